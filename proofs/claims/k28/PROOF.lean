import PyProof.Rows.All
import Wide.All
import OpenK.AllK
import Wide.FinOn
import Lean
import PyProof.EqAt
import PyProof.EqKinds
import PyProof.TupleCall
import KE.KLam
import PySem.Challenge.RW_stairrooms_k28_whole_forward
set_option Elab.async false
namespace PySem.W.Fast
def tw7394562041461243504:=0
def tw11671557608551167819:=0
def tw11497133490607986032:=0
def tw1527724585720015947:=0
def tw9478813727029378433:=0
def tw14065616476424525896:=0
def tw11258306804293243132:=0
def tw18409688046743377292:=0
def tw2325016921888508853:=0
def tw1460478622569836974:=0
def tw16098950905546674470:=0
def tw7956301941440062040:=0
def tw17008175431254122418:=0
def tw13941111111478842134:=0
def tw13814131451427507189:=0
def tw8009603101237052504:=0
def tw6539857703671316003:=0
def tw17729564300890611173:=0
def tw15620763782691753445:=0
def tw4918694162171632466:=0
def tw4769826392853288355:=0
def tw6340304130596135008:=0
def tw3501889831259424984:=0
def tw9591621326534694922:=0
def tw3096949930750721708:=0
def tw16291882091215157828:=0
def tw11655376856063916228:=0
def tw13587432420489492189:=0
def tw10154314827766144001:=0
def tw8338600121835276020:=0
def tw12323772569751236006:=0
def tw5950158449063615346:=0
def tw14800109303040266240:=0
def tw4090099033456441411:=0
def tw13021086612755893400:=0
def tw6787905781562076304:=0
def tw17644514534155135092:=0
def tw17104333970416622323:=0
def tw15786528573266890262:=0
def tw15414259988211055499:=0
def tw590611807225418770:=0
def tw447717403241242290:=0
def tw13786455662358949411:=0
def tw12664327836493813462:=0
def tw4672492687276399408:=0
def tw4256779784062091372:=0
def tw3830783680494933951:=0
def tw17690871460500525271:=0
def tw15831574140416324556:=0
def tw12441502783428931068:=0
def tw11365700717142005424:=0
def tw11362101791794971524:=0
def tw10846541316933110243:=0
def tw1057306937073154610:=0
def tw7897135418779063302:=0
def tw2904058922640873309:=0
def tw1921160878016633958:=0
def tw179189376934874584:=0
def tw1488503510874697304:=0
def tw13809386149585982481:=0
def tw9816307224394526710:=0
def tw7750769465160294860:=0
def tw3121732170634265723:=0
def tw1847224927995124329:=0
def tw14419318313112166178:=0
def tw13573848267779960677:=0
def tw11040902395418374828:=0
def tw9119751986894142981:=0
def tw5920227957080817638:=0
def tw5581349078452510653:=0
def tw4869967250276580588:=0
def tw397431815971221653:=0
def tw3797301031838899788:=0
def tw17076493798685594974:=0
def tw15829181571673270705:=0
def tw14397947794671477899:=0
def tw11892039915525360660:=0
def tw9254883793231693245:=0
def tw2780415966309772251:=0
def tw18066811921283522515:=0
def tw17238752558760652402:=0
def tw16408023001231065620:=0
def tw9578026534446552097:=0
def tw8487562230406468105:=0
def tw5861546300858528307:=0
def tw456031100195234908:=0
def tw4488003136180807592:=0
def tw2567624805475646970:=0
def tw16221219022901355867:=0
def tw13788262537284159298:=0
def tw11364142691922409913:=0
def tw11282886037220131173:=0
def tw10769681086646498438:=0
def tw10150324261921262226:=0
def tw902582806634263858:=0
def tw7875707854763748492:=0
def tw4997450903056089975:=0
def tw1682181479755940848:=0
def tw15186367229040268510:=0
def tw15003257448840769609:=0
def tw14867130098325134529:=0
def tw14849095896601040367:=0
def tw10698238366409207256:=0
def tw10053539800044614232:=0
def tw9878173891806150429:=0
def tw9337504207740955038:=0
def tw3258786278723069861:=0
def tw2313535712752964479:=0
def tw17438179399263098937:=0
def tw1703860651114587486:=0
def tw16835956152608702361:=0
def tw1677638050960967886:=0
def tw12996499756298277263:=0
def tw7341270039093922885:=0
def tw7134983793405793177:=0
def tw7115244209674446852:=0
def tw5140171473248983199:=0
def tw4532786408525356839:=0
def tw4337561567144917162:=0
def tw4138905410403352593:=0
def tw3866599564448483793:=0
def tw3855077825024126993:=0
def tw3220723017206680370:=0
def tw1980078614172103820:=0
def tw18334927389422029420:=0
def tw18032779900021213040:=0
def tw17375602352810135561:=0
def tw16840622159041910090:=0
def tw16477329177891185698:=0
def tw15565656631415577005:=0
def tw14775263502782431712:=0
def tw14670137783204244808:=0
def tw14635225500592789833:=0
def tw1428814744893504695:=0
def tw14221475358252599964:=0
def tw1382559312744143635:=0
def tw12357872333080808881:=0
def tw11801650391622900179:=0
def tw11687504721054253588:=0
def tw11339562753883754242:=0
def tw1069010634818593453:=0
def tw5425565988235752197:=0
def tw3268437569422444630:=0
def tw3182821167057557991:=0
def tw3104486758596841148:=0
def tw18324572440802094995:=0
def tw18127141830633905074:=0
def tw17843839365795533554:=0
def tw15641575440650329080:=0
def tw11971130579796114034:=0
def tw1073818698688927204:=0
def tw8783073200307453229:=0
def tw8340926499216404060:=0
def tw762384175361060421:=0
def tw5819105399919881484:=0
def tw5295854211047901153:=0
def tw4933930183700603765:=0
def tw4797132809794432123:=0
def tw2122511160286549640:=0
def tw1856151083423349262:=0
def tw17584191335013195612:=0
def tw17415715754555401154:=0
def tw1637453852661378490:=0
def tw15529604674929473973:=0
def tw14832175709080873599:=0
def tw14793259975867257014:=0
def tw11858878876565515630:=0
def tw11788803944947964044:=0
def tw11137535781475439334:=0
def tw9749810874003056045:=0
def tw7627118995241731642:=0
def tw6158425238486604569:=0
def tw17925923492730016652:=0
def tw17002439396945247550:=0
def tw16964212798373946863:=0
def tw12261729195969336472:=0
def tw119674054762100072:=0
def tw9281662355237421915:=0
def tw912290570786946579:=0
def tw8755266905418455375:=0
def tw8568187914498332850:=0
def tw8562296191053873827:=0
def tw8186763794367992775:=0
def tw8184033042858750843:=0
def tw8147721191793257292:=0
def tw8143298780573084396:=0
def tw8035931760809384120:=0
def tw7863108119856694670:=0
def tw7539763571100840771:=0
def tw7176572640101177836:=0
def tw6658185936689682968:=0
def tw6393150591798677637:=0
def tw6093179522131556990:=0
def tw6008010531490865865:=0
def tw5956051100702781606:=0
def tw5010354932100547165:=0
def tw477595423994022719:=0
def tw4566636315000093172:=0
def tw439055297870408345:=0
def tw4169430970946328830:=0
def tw3975676623463710300:=0
def tw3711776433476670718:=0
def tw3415376743198261602:=0
def tw3017139974649574989:=0
def tw3008007984704827758:=0
def tw2696157109874119690:=0
def tw193794278739742225:=0
def tw1901317781093569649:=0
def tw18438895364323578133:=0
def tw18207201711260066481:=0
def tw17994301212061070119:=0
def tw17843169823834903998:=0
def tw17694846207451314135:=0
def tw17423125552162021742:=0
def tw17405974757215459542:=0
def tw17405045028177135956:=0
def tw1735571389945239771:=0
def tw16988158499489311127:=0
def tw16826725409987885975:=0
def tw16669810761675009345:=0
def tw16575673167688372683:=0
def tw16245695487900975421:=0
def tw15968237232650601322:=0
def tw15924826414491783191:=0
def tw15860708213811878519:=0
def tw15856698116174445793:=0
def tw15732654264858244716:=0
def tw15729792075999087868:=0
def tw156604256827902990:=0
def tw15438610589593914328:=0
def tw15415030129712708594:=0
def tw15291515778787918541:=0
def tw15104015179872336855:=0
def tw14977234088687162302:=0
def tw14905269560852764671:=0
def tw1488474676173749703:=0
def tw14836224472968703893:=0
def tw14650229311272632197:=0
def tw14585778381282314952:=0
def tw14340102595692017195:=0
def tw13817142068744991791:=0
def tw13769731409856085057:=0
def tw13385619842731796546:=0
def tw13135487405686255751:=0
def tw12993445975515111361:=0
def tw12678953225602555564:=0
def tw12340981958623863397:=0
def tw119775208399524090:=0
def tw11787554532782738252:=0
def tw11665305186481523908:=0
def tw11646202046503260017:=0
def tw11296645311156999791:=0
def tw10785498421680218836:=0
def tw10276969695076772373:=0
def tw10121643642846045468:=0
def tw9602979466950630956:=0
def tw8777541643666118068:=0
def tw8572175281459272771:=0
def tw8444893750286939596:=0
def tw8125407811402774585:=0
def tw684210181549580303:=0
def tw5096499008420852698:=0
def tw3612554134655720397:=0
def tw2217001567337907910:=0
def tw2093290091728733057:=0
def tw18038851775406917655:=0
def tw17831088686795452451:=0
def tw17795394019121955329:=0
def tw16924412733494049589:=0
def tw16821967185522334815:=0
def tw16283258727396688951:=0
def tw16219145617115034907:=0
def tw15945904282836308387:=0
def tw14415884991196681418:=0
def tw13746588304753895505:=0
def tw11701492411309977178:=0
def tw11644868132232139897:=0
def tw11560677996495128784:=0
def tw10095913671755900038:=0
def tw9930359092145622687:=0
def tw9834661911540460081:=0
def tw9590536906216307355:=0
def tw9248597171148506525:=0
def tw9002392303285804385:=0
def tw8890220073126293310:=0
def tw8770029601138628478:=0
def tw8089249423132065445:=0
def tw8039774922555296384:=0
def tw8037652997034423971:=0
def tw800831887125934919:=0
def tw7848866751621661257:=0
def tw7552210041123771490:=0
def tw7393957277229836691:=0
def tw7259079589770855615:=0
def tw720755081136891062:=0
def tw7175792842613744815:=0
def tw705330452703051597:=0
def tw6942357351460751399:=0
def tw6714801024506940561:=0
def tw6704578965310311189:=0
def tw6429728187070590260:=0
def tw6252878086273825581:=0
def tw6181847661251503008:=0
def tw6178244272827954729:=0
def tw6169767553621521813:=0
def tw6130821448147606368:=0
def tw5994711959094706394:=0
def tw5821001088122574322:=0
def tw5717963241065829162:=0
def tw5430882940802126740:=0
def tw5350998768358884751:=0
def tw5051596291613938045:=0
def tw5019332986140449700:=0
def tw4977895861229493542:=0
def tw4855646995411632120:=0
def tw4355615645706949100:=0
def tw3725507860900426652:=0
def tw3465091326942903629:=0
def tw343839832772155065:=0
def tw3093781508513788219:=0
def tw2904033067149887106:=0
def tw2801974123689400889:=0
def tw2448602276733661166:=0
def tw2308842233520690658:=0
def tw2248526150547823735:=0
def tw2187499721780371684:=0
def tw2045930578084102194:=0
def tw2020109458520273824:=0
def tw1818218476948158209:=0
def tw18159918767601648018:=0
def tw18027755133952139252:=0
def tw17744632191838401134:=0
def tw17716863462265859512:=0
def tw17645572048654386869:=0
def tw17628590533929976792:=0
def tw17581992280946622230:=0
def tw17571631200592639834:=0
def tw1754243070517289278:=0
def tw17357414001117552268:=0
def tw17218974888202052536:=0
def tw17065142239566038489:=0
def tw16980547499210933930:=0
def tw1691102865124860179:=0
def tw16743919102785911483:=0
def tw16632375998614247822:=0
def tw16507177298177948937:=0
def tw16288524480538194225:=0
def tw16180315334032665911:=0
def tw16176690743668362219:=0
def tw1612923964453859806:=0
def tw15660991250957307376:=0
def tw1536147683505774889:=0
def tw15319796435752655959:=0
def tw15269425654929456476:=0
def tw14931363111589739018:=0
def tw1492062709326496596:=0
def tw14774234679712429206:=0
def tw1465564398378206461:=0
def tw1456095747653818372:=0
def tw14560837491469231475:=0
def tw14322595565739780087:=0
def tw14109453767193502313:=0
def tw14025392896863203041:=0
def tw13841191037290658594:=0
def tw13820470126673855253:=0
def tw13679643304169797691:=0
def tw13501672401922333513:=0
def tw13298203722689827917:=0
def tw13140385074510843379:=0
def tw12679859039530741841:=0
def tw12632963454795662708:=0
def tw12390782021942118942:=0
def tw12296552071639831032:=0
def tw12249993202121903794:=0
def tw12170451868844119946:=0
def tw12124443520851957044:=0
def tw11985937269989024962:=0
def tw11950575282948044451:=0
def tw11612187849094769778:=0
def tw11605670760853518920:=0
def tw11506949944486722818:=0
def tw11166862733661299840:=0
def tw11030641428109492703:=0
def tw10424792985553544811:=0
def tw10263077061500514125:=0
def tw10035081181641441020:=0
end PySem.W.Fast
section
open PySem PySem.W PyProof.Rows
set_option maxRecDepth 100000 in
set_option maxHeartbeats 0 in
open_top My.top for PySem.Challenge.rw_stairrooms_k28_whole_forward
end
set_option linter.all false
set_option maxRecDepth 100000
set_option maxHeartbeats 4000000
open PySem renaming wpAny_bind→EE,wpAny_pure→EF,wpAny_setState_of→FC,wpAny_callSpecial?_slot→FD
open PySem.W renaming Frag→EG
open PySem.Heap renaming get?_push_of_some→EH,get?_push_size→EI,lt_size→EJ
open List renaming length_map→EK,getElem?_eq_getElem→EL,getElem?_map→EM,mem_cons_of_mem→EN,size_toArray→ER,mem_cons_self→ES,getElem?_eq_some_iff→EU,mem_of_getElem?→EV,mem_singleton→EW,mem_cons→E1,map_append→E3,length_append→E4,mem_append→E9,getElem?_append_right→Fb,getElem?_append_left→Fc,getElem_mem→Fd,length_cons→Fe,take_length→Ff,not_mem_nil→Fj,all_eq_true→Fl,any_eq_true→Fm,mem_append_right→Ft,mem_append_left→Fu,replicate→Fv,getElem?_of_mem→Fy,lookup_cons→Fz,length_take→FA,range→FE
open Array renaming length_toList→EO
open PySem.F renaming plainAttrs_list→ET,slot_list_append→E7,type_list_append→E8
open Option renaming map_eq_some_iff→EX,bind_some→Fg
open Int renaming toNat_natCast→EY,toNat_of_nonneg→EZ
open Bool renaming false_ne_true→E2,eq_iff_iff→Fn,and_eq_true→Fo,false_eq_true→Fw
open Nat renaming ne_of_lt→E5,le_refl→E6,lt_of_lt_of_le→Fh,le_trans→Fi,lt_or_ge→Fx
open PySem.Str renaming ofString→Fp
open Option.some renaming inj→Fq
abbrev FF:=@decide_eq_false
abbrev FG:=@decide_eq_true
abbrev FH:=@if_neg
abbrev FI:=@if_pos
noncomputable section
namespace L2
open PySem PySem.Spec PyProof.Rows
abbrev Key:=Sum Int Str
def iC:Key->Value->Bool
 | .inl k,v=>Value.isInt k v
 | .inr x,v=>Value.isStrOf x v
def zq(w:World):Key->Int
 | .inl k=>hashInt k
 | .inr x=>hashStr w x
def fQ:∀{k:Key} {v:Value},iC k v=true->(∃i t,k=Sum.inl i/\v=Value.int i t)\/(∃x t,k=Sum.inr x/\v=Value.str x t)
 | .inl i,v,h=>by obtain⟨t,e⟩:=Value.isInt_shape (k:=i) (v:=v) h;exact .inl ⟨i,t,rfl,e⟩
 | .inr x,v,h=>by obtain⟨t,e⟩:=Value.isStrOf_shape (x:=x) (v:=v) h;exact .inr ⟨x,t,rfl,e⟩
def yP(i:Int)(t:Tok):iC (.inl i) (.int i t)=true:=by simp[iC,Value.isInt]
def xU(x:Str)(t:Tok):iC (.inr x) (.str x t)=true:=by simp[iC,Value.isStrOf]
def Bo(a b:Int):decide ((Sum.inl a:Key)=Sum.inl b)=(a == b):=by
 by_cases e:a=b
 ·subst e;simp
 ·have h:¬(Sum.inl a:Key)=Sum.inl b:=λq=>e (Sum.inl.inj q);rw[FF h];exact(beq_eq_false_iff_ne.mpr e).symm
def CK(a b:Str):decide ((Sum.inr a:Key)=Sum.inr b)=decide (a=b):=by
 by_cases e:a=b
 ·subst e;simp
 ·have h:¬(Sum.inr a:Key)=Sum.inr b:=λq=>e (Sum.inr.inj q);rw[FF h,FF e]
def Dj(a:Int)(b:Str):decide ((Sum.inl a:Key)=Sum.inr b)=false:=FF (λq=>nomatch q)
def EB(a:Str)(b:Int):decide ((Sum.inr a:Key)=Sum.inl b)=false:=FF (λq=>nomatch q)
def ck(prog:Program)(w:World):PySem.KeyKind prog w Key where
 is:=iC
 hash:=zq w
 inj:=λv a b ha hb=>by
  rcases fQ ha with⟨i,t,rfl,rfl⟩|⟨x,t,rfl,rfl⟩
  ·rcases fQ hb with⟨j,u,rfl,e⟩|⟨y,u,rfl,e⟩
   ·injection e with e1 _;rw[e1]
   ·exact nomatch e
  ·rcases fQ hb with⟨j,u,rfl,e⟩|⟨y,u,rfl,e⟩
   ·exact nomatch e
   ·injection e with e1 _;rw[e1]
 byValue:=λk v h=>by rcases fQ h with⟨i,t,rfl,rfl⟩|⟨x,t,rfl,rfl⟩<;>rfl
 pyHash:=λhv h=>by
  rcases fQ hv with⟨i,t,rfl,rfl⟩|⟨x,t,rfl,rfl⟩
  ·exact wpAny_pyHash_int h
  ·exact wpAny_pyHash_str h
 eqBool:=λhu hv h=>by
  rcases fQ hu with⟨i,t,rfl,rfl⟩|⟨x,t,rfl,rfl⟩
  ·rcases fQ hv with⟨j,u,rfl,rfl⟩|⟨y,u,rfl,rfl⟩
   ·rw[Bo]at h;exact wpAny_eqBool_int h
   ·rw[Dj]at h;exact SeqAt.EqAt.int_str i t y u _ _ _ _ h
  ·rcases fQ hv with⟨j,u,rfl,rfl⟩|⟨y,u,rfl,rfl⟩
   ·rw[EB]at h;exact SeqAt.EqAt.str_int x t j u _ _ _ _ h
   ·rw[CK]at h;exact wpAny_eqBool_str h
 «strs»:=λk x t v h=>by
  rcases fQ h with⟨i,u,rfl,e⟩|⟨y,u,rfl,e⟩
  ·exact nomatch e
  ·injection e with e1 _
   subst e1;cases v<;>rfl
def A5(prog:Program)(w:World)(i:Int)(t:Tok):(ck prog w).is (.inl i) (.int i t)=true:=yP i t
def lH(prog:Program)(w:World)(x:Str)(t:Tok):(ck prog w).is (.inr x) (.str x t)=true:=xU x t
inductive V where
 | non|bl (b:Bool)|int (i:Int)|str (x:Str)|byt (b:Array UInt8)|flt (b:UInt64)|ref (a:Addr)|ty (n:String)
 deriving DecidableEq
def RelV:V->Value->Prop
 | .non,u=>u=Value.none
 | .bl b,u=>u=Value.bool b
 | .int i,u=>∃t,u=Value.int i t
 | .str x,u=>∃t,u=Value.str x t
 | .byt b,u=>∃t,u=Value.bytes b t
 | .flt b,u=>∃t,u=Value.float b t
 | .ref a,u=>u=Value.ref a
 | .ty n,u=>u=Value.type n
abbrev Vals:List V->List Value->Prop:=Paired RelV
def Vals.length{xs:List V}{us:List Value}(r:Vals xs us):xs.length=us.length:=Paired.length r
def Vals.get:∀{xs:List V} {us:List Value} {i:Nat} {x:V},Vals xs us->xs[i]?=some x->∃u,us[i]?=some u/\RelV x u
 | _,_,_,_,.nil,e=>by simp at e
 | _,_,0,_,.cons r _,e=>by simp at e;subst e;exact⟨_,rfl,r⟩
 | _,_,i+1,x,.cons _ t,e=>by obtain⟨u,h1,h2⟩:=Vals.get (i:=i) (x:=x) t (by simpa using e);exact⟨u,by simpa using h1,h2⟩
def Vals.set{x:V}{u:Value}(r:RelV x u):∀{xs:List V} {us:List Value} (i:Nat),Vals xs us->Vals (xs.set i x) (us.set i u)
 | _,_,_,.nil=>.nil
 | _,_,0,.cons _ t=>.cons r t
 | _,_,i+1,.cons q t=>.cons q (Vals.set r i t)
def Vals.append:∀{xs ys:List V} {us ws:List Value},Vals xs us->Vals ys ws->Vals (xs++ys) (us++ws)
 | _,_,_,_,.nil,s=>s
 | _,_,_,_,.cons r t,s=>.cons r (Vals.append t s)
def Vals.take:∀{xs:List V} {us:List Value} (n:Nat),Vals xs us->Vals (xs.take n) (us.take n)
 | _,_,0,_=>.nil
 | _,_,_+1,.nil=>.nil
 | _,_,n+1,.cons r t=>.cons r (Vals.take n t)
def Vals.drop:∀{xs:List V} {us:List Value} (n:Nat),Vals xs us->Vals (xs.drop n) (us.drop n)
 | _,_,0,r=>r
 | _,_,_+1,.nil=>.nil
 | _,_,n+1,.cons _ t=>Vals.drop n t
def eO:Option V->Option Value->Prop
 | some v,some u=>RelV v u
 | none,none=>True
 | _,_=>False
def KV{κ:Type}:List (κ×V)->List (κ×Value)->Prop:=Paired λ(p:κ×V) (q:κ×Value)=>p.1=q.1/\RelV p.2 q.2
def kV:Key->V
 | .inl i=>.int i
 | .inr x=>.str x
inductive HO where
 | lst (xs:List V)
 | tup (xs:List V)
 | dK (kvs:List (Key×V))|dT (kvs:List (List Key×V))
 | set (S:Int->Bool) (n:Nat)
 | ins (C dx:Addr) (fs:List (Str×V))
 | own (x:Addr)
 | xd (fs:List (Str×V))
 | met (f x:Addr)
 | rng (lo hi:Int)
 | frz (o:Obj) (u:HO)
 | tbl (ps:Array Value)
 | ext (φ:Heap->Prop)
abbrev Hp:=Addr->Option HO
def upd(H:Hp)(a:Addr)(o:HO):Hp:=λb=>if b=a then some o else H b
def aE{H:Hp}{a:Addr}{o:HO}:upd H a o a=some o:=by unfold upd;rw[FI rfl]
def ay{H:Hp}{a b:Addr}{o:HO}(h:b≠a):upd H a o b=H b:=by unfold upd;rw[FH h]
def bO{H:Hp}{a b:Addr}{o u:HO}(h:H a=some o)(h':H b=some u)(d:o≠u):a≠b:=by intro e;subst e;rw[h]at h';exact d (Fq h')
def cg{H:Hp}{a b:Addr}{o:HO}(h:H a=some o)(h':H b=none):a≠b:=by intro e;subst e;rw[h]at h';cases h'
section
variable (P:Program) (w:World)
def bB(H:Hp)(h:Heap)(a:Addr):HO->Prop
 | .lst xs=>xs.length<=sizeLine/\∃(its:List Value) (n:Nat),Vals xs its/\h.get? a=some { cls:=.type "list",data:=.seq its.toArray n }
 | .tup xs=>xs.length<=sizeLine/\∃its:List Value,Vals xs its/\IsTup h a its.toArray
 | .dK kvs=>kvs.length<=sizeLine/\(a == sysModules)=false/\∃vs,KV kvs vs/\h.DictOf (ck P w) a vs
 | .dT kvs=>kvs.length<=sizeLine/\(a == sysModules)=false/\∃xs:List (List Key×Addr×Value),
   Paired (λ(p:List Key×V) (q:List Key×Addr×Value)=>p.1=q.1/\H q.2.1=some (.tup (p.1.map kV))/\RelV p.2 q.2.2) kvs xs ∧
   ∃o es ep,h.get? a=some o/\o.ExactDict/\o.data=.dict es ep/\es.toList=xs.map (entryOfKey (tupleKind (ck P w)))/\(xs.map (·.1)).Nodup
 | .set S n=>h.SetOf (intKind P w) a S n
 | .ins C dx fs=>H dx=some (.own a)/\fs.length<=1000/\dx≠a/\h.get? a=some (PySem.W.instObj C dx) ∧
   ∃mA,h.Ns1 dx mA/\(∀f,eO (fs.lookup f) (mA f))/\PySem.Within mA (fs.map (·.1))
 | .own _=>∃o,h.get? a=some o
 | .xd fs=>∃mA,h.Ns1 a mA/\∀f,eO (fs.lookup f) (mA f)
 | .rng lo hi=>∃t u v,h.get? a=some { cls:=.type "range",data:=.fields #[.int lo t,.int hi u,.int 1 v] }
 | .frz o u=>h.get? a=some o/\bB H h a u
 | .tbl ps=>h.get? a=some { cls:=.none,data:=.fields ps }
 | .met f x=>h.get? a=some (PySem.W.methodObj (.ref f) (.ref x))
 | .ext φ=>φ h/\(∃o,h.get? a=some o)/\∀h1 h2:Heap,φ h1->(∀o,h1.get? a=some o->h2.get? a=some o)->φ h2
def bp(H:Hp)(h:Heap):Prop:=∀a o,H a=some o->bB P w H h a o
end
section
variable {P:Program} {w:World} {H H':Hp} {h h':Heap} {a:Addr} {o:HO}
def bB.lt(x:bB P w H h a o):a<h.objs.size:=by
 cases o with
 | lst xs=>obtain⟨_,_,_,_,e⟩:=x;exact EJ e
 | tup xs=>obtain⟨_,_,_,p⟩:=x;exact p.lt
 | dK kvs=>obtain⟨_,_,_,_,o,_,_,e,_⟩:=x;exact EJ e
 | dT kvs=>obtain⟨_,_,_,_,o,_,_,e,_⟩:=x;exact EJ e
 | set S n=>obtain⟨o,_,_,_,e,_⟩:=x;exact EJ e
 | ins C dx fs=>obtain⟨_,_,_,e,_⟩:=x;exact EJ e
 | own y=>obtain⟨_,e⟩:=x;exact EJ e
 | xd fs=>obtain⟨_,⟨_,_,_,e,_⟩,_⟩:=x;exact EJ e
 | rng lo hi=>obtain⟨_,_,_,e⟩:=x;exact EJ e
 | frz ob u=>obtain⟨e,_⟩:=x;exact EJ e
 | tbl ps=>exact EJ (show h.get? a=some _ from x)
 | met f y=>exact EJ (show h.get? a=some _ from x)
 | ext φ=>obtain⟨_,⟨_,e⟩,_⟩:=x;exact EJ e
def Paired.mapP{α β:Type}{F G:α->β->Prop}:∀{l₁:List α} {l₂:List β},Paired F l₁ l₂->(∀a b,F a b->G a b)->Paired G l₁ l₂
 | _,_,.nil,_=>.nil
 | _,_,.cons r t,f=>.cons (f _ _ r) (Paired.mapP t f)
def bB.stay(x:bB P w H h a o)(k:∀b u,(b=a\/H b=some (.own a))->h.get? b=some u->h'.get? b=some u)
  (ho:∀b,H b=some (.own a)->H' b=some (.own a)) (ht:∀b xs,H b=some (.tup xs)->H' b=some (.tup xs)):bB P w H' h' a o:=by
 induction o with
 | lst xs=>obtain⟨z,its,n,r,e⟩:=x;exact⟨z,its,n,r,k _ _ (.inl rfl) e⟩
 | tup xs=>obtain⟨z,its,r,ob,e,c⟩:=x;exact⟨z,its,r,ob,k _ _ (.inl rfl) e,c⟩
 | dK kvs=>obtain⟨z,y,vs,r,ob,es,ep,e,c⟩:=x;exact⟨z,y,vs,r,ob,es,ep,k _ _ (.inl rfl) e,c⟩
 | dT kvs=>
  obtain⟨z,y,xs,r,ob,es,ep,e,c⟩:=x;exact⟨z,y,xs,Paired.mapP r λp q z=>⟨z.1,ht _ _ z.2.1,z.2.2⟩,ob,es,ep,k _ _ (.inl rfl) e,c⟩
 | set S n=>obtain⟨ob,es,ep,t,e,c⟩:=x;exact⟨ob,es,ep,t,k _ _ (.inl rfl) e,c⟩
 | ins C dx fs=>
  obtain⟨d,z,ne,e,mA,⟨od,es,ep,e2,c⟩,r⟩:=x;exact⟨ho _ d,z,ne,k _ _ (.inl rfl) e,mA,⟨od,es,ep,k _ _ (.inr d) e2,c⟩,r⟩
 | own y=>obtain⟨ob,e⟩:=x;exact⟨ob,k _ _ (.inl rfl) e⟩
 | xd fs=>obtain⟨mA,⟨od,es,ep,e,c⟩,r⟩:=x;exact⟨mA,⟨od,es,ep,k _ _ (.inl rfl) e,c⟩,r⟩
 | rng lo hi=>obtain⟨t,u,v,e⟩:=x;exact⟨t,u,v,k _ _ (.inl rfl) e⟩
 | frz ob u ih=>obtain⟨e,q⟩:=x;exact⟨k _ _ (.inl rfl) e,ih q⟩
 | tbl ps=>
  have e:h.get? a=some { cls:=.none,data:=.fields ps }:=x;show h'.get? a=some { cls:=.none,data:=.fields ps };exact k a _ (.inl rfl) e
 | met f y=>
  have e:h.get? a=some (PySem.W.methodObj (.ref f) (.ref y)):=x;show h'.get? a=some (PySem.W.methodObj (.ref f) (.ref y));exact k a _ (.inl rfl) e
 | ext φ=>obtain⟨p,⟨o,e⟩,st⟩:=x;exact⟨st _ _ p λo q=>k _ _ (.inl rfl) q,⟨o,k _ _ (.inl rfl) e⟩,st⟩
def bp.lt(x:bp P w H h)(e:H a=some o):a<h.objs.size:=(x a o e).lt
def bp.fresh(x:bp P w H h)(e:h.objs.size<=a):H a=none:=by
 cases q:H a with
 | none=>rfl
 | some u=>exact absurd (Fh (x.lt q) e) (Nat.lt_irrefl _)
def bp.kept(x:bp P w H h)(k:∀b u,h.get? b=some u->h'.get? b=some u):bp P w H h':=λa o e=>
 (x a o e).stay (λb u _ q=>k b u q) (λ_ q=>q) λ_ _ q=>q
def bp.laid(x:bp P w H h)(k:∀b u,h.get? b=some u->h'.get? b=some u)(hp:h.objs.size<=a)(new:bB P w (upd H a o) h' a o):bp P w (upd H a o) h':=λb u e=>by
 have hn:=x.fresh hp;by_cases hb:b=a
 ·subst hb;rw[aE]at e;cases e;exact new
 ·rw[ay hb]at e;exact(x b u e).stay (λc v _ q=>k c v q) (λc q=>by rw[ay (cg q hn)];exact q) λc xs q=>by rw[ay (cg q hn)];exact q
end
def Rd(H:Hp)(a:Addr)(u:HO):Prop:=H a=some u\/∃o,H a=some (.frz o u)
def Rd.ok{P:Program}{w:World}{H:Hp}{h:Heap}{a:Addr}{u:HO}(r:Rd H a u)(x:bp P w H h):bB P w H h a u:=by
 rcases r with r|⟨o,r⟩
 ·exact x a u r
 ·obtain⟨_,q⟩:=x a _ r;exact q
def jE:Option HO->Prop
 | some (.lst _)=>True
 | some (.dK _)=>True
 | some (.dT _)=>True
 | some (.set _ _)=>True
 | some (.ins _ _ _)=>True
 | some (.ext _)=>True
 | _=>False
section
variable {P:Program} {w:World} {H:Hp} {h h':Heap} {x e:Addr} {o':HO}
def bp.write(ok:bp P w H h)(mu:jE (H x))(he:e=x\/H e=some (.own x))(k:∀b u,b≠e->h.get? b=some u->h'.get? b=some u)(heo:∃u,h'.get? e=some u)
  (new:bB P w (upd H x o') h' x o'):bp P w (upd H x o') h':=λb u q=>by
 have nown:∀c y,H c=some (.own y)->c≠x:=λc y r z=>by subst z;rw[r]at mu;exact mu
 have ntup:∀c xs,H c=some (.tup xs)->c≠x:=λc xs r z=>by subst z;rw[r]at mu;exact mu
 by_cases hb:b=x
 ·subst hb;rw[aE]at q;cases q;exact new
 ·rw[ay hb]at q;by_cases hbe:b=e
  ·have q':H b=some (.own x):=by
    rcases he with z|z
    ·exact absurd (hbe.trans z) hb
    ·rw[hbe];exact z
   rw[q]at q';cases q';obtain⟨v,hv⟩:=heo;exact⟨v,by rw[hbe];exact hv⟩
  ·refine(ok b u q).stay (λc v hc r=>k c v ?_ r) (λc r=>by rw[ay (nown c b r)];exact r) λc xs r=>by rw[ay (ntup c xs r)];exact r
   rcases hc with rfl|hc
   ·exact hbe
   ·rintro rfl;rcases he with z|z
    ·exact nown c b hc z
    ·rw[hc]at z;cases z;exact hb rfl
end
structure Un(fs ex:List Addr)(H H':Hp)(h h':Heap):Prop where
 keep:∀b o,h.get? b=some o->H b=none->b∉fs->b∉ex->h'.get? b=some o
 slot:∀b o,h.get? b=some o->H b=none->b∈fs->b∉ex->∃sl,h'.get? b=some { o with slots:=sl }
 free:∀b o,h.get? b=some o->H b=none->b∉ex->H' b=none
 there:∀b o,h.get? b=some o->b∉ex->∃o',h'.get? b=some o'
 tups:∀b xs,H b=some (.tup xs)->H' b=some (.tup xs)
 frzs:∀b o u,H b=some (.frz o u)->H' b=some (.frz o u)
 tbls:∀b ps,H b=some (.tbl ps)->∃more,H' b=some (.tbl (ps++more))
section
variable {fs fs' ex ex':List Addr} {H H1 H2:Hp} {h h1 h2 h':Heap} {a x e:Addr} {o:HO}
def Un.any(u:Un fs ex H H1 h h1){b:Addr}{ob:Obj}(q:h.get? b=some ob)(n:H b=none)(hx:b∉ex):∃sl,h1.get? b=some { ob with slots:=sl }:=by
 by_cases hb:b∈fs
 ·exact u.slot b ob q n hb hx
 ·exact⟨ob.slots,u.keep b ob q n hb hx⟩
def Un.kept(k:∀b u,h.get? b=some u->h'.get? b=some u):Un fs ex H H h h':=
 ⟨λb ob q _ _ _=>k b ob q,λb ob q _ _ _=>⟨ob.slots,k b ob q⟩,λ_ _ _ n _=>n,λb ob q _=>⟨ob,k b ob q⟩,λ_ _ q=>q,λ_ _ _ q=>q,λ_ ps q=>⟨#[],by rw[q];simp⟩⟩
def Un.refl:Un fs ex H H h h:=Un.kept λ_ _ q=>q
def Un.laid(k:∀b u,h.get? b=some u->h'.get? b=some u)(hp:h.objs.size<=a)(hn:H a=none):Un fs ex H (upd H a o) h h' where
 keep:=λb u q _ _ _=>k b u q
 slot:=λb u q _ _ _=>⟨u.slots,k b u q⟩
 free:=λb u q n _=>by rw[ay (E5 (Fh (EJ q) hp))];exact n
 there:=λb u q _=>⟨u,k b u q⟩
 tups:=λb xs q=>by rw[ay (cg q hn)];exact q
 frzs:=λb u xs q=>by rw[ay (cg q hn)];exact q
 tbls:=λb ps q=>⟨#[],by rw[ay (cg q hn),q];simp⟩
def Un.write(mu:jE (H x))(he:e=x\/H e=some (.own x))(k:∀b u,b≠e->h.get? b=some u->h'.get? b=some u)(heo:∃u,h'.get? e=some u):Un fs ex H (upd H x o) h h':=by
 have hx:∀b,H b=none->b≠x:=λb n z=>by subst z;rw[n]at mu;exact mu
 have hb:∀b,H b=none->b≠e:=λb n z=>by
  subst z;rcases he with r|r
  ·exact hx b n r
  ·rw[n]at r;cases r
 have hm:∀b u,H b=some u->¬jE (some u)->b≠x:=λb u q nm z=>by subst z;rw[q]at mu;exact nm mu
 refine⟨λb u q n _ _=>k b u (hb b n) q,λb u q n _ _=>⟨u.slots,k b u (hb b n) q⟩,λb u q n _=>by rw[ay (hx b n)];exact n,λb u q _=>?_,
  λb xs q=>by rw[ay (hm b _ q λz=>z)];exact q,λb u xs q=>by rw[ay (hm b _ q λz=>z)];exact q,λb ps q=>⟨#[],by rw[ay (hm b _ q λz=>z),q];simp⟩⟩
 by_cases hbe:b=e
 ·subst hbe;exact heo
 ·exact⟨u,k b u hbe q⟩
end
def kc(h:Heap)(H:Hp):List Addr:=(FE h.objs.size).filter λa=>(H a).isSome
def fk(h:Heap)(H:Hp):Heap:=PySem.W.hideAll h (kc h H)
def AF(h:Heap)(H:Hp):(fk h H).objs.size=h.objs.size:=PySem.W.hideAll_size _ _
def jX{h:Heap}{H:Hp}{b:Addr}{o:Obj}(e:h.get? b=some o)(n:H b=none):(fk h H).get? b=some o:=
 PySem.W.hideAll_get _ e λhm=>by have q:(H b).isSome=true:=(List.mem_filter.mp hm).2;rw[n]at q;simp at q
def An{h:Heap}{H:Hp}{b:Addr}{o:Obj}(e:(fk h H).get? b=some o):h.get? b=some o/\H b=none:=by
 have e':h.get? b=some o:=PySem.W.of_hideAll (kc h H) e;refine⟨e',?_⟩;cases q:H b with
 | none=>rfl
 | some x=>
  have hm:b∈kc h H:=List.mem_filter.mpr ⟨List.mem_range.mpr (EJ e'),by simp[q]⟩;have z:(fk h H).get? b=none:=PySem.W.hideAll_none (kc h H) hm;rw[z]at e;cases e
structure Mod(K:EG)(mg:Str->Option Value)(base:Heap):Prop where
 kin:K.In base
 glob:base.Ns mainGlobals mg
 blt:∃mb,base.Ns builtinsNs mb/\∀x:Str,x≠"__name__"->mb x=bootBuiltins x
 nolimit:base.NoLimit
structure Cx where
 prog:Program
 w:World
 K:EG
 mg:Str->Option Value
 base:Heap
 A:Around
 N:List Str
 s₀:Shared
 H₀:Hp
 env:Env
 outer:List Env
 stack:List Env
 ex:List Addr
 fn:Str->Bool
 calm:Bool
 pn:List (Addr×Obj)
 xe:Value->Shared->Prop
def dg(l:List Env):List Addr:=l.filterMap (·.frame)
abbrev Cx.fs(X:Cx):List Addr:=dg X.outer
def kR(sc:Scope)(x:Str):Prop:=sc.names.lookup x=some .local\/sc.names.lookup x=some .cell\/sc.names.lookup x=some .free
def Loc(sc:Scope)(x:Str):Prop:=sc.names.lookup x=some .local\/sc.names.lookup x=some .cell
def Look(env:Env)(h:Heap)(m:Str->Option Value)(x:Str)(u:Value):Prop:=
 (env.kindOf x=some .local/\m x=some u)\/((env.kindOf x=some .cell\/env.kindOf x=some .free)/\∃c,env.cells.lookup x=some c/\h.IsCell c (some u))
structure Cx.Ok(X:Cx):Prop where
 mod:Mod X.K X.mg X.base
 kind:X.env.scope.kind=.function
 glob:X.env.globals=mainGlobals
 blt:X.env.builtins=builtinsNs
 above:X.s₀.heap.objs.size<=X.env.locals
 inj:∀x y c,X.env.cells.lookup x=some c->X.env.cells.lookup y=some c->x=y
 has:∀x,(X.env.kindOf x=some .cell\/X.env.kindOf x=some .free)->∃c,X.env.cells.lookup x=some c
 cab:∀x c,X.fn x=true->X.env.cells.lookup x=some c->X.s₀.heap.objs.size<=c
 hd:X.calm=true->X.A.handled=none
 frames:X.A.frames=some X.stack
 stk:X.stack=X.outer\/(X.stack=X.env::X.outer/\X.env.frame=some X.env.locals)
 exf:∀b∈X.ex,b≠X.env.locals/\∀x c,X.env.cells.lookup x=some c->c≠b
 bs:∀b o,X.base.get? b=some o->X.s₀.heap.get? b=some o/\X.H₀ b=none
 bsz:X.base.objs.size<=X.s₀.heap.objs.size
 noex:∀b o,X.base.get? b=some o->b∉X.ex
 exfs:∀b∈X.ex,b∉X.fs
 funs:X.s₀.heap.FunFrames X.base X.outer
 frf:∀b∈X.fs,X.H₀ b=none
structure Inv(X:Cx)(pins:List (Addr×Obj))(σ:List (Option V))(H:Hp)(s:Shared):Prop where
 ok:X.Ok
 os:s.os=X.s₀.os
 bare:AllBare s.gens
 base:Un X.fs X.ex X.H₀ H X.s₀.heap s.heap
 loc:∃m,s.heap.Ns X.env.locals m/\∀(i:Nat) (x:Str) (v:V),X.N[i]?=some x->σ[i]?=some (some v)->kR X.env.scope x->∃u,RelV v u/\Look X.env s.heap m x u
 cell:∀x c,X.env.cells.lookup x=some c->∃v,s.heap.IsCell c v
 free:H X.env.locals=none
 freeC:∀x c,X.env.cells.lookup x=some c->H c=none
 pin:∀p∈X.pn++pins,s.heap.get? p.1=some p.2/\H p.1=none/\p.1≠X.env.locals/\p.1∉X.fs/\∀v,p.2.data≠.cell v
 hok:bp X.prog X.w H s.heap
 len:σ.length=X.N.length
section
variable {X:Cx} {pins:List (Addr×Obj)} {σ:List (Option V)} {H H':Hp} {s:Shared} {h':Heap}
def Cx.Ok.nofr(ok:X.Ok){b:Addr}{o:Obj}(e:X.base.get? b=some o):b∉X.fs:=λhb=>by have:=(ok.funs.mem hb).1;rw[e]at this;cases this
def Inv.bs(I:Inv X pins σ H s):∀b o,X.base.get? b=some o->s.heap.get? b=some o/\H b=none:=λb o e=>
 ⟨I.base.keep b o (I.ok.bs b o e).1 (I.ok.bs b o e).2 (I.ok.nofr e) (I.ok.noex b o e),I.base.free b o (I.ok.bs b o e).1 (I.ok.bs b o e).2 (I.ok.noex b o e)⟩
def Inv.bk(I:Inv X pins σ H s):∀b o,X.base.get? b=some o->s.heap.get? b=some o:=λb o e=>(I.bs b o e).1
def Inv.mod(I:Inv X pins σ H s):Mod X.K X.mg X.base:=I.ok.mod
def Inv.kIn(I:Inv X pins σ H s):X.K.In s.heap:=I.ok.mod.kin.keeps I.bk
def Inv.lt(I:Inv X pins σ H s):X.env.locals<s.heap.objs.size:=let ⟨_,hn,_⟩:=I.loc;hn.lt
def Inv.sz(I:Inv X pins σ H s):X.s₀.heap.objs.size<=s.heap.objs.size:=Fi I.ok.above (Nat.le_of_lt I.lt)
def Inv.nofs(I:Inv X pins σ H s){a:Addr}(h:s.heap.objs.size<=a):a∉X.fs:=λhb=>by obtain⟨_,o,ho,_⟩:=I.ok.funs.mem hb;exact absurd (Fh (EJ ho) (Fi I.sz h)) (Nat.lt_irrefl _)
def Inv.cne(I:Inv X pins σ H s):∀x c,X.env.cells.lookup x=some c->c≠X.env.locals:=λx c e z=>by obtain⟨v,o,ho,hd⟩:=I.cell x c e;obtain⟨m,⟨o',es,ep,ho',hd',_⟩,_⟩:=I.loc;rw[z,ho']at ho;cases ho;rw[hd']at hd;cases hd
def Inv.funs(I:Inv X pins σ H s):s.heap.FunFrames X.base X.outer:=by
 have all:∀(l:List Env),(∀b∈dg l,b∈X.fs)->X.s₀.heap.FunFrames X.base l->s.heap.FunFrames X.base l:=by
  intro l;induction l with
  | nil=>intro _ _;trivial
  | cons env r ih=>
   intro hs hl;obtain⟨hk,⟨L,o,hf,hn,ho,hd⟩,hr⟩:=hl;have hL:L∈X.fs:=hs L (by unfold dg;rw[List.filterMap_cons,hf];exact ES);obtain⟨sl,e⟩:=I.base.slot L o ho (I.ok.frf L hL) hL λz=>I.ok.exfs L z hL;exact⟨hk,⟨L,_,hf,hn,e,hd⟩,ih (λb hb=>hs b (by unfold dg;rw[List.filterMap_cons,hf];exact EN _ hb)) hr⟩
 exact all X.outer (λ_ hb=>hb) I.ok.funs
def Inv.stack(I:Inv X pins σ H s):s.heap.FunFrames X.base X.stack:=by
 rcases I.ok.stk with e|⟨e,hf⟩
 ·rw[e];exact I.funs
 ·rw[e];obtain⟨m,hn,_⟩:=I.loc;refine .cons (by rw[I.ok.kind];decide) hf hn ?_ I.funs;exact Heap.get?_none_of_le (Fi I.ok.bsz I.ok.above)
def Inv.stkSub(I:Inv X pins σ H s):∀b∈dg X.stack,b∈X.env.locals::X.fs:=λb hb=>by
 rcases I.ok.stk with e|⟨e,hf⟩
 ·rw[e]at hb;exact EN _ hb
 ·rw[e]at hb;unfold dg at hb;rw[List.filterMap_cons,hf]at hb;exact hb
def Inv.stkFree(I:Inv X pins σ H s):∀b∈dg X.stack,H b=none:=λb hb=>by
 rcases E1.mp (I.stkSub b hb)with e|hb
 ·rw[e];exact I.free
 ·obtain⟨_,o,ho,_⟩:=I.ok.funs.mem hb;exact I.base.free b o ho (I.ok.frf b hb) λz=>I.ok.exfs b z hb
def Inv.step{g':Array GenState}{t':Nat}{d':Drawn}{ch:List Addr}(I:Inv X pins σ H s)
  (hch:∀b∈ch,(b∈X.ex\/X.s₀.heap.objs.size<=b)/\b≠X.env.locals/\(∀x c,X.env.cells.lookup x=some c->c≠b)/\∀p∈X.pn++pins,p.1≠b)
  (keep:∀b o,b≠X.env.locals->b∉X.fs->b∉ch->s.heap.get? b=some o->H b=none->h'.get? b=some o)
  (slot:∀b o,b≠X.env.locals->b∈X.fs->b∉ch->s.heap.get? b=some o->H b=none->∃sl,h'.get? b=some { o with slots:=sl }) (free:∀b o,b∉ch->s.heap.get? b=some o->H b=none->H' b=none)
  (there:∀b o,b∉ch->s.heap.get? b=some o->∃o',h'.get? b=some o')
  (tups:∀b xs,H b=some (.tup xs)->H' b=some (.tup xs)) (frzs:∀b o u,H b=some (.frz o u)->H' b=some (.frz o u)) (tbls:∀b ps,H b=some (.tbl ps)->∃more,H' b=some (.tbl (ps++more)))
  (ns:∀m,s.heap.Ns X.env.locals m->h'.Ns X.env.locals m) (hok:bp X.prog X.w H' h') (hg:AllBare g') :
  Inv X pins σ H' { s with heap:=h',gens:=g',drawn:=d',toks:=t' }:=by
 have neL:∀b o,X.s₀.heap.get? b=some o->b≠X.env.locals:=λb o e=>E5 (Fh (EJ e) I.ok.above);have neC:∀b o,X.s₀.heap.get? b=some o->b∉X.ex->b∉ch:=λb o e hx hb=>by
  rcases(hch b hb).1 with z|z
  ·exact hx z
  ·exact absurd (Fh (EJ e) z) (Nat.lt_irrefl _)
 have cellK:∀x c,X.env.cells.lookup x=some c->∀v,s.heap.IsCell c v->h'.IsCell c v:=λx c e v ⟨o,ho,hd⟩=>by
  have nch:c∉ch:=λz=>(hch c z).2.2.1 x c e rfl;by_cases hc:c∈X.fs
  ·obtain⟨sl,q⟩:=slot c o (I.cne x c e) hc nch ho (I.freeC x c e);exact⟨_,q,hd⟩
  ·exact⟨o,keep c o (I.cne x c e) hc nch ho (I.freeC x c e),hd⟩
 refine⟨I.ok,I.os,hg,⟨λb o e n hb hx=>?_,λb o e n hb hx=>?_,λb o e n hx=>?_,λb o e hx=>?_,λb xs e=>tups b xs (I.base.tups b xs e),λb o xs e=>frzs b o xs (I.base.frzs b o xs e),λb ps e=>?_⟩,?_,λx c e=>?_,?_,λx c e=>?_,λp hp=>?_,hok,I.len⟩
 ·exact keep b o (neL b o e) hb (neC b o e hx) (I.base.keep b o e n hb hx) (I.base.free b o e n hx)
 ·obtain⟨sl,e1⟩:=I.base.slot b o e n hb hx;obtain⟨sl',e2⟩:=slot b _ (neL b o e) hb (neC b o e hx) e1 (I.base.free b o e n hx);exact⟨sl',e2⟩
 ·obtain⟨o',e1⟩:=I.base.there b o e hx;exact free b o' (neC b o e hx) e1 (I.base.free b o e n hx)
 ·obtain⟨o',e1⟩:=I.base.there b o e hx;exact there b o' (neC b o e hx) e1
 ·obtain⟨m1,e1⟩:=I.base.tbls b ps e;obtain⟨m2,e2⟩:=tbls b _ e1;exact⟨m1++m2,by rw[e2,Array.append_assoc]⟩
 ·obtain⟨m,hn,hl⟩:=I.loc;refine⟨m,ns m hn,λi x v e1 e2 e3=>?_⟩;obtain⟨u,r,l⟩:=hl i x v e1 e2 e3;refine⟨u,r,?_⟩;rcases l with l|⟨k,c,e,z⟩
  ·exact .inl l
  ·exact .inr ⟨k,c,e,cellK x c e _ z⟩
 ·obtain⟨v,z⟩:=I.cell x c e;exact⟨v,cellK x c e v z⟩
 ·obtain⟨m,⟨o,_,_,ho,_⟩,_⟩:=I.loc;exact free _ o (λz=>(hch _ z).2.1 rfl) ho I.free
 ·obtain⟨v,o,ho,hd⟩:=I.cell x c e;exact free c o (λz=>(hch c z).2.2.1 x c e rfl) ho (I.freeC x c e)
 ·obtain⟨e,n,ne,nf,d⟩:=I.pin p hp;have nch:p.1∉ch:=λz=>(hch p.1 z).2.2.2 p hp rfl;exact⟨keep p.1 p.2 ne nf nch e n,free p.1 p.2 nch e n,ne,nf,d⟩
def Inv.un{t':Nat}(I:Inv X pins σ H s)(u:Un X.fs [] H H' s.heap h')(hok:bp X.prog X.w H' h'):Inv X pins σ H' { s with heap:=h',toks:=t' }:=by
 obtain⟨m,⟨o,es,ep,ho,r⟩,_⟩:=id I.loc;obtain⟨sl,hL⟩:=u.any ho I.free (by simp);exact I.step (g':=s.gens) (d':=s.drawn) (ch:=[]) (λ_ z=>nomatch z) (λb o _ hb _ e n=>u.keep b o e n hb (by simp)) (λb o _ hb _ e n=>u.slot b o e n hb (by simp)) (λb o _ e n=>u.free b o e n (by simp)) (λb o _ e=>u.there b o e (by simp)) u.tups u.frzs u.tbls (λm' hm=>by obtain⟨o',es',ep',ho',r'⟩:=hm;rw[ho]at ho';cases ho';exact⟨_,es',ep',hL,r'⟩) hok I.bare
def Inv.call{g':Array GenState}{t':Nat}{d':Drawn}{ch:List Addr}(I:Inv X pins σ H s)(u:Un (dg X.stack) ch H H' s.heap h')(hok:bp X.prog X.w H' h')(hg:AllBare g')
  (hch:∀b∈ch,(b∈X.ex\/X.s₀.heap.objs.size<=b)/\b≠X.env.locals/\(∀x c,X.env.cells.lookup x=some c->c≠b)/\∀p∈X.pn++pins,p.1≠b) :
  Inv X pins σ H' { s with heap:=h',gens:=g',drawn:=d',toks:=t' }:=by
 obtain⟨m,⟨o,es,ep,ho,r⟩,_⟩:=id I.loc;obtain⟨sl,hL⟩:=u.any ho I.free λz=>(hch _ z).2.1 rfl;exact I.step (ch:=ch) hch (λb o hL hb hc e n=>u.keep b o e n (λz=>(E1.mp (I.stkSub b z)).elim hL hb) hc) (λb o _ _ hc e n=>u.any e n hc) (λb o hc e n=>u.free b o e n hc) (λb o hc e=>u.there b o e hc) u.tups u.frzs u.tbls (λm' hm=>by obtain⟨o',es',ep',ho',r'⟩:=hm;rw[ho]at ho';cases ho';exact⟨_,es',ep',hL,r'⟩) hok hg
def Inv.turned{t':Nat}{it:Addr}(I:Inv X pins σ H s)(k:∀b o,b≠it->s.heap.get? b=some o->h'.get? b=some o)(hn:H it=none)(hL:it≠X.env.locals)
  (h1:it∈X.ex\/X.s₀.heap.objs.size<=it) (h2:∀x c,X.env.cells.lookup x=some c->c≠it) (h3:∀p∈X.pn++pins,p.1≠it):Inv X pins σ H { s with heap:=h',toks:=t' }:=by
 have nit:∀b u,H b=some u->b≠it:=λb u e z=>by rw[z,hn]at e;cases e
 refine I.step (g':=s.gens) (d':=s.drawn) (ch:=[it]) (λb hb=>?_) (λb o _ _ hc e _=>k b o (λz=>hc (by simp[z])) e) (λb o _ _ hc e _=>⟨o.slots,k b o (λz=>hc (by simp[z])) e⟩) (λ_ _ _ _ n=>n)
  (λb o hc e=>⟨o,k b o (λz=>hc (by simp[z])) e⟩) (λ_ _ e=>e) (λ_ _ _ e=>e) (λb ps e=>⟨#[],by rw[e];simp⟩) (λm hm=>?_) (λb u e=>?_) I.bare
 ·have e:b=it:=by simpa using hb
  subst e;exact⟨h1,hL,h2,h3⟩
 ·obtain⟨o,es,ep,ho,r⟩:=hm;exact⟨o,es,ep,k _ o (Ne.symm hL) ho,r⟩
 ·refine(I.hok b u e).stay (λc v hc q=>k c v ?_ q) (λ_ q=>q) λ_ _ q=>q;rcases hc with z|z
  ·rw[z];exact nit b u e
  ·exact nit c _ z
def Inv.tok(I:Inv X pins σ H s)(t:Nat):Inv X pins σ H { s with toks:=t }:=I.un (h':=s.heap) (t':=t) Un.refl I.hok
def Inv.kept{t':Nat}(I:Inv X pins σ H s)(k:∀b u,s.heap.get? b=some u->h'.get? b=some u):Inv X pins σ H { s with heap:=h',toks:=t' }:=I.un (Un.kept k) (I.hok.kept k)
def Inv.laid{a:Addr}{o:HO}{t':Nat}(I:Inv X pins σ H s)(k:∀b u,s.heap.get? b=some u->h'.get? b=some u)(hp:s.heap.objs.size<=a)(new:bB X.prog X.w (upd H a o) h' a o):
  Inv X pins σ (upd H a o) { s with heap:=h',toks:=t' }:=I.un (Un.laid k hp (I.hok.fresh hp)) (I.hok.laid k hp new)
def Inv.write{x e:Addr}{o:HO}{t':Nat}(I:Inv X pins σ H s)(mu:jE (H x))(he:e=x\/H e=some (.own x))(k:∀b u,b≠e->s.heap.get? b=some u->h'.get? b=some u)(heo:∃u,h'.get? e=some u)
  (new:bB X.prog X.w (upd H x o) h' x o):Inv X pins σ (upd H x o) { s with heap:=h',toks:=t' }:=I.un (Un.write mu he k heo) (I.hok.write mu he k heo new)
def Inv.pins_of{pins':List (Addr×Obj)}(I:Inv X pins σ H s)(h:∀p∈pins',s.heap.get? p.1=some p.2/\H p.1=none/\p.1≠X.env.locals/\p.1∉X.fs/\∀v,p.2.data≠.cell v):Inv X pins' σ H s:=
 ⟨I.ok,I.os,I.bare,I.base,I.loc,I.cell,I.free,I.freeC,λp hp=>(E9.mp hp).elim (λz=>I.pin p (Fu _ z)) (h p),I.hok,I.len⟩
def vk{N:List Str}(hN:N.Nodup){i j:Nat}{x:Str}(a:N[i]?=some x)(b:N[j]?=some x):i=j:=by obtain⟨h1,e1⟩:=EU.mp a;obtain⟨h2,e2⟩:=EU.mp b;exact(List.getElem_inj hN).mp (e1.trans e2.symm)
def vm{M:Model}{A:Around}{E:Value->Shared->Prop}{i:Nat}{x:Str}{v:V}{u:Value}{Q:Unit->Shared->Prop}(I:Inv X pins σ H s)(hN:X.N.Nodup)(hi:X.N[i]?=some x)(hx:Loc X.env.scope x)(r:RelV v u)
  (h:∀s',Inv X pins (σ.set i (some v)) H s'->(∃a,Heap.SameBut a s.heap s'.heap/\(a=X.env.locals\/X.env.cells.lookup x=some a))->Q () s') (hf:X.fn x=true\/X.env.scope.names.lookup x=some .local:=by first|exact .inl rfl|exact .inr rfl|assumption):wpAny M A (storeName X.env x u) Q E s:=by
 obtain⟨m,hn,hl⟩:=id I.loc;have hcls:(X.env.scope.kind == .class || (X.env.scope.kind == .module && X.env.locals != X.env.globals))=false:=by rw[I.ok.kind];rfl
 have hiσ:i<σ.length:=by rw[I.len];exact(EU.mp hi).1
 have cne:=I.cne;have tracked:∀{a:Addr} {h':Heap},(∃o,s.heap.get? a=some o/\H a=none)->Heap.SameBut a s.heap h'->bp X.prog X.w H h':=λ{a h'} ha hs b ob e=>by
  obtain⟨_,_,hfree⟩:=ha;refine(I.hok b ob e).stay (λc w' hc q=>(hs.2 c ?_).trans q) (λ_ q=>q) λ_ _ q=>q;rintro rfl;rcases hc with rfl|hc
  ·rw[hfree]at e;cases e
  ·rw[hfree]at hc;cases hc
 rcases hx with hk|hk
 ·refine wpAny_storeName_local hk hn (λh' hn' hs=>?_) hcls;obtain⟨oL,_,_,hoL,_⟩:=id hn;refine h _ ⟨I.ok,I.os,I.bare,⟨λb o e n hb hx=>?_,λb o e n hb hx=>?_,I.base.free,λb o e hx=>?_,I.base.tups,I.base.frzs,I.base.tbls⟩,⟨_,hn',λj y v' e1 e2 e3=>?_⟩,λy c e=>?_,I.free,I.freeC,λp hp=>?_,tracked ⟨oL,hoL,I.free⟩ hs,by simpa using I.len⟩ ⟨_,hs,.inl rfl⟩
  ·exact(hs.2 b (E5 (Fh (EJ e) I.ok.above))).trans (I.base.keep b o e n hb hx)
  ·obtain⟨sl,e1⟩:=I.base.slot b o e n hb hx;exact⟨sl,(hs.2 b (E5 (Fh (EJ e) I.ok.above))).trans e1⟩
  ·obtain⟨o',e1⟩:=I.base.there b o e hx;exact⟨o',(hs.2 b (E5 (Fh (EJ e) I.ok.above))).trans e1⟩
  ·by_cases hj:j=i
   ·subst hj;rw[hi]at e1;cases e1;rw[List.getElem?_set_self hiσ]at e2;cases e2;exact⟨u,r,.inl ⟨hk,by simp⟩⟩
   ·rw[List.getElem?_set_ne (Ne.symm hj)]at e2;obtain⟨u',r',q⟩:=hl j y v' e1 e2 e3;refine⟨u',r',?_⟩;rcases q with⟨k,e⟩|⟨k,c,e,z⟩
    ·refine .inl ⟨k,?_⟩;have:y≠x:=λe=>hj (vk hN e1 (e ▸ hi));simp[this,e]
    ·exact .inr ⟨k,c,e,z.sameBut hs (cne y c e)⟩
  ·obtain⟨w',z⟩:=I.cell y c e;exact⟨w',z.sameBut hs (cne y c e)⟩
  ·obtain⟨e,n,ne,nf,d⟩:=I.pin p hp;exact⟨(hs.2 p.1 ne).trans e,n,ne,nf,d⟩
 ·have hfn:X.fn x=true:=by
   rcases hf with z|z
   ·exact z
   ·rw[z]at hk;cases hk
  obtain⟨c,hc⟩:=I.ok.has x (.inl hk);obtain⟨w',z⟩:=I.cell x c hc;refine wpAny_storeName_cell I.ok.kind hk hc z (λh' hc' hs=>?_);obtain⟨oc,hoc,hocd⟩:=id z;refine h { s with heap:=h' } ⟨I.ok,I.os,I.bare,⟨λb o e n hb hx=>?_,λb o e n hb hx=>?_,I.base.free,λb o e hx=>?_,I.base.tups,I.base.frzs,I.base.tbls⟩,⟨m,hn.sameBut hs (Ne.symm (cne x c hc)),λj y v' e1 e2 e3=>?_⟩,λy c' e=>?_,I.free,I.freeC,λp hp=>?_,tracked ⟨oc,hoc,I.freeC x c hc⟩ hs,by simpa using I.len⟩ ⟨c,hs,.inr hc⟩
  ·exact(hs.2 b (E5 (Fh (EJ e) (I.ok.cab x c hfn hc)))).trans (I.base.keep b o e n hb hx)
  ·obtain⟨sl,e1⟩:=I.base.slot b o e n hb hx;exact⟨sl,(hs.2 b (E5 (Fh (EJ e) (I.ok.cab x c hfn hc)))).trans e1⟩
  ·obtain⟨o',e1⟩:=I.base.there b o e hx;exact⟨o',(hs.2 b (E5 (Fh (EJ e) (I.ok.cab x c hfn hc)))).trans e1⟩
  ·by_cases hj:j=i
   ·subst hj;rw[hi]at e1;cases e1;rw[List.getElem?_set_self hiσ]at e2;cases e2;exact⟨u,r,.inr ⟨.inl hk,c,hc,hc'⟩⟩
   ·rw[List.getElem?_set_ne (Ne.symm hj)]at e2;obtain⟨u',r',q⟩:=hl j y v' e1 e2 e3;refine⟨u',r',?_⟩;rcases q with q|⟨k,c',e,z'⟩
    ·exact .inl q
    ·refine .inr ⟨k,c',e,z'.sameBut hs ?_⟩;rintro rfl;exact hj (vk hN e1 (I.ok.inj _ _ _ e hc ▸ hi))
  ·by_cases hcc:c'=c
   ·subst hcc;exact⟨_,hc'⟩
   ·obtain⟨w2,z2⟩:=I.cell y c' e;exact⟨w2,z2.sameBut hs hcc⟩
  ·obtain⟨e,n,ne,nf,d⟩:=I.pin p hp;refine⟨(hs.2 p.1 ?_).trans e,n,ne,nf,d⟩;intro q;rw[q,hoc]at e;have q':oc=p.2:=Fq e;exact d w' (by rw[←q'];exact hocd)
def jt{M:Model}{A:Around}{E:Value->Shared->Prop}{i:Nat}{x:Str}{v:V}{u:Value}{Q:Unit->Shared->Prop}(I:Inv X pins σ H s)(hN:X.N.Nodup)(hi:X.N[i]?=some x)(hx:Loc X.env.scope x)(r:RelV v u)
  (h:∀s',Inv X pins (σ.set i (some v)) H s'->Q () s') (hf:X.fn x=true\/X.env.scope.names.lookup x=some .local:=by first|exact .inl rfl|exact .inr rfl|assumption):wpAny M A (storeName X.env x u) Q E s:=
 vm I hN hi hx r (λs' I' _=>h s' I') hf
def Inv.call'{s':Shared}{ch:List Addr}(I:Inv X pins σ H s)(ho:s'.os=s.os)(u:Un (dg X.stack) ch H H' s.heap s'.heap)(hok:bp X.prog X.w H' s'.heap)(hg:AllBare s'.gens)
  (hch:∀b∈ch,(b∈X.ex\/X.s₀.heap.objs.size<=b)/\b≠X.env.locals/\(∀x c,X.env.cells.lookup x=some c->c≠b)/\∀p∈X.pn++pins,p.1≠b):Inv X pins σ H' s':=by
 obtain⟨h',g',d',t',o'⟩:=s';have e:o'=s.os:=ho;subst e;exact I.call (g':=g') (t':=t') (d':=d') u hok hg hch
end
abbrev XK:=Value->Option Addr->Hp->Prop
abbrev St:=List (Option V)
abbrev VK:=V->Hp->Prop
abbrev TE:=St->Hp->VK->Prop
abbrev TT:=St->Hp->(Bool->Hp->Prop)->Prop
abbrev TA:=St->Hp->(List V->Hp->Prop)->Prop
structure Ends where
 nx:St->Hp->Prop
 rt:VK
 bk:St->Hp->Prop:=λ_ _=>False
 ct:St->Hp->Prop:=λ_ _=>False
abbrev TS:=Ends->St->Hp->Prop
def EP(X:Cx)(pins:List (Addr×Obj))(σ:St)(Q:VK)(u:Value)(s':Shared):Prop:=∃v H',Inv X pins σ H' s'/\RelV v u/\Q v H'
def TP(X:Cx)(pins:List (Addr×Obj))(σ:St)(Q:Bool->Hp->Prop)(b:Bool)(s':Shared):Prop:=∃H',Inv X pins σ H' s'/\Q b H'
def AP(X:Cx)(pins:List (Addr×Obj))(σ:St)(Q:List V->Hp->Prop)(us:List Value)(s':Shared):Prop:=∃vs H',Inv X pins σ H' s'/\Vals vs us/\Q vs H'
def SP(X:Cx)(pins:List (Addr×Obj))(D:Ends)(f:Flow)(s':Shared):Prop:=
 match f with
 | .next=>∃σ' H',Inv X pins σ' H' s'/\D.nx σ' H'
 | .brk=>∃σ' H',Inv X pins σ' H' s'/\D.bk σ' H'
 | .cont=>∃σ' H',Inv X pins σ' H' s'/\D.ct σ' H'
 | .ret u=>∃v σ' H',Inv X pins σ' H' s'/\RelV v u/\D.rt v H'
def PE(X:Cx)(e:Expr)(t:TE):Prop:=
 ∀(pins:List (Addr×Obj)) (s:Shared) (σ:St) (H:Hp) (Q:VK),Inv X pins σ H s->t σ H Q->wpAny (model X.prog X.w) X.A (eval e X.env) (EP X pins σ Q) X.xe s
def PT(X:Cx)(e:Expr)(t:TT):Prop:=
 ∀(pins:List (Addr×Obj)) (s:Shared) (σ:St) (H:Hp) (Q:Bool->Hp->Prop),Inv X pins σ H s->t σ H Q->wpAny (model X.prog X.w) X.A (isTrue e X.env (eval e X.env)) (TP X pins σ Q) X.xe s
def PW(X:Cx)(e:Expr)(t:TT):Prop:=
 ∀(whole:Sem Value) (pins:List (Addr×Obj)) (s:Shared) (σ:St) (H:Hp) (Q:Bool->Hp->Prop),Inv X pins σ H s->t σ H Q->wpAny (model X.prog X.w) X.A (isTrue e X.env whole) (TP X pins σ Q) X.xe s
def PW.pt{X:Cx}{e:Expr}{t:TT}(h:PW X e t):PT X e t:=h _
def PA(X:Cx)(es:List Expr)(t:TA):Prop:=
 ∀(pos:Pos) (pins:List (Addr×Obj)) (s:Shared) (σ:St) (H:Hp) (Q:List V->Hp->Prop),Inv X pins σ H s->t σ H Q->wpAny (model X.prog X.w) X.A (spliced (backTo pos (starEach es X.env))) (AP X pins σ Q) X.xe s
def PS(X:Cx)(st:Stmt)(t:TS):Prop:=
 ∀(pins:List (Addr×Obj)) (s:Shared) (σ:St) (H:Hp) (D:Ends),Inv X pins σ H s->t D σ H->wpAny (model X.prog X.w) X.A (exec st X.env) (SP X pins D) X.xe s
def cP(X:Cx)(st:List Stmt)(t:TS):Prop:=
 ∀(pins:List (Addr×Obj)) (s:Shared) (σ:St) (H:Hp) (D:Ends),Inv X pins σ H s->t D σ H->wpAny (model X.prog X.w) X.A (execs st X.env) (SP X pins D) X.xe s
def av{α:Type}{t:Sem α}{Q Q':α->Shared->Prop}{M:Model}{A:Around}{E:Value->Shared->Prop}{s:Shared}(h:wpAny M A t Q E s)(hQ:∀a s,Q a s->Q' a s):wpAny M A t Q' E s:=wpAny_mono h hQ λ_ _ x=>x
section
variable {X:Cx}
def bin{a b:Expr}{ta tb:TE}(ha:PE X a ta)(hb:PE X b tb){pins:List (Addr×Obj)}{s:Shared}{σ:St}{H:Hp}{R:V->V->Hp->Prop}(I:Inv X pins σ H s)(h:ta σ H λx H1=>tb σ H1 λy H2=>R x y H2)
  {α:Type} {Q:α->Shared->Prop} {f:Value->Value->Sem α}
  (hf:∀v u s2 x y H2,Inv X pins σ H2 s2->RelV x v->RelV y u->R x y H2->wpAny (model X.prog X.w) X.A (f v u) Q X.xe s2) :
  wpAny (model X.prog X.w) X.A (eval a X.env) (λv s₁=>wpAny (model X.prog X.w) X.A (eval b X.env) (λu s₂=>wpAny (model X.prog X.w) X.A (f v u) Q X.xe s₂) X.xe s₁) X.xe s:=by
 refine av (ha pins s σ H _ I h) λv s1 ⟨x,H1,I1,r1,q1⟩=>?_;refine av (hb pins s1 σ H1 _ I1 q1) λu s2 ⟨y,H2,I2,r2,q2⟩=>?_;exact hf v u s2 x y H2 I2 r1 r2 q2
def oG(i:Nat):TE:=λσ H Q=>∃v,σ[i]?=some (some v)/\Q v H
def tC(v:V):TE:=λ_ H Q=>Q v H
def yM{i:Nat}{x:Str}{pos:Pos}(hN:X.N[i]?=some x)(hv:kR X.env.scope x)(hd:(x == ("__debug__":Str))=false:=by decide)(hcd:(x == ("__classdict__":Str))=false:=by decide):PE X (.Name x pos) (oG i):=by
 intro pins s σ H Q I h;obtain⟨v,e,h⟩:=h;obtain⟨m,hn,hl⟩:=I.loc;obtain⟨u,r,l⟩:=hl i x v hN e hv;have fin:EP X pins σ Q u s:=⟨v,H,I,r,h⟩;rcases l with⟨hk,hm⟩|⟨hk,c,hc,hcell⟩
 ·exact wpAny_Name (wpAny_loadName_local I.ok.kind hk hn hm fin) hd
 ·rcases hk with hk|hk
  ·exact wpAny_Name (wpAny_loadName_cell I.ok.kind hk hc hcell fin) hd
  ·exact wpAny_Name (wpAny_loadName_free I.ok.kind hk hc hcell fin hcd) hd
def af{i j pos}:PE X (.Constant (.int i) j pos) (tC (.int i)):=λ_ _ _ H _ I h=>wpAny_Constant_int ⟨.int i,H,I.tok _,⟨_,rfl⟩,h⟩
def bX{b j pos}:PE X (.Constant (.bool b) j pos) (tC (.bl b)):=λ_ _ _ H _ I h=>Constant_bool ⟨.bl b,H,I,rfl,h⟩
def BE{j pos}:PE X (.Constant .none j pos) (tC .non):=λ_ _ _ H _ I h=>Constant_none ⟨.non,H,I,rfl,h⟩
def aR{x j pos}:PE X (.Constant (.str x) j pos) (tC (.str x)):=λ_ _ _ H _ I h=>Calls.Constant_str ⟨.str x,H,I.tok _,⟨_,rfl⟩,h⟩
def Gl(X:Cx)(x:Str):Prop:=X.env.kindOf x=some .globalImplicit
def jJ{E:Value->Shared->Prop}{pins:List (Addr×Obj)}{s:Shared}{σ:St}{H:Hp}{x:Str}{u:Value}{pos:Pos}{Q:Value->Shared->Prop}(I:Inv X pins σ H s)(hg:Gl X x)(hm:X.mg x=some u)(h:Q u s)
  (hd:(x == ("__debug__":Str))=false:=by decide):wpAny (model X.prog X.w) X.A (eval (.Name x pos) X.env) Q E s:=
 Calls.Name_function_global I.ok.kind hg (Calls.loadGlobal_global (by rw[I.ok.glob];exact I.mod.glob.keeps I.bk) hm h) hd
def gr{E:Value->Shared->Prop}{pins:List (Addr×Obj)}{s:Shared}{σ:St}{H:Hp}{x:Str}{u:Value}{pos:Pos}{Q:Value->Shared->Prop}(I:Inv X pins σ H s)(hg:Gl X x)(hm:X.mg x=none)(hv:bootBuiltins x=some u)(h:Q u s)
  (hn:x≠"__name__":=by decide) (hd:(x == ("__debug__":Str))=false:=by decide):wpAny (model X.prog X.w) X.A (eval (.Name x pos) X.env) Q E s:=by
 obtain⟨mb,h1,h2⟩:=I.mod.blt;exact Calls.Name_function_global I.ok.kind hg (Calls.loadGlobal_builtin (by rw[I.ok.glob];exact I.mod.glob.keeps I.bk) hm (by rw[I.ok.blt];exact h1.keeps I.bk) ((h2 x hn).trans hv) h) hd
def mz{x:Str}{v:V}{u:Value}{pos:Pos}(hg:Gl X x)(hm:X.mg x=some u)(r:RelV v u)(hd:(x == ("__debug__":Str))=false:=by decide):PE X (.Name x pos) (tC v):=
 λ_ _ _ H _ I h=>jJ I hg hm ⟨v,H,I,r,h⟩ hd
def ee{x:Str}{v:V}{u:Value}{pos:Pos}(hg:Gl X x)(hm:X.mg x=none)(hv:bootBuiltins x=some u)(r:RelV v u)(hn:x≠"__name__":=by decide)(hd:(x == ("__debug__":Str))=false:=by decide):PE X (.Name x pos) (tC v):=
 λ_ _ _ H _ I h=>gr I hg hm hv ⟨v,H,I,r,h⟩ hn hd
variable {a b:Expr} {ta tb:TE} {pos:Pos}
def PC(X:Cx)(op:CmpOp)(a b:Expr)(t:TE):Prop:=
 ∀(pins:List (Addr×Obj)) (s:Shared) (σ:St) (H:Hp) (Q:VK),Inv X pins σ H s->t σ H Q →
  wpAny (model X.prog X.w) X.A (eval a X.env) (λv s₁=>wpAny (model X.prog X.w) X.A (eval b X.env) (λu s₂=>wpAny (model X.prog X.w) X.A (compareOp op v u) (EP X pins σ Q) X.xe s₂) X.xe s₁) X.xe s
def tB(t:TE):TT:=λσ H Q=>t σ H λx H1=>∃c,x=.bl c/\Q c H1
def zD{op:CmpOp}{t:TE}(h:PC X op a b t)(h1:behindInMarks op b=false:=by first|exact nobehind _ (by decide) (by decide)|rfl):PE X (.Compare a [op] [b] pos) t:=λpins s σ H Q I hw=>wpAny_Compare1 (h pins s σ H Q I hw) h1
def iq{op:CmpOp}{t:TE}(h:PC X op a b t)(h1:behindInMarks op b=false:=by first|exact nobehind _ (by decide) (by decide)|rfl):PT X (.Compare a [op] [b] pos) (tB t):=by intro pins s σ H Q I hw;refine wpAny_isTrue_Compare1 (av (h pins s σ H _ I hw) λv s1 h1=>av h1 λu s2 h2=>av h2 λc s3 ⟨x,H1,I1,r1,q1⟩=>?_) h1;obtain⟨d,rfl,q⟩:=q1;cases r1;exact wpAny_truthy_bool ⟨H1,I1,q⟩
def bQ{e:Expr}{t:TE}(h:PE X e t)(he:∀whole,isTrue e X.env whole=(do let v ←whole;standAt e.pos;holding [v] (truthy v)):=by intro _;rfl):PT X e (tB t):=by intro pins s σ H Q I hw;refine isTrue_plain (av (h pins s σ H _ I hw) λv s1 ⟨x,H1,I1,r1,q1⟩=>?_) (he _);obtain⟨d,rfl,q⟩:=q1;cases r1;exact wpAny_truthy_bool ⟨H1,I1,q⟩
variable {tA tB':TT} {rest:List Expr}
def qL(t u:TT):TT:=λσ H Q=>t σ H λc H1=>if c=true then u σ H1 Q else Q false H1
def qx(t u:TT):TT:=λσ H Q=>t σ H λc H1=>if c=true then Q true H1 else u σ H1 Q
def xa(t:TT):TT:=λσ H Q=>t σ H λc H1=>Q (!c) H1
def fL(ha:PT X a tA):PW X (.BoolOp .And [a] pos) tA:=by
 intro wh pins s σ H Q I h;refine isTrue_and (av (ha pins s σ H Q I h) λc s1 e=>?_);cases c with
 | true=>exact isTrue_and_nil e
 | false=>exact e
def eY(ha:PT X a tA):PW X (.BoolOp .Or [a] pos) tA:=by
 intro wh pins s σ H Q I h;refine isTrue_or (av (ha pins s σ H Q I h) λc s1 e=>?_);cases c with
 | false=>exact isTrue_or_nil e
 | true=>exact e
def fV(ha:PT X a tA)(hb:PW X (.BoolOp .And (b::rest) pos) tB'):PW X (.BoolOp .And (a::b::rest) pos) (qL tA tB'):=by
 intro wh pins s σ H Q I h;refine isTrue_and (av (ha pins s σ H _ I h) λc s1 ⟨H1,I1,q1⟩=>?_);cases c with
 | true=>exact hb wh pins s1 σ H1 Q I1 q1
 | false=>exact⟨H1,I1,q1⟩
def eC(ha:PT X a tA)(hb:PW X (.BoolOp .Or (b::rest) pos) tB'):PW X (.BoolOp .Or (a::b::rest) pos) (qx tA tB'):=by
 intro wh pins s σ H Q I h;refine isTrue_or (av (ha pins s σ H _ I h) λc s1 ⟨H1,I1,q1⟩=>?_);cases c with
 | true=>exact⟨H1,I1,q1⟩
 | false=>exact hb wh pins s1 σ H1 Q I1 q1
def dm(ha:PT X a tA):PT X (.UnaryOp .Not a pos) (xa tA):=by intro pins s σ H Q I h;exact isTrue_not (ha pins s σ H (λc H1=>Q (!c) H1) I h)
def w8(ta tb:TE):TE:=λσ H Q=>ta σ H λx H1=>∃c,x=.bl c/\if c=true then tb σ H1 Q else Q (.bl false) H1
def xl(ta tb:TE):TE:=λσ H Q=>ta σ H λx H1=>∃c,x=.bl c/\if c=true then Q (.bl true) H1 else tb σ H1 Q
def sZ(ta:TE):TE:=λσ H Q=>ta σ H λx H1=>∃c,x=.bl c/\Q (.bl (!c)) H1
def eJ{op}{t:TE}(h:PE X a t):PE X (.BoolOp op [a] pos) t:=λpins s σ H Q I hw=>BoolOp_one (h pins s σ H Q I hw)
def dW(ha:PE X a ta)(hb:PE X (.BoolOp .And (b::rest) pos) tb):PE X (.BoolOp .And (a::b::rest) pos) (w8 ta tb):=by
 intro pins s σ H Q I h;refine BoolOp_and (av (ha pins s σ H _ I h) λv s1 ⟨x,H1,I1,r1,q1⟩=>?_);obtain⟨c,rfl,q1⟩:=q1;cases r1;refine wpAny_truthy_bool ?_;cases c with
 | true=>exact hb pins s1 σ H1 Q I1 q1
 | false=>exact⟨.bl false,H1,I1,rfl,q1⟩
def qY(ha:PE X a ta)(hb:PE X (.BoolOp .Or (b::rest) pos) tb):PE X (.BoolOp .Or (a::b::rest) pos) (xl ta tb):=by
 intro pins s σ H Q I h;refine BoolOp_or (av (ha pins s σ H _ I h) λv s1 ⟨x,H1,I1,r1,q1⟩=>?_);obtain⟨c,rfl,q1⟩:=q1;cases r1;refine wpAny_truthy_bool ?_;cases c with
 | false=>exact hb pins s1 σ H1 Q I1 q1
 | true=>exact⟨.bl true,H1,I1,rfl,q1⟩
def vd(ha:PE X a ta):PE X (.UnaryOp .Not a pos) (sZ ta):=by intro pins s σ H Q I h;refine UnaryOp_ (av (ha pins s σ H _ I h) λv s1 ⟨x,H1,I1,r1,q1⟩=>?_);obtain⟨c,rfl,q1⟩:=q1;cases r1;exact not_of (wpAny_truthy_bool ⟨.bl (!c),H1,I1,rfl,q1⟩)
end
def ag(K:EG)(H:Hp)(a:Addr)(xs:List V):Prop:=
 Rd H a (.lst xs) ∨
  ∃(o:Obj) (its:Array Value) (n:Nat),K.lookup a=some o/\o.cls=.type "list"/\o.dict=none/\o.data=.seq its n/\its.size<=sizeLine/\Vals xs its.toList
def ai(K:EG)(H:Hp)(a:Addr)(xs:List V):Prop:=
 Rd H a (.tup xs) ∨
  ∃(o:Obj) (its:Array Value) (n:Nat),K.lookup a=some o/\o.cls=.type "tuple"/\o.data=.seq its n/\its.size<=sizeLine/\Vals xs its.toList
def y6:Value->Option V
 | .none=>some .non
 | .bool b=>some (.bl b)
 | .int i _=>some (.int i)
 | .str x _=>some (.str x)
 | .bytes b _=>some (.byt b)
 | .float b _=>some (.flt b)
 | .ref a=>some (.ref a)
 | .type n=>some (.ty n)
 | _=>none
def RelV.abs{x:V}{u:Value}(r:RelV x u):y6 u=some x:=by
 cases x with
 | non=>cases r;rfl
 | bl _=>cases r;rfl
 | int _=>obtain⟨t,rfl⟩:=r;rfl
 | str _=>obtain⟨t,rfl⟩:=r;rfl
 | byt _=>obtain⟨t,rfl⟩:=r;rfl
 | flt _=>obtain⟨t,rfl⟩:=r;rfl
 | ref _=>cases r;rfl
 | ty _=>cases r;rfl
def RelV.inj{x y:V}{u:Value}(r:RelV x u)(q:RelV y u):x=y:=Fq (r.abs.symm.trans q.abs)
def Vals.inj:∀{xs ys:List V} {us:List Value},Vals xs us->Vals ys us->xs=ys
 | _,_,_,.nil,.nil=>rfl
 | _,_,_,.cons r t,.cons r' t'=>by rw[r.inj r',Vals.inj t t']
section
variable {X:Cx} {pins:List (Addr×Obj)} {σ:St} {H:Hp} {s:Shared} {a:Addr} {xs ys:List V}
def ag.of{K:EG}(h:H a=some (.lst xs)):ag K H a xs:=.inl (.inl h)
def ai.of{K:EG}(h:H a=some (.tup xs)):ai K H a xs:=.inl (.inl h)
def Inv.list(I:Inv X pins σ H s)(h:ag X.K H a xs):∃its:List Value,Vals xs its/\PlainL s.heap a its.toArray/\xs.length<=sizeLine:=by
 rcases h with h|⟨o,its,n,hk,hc,hd,hs,hz,r⟩
 ·obtain⟨z,its,n,r,e⟩:=h.ok I.hok;exact⟨its,r,⟨_,n,e,rfl,rfl,rfl⟩,z⟩
 ·refine⟨its.toList,r,⟨o,n,I.kIn a o hk,hc,hd,by simpa using hs⟩,?_⟩;have e:=r.length;simp only[EO]at e;omega
def Inv.tuple(I:Inv X pins σ H s)(h:ai X.K H a xs):∃its:List Value,Vals xs its/\IsTup s.heap a its.toArray/\xs.length<=sizeLine:=by
 rcases h with h|⟨o,its,n,hk,hc,hs,hz,r⟩
 ·obtain⟨z,its,r,p⟩:=h.ok I.hok;exact⟨its,r,p,z⟩
 ·refine⟨its.toList,r,⟨o,I.kIn a o hk,hc,n,by simpa using hs⟩,?_⟩;have e:=r.length;simp only[EO]at e;omega
def Inv.list_inj(I:Inv X pins σ H s)(h:ag X.K H a xs)(h':ag X.K H a ys):xs=ys:=by
 obtain⟨its,r,⟨o,n,e,_,_,d⟩,_⟩:=I.list h;obtain⟨its',r',⟨o',n',e',_,_,d'⟩,_⟩:=I.list h';rw[e]at e';cases e';rw[d]at d';injection d' with d1 _;have:its=its':=by simpa using congrArg Array.toList d1
 subst this;exact r.inj r'
def Inv.tuple_inj(I:Inv X pins σ H s)(h:ai X.K H a xs)(h':ai X.K H a ys):xs=ys:=by
 obtain⟨its,r,⟨o,e,_,n,d⟩,_⟩:=I.tuple h;obtain⟨its',r',⟨o',e',_,n',d'⟩,_⟩:=I.tuple h';rw[e]at e';cases e';rw[d]at d';injection d' with d1 _;have:its=its':=by simpa using congrArg Array.toList d1
 subst this;exact r.inj r'
end
abbrev Cx.wish(X:Cx)(E:Value->Shared->Prop):Cx:={ X with xe:=E }
abbrev Cx.nox(X:Cx):Cx:=X.wish λ_ _=>False
def Cx.Ok.wish{X:Cx}(ok:X.Ok)(E:Value->Shared->Prop):(X.wish E).Ok:=
 ⟨ok.mod,ok.kind,ok.glob,ok.blt,ok.above,ok.inj,ok.has,ok.cab,ok.hd,ok.frames,ok.stk,ok.exf,ok.bs,ok.bsz,ok.noex,ok.exfs,ok.funs,ok.frf⟩
def Cx.Ok.unwish{X:Cx}{E:Value->Shared->Prop}(ok:(X.wish E).Ok):X.Ok:=
 ⟨ok.mod,ok.kind,ok.glob,ok.blt,ok.above,ok.inj,ok.has,ok.cab,ok.hd,ok.frames,ok.stk,ok.exf,ok.bs,ok.bsz,ok.noex,ok.exfs,ok.funs,ok.frf⟩
section
variable {X:Cx} {pins:List (Addr×Obj)} {σ:St} {H:Hp} {s:Shared} {E:Value->Shared->Prop}
def Inv.wish(I:Inv X pins σ H s)(E:Value->Shared->Prop):Inv (X.wish E) pins σ H s:=⟨I.ok.wish E,I.os,I.bare,I.base,I.loc,I.cell,I.free,I.freeC,I.pin,I.hok,I.len⟩
def Inv.unwish(I:Inv (X.wish E) pins σ H s):Inv X pins σ H s:=⟨I.ok.unwish,I.os,I.bare,I.base,I.loc,I.cell,I.free,I.freeC,I.pin,I.hok,I.len⟩
def SP.unwish{D:Ends}{f:Flow}{s':Shared}(h:SP (X.wish E) pins D f s'):SP X pins D f s':=by
 cases f with
 | next=>obtain⟨σ',H',I,q⟩:=h;exact⟨σ',H',I.unwish,q⟩
 | brk=>obtain⟨σ',H',I,q⟩:=h;exact⟨σ',H',I.unwish,q⟩
 | cont=>obtain⟨σ',H',I,q⟩:=h;exact⟨σ',H',I.unwish,q⟩
 | ret u=>obtain⟨v,σ',H',I,r,q⟩:=h;exact⟨v,σ',H',I.unwish,r,q⟩
def cP.nox{st:List Stmt}{t:TS}(h:cP X.nox st t):cP X st t:=λpins s σ H D I hw=>
 wpAny_mono (h pins s σ H D (I.wish _) hw) (λ_ _ q=>q.unwish) λ_ _ z=>False.elim z
end
section
variable {X:Cx} {st:Stmt} {rest:List Stmt} {t u:TS} {e:Expr} {te:TE} {pos:Pos}
def qv:TS:=λD σ H=>D.nx σ H
def wI(t u:TS):TS:=λD σ H=>t { D with nx:=u D } σ H
def aY:cP X [] qv:=λ_ _ σ H _ I h=>wpAny_execs_nil ⟨σ,H,I,h⟩
def aj(h1:PS X st t)(h2:cP X rest u):cP X (st::rest) (wI t u):=by
 intro pins s σ H D I h;refine wpAny_execs_cons (av (h1 pins s σ H { D with nx:=u D } I h) λf s1 q=>?_);cases f with
 | next=>
  obtain⟨σ',H',I',q⟩:=q;exact h2 pins s1 σ' H' D I' q
 | ret v=>exact q
 | brk=>exact q
 | cont=>exact q
def ao(h1:PS X st t):cP X [st] t:=by
 intro pins s σ H D I h;refine wpAny_execs_cons (av (h1 pins s σ H D I h) λf s1 q=>?_);cases f with
 | next=>exact wpAny_execs_nil q
 | ret v=>exact q
 | brk=>exact q
 | cont=>exact q
def Inv.quiet{pins:List (Addr×Obj)}{σ:St}{H:Hp}{s:Shared}(I:Inv X pins σ H s):interactive X.env=false:=by simp[interactive,I.ok.kind]
def vU(te:TE):TS:=λD σ H=>te σ H λ_ H1=>D.nx σ H1
def bt(he:PE X e te)(hs:swapsWith e none pos.line X.env=pure false:=by rfl):PS X (.Expr e pos) (vU te):=by intro pins s σ H D I h;exact wpAny_Expr_any (av (he pins s σ H _ I h) λv s1 ⟨x,H1,I1,r1,q1⟩=>⟨σ,H1,I1,q1⟩) I.quiet hs
def wA(te:TE):TS:=λD σ H=>te σ H D.rt
def aL(he:PE X e te):PS X (.Return (some e) pos) (wA te):=by intro pins s σ H D I h;exact wpAny_Return_some (av (he pins s σ H _ I h) λv s1 ⟨x,H1,I1,r1,q1⟩=>⟨x,σ,H1,I1,r1,q1⟩)
def v8(c:TT)(t u:TS):TS:=λD σ H=>c σ H λb H1=>if b=true then t D σ H1 else u D σ H1
def bU{c:Expr}{a b:List Stmt}{tc:TT}(hc:PT X c tc)(ha:cP X a t)(hb:cP X b u):PS X (.If c a b pos) (v8 tc t u):=by
 intro pins s σ H D I h;refine wpAny_If (av (hc pins s σ H _ I h) λd s1 ⟨H1,I1,q1⟩=>?_);cases d with
 | true=>exact ha pins s1 σ H1 D I1 q1
 | false=>exact hb pins s1 σ H1 D I1 q1
def zI:TS:=λ_ _ _=>False
def mO:PS X st zI:=λ_ _ _ _ _ _ h=>h.elim
end
abbrev TG:=V->St->Hp->(St->Hp->Prop)->Prop
abbrev dM:=List V->St->Hp->(St->Hp->Prop)->Prop
def PG(X:Cx)(target:Expr)(t:TG):Prop:=
 ∀(pins:List (Addr×Obj)) (s:Shared) (σ:St) (H:Hp) (v:V) (u:Value) (Q:St->Hp->Prop),Inv X pins σ H s->RelV v u->t v σ H Q →
  wpAny (model X.prog X.w) X.A (assign target X.env u) (λ_ s'=>∃σ' H',Inv X pins σ' H' s'/\Q σ' H') X.xe s
def ja(X:Cx)(ts:List Expr)(t:dM):Prop:=
 ∀(pins:List (Addr×Obj)) (s:Shared) (σ:St) (H:Hp) (vs:List V) (us:List Value) (Q:St->Hp->Prop),Inv X pins σ H s->Vals vs us->t vs σ H Q →
  wpAny (model X.prog X.w) X.A (assignInOrder ((assignEach ts X.env).map (·.2)) us) (λ_ s'=>∃σ' H',Inv X pins σ' H' s'/\Q σ' H') X.xe s
abbrev kn:=V->V->V->Hp->(Hp->Prop)->Prop
def rh(X:Cx)(t:kn):Prop:=
 ∀(pins:List (Addr×Obj)) (s:Shared) (σ:St) (H:Hp) (o i v:V) (ov iv u:Value) (Q:Hp->Prop),Inv X pins σ H s->RelV o ov->RelV i iv->RelV v u->t o i v H Q →
  wpAny (model X.prog X.w) X.A (setItem ov iv u) (λ_ s'=>∃H',Inv X pins σ H' s'/\Q H') X.xe s
abbrev jM:=V->V->Hp->VK->Prop
def oM(X:Cx)(op:Operator)(t:jM):Prop:=
 ∀(pins:List (Addr×Obj)) (s:Shared) (σ:St) (H:Hp) (x y:V) (v u:Value) (Q:VK),Inv X pins σ H s->RelV x v->RelV y u->t x y H Q →
  wpAny (model X.prog X.w) X.A (inplaceOp op v u) (EP X pins σ Q) X.xe s
section
variable {X:Cx} {pos:Pos}
def jF(i:Nat):TG:=λv σ H Q=>Q (σ.set i (some v)) H
def aK{i:Nat}{x:Str}(hN:X.N.Nodup)(hi:X.N[i]?=some x)(hx:Loc X.env.scope x)(hf:X.fn x=true\/X.env.scope.names.lookup x=some .local:=by first|exact .inl rfl|exact .inr rfl|assumption):PG X (.Name x pos) (jF i):=by intro pins s σ H v u Q I r h;exact wpAny_assign_Name (jt I hN hi hx r (λs' I'=>⟨_,H,I',h⟩) hf)
def qh:dM:=λvs σ H Q=>vs=[]/\Q σ H
def uG(t:TG)(u:dM):dM:=λvs σ H Q=>∃v r,vs=v::r/\t v σ H λσ' H'=>u r σ' H' Q
def fU:ja X [] qh:=by intro pins s σ H vs us Q I r h;obtain⟨e,h⟩:=h;subst e;cases r;exact assignInOrder_nil ⟨σ,H,I,h⟩
def b6{e:Expr}{es:List Expr}{t:TG}{u:dM}(h1:PG X e t)(h2:ja X es u)
  (hs:(assignEach (e::es) X.env).map (·.2)=assign e X.env::(assignEach es X.env).map (·.2):=by rfl):ja X (e::es) (uG t u):=by
 intro pins s σ H vs us Q I r h;obtain⟨v,vr,e1,h⟩:=h;subst e1;cases r with
 | cons r rr=>
  rw[hs];refine assignInOrder_cons (av (h1 pins s σ H _ _ _ I r h) λ_ s1 ⟨σ1,H1,I1,q1⟩=>?_);exact h2 pins s1 σ1 H1 _ _ Q I1 rr q1
def oB(K:EG)(n:Nat)(t:dM):TG:=λv σ H Q=>∃a xs,v=.ref a/\ai K H a xs/\xs.length=n/\t xs σ H Q
def yj{es:List Expr}{k:Nat}{t:dM}{n:Nat}(hc:X.calm=true)(h:ja X es t)
  (hn:(assignEach es X.env).length=n:=by rfl) (hst:(assignEach es X.env).findIdx? (·.1)=none:=by rfl):PG X (.Tuple es k pos) (oB X.K n t):=by
 intro pins s σ H v u Q I r hw;obtain⟨a,xs,e1,hq,hl,hw⟩:=hw;subst e1;cases r;obtain⟨its,rv,ht,hz⟩:=I.tuple hq;refine assign_Tuple_tuple (I.ok.hd hc) ht (by simp[hn,←hl,rv.length]) hst λh' hx=>?_;have I1:Inv X pins σ H { s with heap:=h' }:=I.kept (t':=s.toks) λb o e=>hx b o (E5 (EJ e)) e;exact h pins _ σ H xs _ Q I1 (by simpa using rv) hw
def qV(to ti:TE)(t:kn):TG:=λv σ H Q=>to σ H λo H1=>ti σ H1 λi H2=>t o i v H2 λH3=>Q σ H3
def iL{o i:Expr}{to ti:TE}{t:kn}(ho:PE X o to)(hi:PE X i ti)(hs:rh X t)
  (ha:∀v,assign (.Subscript o i pos) X.env v=(do
   let ov ←holding [v] (eval o X.env);let iv ←holding [v,ov] (eval i X.env)
   standAt pos
   holding [v,ov,iv] (setItem ov iv v)
   release [v,ov,iv] []):=by intro _;rfl):PG X (.Subscript o i pos) (qV to ti t):=by
 intro pins s σ H v u Q I r h;rw[ha];refine EE (wpAny_holding (av (ho pins s σ H _ I h) λov s1 ⟨x,H1,I1,r1,q1⟩=>?_));refine EE (wpAny_holding (av (hi pins s1 σ H1 _ I1 q1) λiv s2 ⟨y,H2,I2,r2,q2⟩=>?_));refine EE (wpAny_standAt (EE (wpAny_holding (av (hs pins s2 σ H2 x y v ov iv u _ I2 r1 r2 r q2) λ_ s3 ⟨H3,I3,q3⟩=>?_))));exact wpAny_release ⟨σ,H3,I3,q3⟩
def kX(te:TE)(g:TG):TS:=λD σ H=>te σ H λx H1=>g x σ H1 D.nx
def gF{tg e:Expr}{te:TE}{g:TG}(he:PE X e te)(hg:PG X tg g)(hs:swapsWithSole [tg] e pos.line X.env=pure false:=by rfl)(hw:swappedStores [tg] e X.env=pure none:=by rfl)
  (h1:(assignEach [tg] X.env).map (·.2)=[assign tg X.env]:=by rfl):PS X (.Assign [tg] e pos) (kX te g):=by
 intro pins s σ H D I h;refine wpAny_Assign_stores (av (he pins s σ H _ I h) λv s1 ⟨x,H1,I1,r1,q1⟩=>?_) hs hw;rw[h1];exact av (hg pins s1 σ H1 x v _ I1 r1 q1) λ_ s2 q=>q
def aG{i:Nat}{x:Str}{e:Expr}{te:TE}{pos':Pos}(hN:X.N.Nodup)(hi:X.N[i]?=some x)(hx:Loc X.env.scope x)(he:PE X e te)(hs:swapsWith e (some (.Name x pos')) pos.line X.env=pure false:=by rfl)(hf:X.fn x=true\/X.env.scope.names.lookup x=some .local:=by first|exact .inl rfl|exact .inr rfl|assumption):
  PS X (.Assign [.Name x pos'] e pos) (kX te (jF i)):=by
 intro pins s σ H D I h;refine wpAny_Assign_Name (av (he pins s σ H _ I h) λv s1 ⟨y,H1,I1,r1,q1⟩=>?_) hs;exact jt I1 hN hi hx r1 (λs2 I2=>⟨_,H1,I2,q1⟩) hf
def rL(i j:Nat)(ta:TA):TS:=λD σ H=>ta σ H λvs H1=>∃v w,vs=[v,w]/\D.nx ((σ.set i (some v)).set j (some w)) H1
def rW{i j:Nat}{x y:Str}{a b:Expr}{ta:TA}{px py pt:Pos}{kt k2 pt2}(hc:X.calm=true)(hN:X.N.Nodup)(hi:X.N[i]?=some x)(hj:X.N[j]?=some y)(hij:i≠j)
  (hx:X.env.scope.names.lookup x=some .local) (hy:X.env.scope.names.lookup y=some .local) (ha:PA X [a,b] ta)
  (hw:swappedStores [.Tuple [.Name x px,.Name y py] kt pt] (.Tuple [a,b] k2 pt2) X.env=pure (some [x,y]))
  (hs:swapsWithSole [.Tuple [.Name x px,.Name y py] kt pt] (.Tuple [a,b] k2 pt2) pos.line X.env=pure false:=by rfl) :
  PS X (.Assign [.Tuple [.Name x px,.Name y py] kt pt] (.Tuple [a,b] k2 pt2) pos) (rL i j ta):=by
 intro pins s σ H D I h;rw[exec_Assign_arm];refine EE (wpAny_standAt ?_);rw[hs];refine EE (EF ?_);rw[FH (by decide)];refine EE (Tuple_ (av (ha _ pins s σ H _ I h) λus s1 ⟨vs,H1,I1,r1,q1⟩=>?_));obtain⟨v,w,e1,q1⟩:=q1;subst e1;obtain⟨u1,u2,rfl,rv,rw'⟩:∃u1 u2,us=[u1,u2]/\RelV v u1/\RelV w u2:=by
  cases r1 with
  | cons p q=>
   cases q with
   | cons p' q'=>
    cases q';exact⟨_,_,rfl,p,p'⟩
 refine wpAny_newObj_type ?_ (by show 2<=sizeLine;decide);have I2:Inv X pins σ H1 { s1 with heap:=s1.heap.push { cls:=.type "tuple",data:=.seq [u1,u2].toArray } }:=I1.kept (t':=s1.toks) λb o e=>EH _ e;rw[hw];refine EE (EF ?_);show wpAny (model X.prog X.w) X.A (do rule "assign.swapped-stores";let items ←unpackItems (.ref s1.heap.objs.size) 2 none;assignInOrder [λv=>bindName X.env y v,λv=>bindName X.env x v] items.reverse;pure Flow.next) _ _ _;refine EE (wpAny_rule (EE (unpackItems_tuple (items:=#[u1,u2]) (I.ok.hd hc) (IsTup.new s1.heap _) λh' hx'=>?_)));have I3:=I2.kept (h':=h') (t':=s1.toks) λb o e=>hx' b o (E5 (EJ e)) e;show wpAny _ _ (assignInOrder [λv=>bindName X.env y v,λv=>bindName X.env x v] [u2,u1] >>= λ_=>pure Flow.next) _ _ _;refine EE (assignInOrder_cons (wpAny_bindName (jt I3 hN hj (.inl hy) rw' (λs2 I4=>?_) (.inr hy))));refine assignInOrder_cons (wpAny_bindName (jt I4 hN hi (.inl hx) rv (λs3 I5=>assignInOrder_nil (EF ?_)) (.inr hx)));rw[List.set_comm _ _ (Ne.symm hij)]at I5;exact⟨_,H1,I5,q1⟩
def qR(i:Nat)(te:TE)(ti:jM):TS:=λD σ H=>∃x,σ[i]?=some (some x)/\te σ H λy H1=>ti x y H1 λz H2=>D.nx (σ.set i (some z)) H2
def pM{i:Nat}{x:Str}{e:Expr}{te:TE}{op:Operator}{ti:jM}{pos':Pos}(hN:X.N.Nodup)(hi:X.N[i]?=some x)(hx:Loc X.env.scope x)(he:PE X e te)(ho:oM X op ti)(hf:X.fn x=true\/X.env.scope.names.lookup x=some .local:=by first|exact .inl rfl|exact .inr rfl|assumption):
  PS X (.AugAssign (.Name x pos') op e pos) (qR i te ti):=by
 intro pins s σ H D I h;obtain⟨v,e1,h⟩:=h;obtain⟨m,hn,hl⟩:=I.loc;have vis:kR X.env.scope x:=by rcases hx with k|k;exact .inl k;exact .inr (.inl k)
 obtain⟨u,r,l⟩:=hl i x v hi e1 vis;refine wpAny_AugAssign_Name ?_;have go:wpAny (model X.prog X.w) X.A (eval e X.env) (λw s₂=>wpAny (model X.prog X.w) X.A (inplaceOp op u w) (λr s₃=>wpAny (model X.prog X.w) X.A (storeName X.env x r) (λ_=>SP X pins D .next) X.xe s₃) X.xe s₂) X.xe s:=by refine av (he pins s σ H _ I h) λw s1 ⟨y,H1,I1,r1,q1⟩=>?_;refine av (ho pins s1 σ H1 v y u w _ I1 r r1 q1) λz s2 ⟨zv,H2,I2,r2,q2⟩=>?_;exact jt I2 hN hi hx r2 (λs3 I3=>⟨_,H2,I3,q2⟩) hf
 rcases l with⟨hk,hm⟩|⟨hk,c,hc,hcell⟩
 ·exact wpAny_loadName_local I.ok.kind hk hn hm go
 ·rcases hk with hk|hk
  ·exact wpAny_loadName_cell I.ok.kind hk hc hcell go
  ·rcases hx with k|k
   ·have:X.env.scope.names.lookup x=some .free:=hk;rw[k]at this;cases this
   ·have:X.env.scope.names.lookup x=some .free:=hk;rw[k]at this;cases this
def mw(f:Int->Int->Int):jM:=λx y H Q=>∃i j,x=.int i/\y=.int j/\Q (.int (f i j)) H
def vv:oM X .Add (mw λi j=>i+j):=by intro pins s σ H x y v u Q I r1 r2 h;obtain⟨i,j,e1,e2,q⟩:=h;subst e1;subst e2;obtain⟨t,rfl⟩:=r1;obtain⟨t',rfl⟩:=r2;exact iadd_int ⟨.int _,H,I.tok _,⟨_,rfl⟩,q⟩
def y8:oM X .Sub (mw λi j=>i-j):=by intro pins s σ H x y v u Q I r1 r2 h;obtain⟨i,j,e1,e2,q⟩:=h;subst e1;subst e2;obtain⟨t,rfl⟩:=r1;obtain⟨t',rfl⟩:=r2;exact isub_int ⟨.int _,H,I.tok _,⟨_,rfl⟩,q⟩
def Ae(c:TT)(tb:TS):TS:=λD σ H=>∃W:Nat->St->Hp->Prop,(∃m,W m σ H)/\∀m σ H,W m σ H →
 c σ H λb H1=>if b=true then ∃N:St->Hp->Prop,(∀σ' H',N σ' H'->∃m',m'<m/\W m' σ' H')/\tb { D with nx:=N,ct:=N,bk:=D.nx } σ H1 else D.nx σ H1
def Ad{c:Expr}{body:List Stmt}{tc:TT}{tb:TS}(hp:PassesOwn (model X.prog X.w) X.A X.env X.xe)(hc:PT X c tc)(hb:cP X body tb):PS X (.While c body [] pos) (Ae tc tb):=by
 intro pins s σ H D I h;obtain⟨W,⟨m0,w0⟩,turn⟩:=h;refine wpAny_While (codeAny_whileLoop (λn s'=>∃σ' H',Inv X pins σ' H' s'/\W n σ' H') ?_ m0 ⟨σ,H,I,w0⟩);rintro n s1 ⟨σ1,H1,I1,w1⟩;refine wpAny_passesOwn hp (av (hc pins s1 σ1 H1 _ I1 (turn n σ1 H1 w1)) λb s2 ⟨H2,I2,q2⟩=>?_);cases b with
 | true=>
  obtain⟨N,hN,q2⟩:=q2;rw[FI rfl];refine wpAny_passesOwn hp (av (hb pins s2 σ1 H2 _ I2 q2) λf s3 q3=>?_);cases f with
  | next=>
   obtain⟨σ3,H3,I3,n3⟩:=q3;obtain⟨m',hm,w3⟩:=hN σ3 H3 n3;exact⟨m',hm,σ3,H3,I3,w3⟩
  | cont=>
   obtain⟨σ3,H3,I3,n3⟩:=q3;obtain⟨m',hm,w3⟩:=hN σ3 H3 n3;exact⟨m',hm,σ3,H3,I3,w3⟩
  | brk=>exact q3
  | ret v=>exact q3
 | false=>
  rw[FH E2];exact wpAny_execs_nil ⟨σ1,H2,I2,q2⟩
end
structure It where
 go:Nat->Hp->Prop
 yld:Nat->Hp->V->Hp->Prop
 stop:Nat->Hp->Prop
def cc(X:Cx)(pins:List (Addr×Obj))(H:Hp)(b:Addr):Prop:=
 H b=none/\b≠X.env.locals/\b∉X.fs/\(b∈X.ex\/X.s₀.heap.objs.size<=b)/\(∀x c,X.env.cells.lookup x=some c->c≠b)/\∀p∈X.pn++pins,p.1≠b
def Inv.fpOk{X:Cx}{pins:List (Addr×Obj)}{σ:St}{H H':Hp}{s:Shared}{b:Addr}(I:Inv X pins σ H s)(hb:s.heap.objs.size<=b)(hn:H' b=none):cc X pins H' b:=by
 refine⟨hn,Nat.ne_of_gt (Fh I.lt hb),I.nofs hb,.inr (Fi I.sz hb),λx c e z=>?_,λp hp z=>?_⟩
 ·obtain⟨v,q⟩:=I.cell x c e;exact absurd (Fh q.lt (by rw[z];exact hb)) (Nat.lt_irrefl _)
 ·exact absurd (Fh (EJ (I.pin p hp).1) (by rw[z];exact hb)) (Nat.lt_irrefl _)
structure Turn(P:Program)(w:World)(K:EG)(tg:Expr)(J:It)(fp:List Addr)(it:Addr)(tn:Nat->Heap->Prop):Prop where
 mem:it∈fp
 obj:∀i h,tn i h->∀b∈fp,∃o,h.get? b=some o/\∀v,o.data≠.cell v
 keep:∀i h h',tn i h->(∀b∈fp,∀o,h.get? b=some o->h'.get? b=some o)->tn i h'
 item:∀(X:Cx),X.prog=P->X.w=w->X.K=K->X.calm=true->∀(i:Nat) (pins:List (Addr×Obj)) (s:Shared) (σ:St) (H:Hp) (E:Value->Shared->Prop),Inv X pins σ H s->(∀b∈fp,cc X pins H b)->tn i s.heap->J.go i H →
  wpAny (model P w) X.A (pyNext (.ref it)) (λr s1=>∃u,r=some u ∧
   wpAny (model P w) X.A (letOwnedTupleGo tg (.ref it) u) (λ_ s2=>∃x H',Inv X pins σ H' s2/\RelV x u/\J.yld i H x H'/\tn (i+1) s2.heap/\∀b∈fp,H' b=none) E s1) E s
 done:∀(X:Cx),X.prog=P->X.w=w->X.K=K->X.calm=true->∀(i:Nat) (pins:List (Addr×Obj)) (s:Shared) (σ:St) (H:Hp) (E:Value->Shared->Prop),Inv X pins σ H s->(∀b∈fp,cc X pins H b)->tn i s.heap->J.stop i H →
  wpAny (model P w) X.A (pyNext (.ref it)) (λr s1=>r=none/\Inv X pins σ H s1) E s
 self:∀(A:Around) (i:Nat) (s:Shared) (Q:Value->Shared->Prop) (E:Value->Shared->Prop),tn i s.heap->Q (.ref it) s->wpAny (model P w) A (pyIter (.ref it)) Q E s
abbrev TI:=St->Hp->(It->Hp->Prop)->Prop
def n5(X:Cx)(pins:List (Addr×Obj))(σ:St)(tg:Expr)(R:It->Hp->Prop)(itv:Value)(s2:Shared):Prop:=
 ∃(it:Addr) (fp:List Addr) (tn:Nat->Heap->Prop) (J:It) (H':Hp),itv=.ref it/\Inv X pins σ H' s2/\Turn X.prog X.w X.K tg J fp it tn/\tn 0 s2.heap/\(∀b∈fp,cc X pins H' b)/\R J H'
def PI(X:Cx)(tg iter:Expr)(wi:TI):Prop:=
 ∀(pins:List (Addr×Obj)) (s:Shared) (σ:St) (H:Hp) (R:It->Hp->Prop),Inv X pins σ H s->wi σ H R →
  wpAny (model X.prog X.w) X.A (eval iter X.env) (λv s1=>wpAny (model X.prog X.w) X.A (pyIter v) (n5 X pins σ tg R) X.xe s1) X.xe s
def j3 {M : Model} {A : Around} {E : Value → Shared → Prop} {s : Shared} {tg : Expr} {it : Addr} {u : Value} {o : Obj} {n : String} {vs : Array Value} {Q : Unit → Shared → Prop} (ho : s.heap.get? it = some o) (hc : o.cls = .type n) (hd : o.data = .fields vs)
    (hn : ["enumerate", "zip", "dict_itemiterator", "dict_reverseitemiterator", "odict_iterator", "itertools.zip_longest", "itertools.pairwise"].contains n = false) (hQ : Q () s) : wpAny M A (letOwnedTupleGo tg (.ref it) u) Q E s := by
  unfold letOwnedTupleGo;cases tg <;> first
    | exact EF hQ
    | (cases u <;> first
        | exact EF hQ
        | (refine EE (wpAny_load ho ?_)
           rw [hc, hd];show wpAny M A (if (["enumerate", "zip", "dict_itemiterator", "dict_reverseitemiterator", "odict_iterator", "itertools.zip_longest", "itertools.pairwise"].contains n && vs[0]? == some (rawInt _)) = true then _ else _) Q E s;rw [FH (by intro h; rw [hn, Bool.false_and] at h; cases h)];exact EF hQ))
def dZ(K:EG)(a:Addr):It:=
 ⟨λi H=>∃xs x,ag K H a xs/\xs[i]?=some x,λi H x H'=>H'=H/\∀xs,ag K H a xs->xs[i]?=some x,λi H=>∃xs,ag K H a xs/\xs.length<=i⟩
def cD(K:EG)(a:Addr):It:=
 ⟨λi H=>∃xs x,ai K H a xs/\xs[i]?=some x,λi H x H'=>H'=H/\∀xs,ai K H a xs->xs[i]?=some x,λi H=>∃xs,ai K H a xs/\xs.length<=i⟩
def dN(lo:Int)(n:Nat):It:=⟨λi _=>i<n,λi H x H'=>H'=H/\x=.int (lo+i),λi _=>n<=i⟩
def Ej{P:Program}{w:World}{K:EG}{tg:Expr}(a it:Addr):Turn P w K tg (dZ K a) [it] it (λi h=>h.IsListIter it a i) where
 mem:=by simp
 obj:=λi h st b hb=>by
  have e:b=it:=by simpa using hb
  subst e;obtain⟨o,e,c,d⟩:=st;exact⟨o,e,λv z=>by rw[d]at z;cases z⟩
 keep:=λi h h' st k=>st.at λo e=>k it (by simp) o e
 item:=by intro X hP hw hK hc i pins s σ H E I hf st hg;subst hP hw hK;obtain⟨xs,x,hq,hx⟩:=hg;obtain⟨its,rv,p,hz⟩:=I.list hq;obtain⟨u,hu,ru⟩:=rv.get hx;obtain⟨f0,f1,f2,f3,f4,f5⟩:=hf it (by simp);refine wpAny_pyNext_list_item st p.isList (x:=u) (by simpa using hu) λh' st' sb=>?_;have I1:Inv X pins σ H { s with heap:=h' }:=I.turned (t':=s.toks) (λb o hb e=>(sb.2 b hb).trans e) f0 f1 f3 f4 f5;obtain⟨o,e,c,d⟩:=id st';exact⟨u,rfl,j3 (s:={ s with heap:=h' }) e c d (by decide) ⟨x,H,I1,ru,⟨rfl,λys hy=>by rw[I.list_inj hy hq];exact hx⟩,st',λb hb=>(hf b hb).1⟩⟩
 done:=by intro X hP hw hK hc i pins s σ H E I hf st hg;subst hP hw hK;obtain⟨xs,hq,hx⟩:=hg;obtain⟨its,rv,p,hz⟩:=I.list hq;obtain⟨f0,f1,f2,f3,f4,f5⟩:=hf it (by simp);have hl:=rv.length;exact wpAny_pyNext_list_end (I.ok.hd hc) st p.isList (by simp;omega) λh' eb=>⟨rfl,I.turned (t':=s.toks) (λb o hb e=>eb b o hb e) f0 f1 f3 f4 f5⟩
 self:=λ_ _ _ _ _ st h=>wpAny_pyIter_listiter st h
def yT{P:Program}{w:World}{K:EG}{tg:Expr}(a it:Addr):Turn P w K tg (cD K a) [it] it (λi h=>h.IsTupleIter it a i) where
 mem:=by simp
 obj:=λi h st b hb=>by
  have e:b=it:=by simpa using hb
  subst e;obtain⟨o,e,c,d⟩:=st;exact⟨o,e,λv z=>by rw[d]at z;cases z⟩
 keep:=λi h h' st k=>st.at λo e=>k it (by simp) o e
 item:=by intro X hP hw hK hc i pins s σ H E I hf st hg;subst hP hw hK;obtain⟨xs,x,hq,hx⟩:=hg;obtain⟨its,rv,p,hz⟩:=I.tuple hq;obtain⟨u,hu,ru⟩:=rv.get hx;obtain⟨f0,f1,f2,f3,f4,f5⟩:=hf it (by simp);refine wpAny_pyNext_tuple_item st (show s.heap.IsTuple a its.toArray from p) (x:=u) (by simpa using hu) λh' st' sb=>?_;have I1:Inv X pins σ H { s with heap:=h' }:=I.turned (t':=s.toks) (λb o hb e=>(sb.2 b hb).trans e) f0 f1 f3 f4 f5;obtain⟨o,e,c,d⟩:=id st';exact⟨u,rfl,j3 (s:={ s with heap:=h' }) e c d (by decide) ⟨x,H,I1,ru,⟨rfl,λys hy=>by rw[I.tuple_inj hy hq];exact hx⟩,st',λb hb=>(hf b hb).1⟩⟩
 done:=by intro X hP hw hK hc i pins s σ H E I hf st hg;subst hP hw hK;obtain⟨xs,hq,hx⟩:=hg;obtain⟨its,rv,p,hz⟩:=I.tuple hq;obtain⟨f0,f1,f2,f3,f4,f5⟩:=hf it (by simp);have hl:=rv.length;exact wpAny_pyNext_tuple_end (I.ok.hd hc) st (show s.heap.IsTuple a its.toArray from p) (by simp;omega) λh' eb=>⟨rfl,I.turned (t':=s.toks) (λb o hb e=>eb b o hb e) f0 f1 f3 f4 f5⟩
 self:=λ_ _ _ _ _ st h=>wpAny_pyIter_tupleiter st h
def yz{P:Program}{w:World}{K:EG}{tg:Expr}(it:Addr)(lo:Int)(n:Nat):Turn P w K tg (dN lo n) [it] it (λi h=>IsRangeIter h it (lo+(i:Nat)*1) ((n:Int)-(i:Nat)) 1) where
 mem:=by simp
 obj:=λi h st b hb=>by
  have e:b=it:=by simpa using hb
  subst e;exact⟨_,st,λv z=>by have z':Data.fields _=Data.cell v:=z;cases z'⟩
 keep:=λi h h' st k=>k it (by simp) _ st
 item:=by intro X hP hw hK hc i pins s σ H E I hf st hg;subst hP hw hK;obtain⟨f0,f1,f2,f3,f4,f5⟩:=hf it (by simp);have W:=Walks.range (prog:=X.prog) (w:=X.w) (I.ok.hd hc) it lo 1 n;refine W.item i s _ _ hg st λv h' tk hv st' kk=>?_;obtain⟨t,rfl⟩:=hv;have I1:Inv X pins σ H { s with heap:=h',toks:=tk }:=I.turned (λb o hb e=>kk b o (by simpa using hb) e) f0 f1 f3 f4 f5;refine⟨_,rfl,j3 (s:={ s with heap:=h',toks:=tk }) (n:="range_iterator") st' rfl rfl (by decide) ⟨.int (lo+i),H,I1,⟨t,?_⟩,⟨rfl,rfl⟩,st',λb hb=>(hf b hb).1⟩⟩;rw[Int.mul_one]
 done:=by intro X hP hw hK hc i pins s σ H E I hf st hg;subst hP hw hK;obtain⟨f0,f1,f2,f3,f4,f5⟩:=hf it (by simp);exact wpAny_pyNext_range_end (I.ok.hd hc) st (by have:n<=i:=hg;omega) λh' eb=>⟨rfl,I.turned (t':=s.toks) (λb o hb e=>eb b o hb e) f0 f1 f3 f4 f5⟩
 self:=λ_ _ _ _ _ st h=>wpAny_pyIter_rangeiter st h
section
variable {X:Cx} {tg:Expr}
def mM(K:EG)(tl:TE):TI:=λσ H R=>tl σ H λx H1=>∃a,x=.ref a/\(∃xs,ag K H1 a xs)/\R (dZ K a) H1
def mj(K:EG)(tl:TE):TI:=λσ H R=>tl σ H λx H1=>∃a,x=.ref a/\(∃xs,ai K H1 a xs)/\R (cD K a) H1
def CH{l:Expr}{tl:TE}(hl:PE X l tl):PI X tg l (mM X.K tl):=by
 intro pins s σ H R I h;refine av (hl pins s σ H _ I h) λv s1 ⟨x,H1,I1,r1,q1⟩=>?_;obtain⟨a,e,⟨xs,hq⟩,q⟩:=q1;subst e;cases r1;obtain⟨its,rv,p,hz⟩:=I1.list hq;refine wpAny_pyIter_list p.isList ?_;refine⟨s1.heap.objs.size,[s1.heap.objs.size],_,_,H1,rfl,I1.kept (t':=s1.toks) λb o e=>EH _ e,Ej a _,⟨_,EI _ rfl,rfl,rfl⟩,λb hb=>?_,q⟩;have e:b=s1.heap.objs.size:=by simpa using hb
 subst e;exact I1.fpOk (E6 _) (I1.hok.fresh (E6 _))
def DD{l:Expr}{tl:TE}(hl:PE X l tl):PI X tg l (mj X.K tl):=by
 intro pins s σ H R I h;refine av (hl pins s σ H _ I h) λv s1 ⟨x,H1,I1,r1,q1⟩=>?_;obtain⟨a,e,⟨xs,hq⟩,q⟩:=q1;subst e;cases r1;obtain⟨its,rv,p,hz⟩:=I1.tuple hq;refine wpAny_pyIter_tuple (show s1.heap.IsTuple a its.toArray from p) ?_;refine⟨s1.heap.objs.size,[s1.heap.objs.size],_,_,H1,rfl,I1.kept (t':=s1.toks) λb o e=>EH _ e,yT a _,⟨_,EI _ rfl,rfl,rfl⟩,λb hb=>?_,q⟩;have e:b=s1.heap.objs.size:=by simpa using hb
 subst e;exact I1.fpOk (E6 _) (I1.hok.fresh (E6 _))
def vI{pins:List (Addr×Obj)}{σ:St}{H:Hp}{s:Shared}{R:It->Hp->Prop}{E:Value->Shared->Prop}{lo hi:Int}{t u v:Tok}{tk:Nat}(I:Inv X pins σ H s)(h1:-(2 ^ 62)<=lo)(h2:lo<2 ^ 62)(h3:-(2 ^ 62)<=hi)(h4:hi<2 ^ 62)
  (q:R (dN lo (hi-lo).toNat) H):wpAny (model X.prog X.w) X.A (pyIter (.ref s.heap.objs.size)) (n5 X pins σ tg R) E { s with heap:=s.heap.push { cls:=.type "range",data:=.fields #[.int lo t,.int hi u,.int 1 v] },toks:=tk }:=by
 refine wpAny_pyIter_range (IsRange.new ..) (small_one h1 h2 h3 h4) ?_;have I1:Inv X pins σ H { s with heap:=s.heap.push { cls:=.type "range",data:=.fields #[.int lo t,.int hi u,.int 1 v] },toks:=tk }:=I.kept λb o e=>EH _ e;refine⟨(s.heap.push { cls:=.type "range",data:=.fields #[.int lo t,.int hi u,.int 1 v] }).objs.size,[(s.heap.push { cls:=.type "range",data:=.fields #[.int lo t,.int hi u,.int 1 v] }).objs.size],_,_,H,rfl,
  I1.kept (t':=tk) λb o e=>EH _ e,yz _ lo (hi-lo).toNat,?_,λb hb=>?_,q⟩
 ·have e1:lo+((0:Nat):Int)*1=lo:=by simp
  have e2:(((hi-lo).toNat:Nat):Int)-((0:Nat):Int)=Builtin.Range.rangeSize lo hi 1:=by rw[rangeSize_one];split<;>omega
  show IsRangeIter _ _ (lo+((0:Nat):Int)*1) ((((hi-lo).toNat:Nat):Int)-((0:Nat):Int)) 1;rw[e1,e2];exact EI _ rfl
 ·have e:b=(s.heap.push { cls:=.type "range",data:=.fields #[.int lo t,.int hi u,.int 1 v] }).objs.size:=by simpa using hb
  subst e;exact I1.fpOk (E6 _) (I1.hok.fresh (E6 _))
def ue(ta:TA):TI:=λσ H R=>ta σ H λvs H1=>∃j:Int,vs=[.int j]/\-(2 ^ 62)<=j/\j<2 ^ 62/\R (dN 0 j.toNat) H1
def rM(ta:TA):TI:=λσ H R=>ta σ H λvs H1=>∃i j:Int,vs=[.int i,.int j]/\(-(2 ^ 62)<=i/\i<2 ^ 62/\-(2 ^ 62)<=j/\j<2 ^ 62)/\R (dN i (j-i).toNat) H1
def bR{a:Expr}{ta:TA}{p pos:Pos}(hg:Gl X "range")(hm:X.mg "range" = none)(ha:PA X [a] ta)(hs:starEach [a] X.env=[(false,eval a X.env)]:=by rfl):PI X tg (.Call (.Name "range" p) [a] [] pos) (ue ta):=by
 intro pins s σ H R I h;refine Call_ (gr I hg hm boot_range (PyProof.Rows.callWith_type1 (av (ha pos pins s σ H _ I h) λus s1 ⟨vs,H1,I1,r1,q1⟩=>?_) hs rfl));obtain⟨j,e,q1,q2,q⟩:=q1;subst e;cases r1 with
 | cons r rr=>
  cases rr;obtain⟨t,rfl⟩:=r;exact call_range_1 (vI I1 (by omega) (by omega) q1 q2 (by simpa using q))
def vT{a b:Expr}{ta:TA}{p pos:Pos}(hg:Gl X "range")(hm:X.mg "range" = none)(ha:PA X [a,b] ta)(hs:starEach [a,b] X.env=[(false,eval a X.env),(false,eval b X.env)]:=by rfl)(hs2:starEach [b] X.env=[(false,eval b X.env)]:=by rfl):
  PI X tg (.Call (.Name "range" p) [a,b] [] pos) (rM ta):=by
 intro pins s σ H R I h;refine Call_ (gr I hg hm boot_range (PyProof.Rows.callWith_type1 (av (ha pos pins s σ H _ I h) λus s1 ⟨vs,H1,I1,r1,q1⟩=>?_) (by rw[hs,hs2]) (by rw[hs2];rfl)));obtain⟨i,j,e,⟨q1,q2,q3,q4⟩,q⟩:=q1;subst e;cases r1 with
 | cons r rr=>
  cases rr with
  | cons r' rr=>
   cases rr;obtain⟨t,rfl⟩:=r;obtain⟨t',rfl⟩:=r';exact call_range_2 (vI I1 q1 q2 q3 q4 q)
def w9(wi:TI)(g:TG)(tb:TS):TS:=λD σ H=>wi σ H λJ H1=>∃W:Nat->Nat->St->Hp->Prop,(∃m,W 0 m σ H1)/\∀i m σ H,W i m σ H →
 (J.stop i H/\D.nx σ H)\/(J.go i H/\∃N:St->Hp->Prop,(∀σ' H',N σ' H'->∃m',m'<m/\W (i+1) m' σ' H')/\∀x H',J.yld i H x H'->g x σ H' λσ2 H2=>tb { D with nx:=N,ct:=N,bk:=D.nx } σ2 H2)
def gy(fp:List Addr)(h:Heap):List (Addr×Obj):=fp.filterMap λb=>(h.get? b).map λo=>(b,o)
def pz{fp:List Addr}{h:Heap}{b:Addr}{o:Obj}(hb:b∈fp)(e:h.get? b=some o):(b,o)∈gy fp h:=List.mem_filterMap.mpr ⟨b,hb,by rw[e];rfl⟩
def ug{fp:List Addr}{h:Heap}{p:Addr×Obj}(hp:p∈gy fp h):p.1∈fp/\h.get? p.1=some p.2:=by
 obtain⟨b,hb,e⟩:=List.mem_filterMap.mp hp;cases q:h.get? b with
 | none=>rw[q]at e;cases e
 | some o=>
  rw[q]at e;have e':(b,o)=p:=Fq e;subst e';exact⟨hb,q⟩
def Inv.pinned{pins:List (Addr×Obj)}{σ:St}{H:Hp}{s:Shared}{fp:List Addr}(I:Inv X pins σ H s)(hf:∀b∈fp,cc X pins H b)(ho:∀b∈fp,∃o,s.heap.get? b=some o/\∀v,o.data≠.cell v):Inv X (pins++gy fp s.heap) σ H s:=
 I.pins_of λp hp=>(E9.mp hp).elim (λz=>I.pin p (Ft _ z)) λz=>by obtain⟨hb,e⟩:=ug z;obtain⟨f0,f1,f2,_⟩:=hf p.1 hb;obtain⟨o,e',d⟩:=ho p.1 hb;rw[e]at e';cases e';exact⟨e,f0,f1,f2,d⟩
def Inv.unpinned{pins pl:List (Addr×Obj)}{σ:St}{H:Hp}{s:Shared}(I:Inv X (pins++pl) σ H s):Inv X pins σ H s:=I.pins_of λp hp=>I.pin p (Ft _ (Fu _ hp))
def bH{iter:Expr}{body:List Stmt}{wi:TI}{g:TG}{tb:TS}{pos:Pos}(hp:PassesOwn (model X.prog X.w) X.A X.env X.xe)(hc:X.calm=true)(hi:PI X tg iter wi)(hg:PG X tg g)(hb:cP X body tb)
  (hs:∀x,foldedSetIterable iter X.env x=pure x:=by intro _;rfl):PS X (.For tg iter body [] pos) (w9 wi g tb):=by
 intro pins s σ H D I h;refine wpAny_For (av (hi pins s σ H _ I h) λv s1 h1=>av h1 λitv s2 h2=>?_) hs;obtain⟨it,fp,tn,J,H2,e,I2,T,st2,f2,W,⟨m0,w0⟩,turn⟩:=h2;subst e;have stat:∀{H':Hp},(∀b∈fp,H' b=none)->∀b∈fp,cc X pins H' b:=λhn b hb=>⟨hn b hb,(f2 b hb).2⟩;refine codeAny_forLoop_any (λn s'=>∃i σ' H',Inv X pins σ' H' s'/\tn i s'.heap/\(∀b∈fp,H' b=none)/\W i n σ' H') ?_ m0 ⟨0,σ,H2,I2,st2,λb hb=>(f2 b hb).1,w0⟩;rintro n s3 ⟨i,σ3,H3,I3,st3,fr3,w3⟩;rcases turn i n σ3 H3 w3 with⟨stop,qn⟩|⟨go,N,hN,step⟩
 ·refine wpAny_passesOwn hp (av (T.done X rfl rfl rfl hc i pins s3 σ3 H3 X.xe I3 (stat fr3) st3 stop) λr s4 ⟨hr,I4⟩=>?_);subst hr;exact wpAny_execs_nil ⟨σ3,H3,I4,qn⟩
 ·refine wpAny_passesOwn hp (av (T.item X rfl rfl rfl hc i pins s3 σ3 H3 X.xe I3 (stat fr3) st3 go) λr s4 ⟨u,hr,h4⟩=>?_);subst hr;refine wpAny_passesOwn hp (av h4 λ_ s5 ⟨x,H5,I5,r5,y5,st5,fr5⟩=>?_);have I5':=I5.pinned (stat fr5) (T.obj _ _ st5);refine wpAny_passesOwn hp (av (hg _ s5 σ3 H5 x u _ I5' r5 (step x H5 y5)) λ_ s6 ⟨σ6,H6,I6,q6⟩=>?_);refine wpAny_passesOwn hp (av (hb _ s6 σ6 H6 _ I6 q6) λf s7 q7=>?_);have again:∀{σ7:St} {H7:Hp},Inv X (pins++gy fp s5.heap) σ7 H7 s7->N σ7 H7->∃m,m<n/\∃i σ' H',Inv X pins σ' H' s7/\tn i s7.heap/\(∀b∈fp,H' b=none)/\W i m σ' H':=λ{σ7 H7} I7 n7=>by obtain⟨m',hm,w7⟩:=hN σ7 H7 n7;refine⟨m',hm,i+1,σ7,H7,I7.unpinned,T.keep _ _ _ st5 λb hb o e=>(I7.pin (b,o) (Ft _ (Ft _ (pz hb e)))).1,λb hb=>?_,w7⟩;obtain⟨o,e,d⟩:=T.obj _ _ st5 b hb;exact(I7.pin (b,o) (Ft _ (Ft _ (pz hb e)))).2.1
  cases f with
  | next=>obtain⟨σ7,H7,I7,n7⟩:=q7;exact again I7 n7
  | cont=>obtain⟨σ7,H7,I7,n7⟩:=q7;exact again I7 n7
  | brk=>obtain⟨σ7,H7,I7,q7⟩:=q7;exact⟨σ7,H7,I7.unpinned,q7⟩
  | ret v=>obtain⟨x7,σ7,H7,I7,r7,q7⟩:=q7;exact⟨x7,σ7,H7,I7.unpinned,r7,q7⟩
end
def B7{K:EG}{a:Addr}{xs:List V}{g:TG}{tb:TS}{D:Ends}{σ:St}{H:Hp}(Pv:Nat->St->Hp->Prop)(h0:Pv 0 σ H)(hl:∀i σ H,i<=xs.length->Pv i σ H->ag K H a xs)
  (hs:∀i x σ H,xs[i]?=some x->Pv i σ H->g x σ H λσ2 H2=>tb { D with nx:=Pv (i+1),ct:=Pv (i+1),bk:=D.nx } σ2 H2) (hd:∀σ H,Pv xs.length σ H->D.nx σ H) :
  ∃W:Nat->Nat->St->Hp->Prop,(∃m,W 0 m σ H)/\∀i m σ H,W i m σ H →
   ((dZ K a).stop i H/\D.nx σ H)\/((dZ K a).go i H/\∃N:St->Hp->Prop,(∀σ' H',N σ' H'->∃m',m'<m/\W (i+1) m' σ' H')/\∀x H',(dZ K a).yld i H x H'->g x σ H' λσ2 H2=>tb { D with nx:=N,ct:=N,bk:=D.nx } σ2 H2):=by
 refine⟨λi m σ H=>m=xs.length-i/\i<=xs.length/\Pv i σ H,⟨xs.length,by simp,Nat.zero_le _,h0⟩,?_⟩;rintro i m σ H ⟨rfl,hi,p⟩;have q:=hl i σ H hi p;by_cases hlt:i<xs.length
 ·refine .inr ⟨⟨xs,xs[i],q,by simp[hlt]⟩,Pv (i+1),λσ' H' p'=>⟨xs.length-(i+1),by omega,rfl,hlt,p'⟩,λx H' y=>?_⟩;obtain⟨e,y⟩:=y;subst e;exact hs i x σ _ (y xs q) p
 ·have e:i=xs.length:=by omega
  subst e;exact .inl ⟨⟨xs,q,E6 _⟩,hd σ H p⟩
def Bb{K:EG}{a:Addr}{xs:List V}{g:TG}{tb:TS}{D:Ends}{σ:St}{H:Hp}(Pv:Nat->St->Hp->Prop)(h0:Pv 0 σ H)(hl:∀i σ H,i<=xs.length->Pv i σ H->ai K H a xs)
  (hs:∀i x σ H,xs[i]?=some x->Pv i σ H->g x σ H λσ2 H2=>tb { D with nx:=Pv (i+1),ct:=Pv (i+1),bk:=D.nx } σ2 H2) (hd:∀σ H,Pv xs.length σ H->D.nx σ H) :
  ∃W:Nat->Nat->St->Hp->Prop,(∃m,W 0 m σ H)/\∀i m σ H,W i m σ H →
   ((cD K a).stop i H/\D.nx σ H)\/((cD K a).go i H/\∃N:St->Hp->Prop,(∀σ' H',N σ' H'->∃m',m'<m/\W (i+1) m' σ' H')/\∀x H',(cD K a).yld i H x H'->g x σ H' λσ2 H2=>tb { D with nx:=N,ct:=N,bk:=D.nx } σ2 H2):=by
 refine⟨λi m σ H=>m=xs.length-i/\i<=xs.length/\Pv i σ H,⟨xs.length,by simp,Nat.zero_le _,h0⟩,?_⟩;rintro i m σ H ⟨rfl,hi,p⟩;have q:=hl i σ H hi p;by_cases hlt:i<xs.length
 ·refine .inr ⟨⟨xs,xs[i],q,by simp[hlt]⟩,Pv (i+1),λσ' H' p'=>⟨xs.length-(i+1),by omega,rfl,hlt,p'⟩,λx H' y=>?_⟩;obtain⟨e,y⟩:=y;subst e;exact hs i x σ _ (y xs q) p
 ·have e:i=xs.length:=by omega
  subst e;exact .inl ⟨⟨xs,q,E6 _⟩,hd σ H p⟩
def DA{lo:Int}{n:Nat}{g:TG}{tb:TS}{D:Ends}{σ:St}{H:Hp}(Pv:Nat->St->Hp->Prop)(h0:Pv 0 σ H)
  (hs:∀i σ H,i<n->Pv i σ H->g (.int (lo+i)) σ H λσ2 H2=>tb { D with nx:=Pv (i+1),ct:=Pv (i+1),bk:=D.nx } σ2 H2) (hd:∀σ H,Pv n σ H->D.nx σ H) :
  ∃W:Nat->Nat->St->Hp->Prop,(∃m,W 0 m σ H)/\∀i m σ H,W i m σ H →
   ((dN lo n).stop i H/\D.nx σ H)\/((dN lo n).go i H/\∃N:St->Hp->Prop,(∀σ' H',N σ' H'->∃m',m'<m/\W (i+1) m' σ' H')/\∀x H',(dN lo n).yld i H x H'->g x σ H' λσ2 H2=>tb { D with nx:=N,ct:=N,bk:=D.nx } σ2 H2):=by
 refine⟨λi m σ H=>m=n-i/\i<=n/\Pv i σ H,⟨n,by simp,Nat.zero_le _,h0⟩,?_⟩;rintro i m σ H ⟨rfl,hi,p⟩;by_cases hlt:i<n
 ·refine .inr ⟨hlt,Pv (i+1),λσ' H' p'=>⟨n-(i+1),by omega,rfl,hlt,p'⟩,λx H' y=>?_⟩;obtain⟨e,y⟩:=y;subst e y;exact hs i σ _ hlt p
 ·have e:i=n:=by omega
  subst e;exact .inl ⟨E6 _,hd σ H p⟩
abbrev R2:=V->V->Hp->VK->Prop
def bD(X:Cx)(f:Value->Value->Sem Value)(r:R2):Prop:=
 ∀(pins:List (Addr×Obj)) (s:Shared) (σ:St) (H:Hp) (x y:V) (v u:Value) (Q:VK),Inv X pins σ H s->RelV x v->RelV y u->r x y H Q →
  wpAny (model X.prog X.w) X.A (f v u) (EP X pins σ Q) X.xe s
def lD(X:Cx)(f:Value->Sem Value)(r:V->Hp->VK->Prop):Prop:=
 ∀(pins:List (Addr×Obj)) (s:Shared) (σ:St) (H:Hp) (x:V) (v:Value) (Q:VK),Inv X pins σ H s->RelV x v->r x H Q →
  wpAny (model X.prog X.w) X.A (f v) (EP X pins σ Q) X.xe s
def cQ(X:Cx)(f:Value)(r:List V->Hp->VK->Prop):Prop:=
 ∀(pins:List (Addr×Obj)) (s:Shared) (σ:St) (H:Hp) (xs:List V) (us:List Value) (Q:VK),Inv X pins σ H s->Vals xs us->r xs H Q →
  wpAny (model X.prog X.w) X.A (call f us) (EP X pins σ Q) X.xe s
def iw(r:R2)(ta tb:TE):TE:=λσ H Q=>ta σ H λx H1=>tb σ H1 λy H2=>r x y H2 Q
def rj(r:V->Hp->VK->Prop)(ta:TE):TE:=λσ H Q=>ta σ H λx H1=>r x H1 Q
def rI(C:Int->Int->Prop)(g:Int->Int->V):R2:=λx y H Q=>∃i j,x=.int i/\y=.int j/\C i j/\Q (g i j) H
def fW(g:Int->Int->V):R2:=λx y H Q=>∃i j,x=.int i/\y=.int j/\Q (g i j) H
def rU(g:Int->V):V->Hp->VK->Prop:=λx H Q=>∃i,x=.int i/\Q (g i) H
section
variable {X:Cx} {a b c:Expr} {ta tb tc:TE} {pos:Pos}
def pQ(ha:PE X a ta)(hb:PE X b tb){pins:List (Addr×Obj)}{s:Shared}{σ:St}{H:Hp}{R:V->V->Hp->Prop}(I:Inv X pins σ H s)
  (h:ta σ H λx H1=>tb σ H1 λy H2=>R x y H2) {Q:Value->Shared->Prop} {f:Value->Value->Sem Value}
  (hf:∀v u s2 x y H2,Inv X pins σ H2 s2->RelV x v->RelV y u->R x y H2->wpAny (model X.prog X.w) X.A (f v u) Q X.xe s2) :
  wpAny (model X.prog X.w) X.A (eval a X.env) (λv s₁=>wpAny (model X.prog X.w) X.A (eval b X.env) (λu s₂=>wpAny (model X.prog X.w) X.A (f v u) Q X.xe s₂) X.xe s₁) X.xe s:=by
 refine av (ha pins s σ H _ I h) λv s1 ⟨x,H1,I1,r1,q1⟩=>?_;refine av (hb pins s1 σ H1 _ I1 q1) λu s2 ⟨y,H2,I2,r2,q2⟩=>?_;exact hf v u s2 x y H2 I2 r1 r2 q2
def aq{op:Operator}{r:R2}(ho:bD X (binaryOp op) r)(ha:PE X a ta)(hb:PE X b tb):PE X (.BinOp a op b pos) (iw r ta tb):=by intro pins s σ H Q I h;exact wpAny_BinOp (pQ ha hb I h λv u s2 x y H2 I2 rx ry q=>ho pins s2 σ H2 x y v u Q I2 rx ry q)
def eZ{op:UnaryOp}{r:V->Hp->VK->Prop}(ho:lD X (unaryOp op) r)(ha:PE X a ta):PE X (.UnaryOp op a pos) (rj r ta):=by intro pins s σ H Q I h;exact UnaryOp_ (av (ha pins s σ H _ I h) λv s1 ⟨x,H1,I1,r1,q1⟩=>ho pins s1 σ H1 x v Q I1 r1 q1)
def kF{f:Value->Value->Sem Value}{C:Int->Int->Prop}{g:Int->Int->Int}
  (rule:∀(i j:Int) (t u:Tok) (s:Shared) (Q:Value->Shared->Prop) (E:Value->Shared->Prop),C i j->Q (.int (g i j) s.toks) { s with toks:=s.toks+1 }->wpAny (model X.prog X.w) X.A (f (.int i t) (.int j u)) Q E s) :
  bD X f (rI C λi j=>.int (g i j)):=by
 intro pins s σ H x y v u Q I rx ry h;obtain⟨i,j,rfl,rfl,hc,q⟩:=h;obtain⟨t,rfl⟩:=rx;obtain⟨t',rfl⟩:=ry;exact rule i j t t' s _ _ hc ⟨.int (g i j),H,I.tok _,⟨_,rfl⟩,q⟩
def se{f:Value->Value->Sem Value}{g:Int->Int->Int}
  (rule:∀(i j:Int) (t u:Tok) (s:Shared) (Q:Value->Shared->Prop) (E:Value->Shared->Prop),Q (.int (g i j) s.toks) { s with toks:=s.toks+1 }->wpAny (model X.prog X.w) X.A (f (.int i t) (.int j u)) Q E s) :
  bD X f (fW λi j=>.int (g i j)):=by
 intro pins s σ H x y v u Q I rx ry h;obtain⟨i,j,rfl,rfl,q⟩:=h;obtain⟨t,rfl⟩:=rx;obtain⟨t',rfl⟩:=ry;exact rule i j t t' s _ _ ⟨.int (g i j),H,I.tok _,⟨_,rfl⟩,q⟩
def kP{f:Value->Value->Sem Value}{g:Int->Int->Bool}
  (rule:∀(i j:Int) (t u:Tok) (s:Shared) (Q:Value->Shared->Prop) (E:Value->Shared->Prop),Q (.bool (g i j)) s->wpAny (model X.prog X.w) X.A (f (.int i t) (.int j u)) Q E s) :
  bD X f (fW λi j=>.bl (g i j)):=by
 intro pins s σ H x y v u Q I rx ry h;obtain⟨i,j,rfl,rfl,q⟩:=h;obtain⟨t,rfl⟩:=rx;obtain⟨t',rfl⟩:=ry;exact rule i j t t' s _ _ ⟨.bl (g i j),H,I,rfl,q⟩
def qr(i j:Int):Prop:=0<=j/\j<=1000000/\i.natAbs<2 ^ 64
def j1(i j:Int):Prop:=(-(2 ^ 64)<i/\i<2 ^ 64)\/(-(2 ^ 64)<j/\j<2 ^ 64)
def j1.ok{i j:Int}(h:j1 i j):IntMulOk i j:=by
 rcases h with⟨h1,h2⟩|⟨h1,h2⟩
 ·exact .of_left (intBits_le_64 h1 h2)
 ·exact .of_right (intBits_le_64 h1 h2)
def aU:bD X (binaryOp .Add) (fW λi j=>.int (i+j)):=se λ_ _ _ _ _ _ _ q=>add_int q
def cG:bD X (binaryOp .Sub) (fW λi j=>.int (i-j)):=se λ_ _ _ _ _ _ _ q=>sub_int q
def eM:bD X (binaryOp .Mult) (rI j1 λi j=>.int (i*j)):=kF λ_ _ _ _ _ _ _ hc q=>mul_int q hc.ok
def cy:bD X (binaryOp .Mod) (rI (λ_ j=>0<j) λi j=>.int (i % j)):=kF λi j _ _ _ _ _ hc q=>by have h1:(0:Int)<j:=hc;exact mod_int' (by omega) (by rw[Int.fmod_eq_emod_of_nonneg i (by omega)];exact q)
def jH:bD X (binaryOp .Pow) (rI qr λi j=>.int (i ^ j.toNat)):=kF λ_ _ _ _ _ _ _ hc q=>pow_int_small hc.1 hc.2.1 hc.2.2 q
def AS{f:Value->Sem Value}{g:Int->Int}
  (rule:∀(i:Int) (t:Tok) (s:Shared) (Q:Value->Shared->Prop) (E:Value->Shared->Prop),Q (.int (g i) s.toks) { s with toks:=s.toks+1 }->wpAny (model X.prog X.w) X.A (f (.int i t)) Q E s) :
  lD X f (rU λi=>.int (g i)):=by
 intro pins s σ H x v Q I rx h;obtain⟨i,rfl,q⟩:=h;obtain⟨t,rfl⟩:=rx;exact rule i t s _ _ ⟨.int (g i),H,I.tok _,⟨_,rfl⟩,q⟩
def eX:lD X (unaryOp .USub) (rU λi=>.int (-i)):=AS λ_ _ _ _ _ q=>neg_int q
end
def xo:V->V->Bool
 | .non,.non=>true|.non,.int _=>true|.int _,.non=>true|.non,.bl _=>true|.bl _,.non=>true|.non,.str _=>true|.str _,.non=>true
 | .int _,.int _=>true|.bl _,.bl _=>true|.str _,.str _=>true|.byt _,.byt _=>true
 | .int _,.str _=>true|.str _,.int _=>true|.bl _,.str _=>true|.str _,.bl _=>true
 | _,_=>false
def kS:R2:=λx y H Q=>xo x y=true/\Q (.bl (decide (x=y))) H
def m3:R2:=λx y H Q=>xo x y=true/\Q (.bl (!decide (x=y))) H
def qT{i j:Int}:decide (V.int i=V.int j)=(i == j):=by rw[Fn];simp
def nK{i j:Bool}:decide (V.bl i=V.bl j)=(i == j):=by rw[Fn];simp
def je{i j:Str}:decide (V.str i=V.str j)=(i == j):=by rw[Fn];simp
def tu{i j:Array UInt8}:decide (V.byt i=V.byt j)=(i.toList == j.toList):=by rw[Fn];cases i;cases j;simp
section
variable {X:Cx} {a b c:Expr} {ta tb tc:TE} {pos:Pos}
def bI{pins:List (Addr×Obj)}{σ:St}{H:Hp}{s:Shared}{Q:VK}{k k':Bool}(I:Inv X pins σ H s)(q:Q (.bl k) H)(e:k=k'):EP X pins σ Q (.bool k') s:=by subst e;exact⟨.bl k,H,I,rfl,q⟩
def bG:bD X (compareOp .Eq) kS:=by
 intro pins s σ H x y v u Q I rx ry h;obtain⟨hs,q⟩:=h;cases x with
 | non=>
  cases rx;cases y with
  | non=>cases ry;exact PySem.EqNone.eq_none_none (bI I q (by simp))
  | bl j=>cases ry;exact PySem.EqNone.eq_none_bool (bI I q (by simp))
  | int j=>obtain⟨t',rfl⟩:=ry;exact PySem.EqNone.eq_none_int (bI I q (by simp))
  | str j=>obtain⟨t',rfl⟩:=ry;exact PySem.EqNone.eq_none_str (bI I q (by simp))
  | _=>exact absurd (show false=true from hs) E2
 | bl i=>
  cases rx;cases y with
  | non=>cases ry;exact PySem.EqNone.eq_bool_none (bI I q (by simp))
  | bl j=>cases ry;exact eq_bool (bI I q nK)
  | str j=>obtain⟨t',rfl⟩:=ry;exact PySem.EqMixed.eq_bool_str (bI I q (by simp))
  | _=>exact absurd (show false=true from hs) E2
 | int i=>
  obtain⟨t,rfl⟩:=rx;cases y with
  | non=>cases ry;exact PySem.EqNone.eq_int_none (bI I q (by simp))
  | int j=>obtain⟨t',rfl⟩:=ry;exact eq_int (bI I q qT)
  | str j=>obtain⟨t',rfl⟩:=ry;exact PySem.EqMixed.eq_int_str (bI I q (by simp))
  | _=>exact absurd (show false=true from hs) E2
 | str i=>
  obtain⟨t,rfl⟩:=rx;cases y with
  | non=>cases ry;exact PySem.EqNone.eq_str_none (bI I q (by simp))
  | bl j=>cases ry;exact PySem.EqMixed.eq_str_bool (bI I q (by simp))
  | int j=>obtain⟨t',rfl⟩:=ry;exact PySem.EqMixed.eq_str_int (bI I q (by simp))
  | str j=>obtain⟨t',rfl⟩:=ry;exact eq_str (bI I q je)
  | _=>exact absurd (show false=true from hs) E2
 | byt i=>
  obtain⟨t,rfl⟩:=rx;cases y with
  | byt j=>obtain⟨t',rfl⟩:=ry;exact PySem.W.eq_bytes (bI I q tu)
  | _=>exact absurd (show false=true from hs) E2
 | _=>cases y<;>exact absurd (show false=true from hs) E2
def hZ:bD X (compareOp .NotEq) m3:=by
 intro pins s σ H x y v u Q I rx ry h;obtain⟨hs,q⟩:=h;cases x with
 | non=>
  cases rx;cases y with
  | non=>cases ry;exact PySem.EqNone.ne_none_none (bI I q (by simp))
  | bl j=>cases ry;exact PySem.EqNone.ne_none_bool (bI I q (by simp))
  | int j=>obtain⟨t',rfl⟩:=ry;exact PySem.EqNone.ne_none_int (bI I q (by simp))
  | str j=>obtain⟨t',rfl⟩:=ry;exact PySem.EqNone.ne_none_str (bI I q (by simp))
  | _=>exact absurd (show false=true from hs) E2
 | bl i=>
  cases rx;cases y with
  | non=>cases ry;exact PySem.EqNone.ne_bool_none (bI I q (by simp))
  | bl j=>cases ry;exact ne_bool (bI I q (congrArg not nK))
  | str j=>obtain⟨t',rfl⟩:=ry;exact PySem.EqMixed.ne_bool_str (bI I q (by simp))
  | _=>exact absurd (show false=true from hs) E2
 | int i=>
  obtain⟨t,rfl⟩:=rx;cases y with
  | non=>cases ry;exact PySem.EqNone.ne_int_none (bI I q (by simp))
  | int j=>obtain⟨t',rfl⟩:=ry;exact ne_int (bI I q (congrArg not qT))
  | str j=>obtain⟨t',rfl⟩:=ry;exact PySem.EqMixed.ne_int_str (bI I q (by simp))
  | _=>exact absurd (show false=true from hs) E2
 | str i=>
  obtain⟨t,rfl⟩:=rx;cases y with
  | non=>cases ry;exact PySem.EqNone.ne_str_none (bI I q (by simp))
  | bl j=>cases ry;exact PySem.EqMixed.ne_str_bool (bI I q (by simp))
  | int j=>obtain⟨t',rfl⟩:=ry;exact PySem.EqMixed.ne_str_int (bI I q (by simp))
  | str j=>obtain⟨t',rfl⟩:=ry;exact ne_str (bI I q (congrArg not je))
  | _=>exact absurd (show false=true from hs) E2
 | byt i=>
  obtain⟨t,rfl⟩:=rx;cases y with
  | byt j=>obtain⟨t',rfl⟩:=ry;exact PySem.W.ne_bytes (bI I q (congrArg not tu))
  | _=>exact absurd (show false=true from hs) E2
 | _=>cases y<;>exact absurd (show false=true from hs) E2
def fB:bD X (compareOp .Lt) (fW λi j=>.bl (decide (i<j))):=kP λ_ _ _ _ _ _ _ q=>lt_int q
def gY:bD X (compareOp .LtE) (fW λi j=>.bl (decide (i<=j))):=kP λ_ _ _ _ _ _ _ q=>le_int q
def fS:bD X (compareOp .Gt) (fW λi j=>.bl (decide (j<i))):=kP λ_ _ _ _ _ _ _ q=>gt_int q
def u4:bD X (compareOp .GtE) (fW λi j=>.bl (decide (j<=i))):=kP λ_ _ _ _ _ _ _ q=>ge_int q
def aQ(b:Expr){op:CmpOp}(h:op≠.In:=by decide)(h2:op≠.NotIn:=by decide):behindInMarks op b=false:=by
 have e1:(op == CmpOp.In)=false:=by cases op<;>first|rfl|exact absurd rfl h
 have e2:(op == CmpOp.NotIn)=false:=by cases op<;>first|rfl|exact absurd rfl h2
 cases b<;>simp[behindInMarks,e1,e2]
def eW{op:CmpOp}{r:R2}(ho:bD X (compareOp op) r)(ha:PE X a ta)(hb:PE X b tb)(hm:behindInMarks op b=false):PE X (.Compare a [op] [b] pos) (iw r ta tb):=by intro pins s σ H Q I h;exact wpAny_Compare1 (pQ ha hb I h λv u s2 x y H2 I2 rx ry q=>ho pins s2 σ H2 x y v u Q I2 rx ry q) hm
def og(t:TE):TT:=λσ H Q=>t σ H λx H'=>∃k,x=.bl k/\Q k H'
def aS{op:CmpOp}{r:R2}(ho:bD X (compareOp op) r)(ha:PE X a ta)(hb:PE X b tb)(hm:behindInMarks op b=false):PT X (.Compare a [op] [b] pos) (og (iw r ta tb)):=by
 intro pins s σ H Q I h;refine wpAny_isTrue_Compare1 (av (ha pins s σ H _ I h) λv s1 ⟨x,H1,I1,r1,q1⟩=>av (hb pins s1 σ H1 _ I1 q1) λu s2 ⟨y,H2,I2,r2,q2⟩=>
  av (ho pins s2 σ H2 x y v u _ I2 r1 r2 q2) λc s3 ⟨z,H3,I3,r3,k,e,q3⟩=>?_) hm
 subst e;cases r3;exact wpAny_truthy_bool ⟨H3,I3,q3⟩
def lA(r r':R2)(ta tb tc:TE):TE:=λσ H Q=>ta σ H λx H1=>tb σ H1 λy H2=>r x y H2 λz H3=>∃k,z=.bl k ∧
 (if k=true then tc σ H3 λw' H4=>r' y w' H4 Q else Q (.bl false) H3)
def kY{op op':CmpOp}{r r':R2}(ho:bD X (compareOp op) r)(ho':bD X (compareOp op') r')(ha:PE X a ta)(hb:PE X b tb)(hc:PE X c tc)
  (hm:lastMarks [op,op'] [b,c]=false:=by with_unfolding_all rfl):PE X (.Compare a [op,op'] [b,c] pos) (lA r r' ta tb tc):=by
 intro pins s σ H Q I h;refine Compare_chain (av (ha pins s σ H _ I h) λv s1 ⟨x,H1,I1,r1,q1⟩=>chain_link (av (hb pins s1 σ H1 _ I1 q1) λu s2 ⟨y,H2,I2,r2,q2⟩=>
  av (ho pins s2 σ H2 x y v u _ I2 r1 r2 q2) λd s3 ⟨z,H3,I3,r3,k,e,q3⟩=>?_)) hm
 subst e;cases r3;refine wpAny_truthy_bool ?_;cases k with
 | false=>exact ite_ff ⟨.bl false,H3,I3,rfl,q3⟩
 | true=>exact ite_tt (chain_last (av (hc pins s3 σ H3 _ I3 q3) λw' s4 ⟨z',H4,I4,r4,q4⟩=>ho' pins s4 σ H4 y z' u w' Q I4 r2 r4 q4))
def A2{op op':CmpOp}{r r':R2}(ho:bD X (compareOp op) r)(ho':bD X (compareOp op') r')(ha:PE X a ta)(hb:PE X b tb)(hc:PE X c tc)
  (hm:lastMarks [op,op'] [b,c]=false:=by with_unfolding_all rfl):PT X (.Compare a [op,op'] [b,c] pos) (og (lA r r' ta tb tc)):=by
 intro pins s σ H Q I h;refine isTrue_chain (av (ha pins s σ H _ I h) λv s1 ⟨x,H1,I1,r1,q1⟩=>test_link (av (hb pins s1 σ H1 _ I1 q1) λu s2 ⟨y,H2,I2,r2,q2⟩=>
  av (ho pins s2 σ H2 x y v u _ I2 r1 r2 q2) λd s3 ⟨z,H3,I3,r3,k,e,q3⟩=>?_)) hm
 subst e;cases r3;refine wpAny_truthy_bool ?_;cases k with
 | false=>
  obtain⟨k',e',q'⟩:=q3;cases e';exact ite_ff ⟨H3,I3,q'⟩
 | true=>
  refine ite_tt (test_last (av (hc pins s3 σ H3 _ I3 q3) λw' s4 ⟨z',H4,I4,r4,q4⟩=>av (ho' pins s4 σ H4 y z' u w' _ I4 r2 r4 q4) λd' s5 ⟨z2,H5,I5,r5,k2,e2,q5⟩=>?_));subst e2;cases r5;exact wpAny_truthy_bool ⟨H5,I5,q5⟩
def iH:(sizeLine:Nat)<2 ^ 63:=by rw[sizeLine_eq];decide
def vals1{x:V}{us:List Value}(r:Vals [x] us):∃u,us=[u]/\RelV x u:=by
 cases r with
 | cons r1 r2=>cases r2;exact⟨_,rfl,r1⟩
def vals2{x y:V}{us:List Value}(r:Vals [x,y] us):∃u w',us=[u,w']/\RelV x u/\RelV y w':=by
 cases r with
 | cons r1 r2=>
  cases r2 with
  | cons r3 r4=>cases r4;exact⟨_,_,rfl,r1,r3⟩
def zt:cQ X (.type "int") (λxs H Q=>(∃i,xs=[.int i]/\Q (.int i) H)\/∃k,xs=[.bl k]/\Q (.int (if k then 1 else 0)) H):=by
 intro pins s σ H xs us Q I r h;rcases h with⟨i,rfl,q⟩|⟨k,rfl,q⟩
 ·obtain⟨u,rfl,t,rfl⟩:=vals1 r;exact call_int_int ⟨.int i,H,I,⟨_,rfl⟩,q⟩
 ·obtain⟨u,rfl,r1⟩:=vals1 r;cases r1;exact call_int_bool ⟨.int (if k then 1 else 0),H,I.tok _,⟨_,rfl⟩,q⟩
end
structure ObjM(h:Heap)(x dx C:Addr)(mA:Str->Option Value):Prop where
 obj:h.get? x=some (PySem.W.instObj C dx)
 ns:h.Ns1 dx mA
 ne:dx≠x
def AI{h:Heap}{dx:Addr}{mA:Str->Option Value}(n:h.Ns1 dx mA):∃od,h.get? dx=some od/\∀name,PySem.W.lookIn name od=some (mA name):=by
 obtain⟨o,es,ep,ho,hd,hk,_,hm⟩:=n;refine⟨o,ho,λname=>?_⟩;have e:=hm name;unfold nsFind findBy at e;rw[←Array.find?_toList]at e;unfold PySem.W.lookIn;rw[hd];dsimp only;split
 ·rename_i y q;rw[q]at e;exact congrArg some e
 ·rename_i q;rw[q]at e;have a:es.toList.any (·.refKey)=false:=by rw[List.any_eq_false];intro y hy;obtain⟨z,t,hkey⟩:=hk y (Array.mem_toList_iff.mp hy);simp[DictEntry.refKey,hkey]
  have a':¬es.toList.any (·.refKey)=true:=by rw[a];exact E2
  rw[FH a'];exact congrArg some e
def ObjM.look{h:Heap}{x dx C:Addr}{mA:Str->Option Value}(I:ObjM h x dx C mA):∃od,PySem.W.InstAt h x (PySem.W.instObj C dx) C (some od)/\∀name,PySem.W.lookIn name od=some (mA name):=
 let ⟨od,ho,hl⟩:=AI I.ns
 ⟨od,⟨I.obj,rfl,rfl,ho⟩,hl⟩
section
variable {prog:Program} {w:World} {A:Around} {E:Value->Shared->Prop} {s:Shared} {K:EG} {x dx C f:Addr} {mA:Str->Option Value} {name:Str} {v:Value}
end
def eO.some_of{v:V}{o:Option Value}(r:eO (some v) o):∃u,o=some u/\RelV v u:=by
 cases o with
 | none=>exact(show False from r).elim
 | some u=>exact⟨u,rfl,r⟩
section
variable {P:Program} {w:World} {H H':Hp} {h h':Heap} {a C dx:Addr} {fs fs':List (Str×V)}
def Ei(hok:bp P w H h)(e:H a=some (.ins C dx fs)):∃mA,ObjM h a dx C mA/\(∀f,eO (fs.lookup f) (mA f))/\PySem.Within mA (fs.map (·.1))/\fs.length<=1000/\H dx=some (.own a):=by obtain⟨d,z,ne,ob,mA,n,r,q⟩:=(show bB P w H h a (.ins C dx fs)from hok a _ e);exact⟨mA,⟨ob,n,ne⟩,r,q,z,d⟩
end
structure Cls(K:EG)(C:Addr):Prop where
 pg:PySem.W.plainGet K C Str.empty=true
 hd:PySem.W.hasDictIn K C=true
 po:PySem.W.plainOver K C=true
 sa:PySem.W.findIn K (.ref C) "__setattr__" = some (some (.builtin "object.__setattr__"))
def Cls.get{K:EG}{C:Addr}(c:Cls K C)(f:Str):PySem.W.plainGet K C f=true:=c.pg
section
variable {X:Cx} {pins:List (Addr×Obj)} {σ:St} {H:Hp} {s:Shared} {a C dx:Addr} {fs:List (Str×V)} {f:Str} {v:V} {A:Around} {E:Value->Shared->Prop}
end
section
variable {X:Cx} {o e value:Expr} {f:Str} {pos pos' tpos:Pos} {ta tv:TE}
end
section
variable {X:Cx} {pins:List (Addr×Obj)} {σ:St} {H:Hp} {s:Shared} {A:Around} {E:Value->Shared->Prop} {Q:Value->Shared->Prop} {c:Value} {b:Bool}
inductive TyOf(K:EG)(H:Hp):V->Value->Prop where
 | non:TyOf K H .non (.type "NoneType")
 | bl (x:Bool):TyOf K H (.bl x) (.type "bool")
 | int (i:Int):TyOf K H (.int i) (.type "int")
 | str (x:Str):TyOf K H (.str x) (.type "str")
 | flt (x:UInt64):TyOf K H (.flt x) (.type "float")
 | lst {a:Addr} {xs:List V} (e:H a=some (.lst xs)):TyOf K H (.ref a) (.type "list")
 | frz {a:Addr} {o:Obj} {xs:List V} (e:H a=some (.frz o (.lst xs))):TyOf K H (.ref a) (.type "list")
 | tup {a:Addr} {xs:List V} (e:H a=some (.tup xs)):TyOf K H (.ref a) (.type "tuple")
 | dK {a:Addr} {kvs:List (Key×V)} (e:H a=some (.dK kvs)):TyOf K H (.ref a) (.type "dict")
 | dT {a:Addr} {kvs:List (List Key×V)} (e:H a=some (.dT kvs)):TyOf K H (.ref a) (.type "dict")
 | ins {a C dx:Addr} {fs:List (Str×V)} (e:H a=some (.ins C dx fs)) (cl:Cls K C) (ha:PySem.W.findIn K (.ref C) "__class__" = some (some (.builtin "object.__class__")))
   (hn:PySem.W.specialIn K (.builtin "object.__class__") "__get__" = some (some (.builtin "getset_descriptor.__get__"))) (htk:PySem.W.takesIn K (.builtin "object.__class__")=some true)
   (hm:PySem.W.mroIn K C (.type "object")=some true):TyOf K H (.ref a) (.ref C)
def Ba{x:V}{u t:Value}(I:Inv X pins σ H s)(rx:RelV x u)(ty:TyOf X.K H x t)(e:PySem.W.kitOne X.K t c=some b)(h:∀tk,Q (.bool b) { s with toks:=tk }):
  wpAny (model X.prog X.w) A (call (.builtin "isinstance") [u,c]) Q E s:=by
 cases ty with
 | non=>cases(show u=Value.none from rx);exact PySem.W.kia_one PySem.W.kitx_none I.kIn True.intro e (λz=>nomatch z) h
 | bl y=>cases(show u=Value.bool y from rx);exact PySem.W.kia_one PySem.W.kitx_bool I.kIn True.intro e (λz=>nomatch z) h
 | int i=>obtain⟨t,q⟩:=(show ∃t,u=Value.int i t from rx);cases q;exact PySem.W.kia_one PySem.W.kitx_int I.kIn True.intro e (λz=>nomatch z) h
 | str y=>obtain⟨t,q⟩:=(show ∃t,u=Value.str y t from rx);cases q;exact PySem.W.kia_one PySem.W.kitx_str I.kIn True.intro e (λz=>nomatch z) h
 | flt y=>obtain⟨t,q⟩:=(show ∃t,u=Value.float y t from rx);cases q;exact PySem.W.kia_one PySem.W.kitx_float I.kIn True.intro e (λz=>nomatch z) h
 | @lst a xs ea=>
  cases(show u=Value.ref a from rx);obtain⟨_,_,n,_,h1⟩:=(show bB X.prog X.w H s.heap a (.lst xs)from I.hok a _ ea);exact PySem.W.kia_one PySem.W.kitx_list I.kIn ⟨_,h1,rfl⟩ e (λz=>nomatch z) h
 | @frz a ob xs ea=>
  cases(show u=Value.ref a from rx);obtain⟨_,_,_,n,_,h1⟩:=(show bB X.prog X.w H s.heap a (.frz ob (.lst xs))from I.hok a _ ea);exact PySem.W.kia_one PySem.W.kitx_list I.kIn ⟨_,h1,rfl⟩ e (λz=>nomatch z) h
 | @tup a xs ea=>
  cases(show u=Value.ref a from rx);obtain⟨_,_,_,p⟩:=(show bB X.prog X.w H s.heap a (.tup xs)from I.hok a _ ea);obtain⟨o,h1,h2,_⟩:=p;exact PySem.W.kia_one PySem.W.kitx_tuple I.kIn ⟨o,h1,h2⟩ e (λz=>nomatch z) h
 | @dK a kvs ea=>
  cases(show u=Value.ref a from rx);obtain⟨_,_,vs,_,p⟩:=(show bB X.prog X.w H s.heap a (.dK kvs)from I.hok a _ ea);obtain⟨o,es,ep,h1,h2,_⟩:=p;exact PySem.W.kia_one PySem.W.kitx_dict I.kIn ⟨o,h1,h2.1⟩ e (λz=>nomatch z) h
 | @dT a kvs ea=>
  cases(show u=Value.ref a from rx);obtain⟨_,_,xs,_,o,es,ep,h1,h2,_⟩:=(show bB X.prog X.w H s.heap a (.dT kvs)from I.hok a _ ea);exact PySem.W.kia_one PySem.W.kitx_dict I.kIn ⟨o,h1,h2.1⟩ e (λz=>nomatch z) h
 | @ins a C dx fs ea cl ha hn htk hm=>
  cases(show u=Value.ref a from rx);obtain⟨mA,O,_⟩:=Ei I.hok ea;obtain⟨od,J,_⟩:=O.look;exact PySem.W.kia_one (PySem.W.kitx_own (cl.get _) cl.hd ha hn htk hm) I.kIn J e (λz=>nomatch z) h
end
structure Room(k:Nat)(A:Around):Prop where
 hd:A.handled=none
 dp:A.depth+3*k+5<recursionLimit
 un:A.units+16*k+200<cLine
def Room.mono{j k:Nat}{A:Around}(r:Room k A)(h:j<=k):Room j A:=⟨r.hd,by have:=r.dp;omega,by have:=r.un;omega⟩
def Room.deeper{k:Nat}{A:Around}(r:Room (k+1) A)(env:Env):Room k (A.deeper env):=
 ⟨r.hd,by have:=r.dp;show A.depth+1+3*k+5<_;omega,by have:=r.un;show A.units+3+16*k+200<_;omega⟩
def Room.depth{k:Nat}{A:Around}(r:Room k A):A.depth<recursionLimit:=by have:=r.dp;omega
def Room.units{k:Nat}{A:Around}(r:Room k A):A.units+64<cLine:=by have:=r.un;omega
def oT:TA:=λ_ H Q=>Q [] H
def nJ(ta:TE)(tr:TA):TA:=λσ H Q=>ta σ H λx H1=>tr σ H1 λxs H2=>Q (x::xs) H2
section
variable {X:Cx} {e:Expr} {es:List Expr} {te:TE} {t:TA} {pos:Pos}
def ae:PA X [] oT:=λ_ _ _ _ H Q I h=>Calls.spliced_nil ⟨[],H,I,.nil,h⟩
def aa(ha:PE X e te)(hr:PA X es t)(hs:starEach (e::es) X.env=(false,eval e X.env)::starEach es X.env:=by rfl):PA X (e::es) (nJ te t):=by intro pos pins s σ H Q I h;rw[hs];show wpAny _ _ (spliced ((false,eval e X.env)::backTo pos (starEach es X.env))) _ _ s;refine Calls.spliced_cons (av (ha pins s σ H _ I h) λu s1 ⟨x,H1,I1,r1,q1⟩=>?_);exact av (hr pos pins s1 σ H1 _ I1 q1) λus s2 ⟨xs,H2,I2,r2,q2⟩=>⟨x::xs,H2,I2,.cons r1 r2,q2⟩
def lW(t:TA):TE:=λσ H Q=>t σ H λxs H1=>xs.length<=sizeLine/\∀p,H1 p=none->Q (.ref p) (upd H1 p (.tup xs))
def qX(t:TA):TE:=λσ H Q=>t σ H λxs H1=>xs.length<=sizeLine/\∀p,H1 p=none->Q (.ref p) (upd H1 p (.lst xs))
def bj{x1}(h:PA X es t):PE X (.Tuple es x1 pos) (lW t):=by intro pins s σ H Q I hq;refine wpAny_Tuple_spliced (av (h pos pins s σ H _ I hq) λus s1 ⟨xs,H1,I1,r,z,q⟩=>⟨by rw[←r.length];exact z,?_⟩);have hf:H1 s1.heap.objs.size=none:=I1.hok.fresh (E6 _);refine⟨.ref s1.heap.objs.size,upd H1 s1.heap.objs.size (.tup xs),I1.laid (t':=s1.toks) (λb u e=>EH _ e) (E6 _) ?_,rfl,q _ hf⟩;exact⟨z,us,r,⟨_,EI _ rfl,rfl,_,rfl⟩⟩
def bq(h:PA X es t):PE X (.List es pos) (qX t):=by intro pins s σ H Q I hq;refine wpAny_List_spliced (av (h pos pins s σ H _ I hq) λus s1 ⟨xs,H1,I1,r,z,q⟩=>⟨by rw[←r.length];exact z,?_⟩);have hf:H1 s1.heap.objs.size=none:=I1.hok.fresh (E6 _);refine⟨.ref s1.heap.objs.size,upd H1 s1.heap.objs.size (.lst xs),I1.laid (t':=s1.toks) (λb u e=>EH _ e) (E6 _) ?_,rfl,q _ hf⟩;exact⟨z,us,0,r,EI _ rfl⟩
end
abbrev Sp:=List V->Hp->VK->XK->Prop
abbrev fZ:=List Env->Hp->Shared->XK->Value->Shared->Prop
structure Env0(P:Program)(w:World)(K:EG)(mg:Str->Option Value)(base:Heap)(A:Around)(outer:List Env)(s:Shared)(H:Hp):Prop where
 frames:A.frames=some outer
 mod:Mod K mg base
 bs:∀b o,base.get? b=some o->s.heap.get? b=some o/\H b=none
 bsz:base.objs.size<=s.heap.objs.size
 funs:s.heap.FunFrames base outer
 frf:∀b∈dg outer,H b=none
 hok:bp P w H s.heap
 bare:AllBare s.gens
def CE(outer:List Env)(P:Program)(w:World)(H:Hp)(s:Shared)(Q:VK)(u:Value)(s':Shared):Prop:=
 ∃v H',s'.os=s.os/\AllBare s'.gens/\Un (dg outer) [] H H' s.heap s'.heap/\bp P w H' s'.heap/\RelV v u/\Q v H'
def CR(CX:fZ)(outer:List Env)(P:Program)(w:World)(H:Hp)(s:Shared)(Q:VK)(E:XK)(r:Result)(s':Shared):Prop:=
 match r with
 | .ok (.ret u)=>CE outer P w H s Q u s'
 | .ok _=>False
 | .error e=>CX outer H s E e s'
structure FnOk(P:Program)(w:World)(K:EG)(mg:Str->Option Value)(base:Heap)(CX:fZ)(k:Nat)(f:Addr)(fd:FuncData)(ps:List Str)(sp:Sp):Prop where
 len:∀vs H Q E,sp vs H Q E->vs.length=ps.length
 run:∀(A:Around) (outer:List Env) (s:Shared) (H:Hp) (args:Args) (us:List Value) (vs:List V) (Q:VK) (E:XK),Room k A->Env0 P w K mg base A outer s H->BindsTo s fd args (ps.zip us)->Vals vs us->sp vs H Q E →
  codeAny (model P w) A (.call (.ref f) args) (CR CX outer P w H s Q E) s
section
variable {X:Cx} {pins:List (Addr×Obj)} {σ:St} {H:Hp} {s s':Shared}
def Inv.env0(I:Inv X pins σ H s):Env0 X.prog X.w X.K X.mg X.base X.A X.stack s H:=
 ⟨I.ok.frames,I.ok.mod,I.bs,Fi I.ok.bsz I.sz,I.stack,I.stkFree,I.hok,I.bare⟩
def Inv.after{Q:VK}{u:Value}(I:Inv X pins σ H s)(h:CE X.stack X.prog X.w H s Q u s'):EP X pins σ Q u s':=by obtain⟨v,H',os,bare,un,hok,r,q⟩:=h;obtain⟨hh,g,d,t,os'⟩:=s';obtain rfl:os'=s.os:=os;exact⟨v,H',I.call (h':=hh) (g':=g) (d':=d) (t':=t) (ch:=[]) un hok bare (λb z=>absurd z (by simp)),r,q⟩
end
def kg(sp:Sp)(dvs:List V)(E:XK)(t:TA):TE:=λσ H Q=>t σ H λvs H1=>sp (vs++dvs) H1 Q E
def Binds(K:EG)(fd:FuncData)(ps:List Str)(ds:List Value):Prop:=
 ∀(s:Shared) (us:List Value),K.In s.heap->(us++ds).length=ps.length->BindsTo s fd ⟨us,[]⟩ (ps.zip (us++ds))
def Binds.all{K:EG}{fd:FuncData}{ps:List Str}(h:∀us:List Value,us.length=ps.length->bindArgs fd ⟨us,[]⟩=pure (ps.zip us)):Binds K fd ps []:=λs us _ hl=>by rw[List.append_nil]at hl ⊢;exact .of_eq (h us hl)
def Passes(CX:fZ)(X:Cx)(E:XK):Prop:=∀(pins:List (Addr×Obj)) (σ:St) (H:Hp) (s:Shared) (e:Value) (s':Shared),Inv X pins σ H s->CX X.stack H s E e s'->X.xe e s'
section
variable {X:Cx} {CX:fZ} {k:Nat} {f C:Addr} {fd:FuncData} {ps:List Str} {sp:Sp} {dvs:List V} {ds:List Value} {E:XK} {x m:Str} {p pos apos:Pos} {e o:Expr} {es:List Expr} {ta:TE} {t:TA}
def Cw{pins:List (Addr×Obj)}{σ:St}{H:Hp}{s:Shared}{Q:VK}{us:List Value}{vs:List V}(F:FnOk X.prog X.w X.K X.mg X.base CX k f fd ps sp)(hr:Room k X.A)(hb:Binds X.K fd ps ds)(hd:Vals dvs ds)(hx:Passes CX X E)
  (I:Inv X pins σ H s) (r:Vals vs us) (h:sp (vs++dvs) H Q E):wpAny (model X.prog X.w) X.A (call (.ref f) us) (EP X pins σ Q) X.xe s:=by
 have r2:Vals (vs++dvs) (us++ds):=r.append hd;have hl:(us++ds).length=ps.length:=by rw[←r2.length];exact F.len _ _ _ _ h
 refine wpAny_call (codeAny_mono (F.run X.A X.stack s H ⟨us,[]⟩ (us++ds) (vs++dvs) Q E hr I.env0 (hb s us I.kIn hl) r2 h) λr s' hq=>?_);cases r with
 | error e=>exact hx pins σ H s e s' I hq
 | ok fl=>
  cases fl with
  | ret u=>exact I.after hq
  | next=>exact False.elim hq
  | brk=>exact False.elim hq
  | cont=>exact False.elim hq
def zk(F:FnOk X.prog X.w X.K X.mg X.base CX k f fd ps sp)(hr:Room k X.A)(hg:Gl X x)(hm:X.mg x=some (.ref f))(hk:PySem.W.keepIn X.K (.ref f)=true)(hb:Binds X.K fd ps ds)(hd:Vals dvs ds)(hx:Passes CX X E)
  (ha:PA X (e::es) t) (hdb:(x == ("__debug__":Str))=false:=by decide) (he:starEach (e::es) X.env=(false,eval e X.env)::starEach es X.env:=by rfl) (hpl:(backTo pos (starEach es X.env)).any (·.1)=false:=by rfl) :
  PE X (.Call (.Name x p) (e::es) [] pos) (kg sp dvs E t):=by
 intro pins s σ H Q I h;refine wpAny_Call_Name_kw (jJ I hg hm ?_ hdb);refine PySem.W.callWith_K (h₀:=X.base) I.ok.mod.kin hk (av (ha pos pins s σ H _ I h) λus s1 ⟨vs,H1,I1,r,q⟩=>⟨I1.kIn,?_⟩) he hpl;exact Cw F hr hb hd hx I1 r q
end
section
variable {X:Cx} {CX:fZ} {k:Nat} {f C:Addr} {fd:FuncData} {ps ks:List Str} {sp:Sp} {E:XK} {x m:Str} {p pos apos kpos:Pos} {e o:Expr} {es:List Expr} {kws:List Keyword} {te ta:TE} {t tk:TA} {nm:Option Str}
variable {g:List Value->List Value->List Value} {gV:List V->List V->List V}
end
structure FnScope(N P:List Str)(sc:Scope):Prop where
 kind:sc.kind=.function
 co:sc.isCoroutine=false
 gen:sc.isGenerator=false
 nd:N.Nodup
 pre:N.take P.length=P
 par:∀x∈P,sc.names.lookup x=some .local\/sc.names.lookup x=some .cell
 nofree:∀y∈sc.names,y.2≠.free
def vO{kindOf:Str->Option NameKind}{x:Str}:∀{binds:List (Str×Value)} {m:Str->Option Value},(∀v,(x,v)∉binds)->bindL kindOf binds m x=m x
 | [],_,_=>rfl
 | (n,v)::r,m,h=>by
  unfold bindL;rw[vO λw hw=>h w (EN _ hw)];split
  ·have:x≠n:=by rintro rfl;exact h v ES
   simp[this]
  ·rfl
def wN{kindOf:Str->Option NameKind}{x:Str}:∀{binds:List (Str×Value)} {m:Str->Option Value},(∀v,(x,v)∉binds)->bindC kindOf binds m x=m x
 | [],_,_=>rfl
 | (n,v)::r,m,h=>by
  unfold bindC;rw[wN λw hw=>h w (EN _ hw)];split
  ·rfl
  ·have:x≠n:=by rintro rfl;exact h v ES
   simp[this]
def lT{kindOf:Str->Option NameKind}{x:Str}{v:Value}:∀{P:List Str} {vs:List Value} {i:Nat} {m:Str->Option Value},P.Nodup->P[i]?=some x->vs[i]?=some v->kindOf x=some .local →
  bindL kindOf (P.zip vs) m x=some v
 | [],_,_,_,_,h,_,_=>by simp at h
 | _::_,[],_,_,_,_,h,_=>by simp at h
 | p::P,w::vs,0,m,nd,h1,h2,hk=>by simp at h1 h2;subst h1;subst h2;show bindL kindOf ((p,w)::P.zip vs) m p=_;unfold bindL;rw[vO λv hv=>(List.nodup_cons.mp nd).1 (List.of_mem_zip hv).1,FI hk];simp
 | p::P,w::vs,i+1,m,nd,h1,h2,hk=>by show bindL kindOf ((p,w)::P.zip vs) m x=_;unfold bindL;exact lT (i:=i) (List.nodup_cons.mp nd).2 (by simpa using h1) (by simpa using h2) hk
def pR{kindOf:Str->Option NameKind}{x:Str}{v:Value}:∀{P:List Str} {vs:List Value} {i:Nat} {m:Str->Option Value},P.Nodup->P[i]?=some x->vs[i]?=some v->kindOf x≠some .local →
  bindC kindOf (P.zip vs) m x=some v
 | [],_,_,_,_,h,_,_=>by simp at h
 | _::_,[],_,_,_,_,h,_=>by simp at h
 | p::P,w::vs,0,m,nd,h1,h2,hk=>by simp at h1 h2;subst h1;subst h2;show bindC kindOf ((p,w)::P.zip vs) m p=_;unfold bindC;rw[wN λv hv=>(List.nodup_cons.mp nd).1 (List.of_mem_zip hv).1,FH hk];simp
 | p::P,w::vs,i+1,m,nd,h1,h2,hk=>by show bindC kindOf ((p,w)::P.zip vs) m x=_;unfold bindC;exact pR (i:=i) (List.nodup_cons.mp nd).2 (by simpa using h1) (by simpa using h2) hk
def start(N:List Str)(vs:List V):St:=vs.map some++Fv (N.length-vs.length) none
def gW(CX:fZ)(P:Program)(w:World)(K:EG)(mg:Str->Option Value)(base:Heap)(N:List Str)(qual:Str)(scope:Scope)(f:Addr)(cd:Value)(A:Around)(outer:List Env)(s:Shared)(H:Hp)(E:XK):Cx where
 prog:=P
 w:=w
 K:=K
 mg:=mg
 base:=base
 A:=A.deeper (envOfC qual scope s.heap.objs.size f cd)
 N:=N
 s₀:=s
 H₀:=H
 env:=envOfC qual scope s.heap.objs.size f cd
 outer:=outer
 stack:=envOfC qual scope s.heap.objs.size f cd::outer
 ex:=[]
 calm:=true
 fn:=λ_=>true
 pn:=[]
 xe:=λe s'=>wpAny (model P w) (A.deeper (envOfC qual scope s.heap.objs.size f cd)) (leaving (envOfC qual scope s.heap.objs.size f cd) e) (λ_ s''=>CX outer H s E e s'') (λe' s''=>CX outer H s E e' s'') s'
def tj{sc:Scope}{n:Nat}{x:Str}(h:sc.names.lookup x=some .cell):∃c,(cellsFrom n sc.names []).lookup x=some c:=by have q:=PySem.W.cellsFrom_some sc.names n [] (.inl h);exact Option.isSome_iff_exists.mp q
def CV{CX:fZ}{P:Program}{w:World}{K:EG}{mg:Str->Option Value}{base:Heap}{N ps:List Str}{qual:Str}{scope:Scope}{f:Addr}{cd:Value}{A:Around}{outer:List Env}{s s1:Shared}{H:Hp}{E:XK}{us:List Value}{vs:List V}
  (S:FnScope N ps scope) (hd:A.handled=none) (e0:Env0 P w K mg base A outer s H) (hl:vs.length=ps.length) (r:Vals vs us)
  (x:InCallC s s.heap.objs.size (bindL (envOfC qual scope s.heap.objs.size f cd).kindOf (ps.zip us) λ_=>none) (cellsFrom (s.heap.objs.size+1) scope.names []) (bindC (envOfC qual scope s.heap.objs.size f cd).kindOf (ps.zip us) λ_=>none) s1) :
  Inv (gW CX P w K mg base N qual scope f cd A outer s H E) [] (start N vs) H s1:=by
 have hpl:ps.length<=N.length:=by have:=congrArg List.length S.pre;rw[FA]at this;omega
 obtain⟨h1,tk,rfl,hk⟩:=x.done;have noA:∀b:Addr,b∉(gW CX P w K mg base N qual scope f cd A outer s H E).ex:=λb z=>absurd (show b∈([]:List Addr)from z) (by simp);refine⟨⟨e0.mod,S.kind,rfl,rfl,E6 _,λy z c h1 h2=>?_,λy hy=>?_,λy c _ h=>?_,λ_=>hd,Around.frames_deeper e0.frames,.inr ⟨rfl,rfl⟩,λb z=>absurd z (noA b),e0.bs,e0.bsz,λb _ _=>noA b,λb z=>absurd z (noA b),e0.funs,e0.frf⟩,
  rfl,e0.bare,Un.kept hk,⟨_,x.toInCall.ns,λi y v h1 h2 h3=>?_⟩,λy c h=>⟨_,x.cell y c h⟩,e0.hok.fresh (E6 _),λy c h=>?_,λp hp=>absurd (show p∈([]:List (Addr×Obj))from hp) (by simp),e0.hok.kept hk,?_⟩
 ·exact name_of_addr x.apart (PySem.mem_of_lookup h1) (PySem.mem_of_lookup h2)
 ·have hy:scope.names.lookup y=some .cell\/scope.names.lookup y=some .free:=hy;rcases hy with hy|hy
  ·exact tj hy
  ·exact absurd rfl (S.nofree _ (PySem.mem_of_lookup hy))
 ·exact Nat.le_of_lt (x.above y c (PySem.mem_of_lookup h))
 ·have hi:i<vs.length:=by
   unfold start at h2;by_cases hi:i<vs.length
   ·exact hi
   ·rw[Fb (by simpa using hi)]at h2;rw[List.getElem?_replicate]at h2;split at h2<;>cases h2
  have ha:vs[i]?=some v:=by
   unfold start at h2;rw[Fc (by simpa using hi),EM]at h2;cases e:vs[i]? with
   | none=>rw[e]at h2;cases h2
   | some a=>rw[e]at h2;cases h2;rfl
  obtain⟨u,hu,rv⟩:=r.get ha;have hp:ps[i]?=some y:=by rw[←S.pre,List.getElem?_take_of_lt (by omega)];exact h1
  have ndP:ps.Nodup:=by rw[←S.pre];exact S.nd.sublist (List.take_sublist _ _)
  refine⟨u,rv,?_⟩;rcases S.par y (EV hp)with k|k
  ·exact .inl ⟨k,lT ndP hp hu k⟩
  ·obtain⟨c,e⟩:=tj (n:=s.heap.objs.size+1) k;refine .inr ⟨.inl k,c,e,?_⟩;have q:=x.cell y c e;rw[pR ndP hp hu (by show scope.names.lookup y≠_;rw[k];decide)]at q;exact q
 ·exact e0.hok.fresh (Nat.le_of_lt (x.above y c (PySem.mem_of_lookup h)))
 ·unfold start;show _=N.length;rw[E4,EK,List.length_replicate];omega
def wo{CX:fZ}{P:Program}{w:World}{K:EG}{mg:Str->Option Value}{base:Heap}{k:Nat}{f:Addr}{name qual:Str}{params:Arguments}{body:List Stmt}{scope:Scope}{dV kV doc pm cdv ct oc:Value}{an od:Option Addr}
  {osl:Array (Option Value)} {N ps:List Str} {sp:Sp} (lk:K.lookup f=some ⟨oc,od,.func (PySem.W.fnOf name qual params body scope dV kV doc pm an cdv ct),osl⟩) (hcd:PySem.W.codeIn K cdv qual=true) (S:FnScope N ps scope)
  (len:∀vs H Q E,sp vs H Q E->vs.length=ps.length)
  (hbody:∀(A:Around) (outer:List Env) (s:Shared) (H:Hp) (vs:List V) (Q:VK) (E:XK),Room k (A.deeper (envOfC qual scope s.heap.objs.size f cdv))->sp vs H Q E →
   ∃t,cP (gW CX P w K mg base N qual scope f cdv A outer s H E) body t/\t { nx:=λ_ H'=>Q .non H',rt:=Q } (start N vs) H) :
  FnOk P w K mg base CX (k+1) f (PySem.W.fnOf name qual params body scope dV kV doc pm an cdv ct) ps sp:=by
 refine⟨len,λA outer s H args us vs Q E hr e0 hb r hsp=>?_⟩;have hl:=len _ _ _ _ hsp;have KX:K.In s.heap:=e0.mod.kin.keeps λb o e=>(e0.bs b o e).1;have lim:s.heap.NoLimit:=e0.mod.nolimit.keeps λb o e=>(e0.bs b o e).1;have hkind:∀y∈ps.zip us,scope.names.lookup y.1=some .local\/(scope.names.lookup y.1=some .cell/\((cellsFrom (s.heap.objs.size+1) scope.names []).lookup y.1).isSome=true):=λ⟨n,v⟩ hy=>by
  rcases S.par n (List.of_mem_zip hy).1 with q|q
  ·exact .inl q
  ·exact .inr ⟨q,PySem.W.cellsFrom_some _ _ _ (.inl q)⟩
 refine codeAny_call_function hr.depth (KX _ _ lk) rfl S.co S.gen rfl (PySem.W.codeRec_of KX hcd) (hb _ _ _ _ ?_);refine wpAny_newFunctionEnv_cells S.kind hkind λenv he s1 x=>?_;subst he;refine⟨lim.keeps x.toInCall.keep,codeAny_func ?_⟩;obtain⟨t,ht,hq⟩:=hbody A outer s H vs Q E (hr.deeper _) hsp;have I:Inv (gW CX P w K mg base N qual scope f cdv A outer s H E) [] (start N vs) H s1:=CV S hr.hd e0 hl r x;refine wpAny_mono (ht [] s1 (start N vs) H _ I hq) (λfl s' hs=>?_) λe s' hs=>hs;have fin:∀{σ':St} {H':Hp} {v:V} {u:Value},Inv (gW CX P w K mg base N qual scope f cdv A outer s H E) [] σ' H' s'->RelV v u->Q v H'->CE outer P w H s Q u s':=
  λ{σ' H' v u} J rv q=>⟨v,H',J.os,J.bare,J.base,J.hok,rv,q⟩
 cases fl with
 | ret u=>
  obtain⟨v,σ',H',J,rv,q⟩:=hs;exact fin J rv q
 | next=>
  obtain⟨σ',H',J,q⟩:=hs;exact fin (v:=V.non) (u:=Value.none) J rfl q
 | brk=>
  obtain⟨_,_,_,q⟩:=hs;exact False.elim q
 | cont=>
  obtain⟨_,_,_,q⟩:=hs;exact False.elim q
section
variable {X:Cx} {x:Str} {p pos:Pos} {e:Expr} {es:List Expr} {t:TA} {id T:String} {r:List V->Hp->VK->Prop}
def kH(r:List V->Hp->VK->Prop)(t:TA):TE:=λσ H Q=>t σ H λvs H1=>r vs H1 Q
def bh(hc:cQ X (.builtin id) r)(hg:Gl X x)(hm:X.mg x=none)(hv:bootBuiltins x=some (.builtin id))(ha:PA X (e::es) t)(hn:x≠"__name__":=by decide)(hdb:(x == ("__debug__":Str))=false:=by decide)
  (he:starEach (e::es) X.env=(false,eval e X.env)::starEach es X.env:=by rfl) (hpl:(backTo pos (starEach es X.env)).any (·.1)=false:=by rfl):PE X (.Call (.Name x p) (e::es) [] pos) (kH r t):=by
 intro pins s σ H Q I h;refine wpAny_Call_Name_kw (gr I hg hm hv ?_ hn hdb);exact PyProof.Rows.callWith_builtin1 (av (ha pos pins s σ H _ I h) λus s1 ⟨vs,H1,I1,r1,q1⟩=>hc pins s1 σ H1 vs us Q I1 r1 q1) he hpl
def eQ(hc:cQ X (.type T) r)(hg:Gl X x)(hm:X.mg x=none)(hv:bootBuiltins x=some (.type T))(ha:PA X (e::es) t)(hn:x≠"__name__":=by decide)(hdb:(x == ("__debug__":Str))=false:=by decide)
  (he:starEach (e::es) X.env=(false,eval e X.env)::starEach es X.env:=by rfl) (hpl:(backTo pos (starEach es X.env)).any (·.1)=false:=by rfl):PE X (.Call (.Name x p) (e::es) [] pos) (kH r t):=by
 intro pins s σ H Q I h;refine wpAny_Call_Name_kw (gr I hg hm hv ?_ hn hdb);exact PyProof.Rows.callWith_type1 (av (ha pos pins s σ H _ I h) λus s1 ⟨vs,H1,I1,r1,q1⟩=>hc pins s1 σ H1 vs us Q I1 r1 q1) he hpl
end
end L2
namespace HT
open PySem PyProof.Rows
section
open PySem.SeqAt
open PySem.AutoSeq1 (wpAny_loadPart')
open PySem.MeetsSeq PySem.MeetsSeq2 PySem.MeetsSeq3
end
section
variable {prog:Program} {w:World} {A:Around} {E:Value->Shared->Prop} {s:Shared}
def aN(n d:Nat):Option Int->Nat
 | none=>d
 | some v=>if v<0 then(v+(n:Int)).toNat else min v.toNat n
def pG(n d:Nat):aN n d none=d:=rfl
def vR(n d k:Nat):aN n d (some (k:Int))=min k n:=by show(if(k:Int)<0 then((k:Int)+(n:Int)).toNat else min (k:Int).toNat n)=min k n;rw[FH (by omega),EY]
def ya(n d:Nat)(hd:d<=n)(o:Option Int):aN n d o<=n:=by
 cases o with
 | none=>exact hd
 | some v=>
  show(if v<0 then(v+(n:Int)).toNat else min v.toNat n)<=n;by_cases hv:v<0
  ·rw[FI hv];omega
  ·rw[FH hv];exact Nat.min_le_right _ _
def wL(v:Int)(n d:Nat):(if v<0 then max (v+(n:Int)) 0 else min v (n:Int))=((aN n d (some v):Nat):Int):=by
 show(if v<0 then max (v+(n:Int)) 0 else min v (n:Int))=(((if v<0 then(v+(n:Int)).toNat else min v.toNat n):Nat):Int);by_cases hv:v<0
 ·simp only[FI hv];omega
 ·simp only[FH hv];omega
def yZ(lo hi:Option Int)(n:Nat):Builtin.Slice.sliceAdjust lo hi 1 (n:Int)=(((aN n 0 lo:Nat):Int),((aN n n hi:Nat):Int)):=by
 have h1:¬((1:Int)<0):=by omega
 unfold Builtin.Slice.sliceAdjust;simp only[h1,if_false];refine Prod.ext ?_ ?_
 ·cases lo with
  | none=>rfl
  | some v=>exact wL v n 0
 ·cases hi with
  | none=>rfl
  | some v=>exact wL v n n
def zg(i j:Nat):Builtin.Slice.slicePlaces (i:Int) (j:Int) 1=j-i:=by
 unfold Builtin.Slice.slicePlaces;have h1:(1:Int)>0:=by omega
 simp only[h1,if_true,Int.ediv_one];split<;>omega
def qC{v:Value}{o:Option Int}{Q:Option Int->Shared->Prop}(p:IsPart v o)(h:Q o s):wpAny (model prog w) A (Builtin.Slice.slicePartIndex v) Q E s:=by
 cases p with
 | none=>exact slicePart_none h
 | int i t=>exact slicePart_int h
def rS{sl:Addr}{vl vu:Value}{lo hi:Option Int}{n:Nat}{Q:Int×Int×Nat->Shared->Prop}(hs:s.heap.IsSliceOf sl vl vu .none)(pl:IsPart vl lo)(pu:IsPart vu hi)
  (h:Q (((aN n 0 lo:Nat):Int),1,aN n n hi-aN n 0 lo) s):wpAny (model prog w) A (Builtin.Slice.sliceApplied (.ref sl) (pure (n:Int))) Q E s:=by
 obtain⟨os,hos,hcs,hds⟩:=id hs;unfold Builtin.Slice.sliceApplied Builtin.Slice.sliceFields;refine EE (EE (wpAny_field hos hds (x:=vl) rfl (EE (wpAny_field hos hds (x:=vu) rfl (EE (wpAny_field hos hds (x:=.none) rfl (EF ?_)))))));refine EE (slicePart_none ?_);show wpAny _ _ (if((1:Int) == 0)=true then _ else _) _ _ s;rw[FH (by decide)];refine EE (qC pl (EE (qC pu (EE (EF ?_)))));show wpAny _ _ (match Builtin.Slice.sliceAdjust lo hi 1 (n:Int)with|(lo,hi)=>pure (lo,(1:Int),Builtin.Slice.slicePlaces lo hi 1)) _ _ s;rw[yZ lo hi n];show wpAny _ _ (pure (((aN n 0 lo:Nat):Int),(1:Int),Builtin.Slice.slicePlaces ((aN n 0 lo:Nat):Int) ((aN n n hi:Nat):Int) 1)) _ _ s;rw[zg];exact EF h
def Aw(xs:Array Value)(i k:Nat):((FE k).filterMap λ(m:Nat)=>xs[((i:Int)+(m:Int)*1).toNat]?).toArray=((xs.toList.drop i).take k).toArray:=by
 have e:(λ(m:Nat)=>xs[((i:Int)+(m:Int)*1).toNat]?)=λm=>xs[i+m]?:=by
  funext m;have:((i:Int)+(m:Int)*1).toNat=i+m:=by omega
  rw[this]
 rw[e];have:=pick_run xs i k;rw[List.filterMap_map]at this;have e2:((λx=>xs[x]?)∘λx=>i+x)=λm=>xs[i+m]?:=rfl;rw[e2]at this;rw[this]
def Ee{t sl:Addr}{items:Array Value}{vl vu:Value}{lo hi:Option Int}{Q:Value->Shared->Prop}(ht:IsTup s.heap t items)(hs:s.heap.IsSliceOf sl vl vu .none)(pl:IsPart vl lo)(pu:IsPart vu hi)
  (hw:¬(aN items.size 0 lo=0/\aN items.size items.size hi=items.size))
  (h:Q (.ref s.heap.objs.size) { s with heap:=s.heap.push { cls:=.type "tuple",data:=.seq ((items.toList.drop (aN items.size 0 lo)).take (aN items.size items.size hi-aN items.size 0 lo)).toArray } })
  (hsz:items.size<=sizeLine):wpAny (model prog w) A (getItem (.ref t) (.ref sl)) Q E s:=by
 have htake:sizeOk (.seq ((items.toList.drop (aN items.size 0 lo)).take (aN items.size items.size hi-aN items.size 0 lo)).toArray):=by show((items.toList.drop (aN items.size 0 lo)).take (aN items.size items.size hi-aN items.size 0 lo)).toArray.size<=sizeLine;rw[ER,FA,List.length_drop,EO];omega
 have hj:aN items.size items.size hi<=items.size:=ya _ _ (E6 _) hi;obtain⟨os,hos,hcs,hds⟩:=id hs;have hTs:s.TypeIs (.ref sl) "slice":=⟨os,hos,hcs⟩;unfold getItem
 try with_reducible refine wpAny_holding ?_
 first|refine EE (EF ?_)|skip
 refine EE (wpAny_sequenceKey ht.typeIs (by decide) ?_);refine EE (FD (name:=Fp "__getitem__") ht.typeIs PyProof.Rows.slot_tuple_getitem
  (wpAny_call_entry PyProof.Rows.slot_tuple_getitem ht.typeIs entry_tuple_getitem ?_ (args_tuple_getitem _ _)))
 show wpAny _ _ (Builtin.Tuple.tupleItemsOf (.ref t) >>= _) _ _ s;refine EE (tupleItemsOf_ ht ?_);refine EE (wpAny_typeOf hTs ?_);rw[FI (by decide)];refine EE (rS hs pl pu ?_);have hno:¬((((aN items.size 0 lo:Nat):Int) == 0 && (1:Int) == 1 && (aN items.size items.size hi-aN items.size 0 lo) == items.size)=true):=by intro q;rw[Fo,Fo]at q;have q1:((aN items.size 0 lo:Nat):Int)=0:=eq_of_beq q.1.1;have q2:aN items.size items.size hi-aN items.size 0 lo=items.size:=eq_of_beq q.2;exact hw ⟨by omega,by omega⟩
 show wpAny _ _ (if(((aN items.size 0 lo:Nat):Int) == 0 && (1:Int) == 1 && (aN items.size items.size hi-aN items.size 0 lo) == items.size)=true then _ else _) _ _ s;rw[FH hno,Aw]
 first
  | exact EE (m:=Builtin.Tuple.tupleExact _) (wpAny_newObj_type (EF ⟨_,rfl,EF h⟩) htake)
  | exact EE (m:=Builtin.Tuple.tupleExact _) (wpAny_newObj_type (EE (EF (EF ⟨_,rfl,EF h⟩))) htake)
  | exact EE (EE (m:=Builtin.Tuple.tupleExact _) (wpAny_newObj_type (EF (EF ⟨_,rfl,EF h⟩)) htake))
  | exact EE (EE (m:=Builtin.Tuple.tupleExact _) (wpAny_newObj_type (EF ⟨_,rfl,EF h⟩) htake))
end
end HT
namespace L2
open PySem PySem.Spec PyProof.Rows
abbrev TO:=St->Hp->(Option Int->Hp->Prop)->Prop
def PO(X:Cx)(e:Option Expr)(t:TO):Prop:=
 ∀(pins:List (Addr×Obj)) (s:Shared) (σ:St) (H:Hp) (Q:Option Int->Hp->Prop),Inv X pins σ H s->t σ H Q →
  wpAny (model X.prog X.w) X.A (evalPart e X.env) (λu s'=>∃o H',Inv X pins σ H' s'/\IsPart u o/\Q o H') X.xe s
def qD:TO:=λ_ H Q=>Q none H
def uM(t:TE):TO:=λσ H Q=>t σ H λx H1=>∃i,x=.int i/\Q (some i) H1
def intsAre_of{ns:List Int}:∀{us:List Value},Vals (ns.map V.int) us->IntsAre us ns:=by
 induction ns with
 | nil=>intro us r;rw[List.map_nil]at r;cases r;exact .nil
 | cons n ns ih=>
  intro us r;rw[List.map_cons]at r;cases r with
  | cons r1 r2=>
   obtain⟨t,e⟩:=r1;subst e;exact .cons n t (ih r2)
section
variable {X:Cx} {e:Expr} {te:TE} {lo hi:Option Expr} {tl th:TO} {pos p2:Pos}
def iK:PO X none qD:=by intro pins s σ H Q I h;rw[evalPart_none];exact EF ⟨none,H,I,.none,h⟩
def f6(h:PE X e te):PO X (some e) (uM te):=by intro pins s σ H Q I hw;rw[evalPart_some];refine av (h pins s σ H _ I hw) λu s1 ⟨x,H1,I1,r1,q1⟩=>?_;obtain⟨i,rfl,q⟩:=q1;obtain⟨t,rfl⟩:=r1;exact⟨some i,H1,I1,.int i t,q⟩
def jl(X:Cx)(r:V->Option Int->Option Int->Hp->VK->Prop):Prop:=
 ∀(pins:List (Addr×Obj)) (s:Shared) (σ:St) (H:Hp) (x:V) (v vl vu:Value) (lo hi:Option Int) (sl:Addr) (Q:VK),Inv X pins σ H s->RelV x v->s.heap.IsSliceOf sl vl vu .none->IsPart vl lo->IsPart vu hi->r x lo hi H Q →
  ∃T id,typeLookup (.type T) "__getitem__" = pure (some (.builtin id))/\s.TypeIs v T/\wpAny (model X.prog X.w) X.A (getItem v (.ref sl)) (EP X pins σ Q) X.xe s
def vP(r:V->Option Int->Option Int->Hp->VK->Prop)(te:TE)(tl th:TO):TE:=λσ H Q=>te σ H λx H1=>tl σ H1 λl H2=>th σ H2 λu H3=>r x l u H3 Q
def ie{r:V->Option Int->Option Int->Hp->VK->Prop}(hr:jl X r)(he:PE X e te)(hl:PO X lo tl)(hu:PO X hi th):PE X (.Subscript e (.Slice lo hi none p2) pos) (vP r te tl th):=by intro pins s σ H Q I h;refine Subscript_ (av (he pins s σ H _ I h) λv s1 ⟨x,H1,I1,r1,q1⟩=>?_);refine wpAny_Slice (av (hl pins s1 σ H1 _ I1 q1) λvl s2 ⟨l,H2,I2,pl,q2⟩=>av (hu pins s2 σ H2 _ I2 q2) λvu s3 ⟨u,H3,I3,pu,q3⟩=>?_);rw[evalPart_none];refine EF ?_;have I4:Inv X pins σ H3 { s3 with heap:=s3.heap.push { cls:=.type "slice",data:=.fields #[vl,vu,.none] } }:=I3.kept (t':=s3.toks) λb ob q=>EH _ q;obtain⟨T,id,hT,ht,hg⟩:=hr pins { s3 with heap:=s3.heap.push { cls:=.type "slice",data:=.fields #[vl,vu,.none] } } σ H3 x v vl vu l u s3.heap.objs.size Q I4 r1 (Heap.IsSliceOf.new ..) pl pu q3;show wpAny (model X.prog X.w) X.A (subscriptTail e (.Slice lo hi none p2) v (.ref s3.heap.objs.size)) (EP X pins σ Q) X.xe { s3 with heap:=s3.heap.push { cls:=.type "slice",data:=.fields #[vl,vu,.none] } };exact tail_any (ops:=[.ref s3.heap.objs.size,v]) ht hT hg (by with_unfolding_all rfl)
def cj(xs:List V)(lo hi:Option Int):List V:=(xs.drop (HT.aN xs.length 0 lo)).take (HT.aN xs.length xs.length hi-HT.aN xs.length 0 lo)
def qS(xs:List V)(lo hi:Option Int):(cj xs lo hi).length<=xs.length:=by unfold cj;rw[FA,List.length_drop];omega
def Dt(K:EG):V->Option Int->Option Int->Hp->VK->Prop:=λx lo hi H Q=>∃a xs,x=.ref a/\ai K H a xs ∧
 ¬(HT.aN xs.length 0 lo=0/\HT.aN xs.length xs.length hi=xs.length)/\∀p,H p=none->Q (.ref p) (upd H p (.tup (cj xs lo hi)))
def BS:jl X (Dt X.K):=by
 intro pins s σ H x v vl vu lo hi sl Q I rx hs pl pu h;obtain⟨a,xs,rfl,hx,hw,q⟩:=h;cases rx;obtain⟨its,r,ht,hz⟩:=I.tuple hx;have hlen:its.toArray.size=xs.length:=by rw[ER];exact r.length.symm
 refine⟨"tuple",_,PyProof.Rows.slot_tuple_getitem.lookup,ht.typeIs,?_⟩;refine HT.Ee ht hs pl pu (by rw[hlen];exact hw) ?_ (by rw[hlen];exact hz);rw[hlen];refine⟨.ref s.heap.objs.size,_,I.laid (t':=s.toks) (o:=.tup (cj xs lo hi)) (λb ob q=>EH _ q) (E6 _) ?_,rfl,q _ (I.hok.fresh (E6 _))⟩;exact⟨Fi (qS xs lo hi) hz,_,(r.drop (HT.aN xs.length 0 lo)).take (HT.aN xs.length xs.length hi-HT.aN xs.length 0 lo),IsTup.new _ _⟩
end
def fi(n:Nat)(i:Int):Option Nat:=if 0<=i then(if i<n then some i.toNat else none)else if -(n:Int)<=i then some (i+n).toNat else none
def bz{α:Type}(xs:List α)(i:Int):Option α:=(fi xs.length i).bind λj=>xs[j]?
def sU{n:Nat}{i:Int}{j:Nat}(h:fi n i=some j):seqIndex? i n=some j/\j<n/\-(n:Int)<=i/\i<n:=by
 unfold fi at h;by_cases h0:0<=i
 ·rw[FI h0]at h;by_cases h1:i<n
  ·rw[FI h1]at h;have e:i.toNat=j:=Fq h;exact⟨by rw[seqIndex_of h0 h1,e],by omega,by omega,h1⟩
  ·rw[FH h1]at h;cases h
 ·rw[FH h0]at h;by_cases h1:-(n:Int)<=i
  ·rw[FI h1]at h;have e:(i+n).toNat=j:=Fq h;exact⟨by rw[seqIndex_neg (by omega) h1,e],by omega,h1,by omega⟩
  ·rw[FH h1]at h;cases h
def md{α:Type}{xs:List α}{i:Int}{v:α}(h:bz xs i=some v):∃j,seqIndex? i xs.length=some j/\xs[j]?=some v/\j<xs.length/\-(xs.length:Int)<=i/\i<xs.length:=by
 unfold bz at h;cases e:fi xs.length i with
 | none=>rw[e]at h;cases h
 | some j=>
  rw[e]at h;obtain⟨h1,h2,h3,h4⟩:=sU e;exact⟨j,h1,h,h2,h3,h4⟩
def gK{α:Type}{xs:List α}{j:Nat}{v:α}(h:xs[j]?=some v):bz xs (j:Int)=some v:=by
 have hj:j<xs.length:=(EU.mp h).1;have e:fi xs.length (j:Int)=some j:=by unfold fi;rw[FI (by omega),FI (by omega)];simp
 unfold bz;rw[e];exact h
def x9(b:Expr):Prop:=∀o i,subscripted b false o i=operate [o,i] (getItem o i)
def i5(X:Cx)(r:R2):Prop:=
 ∀(value slice:Expr) (pins:List (Addr×Obj)) (s:Shared) (σ:St) (H:Hp) (x y:V) (v u:Value) (Q:VK),Inv X pins σ H s->RelV x v->RelV y u->r x y H Q →
  subscripted slice false v u=operate [v,u] (getItem v u)->wpAny (model X.prog X.w) X.A (subscriptTail value slice v u) (EP X pins σ Q) X.xe s
def jk(X:Cx)(id:String)(r:V->List V->Hp->VK->Prop):Prop:=
 ∀(pins:List (Addr×Obj)) (s:Shared) (σ:St) (H:Hp) (x:V) (xs:List V) (v:Value) (us:List Value) (Q:VK),Inv X pins σ H s->RelV x v->Vals xs us->r x xs H Q →
  wpAny (model X.prog X.w) X.A (call (.builtin id) (v::us)) (EP X pins σ Q) X.xe s
section
variable {X:Cx} {a b:Expr} {ta tb:TE} {pos:Pos}
def ah{r:R2}(hr:i5 X r)(ha:PE X a ta)(hb:PE X b tb)(hs:x9 b):PE X (.Subscript a b pos) (iw r ta tb):=by intro pins s σ H Q I h;exact Subscript_ (pQ ha hb I h λv u s2 x y H2 I2 rx ry q=>hr a b pins s2 σ H2 x y v u Q I2 rx ry q (hs _ _))
def mX(K:EG):R2:=λx y H Q=>∃p xs i v,x=.ref p/\y=.int i/\ag K H p xs/\bz xs i=some v/\Q v H
def oO(K:EG):R2:=λx y H Q=>∃p xs i v,x=.ref p/\y=.int i/\ai K H p xs/\bz xs i=some v/\Q v H
def Ck:R2:=λx y H Q=>∃z i c,x=.str z/\y=.int i/\z.length<=sizeLine/\bz z.cps.toList i=some c/\Q (.str ⟨#[c]⟩) H
def Br:i5 X (mX X.K):=by
 intro value slice pins s σ H x y v u Q I rx ry h hs;obtain⟨p,xs,i,z,rfl,rfl,hq,he,q⟩:=h;cases rx;obtain⟨t,rfl⟩:=ry;obtain⟨its,r,pl,hz⟩:=I.list hq;obtain⟨j,h1,h2,h3,h4,h5⟩:=md he;obtain⟨w,ew,rw'⟩:=r.get h2;have hl:=r.length;have hn:=iH;have fin:EP X pins σ Q w s:=⟨z,H,I,rw',q⟩;by_cases h0:0<=i
 ·have hj:i.toNat=j:=by rw[seqIndex_of h0 h5]at h1;exact Fq h1
  exact item_listR pl.isList h0 (by omega) (by rw[hj];simpa using ew) fin hs
 ·have hj:(i+(its.toArray.size:Int)).toNat=j:=by rw[seqIndex_neg (by omega) h4]at h1;rw[ER,←hl];exact Fq h1
  exact subscriptTail_builtinR (x:=w) pl.isList.typeIs slot_list_getitem.lookup
   (wpAny_getItem_list_neg (Q:=λr s'=>r=w/\EP X pins σ Q r s') pl.isList (by omega) (by rw[ER]<;>omega) (by omega) (by rw[hj];simpa using ew) ⟨rfl,fin⟩) hs
def zG:i5 X (oO X.K):=by
 intro value slice pins s σ H x y v u Q I rx ry h hs;obtain⟨p,xs,i,z,rfl,rfl,hq,he,q⟩:=h;cases rx;obtain⟨t,rfl⟩:=ry;obtain⟨its,r,pl,hz⟩:=I.tuple hq;obtain⟨j,h1,h2,h3,h4,h5⟩:=md he;obtain⟨w,ew,rw'⟩:=r.get h2;have hl:=r.length;have hn:=iH;have fin:EP X pins σ Q w s:=⟨z,H,I,rw',q⟩;exact subscriptTail_builtinR (x:=w) pl.typeIs slot_tuple_getitem.lookup
  (getItem_tuple (j:=j) (Q:=λr s'=>r=w/\EP X pins σ Q r s') pl (by omega) (by omega) (by rw[ER,←hl];exact h1) (by simpa using ew) ⟨rfl,fin⟩) hs
def wq:i5 X Ck:=by
 intro value slice pins s σ H x y v u Q I rx ry h hs;obtain⟨z,i,c,rfl,rfl,hz,he,q⟩:=h;obtain⟨t,rfl⟩:=rx;obtain⟨t',rfl⟩:=ry;obtain⟨j,h1,h2,h3,h4,h5⟩:=md he;have hl:z.cps.toList.length=z.length:=by simp[Str.length]
 rw[hl]at h1 h4 h5;have hn:=iH;exact tail_any (typeIs_str s z t) slot_str_getitem.lookup (getItem_str (c:=c) (by have e1:decide (i < -(2 ^ 63:Int))=false:=FF (by omega);have e2:decide (i ≥ 2 ^ 63)=false:=FF (by omega);rw[e1,e2,Bool.or_false]) (by rw[h1];simpa using h2) ⟨.str ⟨#[c]⟩,H,I.tok _,⟨_,rfl⟩,q⟩) hs
def yC(its:List Value)(n j:Nat)(u:Value):Obj.mapSeq (·.setIfInBounds j u) { cls:=.type "list",data:=.seq its.toArray n }={ cls:=.type "list",data:=.seq (its.set j u).toArray n }:=by simp[Obj.mapSeq]
def Inv.lst{pins:List (Addr×Obj)}{σ:St}{H:Hp}{s:Shared}{p:Addr}{xs:List V}(I:Inv X pins σ H s)(h:H p=some (.lst xs)):
  ∃(its:List Value) (n:Nat),Vals xs its/\s.heap.get? p=some { cls:=.type "list",data:=.seq its.toArray n }/\xs.length<=sizeLine:=by
 obtain⟨z,its,n,r,e⟩:=I.hok p _ h;exact⟨its,n,r,e,z⟩
def Inv.lstUpd{pins:List (Addr×Obj)}{σ:St}{H:Hp}{s:Shared}{p:Addr}{xs ys:List V}{its its':List Value}{n n':Nat}{f:Obj->Obj}(I:Inv X pins σ H s)(h:H p=some (.lst xs))
  (ho:s.heap.get? p=some { cls:=.type "list",data:=.seq its.toArray n }) (hf:f { cls:=.type "list",data:=.seq its.toArray n }={ cls:=.type "list",data:=.seq its'.toArray n' }) (r:Vals ys its') (hz:ys.length<=sizeLine) (t:Nat) :
  Inv X pins σ (upd H p (.lst ys)) { s with heap:=s.heap.update p f,toks:=t }:=by
 have e:(s.heap.update p f).get? p=some { cls:=.type "list",data:=.seq its'.toArray n' }:=by rw[Heap.get?_update_self f ho (by rw[hf]<;>rfl),hf]
 refine I.write (x:=p) (e:=p) (by rw[h];trivial) (.inl rfl) (λb u hb q=>(Heap.get?_update_other _ _ (Ne.symm hb)).trans q) ⟨_,e⟩ ?_;exact⟨hz,its',n',r,e⟩
def r9:V->V->V->Hp->(Hp->Prop)->Prop:=λo i v H Q=>∃p xs k j,o=.ref p/\i=.int k/\H p=some (.lst xs)/\fi xs.length k=some j/\Q (upd H p (.lst (xs.set j v)))
def set_list:rh X r9:=by
 intro pins s σ H o i v ov iv u Q I ro ri rv h;obtain⟨p,xs,k,j,rfl,rfl,hp,hj,q⟩:=h;cases ro;obtain⟨t,rfl⟩:=ri;obtain⟨its,n,r,ho,hz⟩:=I.lst hp;obtain⟨h1,h2,h3,h4⟩:=sU hj;have hl:=r.length;have hn:=iH;have I':Inv X pins σ (upd H p (.lst (xs.set j v))) { s with heap:=s.heap.update p (Obj.mapSeq (·.setIfInBounds j u)) }:=
  I.lstUpd hp ho (yC its n j u) (r.set rv j) (by rw[List.length_set];exact hz) s.toks
 by_cases h0:0<=k
 ·have hk:k.toNat=j:=by rw[seqIndex_of h0 h4]at h1;exact Fq h1
  exact PySem.W.ki_setAt ho h0 (by omega) (by rw[ER,←hl];exact h4) (by rw[hk];exact⟨_,I',q⟩)
 ·have hk:(k+(its.toArray.size:Int)).toNat=j:=by rw[seqIndex_neg (by omega) h3]at h1;rw[ER,←hl];exact Fq h1
  exact PySem.W.ki_setBack ho (by omega) (by rw[ER,←hl];exact h3) (by omega) (by rw[hk];exact⟨_,I',q⟩)
def CI(lo hi:Option Int)(n:Nat):(sliceBounds lo hi none n).1=((HT.aN n 0 lo:Nat):Int)/\(sliceBounds lo hi none n).2.1=((HT.aN n n hi:Nat):Int)/\(sliceBounds lo hi none n).2.2=1:=by
 refine⟨?_,?_,rfl⟩
 ·cases lo with
  | none=>simp[sliceBounds,HT.aN]
  | some i=>
   simp only[sliceBounds,HT.aN,Option.getD_none,show (1:Int)>0 by decide,if_true];by_cases h:i<0
   ·simp only[h,if_true]<;>omega
   ·simp only[h,if_false]<;>omega
 ·cases hi with
  | none=>simp[sliceBounds,HT.aN]
  | some i=>
   simp only[sliceBounds,HT.aN,Option.getD_none,show (1:Int)>0 by decide,if_true];by_cases h:i<0
   ·simp only[h,if_true]<;>omega
   ·simp only[h,if_false]<;>omega
def Ao(its:List Value)(lo hi:Option Int):slicePick its.toArray lo hi none=((its.drop (HT.aN its.length 0 lo)).take (HT.aN its.length its.length hi-HT.aN its.length 0 lo)).toArray:=by obtain⟨h1,h2,h3⟩:=CI lo hi its.toArray.size;unfold slicePick;rw[h1,h2,h3];simp only[sliceRange_one,pick_run,ER]<;>rfl
def m5(K:EG):V->Option Int->Option Int->Hp->VK->Prop:=λx lo hi H Q=>∃a xs,x=.ref a/\ag K H a xs/\∀p,H p=none->Q (.ref p) (upd H p (.lst (cj xs lo hi)))
def zU:jl X (m5 X.K):=by intro pins s σ H x v vl vu lo hi sl Q I rx hs pl pu h;obtain⟨a,xs,rfl,hx,q⟩:=h;cases rx;obtain⟨its,r,ht,hz⟩:=I.list hx;have hlen:=r.length;refine⟨"list",_,slot_list_getitem.lookup,ht.isList.typeIs,?_⟩;refine wpAny_getItem_list_slice ht.isList hs pl pu .none (by simp) ?_ (by rw[ER]<;>omega);rw[Ao,←hlen];refine⟨.ref s.heap.objs.size,_,I.laid (t':=s.toks) (o:=.lst (cj xs lo hi)) (λb ob q=>EH _ q) (E6 _) ?_,rfl,q _ (I.hok.fresh (E6 _))⟩;exact⟨Fi (qS xs lo hi) hz,_,0,(r.drop (HT.aN xs.length 0 lo)).take (HT.aN xs.length xs.length hi-HT.aN xs.length 0 lo),EI _ rfl⟩
def eS:V->Bool
 | .non=>true
 | .bl _=>true
 | .int _=>true
 | .str _=>true
 | _=>false
def gE:V->V->Bool
 | .non,.non=>true
 | .bl a,.bl b=>a == b
 | .bl a,.int b=>(if a then 1 else 0) == b
 | .int a,.bl b=>a == (if b then 1 else 0)
 | .int a,.int b=>a == b
 | .str a,.str b=>a == b
 | _,_=>false
def zf{A:Around}{s:Shared}{y x:V}{u v:Value}(ry:RelV y u)(rx:RelV x v)(fy:eS y=true)(fx:eS x=true):SeqAt.EqAt A s u v (gE y x):=by
 cases y with
 | non=>
  cases ry;cases x with
  | non=>cases rx;exact SeqAt.EqAt.same _
  | bl b=>cases rx;exact SeqAt.EqAt.none_bool b
  | int b=>obtain⟨t,rfl⟩:=rx;exact SeqAt.EqAt.none_int b t
  | str b=>obtain⟨t,rfl⟩:=rx;exact SeqAt.EqAt.none_str b t
  | _=>exact absurd (show false=true from fx) E2
 | bl a=>
  cases ry;cases x with
  | non=>cases rx;exact SeqAt.EqAt.bool_none a
  | bl b=>cases rx;exact SeqAt.EqAt.bool_bool a b
  | int b=>obtain⟨t,rfl⟩:=rx;exact SeqAt.EqAt.bool_int a b t
  | str b=>obtain⟨t,rfl⟩:=rx;exact SeqAt.EqAt.bool_str a b t
  | _=>exact absurd (show false=true from fx) E2
 | int a=>
  obtain⟨t',rfl⟩:=ry;cases x with
  | non=>cases rx;exact SeqAt.EqAt.int_none a t'
  | bl b=>cases rx;exact SeqAt.EqAt.int_bool a t' b
  | int b=>obtain⟨t,rfl⟩:=rx;exact SeqAt.EqAt.int_int a t' b t
  | str b=>obtain⟨t,rfl⟩:=rx;exact SeqAt.EqAt.int_str a t' b t
  | _=>exact absurd (show false=true from fx) E2
 | str a=>
  obtain⟨t',rfl⟩:=ry;cases x with
  | non=>cases rx;exact SeqAt.EqAt.str_none a t'
  | bl b=>cases rx;exact SeqAt.EqAt.str_bool a t' b
  | int b=>obtain⟨t,rfl⟩:=rx;exact SeqAt.EqAt.str_int a t' b t
  | str b=>obtain⟨t,rfl⟩:=rx;exact SeqAt.EqAt.str_str a t' b t
  | _=>exact absurd (show false=true from fx) E2
 | _=>exact absurd (show false=true from fy) E2
def fJ(x:V)(u:Value):Bool:=match u with
 | .none=>gE .non x
 | .bool b=>gE (.bl b) x
 | .int i _=>gE (.int i) x
 | .str z _=>gE (.str z) x
 | _=>false
def uK{x y:V}{u:Value}(r:RelV y u)(f:eS y=true):fJ x u=gE y x:=by
 cases y with
 | non=>cases r;rfl
 | bl b=>cases r;rfl
 | int i=>obtain⟨t,rfl⟩:=r;rfl
 | str z=>obtain⟨t,rfl⟩:=r;rfl
 | _=>exact absurd (show false=true from f) E2
def nG{x:V}:∀{xs:List V} {us:List Value},Vals xs us->xs.all eS=true->us.any (fJ x)=xs.any λy=>gE y x
 | _,_,.nil,_=>rfl
 | y::xs,u::us,.cons r t,f=>by rw[List.all_cons,Fo]at f;rw[List.any_cons,List.any_cons,uK r f.1,nG t f.2]
def me{A:Around}{s:Shared}{x:V}{v:Value}(rx:RelV x v)(fx:eS x=true):∀{xs:List V} {us:List Value},Vals xs us->xs.all eS=true->∀u∈us,SeqAt.EqAt A s u v (fJ x u)
 | _,_,.nil,_=>λu hu=>by cases hu
 | y::xs,u::us,.cons r t,f=>λu' hu=>by
  rw[List.all_cons,Fo]at f;rcases E1.mp hu with rfl|hu
  ·rw[uK r f.1];exact zf r rx f.1 fx
  ·exact me rx fx t f.2 u' hu
def ij(x:V)(xs:List V):Bool:=xs.any λy=>gE y x
def oN(K:EG)(neg:Bool):R2:=λx y H Q=>∃p xs,y=.ref p/\(ag K H p xs\/ai K H p xs)/\eS x=true/\xs.all eS=true/\Q (.bl (if neg then !ij x xs else ij x xs)) H
def BM:bD X (compareOp .In) (oN X.K false):=by
 intro pins s σ H x y v u Q I rx ry h;obtain⟨p,xs,rfl,hq,fx,fs,q⟩:=h;cases ry;rcases hq with hq|hq
 ·obtain⟨its,r,pl,hz⟩:=I.list hq;refine SeqAt.in_listAt (fJ x) pl.isList (λw hw=>me rx fx r fs w (by simpa using hw)) ⟨.bl _,H,I,rfl,?_⟩;rw[show its.toArray.any (fJ x)=its.any (fJ x) by simp,nG r fs];exact q
 ·obtain⟨its,r,pl,hz⟩:=I.tuple hq;refine SeqAt.in_tupleAt (fJ x) pl (λw hw=>me rx fx r fs w (by simpa using hw)) ⟨.bl _,H,I,rfl,?_⟩;rw[show its.toArray.any (fJ x)=its.any (fJ x) by simp,nG r fs];exact q
def Bs:cQ X (.builtin "len") (λxs H Q=>∃p ys,xs=[.ref p]/\(ag X.K H p ys\/ai X.K H p ys)/\Q (.int ys.length) H):=by
 intro pins s σ H xs us Q I r h;obtain⟨p,ys,rfl,hq,q⟩:=h;obtain⟨u,rfl,rx⟩:=vals1 r;cases rx;have hn:=iH;rcases hq with hq|hq
 ·obtain⟨its,r',pl,hz⟩:=I.list hq;have hlen:=r'.length;exact Calls.call_len_list pl.isList (by simp only[ER]<;>omega) ⟨.int ys.length,H,I.tok _,⟨s.toks+1,by rw[ER,hlen]⟩,q⟩
 ·obtain⟨its,r',pl,hz⟩:=I.tuple hq;have hlen:=r'.length;exact len_tuple pl (by simp only[ER]<;>omega) ⟨.int ys.length,H,I.tok _,⟨s.toks+1,by rw[ER,hlen]⟩,q⟩
def CD:cQ X (.builtin "len") (λxs H Q=>∃z,xs=[.str z]/\z.length<=sizeLine/\Q (.int z.length) H):=by intro pins s σ H xs us Q I r h;obtain⟨z,rfl,hz,q⟩:=h;obtain⟨u,rfl,t,rfl⟩:=vals1 r;have hn:=iH;exact len_str (by omega) ⟨.int z.length,H,I.tok _,⟨_,rfl⟩,q⟩
def CF:cQ X (.type "tuple") (λxs H Q=>∃p ys,xs=[.ref p]/\((ag X.K H p ys/\∀l,H l=none->Q (.ref l) (upd H l (.tup ys)))\/(ai X.K H p ys/\Q (.ref p) H))):=by
 intro pins s σ H xs us Q I r h;obtain⟨p,ys,rfl,h⟩:=h;obtain⟨u,rfl,rx⟩:=vals1 r;cases rx;rcases h with⟨hq,q⟩|⟨hq,q⟩
 ·obtain⟨its,r',pl,hz⟩:=I.list hq;have hlen:=r'.length;refine call_tuple_list pl.isList (λh' kp=>?_) (by simp only[ER]<;>omega);have I1:Inv X pins σ H { s with heap:=h' }:=I.kept (t':=s.toks) kp;have I2:Inv X pins σ (upd H h'.objs.size (.tup ys)) { s with heap:=h'.push { cls:=.type "tuple",data:=.seq its.toArray } }:=
   I1.laid (t':=s.toks) (λb o e=>EH _ e) (E6 _) (show bB X.prog X.w _ _ _ (.tup ys)from⟨hz,its,r',IsTup.new _ _⟩)
  exact⟨.ref h'.objs.size,_,I2,rfl,q _ (I1.hok.fresh (E6 _))⟩
 ·obtain⟨its,r',pl,hz⟩:=I.tuple hq;exact call_tuple_same pl ⟨.ref p,H,I,rfl,q⟩
def gJ(K:EG)(T:String)(x:V)(H:Hp):Prop:=match x with
 | .str _=>T = "str"
 | .int _=>T = "int"
 | .ref p=>(T = "list"/\∃xs,ag K H p xs)\/(T = "tuple"/\∃o,K.lookup p=some o/\o.cls=.type "tuple"/\o.dict=none) ∨
   (T = "dict"/\((∃kvs,H p=some (.dK kvs))\/∃kvs,H p=some (.dT kvs)))\/(T = "set"/\∃S n,H p=some (.set S n))
 | _=>False
def wD{pins:List (Addr×Obj)}{σ:St}{H:Hp}{s:Shared}{T:String}{x:V}{v:Value}(I:Inv X pins σ H s)(r:RelV x v)(ty:gJ X.K T x H):
  s.TypeIs v T/\∀a,v=.ref a->∃ob,s.heap.get? a=some ob/\ob.dict=none:=by
 cases x with
 | str z=>
  obtain⟨t,rfl⟩:=r;cases(show T = "str" from ty);exact⟨typeIs_str s z t,λ_ e=>nomatch e⟩
 | int i=>
  obtain⟨t,rfl⟩:=r;cases(show T = "int" from ty);exact⟨typeIs_int s i t,λ_ e=>nomatch e⟩
 | ref p=>
  cases r;rcases ty with⟨rfl,xs,hq⟩|⟨rfl,o,hk,hc,hd⟩|⟨rfl,hk⟩|⟨rfl,S,n,hk⟩
  ·obtain⟨its,_,pl,_⟩:=I.list hq;refine⟨pl.isList.typeIs,λa e=>?_⟩;cases e;obtain⟨o,n,e,c,hd,_⟩:=pl;exact⟨o,e,hd⟩
  ·refine⟨⟨o,I.kIn p o hk,hc⟩,λa e=>?_⟩;cases e;exact⟨o,I.kIn _ o hk,hd⟩
  ·have z:∃o,s.heap.get? p=some o/\o.ExactDict:=by
    rcases hk with⟨kvs,hk⟩|⟨kvs,hk⟩
    ·obtain⟨_,_,_,_,o,_,_,e,ex,_⟩:=I.hok p _ hk;exact⟨o,e,ex⟩
    ·obtain⟨_,_,_,_,o,_,_,e,ex,_⟩:=I.hok p _ hk;exact⟨o,e,ex⟩
   obtain⟨o,e,ex⟩:=z;refine⟨⟨o,e,ex.1⟩,λa e2=>?_⟩;cases e2;exact⟨o,e,ex.2.1⟩
  ·obtain⟨o,_,_,_,e,ex,_⟩:=I.hok p _ hk;refine⟨⟨o,e,ex.1⟩,λa e2=>?_⟩;cases e2;exact⟨o,e,ex.2.1⟩
 | _=>exact False.elim ty
def lX(K:EG)(T:String)(r:V->List V->Hp->VK->Prop)(to:TE):TE:=λσ H Q=>to σ H λx H1=>gJ K T x H1/\r x [] H1 Q
def mK(K:EG)(T:String)(r:V->List V->Hp->VK->Prop)(to:TE)(t:TA):TE:=λσ H Q=>to σ H λx H1=>gJ K T x H1/\t σ H1 λxs H2=>r x xs H2 Q
variable {o e:Expr} {es:List Expr} {to:TE} {t:TA} {name:Str} {apos cpos:Pos} {T id:String} {r:V->List V->Hp->VK->Prop}
def zL(pa:PlainAttrs T)(slot:Slot T name id)(hty:typeOf (.builtin id)=pure (.type "method_descriptor"))(hm:jk X id r)(ho:PE X o to)
  (hbase:attributeBase o name X.env (eval o X.env)=eval o X.env:=by rfl) (hline:(apos.endLine == cpos.line)=true:=by rfl):PE X (.Call (.Attribute o name apos) [] [] cpos) (lX X.K T r to):=by
 intro pins s σ H Q I h;refine wpAny_Call_method0_late hbase hline (av (ho pins s σ H _ I h) λv s1 ⟨x,H1,I1,r1,ty,q1⟩=>?_);obtain⟨h1,h2⟩:=wD I1 r1 ty;exact⟨T,id,pa,slot,hty,h1,h2,Calls.callWith_builtin rfl (PySem.evalArgs_none (hm pins s1 σ H1 x [] v [] Q I1 r1 .nil q1))⟩
def Eo(pa:PlainAttrs T)(slot:Slot T name id)(hty:typeOf (.builtin id)=pure (.type "method_descriptor"))(hm:jk X id r)(ho:PE X o to)(ha:PA X (e::es) t)
  (hbase:attributeBase o name X.env (eval o X.env)=eval o X.env:=by rfl)
  (hfew:((backTo cpos (starEach (e::es) X.env)).all (λx=>!x.1) && (backToKw cpos (keywordEach [] X.env)).all (λx=>x.1.isSome)
   && decide ((e::es).length+([]:List Keyword).length+(if([]:List Keyword).isEmpty then 0 else 1)<30))=true:=by rfl)
  (hline:(apos.endLine == cpos.line)=true:=by rfl) (hs:starEach (e::es) X.env=(false,eval e X.env)::starEach es X.env:=by rfl) (hplain:(backTo cpos (starEach es X.env)).any (·.1)=false:=by rfl) :
  PE X (.Call (.Attribute o name apos) (e::es) [] cpos) (mK X.K T r to t):=by
 intro pins s σ H Q I h;refine wpAny_Call_method_late hbase hfew hline rfl (av (ho pins s σ H _ I h) λv s1 ⟨x,H1,I1,r1,ty,q1⟩=>?_);obtain⟨h1,h2⟩:=wD I1 r1 ty;refine⟨T,id,pa,slot,hty,h1,h2,?_⟩;have hA:=ha cpos pins s1 σ H1 _ I1 q1;rw[hs]at hA ⊢;refine Calls.callWith_builtin (by show(false || (backTo cpos (starEach es X.env)).any (·.1))=false;rw[hplain]<;>rfl) (Calls.evalArgs_plain ?_);exact av hA λus s2 ⟨vs,H2,I2,r2,q2⟩=>hm pins s2 σ H2 x vs v us Q I2 r1 r2 q2
end
def nz(X:Cx)(id:String)(r:V->List V->Hp->VK->Prop):Prop:=
 ∀(pins:List (Addr×Obj)) (s:Shared) (σ:St) (H:Hp) (x:V) (xs:List V) (v:Value) (us:List Value) (Q:VK),Inv X pins σ H s->RelV x v->Vals xs us->r x xs H Q →
  wpAny (model X.prog X.w) X.A (call (.builtin id) (v::us)) (EP X pins σ Q) X.xe s
def Vals.one:∀{x:V} {us:List Value},Vals [x] us->∃u,us=[u]/\RelV x u:=vals1
def Vals.zero:∀{us:List Value},Vals [] us->us=[]
 | _,.nil=>rfl
def Vals.dropLast{xs:List V}{us:List Value}(h:Vals xs us):Vals xs.dropLast us.dropLast:=by
 induction h with
 | nil=>exact .nil
 | cons r t ih=>
  cases t with
  | nil=>exact .nil
  | cons q t'=>exact .cons r ih
def Vals.rep{xs:List V}{us:List Value}(h:Vals xs us):∀k:Nat,Vals (Fv k xs).flatten (Fv k us).flatten
 | 0=>.nil
 | k+1=>by rw[List.replicate_succ,List.replicate_succ,List.flatten_cons,List.flatten_cons];exact Vals.append h (Vals.rep h k)
def DP{α:Type}(l:List α):l.eraseIdx (l.length-1)=l.dropLast:=by
 induction l with
 | nil=>rfl
 | cons a r ih=>
  cases r with
  | nil=>rfl
  | cons b r=>
   have e:(a::b::r).length-1=((b::r).length-1)+1:=by have h1:(a::b::r).length=r.length+2:=rfl;have h2:(b::r).length=r.length+1:=rfl;omega
   rw[e,List.eraseIdx_cons_succ,ih]
   all_goals rfl
def foldl_rep(its:List Value):∀(k:Nat) (acc:List Value),
  List.foldl (λx1 x2=>x1++x2) acc.toArray (Fv k its.toArray)=(acc++(Fv k its).flatten).toArray
 | 0,acc=>by simp
 | k+1,acc=>by
  have e:acc.toArray++its.toArray=(acc++its).toArray:=by simp
  have e2:(acc++its)++(Fv k its).flatten=acc++(Fv (k+1) its).flatten:=by rw[List.replicate_succ,List.flatten_cons,List.append_assoc]
  rw[←e2,←foldl_rep its k (acc++its),←e,List.replicate_succ,List.foldl_cons]
section
variable {X:Cx} {pins:List (Addr×Obj)} {σ:St} {H:Hp} {s:Shared} {l b:Addr} {xs ys zs:List V}
def Inv.lset{its its':List Value}{n:Nat}{f:Array Value->Array Value}{t':Nat}(I:Inv X pins σ H s)(hH:H l=some (.lst xs))
  (e:s.heap.get? l=some { cls:=.type "list",data:=.seq its.toArray n }) (hf:f its.toArray=its'.toArray) (hv:Vals ys its') (hz:ys.length<=sizeLine) :
  Inv X pins σ (upd H l (.lst ys)) { s with heap:=s.heap.update l (Obj.mapSeq f),toks:=t' }:=by
 have q:=PySem.IsL.update e f;rw[hf]at q;refine I.write (x:=l) (e:=l) (by rw[hH];exact trivial) (.inl rfl) (λb' u hb hu=>(Heap.get?_update_other s.heap (Obj.mapSeq f) (Ne.symm hb)).trans hu) ⟨_,q⟩ ?_;exact⟨hz,its',_,hv,q⟩
def Inv.lnew{its:List Value}{t':Nat}(I:Inv X pins σ H s)(hv:Vals ys its)(hz:ys.length<=sizeLine):
  Inv X pins σ (upd H s.heap.objs.size (.lst ys)) { s with heap:=s.heap.push { cls:=.type "list",data:=.seq its.toArray },toks:=t' }:=
 I.laid (λ_ _ q=>EH _ q) (E6 _) ⟨hz,its,0,hv,EI _ rfl⟩
def Inv.fresh(I:Inv X pins σ H s):H s.heap.objs.size=none:=I.hok.fresh (E6 _)
def Inv.lstM(I:Inv X pins σ H s)(hH:H l=some (.lst xs)):xs.length<=sizeLine/\∃(its:List Value) (n:Nat),Vals xs its/\xs.length=its.length/\s.heap.get? l=some { cls:=.type "list",data:=.seq its.toArray n }:=by obtain⟨z,its,n,r,e⟩:=I.hok l _ hH;exact⟨z,its,n,r,r.length,e⟩
def xt{n:Nat}(h:n<=sizeLine):Builtin.List.listTooLong n=false:=by unfold Builtin.List.listTooLong;exact FF (by omega)
end
section
variable {X:Cx}
def uC:V->List V->Hp->VK->Prop:=λx vs H Q=>∃l xs y,x=.ref l/\vs=[y]/\H l=some (.lst xs)/\xs.length<sizeLine/\Q .non (upd H l (.lst (xs++[y])))
def bL:nz X "list.append" uC:=by intro pins s σ H x vs v us Q I rx rv h;obtain⟨l,xs,y,rfl,rfl,hH,hz,q⟩:=h;cases rx;obtain⟨u,rfl,ru⟩:=rv.one;obtain⟨z,its,n,r,hl,e⟩:=I.lstM hH;refine call_meets F.slot_list_append ⟨_,e,rfl⟩ F.entry_list_append (F.args_list_append_2 _ _) (PySem.list_append l its.toArray n u (by rw[ER];omega)) ⟨e,?_⟩;refine⟨.non,_,I.lset (its':=its++[u]) hH e (by simp) (r.append (.cons ru .nil)) ?_,rfl,q⟩;rw[E4,List.length_singleton];omega
def AX:V->List V->Hp->VK->Prop:=λx vs H Q=>∃l b xs zs,x=.ref l/\vs=[.ref b]/\H l=some (.lst xs)/\H b=some (.lst zs)/\xs.length+zs.length<=sizeLine/\Q .non (upd H l (.lst (xs++zs)))
def CS:nz X "list.extend" AX:=by
 intro pins s σ H x vs v us Q I rx rv h;obtain⟨l,b,xs,zs,rfl,rfl,hH,hB,hz,q⟩:=h;cases rx;obtain⟨u,rfl,ru⟩:=rv.one;cases ru;obtain⟨z,its,n,r,hl,e⟩:=I.lstM hH;obtain⟨z2,its2,n2,r2,hl2,e2⟩:=I.lstM hB;have hsz:its.toArray.size+its2.toArray.size<=sizeLine:=by rw[ER,ER];omega
 have hlong:¬(!its.toArray.isEmpty && Builtin.List.listTooLong (its.toArray.size+its2.toArray.size))=true:=by rw[xt hsz,Bool.and_false];exact E2
 refine call_meets F.slot_list_extend ⟨_,e,rfl⟩ F.entry_list_extend (F.args_list_extend_2 _ _)
  (AutoSeq1.list_extend_list_list_0 l its.toArray n b its2.toArray n2 hlong (by rw[ER];omega) (by omega)) ⟨e,e2,?_⟩
 refine⟨.non,_,I.lset (its':=its++its2) hH e (by simp) (r.append r2) ?_,rfl,q⟩;rw[E4];omega
def yG:V->List V->Hp->VK->Prop:=λx vs H Q=>∃l xs y,x=.ref l/\vs=[]/\H l=some (.lst xs)/\xs[xs.length-1]?=some y/\Q y (upd H l (.lst xs.dropLast))
def DN:nz X "list.pop" yG:=by
 intro pins s σ H x vs v us Q I rx rv h;obtain⟨l,xs,y,rfl,rfl,hH,hy,q⟩:=h;cases rx;have hus:=rv.zero;subst hus;obtain⟨z,its,n,r,hl,e⟩:=I.lstM hH;obtain⟨u,hu,ru⟩:=r.get hy;have hy':its.toArray[its.toArray.size-1]?=some u:=by show its.toArray[its.length-1]?=some u;rw[←Array.getElem?_toList,←hl];exact hu
 refine call_meets F.slot_list_pop ⟨_,e,rfl⟩ F.entry_list_pop (F.args_list_pop_1 _) (MeetsSeq.list_pop_last l its.toArray n u hy' (by rw[ER];omega)) ⟨e,?_⟩;refine⟨y,_,I.lset (its':=its.dropLast) hH e ?_ r.dropLast ?_,ru,q⟩
 ·show its.toArray.eraseIdxIfInBounds (its.toArray.size-1)=its.dropLast.toArray;rw[ER,List.eraseIdxIfInBounds_toArray,DP]
 ·rw[List.length_dropLast];omega
def sF:R2:=λx y H Q=>∃l b xs zs,x=.ref l/\y=.ref b/\H l=some (.lst xs)/\H b=some (.lst zs)/\xs.length+zs.length<=sizeLine/\∀p,H p=none->Q (.ref p) (upd H p (.lst (xs++zs)))
def jL:bD X (binaryOp .Add) sF:=by
 intro pins s σ H x y v u Q I rx ry h;obtain⟨l,b,xs,zs,rfl,rfl,hH,hB,hz,q⟩:=h;cases rx;cases ry;obtain⟨z,its,n,r,hl,e⟩:=I.lstM hH;obtain⟨z2,its2,n2,r2,hl2,e2⟩:=I.lstM hB;refine PySem.P.add_list e e2 ?_ (by rw[ER,ER];omega);have ea:its.toArray++its2.toArray=(its++its2).toArray:=by simp
 rw[ea];exact⟨.ref _,_,I.lnew (t':=s.toks) (r.append r2) (by rw[E4];omega),rfl,q _ I.fresh⟩
def vj:R2:=λx y H Q=>∃l k xs,x=.ref l/\y=.int k/\H l=some (.lst xs)/\-(2 ^ 63)<=k/\k<2 ^ 63/\xs.length*k.toNat<=sizeLine ∧
 ∀p,H p=none->Q (.ref p) (upd H p (.lst (Fv k.toNat xs).flatten))
def len_rep{α:Type}(xs:List α)(k:Nat):(Fv k xs).flatten.length=k*xs.length:=by
 induction k with
 | zero=>simp
 | succ k ih=>rw[List.replicate_succ,List.flatten_cons,E4,ih,Nat.succ_mul,Nat.add_comm]
def pJ:bD X (binaryOp .Mult) vj:=by
 intro pins s σ H x y v u Q I rx ry h;obtain⟨l,k,xs,rfl,rfl,hH,h1,h2,hz,q⟩:=h;cases rx;obtain⟨t,rfl⟩:=ry;obtain⟨z,its,n,r,hl,e⟩:=I.lstM hH;have hlen:its.toArray.size*k.toNat<=sizeLine:=by rw[ER,←hl];exact hz
 have hcap:¬its.toArray.size*k.toNat>(2 ^ 63-1) / 8:=by
  have:(sizeLine:Nat)<=(2 ^ 63-1) / 8:=by decide
  omega
 have hfit:¬(!Builtin.List.listFitsIndex k)=true:=by rw[fitsIndex_both h1 h2];exact E2
 have hlong:¬Builtin.List.listTooLong (its.toArray.size*k.toNat)=true:=by rw[xt hlen];exact E2
 have hnew:List.foldl (λx1 x2=>x1++x2) #[] (Fv (if its.toArray.isEmpty=true then 0 else k.toNat) its.toArray)=(Fv k.toNat its).flatten.toArray:=by
  have f0:∀m:Nat,List.foldl (λx1 x2=>x1++x2) #[] (Fv m its.toArray)=(Fv m its).flatten.toArray:=λm=>by have:=foldl_rep its m [];rw[List.nil_append]at this;exact this
  rw[f0];cases its with
  | nil=>simp
  | cons a r'=>rw[FH (by simp)]
 refine wpAny_binaryOp_repeat_ref (T:="list") (U:="int") (by decide) ⟨_,e,rfl⟩ (λs'=>typeIs_int s' k t) noFill_list_mul F.fills_int_mul F.slot_int_rmul repeat_list F.slot_int_index.lookup
  (call_meets F.slot_int_rmul (typeIs_int s k t) F.entry_int_rmul (F.args_int_rmul_2 _ _) (int___rmul___int_list k t l its.toArray n)
   ⟨e,rfl,⟨_,e,rfl⟩,call_meets F.slot_list_mul ⟨_,e,rfl⟩ F.entry_list_mul (F.args_list_mul_2 _ _) (AutoListH.list___mul___list_int_3 l its.toArray n k t hfit hcap hlong) ⟨e,?_⟩⟩)
 rw[hnew];exact⟨.ref _,_,I.lnew (t':=s.toks) (r.rep k.toNat) (by rw[len_rep,Nat.mul_comm];exact hz),rfl,q _ I.fresh⟩
end
section
variable {prog:Program} {w:World} {A:Around} {E:Value->Shared->Prop} {s:Shared}
end
section
variable {X:Cx}
end
end L2
namespace Att
open PySem PySem.W PySem.Calls PyProof.Rows
def Bl{P:Params}{h:Heap}:∀(ns:List Int) (vs:List Value),WellAll P h vs (ns.map WData.int)->IntsAre vs ns:=by
 intro ns;induction ns with
 | nil=>
  intro vs w;rw[List.map_nil]at w;cases w;exact .nil
 | cons n ns ih=>
  intro vs w;rw[List.map_cons]at w;cases w with
  | cons a b=>
   cases a;exact .cons _ _ (ih _ b)
def Ca{l:OpenLaw}{n:Nat}(hn:l.most=some n){P:Params}{h:Heap}{args:List WData}{vals:List Value}
  (hpre:l.row.toRowW.claim.pre args=true) (hwl:WellAll P h vals args) :
  ∃a vs ns,vals=[Value.ref a]/\args=[WData.list (ns.map WData.int)]/\h.get? a=some { cls:=.type "list",data:=.seq vs.toArray }/\IntsAre vs ns/\ns.length<=n:=by
 have hsh:WShape.hasAll [] args [.list .int]=true:=(pre_splitW hpre).1;have hc:l.pre.holds [] { args:=args }=true:=(pre_splitW hpre).2;obtain⟨d,r,rfl,h1,h2⟩:=hasAllW_cons hsh;obtain rfl:=hasAllW_nil h2;obtain⟨xs,rfl,h3⟩:=hasW_list h1;obtain⟨ns,rfl⟩:=items_int h3;have hlen:ns.length<=n:=by
  unfold OpenLaw.pre at hc;have h4:(WTm.not (.lt (.lit (.int (n:Int))) (.len (.arg 0)))).holds [] { args:=[.list (ns.map .int)] }=true:=by have h4:=(holds_andW hc).1;rw[hn]at h4;exact h4
  have h5:=condW_of h4 (w_not (w_lt w_lit (w_len_list (w_arg rfl))));rw[EK]at h5;refine Nat.le_of_not_lt λq=>?_;have q':(n:Int)<((ns.length:Nat):Int):=by omega
  first
   | (rw[FG q']at h5;exact absurd h5 (by decide))
   | (simp at h5;omega)
 cases hwl with
 | cons w1 w2=>
  cases w2;cases w1 with
  | list ho hall=>exact⟨_,_,ns,rfl,rfl,ho,Bl ns _ hall,hlen⟩
def zp(l:OpenLaw)(args:List WData):l.row.toRowW.claim.post args (.bool true) args=true:=
 postW_of (r:=l.row.toRowW) (X:=(true == true))
  (show WShape.has [] (.bool true) .bool=true by first|rfl|decide|simp [WShape.has,WShape.arms,WShape.armsAll])
  (show(WTm.eq .res (.lit (.bool true))).value [] { args:=args,res:=some (.bool true),after:=args }=some (.bool (true == true))from w_eq_bool (w_res rfl) w_lit) rfl
def xY{l:OpenLaw}{n:Nat}{q:Program}{loose:List Str}{XP:(Str->Option Value)->Heap->Prop}{YP:World->Heap->Prop}{d:DefRec}
  (hn:l.most=some n) (hdf:d.params.defaults=[])
  (call:∀(w:World) (s₀ s₁:Shared) (mg mb:Str->Option Value) (fa:Addr) (o:Obj) (pm cd doc:Value) (a:Addr) (vs:List Value) (ns:List Int),
   Ground q loose [] XP w s₀ mg mb s₁.heap->YP w s₁.heap →
   s₁.heap.get? fa=some o->o.data=.func (docDef d.name d.params d.body d.scope pm cd doc)->s₁.heap.CodeRec cd d.name->mg d.name=some (.ref fa) →
   s₁.heap.get? a=some { cls:=.type "list",data:=.seq vs.toArray }->IntsAre vs ns->ns.length<=n->s₁.gens = #[] →
   codeAny (model l.prog w) callerA (.call (.ref fa) ⟨[.ref a],[]⟩) (λr s'=>r=.ok (.ret (.bool true))/\OldK s₁.heap s'.heap/\s'.os=s₁.os/\AllBare s'.gens) s₁) :
  WalkO q loose XP YP l.row.toRowW d [] (λf vs=>PySem.call f vs):=by
 intro w s₀ s₁ mg mb G Y fa o pm cd doc dV kV ho hd hcd hD hmg hg args vals as hpre hlay hrd hwl hlo;obtain rfl:dV=.none:=Dflts.none hD hdf;obtain rfl:kV=.none:=Dflts.noKw hD;obtain⟨a,vs,ns,rfl,rfl,hobj,hints,hlen⟩:=Ca hn hpre hwl;refine enter_call (codeAny_mono (call w s₀ s₁ mg mb fa o pm cd doc a vs ns G Y ho (fd_plain hd) hcd hmg hobj hints hlen hg) λr s' hq=>?_);obtain⟨rfl,h2,h3,h4⟩:=hq;exact⟨.inl ⟨.bool true,.bool true,[],rfl,λ_=>rfl,.bool true,zp l _,λ_=>⟨List.Pairwise.nil,λ_ hm=>(nomatch hm)⟩⟩,h2,h3,h4⟩
section
variable {prog:Program} {w:World} {A:Around} {E:Value->Shared->Prop} {s:Shared} {K:Frag}
end
end Att
namespace L2
open PySem PySem.Spec PyProof.Rows
def qP:∀{vs:List Value} {ns:List Int},IntsAre vs ns->Vals (ns.map V.int) vs
 | _,_,.nil=>.nil
 | _,_,.cons n t h=>.cons ⟨t,rfl⟩ (qP h)
def gR(s:Stmt):Arguments:=match s with
 | .FunctionDef _ a _ _ _ _ _ _ _ _=>a
 | _=>{ posonlyargs:=[],args:=[],vararg:=none,kwonlyargs:=[],kw_defaults:=[],kwarg:=none,defaults:=[] }
def eV(s:Stmt):List Stmt:=match s with
 | .FunctionDef _ _ b _ _ _ _ _ _ _=>b
 | _=>[]
def aM(s:Stmt):Scope:=match s with
 | .FunctionDef _ _ _ _ _ _ sc _ _ _=>sc
 | _=>{ kind:=.function,names:=[],isGenerator:=false,isCoroutine:=false }
abbrev dU:fZ:=λ_ _ _ _ _ _=>False
abbrev E0:XK:=λ_ _ _=>False
def Bf{X:Cx}:Passes dU X E0:=λ_ _ _ _ _ _ _ h=>h.elim
structure Fun(K:EG)(x qual:Str)(st:Stmt)(f:Addr)(fd:FuncData):Prop where
 ex:∃(oc:Value) (od:Option Addr) (kV doc pm:Value) (an:Option Addr) (cdv ct:Value) (osl:Array (Option Value)),
  fd=PySem.W.fnOf x qual (gR st) (eV st) (aM st) .none kV doc pm an cdv ct/\K.lookup f=some ⟨oc,od,.func fd,osl⟩/\PySem.W.codeIn K cdv qual=true
 kp:PySem.W.keepIn K (.ref f)=true
section
variable {P:Program} {w:World} {K:EG} {mg:Str->Option Value} {base:Heap}
def Fun.ok{x qual:Str}{st:Stmt}{f:Addr}{fd:FuncData}{N ps:List Str}{k:Nat}{sp:Sp}(F:Fun K x qual st f fd)(S:FnScope N ps (aM st))(len:∀vs H Q E,sp vs H Q E->vs.length=ps.length)
  (hbody:∀(cdv:Value) (A:Around) (outer:List Env) (s:Shared) (H:Hp) (vs:List V) (Q:VK) (E:XK),Room k (A.deeper (envOfC qual (aM st) s.heap.objs.size f cdv))->sp vs H Q E →
   ∃t,cP (gW dU P w K mg base N qual (aM st) f cdv A outer s H E).nox (eV st) t/\t { nx:=λ_ H'=>Q .non H',rt:=Q } (start N vs) H):FnOk P w K mg base dU (k+1) f fd ps sp:=by
 obtain⟨oc,od,kV,doc,pm,an,cdv,ct,osl,rfl,lk,hcd⟩:=F.ex;refine wo lk hcd S len λA outer s H vs Q E hr hsp=>?_;obtain⟨t,h,q⟩:=hbody cdv A outer s H vs Q E hr hsp;exact⟨t,h.nox,q⟩
def Fun.binds{x qual:Str}{st:Stmt}{f:Addr}{fd:FuncData}{ps:List Str}(F:Fun K x qual st f fd)
  (h:∀(kV doc pm:Value) (an:Option Addr) (cdv ct:Value) (us:List Value),us.length=ps.length->bindArgs (PySem.W.fnOf x qual (gR st) (eV st) (aM st) .none kV doc pm an cdv ct) ⟨us,[]⟩=pure (ps.zip us)):Binds K fd ps []:=by
 obtain⟨oc,od,kV,doc,pm,an,cdv,ct,osl,rfl,lk,hcd⟩:=F.ex;exact .all (h kV doc pm an cdv ct)
def xC{x qual:Str}{st:Stmt}{f:Addr}{oc:Value}{od an:Option Addr}{osl:Array (Option Value)}{kV doc pm cdv ct:Value}(l:K.lookup f=some ⟨oc,od,.func (PySem.W.fnOf x qual (gR st) (eV st) (aM st) .none kV doc pm an cdv ct),osl⟩)
  (c:PySem.W.codeIn K cdv qual=true) (k:PySem.W.keepIn K (.ref f)=true):Fun K x qual st f (PySem.W.fnOf x qual (gR st) (eV st) (aM st) .none kV doc pm an cdv ct):=⟨⟨oc,od,kV,doc,pm,an,cdv,ct,osl,rfl,l,c⟩,k⟩
end
def df{A:Around}{k:Nat}(hr:Room k A):A.units+1<cLine:=Nat.lt_of_le_of_lt (Nat.add_le_add_left (by decide:1<=64) _) hr.units
section
variable {X:Cx}
def pv(i:Nat){x:Str}{pos:Pos}(hN:X.N[i]?=some x:=by rfl)(hv:kR X.env.scope x:=by first|exact Or.inl rfl|exact Or.inr (Or.inl rfl)|exact Or.inr (Or.inr rfl))(hd:(x == ("__debug__":Str))=false:=by decide)
  (hcd:(x == ("__classdict__":Str))=false:=by decide):PE X (.Name x pos) (oG i):=yM hN hv hd hcd
end
def az{A B:Prop}(h:B):if false=true then A else B:=by rw[FH E2];exact h
def aD{A B:Prop}(h:A):if true=true then A else B:=by rw[FI rfl];exact h
def fX{c A B:Prop}[Decidable c](h1:c->A)(h2:¬c->B):if c then A else B:=by
 by_cases h:c
 ·rw[FI h];exact h1 h
 ·rw[FH h];exact h2 h
structure Blk where
 s:Shared
 H:Hp
 fp:List Addr
 C:Addr
def de(names:List (Str×NameKind))(cells:List (Str×Addr)):List (Str×Addr):=
 names.foldl (λacc p=>if p.2 == .free then(p.1,(cells.lookup p.1).getD 0)::acc else acc) []
def Bi(sc out:Scope):Bool:=sc.names.all λp=>p.2 != .cell && (p.2 != .local || sc.names.lookup p.1 == some .local) && (p.2 != .free || out.names.lookup p.1 == some .cell || out.names.lookup p.1 == some .free)
def kG(sc:Scope)(N:List Str)(js:List Nat):Bool:=js.all λj=>decide (j<N.length) && (sc.names.lookup (N.getD j "") == some .free)
def dF(n:Nat)(js:List Nat)(σ:St):St:=Fv n none++js.map λj=>(σ[j]?).join
def kz(cells:List (Str×Addr)):∀(names:List (Str×NameKind)) (acc:List (Str×Addr)) (x:Str) (c:Addr),
  (names.foldl (λacc p=>if p.2 == .free then(p.1,(cells.lookup p.1).getD 0)::acc else acc) acc).lookup x=some c →
  ((x,NameKind.free)∈names/\c=(cells.lookup x).getD 0)\/acc.lookup x=some c
 | [],acc,x,c,h=>.inr h
 | (n,k)::r,acc,x,c,h=>by
  rw[List.foldl_cons]at h;rcases kz cells r _ x c h with⟨h1,h2⟩|h1
  ·exact .inl ⟨EN _ h1,h2⟩
  ·cases hk:(k == NameKind.free)with
   | false=>
    simp only[hk]at h1;exact .inr h1
   | true=>
    simp only[hk,if_true]at h1;rw[Fz]at h1;cases hx:(x == n)with
    | false=>rw[hx]at h1;exact .inr h1
    | true=>
     rw[hx]at h1;have e1:x=n:=by simpa using hx
     have e2:k=.free:=by simpa using hk
     subst e1 e2;exact .inl ⟨ES,(Fq h1).symm⟩
def sr(cells:List (Str×Addr)):∀(names:List (Str×NameKind)) (acc:List (Str×Addr)) (x:Str),
  ((x,NameKind.free)∈names\/(acc.lookup x).isSome=true)->((names.foldl (λacc p=>if p.2 == .free then(p.1,(cells.lookup p.1).getD 0)::acc else acc) acc).lookup x).isSome=true
 | [],acc,x,h=>by
  rcases h with h|h
  ·simp at h
  ·exact h
 | (n,k)::r,acc,x,h=>by
  rw[List.foldl_cons];apply sr cells r;rcases h with h|h
  ·rcases E1.mp h with e|h
   ·right;cases e;simp[Fz]
   ·exact .inl h
  ·right;cases hk:(k == NameKind.free)with
   | false=>simpa[hk]using h
   | true=>
    simp only[hk,if_true,Fz];cases hx:(x == n)with
    | true=>rfl
    | false=>exact h
def nX{env:Env}{sc:Scope}(h:∀p∈sc.names,p.2=.free->∃c,env.cells.lookup p.1=some c):closureFor sc env=pure (de sc.names env.cells):=by
 have go:∀(names:List (Str×NameKind)) (acc:List (Str×Addr)),(∀p∈names,p.2=NameKind.free->∃c,env.cells.lookup p.1=some c) →
   (forIn names acc λ(p:Str×NameKind) (r:List (Str×Addr))=>(match p with|(name,kind)=>if(kind == NameKind.free)=true then do let c ←cellOf env name;pure (ForInStep.yield ((name,c)::r))else pure (ForInStep.yield r):Sem _)) =
   pure (names.foldl (λacc p=>if p.2 == .free then(p.1,(env.cells.lookup p.1).getD 0)::acc else acc) acc):=by
  intro names;induction names with
  | nil=>intro acc _;rfl
  | cons p r ih=>
   intro acc hp;obtain⟨n,k⟩:=p;rw[List.forIn_cons,List.foldl_cons];cases hk:(k == NameKind.free)with
   | false=>
    simp only[hk,Fw,if_false];exact ih acc λq hq=>hp q (EN _ hq)
   | true=>
    obtain⟨c,hc⟩:=hp (n,k) ES (by simpa using hk);have e:cellOf env n=pure c:=by unfold cellOf;rw[show env.cells.lookup n=some c from hc]
    simp only[hk,if_true,e];have hc':env.cells.lookup n=some c:=hc;rw[hc'];exact ih _ λq hq=>hp q (EN _ hq)
 unfold closureFor de;have:=go sc.names [] h;simp only[this];rfl
def jA(X:Cx)(ifs:List Expr)(t:TT):Prop:=
 ∀(pins:List (Addr×Obj)) (s:Shared) (σ:St) (H:Hp) (Q:Bool->Hp->Prop),Inv X pins σ H s->t σ H Q →
  wpAny (model X.prog X.w) X.A (forIn ifs true λc r=>if r=true then do let ok ←isTrue c X.env (eval c X.env);pure (ForInStep.yield ok)else pure (ForInStep.yield r)) (TP X pins σ Q) X.xe s
def uj:TT:=λ_ H Q=>Q true H
def dD{X:Cx}:jA X [] uj:=λ_ _ _ H _ I h=>wpAny_tests_nil ⟨H,I,h⟩
def dR{X:Cx}{c:Expr}{t:TT}(h:PT X c t):jA X [c] t:=λpins s σ H Q I hq=>wpAny_tests_one (h pins s σ H Q I hq)
def Cg{prog:Program}{w:World}{A:Around}{R:Result->Shared->Prop}{t0:Shared}{elt tgt iter:Expr}{ifs:List Expr}{sc:Scope}{ps:Pos}{itv acc:Value}{ce:Env}(Wd:Nat->Shared->Prop)
  (step:∀k t,Wd k t->wpAny (model prog w) A (pyNext itv) (λgot t1=>
   match got with
   | none=>R (.ok .next) t1
   | some u=>wpAny (model prog w) A (letOwnedTupleGo tgt itv u) (λ_ t2=>wpAny (model prog w) A (assign tgt ce u) (λ_ t3=>
     wpAny (model prog w) A (forIn ifs true λc r=>if r=true then do let ok ←isTrue c ce (eval c ce);pure (ForInStep.yield ok)else pure (ForInStep.yield r)) (λyes t4=>
      if yes=true then wpAny (model prog w) A (eval elt ce) (λval t5=>wpAny (model prog w) A (call (.builtin "list.append") [acc,val]) (λ_ t6=>∃m,m<k/\Wd m t6) (λ_ _=>False) t5) (λ_ _=>False) t4
      else ∃m,m<k/\Wd m t4) (λ_ _=>False) t3) (λ_ _=>False) t2) (λ_ _=>False) t1) (λ_ _=>False) t)
  (k0:Nat) (start:Wd k0 t0):codeAny (model prog w) A (.compLoop (.ListComp elt [⟨tgt,iter,ifs,0⟩] sc ps) 0 itv acc ce) R t0:=by
 refine codeAny_loop rfl Wd (λk t hW=>?turn) k0 start
 case turn=>
  have nox:∀{α:Type} {m:Sem α} {Q:α->Shared->Prop} {E:Value->Shared->Prop} {z:Shared},wpAny (model prog w) A m Q (λ_ _=>False) z->wpAny (model prog w) A m Q E z:=λh=>wpAny_mono h (λ_ _ q=>q) λ_ _ f=>f.elim;show wpAny _ A ((compTurn (.ListComp elt [⟨tgt,iter,ifs,0⟩] sc ps) 0 itv acc ce).onRaise (λx=>do noteFrame x ce;theTreesLotGoes x)) _ _ t;apply wpAny_noted;rw[compTurn_list];refine EE (wpAny_standAt (EE (nox (wpAny_mono (step k t hW) (λgot t1 h1=>?_) λ_ _ f=>f))));cases got with
  | none=>exact EF h1
  | some u=>
   refine EE (nox (wpAny_mono h1 (λ_ t2 h2=>?_) λ_ _ f=>f));refine EE (nox (wpAny_mono h2 (λ_ t3 h3=>?_) λ_ _ f=>f));refine EE (nox (wpAny_mono h3 (λyes t4 h4=>?_) λ_ _ f=>f));cases yes with
   | false=>
    rw[FH E2]at h4;exact EF ⟨rfl,h4⟩
   | true=>
    rw[FI rfl]at h4;refine EE (EE (nox (wpAny_mono h4 (λval t5 h5=>?_) λ_ _ f=>f)));exact EE (nox (wpAny_mono h5 (λ_ t6 h6=>EF (EF ⟨rfl,h6⟩)) λ_ _ f=>f))
section
variable {X:Cx} {pins:List (Addr×Obj)} {σ:St} {H:Hp} {s:Shared}
def eo(its:List Value)(n:Nat):Obj:={ cls:=.type "list",data:=.seq its.toArray n }
def EC{sc out:Scope}(h:Bi sc out=true){p:Str×NameKind}(hp:p∈sc.names)(hf:p.2=.free):out.names.lookup p.1=some .cell\/out.names.lookup p.1=some .free:=by have:=Fl.mp h p hp;simp only[hf,Fo,Bool.or_eq_true,beq_iff_eq,bne_iff_ne,ne_eq,not_true,false_or]at this;exact this.2
def ko{sc:Scope}{env:Env}{x:Str}:∀{names:List (Str×NameKind)} {k:NameKind},(names.map λ(p:Str×NameKind)=>match p with|(n,k)=>if(k == NameKind.free && env.scope.kind == .function && env.kindOf n == some .cell)then(n,NameKind.cell)else(n,k)).lookup x=some k →
  ∃k',names.lookup x=some k'/\(k'=k\/(k'=.free/\k=.cell))
 | [],_,h=>by simp at h
 | (n,q)::r,k,h=>by
  rw[List.map_cons]at h;rw[Fz];cases hx:(x == n)with
  | true=>
   refine⟨q,rfl,?_⟩;by_cases hc:(q == NameKind.free && env.scope.kind == .function && env.kindOf n == some .cell)=true
   ·simp only[hc,if_true,Fz,hx]at h;right;simp only[Fo,beq_iff_eq]at hc;exact⟨hc.1.1,(Fq h).symm⟩
   ·left;have h2:List.lookup x ((n,q)::(r.map λ(p:Str×NameKind)=>match p with|(n,k)=>if(k == NameKind.free && env.scope.kind == .function && env.kindOf n == some .cell)then(n,NameKind.cell)else(n,k)))=some k:=by have h3:=h;dsimp only at h3;rw[FH hc]at h3;exact h3
    rw[Fz,hx]at h2;exact Fq h2
  | false=>
   have:List.lookup x (r.map λ(p:Str×NameKind)=>match p with|(n,k)=>if(k == NameKind.free && env.scope.kind == .function && env.kindOf n == some .cell)then(n,NameKind.cell)else(n,k))=some k:=by
    by_cases hc:(q == NameKind.free && env.scope.kind == .function && env.kindOf n == some .cell)=true
    ·simpa only[hc,if_true,Fz,hx]using h
    ·dsimp only at h;rw[FH hc,Fz,hx]at h;exact h
   exact ko (sc:=sc) this
def iO{names:List (Str×NameKind)}{x:Str}{k:NameKind}(h:names.lookup x=some k):(x,k)∈names:=PySem.mem_of_lookup h
def sq{sc:Scope}{x:Str}{cells:List (Str×Addr)}(h:(x,NameKind.free)∈sc.names):∃c,(de sc.names cells).lookup x=some c:=
 Option.isSome_iff_exists.mp (sr cells sc.names [] x (.inl h))
def Inv.stk_lt(I:Inv X pins σ H s){b:Addr}(hb:b∈dg X.stack):b<s.heap.objs.size:=by
 rcases E1.mp (I.stkSub b hb)with e|h
 ·rw[e];exact I.lt
 ·obtain⟨_,o,ho,_⟩:=I.ok.funs.mem h;exact Fh (EJ ho) I.sz
def Inv.cell_lt(I:Inv X pins σ H s){x:Str}{c:Addr}(h:X.env.cells.lookup x=some c):c<s.heap.objs.size:=by obtain⟨v,q⟩:=I.cell x c h;exact q.lt
def Inv.pin_lt(I:Inv X pins σ H s){p:Addr×Obj}(h:p∈X.pn++pins):p.1<s.heap.objs.size:=EJ (I.pin p h).1
def t9{n:Nat}{js:List Nat}{i:Nat}{v:V}(h:(dF n js σ)[i]?=some (some v)):∃k j,i=n+k/\js[k]?=some j/\σ[j]?=some (some v):=by
 unfold dF at h;by_cases hi:i<n
 ·rw[Fc (by simpa using hi),List.getElem?_replicate]at h;split at h<;>cases h
 ·rw[Fb (by simpa using Nat.le_of_not_lt hi),List.length_replicate,EM]at h;cases e:js[i-n]? with
  | none=>rw[e]at h;cases h
  | some j=>
   rw[e]at h;refine⟨i-n,j,by omega,e,?_⟩;have h':(σ[j]?).join=some v:=by simpa using h
   cases q:σ[j]? with
   | none=>rw[q]at h';cases h'
   | some o=>
    rw[q]at h';have:o=some v:=h';rw[this]
def iu(J:It)(n:Nat)(js:List Nat)(g:TG)(tc:TT)(te:TE)(σ:St)(H:Hp)(Q:VK):Prop:=
 ∃W:Nat->Nat->List V->Hp->Prop,(∃m,W 0 m [] H)/\∀i m ys H',W i m ys H' →
  (J.stop i H'/\∀p,H' p=none->Q (.ref p) (upd H' p (.lst ys))) ∨
  (J.go i H'/\ys.length<sizeLine/\∃N:List V->Hp->Prop,(∀ys' H2,N ys' H2->∃m',m'<m/\W (i+1) m' ys' H2)/\∀x H2,J.yld i H' x H2->g x (dF n js σ) H2 λσ2 H3=>tc σ2 H3 λb H4=>
   if b=true then te σ2 H4 λv H5=>N (ys++[v]) H5 else N ys H4)
def ma(n:Nat)(js:List Nat)(wi:TI)(g:TG)(tc:TT)(te:TE):TE:=λσ H Q=>wi σ H λJ H1=>iu J n js g tc te σ H1 Q
structure TurnAt(X:Cx)(tg:Expr)(J:It)(fp:List Addr)(it:Addr)(tn:Nat->Heap->Prop):Prop where
 obj:∀i h,tn i h->∀b∈fp,∃o,h.get? b=some o/\∀v,o.data≠.cell v
 keep:∀i h h',tn i h->(∀b∈fp,∀o,h.get? b=some o->h'.get? b=some o)->tn i h'
 item:∀(i:Nat) (pins:List (Addr×Obj)) (s:Shared) (σ:St) (H:Hp) (E:Value->Shared->Prop),Inv X pins σ H s->(∀b∈fp,cc X pins H b)->tn i s.heap->J.go i H →
  wpAny (model X.prog X.w) X.A (pyNext (.ref it)) (λr s1=>∃u,r=some u ∧
   wpAny (model X.prog X.w) X.A (letOwnedTupleGo tg (.ref it) u) (λ_ s2=>∃x H',Inv X pins σ H' s2/\RelV x u/\J.yld i H x H'/\tn (i+1) s2.heap/\∀b∈fp,H' b=none) E s1) E s
 done:∀(i:Nat) (pins:List (Addr×Obj)) (s:Shared) (σ:St) (H:Hp) (E:Value->Shared->Prop),Inv X pins σ H s->(∀b∈fp,cc X pins H b)->tn i s.heap->J.stop i H →
  wpAny (model X.prog X.w) X.A (pyNext (.ref it)) (λr s1=>r=none/\Inv X pins σ H s1) E s
 self:∀(A:Around) (i:Nat) (s:Shared) (Q:Value->Shared->Prop) (E:Value->Shared->Prop),tn i s.heap->Q (.ref it) s->wpAny (model X.prog X.w) A (pyIter (.ref it)) Q E s
def Turn.at_{Y:Cx}{tg:Expr}{J:It}{fp:List Addr}{it:Addr}{tn:Nat->Heap->Prop}(T:Turn Y.prog Y.w Y.K tg J fp it tn)(hc:Y.calm=true):TurnAt Y tg J fp it tn:=⟨T.obj,T.keep,T.item Y rfl rfl rfl hc,T.done Y rfl rfl rfl hc,T.self⟩
end
def g9{K:EG}{a:Addr}{xs:List V}{n:Nat}{js:List Nat}{g:TG}{tc:TT}{te:TE}{Q:VK}{σ:St}{H:Hp}(Pv:Nat->List V->Hp->Prop)(hz:xs.length<=sizeLine)(h0:Pv 0 [] H)(hl:∀i ys H,i<=xs.length->Pv i ys H->ag K H a xs/\ys.length<=i)
  (hs:∀i x ys H,xs[i]?=some x->Pv i ys H->g x (dF n js σ) H λσ2 H3=>tc σ2 H3 λb H4=>if b=true then te σ2 H4 λv H5=>Pv (i+1) (ys++[v]) H5 else Pv (i+1) ys H4)
  (hd:∀ys H p,Pv xs.length ys H->H p=none->Q (.ref p) (upd H p (.lst ys))):iu (dZ K a) n js g tc te σ H Q:=by
 refine⟨λi m ys H=>m=xs.length-i/\i<=xs.length/\Pv i ys H,⟨xs.length,by simp,Nat.zero_le _,h0⟩,?_⟩;rintro i m ys H ⟨rfl,hi,p⟩;have q:=hl i ys H hi p;by_cases hlt:i<xs.length
 ·refine .inr ⟨⟨xs,xs[i],q.1,by simp[hlt]⟩,by have:=q.2;omega,Pv (i+1),λys' H' p'=>⟨xs.length-(i+1),by omega,rfl,hlt,p'⟩,λx H' y=>?_⟩;obtain⟨e,y⟩:=y;subst e;exact hs i x ys _ (y xs q.1) p
 ·have e:i=xs.length:=by omega
  subst e;exact .inl ⟨⟨xs,q.1,E6 _⟩,λp' hp=>hd ys H p' p hp⟩
def jI{K:EG}{a:Addr}{xs:List V}{n:Nat}{js:List Nat}{g:TG}{tc:TT}{te:TE}{Q:VK}{σ:St}{H:Hp}(Pv:Nat->List V->Hp->Prop)(hz:xs.length<=sizeLine)(h0:Pv 0 [] H)(hl:∀i ys H,i<=xs.length->Pv i ys H->ai K H a xs/\ys.length<=i)
  (hs:∀i x ys H,xs[i]?=some x->Pv i ys H->g x (dF n js σ) H λσ2 H3=>tc σ2 H3 λb H4=>if b=true then te σ2 H4 λv H5=>Pv (i+1) (ys++[v]) H5 else Pv (i+1) ys H4)
  (hd:∀ys H p,Pv xs.length ys H->H p=none->Q (.ref p) (upd H p (.lst ys))):iu (cD K a) n js g tc te σ H Q:=by
 refine⟨λi m ys H=>m=xs.length-i/\i<=xs.length/\Pv i ys H,⟨xs.length,by simp,Nat.zero_le _,h0⟩,?_⟩;rintro i m ys H ⟨rfl,hi,p⟩;have q:=hl i ys H hi p;by_cases hlt:i<xs.length
 ·refine .inr ⟨⟨xs,xs[i],q.1,by simp[hlt]⟩,by have:=q.2;omega,Pv (i+1),λys' H' p'=>⟨xs.length-(i+1),by omega,rfl,hlt,p'⟩,λx H' y=>?_⟩;obtain⟨e,y⟩:=y;subst e;exact hs i x ys _ (y xs q.1) p
 ·have e:i=xs.length:=by omega
  subst e;exact .inl ⟨⟨xs,q.1,E6 _⟩,λp' hp=>hd ys H p' p hp⟩
def dA{lo:Int}{N n:Nat}{js:List Nat}{g:TG}{tc:TT}{te:TE}{Q:VK}{σ:St}{H:Hp}(Pv:Nat->List V->Hp->Prop)(hz:N<=sizeLine)(h0:Pv 0 [] H)(hl:∀i ys H,i<=N->Pv i ys H->ys.length<=i)
  (hs:∀i ys H,i<N->Pv i ys H->g (.int (lo+i)) (dF n js σ) H λσ2 H3=>tc σ2 H3 λb H4=>if b=true then te σ2 H4 λv H5=>Pv (i+1) (ys++[v]) H5 else Pv (i+1) ys H4)
  (hd:∀ys H p,Pv N ys H->H p=none->Q (.ref p) (upd H p (.lst ys))):iu (dN lo N) n js g tc te σ H Q:=by
 refine⟨λi m ys H=>m=N-i/\i<=N/\Pv i ys H,⟨N,by simp,Nat.zero_le _,h0⟩,?_⟩;rintro i m ys H ⟨rfl,hi,p⟩;have q:=hl i ys H hi p;by_cases hlt:i<N
 ·refine .inr ⟨hlt,by omega,Pv (i+1),λys' H' p'=>⟨N-(i+1),by omega,rfl,hlt,p'⟩,λx H' y=>?_⟩;obtain⟨e,y⟩:=y;subst e y;exact hs i ys _ hlt p
 ·have e:i=N:=by omega
  subst e;exact .inl ⟨E6 _,λp' hp=>hd ys H p' p hp⟩
structure Cal(P:Program)(w:World)(K:EG)(mg:Str->Option Value)(base:Heap)(x:Str)(k:Nat)(ps:List Str)(sp:Sp):Prop where
 ex:∃(f:Addr) (fd:FuncData),mg x=some (.ref f)/\PySem.W.keepIn K (.ref f)=true/\Binds K fd ps []/\FnOk P w K mg base dU k f fd ps sp
structure Dfn(K:EG)(mg:Str->Option Value)(x:Str)(st:Stmt)(ps:List Str):Prop where
 ex:∃(f:Addr) (fd:FuncData),mg x=some (.ref f)/\Fun K x x st f fd/\Binds K fd ps []
section
variable {P:Program} {w:World} {K:EG} {mg:Str->Option Value} {base:Heap}
def Dfn.ok{x:Str}{st:Stmt}{N ps:List Str}{k:Nat}{sp:Sp}(D:Dfn K mg x st ps)(S:FnScope N ps (aM st))(len:∀vs H Q E,sp vs H Q E->vs.length=ps.length)
  (hbody:∀(X:Cx) (hX:∃f cdv A outer s H E,X=(gW dU P w K mg base N x (aM st) f cdv A outer s H E).nox/\Room k X.A) (H:Hp) (vs:List V) (Q:VK) (E:XK),sp vs H Q E →
   ∃t,cP X (eV st) t/\t { nx:=λ_ H'=>Q .non H',rt:=Q } (start N vs) H):Cal P w K mg base x (k+1) ps sp:=by
 obtain⟨f,fd,hm,F,hb⟩:=D.ex;exact⟨f,fd,hm,F.kp,hb,F.ok S len λcdv A outer s H vs Q E hr h=>hbody _ ⟨f,cdv,A,outer,s,H,E,rfl,hr⟩ H vs Q E h⟩
end
section
variable {X:Cx}
def aH{x:Str}{k j:Nat}{ps:List Str}{sp:Sp}{e:Expr}{es:List Expr}{t:TA}{p pos:Pos}(C:Cal X.prog X.w X.K X.mg X.base x j ps sp)(hr:Room k X.A)(ha:PA X (e::es) t)(hjk:j<=k:=by decide)(hg:Gl X x:=by rfl)(hdb:(x == ("__debug__":Str))=false:=by decide)
  (he:starEach (e::es) X.env=(false,eval e X.env)::starEach es X.env:=by rfl) (hpl:(backTo pos (starEach es X.env)).any (·.1)=false:=by rfl) :
  PE X (.Call (.Name x p) (e::es) [] pos) (kg sp [] E0 t):=by
 obtain⟨f,fd,hm,hk,hb,F⟩:=C.ex;exact zk F (hr.mono hjk) hg hm hk hb .nil Bf ha hdb he hpl
def xg:bD X (binaryOp .FloorDiv) (rI (λ_ j=>0<j/\j<2 ^ 64) λi j=>.int (i / j)):=kF λi j _ _ _ _ _ hc q=>by
 have h1:(0:Int)<j:=hc.1;have h2:j<2 ^ 64:=hc.2;refine floordiv_int (by omega) (by rw[Int.fdiv_eq_ediv_of_nonneg i (by omega)];exact q) (.inl (PyProof.noPylong_of_log2 ?_));have h0:j.natAbs≠0:=by omega
 have h64:j.natAbs<2 ^ 64:=by omega
 have:=(Nat.log2_lt h0).mpr h64;omega
def fA(H:Hp):V->String->Prop
 | .non,n=>n = "NoneType"
 | .bl _,n=>n = "bool"
 | .int _,n=>n = "int"
 | .str _,n=>n = "str"
 | .ref a,n=>(n = "list"/\∃xs,H a=some (.lst xs))\/(n = "tuple"/\∃xs,H a=some (.tup xs))
 | _,_=>False
def fA.ty{K:EG}{H:Hp}{x:V}{n:String}(h:fA H x n):TyOf K H x (.type n):=by
 cases x with
 | non=>cases(show n = "NoneType" from h);exact .non
 | bl b=>cases(show n = "bool" from h);exact .bl b
 | int i=>cases(show n = "int" from h);exact .int i
 | str z=>cases(show n = "str" from h);exact .str z
 | ref a=>
  rcases h with⟨rfl,xs,e⟩|⟨rfl,xs,e⟩
  ·exact .lst e
  ·exact .tup e
 | _=>exact False.elim h
def ik(a b c d e:Bool):String->Option Bool
 | "tuple"=>some a|"int"=>some b|"bool"=>some c|"list"=>some d|"str"=>some e|_=>none
def iD:String->String->Option Bool
 | "NoneType"=>ik false false false false false
 | "bool"=>ik false true true false false
 | "int"=>ik false true false false false
 | "str"=>ik false false false false true
 | "list"=>ik false false false true false
 | "tuple"=>ik true false false false false
 | _=>λ_=>none
def BN{K:EG}{n T:String}{b:Bool}(h:iD n T=some b):PySem.W.kitOne K (.type n) (.type T)=some b:=by
 unfold iD at h;split at h<;>first
  | (unfold ik at h;split at h<;>first|(cases h;kernel_rfl)|cases h)
  | cases h
def rQ:List V->Hp->VK->Prop:=λxs H Q=>∃x n T b,xs=[x,.ty T]/\fA H x n/\iD n T=some b/\Q (.bl b) H
def eE:cQ X (.builtin "isinstance") rQ:=by intro pins s σ H xs us Q I r h;obtain⟨x,n,T,b,rfl,hk,hb,q⟩:=h;obtain⟨u,w',rfl,r1,r2⟩:=vals2 r;cases(show w'=Value.type T from r2);exact Ba I r1 hk.ty (BN hb) λtk=>⟨.bl b,H,I.tok tk,rfl,q⟩
def gD(lo c:Int)(n:Nat):It:=⟨λi _=>i<n,λi H x H'=>H'=H/\x=.int (lo+i*c),λi _=>n<=i⟩
def Bg{P:Program}{w:World}{K:EG}{tg:Expr}(it:Addr)(lo c:Int)(n:Nat):Turn P w K tg (gD lo c n) [it] it (λi h=>IsRangeIter h it (lo+(i:Nat)*c) ((n:Int)-(i:Nat)) c) where
 mem:=by simp
 obj:=λi h st b hb=>by
  have e:b=it:=by simpa using hb
  subst e;exact⟨_,st,λv z=>by have z':Data.fields _=Data.cell v:=z;cases z'⟩
 keep:=λi h h' st k=>k it (by simp) _ st
 item:=by intro X hP hw hK hc i pins s σ H E I hf st hg;subst hP hw hK;obtain⟨f0,f1,f2,f3,f4,f5⟩:=hf it (by simp);have W:=Walks.range (prog:=X.prog) (w:=X.w) (I.ok.hd hc) it lo c n;refine W.item i s _ _ hg st λv h' tk hv st' kk=>?_;obtain⟨t,rfl⟩:=hv;have I1:Inv X pins σ H { s with heap:=h',toks:=tk }:=I.turned (λb o hb e=>kk b o (by simpa using hb) e) f0 f1 f3 f4 f5;exact⟨_,rfl,j3 (s:={ s with heap:=h',toks:=tk }) (n:="range_iterator") st' rfl rfl (by decide) ⟨.int (lo+i*c),H,I1,⟨t,rfl⟩,⟨rfl,rfl⟩,st',λb hb=>(hf b hb).1⟩⟩
 done:=by intro X hP hw hK hc i pins s σ H E I hf st hg;subst hP hw hK;obtain⟨f0,f1,f2,f3,f4,f5⟩:=hf it (by simp);exact wpAny_pyNext_range_end (I.ok.hd hc) st (by have:n<=i:=hg;omega) λh' eb=>⟨rfl,I.turned (t':=s.toks) (λb o hb e=>eb b o hb e) f0 f1 f3 f4 f5⟩
 self:=λ_ _ _ _ _ st h=>wpAny_pyIter_rangeiter st h
def ir(i j c:Int):Prop:=(-(2 ^ 40)<=i/\i<2 ^ 40)/\(-(2 ^ 40)<=j/\j<2 ^ 40)/\(-(2 ^ 29)<c/\c<2 ^ 29)/\c≠0
def ft(i j c:Int):Nat:=if 0<c then(if i<j then((j-i-1) / c+1).toNat else 0)else(if j<i then((i-j-1) / (-c)+1).toNat else 0)
def yn(i j c:Int)(hc:c≠0):Builtin.Range.rangeSize i j c=(ft i j c:Nat):=by
 unfold Builtin.Range.rangeSize ft;by_cases h:0<c
 ·rw[FI h,FI h];by_cases h2:i<j
  ·rw[FI h2,FI h2];have:0<=(j-i-1) / c:=Int.ediv_nonneg (by omega) (by omega);omega
  ·rw[FH h2,FH h2];rfl
 ·rw[FH h,FH h];by_cases h2:j<i
  ·rw[FI (show i>j from h2),FI h2];have:0<=(i-j-1) / (-c):=Int.ediv_nonneg (by omega) (by omega);omega
  ·rw[FH (show ¬i>j from h2),FH h2];rfl
def xZ{i j c:Int}(h:ir i j c):Builtin.Range.small i j c=true:=by
 obtain⟨⟨h1,h2⟩,⟨h3,h4⟩,⟨h5,h6⟩,h0⟩:=h;have hb:Builtin.Range.rangeSize i j c<=2 ^ 42/\0<=Builtin.Range.rangeSize i j c:=by
  unfold Builtin.Range.rangeSize;by_cases hc:c>0
  ·rw[FI hc];by_cases h':i<j
   ·rw[FI h'];have e1:(j-i-1) / c<=j-i-1:=Int.ediv_le_self _ (by omega);have e2:0<=(j-i-1) / c:=Int.ediv_nonneg (by omega) (by omega);omega
   ·rw[FH h'];omega
  ·rw[FH hc];by_cases h':i>j
   ·rw[FI h'];have e1:(i-j-1) / (-c)<=i-j-1:=Int.ediv_le_self _ (by omega);have e2:0<=(i-j-1) / (-c):=Int.ediv_nonneg (by omega) (by omega);omega
   ·rw[FH h'];omega
 unfold Builtin.Range.small;generalize Builtin.Range.rangeSize i j c=z at hb ⊢;have f:∀x:Int,-(2 ^ 62)<=x->x<2 ^ 62->Builtin.Range.rangeFitsLong x=true:=λx h1 h2=>by unfold Builtin.Range.rangeFitsLong;rw[FG (show -(2 ^ 63)<=x by omega),FG (show x<2 ^ 63 by omega)];rfl
 rw[f i (by omega) (by omega),f j (by omega) (by omega),f c (by omega) (by omega),f z (by omega) (by omega)];by_cases hc:c>0
 ·rw[FI hc,f (j+(c-1)) (by omega) (by omega),Bool.or_true];rfl
 ·rw[FH hc,f (j+(c+1)) (by omega) (by omega),Bool.or_true];rfl
def xj(ta:TA):TI:=λσ H R=>ta σ H λvs H1=>∃i j c:Int,vs=[.int i,.int j,.int c]/\ir i j c/\R (gD i c (ft i j c)) H1
def DT{tg a b c:Expr}{ta:TA}{p pos:Pos}(hg:Gl X "range")(hm:X.mg "range" = none)(ha:PA X [a,b,c] ta)(hs:starEach [a,b,c] X.env=[(false,eval a X.env),(false,eval b X.env),(false,eval c X.env)]:=by rfl)
  (hs2:starEach [b,c] X.env=[(false,eval b X.env),(false,eval c X.env)]:=by rfl) :
  PI X tg (.Call (.Name "range" p) [a,b,c] [] pos) (xj ta):=by
 intro pins s σ H R I h;refine Call_ (gr I hg hm boot_range (PyProof.Rows.callWith_type1 (av (ha pos pins s σ H _ I h) λus s1 ⟨vs,H1,I1,r1,q1⟩=>?_) (by rw[hs,hs2]) (by rw[hs2];rfl)));obtain⟨i,j,c,e,hsm,q⟩:=q1;subst e;cases r1 with
 | cons r rr=>
  cases rr with
  | cons r' rr=>
   cases rr with
   | cons r'' rr=>
    cases rr;obtain⟨t,rfl⟩:=r;obtain⟨t',rfl⟩:=r';obtain⟨t'',rfl⟩:=r'';have h0:c≠0:=hsm.2.2.2;have h5:c.natAbs<1073741824:=by have:=hsm.2.2.1;omega
    refine call_range_3 h0 ?_ (.inl (PyProof.noPylong_small h5));refine wpAny_pyIter_range (IsRange.new ..) (xZ hsm) ?_;have I2:Inv X pins σ H1 { s1 with heap:=s1.heap.push { cls:=.type "range",data:=.fields #[.int i t,.int j t',.int c t''] },toks:=s1.toks }:=I1.kept λb o e=>EH _ e;refine⟨_,[_],_,_,H1,rfl,I2.kept (t':=s1.toks) λb o e=>EH _ e,Bg _ i c (ft i j c),?_,λb hb=>?_,q⟩
    ·show IsRangeIter _ _ (i+((0:Nat):Int)*c) (((ft i j c:Nat):Int)-((0:Nat):Int)) c;rw[show i+((0:Nat):Int)*c=i by simp,show ((ft i j c:Nat):Int)-((0:Nat):Int)=Builtin.Range.rangeSize i j c by rw[yn i j c h0];simp];exact EI _ rfl
    ·have e:=EW.mp hb;subst e;exact I2.fpOk (E6 _) (I2.hok.fresh (E6 _))
def CT{lo c:Int}{n:Nat}{g:TG}{tb:TS}{D:Ends}{σ:St}{H:Hp}(Pv:Nat->St->Hp->Prop)(h0:Pv 0 σ H)
  (hs:∀i σ H,i<n->Pv i σ H->g (.int (lo+i*c)) σ H λσ2 H2=>tb { D with nx:=Pv (i+1),ct:=Pv (i+1),bk:=D.nx } σ2 H2) (hd:∀σ H,Pv n σ H->D.nx σ H) :
  ∃W:Nat->Nat->St->Hp->Prop,(∃m,W 0 m σ H)/\∀i m σ H,W i m σ H →
   ((gD lo c n).stop i H/\D.nx σ H)\/((gD lo c n).go i H/\∃N:St->Hp->Prop,(∀σ' H',N σ' H'->∃m',m'<m/\W (i+1) m' σ' H')/\∀x H',(gD lo c n).yld i H x H'->g x σ H' λσ2 H2=>tb { D with nx:=N,ct:=N,bk:=D.nx } σ2 H2):=by
 refine⟨λi m σ H=>m=n-i/\i<=n/\Pv i σ H,⟨n,by simp,Nat.zero_le _,h0⟩,?_⟩;rintro i m σ H ⟨rfl,hi,p⟩;by_cases hlt:i<n
 ·refine .inr ⟨hlt,Pv (i+1),λσ' H' p'=>⟨n-(i+1),by omega,rfl,hlt,p'⟩,λx H' y=>?_⟩;obtain⟨e,y⟩:=y;subst e y;exact hs i σ _ hlt p
 ·have e:i=n:=by omega
  subst e;exact .inl ⟨E6 _,hd σ H p⟩
def kL(K:EG):List V->Hp->VK->Prop:=λxs H Q=>∃p ys,xs=[.ref p]/\(ag K H p ys\/ai K H p ys)/\Q (.int ys.length) H
def CP:cQ X (.builtin "len") (kL X.K):=Bs
def lY(K:EG):List V->Hp->VK->Prop:=λxs H Q=>∃p ys,xs=[.ref p]/\((ag K H p ys/\∀l,H l=none->Q (.ref l) (upd H l (.tup ys)))\/(ai K H p ys/\Q (.ref p) H))
def Em:cQ X (.type "tuple") (lY X.K):=CF
def wY:List V->Hp->VK->Prop:=λxs H Q=>(∃i,xs=[.int i]/\Q (.int i) H)\/∃k,xs=[.bl k]/\Q (.int (if k then 1 else 0)) H
def Dk:cQ X (.type "int") wY:=zt
end
def Ext(H H':Hp):Prop:=∀b o,H b=some o->H' b=some o
def Ext.rfl'(H:Hp):Ext H H:=λ_ _ h=>h
def Ext.trans{H H1 H2:Hp}(a:Ext H H1)(b:Ext H1 H2):Ext H H2:=λx o h=>b x o (a x o h)
def Ext.none{H H':Hp}(e:Ext H H'){l:Addr}(h:H' l=Option.none):H l=Option.none:=by
 cases q:H l with
 | none=>rfl
 | some o=>rw[e l o q]at h;cases h
section
variable {X:Cx} (K:EG)
def aI(h:X.K=K:=by rfl):i5 X (mX K):=by subst h;exact Br
def aC(h:X.K=K:=by rfl):i5 X (oO K):=by subst h;exact zG
def iT(h:X.K=K:=by rfl):jl X (m5 K):=by subst h;exact zU
def Dm(h:X.K=K:=by rfl):bD X (compareOp .In) (oN K false):=by subst h;exact BM
def cY(h:X.K=K:=by rfl):cQ X (.builtin "len") (kL K):=by subst h;exact CP
def gX(h:X.K=K:=by rfl):cQ X (.type "tuple") (lY K):=by subst h;exact Em
def cK{tg l:Expr}{tl:TE}(hl:PE X l tl)(h:X.K=K:=by rfl):PI X tg l (mM K tl):=by subst h;exact CH hl
def f9{tg l:Expr}{tl:TE}(hl:PE X l tl)(h:X.K=K:=by rfl):PI X tg l (mj K tl):=by subst h;exact DD hl
def gm{es:List Expr}{k:Nat}{t:dM}{n:Nat}{pos:Pos}(hc:X.calm=true)(hg:ja X es t)(h:X.K=K:=by rfl)
  (hn:(assignEach es X.env).length=n:=by rfl) (hst:(assignEach es X.env).findIdx? (·.1)=none:=by rfl):PG X (.Tuple es k pos) (oB K n t):=by subst h;exact yj hc hg hn hst
def bE{o e:Expr}{es:List Expr}{to:TE}{t:TA}{name:Str}{apos cpos:Pos}{T id:String}{r:V->List V->Hp->VK->Prop}(pa:PlainAttrs T)(slot:Slot T name id)(hty:typeOf (.builtin id)=pure (.type "method_descriptor"))(hm:jk X id r)(ho:PE X o to)(ha:PA X (e::es) t)(h:X.K=K:=by rfl)
  (hbase:attributeBase o name X.env (eval o X.env)=eval o X.env:=by rfl)
  (hfew:((backTo cpos (starEach (e::es) X.env)).all (λx=>!x.1) && (backToKw cpos (keywordEach [] X.env)).all (λx=>x.1.isSome)
   && decide ((e::es).length+([]:List Keyword).length+(if([]:List Keyword).isEmpty then 0 else 1)<30))=true:=by rfl)
  (hline:(apos.endLine == cpos.line)=true:=by rfl) (hs:starEach (e::es) X.env=(false,eval e X.env)::starEach es X.env:=by rfl) (hplain:(backTo cpos (starEach es X.env)).any (·.1)=false:=by rfl) :
  PE X (.Call (.Attribute o name apos) (e::es) [] cpos) (mK K T r to t):=by subst h;exact Eo pa slot hty hm ho ha hbase hfew hline hs hplain
end
def rN(ns:List Int):TA:=λ_ H Q=>Q (ns.map V.int) H
inductive IntsE:List Expr->List Int->Prop
 | n:IntsE [] []
 | c {i j pos es ns}:IntsE es ns->IntsE (.Constant (.int i) j pos::es) (i::ns)
def iY{X:Cx}{es:List Expr}{ns:List Int}(h:IntsE es ns):PA X es (rN ns):=by
 induction h with
 | n=>exact ae
 | @c i j pos es ns _ ih=>
  intro p pins s σ H Q I hq;exact aa (e:=.Constant (.int i) j pos) af ih rfl p pins s σ H Q I hq
def rd_ints{σ:St}{H:Hp}{ns:List Int}{R:List V->Hp->Prop}(h:R (ns.map V.int) H):rN ns σ H R:=h
def nN(c:TT)(t u:TS):TS:=λD σ H=>∃R:St->Hp->Prop,(c σ H λb H1=>if b=true then t { D with nx:=R } σ H1 else u { D with nx:=R } σ H1)/\∀σ' H',R σ' H'->D.nx σ' H'
def cq{X:Cx}{c:Expr}{a b:List Stmt}{tc:TT}{t u:TS}{pos:Pos}(hc:PT X c tc)(ha:cP X a t)(hb:cP X b u):PS X (.If c a b pos) (nN tc t u):=by
 intro pins s σ H D I h;obtain⟨R,h,hR⟩:=h;refine av (bU hc ha hb pins s σ H { D with nx:=R } I h) λf s1 q=>?_;cases f with
 | next=>
  obtain⟨σ',H',I',q⟩:=q;exact⟨σ',H',I',hR σ' H' q⟩
 | ret v=>exact q
 | brk=>exact q
 | cont=>exact q
def xq(K:EG):V->Hp->(It->Hp->Prop)->Prop:=λx H R=>∃a,x=.ref a/\(∃xs,ag K H a xs)/\R (dZ K a) H
def w4(K:EG):V->Hp->(It->Hp->Prop)->Prop:=λx H R=>∃a,x=.ref a/\(∃xs,ai K H a xs)/\R (cD K a) H
def xc:List V->Hp->(It->Hp->Prop)->Prop:=λvs H R=>∃j:Int,vs=[.int j]/\-(2 ^ 62)<=j/\j<2 ^ 62/\R (dN 0 j.toNat) H
def qi:List V->Hp->(It->Hp->Prop)->Prop:=λvs H R=>∃i j:Int,vs=[.int i,.int j]/\(-(2 ^ 62)<=i/\i<2 ^ 62/\-(2 ^ 62)<=j/\j<2 ^ 62)/\R (dN i (j-i).toNat) H
def wQ:List V->Hp->(It->Hp->Prop)->Prop:=λvs H R=>∃i j c:Int,vs=[.int i,.int j,.int c]/\ir i j c/\R (gD i c (ft i j c)) H
def iG(J:It)(g:TG)(tb:TS)(D:Ends)(σ:St)(H:Hp):Prop:=∃W:Nat->Nat->St->Hp->Prop,(∃m,W 0 m σ H)/\∀i m σ H,W i m σ H →
 (J.stop i H/\D.nx σ H)\/(J.go i H/\∃N:St->Hp->Prop,(∀σ' H',N σ' H'->∃m',m'<m/\W (i+1) m' σ' H')/\∀x H',J.yld i H x H'->g x σ H' λσ2 H2=>tb { D with nx:=N,ct:=N,bk:=D.nx } σ2 H2)
def forL{K:EG}{a:Addr}{xs:List V}{g:TG}{tb:TS}{D:Ends}{σ:St}{H:Hp}(Pv:Nat->St->Hp->Prop)(h0:Pv 0 σ H)(hl:∀i σ H,i<=xs.length->Pv i σ H->ag K H a xs)
  (hs:∀i x σ H,xs[i]?=some x->Pv i σ H->g x σ H λσ2 H2=>tb ⟨Pv (i+1),D.rt,D.nx,Pv (i+1)⟩ σ2 H2) (hd:∀σ H,Pv xs.length σ H->D.nx σ H):iG (dZ K a) g tb D σ H:=B7 Pv h0 hl hs hd
def nA{K:EG}{a:Addr}{xs:List V}{g:TG}{tb:TS}{D:Ends}{σ:St}{H:Hp}(Pv:Nat->St->Hp->Prop)(h0:Pv 0 σ H)(hl:∀i σ H,i<=xs.length->Pv i σ H->ai K H a xs)
  (hs:∀i x σ H,xs[i]?=some x->Pv i σ H->g x σ H λσ2 H2=>tb ⟨Pv (i+1),D.rt,D.nx,Pv (i+1)⟩ σ2 H2) (hd:∀σ H,Pv xs.length σ H->D.nx σ H):iG (cD K a) g tb D σ H:=Bb Pv h0 hl hs hd
def forR{lo:Int}{n:Nat}{g:TG}{tb:TS}{D:Ends}{σ:St}{H:Hp}(Pv:Nat->St->Hp->Prop)(h0:Pv 0 σ H)
  (hs:∀i σ H,i<n->Pv i σ H->g (.int (lo+i)) σ H λσ2 H2=>tb ⟨Pv (i+1),D.rt,D.nx,Pv (i+1)⟩ σ2 H2) (hd:∀σ H,Pv n σ H->D.nx σ H):iG (dN lo n) g tb D σ H:=DA Pv h0 hs hd
def DQ{lo c:Int}{n:Nat}{g:TG}{tb:TS}{D:Ends}{σ:St}{H:Hp}(Pv:Nat->St->Hp->Prop)(h0:Pv 0 σ H)
  (hs:∀i σ H,i<n->Pv i σ H->g (.int (lo+i*c)) σ H λσ2 H2=>tb ⟨Pv (i+1),D.rt,D.nx,Pv (i+1)⟩ σ2 H2) (hd:∀σ H,Pv n σ H->D.nx σ H):iG (gD lo c n) g tb D σ H:=CT Pv h0 hs hd
def fC(H:Hp)(o:HO)(R:VK):Prop:=∀p,H p=none->R (.ref p) (upd H p o)
section
variable {K:EG} {D:Ends} {σ:St} {H:Hp} {Q:VK} {ta tb tc te:TE} {t u:TS} {c c':TT}
def rd_seq(h:t ⟨u D,D.rt,D.bk,D.ct⟩ σ H):wI t u D σ H:=h
def rd_next(h:D.nx σ H):qv D σ H:=h
def rd_ret(h:te σ H D.rt):wA te D σ H:=h
def rd_asg{g:TG}(h:te σ H λx H1=>g x σ H1 D.nx):kX te g D σ H:=h
def rd_drop(h:te σ H λ_ H1=>D.nx σ H1):vU te D σ H:=h
def rd_ifS(h:c σ H λb H1=>if b=true then t D σ H1 else u D σ H1):v8 c t u D σ H:=h
def jm(R:St->Hp->Prop)(h:c σ H λb H1=>if b=true then t ⟨R,D.rt,D.bk,D.ct⟩ σ H1 else u ⟨R,D.rt,D.bk,D.ct⟩ σ H1)(k:∀σ' H',R σ' H'->D.nx σ' H'):nN c t u D σ H:=⟨R,h,k⟩
def bT(h:c σ H λb H1=>if b=true then t D σ H1 else u D σ H1):nN c t u D σ H:=⟨D.nx,h,λ_ _ h=>h⟩
def rd_name{i:Nat}{v:V}{R:St->Hp->Prop}(h:R (σ.set i (some v)) H):jF i v σ H R:=h
def rd_var{i:Nat}{v:V}(e:σ[i]?=some (some v))(h:Q v H):oG i σ H Q:=⟨v,e,h⟩
def rd_c{v:V}(h:Q v H):tC v σ H Q:=h
def rd_op{r:R2}(h:ta σ H λx H1=>tb σ H1 λy H2=>r x y H2 Q):iw r ta tb σ H Q:=h
def rd_un{r:V->Hp->VK->Prop}(h:ta σ H λx H1=>r x H1 Q):rj r ta σ H Q:=h
def rd_CB{r:List V->Hp->VK->Prop}{a:TA}(h:a σ H λvs H1=>r vs H1 Q):kH r a σ H Q:=h
def rd_cons{a:TA}{R:List V->Hp->Prop}(h:ta σ H λx H1=>a σ H1 λxs H2=>R (x::xs) H2):nJ ta a σ H R:=h
def rd_nil{R:List V->Hp->Prop}(h:R [] H):oT σ H R:=h
def rd_test{R:Bool->Hp->Prop}(h:te σ H λx H'=>∃k,x=.bl k/\R k H'):og te σ H R:=h
def rd_B{R:Bool->Hp->Prop}(h:te σ H λx H'=>∃k,x=.bl k/\R k H'):tB te σ H R:=h
def rd_exb{b:Bool}{R:Bool->Prop}(h:R b):∃k,V.bl b=V.bl k/\R k:=⟨b,rfl,h⟩
def rd_not{R:Bool->Hp->Prop}(h:c σ H λb H1=>R (!b) H1):xa c σ H R:=h
def rd_and{R:Bool->Hp->Prop}(h:c σ H λb H1=>if b=true then c' σ H1 R else R false H1):qL c c' σ H R:=h
def rd_or{R:Bool->Hp->Prop}(h:c σ H λb H1=>if b=true then R true H1 else c' σ H1 R):qx c c' σ H R:=h
def rd_andV(h:ta σ H λx H1=>∃k,x=.bl k/\if k=true then tb σ H1 Q else Q (.bl false) H1):w8 ta tb σ H Q:=h
def rd_orV(h:ta σ H λx H1=>∃k,x=.bl k/\if k=true then Q (.bl true) H1 else tb σ H1 Q):xl ta tb σ H Q:=h
def rd_notV(h:ta σ H λx H1=>∃k,x=.bl k/\Q (.bl (!k)) H1):sZ ta σ H Q:=h
def rd_yes{R:Bool->Hp->Prop}(h:R true H):uj σ H R:=h
def rd_I0{g:Int->Int->V}{i j:Int}(h:Q (g i j) H):fW g (.int i) (.int j) H Q:=⟨i,j,rfl,rfl,h⟩
def rd_I{C:Int->Int->Prop}{g:Int->Int->V}{i j:Int}(hc:C i j)(h:Q (g i j) H):rI C g (.int i) (.int j) H Q:=⟨i,j,rfl,rfl,hc,h⟩
def rd_U{g:Int->V}{i:Int}(h:Q (g i) H):rU g (.int i) H Q:=⟨i,rfl,h⟩
def rd_EqI{i j:Int}(h:Q (.bl (decide (i=j))) H):kS (.int i) (.int j) H Q:=⟨rfl,by
 have e:decide (V.int i=V.int j)=decide (i=j):=by rw[Fn];simp
 rw[e];exact h⟩
def rd_NeI{i j:Int}(h:Q (.bl (!decide (i=j))) H):m3 (.int i) (.int j) H Q:=⟨rfl,by
 have e:decide (V.int i=V.int j)=decide (i=j):=by rw[Fn];simp
 rw[e];exact h⟩
def rd_EqB{i j:Bool}(h:Q (.bl (i == j)) H):kS (.bl i) (.bl j) H Q:=⟨rfl,by rw[nK];exact h⟩
def aF{p:Addr}{xs:List V}{i:Int}{v:V}(e:ag K H p xs)(a:bz xs i=some v)(h:Q v H):mX K (.ref p) (.int i) H Q:=⟨p,xs,i,v,rfl,rfl,e,a,h⟩
def aB{p:Addr}{xs:List V}{i:Int}{v:V}(e:ai K H p xs)(a:bz xs i=some v)(h:Q v H):oO K (.ref p) (.int i) H Q:=⟨p,xs,i,v,rfl,rfl,e,a,h⟩
def eh{p:Addr}{xs:List V}(e:ag K H p xs)(h:Q (.int xs.length) H):kL K [.ref p] H Q:=⟨p,xs,rfl,.inl e,h⟩
def jg{p:Addr}{xs:List V}(e:ai K H p xs)(h:Q (.int xs.length) H):kL K [.ref p] H Q:=⟨p,xs,rfl,.inr e,h⟩
def gg{p:Addr}{xs:List V}(e:ag K H p xs)(h:fC H (.tup xs) Q):lY K [.ref p] H Q:=⟨p,xs,rfl,.inl ⟨e,h⟩⟩
def eL{x:V}{n T:String}{b:Bool}(hk:fA H x n)(hb:iD n T=some b)(h:Q (.bl b) H):rQ [x,.ty T] H Q:=⟨x,n,T,b,rfl,hk,hb,h⟩
def rd_intB{k:Bool}(h:Q (.int (if k then 1 else 0)) H):wY [.bl k] H Q:=.inr ⟨k,rfl,h⟩
def rd_call{sp:Sp}{a:TA}{E:XK}(h:a σ H λvs H1=>sp (vs++[]) H1 Q E):kg sp [] E a σ H Q:=h
def rd_BM{T:String}{r:V->List V->Hp->VK->Prop}{a:TA}(h:te σ H λx H1=>gJ K T x H1/\a σ H1 λxs H2=>r x xs H2 Q):mK K T r te a σ H Q:=h
def rd_tup{a:TA}(h:a σ H λxs H1=>xs.length<=sizeLine/\fC H1 (.tup xs) Q):lW a σ H Q:=h
def rd_lst{a:TA}(h:a σ H λxs H1=>xs.length<=sizeLine/\fC H1 (.lst xs) Q):qX a σ H Q:=h
def rd_sl{r:V->Option Int->Option Int->Hp->VK->Prop}{tl th:TO}(h:te σ H λx H1=>tl σ H1 λl H2=>th σ H2 λv H3=>r x l v H3 Q):vP r te tl th σ H Q:=h
def rd_noPart{R:Option Int->Hp->Prop}(h:R none H):qD σ H R:=h
def rd_part{R:Option Int->Hp->Prop}(h:te σ H λx H1=>∃i,x=.int i/\R (some i) H1):uM te σ H R:=h
def rd_exi{i:Int}{R:Int->Prop}(h:R i):∃k,V.int i=V.int k/\R k:=⟨i,rfl,h⟩
def rd_chain{r r':R2}(h:ta σ H λx H1=>tb σ H1 λy H2=>r x y H2 λz H3=>∃k,z=.bl k/\(if k=true then tc σ H3 λw' H4=>r' y w' H4 Q else Q (.bl false) H3)):lA r r' ta tb tc σ H Q:=h
def rd_comp{n:Nat}{js:List Nat}{wi:TI}{g:TG}(h:wi σ H λJ H1=>iu J n js g c te σ H1 Q):ma n js wi g c te σ H Q:=h
def rd_iL{R:It->Hp->Prop}(h:te σ H λx H1=>xq K x H1 R):mM K te σ H R:=h
def rd_iT{R:It->Hp->Prop}(h:te σ H λx H1=>w4 K x H1 R):mj K te σ H R:=h
def cH{p:Addr}{xs:List V}{R:It->Hp->Prop}(e:ag K H p xs)(h:R (dZ K p) H):xq K (.ref p) H R:=⟨p,rfl,⟨xs,e⟩,h⟩
def gh{p:Addr}{xs:List V}{R:It->Hp->Prop}(e:ai K H p xs)(h:R (cD K p) H):w4 K (.ref p) H R:=⟨p,rfl,⟨xs,e⟩,h⟩
def rd_i1{a:TA}{R:It->Hp->Prop}(h:a σ H λvs H1=>xc vs H1 R):ue a σ H R:=h
def bS{j:Int}{R:It->Hp->Prop}(h1:-(2 ^ 62)<=j/\j<2 ^ 62)(h:R (dN 0 j.toNat) H):xc [.int j] H R:=⟨j,rfl,h1.1,h1.2,h⟩
def rd_i2{a:TA}{R:It->Hp->Prop}(h:a σ H λvs H1=>qi vs H1 R):rM a σ H R:=h
def rZ{i j:Int}{R:It->Hp->Prop}(h1:-(2 ^ 62)<=i/\i<2 ^ 62/\-(2 ^ 62)<=j/\j<2 ^ 62)(h:R (dN i (j-i).toNat) H):qi [.int i,.int j] H R:=⟨i,j,rfl,h1,h⟩
def rd_i3{a:TA}{R:It->Hp->Prop}(h:a σ H λvs H1=>wQ vs H1 R):xj a σ H R:=h
def CO{i j c:Int}{R:It->Hp->Prop}(h1:ir i j c)(h:R (gD i c (ft i j c)) H):wQ [.int i,.int j,.int c] H R:=⟨i,j,c,rfl,h1,h⟩
def rd_for{wi:TI}{g:TG}(h:wi σ H λJ H1=>iG J g t D σ H1):w9 wi g t D σ H:=h
def bJ{l:Addr}{xs:List V}{y:V}(e:H l=some (.lst xs))(hz:xs.length<sizeLine)(h:Q .non (upd H l (.lst (xs++[y])))):uC (.ref l) [y] H Q:=⟨l,xs,y,rfl,rfl,e,hz,h⟩
def cB{p:Addr}{xs:List V}(e:ag K H p xs):gJ K "list" (.ref p) H:=.inl ⟨rfl,xs,e⟩
def rd_sub{to ti:TE}{w:kn}{v:V}{R:St->Hp->Prop}(h:to σ H λo H1=>ti σ H1 λi H2=>w o i v H2 λH3=>R σ H3):qV to ti w v σ H R:=h
def iN{p:Addr}{xs:List V}{k:Int}{j:Nat}{v:V}{R:Hp->Prop}(e:H p=some (.lst xs))(a:fi xs.length k=some j)(h:R (upd H p (.lst (xs.set j v)))):r9 (.ref p) (.int k) v H R:=⟨p,xs,k,j,rfl,rfl,e,a,h⟩
def gN{n:Nat}{g:dM}{a:Addr}{xs:List V}{R:St->Hp->Prop}(e:ai K H a xs)(hl:xs.length=n)(h:g xs σ H R):oB K n g (.ref a) σ H R:=⟨a,xs,rfl,e,hl,h⟩
def rd_gcons{g:TG}{gs:dM}{v:V}{r:List V}{R:St->Hp->Prop}(h:g v σ H λσ' H'=>gs r σ' H' R):uG g gs (v::r) σ H R:=⟨v,r,rfl,h⟩
def rd_gnil{R:St->Hp->Prop}(h:R σ H):qh [] σ H R:=⟨rfl,h⟩
def jj{l b:Addr}{xs zs:List V}(e1:H l=some (.lst xs))(e2:H b=some (.lst zs))(hz:xs.length+zs.length<=sizeLine)(h:fC H (.lst (xs++zs)) Q):sF (.ref l) (.ref b) H Q:=⟨l,b,xs,zs,rfl,rfl,e1,e2,hz,h⟩
def nF{l:Addr}{k:Int}{xs:List V}(e:H l=some (.lst xs))(hk:0<=k/\k<10 ^ 6)(hz:xs.length*k.toNat<=sizeLine)(h:fC H (.lst (Fv k.toNat xs).flatten) Q):vj (.ref l) (.int k) H Q:=
 ⟨l,k,xs,rfl,rfl,e,by omega,by omega,hz,h⟩
def iI{a:Addr}{xs:List V}{lo hi:Option Int}(e:ag K H a xs)(h:fC H (.lst (cj xs lo hi)) Q):m5 K (.ref a) lo hi H Q:=⟨a,xs,rfl,e,h⟩
def BR{neg:Bool}{x:V}{p:Addr}{xs:List V}(e:ag K H p xs\/ai K H p xs)(f:eS x=true)(fs:xs.all eS=true)(h:Q (.bl (if neg then !ij x xs else ij x xs)) H):oN K neg x (.ref p) H Q:=⟨p,xs,rfl,e,f,fs,h⟩
def bW{o:HO}{R:VK}(h:∀p H',Ext H H'->H' p=some o->H p=none->R (.ref p) H'):fC H o R:=λp hp=>
 h p _ (λb u e=>by rw[ay (cg e hp)];exact e) aE hp
def aX{p:Addr}{o:HO}(hp:H p=none):Ext H (upd H p o):=λb u e=>by rw[ay (cg e hp)];exact e
def ag.ext{H':Hp}{p:Addr}{xs:List V}(e:Ext H H')(h:ag K H p xs):ag K H' p xs:=by
 rcases h with(h|⟨o,h⟩)|h
 ·exact .inl (.inl (e _ _ h))
 ·exact .inl (.inr ⟨o,e _ _ h⟩)
 ·exact .inr h
end
def dP{α:Type}{xs:List α}{i:Int}{v:α}(h0:0<=i)(h:xs[i.toNat]?=some v):bz xs i=some v:=by
 have:=gK h
 rwa [EZ h0]at this
def iF{n:Nat}{i:Int}(h0:0<=i)(h:i<n):fi n i=some i.toNat:=by unfold fi;rw[FI h0,FI h]
def eF:V->PyData->Prop
 | .non,.none=>True
 | .bl b,.bool c=>b=c
 | .int i,.int j=>i=j
 | .str x,.str y=>x=y/\(PyData.str y).canLay0=true
 | _,_=>False
def aV(H:Hp):Nat->V->PyData->Prop
 | 0,x,d=>eF x d
 | n+1,x,d=>eF x d\/∃a xs ds,x=.ref a/\((H a=some (.tup xs)/\d=.tuple ds)\/(H a=some (.lst xs)/\d=.list ds))/\Paired (aV H n) xs ds
section
variable {X:Cx} {pins:List (Addr×Obj)} {σ:St} {H:Hp} {s:Shared}
def eF.reads{x:V}{d:PyData}{u:Value}(h:eF x d)(r:RelV x u):∃as,Reads s.heap u d as:=by
 cases x with
 | non=>cases d<;>first|exact False.elim h|(cases r;exact⟨_,.none⟩)
 | bl b=>cases d<;>first|exact False.elim h|(cases(show b=_ from h);cases r;exact⟨_,.bool _⟩)
 | int i=>cases d<;>first|exact False.elim h|(cases(show i=_ from h);obtain⟨t,rfl⟩:=r;exact⟨_,.int _ t⟩)
 | str z=>cases d<;>first|exact False.elim h|(cases(show z=_/\_ from h).1;obtain⟨t,rfl⟩:=r;exact⟨_,.str _ t⟩)
 | _=>cases d<;>exact False.elim h
def eF.lay{x:V}{d:PyData}(h:eF x d):d.canLay0=true/\d.depth=0:=by cases x<;>cases d<;>first|exact False.elim h|exact ⟨rfl,rfl⟩|exact ⟨h.2,rfl⟩
def lO{R:V->PyData->Prop}(ih:∀{x:V} {d:PyData} {u:Value},R x d->RelV x u->∃as,Reads s.heap u d as):∀{xs:List V} {ds:List PyData} {us:List Value},Paired R xs ds->Vals xs us->∃as,ReadsAll s.heap us ds as
 | _,_,_,.nil,.nil=>⟨_,.nil⟩
 | _,_,_,.cons h t,.cons r rt=>by obtain⟨as,ha⟩:=ih h r;obtain⟨bs,hb⟩:=lO ih t rt;exact⟨_,.cons ha hb⟩
def aV.reads(I:Inv X pins σ H s):∀(n:Nat) {x:V} {d:PyData} {u:Value},aV H n x d->RelV x u->∃as,Reads s.heap u d as
 | 0,_,_,_,h,r=>eF.reads h r
 | n+1,x,d,u,h,r=>by
  rcases h with h|⟨a,xs,ds,rfl,hh,hp⟩
  ·exact eF.reads h r
  ·cases r;rcases hh with⟨e,rfl⟩|⟨e,rfl⟩
   ·obtain⟨its,rv,⟨o,ho,hc,k,hd⟩,_⟩:=I.tuple (ai.of e);obtain⟨as,ha⟩:=lO (λ{x d u}=>aV.reads I n) hp rv;exact⟨_,.tuple ho hc hd (by simpa using ha)⟩
   ·obtain⟨its,k,rv,ho,_⟩:=I.lst e;obtain⟨as,ha⟩:=lO (λ{x d u}=>aV.reads I n) hp rv;exact⟨_,.list ho rfl rfl (by simpa using ha)⟩
def jw{R:V->PyData->Prop}{m:Nat}(ih:∀{x:V} {d:PyData},R x d->d.canLay0=true/\d.depth<=m):∀{xs:List V} {ds:List PyData},Paired R xs ds->PyData.canLayAll0 ds=true/\PyData.depthAll ds<=m
 | _,_,.nil=>⟨rfl,Nat.zero_le _⟩
 | _,_,.cons h t=>by
  obtain⟨h1,h2⟩:=ih h;obtain⟨h3,h4⟩:=jw ih t;refine⟨?_,?_⟩
  ·simp only[PyData.canLayAll0,h1,h3,Bool.and_self]
  ·simp only[PyData.depthAll];exact Nat.max_le.mpr ⟨h2,h4⟩
def aV.lay:∀(n:Nat) {x:V} {d:PyData},aV H n x d->d.canLay0=true/\d.depth<=n
 | 0,_,_,h=>⟨(eF.lay h).1,Nat.le_of_eq (eF.lay h).2⟩
 | n+1,x,d,h=>by
  rcases h with h|⟨a,xs,ds,rfl,hh,hp⟩
  ·exact⟨(eF.lay h).1,by rw[(eF.lay h).2];exact Nat.zero_le _⟩
  ·obtain⟨h1,h2⟩:=jw (λ{x d}=>aV.lay n) hp;rcases hh with⟨e,rfl⟩|⟨e,rfl⟩
   ·exact⟨h1,Nat.succ_le_succ h2⟩
   ·exact⟨h1,Nat.succ_le_succ h2⟩
def wJ(neg:Bool):R2:=λx y H Q=>∃n m d e,aV H n x d/\aV H m y e/\n<=50/\Q (.bl (if neg then !PyData.eqv d e else PyData.eqv d e)) H
def Dp{k:Nat}(hr:Room k X.A):bD X (compareOp .Eq) (wJ false):=by intro pins s σ H x y v u Q I rx ry h;obtain⟨n,m,d,e,h1,h2,hn,q⟩:=h;obtain⟨as,ra⟩:=aV.reads I n h1 rx;obtain⟨bs,rb⟩:=aV.reads I m h2 ry;have l1:=aV.lay n h1;have l2:=aV.lay m h2;have hu:=hr.units;have hm:min d.depth e.depth<=50:=Fi (Nat.min_le_left _ _) (Fi l1.2 hn);exact SeqAt.compareEq_reads ra rb l1.1 l2.1 (by omega) ⟨.bl _,H,I,rfl,q⟩
def A9{k:Nat}(hr:Room k X.A):bD X (compareOp .NotEq) (wJ true):=by intro pins s σ H x y v u Q I rx ry h;obtain⟨n,m,d,e,h1,h2,hn,q⟩:=h;obtain⟨as,ra⟩:=aV.reads I n h1 rx;obtain⟨bs,rb⟩:=aV.reads I m h2 ry;have l1:=aV.lay n h1;have l2:=aV.lay m h2;have hu:=hr.units;have hm:min d.depth e.depth<=50:=Fi (Nat.min_le_left _ _) (Fi l1.2 hn);exact SeqAt.compareNe_reads ra rb l1.1 l2.1 (by omega) ⟨.bl _,H,I,rfl,q⟩
end
def yL(K:EG):List V->Hp->VK->Prop:=λxs H Q=>∃(p:Addr) (bs:List Bool),xs=[.ref p]/\ag K H p (bs.map V.bl)/\Q (.bl (bs.all id)) H
def mW:∀{bs:List Bool} {us:List Value},Vals (bs.map V.bl) us->us=bs.map Value.bool
 | [],_,r=>by cases r;rfl
 | b::bs,_,r=>by
  cases r with
  | cons r t=>cases r;rw[mW t];rfl
def all_range(bs:List Bool):((FE bs.length).all λi=>bs.getD i false)=bs.all id:=by
 rw[Fn,Fl,Fl];constructor
 ·intro h b hb;obtain⟨i,hi,e⟩:=List.mem_iff_getElem.mp hb;have:=h i (List.mem_range.mpr hi);rw[List.getD_eq_getElem?_getD,EL hi]at this;rw[←e];exact this
 ·intro h i hi;have hi':=List.mem_range.mp hi;rw[List.getD_eq_getElem?_getD,EL hi'];exact h _ (Fd hi')
def i4{X:Cx}(K:EG)(hc:X.calm=true)(hK:X.K=K:=by rfl):cQ X (.builtin "all") (yL K):=by
 subst hK;intro pins s σ H xs us Q I r h;obtain⟨p,bs,rfl,hq,q⟩:=h;obtain⟨u,rfl,rx⟩:=vals1 r;cases rx;obtain⟨its,rv,pl,hz⟩:=I.list hq;have eb:=mW rv;have hne:p≠s.heap.objs.size:=E5 (by obtain⟨o,n,e,_⟩:=pl;exact EJ e);refine call_all_walk (wpAny_pyIter_list pl.isList ?_);have I1:Inv X pins σ H { s with heap:=s.heap.push { cls:=.type "list_iterator",data:=.fields #[.ref p,.int 0 0] } }:=I.kept (t':=s.toks) λb o e=>EH _ e;have hf:=I.fpOk (H':=H) (E6 s.heap.objs.size) I.fresh;refine⟨s.heap.objs.size,_,_,_,_,_,(λi=>bs.getD i false),rfl,Walks.list (A:=X.A.in1) (I.ok.hd hc) _ p hne its.toArray,⟨⟨_,EI _ rfl,rfl,rfl⟩,?_⟩,?_,λh' tk hk=>?_⟩
 ·exact pl.isList.push _
 ·intro i v s' Q' E' hv hQ;rw[eb]at hv;have hv':(bs.map Value.bool)[i]?=some v:=by simpa using hv
  rw[EM]at hv';cases eg:bs[i]? with
  | none=>rw[eg]at hv';cases hv'
  | some b=>
   rw[eg]at hv';cases hv';have eb':bs.getD i false=b:=by rw[List.getD_eq_getElem?_getD,eg];rfl
   have hQ':Q' (bs.getD i false) s':=hQ;rw[eb']at hQ';exact wpAny_truthy_bool hQ'
 ·obtain⟨f0,f1,f2,f3,f4,f5⟩:=hf;have hl:=rv.length;rw[EK]at hl;refine⟨.bl (bs.all id),H,I1.turned (it:=s.heap.objs.size) (λb o hb e=>hk b o (by simpa using hb) e) f0 f1 f3 f4 f5,?_,q⟩;show Value.bool _=Value.bool _;rw[ER,←hl,all_range]
def sV(c:TT)(tb:TS):TS:=λD σ H=>∃(W:Nat->St->Hp->Prop) (R:St->Hp->Prop),(∃m,W m σ H)/\(∀m σ H,W m σ H →
 c σ H λb H1=>if b=true then ∃N:St->Hp->Prop,(∀σ' H',N σ' H'->∃m',m'<m/\W m' σ' H')/\tb ⟨N,D.rt,R,N⟩ σ H1 else R σ H1)/\∀σ H,R σ H->D.nx σ H
def fD{X:Cx}{pos:Pos}{c:Expr}{body:List Stmt}{tc:TT}{tb:TS}(hp:PassesOwn (model X.prog X.w) X.A X.env X.xe)(hc:PT X c tc)(hb:cP X body tb):PS X (.While c body [] pos) (sV tc tb):=by
 intro pins s σ H D I h;obtain⟨W,R,w0,hs,hR⟩:=h;refine av (Ad hp hc hb pins s σ H { D with nx:=R } I ⟨W,w0,hs⟩) λf s1 q=>?_;cases f with
 | next=>
  obtain⟨σ',H',I',q⟩:=q;exact⟨σ',H',I',hR σ' H' q⟩
 | ret v=>exact q
 | brk=>exact q
 | cont=>exact q
section
variable {D:Ends} {σ:St} {H:Hp} {Q:VK} {te:TE} {t:TS} {c:TT}
def fY(W:Nat->St->Hp->Prop)(R:St->Hp->Prop)(m:Nat)(h0:W m σ H)(hs:∀m σ H,W m σ H->c σ H λb H1=>if b=true then ∃N:St->Hp->Prop,(∀σ' H',N σ' H'->∃m',m'<m/\W m' σ' H')/\t ⟨N,D.rt,R,N⟩ σ H1 else R σ H1)(k:∀σ H,R σ H->D.nx σ H):sV c t D σ H:=⟨W,R,⟨m,h0⟩,hs,k⟩
def rd_aug{i:Nat}{ti:jM}{x:V}(e:σ[i]?=some (some x))(h:te σ H λy H1=>ti x y H1 λz H2=>D.nx (σ.set i (some z)) H2):qR i te ti D σ H:=⟨x,e,h⟩
def rd_ipI{f:Int->Int->Int}{i j:Int}(h:Q (.int (f i j)) H):mw f (.int i) (.int j) H Q:=⟨i,j,rfl,rfl,h⟩
end
section
variable {prog:Program} {w:World} {A:Around} {E:Value->Shared->Prop} {s:Shared}
def wW{it t:Addr}{i:Nat}{ys:Array Value}{x:Value}{Q:Value->Shared->Prop}(gi:s.heap.IsTupleIter it t i)(gt:s.heap.IsTuple t ys)(gx:ys[i]?=some x)
  (q:∀h',h'.IsTupleIter it t (i+1)->Heap.SameBut it s.heap h'->Q x { s with heap:=h' }):wpAny (model prog w) A (Builtin.SmallTypes.nextOf (.ref it)) Q E s:=by
 obtain⟨u,gu,gc,gd⟩:=id gi;obtain⟨v,gv,_,k,gk⟩:=gt;unfold Builtin.SmallTypes.nextOf;refine EE (FD (name:=Fp "__next__") gi.typeIs F.slot_tuple_iterator_next (wpAny_call_entry F.slot_tuple_iterator_next gi.typeIs F.entry_tuple_iterator_next ?_ (F.args_tuple_iterator_next_1 _)));show wpAny _ _ (field (Value.ref it) 0 >>= _) _ _ s;refine EE (wpAny_field gu gd (x:=Value.ref t) rfl ?_);show wpAny _ _ (if(Value.ref t == Value.none)=true then _ else _) _ _ s;rw[FH (show ¬(Value.ref t == Value.none)=true from E2)];show wpAny _ _ (field (Value.ref it) 1 >>= _) _ _ s;refine EE (wpAny_field gu gd (x:=Value.int i 0) rfl ?_);show wpAny _ _ (seqItems? (Value.ref t) >>= _) _ _ s;refine EE (wpAny_seqItems gv gk ?_);simp only[EY,gx];refine EE (wpAny_setField gu gd (by simp) (EF ⟨x,rfl,EF (q _ ?_ (Heap.SameBut.update ..))⟩));exact⟨_,Heap.get?_update_self _ gu (Obj.isFreed_of_fields (Obj.data_mapFields gd _)),(Obj.cls_mapFields ..).trans gc,by rw[Obj.data_mapFields gd];simp[rawInt]⟩
def nL{it t:Addr}{i:Nat}{ys:Array Value}{Q:Value->Shared->Prop}(hA:A.handled=none)(gi:s.heap.IsTupleIter it t i)(gt:s.heap.IsTuple t ys)(gx:ys[i]?=none)
  (q:∀h' e,Heap.ExtBut it s.heap h'->(∃o,h'.get? e=some o/\o.cls=.type "StopIteration")->E (.ref e) { s with heap:=h' }):wpAny (model prog w) A (Builtin.SmallTypes.nextOf (.ref it)) Q E s:=by
 obtain⟨u,gu,gc,gd⟩:=id gi;obtain⟨v,gv,_,k,gk⟩:=gt;unfold Builtin.SmallTypes.nextOf;refine EE (FD (name:=Fp "__next__") gi.typeIs F.slot_tuple_iterator_next (wpAny_call_entry F.slot_tuple_iterator_next gi.typeIs F.entry_tuple_iterator_next ?_ (F.args_tuple_iterator_next_1 _)));show wpAny _ _ (field (Value.ref it) 0 >>= _) _ _ s;refine EE (wpAny_field gu gd (x:=Value.ref t) rfl ?_);show wpAny _ _ (if(Value.ref t == Value.none)=true then _ else _) _ _ s;rw[FH (show ¬(Value.ref t == Value.none)=true from E2)];show wpAny _ _ (field (Value.ref it) 1 >>= _) _ _ s;refine EE (wpAny_field gu gd (x:=Value.int i 0) rfl ?_);show wpAny _ _ (seqItems? (Value.ref t) >>= _) _ _ s;refine EE (wpAny_seqItems gv gk ?_);simp only[EY,gx];refine EE (wpAny_rule (EE (wpAny_setField gu gd (by simp) ?_)));show wpAny _ _ (newExc (Value.type "StopIteration") [] >>= _) _ _ _;refine EE ?_;simp only[newExc,newTuple];refine EE (wpAny_newObj_type (hd:=by size_fits) ?_);refine EE (m:=firstArgMember _ _) (wpAny_of_eq (a:=Value.none) (by first|rfl|(unfold firstArgMember;rfl)) ?_);refine wpAny_newObj_type (hd:=by size_fits) ?_;simp only[raiseNew];refine EE (wpAny_handled ?_)
 first|rw [show Around.handled A.in1=none from hA]|rw [hA]
 refine EE (EF (wpAny_throw ?_));exact q _ _ (((Heap.SameBut.update ..).extBut.push _).push _) ⟨_,EI _ rfl,rfl⟩
end
structure Sub(P:Program)(w:World)(K:EG)(J:It)(it:Addr)(tn:Nat->Heap->Prop):Prop where
 obj:∀i h,tn i h->∃o,h.get? it=some o/\∀v,o.data≠.cell v
 keep:∀i h h',tn i h->(∀o,h.get? it=some o->h'.get? it=some o)->tn i h'
 item:∀(X:Cx),X.prog=P->X.w=w->X.K=K->∀(A:Around) (i:Nat) (pins:List (Addr×Obj)) (s:Shared) (σ:St) (H:Hp) (Q:Value->Shared->Prop) (E:Value->Shared->Prop),Inv X pins σ H s->cc X pins H it->tn i s.heap->J.go i H →
  (∀x u h',Inv X pins σ H { s with heap:=h' }->RelV x u->J.yld i H x H->tn (i+1) h'->Heap.SameBut it s.heap h'->Q u { s with heap:=h' })->wpAny (model P w) A (Builtin.SmallTypes.nextOf (.ref it)) Q E s
 done:∀(X:Cx),X.prog=P->X.w=w->X.K=K->∀(A:Around),A.handled=none->∀(i:Nat) (pins:List (Addr×Obj)) (s:Shared) (σ:St) (H:Hp) (Q:Value->Shared->Prop) (E:Value->Shared->Prop),Inv X pins σ H s->cc X pins H it->tn i s.heap->J.stop i H →
  (∀h' e,Heap.ExtBut it s.heap h'->(∃o,h'.get? e=some o/\o.cls=.type "StopIteration")->E (.ref e) { s with heap:=h' })->wpAny (model P w) A (Builtin.SmallTypes.nextOf (.ref it)) Q E s
def rF{P:Program}{w:World}{K:EG}(a it:Addr):Sub P w K (dZ K a) it (λi h=>h.IsListIter it a i) where
 obj:=λi h st=>by obtain⟨o,e,c,d⟩:=st;exact⟨o,e,λv z=>by rw[d]at z;cases z⟩
 keep:=λi h h' st k=>st.at k
 item:=by intro X hP hw hK A i pins s σ H Q E I hf st hg hQ;subst hP hw hK;obtain⟨xs,x,hq,hx⟩:=hg;obtain⟨its,rv,p,hz⟩:=I.list hq;obtain⟨u,hu,ru⟩:=rv.get hx;obtain⟨f0,f1,f2,f3,f4,f5⟩:=hf;exact wpAny_nextOf_list_item st p.isList (x:=u) (by simpa using hu) λh' st' sb=>hQ x u h' (I.turned (t':=s.toks) (it:=it) (λb o hb e=>(sb.2 b hb).trans e) f0 f1 f3 f4 f5) ru ⟨rfl,λys hy=>by rw[I.list_inj hy hq];exact hx⟩ st' sb
 done:=by intro X hP hw hK A hA i pins s σ H Q E I hf st hg hE;subst hP hw hK;obtain⟨xs,hq,hx⟩:=hg;obtain⟨its,rv,p,hz⟩:=I.list hq;have hl:=rv.length;exact wpAny_nextOf_list_end hA st p.isList (by simp;omega) hE
def tL{P:Program}{w:World}{K:EG}(a it:Addr):Sub P w K (cD K a) it (λi h=>h.IsTupleIter it a i) where
 obj:=λi h st=>by obtain⟨o,e,c,d⟩:=st;exact⟨o,e,λv z=>by rw[d]at z;cases z⟩
 keep:=λi h h' st k=>st.at k
 item:=by intro X hP hw hK A i pins s σ H Q E I hf st hg hQ;subst hP hw hK;obtain⟨xs,x,hq,hx⟩:=hg;obtain⟨its,rv,p,hz⟩:=I.tuple hq;obtain⟨u,hu,ru⟩:=rv.get hx;obtain⟨f0,f1,f2,f3,f4,f5⟩:=hf;exact wW st (show s.heap.IsTuple a its.toArray from p) (x:=u) (by simpa using hu) λh' st' sb=>hQ x u h' (I.turned (t':=s.toks) (it:=it) (λb o hb e=>(sb.2 b hb).trans e) f0 f1 f3 f4 f5) ru ⟨rfl,λys hy=>by rw[I.tuple_inj hy hq];exact hx⟩ st' sb
 done:=by intro X hP hw hK A hA i pins s σ H Q E I hf st hg hE;subst hP hw hK;obtain⟨xs,hq,hx⟩:=hg;obtain⟨its,rv,p,hz⟩:=I.tuple hq;have hl:=rv.length;exact nL hA st (show s.heap.IsTuple a its.toArray from p) (by simp;omega) hE
def iA(J1 J2:It):It:=⟨λi H=>J1.go i H/\J2.go i H,λi H x H'=>∃p u v,x=.ref p/\H p=none/\H'=upd H p (.tup [u,v])/\J1.yld i H u H/\J2.yld i H v H,λi H=>J1.stop i H\/(J1.go i H/\J2.stop i H)⟩
structure Apart(z TI TO i1 i2:Addr):Prop where
 a:TI≠z
 b:TO≠z
 c:i1≠z
 d:i2≠z
 e:TI≠TO
 f:TI≠i1
 g:TI≠i2
 h:TO≠i1
 i:TO≠i2
 j:i1≠i2
section
variable {X:Cx} {pins:List (Addr×Obj)} {σ:St} {H:Hp} {s:Shared}
def Inv.same{it:Addr}{k h':Heap}(I:Inv X pins σ H { s with heap:=k })(f:cc X pins H it)(b:Heap.ExtBut it k h'):Inv X pins σ H { s with heap:=h' }:=by obtain⟨f0,f1,f2,f3,f4,f5⟩:=f;exact Inv.turned (s:={ s with heap:=k }) (t':=s.toks) (it:=it) I (λc o hb e=>b c o hb e) f0 f1 f3 f4 f5
def Bm{J1 J2:It}{z TI TO i1 i2:Addr}{t1 t2:Nat->Heap->Prop}{A:Around}{E:Value->Shared->Prop}{a b:Value}{i:Nat}{Q:Value->Shared->Prop}(S1:Sub X.prog X.w X.K J1 i1 t1)(S2:Sub X.prog X.w X.K J2 i2 t2)(N:Apart z TI TO i1 i2)
  (I:Inv X pins σ H s) (hf:∀b∈[z,TI,TO,i1,i2],cc X pins H b) (gz:IsZip s.heap z TI TO .none) (gI:IsPair s.heap TI (.ref i1) (.ref i2)) (gO:IsPair s.heap TO a b) (g1:t1 i s.heap) (g2:t2 i s.heap) (go1:J1.go i H) (go2:J2.go i H)
  (q:∀x y h',Inv X pins σ (upd H s.heap.objs.size (.tup [x,y])) { s with heap:=h' }->J1.yld i H x H->J2.yld i H y H->IsZip h' z TI TO (rawInt s.heap.objs.size)->IsPair h' TI (.ref i1) (.ref i2)->(∃a b,IsPair h' TO a b)->t1 (i+1) h'->t2 (i+1) h'->Q (.ref s.heap.objs.size) { s with heap:=h' }) :
  wpAny (model X.prog X.w) A (Builtin.«zip.__next__» ⟨[.ref z],[]⟩) (λfin s'=>∃v,fin=.done (.ret v)/\Q v s') E s:=by
 have fz:=hf z (by simp);have fO:=hf TO (by simp);have f1:=hf i1 (by simp);have f2:=hf i2 (by simp);show wpAny _ _ (field (Value.ref z) 2 >>= _) _ _ _;refine EE (wpAny_field gz rfl (x:=Value.bool false) rfl ?_);show wpAny _ _ (field (Value.ref z) 3 >>= _) _ _ _;refine EE (wpAny_field gz rfl (x:=Value.ref TI) rfl ?_);refine EE (wpAny_seqItems gI rfl ?_);show wpAny _ _ (Builtin.SmallTypes.ownedTupleIsFree (Value.ref z) >>= _) _ _ _;refine EE ?_;unfold Builtin.SmallTypes.ownedTupleIsFree;refine EE (wpAny_field gz rfl (x:=Value.none) rfl (EF ?_));simp only[if_true];refine EE (wpAny_rule ?_);refine EE (wpAny_field gz rfl (x:=Value.ref TO) rfl ?_);refine EE (wpAny_setField_rec gz (by simp) λk1 gz1 b1=>?_)
 replace gz1:IsZip k1 z TI TO .ellipsis:=gz1
 have s1:=b1.1
 replace b1:=b1.extBut
 have I1:Inv X pins σ H { s with heap:=k1 }:=Inv.same (show Inv X pins σ H { s with heap:=s.heap }from I) fz b1;refine EE ?_;simp only[List.zipIdx_cons,List.zipIdx_nil,List.forIn_cons,List.forIn_nil];refine EE (EE (wpAny_onRaise ?_));show wpAny _ _ (Builtin.SmallTypes.nextOf (Value.ref i1) >>= _) _ _ _;refine EE (S1.item X rfl rfl rfl _ i pins _ σ H _ _ I1 f1 (S1.keep i _ _ g1 λo e=>b1 _ _ N.c e) go1 λx ux k2 I2 rx yx t12 b2=>EF ?_)
 replace I2:Inv X pins σ H { s with heap:=k2 }:=I2
 have s2:=b2.1
 replace b2:=b2.extBut
 have gO2:IsPair k2 TO a b:=b2 _ _ N.h (b1 _ _ N.b gO);refine EE (wpAny_seqItems gO2 rfl ?_);refine EE (wpAny_updateSeq_pair gO2 λk3 gO3 b3=>?_)
 replace gO3:IsPair k3 TO ux b:=gO3
 have s3:=b3.1
 replace b3:=b3.extBut
 have I3:Inv X pins σ H { s with heap:=k3 }:=Inv.same I2 fO b3;refine EE (wpAny_letGo (EF ?_));refine EE (EE (wpAny_onRaise ?_));show wpAny _ _ (Builtin.SmallTypes.nextOf (Value.ref i2) >>= _) _ _ _;refine EE (S2.item X rfl rfl rfl _ i pins _ σ H _ _ I3 f2 (S2.keep i _ _ g2 λo e=>b3 _ _ (Ne.symm N.i) (b2 _ _ (Ne.symm N.j) (b1 _ _ N.d e))) go2 λy uy k4 I4 ry yy t24 b4=>EF ?_)
 replace I4:Inv X pins σ H { s with heap:=k4 }:=I4
 have s4:=b4.1
 replace b4:=b4.extBut
 have gO4:IsPair k4 TO ux b:=b4 _ _ N.i gO3;refine EE (wpAny_seqItems gO4 rfl ?_);refine EE (wpAny_updateSeq_pair gO4 λk5 gO5 b5=>?_)
 replace gO5:IsPair k5 TO ux uy:=gO5
 have s5:=b5.1
 replace b5:=b5.extBut
 have I5:Inv X pins σ H { s with heap:=k5 }:=Inv.same I4 fO b5;refine EE (wpAny_letGo (EF (EF ?_)));refine EE (wpAny_seqItems gO5 rfl ?_);refine EE (wpAny_newTuple ?_);have sz:k5.objs.size=s.heap.objs.size:=by rw[s5,s4,s3,s2,s1]
 have gz5:IsZip k5 z TI TO .ellipsis:=b5 _ _ (Ne.symm N.b) (b4 _ _ (Ne.symm N.d) (b3 _ _ (Ne.symm N.b) (b2 _ _ (Ne.symm N.c) gz1)));have gI5:IsPair k5 TI (.ref i1) (.ref i2):=b5 _ _ N.e (b4 _ _ N.g (b3 _ _ N.e (b2 _ _ N.f (b1 _ _ N.a gI))));have t15:t1 (i+1) k5:=S1.keep _ _ _ (S1.keep _ _ _ (S1.keep _ _ _ t12 λo e=>b3 _ _ (Ne.symm N.h) e) λo e=>b4 _ _ N.j e) λo e=>b5 _ _ (Ne.symm N.h) e;have t25:t2 (i+1) k5:=S2.keep _ _ _ t24 λo e=>b5 _ _ (Ne.symm N.i) e;have lz:z<k5.objs.size:=EJ gz5;have I6:Inv X pins σ (upd H k5.objs.size (.tup [x,y])) { s with heap:=k5.push { cls:=.type "tuple",data:=.seq #[ux,uy] } }:=
  I5.laid (t':=s.toks) (o:=.tup [x,y]) (λb ob e=>EH _ e) (E6 _) ⟨by show 2<=sizeLine;decide,[ux,uy],.cons rx (.cons ry .nil),IsTup.new _ _⟩
 have fz6:cc X pins (upd H k5.objs.size (.tup [x,y])) z:=by obtain⟨c0,c1,c2,c3,c4,c5⟩:=fz;exact⟨by rw[ay (E5 lz)];exact c0,c1,c2,c3,c4,c5⟩
 show wpAny _ _ (Builtin.SmallTypes.ownedTupleHandOut (Value.ref z) (Value.ref k5.objs.size) >>= _) _ _ _;refine EE ?_;unfold Builtin.SmallTypes.ownedTupleHandOut;have gz6:IsZip (k5.push { cls:=.type "tuple",data:=.seq #[ux,uy] }) z TI TO .ellipsis:=EH _ gz5;refine EE (wpAny_setField_rec gz6 (by simp) λk7 gz7 b7=>?_)
 replace gz7:IsZip k7 z TI TO (rawInt k5.objs.size):=gz7
 replace b7:=b7.extBut
 have I7:Inv X pins σ (upd H k5.objs.size (.tup [x,y])) { s with heap:=k7 }:=Inv.same I6 fz6 b7;refine wpAny_setField_rec gz7 (by simp) λk8 gz8 b8=>?_
 replace gz8:IsZip k8 z TI TO (rawInt k5.objs.size):=gz8
 replace b8:=b8.extBut
 have I8:Inv X pins σ (upd H k5.objs.size (.tup [x,y])) { s with heap:=k8 }:=Inv.same I7 fz6 b8;have up:∀b o,b≠z->k5.get? b=some o->k8.get? b=some o:=λb o ne e=>b8 _ _ ne (b7 _ _ ne (EH _ e));rw[sz]at I8 gz8;refine EF ⟨_,rfl,?_⟩;show Q (.ref k5.objs.size) _;rw[sz];exact q x y k8 I8 yx yy gz8 (up _ _ N.a gI5) ⟨_,_,up _ _ N.b gO5⟩ (S1.keep _ _ _ t15 λo e=>up _ o N.c e) (S2.keep _ _ _ t25 λo e=>up _ o N.d e)
def Bz{J1 J2:It}{z TI TO i1 i2:Addr}{t1 t2:Nat->Heap->Prop}{A:Around}{E:Value->Shared->Prop}{a b:Value}{i:Nat}{Q:Fin->Shared->Prop}(hA:A.handled=none)(S1:Sub X.prog X.w X.K J1 i1 t1)(S2:Sub X.prog X.w X.K J2 i2 t2)(N:Apart z TI TO i1 i2)
  (I:Inv X pins σ H s) (hf:∀b∈[z,TI,TO,i1,i2],cc X pins H b) (gz:IsZip s.heap z TI TO .none) (gI:IsPair s.heap TI (.ref i1) (.ref i2)) (gO:IsPair s.heap TO a b) (g1:t1 i s.heap) (g2:t2 i s.heap) (st:J1.stop i H\/(J1.go i H/\J2.stop i H))
  (q:∀h' e,Inv X pins σ H { s with heap:=h' }->(∃o,h'.get? e=some o/\o.cls=.type "StopIteration")->E (.ref e) { s with heap:=h' }) :
  wpAny (model X.prog X.w) A (Builtin.«zip.__next__» ⟨[.ref z],[]⟩) Q E s:=by
 have fz:=hf z (by simp);have fO:=hf TO (by simp);have f1:=hf i1 (by simp);have f2:=hf i2 (by simp);show wpAny _ _ (field (Value.ref z) 2 >>= _) _ _ _;refine EE (wpAny_field gz rfl (x:=Value.bool false) rfl ?_);show wpAny _ _ (field (Value.ref z) 3 >>= _) _ _ _;refine EE (wpAny_field gz rfl (x:=Value.ref TI) rfl ?_);refine EE (wpAny_seqItems gI rfl ?_);show wpAny _ _ (Builtin.SmallTypes.ownedTupleIsFree (Value.ref z) >>= _) _ _ _;refine EE ?_;unfold Builtin.SmallTypes.ownedTupleIsFree;refine EE (wpAny_field gz rfl (x:=Value.none) rfl (EF ?_));simp only[if_true];refine EE (wpAny_rule ?_);refine EE (wpAny_field gz rfl (x:=Value.ref TO) rfl ?_);refine EE (wpAny_setField_rec gz (by simp) λk1 gz1 b1=>?_)
 replace gz1:IsZip k1 z TI TO .ellipsis:=gz1
 replace b1:=b1.extBut
 have I1:Inv X pins σ H { s with heap:=k1 }:=Inv.same (show Inv X pins σ H { s with heap:=s.heap }from I) fz b1;refine EE ?_;simp only[List.zipIdx_cons,List.zipIdx_nil,List.forIn_cons,List.forIn_nil];refine EE (EE (wpAny_onRaise ?_));show wpAny _ _ (Builtin.SmallTypes.nextOf (Value.ref i1) >>= _) _ _ _;have t11:t1 i k1:=S1.keep i _ _ g1 λo e=>b1 _ _ N.c e;rcases st with st|⟨go,st⟩
 ·refine EE (S1.done X rfl rfl rfl _ hA i pins _ σ H _ _ I1 f1 t11 st λk2 e b2 he=>?_);obtain⟨oe,hoe,hce⟩:=he;have gz2:IsZip k2 z TI TO .ellipsis:=b2 _ _ (Ne.symm N.c) gz1;have I2:Inv X pins σ H { s with heap:=k2 }:=Inv.same I1 f1 b2;have ne:e≠z:=λx=>by subst x;rw[gz2]at hoe;cases hoe;simp at hce
  exact wpAny_setField_rec gz2 (by simp) λk3 _ b3=>q k3 e (Inv.same I2 fz b3.extBut) ⟨oe,b3.extBut _ _ ne hoe,hce⟩
 ·refine EE (S1.item X rfl rfl rfl _ i pins _ σ H _ _ I1 f1 t11 go λx ux k2 I2 rx yx t12 b2=>EF ?_)
  replace I2:Inv X pins σ H { s with heap:=k2 }:=I2
  replace b2:=b2.extBut
  have gO2:IsPair k2 TO a b:=b2 _ _ N.h (b1 _ _ N.b gO);refine EE (wpAny_seqItems gO2 rfl ?_);refine EE (wpAny_updateSeq_pair gO2 λk3 gO3 b3=>?_)
  replace b3:=b3.extBut
  have I3:Inv X pins σ H { s with heap:=k3 }:=Inv.same I2 fO b3;refine EE (wpAny_letGo (EF ?_));refine EE (EE (wpAny_onRaise ?_));show wpAny _ _ (Builtin.SmallTypes.nextOf (Value.ref i2) >>= _) _ _ _;refine EE (S2.done X rfl rfl rfl _ hA i pins _ σ H _ _ I3 f2 (S2.keep i _ _ g2 λo e=>b3 _ _ (Ne.symm N.i) (b2 _ _ (Ne.symm N.j) (b1 _ _ N.d e))) st λk4 e b4 he=>?_);obtain⟨oe,hoe,hce⟩:=he;have gz4:IsZip k4 z TI TO .ellipsis:=b4 _ _ (Ne.symm N.d) (b3 _ _ (Ne.symm N.b) (b2 _ _ (Ne.symm N.c) gz1));have I4:Inv X pins σ H { s with heap:=k4 }:=Inv.same I3 f2 b4;have ne:e≠z:=λx=>by subst x;rw[gz4]at hoe;cases hoe;simp at hce
  exact wpAny_setField_rec gz4 (by simp) λk5 _ b5=>q k5 e (Inv.same I4 fz b5.extBut) ⟨oe,b5.extBut _ _ ne hoe,hce⟩
end
def BW{P:Program}{w:World}{K:EG}{elts:List Expr}{kk:Nat}{ps:Pos}{J1 J2:It}{z TI TO i1 i2:Addr}{t1 t2:Nat->Heap->Prop}(S1:Sub P w K J1 i1 t1)(S2:Sub P w K J2 i2 t2)(N:Apart z TI TO i1 i2):
  Turn P w K (.Tuple elts kk ps) (iA J1 J2) [z,TI,TO,i1,i2] z (λi h=>IsZip h z TI TO .none/\IsPair h TI (.ref i1) (.ref i2)/\(∃a b,IsPair h TO a b)/\t1 i h/\t2 i h) where
 mem:=by simp
 obj:=λi h st b hb=>by
  obtain⟨gz,gI,⟨a,c,gO⟩,g1,g2⟩:=st;simp only[E1,Fj,or_false]at hb;rcases hb with rfl|rfl|rfl|rfl|rfl
  ·exact⟨_,gz,λv e=>by cases(show Data.fields _=Data.cell v from e)⟩
  ·exact⟨_,gI,λv e=>by cases(show Data.seq _ _=Data.cell v from e)⟩
  ·exact⟨_,gO,λv e=>by cases(show Data.seq _ _=Data.cell v from e)⟩
  ·exact S1.obj _ _ g1
  ·exact S2.obj _ _ g2
 keep:=λi h h' st k=>by obtain⟨gz,gI,⟨a,c,gO⟩,g1,g2⟩:=st;exact⟨k z (by simp) _ gz,k TI (by simp) _ gI,⟨a,c,k TO (by simp) _ gO⟩,S1.keep _ _ _ g1 λo e=>k i1 (by simp) o e,S2.keep _ _ _ g2 λo e=>k i2 (by simp) o e⟩
 item:=by
  intro X hP hw hK hc i pins s σ H E I hf st hg;subst hP hw hK;obtain⟨gz,gI,⟨a,c,gO⟩,g1,g2⟩:=st;have gT:s.TypeIs (.ref z) "zip":=⟨_,gz,rfl⟩;unfold pyNext;refine EE (wpAny_attempt (FD (name:=Fp "__next__") gT F.slot_zip_next (wpAny_call_entry F.slot_zip_next gT F.entry_zip_next
   (Bm S1 S2 N I hf gz gI gO g1 g2 hg.1 hg.2 λx y h' I' yx yy gz' gI' gO' g1' g2'=>EF ⟨_,rfl,?_⟩) (F.args_zip_next_1 _))))
  have lt:∀b∈[z,TI,TO,i1,i2],b≠s.heap.objs.size:=λb hb=>by
   obtain⟨f0,f1,f2,f3,f4,f5⟩:=hf b hb;simp only[E1,Fj,or_false]at hb;rcases hb with rfl|rfl|rfl|rfl|rfl
   ·exact E5 (EJ gz)
   ·exact E5 (EJ gI)
   ·exact E5 (EJ gO)
   ·obtain⟨o,e,_⟩:=S1.obj _ _ g1;exact E5 (EJ e)
   ·obtain⟨o,e,_⟩:=S2.obj _ _ g2;exact E5 (EJ e)
  have fz:cc X pins (upd H s.heap.objs.size (.tup [x,y])) z:=by obtain⟨c0,c1,c2,c3,c4,c5⟩:=hf z (by simp);exact⟨by rw[ay (lt z (by simp))];exact c0,c1,c2,c3,c4,c5⟩
  obtain⟨a',c',gO'⟩:=gO';refine wpAny_letOwnedTupleGo_zip (s:={ s with heap:=h' }) gz' λk gk bk=>?_;refine⟨.ref s.heap.objs.size,upd H s.heap.objs.size (.tup [x,y]),Inv.same I' fz bk.extBut,rfl,⟨_,x,y,rfl,I.hok.fresh (E6 _),rfl,yx,yy⟩,
   ⟨gk,bk.extBut _ _ N.a gI',⟨_,_,bk.extBut _ _ N.b gO'⟩,S1.keep _ _ _ g1' λo e=>bk.extBut _ _ N.c e,S2.keep _ _ _ g2' λo e=>bk.extBut _ _ N.d e⟩,λb hb=>?_⟩
  rw[ay (lt b hb)];exact(hf b hb).1
 done:=by
  intro X hP hw hK hc i pins s σ H E I hf st hg;subst hP hw hK;obtain⟨gz,gI,⟨a,c,gO⟩,g1,g2⟩:=st;have gT:s.TypeIs (.ref z) "zip":=⟨_,gz,rfl⟩;unfold pyNext;refine EE (wpAny_attempt (FD (name:=Fp "__next__") gT F.slot_zip_next (wpAny_call_entry F.slot_zip_next gT F.entry_zip_next
   (Bz (I.ok.hd hc) S1 S2 N I hf gz gI gO g1 g2 hg λh' e I' he=>?_) (F.args_zip_next_1 _))))
  obtain⟨o,ho,hc'⟩:=he;refine EE (wpAny_isInstance (s:={ s with heap:=h' }) (T:="StopIteration") (b:=true) ⟨o,ho,hc'⟩ isSubtype_stop ?_);exact EF ⟨rfl,I'⟩
 self:=λ_ _ _ _ _ st h=>wpAny_pyIter_zip st.1 h
abbrev kZ(h:Heap)(a:Addr):Heap:=h.push { cls:=.type "tuple_iterator",data:=.fields #[.ref a,.int 0 0] }
abbrev jW(h:Heap)(a b:Addr):Heap:=(kZ h a).push { cls:=.type "tuple_iterator",data:=.fields #[.ref b,.int 0 0] }
abbrev kW(h:Heap)(a b:Addr):Heap:=(jW h a b).push { cls:=.type "tuple",data:=.seq #[.ref h.objs.size,.ref (kZ h a).objs.size] }
abbrev j9(h:Heap)(a b:Addr):Heap:=(kW h a b).push { cls:=.type "tuple",data:=.seq #[.none,.none] }
abbrev iP(h:Heap)(a b:Addr):Heap:=(j9 h a b).push { cls:=.type "zip",data:=.fields #[.none,.bool false,.bool false,.ref (jW h a b).objs.size,.ref (kW h a b).objs.size] }
def Dg(a b:Addr)(xs ys:Array Value):Meets (Builtin.«zip.__new__» ⟨[.type "zip",.ref a,.ref b],[]⟩) (λ_ R s=>s.heap.IsTuple a xs/\s.heap.IsTuple b ys/\R (.ok (.ret (.ref (j9 s.heap a b).objs.size))) { s with heap:=iP s.heap a b }):=
 .of_wp λprog w A R s q=>by
  obtain⟨hp,g,d,tk,os⟩:=s;obtain⟨ga,gb,q⟩:=q;have hsub:=sub_zip;have gA:Heap.IsTuple (Shared.heap ⟨hp,g,d,tk,os⟩) a xs:=ga;have gB:Heap.IsTuple (Shared.heap ⟨hp.push { cls:=.type "tuple_iterator",data:=.fields #[.ref a,.int 0 0] },g,d,tk,os⟩) b ys:=Heap.IsTuple.push gb _
  wp_walk using wpAny_pyIter_tuple gA,wpAny_pyIter_tuple gB
  exact⟨_,rfl,q⟩
def DV{prog:Program}{w:World}{A:Around}{E:Value->Shared->Prop}{s:Shared}{a b:Addr}{xs ys:Array Value}{Q:Value->Shared->Prop}(ga:s.heap.IsTuple a xs)(gb:s.heap.IsTuple b ys)
  (q:∀h',IsZip h' (s.heap.objs.size+4) (s.heap.objs.size+2) (s.heap.objs.size+3) .none->IsPair h' (s.heap.objs.size+2) (.ref s.heap.objs.size) (.ref (s.heap.objs.size+1))->IsPair h' (s.heap.objs.size+3) .none .none →
   h'.IsTupleIter s.heap.objs.size a 0->h'.IsTupleIter (s.heap.objs.size+1) b 0->(∀c o,s.heap.get? c=some o->h'.get? c=some o)->Q (.ref (s.heap.objs.size+4)) { s with heap:=h' }) :
  wpAny (model prog w) A (call (.type "zip") [.ref a,.ref b]) Q E s:=by
 refine callType_new F.called_zip (by decide) (F.typeCall_zip_2 _ _) (F.newCall_zip_2 _ _) (λob=>F.args_object_init_3 ob _ _) F.entry_zip_new (Dg a b xs ys) ⟨ga,gb,?_⟩;have n1:(kZ s.heap a).objs.size=s.heap.objs.size+1:=Heap.size_push ..;have n2:(jW s.heap a b).objs.size=s.heap.objs.size+2:=by rw[Heap.size_push,n1]
 have n3:(kW s.heap a b).objs.size=s.heap.objs.size+3:=by rw[Heap.size_push,n2]
 have n4:(j9 s.heap a b).objs.size=s.heap.objs.size+4:=by rw[Heap.size_push,n3]
 have k5:(iP s.heap a b).get? (j9 s.heap a b).objs.size=some _:=EI _ rfl;have k4:(iP s.heap a b).get? (kW s.heap a b).objs.size=some _:=EH _ (EI _ rfl);have k3:(iP s.heap a b).get? (jW s.heap a b).objs.size=some _:=EH _ (EH _ (EI _ rfl));have k2:(iP s.heap a b).get? (kZ s.heap a).objs.size=some _:=EH _ (EH _ (EH _ (EI _ rfl)));have k1:(iP s.heap a b).get? s.heap.objs.size=some _:=EH _ (EH _ (EH _ (EH _ (EI _ rfl))));show _/\_;rw[n2,n3,n4]at k5;rw[n1,n2]at k3;rw[n3]at k4;rw[n1]at k2;rw[n4];exact⟨⟨_,k5,rfl⟩,q _ k5 k3 k4 ⟨_,k1,rfl,rfl⟩ ⟨_,k2,rfl,rfl⟩ λc o x=>EH _ (EH _ (EH _ (EH _ (EH _ x))))⟩
section
variable {K:EG} {σ:St} {H:Hp} {Q:VK}
def mH(K:EG):List V->Hp->(It->Hp->Prop)->Prop:=λvs H R=>∃a b xs ys,vs=[.ref a,.ref b]/\((ai K H a xs/\ai K H b ys/\R (iA (cD K a) (cD K b)) H)\/(ag K H a xs/\ag K H b ys/\R (iA (dZ K a) (dZ K b)) H))
def wO(K:EG)(ta:TA):TI:=λσ H R=>ta σ H λvs H1=>mH K vs H1 R
def BA{X:Cx}{elts:List Expr}{kk:Nat}{ps:Pos}(K:EG){a b:Expr}{ta:TA}{p pos:Pos}(hg:Gl X "zip")(hm:X.mg "zip" = none)(ha:PA X [a,b] ta)(hK:X.K=K:=by rfl)(hs:starEach [a,b] X.env=[(false,eval a X.env),(false,eval b X.env)]:=by rfl)(hs2:starEach [b] X.env=[(false,eval b X.env)]:=by rfl):
  PI X (.Tuple elts kk ps) (.Call (.Name "zip" p) [a,b] [] pos) (wO K ta):=by
 subst hK;intro pins s σ H R I h;refine Call_ (gr I hg hm PyProof.Rows.boot_zip (PyProof.Rows.callWith_type1 (av (ha pos pins s σ H _ I h) λus s1 ⟨vs,H1,I1,r1,q1⟩=>?_) (by rw[hs,hs2]) (by rw[hs2];rfl)));obtain⟨l,m,xs,ys,e,q1⟩:=q1;subst e;cases r1 with
 | cons r rr=>
  cases rr with
  | cons r' rr=>
   cases rr;cases r;cases r';have mk:∀{J1 J2:It} {t1 t2:Nat->Heap->Prop},Sub X.prog X.w X.K J1 s1.heap.objs.size t1->Sub X.prog X.w X.K J2 (s1.heap.objs.size+1) t2->∀h',IsZip h' (s1.heap.objs.size+4) (s1.heap.objs.size+2) (s1.heap.objs.size+3) .none->IsPair h' (s1.heap.objs.size+2) (.ref s1.heap.objs.size) (.ref (s1.heap.objs.size+1)) →
     IsPair h' (s1.heap.objs.size+3) .none .none->t1 0 h'->t2 0 h'->(∀c o,s1.heap.get? c=some o->h'.get? c=some o)->R (iA J1 J2) H1->wpAny (model X.prog X.w) X.A (pyIter (.ref (s1.heap.objs.size+4))) (n5 X pins σ (.Tuple elts kk ps) R) X.xe { s1 with heap:=h' }:=by
    intro J1 J2 t1 t2 S1 S2 h' gz gI gO g1 g2 k q;refine wpAny_pyIter_zip (s:={ s1 with heap:=h' }) gz ?_;have N:Apart (s1.heap.objs.size+4) (s1.heap.objs.size+2) (s1.heap.objs.size+3) s1.heap.objs.size (s1.heap.objs.size+1):=by constructor<;>(intro h;have h':@Eq Nat _ _:=h;omega)
    refine⟨s1.heap.objs.size+4,[s1.heap.objs.size+4,s1.heap.objs.size+2,s1.heap.objs.size+3,s1.heap.objs.size,s1.heap.objs.size+1],_,_,H1,rfl,I1.kept (t':=s1.toks) k,BW S1 S2 N,⟨gz,gI,⟨_,_,gO⟩,g1,g2⟩,λb hb=>?_,q⟩;have le:@LE.le Nat _ s1.heap.objs.size b:=by
     simp only[E1,Fj,or_false]at hb;rcases hb with rfl|rfl|rfl|rfl|rfl
     ·exact Nat.le_add_right _ _
     ·exact Nat.le_add_right _ _
     ·exact Nat.le_add_right _ _
     ·exact E6 _
     ·exact Nat.le_add_right _ _
    exact I1.fpOk le (I1.hok.fresh le)
   rcases q1 with⟨ga,gb,q⟩|⟨ga,gb,q⟩
   ·obtain⟨its,_,p1,_⟩:=I1.tuple ga;obtain⟨its2,_,p2,_⟩:=I1.tuple gb;exact DV (show s1.heap.IsTuple l its.toArray from p1) (show s1.heap.IsTuple m its2.toArray from p2) λh' gz gI gO g1 g2 k=>mk (tL l _) (tL m _) h' gz gI gO g1 g2 k q
   ·obtain⟨its,_,p1,_⟩:=I1.list ga;obtain⟨its2,_,p2,_⟩:=I1.list gb;exact call_zip_2 p1.isList p2.isList λh' gz gI gO g1 g2 _ k=>mk (rF l _) (rF m _) h' gz gI gO g1 g2 k q
def rd_zip{a:TA}{R:It->Hp->Prop}(h:a σ H λvs H1=>mH K vs H1 R):wO K a σ H R:=h
def xJ{a b:Addr}{xs ys:List V}{R:It->Hp->Prop}(ha:ai K H a xs)(hb:ai K H b ys)(h:R (iA (cD K a) (cD K b)) H):mH K [.ref a,.ref b] H R:=⟨a,b,xs,ys,rfl,.inl ⟨ha,hb,h⟩⟩
def BC{a b:Addr}{xs ys:List V}{n:Nat}{js:List Nat}{g:TG}{tc:TT}{te:TE}(Pv:Nat->List V->Hp->Prop)(hz:xs.length<=sizeLine)(h0:Pv 0 [] H)(hl:∀i zs H,Pv i zs H->ai K H a xs/\ai K H b ys/\zs.length<=i)
  (hs:∀i u v zs H p H',xs[i]?=some u->ys[i]?=some v->Pv i zs H->Ext H H'->H' p=some (.tup [u,v])->H p=none->g (.ref p) (dF n js σ) H' λσ2 H3=>tc σ2 H3 λb H4=>if b=true then te σ2 H4 λv H5=>Pv (i+1) (zs++[v]) H5 else Pv (i+1) zs H4)
  (hd:∀zs H p,Pv (min xs.length ys.length) zs H->H p=none->Q (.ref p) (upd H p (.lst zs))):iu (iA (cD K a) (cD K b)) n js g tc te σ H Q:=by
 refine⟨λi m zs H=>m=min xs.length ys.length-i/\i<=min xs.length ys.length/\Pv i zs H,⟨min xs.length ys.length,by simp,Nat.zero_le _,h0⟩,?_⟩;rintro i m zs H ⟨rfl,hi,p⟩;obtain⟨qa,qb,ql⟩:=hl i zs H p;by_cases hlt:i<min xs.length ys.length
 ·have hx:i<xs.length:=by omega
  have hy:i<ys.length:=by omega
  refine .inr ⟨⟨⟨xs,xs[i],qa,by simp[hx]⟩,⟨ys,ys[i],qb,by simp[hy]⟩⟩,by omega,Pv (i+1),λzs' H' p'=>⟨min xs.length ys.length-(i+1),by omega,rfl,hlt,p'⟩,λx H' y=>?_⟩;obtain⟨pp,u,v,rfl,hn,rfl,yu,yv⟩:=y;exact hs i u v zs H pp _ (yu.2 xs qa) (yv.2 ys qb) p (aX hn) aE hn
 ·have e:i=min xs.length ys.length:=by omega
  refine .inl ⟨?_,λp' hp=>hd zs H p' (e ▸ p) hp⟩;by_cases h:xs.length<=i
  ·exact .inl ⟨xs,qa,h⟩
  ·exact .inr ⟨⟨xs,xs[i]'(by omega),qa,EL (by omega)⟩,⟨ys,qb,by omega⟩⟩
end
def yH{prog:Program}{w:World}{A:Around}{E:Value->Shared->Prop}{s:Shared}{t sl:Addr}{ys:Array Value}{vl vu:Value}{lo hi:Option Int}{Q:Value->Shared->Prop}(gt:IsTup s.heap t ys)(gs:s.heap.IsSliceOf sl vl vu .none)(pl:IsPart vl lo)(pu:IsPart vu hi)
  (gw:HT.aN ys.size 0 lo=0/\HT.aN ys.size ys.size hi=ys.size) (q:Q (.ref t) s):wpAny (model prog w) A (getItem (.ref t) (.ref sl)) Q E s:=by
 obtain⟨u,gu,gc,gd⟩:=id gs;have gT:s.TypeIs (.ref sl) "slice":=⟨u,gu,gc⟩;unfold getItem
 try with_reducible refine wpAny_holding ?_
 first|refine EE (EF ?_)|skip
 refine EE (wpAny_sequenceKey gt.typeIs (by decide) ?_);refine EE (FD (name:=Fp "__getitem__") gt.typeIs PyProof.Rows.slot_tuple_getitem (wpAny_call_entry PyProof.Rows.slot_tuple_getitem gt.typeIs entry_tuple_getitem ?_ (args_tuple_getitem _ _)));show wpAny _ _ (Builtin.Tuple.tupleItemsOf (Value.ref t) >>= _) _ _ s;refine EE (tupleItemsOf_ gt ?_);refine EE (wpAny_typeOf gT ?_);rw[FI (by decide)];refine EE (HT.rS gs pl pu ?_);show wpAny _ _ (if(((HT.aN ys.size 0 lo:Nat):Int) == 0 && (1:Int) == 1 && (HT.aN ys.size ys.size hi-HT.aN ys.size 0 lo) == ys.size)=true then _ else _) _ _ s;rw[FI (by rw[gw.1,gw.2];simp)];show wpAny _ _ (Builtin.Tuple.tupleIsExact (Value.ref t) >>= _) _ _ s;unfold Builtin.Tuple.tupleIsExact;refine EE (EE (wpAny_typeOf gt.typeIs (EF ?_)));rw[FI (by decide)];refine EE (wpAny_rule ?_);exact EF ⟨_,rfl,EF q⟩
def tF:V->Option Int->Option Int->Hp->VK->Prop:=λx lo hi H Q=>∃a xs,x=.ref a/\H a=some (.tup xs)/\∀p H',Ext H H'->H' p=some (.tup (cj xs lo hi))->Q (.ref p) H'
def AR{X:Cx}:jl X tF:=by
 intro pins s σ H x v vl vu lo hi sl Q I rx hs pl pu h;obtain⟨a,xs,rfl,hx,q⟩:=h;by_cases gw:HT.aN xs.length 0 lo=0/\HT.aN xs.length xs.length hi=xs.length
 ·cases rx;obtain⟨its,r,ht,hz⟩:=I.tuple (ai.of hx);have hlen:its.toArray.size=xs.length:=by rw[ER];exact r.length.symm
  refine⟨"tuple",_,PyProof.Rows.slot_tuple_getitem.lookup,ht.typeIs,?_⟩;refine yH ht hs pl pu (by rw[hlen];exact gw) ⟨.ref a,H,I,rfl,q a H (Ext.rfl' H) ?_⟩;have:cj xs lo hi=xs:=by unfold cj;rw[gw.1,gw.2,List.drop_zero,Nat.sub_zero,Ff]
  rw[this];exact hx
 ·exact BS pins s σ H (.ref a) v vl vu lo hi sl Q I rx hs pl pu ⟨a,xs,rfl,ai.of hx,gw,λp hp=>q p _ (aX hp) aE⟩
def CG{H:Hp}{Q:VK}{a:Addr}{xs:List V}{lo hi:Option Int}(e:H a=some (.tup xs))(h:∀p H',Ext H H'->H' p=some (.tup (cj xs lo hi))->Q (.ref p) H'):tF (.ref a) lo hi H Q:=⟨a,xs,rfl,e,h⟩
mutual
inductive LitE:Expr->TE->Prop
 | non {j pos}:LitE (.Constant .none j pos) (tC .non)
 | bl {b j pos}:LitE (.Constant (.bool b) j pos) (tC (.bl b))
 | int {i j pos}:LitE (.Constant (.int i) j pos) (tC (.int i))
 | str {x j pos}:LitE (.Constant (.str x) j pos) (tC (.str x))
 | tup {es ta k pos}:LitsE es ta->LitE (.Tuple es k pos) (lW ta)
inductive LitsE:List Expr->TA->Prop
 | nil:LitsE [] oT
 | cons {e te es ta}:LitE e te->LitsE es ta->LitsE (e::es) (nJ te ta)
end
def LitE.star{e:Expr}{te:TE}(h:LitE e te)(es:List Expr)(env:Env):starEach (e::es) env=(false,eval e env)::starEach es env:=by cases h<;>rfl
def fN(c:Addr)(q:Str):HO:=.ext λh=>h.CodeRec (.ref c) q
def BQ{P:Program}{w:World}{H:Hp}{h:Heap}{c:Addr}{q:Str}(r:h.CodeRec (.ref c) q):bB P w H h c (fN c q):=by
 refine⟨r,?_,λh1 h2 r1 k=>?_⟩
 ·obtain⟨c',o,vs,t,e,g,_⟩:=r;cases e;exact⟨o,g⟩
 ·obtain⟨c',o,vs,t,e,g,d⟩:=r1;cases e;exact⟨c,o,vs,t,rfl,k o g,d⟩
section
variable {X:Cx} {pins:List (Addr×Obj)} {σ:St} {H:Hp} {s:Shared}
end
structure Tab(K:EG)(mg:Str->Option Value)(base:Heap)(x:Str)(c T:Addr):Prop where
 tin:PySem.W.tabIn K x=some (c,T)
 hd:PySem.W.CodeHd base c T
 blt:base.BuiltinsAt mg T
 gl:mainGlobals≠T
 kin:K.In base
 ns:base.Ns mainGlobals mg
section
variable {P:Program} {w:World} {K:EG} {mg:Str->Option Value} {base:Heap}
def zC{x:Str}{c T f:Addr}{o:Obj}{fd:FuncData}(ht:PySem.W.tabIn K x=some (c,T))(KX:K.In base)(G:base.Ns mainGlobals mg)(hm:mg x=some (.ref f))(lk:K.lookup f=some o)(hd:o.data=.func fd):fd.code=.ref c:=by
 unfold PySem.W.tabIn at ht;split at ht
 ·rename_i f' hf;have e1:=PySem.W.mg_of KX G hf;rw[hm]at e1;cases e1;split at ht
  ·rename_i hfo;rw[lk]at hfo;cases hfo;cases hd;split at ht
   ·rename_i c2 hc;split at ht
    ·split at ht
     ·cases ht;exact hc
     ·cases ht
    ·cases ht
   ·cases ht
  ·cases ht
 ·cases ht
def Dfn.okL{x:Str}{st:Stmt}{N ps:List Str}{k:Nat}{sp:Sp}{c T:Addr}(D:Dfn K mg x st ps)(B:Tab K mg base x c T)(S:FnScope N ps (aM st))(len:∀vs H Q E,sp vs H Q E->vs.length=ps.length)
  (hbody:∀(X:Cx) (hX:∃f A outer s H E,X=(gW dU P w K mg base N x (aM st) f (.ref c) A outer s H E).nox/\Room k X.A) (H:Hp) (vs:List V) (Q:VK) (E:XK),sp vs H Q E →
   ∃t,cP X (eV st) t/\t { nx:=λ_ H'=>Q .non H',rt:=Q } (start N vs) H):Cal P w K mg base x (k+1) ps sp:=by
 obtain⟨f,fd,hm,F,hb⟩:=D.ex;refine⟨f,fd,hm,F.kp,hb,?_⟩;obtain⟨oc,od,kV,doc,pm,an,cdv,ct,osl,rfl,lk,hcd⟩:=F.ex;have e:cdv=.ref c:=zC B.tin B.kin B.ns hm lk rfl;subst e;refine wo lk hcd S len λA outer s H vs Q E hr hsp=>?_;obtain⟨t,h,q⟩:=hbody _ ⟨f,A,outer,s,H,E,rfl,hr⟩ H vs Q E hsp;exact⟨t,h.nox,q⟩
end
def wy(tabs:List (Addr×Addr))(H:Hp):Prop:=∀q∈tabs,H q.2=some (.tbl #[])
def Bn{P:Program}{w:World}{K:EG}{mg mb:Str->Option Value}{k:Nat}{fa a:Addr}{fd:FuncData}{x:Str}{sp:Sp}{s₁:Shared}{vs:List Value}{ns:List Int}{tabs:List (Addr×Addr)}
  (KX:K.In s₁.heap) (hK:PySem.W.noTabs K=true) (hT:PySem.W.TabsAt tabs s₁.heap) (hns:s₁.heap.Ns mainGlobals mg) (hb:s₁.heap.Ns builtinsNs mb) (hbb:∀x:Str,x≠"__name__"->mb x=bootBuiltins x) (hlim:s₁.heap.NoLimit)
  (hbm:∃bm ob,mg "__builtins__" = some (.ref bm)/\bm≠builtinsNs/\s₁.heap.get? bm=some ob/\ob.cls=.type "module"/\ob.dict=some builtinsNs/\ob.data=.plain) (hg:s₁.gens = #[])
  (ha:s₁.heap.get? a=some { cls:=.type "list",data:=.seq vs.toArray }) (hi:IntsAre vs ns) (hl:ns.length<=sizeLine) (hr:Room k callerA)
  (F:∀base:Heap,K.In base->base.Ns mainGlobals mg->(∀q∈tabs,PySem.W.CodeHd base q.1 q.2/\base.BuiltinsAt mg q.2/\mainGlobals≠q.2)->FnOk P w K mg base dU k fa fd [x] sp) (hbind:∀(s:Shared) (u:Value),BindsTo s fd ⟨[u],[]⟩ [(x,u)])
  (hsp:∀H:Hp,wy tabs H->ag K H a (ns.map V.int)->sp [.ref a] H (λv _=>v=.bl true) λ_ _ _=>False) :
  codeAny (model P w) callerA (.call (.ref fa) ⟨[.ref a],[]⟩) (λr s'=>r=.ok (.ret (.bool true))/\OldK s₁.heap s'.heap/\s'.os=s₁.os/\AllBare s'.gens) s₁:=by
 have rv:=qP hi;have lenV:=hi.length;have na:∀q∈tabs,a≠q.2:=λq hq z=>by have:=(hT q hq).2;rw[←z,ha]at this;cases this
 have noT:∀{b:Addr} {o:Obj},s₁.heap.get? b=some o->o≠PySem.W.tabObj #[]->b∉tabs.map (·.2):=λ{b o} e n hm=>by obtain⟨q,hq,rfl⟩:=List.mem_map.mp hm;have:=(hT q hq).2;rw[e]at this;exact n (Fq this)
 have core:∀H:Hp,wy tabs H->ag K H a (ns.map V.int)->bp P w H s₁.heap->(∀b,H b≠none->b=a\/b∈tabs.map (·.2))->(H a≠none->K.lookup a=none/\∃o xs,H a=some (.frz o (.lst xs))) →
   codeAny (model P w) callerA (.call (.ref fa) ⟨[.ref a],[]⟩) (λr s'=>r=.ok (.ret (.bool true))/\OldK s₁.heap s'.heap/\s'.os=s₁.os/\AllBare s'.gens) s₁:=by
  intro H hO hS hok hA hKa;have free:∀{b:Addr} {o:Obj},s₁.heap.get? b=some o->o≠PySem.W.tabObj #[]->b≠a->H b=none:=λ{b o} e n nb=>by
   cases q:H b with
   | none=>rfl
   | some u=>
    rcases hA b (by rw[q];simp)with z|z
    ·exact absurd z nb
    ·exact absurd z (noT e n)
  have nsK:∀{b:Addr} {m:Str->Option Value},s₁.heap.Ns b m->(fk s₁.heap H).Ns b m:=λ{b m} ⟨o,es,ep,e,d,r⟩=>⟨o,es,ep,jX e (free e (λz=>by rw[z]at d;cases d) λz=>by rw[z,ha]at e;cases e;cases(show Data.seq vs.toArray _=Data.dict es ep from d)),d,r⟩;have hKb:K.In (fk s₁.heap H):=λb o e=>jX (KX b o e) (by
   by_cases z:b=a
   ·subst z;cases q:H b with
    | none=>rfl
    | some u=>
     have:=(hKa (by rw[q];simp)).1;rw[this]at e;cases e
   ·refine free (KX b o e) (λz2=>?_) z;have h2:=Fl.mp hK (b,o) (PySem.W.mem_of_lookupK e);subst z2;exact absurd (show false=true from h2) E2)
  have hM:Mod K mg (fk s₁.heap H):=⟨hKb,nsK hns,⟨mb,nsK hb,hbb⟩,let ⟨mc,h1,h2⟩:=hlim;⟨mc,nsK h1,h2⟩⟩;have e0:Env0 P w K mg (fk s₁.heap H) callerA [] s₁ H:=⟨rfl,hM,λb o e=>An e,Nat.le_of_eq (AF _ _),trivial,λb hb=>absurd (show b∈([]:List Addr)from hb) (by simp),hok,.of_eq hg⟩;have tabsB:∀q∈tabs,PySem.W.CodeHd (fk s₁.heap H) q.1 q.2/\(fk s₁.heap H).BuiltinsAt mg q.2/\mainGlobals≠q.2:=λq hq=>by
   refine⟨?_,?_,?_⟩
   ·obtain⟨o,us,file,tf,flags,tg,inF,text,tt,e,hc,r⟩:=(hT q hq).1;exact⟨o,us,file,tf,flags,tg,inF,text,tt,jX e (free e (λz=>by rw[z]at hc;cases hc) λz=>by rw[z,ha]at e;cases e;simp at hc),hc,r⟩
   ·obtain⟨bm,ob,a1,a2,a3,a4,a5⟩:=hbm;refine⟨bm,ob,a1,a2,λz=>?_,λz=>?_,jX a3 (free a3 (λz=>by rw[z]at a4;cases a4) λz=>by rw[z,ha]at a3;cases a3;simp at a4),a4,a5⟩
    ·obtain⟨o,es,ep,e,d,_⟩:=hns;rw[←z,a3]at e;cases e;rw[a5.2]at d;cases d
    ·have:=(hT q hq).2;rw[←z,a3]at this;cases this;cases a4
   ·intro z;obtain⟨o,es,ep,e,d,_⟩:=hns;have:=(hT q hq).2;rw[←z,e]at this;cases this;cases d
  refine codeAny_mono ((F _ hKb (nsK hns) tabsB).run callerA [] s₁ H ⟨[.ref a],[]⟩ [.ref a] [.ref a] _ _ hr e0 (hbind s₁ (.ref a)) (.cons rfl .nil) (hsp H hO hS)) λr s' h=>?_;cases r with
  | error e=>exact False.elim h
  | ok fl=>
   cases fl with
   | next=>exact False.elim h
   | brk=>exact False.elim h
   | cont=>exact False.elim h
   | ret u=>
    obtain⟨v,H',os,bare,un,hok',r',q⟩:=h;have q':v=.bl true:=q;subst q';obtain rfl:u=Value.bool true:=r';have keep:∀b o,s₁.heap.get? b=some o->b∉tabs.map (·.2)->s'.heap.get? b=some o:=λb o e nt=>by
     cases q:H b with
     | none=>exact un.keep b o e q (by intro z;exact absurd (show b∈([]:List Addr)from z) (by simp)) (by simp)
     | some u=>
      rcases hA b (by rw[q];simp)with z|z
      ·subst z;obtain⟨_,ob,xs,z⟩:=hKa (by rw[q];simp);have z2:=un.frzs b ob _ z;obtain⟨e1,_⟩:=hok b _ z;obtain⟨e2,_⟩:=hok' b _ z2;rw[e]at e1;cases e1;exact e2
      ·exact absurd z nt
    have grown:∀q∈tabs,∃more,s'.heap.get? q.2=some (PySem.W.tabObj (#[]++more)):=λq hq=>by obtain⟨more,e⟩:=un.tbls q.2 _ (hO q hq);exact⟨more,hok' q.2 _ e⟩
    refine⟨rfl,⟨λb o e=>?_,λb o e=>?_⟩,os,bare⟩
    ·by_cases hm:b∈tabs.map (·.2)
     ·obtain⟨q,hq,rfl⟩:=List.mem_map.mp hm;obtain⟨more,g⟩:=grown q hq;have e2:=(hT q hq).2;rw[e]at e2;cases e2;exact .inr (.inl ⟨((hT q hq).1.tab (hT q hq).2).isCodeTable,rfl,#[],more,rfl,g⟩)
     ·exact .inl (keep b o e hm)
    ·by_cases hm:b∈tabs.map (·.2)
     ·obtain⟨q,hq,rfl⟩:=List.mem_map.mp hm;obtain⟨more,g⟩:=grown q hq;exact⟨_,g⟩
     ·exact⟨o,keep b o e hm⟩
 have hTok:∀(H:Hp) b,b∈tabs.map (·.2)->bB P w H s₁.heap b (.tbl #[]):=λH b hm=>by obtain⟨q,hq,rfl⟩:=List.mem_map.mp hm;exact(hT q hq).2
 cases hk:K.lookup a with
 | some o=>
  have e:=KX a o hk;rw[ha]at e;cases e;have at_:∀b,(if b∈tabs.map (·.2)then some (HO.tbl #[])else none)=(none:Option HO)\/b∈tabs.map (·.2):=λb=>by
   by_cases hb:b∈tabs.map (·.2)
   ·exact .inr hb
   ·exact .inl (FH hb)
  have nota:a∉tabs.map (·.2):=λhm=>by obtain⟨q,hq,e⟩:=List.mem_map.mp hm;exact na q hq e.symm
  refine core (λb=>if b∈tabs.map (·.2)then some (.tbl #[])else none) (λq hq=>FI (List.mem_map.mpr ⟨q,hq,rfl⟩)) (.inr ⟨_,vs.toArray,_,hk,rfl,rfl,rfl,by rw[ER,lenV];exact hl,by simpa using rv⟩) (λb u z=>?_) (λb z=>?_) λz=>absurd (FH nota) z
  ·by_cases hb:b∈tabs.map (·.2)
   ·have z':=(FI hb).symm.trans z;cases z';exact hTok _ b hb
   ·have z':=(FH hb).symm.trans z;cases z'
  ·rcases at_ b with h|h
   ·exact absurd h z
   ·exact .inr h
 | none=>
  have nota:a∉tabs.map (·.2):=λhm=>by obtain⟨q,hq,e⟩:=List.mem_map.mp hm;exact na q hq e.symm
  refine core (λb=>if b=a then some (.frz { cls:=.type "list",data:=.seq vs.toArray } (.lst (ns.map V.int)))else if b∈tabs.map (·.2)then some (.tbl #[])else none) (λq hq=>?_) (.inl (.inr ⟨{ cls:=.type "list",data:=.seq vs.toArray },FI rfl⟩)) (λb u z=>?_) (λb z=>?_) λ_=>⟨hk,_,_,FI rfl⟩
  ·show(if q.2=a then _ else _)=_;rw[FH (Ne.symm (na q hq)),FI (List.mem_map.mpr ⟨q,hq,rfl⟩)]
  ·by_cases hb:b=a
   ·have z':=(FI hb).symm.trans z;cases z';subst hb;exact⟨ha,by rw[EK];exact hl,vs,_,rv,ha⟩
   ·have z':=(FH hb).symm.trans z;by_cases hb2:b∈tabs.map (·.2)
    ·have z2:=(FI hb2).symm.trans z';cases z2;exact hTok _ b hb2
    ·have z2:=(FH hb2).symm.trans z';cases z2
  ·by_cases hb:b=a
   ·exact .inl hb
   ·by_cases hb2:b∈tabs.map (·.2)
    ·exact .inr hb2
    ·exact absurd ((FH hb).trans (FH hb2)) z
def Bd{l:PySem.W.OpenLaw}{n k:Nat}{q:Program}{loose:List Str}{XP:(Str->Option Value)->Heap->Prop}{YP:World->Heap->Prop}{d:DefRec}{K:Params->EG}{sp:World->Sp}{x:Str}(xs:List Str)
  (hn:l.most=some n) (hn2:n<=sizeLine) (hdf:d.params.defaults=[]) (hr:Room k callerA)
  (hY:∀(w:World) (h:Heap),YP w h->(K w.params).In h) (hK:∀w:World,PySem.W.noTabs (K w.params)=true) (hrec:∀y∈xs,((recsOf q).find? (λe=>e.name == y)).isSome=true) (htab:∀(w:World),∀y∈xs,(PySem.W.tabIn (K w.params) y).isSome=true)
  (F:∀(w:World) (mg:Str->Option Value) (fa:Addr) (h:Heap),(K w.params).In h->h.Ns mainGlobals mg->mg d.name=some (.ref fa) →
   ∃fd:FuncData,(∀(s:Shared) (u:Value),BindsTo s fd ⟨[u],[]⟩ [(x,u)]) ∧
    ∀base:Heap,(K w.params).In base->base.Ns mainGlobals mg->(∀y∈xs,∃c T,Tab (K w.params) mg base y c T)->FnOk l.prog w (K w.params) mg base dU k fa fd [x] (sp w))
  (hsp:∀(w:World) (H:Hp) (a:Addr) (ns:List Int),ns.length<=n->(∀y∈xs,∀c T,PySem.W.tabIn (K w.params) y=some (c,T)->H T=some (.tbl #[]))->ag (K w.params) H a (ns.map V.int)->sp w [.ref a] H (λv _=>v=.bl true) λ_ _ _=>False) :
  PySem.W.WalkO q loose XP YP l.row.toRowW d [] (λf vs=>PySem.call f vs):=by
 refine Att.xY hn hdf λw s₀ s₁ mg mb fa o pm cd doc a vs ns G Y ho hd hcd hmg hobj hints hlen hg=>?_;have KX:=hY w _ Y;obtain⟨fd,hb,hF⟩:=F w mg fa _ KX G.T.g hmg;have hT:PySem.W.TabsAt (xs.filterMap (PySem.W.tabIn (K w.params))) s₁.heap:=λp hp=>by obtain⟨y,hy,e⟩:=List.mem_filterMap.mp hp;obtain⟨dr,er⟩:=Option.isSome_iff_exists.mp (hrec y hy);exact PySem.W.tab_of G.T KX er e
 refine Bn KX (hK w) hT G.T.g G.T.b G.T.builtins G.T.nolimit G.T.bmain hg hobj hints (Fi hlen hn2) hr (λbase kb nb tb=>hF base kb nb λy hy=>?_) hb λH hO hS=>hsp w H a ns hlen (λy hy c T e=>hO (c,T) (List.mem_filterMap.mpr ⟨y,hy,e⟩)) hS;obtain⟨⟨c,T⟩,e⟩:=Option.isSome_iff_exists.mp (htab w y hy);obtain⟨h1,h2,h3⟩:=tb (c,T) (List.mem_filterMap.mpr ⟨y,hy,e⟩);exact⟨c,T,e,h1,h2,h3,kb,nb⟩
section
variable {prog:Program} {w:World} {A:Around} {E:Value->Shared->Prop}
def tH{it l:Addr}{ys:Array Value}(ne:l≠it):∀(n i:Nat) (s:Shared) (Q:List Value->Shared->Prop),s.heap.IsListIter it l i->s.heap.IsList l ys->i+n<=ys.size →
  (∀h',h'.IsListIter it l (i+n)->Heap.SameBut it s.heap h'->Q ((ys.toList.drop i).take n) { s with heap:=h' })->wpAny (model prog w) A (draw (.ref it) n) Q E s
 | 0,i,s,Q,gi,_,_,q=>by show wpAny _ _ (pure []) Q E s;exact EF (by simpa using q s.heap gi (Heap.SameBut.refl ..))
 | n+1,i,s,Q,gi,gl,le,q=>by
  have lt:i<ys.size:=by omega
  show wpAny _ _ (pyNext (Value.ref it) >>= _) Q E s;refine EE (wpAny_pyNext_list_item gi gl (x:=ys[i]) (by simp[lt]) λk1 g1 b1=>?_);refine EE (wpAny_holding (tH ne n (i+1) _ _ g1 (gl.extBut b1.extBut ne) (by omega) λk2 g2 b2=>EF ?_));have e:ys.toList.drop i=ys[i]::ys.toList.drop (i+1):=by simp[List.drop_eq_getElem_cons,lt]
  have:=q k2 (by rw[show i+(n+1)=i+1+n by omega];exact g2) (b1.trans b2);rw[e,List.take_succ_cons]at this;exact this
def Dd{s:Shared}{l:Addr}{ys:Array Value}{Q:List Value->Shared->Prop}(hA:A.handled=none)(gl:s.heap.IsList l ys)
  (q:∀h',Heap.ExtBut s.heap.objs.size s.heap h'->Q ys.toList { s with heap:=h' }):wpAny (model prog w) A (unpackItems (.ref l) ys.size none) Q E s:=by
 have lt:l≠s.heap.objs.size:=by obtain⟨o,e,_⟩:=gl;exact E5 (EJ e)
 unfold unpackItems;refine EE ?_;unfold notIterableAtAll;refine EE (wpAny_specialOf gl.typeIs slot_list_iter.lookup ?_);refine EF ?_;simp only[Fw,if_false];refine EE (wpAny_holding (wpAny_pyIter_list gl ?_));refine EE (wpAny_holding (tH lt ys.size 0 _ _ ⟨_,EI _ rfl,rfl,rfl⟩ (gl.push _) (by omega) λk1 g1 b1=>?_));rw[show List.take ys.size (List.drop 0 ys.toList)=ys.toList by rw[List.drop_zero];exact List.take_of_length_le (by simp),FH (by simp)];refine EE (wpAny_holding (wpAny_pyNext_list_end hA g1 ((gl.push _).extBut b1.extBut lt) (by simp) λk2 b2=>?_));simp only[Option.isSome_none,Fw,if_false];exact EF (q k2 λb o nb e=>b2 b o nb (b1.extBut b o nb (EH _ e)))
def Ey{s:Shared}{env:Env}{es:List Expr}{k:Nat}{pos:Pos}{l:Addr}{ys:Array Value}{Q:Unit->Shared->Prop}(hA:A.handled=none)(gl:s.heap.IsList l ys)(hn:(assignEach es env).length=ys.size)(hst:(assignEach es env).findIdx? (·.1)=none)
  (h:∀h',Heap.ExtBut s.heap.objs.size s.heap h'->wpAny (model prog w) A (assignInOrder ((assignEach es env).map (·.2)) ys.toList) Q E { s with heap:=h' }):wpAny (model prog w) A (assign (.Tuple es k pos) env (.ref l)) Q E s:=by
 rw[arm_assign_Tuple];refine EE (wpAny_standAt ?_);unfold unpack;rw[hn,hst];exact EE (wpAny_holding (Dd hA gl h))
end
section
variable {X:Cx} {pos:Pos}
def uO(K:EG)(n:Nat)(t:dM):TG:=λv σ H Q=>∃a xs,v=.ref a/\ag K H a xs/\xs.length=n/\t xs σ H Q
def zY{es:List Expr}{k:Nat}{t:dM}{n:Nat}(K:EG)(hc:X.calm=true)(h:ja X es t)(hK:X.K=K:=by rfl)
  (hn:(assignEach es X.env).length=n:=by rfl) (hst:(assignEach es X.env).findIdx? (·.1)=none:=by rfl):PG X (.Tuple es k pos) (uO K n t):=by
 subst hK;intro pins s σ H v u Q I r hw;obtain⟨a,xs,e1,hq,hl,hw⟩:=hw;subst e1;cases r;obtain⟨its,rv,ht,hz⟩:=I.list hq;refine Ey (I.ok.hd hc) ht.isList (by simp[hn,←hl,rv.length]) hst λh' hx=>?_;have I1:Inv X pins σ H { s with heap:=h' }:=I.kept (t':=s.toks) λb o e=>hx b o (E5 (EJ e)) e;exact h pins _ σ H xs _ Q I1 (by simpa using rv) hw
end
def DL{K:EG}{σ:St}{H:Hp}{n:Nat}{g:dM}{a:Addr}{xs:List V}{R:St->Hp->Prop}(e:ag K H a xs)(hl:xs.length=n)(h:g xs σ H R):uO K n g (.ref a) σ H R:=⟨a,xs,rfl,e,hl,h⟩
def rd_par{i j:Nat}{ta:TA}{D:Ends}{σ:St}{H:Hp}(h:ta σ H λvs H1=>∃v w,vs=[v,w]/\D.nx ((σ.set i (some v)).set j (some w)) H1):rL i j ta D σ H:=h
def rd_par2{v w:V}{R:V->V->Prop}(h:R v w):∃a b,[v,w]=[a,b]/\R a b:=⟨v,w,rfl,h⟩
def Et(H H':Hp):Prop:=∀b o,H b=some o->(∀ps,o≠.tbl ps)->H' b=some o
def Ext.et{H H':Hp}(e:Ext H H'):Et H H':=λb o h _=>e b o h
def Et.trans{H H1 H2:Hp}(a:Et H H1)(b:Et H1 H2):Et H H2:=λx o h n=>b x o (a x o h n) n
def cN(K:EG)(x q:Str)(line col:Nat)(H:Hp):Prop:=∀c T,PySem.W.tabIn K x=some (c,T) →
 H T=some (.tbl #[])\/∃c',H T=some (.tbl #[rawInt line,rawInt col,.ref c'])/\H c'=some (fN c' q)
def cN.ext{K:EG}{x q:Str}{line col:Nat}{H H':Hp}(e:Ext H H')(h:cN K x q line col H):cN K x q line col H':=λc T ht=>by
 rcases h c T ht with h|⟨c',h1,h2⟩
 ·exact .inl (e _ _ h)
 ·exact .inr ⟨c',e _ _ h1,e _ _ h2⟩
section
variable {κ:Type} [DecidableEq κ]
def aW(kvs:List (κ×V))(k:κ):Option V:=(kvs.find? λkv=>decide (kv.1=k)).map (·.2)
def putK(kvs:List (κ×V))(k:κ)(v:V):List (κ×V):=
 if(kvs.any λkv=>decide (kv.1=k))=true then kvs.map (λkv=>if kv.1=k then(kv.1,v)else kv)else kvs++[(k,v)]
def dY{p:κ×V}{r:List (κ×V)}{k:κ}(e:p.1=k):aW (p::r) k=some p.2:=by simp[aW,List.find?_cons,e]
def dJ{p:κ×V}{r:List (κ×V)}{k:κ}(e:¬p.1=k):aW (p::r) k=aW r k:=by simp[aW,List.find?_cons,e]
def jh(k:κ):∀kvs:List (κ×V),(kvs.any λkv=>decide (kv.1=k))=(aW kvs k).isSome
 | []=>rfl
 | p::r=>by
  rw[List.any_cons];by_cases e:p.1=k
  ·simp only[dY e,FG e,Bool.true_or,Option.isSome_some]
  ·rw[dJ e,FF e,Bool.false_or];exact jh k r
def vb(k j:κ)(y:V):∀kvs:List (κ×V),aW (kvs.map λkv=>if kv.1=k then(kv.1,y)else kv) j=(aW kvs j).map λx=>if j=k then y else x
 | []=>rfl
 | p::r=>by
  have ih:=vb k j y r;rw[List.map_cons];by_cases h:p.1=k
  ·rw[FI h];by_cases e:p.1=j
   ·rw[dY (p:=(p.1,y)) e,dY e,Option.map_some,FI (e.symm.trans h)]
   ·rw[dJ (p:=(p.1,y)) e,dJ e,ih]
  ·rw[FH h];by_cases e:p.1=j
   ·rw[dY (p:=p) e,dY e,Option.map_some,FH (λz=>h (e.trans z))]
   ·rw[dJ (p:=p) e,dJ e,ih]
def sJ(k j:κ)(y:V):∀kvs:List (κ×V),aW kvs k=none->aW (kvs++[(k,y)]) j=if j=k then some y else aW kvs j
 | [],_=>by
  by_cases e:k=j
  ·rw[FI e.symm];exact dY (p:=(k,y)) e
  ·rw[FH (λz=>e z.symm)];exact dJ (p:=(k,y)) e
 | p::r,hn=>by
  rw[List.cons_append];have hk:¬p.1=k:=λz=>by rw[dY z]at hn;cases hn
  rw[dJ hk]at hn;have ih:=sJ k j y r hn;by_cases e:p.1=j
  ·rw[dY e,dY e,FH (λz=>hk (e.trans z))]
  ·rw[dJ e,dJ e,ih]
def vC(kvs:List (κ×V))(k j:κ)(y:V):aW (putK kvs k y) j=if j=k then some y else aW kvs j:=by
 unfold putK;by_cases a:(kvs.any λkv=>decide (kv.1=k))=true
 ·rw[FI a,vb];rw[jh]at a;by_cases e:j=k
  ·obtain⟨x,hx⟩:=Option.isSome_iff_exists.mp a;rw[FI e,e,hx,Option.map_some,FI rfl]
  ·rw[FH e];cases aW kvs j with
   | none=>rfl
   | some x=>rw[Option.map_some,FH e]
 ·rw[FH a];refine sJ k j y kvs ?_;rw[jh]at a;cases q:aW kvs k with
  | none=>rfl
  | some x=>rw[q]at a;exact(a rfl).elim
def oU(kvs:List (κ×V))(k:κ)(v:V):(putK kvs k v).length<=kvs.length+1:=by
 unfold putK;split
 ·rw[EK];omega
 ·rw[E4,Fe,List.length_nil];omega
def jZ{kvs:List (κ×V)}{k:κ}(v:V)(h:aW kvs k=none):putK kvs k v=kvs++[(k,v)]:=by unfold putK;rw[jh,h];exact FH (by decide)
def eO.isSome_eq{o:Option V}{u:Option Value}(r:eO o u):o.isSome=u.isSome:=by
 cases o with
 | none=>cases u with
  | none=>rfl
  | some _=>exact(show False from r).elim
 | some _=>cases u with
  | none=>exact(show False from r).elim
  | some _=>rfl
def KV.val{kvs:List (κ×V)}{vs:List (κ×Value)}(r:KV kvs vs)(k:κ):eO (aW kvs k) (valueAt vs k):=by
 unfold KV at r;induction r with
 | nil=>exact True.intro
 | @cons p q ps qs h t ih=>
  obtain⟨h1,h2⟩:=h;by_cases e:p.1=k
  ·have e':q.1=k:=h1.symm.trans e;have b:valueAt (q::qs) k=some q.2:=by simp[valueAt,List.find?_cons,e']
   rw[dY e,b];exact h2
  ·have e':¬q.1=k:=λz=>e (h1.trans z);have b:valueAt (q::qs) k=valueAt qs k:=by simp[valueAt,List.find?_cons,e']
   rw[dJ e,b];exact ih
def KV.any{kvs:List (κ×V)}{vs:List (κ×Value)}(r:KV kvs vs)(k:κ):(kvs.any λkv=>decide (kv.1=k))=vs.any λkv=>decide (kv.1=k):=by
 unfold KV at r;induction r with
 | nil=>rfl
 | cons h t ih=>rw[List.any_cons,List.any_cons,ih,h.1]
def KV.repl{kvs:List (κ×V)}{vs:List (κ×Value)}(r:KV kvs vs)(k:κ){y:V}{u:Value}(ry:RelV y u):
  KV (kvs.map λkv=>if kv.1=k then(kv.1,y)else kv) (vs.map λkv=>if kv.1=k then(kv.1,u)else kv):=by
 unfold KV at r ⊢;induction r with
 | nil=>exact .nil
 | @cons p q ps qs h t ih=>
  rw[List.map_cons,List.map_cons];refine .cons ?_ ih;obtain⟨h1,h2⟩:=h;by_cases e:p.1=k
  ·rw[FI e,FI (h1.symm.trans e)];exact⟨h1,ry⟩
  ·rw[FH e,FH (λz=>e (h1.trans z))];exact⟨h1,h2⟩
def KV.put{kvs:List (κ×V)}{vs:List (κ×Value)}(r:KV kvs vs)(k:κ){y:V}{u:Value}(ry:RelV y u):KV (putK kvs k y) (stored vs k u):=by
 unfold putK stored;rw[r.any k];by_cases e:(vs.any λkv=>decide (kv.1=k))=true
 ·rw[FI e,FI e];exact r.repl k ry
 ·rw[FH e,FH e];exact Paired.snoc r ⟨rfl,ry⟩
def KV.keys{kvs:List (κ×V)}{vs:List (κ×Value)}(r:KV kvs vs):kvs.map (·.1)=vs.map (·.1):=by
 unfold KV at r;induction r with
 | nil=>rfl
 | cons h t ih=>rw[List.map_cons,List.map_cons,ih,h.1]
def KV.length{kvs:List (κ×V)}{vs:List (κ×Value)}(r:KV kvs vs):kvs.length=vs.length:=Paired.length r
end
def gn{P:Program}{w:World}{k:Key}{u:Value}(r:RelV (kV k) u):(ck P w).is k u=true:=by
 cases k with
 | inl i=>obtain⟨t,e⟩:=(show ∃t,u=Value.int i t from r);subst e;exact A5 P w i t
 | inr x=>obtain⟨t,e⟩:=(show ∃t,u=Value.str x t from r);subst e;exact lH P w x t
def lF{P:Program}{w:World}:∀{ks:List Key} {us:List Value},Vals (ks.map kV) us->ItemsAre (ck P w) ks us
 | [],_,r=>by rw[List.map_nil]at r;cases r;exact .nil
 | k::ks,_,r=>by
  rw[List.map_cons]at r;cases r with
  | cons h t=>exact .cons (gn h) (lF t)
abbrev KT(H:Hp):List (List Key×V)->List (List Key×Addr×Value)->Prop:=Paired λp q=>p.1=q.1/\H q.2.1=some (.tup (p.1.map kV))/\RelV p.2 q.2.2
def KT.val{H:Hp}{kvs:List (List Key×V)}{xs:List (List Key×Addr×Value)}(r:KT H kvs xs)(k:List Key):eO (aW kvs k) ((atKey xs k).map (·.2)):=by
 induction r with
 | nil=>exact True.intro
 | @cons p q ps qs h t ih=>
  obtain⟨h1,_,h2⟩:=h;by_cases e:p.1=k
  ·have e':q.1=k:=h1.symm.trans e;have b:atKey (q::qs) k=some q.2:=by simp[atKey,List.find?_cons,e']
   rw[dY e,b];exact h2
  ·have e':¬q.1=k:=λz=>e (h1.trans z);have b:atKey (q::qs) k=atKey qs k:=by simp[atKey,List.find?_cons,e']
   rw[dJ e,b];exact ih
def KT.repl{H:Hp}{kvs:List (List Key×V)}{xs:List (List Key×Addr×Value)}(r:KT H kvs xs)(k:List Key){y:V}{u:Value}(ry:RelV y u):
  KT H (kvs.map λkv=>if kv.1=k then(kv.1,y)else kv) (xs.map (putAt k u)):=by
 induction r with
 | nil=>exact .nil
 | @cons p q ps qs h t ih=>
  rw[List.map_cons,List.map_cons];refine .cons ?_ ih;obtain⟨h1,h2,h3⟩:=h;unfold putAt;by_cases e:p.1=k
  ·rw[FI e,FI (h1.symm.trans e)];exact⟨h1,h2,ry⟩
  ·rw[FH e,FH (λz=>e (h1.trans z))];exact⟨h1,h2,h3⟩
def KT.put{H:Hp}{kvs:List (List Key×V)}{xs:List (List Key×Addr×Value)}(r:KT H kvs xs)(k:List Key){b:Addr}{y:V}{u:Value}(hb:H b=some (.tup (k.map kV)))(ry:RelV y u):
  KT H (putK kvs k y) (storedH xs k b u):=by
 have e:(kvs.any λkv=>decide (kv.1=k))=(atKey xs k).isSome:=by rw[jh,(r.val k).isSome_eq,Option.isSome_map]
 unfold putK storedH;rw[e];by_cases q:(atKey xs k).isSome=true
 ·rw[FI q,FI q];exact r.repl k ry
 ·rw[FH q,FH q];exact Paired.snoc r ⟨rfl,hb,ry⟩
def KT.keeps{H H':Hp}{kvs:List (List Key×V)}{xs:List (List Key×Addr×Value)}(r:KT H kvs xs)(ht:∀b ys,H b=some (.tup ys)->H' b=some (.tup ys)):KT H' kvs xs:=
 Paired.mapP r λ_ _ z=>⟨z.1,ht _ _ z.2.1,z.2.2⟩
section
variable {P:Program} {w:World} {H:Hp} {h:Heap} {a:Addr}
def uX{u:HO}(ok:bp P w H h)(e:Rd H a u):bB P w H h a u:=e.ok ok
def jq{kvs:List (Key×V)}(ok:bp P w H h)(e:Rd H a (.dK kvs)):kvs.length<=sizeLine/\(a == sysModules)=false/\∃vs,KV kvs vs/\h.DictOf (ck P w) a vs:=
 show bB P w H h a (.dK kvs)from uX ok e
def tV{kvs:List (Key×V)}(ok:bp P w H h)(e:H a=some (.dK kvs)):kvs.length<=sizeLine/\(a == sysModules)=false/\∃vs,KV kvs vs/\h.DictOf (ck P w) a vs:=jq ok (.inl e)
def jb{ks:List Key}(ok:bp P w H h)(e:H a=some (.tup (ks.map kV))):(tupleKind (ck P w)).is h ks a:=by obtain⟨_,its,r,o,h1,h2,n,h3⟩:=(show bB P w H h a (.tup (ks.map kV))from ok a _ e);exact⟨o,its.toArray,n,h1,h2,h3,by simpa using lF r⟩
def jf{kvs:List (List Key×V)}(ok:bp P w H h)(e:Rd H a (.dT kvs)):kvs.length<=sizeLine/\(a == sysModules)=false ∧
  ∃xs,KT H kvs xs/\h.DictOfH (tupleKind (ck P w)) a xs:=by
 obtain⟨z,y,xs,r,o,es,ep,h1,h2,h3,h4,h5⟩:=(show bB P w H h a (.dT kvs)from uX ok e);refine⟨z,y,xs,r,o,es,ep,h1,h2,h3,h4,λx hx=>?_,h5⟩;have all:∀{l:List (List Key×V)} {m:List (List Key×Addr×Value)},KT H l m->∀x∈m,(tupleKind (ck P w)).is h x.1 x.2.1:=by
  intro l m q;induction q with
  | nil=>intro x hx;exact nomatch hx
  | @cons p q ps qs hq t ih=>
   intro x hx;rcases E1.mp hx with e|hx
   ·subst e;exact jb ok (by rw[←hq.1];exact hq.2.1)
   ·exact ih x hx
 exact all r x hx
def xm{kvs:List (List Key×V)}(ok:bp P w H h)(e:H a=some (.dT kvs)):kvs.length<=sizeLine/\(a == sysModules)=false ∧
  ∃xs,KT H kvs xs/\h.DictOfH (tupleKind (ck P w)) a xs:=jf ok (.inl e)
end
def bY(H:Hp)(a:Addr)(y:V)(r:Option V):Prop:=
 (∃kvs k,Rd H a (.dK kvs)/\y=kV k/\r=aW kvs k)\/∃kvs k b,Rd H a (.dT kvs)/\y=.ref b/\H b=some (.tup (k.map kV))/\r=aW kvs k
def fF(H:Hp)(a:Addr)(y v:V)(H':Hp):Prop:=
 (∃kvs k,H a=some (.dK kvs)/\y=kV k/\kvs.length<sizeLine/\H'=upd H a (.dK (putK kvs k v))) ∨
 ∃kvs k b,H a=some (.dT kvs)/\y=.ref b/\H b=some (.tup (k.map kV))/\kvs.length<sizeLine/\H'=upd H a (.dT (putK kvs k v))
def bY.k{H:Hp}{a:Addr}{kvs:List (Key×V)}{k:Key}(e:H a=some (.dK kvs)):bY H a (kV k) (aW kvs k):=.inl ⟨kvs,k,.inl e,rfl,rfl⟩
def bY.t{H:Hp}{a b:Addr}{kvs:List (List Key×V)}{k:List Key}(e:H a=some (.dT kvs))(eb:H b=some (.tup (k.map kV))):bY H a (.ref b) (aW kvs k):=.inr ⟨kvs,k,b,.inl e,rfl,eb,rfl⟩
def fF.t{H:Hp}{a b:Addr}{kvs:List (List Key×V)}{k:List Key}{v:V}(e:H a=some (.dT kvs))(eb:H b=some (.tup (k.map kV)))(hl:kvs.length<sizeLine):
  fF H a (.ref b) v (upd H a (.dT (putK kvs k v))):=.inr ⟨kvs,k,b,e,rfl,eb,hl,rfl⟩
section
variable {X:Cx} {pins:List (Addr×Obj)} {σ:St} {H:Hp} {s:Shared} {a:Addr} {y v:V} {u r:Value} {o:Option V} {A:Around} {E:Value->Shared->Prop}
def Inv.big(I:Inv X pins σ H s):sysModules<s.heap.objs.size:=by have h:mainGlobals<s.heap.objs.size:=(I.mod.glob.keeps I.bk).lt;exact Nat.lt_trans (by decide) h
def BZ{Q:Value->Shared->Prop}(hu:A.units+1<cLine)(I:Inv X pins σ H s)(g:bY H a y (some v))(ry:RelV y u)(h:∀w' s',Inv X pins σ H s'->RelV v w'->Q w' s'):
  wpAny (model X.prog X.w) A (getItem (.ref a) u) Q E s:=by
 rcases g with⟨kvs,k,e,ey,l⟩|⟨kvs,k,b,e,ey,eb,l⟩
 ·subst ey;obtain⟨z,hd,vs,rel,dd⟩:=jq I.hok e;obtain⟨w',hw,rw'⟩:=eO.some_of (v:=v) (o:=valueAt vs k) (by rw[l];exact rel.val k);exact wpAny_getItem_of (gn ry) dd.mapOf hw (h w' _ (I.tok _) rw')
 ·subst ey;cases(show u=Value.ref b from ry);obtain⟨z,hd,xs,rel,dd⟩:=jf I.hok e;obtain⟨w',hw,rw'⟩:=eO.some_of (v:=v) (o:=(atKey xs k).map (·.2)) (by rw[l];exact rel.val k);obtain⟨p,hp,hp2⟩:=EX.mp hw;refine wpAny_getItem_heap (tupleKind_room_in1 hu) (jb I.hok eb) dd hp ?_;rw[hp2];exact h w' _ (I.tok _) rw'
def yR{Q:Value->Shared->Prop}(hu:A.units+1<cLine)(I:Inv X pins σ H s)(g:bY H a y o)(ry:RelV y u)(h:∀s',Inv X pins σ H s'->Q (.bool o.isSome) s'):
  wpAny (model X.prog X.w) A (compareOp .In u (.ref a)) Q E s:=by
 rcases g with⟨kvs,k,e,ey,l⟩|⟨kvs,k,b,e,ey,eb,l⟩
 ·subst ey;obtain⟨z,hd,vs,rel,dd⟩:=jq I.hok e;refine wpAny_in_of (gn ry) hd dd.mapOf ?_;rw[←(rel.val k).isSome_eq,←l];exact h _ (I.tok _)
 ·subst ey;cases(show u=Value.ref b from ry);obtain⟨z,hd,xs,rel,dd⟩:=jf I.hok e;refine wpAny_in_heap (tupleKind_room_in1 hu) (jb I.hok eb) hd dd ?_;have q:=(rel.val k).isSome_eq;rw[Option.isSome_map]at q;rw[←q,←l];exact h _ (I.tok _)
def yV{Q:Value->Shared->Prop}(hu:A.units+1<cLine)(I:Inv X pins σ H s)(g:bY H a y o)(ry:RelV y u)(h:∀s',Inv X pins σ H s'->Q (.bool (!o.isSome)) s'):
  wpAny (model X.prog X.w) A (compareOp .NotIn u (.ref a)) Q E s:=by
 rcases g with⟨kvs,k,e,ey,l⟩|⟨kvs,k,b,e,ey,eb,l⟩
 ·subst ey;obtain⟨z,hd,vs,rel,dd⟩:=jq I.hok e;refine wpAny_notIn_of (gn ry) hd dd.mapOf ?_;rw[←(rel.val k).isSome_eq,←l];exact h _ (I.tok _)
 ·subst ey;cases(show u=Value.ref b from ry);obtain⟨z,hd,xs,rel,dd⟩:=jf I.hok e;refine wpAny_notIn_heap (tupleKind_room_in1 hu) (jb I.hok eb) hd dd ?_;have q:=(rel.val k).isSome_eq;rw[Option.isSome_map]at q;rw[←q,←l];exact h _ (I.tok _)
def jY{h':Heap}{t':Nat}{ob:HO}(I:Inv X pins σ H s)(mu:jE (H a))(hs:Heap.SameBut a s.heap h')(he:∃q,h'.get? a=some q)(new:bB X.prog X.w (upd H a ob) h' a ob):
  Inv X pins σ (upd H a ob) { s with heap:=h',toks:=t' }:=
 I.write (x:=a) (e:=a) mu (.inl rfl) (λb q hb z=>(hs.2 b hb).trans z) he new
def qW{P:Program}{w:World}{H':Hp}{h':Heap}{kvs:List (Key×V)}{vs:List (Key×Value)}(z:kvs.length<=sizeLine)(hd:(a == sysModules)=false)(rel:KV kvs vs)(dd:h'.DictOf (ck P w) a vs):
  bB P w H' h' a (.dK kvs):=⟨z,hd,vs,rel,dd⟩
def yf{H':Hp}{Q:Unit->Shared->Prop}(hu:A.units+1<cLine)(I:Inv X pins σ H s)(g:fF H a y v H')(ry:RelV y u)(rv:RelV v r)(h:∀s',Inv X pins σ H' s'->Q () s'):
  wpAny (model X.prog X.w) A (setItem (.ref a) u r) Q E s:=by
 rcases g with⟨kvs,k,e,ey,l,eH⟩|⟨kvs,k,b,e,ey,eb,l,eH⟩
 ·subst ey eH;obtain⟨z,hd,vs,rel,dd⟩:=tV I.hok e;have hz:vs.length<=sizeLine:=by rw[←rel.length];exact z
  have hl:(putK kvs k v).length<=sizeLine:=by have:=oU kvs k v;omega
  refine wpAny_setItem_pairs (hsz:=hz) (gn ry) dd λh' dd' hs=>h _ ?_;have he:∃q,h'.get? a=some q:=let ⟨q,_,_,hq,_⟩:=dd';⟨q,hq⟩;exact jY I (by rw[e];exact True.intro) hs he (qW hl hd (rel.put k rv) dd')
 ·subst ey eH;cases(show u=Value.ref b from ry);obtain⟨z,hd,xs,rel,dd⟩:=xm I.hok e;have hz:xs.length<=sizeLine:=by rw[←Paired.length rel];exact z
  have hl:(putK kvs k v).length<=sizeLine:=by have:=oU kvs k v;omega
  refine wpAny_setItem_heap (hsz:=hz) (tupleKind_room_in1 hu) (jb I.hok eb) dd λh' dd' hs=>h _ ?_;obtain⟨q,es,ep,hq,h2,h3,h4,_,h5⟩:=dd';refine jY I (by rw[e];exact True.intro) hs ⟨q,hq⟩ ⟨hl,hd,_,(rel.put k eb rv).keeps λc ys ec=>?_,q,es,ep,hq,h2,h3,h4,h5⟩;rw[ay (bO ec e (λz=>nomatch z))];exact ec
end
section
variable {X:Cx} {pins:List (Addr×Obj)} {σ:St} {H:Hp} {s:Shared} {a:Addr} {kvs:List (Key×V)} {k:Key} {u:Value} {A:Around} {E:Value->Shared->Prop}
end
def lE(i:Expr):Prop:=∀ov iv,subscripted i false ov iv=operate [ov,iv] (getItem ov iv)
def qz{prog:Program}{w:World}{A:Around}{E:Value->Shared->Prop}{s:Shared}{env:Env}{value slice:Expr}{pos:Pos}{T id:String}{Q:Value->Shared->Prop}
  (hl:typeLookup (.type T) "__getitem__" = pure (some (.builtin id))) (hs:lE slice)
  (h:wpAny (model prog w) A (eval value env) (λo s₁=>wpAny (model prog w) A (eval slice env) (λi s₂=>s₂.TypeIs o T/\wpAny (model prog w) A (getItem o i) Q E s₂) E s₁) E s) :
  wpAny (model prog w) A (eval (.Subscript value slice pos) env) Q E s:=by
 refine Subscript_ (wpAny_mono h (λo s₁ h₁=>wpAny_mono h₁ (λi s₂ h₂=>?_) λ_ _ x=>x) λ_ _ x=>x);obtain⟨hT,h₂⟩:=h₂;unfold subscriptTail;refine EE ?_;rw[getitemInPython_of_ne hT.not_modules];refine EE (wpAny_specialOf hT hl ?_);have fin:wpAny (model prog w) A (subscripted slice false o i) (λr s₃=>wpAny (model prog w) A (letTemporaryGo value o r >>= λ_=>pure r) Q E s₃) E s₂:=by rw[hs o i];exact wpAny_operating (wpAny_mono h₂ (λr s₃ h₃=>EE (wpAny_letTemporaryGo (EF h₃))) λ_ _ x=>x)
 first
  | exact EF (EE fin)
  | exact EE (EF (EE fin))
  | exact EE fin
def Dy{X:Cx}{pins:List (Addr×Obj)}{σ:St}{H:Hp}{s:Shared}{a:Addr}{y:V}{o:Option V}(I:Inv X pins σ H s)(g:bY H a y o):s.TypeIs (.ref a) "dict":=by
 rcases g with⟨kvs,k,e,_,_⟩|⟨kvs,k,b,e,_,_,_⟩
 ·obtain⟨_,_,vs,_,dd⟩:=jq I.hok e;exact dd.typeIs
 ·obtain⟨_,_,xs,_,dd⟩:=jf I.hok e;exact dd.typeIs
def uA(td ty:TE):TE:=λσ H Q=>td σ H λx H1=>ty σ H1 λy H2=>∃a v,x=.ref a/\bY H2 a y (some v)/\Q v H2
def qH(ty td:TE):TE:=λσ H Q=>ty σ H λy H1=>td σ H1 λx H2=>∃a o,x=.ref a/\bY H2 a y o/\Q (.bl o.isSome) H2
def tZ(ty td:TE):TE:=λσ H Q=>ty σ H λy H1=>td σ H1 λx H2=>∃a o,x=.ref a/\bY H2 a y o/\Q (.bl (!o.isSome)) H2
def xx(td ty tv:TE):TS:=λD σ H=>tv σ H λv H1=>td σ H1 λx H2=>ty σ H2 λy H3=>∃a H4,x=.ref a/\fF H3 a y v H4/\D.nx σ H4
section
variable {X:Cx} {o i e value:Expr} {pos pos' tpos:Pos} {td ty tv:TE}
def lG(hu:X.A.units+1<cLine)(ho:PE X o td)(hi:PE X i ty)(hs:lE i):PE X (.Subscript o i pos) (uA td ty):=by intro pins s σ H Q I h;refine qz PySem.F.slot_dict_getitem.lookup hs (av (ho pins s σ H _ I h) λu s1 ⟨x,H1,I1,rx,q1⟩=>av (hi pins s1 σ H1 _ I1 q1) λiv s2 ⟨y,H2,I2,ry,a,v,ex,g,q2⟩=>?_);subst ex;obtain rfl:u=Value.ref a:=rx;exact⟨Dy I2 g,BZ hu I2 g ry λw' s3 I3 rw'=>⟨v,H2,I3,rw',q2⟩⟩
def rB(hu:X.A.units+1<cLine)(hi:PE X i ty)(ho:PE X o td):PC X .In i o (qH ty td):=by intro pins s σ H Q I h;refine av (hi pins s σ H _ I h) λiv s1 ⟨y,H1,I1,ry,q1⟩=>av (ho pins s1 σ H1 _ I1 q1) λu s2 ⟨x,H2,I2,rx,a,ov,ex,g,q2⟩=>?_;subst ex;obtain rfl:u=Value.ref a:=rx;exact yR hu I2 g ry λs3 I3=>⟨.bl ov.isSome,H2,I3,rfl,q2⟩
def kh(hu:X.A.units+1<cLine)(hi:PE X i ty)(ho:PE X o td):PC X .NotIn i o (tZ ty td):=by intro pins s σ H Q I h;refine av (hi pins s σ H _ I h) λiv s1 ⟨y,H1,I1,ry,q1⟩=>av (ho pins s1 σ H1 _ I1 q1) λu s2 ⟨x,H2,I2,rx,a,ov,ex,g,q2⟩=>?_;subst ex;obtain rfl:u=Value.ref a:=rx;exact yV hu I2 g ry λs3 I3=>⟨.bl (!ov.isSome),H2,I3,rfl,q2⟩
def kx(hu:X.A.units+1<cLine)(ho:PE X o td)(hi:PE X i ty)(hv:PE X value tv)(hs:swapsWith value (some (.Subscript o i pos')) pos.line X.env=pure false):
  PS X (.Assign [.Subscript o i pos'] value pos) (xx td ty tv):=by
 intro pins s σ H D I h;refine wpAny_Assign_Subscript (av (hv pins s σ H _ I h) λr s1 ⟨v,H1,I1,rv,q1⟩=>av (ho pins s1 σ H1 _ I1 q1) λu s2 ⟨x,H2,I2,rx,q2⟩=>av (hi pins s2 σ H2 _ I2 q2) λiv s3 ⟨y,H3,I3,ry,a,H4,ex,g,q3⟩=>?_) hs;subst ex;obtain rfl:u=Value.ref a:=rx;exact yf hu I3 g ry rv λs4 I4=>⟨σ,H4,I4,q3⟩
end
def zK{P:Program}{w:World}{H:Hp}(h:Heap)(hb:sysModules<h.objs.size):bB P w H (h.push { cls:=.type "dict",data:=.dict #[] }) h.objs.size (.dK []):=
 ⟨Nat.zero_le _,beq_eq_false_iff_ne.mpr (Ne.symm (E5 hb)),[],.nil,Heap.DictOf.new h⟩
def vn{P:Program}{w:World}{H:Hp}(h:Heap)(hb:sysModules<h.objs.size):bB P w H (h.push { cls:=.type "dict",data:=.dict #[] }) h.objs.size (.dT []):=
 ⟨Nat.zero_le _,beq_eq_false_iff_ne.mpr (Ne.symm (E5 hb)),[],.nil,_,#[],0,EI _ rfl,⟨rfl,rfl,rfl⟩,rfl,rfl,List.nodup_nil⟩
def Ai:TE:=λ_ H Q=>∀p,H p=none->Q (.ref p) (upd H p (.dT []))
section
variable {X:Cx} {pos:Pos}
def Ab:PE X (.Dict [] [] pos) Ai:=λpins s σ H Q I h=>
 wpAny_Dict_empty ⟨.ref s.heap.objs.size,_,I.laid (a:=s.heap.objs.size) (o:=.dT []) (t':=s.toks) (λ_ _ q=>EH _ q) (E6 _) (vn s.heap I.big),rfl,h _ (I.hok.fresh (E6 _))⟩
end
def kM:List (TE×TE)->St->Hp->(List (V×V)->Hp->Prop)->Prop
 | [],_,H,Q=>Q [] H
 | (tk,tv)::r,σ,H,Q=>tk σ H λx H1=>tv σ H1 λy H2=>kM r σ H2 λps H3=>Q ((x,y)::ps) H3
abbrev VV:List (V×V)->List (Value×Value)->Prop:=Paired λp q=>RelV p.1 q.1/\RelV p.2 q.2
def j5(X:Cx)(pos:Pos)(keys:List (Option Expr))(values:List Expr)(trs:List (TE×TE)):Prop:=
 ∀(pins:List (Addr×Obj)) (s:Shared) (σ:St) (H:Hp) (Q:List (V×V)->Hp->Prop),Inv X pins σ H s->kM trs σ H Q →
  wpAny (model X.prog X.w) X.A (evalPairs (pairTrees keys values X.env pos)) (λvs s'=>∃ps H',Inv X pins σ H' s'/\VV ps vs/\Q ps H') X.xe s
def Ep{X:Cx}{pos:Pos}:j5 X pos [] [] []:=λpins s σ H Q I h=>pairTrees_nil_walk ⟨[],H,I,.nil,h⟩
def oA{X:Cx}{pos:Pos}{k v:Expr}{ks:List (Option Expr)}{vs:List Expr}{tk tv:TE}{trs:List (TE×TE)}(hk:PE X k tk)(hv:PE X v tv)(hr:j5 X pos ks vs trs):
  j5 X pos (some k::ks) (v::vs) ((tk,tv)::trs):=λpins s σ H Q I h=>
 pairTrees_cons_walk (av (hk pins s σ H _ I h) λu s1 ⟨x,H1,I1,rx,q1⟩=>av (hv pins s1 σ H1 _ I1 q1) λw2 s2 ⟨y,H2,I2,ry,q2⟩=>
  av (hr pins s2 σ H2 _ I2 q2) λws s3 ⟨ps,H3,I3,rel,q3⟩=>⟨(x,y)::ps,H3,I3,.cons ⟨rx,ry⟩ rel,q3⟩)
def fR(kvs more:List (Key×V)):List (Key×V):=more.foldl (λacc kv=>putK acc kv.1 kv.2) kvs
def KV.merge:∀{more:List (Key×V)} {rs:List (Key×Value)} {kvs:List (Key×V)} {vs:List (Key×Value)},KV more rs->KV kvs vs->KV (fR kvs more) (merged vs rs):=by
 intro more rs kvs vs r;unfold KV at r;induction r generalizing kvs vs with
 | nil=>intro q;exact q
 | @cons p q ps qs h t ih=>
  intro r0;have e:KV (putK kvs p.1 p.2) (stored vs q.1 q.2):=by have:=r0.put p.1 h.2;rw[←h.1];exact this
  exact ih e
def ve:∀(more kvs:List (Key×V)),(fR kvs more).length<=kvs.length+more.length
 | [],kvs=>by show kvs.length<=kvs.length+0;omega
 | p::r,kvs=>by have h1:=ve r (putK kvs p.1 p.2);have h2:=oU kvs p.1 p.2;show(fR (putK kvs p.1 p.2) r).length<=_;rw[Fe];omega
def uZ{P:Program}{w:World}:∀{kvs:List (Key×V)} {ws:List (Value×Value)},VV (kvs.map λkv=>(kV kv.1,kv.2)) ws->∃rs,Carries (ck P w) ws rs/\KV kvs rs
 | [],_,r=>by rw[List.map_nil]at r;cases r;exact⟨[],True.intro,.nil⟩
 | p::kvs,_,r=>by
  rw[List.map_cons]at r;cases r with
  | @cons a b as bs h t=>
   obtain⟨rs,c,q⟩:=uZ (P:=P) (w:=w) t;obtain⟨b1,b2⟩:=b;exact⟨(p.1,b2)::rs,⟨gn h.1,rfl,c⟩,.cons ⟨rfl,h.2⟩ q⟩
def wK(trs:List (TE×TE)):TE:=λσ H Q=>∀p,H p=none->kM trs σ (upd H p (.dK [])) λps H2=>H2 p=some (.dK [])/\∃kvs:List (Key×V),ps=kvs.map (λkv=>(kV kv.1,kv.2))/\kvs.length<=15/\Q (.ref p) (upd H2 p (.dK (fR [] kvs)))
def ym{X:Cx}{pos:Pos}{keys:List (Option Expr)}{values:List Expr}{trs:List (TE×TE)}(h:j5 X pos keys values trs)(hall:keys.all (·.isSome)=true)(hl:keys.length=values.length)(h0:keys≠[])
  (h15:keys.length<=15):PE X (.Dict keys values pos) (wK trs):=by
 intro pins s σ H Q I q;have hn:=I.hok.fresh (E6 s.heap.objs.size);have I1:=I.laid (a:=s.heap.objs.size) (o:=.dK []) (h':=s.heap.push { cls:=.type "dict",data:=.dict #[] }) (t':=s.toks) (λ_ _ q=>EH _ q) (E6 _) (zK s.heap I.big);refine wpAny_Dict_walk (knd:=ck X.prog X.w) hall hl h0 h15 (av (h pins _ σ _ _ I1 (q _ hn)) λws s2 ⟨ps,H2,I2,rel,e,kvs,ep,lk,q2⟩=>?_);subst ep;obtain⟨rs,c,rk⟩:=uZ (P:=X.prog) (w:=X.w) rel;obtain⟨z,hd,vs0,r0,dd⟩:=tV I2.hok e;cases r0;refine⟨rs,c,dd,λh' dd' hs=>⟨.ref s.heap.objs.size,_,?_,rfl,q2⟩⟩;have hz:(fR [] kvs).length<=sizeLine:=by have h1:=ve kvs [];rw[List.length_nil]at h1;rw[sizeLine_eq];omega
 have he:∃q,h'.get? s.heap.objs.size=some q:=let ⟨q,_,_,hq,_⟩:=dd';⟨q,hq⟩;exact jY I2 (by rw[e];exact True.intro) hs he (qW hz hd (rk.merge .nil) dd')
section
variable {X:Cx} {pins:List (Addr×Obj)} {σ:St} {H:Hp} {s:Shared} {a:Addr} {y d:V} {u r:Value} {o:Option V} {A:Around} {E:Value->Shared->Prop}
end
section
variable {X:Cx} {o e f:Expr} {apos cpos:Pos} {td ty tx:TE}
end
section
variable {X:Cx} {pins:List (Addr×Obj)} {σ:St} {H:Hp} {s:Shared} {a:Addr} {kvs:List (Key×V)} {A:Around} {E:Value->Shared->Prop}
end
section
variable {X:Cx} {pins:List (Addr×Obj)} {σ:St} {H:Hp} {s:Shared} {a:Addr} {y:V} {u:Value} {A:Around} {E:Value->Shared->Prop}
end
section
variable {X:Cx}
end
section
variable {κ:Type} [DecidableEq κ]
end
section
variable {prog:Program} {w:World} {A:Around} {E:Value->Shared->Prop} {s:Shared} {dd:Option Addr}
end
section
variable {M:Model} {A:Around} {E:Value->Shared->Prop} {s:Shared} {dd:Option Addr}
end
section
variable {P:Program} {w:World} {K:EG} {mg:Str->Option Value} {base:Heap} {N:List Str} {qual:Str} {scope:Scope} {f:Addr} {cd:Value} {A:Around} {outer:List Env} {s₀:Shared} {H₀:Hp} {E:XK}
end
section
variable {prog:Program} {w:World} {A:Around} {E:Value->Shared->Prop} {K:EG} {x D:Addr} {ox:Obj} {s:Shared}
end
section
variable {X:Cx} {pins:List (Addr×Obj)} {σ:St} {H:Hp} {s:Shared} {x:Addr} {oe:Obj}
end
section
variable {P:Program} {w:World} {K:EG} {mg:Str->Option Value} {base:Heap} {N:List Str} {qual:Str} {scope:Scope} {f:Addr} {cd:Value} {A:Around} {outer:List Env} {s₀:Shared} {H₀:Hp} {E:XK}
end
section
end
section
variable {P:Program} {w:World} {K:EG} {mg:Str->Option Value} {base:Heap} {N:List Str} {qual:Str} {scope:Scope} {f:Addr} {cd:Value} {A:Around} {outer:List Env} {s₀:Shared} {H₀:Hp} {E:XK}
end
section
variable {K:EG} {D:Ends} {σ:St} {H:Hp} {Q:VK} {E:XK} {C x:Addr}
end
section
variable {K:EG} {D:Ends} {σ:St} {H:Hp} {E:St->XK} {C:Addr} {i:Nat} {t u tb:Ends->(St->XK)->St->Hp->Prop} {ts:Addr->Addr->Option Addr->TS} {c:TT}
end
end L2
namespace Tb
open PySem
end Tb
namespace Tb
open PySem
def kC{xs:Array Nat}(h:xs.toList.Pairwise (· < ·)){a b x y:Nat}(ha:xs[a]?=some x)(hb:xs[b]?=some y)(hab:a<b):x<y:=by obtain⟨h1,e1⟩:=Array.getElem?_eq_some_iff.mp ha;obtain⟨h2,e2⟩:=Array.getElem?_eq_some_iff.mp hb;have:=List.pairwise_iff_getElem.mp h a b (by simpa using h1) (by simpa using h2) hab;simp only[Array.getElem_toList]at this;rw[e1,e2]at this;exact this
def pj(xs:Array Nat)(j:Nat)(hs:xs.toList.Pairwise (· < ·)):∀fuel lo hi,hi-lo<=fuel->lo<=hi->hi<=xs.size->(∀k x,k<lo->xs[k]?=some x->x<j)->(∀k x,hi<=k->xs[k]?=some x->j<=x) →
  SetTable.below.go xs j fuel lo hi<=xs.size/\(∀k x,k<SetTable.below.go xs j fuel lo hi->xs[k]?=some x->x<j)/\(∀k x,SetTable.below.go xs j fuel lo hi<=k->xs[k]?=some x->j<=x)
 | 0,lo,hi,h1,h2,h3,h4,h5=>by
  have:lo=hi:=by omega
  subst this;exact⟨h3,h4,h5⟩
 | fuel+1,lo,hi,h1,h2,h3,h4,h5=>by
  unfold SetTable.below.go;by_cases hlt:lo<hi
  ·rw[FI hlt];dsimp only;have hm:(lo+hi) / 2<xs.size:=by omega
   have em:xs[(lo+hi) / 2]?=some xs[(lo+hi) / 2]:=getElem?_pos xs _ hm;have eg:xs.getD ((lo+hi) / 2) j=xs[(lo+hi) / 2]:=by rw[Array.getD_eq_getD_getElem?,em];rfl
   rw[eg];by_cases hc:xs[(lo+hi) / 2]<j
   ·rw[FI hc];refine pj xs j hs fuel _ _ (by omega) (by omega) h3 (λk x hk ek=>?_) h5;rcases Fx k ((lo+hi) / 2)with a|a
    ·have:=kC hs ek em a;omega
    ·have:k=(lo+hi) / 2:=by omega
     subst this;rw[em]at ek;cases ek;exact hc
   ·rw[FH hc];refine pj xs j hs fuel _ _ (by omega) (by omega) (by omega) h4 (λk x hk ek=>?_);rcases Fx ((lo+hi) / 2) k with a|a
    ·have:=kC hs em ek a;omega
    ·have:k=(lo+hi) / 2:=by omega
     subst this;rw[em]at ek;cases ek;omega
  ·rw[FH hlt];have:lo=hi:=by omega
   subst this;exact⟨h3,h4,h5⟩
def kE{xs:Array Nat}(hs:xs.toList.Pairwise (· < ·))(j:Nat):SetTable.below xs j<=xs.size/\(∀k x,k<SetTable.below xs j->xs[k]?=some x->x<j)/\(∀k x,SetTable.below xs j<=k->xs[k]?=some x->j<=x):=
 pj xs j hs xs.size 0 xs.size (by omega) (Nat.zero_le _) (E6 _) (λk x hk=>by omega) (λk x hk e=>by have:=(Array.getElem?_eq_some_iff.mp e).1;omega)
def slot_mem{t:SetTable}(hs:t.place.toList.Pairwise (· < ·)){j i:Nat}(h:t.place[i]?=some j):t.slot j=.live i:=by
 obtain⟨h1,h2,h3⟩:=kE hs j;have e:SetTable.below t.place j=i:=by
  have hi:=(Array.getElem?_eq_some_iff.mp h).1;rcases Fx i (SetTable.below t.place j)with a|a
  ·have:=h2 i j a h;omega
  ·rcases Fx (SetTable.below t.place j) i with b|b
   ·have eb:t.place[SetTable.below t.place j]?=some t.place[SetTable.below t.place j]:=getElem?_pos t.place _ (by omega);have c1:=h3 _ _ (E6 _) eb;have c2:=kC hs eb h b;omega
   ·omega
 unfold SetTable.slot;dsimp only;rw[e,h,FI (beq_self_eq_true _)]
def BX{α:Type}(xs:Array α)(p:Nat)(x:α):(SetTable.insertAt xs p x).toList=xs.toList.take p++(x::xs.toList.drop p):=by unfold SetTable.insertAt;rw[Array.toList_append,Array.toList_push,Array.toList_extract,Array.toList_extract];show List.take (p-0) (xs.toList.drop 0)++[x]++List.take (xs.size-p) (xs.toList.drop p)=_;rw[List.take_of_length_le (l:=xs.toList.drop p) (by rw[List.length_drop,EO];exact E6 _),List.append_assoc];rfl
def yr{xs:Array Nat}(hs:xs.toList.Pairwise (· < ·)){j:Nat}(hn:j∉xs.toList):(SetTable.insertAt xs (SetTable.below xs j) j).toList.Pairwise (· < ·):=by
 obtain⟨h1,h2,h3⟩:=kE hs j;rw[BX];have hs':=hs;rw[←List.take_append_drop (SetTable.below xs j) xs.toList,List.pairwise_append]at hs';rw[List.pairwise_append,List.pairwise_cons];refine⟨hs'.1,⟨λy hy=>?_,hs'.2.1⟩,λx hx y hy=>?_⟩
 ·obtain⟨k,hk,e⟩:=List.mem_iff_getElem.mp hy;rw[List.length_drop,EO]at hk;rw[List.getElem_drop,Array.getElem_toList]at e;have ex:xs[SetTable.below xs j+k]?=some y:=by rw[getElem?_pos xs _ (by omega),e]
  have:=h3 _ _ (by omega) ex;have ne:y≠j:=λz=>hn (by rw[←z];exact Array.mem_toList_iff.mpr (Array.mem_of_getElem? ex));omega
 ·have hxj:x<j:=by obtain⟨k,hk,e⟩:=List.mem_iff_getElem.mp hx;rw[FA,EO]at hk;rw[List.getElem_take,Array.getElem_toList]at e;exact h2 k x (by omega) (by rw[getElem?_pos xs _ (by omega),e])
  rcases E1.mp hy with rfl|hy
  ·exact hxj
  ·exact hs'.2.2 x hx y hy
def yb{t:SetTable}(hs:t.place.toList.Pairwise (· < ·)){j:Nat}(h:j∈t.place.toList):∃i,t.slot j=.live i/\t.place[i]?=some j:=by obtain⟨i,hi⟩:=Fy h;rw[Array.getElem?_toList]at hi;exact⟨i,slot_mem hs hi,hi⟩
def DS{t:SetTable}(hs:t.place.toList.Pairwise (· < ·)){j:Nat}(h:t.slot j=.empty):j∉t.place.toList:=λhm=>by obtain⟨i,e,_⟩:=yb hs hm;rw[h]at e;cases e
def lS{α:Type}(es:Array α):∀(l:List Nat),(∀i∈l,i<es.size)->∀n:Nat,(l.filterMap (es[·]?))[n]?=(l[n]?).bind (es[·]?)
 | [],_,n=>by simp
 | x::l,h,n=>by
  have hx:=h x ES;have e:(x::l).filterMap (es[·]?)=es[x]::l.filterMap (es[·]?):=by rw[List.filterMap_cons];simp[hx]
  rw[e];cases n with
  | zero=>simp[hx]
  | succ n=>simpa using lS es l (λi hi=>h i (EN _ hi)) n
end Tb
namespace L2
open PySem PySem.Spec PyProof.Rows
section
variable {P:Program} {w:World} {A:Around} {E:Value->Shared->Prop} {s:Shared} {K:Type} [DecidableEq K] {knd:KeyKind P w K}
end
section
variable {P:Program} {w:World} {A:Around} {E:Value->Shared->Prop} {s:Shared}
end
section
variable {P:Program} {w:World} {A:Around} {I:Addr} {fp wr:List Addr} {G:Array GenState->Array GenState->Prop} {n:Nat} {Pz:Nat->Value->Prop} {St:Nat->Shared->Prop}
end
section
variable {P:Program} {w:World} {A:Around} {E:Value->Shared->Prop} {s:Shared}
abbrev cw(led:Bool):Obj:={ cls:=.type "set",dict:=none,data:=.set #[] 0 (.fresh 0 0 led) }
end
namespace SF
def zR:entryFor table "set.__iter__" = some Builtin.«frozenset.__iter__»:=entryFor_alias (id':="frozenset.__iter__") (by kernel_rfl) rfl (by decide +kernel) (by kernel_rfl)
def Ay(a:Value):argsOk "set.__iter__" ⟨[a],[]⟩:=by unfold argsOk;kernel_rfl
def slot_next:Slot "set_iterator" "__next__" "set_iterator.__next__":=
 .of (owner:="set_iterator") (n:="__next__") (by rw[typeLookup_type,builtinLookup_eq_fast];kernel_rfl) (by decide +kernel) (by decide +kernel) (by decide +kernel)
  (by first|exact .inl (by decide +kernel)|exact .inr (by decide +kernel)) (by rw[isSubtype_type];kernel_rfl)
def entry_next:entryFor table "set_iterator.__next__" = some Builtin.«set_iterator.__next__»:=entryFor_of_fast (by kernel_rfl)
def args_next(a:Value):argsOk "set_iterator.__next__" ⟨[a],[]⟩:=by unfold argsOk;kernel_rfl
def sx:Slot "set_iterator" "__iter__" "set_iterator.__iter__":=
 .of (owner:="set_iterator") (n:="__iter__") (by rw[typeLookup_type,builtinLookup_eq_fast];kernel_rfl) (by decide +kernel) (by decide +kernel) (by decide +kernel)
  (by first|exact .inl (by decide +kernel)|exact .inr (by decide +kernel)) (by rw[isSubtype_type];kernel_rfl)
def BY:entryFor table "set_iterator.__iter__" = some Builtin.«dict_keyiterator.__iter__»:=entryFor_alias (id':="dict_keyiterator.__iter__") (by kernel_rfl) rfl (by decide +kernel) (by kernel_rfl)
def zW(a:Value):argsOk "set_iterator.__iter__" ⟨[a],[]⟩:=by unfold argsOk;kernel_rfl
end SF
section
variable {P:Program} {w:World} {A:Around} {E:Value->Shared->Prop} {s:Shared}
def Cm{n:Nat}{Q:Nat->Shared->Prop}(hn:n≠0)(h:∀i d,i<n->Q i { s with drawn:=d }):wpAny (model P w) A (choose .order n) Q E s:=λΓ p hΓ=>by unfold choose;rw[Sem.wp_choose];exact⟨hn,by rw[Sem.wp_pure];exact h _ _ (Nat.mod_lt _ (Nat.pos_of_ne_zero hn))⟩
def pP{α:Type}:∀{l:List α} {i:Nat} (h:i<l.length),(l[i]::l.eraseIdx i).Perm l
 | [],i,h=>by cases h
 | x::l,0,h=>.refl _
 | x::l,i+1,h=>by have:=pP (l:=l) (i:=i) (Nat.lt_of_succ_lt_succ h);exact(List.Perm.swap _ _ _).trans (this.cons x)
def tW{α:Type}:∀(n:Nat) (xs:List α) (s:Shared) {Q:List α->Shared->Prop},n=xs.length->(∀ys d,ys.Perm xs->Q ys { s with drawn:=d })->wpAny (model P w) A (drawOrder n xs) Q E s
 | 0,xs,s,Q,hn,h=>by obtain rfl:=List.length_eq_zero_iff.mp hn.symm;unfold drawOrder;exact EF (h [] s.drawn (.refl _))
 | n+1,[],s,Q,hn,h=>by cases hn
 | n+1,x::xs,s,Q,hn,h=>by unfold drawOrder;refine EE (Cm (by simp) λi d hi=>?_);have e:(x::xs)[i]?=some (x::xs)[i]:=EL hi;rw[e];dsimp only;refine EE (tW n _ { s with drawn:=d } (by rw[List.length_eraseIdx_of_lt hi,←hn];rfl) λys d' hp=>EF (h _ d' ?_));exact(List.Perm.cons _ hp).trans (pP hi)
def rE{α:Type}(next:Nat->Nat):∀(fuel k:Nat) (left:List α) (out:Array α),fuel=left.length->(pickOrder.go next fuel k left out).toList.Perm (out.toList++left)
 | 0,k,left,out,h=>by obtain rfl:=List.length_eq_zero_iff.mp h.symm;unfold pickOrder.go;rw[List.append_nil]
 | fuel+1,k,left,out,h=>by
  unfold pickOrder.go;have hlt:next k % left.length<left.length:=Nat.mod_lt _ (by omega)
  rw[EL hlt];dsimp only;refine(rE next fuel (k+1) _ _ (by rw[List.length_eraseIdx_of_lt hlt];omega)).trans ?_;rw[Array.toList_push,List.append_assoc];exact(pP hlt).append_left _
def kq{α:Type}(next:Nat->Nat)(xs:Array α):(pickOrder next xs).toList.Perm xs.toList:=by
 have:=rE next xs.size 0 xs.toList #[] (by simp)
 rw[List.nil_append]at this;exact this
abbrev bV(a:Addr)(first:Value)(i n ep:Nat):Obj:={ cls:=.type "set_iterator",data:=.fields #[first,rawInt i,.ref a,rawInt n,rawInt ep] }
def mV{it:Addr}{h1:Heap}{Q:Option Value->Shared->Prop}(hh:A.handled=none)(he:Heap.ExtBut it s.heap h1)(hQ:∀h',Heap.ExtBut it s.heap h'->Q none { s with heap:=h' }):
  wpAny (model P w) A.in1 (newExc (.type "StopIteration") [] >>= raiseNew) (λr s'=>∃v,r=Fin.done (.ret v)/\wpAny (model P w) A (pure (some v)) Q E s') (λe s'=>wpAny (model P w) A (do if ←isInstance e (.type "StopIteration")then pure none else throw e) Q E s') { s with heap:=h1 }:=by
 refine EE ?_;simp only[newExc,newTuple];refine EE (wpAny_newObj_type ?_ (by size_fits));refine EE (m:=firstArgMember _ _) (wpAny_of_eq (a:=Value.none) (by first|rfl|(simp only[firstArgMember];rfl)) ?_);refine wpAny_newObj_type ?_ (by size_fits);simp only[raiseNew];refine EE (wpAny_handled ?_);rw[show A.in1.handled=none from hh];refine EE (EF (wpAny_throw ?_));refine EE (wpAny_isInstance (T:="StopIteration") (b:=true) ⟨_,EI _ rfl,rfl⟩ isSubtype_stop ?_);exact EF (hQ _ ((he.push _).push _))
def iX{it a:Addr}{first x:Value}{i n ep k:Nat}{f':Array Value}{h:Heap}(ho:h.get? it=some (bV a first i n ep))(hf:(#[first,rawInt i,.ref a,rawInt n,rawInt ep]:Array Value).setIfInBounds k x=f'):
  (h.update it (Obj.mapFields (·.setIfInBounds k x))).get? it=some { cls:=.type "set_iterator",data:=.fields f' }:=by
 have:=Heap.get?_update_self (Obj.mapFields (·.setIfInBounds k x)) ho (Obj.isFreed_of_fields (Obj.data_mapFields rfl _));rw[this,←hf];rfl
def xO{it a:Addr}{i ep:Nat}{o:Obj}{es:Array (Int×Value)}{t:SetTable}{Q:Option Value->Shared->Prop}(hT:w.params.followText "set-order" = true)(hit:s.heap.get? it=some (bV a (rawInt 0) i es.size ep))(ho:s.heap.get? a=some o)(hd:o.data=.set es ep t)(hf:t.fits es.size=true)
  {x:Int×Value} (hx:(pickOrder (w.params.setOrder a ep) es)[i]?=some x) (hQ:∀h',h'.get? it=some (bV a (rawInt 0) (i+1) es.size ep)->Heap.SameBut it s.heap h'->Q (some x.2) { s with heap:=h' }):wpAny (model P w) A (pyNext (.ref it)) Q E s:=by
 have T:s.TypeIs (.ref it) "set_iterator":=⟨_,hit,rfl⟩;unfold pyNext;refine EE (wpAny_attempt (FD (name:=Fp "__next__") T SF.slot_next (wpAny_call_entry SF.slot_next T SF.entry_next ?_ (SF.args_next _))));show wpAny _ _ (fieldsOf (.ref it) >>= _) _ _ s;refine EE (wpAny_fieldsOf hit rfl ?_);show wpAny _ _ (setEntries a >>= _) _ _ s;unfold setEntries;refine EE (EE (FC ho hd hf (EF ?_)));rw[FH (by simp)];show wpAny _ _ (setNext a 0 _ _ >>= _) _ _ s;unfold setNext;refine EE (EE (FC ho hd hf ?_));dsimp only;unfold setsByText;refine EE (EE (wpAny_askSetting (EF ?_)));rw[show (model P w).w.params.followText "set-order" = true from hT];simp only[if_true];rw[FH (by simp)];unfold setWalk;refine EE (EE (FC ho hd hf ?_));dsimp only;unfold setsByText;refine EE (EE (wpAny_askSetting (EF ?_)));rw[show (model P w).w.params.followText "set-order" = true from hT];simp only[if_true];refine EE (wpAny_askSetting (EF ?_));rw[EY];have hx':(pickOrder ((model P w).w.params.setOrder a ep) es)[i]?=some x:=hx;rw[hx'];refine EF ?_;dsimp only[Option.map_some,Option.map_none];refine EE (wpAny_setField hit rfl (by simp) ?_);have e1:=iX (k:=0) (x:=rawInt (0:Nat)) hit rfl;have e1':(s.heap.update it (Obj.mapFields (·.setIfInBounds 0 (rawInt (0:Nat))))).get? it=some (bV a (rawInt 0) i es.size ep):=e1;refine EE (wpAny_setField (s:={ s with heap:=s.heap.update it (Obj.mapFields (·.setIfInBounds 0 (rawInt (0:Nat)))) }) e1' rfl (by simp) ?_);have e2:=iX (k:=1) (x:=rawInt ((i:Int)+1)) e1' rfl;refine EF ⟨_,rfl,EF (hQ _ ?_ ((Heap.SameBut.update ..).trans (Heap.SameBut.update ..)))⟩;exact e2
def Er{it a:Addr}{i ep:Nat}{o:Obj}{es:Array (Int×Value)}{t:SetTable}{Q:Option Value->Shared->Prop}(hh:A.handled=none)(hT:w.params.followText "set-order" = true)(hit:s.heap.get? it=some (bV a (rawInt 0) i es.size ep))(ho:s.heap.get? a=some o)(hd:o.data=.set es ep t)(hf:t.fits es.size=true)
  (hx:(pickOrder (w.params.setOrder a ep) es)[i]?=none) (hQ:∀h',Heap.ExtBut it s.heap h'->Q none { s with heap:=h' }):wpAny (model P w) A (pyNext (.ref it)) Q E s:=by
 have T:s.TypeIs (.ref it) "set_iterator":=⟨_,hit,rfl⟩;unfold pyNext;refine EE (wpAny_attempt (FD (name:=Fp "__next__") T SF.slot_next (wpAny_call_entry SF.slot_next T SF.entry_next ?_ (SF.args_next _))));show wpAny _ _ (fieldsOf (.ref it) >>= _) _ _ s;refine EE (wpAny_fieldsOf hit rfl ?_);show wpAny _ _ (setEntries a >>= _) _ _ s;unfold setEntries;refine EE (EE (FC ho hd hf (EF ?_)));rw[FH (by simp)];show wpAny _ _ (setNext a 0 _ _ >>= _) _ _ s;unfold setNext;refine EE (EE (FC ho hd hf ?_));dsimp only;unfold setsByText;refine EE (EE (wpAny_askSetting (EF ?_)));rw[show (model P w).w.params.followText "set-order" = true from hT];simp only[if_true];rw[FH (by simp)];unfold setWalk;refine EE (EE (FC ho hd hf ?_));dsimp only;unfold setsByText;refine EE (EE (wpAny_askSetting (EF ?_)));rw[show (model P w).w.params.followText "set-order" = true from hT];simp only[if_true];refine EE (wpAny_askSetting (EF ?_));rw[EY];have hx':(pickOrder ((model P w).w.params.setOrder a ep) es)[i]?=none:=hx;rw[hx'];refine EF ?_;dsimp only[Option.map_some,Option.map_none];refine EE (wpAny_setField hit rfl (by simp) ?_);exact mV (s:=s) (it:=it) hh (Heap.SameBut.update ..).extBut hQ
def BF{it a:Addr}{i ep:Nat}{o:Obj}{es:Array (Int×Value)}{t:SetTable}{Q:Option Value->Shared->Prop}{T0:Addr}{ys:List Nat}(hT0:s.heap.get? T0=some (seqObj "tuple" (ys.map λ(i:Nat)=>rawInt i).toArray 0))(hit:s.heap.get? it=some (bV a (.ref T0) i es.size ep))(ho:s.heap.get? a=some o)(hd:o.data=.set es ep t)(hf:t.fits es.size=true)
  {y:Nat} {x:Int×Value} (hy:ys[i]?=some y) (hx:es[y]?=some x) (hQ:∀h',h'.get? it=some (bV a (.ref T0) (i+1) es.size ep)->Heap.SameBut it s.heap h'->Q (some x.2) { s with heap:=h' }):wpAny (model P w) A (pyNext (.ref it)) Q E s:=by
 have T:s.TypeIs (.ref it) "set_iterator":=⟨_,hit,rfl⟩;unfold pyNext;refine EE (wpAny_attempt (FD (name:=Fp "__next__") T SF.slot_next (wpAny_call_entry SF.slot_next T SF.entry_next ?_ (SF.args_next _))));show wpAny _ _ (fieldsOf (.ref it) >>= _) _ _ s;refine EE (wpAny_fieldsOf hit rfl ?_);show wpAny _ _ (setEntries a >>= _) _ _ s;unfold setEntries;refine EE (EE (FC ho hd hf (EF ?_)));rw[FH (by simp)];show wpAny _ _ (seqItems? (.ref T0) >>= _) _ _ s;refine EE (wpAny_seqItems hT0 rfl ?_);dsimp only;rw[EY];have hpl:((ys.map λ(i:Nat)=>rawInt i).toArray:Array Value)[i]?=some (rawInt y):=by rw[List.getElem?_toArray,EM,hy];rfl
 rw[hpl];show wpAny _ _ (setNextDrawn a _ _ >>= _) _ _ s;unfold setNextDrawn;refine EE (EE (FC ho hd hf ?_));dsimp only;rw[FH (by simp)];simp only[EY];rw[hx];refine EF ?_;refine EE (wpAny_setField hit rfl (by simp) ?_);have e2:=iX (k:=1) (x:=rawInt ((i:Int)+1)) hit rfl;exact EF ⟨_,rfl,EF (hQ _ e2 (Heap.SameBut.update ..))⟩
def Az{it a:Addr}{i ep:Nat}{o:Obj}{es:Array (Int×Value)}{t:SetTable}{Q:Option Value->Shared->Prop}{T0:Addr}{ys:List Nat}(hh:A.handled=none)(hT0:s.heap.get? T0=some (seqObj "tuple" (ys.map λ(i:Nat)=>rawInt i).toArray 0))(hit:s.heap.get? it=some (bV a (.ref T0) i es.size ep))(ho:s.heap.get? a=some o)(hd:o.data=.set es ep t)(hf:t.fits es.size=true)
  (hy:ys[i]?=none) (hQ:∀h',Heap.ExtBut it s.heap h'->Q none { s with heap:=h' }):wpAny (model P w) A (pyNext (.ref it)) Q E s:=by
 have T:s.TypeIs (.ref it) "set_iterator":=⟨_,hit,rfl⟩;unfold pyNext;refine EE (wpAny_attempt (FD (name:=Fp "__next__") T SF.slot_next (wpAny_call_entry SF.slot_next T SF.entry_next ?_ (SF.args_next _))));show wpAny _ _ (fieldsOf (.ref it) >>= _) _ _ s;refine EE (wpAny_fieldsOf hit rfl ?_);show wpAny _ _ (setEntries a >>= _) _ _ s;unfold setEntries;refine EE (EE (FC ho hd hf (EF ?_)));rw[FH (by simp)];show wpAny _ _ (seqItems? (.ref T0) >>= _) _ _ s;refine EE (wpAny_seqItems hT0 rfl ?_);dsimp only;rw[EY];have hpl:((ys.map λ(i:Nat)=>rawInt i).toArray:Array Value)[i]?=none:=by rw[List.getElem?_toArray,EM,hy];rfl
 rw[hpl];refine EE (wpAny_setField hit rfl (by simp) ?_);have e1:=iX (k:=0) (x:=rawInt 0) hit rfl;have e1':(s.heap.update it (Obj.mapFields (·.setIfInBounds 0 (rawInt 0)))).get? it=some (bV a (rawInt 0) i es.size ep):=e1;refine EE (wpAny_setField (s:={ s with heap:=s.heap.update it (Obj.mapFields (·.setIfInBounds 0 (rawInt 0))) }) e1' rfl (by simp) ?_);exact mV (s:=s) (it:=it) hh ((Heap.SameBut.update ..).trans (Heap.SameBut.update ..)).extBut hQ
def nE{it a:Addr}{first:Value}{i n ep:Nat}{Q:Value->Shared->Prop}(hit:s.heap.get? it=some (bV a first i n ep))(h:Q (.ref it) s):wpAny (model P w) A (pyIter (.ref it)) Q E s:=by have T:s.TypeIs (.ref it) "set_iterator":=⟨_,hit,rfl⟩;refine wpAny_pyIter_slot T SF.sx (wpAny_call_entry SF.sx T SF.BY ?_ (SF.zW _));show wpAny _ _ (ret (.ref it)) _ _ s;exact EF ⟨_,rfl,"set_iterator",_,T,SF.slot_next.lookup,h⟩
def AB(hh:A.handled=none)(hT:w.params.followText "set-order" = true)(I a:Addr)(hne:a≠I){o:Obj}{es:Array (Int×Value)}{ep:Nat}{t:SetTable}(hd:o.data=.set es ep t)(hf:t.fits es.size=true):
  Walks P w A I [I,a] [I] es.size (λi v=>∃x,(pickOrder (w.params.setOrder a ep) es)[i]?=some x/\v=x.2) (λi h=>h.get? I=some (bV a (rawInt 0) i es.size ep)/\h.get? a=some o) where
 sub:=λb hb=>by simp at hb;simp[hb]
 frame:=λ_ _ _ st hk=>⟨hk I (by simp) _ st.1,hk a (by simp) _ st.2⟩
 item:=λi s Q E hi st hQ=>by
  have hl:(pickOrder (w.params.setOrder a ep) es).size=es.size:=by rw[←EO,(kq _ es).length_eq,EO]
  have hx:=getElem?_pos (pickOrder (w.params.setOrder a ep) es) i (by omega);refine xO hT st.1 st.2 hd hf hx λh' hit' sb=>?_;exact hQ _ h' s.toks ⟨_,hx,rfl⟩ ⟨hit',(sb.2 a hne).trans st.2⟩ λb o hb e=>sb.extBut b o (λh=>hb (by simp[h])) e
 done:=λs Q E st hQ=>by
  have hl:(pickOrder (w.params.setOrder a ep) es).size=es.size:=by rw[←EO,(kq _ es).length_eq,EO]
  exact Er hh hT st.1 st.2 hd hf (Array.getElem?_eq_none (by omega)) λh' he'=>hQ h' s.toks λb o hb e=>he' b o (λh=>hb (by simp[h])) e
 self:=λ_ _ _ _ st hQ=>nE st.1 hQ
def Bk(hh:A.handled=none)(I a T0:Addr)(hne:a≠I)(hneT:T0≠I){o:Obj}{es:Array (Int×Value)}{ep:Nat}{t:SetTable}{ys:List Nat}(hd:o.data=.set es ep t)(hf:t.fits es.size=true)(hy:ys.Perm (FE es.size)):
  Walks P w A I [I,a,T0] [I] es.size (λi v=>∃y x,ys[i]?=some y/\es[y]?=some x/\v=x.2) (λi h=>h.get? I=some (bV a (.ref T0) i es.size ep)/\h.get? a=some o/\h.get? T0=some (seqObj "tuple" (ys.map λ(i:Nat)=>rawInt i).toArray 0)) where
 sub:=λb hb=>by simp at hb;simp[hb]
 frame:=λ_ _ _ st hk=>⟨hk I (by simp) _ st.1,hk a (by simp) _ st.2.1,hk T0 (by simp) _ st.2.2⟩
 item:=λi s Q E hi st hQ=>by
  have hl:ys.length=es.size:=by rw[hy.length_eq,List.length_range]
  have hyi:=EL (l:=ys) (i:=i) (by omega);have hlt:ys[i]<es.size:=List.mem_range.mp (hy.mem_iff.mp (Fd (by omega)));have hx:=getElem?_pos es ys[i] hlt;refine BF st.2.2 st.1 st.2.1 hd hf hyi hx λh' hit' sb=>?_;exact hQ _ h' s.toks ⟨_,_,hyi,hx,rfl⟩ ⟨hit',(sb.2 a hne).trans st.2.1,(sb.2 T0 hneT).trans st.2.2⟩ λb o hb e=>sb.extBut b o (λh=>hb (by simp[h])) e
 done:=λs Q E st hQ=>by
  have hl:ys.length=es.size:=by rw[hy.length_eq,List.length_range]
  exact Az hh st.2.2 st.1 st.2.1 hd hf (List.getElem?_eq_none (by omega)) λh' he'=>hQ h' s.toks λb o hb e=>he' b o (λh=>hb (by simp[h])) e
 self:=λ_ _ _ _ st hQ=>nE st.1 hQ
end
end L2
namespace PyProof.Rows
open PySem
section
variable {prog:Program} {w:World} {A:Around} {E:Value->Shared->Prop} {s:Shared} {κ:SortKind} {X:Keyed->Prop}
open Classical in
end
end PyProof.Rows
namespace L2
open PySem PySem.Spec PyProof.Rows
section
variable {P:Program} {w:World} {A:Around} {E:Value->Shared->Prop} {s:Shared}
def xK:Slot "set" "__len__" "set.__len__":=
 .of (owner:="set") (n:="__len__") (by rw[typeLookup_type,builtinLookup_eq_fast];kernel_rfl) (by decide +kernel) (by decide +kernel) (by decide +kernel)
  (by first|exact .inl (by decide +kernel)|exact .inr (by decide +kernel)) (by rw[isSubtype_type];kernel_rfl)
def sub_set_set:isSubtype (.type "set") (.type "set")=pure true:=by rw[isSubtype_type];kernel_rfl
def split_len:splitId "set.__len__" = some ("set","__len__"):=by kernel_rfl
def Ap{a:Addr}{Q:Bool->Shared->Prop}(T:s.TypeIs (.ref a) "set")(h:Q false s):wpAny (model P w) A (Builtin.List.listLengthHint (.ref a)) Q E s:=by unfold Builtin.List.listLengthHint;refine EE (wpAny_specialOf T xK.lookup ?_);dsimp only;rw[split_len];dsimp only;refine EE (wpAny_isInstance (T:="set") (b:=true) T sub_set_set ?_);simp only[Bool.not_true,Fw,if_false];rw[FI (by first|rfl|decide +kernel|kernel_rfl)];refine EE (wpAny_typeOf T ?_);exact EF h
open Classical in
end
section
variable {P:Program} {w:World}
end
section
variable {X:Cx} {pins:List (Addr×Obj)} {σ:St} {H:Hp} {s:Shared}
def Inv.dr(I:Inv X pins σ H s)(d:Drawn):Inv X pins σ H { s with drawn:=d }:=⟨I.ok,I.os,I.bare,I.base,I.loc,I.cell,I.free,I.freeC,I.pin,I.hok,I.len⟩
end
section
variable {X:Cx}
end
section
variable {X:Cx} {pins:List (Addr×Obj)} {σ:St} {H:Hp} {s:Shared}
def Inv.turnedNew{h':Heap}{L:List Addr}{o:HO}{t':Nat}(I:Inv X pins σ H s)(k:∀b u,b∉L->s.heap.get? b=some u->h'.get? b=some u)(f:∀b∈L,cc X pins H b)
  (new:bB X.prog X.w (upd H s.heap.objs.size o) h' s.heap.objs.size o):Inv X pins σ (upd H s.heap.objs.size o) { s with heap:=h',toks:=t' }:=by
 have hn:H s.heap.objs.size=none:=I.hok.fresh (E6 _);have nin:∀b u,H b=some u->b∉L:=λb u e z=>by rw[(f b z).1]at e;cases e
 have up:∀b u,H b=some u->upd H s.heap.objs.size o b=some u:=λb u e=>by rw[ay (cg e hn)];exact e
 refine I.step (g':=s.gens) (d':=s.drawn) (ch:=L) (λb hb=>?_) (λb u _ _ hc e _=>k b u hc e) (λb u _ _ hc e _=>⟨u.slots,k b u hc e⟩) (λb u _ e n=>?_) (λb u hc e=>⟨u,k b u hc e⟩) (λb xs e=>up b _ e) (λb u v e=>up b _ e) (λb ps e=>⟨#[],by rw[up b _ e];simp⟩) (λm hm=>?_) (λb u e=>?_) I.bare
 ·obtain⟨f0,f1,f2,f3,f4,f5⟩:=f b hb;exact⟨f3,f1,f4,f5⟩
 ·rw[ay (E5 (EJ e))];exact n
 ·obtain⟨u,es,ep,hu,r⟩:=hm;exact⟨u,es,ep,k _ u (λz=>(f _ z).2.1 rfl) hu,r⟩
 ·by_cases hb:b=s.heap.objs.size
  ·subst hb;rw[aE]at e;cases e;exact new
  ·rw[ay hb]at e;refine(I.hok b u e).stay (λc v hc q=>k c v ?_ q) (λc q=>up c _ q) λc xs q=>up c _ q;rcases hc with z|z
   ·rw[z];exact nin b u e
   ·exact nin c _ z
end
def DH{P:Program}{w:World}{A:Around}(hA:A.handled=none)(it t:Addr)(ne:t≠it)(ys:Array Value):Draws P w A it [it,t] ys.size (λi v=>ys[i]?=some v) (λi h=>h.IsTupleIter it t i/\h.IsTuple t ys) where
 live:=λi h st=>by obtain⟨⟨o,ho,_⟩,_⟩:=st;exact⟨o,ho⟩
 frame:=λi h h' st k=>by obtain⟨⟨o,ho,r⟩,⟨u,hu,q⟩⟩:=st;exact⟨⟨o,k it (by simp) o ho,r⟩,⟨u,k t (by simp) u hu,q⟩⟩
 item:=λi s Q E hi st hQ=>wW st.1 st.2 (x:=ys[i]) (by simp[hi]) λh' gi sb=>hQ _ h' s.toks (by simp[hi]) ⟨gi,by obtain⟨u,hu,q⟩:=st.2;exact⟨u,(sb.2 t ne).trans hu,q⟩⟩ sb
 done:=λs Q E st hE=>nL hA st.1 st.2 (by simp) hE
abbrev ke(h:Heap)(a:Addr):Heap:=h.push { cls:=.type "tuple_iterator",data:=.fields #[.ref a,.int 0 0] }
abbrev mh(h:Heap)(a:Addr):Heap:=(ke h a).push { cls:=.type "enumerate",data:=.fields #[.none,.bool false,.ref h.objs.size,rawInt 0,.none,.none] }
open AutoSeq1 (wpAny_loadPart')in
def Ce(a:Addr)(ys:Array Value)(ob:Obj):Meets (Builtin.«enumerate.__new__» ⟨[.type "enumerate",.ref a],[]⟩) (λ_ R s=>s.heap.get? a=some ob/\s.heap.IsTuple a ys/\R (.ok (.ret (.ref (ke s.heap a).objs.size))) { s with heap:=mh s.heap a }):=
 .of_wp λprog w A R s q=>by
  obtain⟨hp,g,d,tk,os⟩:=s;obtain⟨ga,gt,q⟩:=q;have hsub:=sub_enumerate;obtain⟨o,go,gc,n,gd⟩:=id gt;obtain⟨c0,d0,dt,sl⟩:=o;simp only at gc gd;subst gc gd;have gT:Heap.IsTuple (Shared.heap ⟨hp,g,d,tk,os⟩) a ys:=gt
  wp_walk using wpAny_loadPart' go
  refine wpAny_stack_any λst=>EF ?_;split
  ·rename_i c _ _ _ _ _;cases(c == Value.type "enumerate")<;>(wp_walk using wpAny_loadPart' go,wpAny_pyIter_tuple gT;exact⟨_,rfl,q⟩)
  ·wp_walk using wpAny_loadPart' go,wpAny_pyIter_tuple gT
   exact⟨_,rfl,q⟩
def Dh{prog:Program}{w:World}{A:Around}{E:Value->Shared->Prop}{s:Shared}{a:Addr}{ys:Array Value}{Q:Value->Shared->Prop}(gt:s.heap.IsTuple a ys)
  (q:∀h',IsEnum h' (s.heap.objs.size+1) s.heap.objs.size 0 .none->h'.IsTupleIter s.heap.objs.size a 0->(∀c o,s.heap.get? c=some o->h'.get? c=some o)->Q (.ref (s.heap.objs.size+1)) { s with heap:=h' }) :
  wpAny (model prog w) A (call (.type "enumerate") [.ref a]) Q E s:=by
 obtain⟨o,go,r⟩:=id gt;refine callType_new F.called_enumerate (by decide) (F.typeCall_enumerate_1 _) (F.newCall_enumerate_1 _) (λob=>F.args_object_init_2 ob _) F.entry_enumerate_new (Ce a ys o) ⟨go,gt,?_⟩;have n1:(ke s.heap a).objs.size=s.heap.objs.size+1:=Heap.size_push ..;have k2:(mh s.heap a).get? (ke s.heap a).objs.size=some _:=EI _ rfl;have k1:(mh s.heap a).get? s.heap.objs.size=some _:=EH _ (EI _ rfl);show _/\_;rw[n1]at k2 ⊢;exact⟨⟨_,k2,rfl⟩,q _ k2 ⟨_,k1,rfl,rfl⟩ λc o x=>EH _ (EH _ x)⟩
def il(K:EG)(a:Addr):It:=⟨(cD K a).go,λi H x H'=>∃p v,x=.ref p/\H p=none/\H'=upd H p (.tup [.int i,v])/\(cD K a).yld i H v H,(cD K a).stop⟩
def y7{P:Program}{w:World}{K:EG}{elts:List Expr}{kk:Nat}{ps:Pos}(a e it:Addr)(ne:e≠it):Turn P w K (.Tuple elts kk ps) (il K a) [e,it] e (λi h=>(∃old,IsEnum h e it i old)/\h.IsTupleIter it a i) where
 mem:=by simp
 obj:=λi h st b hb=>by
  obtain⟨⟨old,ge⟩,o,go,gc,gd⟩:=st;rcases E1.mp hb with rfl|hb
  ·exact⟨_,ge,λv z=>by cases(show Data.fields _=Data.cell v from z)⟩
  ·cases EW.mp hb;exact⟨o,go,λv z=>by rw[gd]at z;cases z⟩
 keep:=λi h h' st k=>by obtain⟨⟨old,ge⟩,gi⟩:=st;exact⟨⟨old,k e (by simp) _ ge⟩,gi.at λo z=>k it (by simp) o z⟩
 item:=by
  intro X hP hw hK hc i pins s σ H E I hf st hg;subst hP hw hK;obtain⟨⟨old,ge⟩,gi⟩:=st;obtain⟨xs,x,hq,hx⟩:=hg;obtain⟨its,rv,p,hz⟩:=I.tuple hq;obtain⟨u,hu,ru⟩:=rv.get hx;have hi:i<its.toArray.size:=by have:=(EU.mp hu).1;simpa using this
  have hA:X.A.in1.handled=none:=I.ok.hd hc;have hta:a≠it:=λz=>by obtain⟨o,ho,hcl,_⟩:=p;obtain⟨o',ho',hcl',_⟩:=gi;rw[z,ho']at ho;cases ho;rw[hcl]at hcl';exact absurd (Value.type.inj hcl') (by decide)
  have hea:e∉[it,a]:=λz=>by
   rcases E1.mp z with z|z
   ·exact ne z
   ·cases EW.mp z;obtain⟨o,ho,hcl,_⟩:=p;rw[ge]at ho;cases ho;exact absurd (Value.type.inj hcl) (by decide)
  refine wpAny_pyNext_enum_itemD (DH hA it a hta its.toArray) ge ⟨gi,show s.heap.IsTuple a its.toArray from p⟩ hi ne hea λy h' tk hy geo gs gT gz gk=>⟨_,rfl,?_⟩;have ey:y=u:=by
   have:its[i]?=some y:=by simpa using hy
   rw[hu]at this;exact(Fq this).symm
  subst ey;have lt:∀b∈[e,it],b≠s.heap.objs.size:=λb hb=>by
   rcases E1.mp hb with rfl|hb
   ·exact E5 (EJ ge)
   ·cases EW.mp hb;obtain⟨o,ho,_⟩:=gi;exact E5 (EJ ho)
  have I1:Inv X pins σ (upd H s.heap.objs.size (.tup [.int i,x])) { s with heap:=h',toks:=tk+1 }:=
   Inv.turnedNew (L:=[e,it]) I (λb o hb z=>gk b o (λq=>hb (by simp[q])) (λq=>hb (by simp[q])) z) hf ⟨by show 2<=sizeLine;decide,[.int i tk,y],.cons ⟨tk,rfl⟩ (.cons ru .nil),⟨_,gT,rfl,_,rfl⟩⟩
  have fe:cc X pins (upd H s.heap.objs.size (.tup [.int i,x])) e:=by obtain⟨c0,c1,c2,c3,c4,c5⟩:=hf e (by simp);exact⟨by rw[ay (lt e (by simp))];exact c0,c1,c2,c3,c4,c5⟩
  refine wpAny_letOwnedTupleGo_enum (s:={ s with heap:=h',toks:=tk+1 }) geo λk gk' bk=>?_;refine⟨.ref s.heap.objs.size,upd H s.heap.objs.size (.tup [.int i,x]),Inv.same (s:={ s with heap:=h',toks:=tk+1 }) (k:=h') I1 fe bk.extBut,rfl,⟨_,x,rfl,I.hok.fresh (E6 _),rfl,rfl,λzs hzs=>by rw[I.tuple_inj hzs hq];exact hx⟩,⟨⟨y,by simpa using gk'⟩,gs.1.at λo z=>bk.extBut it o (Ne.symm ne) z⟩,λb hb=>?_⟩;rw[ay (lt b hb)];exact(hf b hb).1
 done:=by intro X hP hw hK hc i pins s σ H E I hf st hg;subst hP hw hK;obtain⟨⟨old,ge⟩,gi⟩:=st;obtain⟨xs,hq,hx⟩:=hg;obtain⟨its,rv,p,hz⟩:=I.tuple hq;have hA:X.A.in1.handled=none:=I.ok.hd hc;have gT:s.TypeIs (.ref e) "enumerate":=⟨_,ge,rfl⟩;have hl:=rv.length;unfold pyNext;refine EE (wpAny_attempt (FD (name:=Fp "__next__") gT F.slot_enumerate_next (wpAny_call_entry F.slot_enumerate_next gT F.entry_enumerate_next ?_ (F.args_enumerate_next_1 _))));show wpAny _ _ (field (Value.ref e) 2 >>= _) _ _ _;refine EE (wpAny_field ge rfl (x:=Value.ref it) rfl ?_);refine EE (nL hA gi (show s.heap.IsTuple a its.toArray from p) (by simp;omega) λh' x he hx'=>?_);obtain⟨o,ho,hc'⟩:=hx';refine EE (wpAny_isInstance (s:={ s with heap:=h' }) (T:="StopIteration") (b:=true) ⟨o,ho,hc'⟩ isSubtype_stop ?_);exact EF ⟨rfl,Inv.same (k:=s.heap) I (hf it (by simp)) he⟩
 self:=λ_ _ _ _ _ st h=>by obtain⟨⟨old,ge⟩,_⟩:=st;exact wpAny_pyIter_enum ge h
section
variable {K:EG} {σ:St} {H:Hp} {Q:VK}
def nW(K:EG):List V->Hp->(It->Hp->Prop)->Prop:=λvs H R=>∃a xs,vs=[.ref a]/\ai K H a xs/\R (il K a) H
def uR(K:EG)(ta:TA):TI:=λσ H R=>ta σ H λvs H1=>nW K vs H1 R
def AA{X:Cx}{elts:List Expr}{kk:Nat}{ps:Pos}(K:EG){a:Expr}{ta:TA}{p pos:Pos}(hg:Gl X "enumerate")(hm:X.mg "enumerate" = none)(ha:PA X [a] ta)(hK:X.K=K:=by rfl)(hs:starEach [a] X.env=[(false,eval a X.env)]:=by rfl):
  PI X (.Tuple elts kk ps) (.Call (.Name "enumerate" p) [a] [] pos) (uR K ta):=by
 subst hK;intro pins s σ H R I h;refine Call_ (gr I hg hm PyProof.Rows.boot_enumerate (PyProof.Rows.callWith_type1 (av (ha pos pins s σ H _ I h) λus s1 ⟨vs,H1,I1,r1,q1⟩=>?_) (by rw[hs];rfl) rfl));obtain⟨l,xs,e,hq,q⟩:=q1;subst e;obtain⟨u,rfl,rx⟩:=vals1 r1;cases rx;obtain⟨its,_,p1,_⟩:=I1.tuple hq;refine Dh (show s1.heap.IsTuple l its.toArray from p1) λh' ge gi k=>?_;refine wpAny_pyIter_enum (s:={ s1 with heap:=h' }) ge ?_;refine⟨s1.heap.objs.size+1,[s1.heap.objs.size+1,s1.heap.objs.size],_,_,H1,rfl,I1.kept (t':=s1.toks) k,y7 l (s1.heap.objs.size+1) s1.heap.objs.size (λz=>by have z':@Eq Nat _ _:=z;omega),⟨⟨_,ge⟩,gi⟩,λb hb=>?_,q⟩;have le:@LE.le Nat _ s1.heap.objs.size b:=by
  rcases E1.mp hb with rfl|hb
  ·exact Nat.le_add_right _ _
  ·cases EW.mp hb;exact E6 _
 exact I1.fpOk le (I1.hok.fresh le)
def rd_enum{a:TA}{R:It->Hp->Prop}(h:a σ H λvs H1=>nW K vs H1 R):uR K a σ H R:=h
def A7{a:Addr}{xs:List V}{R:It->Hp->Prop}(ha:ai K H a xs)(h:R (il K a) H):nW K [.ref a] H R:=⟨a,xs,rfl,ha,h⟩
def BD{a:Addr}{xs:List V}{g:TG}{tb:TS}{D:Ends}(Pv:Nat->St->Hp->Prop)(h0:Pv 0 σ H)(hl:∀i σ H,i<=xs.length->Pv i σ H->ai K H a xs)
  (hs:∀i u σ H p H',xs[i]?=some u->Pv i σ H->Ext H H'->H' p=some (.tup [.int i,u])->H p=none->g (.ref p) σ H' λσ2 H2=>tb { D with nx:=Pv (i+1),ct:=Pv (i+1),bk:=D.nx } σ2 H2) (hd:∀σ H,Pv xs.length σ H->D.nx σ H) :
  ∃W:Nat->Nat->St->Hp->Prop,(∃m,W 0 m σ H)/\∀i m σ H,W i m σ H →
   ((il K a).stop i H/\D.nx σ H)\/((il K a).go i H/\∃N:St->Hp->Prop,(∀σ' H',N σ' H'->∃m',m'<m/\W (i+1) m' σ' H')/\∀x H',(il K a).yld i H x H'->g x σ H' λσ2 H2=>tb { D with nx:=N,ct:=N,bk:=D.nx } σ2 H2):=by
 refine⟨λi m σ H=>m=xs.length-i/\i<=xs.length/\Pv i σ H,⟨xs.length,by simp,Nat.zero_le _,h0⟩,?_⟩;rintro i m σ H ⟨rfl,hi,p⟩;have qa:=hl i σ H hi p;by_cases hlt:i<xs.length
 ·refine .inr ⟨⟨xs,xs[i],qa,by simp[hlt]⟩,Pv (i+1),λσ' H' p'=>⟨xs.length-(i+1),by omega,rfl,hlt,p'⟩,λx H' y=>?_⟩;obtain⟨pp,u,rfl,hn,rfl,yu⟩:=y;exact hs i u σ H pp _ (yu.2 xs qa) p (aX hn) aE hn
 ·have e:i=xs.length:=by omega
  subst e;exact .inl ⟨⟨xs,qa,E6 _⟩,hd σ H p⟩
end
section
variable {X:Cx}
def oa(neg:Bool):R2:=λx y H Q=>∃n p xs d ds,aV H n x d/\y=.ref p/\H p=some (.lst xs)/\Paired (aV H n) xs ds/\n<=50/\Q (.bl (if neg then !(ds.any λe=>PyData.eqv e d)else ds.any λe=>PyData.eqv e d)) H
def ED{k:Nat}(hr:Room k X.A):bD X (compareOp .In) (oa false):=by intro pins s σ H x y v u Q I rx ry h;obtain⟨n,p,xs,d,ds,h1,rfl,h2,h3,hn,q⟩:=h;have h4:aV H (n+1) (.ref p) (.list ds):=.inr ⟨p,xs,ds,rfl,.inr ⟨h2,rfl⟩,h3⟩;obtain⟨as,ra⟩:=aV.reads I n h1 rx;obtain⟨bs,rb⟩:=aV.reads I (n+1) h4 ry;have l1:=aV.lay n h1;have l2:=jw (λ{x d}=>aV.lay (H:=H) n) h3;have hu:=hr.units;have hm:min (PyData.depthAll ds) d.depth<=50:=Fi (Nat.min_le_right _ _) (Fi l1.2 hn);exact SeqAt.in_list_reads rb ra l2.1 l1.1 (by omega) ⟨.bl _,H,I,rfl,q⟩
def uT{k:Nat}(hr:Room k X.A):bD X (compareOp .NotIn) (oa true):=by intro pins s σ H x y v u Q I rx ry h;obtain⟨n,p,xs,d,ds,h1,rfl,h2,h3,hn,q⟩:=h;have h4:aV H (n+1) (.ref p) (.list ds):=.inr ⟨p,xs,ds,rfl,.inr ⟨h2,rfl⟩,h3⟩;obtain⟨as,ra⟩:=aV.reads I n h1 rx;obtain⟨bs,rb⟩:=aV.reads I (n+1) h4 ry;have l1:=aV.lay n h1;have l2:=jw (λ{x d}=>aV.lay (H:=H) n) h3;have hu:=hr.units;have hm:min (PyData.depthAll ds) d.depth<=50:=Fi (Nat.min_le_right _ _) (Fi l1.2 hn);exact SeqAt.notIn_list_reads rb ra l2.1 l1.1 (by omega) ⟨.bl _,H,I,rfl,q⟩
def vc{neg:Bool}{n:Nat}{x:V}{p:Addr}{xs:List V}{d:PyData}{ds:List PyData}{H:Hp}{Q:VK}(h1:aV H n x d)(h2:H p=some (.lst xs))(h3:Paired (aV H n) xs ds)(hn:n<=50)(q:Q (.bl (if neg then !(ds.any λe=>PyData.eqv e d)else ds.any λe=>PyData.eqv e d)) H):oa neg x (.ref p) H Q:=
 ⟨n,p,xs,d,ds,h1,rfl,h2,h3,hn,q⟩
end
abbrev Row3:=Str×Tok×Value
def kN(w:World)(e:Row3):DictEntry:=⟨PyData.keyHash w.params e.1,.str e.1 e.2.1,e.2.2⟩
def iW(w:World)(l:List Row3)(ep:Nat):Obj:={ cls:=.type "dict",dict:=none,data:=.dict (l.map (kN w)).toArray ep,slots:=#[] }
structure GDict(w:World)(K:EG)(a:Addr)(kvs:List (Key×V)):Prop where
 has:∃l ep,K.lookup a=some (iW w l ep)/\KV kvs (l.map λe=>((Sum.inr e.1:Key),e.2.2))
 nd:(kvs.map (·.1)).Nodup
 sm:(a == sysModules)=false
def vy{P:Program}{w:World}:∀l:List Row3,Pairs (ck P w) (l.map (kN w)) (l.map λe=>((Sum.inr e.1:Key),e.2.2))
 | []=>.nil
 | e::l=>.cons (lH P w e.1 e.2.1) rfl (vy l)
def xR{P:Program}{w:World}(l:List Row3):KeysOf (ck P w) (l.map (kN w)).toArray:=λe he=>by
 have he':e∈l.map (kN w):=by simpa using he
 obtain⟨x,_,rfl⟩:=List.mem_map.mp he';exact⟨.inr x.1,lH P w x.1 x.2.1,rfl⟩
def GDict.at{X:Cx}{pins:List (Addr×Obj)}{σ:St}{H:Hp}{s:Shared}{a:Addr}{kvs:List (Key×V)}(D:GDict X.w X.K a kvs)(I:Inv X pins σ H s):∃vs,KV kvs vs/\s.heap.DictOf (ck X.prog X.w) a vs:=by obtain⟨l,ep,hl,r⟩:=D.has;refine⟨_,r,iW X.w l ep,_,ep,I.kIn _ _ hl,⟨rfl,rfl,rfl⟩,rfl,xR l,vy l,?_⟩;rw[←r.keys];exact D.nd
section
variable {X:Cx} {x:Str} {a:Addr} {kvs:List (Key×V)} {i:Expr} {ty:TE} {p pos:Pos}
def rT(kvs:List (Key×V))(ty:TE):TE:=λσ H Q=>ty σ H λy H1=>∃k v,y=kV k/\aW kvs k=some v/\Q v H1
def wX(neg:Bool)(kvs:List (Key×V))(ty:TE):TE:=λσ H Q=>ty σ H λy H1=>∃k,y=kV k/\Q (.bl (if neg then !(aW kvs k).isSome else(aW kvs k).isSome)) H1
def BJ(hg:Gl X x)(hm:X.mg x=some (.ref a))(D:GDict X.w X.K a kvs)(hi:PE X i ty)(hs:lE i)(hd:(x == ("__debug__":Str))=false:=by decide):PE X (.Subscript (.Name x p) i pos) (rT kvs ty):=by intro pins s σ H Q I h;refine qz PySem.F.slot_dict_getitem.lookup hs (jJ I hg hm (av (hi pins s σ H _ I h) λiv s2 ⟨y,H2,I2,ry,k,v,ey,hv,q⟩=>?_) hd);subst ey;obtain⟨vs,rel,dd⟩:=D.at I2;obtain⟨w',hw,rw'⟩:=eO.some_of (v:=v) (o:=valueAt vs k) (by rw[←hv];exact rel.val k);exact⟨dd.typeIs,wpAny_getItem_of (gn ry) dd.mapOf hw ⟨v,H2,I2.tok _,rw',q⟩⟩
def Be(hg:Gl X x)(hm:X.mg x=some (.ref a))(D:GDict X.w X.K a kvs)(hi:PE X i ty)(hd:(x == ("__debug__":Str))=false:=by decide):PC X .In i (.Name x p) (wX false kvs ty):=by intro pins s σ H Q I h;refine av (hi pins s σ H _ I h) λiv s1 ⟨y,H1,I1,ry,k,ey,q⟩=>jJ I1 hg hm ?_ hd;subst ey;obtain⟨vs,rel,dd⟩:=D.at I1;refine wpAny_in_of (gn ry) D.sm dd.mapOf ?_;rw[←(rel.val k).isSome_eq];exact⟨.bl (aW kvs k).isSome,H1,I1.tok _,rfl,q⟩
def rd_gget{σ:St}{H:Hp}{Q:VK}(h:ty σ H λy H1=>∃k v,y=kV k/\aW kvs k=some v/\Q v H1):rT kvs ty σ H Q:=h
def rd_gin{neg:Bool}{σ:St}{H:Hp}{Q:VK}(h:ty σ H λy H1=>∃k,y=kV k/\Q (.bl (if neg then !(aW kvs k).isSome else(aW kvs k).isSome)) H1):wX neg kvs ty σ H Q:=h
def Ac{R:V->Prop}{z:Str}{v:V}(hv:aW kvs (.inr z)=some v)(h:R v):∃k v,V.str z=kV k/\aW kvs k=some v/\R v:=⟨.inr z,v,rfl,hv,h⟩
def tK:R2:=λx y H Q=>∃a b,x=.str a/\y=.str b/\Q (.bl (!decide (b.cps.toList<a.cps.toList))) H
def ur:bD X (compareOp .LtE) tK:=by intro pins s σ H x y v u Q I rx ry h;obtain⟨a,b,rfl,rfl,q⟩:=h;obtain⟨t,rfl⟩:=rx;obtain⟨t',rfl⟩:=ry;exact PySem.P.le_str ⟨.bl _,H,I,rfl,q⟩
def rd_leS{a b:Str}{H:Hp}{Q:VK}(h:Q (.bl (!decide (b.cps.toList<a.cps.toList))) H):tK (.str a) (.str b) H Q:=⟨a,b,rfl,rfl,h⟩
def mC{α β:Type}{f g:α->Option β}:∀{l:List α},(∀x∈l,f x=g x)->l.filterMap f=l.filterMap g
 | [],_=>rfl
 | x::l,h=>by rw[List.filterMap_cons,List.filterMap_cons,h x ES,mC λy hy=>h y (EN _ hy)]
def zx(n:Nat)(xs:List Value)(h:xs.length=n):(FE n).filterMap (λi:Nat=>xs[((n:Int)-1+(i:Int)*(-1)).toNat]?)=xs.reverse:=by
 refine List.ext_getElem? λi=>?_;have e:(FE n).filterMap (λi:Nat=>xs[((n:Int)-1+(i:Int)*(-1)).toNat]?)=(FE n).map (λi:Nat=>xs.reverse.getD i .none):=by
  rw[←List.filterMap_eq_map];refine mC λi hi=>?_;have hi:=List.mem_range.mp hi;have:((n:Int)-1+(i:Int)*(-1)).toNat=n-1-i:=by omega
  rw[this,Function.comp_apply,List.getD_eq_getElem?_getD,List.getElem?_reverse (by omega),h,EL (show n-1-i<xs.length by omega)];rfl
 rw[e,EM];by_cases hi:i<n
 ·rw[EL (by simpa using hi),EL (by simpa[h]using hi)];simp[List.getD_eq_getElem?_getD,h,hi]
 ·rw[List.getElem?_eq_none (by simpa using hi),List.getElem?_eq_none (by simpa[h]using hi)];rfl
def Af(its:List Value):slicePick its.toArray none none (some (-1))=its.reverse.toArray:=by
 unfold slicePick;have e:sliceBounds none none (some (-1)) its.toArray.size=((its.length:Int)-1,-1,-1):=by unfold sliceBounds;simp
 rw[e];refine congrArg List.toArray ?_;rw[←zx its.length its rfl];unfold sliceRange;simp only;rw[FH (by decide),List.filterMap_map];have el:(if(its.length:Int)-1 > -1 then((its.length:Int)-1 - -1 - -1-1) / - -1 else 0).toNat=its.length:=by rw[show (- -1:Int)=1 by decide,Int.ediv_one];split<;>omega
 rw[el];refine mC λi hi=>?_;rw[Function.comp_apply,show (its.length:Int)-1 + -1*(i:Int)=(its.length:Int)-1+(i:Int) * -1 by omega];simp
def Vals.rev{xs:List V}{us:List Value}(r:Vals xs us):Vals xs.reverse us.reverse:=by
 induction r with
 | nil=>exact .nil
 | cons h t ih=>
  rw[List.reverse_cons,List.reverse_cons];exact Vals.append ih (.cons h .nil)
def lM(K:EG):V->Hp->VK->Prop:=λx H Q=>∃a xs,x=.ref a/\ag K H a xs/\fC H (.lst xs.reverse) Q
def sY(K:EG)(te:TE)(ts:TO):TE:=λσ H Q=>te σ H λx H1=>ts σ H1 λk H2=>k=some (-1)/\lM K x H2 Q
def Bw{e st:Expr}{te:TE}{ts:TO}{p2:Pos}(K:EG)(he:PE X e te)(hs:PO X (some st) ts)(hK:X.K=K:=by rfl):PE X (.Subscript e (.Slice none none (some st) p2) pos) (sY K te ts):=by
 subst hK;intro pins s σ H Q I h;refine Subscript_ (av (he pins s σ H _ I h) λv s1 ⟨x,H1,I1,r1,q1⟩=>?_);refine wpAny_Slice ?_;rw[evalPart_none];refine EF (EF ?_);refine av (hs pins s1 σ H1 _ I1 q1) λvs s2 ⟨k,H2,I2,pk,q2⟩=>?_;obtain⟨rfl,a,xs,rfl,hx,q⟩:=q2;cases pk with
 | int i tk=>
 cases r1;have I3:Inv X pins σ H2 { s2 with heap:=s2.heap.push { cls:=.type "slice",data:=.fields #[.none,.none,.int (-1) tk] } }:=I2.kept (t':=s2.toks) λb ob q=>EH _ q;obtain⟨its,r,ht,hz⟩:=I3.list hx;have hlen:=r.length;show wpAny (model X.prog X.w) X.A (subscriptTail e (.Slice none none (some st) p2) (.ref a) (.ref s2.heap.objs.size)) (EP X pins σ Q) X.xe { s2 with heap:=s2.heap.push { cls:=.type "slice",data:=.fields #[.none,.none,.int (-1) tk] } };refine tail_any (ops:=[.ref a,.ref s2.heap.objs.size]) ht.isList.typeIs slot_list_getitem.lookup (wpAny_getItem_list_slice ht.isList (Heap.IsSliceOf.new ..) .none .none (.int (-1) tk) (by decide) ?_ (by rw[ER];omega)) (by with_unfolding_all rfl);rw[Af];exact⟨.ref _,_,I3.laid (t':=s2.toks) (o:=.lst xs.reverse) (λb ob e=>EH _ e) (E6 _) ⟨by rw[List.length_reverse];exact hz,_,0,r.rev,EI _ rfl⟩,rfl,q _ (I3.hok.fresh (E6 _))⟩
def rd_revL{K:EG}{te:TE}{ts:TO}{σ:St}{H:Hp}{Q:VK}(h:te σ H λx H1=>ts σ H1 λk H2=>k=some (-1)/\lM K x H2 Q):sY K te ts σ H Q:=h
def DM{K:EG}{H:Hp}{Q:VK}{a:Addr}{xs:List V}(e:ag K H a xs)(h:fC H (.lst xs.reverse) Q):lM K (.ref a) H Q:=⟨a,xs,rfl,e,h⟩
def rd_disp{trs:List (TE×TE)}{σ:St}{H:Hp}{Q:VK}(h:∀p,H p=none->kM trs σ (upd H p (.dK [])) λps H2=>H2 p=some (.dK [])/\∃kvs:List (Key×V),ps=kvs.map (λkv=>(kV kv.1,kv.2))/\kvs.length<=15/\Q (.ref p) (upd H2 p (.dK (fR [] kvs)))):wK trs σ H Q:=h
def rd_dget{td:TE}{σ:St}{H:Hp}{Q:VK}(h:td σ H λx H1=>ty σ H1 λy H2=>∃a v,x=.ref a/\bY H2 a y (some v)/\Q v H2):uA td ty σ H Q:=h
end
section
variable {prog:Program} {w:World} {A:Around} {E:Value->Shared->Prop} {s:Shared} {r d:Addr}
end
section
variable {X:Cx}
def qO(tk tv:TE):TE:=λσ H Q=>∀p,H p=none->tk σ (upd H p (.dT [])) λx H1=>tv σ H1 λv H2=>∃b k,x=.ref b/\H2 b=some (.tup (List.map kV k))/\H2 p=some (.dT [])/\Q (.ref p) (upd H2 p (.dT [(k,v)]))
def nv{ek ev:Expr}{tk tv:TE}{pos:Pos}(hu:X.A.units+1<cLine)(hk:PE X ek tk)(hv:PE X ev tv):PE X (.Dict [some ek] [ev] pos) (qO tk tv):=by
 intro pins s σ H Q I q;have hn:=I.hok.fresh (E6 s.heap.objs.size);have I1:=I.laid (a:=s.heap.objs.size) (o:=.dT []) (h':=s.heap.push { cls:=.type "dict",data:=.dict #[] }) (t':=s.toks) (λ_ _ q=>EH _ q) (E6 _) (vn s.heap I.big);refine wpAny_Dict_any rfl rfl (by simp) (by simp) ?_;refine pairTrees_cons_walk (av (hk pins _ σ _ _ I1 (q _ hn)) λu s1 ⟨x,H1,I1,rx,q1⟩=>av (hv pins s1 σ H1 _ I1 q1) λw2 s2 ⟨v,H2,I2,ry,q2⟩=>pairTrees_nil_walk ?_);obtain⟨b,k,rfl,hb,e,q3⟩:=q2;cases(show u=Value.ref b from rx);obtain⟨z,hd,xs,rel,dd⟩:=xm I2.hok e;have hz:xs.length<=sizeLine:=by rw[←Paired.length rel];exact Nat.zero_le _
 unfold storeAll;rw[List.forIn_cons];refine EE (EE (wpAny_dictSet_heap (hsz:=hz) (show(tupleKind (ck X.prog X.w)).room X.A from Nat.lt_of_succ_lt hu) (jb I2.hok hb) dd λh' dd' hs=>EF ?_));dsimp only;rw[List.forIn_nil];refine EF ⟨.ref s.heap.objs.size,_,?_,rfl,q3⟩;obtain⟨q,es,ep,hq,h2,h3,h4,_,h5⟩:=dd';refine jY I2 (by rw[e];exact True.intro) hs ⟨q,hq⟩ ⟨by rw[sizeLine_eq];simp,hd,_,(rel.put k hb ry).keeps λc ys ec=>?_,q,es,ep,hq,h2,h3,h4,h5⟩;rw[ay (bO ec e (λz=>nomatch z))];exact ec
def rd_disp1{tk tv:TE}{σ:St}{H:Hp}{Q:VK}(h:∀p,H p=none->tk σ (upd H p (.dT [])) λx H1=>tv σ H1 λv H2=>∃b k,x=.ref b/\H2 b=some (.tup (List.map kV k))/\H2 p=some (.dT [])/\Q (.ref p) (upd H2 p (.dT [(k,v)]))):qO tk tv σ H Q:=h
def rd_din{ty td:TE}{σ:St}{H:Hp}{Q:VK}(h:ty σ H λy H1=>td σ H1 λx H2=>∃a o,x=.ref a/\bY H2 a y o/\Q (.bl o.isSome) H2):qH ty td σ H Q:=h
def rd_dnin{ty td:TE}{σ:St}{H:Hp}{Q:VK}(h:ty σ H λy H1=>td σ H1 λx H2=>∃a o,x=.ref a/\bY H2 a y o/\Q (.bl (!o.isSome)) H2):tZ ty td σ H Q:=h
def rd_dput{td ty tv:TE}{D:Ends}{σ:St}{H:Hp}(h:tv σ H λv H1=>td σ H1 λx H2=>ty σ H2 λy H3=>∃a H4,x=.ref a/\fF H3 a y v H4/\D.nx σ H4):xx td ty tv D σ H:=h
def LitE.pe{e:Expr}{te:TE}(h:LitE e te):PE X e te:=
 LitE.rec (motive_1:=λe te _=>PE X e te) (motive_2:=λes ta _=>PA X es ta) BE bX af aR (λ_ ih=>bj ih) ae (λh _ ih1 ih2=>aa ih1 ih2 (h.star _ _)) h
end
section
variable {X:Cx} {tg:Expr}
end
section
variable {prog:Program} {w:World} {A:Around} {E:Value->Shared->Prop} {s:Shared}
end
section
variable {X:Cx} {tg:Expr}
end
section
variable {X:Cx}
def yq(K:EG){o:Expr}{to:TE}{name:Str}{apos cpos:Pos}{T id:String}{r:V->List V->Hp->VK->Prop}(pa:PlainAttrs T)(slot:Slot T name id)(hty:typeOf (.builtin id)=pure (.type "method_descriptor"))(hm:jk X id r)(ho:PE X o to)(h:X.K=K:=by rfl)
  (hbase:attributeBase o name X.env (eval o X.env)=eval o X.env:=by rfl) (hline:(apos.endLine == cpos.line)=true:=by rfl):PE X (.Call (.Attribute o name apos) [] [] cpos) (lX K T r to):=by
 subst h;exact zL pa slot hty hm ho hbase hline
end
def rd_bm0{K:EG}{T:String}{r:V->List V->Hp->VK->Prop}{to:TE}{σ:St}{H:Hp}{Q:VK}(h:to σ H λx H1=>gJ K T x H1/\r x [] H1 Q):lX K T r to σ H Q:=h
def DF(K:EG):List V->Hp->VK->Prop:=λxs H Q=>∃(p:Addr) (bs:List Bool),xs=[.ref p]/\ag K H p (bs.map V.bl)/\Q (.bl (bs.any id)) H
def any_range(bs:List Bool):((FE bs.length).any λi=>bs.getD i false)=bs.any id:=by
 rw[Fn,Fm,Fm];constructor
 ·rintro⟨i,hi,h⟩;have hi':=List.mem_range.mp hi;rw[List.getD_eq_getElem?_getD,EL hi']at h;exact⟨_,Fd hi',h⟩
 ·rintro⟨b,hb,h⟩;obtain⟨i,hi,e⟩:=List.mem_iff_getElem.mp hb;refine⟨i,List.mem_range.mpr hi,?_⟩;rw[List.getD_eq_getElem?_getD,EL hi,e];exact h
def Dw{X:Cx}(K:EG)(hc:X.calm=true)(hK:X.K=K:=by rfl):cQ X (.builtin "any") (DF K):=by
 subst hK;intro pins s σ H xs us Q I r h;obtain⟨p,bs,rfl,hq,q⟩:=h;obtain⟨u,rfl,rx⟩:=vals1 r;cases rx;obtain⟨its,rv,pl,hz⟩:=I.list hq;have eb:=mW rv;have hne:p≠s.heap.objs.size:=E5 (by obtain⟨o,n,e,_⟩:=pl;exact EJ e);refine call_any_walk (wpAny_pyIter_list pl.isList ?_);have I1:Inv X pins σ H { s with heap:=s.heap.push { cls:=.type "list_iterator",data:=.fields #[.ref p,.int 0 0] } }:=I.kept (t':=s.toks) λb o e=>EH _ e;have hf:=I.fpOk (H':=H) (E6 s.heap.objs.size) I.fresh;refine⟨s.heap.objs.size,_,_,_,_,_,(λi=>bs.getD i false),rfl,Walks.list (A:=X.A.in1) (I.ok.hd hc) _ p hne its.toArray,⟨⟨_,EI _ rfl,rfl,rfl⟩,?_⟩,?_,λh' tk hk=>?_⟩
 ·exact pl.isList.push _
 ·intro i v s' Q' E' hv hQ;rw[eb]at hv;have hv':(bs.map Value.bool)[i]?=some v:=by simpa using hv
  rw[EM]at hv';cases eg:bs[i]? with
  | none=>rw[eg]at hv';cases hv'
  | some b=>
   rw[eg]at hv';cases hv';have eb':bs.getD i false=b:=by rw[List.getD_eq_getElem?_getD,eg];rfl
   have hQ':Q' (bs.getD i false) s':=hQ;rw[eb']at hQ';exact wpAny_truthy_bool hQ'
 ·obtain⟨f0,f1,f2,f3,f4,f5⟩:=hf;have hl:=rv.length;rw[EK]at hl;refine⟨.bl (bs.any id),H,I1.turned (it:=s.heap.objs.size) (λb o hb e=>hk b o (by simpa using hb) e) f0 f1 f3 f4 f5,?_,q⟩;show Value.bool _=Value.bool _;rw[ER,←hl,any_range]
section
variable {X:Cx}
end
section
variable {P:Program} {w:World} {K:EG} {mg:Str->Option Value} {base:Heap}
end
section
variable {X:Cx}
end
abbrev di(w:World):Bool:=!w.params.followText "set-order"
def yF(t:SetTable)(es:Array (Int×Value))(h:Int)(x:Value):(layNew t es h x).2.1.led=t.led:=by
 unfold layNew;split
 ·show((t.put _).1.orStandIn _).led=t.led;unfold SetTable.orStandIn;split<;>rfl
 ·rfl
def B1{mask finger moves:Nat}{led plain:Bool}{hs:Array Int}{t:SetTable}{o:Array Nat}(h:SetTable.laid mask finger moves led plain hs=some (t,o)):t.led=led/\t.plain=plain:=by
 unfold SetTable.laid at h;cases e:SetTable.layClean mask hs with
 | none=>rw[e]at h;cases h
 | some ow=>
  rw[e]at h;cases h;exact⟨rfl,rfl⟩
def CB(t:SetTable)(es:Array (Int×Value))(n:Nat):(relayAll t es n).2.1.led=t.led/\(t.plain=false->(relayAll t es n).2.1.plain=false):=by
 unfold relayAll;split
 ·rename_i t' o e;have:=B1 e;dsimp only;split
  ·exact⟨this.1,λh=>this.2.trans h⟩
  ·exact⟨rfl,λ_=>rfl⟩
 ·exact⟨rfl,λ_=>rfl⟩
section
variable {P:Program} {w:World} {A:Around} {E:Value->Shared->Prop} {s:Shared}
def Cd(a:Value){Q₁:Value->Shared->Prop}(h:Q₁ (.ref s.heap.objs.size) { s with heap:=s.heap.push (cw (di w)) }):
  codeAny (model P w) A (.call (.builtin "set.__new__") ⟨[.type "set",a],[]⟩) (wants Q₁ E) s:=by
 refine codeAny_of_tree ?_;show wpAny _ A.in1 (do checkBuiltinCall "set.__new__" ⟨[.type "set",a],[]⟩;again (.builtin "set.__new__" ⟨[.type "set",a],[]⟩)) _ _ s;refine EE (wpAny_of_eq (F.newCall_set_1 a) (EF ⟨plainId_quiet F.plain_set_new _,codeAny_builtin F.entry_set_new ?_⟩));rw[Around.under_plainId F.plain_set_new _];unfold Builtin.«set.__new__» Builtin.Frozenset.newClass;have hsub:=sub_set_self;obtain⟨hp,g,d,tk,os⟩:=s;dsimp only
 wp_walk
 refine wpAny_askSetting (EF ?_);dsimp only;simp only[newObj];refine EE (wpAny_alloc (EF ?_));exact EF h
end
section
variable {X:Cx} {pins:List (Addr×Obj)} {σ:St} {H:Hp} {s:Shared}
end
section
variable {X:Cx}
end
section
variable {P:Program} {w:World} {A:Around} {E:Value->Shared->Prop} {s:Shared}
end
section
variable {X:Cx}
end
section
variable {X:Cx} {pins:List (Addr×Obj)} {σ:St} {H:Hp} {s:Shared}
end
section
variable {X:Cx}
end
section
variable {X:Cx} {x:Addr} {oe:Obj}
end
section
variable {prog:Program} {w:World} {A:Around} {E:Value->Shared->Prop} {s:Shared} {dd:Option Addr}
end
section
variable {X:Cx} {x:Addr} {oe:Obj}
end
section
variable {X:Cx}
end
section
variable {prog:Program} {w:World} {A:Around} {E:Value->Shared->Prop} {K:EG} {x D:Addr} {ox:Obj} {h:Heap} {g:Array GenState} {dr:Drawn} {t:Nat} {os:OsState}
variable {nm q:Str} {N:Addr} {bs bm bmB:List Value} {sn:List Str} {sub:List Value} {ab:Bool} {col:Option Bool} {dd:Option Addr} {k0 k1 k2 k3 k5:Option Value} {newId:String} {name:Str} {v:Value}
end
section
variable {prog:Program} {w:World} {A:Around} {E:Value->Shared->Prop} {h:Heap} {g:Array GenState} {d:Drawn} {t:Nat} {os:OsState}
variable {nm q:Str} {C N:Addr} {bs bm bmB:List Value} {hdct:Bool} {sn:List Str} {sub:List Value} {ab:Bool} {col:Option Bool} {dd:Option Addr} {k0 k1 k2 k3 k5:Option Value} {B newId initId:String} {K:EG}
end
section
variable {P:Program} {w:World} {A:Around} {E:Value->Shared->Prop} {K:EG} {s:Shared} {e C:Addr} {oe:Obj} {v:Value}
end
section
variable {M:Model} {A:Around} {E:Value->Shared->Prop} {env:Env} {nm q:Str} {C N:Addr} {bs bm bmB:List Value} {hdct:Bool} {sn:List Str} {sub:List Value} {ab:Bool} {col:Option Bool} {dd:Option Addr} {k0 k1 k2 k3 k5:Option Value} {newId:String}
end
section
variable {prog:Program} {w:World} {A:Around} {E:Value->Shared->Prop} {s:Shared} {env:Env} {K:EG} {nm q:Str} {C N:Addr} {bs bm bmB:List Value} {hdct:Bool} {sn:List Str} {sub:List Value} {ab:Bool} {col:Option Bool} {dd:Option Addr} {k0 k1 k2 k3 k5:Option Value} {B newId initId:String}
end
section
variable {P:Program} {w:World} {K:EG} {mg:Str->Option Value} {base:Heap} {N:List Str} {qual:Str} {scope:Scope} {f:Addr} {cd:Value} {A:Around} {outer:List Env} {s₀:Shared} {H₀:Hp} {E:XK}
end
section
variable {P:Program} {w:World} {K:EG} {mg:Str->Option Value} {base:Heap}
end
section
variable {Y:Cx} {x:Addr} {oe:Obj}
end
section
variable {prog:Program} {w:World} {A:Around} {E:Value->Shared->Prop} {K:EG} {x D:Addr} {ox:Obj} {od:Option Obj} {name:Str} {v:Value}
end
section
variable {X:Cx} {x D:Addr} {oe:Obj} {da:Option Addr}
end
section
variable {P:Program} {w:World} {A:Around} {E:Value->Shared->Prop} {s:Shared}
def qg(k:Int)(tk:Tok):(PySem.intKind P w).is k (.int k tk)=true:=by show Value.isInt k (.int k tk)=true;simp[Value.isInt]
end
def r6:∀{vs:List Value} {zs:List Int},IntsAre vs zs->∀(i:Nat) (v:Value),vs[i]?=some v->∃z t,v=.int z t/\zs[i]?=some z
 | _,_,.nil,i,v,h=>by simp at h
 | _,_,.cons z t _,0,v,h=>by cases h;exact⟨z,t,rfl,rfl⟩
 | _,_,.cons z t r,i+1,v,h=>r6 r i v h
def BV{D ds:List Int}(hd:D.Nodup)(hs:∀k∈D,k∈ds)(hl:ds.length=D.length):ds.Perm D:=by
 induction D generalizing ds with
 | nil=>
  rw[List.length_nil,List.length_eq_zero_iff]at hl;subst hl;exact .refl _
 | cons d D ih=>
  have hm:=hs d ES;have p1:=List.perm_cons_erase hm;have hd':=List.nodup_cons.mp hd;refine p1.trans ((ih hd'.2 (λk hk=>?_) ?_).cons d)
  ·refine(List.mem_erase_of_ne ?_).mpr (hs k (EN _ hk));rintro rfl;exact hd'.1 hk
  ·rw[List.length_erase_of_mem hm,hl];rfl
section
variable {P:Program} {w:World} {A:Around} {E:Value->Shared->Prop} {s:Shared}
def xB:∀{l:List (Int×Value)},ElemsOf (PySem.intKind P w) l->∃ds,IntsAre (l.map (·.2)) ds/\∀e∈l,∀k,(PySem.intKind P w).is k e.2=true->k∈ds
 | [],_=>⟨[],.nil,λe he=>by cases he⟩
 | e::l,h=>by
  obtain⟨ds,h1,h2⟩:=xB (l:=l) λx hx=>h x (EN _ hx);obtain⟨⟨k,hk,_⟩,_⟩:=h e ES;obtain⟨t,ht⟩:=Value.isInt_shape (k:=k) hk;refine⟨k::ds,?_,λx hx k' hk'=>?_⟩
  ·rw[List.map_cons,ht];exact .cons k t h1
  ·rcases E1.mp hx with rfl|hx
   ·rw[ht]at hk';obtain⟨u,hu⟩:=Value.isInt_shape (k:=k') (v:=.int k t) hk';cases hu;exact ES
   ·exact EN _ (h2 x hx k' hk')
end
def uQ:∀{us:List Value} {zs:List Int},IntsAre us zs->Vals (zs.map V.int) us
 | _,_,.nil=>.nil
 | _,_,.cons z t r=>.cons ⟨t,rfl⟩ (uQ r)
section
variable {X:Cx}
end
section
variable {prog:Program} {w:World} {A:Around} {E:Value->Shared->Prop} {s:Shared}
end
section
variable {X:Cx}
end
def ia{x:Str}{c:Addr}:∀(names:List (Str×NameKind)) (n:Nat) (acc:List (Str×Addr)),(cellsFrom n names acc).lookup x=some c->acc.lookup x=some c\/(n<=c/\(x,NameKind.cell)∈names)
 | [],_,_,h=>.inl h
 | (y,k)::r,n,acc,h=>by
  unfold cellsFrom at h;by_cases hk:(k == NameKind.cell)=true
  ·rw[FI hk]at h;have hk':k=.cell:=by simpa using hk
   subst hk';rcases ia r (n+1) ((y,n)::acc) h with h|⟨h1,h2⟩
   ·rw[Fz]at h;cases hb:x == y with
    | true=>
     rw[hb]at h;cases h;rw[beq_iff_eq.mp hb];exact .inr ⟨E6 _,ES⟩
    | false=>rw[hb]at h;exact .inl h
   ·exact .inr ⟨Nat.le_of_succ_le h1,EN _ h2⟩
  ·rw[FH hk]at h;rcases ia r n acc h with h|⟨h1,h2⟩
   ·exact .inl h
   ·exact .inr ⟨h1,EN _ h2⟩
def kK{x y:Str}{c:Addr}:∀(names:List (Str×NameKind)) (n:Nat) (acc:List (Str×Addr)),(∀x c,acc.lookup x=some c->@LT.lt Nat _ c n)->(∀x y c,acc.lookup x=some c->acc.lookup y=some c->x=y)->(cellsFrom n names acc).lookup x=some c->(cellsFrom n names acc).lookup y=some c->x=y
 | [],_,_,_,hi,h1,h2=>hi _ _ _ h1 h2
 | (z,k)::r,n,acc,hb,hi,h1,h2=>by
  unfold cellsFrom at h1 h2;by_cases hk:(k == NameKind.cell)=true
  ·rw[FI hk]at h1 h2;refine kK r (n+1) ((z,n)::acc) (λx c h=>?_) (λx y c h1 h2=>?_) h1 h2
   ·rw[Fz]at h;cases e:x == z with
    | true=>rw[e]at h;cases h;exact Nat.lt_succ_self _
    | false=>rw[e]at h;exact Nat.lt_succ_of_lt (hb x c h)
   ·rw[Fz]at h1 h2;cases e1:x == z with
    | true=>
     rw[e1]at h1;cases h1;cases e2:y == z with
     | true=>rw[beq_iff_eq.mp e1,beq_iff_eq.mp e2]
     | false=>rw[e2]at h2;exact absurd (hb _ _ h2) (Nat.lt_irrefl _)
    | false=>
     rw[e1]at h1;cases e2:y == z with
     | true=>rw[e2]at h2;cases h2;exact absurd (hb _ _ h1) (Nat.lt_irrefl _)
     | false=>rw[e2]at h2;exact hi _ _ _ h1 h2
  ·rw[FH hk]at h1 h2;exact kK r n acc hb hi h1 h2
def ly{x:Str}{c:Addr}:∀(names:List (Str×NameKind)) (h:Heap) (acc:List (Str×Addr)),(cellsFrom h.objs.size names acc).lookup x=some c->acc.lookup x=some c\/(pushCells h names).IsCell c none
 | [],_,_,e=>.inl e
 | (y,k)::r,h,acc,e=>by
  unfold cellsFrom at e;unfold pushCells;by_cases hk:(k == NameKind.cell)=true
  ·rw[FI hk]at e ⊢;rw[←Heap.size_push h { cls:=.type "cell",data:=.cell none }]at e;rcases ly r (h.push { cls:=.type "cell",data:=.cell none }) ((y,h.objs.size)::acc) e with e|e
   ·rw[Fz]at e;cases hb:x == y with
    | true=>
     rw[hb]at e;cases e;exact .inr ⟨_,pushCells_keeps _ _ _ _ (EI _ rfl),rfl⟩
    | false=>rw[hb]at e;exact .inl e
   ·exact .inr e
  ·rw[FH hk]at e ⊢;exact ly r h acc e
section
variable {M:Model} {A:Around} {E:Value->Shared->Prop} {s:Shared}
def BO{scope:Scope}{globals:Addr}{closure:List (Str×Addr)}{qual:Str}{func:Option Addr}{code:Value}{outer:Env}{builtins:Addr}{Q:Env->Shared->Prop}
  (hQ:Q (newEnv scope s.heap.objs.size globals (cellsFrom (s.heap.objs.size+1) scope.names closure) qual func code (some outer) builtins) { s with heap:=pushCells (s.heap.push { cls:=.type "dict",data:=.dict #[] }) scope.names }) :
  wpAny M A (newFunctionEnv scope globals closure [] qual func code (some outer) builtins) Q E s:=by
 simp only[newFunctionEnv,Option.isSome_some,if_true];refine EE (wpAny_alloc ?_);refine EE (wpAny_layCells _ (λname kind cells=>by cases hkc:kind == NameKind.cell<;>simp[hkc]) _ _ _ _ ?_);rw[show ({ s with heap:=s.heap.push { cls:=.type "dict",data:=.dict #[] } }:Shared).heap.objs.size=s.heap.objs.size+1 from Heap.size_push ..];refine EE ?_;rw[List.forIn_nil];exact EF (EF hQ)
end
def ig(X:Cx)(sc:Scope)(C:Addr):List (Str×Addr):=cellsFrom (Nat.succ C) sc.names (de sc.names X.env.cells)
def cI(X:Cx)(sc:Scope)(own:List Str)(js:List Nat)(z:Blk):Cx where
 prog:=X.prog
 w:=X.w
 K:=X.K
 mg:=X.mg
 base:=X.base
 A:=X.A
 N:=own++js.map λj=>X.N.getD j ""
 s₀:=z.s
 H₀:=z.H
 env:=compEnvC sc (ig X sc z.C) z.C X.env
 outer:=X.stack
 stack:=X.stack
 ex:=z.fp
 fn:=λx=>sc.names.lookup x == some .cell
 calm:=X.calm
 pn:=[]
 xe:=λ_ _=>False
def ef(sc out:Scope):Bool:=sc.names.all λp=>(p.2 != .cell || sc.names.lookup p.1 == some .cell) && (p.2 != .local || sc.names.lookup p.1 == some .local) && (p.2 != .free || out.names.lookup p.1 == some .cell || out.names.lookup p.1 == some .free) && (p.2 != .free || sc.names.lookup p.1 == some .free)
def j6{sc out:Scope}(h:ef sc out=true){p:Str×NameKind}(hp:p∈sc.names)(hf:p.2=.free):out.names.lookup p.1=some .cell\/out.names.lookup p.1=some .free:=by have:=Fl.mp h p hp;simp[hf]at this;exact this.1
def BP{sc out:Scope}(h:ef sc out=true){x:Str}(hp:(x,NameKind.free)∈sc.names)(h2:sc.names.lookup x=some .cell):False:=by have:=Fl.mp h _ hp;simp[h2]at this
def A4{sc out:Scope}(h:ef sc out=true){p:Str×NameKind}(hp:p∈sc.names)(hf:p.2=.cell):sc.names.lookup p.1=some .cell:=by have:=Fl.mp h p hp;simp[hf]at this;exact this
def vS{sc out:Scope}(h:ef sc out=true){p:Str×NameKind}(hp:p∈sc.names)(hf:p.2=.local):sc.names.lookup p.1=some .local:=by have:=Fl.mp h p hp;simp[hf]at this;exact this
section
variable {X:Cx} {pins:List (Addr×Obj)} {σ:St} {H:Hp} {s:Shared}
def jN(ok:X.Ok){sc:Scope}(hb:ef sc X.env.scope=true){x:Str}{c:Addr}(h:(de sc.names X.env.cells).lookup x=some c):X.env.cells.lookup x=some c:=by
 rcases kz X.env.cells sc.names [] x c h with⟨h1,h2⟩|h1
 ·obtain⟨d,hd⟩:=ok.has x (j6 hb h1 rfl);rw[hd]at h2 ⊢;rw[h2];rfl
 ·simp at h1
def iR(ok:X.Ok){sc:Scope}(hb:ef sc X.env.scope=true){C:Addr}{x:Str}{c:Addr}(h:(ig X sc C).lookup x=some c):X.env.cells.lookup x=some c\/(@LT.lt Nat _ C c/\sc.names.lookup x=some .cell):=by
 rcases ia _ _ _ h with h|⟨h1,h2⟩
 ·exact .inl (jN ok hb h)
 ·exact .inr ⟨h1,A4 hb h2 rfl⟩
def mN{sc:Scope}{x:Str}{C:Addr}(h:(x,NameKind.free)∈sc.names):∃c,(ig X sc C).lookup x=some c:=by obtain⟨c,hc⟩:=sq (cells:=X.env.cells) h;exact Option.isSome_iff_exists.mp (PySem.W.cellsFrom_some sc.names _ _ (.inr (by rw[hc];rfl)))
def DK(I:Inv X pins σ H s){sc:Scope}(hb:ef sc X.env.scope=true){x:Str}{c:Addr}(h:(de sc.names X.env.cells).lookup x=some c):@LT.lt Nat _ c s.heap.objs.size:=I.cell_lt (jN I.ok hb h)
def A6(I:Inv X pins σ H s){sc:Scope}{own:List Str}{js:List Nat}{fp:List Addr}{C:Nat}(hk:sc.kind=.function)(hb:ef sc X.env.scope=true)
  (hfp:∀b∈fp,cc X pins H b) (hC:s.heap.objs.size<=C) (hlt:∀b∈fp,b<s.heap.objs.size):(cI X sc own js ⟨s,H,fp,C⟩).Ok where
 mod:=I.ok.mod
 kind:=hk
 glob:=I.ok.glob
 blt:=I.ok.blt
 above:=hC
 inj:=λx y c h1 h2=>kK sc.names _ _ (λx c e=>Nat.lt_succ_of_le (Fi (Nat.le_of_lt (DK I hb e)) hC)) (λx y c e1 e2=>I.ok.inj x y c (jN I.ok hb e1) (jN I.ok hb e2)) h1 h2
 has:=λx hx=>by
  have hx':(relabel sc X.env).names.lookup x=some .cell\/(relabel sc X.env).names.lookup x=some .free:=hx;have go:∀k,(relabel sc X.env).names.lookup x=some k->(k=.cell\/k=.free)->∃c,(ig X sc C).lookup x=some c:=λk h hkk=>by
   obtain⟨k',h1,h2⟩:=ko (sc:=sc) (env:=X.env) h;have m:=iO h1;rcases h2 with h2|⟨h2,_⟩
   ·subst h2;rcases hkk with e|e
    ·rw[e]at h1;exact Option.isSome_iff_exists.mp (PySem.W.cellsFrom_some sc.names _ _ (.inl h1))
    ·rw[e]at m;exact mN m
   ·rw[h2]at m;exact mN m
  rcases hx' with h|h
  ·exact go _ h (.inl rfl)
  ·exact go _ h (.inr rfl)
 cab:=λx c h e=>by
  have hx:sc.names.lookup x=some .cell:=by simpa[cI]using h
  have e':(ig X sc C).lookup x=some c:=e;rcases ia _ _ _ e' with e1|⟨e1,_⟩
  ·rcases kz X.env.cells sc.names [] x c e1 with⟨h1,_⟩|h1
   ·exact(BP hb h1 hx).elim
   ·simp at h1
  ·exact Fi hC (Nat.le_of_succ_le e1)
 hd:=I.ok.hd
 frames:=I.ok.frames
 stk:=.inl rfl
 exf:=λb hb'=>⟨E5 (Fh (hlt b hb') hC),λx c e=>by
  rcases iR I.ok hb (C:=C) e with e|⟨e,_⟩
  ·exact(hfp b hb').2.2.2.2.1 x c e
  ·exact Nat.ne_of_gt (Nat.lt_trans (Fh (hlt b hb') hC) e)⟩
 bs:=I.bs
 bsz:=Fi I.ok.bsz I.sz
 noex:=λb o e hb'=>by
  rcases(hfp b hb').2.2.2.1 with z|z
  ·exact I.ok.noex b o e z
  ·exact absurd (Fh (EJ e) (Fi I.ok.bsz z)) (Nat.lt_irrefl _)
 exfs:=λb hb' hm=>by
  rcases E1.mp (I.stkSub b hm)with e|h
  ·exact(hfp b hb').2.1 e
  ·exact(hfp b hb').2.2.1 h
 funs:=I.stack
 frf:=I.stkFree
def AM(I:Inv X pins σ H s){sc:Scope}{own:List Str}{js:List Nat}{fp:List Addr}{C D:Nat}{h1:Heap}{tk:Nat}{o:Obj}{m:Str->Option Value}(hk:sc.kind=.function)(hb:ef sc X.env.scope=true)(hj:kG sc X.N js=true)
  (hfp:∀b∈fp,cc X pins H b) (hlt:∀b∈fp,b<s.heap.objs.size) (hD:D=s.heap.objs.size) (hC:C=s.heap.objs.size+1) (old:∀b o,s.heap.get? b=some o->h1.get? b=some o)
  (hDo:h1.get? D=some o) (hod:∀v,o.data≠.cell v) (hm:h1.Ns C m) (hcl:∀x c,(ig X sc C).lookup x=some c->(de sc.names X.env.cells).lookup x=some c\/h1.IsCell c none) :
  Inv (cI X sc own js ⟨s,H,fp,C⟩) [(D,o)] (dF own.length js σ) H { s with heap:=h1,toks:=tk } where
 ok:=A6 I hk hb hfp (show @LE.le Nat _ s.heap.objs.size C by omega) hlt
 os:=rfl
 bare:=I.bare
 base:=Un.kept old
 loc:=by
  refine⟨m,hm,λi x v e1 e2 e3=>?_⟩;obtain⟨k,j,rfl,ej,es⟩:=t9 e2;have e1':(own++js.map λj=>X.N.getD j "")[own.length+k]?=some x:=e1;rw[Fb (by omega),Nat.add_sub_cancel_left,EM,ej]at e1';have ex:X.N.getD j "" = x:=by simpa using e1'
  have hjj:=Fl.mp hj j (EV ej);simp only[Fo,decide_eq_true_eq,beq_iff_eq]at hjj;have exN:X.N[j]?=some x:=by rw[←ex,List.getD_eq_getElem?_getD,EL hjj.1];rfl
  have hfree:sc.names.lookup x=some .free:=by rw[←ex];exact hjj.2
  have hmem:=iO hfree;have hout:=j6 hb hmem rfl;obtain⟨m0,hn0,hl0⟩:=I.loc;obtain⟨u,r,l⟩:=hl0 j x v exN es (by rcases hout with z|z;exact .inr (.inl z);exact .inr (.inr z));refine⟨u,r,?_⟩;obtain⟨c,hc⟩:=mN (X:=X) (C:=C) hmem;have hc':X.env.cells.lookup x=some c:=by
   rcases iR I.ok hb hc with e|⟨_,e⟩
   ·exact e
   ·rw[hfree]at e;cases e
  have hcell:s.heap.IsCell c (some u):=by
   rcases l with⟨z,_⟩|⟨_,c',e',q⟩
   ·have z':X.env.scope.names.lookup x=some .local:=z;rcases hout with w|w<;>(rw[z']at w;cases w)
   ·rw[hc']at e';cases e';exact q
  have hcell1:h1.IsCell c (some u):=by obtain⟨oc,ho,hd⟩:=hcell;exact⟨oc,old c oc ho,hd⟩
  right;refine⟨?_,c,hc,hcell1⟩;have e3':(relabel sc X.env).names.lookup x=some .local\/(relabel sc X.env).names.lookup x=some .cell\/(relabel sc X.env).names.lookup x=some .free:=e3;rcases e3' with z|z
  ·obtain⟨k',z1,z2⟩:=ko (sc:=sc) (env:=X.env) z;rw[hfree]at z1;rcases z2 with z2|⟨_,z2⟩
   ·rw[z2]at z1;cases z1
   ·cases z2
  ·exact z
 cell:=λx c e=>by
  rcases hcl x c e with e|e
  ·obtain⟨v,oc,ho,hd⟩:=I.cell x c (jN I.ok hb e);exact⟨v,oc,old c oc ho,hd⟩
  ·exact⟨none,e⟩
 free:=I.hok.fresh (show @LE.le Nat _ s.heap.objs.size C by omega)
 freeC:=λx c e=>by
  rcases iR I.ok hb (C:=C) e with e|⟨e,_⟩
  ·exact I.freeC x c e
  ·exact I.hok.fresh (show @LE.le Nat _ s.heap.objs.size c by omega)
 pin:=λp hp=>by
  have e:p=(D,o):=by simpa[cI]using hp
  subst e;refine⟨hDo,I.hok.fresh (show @LE.le Nat _ s.heap.objs.size D by omega),?_,λz=>?_,hod⟩
  ·exact E5 (show @LT.lt Nat _ D C by omega)
  ·have h9:@LT.lt Nat _ D s.heap.objs.size:=I.stk_lt (b:=D) z;omega
 hok:=I.hok.kept old
 len:=by show(dF own.length js σ).length=(own++js.map λj=>X.N.getD j "").length;simp[dF]
def sD{elt tg iter:Expr}{ifs:List Expr}{sc:Scope}{pos:Pos}{own:List Str}{js:List Nat}{g:TG}{tc:TT}{te:TE}{J:It}{it:Addr}{fp:List Addr}{tn:Nat->Heap->Prop}{RR:Value->Addr->Result->Shared->Prop}{E:Value->Shared->Prop}
  {Q:VK} {W:Nat->Nat->List V->Hp->Prop} (hk:sc.kind=.function) (hb:ef sc X.env.scope=true) (hj:kG sc X.N js=true)
  (hg:∀C,PG (cI X sc own js ⟨s,H,fp,C⟩) tg g) (ht:∀C,jA (cI X sc own js ⟨s,H,fp,C⟩) ifs tc) (he:∀C,PE (cI X sc own js ⟨s,H,fp,C⟩) elt te)
  (I:Inv X pins σ H s) (T:∀C,TurnAt (cI X sc own js ⟨s,H,fp,C⟩) tg J fp it tn) (st:tn 0 s.heap) (hfp:∀b∈fp,cc X pins H b) (w0:∃m,W 0 m [] H)
  (turn:∀i m ys H',W i m ys H'->(J.stop i H'/\∀p,H' p=none->Q (.ref p) (upd H' p (.lst ys))) ∨
   (J.go i H'/\ys.length<sizeLine/\∃N:List V->Hp->Prop,(∀ys' H2,N ys' H2->∃m',m'<m/\W (i+1) m' ys' H2)/\∀x H2,J.yld i H' x H2->g x (dF own.length js σ) H2 λσ2 H3=>tc σ2 H3 λb H4=>
    if b=true then te σ2 H4 λv H5=>N (ys++[v]) H5 else N ys H4))
  (fin:∀D C s' ys H',H' D=none->Inv X pins σ (upd H' D (.lst ys)) s'->cc X pins (upd H' D (.lst ys)) C->(∃m,s'.heap.Ns C m)->s.heap.objs.size<=C->Q (.ref D) (upd H' D (.lst ys))->RR (.ref D) C (.ok .next) s') :
  wpAny (model X.prog X.w) X.A (newList []) (λacc s₃=>wpAny (model X.prog X.w) X.A (newFunctionEnv sc X.env.globals (de sc.names X.env.cells) [] X.env.qual none .none (some X.env)) (λcenv s₄=>
   codeAny (model X.prog X.w) X.A (.compStart (.ListComp elt [⟨tg,iter,ifs,0⟩] sc pos) 0 (.ref it) acc { cenv with scope:=relabel sc X.env }) (RR acc cenv.locals) s₄) E s₃) E s:=by
 have hlt:∀b∈fp,b<s.heap.objs.size:=λb hb'=>by obtain⟨o,e,_⟩:=(T 0).obj 0 s.heap st b hb';exact EJ e
 refine wpAny_newObj_type (BO ?_);dsimp only;generalize hH2:s.heap.push { cls:=.type "list",dict:=none,data:=.seq ([]:List Value).toArray }=H2 at *;have hCs:H2.objs.size=s.heap.objs.size+1:=by rw[←hH2,Heap.size_push]
 have hns₁:(pushCells (H2.push { cls:=.type "dict",data:=.dict #[] }) sc.names).Ns H2.objs.size (λ_=>none):=(Heap.Ns.new H2 (.type "dict")).keeps (pushCells_keeps _ _);have hcl₁:∀x c,(ig X sc H2.objs.size).lookup x=some c->(de sc.names X.env.cells).lookup x=some c\/(pushCells (H2.push { cls:=.type "dict",data:=.dict #[] }) sc.names).IsCell c none:=λx c e=>by have e':(cellsFrom (H2.objs.size+1) sc.names (de sc.names X.env.cells)).lookup x=some c:=e;rw[←Heap.size_push H2 { cls:=.type "dict",data:=.dict #[] }]at e';exact ly _ _ _ e'
 have old:∀b o,s.heap.get? b=some o->(pushCells (H2.push { cls:=.type "dict",data:=.dict #[] }) sc.names).get? b=some o:=λb o e=>pushCells_keeps _ _ b o (EH _ (hH2 ▸ EH _ e));have hDo:(pushCells (H2.push { cls:=.type "dict",data:=.dict #[] }) sc.names).get? s.heap.objs.size=some (eo [] 0):=pushCells_keeps _ _ _ _ (EH _ (hH2 ▸ EI _ rfl));generalize pushCells (H2.push { cls:=.type "dict",data:=.dict #[] }) sc.names=h₁ at *;generalize hCe:H2.objs.size=C at *;have below:∀b:Nat,b<s.heap.objs.size->b≠C:=λb hb'=>by omega
 generalize hDe:s.heap.objs.size=D at *;let Y:Cx:=cI X sc own js ⟨s,H,fp,C⟩;have J0:Inv Y [(D,eo [] 0)] (dF own.length js σ) H { s with heap:=h₁ }:=
  AM I hk hb hj hfp (by rw[hDe];exact hlt) hDe.symm (by rw[hDe];exact hCs) old hDo (λv z=>by cases z) hns₁ hcl₁
 have ndC:@Ne Nat D C:=by omega
 have statF:∀{P':List (Addr×Obj)} {H':Hp},(∀b∈fp,H' b=none)->(∀p∈P',p.1∉fp)->∀b∈fp,cc Y P' H' b:=λ{P' H'} hn hp b hb'=>by
  obtain⟨f0,f1,f2,f3,f4,f5⟩:=hfp b hb';refine⟨hn b hb',λz=>below b (hlt b hb') z,λz=>?_,.inl hb',λx c e=>?_,λp hp' z=>?_⟩
  ·rcases E1.mp (I.stkSub b z)with e|h
   ·exact f1 e
   ·exact f2 h
  ·rcases iR I.ok hb (C:=C) e with e|⟨e,_⟩
   ·exact f4 x c e
   ·have h9:@LT.lt Nat _ b s.heap.objs.size:=by rw[hDe];exact hlt b hb'
    exact Nat.ne_of_gt (show @LT.lt Nat _ b c by omega)
  ·have:p∈P':=by simpa[Y,cI]using hp'
   exact hp p this (by rw[z];exact hb')
 have Dfp:D∉fp:=λz=>by have h9:@LT.lt Nat _ D D:=hlt D z;omega
 have st1:tn 0 h₁:=(T 0).keep 0 s.heap h₁ st λb _ o e=>old b o e;have loop:∀s₃:Shared,s₃={ s with heap:=h₁ } →
   codeAny (model X.prog X.w) X.A (.compLoop (.ListComp elt [⟨tg,iter,ifs,0⟩] sc pos) 0 (.ref it) (.ref D) Y.env) (RR (.ref D) C) s₃:=by
  rintro s₃ rfl;obtain⟨m0,w0⟩:=w0;refine Cg (λn s'=>∃i ys its q H',Inv Y [(D,eo its q)] (dF own.length js σ) H' s'/\Vals ys its/\ys.length<=sizeLine/\tn i s'.heap/\(∀b∈fp,H' b=none)/\W i n ys H') ?_ m0
   ⟨0,[],[],0,H,J0,.nil,Nat.zero_le _,st1,λb hb'=>(hfp b hb').1,w0⟩
  rintro n s3 ⟨i,ys,its,q,H3,I3,rv,hz,st3,fr3,w3⟩;have pD:∀p∈[(D,eo its q)],p.1∉fp:=λp hp=>by
   have e:p=(D,eo its q):=by simpa using hp
   rw[e];exact Dfp
  rcases turn i n ys H3 w3 with⟨stop,qn⟩|⟨go,hlen,N,hN,step⟩
  ·refine av ((T C).done i _ s3 _ H3 _ I3 (statF fr3 pD) st3 stop) λr s4 ⟨hr,I4⟩=>?_;subst hr;show RR (.ref D) C (.ok .next) s4;have hDp:=I4.pin (D,eo its q) (Ft _ (EW.mpr rfl));have hD4:s4.heap.get? D=some (eo its q):=hDp.1;have nD:H3 D=none:=hDp.2.1;have U:Un (dg X.stack) fp H H3 s.heap s4.heap:=I4.base;have neD:∀b o,s.heap.get? b=some o->b≠D:=λb o e=>E5 (by have h9:@LT.lt Nat _ b s.heap.objs.size:=EJ e;omega);have neDH:∀b o,H b=some o->b≠D:=λb o e=>E5 (by have h9:@LT.lt Nat _ b s.heap.objs.size:=I.hok.lt e;omega);have U2:Un (dg X.stack) fp H (upd H3 D (.lst ys)) s.heap s4.heap:=
    ⟨U.keep,U.slot,λb o e n hx=>by rw[ay (neD b o e)];exact U.free b o e n hx,U.there,λb xs e=>by rw[ay (neDH b _ e)];exact U.tups b xs e,
     λb o u e=>by rw[ay (neDH b _ e)];exact U.frzs b o u e,λb ps e=>by rw[ay (neDH b _ e)];exact U.tbls b ps e⟩
   have hok2:bp X.prog X.w (upd H3 D (.lst ys)) s4.heap:=λb o e=>by
    by_cases hb':b=D
    ·subst hb';rw[aE]at e;cases e;exact⟨hz,its,q,rv,hD4⟩
    ·rw[ay hb']at e;exact(I4.hok b o e).stay (λc u _ z=>z) (λc z=>by rw[ay (cg z nD)];exact z) λc xs z=>by rw[ay (cg z nD)];exact z
   have IX:Inv X pins σ (upd H3 D (.lst ys)) s4:=I.call' (ch:=fp) I4.os U2 hok2 I4.bare λb hb'=>by obtain⟨f0,f1,f2,f3,f4,f5⟩:=hfp b hb';exact⟨f3,f1,f4,f5⟩
   obtain⟨m4,hn4,_⟩:=I4.loc;have nC:H3 C=none:=I4.free;refine fin D C s4 ys H3 nD IX ?_ ⟨m4,hn4⟩ (show @LE.le Nat _ D C by omega) (qn D nD);refine⟨by rw[ay (Ne.symm ndC)];exact nC,?_,?_,?_,?_,?_⟩
   ·have h9:@LT.lt Nat _ X.env.locals s.heap.objs.size:=I.lt;exact Nat.ne_of_gt (show @LT.lt Nat _ X.env.locals C by omega)
   ·exact I.nofs (show @LE.le Nat _ s.heap.objs.size C by omega)
   ·right;have h9:@LE.le Nat _ X.s₀.heap.objs.size s.heap.objs.size:=I.sz;exact(show @LE.le Nat _ X.s₀.heap.objs.size C by omega)
   ·intro x c e;have h9:@LT.lt Nat _ c s.heap.objs.size:=I.cell_lt e;exact E5 (show @LT.lt Nat _ c C by omega)
   ·intro p hp;have h9:@LT.lt Nat _ p.1 s.heap.objs.size:=I.pin_lt hp;exact E5 (show @LT.lt Nat _ p.1 C by omega)
  ·refine av ((T C).item i _ s3 _ H3 _ I3 (statF fr3 pD) st3 go) λr s4 ⟨u,hr,h4⟩=>?_;subst hr;refine av h4 λ_ s5 ⟨x,H5,I5,r5,y5,st5,fr5⟩=>?_;have I5':=I5.pinned (statF fr5 pD) ((T 0).obj _ _ st5);refine av (hg _ _ s5 _ H5 x u _ I5' r5 (step x H5 y5)) λ_ s6 ⟨σ6,H6,I6,q6⟩=>?_;refine av (ht _ _ s6 σ6 H6 _ I6 q6) λok s7 ⟨H7,I7,q7⟩=>?_;have back:∀{s':Shared} {σ':St} {H':Hp} {ys':List V} {its':List Value} {q':Nat},Inv Y ([(D,eo its' q')]++gy fp s5.heap) σ' H' s'->Vals ys' its'->ys'.length<=sizeLine->N ys' H' →
     ∃m,m<n/\∃i ys its q H',Inv Y [(D,eo its q)] (dF own.length js σ) H' s'/\Vals ys its/\ys.length<=sizeLine/\tn i s'.heap/\(∀b∈fp,H' b=none)/\W i m ys H':=by
    intro s' σ' H' ys' its' q' I' rv' hz' nn;obtain⟨m',hm,w'⟩:=hN ys' H' nn;have hpin:∀b∈fp,∀o,s5.heap.get? b=some o->s'.heap.get? b=some o/\H' b=none:=λb hb' o e=>by have:=I'.pin (b,o) (Ft _ (Ft _ (pz hb' e)));exact⟨this.1,this.2.1⟩
    refine⟨m',hm,i+1,ys',its',q',H',?_,rv',hz',(T 0).keep _ _ _ st5 λb hb' o e=>(hpin b hb' o e).1,λb hb'=>?_,w'⟩
    ·have I'':=I'.unpinned;obtain⟨mm,hmm,_⟩:=id I''.loc;refine⟨I''.ok,I''.os,I''.bare,I''.base,⟨mm,hmm,λk x v e1 e2 e3=>?_⟩,I''.cell,I''.free,I''.freeC,I''.pin,I''.hok,?_⟩
     ·obtain⟨m1,hn1,hl1⟩:=J0.loc;obtain⟨u1,r1,l1⟩:=hl1 k x v e1 e2 e3;refine⟨u1,r1,?_⟩;obtain⟨k',j,rfl,ej,es⟩:=t9 e2;have e1':(own++js.map λj=>X.N.getD j "")[own.length+k']?=some x:=e1;rw[Fb (by omega),Nat.add_sub_cancel_left,EM,ej]at e1';have ex:X.N.getD j "" = x:=by simpa using e1'
      have hjj:=Fl.mp hj j (EV ej);simp only[Fo,decide_eq_true_eq,beq_iff_eq]at hjj;have hfree:sc.names.lookup x=some .free:=by rw[←ex];exact hjj.2
      rcases l1 with⟨z,zz⟩|⟨z,c,e,zz⟩
      ·exfalso;obtain⟨k2,z1,z2⟩:=ko (sc:=sc) (env:=X.env) (show(relabel sc X.env).names.lookup x=some .local from z);rw[hfree]at z1;rcases z2 with z2|⟨_,z2⟩
       ·rw[z2]at z1;cases z1
       ·cases z2
      ·refine .inr ⟨z,c,e,?_⟩;have hcs:X.env.cells.lookup x=some c:=by
        rcases iR I.ok hb (C:=C) e with e|⟨_,e⟩
        ·exact e
        ·rw[hfree]at e;cases e
       obtain⟨ov,oc,hoc,hdc⟩:=I.cell x c hcs;have hoc1:=old c oc hoc;obtain⟨oz,hoz,hdz⟩:=zz;have hoz':h₁.get? c=some oz:=hoz;rw[hoc1]at hoz';cases hoz';have cnf:c∉fp:=λz'=>(hfp c z').2.2.2.2.1 x c hcs rfl;obtain⟨sl,hh⟩:=I''.base.any hoc (I.freeC x c hcs) cnf;exact⟨_,hh,hdz⟩
     ·show(dF own.length js σ).length=_;exact J0.len
    ·obtain⟨o,e,d⟩:=(T 0).obj _ _ st5 b hb';exact(hpin b hb' o e).2
   cases ok with
   | false=>
    rw[FH E2]at q7 ⊢;exact back I7 rv hz q7
   | true=>
    rw[FI rfl]at q7 ⊢;refine av (he _ _ s7 σ6 H7 _ I7 q7) λxv s8 ⟨v,H8,I8,r8,q8⟩=>?_;have hDp:=I8.pin (D,eo its q) (Ft _ (Fu _ (EW.mpr rfl)));have hD8:s8.heap.get? D=some { cls:=.type "list",data:=.seq its.toArray q }:=hDp.1;have hl:=rv.length;refine call_meets F.slot_list_append ⟨_,hD8,rfl⟩ F.entry_list_append (F.args_list_append_2 _ _) (PySem.list_append D its.toArray q xv (by rw[ER];omega)) ⟨hD8,?_⟩;have qq:=PySem.IsL.update hD8 (λa=>a.push xv);have eqs:its.toArray.push xv=(its++[xv]).toArray:=by simp
    rw[eqs]at qq;obtain⟨q2,hq2⟩:∃q2,(s8.heap.update D (Obj.mapSeq λa=>a.push xv)).get? D=some (eo (its++[xv]) q2):=⟨_,qq⟩;have I8a:Inv Y (gy fp s5.heap) σ6 H8 s8:=I8.pins_of λp hp=>I8.pin p (Ft _ (Ft _ hp));have nD8:H8 D=none:=hDp.2.1;have I9:Inv Y (gy fp s5.heap) σ6 H8 { s8 with heap:=s8.heap.update D (Obj.mapSeq λa=>a.push xv),toks:=s8.toks }:=by
     refine I8a.turned (it:=D) (λb o hb' e=>(Heap.get?_update_other s8.heap (Obj.mapSeq λa=>a.push xv) (Ne.symm hb')).trans e) nD8 ndC (.inr (show @LE.le Nat _ s.heap.objs.size D by omega)) (λx c e=>?_) λp hp=>?_
     ·rcases iR I.ok hb (C:=C) e with e|⟨e,_⟩
      ·have h9:@LT.lt Nat _ c s.heap.objs.size:=I.cell_lt e;exact E5 (show @LT.lt Nat _ c D by omega)
      ·exact Nat.ne_of_gt (show @LT.lt Nat _ D c by omega)
     ·have hp':p∈gy fp s5.heap:=by simpa[Y,cI]using hp
      obtain⟨h1,_⟩:=ug hp';exact λz=>Dfp (z ▸ h1)
    refine back (ys':=ys++[v]) (its':=its++[xv]) (q':=q2) (I9.pins_of λp hp=>?_) (rv.append (.cons r8 .nil)) (by rw[E4,List.length_singleton];omega) q8;rcases E9.mp hp with hp|hp
    ·have e:p=(D,eo (its++[xv]) q2):=by simpa using hp
     subst e;refine⟨hq2,nD8,ndC,λz=>?_,λv z=>by cases z⟩;have h9:@LT.lt Nat _ D s.heap.objs.size:=I.stk_lt (b:=D) z;omega
    ·exact I9.pin p (Ft _ hp)
 exact codeAny_compStart_list (loop _ rfl) ((T 0).self X.A 0 { s with heap:=h₁ } _ _ st1 (loop _ rfl))
def cx{elt tg iter:Expr}{ifs:List Expr}{sc:Scope}{pos:Pos}(own:List Str)(js:List Nat){wi:TI}{g:TG}{tc:TT}{te:TE}(hi:PI X tg iter wi)(hg:∀z,PG (cI X sc own js z) tg g)(ht:∀z,jA (cI X sc own js z) ifs tc)
  (he:∀z,PE (cI X sc own js z) elt te) (hc:X.calm=true:=by rfl) (hk:sc.kind=.function:=by rfl) (hb:ef sc X.env.scope=true:=by rfl) (hj:kG sc X.N js=true:=by rfl)
  (hs:∀x,foldedSetIterable iter X.env x=pure x:=by intro _;rfl):PE X (.ListComp elt [⟨tg,iter,ifs,0⟩] sc pos) (ma own.length js wi g tc te):=by
 intro pins s σ H Q I h;rw[eval_ListComp];refine wpAny_comprehension_free (use:=none) rfl hs (nX λp hp hf=>I.ok.has p.1 (j6 hb hp hf)) hk (λp hp hl=>vS hb hp hl) (av (hi pins s σ H _ I h) λv s1 h1=>av h1 λitv s2 h2=>?_);obtain⟨it,fp,tn,J,H2,e,I2,T,st2,f2,W,w0,turn⟩:=h2;subst e;refine sD (RR:=λacc C=>compPost (model X.prog X.w) X.A X.xe none (EP X pins σ Q) acc C) hk hb hj (λ_=>hg _) (λ_=>ht _) (λ_=>he _) I2 (λC=>Turn.at_ (Y:=cI X sc own js ⟨_,_,_,C⟩) T hc) st2 f2 w0 turn ?_;intro D C s' ys H' nD I' hC ⟨m,hm⟩ _ q;refine⟨m,hm,λh' hs'=>?_⟩;obtain⟨f0,f1,f2,f3,f4,f5⟩:=hC;exact⟨.ref D,_,I'.turned (t':=s'.toks) (it:=C) (λb o hb' e=>(hs'.2 b hb').trans e) f0 f1 f3 f4 f5,rfl,q⟩
end
def dj(c:Addr)(o:Obj):HO:=.ext λh=>h.get? c=some o
def zh{P:Program}{w:World}{H:Hp}{h:Heap}{c:Addr}{o:Obj}(r:h.get? c=some o):bB P w H h c (dj c o):=⟨r,⟨o,r⟩,λh1 h2 r1 k=>k o r1⟩
def bM(cs:List (Addr×Obj))(H:Hp):Hp:=λb=>match cs.lookup b with|some o=>some (dj b o)|none=>H b
def aZ(cs:List (Addr×Obj))(H:Hp):Hp:=λb=>match cs.lookup b with|some _=>none|none=>H b
section
variable {cs:List (Addr×Obj)} {H H':Hp} {b:Addr} {o:Obj} {P:Program} {w:World} {h h':Heap} {fs ex:List Addr}
def eP(q:cs.lookup b=some o):bM cs H b=some (dj b o):=by unfold bM;rw[q]
def cW(q:cs.lookup b=none):bM cs H b=H b:=by unfold bM;rw[q]
def ic(q:cs.lookup b=some o):aZ cs H b=none:=by unfold aZ;rw[q]
def cC(q:cs.lookup b=none):aZ cs H b=H b:=by unfold aZ;rw[q]
def AQ{u:HO}(q:aZ cs H b=some u):cs.lookup b=none/\H b=some u:=by
 cases e:cs.lookup b with
 | none=>rw[cC e]at q;exact⟨rfl,q⟩
 | some o=>rw[ic e]at q;cases q
def pq{u:HO}(hc:∀b o,cs.lookup b=some o->H b=none)(q:H b=some u):bM cs H b=some u:=by
 cases e:cs.lookup b with
 | none=>rw[cW e];exact q
 | some o=>rw[hc b o e]at q;cases q
def tG(hok:bp P w H h)(hc:∀b o,cs.lookup b=some o->h.get? b=some o)(hn:∀b o,cs.lookup b=some o->H b=none):bp P w (bM cs H) h:=λb u e=>by
 cases q:cs.lookup b with
 | some o=>rw[eP q]at e;cases e;exact zh (hc b o q)
 | none=>
  rw[cW q]at e;exact(hok b u e).stay (λd v _ g=>g) (λd hd=>pq hn hd) λd xs hd=>pq hn hd
def u7(hok:bp P w H h)(hc:∀b o,cs.lookup b=some o->H b=some (dj b o)):bp P w (aZ cs H) h:=λb u e=>by
 obtain⟨q,e⟩:=AQ e;have nt:∀d x,H d=some x->(∀f,x≠.ext f)->aZ cs H d=some x:=λd x hd nx=>by
  cases z:cs.lookup d with
  | none=>rw[cC z];exact hd
  | some o'=>rw[hc d o' z]at hd;cases hd;exact absurd rfl (nx _)
 exact(hok b u e).stay (λd v _ g=>g) (λd hd=>nt d _ hd λf z=>by cases z) λd xs hd=>nt d _ hd λf z=>by cases z
def zb(u:Un fs ex (bM cs H) H' h h')(hok':bp P w H' h')(hc:∀b o,cs.lookup b=some o->h.get? b=some o)(hn:∀b o,cs.lookup b=some o->H b=none)(hc':∀b o,cs.lookup b=some o->H' b=some (dj b o)):Un fs ex H (aZ cs H') h h' where
 keep:=λb o e n nf nx=>by
  cases q:cs.lookup b with
  | none=>exact u.keep b o e (by rw[cW q];exact n) nf nx
  | some o'=>
   rw[hc b o' q]at e;cases e;exact(hok' b _ (hc' b _ q)).1
 slot:=λb o e n nf nx=>by
  cases q:cs.lookup b with
  | none=>exact u.slot b o e (by rw[cW q];exact n) nf nx
  | some o'=>
   rw[hc b o' q]at e;cases e;exact⟨_,(hok' b _ (hc' b _ q)).1⟩
 free:=λb o e n nx=>by
  cases q:cs.lookup b with
  | none=>rw[cC q];exact u.free b o e (by rw[cW q];exact n) nx
  | some o'=>exact ic q
 there:=u.there
 tups:=λb xs e=>by
  cases q:cs.lookup b with
  | none=>rw[cC q];exact u.tups b xs (by rw[cW q];exact e)
  | some o'=>rw[hn b o' q]at e;cases e
 frzs:=λb o x e=>by
  cases q:cs.lookup b with
  | none=>rw[cC q];exact u.frzs b o x (by rw[cW q];exact e)
  | some o'=>rw[hn b o' q]at e;cases e
 tbls:=λb ps e=>by
  cases q:cs.lookup b with
  | none=>rw[cC q];exact u.tbls b ps (by rw[cW q];exact e)
  | some o'=>rw[hn b o' q]at e;cases e
def DC(u:Un fs ex (aZ cs H) H' h h')(hc:∀b o,cs.lookup b=some o->H b=some (dj b o)):Un fs ex H (bM cs H') h h' where
 keep:=λb o e n nf nx=>by
  cases q:cs.lookup b with
  | none=>exact u.keep b o e (by rw[cC q];exact n) nf nx
  | some o'=>rw[hc b o' q]at n;cases n
 slot:=λb o e n nf nx=>by
  cases q:cs.lookup b with
  | none=>exact u.slot b o e (by rw[cC q];exact n) nf nx
  | some o'=>rw[hc b o' q]at n;cases n
 free:=λb o e n nx=>by
  cases q:cs.lookup b with
  | none=>rw[cW q];exact u.free b o e (by rw[cC q];exact n) nx
  | some o'=>rw[hc b o' q]at n;cases n
 there:=u.there
 tups:=λb xs e=>by
  cases q:cs.lookup b with
  | none=>rw[cW q];exact u.tups b xs (by rw[cC q];exact e)
  | some o'=>rw[hc b o' q]at e;cases e
 frzs:=λb o x e=>by
  cases q:cs.lookup b with
  | none=>rw[cW q];exact u.frzs b o x (by rw[cC q];exact e)
  | some o'=>rw[hc b o' q]at e;cases e
 tbls:=λb ps e=>by
  cases q:cs.lookup b with
  | none=>rw[cW q];exact u.tbls b ps (by rw[cC q];exact e)
  | some o'=>rw[hc b o' q]at e;cases e
end
structure FunR(P:Program)(w:World)(K:EG)(mg:Str->Option Value)(base:Heap)(k:Nat)(f:Addr)(pre:Hp->Prop)(R:List V->Hp->VK->Prop):Prop where
 at_:∀H h,bp P w H h->pre H->PySem.W.FnAt f h
 run:∀(A:Around) (outer:List Env) (s:Shared) (H:Hp) (us:List Value) (vs:List V) (Q:VK),Room k A->Env0 P w K mg base A outer s H->pre H->Vals vs us->R vs H Q →
  codeAny (model P w) A (.call (.ref f) ⟨us,[]⟩) (CR dU outer P w H s Q E0) s
def pY(P:Program)(w:World)(K:EG)(mg:Str->Option Value)(base:Heap)(k:Nat)(tf:TE)(ta:TA):TE:=λσ H Q=>tf σ H λfv H1=>∃f pre R,fv=.ref f/\FunR P w K mg base k f pre R/\pre H1/\ta σ H1 λvs H2=>pre H2/\R vs H2 Q
def pU{X:Cx}{P:Program}{w:World}{K:EG}{mg:Str->Option Value}{base:Heap}{k:Nat}{x:Str}{p pos:Pos}{e:Expr}{es:List Expr}{tf:TE}{ta:TA}{A0:Around}(hr:Room k A0)(hf:PE X (.Name x p) tf)(ha:PA X (e::es) ta)(hA:X.A=A0:=by rfl)(hP:X.prog=P:=by rfl)(hw:X.w=w:=by rfl)(hK:X.K=K:=by rfl)(hm:X.mg=mg:=by rfl)(hB:X.base=base:=by rfl)
  (he:starEach (e::es) X.env=(false,eval e X.env)::starEach es X.env:=by rfl) (hpl:(backTo pos (starEach es X.env)).any (·.1)=false:=by rfl):PE X (.Call (.Name x p) (e::es) [] pos) (pY P w K mg base k tf ta):=by
 subst hA;subst hP;subst hw;subst hK;subst hm;subst hB;intro pins s σ H Q I h;refine wpAny_Call_Name_kw (av (hf pins s σ H _ I h) λfv s1 ⟨v,H1,I1,r1,⟨f,pre,R,ev,F,hp,q1⟩⟩=>?_);subst ev;cases r1;refine PySem.W.callWith_F (first:=[]) (F.at_ _ _ I1.hok hp) (av (ha pos pins s1 σ H1 _ I1 q1) λus s2 ⟨vs,H2,I2,r2,⟨hp2,q2⟩⟩=>?_) he hpl;refine⟨F.at_ _ _ I2.hok hp2,?_⟩;refine wpAny_call (codeAny_mono (F.run X.A X.stack s2 H2 us vs Q hr I2.env0 hp2 r2 q2) λr s' hq=>?_);cases r with
 | error e=>exact False.elim hq
 | ok fl=>
  cases fl with
  | ret u=>exact I2.after hq
  | next=>exact False.elim hq
  | brk=>exact False.elim hq
  | cont=>exact False.elim hq
structure Cap where
 n:Str
 c:Addr
 o:Obj
 v:V
abbrev cellsOf(cp:List Cap):List (Addr×Obj):=cp.map λe=>(e.c,e.o)
structure CapAt(X:Cx)(σ:St)(h:Heap)(js:List Nat)(cp:List Cap):Prop where
 len:cp.length=js.length
 at_:∀(i j:Nat) (e:Cap),js[i]?=some j->cp[i]?=some e->X.N[j]?=some e.n/\X.env.cells.lookup e.n=some e.c/\σ[j]?=some (some e.v)/\h.get? e.c=some e.o/\∃u,e.o.data=.cell (some u)/\RelV e.v u
def gG{cp:List Cap}{b:Addr}{o:Obj}(h:(cellsOf cp).lookup b=some o):∃e∈cp,e.c=b/\e.o=o:=by
 have hm:(b,o)∈cellsOf cp:=by
  have go:∀{l:List (Addr×Obj)},l.lookup b=some o->(b,o)∈l:=by
   intro l;induction l with
   | nil=>intro h;cases h
   | cons x r ih=>
    intro h;obtain⟨y,z⟩:=x;rw[Fz]at h;cases hb:b == y with
    | true=>rw[hb]at h;cases h;rw[beq_iff_eq.mp hb];exact ES
    | false=>rw[hb]at h;exact EN _ (ih h)
  exact go h
 obtain⟨e,he,eq⟩:=List.mem_map.mp hm;cases eq;exact⟨e,he,rfl,rfl⟩
def Cf{cp:List Cap}{e:Cap}(h:e∈cp):∃o,(cellsOf cp).lookup e.c=some o:=by
 induction cp with
 | nil=>cases h
 | cons x r ih=>
  show ∃o,List.lookup e.c ((x.c,x.o)::cellsOf r)=some o;rw[Fz];cases hb:e.c == x.c with
  | true=>exact⟨_,rfl⟩
  | false=>
   rcases E1.mp h with rfl|h
   ·simp at hb
   ·exact ih h
def kA(sc:Scope)(N:List Str)(js:List Nat):Bool:=js.all λj=>decide (j<N.length) && (sc.names.lookup (N.getD j "") == some .cell)
section
variable {X:Cx} {pins:List (Addr×Obj)} {σ:St} {H:Hp} {s:Shared}
def Inv.capAt(I:Inv X pins σ H s):∀{js:List Nat},kA X.env.scope X.N js=true->(∀j∈js,∃v,σ[j]?=some (some v))->∃cp,CapAt X σ s.heap js cp
 | [],_,_=>⟨[],rfl,λi j e h=>by simp at h⟩
 | j::js,hj,hv=>by
  have hj2:(decide (j<X.N.length) && (X.env.scope.names.lookup (X.N.getD j "") == some .cell))=true/\kA X.env.scope X.N js=true:=by simpa[kA]using hj
  obtain⟨cp,hcp⟩:=I.capAt (js:=js) hj2.2 λi hi=>hv i (EN _ hi);obtain⟨v,ev⟩:=hv j ES;have h1:=hj2.1;simp only[Fo,decide_eq_true_eq,beq_iff_eq]at h1;have eN:X.N[j]?=some (X.N.getD j ""):=by rw[List.getD_eq_getElem?_getD,EL h1.1];rfl
  obtain⟨m,hn,hl⟩:=I.loc;obtain⟨u,r,l⟩:=hl j _ v eN ev (.inr (.inl h1.2));rcases l with⟨z,_⟩|⟨_,c,hc,o,ho,hd⟩
  ·have z':X.env.scope.names.lookup (X.N.getD j "")=some .local:=z;rw[h1.2]at z';cases z'
  ·refine⟨⟨X.N.getD j "",c,o,v⟩::cp,by simp[hcp.len],λi k e h2 h3=>?_⟩;cases i with
   | zero=>
    cases h2;cases h3;exact⟨eN,hc,ev,ho,u,hd,r⟩
   | succ i=>
    simp at h2 h3;exact hcp.at_ i k e h2 h3
def CapAt.mem{js:List Nat}{cp:List Cap}{h:Heap}(C:CapAt X σ h js cp){e:Cap}(he:e∈cp):X.env.cells.lookup e.n=some e.c/\h.get? e.c=some e.o/\∃u,e.o.data=.cell (some u)/\RelV e.v u:=by
 obtain⟨i,hi⟩:=Fy he;have hl:i<js.length:=by rw[←C.len];exact(EU.mp hi).1
 obtain⟨_,h2,_,h4,h5⟩:=C.at_ i _ e (EL hl) hi;exact⟨h2,h4,h5⟩
def Ed{k:Nat}{f:Addr}{fd:FuncData}{ps:List Str}{sp:Sp}{Q:VK}{us:List Value}{vs:List V}{js:List Nat}{cp:List Cap}(F:FnOk X.prog X.w X.K X.mg X.base dU k f fd ps sp)(hr:Room k X.A)(hb:Binds X.K fd ps [])
  (I:Inv X pins σ H s) (C:CapAt X σ s.heap js cp) (hfn:∀e∈cp,X.fn e.n=true) (r:Vals vs us)
  (h:sp vs (bM (cellsOf cp) H) (λv H'=>(∀b o,(cellsOf cp).lookup b=some o->H' b=some (dj b o))/\Q v (aZ (cellsOf cp) H')) E0):wpAny (model X.prog X.w) X.A (call (.ref f) us) (EP X pins σ Q) X.xe s:=by
 have hc:∀b o,(cellsOf cp).lookup b=some o->s.heap.get? b=some o:=λb o e=>by obtain⟨x,hx,rfl,rfl⟩:=gG e;exact(C.mem hx).2.1
 have hn:∀b o,(cellsOf cp).lookup b=some o->H b=none:=λb o e=>by obtain⟨x,hx,rfl,rfl⟩:=gG e;exact I.freeC _ _ (C.mem hx).1
 have hab:∀b o,(cellsOf cp).lookup b=some o->X.s₀.heap.objs.size<=b:=λb o e=>by obtain⟨x,hx,rfl,rfl⟩:=gG e;exact I.ok.cab _ _ (hfn x hx) (C.mem hx).1
 have e0:=I.env0;have e1:Env0 X.prog X.w X.K X.mg X.base X.A X.stack s (bM (cellsOf cp) H):=by
  refine⟨e0.frames,e0.mod,λb o e=>⟨(e0.bs b o e).1,?_⟩,e0.bsz,e0.funs,λb hb'=>?_,tG e0.hok hc hn,e0.bare⟩
  ·cases q:(cellsOf cp).lookup b with
   | none=>rw[cW q];exact(e0.bs b o e).2
   | some o'=>exact absurd (Fh (EJ (I.ok.bs b o e).1) (hab b o' q)) (Nat.lt_irrefl _)
  ·cases q:(cellsOf cp).lookup b with
   | none=>rw[cW q];exact e0.frf b hb'
   | some o'=>
    exfalso;rcases E1.mp (I.stkSub b hb')with z|z
    ·obtain⟨m,⟨ob,es,ep,ho,hd,_⟩,_⟩:=I.loc;obtain⟨x,hx,rfl,rfl⟩:=gG q;obtain⟨_,g,u,hu,_⟩:=C.mem hx;rw[←z,g]at ho;cases ho;rw[hu]at hd;cases hd
    ·obtain⟨_,ob,ho,_⟩:=I.ok.funs.mem z;exact absurd (Fh (EJ ho) (hab b o' q)) (Nat.lt_irrefl _)
 have hl:us.length=ps.length:=by rw[←r.length];exact F.len _ _ _ _ h
 refine wpAny_call (codeAny_mono (F.run X.A X.stack s (bM (cellsOf cp) H) ⟨us,[]⟩ us vs _ E0 hr e1 (by have:=hb s us I.kIn (by simpa using hl);rw[List.append_nil]at this;exact this) r h) λr s' hq=>?_);cases r with
 | error e=>exact False.elim hq
 | ok fl=>
  cases fl with
  | ret u=>
   obtain⟨v,H',os,bare,un,hok,rv,hc',q⟩:=hq;exact I.after ⟨v,aZ (cellsOf cp) H',os,bare,zb un hok hc hn hc',u7 hok hc',rv,q⟩
  | next=>exact False.elim hq
  | brk=>exact False.elim hq
  | cont=>exact False.elim hq
def ju(sp:Sp)(js:List Nat)(cells:List (Str×Addr))(N:List Str)(ta:TA):TE:=λσ H Q=>ta σ H λvs H1=>(∀j∈js,∃v,σ[j]?=some (some v)) ∧
 ∀cp:List Cap,cp.length=js.length->(∀(i j:Nat) (e:Cap),js[i]?=some j->cp[i]?=some e->N[j]?=some e.n/\cells.lookup e.n=some e.c/\σ[j]?=some (some e.v)/\H1 e.c=none/\∃u,e.o.data=.cell (some u)/\RelV e.v u) →
  sp vs (bM (cellsOf cp) H1) (λv H'=>(∀b o,(cellsOf cp).lookup b=some o->H' b=some (dj b o))/\Q v (aZ (cellsOf cp) H')) E0
def ml{x:Str}{k j:Nat}{ps:List Str}{sp:Sp}{e:Expr}{es:List Expr}{t:TA}{p pos:Pos}(js:List Nat)(C:Cal X.prog X.w X.K X.mg X.base x j ps sp)(hr:Room k X.A)(ha:PA X (e::es) t)(hjk:j<=k:=by decide)(hg:Gl X x:=by rfl)(hdb:(x == ("__debug__":Str))=false:=by decide)
  (hj:kA X.env.scope X.N js=true:=by rfl) (hfn:∀y,X.fn y=true:=by intro _;rfl)
  (he:starEach (e::es) X.env=(false,eval e X.env)::starEach es X.env:=by rfl) (hpl:(backTo pos (starEach es X.env)).any (·.1)=false:=by rfl) :
  PE X (.Call (.Name x p) (e::es) [] pos) (ju sp js X.env.cells X.N t):=by
 obtain⟨f,fd,hm,hk,hb,F⟩:=C.ex;intro pins s σ H Q I h;refine wpAny_Call_Name_kw (jJ I hg hm ?_ hdb);refine PySem.W.callWith_K (h₀:=X.base) I.ok.mod.kin hk (av (ha pos pins s σ H _ I h) λus s1 ⟨vs,H1,I1,r,hv,q⟩=>⟨I1.kIn,?_⟩) he hpl;obtain⟨cp,hcp⟩:=I1.capAt hj hv;refine Ed F (hr.mono hjk) hb I1 hcp (λe _=>hfn _) r (q cp hcp.len λi j e h1 h2=>?_);obtain⟨a1,a2,a3,_,a5⟩:=hcp.at_ i j e h1 h2;exact⟨a1,a2,a3,I1.freeC _ _ a2,a5⟩
end
def fg(f c:Addr)(q:Str)(params:Arguments)(body:Expr)(scope:Scope)(cl:List (Str×Addr)):HO:=.ext λh=>∃pm ctv,h.get? f=some (PySem.W.kla_obj "<lambda>" q params body scope cl pm c ctv)
def rO{P:Program}{w:World}{H:Hp}{h:Heap}{f c:Addr}{q:Str}{params:Arguments}{body:Expr}{scope:Scope}{cl:List (Str×Addr)}{pm ctv:Value}(r:h.get? f=some (PySem.W.kla_obj "<lambda>" q params body scope cl pm c ctv)):bB P w H h f (fg f c q params body scope cl):=
 ⟨⟨pm,ctv,r⟩,⟨_,r⟩,λh1 h2 ⟨a,b,g⟩ k=>⟨a,b,k _ g⟩⟩
def jo(sc:Scope):Bool:=sc.names.all λp=>sc.names.lookup p.1 == some p.2
def nk(sc out:Scope):Bool:=sc.names.all λp=>p.2 != .free || out.names.lookup p.1 == some .cell || out.names.lookup p.1 == some .free
def sG{sc:Scope}(h:jo sc=true){p:Str×NameKind}(hp:p∈sc.names):sc.names.lookup p.1=some p.2:=by simpa using Fl.mp h p hp
def uc{sc out:Scope}(h:nk sc out=true){p:Str×NameKind}(hp:p∈sc.names)(hf:p.2=.free):out.names.lookup p.1=some .cell\/out.names.lookup p.1=some .free:=by have:=Fl.mp h p hp;simp[hf]at this;exact this
structure ClOk(sc:Scope)(cells cl:List (Str×Addr)):Prop where
 one:jo sc=true
 fr:∀x c,cl.lookup x=some c->sc.names.lookup x=some .free/\cells.lookup x=some c
 has:∀x,sc.names.lookup x=some .free->∃c,cl.lookup x=some c
 inj:∀x y c,cl.lookup x=some c->cl.lookup y=some c->x=y
def yg{X:Cx}(ok:X.Ok){sc:Scope}(hsc:jo sc=true)(ho:nk sc X.env.scope=true):ClOk sc X.env.cells (de sc.names X.env.cells):=by
 have fr:∀x c,(de sc.names X.env.cells).lookup x=some c->sc.names.lookup x=some .free/\X.env.cells.lookup x=some c:=λx c h=>by
  rcases kz X.env.cells sc.names [] x c h with⟨h1,h2⟩|h1
  ·obtain⟨d,hd⟩:=ok.has x (uc ho h1 rfl);refine⟨sG hsc h1,?_⟩;rw[hd]at h2 ⊢;rw[h2];rfl
  ·simp at h1
 exact⟨hsc,fr,λx h=>sq (iO h),λx y c h1 h2=>ok.inj x y c (fr x c h1).2 (fr y c h2).2⟩
section
variable {X:Cx} {pins:List (Addr×Obj)} {σ:St} {H:Hp} {s:Shared}
def yQ{cl:List (Str×Addr)}{P c f:Addr}{ps more:Array Value}{q:Str}{params:Arguments}{body:Expr}{scope:Scope}{pm ctv:Value}{h':Heap}{tk:Nat}(I:Inv X pins σ H s)(hP:H P=some (.tbl ps))(b:Heap.ExtBut P s.heap h')(hc:s.heap.objs.size<=c)(hcf:c<f)(gP:h'.get? P=some { cls:=.none,data:=.fields (ps++more) })
  (gc:h'.CodeRec (.ref c) q) (gf:h'.get? f=some (PySem.W.kla_obj "<lambda>" q params body scope cl pm c ctv)) :
  Inv X pins σ (upd (upd (upd H P (.tbl (ps++more))) c (fN c q)) f (fg f c q params body scope cl)) { s with heap:=h',toks:=tk }:=by
 have hf:@LE.le Nat _ s.heap.objs.size f:=Fi hc (Nat.le_of_lt hcf);have nc:H c=none:=I.hok.fresh hc;have nf:H f=none:=I.hok.fresh hf;have cf:f≠c:=Nat.ne_of_gt hcf;have Pc:c≠P:=λz=>by rw[z,hP]at nc;cases nc
 have Pf:f≠P:=λz=>by rw[z,hP]at nf;cases nf
 have old:∀b o,H b=some o->b≠P->upd (upd (upd H P (.tbl (ps++more))) c (fN c q)) f (fg f c q params body scope cl) b=some o:=λb o e n=>by rw[ay (cg e nf),ay (cg e nc),ay n];exact e
 have nP:∀b,H b=none->b≠P:=λb e z=>by rw[z,hP]at e;cases e
 refine I.un ⟨λb' o e n _ _=>b b' o (nP b' n) e,λb' o e n _ _=>⟨o.slots,b b' o (nP b' n) e⟩,λb' o e n _=>?_,λb' o e _=>?_,λb' xs e=>old b' _ e (λz=>by rw[z,hP]at e;cases e),λb' o u e=>old b' _ e (λz=>by rw[z,hP]at e;cases e),λb' qs e=>?_⟩ λb' u e=>?_
 ·have lt:@LT.lt Nat _ b' s.heap.objs.size:=EJ e;rw[ay (E5 (Fh lt hf)),ay (E5 (Fh lt hc)),ay (nP b' n)];exact n
 ·by_cases z:b'=P
  ·rw[z];exact⟨_,gP⟩
  ·exact⟨o,b b' o z e⟩
 ·by_cases z:b'=P
  ·subst z;rw[hP]at e;cases e;exact⟨more,by rw[ay (Ne.symm Pf),ay (Ne.symm Pc),aE]⟩
  ·exact⟨#[],by rw[old b' _ e z];simp⟩
 ·by_cases z:b'=f
  ·subst z;rw[aE]at e;cases e;exact rO gf
  ·rw[ay z]at e;by_cases z2:b'=c
   ·subst z2;rw[aE]at e;cases e;exact BQ gc
   ·rw[ay z2]at e;by_cases z3:b'=P
    ·subst z3;rw[aE]at e;cases e;exact gP
    ·rw[ay z3]at e;refine(I.hok b' u e).stay (λd v hd g=>b d v ?_ g) (λd hd=>old d _ hd (λy=>by rw[y,hP]at hd;cases hd)) λd xs hd=>old d _ hd (λy=>by rw[y,hP]at hd;cases hd);rcases hd with rfl|hd
     ·exact z3
     ·exact λy=>by rw[y,hP]at hd;cases hd
end
def oE(P:Addr)(pos:Pos)(q:Str)(params:Arguments)(body:Expr)(scope:Scope)(cells:List (Str×Addr))(H:Hp)(Q:VK):Prop:=∀cl,ClOk scope cells cl →
 (H P=some (.tbl #[])/\∀f c,H c=none->H f=none->c≠P->f≠P->f≠c->Q (.ref f) (upd (upd (upd H P (.tbl #[rawInt pos.line,rawInt pos.col,.ref c])) c (fN c q)) f (fg f c q params body scope cl))) ∨
 ∃c,H P=some (.tbl #[rawInt pos.line,rawInt pos.col,.ref c])/\H c=some (fN c q)/\∀f,H f=none->Q (.ref f) (upd H f (fg f c q params body scope cl))
def uV(P:Addr)(pos:Pos)(q:Str)(params:Arguments)(body:Expr)(scope:Scope)(cells:List (Str×Addr)):TE:=λ_ H Q=>oE P pos q params body scope cells H Q
def pI{X:Cx}{params:Arguments}{body:Expr}{scope:Scope}{pos:Pos}{c P:Addr}(hcode:X.env.code=.ref c)(hgl:X.env.globals=mainGlobals)(C:PySem.W.CodeHd X.base c P)(hB:X.base.BuiltinsAt X.mg P)(hgP:mainGlobals≠P)(hsc:jo scope=true)(hout:nk scope X.env.scope=true)
  (hd0:params.defaults=[]) (hk0:params.kw_defaults=[]):PE X (.Lambda params body scope pos) (uV P pos (X.env.qual ++ "<lambda>") params body scope X.env.cells):=by
 intro pins s σ H Q I h;rw[arm_eval_Lambda,PySem.defaultsOf_eq,hk0,hd0];refine EE (EF (EE (wpAny_holding (EF ?_))));have hcl:closureFor scope X.env=pure (de scope.names X.env.cells):=nX λp hp hf=>I.ok.has p.1 (uc hout hp hf);have h:=h _ (yg I.ok hsc hout);have C':PySem.W.CodeHd s.heap c P:=C.keeps λb o e=>(I.bs b o e).1;have hg:s.heap.Ns mainGlobals X.mg:=by obtain⟨o,es,ep,e,r⟩:=I.ok.mod.glob;exact⟨o,es,ep,(I.bs _ _ e).1,r⟩
 have hb:s.heap.BuiltinsAt X.mg P:=by obtain⟨bm,o,a1,a2,a3,a4,a5,a6⟩:=hB;exact⟨bm,o,a1,a2,a3,a4,(I.bs _ _ a5).1,a6⟩
 rcases h with⟨hP,q⟩|⟨c',hP,hc',q⟩
 ·have gP:s.heap.get? P=some (PySem.W.tabObj #[]):=I.hok P _ hP;refine PySem.W.kla_makeFunction hcl hgl hg hcode C' gP trivial rfl hgP hb λc' ctv h' tk hx hge hlt hrec htb=>?_;have nc:H c'=none:=I.hok.fresh hge;have hf:@LE.le Nat _ s.heap.objs.size h'.objs.size:=Fi hge (Nat.le_of_lt hlt);have nf:H h'.objs.size=none:=I.hok.fresh hf;have lP:@LT.lt Nat _ P s.heap.objs.size:=EJ gP;have J:=yQ (cl:=de scope.names X.env.cells) (tk:=tk) (f:=h'.objs.size) (h':=h'.push (PySem.W.kla_obj "<lambda>" (X.env.qual ++ "<lambda>") params body scope (de scope.names X.env.cells) ((X.mg "__name__").getD .none) c' ctv)) (more:=#[rawInt pos.line,rawInt pos.col,.ref c']) I hP (λb o n e=>EH _ (hx b o n e)) hge hlt (EH _ htb) (hrec.push _) (EI _ rfl);rw[Array.empty_append]at J;exact⟨.ref h'.objs.size,_,J,rfl,q _ c' nc nf (Nat.ne_of_gt (Fh lP hge)) (Nat.ne_of_gt (Fh lP hf)) (Nat.ne_of_gt hlt)⟩
 ·have gP:s.heap.get? P=some (PySem.W.tabObj #[rawInt pos.line,rawInt pos.col,.ref c']):=I.hok P _ hP;refine PySem.W.kla_makeFunctionHit (cv:=.ref c') hcl hgl hg hcode C' gP trivial (by simp[codeAmong,rawInt]) hb λctv h' tk hx hge=>?_;exact⟨.ref h'.objs.size,_,I.laid (t':=tk) (o:=fg h'.objs.size c' (X.env.qual ++ "<lambda>") params body scope (de scope.names X.env.cells)) (λb o e=>EH _ (hx b o e)) hge (rO (EI _ rfl)),rfl,q _ (I.hok.fresh hge)⟩
def oZ{cells:List (Str×Addr)}{K:EG}{x q:Str}{params:Arguments}{body:Expr}{scope:Scope}{H:Hp}{Q:VK}{c T:Addr}{pos:Pos}(ht:cN K x q pos.line pos.col H)(e:PySem.W.tabIn K x=some (c,T))
  (h:∀f c' cl H',ClOk scope cells cl->Et H H'->cN K x q pos.line pos.col H'->(∀y q2 l2 k2,(∀c2 T2,PySem.W.tabIn K y=some (c2,T2)->T2≠T)->cN K y q2 l2 k2 H->cN K y q2 l2 k2 H')->H' f=some (fg f c' q params body scope cl)->H' c'=some (fN c' q)->Q (.ref f) H'):oE T pos q params body scope cells H Q:=by
 intro cl hcl;rcases ht c T e with hT|⟨c',hT,hc'⟩
 ·refine .inl ⟨hT,λf c' nc nf cT fT fc=>?_⟩;have old:∀b o,H b=some o->b≠T->upd (upd (upd H T (.tbl #[rawInt pos.line,rawInt pos.col,.ref c'])) c' (fN c' q)) f (fg f c' q params body scope cl) b=some o:=λb o hb n=>by rw[ay (cg hb nf),ay (cg hb nc),ay n];exact hb
  refine h f c' cl _ hcl (λb o hb n=>old b o hb λz=>by rw[z,hT]at hb;cases hb;exact n _ rfl) (λc2 T2 e2=>.inr ⟨c',?_,?_⟩) (λy q2 l2 k2 hn hy c2 T2 e2=>?_) aE ?_
  ·rw[e]at e2;cases e2;rw[ay (Ne.symm fT),ay (Ne.symm cT),aE]
  ·rw[ay (Ne.symm fc),aE]
  ·rcases hy c2 T2 e2 with g|⟨c3,g1,g2⟩
   ·exact .inl (old _ _ g (hn c2 T2 e2))
   ·exact .inr ⟨c3,old _ _ g1 (hn c2 T2 e2),old _ _ g2 λz=>by rw[z,hT]at g2;cases g2⟩
  ·rw[ay (Ne.symm fc),aE]
 ·refine .inr ⟨c',hT,hc',λf nf=>?_⟩;have ex:Ext H (upd H f (fg f c' q params body scope cl)):=aX nf;exact h f c' cl _ hcl ex.et (cN.ext ex ht) (λy q2 l2 k2 _ hy=>hy.ext ex) aE (ex _ _ hc')
def oR{P:Addr}{pos:Pos}{q:Str}{params:Arguments}{body:Expr}{scope:Scope}{cells:List (Str×Addr)}{σ:St}{H:Hp}{Q:VK}(h:oE P pos q params body scope cells H Q):uV P pos q params body scope cells σ H Q:=h
def jC{x:Str}{c:Addr}:∀(names:List (Str×NameKind)) (n:Nat) (a acc:List (Str×Addr)),(cellsFrom n names (a++acc)).lookup x=some c->acc.lookup x=some c\/(cellsFrom n names a).lookup x=some c
 | [],_,a,acc,h=>by
  unfold cellsFrom at h ⊢;rw[List.lookup_append]at h;cases q:a.lookup x with
  | none=>rw[q]at h;exact .inl h
  | some d=>rw[q]at h;exact .inr h
 | (y,k)::r,n,a,acc,h=>by
  unfold cellsFrom at h ⊢;by_cases hk:(k == NameKind.cell)=true
  ·rw[FI hk]at h ⊢;exact jC r (n+1) ((y,n)::a) acc h
  ·rw[FH hk]at h ⊢;exact jC r n a acc h
structure InL(s₀:Shared)(L:Addr)(m:Str->Option Value)(own:List (Str×Addr))(cm:Str->Option Value)(s:Shared):Prop where
 same:∃h' tk,s={ s₀ with heap:=h',toks:=tk }
 ns:s.heap.Ns L m
 keep:∀b o,s₀.heap.get? b=some o->s.heap.get? b=some o
 fresh:s₀.heap.objs.size<=L
 cell:∀n c,own.lookup n=some c->s.heap.IsCell c (cm n)
 apart:own.Pairwise λx y=>x.2≠y.2
 above:∀n c,(n,c)∈own->L<c
section
variable {M:Model} {A:Around} {E:Value->Shared->Prop} {s₀ s:Shared} {m cm:Str->Option Value} {env:Env} {own:List (Str×Addr)}
def InL.st{n:Str}{v:Value}{Q:Unit->Shared->Prop}(x:InL s₀ env.locals m own cm s)(hk:env.scope.kind=.function)(hl:env.kindOf n=some .local)
  (h:∀s',InL s₀ env.locals (λy=>if y=n then some v else m y) own cm s'->Q () s'):wpAny M A (storeName env n v) Q E s:=by
 refine wpAny_storeName_local hl x.ns (λh' hn' hs'=>h _ ⟨?_,hn',λb o e=>?_,x.fresh,λk c hc=>?_,x.apart,x.above⟩) (by rw[hk];rfl)
 ·obtain⟨h₁,tk,rfl⟩:=x.same;exact⟨h',_,rfl⟩
 ·exact hs'.extBut b o (E5 (Fh (EJ e) x.fresh)) (x.keep b o e)
 ·exact(x.cell k c hc).sameBut hs' (Nat.ne_of_gt (x.above k c (PySem.mem_of_lookup hc)))
def InL.stC{n:Str}{c:Addr}{v:Value}{Q:Unit->Shared->Prop}(x:InL s₀ env.locals m own cm s)(hk:env.scope.kind=.function)(hl:env.kindOf n=some .cell)
  (hc:env.cells.lookup n=some c) (ho:own.lookup n=some c)
  (h:∀s',InL s₀ env.locals m own (λy=>if y=n then some v else cm y) s'->Q () s'):wpAny M A (storeName env n v) Q E s:=by
 have hLc:=x.above n c (PySem.mem_of_lookup ho);refine wpAny_storeName_cell hk hl hc (x.cell n c ho) λh' hc' hs'=>h _ ⟨?_,x.ns.sameBut hs' (E5 hLc),λb o e=>?_,x.fresh,λk c' hk'=>?_,x.apart,x.above⟩
 ·obtain⟨h₁,tk,rfl⟩:=x.same;exact⟨h',_,rfl⟩
 ·exact hs'.extBut b o (E5 (Nat.lt_trans (Fh (EJ e) x.fresh) hLc)) (x.keep b o e)
 ·by_cases hkn:k=n
  ·subst hkn;rw[ho]at hk';cases hk';simpa using hc'
  ·rw[FH hkn];exact(x.cell k c' hk').sameBut hs' λe=>hkn (name_of_addr x.apart (PySem.mem_of_lookup hk') (e ▸ PySem.mem_of_lookup ho))
def InL.binds(f:Str×Value->PUnit->Sem (ForInStep PUnit))(hf:∀n v u,f (n,v) u=(do storeName env n v;pure (.yield ⟨⟩)))(hk:env.scope.kind=.function):
  ∀(binds:List (Str×Value)) (m cm:Str->Option Value) (s:Shared) (Q:PUnit->Shared->Prop),InL s₀ env.locals m own cm s →
   (∀x∈binds,env.kindOf x.1=some .local\/(env.kindOf x.1=some .cell/\∃c,env.cells.lookup x.1=some c/\own.lookup x.1=some c)) →
   (∀s',InL s₀ env.locals (bindL env.kindOf binds m) own (bindC env.kindOf binds cm) s'->Q ⟨⟩ s')->wpAny M A (forIn binds ⟨⟩ f) Q E s
 | [],m,cm,s,Q,x,_,h=>by rw[List.forIn_nil];exact EF (h s x)
 | (n,v)::r,m,cm,s,Q,x,hkind,h=>by
  rw[List.forIn_cons,hf];have hr:∀y∈r,env.kindOf y.1=some .local\/(env.kindOf y.1=some .cell/\∃c,env.cells.lookup y.1=some c/\own.lookup y.1=some c):=λy hy=>hkind y (EN _ hy);rcases hkind (n,v) ES with hl|⟨hl,c,hc,ho⟩
  ·refine EE (EE (InL.st x hk hl λs' x'=>EF (InL.binds f hf hk r _ _ s' Q x' hr λs'' x''=>h s'' ?_)));unfold bindL bindC;rw[FI hl,FI hl];exact x''
  ·have hnl:¬env.kindOf n=some .local:=by rw[hl];decide
   refine EE (EE (InL.stC x hk hl hc ho λs' x'=>EF (InL.binds f hf hk r _ _ s' Q x' hr λs'' x''=>h s'' ?_)));unfold bindL bindC;rw[FH hnl,FH hnl];exact x''
end
def fj(q:Str)(scope:Scope)(L f:Addr)(cd:Value)(cl:List (Str×Addr)):Env:=
 { scope:=scope,locals:=L,globals:=mainGlobals,cells:=cellsFrom (L+1) scope.names cl,qual:=q ++ ".<locals>.",func:=some f,code:=cd,frame:=some L,builtins:=builtinsNs }
section
variable {M:Model} {A:Around} {E:Value->Shared->Prop} {s:Shared}
def yp {scope : Scope} {cl : List (Str × Addr)} {binds : List (Str × Value)} {q : Str} {f : Addr} {cd : Value} {Q : Env → Shared → Prop} (hk : scope.kind = .function) (hsc : jo scope = true) (hcl : ∀ x c, cl.lookup x = some c → scope.names.lookup x = some .free)
    (hkind : ∀ x ∈ binds, scope.names.lookup x.1 = some .local ∨ scope.names.lookup x.1 = some .cell)
    (hQ : ∀ s', InL s s.heap.objs.size (bindL (fj q scope s.heap.objs.size f cd cl).kindOf binds λ_ => none) (cellsFrom (s.heap.objs.size + 1) scope.names []) (bindC (fj q scope s.heap.objs.size f cd cl).kindOf binds λ_ => none) s' → Q (fj q scope s.heap.objs.size f cd cl) s') :
    wpAny M A (newFunctionEnv scope mainGlobals cl binds (q ++ ".<locals>.") (some f) cd none builtinsNs) Q E s := by
  simp only [newFunctionEnv, Option.isSome_none, Fw, if_false];refine EE (wpAny_alloc ?_);refine EE (wpAny_layCells _ (λname kind cells => by cases hkc : kind == NameKind.cell <;> simp [hkc]) _ _ _ _ ?_);have ok := cellsFrom_ok scope.names (s.heap.push { cls := .type "frame", data := .dict #[] }) (s.heap.objs.size + 1) [] ⟨λ_ _ hm => (nomatch hm), List.Pairwise.nil⟩ (by rw [Heap.size_push]; exact E6 _);rw [Heap.size_push] at ok;rw [show ({ s with heap := s.heap.push { cls := .type "frame", data := .dict #[] } } : Shared).heap.objs.size = s.heap.objs.size + 1 from Heap.size_push ..];refine EE (InL.binds (s₀ := s) (env := fj q scope s.heap.objs.size f cd cl) (own := cellsFrom (s.heap.objs.size + 1) scope.names [])
    _ (λ_ _ _ => rfl) hk binds (λ_ => none) (λ_ => none) _ _
    ⟨⟨_, _, rfl⟩, (Heap.Ns.new s.heap (.type "frame")).keeps (pushCells_keeps _ _), λb o e => pushCells_keeps _ _ b o (EH _ e), E6 _,
      λn c hc => (ok.empty n c (PySem.mem_of_lookup hc)).1, ok.apart, λn c hm => (ok.empty n c hm).2⟩
    (λx hx => ?_) λs' x => EF (hQ s' x))
  rcases hkind x hx with h|h
  · exact .inl h
  · obtain ⟨c, hc⟩ := Option.isSome_iff_exists.mp (PySem.W.cellsFrom_some scope.names (s.heap.objs.size + 1) cl (.inl h))
    rcases jC scope.names (s.heap.objs.size + 1) [] cl hc with h2|h2
    · rw [hcl _ _ h2] at h; cases h
    · exact .inr ⟨h, c, hc, h2⟩
end
def jO(P:Program)(w:World)(K:EG)(mg:Str->Option Value)(base:Heap)(N:List Str)(q:Str)(scope:Scope)(f:Addr)(cd:Value)(cl:List (Str×Addr))(A:Around)(outer:List Env)(s:Shared)(H:Hp):Cx where
 prog:=P
 w:=w
 K:=K
 mg:=mg
 base:=base
 A:=A.deeper (fj q scope s.heap.objs.size f cd cl)
 N:=N
 s₀:=s
 H₀:=H
 env:=fj q scope s.heap.objs.size f cd cl
 outer:=outer
 stack:=fj q scope s.heap.objs.size f cd cl::outer
 ex:=[]
 calm:=true
 fn:=λx=>scope.names.lookup x == some .cell
 pn:=[]
 xe:=λ_ _=>False
structure Caps(H:Hp)(cl:List (Str×Addr))(cp:List Cap):Prop where
 at_:∀e∈cp,cl.lookup e.n=some e.c/\H e.c=some (dj e.c e.o)/\∃u,e.o.data=.cell (some u)/\RelV e.v u
 all:∀x c,cl.lookup x=some c->∃e∈cp,e.n=x/\e.c=c
def Caps.ext{H H':Hp}(e:Ext H H'){cl:List (Str×Addr)}{cp:List Cap}(h:Caps H cl cp):Caps H' cl cp:=⟨λx hx=>⟨(h.at_ x hx).1,e _ _ (h.at_ x hx).2.1,(h.at_ x hx).2.2⟩,h.all⟩
def Caps.look{H:Hp}{cl:List (Str×Addr)}{cp:List Cap}(h:Caps H cl cp):∀b o,(cellsOf cp).lookup b=some o->H b=some (dj b o):=λb o e=>by obtain⟨x,hx,rfl,rfl⟩:=gG e;exact(h.at_ x hx).2.1
structure LamSc(ps:List Str)(sc:Scope):Prop where
 kind:sc.kind=.function
 co:sc.isCoroutine=false
 gen:sc.isGenerator=false
 nd:ps.Nodup
 par:∀x∈ps,sc.names.lookup x=some .local\/sc.names.lookup x=some .cell
def yt{P:Program}{w:World}{K:EG}{mg:Str->Option Value}{base:Heap}{ps:List Str}{q:Str}{scope:Scope}{f:Addr}{cd:Value}{cl cells:List (Str×Addr)}{cp:List Cap}{A:Around}{outer:List Env}{s s1:Shared}{H:Hp}{us:List Value}{vs:List V}
  (S:LamSc ps scope) (C:ClOk scope cells cl) (hcp:Caps H cl cp) (hd:A.handled=none) (e0:Env0 P w K mg base A outer s H) (hl:vs.length=ps.length) (r:Vals vs us)
  (x:InL s s.heap.objs.size (bindL (fj q scope s.heap.objs.size f cd cl).kindOf (ps.zip us) λ_=>none) (cellsFrom (s.heap.objs.size+1) scope.names []) (bindC (fj q scope s.heap.objs.size f cd cl).kindOf (ps.zip us) λ_=>none) s1) :
  Inv (jO P w K mg base (ps++cp.map (·.n)) q scope f cd cl A outer s (aZ (cellsOf cp) H)) [] (vs.map some++cp.map λe=>some e.v) (aZ (cellsOf cp) H) s1:=by
 obtain⟨h1,tk,rfl⟩:=x.same;have hk:=x.keep;have noA:∀b:Addr,b∉(jO P w K mg base (ps++cp.map (·.n)) q scope f cd cl A outer s (aZ (cellsOf cp) H)).ex:=λb z=>absurd (show b∈([]:List Addr)from z) (by simp);have nn:∀b,H b=none->aZ (cellsOf cp) H b=none:=λb hb=>by
  cases z:(cellsOf cp).lookup b with
  | none=>rw[cC z];exact hb
  | some o=>exact ic z
 have obj:∀e∈cp,s.heap.get? e.c=some e.o:=λe he=>(e0.hok _ _ (hcp.at_ e he).2.1).1;have clt:∀y c,cl.lookup y=some c->@LT.lt Nat _ c s.heap.objs.size:=λy c h=>by obtain⟨e,he,_,rfl⟩:=hcp.all y c h;exact EJ (obj e he)
 have cinC:∀y c,cl.lookup y=some c->aZ (cellsOf cp) H c=none:=λy c h=>by obtain⟨e,he,_,rfl⟩:=hcp.all y c h;obtain⟨o,ho⟩:=Cf he;exact ic ho
 have hfr:∀y,scope.names.lookup y=some .free->∃c,cl.lookup y=some c/\(cellsFrom (s.heap.objs.size+1) scope.names cl).lookup y=some c:=λy hy=>by
  obtain⟨c,hc⟩:=C.has y hy;obtain⟨c',hc'⟩:=Option.isSome_iff_exists.mp (PySem.W.cellsFrom_some scope.names (s.heap.objs.size+1) cl (x:=y) (.inr (by rw[hc];rfl)));rcases ia _ _ _ hc' with h|⟨_,h⟩
  ·rw[hc]at h;cases h;exact⟨c,hc,hc'⟩
  ·have:=sG C.one h;rw[hy]at this;cases this
 refine⟨⟨e0.mod,S.kind,rfl,rfl,E6 _,λy z c h1 h2=>?_,λy hy=>?_,λy c h hc=>?_,λ_=>hd,Around.frames_deeper e0.frames,.inr ⟨rfl,rfl⟩,λb z=>absurd z (noA b),λb o e=>⟨(e0.bs b o e).1,nn b (e0.bs b o e).2⟩,e0.bsz,λb _ _=>noA b,λb z=>absurd z (noA b),e0.funs,λb hb=>nn b (e0.frf b hb)⟩,
  rfl,e0.bare,Un.kept hk,⟨_,x.ns,λi y v h1 h2 h3=>?_⟩,λy c h=>?_,nn _ (e0.hok.fresh (E6 _)),λy c h=>?_,λp hp=>absurd (show p∈([]:List (Addr×Obj))from hp) (by simp),(u7 e0.hok hcp.look).kept hk,?_⟩
 ·exact kK scope.names _ _ (λx c e=>Nat.lt_succ_of_lt (clt x c e)) C.inj h1 h2
 ·have hy:scope.names.lookup y=some .cell\/scope.names.lookup y=some .free:=hy;rcases hy with hy|hy
  ·exact Option.isSome_iff_exists.mp (PySem.W.cellsFrom_some scope.names _ _ (.inl hy))
  ·obtain⟨c,_,h⟩:=hfr y hy;exact⟨c,h⟩
 ·have hy:scope.names.lookup y=some .cell:=by simpa[jO]using h
  have hc':(cellsFrom (s.heap.objs.size+1) scope.names cl).lookup y=some c:=hc;rcases ia _ _ _ hc' with h2|⟨h2,_⟩
  ·rw[(C.fr y c h2).1]at hy;cases hy
  ·exact Nat.le_of_succ_le h2
 ·by_cases hi:i<vs.length
  ·have ha:vs[i]?=some v:=by
    rw[Fc (by simpa using hi),EM]at h2;cases e:vs[i]? with
    | none=>rw[e]at h2;cases h2
    | some a=>rw[e]at h2;cases h2;rfl
   obtain⟨u,hu,rv⟩:=r.get ha;have hp:ps[i]?=some y:=by have h1':(ps++cp.map (·.n))[i]?=some y:=h1;rw[Fc (by omega)]at h1';exact h1'
   refine⟨u,rv,?_⟩;rcases S.par y (EV hp)with k|k
   ·exact .inl ⟨k,lT S.nd hp hu k⟩
   ·obtain⟨c,e⟩:=Option.isSome_iff_exists.mp (PySem.W.cellsFrom_some scope.names (s.heap.objs.size+1) cl (.inl k));refine .inr ⟨.inl k,c,e,?_⟩;rcases jC scope.names (s.heap.objs.size+1) [] cl e with h4|h4
    ·rw[(C.fr y c h4).1]at k;cases k
    ·have qq:=x.cell y c h4;rw[pR S.nd hp hu (by show scope.names.lookup y≠_;rw[k];decide)]at qq;exact qq
  ·have h1':(ps++cp.map (·.n))[i]?=some y:=h1;rw[Fb (by omega),EM]at h1';rw[Fb (by simpa using Nat.le_of_not_lt hi),EK,EM]at h2;rw[hl]at h2;cases he:cp[i-ps.length]? with
   | none=>rw[he]at h2;cases h2
   | some e=>
    rw[he]at h1' h2;cases h1';cases h2;have hm:=EV he;obtain⟨a1,a2,u,hu,rv⟩:=hcp.at_ e hm;have hf:=(C.fr _ _ a1).1;obtain⟨c,b1,b2⟩:=hfr e.n hf;rw[a1]at b1;cases b1;exact⟨u,rv,.inr ⟨.inr hf,e.c,b2,e.o,hk _ _ (obj e hm),hu⟩⟩
 ·have h':(cellsFrom (s.heap.objs.size+1) scope.names cl).lookup y=some c:=h;rcases jC scope.names (s.heap.objs.size+1) [] cl h' with h2|h2
  ·obtain⟨e,he,_,rfl⟩:=hcp.all y c h2;obtain⟨_,_,u,hu,_⟩:=hcp.at_ e he;exact⟨some u,e.o,hk _ _ (obj e he),hu⟩
  ·exact⟨_,x.cell y c h2⟩
 ·have h':(cellsFrom (s.heap.objs.size+1) scope.names cl).lookup y=some c:=h;rcases ia _ _ _ h' with h2|⟨h2,_⟩
  ·exact cinC y c h2
  ·exact nn c (e0.hok.fresh (Nat.le_of_succ_le h2))
 ·show(vs.map some++cp.map λe=>some e.v).length=(ps++cp.map (·.n)).length;simp[hl]
def ib(f c:Addr)(q:Str)(params:Arguments)(body:Expr)(scope:Scope)(cl:List (Str×Addr))(cp:List Cap)(H:Hp):Prop:=H f=some (fg f c q params body scope cl)/\H c=some (fN c q)/\Caps H cl cp
def ib.ext{H H':Hp}(e:Ext H H'){f c:Addr}{q:Str}{params:Arguments}{body:Expr}{scope:Scope}{cl:List (Str×Addr)}{cp:List Cap}(h:ib f c q params body scope cl cp H):ib f c q params body scope cl cp H':=⟨e _ _ h.1,e _ _ h.2.1,h.2.2.ext e⟩
def BK{P:Program}{w:World}{K:EG}{mg:Str->Option Value}{base:Heap}{k:Nat}{f c:Addr}{q:Str}{params:Arguments}{body:Expr}{scope:Scope}{cl cells:List (Str×Addr)}{cp:List Cap}{ps:List Str}{R:List V->Hp->VK->Prop}(I:Hp->Prop)
  (S:LamSc ps scope) (C:ClOk scope cells cl) (bind:∀(pm cv ctv:Value) (us:List Value),us.length=ps.length->bindArgs (PySem.W.kla_fn "<lambda>" q params body scope cl pm cv ctv) ⟨us,[]⟩=pure (ps.zip us))
  (hR:∀vs H Q,R vs H Q->vs.length=ps.length)
  (hbody:∀(A:Around) (outer:List Env) (s:Shared) (H:Hp) (vs:List V) (Q:VK),Room k (A.deeper (fj q scope s.heap.objs.size f (.ref c) cl))->ib f c q params body scope cl cp H->I H->R vs H Q →
   ∃te,PE (jO P w K mg base (ps++cp.map (·.n)) q scope f (.ref c) cl A outer s (aZ (cellsOf cp) H)) body te/\te (vs.map some++cp.map λe=>some e.v) (aZ (cellsOf cp) H) λv H'=>(∀b o,(cellsOf cp).lookup b=some o->H' b=none)->Q v (bM (cellsOf cp) H')) :
  FunR P w K mg base (k+1) f (λH=>ib f c q params body scope cl cp H/\I H) R:=by
 refine⟨λH h hok hp=>?_,λA outer s H us vs Q hr e0 hp r hq=>?_⟩
 ·obtain⟨⟨pm,ctv,gf⟩,_⟩:=hok f _ hp.1.1;exact⟨_,_,_,_,gf⟩
 ·obtain⟨⟨hf,hc,hcp⟩,hI⟩:=id hp;obtain⟨⟨pm,ctv,gf⟩,_⟩:=e0.hok f _ hf;obtain⟨gc,_⟩:=e0.hok c _ hc;have lim:s.heap.NoLimit:=e0.mod.nolimit.keeps λb o e=>(e0.bs b o e).1;have hl:=hR vs H Q hq;refine PySem.W.kla_callFunE hr.depth gf rfl S.co S.gen rfl gc ?_;rw[bind _ _ _ us (by rw[←r.length];exact hl)];refine EF ?_;refine yp (q:=q) (f:=f) (cd:=.ref c) S.kind C.one (λx c h=>(C.fr x c h).1) (λz hz=>?_) λs1 z=>?_
  ·exact S.par z.1 (List.of_mem_zip hz).1
  refine⟨lim.keeps z.keep,PySem.W.kla_codeExpr ?_⟩;have J:=yt S C hcp hr.hd e0 hl r z;obtain⟨te,ht,hq'⟩:=hbody A outer s H vs Q (hr.deeper _) hp.1 hI hq;refine wpAny_mono (ht [] s1 _ _ _ J hq') (λu s' ⟨v,H',J',rv,q'⟩=>?_) λe s' hs=>hs.elim;have obj:∀b o,(cellsOf cp).lookup b=some o->s.heap.get? b=some o:=λb o e=>(e0.hok _ _ (hcp.look b o e)).1;have nfs:∀b o,(cellsOf cp).lookup b=some o->b∉dg outer:=λb o e hb=>by have:=e0.frf b hb;rw[hcp.look b o e]at this;cases this
  have un:Un (dg outer) [] (aZ (cellsOf cp) H) H' s.heap s'.heap:=J'.base;exact⟨v,bM (cellsOf cp) H',J'.os,J'.bare,DC un hcp.look,tG J'.hok (λb o e=>un.keep b o (obj b o e) (ic e) (nfs b o e) (by simp)) (λb o e=>un.free b o (obj b o e) (ic e) (by simp)),rv,q' λb o e=>un.free b o (obj b o e) (ic e) (by simp)⟩
section
variable {X:Cx}
def Du:V->List V->Hp->VK->Prop:=λx vs H Q=>∃(n:Nat) (p:Addr) (xs:List V) (a:V) (d:PyData) (ds:List PyData) (j:Nat),x=.ref p/\vs=[a]/\aV H n a d/\H p=some (.lst xs)/\Paired (aV H n) xs ds/\n<=50/\(∃e,ds[j]?=some e/\PyData.eqv e d=true)/\(∀m e,m<j->ds[m]?=some e->PyData.eqv e d=false)/\j<2 ^ 32/\Q (.int (j:Int)) H
def AY{k:Nat}{A0:Around}(hr:Room k A0)(hA:X.A=A0:=by rfl):jk X "list.index" Du:=by
 subst hA;intro pins s σ H x xs v us Q I rx rv h;obtain⟨n,p,ys,a,d,ds,j,rfl,rfl,h1,h2,h3,hn,⟨e,hj,he⟩,hno,hjs,q⟩:=h;cases rx;obtain⟨u,rfl,ru⟩:=rv.one;have h4:aV H (n+1) (.ref p) (.list ds):=.inr ⟨p,ys,ds,rfl,.inr ⟨h2,rfl⟩,h3⟩;obtain⟨as,ra⟩:=aV.reads I n h1 ru;obtain⟨bs,rb⟩:=aV.reads I (n+1) h4 rfl;have l1:=aV.lay n h1;have l2:=jw (λ{x d}=>aV.lay (H:=H) n) h3;have hu:=hr.units;have hm:min (PyData.depthAll ds) d.depth<=50:=Fi (Nat.min_le_right _ _) (Fi l1.2 hn);obtain⟨_,its,nn,rvv,gt⟩:=I.hok p _ h2;cases rb with
 | list g1 g2 g3 g4=>
  rw[gt]at g1;cases g1;cases g3;have mp:=SeqAt.readsAll_map ds _ _ l2.1 g4;have hlen:its.length=ds.length:=by rw[←mp,EK]
  have hjl:j<ds.length:=(EU.mp hj).1;have hsz:j<its.toArray.size:=by rw[ER];omega
  have hat:∀m (hm:m<its.toArray.size),ds[m]?=some (SeqAt.readOf s.heap its.toArray[m]):=λm hm=>by
   have hm':m<its.length:=by simpa using hm
   rw[←mp,EM];simp[hm']
  refine call_meets PySem.F.slot_list_index ⟨_,gt,rfl⟩ PySem.F.entry_list_index (PySem.F.args_list_index_2 _ _) (SeqAt.list_indexAt p its.toArray nn none #[] u (λy=>PyData.eqv (SeqAt.readOf s.heap y) d) j hsz (by omega) ?_ ?_)
   ⟨gt,SeqAt.items_eqAt g4 ra l2.1 l1.1 (by omega),?_⟩
  ·have:=hat j hsz;rw[hj]at this;cases this;exact he
  ·intro m hm hmj;exact hno m _ hmj (hat m hm)
  ·exact⟨.int _,H,I.tok _,⟨_,rfl⟩,q⟩
end
open AutoSeq1 (wpAny_loadPart')in
section
variable {K:EG} {σ:St} {H:Hp} {Q:VK}
end
section
variable {X:Cx}
end
end L2
namespace L2.Og.Tb
open PySem
def nx(m i:Nat):Nat:=(i*5+1) % (m+1)
def it(m:Nat):Nat->Nat->Nat
 | 0,i=>i
 | n+1,i=>it m n (nx m i)
def kT(m:Nat):∀a b i,it m (a+b) i=it m b (it m a i)
 | 0,b,i=>by rw[Nat.zero_add];rfl
 | a+1,b,i=>by rw[Nat.succ_add];exact kT m a b (nx m i)
def mQ(m:Nat):Nat->Nat->List Nat
 | 0,_=>[]
 | n+1,i=>i::mQ m n (nx m i)
def q9{m:Nat}:∀{n i j:Nat},j∈mQ m n i->∃k,k<n/\it m k i=j
 | 0,_,_,h=>by cases h
 | n+1,i,j,h=>by
  rcases E1.mp h with rfl|h
  ·exact⟨0,Nat.succ_pos _,rfl⟩
  ·obtain⟨k,hk,e⟩:=q9 h;exact⟨k+1,Nat.succ_lt_succ hk,e⟩
def good(m:Nat):Bool:=(FE (m+1)).all (λj=>(mQ m (m+1) 0).contains j) && it m (m+1) 0 == 0
def yJ:good 7=true:=by decide +kernel
def CY:good 31=true:=by decide +kernel
def yX:good 127=true:=by decide +kernel
def zA:good 511=true:=by decide +kernel
def Mask(m:Nat):Prop:=m=7\/m=31\/m=127\/m=511
def Mask.good{m:Nat}(h:Mask m):good m=true:=by
 rcases h with rfl|rfl|rfl|rfl
 ·exact yJ
 ·exact CY
 ·exact yX
 ·exact zA
def vG{m:Nat}(h:Mask m){j:Nat}(hj:j<=m):∃k,k<=m/\it m k 0=j:=by have:=h.good;unfold Tb.good at this;rw[Fo,Fl]at this;have h1:=this.1 j (List.mem_range.mpr (by omega));rw[List.contains_iff_mem]at h1;obtain⟨k,hk,e⟩:=q9 h1;exact⟨k,by omega,e⟩
def round0{m:Nat}(h:Mask m):it m (m+1) 0=0:=by have:=h.good;unfold Tb.good at this;rw[Fo]at this;exact eq_of_beq this.2
def reach{m:Nat}(h:Mask m){i j:Nat}(hi:i<=m)(hj:j<=m):∃k,k<=m/\it m k i=j:=by
 obtain⟨a,ha,ea⟩:=vG h hi;obtain⟨b,hb,eb⟩:=vG h hj;rcases Fx b a with hlt|hge
 ·refine⟨m+1-a+b,by omega,?_⟩;rw[←ea,←kT,show a+(m+1-a+b)=(m+1)+b by omega,kT,round0 h];exact eb
 ·refine⟨b-a,by omega,?_⟩;rw[←ea,←kT,show a+(b-a)=b by omega];exact eb
def lp(m:Nat):Nat->Nat×Nat->Nat×Nat
 | 0,s=>s
 | n+1,s=>lp m n (SetTable.leap m s.1 s.2)
def oh(m:Nat):∀n s,lp m (n+1) s=SetTable.leap m (lp m n s).1 (lp m n s).2
 | 0,s=>rfl
 | n+1,s=>by show lp m (n+1) (SetTable.leap m s.1 s.2)=_;rw[oh m n];rfl
def uW(m:Nat):∀n s,(lp m n s).2=s.2 / 32 ^ n
 | 0,s=>by simp[lp]
 | n+1,s=>by rw[oh m n s];show(lp m n s).2 / 32=_;rw[uW m n s,Nat.div_div_eq_div_mul,Nat.pow_succ]
def tI(m:Nat):∀n s,s.1<=m->(lp m n s).1<=m
 | 0,s,h=>h
 | n+1,s,h=>by rw[oh m n s];show(_ % (m+1))<=m;have:=Nat.mod_lt ((lp m n s).1*5+1+(lp m n s).2 / 32) (show 0<m+1 by omega);omega
def qZ(m:Nat):∀n i,(lp m n (i,0)).1=it m n i
 | 0,i=>rfl
 | n+1,i=>by show(lp m n (SetTable.leap m i 0)).1=it m n (nx m i);have:SetTable.leap m i 0=(nx m i,0):=rfl;rw[this];exact qZ m n _
def vE(m:Nat):∀a b s,lp m (a+b) s=lp m b (lp m a s)
 | 0,b,s=>by rw[Nat.zero_add];rfl
 | a+1,b,s=>by rw[Nat.succ_add];exact vE m a b _
def sT{m:Nat}(h:Mask m){i p j:Nat}(hi:i<=m)(hp:p<2 ^ 64)(hj:j<=m):∃n,n<=m+13/\(lp m n (i,p)).1=j:=by
 have hz:(lp m 13 (i,p)).2=0:=by rw[uW];exact Nat.div_eq_of_lt (Fh hp (by decide))
 obtain⟨k,hk,e⟩:=reach h (tI m 13 (i,p) hi) hj;refine⟨13+k,by omega,?_⟩;rw[vE];have:lp m 13 (i,p)=((lp m 13 (i,p)).1,0):=by rw[←hz]
 rw[this,qZ];exact e
def pW(h:Int):SetTable.bits h<2 ^ 64:=by unfold SetTable.bits;have h1:=Int.emod_lt_of_pos h (show(0:Int)<2 ^ 64 by decide);have h2:=Int.emod_nonneg h (show(2:Int) ^ 64≠0 by decide);omega
def cE(t:SetTable):Nat->SetTable.Probe->SetTable.Probe
 | 0,p=>p
 | n+1,p=>cE t n (t.advance p)
def nQ(t:SetTable):∀a b p,cE t (a+b) p=cE t b (cE t a p)
 | 0,b,p=>by rw[Nat.zero_add];rfl
 | a+1,b,p=>by rw[Nat.succ_add];exact nQ t a b _
def at_(t:SetTable)(s:Nat×Nat):SetTable.Probe:={ j:=s.1,more:=SetTable.runEnd t.mask s.1-s.1,i:=s.1,perturb:=s.2,dummy:=none }
def uf(t:SetTable):∀(r:Nat) (p:SetTable.Probe),p.more=r->cE t (r+1) p={ p with j:=(SetTable.leap t.mask p.i p.perturb).1,more:=SetTable.runEnd t.mask (SetTable.leap t.mask p.i p.perturb).1-(SetTable.leap t.mask p.i p.perturb).1,i:=(SetTable.leap t.mask p.i p.perturb).1,perturb:=(SetTable.leap t.mask p.i p.perturb).2 }
 | 0,p,h=>by show t.advance p=_;unfold SetTable.advance;rw[FH (by omega)]
 | r+1,p,h=>by
  show cE t (r+1) (t.advance p)=_;have e:t.advance p={ p with j:=p.j+1,more:=p.more-1 }:=by unfold SetTable.advance;rw[FI (by omega)]
  rw[e,uf t r _ (by show p.more-1=r;omega)]
def zS(t:SetTable)(s:Nat×Nat):∃k,k<=10/\cE t k (at_ t s)=at_ t (SetTable.leap t.mask s.1 s.2):=by
 refine⟨SetTable.runEnd t.mask s.1-s.1+1,?_,?_⟩
 ·unfold SetTable.runEnd;split<;>omega
 ·exact(uf t (SetTable.runEnd t.mask s.1-s.1) (at_ t s) rfl).trans rfl
def sP(t:SetTable):∀(n:Nat) (s:Nat×Nat),∃k,k<=10*n/\cE t k (at_ t s)=at_ t (lp t.mask n s)
 | 0,s=>⟨0,E6 _,rfl⟩
 | n+1,s=>by obtain⟨k1,h1,e1⟩:=zS t s;obtain⟨k2,h2,e2⟩:=sP t n (SetTable.leap t.mask s.1 s.2);refine⟨k1+k2,by omega,?_⟩;rw[nQ,e1,e2];rfl
def DY(t:SetTable)(h:Int):t.probeStart h=at_ t (SetTable.bits h % (t.mask+1),SetTable.bits h):=rfl
def A1{t:SetTable}(hm:Mask t.mask){j:Nat}(hj:j<=t.mask)(h:Int):∃K,K<10*SetTable.turns t.mask/\(cE t K (t.probeStart h)).j=j:=by
 have h1:SetTable.bits h % (t.mask+1)<=t.mask:=by have:=Nat.mod_lt (SetTable.bits h) (show 0<t.mask+1 by omega);omega
 obtain⟨n,hn,e⟩:=sT hm h1 (pW h) hj;obtain⟨K,hK,eK⟩:=sP t n (SetTable.bits h % (t.mask+1),SetTable.bits h);refine⟨K,by unfold SetTable.turns;omega,?_⟩;rw[DY,eK];exact e
def tm{t:SetTable}{j i:Nat}(h:t.slot j=.live i):t.place[i]?=some j:=by
 unfold SetTable.slot at h;dsimp only at h;split at h
 ·rename_i hq;cases h;exact eq_of_beq hq
 ·split at h<;>cases h
def ub(j:Nat):SetTable.has #[] j=false:=rfl
def wC{t:SetTable}(hd:t.dummies = #[])(j:Nat):t.slot j=.empty\/∃i,t.slot j=.live i:=by
 unfold SetTable.slot;dsimp only;split
 ·exact .inr ⟨_,rfl⟩
 ·rw[hd,ub];exact .inl rfl
def tD:∀(n:Nat) (l:List Nat),(∀j,j<n->j∈l)->n<=l.length
 | 0,l,_=>Nat.zero_le _
 | n+1,l,h=>by have hn:=h n (Nat.lt_succ_self n);have:=tD n (l.erase n) λj hj=>(List.mem_erase_of_ne (by omega)).mpr (h j (by omega));rw[List.length_erase_of_mem hn]at this;have:0<l.length:=List.length_pos_of_mem hn;omega
def Cy{t:SetTable}(hd:t.dummies = #[])(h:t.place.size<=t.mask):∃j,j<=t.mask/\t.slot j=.empty:=by
 rcases Classical.em (∃j,j<=t.mask/\t.slot j=.empty)with h1|h1
 ·exact h1
 ·exfalso;have:=tD (t.mask+1) t.place.toList λj hj=>by
   rcases wC hd j with h2|⟨i,h2⟩
   ·exact absurd ⟨j,by omega,h2⟩ h1
   ·have:=tm h2;rw[←Array.getElem?_toList]at this;exact EV this
  rw[EO]at this;omega
def lB(t:SetTable):∀n p,(cE t n p).dummy=p.dummy
 | 0,p=>rfl
 | n+1,p=>by show(cE t n (t.advance p)).dummy=_;rw[lB t n];unfold SetTable.advance;split<;>rfl
def yo{t:SetTable}(hd:t.dummies = #[])(hash:Nat->Int)(h:Int):∀(K fuel:Nat) (p:SetTable.Probe),K<fuel->p.dummy=none->t.slot (cE t K p).j=.empty →
  (∃j,SetTable.probe.go t hash h fuel p=some (.empty j none))\/∃k j i,k<K/\SetTable.probe.go t hash h fuel p=some (.candidate j i (cE t (k+1) p))/\t.slot j=.live i:=by
 intro K;induction K with
 | zero=>
  intro fuel p hf hp hs;obtain⟨f,rfl⟩:∃f,fuel=f+1:=⟨fuel-1,by omega⟩;refine .inl ⟨p.j,?_⟩;have hs':t.slot p.j=.empty:=hs;unfold SetTable.probe.go;rw[hs'];dsimp only;rw[hp]
 | succ K ih=>
  intro fuel p hf hp hs;obtain⟨f,rfl⟩:∃f,fuel=f+1:=⟨fuel-1,by omega⟩;unfold SetTable.probe.go;rcases wC hd p.j with h1|⟨i,h1⟩
  ·rw[h1];dsimp only;rw[hp];exact .inl ⟨p.j,rfl⟩
  ·rw[h1];dsimp only;by_cases hq:(hash i == h)=true
   ·rw[FI hq];exact .inr ⟨0,p.j,i,Nat.succ_pos _,rfl,h1⟩
   ·rw[FH hq];have hp':(t.advance p).dummy=none:=by have:=lB t 1 p;rw[hp]at this;exact this
    rcases ih f (t.advance p) (by omega) hp' hs with⟨j,e⟩|⟨k,j,i',hk,e,hl⟩
    ·exact .inl ⟨j,e⟩
    ·exact .inr ⟨k+1,j,i',by omega,e,hl⟩
def pZ{α:Type}:∀{l:List (Option α)} {j:Nat} {k:α},l[j]?=some none->((l.set j (some k)).filterMap id).Perm (k::l.filterMap id)
 | [],j,k,h=>by cases h
 | x::l,0,k,h=>by
  have:x=none:=by simpa using h
  subst this;exact .refl _
 | x::l,j+1,k,h=>by
  have h':l[j]?=some none:=by simpa using h
  have ih:=pZ (k:=k) h';cases x with
  | none=>exact ih
  | some y=>exact(List.Perm.cons y ih).trans (.swap _ _ _)
def Dc{α:Type}(l:List (Option α)):(l.filterMap id).length+(l.filter (·.isNone)).length=l.length:=by
 induction l with
 | nil=>rfl
 | cons x l ih=>
  cases x<;>simp at ih ⊢<;>omega
def A8{m:Nat}(hm:Mask m)(owner:Array (Option Nat))(hz:owner.size=m+1){j:Nat}(hj:owner[j]?=some none):∀(fuel n i p:Nat),i<=m->n<fuel->(lp m n (i,p)).1=j →
  ∃j',SetTable.layClean.free m owner fuel i p=some j'/\owner[j']?=some none:=by
 intro fuel;induction fuel with
 | zero=>intro n i p _ h;omega
 | succ fuel ih=>
  intro n i p hi hn he;unfold SetTable.layClean.free;split
  ·rename_i k hk;have h1:=List.find?_some hk;have h2:=List.mem_range.mp (List.mem_of_find?_eq_some hk);refine⟨i+k,rfl,?_⟩;have hb:i+k<owner.size:=by rw[hz];unfold SetTable.runEnd at h2;split at h2<;>omega
   rw[Array.getElem?_eq_getElem hb];have:owner.getD (i+k) (some 0)=owner[i+k]:=by rw[Array.getD_eq_getD_getElem?,Array.getElem?_eq_getElem hb];rfl
   rw[this]at h1;congr 1;cases hq:owner[i+k]with
   | none=>rfl
   | some y=>rw[hq]at h1;cases h1
  ·rename_i hk;cases n with
   | zero=>
    exfalso;have h0:i=j:=he;have:=List.find?_eq_none.mp hk 0 (List.mem_range.mpr (by unfold SetTable.runEnd;split<;>omega));rw[Nat.add_zero,h0,Array.getD_eq_getD_getElem?,hj]at this;simp at this
   | succ n=>
    have:=tI m 1 (i,p) hi;exact ih n (SetTable.leap m i p).1 (SetTable.leap m i p).2 this (by omega) he
def j7(mask:Nat)(acc:Option (Array (Option Nat)×Nat))(h:Int):Option (Array (Option Nat)×Nat):=do
 let (owner,k) ←acc;let j ←SetTable.layClean.free mask owner (SetTable.turns mask) (SetTable.bits h % (mask+1)) (SetTable.bits h)
 pure (owner.setIfInBounds j (some k),k+1)
def AE{l:List (Option Nat)}(h:(l.filterMap id).length<l.length):∃j:Nat,l[j]?=some none:=by
 have:=Dc l;have h1:0<(l.filter (·.isNone)).length:=by omega
 obtain⟨x,hx⟩:=List.exists_mem_of_length_pos h1;obtain⟨hx1,hx2⟩:=List.mem_filter.mp hx;have:x=none:=by cases x<;>simp_all
 subst this;obtain⟨j,hj⟩:=Fy hx1;exact⟨j,hj⟩
def wM{m:Nat}(hm:Mask m):∀(hs:List Int) (owner:Array (Option Nat)) (k:Nat),owner.size=m+1->(owner.toList.filterMap id).Perm (FE k)->k+hs.length<=m →
  ∃owner',hs.foldl (j7 m) (some (owner,k))=some (owner',k+hs.length)/\owner'.size=m+1/\(owner'.toList.filterMap id).Perm (FE (k+hs.length))
 | [],owner,k,h1,h2,h3=>⟨owner,rfl,h1,h2⟩
 | h::hs,owner,k,h1,h2,h3=>by
  rw[Fe]at h3 ⊢;have hlt:(owner.toList.filterMap id).length<owner.toList.length:=by rw[h2.length_eq,List.length_range,EO,h1];omega
  obtain⟨j,hj⟩:=AE hlt;rw[Array.getElem?_toList]at hj;have hjm:j<=m:=by have:=(Array.getElem?_eq_some_iff.mp hj).1;omega
  have hi:SetTable.bits h % (m+1)<=m:=by have:=Nat.mod_lt (SetTable.bits h) (show 0<m+1 by omega);omega
  obtain⟨n,hn,en⟩:=sT hm hi (pW h) hjm;obtain⟨j',e',hj'⟩:=A8 hm owner h1 hj (SetTable.turns m) n _ _ hi (by unfold SetTable.turns;omega) en;have step:j7 m (some (owner,k)) h=some (owner.setIfInBounds j' (some k),k+1):=by unfold j7;simp[e']
  rw[List.foldl_cons,step];have hp:((owner.setIfInBounds j' (some k)).toList.filterMap id).Perm (FE (k+1)):=by rw[Array.toList_setIfInBounds];rw[←Array.getElem?_toList]at hj';refine(pZ hj').trans ?_;rw[List.range_succ];exact(List.Perm.cons k h2).trans (List.perm_append_comm (l₁:=[k]) (l₂:=FE k))
  obtain⟨o',f1,f2,f3⟩:=wM hm hs (owner.setIfInBounds j' (some k)) (k+1) (by simpa using h1) hp (by omega);exact⟨o',by rw[f1];congr 2;omega,f2,by rw[show k+(hs.length+1)=k+1+hs.length by omega];exact f3⟩
def zB(t:SetTable){hashes:Array Int}{wanted m:Nat}(hm:Mask m)(hw:SetTable.sizeAbove wanted-1=m)(hn:hashes.size<=m):
  ∃t' order,t.relaid hashes wanted=some (t',order)/\t'.place.size=hashes.size/\t'.dummies = #[]/\t'.mask=m/\order.toList.Perm (FE hashes.size):=by
 obtain⟨o',f1,f2,f3⟩:=wM hm hashes.toList (Array.replicate (m+1) none) 0 (by simp) (by simp) (by rw[EO];omega);rw[EO,Nat.zero_add]at f1 f3;have hlay:SetTable.layClean m hashes=some o':=by show(hashes.foldl (j7 m) (some (Array.replicate (m+1) none,0))).map (·.1)=some o';rw[←Array.foldl_toList,f1];rfl
 have hsnd:((FE (m+1)).filterMap λj=>(o'.getD j none).map (j,·)).map (·.2)=o'.toList.filterMap id:=by
  rw[List.map_filterMap];have:o'.toList=(FE (m+1)).map λj=>o'.getD j none:=by
   apply List.ext_getElem
   ·rw[EO,EK,List.length_range,f2]
   ·intro i h1 h2;rw[EO]at h1;simp[h1]
  rw[this,List.filterMap_map];congr 1;funext j;show((o'.getD j none).map (j,·)).map (·.2)=o'.getD j none;cases o'.getD j none<;>rfl
 have hrel:t.relaid hashes wanted=some (({ mask:=m,place:=(((FE (m+1)).filterMap λj=>(o'.getD j none).map (j,·)).map (·.1)).toArray,dummies:=#[],finger:=t.finger,led:=t.led,moves:=t.movedTo m,plain:=t.plain }:SetTable),(((FE (m+1)).filterMap λj=>(o'.getD j none).map (j,·)).map (·.2)).toArray):=by unfold SetTable.relaid;rw[hw];unfold SetTable.laid;rw[hlay];rfl
 refine⟨_,_,hrel,?_,rfl,rfl,?_⟩
 ·show(((FE (m+1)).filterMap λj=>(o'.getD j none).map (j,·)).map (·.1)).toArray.size=_;rw[ER,EK];have:=congrArg List.length hsnd;rw[EK,f3.length_eq,List.length_range]at this;exact this
 ·show(((FE (m+1)).filterMap λj=>(o'.getD j none).map (j,·)).map (·.2)).toArray.toList.Perm _;rw[List.toList_toArray,hsnd];exact f3
def mR{α:Type}(xs:Array α)(p:Nat)(x:α):(SetTable.insertAt xs p x).size=xs.size+1:=by unfold SetTable.insertAt;simp;omega
def Cv{α:Type}{xs:Array α}{p:Nat}{x e:α}(h:e∈(SetTable.insertAt xs p x).toList):e=x\/e∈xs.toList:=by
 unfold SetTable.insertAt at h;simp only[Array.toList_append,Array.toList_push,Array.toList_extract,E9,EW]at h;rcases h with(h|h)|h
 ·exact .inr (List.mem_of_mem_take (by simpa using h))
 ·exact .inl h
 ·exact .inr (List.mem_of_mem_drop (List.mem_of_mem_take h))
def zu:SetTable.sizeAbove 20-1=31:=by decide +kernel
def AN:SetTable.sizeAbove 76-1=127:=by decide +kernel
def Bv:SetTable.sizeAbove 308-1=511:=by decide +kernel
end L2.Og.Tb
namespace L2.Og
open PySem PySem.Spec PyProof.Rows
section
variable {P:Program} {w:World} {A:Around} {E:Value->Shared->Prop} {s:Shared} {K:Type} [DecidableEq K] {knd:KeyKind P w K}
def w5{ks:List K}{vs:List Value}(h:ItemsAre knd ks vs):∀v∈vs,∀b,v≠.ref b:=λv hv b e=>by have:=h.byValue v hv;subst e;cases this
def De(n:Nat){v:Value}(h:∀b,v≠.ref b):ofAClassStatement n v=pure false:=by
 cases v with
 | ref b=>exact absurd rfl (h b)
 | _=>unfold ofAClassStatement;rfl
def xn{ks:List K}{b:Addr}{Q:Bool->Shared->Prop}(hk:IsTupleKey knd s.heap ks b)(h:Q false s):wpAny (model P w) A (ofAClassStatement 8 (.ref b)) Q E s:=by
 have hT:=hk.typeIs;obtain⟨o,items,n,ho,hc,hd,hi⟩:=hk;unfold ofAClassStatement;refine EE (wpAny_typeOf hT ?_);dsimp only;refine EE (EF ?_);simp only[Bool.not_true,Fw,if_false];refine EE (wpAny_seqItems ho hd ?_);dsimp only;refine EE ?_;rw[←Array.forIn_toList];refine wpAny_forIn_list _ (λrest r s'=>r.1=none/\s'=s/\∀v∈rest,∀b,v≠.ref b) _ ?_ ?_ _ _ ⟨rfl,rfl,w5 hi⟩
 ·rintro v rest r s' ⟨hr,rfl,hall⟩;rw[De _ (hall v ES)];refine EE (EF ?_);simp only[Fw,if_false];exact EF ⟨rfl,rfl,λu hu=>hall u (EN _ hu)⟩
 ·rintro⟨r1,r2⟩ s' ⟨hr,rfl,_⟩;simp only at hr;subst hr;exact EF h
def zj{ks:List K}{b:Addr}{l:List Value}{Q:Bool->Shared->Prop}(hk:IsTupleKey knd s.heap ks b)(hl:∀y∈l,∃b' k',y=.ref b'/\IsTupleKey knd s.heap k' b')(h:Q false s):wpAny (model P w) A (searchCouldBeSeen (.ref b) l) Q E s:=by
 unfold searchCouldBeSeen;refine EE ?_;refine wpAny_forIn_list _ (λrest r s'=>r.1=none/\s'=s/\∀y∈rest,∃b' k',y=.ref b'/\IsTupleKey knd s.heap k' b') _ ?_ ?_ _ _ ⟨rfl,rfl,hl⟩
 ·rintro v rest r s' ⟨hr,rfl,hall⟩;obtain⟨b',k',rfl,hk'⟩:=hall v ES;have next:∀y∈rest,∃b' k',y=.ref b'/\IsTupleKey knd s'.heap k' b':=λy hy=>hall y (EN _ hy)
  dsimp only;split
  ·exact EF ⟨rfl,rfl,next⟩
  ·refine EE (wpAny_eqIsQuiet_tuple hk ?_);simp only[Bool.not_true,Fw,if_false];refine EE (wpAny_eqIsQuiet_tuple hk' ?_);simp only[Bool.not_true,Fw,if_false];refine EE (xn hk ?_);simp only[Fw,if_false];refine EE (xn hk' ?_);simp only[Fw,if_false];exact EF ⟨rfl,rfl,next⟩
 ·rintro⟨r1,r2⟩ s' ⟨hr,rfl,_⟩;simp only at hr;subst hr;exact EF h
def Aa{a b:Addr}{k:List K}{h:Int}{o:Obj}{es:Array (Int×Value)}{ep:Nat}{t:SetTable}(hu:A.units<cLine)(hk:IsTupleKey knd s.heap k b)(ho:s.heap.get? a=some o)(hd:o.data=.set es ep t)(hf:t.fits es.size=true)(hm:Tb.Mask t.mask)(hdm:t.dummies = #[])
  (hall:∀e∈es.toList,∃b' k',e.2=.ref b'/\IsTupleKey knd s.heap k' b'/\k'≠k) {Q:SetFound->Shared->Prop} (hQ:∀j,Q (.free j false) s) :
  ∀(K fuel:Nat) (stand:Option SetTable.Probe),K<fuel->K<10*SetTable.turns t.mask->(stand.getD (t.probeStart h)).dummy=none->t.slot (Tb.cE t K (stand.getD (t.probeStart h))).j=.empty →
   wpAny (model P w) A (setSearchFrom a (.ref b) h true fuel stand) Q E s:=by
 intro K;induction K using Nat.strongRecOn with
 | ind K ih=>
  intro fuel stand hfu hK hdu hs;obtain⟨f,rfl⟩:∃f,fuel=f+1:=⟨fuel-1,by omega⟩;unfold setSearchFrom;refine EE (FC ho hd hf ?_);dsimp only;have hg:t.gaveWay=false:=by unfold SetTable.gaveWay;rcases hm with e|e|e|e<;>rw[e]<;>rfl
  have hsz:t.place.size=es.size:=by simp only[SetTable.fits,Fo,beq_iff_eq]at hf;exact hf.1
  have hsm:t.sameMemory t.moves t.mask=some true:=by unfold SetTable.sameMemory;rw[FI (beq_self_eq_true _)]
  rw[hg];simp only[Fw,if_false];generalize hr:t.probe _ h (stand.getD (t.probeStart h))=r;obtain⟨g,hr⟩:∃g,SetTable.probe.go t g h (10*SetTable.turns t.mask) (stand.getD (t.probeStart h))=r:=⟨_,hr⟩;rcases Tb.yo hdm g h K _ _ hK hdu hs with⟨j,e⟩|⟨k',j,i,hk',e,hl⟩
  ·rw[e]at hr;subst hr;exact EF (hQ j)
  ·rw[e]at hr;subst hr;have hpl:=Tb.tm hl;have hi:i<es.size:=by rw[←hsz];exact(Array.getElem?_eq_some_iff.mp hpl).1
   have hmem:es[i]∈es.toList:=by simp
   obtain⟨b',k2,hy,hk2,hne⟩:=hall _ hmem;have hes:es[i]?=some (es[i].1,.ref b'):=by rw[Array.getElem?_eq_getElem hi,←hy]
   have hst:∀y∈((es.filter λx=>x.1 == h).toList.map λx=>x.2),∃b' k',y=Value.ref b'/\IsTupleKey knd s.heap k' b':=λy hy=>by
    obtain⟨e0,he0,rfl⟩:=List.mem_map.mp hy;have he1:e0∈es.toList:=by have:=Array.mem_toList_iff.mp he0;exact Array.mem_toList_iff.mpr (Array.mem_filter.mp this).1
    obtain⟨b3,k3,h1,h2,_⟩:=hall e0 he1;exact⟨b3,k3,h1,h2⟩
   have again:wpAny (model P w) A (setSearchFrom a (.ref b) h true f (some (Tb.cE t (k'+1) (stand.getD (t.probeStart h))))) Q E s:=by
    refine ih (K-(k'+1)) (by omega) f _ (by omega) (by omega) ?_ ?_
    ·show(Tb.cE t (k'+1) _).dummy=none;rw[Tb.lB];exact hdu
    ·show t.slot (Tb.cE t (K-(k'+1)) (Tb.cE t (k'+1) _)).j=_;rw[←Tb.nQ,show k'+1+(K-(k'+1))=K by omega];exact hs
   have same:isSame (Value.ref b') (Value.ref b')=pure true:=by unfold isSame;simp
   dsimp only;cases hled:t.led
   ·simp only[Bool.not_false,if_true];refine EE (zj hk hst ?_);simp only[Fw,if_false];rw[hes];dsimp only;refine EE (wpAny_holding (wpAny_eqBool_tuple hu hk2 hk ?_));rw[FF hne];refine EE (FC ho hd hf ?_);dsimp only;simp only[Bool.and_false,Fw,if_false,hsm,if_true,hl,hes,same];exact EE (EF (EE (EF again)))
   ·simp only[Bool.not_true,Fw,if_false];rw[hes];dsimp only;refine EE (wpAny_holding (wpAny_eqBool_tuple hu hk2 hk ?_));rw[FF hne];refine EE (FC ho hd hf ?_);dsimp only;simp only[Bool.and_false,Fw,if_false,hsm,if_true,hl,hes,same];exact EE (EF (EE (EF again)))
def fu(knd:KeyKind P w K)(h:Heap)(a:Addr)(ks:List (List K)):Prop:=
 ∃o es ep t,h.get? a=some o/\o.ExactSet/\o.data=.set es ep t/\t.place.size=es.size/\t.dummies = #[]/\Tb.Mask t.mask/\es.size*5<t.mask*3/\es.size=ks.length/\∀e∈es.toList,∃b k,e.2=.ref b/\k∈ks/\IsTupleKey knd h k b
def nZ{h h':Heap}{a b:Addr}{k:List K}{o:Obj}{es:Array (Int×Value)}{ep:Nat}{t:SetTable}(hk:IsTupleKey knd h k b)(ho:h.get? a=some o)(hd:o.data=.set es ep t)(hs:Heap.SameBut a h h'):IsTupleKey knd h' k b:=by
 obtain⟨o',items,n,ho',hc,hd',hi⟩:=hk;have hne:b≠a:=by rintro rfl;rw[ho]at ho';cases ho';rw[hd]at hd';cases hd'
 exact⟨o',items,n,(hs.2 b hne).trans ho',hc,hd',hi⟩
def AJ(n:Nat){v:Value}(h:∀b,v≠.ref b):∃c,hashByValue n v=pure c:=by
 cases v with
 | ref b=>exact absurd rfl (h b)
 | _=>exact⟨_,by cases n<;>unfold hashByValue<;>rfl⟩
def CW{ks:List K}{b:Addr}{Q:Bool->Shared->Prop}(hk:IsTupleKey knd s.heap ks b)(h:∀c,Q c s):wpAny (model P w) A (hashByValue 8 (.ref b)) Q E s:=by
 have hT:=hk.typeIs;obtain⟨o,items,n,ho,hc,hd,hi⟩:=hk;unfold hashByValue;refine EE (wpAny_specialOf hT F.slot_tuple_hash.lookup ?_);dsimp only;refine EE (wpAny_seqItems ho hd ?_);dsimp only[Option.getD_some];refine EE ?_;rw[←Array.forIn_toList];refine wpAny_forIn_list _ (λrest r s'=>(r.1=none\/∃c,r.1=some c)/\s'=s/\∀v∈rest,∀b,v≠.ref b) _ ?_ ?_ _ _ ⟨.inl rfl,rfl,w5 hi⟩
 ·rintro v rest r s' ⟨hr,rfl,hall⟩;obtain⟨c,hc'⟩:=AJ 7 (hall v ES);rw[hc'];refine EE (EF ?_);cases c
  ·show wpAny _ _ (pure (ForInStep.done (some false,()))) _ _ _;exact EF (EF (h false))
  ·simp only[Bool.not_true,Fw,if_false];exact EF ⟨.inl rfl,rfl,λu hu=>hall u (EN _ hu)⟩
 ·rintro⟨r1,r2⟩ s' ⟨hr,rfl,_⟩;simp only at hr;rcases hr with rfl|⟨c,rfl⟩
  ·exact EF (h true)
  ·exact EF (h c)
def DG{α:Type}{es:Array α}{order:Array Nat}(h:order.toList.Perm (FE es.size)):(order.filterMap (es[·]?)).size=es.size/\∀e∈(order.filterMap (es[·]?)).toList,e∈es.toList:=by
 have key:∀l:List Nat,(∀i∈l,i<es.size)->(l.filterMap (es[·]?)).length=l.length/\∀e∈l.filterMap (es[·]?),e∈es.toList:=by
  intro l;induction l with
  | nil=>intro _;exact⟨rfl,λe he=>by cases he⟩
  | cons x l ih=>
   intro hl;obtain⟨i1,i2⟩:=ih λi hi=>hl i (EN _ hi);have hx:=hl x ES;have e:(x::l).filterMap (es[·]?)=es[x]::l.filterMap (es[·]?):=by rw[List.filterMap_cons];simp[hx]
   rw[e];refine⟨by rw[Fe,Fe,i1],λy hy=>?_⟩;rcases E1.mp hy with rfl|hy
   ·simp
   ·exact i2 y hy
 have hlt:∀i∈order.toList,i<es.size:=λi hi=>List.mem_range.mp (h.mem_iff.mp hi);obtain⟨k1,k2⟩:=key order.toList hlt;rw[Array.toList_filterMap];refine⟨?_,k2⟩;rw[←EO,Array.toList_filterMap,k1,h.length_eq,List.length_range]
def DW{a:Addr}{o:Obj}{es es1:Array (Int×Value)}{ep n:Nat}{t t1:SetTable}{ks1:List (List K)}{Q:Bool->Shared->Prop}(ho:s.heap.get? a=some o)(hex:o.ExactSet)(hd:o.data=.set es ep t)(hs1:es1.size=n+1)(hp1:t1.place.size=es1.size)(hdm1:t1.dummies = #[])
  (hm1:Tb.Mask t1.mask) (hfull:n*5<t1.mask*3) (hn:n<200) (hlen:ks1.length=n+1) (hall1:∀e∈es1.toList,∃b k,e.2=.ref b/\k∈ks1/\IsTupleKey knd s.heap k b)
  (h:∀h',Heap.SameBut a s.heap h'->fu knd h' a ks1->Q true { s with heap:=h' }) :
  wpAny (model P w) A (do
   storeSet a es1 t1
   if(!false && t1.tooFull)=true then do
    setRelay a (SetTable.grown (n+1))
    pure true
   else pure true) Q E s:=by
 have hline:n+1<=sizeLine:=Fi (show n+1<=1000 by omega) (by decide);refine EE (wpAny_storeSet_of ho hd ?_ (by omega));have ho1:(s.heap.update a (Obj.putSet es1 t1)).get? a=some { o with data:=.set es1 (ep+1) t1 }:=by have:=Heap.get?_update_self (Obj.putSet es1 t1) ho (by rw[putSet_of es1 t1 hd];rfl);rw[putSet_of es1 t1 hd]at this;exact this
 have hsb1:=Heap.SameBut.update s.heap a (Obj.putSet es1 t1);generalize s.heap.update a (Obj.putSet es1 t1)=h1 at ho1 hsb1;have hall2:∀e∈es1.toList,∃b k,e.2=.ref b/\k∈ks1/\IsTupleKey knd h1 k b:=λe he=>by obtain⟨b,k,z1,z2,z3⟩:=hall1 e he;exact⟨b,k,z1,z2,nZ z3 ho hd hsb1⟩
 have hfill:t1.fill=n+1:=by unfold SetTable.fill;rw[hdm1,hp1,hs1];rfl
 by_cases hq:t1.tooFull=true
 ·rw[hq];simp only[Bool.not_false,Bool.and_self,if_true];have hq':t1.mask*3<=(n+1)*5:=by unfold SetTable.tooFull at hq;rw[hfill]at hq;simpa using hq
  obtain⟨m,hm,hw,hmn,hlt⟩:∃m,Tb.Mask m/\SetTable.sizeAbove (SetTable.grown (n+1))-1=m/\n+1<=m/\(n+1)*5<m*3/\SetTable.sizeAbove (SetTable.grown (n+1))<=sizeLine:=by
   have hg:SetTable.grown (n+1)=(n+1)*4:=by unfold SetTable.grown;rw[FH (by omega)]
   rw[hg];rcases hm1 with e|e|e|e<;>rw[e]at hfull hq'
   ·obtain rfl:n=4:=by omega
    exact⟨31,.inr (.inl rfl),Tb.zu,by omega,by omega,by decide +kernel⟩
   ·obtain rfl:n=18:=by omega
    exact⟨127,.inr (.inr (.inl rfl)),Tb.AN,by omega,by omega,by decide +kernel⟩
   ·obtain rfl:n=76:=by omega
    exact⟨511,.inr (.inr (.inr rfl)),Tb.Bv,by omega,by omega,by decide +kernel⟩
   ·omega
  have hfit1:t1.fits es1.size=true:=by simp only[SetTable.fits,Fo,beq_iff_eq,decide_eq_true_eq];refine⟨hp1,?_⟩;rw[hfill];rcases hm1 with e|e|e|e<;>omega
  obtain⟨t2,order,hrel,hp2,hd2,hm2,hperm⟩:=Tb.zB t1 (hashes:=es1.map (·.1)) hm hw (by rw[Array.size_map];omega);rw[Array.size_map]at hp2 hperm;obtain⟨r1,r2⟩:=DG hperm;refine EE ?_;unfold setRelay;refine EE (FC (s:={ s with heap:=h1 }) ho1 rfl hfit1 ?_);dsimp only;rw[FH (Nat.not_lt.mpr hlt.2),hrel];refine EE ?_;show wpAny _ _ (do
   if(order.filterMap (es1[·]?)).size != es1.size then unsupported "internal:set-table-lost-an-element"
   pure (order.filterMap (es1[·]?),t2)) _ _ _
  rw[r1];simp only[bne_self_eq_false,Fw,if_false];refine EF ?_;dsimp only;refine wpAny_storeSet_of (s:={ s with heap:=h1 }) ho1 rfl ?_ (by rw[r1];omega);have ho2:(h1.update a (Obj.putSet (order.filterMap (es1[·]?)) t2)).get? a=some { o with data:=.set (order.filterMap (es1[·]?)) (ep+1+1) t2 }:=by have:=Heap.get?_update_self (Obj.putSet (order.filterMap (es1[·]?)) t2) ho1 (by rw[putSet_of _ _ (o:={ o with data:=.set es1 (ep+1) t1 }) rfl];rfl);rw[putSet_of _ _ (o:={ o with data:=.set es1 (ep+1) t1 }) rfl]at this;exact this
  have hsb2:=Heap.SameBut.update h1 a (Obj.putSet (order.filterMap (es1[·]?)) t2);refine EF (h _ (hsb1.trans hsb2) ⟨_,_,_,t2,ho2,hex,rfl,by rw[r1];exact hp2,hd2,by rw[hm2];exact hm,by rw[r1,hm2,hs1];exact hlt.1,by rw[r1,hs1,hlen],λe he=>?_⟩);obtain⟨b,k,z1,z2,z3⟩:=hall2 e (r2 e he);exact⟨b,k,z1,z2,nZ z3 ho1 rfl hsb2⟩
 ·have hq0:t1.tooFull=false:=by simpa using hq
  rw[hq0];simp only[Bool.and_false,Fw,if_false];have hq':(n+1)*5<t1.mask*3:=by unfold SetTable.tooFull at hq0;rw[hfill]at hq0;simpa using hq0
  exact EF (h h1 hsb1 ⟨_,es1,_,t1,ho1,hex,rfl,hp1,hdm1,hm1,by rw[hs1];exact hq',by rw[hs1,hlen],hall2⟩)
def zF{a b:Addr}{k:List K}{ks:List (List K)}{hsh:Int}{Q:Bool->Shared->Prop}(hu:A.units<cLine)(hk:IsTupleKey knd s.heap k b)(hS:fu knd s.heap a ks)(hnew:k∉ks)(hsz:ks.length<200)
  (h:∀h',Heap.SameBut a s.heap h'->fu knd h' a (k::ks)->Q true { s with heap:=h' }):wpAny (model P w) A (setAddHashed a (.ref b) hsh) Q E s:=by
 obtain⟨o,es,ep,t,ho,hex,hd,hp,hdm,hm,hfull,hlen,hall⟩:=hS;have hle:es.size<=t.mask:=by omega
 have hf:t.fits es.size=true:=by simp only[SetTable.fits,Fo,beq_iff_eq,decide_eq_true_eq];refine⟨hp,?_⟩;unfold SetTable.fill;rw[hdm,hp];simpa using hle
 obtain⟨j0,hj0,hs0⟩:=Tb.Cy hdm (by rw[hp];exact hle);obtain⟨N,hN,eN⟩:=Tb.A1 hm hj0 hsh;have hall':∀e∈es.toList,∃b' k',e.2=.ref b'/\IsTupleKey knd s.heap k' b'/\k'≠k:=λe he=>by obtain⟨b',k',h1,h2,h3⟩:=hall e he;exact⟨b',k',h1,h3,λz=>hnew (z ▸ h2)⟩
 unfold setAddHashed setAddHashedIn;refine wpAny_holding (EE (FC ho hd hf ?_));dsimp only;have hsc:byScan (.ref b) es=false:=rfl;rw[hsc];simp only[Fw,if_false];unfold setSearch;have hturn:10*SetTable.turns t.mask<100000:=by unfold SetTable.turns;rcases hm with e|e|e|e<;>rw[e]<;>decide
 refine EE (Aa hu hk ho hd hf hm hdm hall' (λj=>?_) N 100000 none (by omega) hN rfl (by show t.slot (Tb.cE t N (t.probeStart hsh)).j=_;rw[eN];exact hs0));dsimp only;refine EE (FC ho hd hf ?_);dsimp only;have hput:(t.put j).1.place.size=es.size+1/\(t.put j).1.dummies = #[]/\(t.put j).1.mask=t.mask:=by
  refine⟨?_,?_,rfl⟩
  ·show(SetTable.insertAt t.place (SetTable.below t.place j) j).size=_;rw[Tb.mR,hp]
  ·show(if SetTable.has t.dummies j=true then _ else t.dummies) = #[];rw[hdm,Tb.ub];rfl
 have hins:∀e∈(SetTable.insertAt es (t.put j).2 (hsh,Value.ref b)).toList,∃b' k',e.2=.ref b'/\k'∈k::ks/\IsTupleKey knd s.heap k' b':=λe he=>by
  rcases Tb.Cv he with rfl|he
  ·exact⟨b,k,rfl,ES,hk⟩
  ·obtain⟨b',k',z1,z2,z3⟩:=hall e he;exact⟨b',k',z1,EN _ z2,z3⟩
 have fin:∀c:Bool,wpAny (model P w) A (do
   storeSet a (SetTable.insertAt es (t.put j).2 (hsh,Value.ref b)) (if c=true then(t.put j).1 else{ (t.put j).1 with plain:=false })
   if(!false && (if c=true then(t.put j).1 else{ (t.put j).1 with plain:=false }).tooFull)=true then do
    setRelay a (SetTable.grown (es.size+1))
    pure true
   else pure true) Q E s:=λc=>by
  refine DW (ks1:=k::ks) ho hex hd (Tb.mR _ _ _) ?_ ?_ ?_ ?_ (by omega) (by rw[Fe,hlen]) hins h
  ·rw[Tb.mR];cases c<;>exact hput.1
  ·cases c<;>exact hput.2.1
  ·cases c<;>exact hm
  ·cases c<;>exact hfull
 cases hpl:(t.put j).1.plain
 ·simp only[Fw,if_false];exact EE (EF (fin true))
 ·simp only[if_true];exact EE (CW hk fin)
end
section
variable {P:Program} {w:World} {A:Around} {K:Type} [DecidableEq K] {knd:KeyKind P w K} {I:Addr} {fp wr:List Addr} {G:Array GenState->Array GenState->Prop} {n:Nat} {Pz:Nat->Value->Prop} {St:Nat->Shared->Prop}
def fu.moved{h h':Heap}{a:Addr}{ks:List (List K)}{wr:List Addr}(hS:fu knd h a ks)(hk:∀b o,b∉wr->h.get? b=some o->h'.get? b=some o)(ha:a∉wr)(hw:∀b∈wr,∀o,h.get? b=some o->∃vs,o.data=.fields vs):fu knd h' a ks:=by obtain⟨o,es,ep,t,ho,hex,hd,h1,h2,h3,h4,h5,hall⟩:=hS;refine⟨o,es,ep,t,hk a o ha ho,hex,hd,h1,h2,h3,h4,h5,λe he=>?_⟩;obtain⟨b,k,z1,z2,o',items,m,ho',hc,hd',hi⟩:=hall e he;refine⟨b,k,z1,z2,o',items,m,hk b o' (λhb=>?_) ho',hc,hd',hi⟩;obtain⟨vs,hv⟩:=hw b hb o' ho';rw[hd']at hv;cases hv
def Bj(W:WalksS P w A.in1 I fp wr G n Pz St)(S:Addr)(hS:S∉fp)(hu:A.in1.units<cLine)(bs:List Addr)(kk:List (List K))(hnk:kk.length=n)(hnd:kk.Nodup)(hsz:n<200)
  (hval:∀i v,Pz i v->∃b,v=.ref b/\bs[i]?=some b) (hwr:∀i s,St i s->∀b∈wr,∀o,s.heap.get? b=some o->∃vs,o.data=.fields vs) {R:Result->Shared->Prop} :
  ∀(m i:Nat) (s:Shared),n-i=m->i<=n->St i s->fu knd s.heap S (kk.take i).reverse->(∀(j:Nat) (b:Addr) (k:List K),bs[j]?=some b->kk[j]?=some k->IsTupleKey knd s.heap k b) →
   (∀s',Moved (S::wr) G s s'->fu knd s'.heap S kk.reverse->R (.ok (.ret .none)) s') →
   codeAny (model P w) A (.builtin "set.update.loop" ⟨[.ref S,.ref I],[]⟩) R s:=by
 have hSw:S∉wr:=λz=>hS (W.sub _ z);have more:∀b∈wr,b∈S::wr:=λb z=>EN _ z;intro m;induction m with
 | zero=>
  intro i s hm hi hst hset hkeys hR;obtain rfl:i=n:=by omega
  refine codeAny_builtin F.entry_set_update_loop ?_;rw[Around.under_plainId F.plain_set_update_loop _];show wpAny _ A.in1 (pyNext (.ref I) >>= _) _ _ s;refine EE (W.done s _ _ hst λs' mv=>?_);rw[←hnk,Ff]at hset;exact EF (hR s' (mv.mono more) (hset.moved mv.heap hSw (hwr _ s hst)))
 | succ m ih=>
  intro i s hm hi hst hset hkeys hR;have hlt:i<n:=by omega
  refine codeAny_builtin F.entry_set_update_loop ?_;rw[Around.under_plainId F.plain_set_update_loop _];show wpAny _ A.in1 (pyNext (.ref I) >>= _) _ _ s;refine EE (W.item i s _ _ hlt hst λv s' hP hst' mv=>?_);obtain⟨b,rfl,hb⟩:=hval i v hP;have hki:kk[i]?=some kk[i]:=EL (by omega);have hset':=hset.moved mv.heap hSw (hwr _ s hst);have hkeys':∀(j:Nat) (b:Addr) (k:List K),bs[j]?=some b->kk[j]?=some k->IsTupleKey knd s'.heap k b:=λj b k e1 e2=>by obtain⟨o',items,q,ho',hc,hd',hi'⟩:=hkeys j b k e1 e2;refine⟨o',items,q,mv.heap b o' (λhbw=>?_) ho',hc,hd',hi'⟩;obtain⟨vs,hv⟩:=hwr _ s hst b hbw o' ho';rw[hd']at hv;cases hv
  show wpAny _ A.in1 (holding [Value.ref b] (setAdd S (.ref b)) >>= _) _ _ s';refine EE (wpAny_holding ?_);unfold setAdd;refine wpAny_holding (EE (wpAny_pyHash_tuple hu (hkeys' i b _ hb hki) ?_));have hnew:kk[i]∉(kk.take i).reverse:=by rw[List.mem_reverse];intro z;obtain⟨q,hq,e⟩:=List.mem_iff_getElem.mp z;rw[FA]at hq;rw[List.getElem_take]at e;have:=(List.getElem_inj hnd).mp e;omega
  have htk:(kk.take (i+1)).reverse=kk[i]::(kk.take i).reverse:=by rw[List.take_add_one,hki,List.reverse_append];rfl
  refine zF (s:={ s' with toks:=s'.toks+(kk[i].length+1) }) hu (hkeys' i b _ hb hki) hset' hnew (by rw[List.length_reverse,FA];omega) λh' sb hset2=>?_;obtain⟨oS,esS,epS,tS,hoS,_,hdS,_⟩:=id hset';refine EF ⟨plainId_quiet F.plain_set_update_loop _,ih (i+1) _ (by omega) hlt (W.frame _ s' _ _ hst' (Nat.le_add_right _ _) λc hc o e=>?_) (by rw[htk];exact hset2) (λj c k e1 e2=>nZ (hkeys' j c k e1 e2) hoS hdS sb) λs'' mv2 hS2=>?_⟩
  ·rw[sb.2 c (λz:c=S=>hS (z ▸ hc))];exact e
  ·refine hR s'' (Moved.trans W.gtrans ((mv.mono more).then_heap (Nat.le_add_right _ _) λc o hc e=>?_) mv2) hS2;rw[sb.2 c (λz:c=S=>hc (by rw[z];exact ES))];exact e
end
end L2.Og
namespace L2.Og
open PySem PySem.Spec PyProof.Rows
section
variable {P:Program} {w:World} {A:Around} {E:Value->Shared->Prop} {s:Shared} {K:Type} [DecidableEq K] {knd:KeyKind P w K}
abbrev cw(led:Bool):Obj:={ cls:=.type "set",dict:=none,data:=.set #[] 0 (.fresh 0 0 led) }
def rR(knd:KeyKind P w K)(s:Shared)(kk:List (List K))(h':Heap):Prop:=
 fu knd h' s.heap.objs.size kk.reverse/\∀b o,b<s.heap.objs.size->s.heap.get? b=some o->h'.get? b=some o
def AW:isSubtype (.type "tuple") (.type "frozenset")=pure false:=by
 rw[isSubtype_type]
 kernel_rfl
def zy{t:Addr}{ys:Array Value}{bs:List Addr}{kk:List (List K)}{Q:Value->Shared->Prop}(hA:A.handled=none)(hu:A.units+5<cLine)(gt:s.heap.IsTuple t ys)(hb:ys.toList=bs.map Value.ref)
  (hn:kk.length=ys.size) (hnd:kk.Nodup) (hz:ys.size<200) (hkey:∀(j:Nat) (b:Addr) (k:List K),bs[j]?=some b->kk[j]?=some k->IsTupleKey knd s.heap k b)
  (h:∀(h':Heap) (tk:Nat),rR knd s kk h'->Q (.ref s.heap.objs.size) { s with heap:=h',toks:=tk }):wpAny (model P w) A (call (.type "set") [.ref t]) Q E s:=by
 have x1:=F.called_set.notType;have x2:=F.called_set.canCreate;have x3:=F.typeCall_set_1 (.ref t);have x4:=F.called_set.made;have x5:=F.called_set.sub;obtain⟨c,tl,x6⟩:=F.called_set.mro;refine wpAny_call (codeAny_of_tree ?_);show wpAny _ _ (callAny (.type "set") _) _ _ _;refine EF ⟨Code.quiet_builtin _ (by decide +kernel),codeAny_builtin F.entry_type_call ?_⟩;rw[Around.under_plain (weight_type_call_type "set" [.ref t] []) rfl]
 repeat (any_goals (first|assumption|wp_step))
 refine codeAny_mono (code_set_new_1 (.ref t) (E:=E) (Q₁:=λv s1=>∃led,v=.ref s.heap.objs.size/\s1={ s with heap:=s.heap.push (cw led) }) λled=>⟨led,rfl,rfl⟩) λr s1 hr=>?_;cases r with
 | error e=>exact hr
 | ok fl=>
  cases fl with
  | ret v=>
   obtain⟨led,rfl,rfl⟩:=hr;have gS:(s.heap.push (cw led)).get? s.heap.objs.size=some (cw led):=EI _ rfl;have hT:Shared.TypeIs { s with heap:=s.heap.push (cw led) } (.ref s.heap.objs.size) "set":=⟨_,gS,rfl⟩;have x7:=F.called_set.init.lookup;have x8:=F.called_set.init.bind (.ref s.heap.objs.size)
   repeat (any_goals (first|assumption|wp_step))
   refine codeAny_mono (codeAny_call_builtin (R:=wants (λr s2=>r=.none/\∃h' tk,s2={ s with heap:=h',toks:=tk }/\rR knd s kk h') E) F.called_set.init.plain F.entry_set_init (check_set_init_1 hT ?_)) λr2 s2 hr2=>?_
   ·have g1:(s.heap.push (cw led)).IsTuple t ys:=gt.push _;have hlt:t<s.heap.objs.size:=by obtain⟨o,ho,_⟩:=gt;exact EJ ho
    obtain⟨ol,hol,hcl,nl,hdl⟩:=id g1;obtain⟨c0,d0,dt,sl⟩:=ol;simp only at hcl hdl;subst hcl hdl;have y1:=F.sub_tuple_set;have y2:=AW;have y3:(Value.type "tuple" == Value.type "dict")=false:=by decide
    unfold Builtin.«set.__init__» noKeywords Builtin.Frozenset.updateFrom;generalize hit:pyIter=PI
    wp_walk
    subst hit;refine wpAny_pyIter_tuple g1 ?_;refine EE (wpAny_runValue ?_);have e1:(s.heap.push (cw led)).objs.size=s.heap.objs.size+1:=Heap.size_push _ _;have hA3:A.in1.in1.in1.handled=none:=by simp[hA]
    have hne:t≠(s.heap.push (cw led)).objs.size:=by rw[e1];exact E5 (Nat.lt_succ_of_lt hlt)
    have hSf:s.heap.objs.size∉[(s.heap.push (cw led)).objs.size,t]:=by
     intro z;rcases E1.mp z with z|z
     ·rw[e1]at z;exact E5 (Nat.lt_succ_self _) z
     ·exact Nat.ne_of_gt hlt (EW.mp z)
    have hbs:∀i:Nat,ys[i]?=(bs[i]?).map Value.ref:=λi=>by rw[←Array.getElem?_toList,hb,EM]
    refine Bj (knd:=knd) ((Walks.tuple hA3 _ t hne ys).toS) s.heap.objs.size hSf (by simp only[Around.in1_units];omega) bs kk hn hnd hz (λi v hv=>?_) (λi s' hs b hb' o ho=>?_) (ys.size-0) 0 _ (by omega) (Nat.zero_le _) ⟨⟨_,EI _ rfl,rfl,rfl⟩,g1.push _⟩ ⟨cw led,#[],0,_,EH _ gS,⟨rfl,rfl,rfl⟩,rfl,rfl,rfl,  .inl rfl,(show 0*5<7*3 by decide),rfl,λe he=>by simp at he⟩ (λj b k e1 e2=>?_) λs' mv hS'=>?_
    ·have hv':ys[i]?=some v:=hv;rw[hbs i]at hv';obtain⟨b,e,rfl⟩:=EX.mp hv';exact⟨b,rfl,e⟩
    ·cases EW.mp hb';obtain⟨o',ho',_,hd'⟩:=hs.1;rw[ho']at ho;cases ho;exact⟨_,hd'⟩
    ·obtain⟨o,items,q,ho,r⟩:=hkey j b k e1 e2;exact⟨o,items,q,EH _ (EH _ ho),r⟩
    ·obtain⟨h',g',d',tk',os'⟩:=s';have q1:g'=s.gens:=mv.gens;have q2:d'=s.drawn:=mv.drawn;have q3:os'=s.os:=mv.os;subst q1 q2 q3;show wpAny _ _ _ _ _ _;refine EF ?_;show wpAny _ _ (ret Value.none) _ _ _;refine EF ⟨rfl,h',tk',rfl,hS',λb o hb e=>mv.heap b o (λz=>?_) (EH _ (EH _ e))⟩;rcases E1.mp z with z|z
     ·exact E5 hb z
     ·have z:=EW.mp z;rw[e1]at z;exact E5 (Nat.lt_succ_of_lt hb) z
   ·cases r2 with
    | error e=>exact hr2
    | ok f2=>
     cases f2 with
     | ret r=>
      obtain⟨rfl,h',tk,rfl,hS'⟩:=hr2
      repeat (any_goals (first|assumption|wp_step))
      exact h _ _ hS'
     | _=>exact hr2.elim
  | _=>exact hr.elim
end
end L2.Og
namespace L2.Og
open PySem PySem.Spec PyProof.Rows
def jc(a:Addr)(n:Nat):HO:=.ext λh=>∃o es ep t,h.get? a=some o/\o.ExactSet/\o.data=.set es ep t/\t.fits es.size=true/\es.size=n
def yd{P:Program}{w:World}{H:Hp}{h:Heap}{a:Addr}{ks:List (List Key)}(S:fu (ck P w) h a ks):bB P w H h a (jc a ks.length):=by
 obtain⟨o,es,ep,t,ho,hex,hd,hp,hdm,hm,hfull,hlen,_⟩:=S;refine⟨⟨o,es,ep,t,ho,hex,hd,?_,hlen⟩,⟨o,ho⟩,λh1 h2 z k=>?_⟩
 ·simp only[SetTable.fits,Fo,beq_iff_eq,decide_eq_true_eq];refine⟨hp,?_⟩;unfold SetTable.fill;rw[hdm,hp];have:es.size<=t.mask:=by omega
  simpa using this
 ·obtain⟨o',es',ep',t',ho',r⟩:=z;exact⟨o',es',ep',t',k _ ho',r⟩
def b0(H:Hp)(p:Addr)(kk:List (List Key)):Prop:=∃bs:List Addr,H p=some (.tup (bs.map V.ref))/\bs.length=kk.length/\∀(j:Nat) (b:Addr) (k:List Key),bs[j]?=some b->kk[j]?=some k->H b=some (.tup (k.map kV))
def wg:∀{bs:List Addr} {us:List Value},Vals (bs.map V.ref) us->us=bs.map Value.ref
 | [],_,.nil=>rfl
 | b::bs,_,.cons r t=>by rw[List.map_cons,←wg (bs:=bs) t];exact congrArg (· :: _) r
section
variable {X:Cx}
def vB:List V->Hp->VK->Prop:=λxs H Q=>∃p kk,xs=[.ref p]/\b0 H p kk/\kk.Nodup/\kk.length<200/\∀l,H l=none->Q (.ref l) (upd H l (jc l kk.length))
def call_setT{k:Nat}(hr:Room k X.A):cQ X (.type "set") vB:=by
 intro pins s σ H xs us Q I r h;obtain⟨p,kk,rfl,⟨bs,h1,h2,h3⟩,hnd,hz,q⟩:=h;obtain⟨u,rfl,rx⟩:=vals1 r;cases rx;obtain⟨_,its,rv,gt⟩:=I.hok p _ h1;have ei:=wg rv;subst ei;have hu:=hr.units;have hA:=hr.hd;refine zy (knd:=ck X.prog X.w) (kk:=kk) (bs:=bs) hA (by omega) (show s.heap.IsTuple p _ from gt) rfl (by simp[h2]) hnd (by simp[h2];exact hz) (λj b k e1 e2=>?_) λh' tk hm=>?_
 ·obtain⟨_,is,rk,o,ho,hc,n,hd⟩:=I.hok b _ (h3 j b k e1 e2);exact⟨o,_,n,ho,hc,hd,lF rk⟩
 ·have hok:=yd (H:=upd H s.heap.objs.size (jc s.heap.objs.size kk.length)) hm.1;rw[List.length_reverse]at hok;exact⟨.ref s.heap.objs.size,_,I.laid (t':=tk) (λb o e=>hm.2 b o (EJ e) e) (E6 _) hok,rfl,q _ (I.hok.fresh (E6 _))⟩
def vN:List V->Hp->VK->Prop:=λxs H Q=>∃p n,xs=[.ref p]/\H p=some (jc p n)/\n<200/\Q (.int n) H
def call_lenSet:cQ X (.builtin "len") vN:=by intro pins s σ H xs us Q I r h;obtain⟨p,n,rfl,hp,hn,q⟩:=h;obtain⟨u,rfl,rx⟩:=vals1 r;cases rx;obtain⟨⟨o,es,ep,t,ho,hex,hd,hf,hs⟩,_⟩:=I.hok p _ hp;refine call_len_set ho hex hd hf (by omega) ⟨.int n,H,I.tok _,⟨s.toks+1,by rw[hs]⟩,q⟩
def rd_setOf{H:Hp}{Q:VK}{p:Addr}{kk:List (List Key)}(h:b0 H p kk)(hnd:kk.Nodup)(hz:kk.length<200)(q:∀l H',Ext H H'->H' l=some (jc l kk.length)->Q (.ref l) H'):vB [.ref p] H Q:=
 ⟨p,kk,rfl,h,hnd,hz,λl hl=>q l _ (aX hl) aE⟩
def rd_lenSet{H:Hp}{Q:VK}{p:Addr}{n:Nat}(h:H p=some (jc p n))(hn:n<200)(q:Q (.int n) H):vN [.ref p] H Q:=⟨p,n,rfl,h,hn,q⟩
end
end L2.Og
namespace L2.Ti
open PySem PySem.Spec PyProof.Rows
def eB(t:SetTable):Prop:=t.dummies = #[]/\t.place.toList.Pairwise (· < ·)
def jV(t:SetTable)(n:Nat):eB (t.standIn n):=⟨rfl,by show(Array.range n).toList.Pairwise _;rw[Array.toList_range];exact List.pairwise_lt_range⟩
def Cp{mask finger moves:Nat}{led plain:Bool}{hashes:Array Int}{t':SetTable}{order:Array Nat}(h:SetTable.laid mask finger moves led plain hashes=some (t',order)):eB t':=by unfold SetTable.laid at h;obtain⟨owner,_,h⟩:=Option.bind_eq_some_iff.mp h;have h:=Fq h;have h1:=(congrArg Prod.fst h).symm;dsimp only at h1;subst h1;refine⟨rfl,?_⟩;show(List.map (λx:Nat×Nat=>x.1) (List.filterMap (λj=>Option.map (λx=>(j,x)) (owner.getD j none)) (FE (mask+1)))).Pairwise (· < ·);rw[List.pairwise_map,List.pairwise_filterMap];refine List.Pairwise.imp ?_ (List.pairwise_lt_range (n:=mask+1));intro a b hab x hx y hy;obtain⟨u,_,rfl⟩:=EX.mp hx;obtain⟨v,_,rfl⟩:=EX.mp hy;exact hab
def DJ(t:SetTable)(es:Array (Int×Value))(wanted:Nat):eB (relayAll t es wanted).2.1:=by
 unfold relayAll;cases h:t.relaid (es.map (·.1)) wanted with
 | none=>exact jV _ _
 | some x=>
  obtain⟨t',order⟩:=x;dsimp only;split
  ·exact Cp h
  ·exact jV _ _
def yO{t:SetTable}(hd:t.dummies = #[])(j:Nat):t.slot j≠.dummy:=by
 unfold SetTable.slot;dsimp only;split
 ·intro z;cases z
 ·rw[hd];rw[FH (by unfold SetTable.has;simp)];intro z;cases z
def vi{t:SetTable}(hd:t.dummies = #[])(hash:Nat->Int)(h:Int):∀(fuel:Nat) (p:SetTable.Probe) (j:Nat) (d:Option Nat),p.dummy=none->SetTable.probe.go t hash h fuel p=some (.empty j d)->d=none/\t.slot j=.empty
 | 0,p,j,d,_,e=>by unfold SetTable.probe.go at e;cases e
 | fuel+1,p,j,d,hp,e=>by
  unfold SetTable.probe.go at e;cases hs:t.slot p.j with
  | empty=>
   rw[hs]at e;cases e;exact⟨hp,hs⟩
  | dummy=>exact absurd hs (yO hd _)
  | live i=>
   rw[hs]at e;dsimp only at e;split at e
   ·cases e
   ·refine vi hd hash h fuel _ j d ?_ e;unfold SetTable.advance;split<;>exact hp
def DU{t:SetTable}(hi:eB t){j:Nat}(h:t.slot j=.empty):eB (t.put j).1:=by refine⟨?_,Tb.yr hi.2 (Tb.DS hi.2 h)⟩;show(if SetTable.has t.dummies j then _ else t.dummies) = #[];rw[hi.1,FH (by unfold SetTable.has;simp)]
def y9{t:SetTable}(hi:eB t)(es:Array (Int×Value))(h:Int)(x:Value):eB (layNew t es h x).2.1:=by
 unfold layNew;cases hf:t.freeSlot h with
 | none=>exact jV _ _
 | some y=>
  obtain⟨slot,wd⟩:=y;dsimp only;show eB ((t.put slot).1.orStandIn _);unfold SetTable.orStandIn;split
  ·refine DU hi ?_;unfold SetTable.freeSlot at hf;split at hf
   ·rename_i j d hpr;obtain⟨rfl,h2⟩:=vi hi.1 _ _ _ _ _ _ (show(t.probeStart h).dummy=none from rfl) hpr;cases hf;exact h2
   ·cases hf
  ·exact jV _ _
def below_at{xs:Array Nat}(hs:xs.toList.Pairwise (· < ·)){i j:Nat}(h:xs[i]?=some j):SetTable.below xs (j+1)=i+1:=by
 obtain⟨h1,h2,h3⟩:=Tb.kE hs (j+1);have hi:i<SetTable.below xs (j+1):=by
  rcases Fx i (SetTable.below xs (j+1))with z|z
  ·exact z
  ·have:=h3 i j z h;omega
 rcases Fx (i+1) (SetTable.below xs (j+1))with z|z
 ·have hx:xs[i+1]?=some xs[i+1]:=getElem?_pos xs (i+1) (by omega);have a:=h2 (i+1) _ z hx;have b:=Tb.kC hs h hx (Nat.lt_succ_self i);omega
 ·omega
def B9{xs:Array Nat}(hs:xs.toList.Pairwise (· < ·)):SetTable.below xs 0=0:=by
 obtain⟨h1,h2,h3⟩:=Tb.kE hs 0;rcases Nat.eq_zero_or_pos (SetTable.below xs 0)with z|z
 ·exact z
 ·have:=h2 0 _ z (getElem?_pos xs 0 (by omega));omega
section
variable {P:Program} {w:World} {A:Around} {E:Value->Shared->Prop} {s:Shared}
def CN{it a:Addr}{i ep slot:Nat}{o:Obj}{es:Array (Int×Value)}{t:SetTable}{Q:Option Value->Shared->Prop}(hT:w.params.followText "set-order" = false)(hit:s.heap.get? it=some (bV a (rawInt (slot:Int)) i es.size ep))(ho:s.heap.get? a=some o)(hd:o.data=.set es ep t)(hf:t.fits es.size=true)(h1:(!t.plain && decide (es.size>1))=false)(hl:t.led=true)
  {x:Int×Value} {j:Nat} (hx:es[SetTable.below t.place slot]?=some x) (hj:t.place[SetTable.below t.place slot]?=some j) (hQ:∀h',h'.get? it=some (bV a (rawInt ((j+1:Nat):Int)) (i+1) es.size ep)->Heap.SameBut it s.heap h'->Q (some x.2) { s with heap:=h' }):wpAny (model P w) A (pyNext (.ref it)) Q E s:=by
 have T:s.TypeIs (.ref it) "set_iterator":=⟨_,hit,rfl⟩;unfold pyNext;refine EE (wpAny_attempt (FD (name:=Fp "__next__") T SF.slot_next (wpAny_call_entry SF.slot_next T SF.entry_next ?_ (SF.args_next _))));show wpAny _ _ (fieldsOf (.ref it) >>= _) _ _ s;refine EE (wpAny_fieldsOf hit rfl ?_);show wpAny _ _ (setEntries a >>= _) _ _ s;unfold setEntries;refine EE (EE (FC ho hd hf (EF ?_)));rw[FH (by simp)];show wpAny _ _ (setNext a slot _ _ >>= _) _ _ s;unfold setNext;refine EE (EE (FC ho hd hf ?_));dsimp only;unfold setsByText;refine EE (EE (wpAny_askSetting (EF ?_)));rw[show (model P w).w.params.followText "set-order" = false from hT];simp only[Fw,if_false];have hdr:¬((!t.plain && decide (es.size>1))=true):=by rw[h1];exact E2
 split
 ·rename_i hh;exact absurd hh hdr
 ·refine EE ?_;show wpAny _ _ (if(!t.led && !es.isEmpty)=true then unsupported _ else pure ()) _ _ _;rw[FH (by rw[hl];exact E2)];refine EF (EF ?_);rw[hx,hj];dsimp only;refine EE (wpAny_setField hit rfl (by simp) ?_);have e1':(s.heap.update it (Obj.mapFields (·.setIfInBounds 0 (rawInt ((j+1:Nat):Int))))).get? it=some (bV a (rawInt ((j+1:Nat):Int)) i es.size ep):=iX (k:=0) (x:=rawInt ((j+1:Nat):Int)) hit rfl;refine EE (wpAny_setField (s:={ s with heap:=s.heap.update it (Obj.mapFields (·.setIfInBounds 0 (rawInt ((j+1:Nat):Int)))) }) e1' rfl (by simp) ?_);have e2:=iX (k:=1) (x:=rawInt ((i:Int)+1)) e1' rfl;refine EF ⟨_,rfl,EF (hQ _ ?_ ((Heap.SameBut.update ..).trans (Heap.SameBut.update ..)))⟩;exact e2
def yN{it a:Addr}{i ep slot:Nat}{o:Obj}{es:Array (Int×Value)}{t:SetTable}{Q:Option Value->Shared->Prop}(hh:A.handled=none)(hT:w.params.followText "set-order" = false)(hit:s.heap.get? it=some (bV a (rawInt (slot:Int)) i es.size ep))(ho:s.heap.get? a=some o)(hd:o.data=.set es ep t)(hf:t.fits es.size=true)(h1:(!t.plain && decide (es.size>1))=false)(hl:t.led=true)
  (hx:es[SetTable.below t.place slot]?=none) (hQ:∀h',Heap.ExtBut it s.heap h'->Q none { s with heap:=h' }):wpAny (model P w) A (pyNext (.ref it)) Q E s:=by
 have T:s.TypeIs (.ref it) "set_iterator":=⟨_,hit,rfl⟩;unfold pyNext;refine EE (wpAny_attempt (FD (name:=Fp "__next__") T SF.slot_next (wpAny_call_entry SF.slot_next T SF.entry_next ?_ (SF.args_next _))));show wpAny _ _ (fieldsOf (.ref it) >>= _) _ _ s;refine EE (wpAny_fieldsOf hit rfl ?_);show wpAny _ _ (setEntries a >>= _) _ _ s;unfold setEntries;refine EE (EE (FC ho hd hf (EF ?_)));rw[FH (by simp)];show wpAny _ _ (setNext a slot _ _ >>= _) _ _ s;unfold setNext;refine EE (EE (FC ho hd hf ?_));dsimp only;unfold setsByText;refine EE (EE (wpAny_askSetting (EF ?_)));rw[show (model P w).w.params.followText "set-order" = false from hT];simp only[Fw,if_false];have hdr:¬((!t.plain && decide (es.size>1))=true):=by rw[h1];exact E2
 split
 ·rename_i hh;exact absurd hh hdr
 ·refine EE ?_;show wpAny _ _ (if(!t.led && !es.isEmpty)=true then unsupported _ else pure ()) _ _ _;rw[FH (by rw[hl];exact E2)];refine EF (EF ?_);rw[hx];dsimp only;refine EE (wpAny_setField hit rfl (by simp) ?_);exact mV (s:=s) (it:=it) hh (Heap.SameBut.update ..).extBut hQ
def Dz(hh:A.handled=none)(hT:w.params.followText "set-order" = false)(I a:Addr)(hne:a≠I){o:Obj}{es:Array (Int×Value)}{ep:Nat}{t:SetTable}(hd:o.data=.set es ep t)(hf:t.fits es.size=true)(h1:(!t.plain && decide (es.size>1))=false)(hl:t.led=true)(hp:t.place.size=es.size)(hinc:t.place.toList.Pairwise (· < ·)):
  Walks P w A I [I,a] [I] es.size (λi v=>∃x,es[i]?=some x/\v=x.2) (λi h=>(∃slot:Nat,h.get? I=some (bV a (rawInt (slot:Int)) i es.size ep)/\SetTable.below t.place slot=i)/\h.get? a=some o) where
 sub:=λb hb=>by simp at hb;simp[hb]
 frame:=λ_ _ _ st hk=>by obtain⟨⟨slot,h1,h2⟩,h3⟩:=st;exact⟨⟨slot,hk I (by simp) _ h1,h2⟩,hk a (by simp) _ h3⟩
 item:=λi s Q E hi st hQ=>by obtain⟨⟨slot,q1,q2⟩,q3⟩:=st;have hx:=getElem?_pos es i hi;have hj:=getElem?_pos t.place i (by omega);refine CN hT q1 q3 hd hf h1 hl (by rw[q2];exact hx) (by rw[q2];exact hj) λh' hit' sb=>?_;refine hQ _ h' s.toks ⟨_,hx,rfl⟩ ⟨⟨_,hit',?_⟩,(sb.2 a hne).trans q3⟩ λb o hb e=>sb.extBut b o (λh=>hb (by simp[h])) e;exact below_at hinc hj
 done:=λs Q E st hQ=>by obtain⟨⟨slot,q1,q2⟩,q3⟩:=st;exact yN hh hT q1 q3 hd hf h1 hl (by rw[q2];exact Array.getElem?_eq_none (E6 _)) λh' he'=>hQ h' s.toks λb o hb e=>he' b o (λh=>hb (by simp[h])) e
 self:=λi s Q E st hQ=>by obtain⟨⟨slot,q1,q2⟩,q3⟩:=st;exact nE q1 hQ
def yc{a:Addr}{o:Obj}{es:Array (Int×Value)}{ep:Nat}{t:SetTable}{Q:Value->Shared->Prop}(ho:s.heap.get? a=some o)(hex:o.ExactSet)(hd:o.data=.set es ep t)(hf:t.fits es.size=true)(hsz:es.size<=sizeLine)
  (hT:w.params.followText "set-order" = true\/(!t.plain && decide (es.size>1))=false->Q (.ref s.heap.objs.size) { s with heap:=s.heap.push (bV a (rawInt 0) 0 es.size ep) })
  (hD:∀(ys:List Nat) d,ys.Perm (FE es.size)->Q (.ref (s.heap.objs.size+1)) { s with heap:=(s.heap.push (seqObj "tuple" (ys.map λ(i:Nat)=>rawInt i).toArray 0)).push (bV a (.ref s.heap.objs.size) 0 es.size ep),drawn:=d }) :
  wpAny (model P w) A (pyIter (.ref a)) Q E s:=by
 have T:s.TypeIs (.ref a) "set":=⟨o,ho,hex.1⟩;refine wpAny_pyIter_slot T F.slot_set_iter (wpAny_call_entry F.slot_set_iter T SF.zR ?_ (SF.Ay _));show wpAny _ _ (Builtin.Frozenset.sizeOf a >>= _) _ _ s;unfold Builtin.Frozenset.sizeOf setEntries;refine EE (EE (EE (FC ho hd hf (EF (EF ?_)))));show wpAny _ _ (setDrawn a >>= _) _ _ s;unfold setDrawn;refine EE (EE (FC ho hd hf ?_));dsimp only;unfold setsByText;refine EE (EE (wpAny_askSetting (EF (EF ?_))));by_cases hq:(!(w.params.followText "set-order") && (!t.plain && decide (es.size>1)))=true
 ·rw[FI (by exact hq)];refine EE (tW _ _ s (by rw[List.length_range]) λys d hp=>?_);have hyl:ys.length=es.size:=by rw[hp.length_eq,List.length_range]
  simp only[newTuple];refine EE (wpAny_newObj_type ?_ (by show(List.map _ ys).toArray.size<=sizeLine;rw[ER,EK,hyl];exact hsz));unfold setEpoch;refine EE (EE (FC (s:={ s with heap:=s.heap.push (seqObj "tuple" (ys.map λ(i:Nat)=>rawInt i).toArray 0),drawn:=d }) (EH _ ho) hd hf (EF ?_)));simp only[newFields];have hs1:(s.heap.push (seqObj "tuple" (ys.map λ(i:Nat)=>rawInt i).toArray 0)).objs.size=s.heap.objs.size+1:=Heap.size_push _ _;refine EE (wpAny_newObj_type (EF ⟨_,rfl,"set_iterator",_,⟨_,EI _ rfl,rfl⟩,SF.slot_next.lookup,?_⟩) (by size_fits));have:=hD ys d hp;rw[←hs1]at this;exact this
 ·rw[FH (by exact hq)];refine EE (EF ?_);unfold setEpoch;refine EE (EE (FC ho hd hf (EF ?_)));simp only[newFields];refine EE (wpAny_newObj_type (EF ⟨_,rfl,"set_iterator",_,⟨_,EI _ rfl,rfl⟩,SF.slot_next.lookup,?_⟩) (by size_fits));refine hT ?_;cases hf':w.params.followText "set-order" with
  | true=>exact .inl rfl
  | false=>
   rw[hf',Bool.not_false,Bool.true_and]at hq;exact .inr (Bool.eq_false_iff.mpr hq)
def Ak{a:Addr}{o:Obj}{es:Array (Int×Value)}{ep:Nat}{t:SetTable}{Q:Value->Shared->Prop}(hA:A.handled=none)(ho:s.heap.get? a=some o)(hex:o.ExactSet)(hd:o.data=.set es ep t)(hf:t.fits es.size=true)(hled:t.led=di w)(hp:t.place.size=es.size)(hinc:t.place.toList.Pairwise (· < ·))(hsz:es.size<=sizeLine)
  (h:∀(I:Addr) (h1:Heap) d (fp:List Addr) (Pz:Nat->Value->Prop) (St:Nat->Heap->Prop),Walks P w A I fp [I] es.size Pz St->St 0 h1->s.heap.objs.size<=I->(∀c∈fp,c=a\/s.heap.objs.size<=c)->(∀b o',s.heap.get? b=some o'->h1.get? b=some o')->(∀acc:Array Value,acc.size=es.size->(∀i v,acc[i]?=some v->Pz i v)->acc.toList.Perm (es.toList.map (·.2)))->Q (.ref I) { s with heap:=h1,drawn:=d }):wpAny (model P w) A (pyIter (.ref a)) Q E s:=by
 have hlt:a<s.heap.objs.size:=EJ ho;have inOrder:∀{xs:Array (Int×Value)} {acc:Array Value},acc.size=xs.size->(∀i v,acc[i]?=some v->∃x:Int×Value,xs[i]?=some x/\v=x.2)->acc.toList=xs.toList.map (·.2):=λ{xs acc} e1 e2=>by
  apply List.ext_getElem
  ·rw[EO,EK,EO,e1]
  ·intro i q1 q2;rw[EO]at q1;obtain⟨x,hx,hv⟩:=e2 i acc[i] (getElem?_pos acc i q1);rw[Array.getElem_toList,hv,List.getElem_map,Array.getElem_toList];obtain⟨_,e⟩:=Array.getElem?_eq_some_iff.mp hx;rw[e]
 refine yc ho hex hd hf hsz (λhT=>?_) (λys d hq=>?_)
 ·have hfp:∀c∈[s.heap.objs.size,a],c=a\/s.heap.objs.size<=c:=λc hc=>by
   rcases E1.mp hc with z|z
   ·exact .inr (Nat.le_of_eq z.symm)
   ·exact .inl (EW.mp z)
  have g1:(s.heap.push (bV a (rawInt 0) 0 es.size ep)).get? s.heap.objs.size=some (bV a (rawInt 0) 0 es.size ep):=EI _ rfl;have g2:=EH (bV a (rawInt 0) 0 es.size ep) ho;cases hq:w.params.followText "set-order" with
  | true=>
   refine h _ _ s.drawn _ _ _ (AB hA hq s.heap.objs.size a (E5 hlt) hd hf) ⟨g1,g2⟩ (E6 _) hfp (λb o' e=>EH _ e) λacc a1 a2=>?_;have hl:(pickOrder (w.params.setOrder a ep) es).size=es.size:=by rw[←EO,(kq _ es).length_eq,EO]
   rw[inOrder (a1.trans hl.symm) a2];exact(kq (w.params.setOrder a ep) es).map (·.2)
  | false=>
   have hl:t.led=true:=by rw[hled];show(!w.params.followText "set-order")=true;rw[hq];rfl
   refine h _ _ s.drawn _ _ _ (Dz hA hq s.heap.objs.size a (E5 hlt) hd hf (hT.resolve_left (by rw[hq];decide)) hl hp hinc) ⟨⟨0,g1,B9 hinc⟩,g2⟩ (E6 _) hfp (λb o' e=>EH _ e) λacc a1 a2=>?_;rw[inOrder a1 a2]
 ·have hs2:(s.heap.push (seqObj "tuple" (ys.map λ(i:Nat)=>rawInt i).toArray 0)).objs.size=s.heap.objs.size+1:=Heap.size_push _ _;have g1:((s.heap.push (seqObj "tuple" (ys.map λ(i:Nat)=>rawInt i).toArray 0)).push (bV a (.ref s.heap.objs.size) 0 es.size ep)).get? (s.heap.objs.size+1)=some (bV a (.ref s.heap.objs.size) 0 es.size ep):=by rw[←hs2];exact EI _ rfl
  refine h _ _ d _ _ _ (Bk hA (s.heap.objs.size+1) a s.heap.objs.size (E5 (Nat.lt_succ_of_lt hlt)) (E5 (Nat.lt_succ_self _)) hd hf hq) ⟨g1,EH _ (EH _ ho),EH _ (EI _ rfl)⟩ (Nat.le_succ _) (λc hc=>?_) (λb o' e=>EH _ (EH _ e)) λacc h1 h2=>?_
  ·rcases E1.mp hc with z|z
   ·exact .inr (by rw[z];exact Nat.le_succ _)
   ·rcases E1.mp z with z|z
    ·exact .inl z
    ·exact .inr (Nat.le_of_eq (EW.mp z).symm)
  ·have hyl:ys.length=es.size:=by rw[hq.length_eq,List.length_range]
   have e0:acc.toList=(ys.filterMap (es[·]?)).map (·.2):=by
    apply List.ext_getElem?;intro i;rw[EM,Tb.lS es ys (λy hy=>List.mem_range.mp (hq.mem_iff.mp hy))];by_cases q1:i<acc.size
    ·have e1:=getElem?_pos acc i q1;obtain⟨y,x,hy,hx,hv⟩:=h2 i acc[i] e1;have e2:acc.toList[i]?=some acc[i]:=by rw[Array.getElem?_toList];exact e1
     rw[e2,hy,Fg,hx,hv];rfl
    ·have e2:acc.toList[i]?=none:=List.getElem?_eq_none (by rw[EO];omega);rw[e2,List.getElem?_eq_none (by rw[hyl,←h1];omega)];rfl
   rw[e0];refine List.Perm.map _ ?_;have e3:(FE es.size).filterMap (es[·]?)=es.toList:=by
    apply List.ext_getElem?;intro n;have e4:es.toList[n]?=es[n]?:=Array.getElem?_toList;rw[e4,Tb.lS es _ (λi hi=>List.mem_range.mp hi)];by_cases hn:n<es.size
    ·rw[List.getElem?_range hn];rfl
    ·have e5:(FE es.size)[n]?=none:=List.getElem?_eq_none (by rw[List.length_range];omega);rw[e5,Array.getElem?_eq_none (by omega)];rfl
   rw[←e3];exact hq.filterMap _
def xS{a:Addr}{o:Obj}{es:Array (Int×Value)}{ep:Nat}{t:SetTable}{Q:List Value->Shared->Prop}(hA:A.handled=none)(ho:s.heap.get? a=some o)(hex:o.ExactSet)(hd:o.data=.set es ep t)(hf:t.fits es.size=true)(hled:t.led=di w)(hp:t.place.size=es.size)
  (hinc:t.place.toList.Pairwise (· < ·)) (hsz:es.size<=sizeLine) (hQ:∀(h':Heap) (tk:Nat) d (vs:List Value),vs.Perm (es.toList.map (·.2))->s.toks<=tk->s.heap.objs.size<h'.objs.size->(∀b o,b<s.heap.objs.size->s.heap.get? b=some o->h'.get? b=some o)->Q vs { s with heap:=h',toks:=tk,drawn:=d }):wpAny (model P w) A (collect (.ref a)) Q E s:=by
 have hlt:a<s.heap.objs.size:=EJ ho;unfold collect;refine EE (wpAny_runValue (codeAny_builtin F.entry_proto_collect ?_));rw[Around.under_plainId F.plain_proto_collect _];show wpAny _ A.in1 (newList [] >>= λl=>again (.builtin "list.__iadd__" ⟨[l,.ref a],[]⟩)) _ _ s;refine EE (wpAny_newObj_type ?_);refine EF ⟨plainId_quiet F.plain_list_iadd _,codeAny_builtin F.entry_list_iadd ?_⟩;rw[Around.under_plainId F.plain_list_iadd _];show wpAny _ A.in1 (Builtin.List.listExtendWith (.ref s.heap.objs.size) (.ref a) (.ref s.heap.objs.size)) _ _ { s with heap:=s.heap.push (seqObj "list" #[] 0) };unfold Builtin.List.listExtendWith;have ho1:(s.heap.push (seqObj "list" #[] 0)).get? a=some o:=EH _ ho;have hs1:(s.heap.push (seqObj "list" #[] 0)).objs.size=s.heap.objs.size+1:=Heap.size_push _ _;refine EE (wpAny_typeOf (T:="set") ⟨o,ho1,hex.1⟩ ?_);have q1:Builtin.List.listSameRef (.ref s.heap.objs.size) (.ref a)=false:=by have:s.heap.objs.size≠a:=Nat.ne_of_gt hlt;simp[Builtin.List.listSameRef,this]
 have q2:(Value.type "set" == Value.type "list")=false:=by decide
 have q3:(Value.type "set" == Value.type "tuple")=false:=by decide
 simp only[q1,q2,q3,Bool.or_false,Fw,if_false];refine EE (Ak (s:={ s with heap:=s.heap.push (seqObj "list" #[] 0) }) (by simp[hA]) ho1 hex hd hf hled hp hinc hsz λI h1 d fp Pz St W hst hI hfp hold hPm=>?_);have hI':s.heap.objs.size+1<=I:=by rw[←hs1];exact hI
 refine EE (wpAny_holding (Ap (s:={ s with heap:=h1,drawn:=d }) ⟨o,hold _ _ ho1,hex.1⟩ ?_));rw[FI (by first|rfl|decide +kernel|kernel_rfl)];refine EE (wpAny_rule ?_);have hS₁:h1.get? s.heap.objs.size=some (seqObj "list" #[] 0):=hold _ _ (EI _ rfl);refine EE ?_;show wpAny _ A.in1 (updateSeq s.heap.objs.size (·.push .none) >>= λ_=>updateSeq s.heap.objs.size (·.pop)) _ _ { s with heap:=h1,drawn:=d };refine EE (wpAny_updateSeq hS₁ rfl ?_);have hS₂:=Heap.get?_update_self (Obj.mapSeq (·.push Value.none)) hS₁ rfl;refine wpAny_updateSeq (s:={ s with heap:=h1.update s.heap.objs.size (Obj.mapSeq (·.push Value.none)),drawn:=d }) hS₂ rfl ?_;have hS₃:=Heap.get?_update_self (Obj.mapSeq (·.pop)) hS₂ rfl;have oth:∀b o,b≠s.heap.objs.size->h1.get? b=some o →
   ((h1.update s.heap.objs.size (Obj.mapSeq (·.push Value.none))).update s.heap.objs.size (Obj.mapSeq (·.pop))).get? b=some o:=
  λb o hb e=>(Heap.get?_update_other _ _ (Ne.symm hb)).trans ((Heap.get?_update_other _ _ (Ne.symm hb)).trans e)
 refine EF ⟨plainId_quiet F.plain_extend_loop _,codeAny_extend_loopS W.toS hsz _ (λz=>by
  rcases hfp _ z with e|e
  ·exact Nat.ne_of_gt hlt e
  ·rw[hs1]at e;exact absurd e (Nat.not_succ_le_self _)) _ es.size 0 { s with heap:=(h1.update s.heap.objs.size (Obj.mapSeq (·.push Value.none))).update s.heap.objs.size (Obj.mapSeq (·.pop)),drawn:=d } _ _ rfl (Nat.zero_le _)
  (W.frame _ _ _ hst λc hc o' e=>oth c o' (λz=>by
   rcases hfp c hc with e|e
   ·rw[z]at e;exact Nat.ne_of_gt hlt e
   ·rw[z,hs1]at e;exact absurd e (Nat.not_succ_le_self _)) e) hS₃ (ItemsOf.nil _) λs' acc' c' hm hS' hacc=>?_⟩
 show wpAny _ A (load s.heap.objs.size >>= _) _ _ s';refine EE (wpAny_load hS' ?_);obtain⟨h',g',d',tk',os'⟩:=s';have z1:g'=s.gens:=hm.gens;have z2:d'=d:=hm.drawn;have z3:os'=s.os:=hm.os;subst z1 z2 z3;refine EF (hQ h' tk' _ _ (hPm acc' hacc.1 hacc.2) hm.toks (EJ hS') λb o' hb e=>hm.heap b o' (λz=>?_) (oth b o' (E5 hb) ?_))
 ·rcases E1.mp z with z|z
  ·exact E5 hb z
  ·have z:=EW.mp z;rw[z]at hb;exact absurd hb (Nat.not_lt.mpr (Nat.le_of_succ_le hI'))
 ·exact hold _ _ (EH _ e)
def dH(P:Program)(w:World)(h:Heap)(a:Addr)(S:Int->Bool)(n:Nat):Prop:=
 ∃o es ep t,h.get? a=some o/\o.ExactSet/\o.data=.set es ep t/\ElemsOf (PySem.intKind P w) es.toList/\(∀k,S k=true↔∃e∈es.toList,(PySem.intKind P w).is k e.2=true)/\es.size<scanBound/\t.fits es.size=true/\es.size=n/\t.led=di w/\eB t
def dH.store{h:Heap}{a:Addr}{o:Obj}{es es':Array (Int×Value)}{ep:Nat}{t t':SetTable}{S':Int->Bool}(ho:h.get? a=some o)(hex:o.ExactSet)(hd:o.data=.set es ep t)
  (hel:ElemsOf (PySem.intKind P w) es'.toList) (hmem:∀k,S' k=true↔∃e∈es'.toList,(PySem.intKind P w).is k e.2=true) (hb:es'.size<scanBound) (hf:t'.fits es'.size=true) (hl:t'.led=di w) (hi:eB t') :
  (h.update a (Obj.putSet es' t')).get? a=some { o with data:=.set es' (ep+1) t' }/\dH P w (h.update a (Obj.putSet es' t')) a S' es'.size:=by
 have hg:(h.update a (Obj.putSet es' t')).get? a=some { o with data:=.set es' (ep+1) t' }:=by have:=Heap.get?_update_self (Obj.putSet es' t') ho (by rw[putSet_of es' t' hd];rfl);rw[putSet_of es' t' hd]at this;exact this
 exact⟨hg,_,es',ep+1,t',hg,hex,rfl,hel,hmem,hb,hf,rfl,hl,hi⟩
def xw {g : Bool → Sem Unit} (hg : ∀ (b : Bool) (s₁ : Shared) (Q' : Unit → Shared → Prop), Q' () s₁ → wpAny (model P w) A (g b) Q' E s₁)
    {a : Addr} {o : Obj} {es es1 : Array (Int × Value)} {ep : Nat} {t t2 : SetTable} {S' : Int → Bool} (ho : s.heap.get? a = some o) (hex : o.ExactSet) (hd : o.data = .set es ep t)
    (hel1 : ElemsOf (PySem.intKind P w) es1.toList) (hmem1 : ∀ k', S' k' = true ↔ ∃ e ∈ es1.toList, (PySem.intKind P w).is k' e.2 = true) (hb1 : es1.size < scanBound) (hf2 : t2.fits es1.size = true) (hl2 : t2.led = di w) (hi2 : eB t2) {wd : Bool} {R : Option Bool → Shared → Prop}
    (h : ∀ h', Heap.SameBut a s.heap h' → dH P w h' a S' es1.size → R (some true) { s with heap := h' }) :
    wpAny (model P w) A (do
        storeSet a es1 t2
        if (!wd && t2.tooFull) = true then do
            g (relayAll t2 es1 (SetTable.grown es1.size)).2.2
            storeSet a (relayAll t2 es1 (SetTable.grown es1.size)).1 (relayAll t2 es1 (SetTable.grown es1.size)).2.1
            pure (some true)
          else pure (some true)) R E s := by
  refine EE (wpAny_storeSet_of ho hd ?_ (fits_of_scanBound hb1));obtain ⟨ho1, hS1⟩ := dH.store (P := P) ho hex hd hel1 hmem1 hb1 hf2 hl2 hi2;have hsb1 := Heap.SameBut.update s.heap a (Obj.putSet es1 t2);split
  · have hp := relayAll_perm t2 es1 (SetTable.grown es1.size)
    have hfr := relayAll_fits t2 es1 (SetTable.grown es1.size);obtain ⟨l1, l2⟩ := CB t2 es1 (SetTable.grown es1.size);have hir := DJ t2 es1 (SetTable.grown es1.size);generalize relayAll t2 es1 (SetTable.grown es1.size) = Rl at hp hfr l1 l2 hir ⊢;obtain ⟨es2, t3, gave⟩ := Rl;dsimp only at hp hfr l1 l2 hir ⊢;have hsz : es2.size = es1.size := by rw [← EO, hp.length_eq, EO]
    refine EE (hg _ _ _ (EE (wpAny_storeSet_of ho1 rfl ?_ (fits_of_scanBound (by omega)))));obtain ⟨_, hS2⟩ := dH.store (P := P) (w := w) (S' := S') ho1 hex rfl (hel1.perm hp) (λk' => (hmem1 k').trans ⟨λ⟨e, he, q⟩ => ⟨e, hp.mem_iff.mpr he, q⟩, λ⟨e, he, q⟩ => ⟨e, hp.mem_iff.mp he, q⟩⟩) (by omega) hfr (l1.trans hl2) hir;rw [hsz] at hS2;exact EF (h _ (hsb1.trans (Heap.SameBut.update _ a _)) hS2)
  · exact EF (h _ hsb1 hS1)
def Bh{a:Addr}{S:Int->Bool}{n:Nat}{k:Int}{tk:Tok}{Q:Bool->Shared->Prop}(hS:dH P w s.heap a S n)(hroom:n+1<scanBound)
  (h:∀h' b,Heap.SameBut a s.heap h'->dH P w h' a (λk'=>S k' || decide (k'=k)) (if S k then n else n+1)->Q b { s with heap:=h' }) :
  wpAny (model P w) A (setAddHashed a (.int k tk) ((PySem.intKind P w).hash k)) Q E s:=by
 obtain⟨o,es,ep,t,ho,hex,hd,hel,hmem,hb,hf,hn,hled,hinc⟩:=hS;have hkey:(PySem.intKind P w).is k (.int k tk)=true:=qg k tk;have hsc:(Value.int k tk).scannable=true:=rfl;unfold setAddHashed setAddHashedIn;refine wpAny_holding (EE (FC ho hd hf ?_));dsimp only;rw[byScan_of hsc hb hel];simp only[↓reduceIte];unfold setAddByScan;refine EE (EE (wpAny_rule (EE (wpAny_setScan_of hkey ho hd hf hel ?_))));cases hr:List.findIdx? (λe=>(PySem.intKind P w).is k e.2) es.toList with
 | some j=>
  dsimp only;obtain⟨hj,hpj,_⟩:=List.findIdx?_eq_some_iff_getElem.mp hr;have hSk:S k=true:=(hmem k).mpr ⟨es.toList[j],Fd hj,hpj⟩;refine EF (EF ?_);have e:s={ s with heap:=s.heap }:=by cases s;rfl
  rw[e];refine h s.heap _ (Heap.SameBut.refl a s.heap) ⟨o,es,ep,t,ho,hex,hd,hel,λk'=>?_,hb,hf,by rw[hSk];exact hn,hled,hinc⟩;rw[Bool.or_eq_true,decide_eq_true_eq,←hmem k'];exact⟨λhk=>hk.elim id (λe=>e ▸ hSk),.inl⟩
 | none=>
  dsimp only;have hSk:S k=false:=by
   cases hk:S k with
   | false=>rfl
   | true=>
    obtain⟨e,he,hp⟩:=(hmem k).mp hk;have:=List.findIdx?_eq_none_iff.mp hr e he;rw[hp]at this;cases this
  have hgw:∀(b:Bool) {s₁:Shared} {Q':Unit->Shared->Prop},Q' () s₁->wpAny (model P w) A (match b with|true=>rule "set.scan.the-table-gave-way"|false=>pure ()) Q' E s₁:=
   λb s₁ Q' hq=>by cases b<;>first|exact EF hq|exact wpAny_rule hq
  have hperm:=layNew_perm t es ((PySem.intKind P w).hash k) (.int k tk);have hfits:=layNew_fits t es ((PySem.intKind P w).hash k) (.int k tk);have hl1:=yF t es ((PySem.intKind P w).hash k) (.int k tk);have hi1:=y9 hinc es ((PySem.intKind P w).hash k) (.int k tk);generalize layNew t es ((PySem.intKind P w).hash k) (.int k tk)=L at hperm hfits hl1 hi1 ⊢;obtain⟨es1,t1,wd,gave⟩:=L;dsimp only at hperm hfits hl1 hi1 ⊢;rw[Array.toList_push]at hperm;have hel1:ElemsOf (PySem.intKind P w) es1.toList:=(hel.push hkey hsc).perm hperm;have hmem1:∀k',(S k' || decide (k'=k))=true↔∃e∈es1.toList,(PySem.intKind P w).is k' e.2=true:=mem_push_iff hkey hmem hperm;have hsz1:es1.size=n+1:=by rw[←EO,hperm.length_eq,E4,EO,hn];rfl
  refine EE (hgw _ ?_);have hend:∀h' b,Heap.SameBut a s.heap h'->dH P w h' a (λk'=>S k' || decide (k'=k)) es1.size->Q b { s with heap:=h' }:=by intro h' b hsb hS';refine h h' b hsb ?_;rw[hSk,FH E2,←hsz1];exact hS'
  by_cases htp:t1.plain=true
  ·rw[FI htp];refine EE ?_;rw[hashByValue_scannable 8 hsc];refine EF ?_;rw[show plainKind (.int k tk)=true from rfl];simp only[if_true];refine xw ?_ ho hex hd hel1 hmem1 (by omega) hfits (hl1.trans hled) hi1 ?_
   ·intro b s₁ Q' hq;cases b<;>first|exact EF hq|exact wpAny_rule hq
   ·intro h' hsb hS';dsimp only;exact EF (hend h' _ hsb hS')
  ·rw[FH htp];refine EE (EF ?_);simp only[if_true];refine xw ?_ ho hex hd hel1 hmem1 (by omega) hfits (hl1.trans hled) hi1 ?_
   ·intro b s₁ Q' hq;cases b<;>first|exact EF hq|exact wpAny_rule hq
   ·intro h' hsb hS';dsimp only;exact EF (hend h' _ hsb hS')
def eI(P:Program)(w:World)(h:Heap)(a:Addr)(D:List Int):Prop:=D.Nodup/\dH P w h a (λk=>decide (k∈D)) D.length
def eI.elems{h:Heap}{a:Addr}{D:List Int}(hS:eI P w h a D):∃o es ep t ds,h.get? a=some o/\o.ExactSet/\o.data=.set es ep t/\t.fits es.size=true/\t.led=di w/\eB t/\es.size<scanBound/\es.size=D.length/\IntsAre (es.toList.map (·.2)) ds/\ds.Perm D:=by
 obtain⟨hnd,o,es,ep,t,ho,hex,hd,hel,hmem,hb,hf,hn,hled,hinc⟩:=hS;obtain⟨ds,h1,h2⟩:=xB hel;refine⟨o,es,ep,t,ds,ho,hex,hd,hf,hled,hinc,hb,hn,h1,BV hnd (λk hk=>?_) ?_⟩
 ·obtain⟨e,he,hke⟩:=(hmem k).mp (FG hk);exact h2 e he k hke
 ·rw[←IntsAre.length h1,EK,EO,hn]
def dH.moved{h h':Heap}{a:Addr}{S:Int->Bool}{n:Nat}(hS:dH P w h a S n)(hk:∀o,h.get? a=some o->h'.get? a=some o):dH P w h' a S n:=by obtain⟨o,es,ep,t,ho,r⟩:=hS;exact⟨o,es,ep,t,hk _ ho,r⟩
def As{h:Heap}{a:Addr}{D:List Int}{k:Int}(hd:D.Nodup)(hS:dH P w h a (λk'=>decide (k'∈D) || decide (k'=k)) (if decide (k∈D)then D.length else D.length+1)):∃D',eI P w h a D'/\D'.length<=D.length+1/\∀x,x∈D'↔x∈D\/x=k:=by
 by_cases hk:k∈D
 ·refine⟨D,⟨hd,?_⟩,Nat.le_succ _,λx=>⟨.inl,λz=>z.elim id λe=>e ▸ hk⟩⟩;rw[FG hk,FI rfl]at hS;have e:(λk'=>decide (k'∈D) || decide (k'=k))=λk'=>decide (k'∈D):=by
   funext k';by_cases e:k'=k
   ·subst e;simp[hk]
   ·simp[e]
  rw[e]at hS;exact hS
 ·refine⟨k::D,⟨List.nodup_cons.mpr ⟨hk,hd⟩,?_⟩,E6 _,λx=>by rw[E1];exact⟨λz=>z.symm,λz=>z.symm⟩⟩;rw[FF hk,FH E2]at hS;have e:(λk'=>decide (k'∈D) || decide (k'=k))=λk'=>decide (k'∈k::D):=by funext k';simp only[E1];by_cases e:k'=k<;>by_cases e2:k'∈D<;>simp[e,e2]
  rw[e]at hS;exact hS
def yK{I:Addr}{fp wr:List Addr}{G:Array GenState->Array GenState->Prop}{n:Nat}{Pz:Nat->Value->Prop}{St:Nat->Shared->Prop}(W:WalksS P w A.in1 I fp wr G n Pz St)(S:Addr)(hS:S∉fp)(zs:List Int)(hnz:zs.length=n)(hsz:n+1<scanBound)
  (hval:∀i v,Pz i v->∃z t,v=.int z t/\zs[i]?=some z) {R:Result->Shared->Prop} :
  ∀(m i:Nat) (s:Shared) (D:List Int),n-i=m->i<=n->St i s->eI P w s.heap S D->D.length<=i->(∀k,k∈D↔k∈zs.take i) →
   (∀s' D,Moved (S::wr) G s s'->eI P w s'.heap S D->(∀k,k∈D↔k∈zs)->R (.ok (.ret .none)) s') →
   codeAny (model P w) A (.builtin "set.update.loop" ⟨[.ref S,.ref I],[]⟩) R s:=by
 have hSw:S∉wr:=λz=>hS (W.sub _ z);have more:∀b∈wr,b∈S::wr:=λb z=>EN _ z;intro m;induction m with
 | zero=>
  intro i s D hm hi hst hset _ hD hR;obtain rfl:i=n:=by omega
  refine codeAny_builtin F.entry_set_update_loop ?_;rw[Around.under_plainId F.plain_set_update_loop _];show wpAny _ A.in1 (pyNext (.ref I) >>= _) _ _ s;refine EE (W.done s _ _ hst λs' mv=>?_);rw[←hnz,Ff]at hD;exact EF (hR s' D (mv.mono more) ⟨hset.1,hset.2.moved λo=>mv.heap S o hSw⟩ hD)
 | succ m ih=>
  intro i s D hm hi hst hset hDl hD hR;have hlt:i<n:=by omega
  refine codeAny_builtin F.entry_set_update_loop ?_;rw[Around.under_plainId F.plain_set_update_loop _];show wpAny _ A.in1 (pyNext (.ref I) >>= _) _ _ s;refine EE (W.item i s _ _ hlt hst λv s' hP hst' mv=>?_);obtain⟨z,t,rfl,hz⟩:=hval i v hP;have hset':dH P w s'.heap S (λk=>decide (k∈D)) D.length:=hset.2.moved λo=>mv.heap S o hSw;show wpAny _ A.in1 (holding [Value.int z t] (setAdd S (.int z t)) >>= _) _ _ s';refine EE (wpAny_holding ?_);unfold setAdd;refine wpAny_holding (EE ((PySem.intKind P w).pyHash (k:=z) (qg z t) ?_));refine Bh (s:={ s' with toks:=s'.toks+1 }) hset' (by omega) λh' b sb hset2=>?_;obtain⟨D',hD1,hD2,hD3⟩:=As hset.1 hset2;have htk:∀k,k∈D'↔k∈zs.take (i+1):=λk=>by rw[hD3,hD k,List.take_add_one,hz,E9];simp
  refine EF ⟨plainId_quiet F.plain_set_update_loop _,ih (i+1) _ D' (by omega) hlt (W.frame _ s' _ _ hst' (Nat.le_succ _) λc hc o e=>?_) hD1 (by omega) htk λs'' D2 mv2 hS2=>hR s'' D2 (Moved.trans W.gtrans ((mv.mono more).then_heap (Nat.le_succ _) λc o hc e=>?_) mv2) hS2⟩
  ·rw[sb.2 c (λz:c=S=>hS (z ▸ hc))];exact e
  ·rw[sb.2 c (λz:c=S=>hc (by rw[z];exact ES))];exact e
def AG{l:Addr}{ys:Array Value}{zs:List Int}{Q:Value->Shared->Prop}(hA:A.handled=none)(gt:s.heap.IsList l ys)(hz:IntsAre ys.toList zs)(hsz:ys.size+1<scanBound)
  (h:∀(h':Heap) (tk:Nat) (D:List Int),eI P w h' s.heap.objs.size D->(∀k,k∈D↔k∈zs)->(∀b o,b<s.heap.objs.size->s.heap.get? b=some o->h'.get? b=some o)->Q (.ref s.heap.objs.size) { s with heap:=h',toks:=tk }):wpAny (model P w) A (call (.type "set") [.ref l]) Q E s:=by
 have x1:=F.called_set.notType;have x2:=F.called_set.canCreate;have x3:=F.typeCall_set_1 (.ref l);have x4:=F.called_set.made;have x5:=F.called_set.sub;obtain⟨c,tl,x6⟩:=F.called_set.mro;refine wpAny_call (codeAny_of_tree ?_);show wpAny _ _ (callAny (.type "set") _) _ _ _;refine EF ⟨Code.quiet_builtin _ (by decide +kernel),codeAny_builtin F.entry_type_call ?_⟩;rw[Around.under_plain (weight_type_call_type "set" [.ref l] []) rfl]
 repeat (any_goals (first|assumption|wp_step))
 refine codeAny_mono (Cd (.ref l) (E:=E) (Q₁:=λv s1=>v=.ref s.heap.objs.size/\s1={ s with heap:=s.heap.push (cw (di w)) }) ⟨rfl,rfl⟩) λr s1 hr=>?_;cases r with
 | error e=>exact hr
 | ok fl=>
  cases fl with
  | ret v=>
   obtain⟨rfl,rfl⟩:=hr;have gS:(s.heap.push (cw (di w))).get? s.heap.objs.size=some (cw (di w)):=EI _ rfl;have hT:Shared.TypeIs { s with heap:=s.heap.push (cw (di w)) } (.ref s.heap.objs.size) "set":=⟨_,gS,rfl⟩;have x7:=F.called_set.init.lookup;have x8:=F.called_set.init.bind (.ref s.heap.objs.size)
   repeat (any_goals (first|assumption|wp_step))
   refine codeAny_mono (codeAny_call_builtin (R:=wants (λr s2=>r=.none/\∃h' tk D,s2={ s with heap:=h',toks:=tk }/\eI P w h' s.heap.objs.size D/\(∀k,k∈D↔k∈zs)/\∀b o,b<s.heap.objs.size->s.heap.get? b=some o->h'.get? b=some o) E) F.called_set.init.plain F.entry_set_init (check_set_init_1 hT ?_)) λr2 s2 hr2=>?_
   ·have g1:(s.heap.push (cw (di w))).IsList l ys:=gt.push _;have hlt:l<s.heap.objs.size:=by obtain⟨o,ho,_⟩:=gt;exact EJ ho
    obtain⟨ol,hol,hcl,nl,hdl⟩:=id g1;obtain⟨c0,d0,dt,sl⟩:=ol;simp only at hcl hdl;subst hcl hdl;have y1:=F.sub_list_set;have y2:=F.sub_list_frozenset;have y3:(Value.type "list" == Value.type "dict")=false:=by decide
    unfold Builtin.«set.__init__» noKeywords Builtin.Frozenset.updateFrom;generalize hit:pyIter=PI
    wp_walk
    subst hit;refine wpAny_pyIter_list g1 ?_;refine EE (wpAny_runValue ?_);have e1:(s.heap.push (cw (di w))).objs.size=s.heap.objs.size+1:=Heap.size_push _ _;have hA3:A.in1.in1.in1.handled=none:=by simp[hA]
    have hne:l≠(s.heap.push (cw (di w))).objs.size:=by rw[e1];exact E5 (Nat.lt_succ_of_lt hlt)
    have hSf:s.heap.objs.size∉[(s.heap.push (cw (di w))).objs.size,l]:=by
     intro z;rcases E1.mp z with z|z
     ·rw[e1]at z;exact E5 (Nat.lt_succ_self _) z
     ·exact Nat.ne_of_gt hlt (EW.mp z)
    have hzl:zs.length=ys.size:=by rw[←IntsAre.length hz,EO]
    refine yK ((Walks.list hA3 _ l hne ys).toS) s.heap.objs.size hSf zs hzl hsz (λi v hv=>?_) (ys.size-0) 0 _ [] (by omega) (Nat.zero_le _) ⟨⟨_,EI _ rfl,rfl,rfl⟩,g1.push _⟩
     ⟨List.nodup_nil,cw (di w),#[],0,_,EH _ gS,⟨rfl,rfl,rfl⟩,rfl,λe he=>by simp at he,λk=>by simp,by decide,by rfl,rfl,rfl,rfl,.nil⟩ (E6 _) (λk=>by simp) λs' D mv hS' hD=>?_
    ·exact r6 hz i v (by rw[Array.getElem?_toList];exact hv)
    ·obtain⟨h',g',d',tk',os'⟩:=s';have q1:g'=s.gens:=mv.gens;have q2:d'=s.drawn:=mv.drawn;have q3:os'=s.os:=mv.os;subst q1 q2 q3;show wpAny _ _ _ _ _ _;refine EF ?_;show wpAny _ _ (ret Value.none) _ _ _;refine EF ⟨rfl,h',tk',D,rfl,hS',hD,λb o hb e=>mv.heap b o (λz=>?_) (EH _ (EH _ e))⟩;rcases E1.mp z with z|z
     ·exact E5 hb z
     ·have z:=EW.mp z;rw[e1]at z;exact E5 (Nat.lt_succ_of_lt hb) z
   ·cases r2 with
    | error e=>exact hr2
    | ok f2=>
     cases f2 with
     | ret r=>
      obtain⟨rfl,h',tk,D,rfl,hS',hD,hk⟩:=hr2
      repeat (any_goals (first|assumption|wp_step))
      exact h _ _ D hS' hD hk
     | _=>exact hr2.elim
  | _=>exact hr.elim
end
def intOf:Value->Int
 | .int z _=>z
 | _=>0
def ints_map:∀(vs:List Value),(∀v∈vs,∃z t,v=Value.int z t)->IntsAre vs (vs.map intOf)
 | [],_=>.nil
 | v::vs,h=>by obtain⟨z,t,rfl⟩:=h v ES;exact .cons z t (ints_map vs λu hu=>h u (EN _ hu))
def sL:∀{vs:List Value} {zs:List Int},IntsAre vs zs->∀v∈vs,∃z t,v=Value.int z t
 | _,_,.nil,v,h=>by cases h
 | _,_,.cons z t r,v,h=>by
  rcases E1.mp h with rfl|h
  ·exact⟨z,t,rfl⟩
  ·exact sL r v h
def uS:∀{vs:List Value} {zs:List Int},IntsAre vs zs->vs.map intOf=zs
 | _,_,.nil=>rfl
 | _,_,.cons z t r=>by show z::_=_;rw[uS r]
section
variable {P:Program} {w:World} {A:Around} {E:Value->Shared->Prop} {s:Shared}
def Al{a:Addr}{D:List Int}{Q:List Value->Shared->Prop}(hA:A.handled=none)(hS:eI P w s.heap a D)
  (hQ:∀(h':Heap) (tk:Nat) d (vs:List Value) (ds:List Int),IntsAre vs ds->ds.Perm D->s.toks<=tk->s.heap.objs.size<h'.objs.size->(∀b o,b<s.heap.objs.size->s.heap.get? b=some o->h'.get? b=some o)->Q vs { s with heap:=h',toks:=tk,drawn:=d }):wpAny (model P w) A (collect (.ref a)) Q E s:=by
 obtain⟨o,es,ep,t,ds,ho,hex,hd,hf,hled,hinc,hb,hn,hs,hpm⟩:=hS.elems;have hp:t.place.size=es.size:=by simp only[SetTable.fits,Fo,beq_iff_eq,decide_eq_true_eq]at hf;exact hf.1
 have hsz:es.size<=sizeLine:=Fi (Nat.le_of_lt hb) (by decide);have key:∀(h':Heap) (tk:Nat) d (vs:List Value),vs.Perm (es.toList.map (·.2))->s.toks<=tk->s.heap.objs.size<h'.objs.size->(∀b o,b<s.heap.objs.size->s.heap.get? b=some o->h'.get? b=some o)->Q vs { s with heap:=h',toks:=tk,drawn:=d }:=λh' tk d vs hv q1 q2 q3=>by refine hQ h' tk d vs _ (ints_map vs λv hv'=>sL hs v (hv.mem_iff.mp hv')) ?_ q1 q2 q3;refine((hv.map intOf).trans (List.Perm.of_eq ?_)).trans hpm;exact uS hs
 exact xS hA ho hex hd hf hled hp hinc.2 hsz key
def Eg{a:Addr}{D:List Int}{Q:Value->Shared->Prop}(hA:A.handled=none)(hS:eI P w s.heap a D)(hD1:D.length<64)
  (h:∀(h':Heap) (tk:Nat) d (l:Addr) (vs:List Value) (ms:List Int),s.heap.objs.size<=l->(∃e,h'.get? l=some (seqObj "list" vs.toArray e))->IntsAre vs ms->ms.Perm D->ms.Pairwise (λa b:Int=>a<=b)->s.toks<=tk →
   (∀b o,b<s.heap.objs.size->s.heap.get? b=some o->h'.get? b=some o)->Q (.ref l) { s with heap:=h',toks:=tk,drawn:=d }) :
  wpAny (model P w) A (call (.builtin "sorted") [.ref a]) Q E s:=by
 refine Calls.call_function_entry kind_sorted plain_sorted entry_sorted (args_sorted1 _) ?_;unfold Builtin.«sorted»;refine EE (m:=checkCount "sorted" 1 1 _) (EF ?_);refine EE (Al (by simp[hA]) hS λh1 tk d vs ds hst hpm htk hsz1 hk1=>?_);have hvl:vs.length=D.length:=(IntsAre.length hst).trans hpm.length_eq;refine EE (wpAny_newList ?_ (Fi (show vs.length<=64 by omega) (by decide)));have hoL:(h1.push (seqObj "list" vs.toArray 0)).get? h1.objs.size=some (seqObj "list" vs.toArray 0):=EI _ rfl;refine EE (wpAny_holding (wpAny_call_entry slot_list_sort ⟨_,hoL,rfl⟩ entry_list_sort (list_sort_tree (s:={ s with heap:=h1.push (seqObj "list" vs.toArray 0),toks:=tk,drawn:=d }) hoL hst (by omega) λout ns' q1 q2 q3=>⟨_,rfl,?_⟩) (args_list_sort _)));refine EF ⟨_,rfl,?_⟩;refine h _ tk d h1.objs.size out.toList ns' (Nat.le_of_lt hsz1) ?_ q1 (q2.trans hpm) q3 htk λb o' hb e=>?_
 ·obtain⟨e1,r1⟩:∃e1,((h1.push (seqObj "list" vs.toArray 0)).update h1.objs.size (Obj.mapSeq λ_=>#[])).get? h1.objs.size=some (seqObj "list" #[] e1):=⟨_,get?_update_seq hoL (λ_=>#[])⟩;have r2:(((((h1.push (seqObj "list" vs.toArray 0)).update h1.objs.size (Obj.mapSeq λ_=>#[])).push (seqObj "tuple" vs.toArray 0)).push (seqObj "list" #[] 0))).get? h1.objs.size=some (seqObj "list" #[] e1):=EH _ (EH _ r1);have r3:=get?_update_seq r2 (λ_=>out);exact⟨_,by rw[Array.toArray_toList];exact r3⟩
 ·have hb1:b<h1.objs.size:=Nat.lt_trans hb hsz1;have e1:=hk1 b o' hb e;unfold sortedHeap;refine(Heap.get?_update_other _ _ (Nat.ne_of_gt hb1)).trans (EH _ (EH _ ((Heap.get?_update_other _ _ (Nat.ne_of_gt hb1)).trans (EH _ e1))))
end
def mS(P:Program)(w:World)(a:Addr)(D:List Int):HO:=.ext λh=>eI P w h a D
def AH{P:Program}{w:World}{H:Hp}{h:Heap}{a:Addr}{D:List Int}(S:eI P w h a D):bB P w H h a (mS P w a D):=by
 refine⟨S,?_,λh1 h2 z k=>?_⟩
 ·obtain⟨_,o,es,ep,t,ho,_⟩:=S;exact⟨o,ho⟩
 ·exact⟨z.1,z.2.moved k⟩
section
variable {X:Cx}
def Co(P:Program)(w:World):List V->Hp->VK->Prop:=λxs H Q=>∃p zs,xs=[.ref p]/\H p=some (.lst (List.map V.int zs))/\zs.length<=4000 ∧
 ∀l D,H l=none->D.Nodup->(∀z,z∈D↔z∈zs)->Q (.ref l) (upd H l (mS P w l D))
def call_setJ{k:Nat}(hr:Room k X.A):cQ X (.type "set") (Co X.prog X.w):=by intro pins s σ H xs us Q I r h;obtain⟨p,zs,rfl,hp,hz,q⟩:=h;obtain⟨u,rfl,rx⟩:=vals1 r;cases rx;obtain⟨_,its,n,rv,gt⟩:=I.hok p _ hp;have hst:=intsAre_of rv;have hl:its.length=zs.length:=IntsAre.length hst;refine AG hr.hd (ys:=its.toArray) (zs:=zs) (show s.heap.IsList p _ from⟨_,gt,rfl,n,rfl⟩) hst (by rw[ER,hl];exact Nat.lt_of_le_of_lt (Nat.succ_le_succ hz) (by decide)) λh' tk D hS hD hk=>?_;have hfr:=I.hok.fresh (E6 _);exact⟨.ref s.heap.objs.size,_,I.laid (t':=tk) (λb o e=>hk b o (EJ e) e) (E6 _) (AH hS),rfl,q _ D hfr hS.1 hD⟩
def Dr(P:Program)(w:World):List V->Hp->VK->Prop:=λxs H Q=>∃(p:Addr) (D:List Int),xs=[.ref p]/\H p=some (mS P w p D)/\D.length<64 ∧
 ∀l ms,H l=none->ms.Perm D->ms.Pairwise (λa b:Int=>a<=b)->Q (.ref l) (upd H l (.lst (List.map V.int ms)))
def call_sortJ{k:Nat}(hr:Room k X.A):cQ X (.builtin "sorted") (Dr X.prog X.w):=by intro pins s σ H xs us Q I r h;obtain⟨p,D,rfl,hp,hl,q⟩:=h;obtain⟨u,rfl,rx⟩:=vals1 r;cases rx;obtain⟨hO,_⟩:=I.hok p _ hp;refine Eg hr.hd (show eI X.prog X.w s.heap p D from hO) hl λh' tk d l vs ms hle hlst hst hpm hsr htk hk=>?_;have hfr:=I.hok.fresh hle;obtain⟨e,he⟩:=hlst;refine⟨.ref l,_,((I.dr d).laid (t':=tk) (o:=.lst (ms.map V.int)) (λb o e=>hk b o (EJ e) e) hle ?_),rfl,q l ms hfr hpm hsr⟩;exact⟨by rw[EK,hpm.length_eq];exact Fi (Nat.le_of_lt hl) (by decide),vs,e,uQ hst,he⟩
end
end L2.Ti
namespace L2
open PySem PySem.Spec PyProof.Rows
section
variable {X:Cx} {pins:List (Addr×Obj)} {σ:St} {H:Hp} {s:Shared}
def gC{i:Nat}{y:Str}{py:Pos}{elt tg iter:Expr}{ifs:List Expr}{sc:Scope}{pos spos:Pos}(own:List Str)(js:List Nat){wi:TI}{g:TG}{tc:TT}{te:TE}(hN:X.N.Nodup)(hi':X.N[i]?=some y)(hx:Loc X.env.scope y)
  (hi:PI X tg iter wi) (hg:∀z,PG (cI X sc own js z) tg g) (ht:∀z,jA (cI X sc own js z) ifs tc)
  (he:∀z,PE (cI X sc own js z) elt te) (hsw:swapsWith (.ListComp elt [⟨tg,iter,ifs,0⟩] sc pos) (some (.Name y py)) spos.line X.env=pure true:=by rfl) (hc:X.calm=true:=by rfl) (hk:sc.kind=.function:=by rfl) (hb:ef sc X.env.scope=true:=by rfl) (hj:kG sc X.N js=true:=by rfl)
  (hs:∀x,foldedSetIterable iter X.env x=pure x:=by intro _;rfl) (hf:X.fn y=true\/X.env.scope.names.lookup y=some .local:=by first|exact .inl rfl|exact .inr rfl|assumption) :
  PS X (.Assign [.Name y py] (.ListComp elt [⟨tg,iter,ifs,0⟩] sc pos) spos) (kX (ma own.length js wi g tc te) (jF i)):=by
 intro pins s σ H D' I h;rw[exec_Assign_Name_used _ _ _ _ hsw];refine EE (wpAny_standAt (EE ?_));show wpAny _ X.A (do let _ ←comprehension (.ListComp elt [⟨tg,iter,ifs,0⟩] sc pos) sc X.env _ (newList []) false (eval iter X.env) (some (assign (.Name y py) X.env))) _ _ s;refine EE (wpAny_mono (wpAny_comprehension_free (use:=some (assign (.Name y py) X.env)) (Q:=λ_ s'=>SP X pins D' .next s') rfl hs (nX λp hp hf=>I.ok.has p.1 (j6 hb hp hf)) hk (λp hp hl=>vS hb hp hl)
  (av (hi pins s σ H _ I h) λv s1 h1=>av h1 λitv s2 h2=>?_)) (λ_ s' hq=>EF (EF hq)) λ_ _ e=>e)
 obtain⟨it,fp,tn,J,H2,e,I2,T,st2,f2,W,w0,turn⟩:=h2;subst e;refine sD (Q:=λx H1=>jF i x σ H1 D'.nx) (RR:=λacc C=>compPost (model X.prog X.w) X.A X.xe (some (assign (.Name y py) X.env)) (λ_ s'=>SP X pins D' .next s') acc C) hk hb hj (λ_=>hg _) (λ_=>ht _) (λ_=>he _) I2 (λC=>Turn.at_ (Y:=cI X sc own js ⟨_,_,_,C⟩) T hc) st2 f2 w0 turn ?_;intro D C s' ys H' nD I' hC ⟨m,hm⟩ hCs q;show wpAny _ X.A (assign (.Name y py) X.env (.ref D)) _ _ _;refine wpAny_assign_Name (vm I' hN hi' hx (v:=.ref D) rfl (λs'' I'' ⟨a,hsb,ha⟩=>?_) hf);obtain⟨f0,f1,f2,f3,f4,f5⟩:=hC;have hac:a≠C:=by
  rcases ha with rfl|ha
  ·exact Ne.symm f1
  ·exact f4 y a ha
 refine⟨m,hm.sameBut hsb (Ne.symm hac),λh' hs'=>?_⟩;exact⟨_,_,I''.turned (t':=s''.toks) (it:=C) (λb o hb' e=>(hs'.2 b hb').trans e) f0 f1 f3 f4 f5,q⟩
end
end L2
namespace St
def g8(lo hi:Int)(xs:List Int):Prop:=xs.Pairwise (· < ·)/\∀x∈xs,lo<=x/\x<hi
structure Ok(b s:Int)(o a:List Int):Prop where
 hb:0<=b
 hs:1<=s
 ho:g8 0 b o
 ha:g8 b (b+s) a
section
variable {b s:Int} {o a:List Int}
end
end St
namespace St
def bA(f:Nat->Bool)(b d:Nat):Prop:=∀x,b<=x->f (x+d)=f x
def bA.mul{f:Nat->Bool}{b d:Nat}(h:bA f b d):∀k x,b<=x->f (x+k*d)=f x
 | 0,x,hx=>by simp
 | k+1,x,hx=>by rw[Nat.succ_mul,←Nat.add_assoc,h _ (by omega),h.mul k x hx]
def bA.times{f:Nat->Bool}{b d:Nat}(h:bA f b d)(k:Nat):bA f b (k*d):=λx hx=>h.mul k x hx
def bA.down{f:Nat->Bool}{b s b' d:Nat}(h:bA f b s)(hs:1<=s)(h':bA f b' d):bA f b d:=λx hx=>by have e1:=h.mul b' (x+d) (by omega);have e2:=h.mul b' x hx;rw[←e1,←e2,show x+d+b'*s=(x+b'*s)+d by omega];exact h' _ (by have:b'*1<=b'*s:=Nat.mul_le_mul_left _ hs;omega)
def bA.mod{f:Nat->Bool}{b s d:Nat}(h:bA f b s)(h':bA f b d):bA f b (s % d):=λx hx=>by have e:=(h'.times (s / d)) (x+s % d) (by omega);rw[←e,show x+s % d+s / d*d=x+s by have:=Nat.div_add_mod s d;rw[Nat.mul_comm]at this;omega];exact h x hx
structure Least(f:Nat->Bool)(st low:Nat):Prop where
 pos:1<=st
 per:bA f low st
 step:∀d b,1<=d->bA f b d->st<=d
 base:∀b,bA f b st->low<=b
def Least.one{f:Nat->Bool}{st low st' low':Nat}(h:Least f st low)(h':Least f st' low'):st=st'/\low=low':=by have e:st=st':=Nat.le_antisymm (h.step st' low' h'.pos h'.per) (h'.step st low h.pos h.per);subst e;exact⟨rfl,Nat.le_antisymm (h.base low' h'.per) (h'.base low h.per)⟩
def Alike(f:Nat->Bool)(b s d:Nat):Prop:=s % d=0/\∀i,i+d<s->f (b+i+d)=f (b+i)
def Alike.per{f:Nat->Bool}{b s d:Nat}(h:bA f b s)(hs:1<=s)(hd:1<=d)(a:Alike f b s d):bA f b d:=by
 obtain⟨q,rfl⟩:∃q,s=d*q:=⟨s / d,by have:=Nat.div_add_mod s d;rw[a.1]at this;omega⟩;have hq:1<=q:=by
  cases q with
  | zero=>simp at hs
  | succ q=>omega
 have inner:∀k i,i<d->k<q->f (b+i+k*d)=f (b+i):=by
  intro k;induction k with
  | zero=>intro i _ _;simp
  | succ k ih=>
   intro i hi hk;have e:=a.2 (i+k*d) (by have:(k+1+1)*d<=q*d:=Nat.mul_le_mul_right _ (by omega);rw[Nat.succ_mul,Nat.succ_mul,Nat.mul_comm q d]at this;omega)
   rw[show b+i+(k+1)*d=b+(i+k*d)+d by rw[Nat.succ_mul];omega,e,←Nat.add_assoc];exact ih i hi (by omega)
 have all:∀n,f (b+n)=f (b+n % d):=λn=>by
  have e1:f (b+n)=f (b+n % (d*q)):=by have:=h.mul (n / (d*q)) (b+n % (d*q)) (by omega);rw[←this];congr 1;have:=Nat.div_add_mod n (d*q);rw[Nat.mul_comm (d*q)]at this;omega
  rw[e1];have hlt:n % (d*q)<d*q:=Nat.mod_lt _ (by omega);have e2:n % (d*q)=n % (d*q) % d+n % (d*q) / d*d:=by have:=Nat.div_add_mod (n % (d*q)) d;rw[Nat.mul_comm]at this;omega
  have e3:n % (d*q) % d=n % d:=Nat.mod_mul_right_mod n d q;have e4:n % (d*q) / d<q:=Nat.div_lt_of_lt_mul hlt;rw[e2,←Nat.add_assoc,inner _ _ (Nat.mod_lt _ (by omega)) e4,e3]
 intro x hx;obtain⟨n,rfl⟩:∃n,x=b+n:=⟨x-b,by omega⟩;rw[Nat.add_assoc,all (n+d),all n,Nat.add_mod_right]
def bA.alike{f:Nat->Bool}{b s d:Nat}(h:bA f b d)(hm:s % d=0):Alike f b s d:=⟨hm,λi _=>h (b+i) (by omega)⟩
def Round(f:Nat->Bool)(b s d:Nat):Prop:=s % d=0/\∀k,k<s->f (b+k)=f (b+k % d)
def Round.alike{f:Nat->Bool}{b s d:Nat}(hd:1<=d)(a:Round f b s d):Alike f b s d:=⟨a.1,λi hi=>by rw[Nat.add_assoc,a.2 (i+d) hi,a.2 i (by omega),Nat.add_mod_right]⟩
def bA.round{f:Nat->Bool}{b s d:Nat}(h:bA f b d)(hm:s % d=0):Round f b s d:=⟨hm,λk _=>by have:=h.mul (k / d) (b+k % d) (by omega);rw[←this];congr 1;have:=Nat.div_add_mod k d;rw[Nat.mul_comm]at this;omega⟩
def zM{f:Nat->Bool}{b s d:Nat}(h:bA f b s)(hs:1<=s)(hd:1<=d)(a:Alike f b s d)(first:∀e,1<=e->e<d->¬Alike f b s e):bA f b d/\∀e b',1<=e->bA f b' e->d<=e:=by
 have pd:=a.per h hs hd;refine⟨pd,λe b' he pe=>?_⟩;have pe':bA f b e:=h.down hs pe;have go:∀n e,e<=n->1<=e->bA f b e->d<=e:=by
  intro n;induction n with
  | zero=>intro e h1 h2;omega
  | succ n ih=>
   intro e h1 h2 pe;by_cases hz:s % e=0
   ·rcases Fx e d with hlt|hge
    ·exact absurd (pe.alike hz) (first e h2 hlt)
    ·exact hge
   ·have hlt:s % e<e:=Nat.mod_lt _ (by omega);have:=ih (s % e) (by omega) (by omega) (h.mod pe);omega
 exact go e e (E6 _) he pe'
def wU{f:Nat->Bool}{b s d low:Nat}(h:bA f b s)(hs:1<=s)(hd:1<=d)(a:Alike f b s d)(first:∀e,1<=e->e<d->¬Alike f b s e)(hl:low<=b)
  (down:∀x,low<=x->x<b->f x=f (x+d)) (stop:low=0\/f (low-1)≠f (low-1+d)):Least f d low:=by
 obtain⟨pd,hmin⟩:=zM h hs hd a first
 refine⟨hd,λx hx=>?_,hmin,λb' pb=>?_⟩
 ·rcases Fx x b with hlt|hge
  ·exact(down x hx hlt).symm
  ·exact pd x hge
 ·rcases stop with h0|hne
  ·omega
  ·rcases Fx b' low with hlt|hge
   ·exact absurd (pb (low-1) (by omega)).symm hne
   ·exact hge
def row(f:Nat->Bool)(lo n:Nat):List Int:=((FE n).filter λi=>f (lo+i)).map λi=>((lo+i:Nat):Int)
end St
namespace St
def sy(f:Nat->Bool)(lo n:Nat):row f lo (n+1)=row f lo n++if f (lo+n)then[((lo+n:Nat):Int)]else[]:=by unfold row;rw[List.range_succ,List.filter_append,E3];congr 1;by_cases h:f (lo+n)=true<;>simp[h]
def gQ(f:Nat->Bool)(lo n:Nat):(row f lo n).length<=n:=by unfold row;rw[EK];exact Fi (List.length_filter_le _ _) (by simp)
def fo{f:Nat->Bool}{lo n:Nat}{x:Int}:x∈row f lo n↔(lo:Int)<=x/\x<lo+n/\f x.toNat=true:=by
 unfold row;simp only[List.mem_map,List.mem_filter,List.mem_range];constructor
 ·rintro⟨i,⟨hi,hf⟩,rfl⟩;refine⟨by omega,by omega,?_⟩;rw[EY];exact hf
 ·rintro⟨h1,h2,h3⟩;refine⟨x.toNat-lo,⟨by omega,?_⟩,by omega⟩;rw[show lo+(x.toNat-lo)=x.toNat by omega];exact h3
def qF(f:Nat->Bool)(lo n:Nat):g8 lo (lo+n) (row f lo n):=by refine⟨?_,λx hx=>⟨(fo.mp hx).1,(fo.mp hx).2.1⟩⟩;unfold row;rw[List.pairwise_map];refine List.Pairwise.imp (R:=λa b=>a<b) (λh=>by omega) ?_;exact List.Pairwise.filter _ List.pairwise_lt_range
def yB(f:Nat->Bool)(b s:Nat)(hs:1<=s):Ok b s (row f 0 b) (row f b s):=
 ⟨by omega,by omega,by have:=qF f 0 b;simpa using this,qF f b s⟩
end St
namespace St
end St
namespace St
end St
namespace Bfs
def ki:∀(N:Nat) (l:List Nat),l.Nodup->(∀x∈l,x<N)->l.length<=N
 | 0,l,_,h=>by
  cases l with
  | nil=>exact E6 _
  | cons x l=>exact absurd (h x ES) (Nat.not_lt_zero _)
 | N+1,l,hn,h=>by
  have ih:=ki N (l.erase N) (hn.erase N) (λx hx=>by
   have:=h x (List.mem_of_mem_erase hx);have hne:x≠N:=λe=>by subst e;exact(List.Nodup.not_mem_erase hn) hx
   omega)
  by_cases hm:N∈l
  ·rw[List.length_erase_of_mem hm]at ih;omega
  ·rw[List.erase_of_not_mem hm]at ih;omega
abbrev Pl:=Int×Int
def inR(T:Int)(x:Pl):Prop:=0<=x.1/\x.1<12/\0<=x.2/\x.2<=T
def Ew{T:Int}{l:List Pl}(hT:T<=2000)(hn:l.Nodup)(h:∀x∈l,inR T x):l.length<=24012:=by
 have hmap:(l.map λx=>(x.1*2001+x.2).toNat).Nodup:=by unfold List.Nodup at hn ⊢;rw[List.pairwise_map];refine List.Pairwise.imp_of_mem ?_ hn;intro a b ha hb hab e;obtain⟨a1,a2,a3,a4⟩:=h a ha;obtain⟨b1,b2,b3,b4⟩:=h b hb;refine hab (Prod.ext ?_ ?_)<;>omega
 have:=ki 24012 _ hmap (λy hy=>by obtain⟨x,hx,rfl⟩:=List.mem_map.mp hy;obtain⟨a1,a2,a3,a4⟩:=h x hx;omega)
 rwa [EK]at this
section
variable (nx:Pl->Nat->Option Pl) (s:Pl)
inductive Wk:Nat->Pl->Prop
 | zero:Wk 0 s
 | succ {n:Nat} {x y:Pl} {k:Nat}:Wk n x->nx x k=some y->Wk (n+1) y
def cU(n:Nat)(x:Pl):Prop:=Wk nx s n x/\∀m,m<n->¬Wk nx s m x
def cU.uniq{n m:Nat}{x:Pl}(h:cU nx s n x)(g:cU nx s m x):n=m:=by
 rcases Nat.lt_trichotomy n m with l|l|l
 ·exact absurd h.1 (g.2 n l)
 ·exact l
 ·exact absurd g.1 (h.2 m l)
variable {nx s}
abbrev dE:=Pl×Nat
structure LI(f:List dE)(wl:List Pl)(L:Nat):Prop where
 nd:(f.map (·.1)).Nodup
 ds:∀e∈f,cU nx s e.2 e.1/\e.2<=L
 al:∀n y,n<=L->Wk nx s n y->y∈f.map (·.1)
 wt:∀x∈wl,cU nx s L x
 tw:∀x,cU nx s L x->x∈wl
def LI.begin:LI (nx:=nx) (s:=s) [(s,0)] [s] 0:=by
 have d0:cU nx s 0 s:=⟨.zero,λm hm=>absurd hm (Nat.not_lt_zero _)⟩;refine⟨by simp,?_,?_,?_,?_⟩
 ·intro e he;rw[EW]at he;subst he;exact⟨d0,E6 _⟩
 ·intro n y hn w;have:n=0:=by omega
  subst this;cases w;simp
 ·intro x hx;rw[EW]at hx;subst hx;exact d0
 ·intro x hx;cases hx.1;simp
structure LF(f f':List dE)(wt lt:List Pl)(L:Nat)(D:Pl->Prop):Prop where
 nd:(f'.map (·.1)).Nodup
 ds:∀e∈f',cU nx s e.2 e.1/\e.2<=L+1
 sub:∀e∈f,e∈f'
 lt1:∀x∈lt,cU nx s (L+1) x
 lt2:∀e∈f',e.2=L+1->e.1∈lt
 dn:∀y,D y->y∈f'.map (·.1)
def LI.start{f:List dE}{wt:List Pl}{L:Nat}(h:LI (nx:=nx) (s:=s) f wt L):LF (nx:=nx) (s:=s) f f wt [] L λ_=>False:=by refine⟨h.nd,λe he=>⟨(h.ds e he).1,by have:=(h.ds e he).2;omega⟩,λe he=>he,λx hx=>(by cases hx),λe he hd=>?_,λy hy=>hy.elim⟩;have:=(h.ds e he).2;omega
def LF.more{f f':List dE}{wt lt:List Pl}{L:Nat}{D D':Pl->Prop}(h:LF (nx:=nx) (s:=s) f f' wt lt L D)(hd:∀y,D' y->D y\/y∈f'.map (·.1)):LF (nx:=nx) (s:=s) f f' wt lt L D':=
 ⟨h.nd,h.ds,h.sub,h.lt1,h.lt2,λy hy=>by
  rcases hd y hy with z|z
  ·exact h.dn y z
  ·exact z⟩
def LF.add{f f':List dE}{wt lt:List Pl}{L:Nat}{D D':Pl->Prop}{x y:Pl}{k:Nat}(h0:LI (nx:=nx) (s:=s) f wt L)(h:LF (nx:=nx) (s:=s) f f' wt lt L D)(hx:x∈wt)(hk:nx x k=some y)(hn:y∉f'.map (·.1))(hd:∀z,D' z->D z\/z=y):
  LF (nx:=nx) (s:=s) f (f'++[(y,L+1)]) wt (lt++[y]) L D':=by
 have dy:cU nx s (L+1) y:=by refine⟨.succ (h0.wt x hx).1 hk,λm hm w=>hn ?_⟩;obtain⟨e,he,hy⟩:=List.mem_map.mp (h0.al m y (by omega) w);exact List.mem_map.mpr ⟨e,h.sub e he,hy⟩
 refine⟨?_,?_,λe he=>Fu _ (h.sub e he),?_,?_,?_⟩
 ·rw[E3,List.nodup_append];refine⟨h.nd,by simp,λa ha b hb e=>?_⟩;have:b=y:=by simpa using hb
  subst this;subst e;exact hn ha
 ·intro e he;rcases E9.mp he with z|z
  ·exact h.ds e z
  ·have:e=(y,L+1):=by simpa using z
   subst this;exact⟨dy,E6 _⟩
 ·intro z hz;rcases E9.mp hz with z'|z'
  ·exact h.lt1 z z'
  ·have:z=y:=by simpa using z'
   subst this;exact dy
 ·intro e he hl;rcases E9.mp he with z|z
  ·exact Fu _ (h.lt2 e z hl)
  ·have:e=(y,L+1):=by simpa using z
   subst this;exact Ft _ (by simp)
 ·intro z hz;rw[E3];rcases hd z hz with z'|z'
  ·exact Fu _ (h.dn z z')
  ·subst z';exact Ft _ (by simp)
def LF.next{f f':List dE}{wt lt:List Pl}{L:Nat}{D:Pl->Prop}(h0:LI (nx:=nx) (s:=s) f wt L)(h:LF (nx:=nx) (s:=s) f f' wt lt L D)(hD:∀x∈wt,∀k y,nx x k=some y->D y):LI (nx:=nx) (s:=s) f' lt (L+1):=by
 have al:∀n y,n<=L+1->Wk nx s n y->y∈f'.map (·.1):=by
  intro n y hn w;rcases Fx n (L+1)with l|l
  ·obtain⟨e,he,hy⟩:=List.mem_map.mp (h0.al n y (by omega) w);exact List.mem_map.mpr ⟨e,h.sub e he,hy⟩
  ·have:n=L+1:=by omega
   subst this;cases w with
   | @succ n x y k w hk=>
    by_cases hw:x∈wt
    ·exact h.dn y (hD x hw k y hk)
    ·obtain⟨e,he,hx⟩:=List.mem_map.mp (h0.al L x (E6 _) w);obtain⟨d1,d2⟩:=h0.ds e he;have hlt:e.2<L:=by
      rcases Fx e.2 L with l|l
      ·exact l
      ·exfalso;refine hw (h0.tw x ?_);rw[←hx,show L=e.2 by omega];exact d1
     obtain⟨e',he',hy⟩:=List.mem_map.mp (h0.al (e.2+1) y (by omega) (.succ d1.1 (by rw[hx];exact hk)));exact List.mem_map.mpr ⟨e',h.sub e' he',hy⟩
 refine⟨h.nd,h.ds,al,h.lt1,λx hx=>?_⟩;obtain⟨e,he,hy⟩:=List.mem_map.mp (al (L+1) x (E6 _) hx.1);have:=cU.uniq (nx:=nx) (s:=s) (h.ds e he).1 (by rw[hy];exact hx);have:=h.lt2 e he this
 rwa [hy]at this
def LI.end_{f:List dE}{L:Nat}(h:LI (nx:=nx) (s:=s) f [] L):∀n y,Wk nx s n y->y∈f.map (·.1):=by
 have none_:∀n y,L<=n->¬cU nx s n y:=by
  intro n y hn d;have:∀j,j<=n->∃x,cU nx s (n-j) x:=by
   intro j;induction j with
   | zero=>intro _;exact⟨y,d⟩
   | succ j ih=>
    intro hj;obtain⟨x,w,hx⟩:=ih (by omega);rw[show n-j=(n-(j+1))+1 by omega]at w hx;cases w with
    | @succ n' x' y' k w hk=>exact⟨x',w,λm hm w'=>hx (m+1) (by omega) (.succ w' hk)⟩
  obtain⟨x,hx⟩:=this (n-L) (by omega);rw[show n-(n-L)=L by omega]at hx;cases h.tw x hx
 intro n y;induction n using Nat.strongRecOn generalizing y with
 | _ n ih=>
  intro w;rcases Fx L n with l|l
  ·by_cases hm:∃m,m<n/\Wk nx s m y
   ·obtain⟨m,hm,w'⟩:=hm;exact ih m hm y w'
   ·exact absurd ⟨w,λm hm' w'=>hm ⟨m,hm',w'⟩⟩ (none_ n y (by omega))
  ·exact h.al n y l w
end
end Bfs
namespace Bfs
inductive Rw(S:Pl->Pl->Prop):Nat->Pl->Pl->Prop
 | nil {x:Pl}:Rw S 0 x x
 | snoc {n:Nat} {x y z:Pl}:Rw S n x y->S y z->Rw S (n+1) x z
def Rw.trans{S:Pl->Pl->Prop}{n k:Nat}{x y z:Pl}(h:Rw S n x y)(g:Rw S k y z):Rw S (n+k) x z:=by
 induction g with
 | nil=>exact h
 | snoc _ hs ih=>exact .snoc (ih h) hs
def Rw.imp{S S':Pl->Pl->Prop}(hS:∀a c,S a c->S' a c){n:Nat}{x y:Pl}(h:Rw S n x y):Rw S' n x y:=by
 induction h with
 | nil=>exact .nil
 | snoc _ hs ih=>exact .snoc ih (hS _ _ hs)
def Rw.fn{S:Pl->Pl->Prop}{n:Nat}{x y:Pl}(h:Rw S n x y):∃w:Nat->Pl,w 0=x/\w n=y/\∀i,i<n->S (w i) (w (i+1)):=by
 induction h with
 | @nil x=>exact⟨λ_=>x,rfl,rfl,λi hi=>absurd hi (Nat.not_lt_zero _)⟩
 | @snoc n x y z _ hs ih=>
  obtain⟨w,h0,hn,hw⟩:=ih;refine⟨λi=>if i<=n then w i else z,by simp[h0],(by show(if n+1<=n then w (n+1)else z)=z;rw[FH (by omega)]),λi hi=>?_⟩
  try dsimp only
  rcases Fx i n with l|l
  ·rw[FI (by omega),FI (by omega)];exact hw i l
  ·have:i=n:=by omega
   subst this;rw[FI (E6 _),FH (by omega),hn];exact hs
def sv{S:Pl->Pl->Prop}{w:Nat->Pl}{i:Nat}:∀(k:Nat),(∀j,i<=j->j<i+k->S (w j) (w (j+1)))->Rw S k (w i) (w (i+k))
 | 0,_=>.nil
 | k+1,h=>.snoc (sv k λj h1 h2=>h j h1 (by omega)) (h (i+k) (by omega) (by omega))
def ji{S:Pl->Pl->Prop}{w:Nat->Pl}{i j:Nat}(hij:i<=j)(h:∀k,i<=k->k<j->S (w k) (w (k+1))):Rw S (j-i) (w i) (w j):=by
 have:=sv (S:=S) (w:=w) (i:=i) (j-i) (λk h1 h2=>h k h1 (by omega))
 rwa [show i+(j-i)=j by omega]at this
def jK{h:Nat->Int}{l:Int}:∀(P:Nat),(∀i,i<P->h (i+1)<=h i+1)->h 0<=l->l<=h P->∃u,u<=P/\h u=l/\∀i,u<i->i<=P->l<h i
 | 0,_,h0,hP=>⟨0,E6 _,by omega,λi h1 h2=>by omega⟩
 | P+1,hs,h0,hP=>by
  by_cases e:h (P+1)=l
  ·exact⟨P+1,E6 _,e,λi h1 h2=>by omega⟩
  ·have:=hs P (by omega);obtain⟨u,hu,hl,hi⟩:=jK P (λi hi=>hs i (by omega)) h0 (by omega);refine⟨u,by omega,hl,λi h1 h2=>?_⟩;rcases Fx P i with g|g
   ·have:i=P+1:=by omega
    subst this;omega
   ·exact hi i h1 g
def rC{h:Nat->Int}{l:Int}{P n:Nat}(hP:P<=n)(hs:∀i,P<=i->i<n->h i<=h (i+1)+1)(h0:h n<=l)(hl:l<=h P):∃d,P<=d/\d<=n/\h d=l/\∀i,P<=i->i<d->l<h i:=by
 obtain⟨u,hu,hul,hui⟩:=jK (h:=λi=>h (n-i)) (l:=l) (n-P) (λi hi=>by
  have:=hs (n-(i+1)) (by omega) (by omega)
  rwa [show n-(i+1)+1=n-i by omega]at this) (by simpa using h0) (by
  try dsimp only
  rw[show n-(n-P)=P by omega];exact hl)
 refine⟨n-u,by omega,by omega,hul,λi h1 h2=>?_⟩;have:=hui (n-i) (by omega) (by omega)
 (try dsimp only at this)
 rwa [show n-(n-i)=i by omega]at this
def code_inj{m r s r' s':Int}(hs:0<=s)(hs1:s<m)(hs':0<=s')(hs1':s'<m)(e:r*m+s=r'*m+s'):r=r'/\s=s':=by
 have h1:s=s':=by
  have:=congrArg (· % m) e
  (try dsimp only at this)
  rw[Int.add_comm,Int.add_mul_emod_self_right,Int.add_comm (r'*m),Int.add_mul_emod_self_right,Int.emod_eq_of_lt hs hs1,Int.emod_eq_of_lt hs' hs1']at this;exact this
 refine⟨?_,h1⟩;have h2:r*m=r'*m:=by omega
 exact Int.eq_of_mul_eq_mul_right (by omega) h2
def o6{m r s:Int}(hr:0<=r)(hr1:r<m)(hs:0<=s)(hs1:s<m):0<=r*m+s/\r*m+s<m*m:=by have h1:0<=r*m:=Int.mul_nonneg hr (by omega);have h2:(r+1)*m<=m*m:=Int.mul_le_mul_of_nonneg_right (by omega) (by omega);rw[Int.add_mul,Int.one_mul]at h2;omega
def twice{K:Nat}(code:Nat->Nat)(h:∀j,j<=K->code j<K):∃i j,i<j/\j<=K/\code i=code j:=by
 refine Classical.byContradiction λno=>?_;have hn:((FE (K+1)).map code).Nodup:=by unfold List.Nodup;rw[List.pairwise_map];refine List.Pairwise.imp_of_mem ?_ (List.pairwise_lt_range (n:=K+1));intro a b ha hb hab e;exact no ⟨a,b,hab,by have:=List.mem_range.mp hb;omega,e⟩
 have:=ki K _ hn (λx hx=>by obtain⟨j,hj,rfl⟩:=List.mem_map.mp hx;exact h j (by have:=List.mem_range.mp hj;omega))
 rw[EK,List.length_range]at this;omega
def cut{S:Pl->Pl->Prop}{m:Int}(hm:0<m)(h1:∀x y,S x y->y.2<=x.2+1/\x.2<=y.2+1)(h2:∀x y c,S x y->0<=c->1<=x.2-c->1<=y.2-c->S (x.1,x.2-c) (y.1,y.2-c))
  (h3:∀x y,S x y->0<=y.1/\y.1<m) {b:Int} (hb:0<=b):∀(n:Nat) (x g:Pl),Rw S n x g->0<=x.1->x.1<m->x.2<=b->g.2<=b->∃n',n'<=n/\Rw (λa c=>S a c/\c.2<=b+m*m) n' x g:=by
 intro n;induction n using Nat.strongRecOn with
 | _ n ih=>
  intro x g hw x0 x1 xb gb;obtain⟨w,hw0,hwn,hws⟩:=hw.fn;by_cases hall:∀i,i<=n->(w i).2<=b+m*m
  ·refine⟨n,E6 _,?_⟩;have:=ji (S:=λa c=>S a c/\c.2<=b+m*m) (w:=w) (Nat.zero_le n) (λk _ hk=>⟨hws k hk,hall (k+1) (by omega)⟩);rw[hw0,hwn]at this;exact this
  ·obtain⟨P,hP⟩:=Classical.not_forall.mp hall;obtain⟨hPn,hPh⟩:P<=n/\b+m*m<(w P).2:=by
    by_cases c:P<=n
    ·exact⟨c,by
      by_cases d:(w P).2<=b+m*m
      ·exact absurd (λ_=>d) hP
      ·omega⟩
    ·exact absurd (λz=>absurd z c) hP
   have hmm:0<=m*m:=Int.mul_nonneg (by omega) (by omega);have room:∀i,i<=n->0<=(w i).1/\(w i).1<m:=by
    intro i hi;cases i with
    | zero=>rw[hw0];exact⟨x0,x1⟩
    | succ i=>exact h3 _ _ (hws i (by omega))
   have hu:∀j:Nat,∃u,(j<=(m*m).toNat->u<=P/\(w u).2=b+1+j/\∀i,u<i->i<=P->b+1+j<(w i).2):=by
    intro j;by_cases hj:j<=(m*m).toNat
    ·obtain⟨u,a1,a2,a3⟩:=jK (h:=λi=>(w i).2) (l:=b+1+j) P (λi hi=>(h1 _ _ (hws i (by omega))).1) (by(try dsimp only);rw[hw0];omega) (by(try dsimp only);omega);exact⟨u,λ_=>⟨a1,a2,a3⟩⟩
    ·exact⟨0,λz=>absurd z hj⟩
   have hd:∀j:Nat,∃d,(j<=(m*m).toNat->P<=d/\d<=n/\(w d).2=b+1+j/\∀i,P<=i->i<d->b+1+j<(w i).2):=by
    intro j;by_cases hj:j<=(m*m).toNat
    ·obtain⟨d,a1,a2,a3,a4⟩:=rC (h:=λi=>(w i).2) (l:=b+1+j) hPn (λi _ hi=>(h1 _ _ (hws i hi)).2) (by(try dsimp only);rw[hwn];omega) (by(try dsimp only);omega);exact⟨d,λ_=>⟨a1,a2,a3,a4⟩⟩
    ·exact⟨0,λz=>absurd z hj⟩
   obtain⟨u,hu⟩:=Classical.axiomOfChoice hu;obtain⟨d,hd⟩:=Classical.axiomOfChoice hd;obtain⟨i,j,hij,hjK,hcode⟩:=twice (K:=(m*m).toNat) (λj=>((w (u j)).1*m+(w (d j)).1).toNat) (λj hj=>by
    have a1:=hu j hj;have a2:=hd j hj;have r1:=room (u j) (by omega);have r2:=room (d j) (by omega);have:=o6 r1.1 r1.2 r2.1 r2.2
    try dsimp only
    omega)
   obtain⟨ui1,ui2,ui3⟩:=hu i (by omega);obtain⟨uj1,uj2,uj3⟩:=hu j hjK;obtain⟨di0,di1,di2,di3⟩:=hd i (by omega);obtain⟨dj0,dj1,dj2,dj3⟩:=hd j hjK;have hr:(w (u i)).1=(w (u j)).1/\(w (d i)).1=(w (d j)).1:=by
    have r1:=room (u i) (by omega);have r2:=room (d i) (by omega);have r3:=room (u j) (by omega);have r4:=room (d j) (by omega);have c1:=o6 r1.1 r1.2 r2.1 r2.2;have c2:=o6 r3.1 r3.2 r4.1 r4.2
    (try dsimp only at hcode)
    exact code_inj r2.1 r2.2 r4.1 r4.2 (by omega)
   have huu:u i<u j:=by
    rcases Nat.lt_trichotomy (u i) (u j)with z|z|z
    ·exact z
    ·rw[z]at ui2;omega
    ·have:=uj3 (u i) z ui1;omega
   have hdd:d j<d i:=by
    rcases Nat.lt_trichotomy (d j) (d i)with z|z|z
    ·exact z
    ·rw[z]at dj2;omega
    ·have:=dj3 (d i) di0 z;omega
   have s1:Rw S (u i-0) (w 0) (w (u i)):=ji (Nat.zero_le _) (λk _ hk=>hws k (by omega));have s3:Rw S (n-d i) (w (d i)) (w n):=ji di1 (λk _ hk=>hws k hk);have hi:∀k,u j<=k->k<=d j->b+1+j<=(w k).2:=by
    intro k k1 k2;rcases Fx k P with z|z
    ·rcases Fx (u j) k with y|y
     ·have:=uj3 k y (by omega);omega
     ·have:k=u j:=by omega
      subst this;omega
    ·rcases Fx k (d j)with y|y
     ·have:=dj3 k z y;omega
     ·have:k=d j:=by omega
      subst this;omega
   have s2:Rw S (d j-u j) ((w (u j)).1,(w (u j)).2-(j-i:Nat)) ((w (d j)).1,(w (d j)).2-(j-i:Nat)):=
    ji (S:=S) (w:=λk=>((w k).1,(w k).2-(j-i:Nat))) (show u j<=d j by omega) (λk k1 k2=>h2 _ _ _ (hws k (by omega)) (by omega) (by have:=hi k k1 (by omega);omega) (by have:=hi (k+1) (by omega) (by omega);omega))
   have e1:((w (u j)).1,(w (u j)).2-((j-i:Nat):Int))=w (u i):=Prod.ext hr.1.symm (by(try dsimp only);omega);have e2:((w (d j)).1,(w (d j)).2-((j-i:Nat):Int))=w (d i):=Prod.ext hr.2.symm (by(try dsimp only);omega);rw[e1,e2]at s2;have s:=(s1.trans s2).trans s3;rw[hw0,hwn]at s;obtain⟨n',hn',hr'⟩:=ih _ (by omega) x g s x0 x1 xb gb;exact⟨n',by omega,hr'⟩
def Wk.rw{nx:Pl->Nat->Option Pl}{s y:Pl}{n:Nat}(h:Wk nx s n y):Rw (λa c=>∃k,nx a k=some c) n s y:=by
 induction h with
 | zero=>exact .nil
 | succ _ hk ih=>exact .snoc ih ⟨_,hk⟩
def Rw.wk{nx:Pl->Nat->Option Pl}{s y:Pl}{n:Nat}{S:Pl->Pl->Prop}(hS:∀a c,S a c->∃k,nx a k=some c)(h:Rw S n s y):Wk nx s n y:=by
 induction h with
 | nil=>exact .zero
 | snoc _ hk ih=>
  obtain⟨k,hk⟩:=hS _ _ hk;exact .succ ih hk
def DX{nx:Pl->Nat->Option Pl}{s y:Pl}:∀(n:Nat),Wk nx s n y->∃k,k<=n/\cU nx s k y:=by
 intro n;induction n using Nat.strongRecOn with
 | _ n ih=>
  intro w;by_cases h:∃k,k<n/\Wk nx s k y
  ·obtain⟨k,hk,w'⟩:=h;obtain⟨k',h1,h2⟩:=ih k hk w';exact⟨k',by omega,h2⟩
  ·exact⟨n,E6 _,w,λk hk w'=>h ⟨k,hk,w'⟩⟩
end Bfs
namespace Bfs
end Bfs
namespace My
open PySem L2 St
def stq (i : Nat) : Stmt := PySem.Challenge.pw_stairrooms_k28_whole_forward.main.body.getD i (.Pass ⟨0, 0, 0, 0⟩)
local macro_rules|`(tactic| walk_at "cond") => `(tactic| first|decide|omega|(dsimp only; omega)|(unfold j1; omega)|(unfold qr; exact ⟨by decide, by decide, by decide⟩)|(dsimp only; exact ⟨by omega, by omega⟩)|exact .inr ⟨by decide, by decide⟩|exact .inl ⟨by decide, by decide⟩|(unfold ir; omega))
local macro_rules|`(tactic| walk_at"") => do
 let ts ← ("seq ret retN asg drop ifS next name var c op un CB cons nil ints test B exb not and or andV orV notV ifE yes I0 I U EqI NeI EqB NeB call BM tup lst sl noPart part exi chain comp iL iT i1 i2 i3 for tTru intB max2 min2 sub gcons gnil aug ipI zip rev par par2 lam calV raise fs try bseq bnext bplain bif bcall enum gget gin revL leS disp dget lrev disp1 din dnin dput min3 iS iD bm0 revS iD2 iLT thaw iD3 iDL dgt2 fs3 fs5".splitOn " ").toArray.mapM λn =>
  let i := Lean.mkIdent (.mkSimple ("rd_" ++ n))
  if n == "var" || n == "aug" then `(tacticSeq| ((with_reducible apply $i); (exact rfl)))
  else if n == "I" then `(tacticSeq| ((with_reducible apply $i); (walk_at "cond")))
  else `(tacticSeq| with_reducible refine $i ?_)
 `(tactic| repeat (first $[| $ts]*|dsimp only))
def b0(H:Hp)(p:Addr)(kk:List (List Key)):Prop:=∃bs:List Addr,H p=some (.tup (bs.map V.ref))/\bs.length=kk.length/\∀(j:Nat) (b:Addr) (k:List Key),bs[j]?=some b->kk[j]?=some k->H b=some (.tup (k.map kV))
def b0.ext{H H':Hp}{p:Addr}{kk:List (List Key)}(e:Ext H H')(h:b0 H p kk):b0 H' p kk:=by obtain⟨bs,h1,h2,h3⟩:=h;exact⟨bs,e _ _ h1,h2,λj b k e1 e2=>e _ _ (h3 j b k e1 e2)⟩
structure Blt(mg:Str->Option Value):Prop where
 len_:mg "len" = none
 isinstance_:mg "isinstance" = none
 tuple_:mg "tuple" = none
 list_:mg "list" = none
 int_:mg "int" = none
 bool_:mg "bool" = none
 range_:mg "range" = none
 zip_:mg "zip" = none
 max_:mg "max" = none
 min_:mg "min" = none
 abs_:mg "abs" = none
 all_:mg "all" = none
 enumerate_:mg "enumerate" = none
 set_:mg "set" = none
 str_:mg "str" = none
 any_:mg "any" = none
 sorted_:mg "sorted" = none
def isInt:V->Bool
 | .int _=>true
 | _=>false
def Am{H:Hp}{v:V}{n:String}(h:fA H v n):∃b c,iD n "int" = some b/\iD n "bool" = some c/\(b && !c)=isInt v:=by
 cases v with
 | non=>cases(show n = "NoneType" from h);exact⟨_,_,rfl,rfl,rfl⟩
 | bl b=>cases(show n = "bool" from h);exact⟨_,_,rfl,rfl,rfl⟩
 | int i=>cases(show n = "int" from h);exact⟨_,_,rfl,rfl,rfl⟩
 | str z=>cases(show n = "str" from h);exact⟨_,_,rfl,rfl,rfl⟩
 | ref a=>rcases h with⟨rfl,xs,e⟩|⟨rfl,xs,e⟩<;>exact⟨_,_,rfl,rfl,rfl⟩
 | _=>exact False.elim h
def mr(K:EG):Sp:=λvs H Q _=>∃v n,vs=[v]/\fA H v n/\Q (.bl (isInt v)) H
abbrev mE:Stmt:=stq 6
def rA:FnScope ["thing"] ["thing"] (aM mE):=⟨rfl,rfl,rfl,by decide +kernel,rfl,by decide +kernel,by decide +kernel⟩
def BH{P:Program}{w:World}{K:EG}{mg:Str->Option Value}{base:Heap}(D:Dfn K mg "is_whole" mE ["thing"])(T:Blt mg):Cal P w K mg base "is_whole" 1 ["thing"] (mr K):=by
 have nd:=(rA).nd;refine D.ok rA (λvs H Q E h=>?_) (λX hX H vs Q E h=>?_)
 ·obtain⟨v,n,rfl,_⟩:=h;rfl
 ·obtain⟨f,cdv,A,outer,s,H0,E0,rfl,hr⟩:=hX;obtain⟨v,n,rfl,hk,q⟩:=h;obtain⟨b,c,hb,hc,e⟩:=Am hk;refine⟨_,(ao (aL (dW (bh eE rfl T.isinstance_ PyProof.Rows.boot_isinstance (aa (pv 0) (aa (ee (v:=.ty "int") rfl T.int_ PyProof.Rows.boot_int rfl) ae))) (eJ (vd (bh eE rfl T.isinstance_ PyProof.Rows.boot_isinstance (aa (pv 0) (aa (ee (v:=.ty "bool") rfl T.bool_ PyProof.Rows.boot_bool rfl) ae)))))))),?_⟩;walk_at"";refine eL hk hb ?_;walk_at"";cases b with
  | false=>refine az ?_;rw[←e]at q;exact q
  | true=>
   refine aD ?_;walk_at"";refine eL hk hc ?_;walk_at"";rw[←e]at q;exact q
structure Way where
 room:Int
 deed:Str
 other:Int
 sign:Str
 deriving DecidableEq
abbrev Way.key(w:Way):List Key:=[.inl w.room,.inr w.deed,.inl w.other,.inr w.sign]
abbrev Way.vs(w:Way):List V:=[.int w.room,.str w.deed,.int w.other,.str w.sign]
def Way.key_inj{w u:Way}(h:w.key=u.key):w=u:=by cases w;cases u;simp only[Way.key,List.cons.injEq,Sum.inl.injEq,Sum.inr.injEq]at h;obtain⟨rfl,rfl,rfl,rfl,_⟩:=h;rfl
def sX(z:Str):Prop:=∃c:Nat,97<=c/\c<=122/\z=⟨#[c]⟩
def bZ(z:Str):Prop:=z = "up"\/z = "down"\/z = "stay"\/z = "zero"
structure Way.Ok(m:Int)(w:Way):Prop where
 r0:0<=w.room
 r1:w.room<m
 o0:0<=w.other
 o1:w.other<m
 dd:bZ w.deed
 sg:sX w.sign
structure HOuse(m:Int)(ws:List Way):Prop where
 m1:1<=m
 m12:m<=12
 few:ws.length<=100
 ok:∀w∈ws,w.Ok m
 nd:ws.Nodup
def HOuse.keys{m:Int}{ws:List Way}(h:HOuse m ws):(ws.map Way.key).Nodup:=by have:=h.nd;unfold List.Nodup at this ⊢;rw[List.pairwise_map];exact this.imp λne e=>ne (Way.key_inj e)
def bw(H:Hp)(v:V)(m:Int)(ws:List Way):Prop:=∃p q,v=.ref p/\H p=some (.tup [.int m,.ref q])/\b0 H q (ws.map Way.key)
def bw.ext{H H':Hp}{v:V}{m:Int}{ws:List Way}(e:Ext H H')(h:bw H v m ws):bw H' v m ws:=by obtain⟨p,q,rfl,h1,h2⟩:=h;exact⟨p,q,rfl,e _ _ h1,h2.ext e⟩
def kD{n:Nat}(h:n<=1000):n<=sizeLine:=Fi h (by decide)
def o7(K:EG):Sp:=λvs H Q _=>∃i m,vs=[.int i,.int m]/\0<=i/\i<m/\Q (.bl true) H
abbrev lh:Stmt:=stq 15
def xh:FnScope ["thing","many"] ["thing","many"] (aM lh):=⟨rfl,rfl,rfl,by decide +kernel,rfl,by decide +kernel,by decide +kernel⟩
def CM{P:Program}{w:World}{K:EG}{mg:Str->Option Value}{base:Heap}(D:Dfn K mg "is_room" lh ["thing","many"])(T:Blt mg)(C_is_whole:Cal P w K mg base "is_whole" 1 ["thing"] (mr K)):Cal P w K mg base "is_room" 2 ["thing","many"] (o7 K):=by
 have nd:=(xh).nd;refine D.ok xh (λvs H Q E h=>?_) (λX hX H vs Q E h=>?_)
 ·obtain⟨i,m,rfl,_⟩:=h;rfl
 ·obtain⟨f,cdv,A,outer,s,H0,E0,rfl,hr⟩:=hX;obtain⟨i,m,rfl,h0,h1,q⟩:=h;refine⟨_,(ao (aL (dW (aH C_is_whole hr (aa (pv 0) ae)) (eJ (kY gY fB af (pv 0) (pv 1)))))),?_⟩;walk_at"";refine⟨_,"int",rfl,rfl,?_⟩;refine rd_exb ?_;refine aD ?_;walk_at"";rw[FG h0];refine aD ?_;walk_at"";rw[FG h1];exact q
def mP:List (Key×V):=[(.inr "up",.str "down"),(.inr "down",.str "up"),(.inr "stay",.str "stay"),(.inr "zero",.str "zero")]
def Cj{w:World}{K:EG}{a:Addr}{t1 t2 t3 t4 t5 t6 t7 t8:Tok}{ep:Nat}(h:K.lookup a=some (iW w [("up",t1,.str "down" t2),("down",t3,.str "up" t4),("stay",t5,.str "stay" t6),("zero",t7,.str "zero" t8)] ep))(hs:(a == sysModules)=false):GDict w K a mP:=
 ⟨⟨_,_,h,.cons ⟨rfl,⟨_,rfl⟩⟩ (.cons ⟨rfl,⟨_,rfl⟩⟩ (.cons ⟨rfl,⟨_,rfl⟩⟩ (.cons ⟨rfl,⟨_,rfl⟩⟩ .nil)))⟩,by decide +kernel,hs⟩
def y4(z:Str):Str:=if z = "up" then "down" else if z = "down" then "up" else z
def yk{z:Str}(h:bZ z):aW mP (.inr z)=some (.str (y4 z)):=by rcases h with rfl|rfl|rfl|rfl<;>decide +kernel
def sM(K:EG):Sp:=λvs H Q _=>∃z,vs=[.str z]/\bZ z/\Q (.bl true) H
abbrev pF:Stmt:=stq 16
def sE:FnScope ["thing"] ["thing"] (aM pF):=⟨rfl,rfl,rfl,by decide +kernel,rfl,by decide +kernel,by decide +kernel⟩
def By{P:Program}{w:World}{K:EG}{mg:Str->Option Value}{base:Heap}(D:Dfn K mg "is_deed" pF ["thing"])(T:Blt mg)(g_TURNED:∃a,mg "TURNED" = some (.ref a)/\GDict w K a mP):Cal P w K mg base "is_deed" 1 ["thing"] (sM K):=by
 have nd:=(sE).nd;refine D.ok sE (λvs H Q E h=>?_) (λX hX H vs Q E h=>?_)
 ·obtain⟨z,rfl,_⟩:=h;rfl
 ·obtain⟨f,cdv,A,outer,s,H0,E0,rfl,hr⟩:=hX;obtain⟨a_TURNED,m_TURNED,d_TURNED⟩:=g_TURNED;obtain⟨z,rfl,hz,q⟩:=h;refine⟨_,(ao (aL (dW (bh eE rfl T.isinstance_ PyProof.Rows.boot_isinstance (aa (pv 0) (aa (ee (v:=.ty "str") rfl T.str_ PyProof.Rows.boot_str rfl) ae))) (eJ (zD (Be rfl m_TURNED d_TURNED (pv 0)) (by with_unfolding_all rfl)))))),?_⟩;walk_at"";refine eL (n:="str") rfl (b:=true) rfl ?_;walk_at"";refine aD ?_;walk_at"";refine⟨.inr z,rfl,?_⟩;rw[yk hz];exact q
def Eb {c : Nat} (h : 97 ≤ c) : (!decide (([c] : List Nat) < (Fp "a").cps.toList)) = true := by
  have e : (Fp "a").cps.toList = [97] := by decide +kernel
  rw [e, FF (λz => by
    rw [List.cons_lt_cons_iff] at z
    rcases z with z|⟨_, z⟩
    ·omega
    ·cases z)]
  rfl
def DB {c : Nat} (h : c ≤ 122) : (!decide ((Fp "z").cps.toList < ([c] : List Nat))) = true := by
  have e : (Fp "z").cps.toList = [122] := by decide +kernel
  rw [e, FF (λz => by
    rw [List.cons_lt_cons_iff] at z
    rcases z with z|⟨_, z⟩
    ·omega
    ·cases z)]
  rfl
def wb(K:EG):Sp:=λvs H Q _=>∃z,vs=[.str z]/\sX z/\Q (.bl true) H
abbrev pK:Stmt:=stq 17
def xE:FnScope ["thing"] ["thing"] (aM pK):=⟨rfl,rfl,rfl,by decide +kernel,rfl,by decide +kernel,by decide +kernel⟩
def Ec{P:Program}{w:World}{K:EG}{mg:Str->Option Value}{base:Heap}(D:Dfn K mg "is_sign" pK ["thing"])(T:Blt mg):Cal P w K mg base "is_sign" 1 ["thing"] (wb K):=by
 have nd:=(xE).nd;refine D.ok xE (λvs H Q E h=>?_) (λX hX H vs Q E h=>?_)
 ·obtain⟨z,rfl,_⟩:=h;rfl
 ·obtain⟨f,cdv,A,outer,s,H0,E0,rfl,hr⟩:=hX;obtain⟨z,rfl,⟨c,hc1,hc2,rfl⟩,q⟩:=h;refine⟨_,(ao (aL (dW (bh eE rfl T.isinstance_ PyProof.Rows.boot_isinstance (aa (pv 0) (aa (ee (v:=.ty "str") rfl T.str_ PyProof.Rows.boot_str rfl) ae))) (dW (eW bG (bh CD rfl T.len_ PySem.boot_len (aa (pv 0) ae)) af (aQ _)) (eJ (kY ur ur aR (pv 0) aR)))))),?_⟩;walk_at"";refine eL (n:="str") rfl (b:=true) rfl ?_;walk_at"";refine aD ?_;walk_at"";refine⟨_,rfl,kD (show 1<=1000 by decide),?_⟩;walk_at"";refine aD ?_;walk_at"";rw[Eb hc1];refine aD ?_;walk_at"";rw[DB hc2];exact q
def ou{H:Hp}{p:Addr}{xs:List V}(h:H p=some (.tup xs)):fA H (.ref p) "tuple":=.inr ⟨rfl,xs,h⟩
def uH(K:EG):Sp:=λvs H Q _=>∃p w m,vs=[.ref p,.int m]/\H p=some (.tup (Way.vs w))/\w.Ok m/\Q (.bl true) H
abbrev mY:Stmt:=stq 18
def qp:FnScope ["thing","many"] ["thing","many"] (aM mY):=⟨rfl,rfl,rfl,by decide +kernel,rfl,by decide +kernel,by decide +kernel⟩
def Ah{P:Program}{w:World}{K:EG}{mg:Str->Option Value}{base:Heap}(D:Dfn K mg "is_way" mY ["thing","many"])(T:Blt mg)(C_is_sign:Cal P w K mg base "is_sign" 1 ["thing"] (wb K))(C_is_deed:Cal P w K mg base "is_deed" 1 ["thing"] (sM K))(C_is_room:Cal P w K mg base "is_room" 2 ["thing","many"] (o7 K)):Cal P w K mg base "is_way" 3 ["thing","many"] (uH K):=by
 have nd:=(qp).nd;refine D.ok qp (λvs H Q E h=>?_) (λX hX H vs Q E h=>?_)
 ·obtain⟨p,w,m,rfl,_⟩:=h;rfl
 ·obtain⟨f,cdv,A,outer,s,H0,E0,rfl,hr⟩:=hX;obtain⟨p,w,m,rfl,hp,ok,q⟩:=h;refine⟨_,(aj (bU (PW.pt (eC (dm (bQ (bh eE rfl T.isinstance_ PyProof.Rows.boot_isinstance (aa (pv 0) (aa (ee (v:=.ty "tuple") rfl T.tuple_ PyProof.Rows.boot_tuple rfl) ae))))) (eY (aS hZ (bh (cY K) rfl T.len_ PySem.boot_len (aa (pv 0) ae)) af (aQ _))))) (ao (aL bX)) aY)
    (aj (bU (PW.pt (eC (dm (bQ (aH C_is_room hr (aa (ah (aC K) (pv 0) af (λ_ _=>rfl)) (aa (pv 1) ae))))) (eY (dm (bQ (aH C_is_room hr (aa (ah (aC K) (pv 0) af (λ_ _=>rfl)) (aa (pv 1) ae)))))))) (ao (aL bX)) aY)
    (ao (aL (dW (aH C_is_deed hr (aa (ah (aC K) (pv 0) af (λ_ _=>rfl)) ae)) (eJ (aH C_is_sign hr (aa (ah (aC K) (pv 0) af (λ_ _=>rfl)) ae)))))))),?_⟩
  walk_at"";refine eL (ou hp) (b:=true) rfl ?_;walk_at"";refine az ?_;walk_at"";refine jg (ai.of hp) ?_;walk_at"";refine az ?_;walk_at"";refine aB (ai.of hp) (v:=.int w.room) rfl ?_;walk_at"";refine⟨_,_,rfl,ok.r0,ok.r1,?_⟩;walk_at"";refine az ?_;walk_at"";refine aB (ai.of hp) (v:=.int w.other) rfl ?_;walk_at"";refine⟨_,_,rfl,ok.o0,ok.o1,?_⟩;walk_at"";refine az ?_;walk_at"";refine aB (ai.of hp) (v:=.str w.deed) rfl ?_;walk_at"";refine⟨_,rfl,ok.dd,?_⟩;walk_at"";refine aD ?_;walk_at"";refine aB (ai.of hp) (v:=.str w.sign) rfl ?_;walk_at"";exact⟨_,rfl,ok.sg,q⟩
def b0.item{H:Hp}{ws:List Way}{bs:List Addr}(h:∀(j:Nat) (b:Addr) (k:List Key),bs[j]?=some b->(ws.map Way.key)[j]?=some k->H b=some (.tup (k.map kV))){j:Nat}{b:Addr}{w:Way}(e1:bs[j]?=some b)(e2:ws[j]?=some w):H b=some (.tup w.vs):=
 h j b w.key e1 (by rw[EM,e2];rfl)
def uE(K:EG):Sp:=λvs H Q _=>∃q ws m,vs=[.ref q,.int m]/\b0 H q (ws.map Way.key)/\HOuse m ws/\∀H',Ext H H'->Q (.bl true) H'
abbrev mn:Stmt:=stq 19
def qU:FnScope ["thing","many"] ["thing","many"] (aM mn):=⟨rfl,rfl,rfl,by decide +kernel,rfl,by decide +kernel,by decide +kernel⟩
def CQ{P:Program}{w:World}{K:EG}{mg:Str->Option Value}{base:Heap}(D:Dfn K mg "are_ways" mn ["thing","many"])(T:Blt mg)(g_GREATEST_WAYS:∃t,mg "GREATEST_WAYS" = some (.int 100 t))(C_is_way:Cal P w K mg base "is_way" 3 ["thing","many"] (uH K)):Cal P w K mg base "are_ways" 4 ["thing","many"] (uE K):=by
 have nd:=(qU).nd;refine D.ok qU (λvs H Q E h=>?_) (λX hX H vs Q E h=>?_)
 ·obtain⟨p,w,m,rfl,_⟩:=h;rfl
 ·obtain⟨f,cdv,A,outer,s,H0,E0,rfl,hr⟩:=hX;obtain⟨t_GREATEST_WAYS,c_GREATEST_WAYS⟩:=g_GREATEST_WAYS;obtain⟨q,ws,m,rfl,hw,ok,qq⟩:=h;obtain⟨bs,h1,h2,h3⟩:=id hw;rw[EK]at h2;have hfew:=ok.few;refine⟨_,(aj (bU (PW.pt (eC (dm (bQ (bh eE rfl T.isinstance_ PyProof.Rows.boot_isinstance (aa (pv 0) (aa (ee (v:=.ty "tuple") rfl T.tuple_ PyProof.Rows.boot_tuple rfl) ae))))) (eY (aS fS (bh (cY K) rfl T.len_ PySem.boot_len (aa (pv 0) ae)) (mz (v:=.int 100) rfl c_GREATEST_WAYS ⟨_,rfl⟩) (aQ _))))) (ao (aL bX)) aY)
    (ao (aL (dW (bh (i4 K rfl) rfl T.all_ PyProof.Rows.boot_all (aa (cx ["way"] [1] (f9 K (pv 0)) (λ_=>(aK (i:=0) (show(["way","many"]:List Str).Nodup from by decide +kernel) rfl (Or.inl rfl) (Or.inr rfl))) (λ_=>dD) (λ_=>(aH C_is_way hr (aa (pv 0) (aa (pv 1) ae))))) ae)) (eJ (eW bG (bh Og.call_lenSet rfl T.len_ PySem.boot_len (aa (eQ (Og.call_setT hr) rfl T.set_ PyProof.Rows.boot_set (aa (pv 0) ae)) ae)) (bh (cY K) rfl T.len_ PySem.boot_len (aa (pv 0) ae)) (aQ _))))))),?_⟩
  walk_at"";refine eL (ou h1) (b:=true) rfl ?_;walk_at"";refine az ?_;walk_at"";refine jg (ai.of h1) ?_;walk_at"";rw[FF (show ¬((100:Int)<((bs.map V.ref).length:Nat)) by rw[EK];omega)];refine az ?_;walk_at"";refine gh (ai.of h1) ?_;refine jI (xs:=bs.map V.ref) (λi ys H'=>Ext H H'/\ys=(Fv i true).map V.bl) (kD (by rw[EK];omega)) ⟨λ_ _ z=>z,rfl⟩ (λi ys H' hi h=>⟨ai.of (h.1 _ _ h1),by rw[h.2];simp⟩) ?_ ?_
  ·rintro i x ys H' hx ⟨e,rfl⟩;rw[EM]at hx;obtain⟨b,hb,rfl⟩:=EX.mp hx;have hi:i<ws.length:=by rw[←h2];exact(EU.mp hb).1
   have hwi:ws[i]?=some ws[i]:=EL hi;walk_at"";refine aD ?_;walk_at"";refine⟨b,ws[i],m,rfl,e _ _ (b0.item h3 hb hwi),ok.ok _ (Fd hi),e,?_⟩;rw[List.replicate_succ',E3];rfl
  ·rintro ys H' p ⟨e,rfl⟩ hp;walk_at"";have eN:Ext H (upd H' p (.lst ((Fv (bs.map V.ref).length true).map V.bl))):=e.trans (aX hp);refine⟨p,Fv (bs.map V.ref).length true,rfl,ag.of aE,?_⟩;rw[show (Fv (bs.map V.ref).length true).all id=true by simp];walk_at"";refine aD ?_;walk_at"";refine Og.rd_setOf (hw.ext eN) ok.keys (by rw[EK];omega) λl H2 e2 hl=>?_;walk_at"";refine Og.rd_lenSet hl (by rw[EK];omega) ?_;walk_at"";refine jg (ai.of ((eN.trans e2) _ _ h1)) ?_;walk_at"";rw[show decide (((((ws.map Way.key).length:Nat):Int))=((bs.map V.ref).length:Nat))=true by rw[EK,EK,h2];simp];exact qq _ (eN.trans e2)
def vt(K:EG):Sp:=λvs H Q _=>∃v m ws,vs=[v]/\bw H v m ws/\HOuse m ws/\∀H',Ext H H'->Q (.bl true) H'
abbrev nS:Stmt:=stq 20
def sC:FnScope ["thing"] ["thing"] (aM nS):=⟨rfl,rfl,rfl,by decide +kernel,rfl,by decide +kernel,by decide +kernel⟩
def DE{P:Program}{w:World}{K:EG}{mg:Str->Option Value}{base:Heap}(D:Dfn K mg "is_house" nS ["thing"])(T:Blt mg)(g_GREATEST_MANY:∃t,mg "GREATEST_MANY" = some (.int 12 t))(C_are_ways:Cal P w K mg base "are_ways" 4 ["thing","many"] (uE K))(C_is_whole:Cal P w K mg base "is_whole" 1 ["thing"] (mr K)):Cal P w K mg base "is_house" 5 ["thing"] (vt K):=by
 have nd:=(sC).nd;refine D.ok sC (λvs H Q E h=>?_) (λX hX H vs Q E h=>?_)
 ·obtain⟨p,w,m,rfl,_⟩:=h;rfl
 ·obtain⟨f,cdv,A,outer,s,H0,E0,rfl,hr⟩:=hX;obtain⟨t_GREATEST_MANY,c_GREATEST_MANY⟩:=g_GREATEST_MANY;obtain⟨v,m,ws,rfl,⟨p,r,rfl,h1,h2⟩,ok,q⟩:=h;have m1:=ok.m1;have m2:=ok.m12;refine⟨_,(aj (bU (PW.pt (eC (dm (bQ (bh eE rfl T.isinstance_ PyProof.Rows.boot_isinstance (aa (pv 0) (aa (ee (v:=.ty "tuple") rfl T.tuple_ PyProof.Rows.boot_tuple rfl) ae))))) (eY (aS hZ (bh (cY K) rfl T.len_ PySem.boot_len (aa (pv 0) ae)) af (aQ _))))) (ao (aL bX)) aY)
    (ao (aL (dW (aH C_is_whole hr (aa (ah (aC K) (pv 0) af (λ_ _=>rfl)) ae)) (dW (kY gY gY af (ah (aC K) (pv 0) af (λ_ _=>rfl)) (mz (v:=.int 12) rfl c_GREATEST_MANY ⟨_,rfl⟩)) (eJ (aH C_are_ways hr (aa (ah (aC K) (pv 0) af (λ_ _=>rfl)) (aa (ah (aC K) (pv 0) af (λ_ _=>rfl)) ae))))))))),?_⟩
  walk_at"";refine eL (ou h1) (b:=true) rfl ?_;walk_at"";refine az ?_;walk_at"";refine jg (ai.of h1) ?_;walk_at"";refine az ?_;walk_at"";refine aB (ai.of h1) (v:=.int m) rfl ?_;walk_at"";refine⟨_,"int",rfl,rfl,?_⟩;refine rd_exb (aD ?_);walk_at"";refine aB (ai.of h1) (v:=.int m) rfl ?_;walk_at"";rw[FG m1];refine aD ?_;walk_at"";rw[FG m2];refine aD ?_;walk_at"";refine aB (ai.of h1) (v:=.ref r) rfl ?_;walk_at"";refine aB (ai.of h1) (v:=.int m) rfl ?_;walk_at"";exact⟨r,ws,m,rfl,h2,ok,q⟩
def jU(K:EG):Sp:=λvs H Q _=>∃v m ws,vs=[v]/\bw H v m ws/\HOuse m ws/\∀H',Ext H H'->Q .non H'
abbrev lK:Stmt:=stq 21
def sQ:FnScope ["thing"] ["thing"] (aM lK):=⟨rfl,rfl,rfl,by decide +kernel,rfl,by decide +kernel,by decide +kernel⟩
def Ct{P:Program}{w:World}{K:EG}{mg:Str->Option Value}{base:Heap}(D:Dfn K mg "refuse_no_house" lK ["thing"])(T:Blt mg)(C_is_house:Cal P w K mg base "is_house" 5 ["thing"] (vt K)):Cal P w K mg base "refuse_no_house" 6 ["thing"] (jU K):=by
 have nd:=(sQ).nd;refine D.ok sQ (λvs H Q E h=>?_) (λX hX H vs Q E h=>?_)
 ·obtain⟨p,w,m,rfl,_⟩:=h;rfl
 ·obtain⟨f,cdv,A,outer,s,H0,E0,rfl,hr⟩:=hX;obtain⟨v,m,ws,rfl,h1,ok,q⟩:=h;refine⟨_,(ao (bU (dm (bQ (aH C_is_house hr (aa (pv 0) ae)))) (ao mO) aY)),?_⟩;walk_at"";refine⟨v,m,ws,rfl,h1,ok,λH' e=>?_⟩;refine rd_exb (az ?_);walk_at"";exact q H' e
def jP{xs:List Int}{i:Nat}{v:V}(h:(xs.map V.int)[i]?=some v):∃x,v=.int x/\xs[i]?=some x:=by
 rw[EM]at h;cases e:xs[i]? with
 | none=>rw[e]at h;cases h
 | some x=>rw[e]at h;exact⟨x,(Fq h).symm,rfl⟩
def br{n:Nat}(h:n<=1000000):n<=sizeLine:=Fi h (by decide)
def aJ{xs:List V}{H:Hp}{o:HO}{Q:VK}(h:∀p H',Ext H H'->H' p=some o->H p=none->Q (.ref p) H')(hz:xs.length<=1000000:=by simp):xs.length<=sizeLine/\fC H o Q:=⟨br hz,bW h⟩
def wz(K:EG):Sp:=λvs H Q _=>∃(a:Addr) (ns:List Int) (k:Int),vs=[.ref a,.int k]/\ag K H a (ns.map V.int)/\ns.length<=63/\0<=k/\∀z,Q (.int z) H
def wu{ns:List Int}{i:Int}(h0:0<=i)(h:i<ns.length):∃z,bz (ns.map V.int) i=some (.int z)/\ns[i.toNat]?=some z:=by
 have hi:i.toNat<ns.length:=by omega
 refine⟨ns[i.toNat],dP h0 ?_,EL hi⟩;rw[EM,EL hi];rfl
abbrev pN:Stmt:=stq 54
def tO:FnScope ["_law_script","_law_k"] ["_law_script","_law_k"] (aM pN):=⟨rfl,rfl,rfl,by decide +kernel,rfl,by decide +kernel,by decide +kernel⟩
def xT{P:Program}{w:World}{K:EG}{mg:Str->Option Value}{base:Heap}(D:Dfn K mg "_law_cell" pN ["_law_script","_law_k"])(T:Blt mg):Cal P w K mg base "_law_cell" 1 ["_law_script","_law_k"] (wz K):=by
 have nd:=(tO).nd;refine D.ok tO (λvs H Q E h=>?_) (λX hX H vs Q E h=>?_)
 ·obtain⟨a,ns,k,rfl,_⟩:=h;rfl
 ·obtain⟨f,cdv,A,outer,s,H0,E0,rfl,hr⟩:=hX;obtain⟨a,ns,k,rfl,ha,hl,hk,q⟩:=h;refine⟨_,(aj (bU (aS bG (bh (cY K) rfl T.len_ PySem.boot_len (aa (pv 0) ae)) af (aQ _)) (ao (aL (aq eM af (aq aU (pv 1) af)))) aY)
    (aj (bU (aS fB (pv 1) (bh (cY K) rfl T.len_ PySem.boot_len (aa (pv 0) ae)) (aQ _)) (ao (aL (ah (aI K) (pv 0) (pv 1) (λ_ _=>rfl)))) aY)
    (ao (aL (aq aU (ah (aI K) (pv 0) (aq cy (pv 1) (bh (cY K) rfl T.len_ PySem.boot_len (aa (pv 0) ae))) (λ_ _=>rfl)) (aq eM af (pv 1))))))),?_⟩
  walk_at"";refine eh ha ?_;walk_at"";rw[EK];by_cases h0:(ns.length:Int)=0
  ·rw[FG h0];refine aD ?_;walk_at"";exact q _
  ·rw[FF h0];refine az ?_;walk_at"";refine eh ha ?_;walk_at"";rw[EK];by_cases h1:k<ns.length
   ·rw[FG h1];refine aD ?_;obtain⟨z,hz,_⟩:=wu hk h1;walk_at"";refine aF ha hz ?_;exact q _
   ·rw[FF h1];refine az ?_;walk_at"";refine eh ha ?_;rw[EK];have hp:(0:Int)<ns.length:=by omega
    refine rd_I hp ?_;obtain⟨z,hz,_⟩:=wu (ns:=ns) (Int.emod_nonneg k (by omega)) (Int.emod_lt_of_pos k hp);refine aF ha hz ?_;walk_at"";exact q _
def qe(K:EG):Sp:=λvs H Q _=>∃c k p,vs=[.int c,.int k,.int p]/\0<=k/\k<100000/\0<p/\∀z,0<=z->z<p->Q (.int z) H
abbrev mi:Stmt:=stq 46
def rD:FnScope ["_law_cell_here","_law_k","_law_prime","_law_far"] ["_law_cell_here","_law_k","_law_prime"] (aM mi):=⟨rfl,rfl,rfl,by decide +kernel,rfl,by decide +kernel,by decide +kernel⟩
def zT{P:Program}{w:World}{K:EG}{mg:Str->Option Value}{base:Heap}(D:Dfn K mg "_law_mixed" mi ["_law_cell_here","_law_k","_law_prime"])(T:Blt mg):Cal P w K mg base "_law_mixed" 1 ["_law_cell_here","_law_k","_law_prime"] (qe K):=by
 have nd:=(rD).nd;refine D.ok rD (λvs H Q E h=>?_) (λX hX H vs Q E h=>?_)
 ·obtain⟨c,k,p,rfl,_⟩:=h;rfl
 ·obtain⟨f,cdv,A,outer,s,H0,E0,rfl,hr⟩:=hX;obtain⟨c,k,p,rfl,hk,hk2,hp,q⟩:=h;refine⟨_,(aj (aG (i:=3) nd rfl (Or.inl rfl) (aq cy (aq eM (aq aU (aq aU (aq aU (pv 0) (aq eM (aq eM af (pv 1)) (pv 1))) (aq eM af (pv 1))) af) af) af))
    (aj (aG (i:=3) nd rfl (Or.inl rfl) (aq cy (aq eM (pv 3) (pv 3)) af))
    (ao (aL (aq cy (aq eM (pv 3) af) (pv 2)))))),?_⟩
  walk_at"";exact q _ (Int.emod_nonneg _ (by omega)) (Int.emod_lt_of_pos _ hp)
def bK{H H2:Hp}{q:Addr}{o:HO}(e:Ext H H2)(hq:H q=none):Ext H (upd H2 q o):=λb u hb=>by rw[ay (cg hb hq)];exact e b u hb
def gM(K:EG):Sp:=λvs H Q _=>∃(c:Int) (w:Addr) (ws:List Int) (p:Int),vs=[.int c,.ref w,.int p]/\H w=some (.lst (ws.map V.int))/\(∀x∈ws,0<x/\x<2 ^ 40)/\ws.length<=10000/\0<p ∧
 ∀(q:Addr) (ds:List Int) (H':Hp),Ext H H'->H' q=some (.lst (ds.map V.int))->H q=none->ds.length=ws.length->(∀(i:Nat) d x,ds[i]?=some d->ws[i]?=some x->0<=d/\d<x)->Q (.ref q) H'
def j2{K:EG}{H:Hp}{c:Int}{w:Addr}{p:Int}{Q:VK}{xe:XK}(ws:List Int)(h1:H w=some (.lst (ws.map V.int)))(h2:∀x∈ws,0<x/\x<2 ^ 40)(h3:ws.length<=10000)(h4:0<p)
  (k:∀(q:Addr) (ds:List Int) (H':Hp),Ext H H'->H' q=some (.lst (ds.map V.int))->H q=none->ds.length=ws.length->(∀(i:Nat) d x,ds[i]?=some d->ws[i]?=some x->0<=d/\d<x)->Q (.ref q) H'):gM K [.int c,.ref w,.int p] H Q xe:=⟨c,w,ws,p,rfl,h1,h2,h3,h4,k⟩
abbrev nB:Stmt:=stq 47
def vA:FnScope ["_law_cell_here","_law_widths","_law_prime","_law_left","_law_found","_law_k"] ["_law_cell_here","_law_widths","_law_prime"] (aM nB):=⟨rfl,rfl,rfl,by decide +kernel,rfl,by decide +kernel,by decide +kernel⟩
def ye{P:Program}{w:World}{K:EG}{mg:Str->Option Value}{base:Heap}(D:Dfn K mg "_law_draws" nB ["_law_cell_here","_law_widths","_law_prime"])(T:Blt mg)(C__law_mixed:Cal P w K mg base "_law_mixed" 1 ["_law_cell_here","_law_k","_law_prime"] (qe K)):Cal P w K mg base "_law_draws" 2 ["_law_cell_here","_law_widths","_law_prime"] (gM K):=by
 have nd:=(vA).nd;refine D.ok vA (λvs H Q E h=>?_) (λX hX H vs Q E h=>?_)
 ·obtain⟨c,w,ws,p,rfl,_⟩:=h;rfl
 ·obtain⟨f,cdv,A,outer,s,H0,E0,rfl,hr⟩:=hX;obtain⟨c,w,ws,p,rfl,hw,hpos,hlen,hp,q⟩:=h;refine⟨_,(aj (aG (i:=3) nd rfl (Or.inl rfl) af)
    (aj (cq (aS u4 (pv 0) (aq jH af af) (aQ _)) (ao (aG (i:=3) nd rfl (Or.inl rfl) (aq cG (pv 0) (aq jH af af)))) aY)
    (aj (aG (i:=4) nd rfl (Or.inl rfl) (bq ae))
    (aj (bH PassesOwn.never rfl (bR rfl T.range_ (aa (bh (cY K) rfl T.len_ PySem.boot_len (aa (pv 1) ae)) ae)) (aK (i:=5) nd rfl (Or.inl rfl)) (ao (cq (aS fS (pv 3) af (aQ _)) (aj (bt (bE K ET E7 E8 bL (pv 4) (aa (aq cy (pv 3) (ah (aI K) (pv 1) (pv 5) (λ_ _=>rfl))) ae)))
    (ao (aG (i:=3) nd rfl (Or.inl rfl) (aq xg (pv 3) (ah (aI K) (pv 1) (pv 5) (λ_ _=>rfl)))))) (ao (bt (bE K ET E7 E8 bL (pv 4) (aa (aq cy (aH C__law_mixed hr (aa (pv 0) (aa (pv 5) (aa (pv 2) ae)))) (ah (aI K) (pv 1) (pv 5) (λ_ _=>rfl))) ae)))))))
    (ao (aL (pv 4))))))),?_⟩
  walk_at"";refine jm (λσ' H'=>H'=H/\∃l,σ'=[some (.int c),some (.ref w),some (.int p),some (.int l),none,none]) ?_ ?_
  ·walk_at"";refine fX (λh=>?_) (λh=>?_)
   ·walk_at"";exact⟨rfl,_,rfl⟩
   ·walk_at"";exact⟨rfl,_,rfl⟩
  rintro σ' H' ⟨rfl,l,rfl⟩;walk_at"";refine aJ λf H1 e1 hf hfn=>?_;walk_at"";refine eh (ag.of (e1 _ _ hw)) ?_;rw[EK];walk_at"";refine bS (by omega) ?_;refine forR (λi σ H2=>Ext H' H2/\∃(l:Int) (k:Option V) (ds:List Int),σ=[some (.int c),some (.ref w),some (.int p),some (.int l),some (.ref f),k]/\H2 f=some (.lst (ds.map V.int))/\ds.length=i/\∀(i:Nat) d x,ds[i]?=some d->ws[i]?=some x->0<=d/\d<x)
   ⟨e1,l,none,[],rfl,hf,rfl,λi d x hd=>by simp at hd⟩ ?_ ?_
  ·rintro i σ H2 hi ⟨e2,l,k,ds,rfl,hf2,hds,hb⟩;rw[EY]at hi;have hwi:ws[i]?=some ws[i]:=EL hi;have hx:=hpos ws[i] (Fd hi);have hat:bz (ws.map V.int) (0+(i:Int))=some (.int ws[i]):=by rw[Int.zero_add];exact gK (by rw[EM,hwi];rfl)
   have next:∀d,0<=d->d<ws[i]->∀(j:Nat) (d' x:Int),(ds++[d])[j]?=some d'->ws[j]?=some x->0<=d'/\d'<x:=λd h0 h1 j d' x hj hx'=>by
    rcases Fx j ds.length with h|h
    ·rw[Fc h]at hj;exact hb j d' x hj hx'
    ·rw[Fb h]at hj;have hj0:j-ds.length=0:=by
      rcases Nat.eq_zero_or_pos (j-ds.length)with h|h
      ·exact h
      ·rw[List.getElem?_eq_none (by simp;omega)]at hj;cases hj
     rw[hj0]at hj;have hji:j=i:=by omega
     subst hji;rw[hwi]at hx';cases hx';have:d=d':=by simpa using hj
     rw[←this];exact⟨h0,h1⟩
   walk_at"";refine bT ?_;walk_at"";refine fX (λh=>?_) (λh=>?_)
   ·have h':1<l:=by simpa using h
    walk_at"";refine⟨cB (ag.of hf2),?_⟩;walk_at"";refine aF (ag.of (e2 _ _ hw)) hat ?_;refine rd_I (show 0<ws[i] by omega) ?_;walk_at"";refine bJ hf2 (by rw[EK];exact Nat.lt_of_le_of_lt (show ds.length<=10000 by omega) (by decide)) ?_;walk_at"";refine aF (ag.of (bK e2 hfn _ _ hw)) hat ?_;refine rd_I (show 0<ws[i]/\ws[i]<2 ^ 64 by omega) ?_;walk_at"";refine⟨bK e2 hfn,_,_,ds++[l % ws[i]],rfl,?_,by rw[E4,hds];rfl,next _ (Int.emod_nonneg _ (by omega)) (Int.emod_lt_of_pos _ (by omega))⟩;rw[aE,E3];rfl
   ·walk_at"";refine⟨cB (ag.of hf2),?_⟩;walk_at"";refine⟨c,0+(i:Int),p,rfl,by omega,by omega,hp,λz hz0 hz1=>?_⟩;walk_at"";refine aF (ag.of (e2 _ _ hw)) hat ?_;refine rd_I (show 0<ws[i] by omega) ?_;walk_at"";refine bJ hf2 (by rw[EK];exact Nat.lt_of_le_of_lt (show ds.length<=10000 by omega) (by decide)) ?_;walk_at"";refine⟨bK e2 hfn,_,_,ds++[z % ws[i]],rfl,?_,by rw[E4,hds];rfl,next _ (Int.emod_nonneg _ (by omega)) (Int.emod_lt_of_pos _ (by omega))⟩;rw[aE,E3];rfl
  ·rintro σ H2 ⟨e2,l,k,ds,rfl,hf2,hds,hb⟩;walk_at"";exact q f ds H2 e2 hf2 hfn (by rw[hds,EY]) hb
def pH(K:EG):Sp:=λvs H Q _=>∃c w,vs=[.int c,.int w]/\0<w/\w<2 ^ 64/\∀z,Q (.int z) H
abbrev lg:Stmt:=stq 48
def sN:FnScope ["_law_cell_here","_law_width"] ["_law_cell_here","_law_width"] (aM lg):=⟨rfl,rfl,rfl,by decide +kernel,rfl,by decide +kernel,by decide +kernel⟩
def B8{P:Program}{w:World}{K:EG}{mg:Str->Option Value}{base:Heap}(D:Dfn K mg "_law_spare" lg ["_law_cell_here","_law_width"])(T:Blt mg):Cal P w K mg base "_law_spare" 1 ["_law_cell_here","_law_width"] (pH K):=by
 have nd:=(sN).nd;refine D.ok sN (λvs H Q E h=>?_) (λX hX H vs Q E h=>?_)
 ·obtain⟨c,w,rfl,_⟩:=h;rfl
 ·obtain⟨f,cdv,A,outer,s,H0,E0,rfl,hr⟩:=hX;obtain⟨c,w,rfl,h1,h2,q⟩:=h;refine⟨_,(aj (bU (aS u4 (pv 0) (aq jH af af) (aQ _)) (ao (aL (aq aU (aq xg (aq cG (pv 0) (aq jH af af)) (pv 1)) (aq jH af af)))) aY)
    (ao (aL (aq aU (pv 0) af)))),?_⟩
  walk_at"";refine fX (λh=>?_) (λh=>?_)
  ·walk_at"";exact q _
  ·walk_at"";exact q _
def aP(H:Hp)(bs:List Addr)(ws:List Way):Prop:=bs.length=ws.length/\∀(j:Nat) (b:Addr) (w:Way),bs[j]?=some b->ws[j]?=some w->H b=some (.tup w.vs)
def aP.ext{H H':Hp}{bs:List Addr}{ws:List Way}(e:Ext H H')(h:aP H bs ws):aP H' bs ws:=⟨h.1,λj b w e1 e2=>e _ _ (h.2 j b w e1 e2)⟩
def aP.put{H:Hp}{f:Addr}{xs ys:List V}{bs:List Addr}{ws:List Way}(hf:H f=some (.lst xs))(h:aP H bs ws):aP (upd H f (.lst ys)) bs ws:=⟨h.1,λj b w e1 e2=>by have:=h.2 j b w e1 e2;rw[ay (bO this hf (by intro z;cases z))];exact this⟩
def aP.nil(H:Hp):aP H [] []:=⟨rfl,λj b w e=>by simp at e⟩
def aP.snoc{H:Hp}{bs:List Addr}{ws:List Way}{b:Addr}{w:Way}(h:aP H bs ws)(hb:H b=some (.tup w.vs)):aP H (bs++[b]) (ws++[w]):=by
 refine⟨by simp[h.1],λj b' w' e1 e2=>?_⟩;rcases Fx j bs.length with hj|hj
 ·rw[Fc hj]at e1;rw[Fc (by rw[←h.1];exact hj)]at e2;exact h.2 j b' w' e1 e2
 ·rw[Fb hj]at e1;rw[Fb (by rw[←h.1];exact hj),←h.1]at e2;cases hk:j-bs.length with
  | zero=>
   rw[hk]at e1 e2;cases e1;cases e2;exact hb
  | succ k=>rw[hk]at e1;simp at e1
def aP.ways{H:Hp}{p:Addr}{bs:List Addr}{ws:List Way}(h:aP H bs ws)(hp:H p=some (.tup (bs.map V.ref))):b0 H p (ws.map Way.key):=
 ⟨bs,hp,by rw[EK];exact h.1,λj b k e1 e2=>by rw[EM]at e2;obtain⟨w,hw,rfl⟩:=EX.mp e2;exact h.2 j b w e1 hw⟩
def b0.al{H:Hp}{p:Addr}{ws:List Way}(h:b0 H p (ws.map Way.key)):∃bs:List Addr,H p=some (.tup (bs.map V.ref))/\aP H bs ws:=by obtain⟨bs,h1,h2,h3⟩:=h;rw[EK]at h2;exact⟨bs,h1,h2,λj b w e1 e2=>b0.item h3 e1 e2⟩
abbrev Way.D(w:Way):PyData:=.tuple [.int w.room,.str w.deed,.int w.other,.str w.sign]
structure Way.Lay(w:Way):Prop where
 d:(PyData.str w.deed).canLay0=true
 s:(PyData.str w.sign).canLay0=true
def AL:∀c:Fin 123,97<=c.1->(PyData.str ⟨#[c.1]⟩).canLay0=true:=by decide +kernel
def Way.Ok.lay{m:Int}{w:Way}(h:w.Ok m):w.Lay:=by
 constructor
 ·rcases h.dd with e|e|e|e<;>rw[e]<;>decide +kernel
 ·obtain⟨c,h1,h2,e⟩:=h.sg;rw[e];exact AL ⟨c,Nat.lt_succ_of_le h2⟩ h1
def Way.rep{H:Hp}{b:Addr}{w:Way}(h:H b=some (.tup w.vs))(l:w.Lay):aV H 1 (.ref b) w.D:=
 .inr ⟨b,w.vs,_,rfl,.inl ⟨h,rfl⟩,.cons rfl (.cons ⟨rfl,l.d⟩ (.cons rfl (.cons ⟨rfl,l.s⟩ .nil)))⟩
def Way.eqv(w u:Way):PyData.eqv w.D u.D=decide (w=u):=by
 simp only[PyData.eqv,PyData.eqvAll];by_cases h:w=u
 ·subst h;simp
 ·rw[FF h];obtain⟨a,b,c,d⟩:=w;obtain⟨a',b',c',d'⟩:=u;simp only[Way.mk.injEq,not_and]at h;simp only[Bool.and_true,Bool.and_eq_false_iff,beq_eq_false_iff_ne];by_cases h1:a=a'
  ·by_cases h2:b=b'
   ·by_cases h3:c=c'
    ·exact .inr (.inr (.inr (h h1 h2 h3)))
    ·exact .inr (.inr (.inl h3))
   ·exact .inr (.inl h2)
  ·exact .inl h1
def aP.reps{H:Hp}:∀{bs:List Addr} {ws:List Way},aP H bs ws->(∀w∈ws,w.Lay)->Paired (aV H 1) (bs.map V.ref) (ws.map Way.D)
 | [],[],_,_=>.nil
 | [],_::_,h,_=>by cases h.1
 | _::_,[],h,_=>by cases h.1
 | b::bs,w::ws,h,l=>.cons (Way.rep (h.2 0 b w rfl rfl) (l w ES)) (aP.reps ⟨Nat.succ.inj h.1,λj b w e1 e2=>h.2 (j+1) b w e1 e2⟩ λu hu=>l u (EN _ hu))
def BI(ws:List Way)(w:Way):((ws.map Way.D).any λe=>PyData.eqv e w.D)=decide (w∈ws):=by
 rw[List.any_map];induction ws with
 | nil=>rfl
 | cons u ws ih=>
  rw[List.any_cons,ih,Function.comp_apply,Way.eqv];by_cases h:w∈ws
  ·simp[h]
  ·by_cases e:u=w
   ·simp[e]
   ·have:¬w=u:=λz=>e z.symm;simp[h,e,this]
def pS(K:EG):Sp:=λvs H Q _=>∃l bs ws,vs=[.ref l]/\H l=some (.lst (bs.map V.ref))/\aP H bs ws/\(∀w∈ws,Way.Lay w)/\ws.length<=200 ∧
 ∀q H' us,Ext H H'->b0 H' q (List.map Way.key us)->us.Nodup->(∀u∈us,u∈ws)->us.length<=ws.length->Q (.ref q) H'
abbrev lR:Stmt:=stq 50
def uz:FnScope ["_law_ways","_law_found","_law_way"] ["_law_ways"] (aM lR):=⟨rfl,rfl,rfl,by decide +kernel,rfl,by decide +kernel,by decide +kernel⟩
def El{P:Program}{w:World}{K:EG}{mg:Str->Option Value}{base:Heap}(D:Dfn K mg "_law_unlike" lR ["_law_ways"])(T:Blt mg):Cal P w K mg base "_law_unlike" 1 ["_law_ways"] (pS K):=by
 have nd:=(uz).nd;refine D.ok uz (λvs H Q E h=>?_) (λX hX H vs Q E h=>?_)
 ·obtain⟨l,bs,ws,rfl,_⟩:=h;rfl
 ·obtain⟨f,cdv,A,outer,s,H0,E0,rfl,hr⟩:=hX;obtain⟨l,bs,ws,rfl,hl,al,lay,hlen,q⟩:=h;refine⟨_,(aj (aG (i:=1) nd rfl (Or.inl rfl) (bq ae))
    (aj (bH PassesOwn.never rfl (cK K (pv 0)) (aK (i:=2) nd rfl (Or.inl rfl)) (ao (cq (aS (uT hr) (pv 2) (pv 1) (by with_unfolding_all rfl)) (ao (bt (bE K ET E7 E8 bL (pv 1) (aa (pv 2) ae)))) aY)))
    (ao (aL (eQ (gX K) rfl T.tuple_ PyProof.Rows.boot_tuple (aa (pv 1) ae)))))),?_⟩
  walk_at"";refine aJ λf H1 e1 hf hfn=>?_;walk_at"";refine cH (ag.of (e1 _ _ hl)) ?_;refine forL (xs:=bs.map V.ref) (λi σ H2=>Ext H H2/\∃(k:Option V) (cs:List Addr) (us:List Way),σ=[some (.ref l),some (.ref f),k]/\H2 f=some (.lst (cs.map V.ref))/\aP H2 cs us/\us.Nodup/\(∀u∈us,u∈ws)/\us.length<=i)
   ⟨e1,none,[],[],rfl,hf,aP.nil _,List.nodup_nil,λu hu=>by simp at hu,E6 _⟩ (λi σ H2 _ h=>ag.of (h.1 _ _ hl)) ?_ ?_
  ·rintro i x σ H2 hx ⟨e2,k,cs,us,rfl,hf2,al2,nd2,sub2,len2⟩;rw[EM]at hx;obtain⟨b,hb,rfl⟩:=EX.mp hx;have hi:i<ws.length:=by rw[←al.1];exact(EU.mp hb).1
   have hwi:ws[i]?=some ws[i]:=EL hi;have hbw:=e2 _ _ (al.2 i b _ hb hwi);walk_at"";refine bT ?_;walk_at"";refine vc (Way.rep hbw (lay _ (Fd hi))) hf2 (al2.reps λu hu=>lay u (sub2 u hu)) (by decide) ?_;simp only[if_true,BI];refine rd_exb ?_;by_cases hm:ws[i]∈us
   ·rw[FG hm];refine az ?_;walk_at"";exact⟨e2,_,cs,us,rfl,hf2,al2,nd2,sub2,by omega⟩
   ·rw[FF hm];refine aD ?_;walk_at"";refine⟨cB (ag.of hf2),?_⟩;walk_at"";refine bJ hf2 (by rw[EK,al2.1];exact Nat.lt_of_le_of_lt (show us.length<=1000 by omega) (by decide)) ?_;walk_at"";refine⟨bK e2 hfn,_,cs++[b],us++[ws[i]],rfl,by rw[aE,E3];rfl,(al2.put hf2).snoc ?_,?_,?_,by simp;omega⟩
    ·rw[ay (bO hbw hf2 (by intro z;cases z))];exact hbw
    ·rw[List.nodup_append];exact⟨nd2,by simp,λa ha c hc=>by rw[EW.mp hc];exact λz=>hm (z ▸ ha)⟩
    ·intro u hu;rcases E9.mp hu with hu|hu
     ·exact sub2 u hu
     ·rw[EW.mp hu];exact Fd hi
  ·rintro σ H2 ⟨e2,k,cs,us,rfl,hf2,al2,nd2,sub2,len2⟩;walk_at"";refine gg (ag.of hf2) (bW λp H3 e3 hp _=>?_);exact q p H3 us (e2.trans e3) ((al2.ext e3).ways hp) nd2 sub2 (by rw[EK,al.1]at len2;exact len2)
def j4(z:Str):Prop:=∃c:Nat,97<=c/\c<=99/\z=⟨#[c]⟩
structure Way.Ok3(m:Int)(w:Way):Prop where
 r0:0<=w.room
 r1:w.room<m
 o0:0<=w.other
 o1:w.other<m
 dd:bZ w.deed
 sg:j4 w.sign
structure HOuse3(m:Int)(ws:List Way):Prop where
 m1:1<=m
 m12:m<=12
 few:ws.length<=100
 ok:∀w∈ws,w.Ok3 m
 nd:ws.Nodup
def Way.Ok3.ok{m:Int}{w:Way}(h:w.Ok3 m):w.Ok m:=by obtain⟨c,h1,h2,h3⟩:=h.sg;exact⟨h.r0,h.r1,h.o0,h.o1,h.dd,c,h1,by omega,h3⟩
def Way.Ok3.lay{m:Int}{w:Way}(h:w.Ok3 m):w.Lay:=h.ok.lay
def HOuse3.house{m:Int}{ws:List Way}(h:HOuse3 m ws):HOuse m ws:=⟨h.m1,h.m12,h.few,λw hw=>(h.ok w hw).ok,h.nd⟩
def Dv{ds:List Int}{i:Nat}(h:i+4<=ds.length):∃a b c d,cj (ds.map V.int) (some (i:Int)) (some ((i+4:Nat):Int))=[.int a,.int b,.int c,.int d]/\ds[i]?=some a/\ds[i+1]?=some b/\ds[i+2]?=some c/\ds[i+3]?=some d:=by refine⟨ds[i],ds[i+1],ds[i+2],ds[i+3],?_,EL _,EL _,EL _,EL _⟩;unfold cj;rw[HT.vR,HT.vR,EK,Nat.min_eq_left (by omega),Nat.min_eq_left (by omega),show i+4-i=4 by omega,←List.map_drop,←List.map_take];rw[List.drop_eq_getElem_cons (show i<ds.length by omega),List.drop_eq_getElem_cons (show i+1<ds.length by omega),List.drop_eq_getElem_cons (show i+1+1<ds.length by omega),List.drop_eq_getElem_cons (show i+1+1+1<ds.length by omega)];rfl
def fw:List Int:=[8,12,13,31]++(Fv 30 ([12,6,12,3]:List Int)).flatten
def Cc{k:Nat}(h:k<30):fw[4+4*k]?=some 12/\fw[4+4*k+1]?=some 6/\fw[4+4*k+2]?=some 12/\fw[4+4*k+3]?=some 3:=by
 have:∀k:Fin 30,fw[4+4*k.val]?=some 12/\fw[4+4*k.val+1]?=some 6/\fw[4+4*k.val+2]?=some 12/\fw[4+4*k.val+3]?=some 3:=by decide +kernel
 exact this ⟨k,h⟩
def uI(K:EG):Sp:=λvs H Q _=>∃c p,vs=[.int c,.int p]/\0<p/\∀v m ws H',Ext H H'->bw H' v m ws->HOuse3 m ws->Q v H'
def yi{e:Int}(h0:0<=e)(h1:e<6):∃z,bz ([.str "up",.str "down",.str "stay",.str "zero",.str "up",.str "down"]:List V) e=some (.str z)/\bZ z:=by
 have:e=0\/e=1\/e=2\/e=3\/e=4\/e=5:=by omega
 rcases this with rfl|rfl|rfl|rfl|rfl|rfl
 ·exact⟨_,rfl,.inl rfl⟩
 ·exact⟨_,rfl,.inr (.inl rfl)⟩
 ·exact⟨_,rfl,.inr (.inr (.inl rfl))⟩
 ·exact⟨_,rfl,.inr (.inr (.inr rfl))⟩
 ·exact⟨_,rfl,.inl rfl⟩
 ·exact⟨_,rfl,.inr (.inl rfl)⟩
def xI:(Fp "abc").cps.toList=[97,98,99]:=by decide +kernel
def zi{e:Int}(h0:0<=e)(h1:e<3):∃c,bz (Fp "abc").cps.toList e=some c/\97<=c/\c<=99:=by
 rw[xI];have:e=0\/e=1\/e=2:=by omega
 rcases this with rfl|rfl|rfl
 ·exact⟨97,rfl,by decide,by decide⟩
 ·exact⟨98,rfl,by decide,by decide⟩
 ·exact⟨99,rfl,by decide,by decide⟩
def zV{e:Int}(h0:0<=e)(h1:e<8):∃w:Int,bz (([4,4,4,5,3,2,5,12]:List Int).map V.int) e=some (.int w)/\1<=w/\w<=12:=by
 have:e=0\/e=1\/e=2\/e=3\/e=4\/e=5\/e=6\/e=7:=by omega
 rcases this with rfl|rfl|rfl|rfl|rfl|rfl|rfl|rfl<;>exact⟨_,rfl,by decide,by decide⟩
def bw.mk{H:Hp}{p q:Addr}{m:Int}{ws:List Way}(h1:H p=some (.tup [.int m,.ref q]))(h2:b0 H q (ws.map Way.key)):bw H (.ref p) m ws:=⟨p,q,rfl,h1,h2⟩
abbrev ng:Stmt:=stq 52
def wx:FnScope ["_law_cell_here","_law_prime","_law_draws_here","_law_many","_law_often","_law_ways","_law_k","_law_room","_law_deed","_law_other","_law_sign","_law_word"] ["_law_cell_here","_law_prime"] (aM ng):=⟨rfl,rfl,rfl,by decide +kernel,rfl,by decide +kernel,by decide +kernel⟩
def xV{P:Program}{w:World}{K:EG}{mg:Str->Option Value}{base:Heap}(D:Dfn K mg "_law_drawn_house" ng ["_law_cell_here","_law_prime"])(T:Blt mg)(C__law_unlike:Cal P w K mg base "_law_unlike" 1 ["_law_ways"] (pS K))(C__law_draws:Cal P w K mg base "_law_draws" 2 ["_law_cell_here","_law_widths","_law_prime"] (gM K)):Cal P w K mg base "_law_drawn_house" 3 ["_law_cell_here","_law_prime"] (uI K):=by
 have nd:=(wx).nd;refine D.ok wx (λvs H Q E h=>?_) (λX hX H vs Q E h=>?_)
 ·obtain⟨c,p,rfl,_⟩:=h;rfl
 ·obtain⟨f,cdv,A,outer,s,H0,E0,rfl,hr⟩:=hX;obtain⟨c,p,rfl,hp,q⟩:=h;refine⟨_,(@aj _ _ _ _ _ (@aG _ _ 2 _ _ _ _ nd rfl (Or.inl rfl) (aH C__law_draws hr (@aa _ _ _ _ _ (pv 0) (@aa _ _ _ _ _ (aq jL (@bq _ _ _ _ (iY (.c (.c (.c (.c .n)))))) (aq pJ (@bq _ _ _ _ (iY (.c (.c (.c (.c .n)))))) af)) (@aa _ _ _ _ _ (pv 1) ae rfl) rfl) rfl)) rfl (Or.inl rfl))
    (@aj _ _ _ _ _ (@aG _ _ 3 _ _ _ _ nd rfl (Or.inl rfl) (aq aU af (aq cy (@ah _ _ _ _ _ _ _ (aI K) (pv 2) af (λ_ _=>rfl)) (@ah _ _ _ _ _ _ _ (aI K) (@bq _ _ _ _ (iY (.c (.c (.c (.c (.c (.c (.c (.c .n)))))))))) (@ah _ _ _ _ _ _ _ (aI K) (pv 2) af (λ_ _=>rfl)) (λ_ _=>rfl)))) rfl (Or.inl rfl))
    (@aj _ _ _ _ _ (@aG _ _ 4 _ _ _ _ nd rfl (Or.inl rfl) (@ah _ _ _ _ _ _ _ (aI K) (pv 2) af (λ_ _=>rfl)) rfl (Or.inl rfl))
    (@aj _ _ _ _ _ (cq (aS bG (@ah _ _ _ _ _ _ _ (aI K) (pv 2) af (λ_ _=>rfl)) af (aQ _)) (@ao _ _ _ (@aG _ _ 4 _ _ _ _ nd rfl (Or.inl rfl) (@ah _ _ _ _ _ _ _ (aI K) (pv 2) af (λ_ _=>rfl)) rfl (Or.inl rfl))) aY)
    (@aj _ _ _ _ _ (@aG _ _ 5 _ _ _ _ nd rfl (Or.inl rfl) (@bq _ _ _ _ ae) rfl (Or.inl rfl))
    (@aj _ _ _ _ _ (bH PassesOwn.never rfl (bR rfl T.range_ (@aa _ _ _ _ _ (pv 4) ae rfl)) (aK (i:=6) nd rfl (Or.inl rfl)) (@aj _ _ _ _ _ (@gF _ _ _ _ _ _ (ie (iT K) (pv 2) (f6 (aq aU af (aq eM af (pv 6)))) (f6 (aq aU af (aq eM af (pv 6))))) (zY (n:=4) K rfl (b6 (aK (i:=7) nd rfl (Or.inl rfl)) (b6 (aK (i:=8) nd rfl (Or.inl rfl)) (b6 (aK (i:=9) nd rfl (Or.inl rfl)) (b6 (aK (i:=10) nd rfl (Or.inl rfl)) fU))))) rfl rfl rfl)
    (@aj _ _ _ _ _ (@aG _ _ 11 _ _ _ _ nd rfl (Or.inl rfl) (@ah _ _ _ _ _ _ _ (aI K) (@bq _ _ _ _ (@aa _ _ _ _ _ aR (@aa _ _ _ _ _ aR (@aa _ _ _ _ _ aR (@aa _ _ _ _ _ aR (@aa _ _ _ _ _ aR (@aa _ _ _ _ _ aR ae rfl) rfl) rfl) rfl) rfl) rfl)) (pv 8) (λ_ _=>rfl)) rfl (Or.inl rfl))
    (@ao _ _ _ (bt (bE K ET E7 E8 bL (pv 5) (@aa _ _ _ _ _ (@bj _ _ _ _ _ (@aa _ _ _ _ _ (aq cy (pv 7) (pv 3)) (@aa _ _ _ _ _ (pv 11) (@aa _ _ _ _ _ (aq cy (pv 9) (pv 3)) (@aa _ _ _ _ _ (@ah _ _ _ _ _ _ _ wq aR (pv 10) (λ_ _=>rfl)) ae rfl) rfl) rfl) rfl)) ae rfl)))))))
    (@ao _ _ _ (@aL _ _ _ _ (@bj _ _ _ _ _ (@aa _ _ _ _ _ (pv 3) (@aa _ _ _ _ _ (aH C__law_unlike hr (@aa _ _ _ _ _ (pv 5) ae rfl)) ae rfl) rfl)))))))))),?_⟩
  walk_at"";refine aJ λw0 G1 f1 hw0 _=>?_;walk_at"";refine aJ λw1 G2 f2 hw1 _=>?_;walk_at"";refine nF hw1 (by omega) (br (by decide)) (bW λw2 G3 f3 hw2 _=>?_);walk_at"";refine jj (f3 _ _ (f2 _ _ hw0)) hw2 (br (by decide)) (bW λw3 G4 f4 hw3 _=>?_);walk_at"";refine j2 fw hw3 (by decide +kernel) (by decide +kernel) (hp) λdq ds H1 e1 hd hdn hl hb=>?_;have eH:Ext H H1:=f1.trans (f2.trans (f3.trans (f4.trans e1)));have hl':ds.length=124:=hl;have at_:∀(i:Nat) (x:Int),fw[i]?=some x->∃d,ds[i]?=some d/\0<=d/\d<x:=λi x hx=>by
   have hi:i<ds.length:=by rw[hl];exact(EU.mp hx).1
   exact⟨ds[i],EL hi,hb i _ x (EL hi) hx⟩
  obtain⟨d0,g0,b00,b01⟩:=at_ 0 8 rfl;obtain⟨d1,g1,b10,b11⟩:=at_ 1 12 rfl;obtain⟨d2,g2,b20,b21⟩:=at_ 2 13 rfl;obtain⟨d3,g3,b30,b31⟩:=at_ 3 31 rfl;have pick:∀{i:Nat} {d:Int},ds[i]?=some d->bz (ds.map V.int) (i:Int)=some (.int d):=λ{i d} h=>gK (by rw[EM,h];rfl);walk_at"";refine aF (ag.of hd) (pick (i:=1) g1) ?_;walk_at"";refine aJ λmq H2 e2 hmq _=>?_;walk_at"";refine aF (ag.of (e2 _ _ hd)) (pick (i:=0) g0) ?_;obtain⟨w,hw,hw1',hw2'⟩:=zV b00 b01;refine aF (ag.of hmq) hw ?_
  try refine rd_I (show(0:Int)<w by omega) ?_
  walk_at"";have r0:0<=d1 % w:=Int.emod_nonneg _ (by omega);have r1:d1 % w<w:=Int.emod_lt_of_pos _ (by omega);obtain⟨m,hm,m1,m2⟩:∃m,1+d1 % w=m/\1<=m/\m<=12:=⟨_,rfl,by omega,by omega⟩;rw[hm];refine aF (ag.of (e2 _ _ hd)) (pick (i:=2) g2) ?_;walk_at"";have eH2:Ext H H2:=eH.trans e2;have hd2:=e2 _ _ hd;refine jm (λσ' H'=>H'=H2/\∃o:Nat,o<=30/\σ'=[some (.int c),some (.int p),some (.ref dq),some (.int m),some (.int o),none,none,none,none,none,none,none]) ?_ ?_
  ·walk_at"";refine aF (ag.of hd2) (pick (i:=0) g0) ?_;walk_at"";refine fX (λh=>?_) (λh=>?_)
   ·walk_at"";refine aF (ag.of hd2) (pick (i:=3) g3) ?_;walk_at"";exact⟨rfl,d3.toNat,by omega,by rw[EZ b30];rfl⟩
   ·walk_at"";exact⟨rfl,d2.toNat,by omega,by rw[EZ b20];rfl⟩
  rintro σ' H' ⟨rfl,o,ho,rfl⟩;clear hw hw1' hw2' r0 r1 b00 b01 b10 b11 b20 b21 b30 b31;walk_at"";refine aJ λf H3 e3 hf hfn=>?_;walk_at"";refine bS (by omega) ?_;refine forR (λi σ H4=>Ext H' H4/\∃(k1 k2 k3 k4 k5 k6:Option V) (cs:List Addr) (us:List Way),σ=[some (.int c),some (.int p),some (.ref dq),some (.int m),some (.int o),some (.ref f),k1,k2,k3,k4,k5,k6]/\H4 f=some (.lst (cs.map V.ref))/\aP H4 cs us/\(∀u∈us,u.Ok3 m)/\us.length=i)
   ⟨e3,none,none,none,none,none,none,[],[],rfl,hf,aP.nil _,λu hu=>by simp at hu,rfl⟩ ?_ ?_
  ·rintro i σ H4 hi ⟨e4,k1,k2,k3,k4,k5,k6,cs,us,rfl,hf4,al,ok,len⟩;rw[EY]at hi;have hi30:i<30:=by omega
   obtain⟨a,b,c',d,hcut,ga,gb,gc,gd⟩:=Dv (ds:=ds) (i:=4+4*i) (by omega);obtain⟨y0,y1,y2,y3⟩:=Cc hi30;have ba:=hb _ _ _ ga y0;have bb:=hb _ _ _ gb y1;have bc:=hb _ _ _ gc y2;have bd:=hb _ _ _ gd y3;have hd4:=e4 _ _ hd2;walk_at"";refine iI (ag.of hd4) (bW λt H5 e5 ht htn=>?_);rw[show (4:Int)+4*(0+(i:Int))=((4+4*i:Nat):Int) by omega,show (8:Int)+4*(0+(i:Int))=((4+4*i+4:Nat):Int) by omega,hcut]at ht;walk_at"";refine DL (ag.of ht) rfl ?_;walk_at"";refine aJ λu1 H6 e6 hu1 _=>?_;walk_at"";obtain⟨z,hz,okz⟩:=yi bb.1 bb.2;refine aF (ag.of hu1) hz ?_;walk_at"";have hf6:=e6 _ _ (e5 _ _ hf4);refine⟨cB (ag.of hf6),?_⟩;walk_at""
   try refine rd_I (show(0:Int)<m by omega) ?_
   walk_at""
   try refine rd_I (show(0:Int)<m by omega) ?_
   walk_at"";obtain⟨s,hs,s1,s2⟩:=zi bd.1 bd.2;refine⟨_,_,s,rfl,rfl,kD (by decide +kernel),hs,?_⟩;walk_at"";refine aJ λv H7 e7 hv _=>?_;have hf7:=e7 _ _ hf6;walk_at"";refine bJ hf7 (by rw[EK,al.1,len];exact Nat.lt_of_le_of_lt (show i<=1000 by omega) (by decide)) ?_;walk_at"";have al7:aP H7 cs us:=((al.ext e5).ext e6).ext e7;have hv7:H7 v=some (.tup (Way.vs ⟨a % m,z,c' % m,⟨#[s]⟩⟩)):=hv;refine⟨bK (e4.trans (e5.trans (e6.trans e7))) hfn,_,_,_,_,_,_,cs++[v],us++[⟨a % m,z,c' % m,⟨#[s]⟩⟩],rfl,by rw[aE,E3];rfl,(al7.put hf7).snoc ?_,?_,by simp[len]⟩
   ·rw[ay (bO hv7 hf7 (by intro z;cases z))];exact hv7
   ·intro u hu;rcases E9.mp hu with hu|hu
    ·exact ok u hu
    ·rw[EW.mp hu];exact⟨Int.emod_nonneg _ (by omega),Int.emod_lt_of_pos _ (by omega),Int.emod_nonneg _ (by omega),Int.emod_lt_of_pos _ (by omega),okz,s,s1,s2,rfl⟩
  ·rintro σ H4 ⟨e4,k1,k2,k3,k4,k5,k6,cs,us,rfl,hf4,al,ok,len⟩;rw[EY]at len;walk_at"";refine⟨f,cs,us,rfl,hf4,al,λu hu=>(ok u hu).lay,by omega,λr H5 ws e5 hws nd sub ln=>?_⟩;walk_at"";refine aJ λt H6 e6 ht _=>?_;exact q _ m ws H6 (eH2.trans (e4.trans (e5.trans e6))) (bw.mk ht (hws.ext e6)) ⟨m1,m2,by omega,λu hu=>ok u (sub u hu),nd⟩
structure WL(H0 H:Hp)(f:Addr)(us:List Way):Prop where
 ext:Ext H0 H
 at_:∃cs:List Addr,H f=some (.lst (cs.map V.ref))/\aP H cs us
def WL.nil{H0 H:Hp}{f:Addr}(e:Ext H0 H)(hf:H f=some (.lst [])):WL H0 H f []:=⟨e,[],hf,aP.nil _⟩
def WL.push{H0 H H1:Hp}{f v:Addr}{us:List Way}{w:Way}(h:WL H0 H f us)(hfn:H0 f=none)(e:Ext H H1)(hv:H1 v=some (.tup w.vs)):
  ∃xs,H1 f=some (.lst xs)/\xs.length=us.length/\WL H0 (upd H1 f (.lst (xs++[.ref v]))) f (us++[w]):=by
 obtain⟨e0,cs,hf,al⟩:=h;have hf1:=e _ _ hf;refine⟨cs.map V.ref,hf1,by rw[EK];exact al.1,bK (e0.trans e) hfn,cs++[v],by rw[aE,E3];rfl,((al.ext e).put hf1).snoc ?_⟩;rw[ay (bO hv hf1 (by intro z;cases z))];exact hv
def WL.ty{K:EG}{H0 H H1:Hp}{f:Addr}{us:List Way}(h:WL H0 H f us)(e:Ext H H1):gJ K "list" (.ref f) H1:=by obtain⟨_,cs,hf,al⟩:=h;exact cB (ag.of (e _ _ hf))
def kB:j4 "a":=⟨97,by decide,by decide,by decide +kernel⟩
def jD:j4 "b":=⟨98,by decide,by decide,by decide +kernel⟩
def oH:j4 "c":=⟨99,by decide,by decide,by decide +kernel⟩
def jT:bZ "up":=.inl rfl
def oV:bZ "down":=.inr (.inl rfl)
def i6:bZ "stay":=.inr (.inr (.inl rfl))
def m6:bZ "zero":=.inr (.inr (.inr rfl))
def dC{n:Nat}(h:n<=1000):n<sizeLine:=Nat.lt_of_le_of_lt h (by decide)
def j8{a b:V}{e:Int}(h0:0<=e)(h1:e<2):∃v,bz [a,b] e=some v/\(v=a\/v=b):=by
 have:e=0\/e=1:=by omega
 rcases this with rfl|rfl
 ·exact⟨a,rfl,.inl rfl⟩
 ·exact⟨b,rfl,.inr rfl⟩
def eT{m:Int}{us:List Way}{w:Way}(h:∀u∈us,u.Ok3 m)(hw:w.Ok3 m):∀u∈us++[w],u.Ok3 m:=λu hu=>by
 rcases E9.mp hu with hu|hu
 ·exact h u hu
 ·rw[EW.mp hu];exact hw
def AK:(Fp "ab").cps.toList=[97,98]:=by decide +kernel
def B0{e:Int}(h0:0<=e)(h1:e<2):∃c,bz (Fp "ab").cps.toList e=some c/\97<=c/\c<=99:=by
 rw[AK];have:e=0\/e=1:=by omega
 rcases this with rfl|rfl
 ·exact⟨97,rfl,by decide,by decide⟩
 ·exact⟨98,rfl,by decide,by decide⟩
def cn{ws ds:List Int}(hl:ds.length=ws.length)(hb:∀(i:Nat) (d x:Int),ds[i]?=some d->ws[i]?=some x->0<=d/\d<x)(i:Nat){x:Int}(hx:ws[i]?=some x):∃d,bz (ds.map V.int) (i:Int)=some (.int d)/\0<=d/\d<x:=by
 have hi:i<ds.length:=by rw[hl];exact(EU.mp hx).1
 have g:ds[i]?=some ds[i]:=EL hi;exact⟨ds[i],gK (by rw[EM,g];rfl),hb i _ x g hx⟩
def sS(K:EG):Sp:=λvs H Q _=>∃c p,vs=[.int c,.int p]/\0<p/\∀v m ws H',Ext H H'->bw H' v m ws->HOuse3 m ws->Q v H'
abbrev mU:Stmt:=stq 51
def qj:FnScope ["_law_cell_here","_law_prime","_law_draws_here","_law_up","_law_down","_law_many","_law_ways","_law_k"] ["_law_cell_here","_law_prime"] (aM mU):=⟨rfl,rfl,rfl,by decide +kernel,rfl,by decide +kernel,by decide +kernel⟩
def zw{P:Program}{w:World}{K:EG}{mg:Str->Option Value}{base:Heap}(D:Dfn K mg "_law_gate_house" mU ["_law_cell_here","_law_prime"])(T:Blt mg)(C__law_unlike:Cal P w K mg base "_law_unlike" 1 ["_law_ways"] (pS K))(C__law_draws:Cal P w K mg base "_law_draws" 2 ["_law_cell_here","_law_widths","_law_prime"] (gM K)):Cal P w K mg base "_law_gate_house" 3 ["_law_cell_here","_law_prime"] (sS K):=by
 have nd:=(qj).nd;refine D.ok qj (λvs H Q E h=>?_) (λX hX H vs Q E h=>?_)
 ·obtain⟨c,p,rfl,_⟩:=h;rfl
 ·obtain⟨f,cdv,A,outer,s,H0,E0,rfl,hr⟩:=hX;obtain⟨c,p,rfl,hp,q⟩:=h;refine⟨_,(@aj _ _ _ _ _ (@aG _ _ 2 _ _ _ _ nd rfl (Or.inl rfl) (aH C__law_draws hr (@aa _ _ _ _ _ (pv 0) (@aa _ _ _ _ _ (@bq _ _ _ _ (iY (.c (.c (.c (.c (.c (.c (.c .n))))))))) (@aa _ _ _ _ _ (pv 1) ae rfl) rfl) rfl)) rfl (Or.inl rfl))
    (@aj _ _ _ _ _ (rW (i:=3) (j:=4) rfl nd rfl rfl (by decide) rfl rfl (@aa _ _ _ _ _ (aq aU af (@ah _ _ _ _ _ _ _ (aI K) (pv 2) af (λ_ _=>rfl))) (@aa _ _ _ _ _ (aq aU af (@ah _ _ _ _ _ _ _ (aI K) (pv 2) af (λ_ _=>rfl))) ae rfl) rfl) rfl)
    (@aj _ _ _ _ _ (@aG _ _ 5 _ _ _ _ nd rfl (Or.inl rfl) (aq aU (aq aU (pv 3) (pv 4)) af) rfl (Or.inl rfl))
    (@aj _ _ _ _ _ (@aG _ _ 6 _ _ _ _ nd rfl (Or.inl rfl) (@bq _ _ _ _ ae) rfl (Or.inl rfl))
    (@aj _ _ _ _ _ (bH PassesOwn.never rfl (bR rfl T.range_ (@aa _ _ _ _ _ (pv 3) ae rfl)) (aK (i:=7) nd rfl (Or.inl rfl)) (@ao _ _ _ (bt (bE K ET E7 E8 bL (pv 6) (@aa _ _ _ _ _ (@bj _ _ _ _ _ (@aa _ _ _ _ _ (pv 7) (@aa _ _ _ _ _ aR (@aa _ _ _ _ _ (aq cy (aq aU (pv 7) af) (pv 3)) (@aa _ _ _ _ _ (@ah _ _ _ _ _ _ _ wq aR (@ah _ _ _ _ _ _ _ (aI K) (pv 2) af (λ_ _=>rfl)) (λ_ _=>rfl)) ae rfl) rfl) rfl) rfl)) ae rfl)))))
    (@aj _ _ _ _ _ (bt (bE K ET E7 E8 bL (pv 6) (@aa _ _ _ _ _ (@bj _ _ _ _ _ (@aa _ _ _ _ _ (aq cy (@ah _ _ _ _ _ _ _ (aI K) (pv 2) af (λ_ _=>rfl)) (pv 3)) (@aa _ _ _ _ _ aR (@aa _ _ _ _ _ (pv 3) (@aa _ _ _ _ _ aR ae rfl) rfl) rfl) rfl)) ae rfl)))
    (@aj _ _ _ _ _ (bH PassesOwn.never rfl (bR rfl T.range_ (@aa _ _ _ _ _ (pv 4) ae rfl)) (aK (i:=7) nd rfl (Or.inl rfl)) (@ao _ _ _ (bt (bE K ET E7 E8 bL (pv 6) (@aa _ _ _ _ _ (@bj _ _ _ _ _ (@aa _ _ _ _ _ (aq aU (pv 3) (pv 7)) (@aa _ _ _ _ _ aR (@aa _ _ _ _ _ (aq aU (pv 3) (aq cy (aq aU (pv 7) af) (pv 4))) (@aa _ _ _ _ _ aR ae rfl) rfl) rfl) rfl)) ae rfl)))))
    (@aj _ _ _ _ _ (bt (bE K ET E7 E8 bL (pv 6) (@aa _ _ _ _ _ (@bj _ _ _ _ _ (@aa _ _ _ _ _ (aq aU (pv 3) (aq cy (@ah _ _ _ _ _ _ _ (aI K) (pv 2) af (λ_ _=>rfl)) (pv 4))) (@aa _ _ _ _ _ aR (@aa _ _ _ _ _ (aq cG (pv 5) af) (@aa _ _ _ _ _ aR ae rfl) rfl) rfl) rfl)) ae rfl)))
    (@aj _ _ _ _ _ (bt (bE K ET E7 E8 bL (pv 6) (@aa _ _ _ _ _ (@bj _ _ _ _ _ (@aa _ _ _ _ _ (aq cG (pv 5) af) (@aa _ _ _ _ _ (@ah _ _ _ _ _ _ _ (aI K) (@bq _ _ _ _ (@aa _ _ _ _ _ aR (@aa _ _ _ _ _ aR ae rfl) rfl)) (@ah _ _ _ _ _ _ _ (aI K) (pv 2) af (λ_ _=>rfl)) (λ_ _=>rfl)) (@aa _ _ _ _ _ (@ah _ _ _ _ _ _ _ (aI K) (@bq _ _ _ _ (@aa _ _ _ _ _ af (@aa _ _ _ _ _ (aq cG (pv 5) af) ae rfl) rfl)) (@ah _ _ _ _ _ _ _ (aI K) (pv 2) af (λ_ _=>rfl)) (λ_ _=>rfl)) (@aa _ _ _ _ _ aR ae rfl) rfl) rfl) rfl)) ae rfl)))
    (@ao _ _ _ (@aL _ _ _ _ (@bj _ _ _ _ _ (@aa _ _ _ _ _ (pv 5) (@aa _ _ _ _ _ (aH C__law_unlike hr (@aa _ _ _ _ _ (pv 6) ae rfl)) ae rfl) rfl))))))))))))),?_⟩
  walk_at"";refine aJ λw0 G1 f1 hw0 _=>?_;walk_at"";refine j2 [6,5,6,5,2,2,2] hw0 (by decide) (by decide) (hp) λdq ds H1 e1 hd hdn hl hb=>?_;have eH:Ext H H1:=f1.trans e1;obtain⟨d0,g0,b00,b01⟩:=cn hl hb 0 rfl;obtain⟨d1,g1,b10,b11⟩:=cn hl hb 1 rfl;obtain⟨d2,g2,b20,b21⟩:=cn hl hb 2 rfl;obtain⟨d3,g3,b30,b31⟩:=cn hl hb 3 rfl;obtain⟨d4,g4,b40,b41⟩:=cn hl hb 4 rfl;obtain⟨d5,g5,b50,b51⟩:=cn hl hb 5 rfl;obtain⟨d6,g6,b60,b61⟩:=cn hl hb 6 rfl;clear hb hl;walk_at"";refine aF (ag.of hd) g0 ?_;walk_at"";refine aF (ag.of hd) g1 ?_;walk_at"";obtain⟨U,hU⟩:∃U:Nat,1+d0=(U:Int):=⟨(1+d0).toNat,by omega⟩;obtain⟨D,hD⟩:∃D:Nat,1+d1=(D:Int):=⟨(1+d1).toNat,by omega⟩;rw[hU,hD];have u1:1<=U:=by omega
  have u6:U<=6:=by omega
  have v1:1<=D:=by omega
  have v5:D<=5:=by omega
  clear b00 b01 b10 b11 hU hD;obtain⟨m,hm⟩:∃m:Int,(U:Int)+(D:Int)+1=m:=⟨_,rfl⟩;rw[hm];refine aJ λf H2 e2 hf hfn=>?_;walk_at"";refine bS (by omega) ?_;have hfn0:H1 f=none:=hfn;refine forR (λi σ H3=>∃(k:Option V) (us:List Way),σ=[some (.int c),some (.int p),some (.ref dq),some (.int U),some (.int D),some (.int m),some (.ref f),k]/\WL H1 H3 f us/\(∀u∈us,u.Ok3 m)/\us.length=i)
   ⟨none,[],rfl,WL.nil e2 hf,λu hu=>by simp at hu,rfl⟩ ?_ ?_
  ·rintro i σ H3 hi ⟨k,us,rfl,wl,ok,len⟩;rw[EY]at hi;walk_at"";refine⟨wl.ty (Ext.rfl' _),?_⟩;walk_at""
   try refine rd_I (show(0:Int)<(U:Int) by omega) ?_
   walk_at"";refine aF (ag.of (wl.ext _ _ hd)) g4 ?_;obtain⟨s,hs,s1,s2⟩:=B0 b40 b41;refine⟨_,_,s,rfl,rfl,kD (by decide +kernel),hs,?_⟩;walk_at"";refine aJ λv H4 e4 hv _=>?_;walk_at"";obtain⟨xs,hx,hlx,wl'⟩:=wl.push (w:=⟨0+(i:Int),"up",(0+(i:Int)+1) % (U:Int),⟨#[s]⟩⟩) hfn0 e4 hv;refine bJ hx (dC (by omega)) ?_;walk_at"";exact⟨_,_,rfl,wl',eT ok ⟨by show 0<=0+(i:Int);omega,by show 0+(i:Int)<m;omega,Int.emod_nonneg _ (by omega),Int.lt_trans (Int.emod_lt_of_pos _ (by omega)) (by omega),jT,s,s1,s2,rfl⟩,by simp[len]⟩
  rintro σ H3 ⟨k,us,rfl,wl,ok,len⟩;rw[EY]at len;walk_at"";refine⟨wl.ty (Ext.rfl' _),?_⟩;walk_at"";refine aF (ag.of (wl.ext _ _ hd)) g2 ?_
  try refine rd_I (show(0:Int)<(U:Int) by omega) ?_
  walk_at"";refine aJ λv H4 e4 hv _=>?_;walk_at"";have r0:0<=d2 % (U:Int):=Int.emod_nonneg _ (by omega);have r1:d2 % (U:Int)<U:=Int.emod_lt_of_pos _ (by omega);obtain⟨xs,hx,hlx,wl2⟩:=wl.push (w:=⟨d2 % (U:Int),"stay",(U:Int),"b"⟩) hfn0 e4 hv;have ok2:=eT ok (w:=⟨d2 % (U:Int),"stay",(U:Int),"b"⟩) ⟨r0,by show d2 % (U:Int)<m;omega,by show 0<=(U:Int);omega,by show(U:Int)<m;omega,i6,jD⟩;refine bJ hx (dC (by omega)) ?_;generalize upd H4 f _=H5 at wl2 ⊢;generalize hus2:us++[_]=us2 at wl2 ok2;have len2:us2.length=U+1:=by rw[←hus2];simp[len]
  clear hus2 hx hlx hv e4 r0 r1 wl ok len;walk_at"";refine bS (by omega) ?_;refine forR (λi σ H3=>∃(k:Option V) (us:List Way),σ=[some (.int c),some (.int p),some (.ref dq),some (.int U),some (.int D),some (.int m),some (.ref f),k]/\WL H1 H3 f us/\(∀u∈us,u.Ok3 m)/\us.length=U+1+i)
   ⟨_,us2,rfl,wl2,ok2,len2⟩ ?_ ?_
  ·rintro i σ H3 hi ⟨k,us,rfl,wl,ok,len⟩;rw[EY]at hi;walk_at"";refine⟨wl.ty (Ext.rfl' _),?_⟩;walk_at""
   try refine rd_I (show(0:Int)<(D:Int) by omega) ?_
   walk_at"";refine aJ λv H4 e4 hv _=>?_;walk_at"";have r0:0<=(0+(i:Int)+1) % (D:Int):=Int.emod_nonneg _ (by omega);have r1:(0+(i:Int)+1) % (D:Int)<D:=Int.emod_lt_of_pos _ (by omega);obtain⟨xs,hx,hlx,wl'⟩:=wl.push (w:=⟨(U:Int)+(0+(i:Int)),"down",(U:Int)+(0+(i:Int)+1) % (D:Int),"a"⟩) hfn0 e4 hv;refine bJ hx (dC (by omega)) ?_;walk_at"";exact⟨_,_,rfl,wl',eT ok ⟨by show 0<=(U:Int)+(0+(i:Int));omega,by show(U:Int)+(0+(i:Int))<m;omega,by show 0<=(U:Int)+(0+(i:Int)+1) % (D:Int);omega,by show(U:Int)+(0+(i:Int)+1) % (D:Int)<m;omega,oV,kB⟩,by simp[len];omega⟩
  clear wl2 ok2 len2;rintro σ H3 ⟨k,us,rfl,wl,ok,len⟩;rw[EY]at len;walk_at"";refine⟨wl.ty (Ext.rfl' _),?_⟩;walk_at"";refine aF (ag.of (wl.ext _ _ hd)) g3 ?_
  try refine rd_I (show(0:Int)<(D:Int) by omega) ?_
  walk_at"";refine aJ λv H4 e4 hv _=>?_;walk_at"";have r0:0<=d3 % (D:Int):=Int.emod_nonneg _ (by omega);have r1:d3 % (D:Int)<D:=Int.emod_lt_of_pos _ (by omega);obtain⟨xs,hx,hlx,wl2⟩:=wl.push (w:=⟨(U:Int)+d3 % (D:Int),"zero",m-1,"c"⟩) hfn0 e4 hv;have ok2:=eT ok (w:=⟨(U:Int)+d3 % (D:Int),"zero",m-1,"c"⟩) ⟨by show 0<=(U:Int)+d3 % (D:Int);omega,by show(U:Int)+d3 % (D:Int)<m;omega,by show 0<=m-1;omega,by show m-1<m;omega,m6,oH⟩;refine bJ hx (dC (by omega)) ?_;generalize upd H4 f _=H5 at wl2 ⊢;generalize hus2:us++[_]=us2 at wl2 ok2;have len2:us2.length=U+D+2:=by rw[←hus2];simp[len];omega
  clear hus2 hx hlx hv e4 r0 r1 wl ok len;walk_at"";refine⟨wl2.ty (Ext.rfl' _),?_⟩;walk_at"";refine aJ λt1 H6 e6 ht1 _=>?_;walk_at"";refine aF (ag.of (e6 _ _ (wl2.ext _ _ hd))) g5 ?_;obtain⟨x5,hx5,ax5⟩:=j8 (a:=V.str "up") (b:=V.str "stay") b50 b51;refine aF (ag.of ht1) hx5 ?_;walk_at"";refine aJ λt2 H7 e7 ht2 _=>?_;walk_at"";refine aF (ag.of (e7 _ _ (e6 _ _ (wl2.ext _ _ hd)))) g6 ?_;obtain⟨x6,hx6,ax6⟩:=j8 (a:=V.int 0) (b:=V.int (m-1)) b60 b61;refine aF (ag.of ht2) hx6 ?_;walk_at"";refine aJ λv H8 e8 hv _=>?_;walk_at"";obtain⟨z,rfl,oz⟩:∃z,x5=.str z/\bZ z:=by
   rcases ax5 with rfl|rfl
   ·exact⟨_,rfl,jT⟩
   ·exact⟨_,rfl,i6⟩
  obtain⟨y,rfl,y0,y1⟩:∃y:Int,x6=.int y/\0<=y/\y<m:=by
   rcases ax6 with rfl|rfl
   ·exact⟨_,rfl,by omega,by omega⟩
   ·exact⟨_,rfl,by omega,by omega⟩
  obtain⟨xs,hx,hlx,wl3⟩:=wl2.push (w:=⟨m-1,z,y,"b"⟩) hfn0 (e6.trans (e7.trans e8)) hv;have ok3:=eT ok2 (w:=⟨m-1,z,y,"b"⟩) ⟨by show 0<=m-1;omega,by show m-1<m;omega,y0,y1,oz,jD⟩;refine bJ hx (dC (by omega)) ?_;generalize upd H8 f _=H9 at wl3 ⊢;generalize hus3:us2++[_]=us3 at wl3 ok3;have len3:us3.length=U+D+3:=by rw[←hus3];simp[len2]
  walk_at"";obtain⟨ew,cs,hcs,al⟩:=wl3;refine⟨f,cs,us3,rfl,hcs,al,λu hu=>(ok3 u hu).lay,by omega,λr I1 ws e5 hws nd sub ln=>?_⟩;walk_at"";refine aJ λt I2 e6' ht _=>?_;exact q _ m ws I2 (eH.trans (ew.trans (e5.trans e6'))) (bw.mk ht (hws.ext e6')) ⟨by omega,by omega,by omega,λu hu=>ok3 u (sub u hu),nd⟩
def aP.rev{H:Hp}{bs:List Addr}{ws:List Way}(h:aP H bs ws):aP H bs.reverse ws.reverse:=by
 refine⟨by rw[List.length_reverse,List.length_reverse];exact h.1,λj b w e1 e2=>?_⟩;have hj:j<bs.length:=by have:=(EU.mp e1).1;simpa using this
 rw[List.getElem?_reverse hj]at e1;rw[List.getElem?_reverse (by rw[←h.1];exact hj),←h.1]at e2;exact h.2 _ b w e1 e2
def iQ{us:List Way}{w:Way}(h:us.Nodup)(hw:w∉us):(us++[w]).Nodup:=by rw[List.nodup_append];exact⟨h,by simp,λa ha c hc=>by rw[EW.mp hc];exact λz=>hw (z ▸ ha)⟩
def jy{P:Way->Prop}{us:List Way}{w:Way}(h:∀u∈us,P u)(hw:P w):∀u∈us++[w],P u:=λu hu=>by
 rcases E9.mp hu with hu|hu
 ·exact h u hu
 ·rw[EW.mp hu];exact hw
def uw:(Fp "a")≠"b":=by decide +kernel
def qk:(Fp "a")≠"c":=by decide +kernel
def oD:(Fp "b")≠"c":=by decide +kernel
def uv(K:EG):Sp:=λvs H Q _=>∃c p,vs=[.int c,.int p]/\0<p/\∀v m ws H',Ext H H'->bw H' v m ws->HOuse3 m ws->Q v H'
abbrev mL:Stmt:=stq 49
def tU:FnScope ["_law_cell_here","_law_prime","_law_draws_here","_law_one","_law_two","_law_many","_law_ways","_law_k"] ["_law_cell_here","_law_prime"] (aM mL):=⟨rfl,rfl,rfl,by decide +kernel,rfl,by decide +kernel,by decide +kernel⟩
def xW{P:Program}{w:World}{K:EG}{mg:Str->Option Value}{base:Heap}(D:Dfn K mg "_law_ring_house" mL ["_law_cell_here","_law_prime"])(T:Blt mg)(C__law_draws:Cal P w K mg base "_law_draws" 2 ["_law_cell_here","_law_widths","_law_prime"] (gM K)):Cal P w K mg base "_law_ring_house" 3 ["_law_cell_here","_law_prime"] (uv K):=by
 have nd:=(tU).nd;refine D.ok tU (λvs H Q E h=>?_) (λX hX H vs Q E h=>?_)
 ·obtain⟨c,p,rfl,_⟩:=h;rfl
 ·obtain⟨f,cdv,A,outer,s,H0,E0,rfl,hr⟩:=hX;obtain⟨c,p,rfl,hp,q⟩:=h;refine⟨_,(@aj _ _ _ _ _ (@aG _ _ 2 _ _ _ _ nd rfl (Or.inl rfl) (aH C__law_draws hr (@aa _ _ _ _ _ (pv 0) (@aa _ _ _ _ _ (@bq _ _ _ _ (iY (.c (.c (.c (.c (.c (.c (.c .n))))))))) (@aa _ _ _ _ _ (pv 1) ae rfl) rfl) rfl)) rfl (Or.inl rfl))
    (@aj _ _ _ _ _ (rW (i:=3) (j:=4) rfl nd rfl rfl (by decide) rfl rfl (@aa _ _ _ _ _ (aq aU af (@ah _ _ _ _ _ _ _ (aI K) (pv 2) af (λ_ _=>rfl))) (@aa _ _ _ _ _ (aq aU af (@ah _ _ _ _ _ _ _ (aI K) (pv 2) af (λ_ _=>rfl))) ae rfl) rfl) rfl)
    (@aj _ _ _ _ _ (@aG _ _ 5 _ _ _ _ nd rfl (Or.inl rfl) (aq aU (aq aU (pv 3) (pv 4)) af) rfl (Or.inl rfl))
    (@aj _ _ _ _ _ (@aG _ _ 6 _ _ _ _ nd rfl (Or.inl rfl) (@bq _ _ _ _ (@aa _ _ _ _ _ (@bj _ _ _ _ _ (@aa _ _ _ _ _ af (@aa _ _ _ _ _ aR (@aa _ _ _ _ _ af (@aa _ _ _ _ _ aR ae rfl) rfl) rfl) rfl)) (@aa _ _ _ _ _ (@bj _ _ _ _ _ (@aa _ _ _ _ _ af (@aa _ _ _ _ _ (@ah _ _ _ _ _ _ _ (aI K) (@bq _ _ _ _ (@aa _ _ _ _ _ aR (@aa _ _ _ _ _ aR ae rfl) rfl)) (@ah _ _ _ _ _ _ _ (aI K) (pv 2) af (λ_ _=>rfl)) (λ_ _=>rfl)) (@aa _ _ _ _ _ (aq aU af (pv 3)) (@aa _ _ _ _ _ aR ae rfl) rfl) rfl) rfl)) ae rfl) rfl)) rfl (Or.inl rfl))
    (@aj _ _ _ _ _ (bH PassesOwn.never rfl (bR rfl T.range_ (@aa _ _ _ _ _ (pv 3) ae rfl)) (aK (i:=7) nd rfl (Or.inl rfl)) (@ao _ _ _ (bt (bE K ET E7 E8 bL (pv 6) (@aa _ _ _ _ _ (@bj _ _ _ _ _ (@aa _ _ _ _ _ (aq aU af (pv 7)) (@aa _ _ _ _ _ aR (@aa _ _ _ _ _ (aq aU af (aq cy (aq aU (pv 7) af) (pv 3))) (@aa _ _ _ _ _ aR ae rfl) rfl) rfl) rfl)) ae rfl)))))
    (@aj _ _ _ _ _ (bH PassesOwn.never rfl (bR rfl T.range_ (@aa _ _ _ _ _ (pv 4) ae rfl)) (aK (i:=7) nd rfl (Or.inl rfl)) (@ao _ _ _ (bt (bE K ET E7 E8 bL (pv 6) (@aa _ _ _ _ _ (@bj _ _ _ _ _ (@aa _ _ _ _ _ (aq aU (aq aU af (pv 3)) (pv 7)) (@aa _ _ _ _ _ (@ah _ _ _ _ _ _ _ (aI K) (@bq _ _ _ _ (@aa _ _ _ _ _ aR (@aa _ _ _ _ _ aR ae rfl) rfl)) (@ah _ _ _ _ _ _ _ (aI K) (pv 2) af (λ_ _=>rfl)) (λ_ _=>rfl)) (@aa _ _ _ _ _ (aq aU (aq aU af (pv 3)) (aq cy (aq aU (pv 7) af) (pv 4))) (@aa _ _ _ _ _ aR ae rfl) rfl) rfl) rfl)) ae rfl)))))
    (@aj _ _ _ _ _ (bt (bE K ET E7 E8 bL (pv 6) (@aa _ _ _ _ _ (@bj _ _ _ _ _ (@aa _ _ _ _ _ af (@aa _ _ _ _ _ aR (@aa _ _ _ _ _ (aq cG (pv 5) af) (@aa _ _ _ _ _ aR ae rfl) rfl) rfl) rfl)) ae rfl)))
    (@aj _ _ _ _ _ (bt (bE K ET E7 E8 bL (pv 6) (@aa _ _ _ _ _ (@bj _ _ _ _ _ (@aa _ _ _ _ _ (aq aU af (pv 3)) (@aa _ _ _ _ _ aR (@aa _ _ _ _ _ (aq cG (pv 5) af) (@aa _ _ _ _ _ aR ae rfl) rfl) rfl) rfl)) ae rfl)))
    (@aj _ _ _ _ _ (cq (aS bG (@ah _ _ _ _ _ _ _ (aI K) (pv 2) af (λ_ _=>rfl)) af (aQ _)) (@ao _ _ _ (bt (bE K ET E7 E8 bL (pv 6) (@aa _ _ _ _ _ (@bj _ _ _ _ _ (@aa _ _ _ _ _ (aq cG (pv 5) af) (@aa _ _ _ _ _ aR (@aa _ _ _ _ _ (aq cG (pv 5) af) (@aa _ _ _ _ _ aR ae rfl) rfl) rfl) rfl)) ae rfl)))) aY)
    (@aj _ _ _ _ _ (cq (aS bG (@ah _ _ _ _ _ _ _ (aI K) (pv 2) af (λ_ _=>rfl)) af (aQ _)) (@ao _ _ _ (bt (bE K ET E7 E8 bL (pv 6) (@aa _ _ _ _ _ (@bj _ _ _ _ _ (@aa _ _ _ _ _ (aq cG (pv 5) af) (@aa _ _ _ _ _ aR (@aa _ _ _ _ _ af (@aa _ _ _ _ _ aR ae rfl) rfl) rfl) rfl)) ae rfl)))) aY)
    (@aj _ _ _ _ _ (cq (aS bG (@ah _ _ _ _ _ _ _ (aI K) (pv 2) af (λ_ _=>rfl)) af (aQ _)) (@ao _ _ _ (@aG _ _ 6 _ _ _ _ nd rfl (Or.inl rfl) (Bw K (pv 6) (f6 (eZ eX af))) rfl (Or.inl rfl))) aY)
    (@ao _ _ _ (@aL _ _ _ _ (@bj _ _ _ _ _ (@aa _ _ _ _ _ (pv 5) (@aa _ _ _ _ _ (eQ (gX K) rfl T.tuple_ PyProof.Rows.boot_tuple (@aa _ _ _ _ _ (pv 6) ae rfl)) ae rfl) rfl))))))))))))))),?_⟩
  walk_at"";refine aJ λw0 G1 f1 hw0 _=>?_;walk_at"";refine j2 [5,5,2,2,4,4,2] hw0 (by decide) (by decide) (hp) λdq ds H1 e1 hd hdn hl hb=>?_;have eH:Ext H H1:=f1.trans e1;obtain⟨d0,g0,b00,b01⟩:=cn hl hb 0 rfl;obtain⟨d1,g1,b10,b11⟩:=cn hl hb 1 rfl;obtain⟨d2,g2,b20,b21⟩:=cn hl hb 2 rfl;obtain⟨d3,g3,b30,b31⟩:=cn hl hb 3 rfl;obtain⟨d4,g4,_⟩:=cn hl hb 4 rfl;obtain⟨d5,g5,_⟩:=cn hl hb 5 rfl;obtain⟨d6,g6,_⟩:=cn hl hb 6 rfl;clear hb hl;walk_at"";refine aF (ag.of hd) g0 ?_;walk_at"";refine aF (ag.of hd) g1 ?_;walk_at"";obtain⟨U,hU⟩:∃U:Nat,1+d0=(U:Int):=⟨(1+d0).toNat,by omega⟩;obtain⟨D,hD⟩:∃D:Nat,1+d1=(D:Int):=⟨(1+d1).toNat,by omega⟩;rw[hU,hD];have u1:1<=U:=by omega
  have u6:U<=5:=by omega
  have v1:1<=D:=by omega
  have v5:D<=5:=by omega
  clear b00 b01 b10 b11 hU hD;obtain⟨m,hm⟩:∃m:Int,(U:Int)+(D:Int)+2=m:=⟨_,rfl⟩;rw[hm];refine aJ λa1 H2 e2 ha1 _=>?_;walk_at"";refine aJ λt1 H3 e3 ht1 _=>?_;walk_at"";refine aF (ag.of (e3 _ _ (e2 _ _ hd))) g2 ?_;obtain⟨x2,hx2,ax2⟩:=j8 (a:=V.str "stay") (b:=V.str "zero") b20 b21;refine aF (ag.of ht1) hx2 ?_;walk_at"";obtain⟨z2,rfl,oz2⟩:∃z,x2=.str z/\bZ z:=by
   rcases ax2 with rfl|rfl
   ·exact⟨_,rfl,i6⟩
   ·exact⟨_,rfl,m6⟩
  refine aJ λa2 H4 e4 ha2 _=>?_;walk_at"";refine aJ λf H5 e5 hf hfn=>?_;have e15:Ext H1 H5:=e2.trans (e3.trans (e4.trans e5));have hfn0:H1 f=none:=(e2.trans (e3.trans e4)).none hfn;obtain⟨y1,hy1⟩:∃y:Way,y=⟨0,"stay",1,"a"⟩:=⟨_,rfl⟩;obtain⟨y2,hy2⟩:∃y:Way,y=⟨0,z2,1+(U:Int),"b"⟩:=⟨_,rfl⟩;have wl0:WL H1 H5 f [y1,y2]:=by
   refine⟨e15,[a1,a2],hf,?_⟩;have k1:H5 a1=some (.tup y1.vs):=by rw[hy1];exact e5 _ _ (e4 _ _ (e3 _ _ ha1))
   have k2:H5 a2=some (.tup y2.vs):=by rw[hy2];exact e5 _ _ ha2
   exact((aP.nil H5).snoc k1).snoc k2
  have ok0:∀u∈[y1,y2],u.Ok3 m:=by
   intro u hu;rcases E1.mp hu with rfl|hu
   ·subst hy1;exact⟨Int.le_refl _,by show(0:Int)<m;omega,by show(0:Int)<=1;decide,by show(1:Int)<m;omega,i6,kB⟩
   ·rw[EW.mp hu];subst hy2;exact⟨Int.le_refl _,by show(0:Int)<m;omega,by show(0:Int)<=1+(U:Int);omega,by show 1+(U:Int)<m;omega,oz2,jD⟩
  have nd0:[y1,y2].Nodup:=by subst hy1 hy2;refine List.nodup_cons.mpr ⟨λz=>?_,by simp⟩;have:=congrArg Way.sign (EW.mp z);exact uw this
  have pr0:∀u∈[y1,y2],u.room<=((0:Nat):Int)/\u.sign≠"c":=by
   intro u hu;rcases E1.mp hu with rfl|hu
   ·subst hy1;exact⟨Int.le_refl _,qk⟩
   ·rw[EW.mp hu];subst hy2;exact⟨Int.le_refl _,oD⟩
  have ln0:[y1,y2].length=2:=rfl;generalize [y1,y2]=us0 at wl0 ok0 nd0 pr0 ln0;clear hy1 hy2 ha1 ha2 ht1 hf e2 e3 e4 e5;walk_at"";refine bS (by omega) ?_;refine forR (λi σ H3=>∃(k:Option V) (us:List Way),σ=[some (.int c),some (.int p),some (.ref dq),some (.int U),some (.int D),some (.int m),some (.ref f),k]/\WL H1 H3 f us/\(∀u∈us,u.Ok3 m)/\us.Nodup/\(∀u∈us,u.room<=(i:Int)/\u.sign≠"c")/\us.length=2+i)
   ⟨none,us0,rfl,wl0,ok0,nd0,pr0,ln0⟩ ?_ ?_
  ·rintro i σ H3 hi ⟨k,us,rfl,wl,ok,nd',pr,len⟩;rw[EY]at hi;walk_at"";refine⟨wl.ty (Ext.rfl' _),?_⟩;walk_at""
   try refine rd_I (show(0:Int)<(U:Int) by omega) ?_
   walk_at"";refine aJ λv H4 e4 hv _=>?_;walk_at"";have r0:0<=(0+(i:Int)+1) % (U:Int):=Int.emod_nonneg _ (by omega);have r1:(0+(i:Int)+1) % (U:Int)<U:=Int.emod_lt_of_pos _ (by omega);obtain⟨xs,hx,hlx,wl'⟩:=wl.push (w:=⟨1+(0+(i:Int)),"up",1+(0+(i:Int)+1) % (U:Int),"a"⟩) hfn0 e4 hv;refine bJ hx (dC (by omega)) ?_;walk_at"";refine⟨_,_,rfl,wl',eT ok ⟨by show 0<=1+(0+(i:Int));omega,by show 1+(0+(i:Int))<m;omega,by show 0<=1+(0+(i:Int)+1) % (U:Int);omega,by show 1+(0+(i:Int)+1) % (U:Int)<m;omega,jT,kB⟩,iQ nd' λz=>?_,jy (λu hu=>⟨by have:=(pr u hu).1;omega,(pr u hu).2⟩) ⟨by show 1+(0+(i:Int))<=_;omega,qk⟩,by simp[len];omega⟩;have:=(pr _ z).1;have:1+(0+(i:Int))<=(i:Int):=this;omega
  clear wl0 ok0 nd0 pr0 ln0;rintro σ H3 ⟨k,us,rfl,wl,ok,nd',pr,len⟩;rw[EY]at pr len;walk_at"";refine bS (by omega) ?_;refine forR (λi σ H3=>∃(k:Option V) (us:List Way),σ=[some (.int c),some (.int p),some (.ref dq),some (.int U),some (.int D),some (.int m),some (.ref f),k]/\WL H1 H3 f us/\(∀u∈us,u.Ok3 m)/\us.Nodup/\(∀u∈us,u.room<=(U:Int)+(i:Int)/\u.sign≠"c"/\(u.room=1+(U:Int)->u.sign = "b"))/\us.length=2+U+i)
   ⟨_,us,rfl,wl,ok,nd',λu hu=>⟨by have:=(pr u hu).1;omega,(pr u hu).2,λz=>by have:=(pr u hu).1;omega⟩,len⟩ ?_ ?_
  ·clear wl ok nd' pr len;rintro i σ H3 hi ⟨k,us,rfl,wl,ok,nd',pr,len⟩;rw[EY]at hi;walk_at"";refine⟨wl.ty (Ext.rfl' _),?_⟩;walk_at"";refine aJ λt1 H6 e6 ht1 _=>?_;walk_at"";refine aF (ag.of (e6 _ _ (wl.ext _ _ hd))) g3 ?_;obtain⟨x3,hx3,ax3⟩:=j8 (a:=V.str "up") (b:=V.str "down") b30 b31;refine aF (ag.of ht1) hx3 ?_;walk_at"";obtain⟨z3,rfl,oz3⟩:∃z,x3=.str z/\bZ z:=by
    rcases ax3 with rfl|rfl
    ·exact⟨_,rfl,jT⟩
    ·exact⟨_,rfl,oV⟩
   try refine rd_I (show(0:Int)<(D:Int) by omega) ?_
   walk_at"";refine aJ λv H4 e4 hv _=>?_;walk_at"";have r0:0<=(0+(i:Int)+1) % (D:Int):=Int.emod_nonneg _ (by omega);have r1:(0+(i:Int)+1) % (D:Int)<D:=Int.emod_lt_of_pos _ (by omega);obtain⟨xs,hx,hlx,wl'⟩:=wl.push (w:=⟨1+(U:Int)+(0+(i:Int)),z3,1+(U:Int)+(0+(i:Int)+1) % (D:Int),"b"⟩) hfn0 (e6.trans e4) hv;refine bJ hx (dC (by omega)) ?_;walk_at"";refine⟨_,_,rfl,wl',eT ok ⟨by show 0<=1+(U:Int)+(0+(i:Int));omega,by show 1+(U:Int)+(0+(i:Int))<m;omega,by show 0<=1+(U:Int)+(0+(i:Int)+1) % (D:Int);omega,by show 1+(U:Int)+(0+(i:Int)+1) % (D:Int)<m;omega,oz3,jD⟩,iQ nd' λz=>?_,jy (λu hu=>⟨by have:=(pr u hu).1;omega,(pr u hu).2⟩) ⟨by show 1+(U:Int)+(0+(i:Int))<=_;omega,oD,λ_=>rfl⟩,by simp[len];omega⟩;have:=(pr _ z).1;have:1+(U:Int)+(0+(i:Int))<=(U:Int)+(i:Int):=this;omega
  clear wl ok nd' pr len;rintro σ H3 ⟨k,us,rfl,wl,ok,nd',pr,len⟩;rw[EY]at pr len;walk_at"";refine⟨wl.ty (Ext.rfl' _),?_⟩;walk_at"";refine aJ λv H4 e4 hv _=>?_;walk_at"";obtain⟨xs,hx,hlx,wl2⟩:=wl.push (w:=⟨1,"stay",m-1,"c"⟩) hfn0 e4 hv;have ok2:=eT ok (w:=⟨1,"stay",m-1,"c"⟩) ⟨by show(0:Int)<=1;decide,by show(1:Int)<m;omega,by show 0<=m-1;omega,by show m-1<m;omega,i6,oH⟩;have nd2:=iQ nd' (w:=⟨1,"stay",m-1,"c"⟩) λz=>(pr _ z).2.1 rfl;have pr2:=jy (P:=λu=>u.room<=(U:Int)+(D:Int)/\(u.room=1+(U:Int)->u.sign = "b")) (λu hu=>⟨(pr u hu).1,(pr u hu).2.2⟩) (w:=⟨1,"stay",m-1,"c"⟩) ⟨by show(1:Int)<=_;omega,λz=>by have:(1:Int)=1+(U:Int):=z;omega⟩;refine bJ hx (dC (by omega)) ?_;generalize upd H4 f _=H5 at wl2 ⊢;generalize hus2:us++[_]=us2 at wl2 ok2 nd2 pr2;have len2:us2.length=3+U+D:=by rw[←hus2];simp[len];omega
  clear hus2 hx hlx hv e4 wl ok nd' pr len;walk_at"";refine⟨wl2.ty (Ext.rfl' _),?_⟩;walk_at"";refine aJ λv H4 e4 hv _=>?_;walk_at"";obtain⟨xs,hx,hlx,wl3⟩:=wl2.push (w:=⟨1+(U:Int),"stay",m-1,"a"⟩) hfn0 e4 hv;have ok3:=eT ok2 (w:=⟨1+(U:Int),"stay",m-1,"a"⟩) ⟨by show(0:Int)<=1+(U:Int);omega,by show 1+(U:Int)<m;omega,by show 0<=m-1;omega,by show m-1<m;omega,i6,kB⟩;have nd3:=iQ nd2 (w:=⟨1+(U:Int),"stay",m-1,"a"⟩) λz=>uw ((pr2 _ z).2 rfl);have pr3:=jy (P:=λu=>u.room<=(U:Int)+(D:Int)) (λu hu=>(pr2 u hu).1) (w:=⟨1+(U:Int),"stay",m-1,"a"⟩) (by show 1+(U:Int)<=_;omega);refine bJ hx (dC (by omega)) ?_;generalize upd H4 f _=H6 at wl3 ⊢;generalize hus3:us2++[_]=us3 at wl3 ok3 nd3 pr3;have len3:us3.length=4+U+D:=by rw[←hus3];simp[len2];omega
  clear hus3 hx hlx hv e4 wl2 ok2 nd2 pr2 len2;walk_at"";refine jm (λσ' H'=>∃(k:Option V) (us:List Way),σ'=[some (.int c),some (.int p),some (.ref dq),some (.int U),some (.int D),some (.int m),some (.ref f),k]/\WL H1 H' f us/\(∀u∈us,u.Ok3 m)/\us.Nodup/\(∀u∈us,u.room<=(U:Int)+(D:Int)\/u.sign = "c")/\us.length<=5+U+D) ?_ ?_
  ·walk_at"";refine aF (ag.of (wl3.ext _ _ hd)) g4 ?_;walk_at"";refine fX (λh=>?_) (λh=>?_)
   ·walk_at"";refine⟨wl3.ty (Ext.rfl' _),?_⟩;walk_at"";refine aJ λv H4 e4 hv _=>?_;walk_at"";obtain⟨xs,hx,hlx,wl4⟩:=wl3.push (w:=⟨m-1,"down",m-1,"c"⟩) hfn0 e4 hv;refine bJ hx (dC (by omega)) ?_;walk_at"";exact⟨_,_,rfl,wl4,eT ok3 ⟨by show 0<=m-1;omega,by show m-1<m;omega,by show 0<=m-1;omega,by show m-1<m;omega,oV,oH⟩,iQ nd3 λz=>by have:m-1<=(U:Int)+(D:Int):=pr3 _ z;omega,jy (λu hu=>.inl (pr3 u hu)) (.inr rfl),by simp[len3];omega⟩
   ·walk_at"";exact⟨_,us3,rfl,wl3,ok3,nd3,λu hu=>.inl (pr3 u hu),by omega⟩
  clear wl3 ok3 nd3 pr3 len3;rintro σ' H7 ⟨k,us,rfl,wl,ok,nd',pr,len⟩;walk_at"";refine jm (λσ' H'=>∃(k:Option V) (us:List Way),σ'=[some (.int c),some (.int p),some (.ref dq),some (.int U),some (.int D),some (.int m),some (.ref f),k]/\WL H1 H' f us/\(∀u∈us,u.Ok3 m)/\us.Nodup/\us.length<=6+U+D) ?_ ?_
  ·walk_at"";refine aF (ag.of (wl.ext _ _ hd)) g5 ?_;walk_at"";refine fX (λh=>?_) (λh=>?_)
   ·walk_at"";refine⟨wl.ty (Ext.rfl' _),?_⟩;walk_at"";refine aJ λv H4 e4 hv _=>?_;walk_at"";obtain⟨xs,hx,hlx,wl4⟩:=wl.push (w:=⟨m-1,"zero",0,"b"⟩) hfn0 e4 hv;refine bJ hx (dC (by omega)) ?_;walk_at"";exact⟨_,_,rfl,wl4,eT ok ⟨by show 0<=m-1;omega,by show m-1<m;omega,by show(0:Int)<=0;decide,by show(0:Int)<m;omega,m6,jD⟩,iQ nd' (λz=>(pr _ z).elim (λy=>by have:m-1<=(U:Int)+(D:Int):=y;omega) λy=>oD y),by simp;omega⟩
   ·walk_at"";exact⟨_,us,rfl,wl,ok,nd',by omega⟩
  clear wl ok nd' pr len;rintro σ' H8 ⟨k,us,rfl,wl,ok,nd',len⟩;walk_at"";refine jm (λσ' H'=>∃(k:Option V) (f:Addr) (cs:List Addr) (us:List Way),σ'=[some (.int c),some (.int p),some (.ref dq),some (.int U),some (.int D),some (.int m),some (.ref f),k]/\Ext H1 H'/\H' f=some (.lst (cs.map V.ref))/\aP H' cs us/\(∀u∈us,u.Ok3 m)/\us.Nodup/\us.length<=6+U+D) ?_ ?_
  ·walk_at"";refine aF (ag.of (wl.ext _ _ hd)) g6 ?_;walk_at"";obtain⟨ew,cs,hcs,al⟩:=wl;refine fX (λh=>?_) (λh=>?_)
   ·walk_at"";refine⟨rfl,DM (ag.of hcs) (bW λr H9 e9 hr9 _=>?_)⟩;walk_at"";exact⟨_,r,cs.reverse,us.reverse,rfl,ew.trans e9,by rw[hr9,List.map_reverse],(al.ext e9).rev,λu hu=>ok u (List.mem_reverse.mp hu),List.pairwise_reverse.mpr (nd'.imp λh=>Ne.symm h),by rw[List.length_reverse];omega⟩
   ·walk_at"";exact⟨_,f,cs,us,rfl,ew,hcs,al,ok,nd',by omega⟩
  clear wl ok nd' len;rintro σ' H9 ⟨k,g,cs,us,rfl,ew,hcs,al,ok,nd',len⟩;walk_at"";refine gg (ag.of hcs) (bW λr I1 i1 hr1 _=>?_);walk_at"";refine aJ λt I2 i2 ht _=>?_;exact q _ m us I2 (eH.trans (ew.trans (i1.trans i2))) (bw.mk ht (((al.ext i1).ways hr1).ext i2)) ⟨by omega,by omega,by omega,ok,nd'⟩
def wG(K:EG):Sp:=λvs H Q _=>∃c p,vs=[.int c,.int p]/\0<p/\∀v m ws H',Ext H H'->bw H' v m ws->HOuse3 m ws->Q v H'
abbrev nh:Stmt:=stq 53
def qK:FnScope ["_law_cell_here","_law_prime","_law_kind","_law_left"] ["_law_cell_here","_law_prime"] (aM nh):=⟨rfl,rfl,rfl,by decide +kernel,rfl,by decide +kernel,by decide +kernel⟩
def Cb{P:Program}{w:World}{K:EG}{mg:Str->Option Value}{base:Heap}(D:Dfn K mg "_law_house" nh ["_law_cell_here","_law_prime"])(T:Blt mg)(C__law_drawn_house:Cal P w K mg base "_law_drawn_house" 3 ["_law_cell_here","_law_prime"] (uI K))(C__law_gate_house:Cal P w K mg base "_law_gate_house" 3 ["_law_cell_here","_law_prime"] (sS K))(C__law_ring_house:Cal P w K mg base "_law_ring_house" 3 ["_law_cell_here","_law_prime"] (uv K))(C__law_spare:Cal P w K mg base "_law_spare" 1 ["_law_cell_here","_law_width"] (pH K))(C__law_draws:Cal P w K mg base "_law_draws" 2 ["_law_cell_here","_law_widths","_law_prime"] (gM K)):Cal P w K mg base "_law_house" 4 ["_law_cell_here","_law_prime"] (wG K):=by
 have nd:=(qK).nd;refine D.ok qK (λvs H Q E h=>?_) (λX hX H vs Q E h=>?_)
 ·obtain⟨c,p,rfl,_⟩:=h;rfl
 ·obtain⟨f,cdv,A,outer,s,H0,E0,rfl,hr⟩:=hX;obtain⟨c,p,rfl,hp,q⟩:=h;refine⟨_,(aj (aG (i:=2) nd rfl (Or.inl rfl) (ah (aI K) (aH C__law_draws hr (aa (pv 0) (aa (bq (aa af ae)) (aa (pv 1) ae)))) af (λ_ _=>rfl)))
    (aj (aG (i:=3) nd rfl (Or.inl rfl) (aH C__law_spare hr (aa (pv 0) (aa af ae))))
    (aj (bU (aS bG (pv 2) af (aQ _)) (ao (aL (aH C__law_ring_house hr (aa (pv 3) (aa (pv 1) ae))))) aY)
    (aj (bU (aS bG (pv 2) af (aQ _)) (ao (aL (aH C__law_gate_house hr (aa (pv 3) (aa (pv 1) ae))))) aY)
    (ao (aL (aH C__law_drawn_house hr (aa (pv 3) (aa (pv 1) ae))))))))),?_⟩
  walk_at"";refine aJ λw0 G1 f1 hw0 _=>?_;walk_at"";refine j2 [8] hw0 (by decide) (by decide) (hp) λdq ds H1 e1 hd hdn hl hb=>?_;have eH:Ext H H1:=f1.trans e1;obtain⟨d0,g0,_⟩:=cn hl hb 0 rfl;walk_at"";refine aF (ag.of hd) g0 ?_;walk_at"";refine⟨c,8,rfl,by decide,by decide,λz=>?_⟩;walk_at"";refine fX (λh=>?_) (λh=>?_)
  ·walk_at"";exact⟨z,p,rfl,hp,λv m ws H' e hv ok=>q v m ws H' (eH.trans e) hv ok⟩
  ·walk_at"";refine fX (λh=>?_) (λh=>?_)
   ·walk_at"";exact⟨z,p,rfl,hp,λv m ws H' e hv ok=>q v m ws H' (eH.trans e) hv ok⟩
   ·walk_at"";exact⟨z,p,rfl,hp,λv m ws H' e hv ok=>q v m ws H' (eH.trans e) hv ok⟩
def je{a b:Str}:decide (V.str a=V.str b)=decide (a=b):=by
 by_cases h:a=b
 ·subst h;simp
 ·rw[FF h,FF (λz=>h (V.str.inj z))]
def cz{a b:Str}{H:Hp}{Q:VK}(h:Q (.bl (decide (a=b))) H):kS (.str a) (.str b) H Q:=⟨rfl,by rw[je];exact h⟩
def uB{a b:Str}{H:Hp}{Q:VK}(h:Q (.bl (!decide (a=b))) H):m3 (.str a) (.str b) H Q:=⟨rfl,by rw[je];exact h⟩
def fG{α β:Type}{F:α->β->Prop}{cs:List α}{ts:List β}(h:Paired F cs ts):∀{i:Nat} {c:α},cs[i]?=some c->∃t,ts[i]?=some t/\F c t:=by
 induction h with
 | nil=>intro i c e;simp at e
 | cons h t ih=>
  intro i c e;cases i with
  | zero=>cases e;exact⟨_,rfl,h⟩
  | succ i=>exact ih e
def Ek{α β:Type}{F:α->β->Prop}{cs:List α}{ts:List β}(h:Paired F cs ts):∀{i:Nat} {t:β},ts[i]?=some t->∃c,cs[i]?=some c/\F c t:=by
 induction h with
 | nil=>intro i c e;simp at e
 | cons h t ih=>
  intro i c e;cases i with
  | zero=>cases e;exact⟨_,rfl,h⟩
  | succ i=>exact ih e
abbrev aA(H:Hp)(a:Addr)(x:Bfs.Pl):Prop:=H a=some (.tup [.int x.1,.int x.2])
abbrev aT(x:Bfs.Pl):List Key:=[.inl x.1,.inl x.2]
def xr{x y:Bfs.Pl}(h:aT x=aT y):x=y:=by simp only[aT,List.cons.injEq,Sum.inl.injEq,and_true]at h;exact Prod.ext h.1 h.2
def aA.put{H:Hp}{f a:Addr}{x:Bfs.Pl}{o o':HO}(hf:H f=some o)(hn:∀xs,o≠.tup xs)(h:aA H a x):aA (upd H f o') a x:=by show upd H f o' a=_;rw[ay (bO h hf (λz=>hn _ z.symm))];exact h
def fM(m:Int)(x:Bfs.Pl):Prop:=0<=x.1/\x.1<m/\0<=x.2/\x.2<=1000
def va(K:EG):Sp:=λvs H Q _=>∃hp hq m l as xs,vs=[.ref hp,.ref l]/\H hp=some (.tup [.int m,hq])/\H l=some (.lst (List.map V.ref as))/\Paired (aA H) as xs/\(∀x∈xs,fM m x)/\Q .non H
abbrev m7:Stmt:=stq 22
def rm:FnScope ["house","places","place"] ["house","places"] (aM m7):=⟨rfl,rfl,rfl,by decide +kernel,rfl,by decide +kernel,by decide +kernel⟩
def Bq{P:Program}{w:World}{K:EG}{mg:Str->Option Value}{base:Heap}(D:Dfn K mg "refuse_bad_places" m7 ["house","places"])(T:Blt mg)(g_GREATEST_NUMBER:∃t,mg "GREATEST_NUMBER" = some (.int 1000 t))(C_is_room:Cal P w K mg base "is_room" 2 ["thing","many"] (o7 K)):Cal P w K mg base "refuse_bad_places" 3 ["house","places"] (va K):=by
 have nd:=(rm).nd;refine D.ok rm (λvs H Q E h=>?_) (λX hX H vs Q E h=>?_)
 ·obtain⟨hp,hq,m,l,as,xs,rfl,_⟩:=h;rfl
 ·obtain⟨f,cdv,A,outer,s,H0,E0,rfl,hr⟩:=hX;obtain⟨t_GREATEST_NUMBER,c_GREATEST_NUMBER⟩:=g_GREATEST_NUMBER;obtain⟨hp,hq,m,l,as,xs,rfl,h1,h2,h3,hin,q⟩:=h;refine⟨_,(aj (bH PassesOwn.never rfl (cK K (pv 1)) (aK (i:=2) nd rfl (Or.inl rfl)) (ao (bU (PW.pt (eC (dm (bQ (aH C_is_room hr (aa (ah (aC K) (pv 2) af (λ_ _=>rfl)) (aa (ah (aC K) (pv 0) af (λ_ _=>rfl)) ae))))) (eY (aS fB (ah (aC K) (pv 2) af (λ_ _=>rfl)) af (aQ _))))) (ao mO) aY)))
    (ao (bH PassesOwn.never rfl (cK K (pv 1)) (aK (i:=2) nd rfl (Or.inl rfl)) (ao (bU (aS fS (ah (aC K) (pv 2) af (λ_ _=>rfl)) (mz (v:=.int 1000) rfl c_GREATEST_NUMBER ⟨_,rfl⟩) (aQ _)) (ao mO) aY))))),?_⟩
  walk_at"";refine cH (ag.of h2) ?_;refine forL (xs:=List.map V.ref as) (λi σ H'=>H'=H/\∃k,σ=[some (.ref hp),some (.ref l),k]) ⟨rfl,none,rfl⟩ (λi σ H' _ h=>by rw[h.1];exact ag.of h2) ?_ ?_
  ·rintro i x σ H' hx ⟨rfl,k,rfl⟩;rw[EM]at hx;obtain⟨b,hb,rfl⟩:=EX.mp hx;obtain⟨t,ht,hp3⟩:=fG h3 hb;obtain⟨r0,r1,n0,n1⟩:=hin t (EV ht);walk_at"";refine aB (ai.of hp3) (v:=.int t.1) rfl ?_;walk_at"";refine aB (ai.of h1) (v:=.int m) rfl ?_;walk_at"";refine⟨_,_,rfl,r0,r1,?_⟩;walk_at"";refine az ?_;walk_at"";refine aB (ai.of hp3) (v:=.int t.2) rfl ?_;walk_at"";rw[FF (show ¬t.2<0 by omega)];refine az ?_;walk_at"";exact⟨rfl,_,rfl⟩
  ·rintro σ H' ⟨rfl,k,rfl⟩;walk_at"";refine cH (ag.of h2) ?_;refine forL (xs:=List.map V.ref as) (λi σ H2=>H2=H'/\∃k,σ=[some (.ref hp),some (.ref l),k]) ⟨rfl,_,rfl⟩ (λi σ H2 _ h=>by rw[h.1];exact ag.of h2) ?_ ?_
   ·rintro i x σ H2 hx ⟨rfl,k,rfl⟩;rw[EM]at hx;obtain⟨b,hb,rfl⟩:=EX.mp hx;obtain⟨t,ht,hp3⟩:=fG h3 hb;obtain⟨r0,r1,n0,n1⟩:=hin t (EV ht);walk_at"";refine aB (ai.of hp3) (v:=.int t.2) rfl ?_;walk_at"";rw[FF (show ¬(1000:Int)<t.2 by omega)];refine az ?_;walk_at"";exact⟨rfl,_,rfl⟩
   ·rintro σ H2 ⟨rfl,k,rfl⟩;walk_at"";exact q
def cR(w:Way)(r n:Int):Bool:=decide (w.room=r) && (if decide (w.deed = "down")=true then decide (0<n)else(!decide (w.deed = "zero") || decide (n=0)))
def vx(K:EG):Sp:=λvs H Q _=>∃b w p x,vs=[.ref b,.ref p]/\H b=some (.tup (Way.vs w))/\aA H p x/\Q (.bl (cR w x.1 x.2)) H
abbrev nU:Stmt:=stq 23
def tM:FnScope ["way","place"] ["way","place"] (aM nU):=⟨rfl,rfl,rfl,by decide +kernel,rfl,by decide +kernel,by decide +kernel⟩
def DR{P:Program}{w:World}{K:EG}{mg:Str->Option Value}{base:Heap}(D:Dfn K mg "is_open" nU ["way","place"])(T:Blt mg):Cal P w K mg base "is_open" 1 ["way","place"] (vx K):=by
 have nd:=(tM).nd;refine D.ok tM (λvs H Q E h=>?_) (λX hX H vs Q E h=>?_)
 ·obtain⟨b,w,p,x,rfl,_⟩:=h;rfl
 ·obtain⟨f,cdv,A,outer,s,H0,E0,rfl,hr⟩:=hX;obtain⟨b,w,p,⟨r,n⟩,rfl,h1,h2,q⟩:=h;refine⟨_,(aj (bU (aS hZ (ah (aC K) (pv 0) af (λ_ _=>rfl)) (ah (aC K) (pv 1) af (λ_ _=>rfl)) (aQ _)) (ao (aL bX)) aY)
    (aj (bU (aS bG (ah (aC K) (pv 0) af (λ_ _=>rfl)) aR (aQ _)) (ao (aL (eW fS (ah (aC K) (pv 1) af (λ_ _=>rfl)) af (aQ _)))) aY)
    (ao (aL (qY (eW hZ (ah (aC K) (pv 0) af (λ_ _=>rfl)) aR (aQ _)) (eJ (eW bG (ah (aC K) (pv 1) af (λ_ _=>rfl)) af (aQ _)))))))),?_⟩
  walk_at"";refine aB (ai.of h1) (v:=.int w.room) rfl ?_;walk_at"";refine aB (ai.of h2) (v:=.int r) rfl ?_;walk_at"";unfold cR at q;dsimp only at q;by_cases e:w.room=r
  ·rw[FG e];refine az ?_;walk_at"";rw[FG e,Bool.true_and]at q;refine aB (ai.of h1) (v:=.str w.deed) rfl ?_;walk_at"";refine cz ?_;refine rd_exb ?_;cases ed:decide (w.deed = "down")with
   | true=>
    rw[ed]at q;refine aD ?_;walk_at"";refine aB (ai.of h2) (v:=.int n) rfl ?_;walk_at"";exact q
   | false=>
    rw[ed]at q;refine az ?_;walk_at"";refine aB (ai.of h1) (v:=.str w.deed) rfl ?_;walk_at"";refine uB ?_;refine rd_exb ?_;cases ez:decide (w.deed = "zero")with
    | true=>
     rw[ez]at q;refine az ?_;walk_at"";refine aB (ai.of h2) (v:=.int n) rfl ?_;walk_at"";exact q
    | false=>
     rw[ez]at q;exact aD q
  ·rw[FF e];refine aD ?_;walk_at"";rw[FF e,Bool.false_and]at q;exact q
def pf:List (Key×V):=[(.inr "up",.int 1),(.inr "down",.int (-1)),(.inr "stay",.int 0),(.inr "zero",.int 0)]
def yh{w:World}{K:EG}{a:Addr}{t1 t2 t3 t4 t5 t6 t7 t8:Tok}{ep:Nat}(h:K.lookup a=some (iW w [("up",t1,.int 1 t2),("down",t3,.int (-1) t4),("stay",t5,.int 0 t6),("zero",t7,.int 0 t8)] ep))(hs:(a == sysModules)=false):GDict w K a pf:=
 ⟨⟨_,_,h,.cons ⟨rfl,⟨_,rfl⟩⟩ (.cons ⟨rfl,⟨_,rfl⟩⟩ (.cons ⟨rfl,⟨_,rfl⟩⟩ (.cons ⟨rfl,⟨_,rfl⟩⟩ .nil)))⟩,by decide +kernel,hs⟩
def rz(z:Str):Int:=if z = "up" then 1 else if z = "down" then -1 else 0
def zP{z:Str}(h:bZ z):aW pf (.inr z)=some (.int (rz z)):=by rcases h with rfl|rfl|rfl|rfl<;>decide +kernel
def u5(K:EG):Sp:=λvs H Q _=>∃b w,vs=[.ref b]/\H b=some (.tup (Way.vs w))/\bZ w.deed/\Q (.int (rz w.deed)) H
abbrev oX:Stmt:=stq 24
def vp:FnScope ["way"] ["way"] (aM oX):=⟨rfl,rfl,rfl,by decide +kernel,rfl,by decide +kernel,by decide +kernel⟩
def Bp{P:Program}{w:World}{K:EG}{mg:Str->Option Value}{base:Heap}(D:Dfn K mg "raised_by" oX ["way"])(T:Blt mg)(g_RAISED:∃a,mg "RAISED" = some (.ref a)/\GDict w K a pf):Cal P w K mg base "raised_by" 1 ["way"] (u5 K):=by
 have nd:=(vp).nd;refine D.ok vp (λvs H Q E h=>?_) (λX hX H vs Q E h=>?_)
 ·obtain⟨b,w,rfl,_⟩:=h;rfl
 ·obtain⟨f,cdv,A,outer,s,H0,E0,rfl,hr⟩:=hX;obtain⟨a_RAISED,m_RAISED,d_RAISED⟩:=g_RAISED;obtain⟨b,w,rfl,h1,hd,q⟩:=h;refine⟨_,(ao (aL (BJ rfl m_RAISED d_RAISED (ah (aC K) (pv 0) af (λ_ _=>rfl)) (λ_ _=>rfl)))),?_⟩;walk_at"";refine aB (ai.of h1) (v:=.str w.deed) rfl ?_;exact Ac (zP hd) q
def rg(z:Str):-1<=rz z:=by
 unfold rz;split
 ·decide
 ·split<;>decide
def sR(z:Str):rz z<=1:=by
 unfold rz;split
 ·decide
 ·split<;>decide
def rJ(K:EG):Sp:=λvs H Q _=>∃b w p x,vs=[.ref b,.ref p]/\H b=some (.tup (Way.vs w))/\bZ w.deed/\aA H p x/\∀t H',Ext H H'->aA H' t (w.other,x.2+rz w.deed)->H t=none->Q (.ref t) H'
abbrev oY:Stmt:=stq 25
def qo:FnScope ["way","place"] ["way","place"] (aM oY):=⟨rfl,rfl,rfl,by decide +kernel,rfl,by decide +kernel,by decide +kernel⟩
def xM{P:Program}{w:World}{K:EG}{mg:Str->Option Value}{base:Heap}(D:Dfn K mg "led_to" oY ["way","place"])(T:Blt mg)(C_raised_by:Cal P w K mg base "raised_by" 1 ["way"] (u5 K)):Cal P w K mg base "led_to" 2 ["way","place"] (rJ K):=by
 have nd:=(qo).nd;refine D.ok qo (λvs H Q E h=>?_) (λX hX H vs Q E h=>?_)
 ·obtain⟨b,w,p,x,rfl,_⟩:=h;rfl
 ·obtain⟨f,cdv,A,outer,s,H0,E0,rfl,hr⟩:=hX;obtain⟨b,w,p,⟨r,n⟩,rfl,h1,hd,h2,q⟩:=h;refine⟨_,(ao (aL (bj (aa (ah (aC K) (pv 0) af (λ_ _=>rfl)) (aa (aq aU (ah (aC K) (pv 1) af (λ_ _=>rfl)) (aH C_raised_by hr (aa (pv 0) ae))) ae))))),?_⟩;walk_at"";refine aB (ai.of h1) (v:=.int w.other) rfl ?_;walk_at"";refine aB (ai.of h2) (v:=.int n) rfl ?_;walk_at"";refine⟨b,w,rfl,h1,hd,?_⟩;walk_at"";refine aJ λt H1 e1 ht htn=>?_;exact q t H1 e1 ht htn
def AO{K:EG}{a:Addr}{xs:List V}{g:TG}{tb:TS}{D:Ends}{σ:St}{H:Hp}(Pv:Nat->St->Hp->Prop)(h0:Pv 0 σ H)(hl:∀i σ H,i<=xs.length->Pv i σ H->ai K H a xs)
  (hs:∀i u σ H p H',xs[i]?=some u->Pv i σ H->Ext H H'->H' p=some (.tup [.int i,u])->H p=none->g (.ref p) σ H' λσ2 H2=>tb { D with nx:=Pv (i+1),ct:=Pv (i+1),bk:=D.nx } σ2 H2) (hd:∀σ H,Pv xs.length σ H->D.nx σ H) :
  iG (il K a) g tb D σ H:=BD Pv h0 hl hs hd
def stp(z:Str)(n:Int):Option Int:=
 if decide (z = "up")=true then some (n+1)else if decide (z = "down")=true then(if decide (0<n)=true then some (n-1)else none)else if decide (z = "stay")=true then some n else if decide (z = "zero")=true then(if decide (n=0)=true then some n else none)else none
def dX(w:Way)(r n:Int)(j:Nat):List (Int×Int×Int):=if decide (w.room=r)=true then((stp w.deed n).map λn'=>((j:Int),w.other,n')).toList else[]
def dG(ws:List Way)(r n:Int):Nat->List (Int×Int×Int)
 | 0=>[]
 | k+1=>dG ws r n k++((ws[k]?).map λw=>dX w r n k).getD []
def zH{ws:List Way}{r n:Int}{i:Nat}{w:Way}(h:ws[i]?=some w):dG ws r n (i+1)=dG ws r n i++dX w r n i:=by show _++((ws[i]?).map λw=>dX w r n i).getD []=_;rw[h];rfl
def za(w:Way)(r n:Int)(j:Nat):(dX w r n j).length<=1:=by
 unfold dX;split
 ·cases stp w.deed n<;>simp
 ·simp
def xy(ws:List Way)(r n:Int):∀k,(dG ws r n k).length<=k
 | 0=>E6 _
 | k+1=>by
  have:=xy ws r n k;show(dG ws r n k++((ws[k]?).map λw=>dX w r n k).getD []).length<=k+1;rw[E4];cases h:ws[k]? with
  | none=>simp;omega
  | some w=>
   have:=za w r n k;simp;omega
def rV{w:Way}{r n:Int}{j:Nat}(h:w.room≠r):dX w r n j=[]:=by unfold dX;rw[FF h];rfl
def fH{w:Way}{r n:Int}{j:Nat}{o:Option Int}(h:w.room=r)(hs:stp w.deed n=o):dX w r n j=(o.map λn'=>((j:Int),w.other,n')).toList:=by unfold dX;rw[FG h,hs];rfl
def cV(H:Hp)(c:Addr)(t:Int×Int×Int):Prop:=∃d,H c=some (.tup [.int t.1,.ref d])/\H d=some (.tup [.int t.2.1,.int t.2.2])
def xp{H H':Hp}(f:∀c t,cV H c t->cV H' c t){cs:List Addr}{ts:List (Int×Int×Int)}(h:Paired (cV H) cs ts):Paired (cV H') cs ts:=by
 induction h with
 | nil=>exact .nil
 | cons h t ih=>exact .cons (f _ _ h) ih
def BU{H:Hp}{cs:List Addr}{ts:List (Int×Int×Int)}{c:Addr}{t:Int×Int×Int}(h:Paired (cV H) cs ts)(ht:cV H c t):Paired (cV H) (cs++[c]) (ts++[t]):=by
 induction h with
 | nil=>exact .cons ht .nil
 | cons h _ ih=>exact .cons h ih
def cV.ext{H H':Hp}(e:Ext H H'){c:Addr}{t:Int×Int×Int}(h:cV H c t):cV H' c t:=by obtain⟨d,h1,h2⟩:=h;exact⟨d,e _ _ h1,e _ _ h2⟩
def cV.put{H:Hp}{f:Addr}{xs ys:List V}(hf:H f=some (.lst xs)){c:Addr}{t:Int×Int×Int}(h:cV H c t):cV (upd H f (.lst ys)) c t:=by obtain⟨d,h1,h2⟩:=h;exact⟨d,by rw[ay (bO h1 hf (by intro z;cases z))];exact h1,by rw[ay (bO h2 hf (by intro z;cases z))];exact h2⟩
structure BL(H0 H:Hp)(f:Addr)(ts:List (Int×Int×Int)):Prop where
 ext:Ext H0 H
 at_:∃cs:List Addr,H f=some (.lst (cs.map V.ref))/\Paired (cV H) cs ts
def BL.push{H0 H H1:Hp}{f c d:Addr}{ts:List (Int×Int×Int)}{j o n:Int}(h:BL H0 H f ts)(hfn:H0 f=none)(e:Ext H H1)(hd:H1 d=some (.tup [.int o,.int n]))(hc:H1 c=some (.tup [.int j,.ref d])):
  ∃xs,H1 f=some (.lst xs)/\xs.length=ts.length/\BL H0 (upd H1 f (.lst (xs++[.ref c]))) f (ts++[(j,o,n)]):=by
 obtain⟨e0,cs,hf,al⟩:=h;have hf1:=e _ _ hf;have hp:cV H1 c (j,o,n):=⟨d,hc,hd⟩;refine⟨cs.map V.ref,hf1,by rw[EK];exact Paired.length al,bK (e0.trans e) hfn,cs++[c],by rw[aE,E3];rfl,BU (xp (λ_ _ z=>(z.ext e).put hf1) al) (hp.put hf1)⟩
def BL.ty{K:EG}{H0 H H1:Hp}{f:Addr}{ts:List (Int×Int×Int)}(h:BL H0 H f ts)(e:Ext H H1):gJ K "list" (.ref f) H1:=by obtain⟨_,cs,hf,al⟩:=h;exact cB (ag.of (e _ _ hf))
def BL.step{H0 H H1:Hp}{f:Addr}{ts:List (Int×Int×Int)}(h:BL H0 H f ts)(e:Ext H H1):BL H0 H1 f ts:=by obtain⟨e0,cs,hf,al⟩:=h;exact⟨e0.trans e,cs,e _ _ hf,xp (λ_ _ z=>z.ext e) al⟩
def xf:decide ((Fp "up")=Fp "down")=false:=by decide +kernel
def zJ:decide ((Fp "up")=Fp "stay")=false:=by decide +kernel
def uo:decide ((Fp "up")=Fp "zero")=false:=by decide +kernel
def rP:decide ((Fp "down")=Fp "up")=false:=by decide +kernel
def vQ:decide ((Fp "down")=Fp "stay")=false:=by decide +kernel
def rY:decide ((Fp "down")=Fp "zero")=false:=by decide +kernel
def qG:decide ((Fp "stay")=Fp "up")=false:=by decide +kernel
def o5:decide ((Fp "stay")=Fp "down")=false:=by decide +kernel
def uY:decide ((Fp "zero")=Fp "up")=false:=by decide +kernel
def mx:decide ((Fp "zero")=Fp "down")=false:=by decide +kernel
def sH:decide ((Fp "zero")=Fp "stay")=false:=by decide +kernel
def fm(z:Str):decide (z=z)=true:=FG rfl
def jr(n:Int):stp "up" n=some (n+1):=by unfold stp;rw[fm];rfl
def hV(n:Int):stp "down" n=if decide (0<n)=true then some (n-1)else none:=by unfold stp;rw[rP,fm];rfl
def jv(n:Int):stp "stay" n=some n:=by unfold stp;rw[qG,o5,fm];rfl
def hJ(n:Int):stp "zero" n=if decide (n=0)=true then some n else none:=by unfold stp;rw[uY,mx,sH,fm];rfl
def pX(K:EG):Sp:=λvs H Q _=>∃v m ws p r n,vs=[v,.ref p]/\bw H v m ws/\HOuse m ws/\H p=some (.tup [.int r,.int n]) ∧
 ∀l H' cs,Ext H H'->H l=none->H' l=some (.lst (List.map V.ref cs))->Paired (cV H') cs (dG ws r n ws.length)->Q (.ref l) H'
abbrev mZ:Stmt:=stq 58
def vf:FnScope ["_law_house_here","_law_place_here","_law_found","_law_k","_law_room","_law_deed","_law_other","_law_sign"] ["_law_house_here","_law_place_here"] (aM mZ):=⟨rfl,rfl,rfl,by decide +kernel,rfl,by decide +kernel,by decide +kernel⟩
def Ef{P:Program}{w:World}{K:EG}{mg:Str->Option Value}{base:Heap}(D:Dfn K mg "_law_behind" mZ ["_law_house_here","_law_place_here"])(T:Blt mg):Cal P w K mg base "_law_behind" 1 ["_law_house_here","_law_place_here"] (pX K):=by
 have nd:=(vf).nd;refine D.ok vf (λvs H Q E h=>?_) (λX hX H vs Q E h=>?_)
 ·obtain⟨v,m,ws,p,r,n,rfl,_⟩:=h;rfl
 ·obtain⟨f,cdv,A,outer,s,H0,E0,rfl,hr⟩:=hX;obtain⟨v,m,ws,p,r,n,rfl,⟨hh,t,rfl,g1,g2⟩,ok,hp,q⟩:=h;obtain⟨bs,g3,al⟩:=b0.al g2;have hfew:=ok.few;refine⟨_,(aj (aG (i:=2) nd rfl (Or.inl rfl) (bq ae))
    (aj (bH PassesOwn.never rfl (AA K rfl T.enumerate_ (aa (ah (aC K) (pv 0) af (λ_ _=>rfl)) ae)) (gm (n:=2) K rfl (b6 (aK (i:=3) nd rfl (Or.inl rfl)) (b6 (gm (n:=4) K rfl (b6 (aK (i:=4) nd rfl (Or.inl rfl)) (b6 (aK (i:=5) nd rfl (Or.inl rfl)) (b6 (aK (i:=6) nd rfl (Or.inl rfl)) (b6 (aK (i:=7) nd rfl (Or.inl rfl)) fU))))) fU))) (ao (cq (aS bG (pv 4) (ah (aC K) (pv 1) af (λ_ _=>rfl)) (aQ _)) (aj (cq (aS bG (pv 5) aR (aQ _)) (ao (bt (bE K ET E7 E8 bL (pv 2) (aa (bj (aa (pv 3) (aa (bj (aa (pv 6) (aa (aq aU (ah (aC K) (pv 1) af (λ_ _=>rfl)) af) ae))) ae))) ae)))) aY)
    (aj (cq (PW.pt (fV (aS bG (pv 5) aR (aQ _)) (fL (aS fS (ah (aC K) (pv 1) af (λ_ _=>rfl)) af (aQ _))))) (ao (bt (bE K ET E7 E8 bL (pv 2) (aa (bj (aa (pv 3) (aa (bj (aa (pv 6) (aa (aq cG (ah (aC K) (pv 1) af (λ_ _=>rfl)) af) ae))) ae))) ae)))) aY)
    (ao (cq (PW.pt (eC (aS bG (pv 5) aR (aQ _)) (eY (PW.pt (fV (aS bG (pv 5) aR (aQ _)) (fL (aS bG (ah (aC K) (pv 1) af (λ_ _=>rfl)) af (aQ _)))))))) (ao (bt (bE K ET E7 E8 bL (pv 2) (aa (bj (aa (pv 3) (aa (bj (aa (pv 6) (aa (ah (aC K) (pv 1) af (λ_ _=>rfl)) ae))) ae))) ae)))) aY)))) aY)))
    (ao (aL (pv 2))))),?_⟩
  walk_at"";refine aJ λf H1 e1 hf hfn=>?_;walk_at"";refine aB (ai.of (e1 _ _ g1)) (v:=.ref t) rfl ?_;walk_at"";refine A7 (ai.of (e1 _ _ g3)) ?_;refine AO (xs:=bs.map V.ref) (λi σ H'=>∃k1 k2 k3 k4 k5,σ=[some (.ref hh),some (.ref p),some (.ref f),k1,k2,k3,k4,k5]/\BL H H' f (dG ws r n i)) ⟨none,none,none,none,none,rfl,e1,[],hf,.nil⟩ (λi σ H' _ h=>by obtain⟨_,_,_,_,_,_,bl⟩:=h;exact ai.of (bl.ext _ _ g3)) ?_ ?_
  ·rintro i u σ H2 pp H3 hu ⟨k1,k2,k3,k4,k5,rfl,bl0⟩ e3 hpp _;rw[EM]at hu;obtain⟨b,hb,rfl⟩:=EX.mp hu;have hi:i<ws.length:=by rw[←al.1];exact(EU.mp hb).1
   have hwi:ws[i]?=some ws[i]:=EL hi;have bl:=bl0.step e3;have hw:=bl.ext _ _ (al.2 i b _ hb hwi);have hp3:=bl.ext _ _ hp;have okw:=(ok.ok _ (Fd hi)).dd;rw[zH hwi];have hlen:=xy ws r n i;generalize dG ws r n i=ts at bl hlen;clear bl0 hwi;generalize ws[i]=w at hw okw ⊢;obtain⟨room,deed,other,sign⟩:=w;refine gN (ai.of hpp) rfl ?_;walk_at"";refine gN (ai.of hw) rfl ?_;walk_at"";refine bT ?_;walk_at"";refine aB (ai.of hp3) (v:=.int r) rfl ?_;walk_at"";by_cases er:room=r
   rotate_left
   ·rw[FF er];refine az ?_;walk_at"";refine⟨_,_,_,_,_,rfl,?_⟩;rw[rV er,List.append_nil];exact bl
   ·rw[FG er];refine aD ?_;rcases okw with e|e|e|e<;>(simp only at e;subst e)
    ·rw[fH er (jr n)];walk_at"";refine bT ?_;walk_at"";refine cz ?_;rw[fm];refine rd_exb (aD ?_);walk_at"";refine⟨bl.ty (Ext.rfl' _),?_⟩;walk_at"";refine aB (ai.of hp3) (v:=.int n) rfl ?_;walk_at"";refine aJ λd H4 e4 hd _=>?_;walk_at"";refine aJ λc H5 e5 hc _=>?_;walk_at"";obtain⟨xs,hx,hlx,bl'⟩:=bl.push hfn (e4.trans e5) (e5 _ _ hd) hc;refine bJ hx (dC (by omega)) ?_;generalize upd H5 f _=H6 at bl' ⊢;walk_at"";refine bT ?_;walk_at"";refine cz ?_;rw[xf];refine rd_exb (az ?_);refine az ?_;walk_at"";refine bT ?_;walk_at"";refine cz ?_;rw[zJ];refine rd_exb (az ?_);walk_at"";refine cz ?_;rw[uo];refine rd_exb (az ?_);refine az ?_;walk_at"";exact⟨_,_,_,_,_,rfl,bl'⟩
    ·walk_at"";refine bT ?_;walk_at"";refine cz ?_;rw[rP];refine rd_exb (az ?_);walk_at"";refine bT ?_;walk_at"";refine cz ?_;rw[fm];refine rd_exb (aD ?_);walk_at"";refine aB (ai.of hp3) (v:=.int n) rfl ?_;walk_at"";by_cases hn:0<n
     ·rw[FG hn];refine aD ?_;walk_at"";refine⟨bl.ty (Ext.rfl' _),?_⟩;walk_at"";refine aB (ai.of hp3) (v:=.int n) rfl ?_;walk_at"";refine aJ λd H4 e4 hd _=>?_;walk_at"";refine aJ λc H5 e5 hc _=>?_;walk_at"";obtain⟨xs,hx,hlx,bl'⟩:=bl.push hfn (e4.trans e5) (e5 _ _ hd) hc;refine bJ hx (dC (by omega)) ?_;generalize upd H5 f _=H6 at bl' ⊢;walk_at"";refine bT ?_;walk_at"";refine cz ?_;rw[vQ];refine rd_exb (az ?_);walk_at"";refine cz ?_;rw[rY];refine rd_exb (az ?_);refine az ?_;walk_at"";refine⟨_,_,_,_,_,rfl,?_⟩;rw[fH er (hV n),FG hn];exact bl'
     ·rw[FF hn];refine az ?_;walk_at"";refine bT ?_;walk_at"";refine cz ?_;rw[vQ];refine rd_exb (az ?_);walk_at"";refine cz ?_;rw[rY];refine rd_exb (az ?_);refine az ?_;walk_at"";refine⟨_,_,_,_,_,rfl,?_⟩;rw[fH er (hV n),FF hn];simpa using bl
    ·walk_at"";refine bT ?_;walk_at"";refine cz ?_;rw[qG];refine rd_exb (az ?_);walk_at"";refine bT ?_;walk_at"";refine cz ?_;rw[o5];refine rd_exb (az ?_);refine az ?_;walk_at"";refine bT ?_;walk_at"";refine cz ?_;rw[fm];refine rd_exb (aD ?_);refine aD ?_;walk_at"";refine⟨bl.ty (Ext.rfl' _),?_⟩;walk_at"";refine aB (ai.of hp3) (v:=.int n) rfl ?_;walk_at"";refine aJ λd H4 e4 hd _=>?_;walk_at"";refine aJ λc H5 e5 hc _=>?_;walk_at"";obtain⟨xs,hx,hlx,bl'⟩:=bl.push hfn (e4.trans e5) (e5 _ _ hd) hc;refine bJ hx (dC (by omega)) ?_;generalize upd H5 f _=H6 at bl' ⊢;walk_at"";refine⟨_,_,_,_,_,rfl,?_⟩;rw[fH er (jv n)];exact bl'
    ·walk_at"";refine bT ?_;walk_at"";refine cz ?_;rw[uY];refine rd_exb (az ?_);walk_at"";refine bT ?_;walk_at"";refine cz ?_;rw[mx];refine rd_exb (az ?_);refine az ?_;walk_at"";refine bT ?_;walk_at"";refine cz ?_;rw[sH];refine rd_exb (az ?_);walk_at"";refine cz ?_;rw[fm];refine rd_exb (aD ?_);walk_at"";refine aB (ai.of hp3) (v:=.int n) rfl ?_;walk_at"";by_cases hn:n=0
     ·rw[FG hn];refine aD ?_;walk_at"";refine⟨bl.ty (Ext.rfl' _),?_⟩;walk_at"";refine aB (ai.of hp3) (v:=.int n) rfl ?_;walk_at"";refine aJ λd H4 e4 hd _=>?_;walk_at"";refine aJ λc H5 e5 hc _=>?_;walk_at"";obtain⟨xs,hx,hlx,bl'⟩:=bl.push hfn (e4.trans e5) (e5 _ _ hd) hc;refine bJ hx (dC (by omega)) ?_;generalize upd H5 f _=H6 at bl' ⊢;walk_at"";refine⟨_,_,_,_,_,rfl,?_⟩;rw[fH er (hJ n),FG hn];exact bl'
     ·rw[FF hn];refine az ?_;walk_at"";refine⟨_,_,_,_,_,rfl,?_⟩;rw[fH er (hJ n),FF hn];simpa using bl
  ·rintro σ H' ⟨k1,k2,k3,k4,k5,rfl,bl⟩;rw[EK,al.1]at bl;obtain⟨ew,cs,hcs,hpd⟩:=bl;walk_at"";exact q f H' cs ew hfn hcs hpd
def cM(ws:List Way)(T:Int)(x:Bfs.Pl)(k:Nat):Option Bfs.Pl:=
 (ws[k]?).bind λw=>if w.room=x.1 then(stp w.deed x.2).bind λn=>if n<=T then some (w.other,n)else none else none
def g7:rz "up" = 1:=by decide +kernel
def iU:rz "down" = -1:=by decide +kernel
def iV:rz "stay" = 0:=by decide +kernel
def pO:rz "zero" = 0:=by decide +kernel
def zN{z:Str}{n n':Int}(hz:bZ z)(h:stp z n=some n'):n'=n+rz z:=by
 rcases hz with e|e|e|e<;>rw[e]at h ⊢
 ·rw[jr]at h;rw[g7];cases h;rfl
 ·rw[hV]at h;rw[iU];split at h
  ·cases h;omega
  ·cases h
 ·rw[jv]at h;rw[iV];cases h;omega
 ·rw[hJ]at h;rw[pO];split at h
  ·cases h;omega
  ·cases h
def xH{w:Way}(hz:bZ w.deed)(x:Bfs.Pl):cR w x.1 x.2=true↔w.room=x.1/\stp w.deed x.2=some (x.2+rz w.deed):=by
 unfold cR;rcases hz with e|e|e|e<;>rw[e]
 ·rw[xf,uo,jr,g7];simp
 ·rw[fm,hV,iU];by_cases h:0<x.2
  ·rw[FG h];simp[Int.sub_eq_add_neg]
  ·rw[FF h];simp
 ·rw[o5,FF (show ¬(Fp "stay")=Fp "zero" by decide +kernel),jv,iV];simp
 ·rw[mx,fm,hJ,pO];by_cases h:x.2=0
  ·rw[FG h];simp
  ·rw[FF h];simp
def mT{ws:List Way}{T:Int}{x y:Bfs.Pl}{k:Nat}(h:cM ws T x k=some y):∃w,ws[k]?=some w/\w.room=x.1/\stp w.deed x.2=some y.2/\y.1=w.other/\y.2<=T:=by
 unfold cM at h;obtain⟨w,hw,h⟩:=Option.bind_eq_some_iff.mp h;split at h
 ·rename_i hr;obtain⟨n,hn,h⟩:=Option.bind_eq_some_iff.mp h;split at h
  ·rename_i ht;cases h;exact⟨w,hw,hr,hn,rfl,ht⟩
  ·cases h
 ·cases h
def tQ{z:Str}{n n':Int}(hz:bZ z)(h0:0<=n)(h:stp z n=some n'):0<=n':=by
 rcases hz with e|e|e|e<;>rw[e]at h
 ·rw[jr]at h;cases h;omega
 ·rw[hV]at h;split at h
  ·rename_i g;have:=of_decide_eq_true g;cases h;omega
  ·cases h
 ·rw[jv]at h;cases h;exact h0
 ·rw[hJ]at h;split at h
  ·cases h;exact h0
  ·cases h
section
variable {β:Type} {F:List Key×V->β->Prop} {key:β->Bfs.Pl} {kvs:List (List Key×V)} {q:List β}
def iZ(hF:∀kv e,F kv e->kv.1=aT (key e))(h:Paired F kvs q){x:Bfs.Pl}(hx:x∉q.map key):aW kvs (aT x)=none:=by
 induction h with
 | nil=>rfl
 | @cons a b as bs h t ih=>
  rw[List.map_cons,E1,not_or]at hx;rw[dJ (λz=>hx.1 (xr (z.symm.trans (hF _ _ h))))];exact ih hx.2
def jG(hF:∀kv e,F kv e->kv.1=aT (key e))(h:Paired F kvs q)(nd:(q.map key).Nodup){e:β}(he:e∈q):∃v,aW kvs (aT (key e))=some v/\F (aT (key e),v) e:=by
 induction h with
 | nil=>cases he
 | @cons a b as bs h t ih=>
  rw[List.map_cons,List.nodup_cons]at nd;rcases E1.mp he with z|z
  ·subst z;have e1:=hF _ _ h;refine⟨a.2,dY e1,?_⟩;rw[←e1];exact h
  ·obtain⟨v,h1,h2⟩:=ih nd.2 z;refine⟨v,?_,h2⟩;rw[dJ (λw=>nd.1 ?_)]
   ·exact h1
   ·rw[xr ((hF _ _ h).symm.trans w)];exact List.mem_map.mpr ⟨e,z,rfl⟩
end
def bC(m T:Int)(x:Bfs.Pl):Prop:=0<=x.1/\x.1<m/\0<=x.2/\x.2<=T
def bC.few{m T:Int}{l:List Bfs.Pl}(hm:m<=12)(hT:T<=2000)(hn:l.Nodup)(h:∀x∈l,bC m T x):l.length<=24012:=
 Bfs.Ew hT hn λx hx=>by obtain⟨a,b,c,d⟩:=h x hx;exact⟨a,by omega,c,d⟩
def CA{m T:Int}{ws:List Way}(ok:HOuse m ws){x y:Bfs.Pl}{k:Nat}(hx:0<=x.2)(h:cM ws T x k=some y):bC m T y:=by obtain⟨w,hw,hr,hs,ho,ht⟩:=mT h;have okw:=ok.ok w (EV hw);exact⟨by rw[ho];exact okw.o0,by rw[ho];exact okw.o1,tQ okw.dd hx hs,ht⟩
def jS(m:Int)(x g:Bfs.Pl):Int:=(if g.2>x.2 then g.2 else x.2)+m*m
def dO{n:Nat}(h:n<=24100):n<sizeLine:=Nat.lt_of_le_of_lt h (by decide)
def aO(n:Nat)(f:Nat->Bool):List V:=(FE n).map λi=>V.bl (f i)
def cL(n:Nat)(f:Nat->Bool):(aO n f).length=n:=by simp[aO]
def fE{n i:Nat}(f:Nat->Bool)(h:i<n):(aO n f)[i]?=some (.bl (f i)):=by unfold aO;rw[EM,List.getElem?_range h];rfl
def eU{n:Nat}{f g:Nat->Bool}(h:∀i,i<n->f i=g i):aO n f=aO n g:=by unfold aO;apply List.map_congr_left;intro i hi;rw[h i (List.mem_range.mp hi)]
def i8(n:Nat)(f:Nat->Bool):aO (n+1) f=aO n f++[V.bl (f n)]:=by unfold aO;rw[List.range_succ,E3];rfl
def ni{n k:Nat}(f:Nat->Bool)(c:Bool)(hk:k<n):(aO n f).set k (.bl c)=aO n λi=>if i=k then c else f i:=by
 apply List.ext_getElem?;intro i;rcases Fx i n with hi|hi
 ·rw[List.getElem?_set,cL,fE _ hi,fE _ hi];by_cases h:k=i
  ·subst h;simp[hi]
  ·rw[FH h,FH (Ne.symm h)]
 ·rw[List.getElem?_eq_none (by rw[List.length_set,cL];exact hi),List.getElem?_eq_none (by rw[cL];exact hi)]
def cF{n:Nat}{f:Nat->Bool}{i:Int}(h0:0<=i)(h:i<n):bz (aO n f) i=some (.bl (f i.toNat)):=dP h0 (fE f (by omega))
def qJ(n:Nat)(c:Bool):(Fv n [V.bl c]).flatten=aO n λ_=>c:=by
 induction n with
 | zero=>rfl
 | succ n ih=>
  rw[List.replicate_succ',List.flatten_append,ih,i8];rfl
def DO{n:Nat}{f:Nat->Bool}{i:Int}(h0:0<=i)(h:i<=n):cj (aO n f) none (some i)=aO i.toNat f:=by
 unfold cj;rw[cL,HT.pG];have e:HT.aN n n (some i)=i.toNat:=by show(if i<0 then(i+(n:Int)).toNat else min i.toNat n)=i.toNat;rw[FH (by omega)];omega
 rw[e,List.drop_zero,Nat.sub_zero];apply List.ext_getElem?;intro k;rcases Fx k i.toNat with hk|hk
 ·rw[List.getElem?_take_of_lt hk,fE _ (by omega),fE _ hk]
 ·rw[List.getElem?_eq_none (by rw[FA,cL];omega),List.getElem?_eq_none (by rw[cL];omega)]
def Rows(H:Hp)(q:Addr)(rs:List Addr)(n:Nat)(M:Nat->Nat->Bool):Prop:=H q=some (.lst (rs.map V.ref))/\∀(i:Nat) (r:Addr),rs[i]?=some r->H r=some (.lst (aO n (M i)))
def Rows.ext{H H':Hp}(e:Ext H H'){q:Addr}{rs:List Addr}{n:Nat}{M:Nat->Nat->Bool}(h:Rows H q rs n M):Rows H' q rs n M:=⟨e _ _ h.1,λi r hi=>e _ _ (h.2 i r hi)⟩
def kU(K:EG):Sp:=λvs H Q _=>∃vh m ws d,vs=[vh,.str d]/\bw H vh m ws/\HOuse m ws/\∀l cs us H',Ext H H'->H l=none->H' l=some (.lst (List.map V.ref cs))->aP H' cs us->us=ws.filter (λw=>decide (w.deed=d))->Q (.ref l) H'
abbrev oq:Stmt:=stq 28
def vK:FnScope ["house","deed"] ["house","deed"] (aM oq):=⟨rfl,rfl,rfl,by decide +kernel,rfl,by decide +kernel,by decide +kernel⟩
def Dx{P:Program}{w:World}{K:EG}{mg:Str->Option Value}{base:Heap}(D:Dfn K mg "ways_of_deed" oq ["house","deed"])(T:Blt mg):Cal P w K mg base "ways_of_deed" 1 ["house","deed"] (kU K):=by
 have nd:=(vK).nd;refine D.ok vK (λvs H Q E h=>?_) (λX hX H vs Q E h=>?_)
 ·obtain⟨vh,m,ws,d,rfl,_⟩:=h;rfl
 ·obtain⟨f,cdv,A,outer,s,H0,E0,rfl,hr⟩:=hX;obtain⟨vh,m,ws,d,rfl,hv,ok,q⟩:=h;have few:=ok.few;obtain⟨hp0,hq0,rfl,hh,hw⟩:=id hv;obtain⟨bs,hq,hal⟩:=b0.al hw;have hbl:=hal.1;refine⟨_,(@ao _ _ _ (@aL _ _ _ _ (cx ["way"] [1] (f9 K (@ah _ _ _ _ _ _ _ (aC K) (pv 0) af (λ_ _=>rfl))) (λ_=>(aK (i:=0) (show(["way","deed"]:List Str).Nodup from by decide +kernel) rfl (Or.inl rfl) (Or.inr rfl))) (λ_=>(dR (aS bG (@ah _ _ _ _ _ _ _ (aC K) (pv 0) af (λ_ _=>rfl)) (pv 1) (aQ _)))) (λ_=>(pv 0))))),?_⟩;walk_at"";refine aB (ai.of hh) (v:=.ref hq0) rfl ?_;walk_at"";refine gh (ai.of hq) ?_;refine jI (xs:=bs.map V.ref) (λi ys H'=>H'=H/\∃cs us,ys=List.map V.ref cs/\aP H cs us/\us=(ws.take i).filter λw=>decide (w.deed=d)) (br (by rw[EK];omega)) ⟨rfl,[],[],rfl,aP.nil _,rfl⟩ ?_ ?_ ?_
  ·rintro i ys H' _ ⟨rfl,cs,us,rfl,hau,rfl⟩;refine⟨ai.of hq,?_⟩;rw[EK,hau.1];exact Fi (List.length_filter_le _ _) (by rw[FA];omega)
  ·rintro i v ys H' hx ⟨rfl,cs,us,rfl,hau,hus⟩;rw[EM]at hx;obtain⟨b,hb,rfl⟩:=EX.mp hx;have hiw:i<ws.length:=by have:=(EU.mp hb).1;omega
   have hwi:ws[i]?=some ws[i]:=EL hiw;have hbw:=hal.2 i b _ hb hwi;generalize ws[i]=w0 at hwi hbw;walk_at"";refine aB (ai.of hbw) (v:=.str w0.deed) rfl ?_;walk_at"";refine cz (rd_exb ?_);cases hc:decide (w0.deed=d)with
   | true=>
    refine aD ?_;walk_at"";refine⟨rfl,cs++[b],us++[w0],?_,hau.snoc hbw,?_⟩
    ·rw[E3];rfl
    ·rw[hus,List.take_add_one,hwi,List.filter_append];congr 1;show[w0]=List.filter _ [w0];rw[List.filter_cons,FI hc];rfl
   | false=>
    refine az ⟨rfl,cs,us,rfl,hau,?_⟩;rw[hus,List.take_add_one,hwi,List.filter_append];have:List.filter (λw:Way=>decide (w.deed=d)) [w0]=[]:=by rw[List.filter_cons,FH (by rw[hc];exact E2)];rfl
    show _=_++List.filter _ [w0];rw[this,List.append_nil]
  ·rintro ys H' pc ⟨hH,cs,us,rfl,hau,hus⟩ hpc;subst hH;rw[EK,hbl,Ff]at hus;have e:=aX (o:=.lst (List.map V.ref cs)) hpc;exact q pc cs us _ e hpc aE (hau.ext e) hus
def xA{x:Addr}:∀{l:List Addr} {i:Nat},l.Nodup->x∉l->(l.set i x).Nodup
 | [],_,_,_=>List.nodup_nil
 | a::l,0,h,hx=>by rw[List.nodup_cons]at h;exact List.nodup_cons.mpr ⟨λz=>hx (EN _ z),h.2⟩
 | a::l,i+1,h,hx=>by
  rw[List.nodup_cons]at h;refine List.nodup_cons.mpr ⟨λz=>?_,xA h.2 λz=>hx (EN _ z)⟩;rcases List.mem_or_eq_of_mem_set z with z|z
  ·exact h.1 z
  ·exact hx (by rw[z];exact ES)
structure TB(H H':Hp)(q:Addr)(rs rs':List Addr)(n:Nat)(M:Nat->Nat->Bool):Prop where
 keep:∀b o,b≠q->H b=some o->H' b=some o
 len:rs'.length=n
 nd:rs'.Nodup
 nq:q∉rs'
 old:∀r∈rs',r∈rs\/H r=none
 rows:Rows H' q rs' n M
def TB.congr{H H':Hp}{q:Addr}{rs rs':List Addr}{n:Nat}{M M':Nat->Nat->Bool}(h:TB H H' q rs rs' n M)(e:∀i j,i<n->j<n->M i j=M' i j):TB H H' q rs rs' n M':=
 ⟨h.keep,h.len,h.nd,h.nq,h.old,h.rows.1,λi r hi=>by
  rw[h.rows.2 i r hi];have hl:i<n:=by rw[←h.len];exact(EU.mp hi).1
  congr 2;exact eU λj hj=>e i j hl hj⟩
def TB.set{H H1:Hp}{q p9:Addr}{rs rs1:List Addr}{n i:Nat}{M:Nat->Nat->Bool}{f:Nat->Bool}(h:TB H H1 q rs rs1 n M)(hi:i<n)(hp:H1 p9=none):TB H (upd (upd H1 p9 (.lst (aO n f))) q (.lst ((rs1.map V.ref).set i (.ref p9)))) q rs (rs1.set i p9) n (λa b=>if a=i then f b else M a b):=by
 have hq:H1 q=some (.lst (rs1.map V.ref)):=h.rows.1;have nqp:q≠p9:=λz=>by rw[z,hp]at hq;cases hq
 have nin:p9∉rs1:=λz=>by obtain⟨j,hj⟩:=Fy z;rw[h.rows.2 j p9 hj]at hp;cases hp
 refine⟨λb o nb e=>?_,by rw[List.length_set];exact h.len,xA h.nd nin,λz=>?_,λr hr=>?_,?_,λa r ha=>?_⟩
 ·have e1:=h.keep b o nb e;rw[ay nb,ay (cg e1 hp)];exact e1
 ·rcases List.mem_or_eq_of_mem_set z with z|z
  ·exact h.nq z
  ·exact nqp z
 ·rcases List.mem_or_eq_of_mem_set hr with hr|rfl
  ·exact h.old r hr
  ·right;cases e:H r with
   | none=>rfl
   | some o=>rw[h.keep r o (Ne.symm nqp) e]at hp;cases hp
 ·rw[aE,List.map_set]
 ·rw[List.getElem?_set]at ha;by_cases hai:i=a
  ·subst hai;rw[FI rfl,FI (by rw[h.len];exact hi)]at ha;cases ha;rw[ay (Ne.symm nqp),aE];congr 2;exact eU λj _=>by dsimp only;rw[FI rfl]
  ·rw[FH hai]at ha;have e:=h.rows.2 a r ha;have nrq:r≠q:=λz=>h.nq (z ▸ EV ha);rw[ay nrq,ay (cg e hp),e];congr 2;exact eU λj _=>by dsimp only;rw[FH (Ne.symm hai)]
def jn(M:Nat->Nat->Bool)(k:Nat):Nat->Nat->Bool:=λi j=>M i j || (M i k && M k j)
def bP(M:Nat->Nat->Bool):Nat->Nat->Nat->Bool
 | 0=>M
 | k+1=>jn (bP M k) k
structure Joined(n:Nat)(M M':Nat->Nat->Bool):Prop where
 le:∀i j,M i j=true->M' i j=true
 tr:∀i a j,a<n->M' i a=true->M' a j=true->M' i j=true
 least:∀S:Nat->Nat->Prop,(∀i a j,S i a->S a j->S i j)->(∀i j,M i j=true->S i j)->∀i j,M' i j=true->S i j
def we(M:Nat->Nat->Bool):∀k,Joined k M (bP M k)
 | 0=>⟨λ_ _ h=>h,λ_ _ _ h=>absurd h (Nat.not_lt_zero _),λ_ _ h=>h⟩
 | k+1=>by
  have ih:=we M k;have up:∀i j,bP M (k+1) i j=true↔(bP M k i j=true\/(bP M k i k=true/\bP M k k j=true)):=λi j=>by show(bP M k i j || (bP M k i k && bP M k k j))=true↔_;simp
  refine⟨λi j h=>(up i j).mpr (.inl (ih.le i j h)),λi a j ha h1 h2=>?_,λS ht hm i j h=>?_⟩
  ·rw[up]at h1 h2 ⊢;by_cases hak:a=k
   ·subst hak;have x1:bP M a i a=true:=by rcases h1 with h|h;exact h;exact h.1
    have x2:bP M a a j=true:=by rcases h2 with h|h;exact h;exact h.2
    exact .inr ⟨x1,x2⟩
   ·have hlt:a<k:=by omega
    rcases h1 with h1|⟨h1,h1'⟩<;>rcases h2 with h2|⟨h2,h2'⟩
    ·exact .inl (ih.tr i a j hlt h1 h2)
    ·exact .inr ⟨ih.tr i a k hlt h1 h2,h2'⟩
    ·exact .inr ⟨h1,ih.tr k a j hlt h1' h2⟩
    ·exact .inr ⟨h1,h2'⟩
  ·rcases(up i j).mp h with h|⟨h1,h2⟩
   ·exact ih.least S ht hm i j h
   ·exact ht i k j (ih.least S ht hm i k h1) (ih.least S ht hm k j h2)
def s9(K:EG):Sp:=λvs H Q _=>∃q rs n M,vs=[.ref q]/\TB H H q rs rs n M/\n<=12/\∀rs' M' H',TB H H' q rs rs' n M'->Joined n M M'->Q .non H'
abbrev oj:Stmt:=stq 31
def tX:FnScope ["table","many","middle","p"] ["table"] (aM oj):=⟨rfl,rfl,rfl,by decide +kernel,rfl,by decide +kernel,by decide +kernel⟩
def B2{P:Program}{w:World}{K:EG}{mg:Str->Option Value}{base:Heap}(D:Dfn K mg "join_walks" oj ["table"])(T:Blt mg):Cal P w K mg base "join_walks" 1 ["table"] (s9 K):=by
 have nd:=(tX).nd;refine D.ok tX (λvs H Q E h=>?_) (λX hX H vs Q E h=>?_)
 ·obtain⟨q,rs,n,M,rfl,_⟩:=h;rfl
 ·obtain⟨f,cdv,A,outer,s,H0,E0,rfl,hr⟩:=hX;obtain⟨qt,rs,n,M,rfl,ht,hn,q⟩:=h;refine⟨_,(@aj _ _ _ _ _ (@aG _ _ 1 _ _ _ _ nd rfl (Or.inl rfl) (bh (cY K) rfl T.len_ PySem.boot_len (@aa _ _ _ _ _ (pv 0) ae rfl)) rfl (Or.inl rfl))
    (@ao _ _ _ (bH PassesOwn.never rfl (bR rfl T.range_ (@aa _ _ _ _ _ (pv 1) ae rfl)) (aK (i:=2) nd rfl (Or.inr rfl)) (@ao _ _ _ (bH PassesOwn.never rfl (bR rfl T.range_ (@aa _ _ _ _ _ (pv 1) ae rfl)) (aK (i:=3) nd rfl (Or.inr rfl)) (@ao _ _ _ (cq (bQ (@ah _ _ _ _ _ _ _ (aI K) (@ah _ _ _ _ _ _ _ (aI K) (pv 0) (pv 3) (λ_ _=>rfl)) (pv 2) (λ_ _=>rfl))) (@ao _ _ _ (@gF _ _ _ _ _ _ (cx ["q"] [0,3,2] (bR rfl T.range_ (@aa _ _ _ _ _ (pv 1) ae rfl)) (λ_=>(aK (i:=0) (show(["q","table","p","middle"]:List Str).Nodup from by decide +kernel) rfl (Or.inl rfl) (Or.inr rfl))) (λ_=>dD) (λ_=>(qY (@ah _ _ _ _ _ _ _ (aI K) (@ah _ _ _ _ _ _ _ (aI K) (pv 1) (pv 2) (λ_ _=>rfl)) (pv 0) (λ_ _=>rfl)) (eJ (@ah _ _ _ _ _ _ _ (aI K) (@ah _ _ _ _ _ _ _ (aI K) (pv 1) (pv 3) (λ_ _=>rfl)) (pv 0) (λ_ _=>rfl)))))) (iL (pv 0) (pv 3) set_list) rfl rfl rfl)) aY))))))),?_⟩
  walk_at"";refine eh (ag.of ht.rows.1) ?_;rw[EK,ht.len];walk_at"";refine bS (by omega) ?_;rw[EY];refine forR (λk σ H'=>∃rs1 k1 k2,TB H H' qt rs rs1 n (bP M k)/\σ=[some (.ref qt),some (.int (n:Nat)),k1,k2]) ⟨rs,_,_,ht,rfl⟩ ?_ ?_
  ·rintro k σ H1 hk ⟨rs1,k1,k2,tb,rfl⟩;rw[show (0:Int)+(k:Int)=((k:Nat):Int) by omega];walk_at"";refine bS (by omega) ?_;rw[EY];refine forR (λp σ H'=>∃rs2 k2,TB H H' qt rs rs2 n (λi j=>if i<p then jn (bP M k) k i j else bP M k i j)/\σ=[some (.ref qt),some (.int (n:Nat)),some (.int (k:Nat)),k2]) ⟨rs1,_,tb,rfl⟩ ?_ ?_
   ·rintro p σ H2 hp ⟨rs2,k2,tb2,rfl⟩;rw[show (0:Int)+(p:Int)=((p:Nat):Int) by omega];have hp2:p<rs2.length:=by rw[tb2.len];exact hp
    have hk2:k<rs2.length:=by rw[tb2.len];exact hk
    have gp:rs2[p]?=some rs2[p]:=EL hp2;have gk:rs2[k]?=some rs2[k]:=EL hk2;have rp:=tb2.rows.2 p _ gp;have rk:=tb2.rows.2 k _ gk;generalize rs2[p]=ap at gp rp;generalize rs2[k]=ak at gk rk;have ap1:bz (rs2.map V.ref) ((p:Nat):Int)=some (.ref ap):=gK (by rw[EM,gp];rfl);have ak1:bz (rs2.map V.ref) ((k:Nat):Int)=some (.ref ak):=gK (by rw[EM,gk];rfl);have rp':H2 ap=some (.lst (aO n (bP M k p))):=by rw[rp];congr 2;exact eU λj _=>by dsimp only;rw[FH (Nat.lt_irrefl _)]
    have rk':H2 ak=some (.lst (aO n (bP M k k))):=by
     rw[rk];congr 2;refine eU λj _=>?_;dsimp only;by_cases hkp:k<p
     ·rw[FI hkp];unfold jn;cases bP M k k j<;>simp
     ·rw[FH hkp]
    walk_at"";refine bT ?_;walk_at"";refine aF (ag.of tb2.rows.1) ap1 ?_;walk_at"";refine aF (ag.of rp') (cF (by omega) (by omega)) ?_;rw[EY];walk_at"";cases hc:bP M k p k with
    | false=>
     refine az ?_;walk_at"";refine⟨rs2,_,tb2.congr λi j hi hj=>?_,rfl⟩
     try dsimp only
     by_cases h1:i<p
     ·rw[FI h1,FI (by omega)]
     ·rw[FH h1];by_cases h2:i<p+1
      ·have:i=p:=by omega
       subst this;rw[FI h2];unfold jn;rw[hc];simp
      ·rw[FH h2]
    | true=>
     refine aD ?_;walk_at"";refine bS (by omega) ?_;rw[EY];refine dA (λi ys H'=>H'=H2/\ys=aO i (jn (bP M k) k p)) (br (by omega)) ⟨rfl,rfl⟩ ?_ ?_ ?_
     ·rintro i ys H' _ ⟨_,rfl⟩;rw[cL];exact E6 _
     ·rintro i ys H3 hi ⟨rfl,rfl⟩;rw[show (0:Int)+(i:Int)=((i:Nat):Int) by omega];walk_at"";refine aD ?_;walk_at"";refine aF (ag.of tb2.rows.1) ap1 ?_;walk_at"";refine aF (ag.of rp') (cF (by omega) (by omega)) ?_;rw[EY];refine rd_exb ?_;cases hv:bP M k p i with
      | true=>
       refine aD ⟨rfl,?_⟩;rw[i8];congr 1;show[V.bl true]=[V.bl (bP M k p i || _)];rw[hv];rfl
      | false=>
       refine az ?_;walk_at"";refine aF (ag.of tb2.rows.1) ak1 ?_;walk_at"";refine aF (ag.of rk') (cF (by omega) (by omega)) ?_;rw[EY];refine⟨rfl,?_⟩;rw[i8];congr 1;show[V.bl (bP M k k i)]=[V.bl (bP M k p i || (bP M k p k && bP M k k i))];rw[hv,hc];simp
     ·rintro ys H3 p9 ⟨hH,rfl⟩ hp9;subst hH;have hq2:(upd H3 p9 (.lst (aO n (jn (bP M k) k p)))) qt=some (.lst (rs2.map V.ref)):=(aX hp9) _ _ tb2.rows.1;walk_at"";refine iN hq2 (iF (by omega) (by rw[EK,tb2.len];omega)) ?_;rw[EY];refine⟨_,_,(tb2.set (f:=jn (bP M k) k p) hp hp9).congr λi j hi hj=>?_,rfl⟩
      try dsimp only
      by_cases h1:i=p
      ·subst h1;rw[FI rfl,FI (by omega)]
      ·rw[FH h1];by_cases h2:i<p
       ·rw[FI h2,FI (by omega)]
       ·rw[FH h2,FH (by omega)]
   ·rintro σ H2 ⟨rs2,k2,tb2,rfl⟩;exact⟨rs2,_,_,tb2.congr (λi j hi hj=>by rw[FI hi];rfl),rfl⟩
  ·rintro σ H1 ⟨rs1,k1,k2,tb,rfl⟩;walk_at"";exact q rs1 _ H1 tb (we M n)
def put2(M:Nat->Nat->Bool)(i x:Nat):Nat->Nat->Bool:=λj y=>if j=i/\y=x then true else M j y
structure TW(H H':Hp)(q:Addr)(rs:List Addr)(n:Nat)(M:Nat->Nat->Bool):Prop where
 keep:∀b o,b∉rs->H b=some o->H' b=some o
 len:rs.length=n
 nd:rs.Nodup
 nq:q∉rs
 rows:Rows H' q rs n M
def TW.mark{H H1:Hp}{q r:Addr}{rs:List Addr}{n i j:Nat}{M:Nat->Nat->Bool}(h:TW H H1 q rs n M)(hi:rs[i]?=some r)(hj:j<n):TW H (upd H1 r (.lst ((aO n (M i)).set j (.bl true)))) q rs n (put2 M i j):=by
 have hm:=EV hi;have nqr:q≠r:=λz=>h.nq (z ▸ hm);refine⟨λb o nb e=>?_,h.len,h.nd,h.nq,?_,λa r' ha=>?_⟩
 ·have nbr:b≠r:=λz=>nb (by rw[z];exact hm);rw[ay nbr];exact h.keep b o nb e
 ·rw[ay nqr];exact h.rows.1
 ·by_cases hai:a=i
  ·subst hai;rw[hi]at ha;cases ha;rw[aE,ni _ _ hj];congr 2;refine eU λy _=>?_;unfold put2;by_cases hy:y=j
   ·rw[FI hy,FI ⟨rfl,hy⟩]
   ·rw[FH hy,FH λz=>hy z.2]
  ·have nr:r'≠r:=λz=>hai ((List.getElem?_inj (by rw[h.len];exact(by rw[←h.len];exact(EU.mp ha).1)) h.nd).mp (by rw[ha,hi,z]));rw[ay nr,h.rows.2 a r' ha];congr 2;exact eU λy _=>by unfold put2;rw[FH λz=>hai z.1]
structure ArchR(n:Nat)(us ds:List Way)(M M':Nat->Nat->Bool)(ad:Bool):Prop where
 le:∀i j,M i j=true->M' i j=true
 same:ad=false->∀i j,M' i j=M i j
 more:ad=true->∃i j,i<n/\j<n/\M i j=false/\M' i j=true
 least:∀S:Nat->Nat->Prop,(∀u∈us,∀d∈ds,S u.other.toNat d.room.toNat->S u.room.toNat d.other.toNat)->(∀i j,M i j=true->S i j)->∀i j,M' i j=true->S i j
def ArchR.refl{n:Nat}{us ds:List Way}{M:Nat->Nat->Bool}:ArchR n us ds M M false:=⟨λ_ _ h=>h,λ_ _ _=>rfl,λh=>(nomatch h),λ_ _ h=>h⟩
def ArchR.put{n:Nat}{us ds:List Way}{M M':Nat->Nat->Bool}{ad:Bool}(h:ArchR n us ds M M' ad){u d:Way}(hu:u∈us)(hd:d∈ds)(h1:M' u.other.toNat d.room.toNat=true)(h2:M' u.room.toNat d.other.toNat=false)(hn1:u.room.toNat<n)(hn2:d.other.toNat<n):ArchR n us ds M (put2 M' u.room.toNat d.other.toNat) true:=by
 have le:∀i j,M i j=true->put2 M' u.room.toNat d.other.toNat i j=true:=λi j hm=>by
  unfold put2;split
  ·rfl
  ·exact h.le i j hm
 refine⟨le,λz=>(nomatch z),λ_=>⟨_,_,hn1,hn2,?_,by unfold put2;rw[FI ⟨rfl,rfl⟩]⟩,λS hS hm i j hp=>?_⟩
 ·rw[Bool.eq_false_iff];intro z;rw[h.le _ _ z]at h2;cases h2
 ·unfold put2 at hp;split at hp
  ·rename_i z;rw[z.1,z.2];exact hS u hu d hd (h.least S hS hm _ _ h1)
  ·exact h.least S hS hm i j hp
def w6(K:EG):Sp:=λvs H Q _=>∃q rs n M lu cu us ld cd ds,vs=[.ref q,.ref lu,.ref ld]/\TW H H q rs n M/\H lu=some (.lst (List.map V.ref cu))/\aP H cu us/\H ld=some (.lst (List.map V.ref cd))/\aP H cd ds/\lu∉rs/\ld∉rs/\(∀w∈us++ds,0<=w.room/\w.room<(n:Int)/\0<=w.other/\w.other<(n:Int)) ∧
 ∀M' ad H',TW H H' q rs n M'->ArchR n us ds M M' ad->(ad=false->∀u∈us,∀d∈ds,M u.other.toNat d.room.toNat=true->M u.room.toNat d.other.toNat=true)->Q (.bl ad) H'
abbrev oF:Stmt:=stq 32
def wZ:FnScope ["table","ups","downs","added","rise","fall"] ["table","ups","downs"] (aM oF):=⟨rfl,rfl,rfl,by decide +kernel,rfl,by decide +kernel,by decide +kernel⟩
def zl{P:Program}{w:World}{K:EG}{mg:Str->Option Value}{base:Heap}(D:Dfn K mg "add_arches" oF ["table","ups","downs"])(T:Blt mg):Cal P w K mg base "add_arches" 1 ["table","ups","downs"] (w6 K):=by
 have nd:=(wZ).nd;refine D.ok wZ (λvs H Q E h=>?_) (λX hX H vs Q E h=>?_)
 ·obtain⟨q,rs,n,M,lu,cu,us,ld,cd,ds,rfl,_⟩:=h;rfl
 ·obtain⟨f,cdv,A,outer,s,H0,E0,rfl,hr⟩:=hX;obtain⟨qt,rs,n,M,lu,cu,us,ld,cd,ds,rfl,tw,hlu,hau,hld,had,nlu,nld,hin,q⟩:=h;have hcu:=hau.1;have hcd:=had.1;refine⟨_,(@aj _ _ _ _ _ (@aG _ _ 3 _ _ _ _ nd rfl (Or.inl rfl) bX rfl (Or.inl rfl))
    (@aj _ _ _ _ _ (bH PassesOwn.never rfl (cK K (pv 1)) (aK (i:=4) nd rfl (Or.inl rfl)) (@ao _ _ _ (bH PassesOwn.never rfl (cK K (pv 2)) (aK (i:=5) nd rfl (Or.inl rfl)) (@ao _ _ _ (cq (PW.pt (fV (bQ (@ah _ _ _ _ _ _ _ (aI K) (@ah _ _ _ _ _ _ _ (aI K) (pv 0) (@ah _ _ _ _ _ _ _ (aC K) (pv 4) af (λ_ _=>rfl)) (λ_ _=>rfl)) (@ah _ _ _ _ _ _ _ (aC K) (pv 5) af (λ_ _=>rfl)) (λ_ _=>rfl))) (fL (dm (bQ (@ah _ _ _ _ _ _ _ (aI K) (@ah _ _ _ _ _ _ _ (aI K) (pv 0) (@ah _ _ _ _ _ _ _ (aC K) (pv 4) af (λ_ _=>rfl)) (λ_ _=>rfl)) (@ah _ _ _ _ _ _ _ (aC K) (pv 5) af (λ_ _=>rfl)) (λ_ _=>rfl))))))) (@aj _ _ _ _ _ (@gF _ _ _ _ _ _ bX (iL (@ah _ _ _ _ _ _ _ (aI K) (pv 0) (@ah _ _ _ _ _ _ _ (aC K) (pv 4) af (λ_ _=>rfl)) (λ_ _=>rfl)) (@ah _ _ _ _ _ _ _ (aC K) (pv 5) af (λ_ _=>rfl)) set_list) rfl rfl rfl)
    (@ao _ _ _ (@aG _ _ 3 _ _ _ _ nd rfl (Or.inl rfl) bX rfl (Or.inl rfl)))) aY)))))
    (@ao _ _ _ (@aL _ _ _ _ (pv 3))))),?_⟩
  have tupN:∀(b:Addr) (w:Way),H b=some (.tup w.vs)->b∉rs:=λb w hb z=>by obtain⟨j,hj⟩:=Fy z;rw[tw.rows.2 j b hj]at hb;cases hb
  walk_at"";refine cH (ag.of hlu) ?_;refine forL (xs:=List.map V.ref cu) (λi σ H'=>∃M' ad k1 k2,TW H H' qt rs n M'/\ArchR n us ds M M' ad/\(ad=false->∀a,a<i->∀u,us[a]?=some u->∀d∈ds,M u.other.toNat d.room.toNat=true->M u.room.toNat d.other.toNat=true)/\σ=[some (.ref qt),some (.ref lu),some (.ref ld),some (.bl ad),k1,k2]) ⟨M,false,_,_,tw,.refl,λ_ a ha=>absurd ha (Nat.not_lt_zero _),rfl⟩ (λi σ H' _ h=>by obtain⟨M',ad,k1,k2,t,_⟩:=h;exact ag.of (t.keep _ _ nlu hlu)) ?_ ?_
  ·rintro i v σ H1 hx ⟨M1,ad,k1,k2,tw1,ar1,cl1,rfl⟩;rw[EM]at hx;obtain⟨bu,hbu,rfl⟩:=EX.mp hx;have hiu:i<us.length:=by rw[←hcu];exact(EU.mp hbu).1
   have gu:us[i]?=some us[i]:=EL hiu;have hbu0:=hau.2 i bu _ hbu gu;generalize us[i]=u at gu hbu0;have hum:=EV gu;obtain⟨u0,u1,u2,u3⟩:=hin u (Fu _ hum);walk_at"";refine cH (ag.of (tw1.keep _ _ nld hld)) ?_;refine forL (xs:=List.map V.ref cd) (λj σ H'=>∃M' ad k2,TW H H' qt rs n M'/\ArchR n us ds M M' ad/\(ad=false->(∀a,a<i->∀u,us[a]?=some u->∀d∈ds,M u.other.toNat d.room.toNat=true->M u.room.toNat d.other.toNat=true)/\∀b,b<j->∀d,ds[b]?=some d->M u.other.toNat d.room.toNat=true->M u.room.toNat d.other.toNat=true)/\σ=[some (.ref qt),some (.ref lu),some (.ref ld),some (.bl ad),some (.ref bu),k2]) ⟨M1,ad,_,tw1,ar1,λh=>⟨cl1 h,λb hb=>absurd hb (Nat.not_lt_zero _)⟩,rfl⟩ (λj σ H' _ h=>by obtain⟨M',ad,k2,t,_⟩:=h;exact ag.of (t.keep _ _ nld hld)) ?_ ?_
   ·rintro j v σ H2 hx2 ⟨M2,ad2,k2,tw2,ar2,cl2,rfl⟩;rw[EM]at hx2;obtain⟨bd,hbd,rfl⟩:=EX.mp hx2;have hid:j<ds.length:=by rw[←hcd];exact(EU.mp hbd).1
    have gd:ds[j]?=some ds[j]:=EL hid;have hbd0:=had.2 j bd _ hbd gd;generalize ds[j]=d at gd hbd0;have hdm:=EV gd;obtain⟨d0,d1,d2,d3⟩:=hin d (Ft _ hdm);have ku:=tw2.keep _ _ (tupN bu u hbu0) hbu0;have kd:=tw2.keep _ _ (tupN bd d hbd0) hbd0;have x1:u.other.toNat<rs.length:=by rw[tw2.len];omega
    have x2:u.room.toNat<rs.length:=by rw[tw2.len];omega
    have r1:rs[u.other.toNat]?=some rs[u.other.toNat]:=EL x1;have r2:rs[u.room.toNat]?=some rs[u.room.toNat]:=EL x2;have w1:=tw2.rows.2 _ _ r1;have w2:=tw2.rows.2 _ _ r2;generalize rs[u.other.toNat]=a1 at r1 w1;generalize rs[u.room.toNat]=a2 at r2 w2;have at1:bz (rs.map V.ref) u.other=some (.ref a1):=dP u2 (by rw[EM,r1];rfl);have at2:bz (rs.map V.ref) u.room=some (.ref a2):=dP u0 (by rw[EM,r2];rfl);have step:(M u.other.toNat d.room.toNat=true->M u.room.toNat d.other.toNat=true)->ad2=false->∀b,b<j+1->∀d',ds[b]?=some d'->M u.other.toNat d'.room.toNat=true->M u.room.toNat d'.other.toNat=true:=λhs hf b hb d' hd'=>by
     by_cases hbj:b<j
     ·exact(cl2 hf).2 b hbj d' hd'
     ·have:b=j:=by omega
      subst this;rw[gd]at hd';cases hd';exact hs
    walk_at"";refine bT ?_;walk_at"";refine aB (ai.of ku) (v:=.int u.other) rfl ?_;walk_at"";refine aF (ag.of tw2.rows.1) at1 ?_;walk_at"";refine aB (ai.of kd) (v:=.int d.room) rfl ?_;walk_at"";refine aF (ag.of w1) (cF d0 (by omega)) ?_;walk_at"";cases hm1:M2 u.other.toNat d.room.toNat with
    | false=>
     refine az ?_;walk_at"";refine⟨M2,ad2,_,tw2,ar2,λhf=>⟨(cl2 hf).1,step (λz=>?_) hf⟩,rfl⟩;rw[ar2.same hf]at hm1;rw[hm1]at z;cases z
    | true=>
     refine aD ?_;walk_at"";refine aB (ai.of ku) (v:=.int u.room) rfl ?_;walk_at"";refine aF (ag.of tw2.rows.1) at2 ?_;walk_at"";refine aB (ai.of kd) (v:=.int d.other) rfl ?_;walk_at"";refine aF (ag.of w2) (cF d2 (by omega)) ?_;walk_at"";cases hm2:M2 u.room.toNat d.other.toNat with
     | true=>
      refine az ?_;walk_at"";refine⟨M2,ad2,_,tw2,ar2,λhf=>⟨(cl2 hf).1,step (λ_=>?_) hf⟩,rfl⟩;rw[ar2.same hf]at hm2;exact hm2
     | false=>
      refine aD ?_;walk_at"";refine aB (ai.of ku) (v:=.int u.room) rfl ?_;walk_at"";refine aF (ag.of tw2.rows.1) at2 ?_;walk_at"";refine aB (ai.of kd) (v:=.int d.other) rfl ?_;walk_at"";refine iN w2 (iF d2 (by rw[cL];omega)) ?_;walk_at"";exact⟨_,true,_,tw2.mark r2 (by omega),ar2.put hum hdm hm1 hm2 (by omega) (by omega),λz=>(nomatch z),rfl⟩
   ·rintro σ H2 ⟨M2,ad2,k2,tw2,ar2,cl2,rfl⟩;rw[EK,hcd]at cl2;refine⟨M2,ad2,_,_,tw2,ar2,λhf a ha u' hu'=>?_,rfl⟩;by_cases hai:a<i
    ·exact(cl2 hf).1 a hai u' hu'
    ·have:a=i:=by omega
     subst this;rw[gu]at hu';cases hu';intro d hd;obtain⟨b,hb⟩:=Fy hd;exact(cl2 hf).2 b (EU.mp hb).1 d hb
  ·rintro σ H1 ⟨M1,ad,k1,k2,tw1,ar1,cl1,rfl⟩;rw[EK,hcu]at cl1;walk_at"";refine q M1 ad H1 tw1 ar1 λhf u hu d hd=>?_;obtain⟨a,ha⟩:=Fy hu;exact cl1 hf a (EU.mp ha).1 u ha d hd
inductive Kpt(ws:List Way)(n:Nat):Nat->Nat->Prop
 | refl {i:Nat}:i<n->Kpt ws n i i
 | stay {w:Way}:w∈ws->w.deed = "stay"->Kpt ws n w.room.toNat w.other.toNat
 | trans {i a j:Nat}:Kpt ws n i a->Kpt ws n a j->Kpt ws n i j
 | arch {u d:Way}:u∈ws->u.deed = "up"->d∈ws->d.deed = "down"->Kpt ws n u.other.toNat d.room.toNat->Kpt ws n u.room.toNat d.other.toNat
def iE{m:Int}{ws:List Way}(ok:∀w∈ws,w.Ok m){w:Way}(hw:w∈ws):w.room.toNat<m.toNat/\w.other.toNat<m.toNat:=by have h:=ok w hw;have:=h.r0;have:=h.r1;have:=h.o0;have:=h.o1;omega
def Kpt.lt{m:Int}{ws:List Way}(ok:∀w∈ws,w.Ok m){i j:Nat}(h:Kpt ws m.toNat i j):i<m.toNat/\j<m.toNat:=by
 induction h with
 | refl h=>exact⟨h,h⟩
 | stay h _=>exact iE ok h
 | trans _ _ h1 h2=>exact⟨h1.1,h2.2⟩
 | arch h1 _ h2 _ _ _=>exact⟨(iE ok h1).1,(iE ok h2).2⟩
def yA(ws:List Way)(M:Nat->Nat->Bool):Prop:=∀i j,M i j=true↔(i=j\/∃w∈ws,w.deed = "stay"/\w.room.toNat=i/\w.other.toNat=j)
def iJ(n:Nat)(M:Nat->Nat->Bool):Nat:=((FE n).flatMap λi=>(FE n).map λj=>(i,j)).countP λz=>!M z.1 z.2
def tJ{α:Type}{p p':α->Bool}(hi:∀y,p' y=true->p y=true){a:α}(ha:p a=true)(ha':p' a=false):∀{L:List α},a∈L->L.countP p'<L.countP p
 | b::L,hm=>by
  have hle:L.countP p'<=L.countP p:=List.countP_mono_left λy _=>hi y;rw[List.countP_cons,List.countP_cons];rcases E1.mp hm with rfl|hm
  ·rw[ha,ha'];simp;omega
  ·have:=tJ hi ha ha' hm;cases h1:p' b with
   | false=>simp[h1];split<;>omega
   | true=>rw[hi b h1];simp;omega
def B5{n i j:Nat}{M M':Nat->Nat->Bool}(hi:i<n)(hj:j<n)(le:∀a b,M a b=true->M' a b=true)(h1:M i j=false)(h2:M' i j=true):iJ n M'<iJ n M:=by
 refine tJ (a:=(i,j)) (λy hy=>?_) (by simp[h1]) (by simp[h2]) (by simp;exact⟨hi,hj⟩);have hy':M' y.1 y.2=false:=by simpa using hy
 have:M y.1 y.2=false:=by rw[Bool.eq_false_iff];intro z;rw[le _ _ z]at hy';cases hy'
 simp[this]
structure KT(H H':Hp)(q:Addr)(rs:List Addr)(n:Nat)(M:Nat->Nat->Bool):Prop where
 ext:Ext H H'
 fq:H q=none
 fr:∀r∈rs,H r=none
 len:rs.length=n
 nd:rs.Nodup
 nq:q∉rs
 rows:Rows H' q rs n M
def KT.tw{H H':Hp}{q:Addr}{rs:List Addr}{n:Nat}{M:Nat->Nat->Bool}(h:KT H H' q rs n M):TW H' H' q rs n M:=⟨λ_ _ _ e=>e,h.len,h.nd,h.nq,h.rows⟩
def KT.tb{H H':Hp}{q:Addr}{rs:List Addr}{n:Nat}{M:Nat->Nat->Bool}(h:KT H H' q rs n M):TB H' H' q rs rs n M:=⟨λ_ _ _ e=>e,h.len,h.nd,h.nq,λ_ h=>.inl h,h.rows⟩
def KT.more{H H1 H2:Hp}{q:Addr}{rs:List Addr}{n:Nat}{M:Nat->Nat->Bool}(h:KT H H1 q rs n M)(e:Ext H1 H2):KT H H2 q rs n M:=⟨h.ext.trans e,h.fq,h.fr,h.len,h.nd,h.nq,h.rows.ext e⟩
def KT.byW{H H1 H2:Hp}{q:Addr}{rs:List Addr}{n:Nat}{M M':Nat->Nat->Bool}(h:KT H H1 q rs n M)(t:TW H1 H2 q rs n M'):KT H H2 q rs n M':=
 ⟨λb o e=>t.keep b o (λz=>by rw[h.fr b z]at e;cases e) (h.ext b o e),h.fq,h.fr,h.len,h.nd,h.nq,t.rows⟩
def KT.byB{H H1 H2:Hp}{q:Addr}{rs rs':List Addr}{n:Nat}{M M':Nat->Nat->Bool}(h:KT H H1 q rs n M)(t:TB H1 H2 q rs rs' n M'):KT H H2 q rs' n M':=
 ⟨λb o e=>t.keep b o (λz=>by rw[z,h.fq]at e;cases e) (h.ext b o e),h.fq,λr hr=>by
  rcases t.old r hr with z|z
  ·exact h.fr r z
  ·cases e:H r with
   | none=>rfl
   | some o=>exact absurd ((h.ext r o e).symm.trans z) (by simp),t.len,t.nd,t.nq,t.rows⟩
def sk(K:EG):Sp:=λvs H Q _=>∃vh m ws,vs=[vh]/\bw H vh m ws/\HOuse m ws/\∀q rs M H',KT H H' q rs m.toNat M->yA ws M->Q (.ref q) H'
abbrev mG:Stmt:=stq 30
def vg:FnScope ["house","table","p","way"] ["house"] (aM mG):=⟨rfl,rfl,rfl,by decide +kernel,rfl,by decide +kernel,by decide +kernel⟩
def BB{P:Program}{w:World}{K:EG}{mg:Str->Option Value}{base:Heap}(D:Dfn K mg "beginning_table" mG ["house"])(T:Blt mg)(C_ways_of_deed:Cal P w K mg base "ways_of_deed" 1 ["house","deed"] (kU K)):Cal P w K mg base "beginning_table" 2 ["house"] (sk K):=by
 have nd:=(vg).nd;refine D.ok vg (λvs H Q E h=>?_) (λX hX H vs Q E h=>?_)
 ·obtain⟨vh,m,ws,rfl,_⟩:=h;rfl
 ·obtain⟨f,cdv,A,outer,s,H0,E0,rfl,hr⟩:=hX;obtain⟨vh,m,ws,rfl,hv,ok,q⟩:=h;have m1:=ok.m1;have m12:=ok.m12;obtain⟨hp0,hq0,rfl,hh,_⟩:=id hv;refine⟨_,(@aj _ _ _ _ _ (@aG _ _ 1 _ _ _ _ nd rfl (Or.inl rfl) (@bq _ _ _ _ ae) rfl (Or.inl rfl))
    (@aj _ _ _ _ _ (bH PassesOwn.never rfl (bR rfl T.range_ (@aa _ _ _ _ _ (@ah _ _ _ _ _ _ _ (aC K) (pv 0) af (λ_ _=>rfl)) ae rfl)) (aK (i:=2) nd rfl (Or.inr rfl)) (@ao _ _ _ (bt (bE K ET E7 E8 bL (pv 1) (@aa _ _ _ _ _ (cx ["q"] [2] (bR rfl T.range_ (@aa _ _ _ _ _ (@ah _ _ _ _ _ _ _ (aC K) (pv 0) af (λ_ _=>rfl)) ae rfl)) (λ_=>(aK (i:=0) (show(["q","p"]:List Str).Nodup from by decide +kernel) rfl (Or.inl rfl) (Or.inr rfl))) (λ_=>dD) (λ_=>(eW bG (pv 1) (pv 0) (aQ _)))) ae rfl)))))
    (@aj _ _ _ _ _ (bH PassesOwn.never rfl (cK K (aH C_ways_of_deed hr (@aa _ _ _ _ _ (pv 0) (@aa _ _ _ _ _ aR ae rfl) rfl))) (aK (i:=3) nd rfl (Or.inl rfl)) (@ao _ _ _ (@gF _ _ _ _ _ _ bX (iL (@ah _ _ _ _ _ _ _ (aI K) (pv 1) (@ah _ _ _ _ _ _ _ (aC K) (pv 3) af (λ_ _=>rfl)) (λ_ _=>rfl)) (@ah _ _ _ _ _ _ _ (aC K) (pv 3) af (λ_ _=>rfl)) set_list) rfl rfl rfl)))
    (@ao _ _ _ (@aL _ _ _ _ (pv 1)))))),?_⟩
  walk_at"";refine aJ λtq H1 e1 htq hfq=>?_;walk_at"";refine aB (ai.of (e1 _ _ hh)) (v:=.int m) rfl ?_;walk_at"";refine bS (by omega) ?_;refine forR (λp σ H'=>∃rs k1 k2,Ext H H'/\H' tq=some (.lst (List.map V.ref rs))/\(∀r∈rs,H r=none)/\rs.length=p/\rs.Nodup/\tq∉rs/\(∀(a:Nat) (r:Addr),rs[a]?=some r->H' r=some (.lst (aO m.toNat λj=>decide (a=j))))/\σ=[some (.ref hp0),some (.ref tq),k1,k2]) ⟨[],_,_,e1,htq,λr hr=>(by cases hr),rfl,List.nodup_nil,by simp,λa r h=>by simp at h,rfl⟩ ?_ ?_
  ·rintro p σ H2 hp ⟨rs,k1,k2,e2,hq2,hfr,hln,hnd,hnq,hrs,rfl⟩;rw[show (0:Int)+(p:Int)=((p:Nat):Int) by omega];walk_at"";refine⟨cB (ag.of hq2),?_⟩;walk_at"";refine aB (ai.of (e2 _ _ hh)) (v:=.int m) rfl ?_;walk_at"";refine bS (by omega) ?_;refine dA (λi ys H'=>H'=H2/\ys=aO i (λj=>decide (p=j))) (br (by omega)) ⟨rfl,rfl⟩ ?_ ?_ ?_
   ·rintro i ys H' _ ⟨_,rfl⟩;rw[cL];exact E6 _
   ·rintro i ys H3 hi ⟨rfl,rfl⟩;rw[show (0:Int)+(i:Int)=((i:Nat):Int) by omega];walk_at"";refine aD ?_;walk_at"";refine⟨rfl,?_⟩;rw[i8];congr 3;rw[Fn];simp;omega
   ·rintro ys H3 p9 ⟨hH,rfl⟩ hp9;subst hH;have e3:=aX (o:=.lst (aO m.toNat λj=>decide (p=j))) hp9;have hq3:=e3 _ _ hq2;have h9:(upd H3 p9 (.lst (aO m.toNat λj=>decide (p=j)))) p9=_:=aE;have e03:=e2.trans e3;have hrs3:∀(a:Nat) (r:Addr),rs[a]?=some r->(upd H3 p9 (.lst (aO m.toNat λj=>decide (p=j)))) r=some (.lst (aO m.toNat λj=>decide (a=j))):=λa r h=>e3 _ _ (hrs a r h);have n9:H p9=none:=by
     cases z:H p9 with
     | none=>rfl
     | some o=>rw[e2 _ _ z]at hp9;cases hp9
    have nin:p9∉rs:=λz=>by obtain⟨j,hj⟩:=Fy z;rw[hrs j p9 hj]at hp9;cases hp9
    have nqp:tq≠p9:=λz=>by rw[z,hp9]at hq2;cases hq2
    generalize upd H3 p9 (.lst (aO m.toNat λj=>decide (p=j)))=H4 at e3 hq3 h9 e03 hrs3 ⊢;walk_at"";refine bJ hq3 (by rw[EK];exact Nat.lt_of_le_of_lt (show rs.length<=12 by omega) (by decide)) ?_;walk_at"";have keep:∀b o,b≠tq->H4 b=some o->upd H4 tq (.lst (List.map V.ref rs++[.ref p9])) b=some o:=λb o nb e=>by rw[ay nb];exact e
    refine⟨rs++[p9],_,_,bK e03 hfq,?_,λr hr=>?_,by rw[E4,hln];rfl,?_,λz=>?_,λa r ha=>?_,rfl⟩
    ·rw[aE,E3];rfl
    ·rcases E9.mp hr with hr|hr
     ·exact hfr r hr
     ·rw[EW.mp hr];exact n9
    ·rw[List.nodup_append];refine⟨hnd,by simp,λa ha c hc z=>?_⟩;rw[EW.mp hc]at z;exact nin (z ▸ ha)
    ·rcases E9.mp z with z|z
     ·exact hnq z
     ·exact nqp (EW.mp z)
    ·by_cases hal:a<rs.length
     ·rw[Fc hal]at ha;exact keep r _ (λz=>hnq (z ▸ EV ha)) (hrs3 a r ha)
     ·rw[Fb (by omega)]at ha;have hz:a-rs.length=0:=by have:=(EU.mp ha).1;simp at this;omega
      rw[hz]at ha;cases ha;have:a=p:=by omega
      subst this;exact keep p9 _ (Ne.symm nqp) h9
  ·rintro σ H2 ⟨rs,k1,k2,e2,hq2,hfr,hln,hnd,hnq,hrs,rfl⟩;have tw:TW H2 H2 tq rs m.toNat (λi j=>decide (i=j)):=⟨λ_ _ _ e=>e,hln,hnd,hnq,hq2,hrs⟩;have kt:KT H H2 tq rs m.toNat (λi j=>decide (i=j)):=⟨e2,hfq,hfr,hln,hnd,hnq,hq2,hrs⟩;walk_at"";refine⟨.ref hp0,m,ws,_,rfl,hv.ext e2,ok,λl cs us H3 e3 hl3 hl hau hus=>?_⟩;have kt3:=kt.more e3;have nl:l∉rs:=λz=>by obtain⟨j,hj⟩:=Fy z;rw[hrs j l hj]at hl3;cases hl3
   have hcs:=hau.1;have tupN:∀(b:Addr) (w:Way),H3 b=some (.tup w.vs)->b∉rs:=λb w hb z=>by obtain⟨j,hj⟩:=Fy z;rw[kt3.rows.2 j b hj]at hb;cases hb
   refine cH (ag.of hl) ?_;refine forL (xs:=List.map V.ref cs) (λi σ H'=>∃M k1 k2,TW H3 H' tq rs m.toNat M/\(∀a b,M a b=true↔(a=b\/∃w∈us.take i,w.room.toNat=a/\w.other.toNat=b))/\σ=[some (.ref hp0),some (.ref tq),k1,k2]) ⟨_,_,_,kt3.tw,λa b=>by simp,rfl⟩ (λi σ H' _ h=>by obtain⟨M,k1,k2,t,_⟩:=h;exact ag.of (t.keep _ _ nl hl)) ?_ ?_
   ·rintro i v σ H4 hx ⟨M,k1,k2,tw4,hM,rfl⟩;rw[EM]at hx;obtain⟨b,hb,rfl⟩:=EX.mp hx;have hi:i<us.length:=by rw[←hcs];exact(EU.mp hb).1
    have gu:us[i]?=some us[i]:=EL hi;have hb0:=hau.2 i b _ hb gu;generalize us[i]=u at gu hb0;have hum:u∈ws:=by have:=EV gu;rw[hus]at this;exact(List.mem_filter.mp this).1
    have oku:=ok.ok u hum;have u0:=oku.r0;have u1:=oku.r1;have u2:=oku.o0;have u3:=oku.o1;have kb:=tw4.keep _ _ (tupN b u hb0) hb0;have x2:u.room.toNat<rs.length:=by rw[tw4.len];omega
    have r2:rs[u.room.toNat]?=some rs[u.room.toNat]:=EL x2;have w2:=tw4.rows.2 _ _ r2;generalize rs[u.room.toNat]=a2 at r2 w2;have at2:bz (rs.map V.ref) u.room=some (.ref a2):=dP u0 (by rw[EM,r2];rfl);walk_at"";refine aB (ai.of kb) (v:=.int u.room) rfl ?_;walk_at"";refine aF (ag.of tw4.rows.1) at2 ?_;walk_at"";refine aB (ai.of kb) (v:=.int u.other) rfl ?_;walk_at"";refine iN w2 (iF u2 (by rw[cL];omega)) ?_;refine⟨_,_,_,tw4.mark r2 (by omega),λa c=>?_,rfl⟩;rw[List.take_add_one,gu];unfold put2;split
    ·rename_i z;simp only[true_iff];exact .inr ⟨u,Ft _ (by simp),z.1.symm,z.2.symm⟩
    ·rename_i z;rw[hM];constructor
     ·rintro(h|⟨w,hw,h⟩)
      ·exact .inl h
      ·exact .inr ⟨w,Fu _ hw,h⟩
     ·rintro(h|⟨w,hw,h1,h2⟩)
      ·exact .inl h
      ·rcases E9.mp hw with hw|hw
       ·exact .inr ⟨w,hw,h1,h2⟩
       ·have:w=u:=by simpa using hw
        subst this;exact absurd ⟨h1.symm,h2.symm⟩ z
   ·rintro σ H4 ⟨M,k1,k2,tw4,hM,rfl⟩;rw[EK,hcs,Ff]at hM;walk_at"";refine q tq rs M H4 (kt3.byW tw4) λa b=>?_;rw[hM,hus];constructor
    ·rintro(h|⟨w,hw,h⟩)
     ·exact .inl h
     ·obtain⟨h1,h2⟩:=List.mem_filter.mp hw;exact .inr ⟨w,h1,of_decide_eq_true h2,h⟩
    ·rintro(h|⟨w,hw,hd,h⟩)
     ·exact .inl h
     ·exact .inr ⟨w,List.mem_filter.mpr ⟨hw,FG hd⟩,h⟩
structure UD(H:Hp)(tq:Addr)(rs:List Addr)(lu ld:Addr)(cu cd:List Addr)(us ds:List Way):Prop where
 u:H lu=some (.lst (List.map V.ref cu))
 au:aP H cu us
 d:H ld=some (.lst (List.map V.ref cd))
 ad:aP H cd ds
 nu:lu∉rs
 nd:ld∉rs
 qu:lu≠tq
 qd:ld≠tq
def aP.byW{H H':Hp}{q:Addr}{rs:List Addr}{n:Nat}{M M':Nat->Nat->Bool}(r:Rows H q rs n M)(t:TW H H' q rs n M'){bs:List Addr}{ws:List Way}(h:aP H bs ws):aP H' bs ws:=⟨h.1,λj b w e1 e2=>by have hb:=h.2 j b w e1 e2;refine t.keep b _ (λz=>?_) hb;obtain⟨j,hj⟩:=Fy z;rw[r.2 j b hj]at hb;cases hb⟩
def aP.byB{H H':Hp}{q:Addr}{rs rs':List Addr}{n:Nat}{M M':Nat->Nat->Bool}(r:Rows H q rs n M)(t:TB H H' q rs rs' n M'){bs:List Addr}{ws:List Way}(h:aP H bs ws):aP H' bs ws:=⟨h.1,λj b w e1 e2=>by have hb:=h.2 j b w e1 e2;refine t.keep b _ (λz=>?_) hb;rw[z,r.1]at hb;cases hb⟩
def UD.byW{H H':Hp}{tq:Addr}{rs:List Addr}{lu ld:Addr}{cu cd:List Addr}{us ds:List Way}{n:Nat}{M M':Nat->Nat->Bool}(r:Rows H tq rs n M)(t:TW H H' tq rs n M')(h:UD H tq rs lu ld cu cd us ds):UD H' tq rs lu ld cu cd us ds:=
 ⟨t.keep _ _ h.nu h.u,h.au.byW r t,t.keep _ _ h.nd h.d,h.ad.byW r t,h.nu,h.nd,h.qu,h.qd⟩
def UD.byB{H H':Hp}{tq:Addr}{rs rs':List Addr}{lu ld:Addr}{cu cd:List Addr}{us ds:List Way}{n:Nat}{M M':Nat->Nat->Bool}(r:Rows H tq rs n M)(t:TB H H' tq rs rs' n M')(h:UD H tq rs lu ld cu cd us ds):UD H' tq rs' lu ld cu cd us ds:=by
 have no:∀l o,H l=some o->l∉rs->l∉rs':=λl o hl hn z=>by
  rcases t.old l z with y|y
  ·exact hn y
  ·rw[hl]at y;cases y
 exact⟨t.keep _ _ h.qu h.u,h.au.byB r t,t.keep _ _ h.qd h.d,h.ad.byB r t,no _ _ h.u h.nu,no _ _ h.d h.nd,h.qu,h.qd⟩
def lN(ws:List Way)(n:Nat)(M:Nat->Nat->Bool):Prop:=∀i j,i<n->j<n->(M i j=true↔Kpt ws n i j)
structure KJ(ws:List Way)(n:Nat)(M:Nat->Nat->Bool):Prop where
 beg:∀i j,(i=j\/∃w∈ws,w.deed = "stay"/\w.room.toNat=i/\w.other.toNat=j)->M i j=true
 snd:∀i j,M i j=true->i=j\/Kpt ws n i j
def yW{m:Int}{ws:List Way}{M:Nat->Nat->Bool}(ok:∀w∈ws,w.Ok m)(h:KJ ws m.toNat M)(tr:∀i a j,a<m.toNat->M i a=true->M a j=true->M i j=true)(ar:∀u∈ws.filter (λw=>decide (w.deed=Fp "up")),∀d∈ws.filter (λw=>decide (w.deed=Fp "down")),M u.other.toNat d.room.toNat=true->M u.room.toNat d.other.toNat=true):lN ws m.toNat M:=by
 intro i j hi hj;constructor
 ·intro hm;rcases h.snd i j hm with rfl|h
  ·exact .refl hi
  ·exact h
 ·intro hk;clear hi hj;induction hk with
  | refl _=>exact h.beg _ _ (.inl rfl)
  | stay h1 h2=>exact h.beg _ _ (.inr ⟨_,h1,h2,rfl,rfl⟩)
  | trans h1 h2 i1 i2=>exact tr _ _ _ (Kpt.lt ok h1).2 i1 i2
  | arch h1 h2 h3 h4 h5 ih=>exact ar _ (List.mem_filter.mpr ⟨h1,FG h2⟩) _ (List.mem_filter.mpr ⟨h3,FG h4⟩) ih
def KJ.join{m:Int}{ws:List Way}{M M':Nat->Nat->Bool}(h:KJ ws m.toNat M)(j:Joined m.toNat M M'):KJ ws m.toNat M':=by
 refine⟨λa b hb=>j.le _ _ (h.beg a b hb),λa b hm=>j.least (λa b=>a=b\/Kpt ws m.toNat a b) (λi a j h1 h2=>?_) h.snd a b hm⟩;rcases h1 with rfl|h1
 ·exact h2
 ·rcases h2 with rfl|h2
  ·exact .inr h1
  ·exact .inr (.trans h1 h2)
def KJ.arch{m:Int}{ws:List Way}{M M':Nat->Nat->Bool}{ad:Bool}(ok:∀w∈ws,w.Ok m)(h:KJ ws m.toNat M)(a:ArchR m.toNat (ws.filter λw=>decide (w.deed=Fp "up")) (ws.filter λw=>decide (w.deed=Fp "down")) M M' ad):KJ ws m.toNat M':=by
 refine⟨λi j hb=>a.le _ _ (h.beg i j hb),λi j hm=>a.least (λa b=>a=b\/Kpt ws m.toNat a b) (λu hu d hd hs=>?_) h.snd i j hm⟩;obtain⟨u1,u2⟩:=List.mem_filter.mp hu;obtain⟨d1,d2⟩:=List.mem_filter.mp hd;have u2:=of_decide_eq_true u2;have d2:=of_decide_eq_true d2;right;refine .arch u1 u2 d1 d2 ?_;rcases hs with hs|hs
 ·rw[hs];exact .refl (iE ok d1).1
 ·exact hs
def nT(K:EG):Sp:=λvs H Q _=>∃vh m ws,vs=[vh]/\bw H vh m ws/\HOuse m ws/\∀q rs M H',KT H H' q rs m.toNat M->lN ws m.toNat M->Q (.ref q) H'
abbrev mI:Stmt:=stq 33
def sj:FnScope ["house","table","ups","downs"] ["house"] (aM mI):=⟨rfl,rfl,rfl,by decide +kernel,rfl,by decide +kernel,by decide +kernel⟩
def zr{P:Program}{w:World}{K:EG}{mg:Str->Option Value}{base:Heap}(D:Dfn K mg "kept_table" mI ["house"])(T:Blt mg)(C_add_arches:Cal P w K mg base "add_arches" 1 ["table","ups","downs"] (w6 K))(C_join_walks:Cal P w K mg base "join_walks" 1 ["table"] (s9 K))(C_ways_of_deed:Cal P w K mg base "ways_of_deed" 1 ["house","deed"] (kU K))(C_beginning_table:Cal P w K mg base "beginning_table" 2 ["house"] (sk K)):Cal P w K mg base "kept_table" 3 ["house"] (nT K):=by
 have nd:=(sj).nd;refine D.ok sj (λvs H Q E h=>?_) (λX hX H vs Q E h=>?_)
 ·obtain⟨vh,m,ws,rfl,_⟩:=h;rfl
 ·obtain⟨f,cdv,A,outer,s,H0,E0,rfl,hr⟩:=hX;obtain⟨vh,m,ws,rfl,hv,ok,q⟩:=h;have m1:=ok.m1;have m12:=ok.m12;refine⟨_,(aj (aG (i:=1) nd rfl (Or.inl rfl) (aH C_beginning_table hr (aa (pv 0) ae)))
    (aj (aG (i:=2) nd rfl (Or.inl rfl) (aH C_ways_of_deed hr (aa (pv 0) (aa aR ae))))
    (aj (aG (i:=3) nd rfl (Or.inl rfl) (aH C_ways_of_deed hr (aa (pv 0) (aa aR ae))))
    (aj (bt (aH C_join_walks hr (aa (pv 1) ae)))
    (aj (fD PassesOwn.never (bQ (aH C_add_arches hr (aa (pv 1) (aa (pv 2) (aa (pv 3) ae))))) (ao (bt (aH C_join_walks hr (aa (pv 1) ae)))))
    (ao (aL (pv 1)))))))),?_⟩
  walk_at"";refine⟨vh,m,ws,rfl,hv,ok,λtq rs M H1 kt bg=>?_⟩;walk_at"";refine⟨vh,m,ws,_,rfl,hv.ext kt.ext,ok,λlu cu us H2 e2 hlu hlu2 hau hus=>?_⟩;walk_at"";refine⟨vh,m,ws,_,rfl,hv.ext (kt.ext.trans e2),ok,λld cd ds H3 e3 hld hld2 had hds=>?_⟩;have kt3:=kt.more (e2.trans e3);have kj:KJ ws m.toNat M:=⟨λi j h=>(bg i j).mpr h,λi j h=>by
   rcases(bg i j).mp h with h|⟨w,hw,hd,rfl,rfl⟩
   ·exact .inl h
   ·exact .inr (.stay hw hd)⟩
  have nin:∀l,H1 l=none->l∉rs/\l≠tq:=λl hl=>by
   refine⟨λz=>?_,λz=>?_⟩
   ·obtain⟨j,hj⟩:=Fy z;rw[kt.rows.2 j l hj]at hl;cases hl
   ·rw[z,kt.rows.1]at hl;cases hl
  have hld1:H1 ld=none:=by
   cases z:H1 ld with
   | none=>rfl
   | some o=>rw[e2 _ _ z]at hld;cases hld
  have ud:UD H3 tq rs lu ld cu cd us ds:=⟨e3 _ _ hlu2,hau.ext e3,hld2,had,(nin lu hlu).1,(nin ld hld1).1,(nin lu hlu).2,(nin ld hld1).2⟩;have hin:∀w∈us++ds,0<=w.room/\w.room<(m.toNat:Int)/\0<=w.other/\w.other<(m.toNat:Int):=λw hw=>by
   have hw':w∈ws:=by
    rcases E9.mp hw with h|h
    ·rw[hus]at h;exact(List.mem_filter.mp h).1
    ·rw[hds]at h;exact(List.mem_filter.mp h).1
   have h:=ok.ok w hw';have h1:=h.r0;have h2:=h.r1;have h3:=h.o0;have h4:=h.o1;omega
  clear hlu2 hau hld2 had nin hld1;walk_at"";refine⟨tq,rs,m.toNat,M,rfl,kt3.tb,by omega,λrs1 M1 H4 tb jd=>?_⟩;have kt4:=kt3.byB tb;have ud4:=ud.byB kt3.rows tb;have kj4:=kj.join jd;walk_at"";refine fY (λmm σ H'=>∃rs M,KT H H' tq rs m.toNat M/\UD H' tq rs lu ld cu cd us ds/\KJ ws m.toNat M/\(∀i a j,a<m.toNat->M i a=true->M a j=true->M i j=true)/\mm=iJ m.toNat M/\σ=[some vh,some (.ref tq),some (.ref lu),some (.ref ld)]) (λσ H'=>∃rs M,KT H H' tq rs m.toNat M/\lN ws m.toNat M/\σ=[some vh,some (.ref tq),some (.ref lu),some (.ref ld)]) (iJ m.toNat M1) ⟨rs1,M1,kt4,ud4,kj4,jd.tr,rfl,rfl⟩ ?_ ?_
  ·rintro mm σ H5 ⟨rs5,M5,kt5,ud5,kj5,tr5,rfl,rfl⟩;walk_at"";refine⟨tq,rs5,m.toNat,M5,lu,cu,us,ld,cd,ds,rfl,kt5.tw,ud5.u,ud5.au,ud5.d,ud5.ad,ud5.nu,ud5.nd,hin,λM6 ad H6 tw ar cl=>?_⟩;have kt6:=kt5.byW tw;have ud6:=ud5.byW kt5.rows tw;rw[hus,hds]at ar;have kj6:=kj5.arch ok.ok ar;walk_at"";cases ad with
   | false=>
    refine az ⟨rs5,M6,kt6,yW ok.ok kj6 (λi a j ha h1 h2=>?_) (λu hu d hd hm=>?_),rfl⟩
    ·rw[ar.same rfl]at h1 h2 ⊢;exact tr5 i a j ha h1 h2
    ·rw[ar.same rfl]at hm ⊢;exact cl rfl u (by rw[hus];exact hu) d (by rw[hds];exact hd) hm
   | true=>
    refine aD ⟨λσ' H'=>∃rs M,KT H H' tq rs m.toNat M/\UD H' tq rs lu ld cu cd us ds/\KJ ws m.toNat M/\(∀i a j,a<m.toNat->M i a=true->M a j=true->M i j=true)/\iJ m.toNat M<iJ m.toNat M5/\σ'=[some vh,some (.ref tq),some (.ref lu),some (.ref ld)],λσ' H' ⟨rs,M,a1,a2,a3,a4,a5,a6⟩=>⟨_,a5,rs,M,a1,a2,a3,a4,rfl,a6⟩,?_⟩;walk_at"";refine⟨tq,rs5,m.toNat,M6,rfl,kt6.tb,by omega,λrs7 M7 H7 tb7 jd7=>?_⟩;walk_at"";obtain⟨i,j,hi,hj,hf,ht⟩:=ar.more rfl;exact⟨rs7,M7,kt6.byB tb7,ud6.byB kt6.rows tb7,kj6.join jd7,jd7.tr,B5 hi hj (λa b h=>jd7.le _ _ (ar.le _ _ h)) hf (jd7.le _ _ ht),rfl⟩
  ·rintro σ H5 ⟨rs5,M5,kt5,hk5,rfl⟩;walk_at"";exact q tq rs5 M5 H5 kt5 hk5
def lj{sp:Sp}{js:List Nat}{cells:List (Str×Addr)}{N:List Str}{ta:TA}{σ:St}{H:Hp}{Q:VK} (h:ta σ H λvs H1=>(∀j∈js,∃v,σ[j]?=some (some v)) ∧
 ∀cp:List Cap,cp.length=js.length->(∀(i j:Nat) (e:Cap),js[i]?=some j->cp[i]?=some e->N[j]?=some e.n/\cells.lookup e.n=some e.c/\σ[j]?=some (some e.v)/\H1 e.c=none/\∃u,e.o.data=.cell (some u)/\RelV e.v u) →
  sp vs (bM (cellsOf cp) H1) (λv H'=>(∀b o,(cellsOf cp).lookup b=some o->H' b=some (dj b o))/\Q v (aZ (cellsOf cp) H')) E0):ju sp js cells N ta σ H Q:=h
def vV{P:Program}{w:World}{K:EG}{mg:Str->Option Value}{base:Heap}{k:Nat}{tf:TE}{ta:TA}{σ:St}{H:Hp}{Q:VK}(h:tf σ H λfv H1=>∃f pre R,fv=.ref f/\FunR P w K mg base k f pre R/\pre H1/\ta σ H1 λvs H2=>pre H2/\R vs H2 Q):pY P w K mg base k tf ta σ H Q:=h
def kJ{cs:List (Addr×Obj)}{H:Hp}(hn:∀b o,cs.lookup b=some o->H b=none):Ext H (bM cs H):=λb o e=>pq hn e
def gj{cs:List (Addr×Obj)}{H:Hp}(hc:∀b o,cs.lookup b=some o->H b=some (dj b o)){b:Addr}{x:HO}(hb:H b=some x)(nx:∀f,x≠.ext f):aZ cs H b=some x:=by
 cases q:cs.lookup b with
 | none=>rw[cC q];exact hb
 | some o=>rw[hc b o q]at hb;cases hb;exact absurd rfl (nx _)
def EA{cs:List (Addr×Obj)}{H:Hp}(hc:∀b o,cs.lookup b=some o->H b=some (dj b o)):Ext H (bM cs (aZ cs H)):=λb x e=>by
 cases q:cs.lookup b with
 | none=>rw[cW q,cC q];exact e
 | some o=>rw[eP q,←hc b o q];exact e
def Cq{cs:List (Addr×Obj)}{H H':Hp}(hn:∀b o,cs.lookup b=some o->H b=none)(e:Ext (bM cs H) H'):Ext H (aZ cs H'):=λb x hb=>by
 cases q:cs.lookup b with
 | none=>rw[cC q];exact e b x (by rw[cW q];exact hb)
 | some o=>rw[hn b o q]at hb;cases hb
def cZ(n:Nat)(g:Nat->Nat->Bool):Nat->List Bfs.Pl
 | 0=>[]
 | p+1=>cZ n g p++((FE n).filter (g p)).map λq:Nat=>(((p:Nat):Int),((q:Nat):Int))
def ip{n:Nat}{g:Nat->Nat->Bool}{x:Bfs.Pl}:∀{k:Nat},x∈cZ n g k↔∃p q:Nat,p<k/\q<n/\g p q=true/\x=(((p:Nat):Int),((q:Nat):Int))
 | 0=>⟨λh=>(nomatch h),λ⟨p,_,h,_⟩=>absurd h (Nat.not_lt_zero _)⟩
 | k+1=>by
  show x∈cZ n g k++_↔_;rw[E9,ip (k:=k)];constructor
  ·rintro(⟨p,q,h1,h2⟩|h)
   ·exact⟨p,q,by omega,h2⟩
   ·obtain⟨q,hq,rfl⟩:=List.mem_map.mp h;obtain⟨h1,h2⟩:=List.mem_filter.mp hq;exact⟨k,q,by omega,List.mem_range.mp h1,h2,rfl⟩
  ·rintro⟨p,q,h1,h2,h3,rfl⟩;by_cases hp:p<k
   ·exact .inl ⟨p,q,hp,h2,h3,rfl⟩
   ·have:p=k:=by omega
    subst this;exact .inr (List.mem_map.mpr ⟨q,List.mem_filter.mpr ⟨List.mem_range.mpr h2,h3⟩,rfl⟩)
def my(n:Nat)(g:Nat->Bool):((FE n).filter g).length<=n:=Fi (List.length_filter_le _ _) (by rw[List.length_range];exact E6 _)
def lC{n:Nat}{g:Nat->Nat->Bool}:∀k:Nat,(cZ n g k).length<=k*n
 | 0=>by simp[cZ]
 | k+1=>by show(cZ n g k++_).length<=_;rw[E4,EK,Nat.succ_mul];have:=lC (n:=n) (g:=g) k;have:=my n (g k);omega
def b9{H H':Hp}(f:∀a x,aA H a x->aA H' a x){as:List Addr}{xs:List Bfs.Pl}(h:Paired (aA H) as xs):Paired (aA H') as xs:=by
 induction h with
 | nil=>exact .nil
 | cons h t ih=>exact .cons (f _ _ h) ih
def jB{H:Hp}{as:List Addr}{xs:List Bfs.Pl}{a:Addr}{x:Bfs.Pl}(h:Paired (aA H) as xs)(ht:aA H a x):Paired (aA H) (as++[a]) (xs++[x]):=by
 induction h with
 | nil=>exact .cons ht .nil
 | cons h _ ih=>exact .cons h ih
def wR{H:Hp}{as bs:List Addr}{xs ys:List Bfs.Pl}(h:Paired (aA H) as xs)(h':Paired (aA H) bs ys):Paired (aA H) (as++bs) (xs++ys):=by
 induction h with
 | nil=>exact h'
 | cons h _ ih=>exact .cons h ih
def dI{H:Hp}{as:List Addr}{xs:List Bfs.Pl}(h:Paired (aA H) as xs):as.length=xs.length:=by
 induction h with
 | nil=>rfl
 | cons _ _ ih=>rw[Fe,Fe,ih]
def oi(P:Program)(w:World)(K:EG)(mg:Str->Option Value)(base:Heap):Sp:=λvs H Q _=>∃vh m ws f pre g,vs=[vh,.ref f]/\bw H vh m ws/\HOuse m ws/\FunR P w K mg base 1 f pre (λvs H Q=>∃p q:Nat,vs=[.int (p:Nat),.int (q:Nat)]/\(p:Int)<m/\(q:Int)<m/\∀H',Ext H H'->Q (.bl (g p q)) H')/\pre H/\(∀H H',Ext H H'->pre H->pre H') ∧
 ∀l ps H',Ext H H'->H l=none->H' l=some (.lst (List.map V.ref ps))->Paired (aA H') ps (cZ m.toNat g m.toNat)->Q (.ref l) H'
abbrev lI:Stmt:=stq 29
def rX:FnScope ["house","choice","pairs","p"] ["house","choice"] (aM lI):=⟨rfl,rfl,rfl,by decide +kernel,rfl,by decide +kernel,by decide +kernel⟩
def zO{P:Program}{w:World}{K:EG}{mg:Str->Option Value}{base:Heap}(D:Dfn K mg "told_pairs" lI ["house","choice"])(T:Blt mg):Cal P w K mg base "told_pairs" 2 ["house","choice"] (oi P w K mg base):=by
 have nd:=(rX).nd;refine D.ok rX (λvs H Q E h=>?_) (λX hX H vs Q E h=>?_)
 ·obtain⟨vh,m,ws,f,pre,g,rfl,_⟩:=h;rfl
 ·obtain⟨f,cdv,A,outer,s,H0,E0,rfl,hr⟩:=hX;obtain⟨vh,m,ws,ff,pre,g,rfl,hv,ok,hF,hpre,hmono,q⟩:=h;have m1:=ok.m1;have m12:=ok.m12;obtain⟨hp0,hq0,rfl,hh,_⟩:=id hv;refine⟨_,(@aj _ _ _ _ _ (@aG _ _ 2 _ _ _ _ nd rfl (Or.inl rfl) (@bq _ _ _ _ ae) rfl (Or.inl rfl))
    (@aj _ _ _ _ _ (bH PassesOwn.never rfl (bR rfl T.range_ (@aa _ _ _ _ _ (@ah _ _ _ _ _ _ _ (aC K) (pv 0) af (λ_ _=>rfl)) ae rfl)) (aK (i:=3) nd rfl (Or.inr rfl)) (@ao _ _ _ (bt (bE K ET PySem.F.slot_list_extend PySem.F.type_list_extend CS (pv 2) (@aa _ _ _ _ _ (cx ["q"] [3,1] (bR rfl T.range_ (@aa _ _ _ _ _ (@ah _ _ _ _ _ _ _ (aC K) (pv 0) af (λ_ _=>rfl)) ae rfl)) (λ_=>(aK (i:=0) (show(["q","p","choice"]:List Str).Nodup from by decide +kernel) rfl (Or.inl rfl) (Or.inr rfl))) (λ_=>(dR (bQ (pU (P:=P) (w:=w) (K:=K) (mg:=mg) (base:=base) hr (pv 2) (@aa _ _ _ _ _ (pv 1) (@aa _ _ _ _ _ (pv 0) ae rfl) rfl))))) (λ_=>(@bj _ _ _ _ _ (@aa _ _ _ _ _ (pv 1) (@aa _ _ _ _ _ (pv 0) ae rfl) rfl)))) ae rfl)))))
    (@ao _ _ _ (@aL _ _ _ _ (pv 2))))),?_⟩
  walk_at"";refine aJ λl H1 e1 hl hfl=>?_;walk_at"";refine aB (ai.of (e1 _ _ hh)) (v:=.int m) rfl ?_;walk_at"";refine bS (by omega) ?_;refine forR (λp σ H'=>∃ps k1,Ext H H'/\H' l=some (.lst (List.map V.ref ps))/\Paired (aA H') ps (cZ m.toNat g p)/\σ=[some (.ref hp0),some (.ref ff),some (.ref l),k1]) ⟨[],_,e1,hl,.nil,rfl⟩ ?_ ?_
  ·rintro p σ H2 hp ⟨ps,k1,e2,hl2,hps,rfl⟩;rw[show (0:Int)+(p:Int)=((p:Nat):Int) by omega];have hpl:=dI hps;have hpn:=lC (n:=m.toNat) (g:=g) p;have hpm:p*m.toNat<=12*12:=Nat.mul_le_mul (by omega) (by omega);walk_at"";refine⟨cB (ag.of hl2),?_⟩;walk_at"";refine aB (ai.of (e2 _ _ hh)) (v:=.int m) rfl ?_;walk_at"";refine bS (by omega) ?_;refine dA (λi ys H'=>Ext H2 H'/\∃cs,ys=List.map V.ref cs/\Paired (aA H') cs (((FE i).filter (g p)).map λq:Nat=>(((p:Nat):Int),((q:Nat):Int)))) (br (by omega)) ⟨Ext.rfl' _,[],rfl,.nil⟩ ?_ ?_ ?_
   ·rintro i ys H' _ ⟨_,cs,rfl,hcs⟩;rw[EK,dI hcs,EK];exact my i (g p)
   ·rintro i ys H3 hi ⟨e3,cs,rfl,hcs⟩;rw[show (0:Int)+(i:Int)=((i:Nat):Int) by omega];have e23:=e2.trans e3;walk_at"";refine vV ?_;walk_at"";refine⟨ff,pre,_,rfl,hF,hmono _ _ e23 hpre,?_⟩;walk_at"";refine⟨hmono _ _ e23 hpre,p,i,rfl,by omega,by omega,λH4 e4=>?_⟩;have e24:=e3.trans e4;cases hg:g p i with
    | false=>
     refine rd_exb (az ⟨e24,cs,rfl,?_⟩);rw[List.range_succ,List.filter_append];have:List.filter (g p) [i]=[]:=by rw[List.filter_cons,FH (by rw[hg];exact E2)];rfl
     rw[this,List.append_nil];exact b9 (λa x h=>e4 _ _ h) hcs
    | true=>
     refine rd_exb (aD ?_);walk_at"";refine aJ λt H5 e5 ht _=>?_;refine⟨e24.trans e5,cs++[t],?_,?_⟩
     ·rw[E3];rfl
     ·rw[List.range_succ,List.filter_append,E3];have:List.filter (g p) [i]=[i]:=by rw[List.filter_cons,FI hg];rfl
      rw[this];exact jB (b9 (λa x h=>(e4.trans e5) _ _ h) hcs) ht
   ·rintro ys H3 p9 ⟨e3,cs,rfl,hcs⟩ hp9;have e4:=aX (o:=.lst (List.map V.ref cs)) hp9;have h9:(upd H3 p9 (.lst (List.map V.ref cs))) p9=_:=aE;have hcs4:=b9 (λa x h=>e4 _ _ h) hcs;have e24:=e3.trans e4;have hl4:=e24 _ _ hl2;have hps4:=b9 (λa x h=>e24 _ _ h) hps;generalize upd H3 p9 (.lst (List.map V.ref cs))=H4 at e4 h9 hcs4 e24 hl4 hps4 ⊢;have hcl:=dI hcs;rw[EK]at hcl;have hfl2:=my m.toNat (g p);walk_at"";refine⟨l,p9,_,_,rfl,rfl,hl4,h9,br (by rw[EK,EK];omega),?_⟩;walk_at"";refine⟨ps++cs,_,bK (e2.trans e24) hfl,?_,?_,rfl⟩
    ·rw[aE,E3]
    ·exact wR (b9 (λa x h=>aA.put hl4 (λxs z=>by cases z) h) hps4) (b9 (λa x h=>aA.put hl4 (λxs z=>by cases z) h) hcs4)
  ·rintro σ H2 ⟨ps,k1,e2,hl2,hps,rfl⟩;walk_at"";exact q l ps H2 e2 hfl hl2 hps
def gU(K:EG):Prop:=∀x∈(["kept","low_levels","risen"]:List Str),∀y∈(["kept","low_levels","risen"]:List Str),x≠y->∀c T c' T',PySem.W.tabIn K x=some (c,T)->PySem.W.tabIn K y=some (c',T')->T'≠T
def zQ(K:EG):Bool:=(["kept","low_levels","risen"]:List Str).all λx=>(["kept","low_levels","risen"]:List Str).all λy=>x == y || (match PySem.W.tabIn K x,PySem.W.tabIn K y with|some a,some b=>b.2 != a.2|_,_=>true)
def yY{K:EG}(h:zQ K=true):gU K:=λx hx y hy hn c T c' T' e1 e2=>by
 have h1:=Fl.mp (Fl.mp h x hx) y hy;rw[e1,e2,Bool.or_eq_true]at h1;rcases h1 with h1|h1
 ·exact absurd (eq_of_beq h1) hn
 ·exact bne_iff_ne.mp h1
structure Tbs(K:EG)(H:Hp):Prop where
 kept:cN K "kept" ("kept" ++ ".<locals>." ++ "<lambda>") 115 29 H
 low:cN K "low_levels" ("low_levels" ++ ".<locals>." ++ "<lambda>") 148 39 H
 risen:cN K "risen" ("risen" ++ ".<locals>." ++ "<lambda>") 120 29 H
def Tbs.ext{K:EG}{H H':Hp}(e:Ext H H')(h:Tbs K H):Tbs K H':=⟨h.kept.ext e,h.low.ext e,h.risen.ext e⟩
def b0.et{H H':Hp}{p:Addr}{kk:List (List Key)}(e:Et H H')(h:b0 H p kk):b0 H' p kk:=by obtain⟨bs,h1,h2,h3⟩:=h;exact⟨bs,e _ _ h1 (λps z=>by cases z),h2,λj b k e1 e2=>e _ _ (h3 j b k e1 e2) (λps z=>by cases z)⟩
def bw.et{H H':Hp}{v:V}{m:Int}{ws:List Way}(e:Et H H')(h:bw H v m ws):bw H' v m ws:=by obtain⟨p,q,rfl,h1,h2⟩:=h;exact⟨p,q,rfl,e _ _ h1 (λps z=>by cases z),h2.et e⟩
def Rows.et{H H':Hp}(e:Et H H'){q:Addr}{rs:List Addr}{n:Nat}{M:Nat->Nat->Bool}(h:Rows H q rs n M):Rows H' q rs n M:=⟨e _ _ h.1 (λps z=>by cases z),λi r hi=>e _ _ (h.2 i r hi) (λps z=>by cases z)⟩
def aP.et{H H':Hp}{bs:List Addr}{ws:List Way}(e:Et H H')(h:aP H bs ws):aP H' bs ws:=⟨h.1,λj b w e1 e2=>e _ _ (h.2 j b w e1 e2) (λps z=>by cases z)⟩
def aA.et{H H':Hp}(e:Et H H'){p:Addr}{x:Bfs.Pl}(h:aA H p x):aA H' p x:=e _ _ h (λps z=>by cases z)
def fh(H:Hp)(l:Addr)(n:Nat)(R:Nat->Nat->Prop):Prop:=∃ps g,H l=some (.lst (List.map V.ref ps))/\Paired (aA H) ps (cZ n g n)/\∀i j,i<n->j<n->(g i j=true↔R i j)
def fh.et{H H':Hp}(e:Et H H'){l:Addr}{n:Nat}{R:Nat->Nat->Prop}(h:fh H l n R):fh H' l n R:=by obtain⟨ps,g,h1,h2,h3⟩:=h;exact⟨ps,g,e _ _ h1 (λps z=>by cases z),b9 (λa x h=>h.et e) h2,h3⟩
def held{cs:List (Addr×Obj)}{H3 H4:Hp}(hn:∀b o,cs.lookup b=some o->H3 b=none)(e4:Ext (bM cs H3) H4):(∀b o,cs.lookup b=some o->H4 b=some (dj b o))/\Ext H3 (aZ cs H4)/\(∀l,bM cs H3 l=none->aZ cs H4 l=H4 l)/\∀b x,H4 b=some x->(∀f,x≠.ext f)->aZ cs H4 b=some x:=by
 have hc:∀b o,cs.lookup b=some o->H4 b=some (dj b o):=λb o q=>e4 _ _ (eP q);refine⟨hc,Cq hn e4,λl hl=>?_,λb x hb nx=>gj hc hb nx⟩;cases q:cs.lookup l with
 | none=>exact cC q
 | some o=>rw[eP q]at hl;cases hl
def nI{α:Type}{cp:List α}(h:cp.length=1):∃e,cp=[e]:=by
 cases cp with
 | nil=>exact absurd h (by simp)
 | cons e r=>
  cases r with
  | nil=>exact⟨e,rfl⟩
  | cons _ _=>exact absurd h (by simp)
def ka{α:Type}{cp:List α}(h:cp.length=2):∃e e',cp=[e,e']:=by
 cases cp with
 | nil=>exact absurd h (by simp)
 | cons e r=>
  obtain⟨e',rfl⟩:=nI (cp:=r) (by simpa using h);exact⟨e,e',rfl⟩
def CL{α:Type}{cp:List α}(h:cp.length=3):∃e e' e'',cp=[e,e',e'']:=by
 cases cp with
 | nil=>exact absurd h (by simp)
 | cons e r=>
  obtain⟨e',e'',rfl⟩:=ka (cp:=r) (by simpa using h);exact⟨e,e',e'',rfl⟩
def om{P:Program}{w:World}{K:EG}{mg:Str->Option Value}{base:Heap}{k:Nat}{f c:Addr}{q:Str}{params:Arguments}{body:Expr}{scope:Scope}{cl cells:List (Str×Addr)}{H0:Hp}(hf:H0 f=some (fg f c q params body scope cl))(C:ClOk scope cells cl)(ps:List Str)(cp:List Cap)(R:List V->Hp->VK->Prop)(I:Hp->Prop)
  (S:LamSc ps scope) (bind:∀(pm cv ctv:Value) (us:List Value),us.length=ps.length->bindArgs (PySem.W.kla_fn "<lambda>" q params body scope cl pm cv ctv) ⟨us,[]⟩=pure (ps.zip us))
  (hR:∀vs H Q,R vs H Q->vs.length=ps.length)
  (hbody:∀(A:Around) (outer:List Env) (s:Shared) (H:Hp) (vs:List V) (Q:VK),Room k (A.deeper (fj q scope s.heap.objs.size f (.ref c) cl))->ib f c q params body scope cl cp H->I H->R vs H Q →
   ∃te,PE (jO P w K mg base (ps++cp.map (·.n)) q scope f (.ref c) cl A outer s (aZ (cellsOf cp) H)) body te/\te (vs.map some++cp.map λe=>some e.v) (aZ (cellsOf cp) H) λv H'=>(∀b o,(cellsOf cp).lookup b=some o->H' b=none)->Q v (bM (cellsOf cp) H')) :
  FunR P w K mg base (k+1) f (λH=>ib f c q params body scope cl cp H/\I H) R:=BK I S C bind hR hbody
def mf(K:EG):Sp:=λvs H Q _=>∃vh m ws,vs=[vh]/\bw H vh m ws/\HOuse m ws/\gU K/\Tbs K H/\∀l H',Et H H'->Tbs K H'->fh H' l m.toNat (Kpt ws m.toNat)->Q (.ref l) H'
abbrev oW:Stmt:=stq 34
def qc:FnScope ["house","table"] ["house"] (aM oW):=⟨rfl,rfl,rfl,by decide +kernel,rfl,by decide +kernel,by decide +kernel⟩
def Au{P:Program}{w:World}{K:EG}{mg:Str->Option Value}{base:Heap}(D:Dfn K mg "kept" oW ["house"])(T:Blt mg){c9 T9:Addr}(B:Tab K mg base "kept" c9 T9)(C_told_pairs:Cal P w K mg base "told_pairs" 2 ["house","choice"] (oi P w K mg base))(C_kept_table:Cal P w K mg base "kept_table" 3 ["house"] (nT K))(C_refuse_no_house:Cal P w K mg base "refuse_no_house" 6 ["thing"] (jU K)):Cal P w K mg base "kept" 7 ["house"] (mf K):=by
 have nd:=(qc).nd;refine D.okL B qc (λvs H Q E h=>?_) (λX hX H vs Q E h=>?_)
 ·obtain⟨vh,m,ws,rfl,_⟩:=h;rfl
 ·obtain⟨f,A,outer,s,H0,E0,rfl,hr⟩:=hX;obtain⟨vh,m,ws,rfl,hv,ok,dis,htb,q⟩:=h;have m1:=ok.m1;have m12:=ok.m12;refine⟨_,(aj (bt (aH C_refuse_no_house hr (aa (pv 0) ae)))
    (aj (aG (i:=1) nd rfl (Or.inr rfl) (aH C_kept_table hr (aa (pv 0) ae)))
    (ao (aL (ml [1] C_told_pairs hr (aa (pv 0) (aa (pI rfl rfl B.hd B.blt B.gl (by decide +kernel) rfl rfl rfl) ae))))))),?_⟩
  walk_at"";refine⟨vh,m,ws,rfl,hv,ok,λH1 e1=>?_⟩;walk_at"";refine⟨vh,m,ws,rfl,hv.ext e1,ok,λtq rs M H2 kt km=>?_⟩;have e02:=e1.trans kt.ext;have hrows:=kt.rows;have hrl:=kt.len;walk_at"";show ju _ [1] _ (["house","table"]:List Str) _ _ _ _;generalize PySem.Env.cells _=cells0;refine lj ?_;walk_at"";refine oR ?_;refine oZ (x:="kept") (htb.ext e02).kept B.tin λfl c' cl H3 hcl e3 ht3 ot hf hc'=>?_;have t3:Tbs K H3:=⟨ht3,ot "low_levels" _ _ _ (λc2 T2 e2=>dis "kept" (by simp) "low_levels" (by simp) (by decide +kernel) _ _ _ _ B.tin e2) (htb.ext e02).low,ot "risen" _ _ _ (λc2 T2 e2=>dis "kept" (by simp) "risen" (by simp) (by decide +kernel) _ _ _ _ B.tin e2) (htb.ext e02).risen⟩;walk_at"";refine⟨λj hj=>?_,λcp hlen hcp=>?_⟩
  ·rw[EW.mp hj];exact⟨_,rfl⟩
  obtain⟨⟨n,c,o,v⟩,rfl⟩:=nI hlen;obtain⟨hN,hcc,hσ,hnone,u,hdat,hrel⟩:=hcp 0 1 _ rfl rfl;clear hcp hlen;dsimp only at hN hcc hσ hnone hdat hrel;have hN':(Fp "table")=n:=Fq hN;have hσ':(V.ref tq)=v:=Fq (Fq hσ);clear hN hσ;subst hN';subst hσ';have hn3:∀b o',(cellsOf [⟨Fp "table",c,o,V.ref tq⟩]).lookup b=some o'->H3 b=none:=λb o' hb=>by obtain⟨e,he,rfl,rfl⟩:=gG hb;rw[EW.mp he];exact hnone
  have ex:=kJ hn3;have hrows3:=(hrows.et e3).ext ex;have hv3:=((hv.ext e02).et e3).ext ex;have hcaps:Caps (bM (cellsOf [⟨Fp "table",c,o,V.ref tq⟩]) H3) cl [⟨Fp "table",c,o,V.ref tq⟩]:=by
   obtain⟨c2,hc2⟩:=hcl.has (Fp "table") rfl;have hc3:=(hcl.fr _ _ hc2).2;rw[hcc]at hc3;cases hc3;refine⟨λe he=>?_,λx d hx=>?_⟩
   ·rw[EW.mp he];exact⟨hc2,eP (by simp[cellsOf]),u,hdat,hrel⟩
   ·have hm:=iO (hcl.fr x d hx).1;simp at hm;subst hm;rw[hc2]at hx;cases hx;exact⟨_,EW.mpr rfl,rfl,rfl⟩
  have hF:=om (P:=P) (w:=w) (K:=K) (mg:=mg) (base:=base) (k:=0) hf hcl (["p","q"]:List Str) [⟨Fp "table",c,o,V.ref tq⟩] (λvs H Q=>∃p q:Nat,vs=[.int (p:Nat),.int (q:Nat)]/\(p:Int)<m/\(q:Int)<m/\∀H',Ext H H'->Q (.bl (M p q)) H') (λH=>Rows H tq rs m.toNat M) ⟨rfl,rfl,rfl,by decide +kernel,by decide +kernel⟩ (λ_ _ _ us hl=>by obtain⟨u1,u2,rfl⟩:=ka hl;rfl) (λvs H Q h=>by obtain⟨p,q,rfl,_⟩:=h;rfl) (λA outer s H vs Q hrL hpre hI hR=>by
   obtain⟨p,q,rfl,hp,hq,hQ⟩:=hR;have hlk:=hpre.2.2.look;have hI':Rows (aZ (cellsOf [⟨Fp "table",c,o,V.ref tq⟩]) H) tq rs m.toNat M:=⟨gj hlk hI.1 (λf z=>by cases z),λi r hi=>gj hlk (hI.2 i r hi) (λf z=>by cases z)⟩;refine⟨_,(ah (aI K) (ah (aI K) (pv 2) (pv 0) (λ_ _=>rfl)) (pv 1) (λ_ _=>rfl)),?_⟩;have hb:=EA hlk;generalize aZ (cellsOf [⟨Fp "table",c,o,V.ref tq⟩]) H=HU at hI' hb ⊢;have hp2:p<rs.length:=by omega
   have gp:rs[p]?=some rs[p]:=EL hp2;have rp:=hI'.2 p _ gp;generalize rs[p]=ap at gp rp;show iw _ _ _ [some (.int (p:Nat)),some (.int (q:Nat)),some (.ref tq)] _ _;walk_at"";refine aF (ag.of hI'.1) (v:=.ref ap) (gK (by rw[EM,gp];rfl)) ?_;walk_at"";refine aF (ag.of rp) (cF (by omega) (by omega)) ?_;rw[EY];exact λ_=>hQ _ hb)
  refine⟨vh,m,ws,fl,_,M,rfl,hv3,ok,hF,⟨⟨ex _ _ hf,ex _ _ hc',hcaps⟩,hrows3⟩,λH H' e h=>⟨h.1.ext e,h.2.ext e⟩,λl ps H4 e4 hl hl4 hps=>?_⟩;obtain⟨a1,a2,a3,a4⟩:=held hn3 e4;exact⟨a1,q l _ ((e02.et.trans e3).trans a2.et) (t3.ext a2) ⟨ps,M,a4 _ _ hl4 (λf z=>by cases z),b9 (λa x h=>a4 _ _ h (λf z=>by cases z)) hps,km⟩⟩
def bf(ws:List Way)(n:Nat)(i j:Nat):Prop:=∃u∈ws,u.deed = "up"/\u.room.toNat=i/\Kpt ws n u.other.toNat j
def vX{cs:List (Addr×Obj)}{H H':Hp}(hc:∀b o,cs.lookup b=some o->H b=some (dj b o))(e:Ext (aZ cs H) H'):Ext H (bM cs H'):=λb x hb=>by
 cases q:cs.lookup b with
 | none=>rw[cW q];exact e b x (by rw[cC q];exact hb)
 | some o=>rw[eP q,←hc b o q];exact hb
def kr(us:List Way)(M:Nat->Nat->Bool)(p q:Nat):Bool:=((us.filter λu=>decide (u.room=(p:Int))).map λu=>M u.other.toNat q).any id
def lJ(K:EG):Sp:=λvs H Q _=>∃vh m ws,vs=[vh]/\bw H vh m ws/\HOuse m ws/\gU K/\Tbs K H/\∀l H',Et H H'->Tbs K H'->fh H' l m.toNat (bf ws m.toNat)->Q (.ref l) H'
abbrev pE:Stmt:=stq 35
def uh:FnScope ["house","table","ups"] ["house"] (aM pE):=⟨rfl,rfl,rfl,by decide +kernel,rfl,by decide +kernel,by decide +kernel⟩
def zX{P:Program}{w:World}{K:EG}{mg:Str->Option Value}{base:Heap}(D:Dfn K mg "risen" pE ["house"])(T:Blt mg){c9 T9:Addr}(B:Tab K mg base "risen" c9 T9)(C_told_pairs:Cal P w K mg base "told_pairs" 2 ["house","choice"] (oi P w K mg base))(C_ways_of_deed:Cal P w K mg base "ways_of_deed" 1 ["house","deed"] (kU K))(C_kept_table:Cal P w K mg base "kept_table" 3 ["house"] (nT K))(C_refuse_no_house:Cal P w K mg base "refuse_no_house" 6 ["thing"] (jU K)):Cal P w K mg base "risen" 7 ["house"] (lJ K):=by
 have nd:=(uh).nd;refine D.okL B uh (λvs H Q E h=>?_) (λX hX H vs Q E h=>?_)
 ·obtain⟨vh,m,ws,rfl,_⟩:=h;rfl
 ·obtain⟨f,A,outer,s,H0,E0,rfl,hr⟩:=hX;obtain⟨vh,m,ws,rfl,hv,ok,dis,htb,q⟩:=h;have m1:=ok.m1;have m12:=ok.m12;have few:=ok.few;refine⟨_,(aj (bt (aH C_refuse_no_house hr (aa (pv 0) ae)))
    (aj (aG (i:=1) nd rfl (Or.inr rfl) (aH C_kept_table hr (aa (pv 0) ae)))
    (aj (aG (i:=2) nd rfl (Or.inr rfl) (aH C_ways_of_deed hr (aa (pv 0) (aa aR ae))))
    (ao (aL (ml [2,1] C_told_pairs hr (aa (pv 0) (aa (pI rfl rfl B.hd B.blt B.gl (by decide +kernel) rfl rfl rfl) ae)))))))),?_⟩
  walk_at"";refine⟨vh,m,ws,rfl,hv,ok,λH1 e1=>?_⟩;walk_at"";refine⟨vh,m,ws,rfl,hv.ext e1,ok,λtq rs M H1b kt km=>?_⟩;walk_at"";refine⟨vh,m,ws,_,rfl,hv.ext (e1.trans kt.ext),ok,λlu cu us H2 e2 hlu hlu2 hau hus=>?_⟩;have e02:=(e1.trans kt.ext).trans e2;have hrows:=kt.rows.ext e2;have hrl:=kt.len;have hcu:=hau.1;have hul:us.length<=100:=by rw[hus];exact Fi (List.length_filter_le _ _) few
  have hin:∀u∈us,u∈ws/\u.deed=Fp "up":=λu hu=>by rw[hus]at hu;obtain⟨h1,h2⟩:=List.mem_filter.mp hu;exact⟨h1,of_decide_eq_true h2⟩
  walk_at"";show ju _ [2,1] _ (["house","table","ups"]:List Str) _ _ _ _;generalize PySem.Env.cells _=cells0;refine lj ?_;walk_at"";refine oR ?_;refine oZ (x:="risen") (htb.ext e02).risen B.tin λfl c' cl H3 hcl e3 ht3 ot hf hc'=>?_;have t3:Tbs K H3:=⟨ot "kept" _ _ _ (λc2 T2 e2=>dis "risen" (by simp) "kept" (by simp) (by decide +kernel) _ _ _ _ B.tin e2) (htb.ext e02).kept,ot "low_levels" _ _ _ (λc2 T2 e2=>dis "risen" (by simp) "low_levels" (by simp) (by decide +kernel) _ _ _ _ B.tin e2) (htb.ext e02).low,ht3⟩;walk_at"";refine⟨λj hj=>?_,λcp hlen hcp=>?_⟩
  ·rcases E1.mp hj with rfl|hj
   ·exact⟨_,rfl⟩
   ·rw[EW.mp hj];exact⟨_,rfl⟩
  obtain⟨⟨n,c,o,v⟩,⟨n',d,o',v'⟩,rfl⟩:=ka hlen;obtain⟨hN,hcc,hσ,hnone,u,hdat,hrel⟩:=hcp 0 2 _ rfl rfl;obtain⟨hN2,hcc2,hσ2,hnone2,u2,hdat2,hrel2⟩:=hcp 1 1 _ rfl rfl;clear hcp hlen;dsimp only at hN hcc hσ hnone hdat hrel hN2 hcc2 hσ2 hnone2 hdat2 hrel2;have hN':(Fp "ups")=n:=Fq hN;have hσ':(V.ref lu)=v:=Fq (Fq hσ);have hN2':(Fp "table")=n':=Fq hN2;have hσ2':(V.ref tq)=v':=Fq (Fq hσ2);clear hN hσ hN2 hσ2;subst hN';subst hσ';subst hN2';subst hσ2';obtain⟨c2,hc2⟩:=hcl.has (Fp "ups") rfl;obtain⟨d2,hd2⟩:=hcl.has (Fp "table") rfl;have hc3:=(hcl.fr _ _ hc2).2;have hd3:=(hcl.fr _ _ hd2).2;rw[hcc]at hc3;rw[hcc2]at hd3;cases hc3;cases hd3;have ncd:c≠d:=λz=>by have:=hcl.inj _ _ _ hc2 (z ▸ hd2);exact absurd this (by decide +kernel)
  have hn3:∀b o9,(cellsOf [⟨Fp "ups",c,o,V.ref lu⟩,⟨Fp "table",d,o',V.ref tq⟩]).lookup b=some o9->H3 b=none:=λb o9 hb=>by
   obtain⟨e,he,rfl,rfl⟩:=gG hb;rcases E1.mp he with rfl|he
   ·exact hnone
   ·rw[EW.mp he];exact hnone2
  have ex:=kJ hn3;have hrows3:=(hrows.et e3).ext ex;have hlu3:=ex _ _ (e3 _ _ hlu2 (λps z=>by cases z));have hau3:=(hau.et e3).ext ex;have hv3:=((hv.ext e02).et e3).ext ex;have hcaps:Caps (bM (cellsOf [⟨Fp "ups",c,o,V.ref lu⟩,⟨Fp "table",d,o',V.ref tq⟩]) H3) cl [⟨Fp "ups",c,o,V.ref lu⟩,⟨Fp "table",d,o',V.ref tq⟩]:=by
   refine⟨λe he=>?_,λx g hx=>?_⟩
   ·rcases E1.mp he with rfl|he
    ·exact⟨hc2,eP (by simp[cellsOf]),u,hdat,hrel⟩
    ·rw[EW.mp he];refine⟨hd2,eP ?_,u2,hdat2,hrel2⟩;show List.lookup d ((c,o)::[(d,o')])=some o';rw[Fz,show (d == c)=false from beq_eq_false_iff_ne.mpr (Ne.symm ncd),Fz,beq_self_eq_true]
   ·have hm:=iO (hcl.fr x g hx).1;simp at hm;rcases hm with rfl|rfl
    ·first|(rw[hc2]at hx;cases hx;exact⟨_,ES,rfl,rfl⟩)|(rw[hd2]at hx;cases hx;exact⟨_,EN _ (EW.mpr rfl),rfl,rfl⟩)
    ·first|(rw[hc2]at hx;cases hx;exact⟨_,ES,rfl,rfl⟩)|(rw[hd2]at hx;cases hx;exact⟨_,EN _ (EW.mpr rfl),rfl,rfl⟩)
  have hF:=om (P:=P) (w:=w) (K:=K) (mg:=mg) (base:=base) (k:=0) hf hcl (["p","q"]:List Str) [⟨Fp "ups",c,o,V.ref lu⟩,⟨Fp "table",d,o',V.ref tq⟩] (λvs H Q=>∃p q:Nat,vs=[.int (p:Nat),.int (q:Nat)]/\(p:Int)<m/\(q:Int)<m/\∀H',Ext H H'->Q (.bl (kr us M p q)) H') (λH=>Rows H tq rs m.toNat M/\H lu=some (.lst (List.map V.ref cu))/\aP H cu us) ⟨rfl,rfl,rfl,by decide +kernel,by decide +kernel⟩ (λ_ _ _ us hl=>by obtain⟨u1,u2,rfl⟩:=ka hl;rfl) (λvs H Q h=>by obtain⟨p,q,rfl,_⟩:=h;rfl) (λA outer s H vs Q hrL hpre hI hR=>by
   obtain⟨p,q,rfl,hp,hq,hQ⟩:=hR;have hlk:=hpre.2.2.look;obtain⟨hI1,hI2,hI3⟩:=hI;have hI1':Rows (aZ (cellsOf [⟨Fp "ups",c,o,V.ref lu⟩,⟨Fp "table",d,o',V.ref tq⟩]) H) tq rs m.toNat M:=⟨gj hlk hI1.1 (λf z=>by cases z),λi r hi=>gj hlk (hI1.2 i r hi) (λf z=>by cases z)⟩;have hI2':=gj hlk hI2 (λf z=>by cases z);have hI3':aP (aZ (cellsOf [⟨Fp "ups",c,o,V.ref lu⟩,⟨Fp "table",d,o',V.ref tq⟩]) H) cu us:=⟨hI3.1,λj b w e1 e2=>gj hlk (hI3.2 j b w e1 e2) (λf z=>by cases z)⟩;refine⟨_,(bh (Dw K rfl) rfl T.any_ PyProof.Rows.boot_any (aa (cx ["way"] [3,1,0] (cK K (pv 2)) (λ_=>(aK (i:=0) (show(["way","table","q","p"]:List Str).Nodup from by decide +kernel) rfl (Or.inl rfl) (Or.inr rfl))) (λ_=>(dR (aS bG (ah (aC K) (pv 0) af (λ_ _=>rfl)) (pv 3) (aQ _)))) (λ_=>(ah (aI K) (ah (aI K) (pv 1) (ah (aC K) (pv 0) af (λ_ _=>rfl)) (λ_ _=>rfl)) (pv 2) (λ_ _=>rfl)))) ae)),?_⟩;have hb:∀H',Ext (aZ (cellsOf [⟨Fp "ups",c,o,V.ref lu⟩,⟨Fp "table",d,o',V.ref tq⟩]) H) H'->Ext H (bM (cellsOf [⟨Fp "ups",c,o,V.ref lu⟩,⟨Fp "table",d,o',V.ref tq⟩]) H'):=λH' e=>vX hlk e;generalize aZ (cellsOf [⟨Fp "ups",c,o,V.ref lu⟩,⟨Fp "table",d,o',V.ref tq⟩]) H=HU at hI1' hI2' hI3' hb ⊢;show kH _ _ [some (.int (p:Nat)),some (.int (q:Nat)),some (.ref lu),some (.ref tq)] _ _;walk_at"";refine cH (ag.of hI2') ?_;refine g9 (xs:=List.map V.ref cu) (λi ys H'=>H'=HU/\ys=(((us.take i).filter λu=>decide (u.room=(p:Int))).map λu=>M u.other.toNat q).map V.bl) (br (by rw[EK];omega)) ⟨rfl,rfl⟩ (λi ys H' _ h=>⟨by rw[h.1];exact ag.of hI2',by rw[h.2,EK,EK];exact Fi (List.length_filter_le _ _) (by rw[FA];omega)⟩) ?_ ?_
   ·rintro i v ys H4 hx ⟨rfl,rfl⟩;rw[EM]at hx;obtain⟨b,hb',rfl⟩:=EX.mp hx;have hi:i<us.length:=by rw[←hcu];exact(EU.mp hb').1
    have gu:us[i]?=some us[i]:=EL hi;have hb0:=hI3'.2 i b _ hb' gu;generalize us[i]=uu at gu hb0;have oku:=ok.ok uu (hin uu (EV gu)).1;have v0:=oku.r0;have v1:=oku.r1;have v2:=oku.o0;have v3:=oku.o1;have x2:uu.other.toNat<rs.length:=by omega
    have r2:rs[uu.other.toNat]?=some rs[uu.other.toNat]:=EL x2;have w2:=hI1'.2 _ _ r2;generalize rs[uu.other.toNat]=a2 at r2 w2;have at2:bz (rs.map V.ref) uu.other=some (.ref a2):=dP v2 (by rw[EM,r2];rfl);walk_at"";refine aB (ai.of hb0) (v:=.int uu.room) rfl ?_;walk_at"";cases hc:decide (uu.room=(p:Int))with
    | true=>
     refine aD ?_;walk_at"";refine aB (ai.of hb0) (v:=.int uu.other) rfl ?_;walk_at"";refine aF (ag.of hI1'.1) at2 ?_;walk_at"";refine aF (ag.of w2) (cF (by omega) (by omega)) ?_;rw[EY];refine⟨rfl,?_⟩;rw[List.take_add_one,gu,List.filter_append,E3,E3];congr 1;show[V.bl _]=List.map V.bl (List.map _ (List.filter _ [uu]));rw[List.filter_cons,FI hc];rfl
    | false=>
     refine az ⟨rfl,?_⟩;have hno:List.filter (λu:Way=>decide (u.room=(p:Int))) [uu]=[]:=by rw[List.filter_cons,FH (by rw[hc];exact E2)];rfl
     rw[List.take_add_one,gu,List.filter_append];show _=List.map V.bl (List.map _ (_++List.filter _ [uu]));rw[hno,List.append_nil]
   ·rintro ys H4 p9 ⟨hH,rfl⟩ hp9;subst hH;rw[EK,hcu,Ff];have e9:=aX (o:=.lst (((us.filter λu=>decide (u.room=(p:Int))).map λu=>M u.other.toNat q).map V.bl)) hp9;walk_at"";refine⟨p9,_,rfl,ag.of aE,?_⟩;exact λ_=>hQ _ (hb _ e9))
  refine⟨vh,m,ws,fl,_,kr us M,rfl,hv3,ok,hF,⟨⟨ex _ _ hf,ex _ _ hc',hcaps⟩,hrows3,hlu3,hau3⟩,λH H' e h=>⟨h.1.ext e,h.2.1.ext e,e _ _ h.2.2.1,h.2.2.2.ext e⟩,λl ps H4 e4 hl hl4 hps=>?_⟩;obtain⟨a1,a2,a3,a4⟩:=held hn3 e4;refine⟨a1,q l _ ((e02.et.trans e3).trans a2.et) (t3.ext a2) ⟨ps,kr us M,a4 _ _ hl4 (λf z=>by cases z),b9 (λa x h=>a4 _ _ h (λf z=>by cases z)) hps,λi j hi hj=>?_⟩⟩;unfold kr bf;rw[List.any_map,Fm];constructor
  ·rintro⟨x,hx,hm⟩;obtain⟨x1,x2⟩:=List.mem_filter.mp hx;have x2:=of_decide_eq_true x2;obtain⟨y1,y2⟩:=hin x x1;exact⟨x,y1,y2,by omega,(km _ _ (iE ok.ok y1).2 hj).mp hm⟩
  ·rintro⟨x,h1,h2,h3,h4⟩;have r0:=(ok.ok x h1).r0;refine⟨x,List.mem_filter.mpr ⟨by rw[hus];exact List.mem_filter.mpr ⟨h1,FG h2⟩,FG (by omega)⟩,?_⟩;exact(km _ _ (iE ok.ok h1).2 hj).mpr h4
def dh(us:List Way)(x:Bfs.Pl):List Bfs.Pl:=(us.filter λw=>cR w x.1 x.2).map λw=>(w.other,x.2+rz w.deed)
def vL(K:EG):Sp:=λvs H Q _=>∃l bs us p x,vs=[.ref l,.ref p]/\H l=some (.lst (List.map V.ref bs))/\aP H bs us/\(∀w∈us,bZ w.deed)/\us.length<=100/\aA H p x/\∀l' ps H',Ext H H'->H l'=none->H' l'=some (.lst (List.map V.ref ps))->Paired (aA H') ps (dh us x)->Q (.ref l') H'
abbrev mB:Stmt:=stq 26
def uD:FnScope ["ways","place"] ["ways","place"] (aM mB):=⟨rfl,rfl,rfl,by decide +kernel,rfl,by decide +kernel,by decide +kernel⟩
def yl{P:Program}{w:World}{K:EG}{mg:Str->Option Value}{base:Heap}(D:Dfn K mg "led_to_from" mB ["ways","place"])(T:Blt mg)(C_is_open:Cal P w K mg base "is_open" 1 ["way","place"] (vx K))(C_led_to:Cal P w K mg base "led_to" 2 ["way","place"] (rJ K)):Cal P w K mg base "led_to_from" 3 ["ways","place"] (vL K):=by
 have nd:=(uD).nd;refine D.ok uD (λvs H Q E h=>?_) (λX hX H vs Q E h=>?_)
 ·obtain⟨l,bs,us,p,x,rfl,_⟩:=h;rfl
 ·obtain⟨f,cdv,A,outer,s,H0,E0,rfl,hr⟩:=hX;obtain⟨l,bs,us,p,x,rfl,hl,hal,hdd,hul,hpx,q⟩:=h;have hbl:=hal.1;refine⟨_,(@ao _ _ _ (@aL _ _ _ _ (cx ["way"] [1] (cK K (pv 0)) (λ_=>(aK (i:=0) (show(["way","place"]:List Str).Nodup from by decide +kernel) rfl (Or.inl rfl) (Or.inr rfl))) (λ_=>(dR (bQ (aH C_is_open hr (@aa _ _ _ _ _ (pv 0) (@aa _ _ _ _ _ (pv 1) ae rfl) rfl))))) (λ_=>(aH C_led_to hr (@aa _ _ _ _ _ (pv 0) (@aa _ _ _ _ _ (pv 1) ae rfl) rfl)))))),?_⟩;walk_at"";refine cH (ag.of hl) ?_;refine g9 (xs:=List.map V.ref bs) (λi ys H'=>Ext H H'/\∃ps,ys=List.map V.ref ps/\Paired (aA H') ps (dh (us.take i) x)) (br (by rw[EK];omega)) ⟨Ext.rfl' _,[],rfl,.nil⟩ (λi ys H' _ h=>by obtain⟨e,ps,rfl,hps⟩:=h;refine⟨ag.of (e _ _ hl),?_⟩;rw[EK,dI hps];unfold dh;rw[EK];exact Fi (List.length_filter_le _ _) (by rw[FA];omega)) ?_ ?_
  ·rintro i v ys H1 hx ⟨e1,ps,rfl,hps⟩;rw[EM]at hx;obtain⟨b,hb,rfl⟩:=EX.mp hx;have hi:i<us.length:=by rw[←hbl];exact(EU.mp hb).1
   have gu:us[i]?=some us[i]:=EL hi;have hb0:=e1 _ _ (hal.2 i b _ hb gu);generalize us[i]=u at gu hb0;have hpx1:aA H1 p x:=e1 _ _ hpx;walk_at"";refine⟨b,u,p,x,rfl,hb0,hpx1,?_⟩;have step:dh (us.take (i+1)) x=dh (us.take i) x++dh [u] x:=by unfold dh;rw[List.take_add_one,gu,List.filter_append,E3];rfl
   cases ho:cR u x.1 x.2 with
   | false=>
    refine rd_exb (az ⟨e1,ps,rfl,?_⟩);rw[step];have:dh [u] x=[]:=by unfold dh;rw[List.filter_cons,FH (by rw[ho];exact E2)];rfl
    rw[this,List.append_nil];exact hps
   | true=>
    refine rd_exb (aD ?_);walk_at"";refine⟨b,u,p,x,rfl,hb0,hdd u (EV gu),hpx1,λt H2 e2 ht _=>?_⟩;refine⟨e1.trans e2,ps++[t],?_,?_⟩
    ·rw[E3];rfl
    ·rw[step];have:dh [u] x=[(u.other,x.2+rz u.deed)]:=by unfold dh;rw[List.filter_cons,FI ho];rfl
     rw[this];exact jB (b9 (λa x h=>e2 _ _ h) hps) ht
  ·rintro ys H1 p9 ⟨e1,ps,rfl,hps⟩ hp9;rw[EK,hbl,Ff]at hps;have e2:=aX (o:=.lst (List.map V.ref ps)) hp9;have h9:H p9=none:=by
    cases z:H p9 with
    | none=>rfl
    | some o=>rw[e1 _ _ z]at hp9;cases hp9
   exact q p9 ps _ (e1.trans e2) h9 aE (b9 (λa x h=>e2 _ _ h) hps)
structure WT(H:Hp)(c:Addr)(n:Nat)(ls:List Addr)(ws:List Way):Prop where
 at_:H c=some (.lst (List.map V.ref ls))
 len:ls.length=n
 it:∀(r:Nat) (l:Addr),ls[r]?=some l->∃bs,H l=some (.lst (List.map V.ref bs))/\aP H bs (ws.filter λw=>decide (w.room=(r:Int)))
def WT.ext{H H':Hp}{c:Addr}{n:Nat}{ls:List Addr}{ws:List Way}(e:Ext H H')(h:WT H c n ls ws):WT H' c n ls ws:=
 ⟨e _ _ h.at_,h.len,λr l hl=>by obtain⟨bs,h1,h2⟩:=h.it r l hl;exact⟨bs,e _ _ h1,h2.ext e⟩⟩
def WT.et{H H':Hp}{c:Addr}{n:Nat}{ls:List Addr}{ws:List Way}(e:Et H H')(h:WT H c n ls ws):WT H' c n ls ws:=
 ⟨e _ _ h.at_ (λps z=>by cases z),h.len,λr l hl=>by obtain⟨bs,h1,h2⟩:=h.it r l hl;exact⟨bs,e _ _ h1 (λps z=>by cases z),h2.et e⟩⟩
def Bt{ws:List Way}{i:Nat}{w:Way}(h:ws[i]?=some w)(p:Way->Bool):(ws.take (i+1)).filter p=(ws.take i).filter p++if p w then[w]else[]:=by rw[List.take_add_one,h,List.filter_append];congr 1;show List.filter p [w]=_;rw[List.filter_cons];rfl
def vw(K:EG):Sp:=λvs H Q _=>∃v m ws,vs=[v]/\bw H v m ws/\HOuse m ws/\∀c ls H',Ext H H'->WT H' c m.toNat ls ws->Q (.ref c) H'
abbrev ny:Stmt:=stq 37
def sA:FnScope ["house","ways","way"] ["house"] (aM ny):=⟨rfl,rfl,rfl,by decide +kernel,rfl,by decide +kernel,by decide +kernel⟩
def yw{P:Program}{w:World}{K:EG}{mg:Str->Option Value}{base:Heap}(D:Dfn K mg "ways_by_room" ny ["house"])(T:Blt mg):Cal P w K mg base "ways_by_room" 1 ["house"] (vw K):=by
 have nd:=(sA).nd;refine D.ok sA (λvs H Q E h=>?_) (λX hX H vs Q E h=>?_)
 ·obtain⟨v,m,ws,rfl,_⟩:=h;rfl
 ·obtain⟨f,cdv,A,outer,s,H0,E0,rfl,hr⟩:=hX;obtain⟨v,m,ws,rfl,hv,ok,q⟩:=h;obtain⟨hp0,hq0,rfl,hh,hw⟩:=id hv;obtain⟨bs,hq,hal⟩:=b0.al hw;have hbl:=hal.1;have few:=ok.few;have m1:=ok.m1;have m12:=ok.m12;refine⟨_,(@aj _ _ _ _ _ (gC (i:=1) ["room"] [] nd rfl (Or.inl rfl) (bR rfl T.range_ (@aa _ _ _ _ _ (@ah _ _ _ _ _ _ _ (aC K) (pv 0) af (λ_ _=>rfl)) ae rfl)) (λ_=>(aK (i:=0) (show(["room"]:List Str).Nodup from by decide +kernel) rfl (Or.inl rfl) (Or.inr rfl))) (λ_=>dD) (λ_=>(@bq _ _ _ _ ae)))
    (@aj _ _ _ _ _ (bH PassesOwn.never rfl (f9 K (@ah _ _ _ _ _ _ _ (aC K) (pv 0) af (λ_ _=>rfl))) (aK (i:=2) nd rfl (Or.inl rfl)) (@ao _ _ _ (bt (bE K ET E7 E8 bL (@ah _ _ _ _ _ _ _ (aI K) (pv 1) (@ah _ _ _ _ _ _ _ (aC K) (pv 2) af (λ_ _=>rfl)) (λ_ _=>rfl)) (@aa _ _ _ _ _ (pv 2) ae rfl)))))
    (@ao _ _ _ (@aL _ _ _ _ (pv 1))))),?_⟩
  walk_at"";refine aB (ai.of hh) (v:=.int m) rfl ?_;walk_at"";refine bS (by omega) ?_;refine dA (λi ys H'=>Ext H H'/\∃ls:List Addr,ys=List.map V.ref ls/\ls.length=i/\ls.Nodup/\∀l∈ls,H' l=some (.lst [])/\H l=none) (br (by omega)) ⟨Ext.rfl' _,[],rfl,rfl,List.nodup_nil,λl h=>(nomatch h)⟩ (λi ys H' _ h=>by obtain⟨_,ls,rfl,h,_⟩:=h;rw[EK,h];exact E6 _) ?_ ?_
  ·rintro i ys H' hi ⟨e,ls,rfl,hl,hnd,hls⟩;walk_at"";refine aD ?_;walk_at"";refine aJ λl H1 e1 hl1 hln=>?_;refine⟨e.trans e1,ls++[l],by rw[E3];rfl,by rw[E4,hl];rfl,?_,?_⟩
   ·rw[List.nodup_append];refine⟨hnd,by simp,λa ha b hb z=>?_⟩;have hbl:b=l:=by simpa using hb
    subst hbl;subst z;rw[(hls a ha).1]at hln;cases hln
   ·intro a ha;rcases E9.mp ha with z|z
    ·exact⟨e1 _ _ (hls a z).1,(hls a z).2⟩
    ·have hal:a=l:=by simpa using z
     subst hal;refine⟨hl1,?_⟩;cases y:H a with
     | none=>rfl
     | some o=>rw[e _ _ y]at hln;cases hln
  ·rintro ys H1 c ⟨e,ls,rfl,hl,hnd,hls⟩ hc;have eN:Ext H (upd H1 c (.lst (List.map V.ref ls))):=e.trans (aX hc);have hcH:H c=none:=by
    cases y:H c with
    | none=>rfl
    | some o=>rw[e _ _ y]at hc;cases hc
   have ncl:c∉ls:=λz=>by rw[(hls c z).1]at hc;cases hc
   have hcl:∀l∈ls,H l=none:=λl h=>(hls l h).2;have hit:∀(r:Nat) (l:Addr),ls[r]?=some l->∃bs,(upd H1 c (.lst (List.map V.ref ls))) l=some (.lst (List.map V.ref bs))/\aP (upd H1 c (.lst (List.map V.ref ls))) bs ((ws.take 0).filter λw=>decide (w.room=(r:Int))):=λr l hr=>⟨[],(aX hc) _ _ (hls l (EV hr)).1,aP.nil _⟩;have hcc:(upd H1 c (.lst (List.map V.ref ls))) c=_:=aE;generalize upd H1 c (.lst (List.map V.ref ls))=H2 at eN hit hcc ⊢;clear hls hc e H1;walk_at"";refine aB (ai.of (eN _ _ hh)) (v:=.ref hq0) rfl ?_;walk_at"";refine gh (ai.of (eN _ _ hq)) ?_;refine nA (xs:=bs.map V.ref) (λi σ H'=>∃k1,σ=[some (.ref hp0),some (.ref c),k1]/\Ext H H'/\H' c=some (.lst (List.map V.ref ls))/\∀(r:Nat) (l:Addr),ls[r]?=some l->∃bs,H' l=some (.lst (List.map V.ref bs))/\aP H' bs ((ws.take i).filter λw=>decide (w.room=(r:Int)))) ⟨none,rfl,eN,hcc,hit⟩ (λi σ H' _ h=>by obtain⟨_,_,e,_⟩:=h;exact ai.of (e _ _ hq)) ?_ ?_
   ·rintro i u σ H3 hu ⟨k1,rfl,e3,hc3,hit3⟩;rw[EM]at hu;obtain⟨b,hb,rfl⟩:=EX.mp hu;have hi:i<ws.length:=by rw[←hbl];exact(EU.mp hb).1
    have hwi:ws[i]?=some ws[i]:=EL hi;have hbw:=e3 _ _ (hal.2 i b _ hb hwi);generalize ws[i]=w0 at hwi hbw;have okw:=ok.ok w0 (EV hwi);have r0:=okw.r0;have r1:=okw.r1;have hlr:w0.room.toNat<ls.length:=by rw[hl];omega
    have hlg:ls[w0.room.toNat]?=some ls[w0.room.toNat]:=EL hlr;generalize ls[w0.room.toNat]=l at hlg;have hlm:=EV hlg;obtain⟨cs,hl3,hcs⟩:=hit3 _ _ hlg;have hcsl:cs.length<=100:=by rw[hcs.1];exact Fi (List.length_filter_le _ _) (by rw[FA];omega)
    have ncl':c≠l:=λz=>ncl (z ▸ hlm);walk_at"";refine aB (ai.of hbw) (v:=.int w0.room) rfl ?_;walk_at"";refine aF (ag.of hc3) (v:=.ref l) (dP r0 (by rw[EM,hlg];rfl)) ?_;refine⟨cB (ag.of hl3),?_⟩;walk_at"";refine bJ hl3 (by rw[EK];exact Nat.lt_of_le_of_lt hcsl (by decide)) ?_;walk_at"";refine⟨_,rfl,bK e3 (hcl l hlm),by rw[ay ncl'];exact hc3,λr l' hr=>?_⟩;rw[Bt hwi];by_cases hll:l'=l
    ·subst hll;have hrr:r=w0.room.toNat:=(List.getElem?_inj (EU.mp hr).1 hnd).mp (by rw[hr,hlg]);subst hrr;refine⟨cs++[b],?_,?_⟩
     ·rw[aE,E3];rfl
     ·rw[FI (FG (by omega))];have put:aP (upd H3 l' (.lst (List.map V.ref cs++[.ref b]))) cs ((ws.take i).filter λw=>decide (w.room=((w0.room.toNat:Nat):Int))):=hcs.put hl3;exact put.snoc (by rw[ay (bO hbw hl3 (λz=>by cases z))];exact hbw)
    ·obtain⟨ds,h1,h2⟩:=hit3 r l' hr;have hrr:¬(w0.room=(r:Int)):=λz=>hll (by
      have:w0.room.toNat=r:=by omega
      rw[this,hr]at hlg;exact Fq hlg)
     rw[FH (by simpa using hrr),List.append_nil];exact⟨ds,by rw[ay hll];exact h1,h2.put hl3⟩
   ·rintro σ H3 ⟨k1,rfl,e3,hc3,hit3⟩;rw[EK,hbl,Ff]at hit3;walk_at"";exact q c ls H3 e3 ⟨hc3,hl,hit3⟩
def LB(ws:List Way)(n:Nat)(top:Int)(x y:Bfs.Pl):Prop:=(∃w∈ws,cR w x.1 x.2=true/\y=(w.other,x.2+rz w.deed)/\y.2<=top)\/(top<=x.2/\∃i j:Nat,Kpt ws n i j/\x.1=(i:Int)/\y=((j:Int),top))
def gL{w:Way}{r n:Int}(h:cR w r n=true):w.room=r:=by unfold cR at h;rw[Fo]at h;exact of_decide_eq_true h.1
def qf(K:EG):Sp:=λvs H Q _=>∃c kl top p m ws ls x,vs=[.ref c,.ref kl,.int top,.ref p]/\WT H c m.toNat ls ws/\fh H kl m.toNat (Kpt ws m.toNat)/\HOuse m ws/\aA H p x/\0<=x.1/\x.1<m ∧
 ∀l ps ys H',Ext H H'->H l=none->H' l=some (.lst (List.map V.ref ps))->Paired (aA H') ps ys->(∀y,y∈ys↔LB ws m.toNat top x y)->ys.length<=300->Q (.ref l) H'
abbrev lx:Stmt:=stq 39
def qB:FnScope ["ways","keeps","top","here","low"] ["ways","keeps","top","here"] (aM lx):=⟨rfl,rfl,rfl,by decide +kernel,rfl,by decide +kernel,by decide +kernel⟩
def Dl{P:Program}{w:World}{K:EG}{mg:Str->Option Value}{base:Heap}(D:Dfn K mg "low_beside" lx ["ways","keeps","top","here"])(T:Blt mg)(C_led_to_from:Cal P w K mg base "led_to_from" 3 ["ways","place"] (vL K)):Cal P w K mg base "low_beside" 4 ["ways","keeps","top","here"] (qf K):=by
 have nd:=(qB).nd;refine D.ok qB (λvs H Q E h=>?_) (λX hX H vs Q E h=>?_)
 ·obtain⟨c,kl,top,p,m,ws,ls,x,rfl,_⟩:=h;rfl
 ·obtain⟨f,cdv,A,outer,s,H0,E0,rfl,hr⟩:=hX;obtain⟨c,kl,top,p,m,ws,ls,x,rfl,wt,prs,ok,hpx,x0,x1,q⟩:=h;have m1:=ok.m1;have m12:=ok.m12;have few:=ok.few;have hlr:x.1.toNat<ls.length:=by rw[wt.len];omega
  have hlg:ls[x.1.toNat]?=some ls[x.1.toNat]:=EL hlr;generalize ls[x.1.toNat]=l0 at hlg;obtain⟨bs,hl0,hal⟩:=wt.it _ _ hlg;have hx1:((x.1.toNat:Nat):Int)=x.1:=by omega
  rw[hx1]at hal;have husl:(ws.filter λw=>decide (w.room=x.1)).length<=100:=Fi (List.length_filter_le _ _) few;obtain⟨kps,g,hkl,hkp,hkg⟩:=prs;have hkpl:=dI hkp;have hkpn:=lC (n:=m.toNat) (g:=g) m.toNat;have hkpm:m.toNat*m.toNat<=12*12:=Nat.mul_le_mul (by omega) (by omega);refine⟨_,(@aj _ _ _ _ _ (gC (i:=4) ["there"] [2] nd rfl (Or.inl rfl) (cK K (aH C_led_to_from hr (@aa _ _ _ _ _ (@ah _ _ _ _ _ _ _ (aI K) (pv 0) (@ah _ _ _ _ _ _ _ (aC K) (pv 3) af (λ_ _=>rfl)) (λ_ _=>rfl)) (@aa _ _ _ _ _ (pv 3) ae rfl) rfl))) (λ_=>(aK (i:=0) (show(["there","top"]:List Str).Nodup from by decide +kernel) rfl (Or.inl rfl) (Or.inr rfl))) (λ_=>(dR (aS gY (@ah _ _ _ _ _ _ _ (aC K) (pv 0) af (λ_ _=>rfl)) (pv 1) (aQ _)))) (λ_=>(pv 0)))
    (@aj _ _ _ _ _ (@bU _ _ _ _ _ _ _ _ (aS fB (@ah _ _ _ _ _ _ _ (aC K) (pv 3) af (λ_ _=>rfl)) (pv 2) (aQ _)) (@ao _ _ _ (@aL _ _ _ _ (pv 4))) aY)
    (@ao _ _ _ (@aL _ _ _ _ (aq jL (pv 4) (cx ["p","q"] [2,3] (cK K (pv 1)) (λ_=>(gm (n:=2) K rfl (b6 (aK (i:=0) (show(["p","q","top","here"]:List Str).Nodup from by decide +kernel) rfl (Or.inl rfl) (Or.inr rfl)) (b6 (aK (i:=1) (show(["p","q","top","here"]:List Str).Nodup from by decide +kernel) rfl (Or.inl rfl) (Or.inr rfl)) fU)))) (λ_=>(dR (aS bG (pv 0) (@ah _ _ _ _ _ _ _ (aC K) (pv 3) af (λ_ _=>rfl)) (aQ _)))) (λ_=>(@bj _ _ _ _ _ (@aa _ _ _ _ _ (pv 1) (@aa _ _ _ _ _ (pv 2) ae rfl) rfl))))))))),?_⟩
  walk_at"";refine aB (ai.of hpx) (v:=.int x.1) rfl ?_;walk_at"";refine aF (ag.of wt.at_) (v:=.ref l0) (dP x0 (by rw[EM,hlg];rfl)) ?_;walk_at"";refine⟨l0,bs,_,p,x,rfl,hl0,hal,λw hw=>(ok.ok w (List.mem_filter.mp hw).1).dd,husl,hpx,λl1 ps1 H1 e1 hn1 hl1 hps1=>?_⟩;have hp1l:=dI hps1;have hledl:(dh (ws.filter λw=>decide (w.room=x.1)) x).length<=100:=by unfold dh;rw[EK];exact Fi (List.length_filter_le _ _) husl
  have hled:∀y,y∈dh (ws.filter λw=>decide (w.room=x.1)) x↔∃w∈ws,cR w x.1 x.2=true/\y=(w.other,x.2+rz w.deed):=λy=>by
   unfold dh;constructor
   ·intro h;obtain⟨w,hw,rfl⟩:=List.mem_map.mp h;obtain⟨h1,h2⟩:=List.mem_filter.mp hw;exact⟨w,(List.mem_filter.mp h1).1,h2,rfl⟩
   ·rintro⟨w,hw,ho,rfl⟩;exact List.mem_map.mpr ⟨w,List.mem_filter.mpr ⟨List.mem_filter.mpr ⟨hw,FG (gL ho)⟩,ho⟩,rfl⟩
  generalize dh (ws.filter λw=>decide (w.room=x.1)) x=zs at hps1 hp1l hledl hled;walk_at"";refine cH (ag.of hl1) ?_;refine g9 (xs:=List.map V.ref ps1) (λi ys H'=>H'=H1/\∃cs,ys=List.map V.ref cs/\Paired (aA H1) cs ((zs.take i).filter λy=>decide (y.2<=top))) (br (by rw[EK];omega)) ⟨rfl,[],rfl,.nil⟩ (λi ys H' _ h=>by obtain⟨rfl,cs,rfl,hcs⟩:=h;refine⟨ag.of hl1,?_⟩;rw[EK,dI hcs];exact Fi (List.length_filter_le _ _) (by rw[FA];omega)) ?_ ?_
  ·rintro i v ys H2 hx ⟨rfl,cs,rfl,hcs⟩;rw[EM]at hx;obtain⟨b,hb,rfl⟩:=EX.mp hx;obtain⟨y,hy,hby⟩:=fG hps1 hb;walk_at"";refine aB (ai.of hby) (v:=.int y.2) rfl ?_;walk_at"";have step:(zs.take (i+1)).filter (λy=>decide (y.2<=top))=(zs.take i).filter (λy=>decide (y.2<=top))++if decide (y.2<=top)then[y]else[]:=by rw[List.take_add_one,hy,List.filter_append];congr 1;show List.filter _ [y]=_;rw[List.filter_cons];rfl
   cases hc:decide (y.2<=top)with
   | true=>
    refine aD ?_;walk_at"";refine⟨rfl,cs++[b],?_,?_⟩
    ·rw[E3];rfl
    ·rw[step,hc];exact jB hcs hby
   | false=>
    refine az ⟨rfl,cs,rfl,?_⟩;rw[step,hc];simpa using hcs
  ·rintro ys H2 p9 ⟨hH,cs,rfl,hcs⟩ hp9;subst hH;rw[EK,hp1l,Ff]at hcs;have e2:=aX (o:=.lst (List.map V.ref cs)) hp9;have h9:(upd H2 p9 (.lst (List.map V.ref cs))) p9=_:=aE;have hcs2:=b9 (λa x h=>e2 _ _ h) hcs;have hfn:H p9=none:=by
    cases z:H p9 with
    | none=>rfl
    | some o=>rw[e1 _ _ z]at hp9;cases hp9
   have e02:=e1.trans e2;generalize upd H2 p9 (.lst (List.map V.ref cs))=H3 at e2 h9 hcs2 e02 ⊢;have hcl:=dI hcs;have hfl:=List.length_filter_le (λy:Bfs.Pl=>decide (y.2<=top)) zs;have first:∀y,y∈zs.filter (λy=>decide (y.2<=top))↔∃w∈ws,cR w x.1 x.2=true/\y=(w.other,x.2+rz w.deed)/\y.2<=top:=λy=>by
    rw[List.mem_filter,hled];constructor
    ·rintro⟨⟨w,h1,h2,h3⟩,h4⟩;exact⟨w,h1,h2,h3,of_decide_eq_true h4⟩
    ·rintro⟨w,h1,h2,h3,h4⟩;exact⟨⟨w,h1,h2,h3⟩,FG h4⟩
   walk_at"";refine aB (ai.of (e02 _ _ hpx)) (v:=.int x.2) rfl ?_;walk_at"";cases hc:decide (x.2<top)with
   | true=>
    have hc':=of_decide_eq_true hc;refine aD ?_;walk_at"";refine q p9 cs _ H3 e02 hfn h9 hcs2 (λy=>?_) (by omega);rw[first];constructor
    ·exact λh=>.inl h
    ·rintro(h|⟨h,_⟩)
     ·exact h
     ·omega
   | false=>
    have hc':=of_decide_eq_false hc;refine az ?_;walk_at"";have hkl3:=e02 _ _ hkl;have hkp3:=b9 (λa x h=>e02 _ _ h) hkp;refine cH (ag.of hkl3) ?_;refine g9 (xs:=List.map V.ref kps) (λi ys H'=>Ext H3 H'/\∃ds,ys=List.map V.ref ds/\Paired (aA H') ds ((((cZ m.toNat g m.toNat).take i).filter λz=>decide (z.1=x.1)).map λz=>(z.2,top))) (br (by rw[EK];omega)) ⟨Ext.rfl' _,[],rfl,.nil⟩ (λi ys H' _ h=>by obtain⟨e,ds,rfl,hds⟩:=h;refine⟨ag.of (e _ _ hkl3),?_⟩;rw[EK,dI hds,EK];exact Fi (List.length_filter_le _ _) (by rw[FA];omega)) ?_ ?_
    ·rintro i v ys H4 hx ⟨e4,ds,rfl,hds⟩;rw[EM]at hx;obtain⟨b,hb,rfl⟩:=EX.mp hx;obtain⟨z,hz,hbz⟩:=fG hkp3 hb;have hbz4:aA H4 b z:=e4 _ _ hbz;refine gN (ai.of hbz4) rfl ?_;walk_at"";refine aB (ai.of ((e02.trans e4) _ _ hpx)) (v:=.int x.1) rfl ?_;walk_at"";have step:(((cZ m.toNat g m.toNat).take (i+1)).filter (λz=>decide (z.1=x.1))).map (λz=>(z.2,top))=(((cZ m.toNat g m.toNat).take i).filter (λz=>decide (z.1=x.1))).map (λz=>(z.2,top))++if decide (z.1=x.1)then[(z.2,top)]else[]:=by rw[List.take_add_one,hz,List.filter_append,E3];congr 1;show List.map _ (List.filter _ [z])=_;rw[List.filter_cons];split<;>rfl
     cases hc2:decide (z.1=x.1)with
     | true=>
      refine aD ?_;walk_at"";refine aJ λt H5 e5 ht _=>?_;refine⟨e4.trans e5,ds++[t],?_,?_⟩
      ·rw[E3];rfl
      ·rw[step,hc2];exact jB (b9 (λa x h=>e5 _ _ h) hds) ht
     | false=>
      refine az ⟨e4,ds,rfl,?_⟩;rw[step,hc2];simpa using hds
    ·rintro ys H4 p8 ⟨e4,ds,rfl,hds⟩ hp8;rw[EK,hkpl,Ff]at hds;have e5:=aX (o:=.lst (List.map V.ref ds)) hp8;have h8:(upd H4 p8 (.lst (List.map V.ref ds))) p8=_:=aE;have hds5:=b9 (λa x h=>e5 _ _ h) hds;have e35:=e4.trans e5;generalize upd H4 p8 (.lst (List.map V.ref ds))=H5 at e5 h8 hds5 e35 ⊢;have hdl:=dI hds;rw[EK]at hdl;have hfl2:=List.length_filter_le (λz:Bfs.Pl=>decide (z.1=x.1)) (cZ m.toNat g m.toNat);walk_at"";refine jj (e35 _ _ h9) h8 (br (by rw[EK,EK];omega)) (bW λl' H6 e6 hl' hn'=>?_);rw[←E3]at hl';have e06:=(e02.trans e35).trans e6;have hn0:H l'=none:=by
      cases z:H l' with
      | none=>rfl
      | some o=>rw[(e02.trans e35) _ _ z]at hn';cases hn'
     refine q l' (cs++ds) _ H6 e06 hn0 hl' (wR (b9 (λa x h=>(e35.trans e6) _ _ h) hcs2) (b9 (λa x h=>e6 _ _ h) hds5)) (λy=>?_) (by rw[E4,EK];omega);rw[E9,first];constructor
     ·rintro(h|h)
      ·exact .inl h
      ·obtain⟨z,hz,rfl⟩:=List.mem_map.mp h;obtain⟨z1,z2⟩:=List.mem_filter.mp hz;obtain⟨i,j,hi,hj,hg,rfl⟩:=ip.mp z1;exact .inr ⟨by omega,i,j,(hkg i j hi hj).mp hg,(of_decide_eq_true z2).symm,rfl⟩
     ·rintro(h|⟨_,i,j,hk,hxi,rfl⟩)
      ·exact .inl h
      ·right;have hlt:=Kpt.lt ok.ok hk;exact List.mem_map.mpr ⟨((i:Int),(j:Int)),List.mem_filter.mpr ⟨ip.mpr ⟨i,j,hlt.1,hlt.2,(hkg i j hlt.1 hlt.2).mpr hk,rfl⟩,FG hxi.symm⟩,rfl⟩
structure RR(H0 H:Hp)(f rw:Addr)(qs:List Bfs.Pl):Prop where
 ext:Ext H0 H
 fn:H0 f=none
 rn:H0 rw=none
 d:∃kvs,H f=some (.dT kvs)/\Paired (λ(kv:List Key×V) z=>kv.1=aT z) kvs qs
 r:∃as,H rw=some (.lst (List.map V.ref as))/\Paired (aA H) as qs
def RR.step{H0 H H1:Hp}{f rw:Addr}{qs:List Bfs.Pl}(h:RR H0 H f rw qs)(e:Ext H H1):RR H0 H1 f rw qs:=by obtain⟨h1,h2,h3,⟨kvs,h4,h5⟩,as,h6,h7⟩:=h;exact⟨h1.trans e,h2,h3,⟨kvs,e _ _ h4,h5⟩,as,e _ _ h6,b9 (λa x h=>e _ _ h) h7⟩
def wc{kvs:List (List Key×V)}{qs:List Bfs.Pl}(h:Paired (λ(kv:List Key×V) z=>kv.1=aT z) kvs qs){x:Bfs.Pl}(hx:x∉qs):aW kvs (aT x)=none:=
 iZ (key:=λz=>z) (λ_ _ z=>z) h (by simpa using hx)
def xP{kvs:List (List Key×V)}{qs:List Bfs.Pl}(h:Paired (λ(kv:List Key×V) z=>kv.1=aT z) kvs qs)(nd:qs.Nodup){x:Bfs.Pl}(hx:x∈qs):∃v,aW kvs (aT x)=some v:=by obtain⟨v,hv,_⟩:=jG (key:=λz=>z) (λ_ _ z=>z) h (by simpa using nd) hx;exact⟨v,hv⟩
def RR.push{H0 H:Hp}{f rw th:Addr}{qs:List Bfs.Pl}{y:Bfs.Pl}{v:V}(h:RR H0 H f rw qs)(hy:y∉qs)(hth:aA H th y):
  ∃kvs,H f=some (.dT kvs)/\kvs.length=qs.length/\∃as,upd H f (.dT (putK kvs (aT y) v)) rw=some (.lst (List.map V.ref as))/\as.length=qs.length ∧
   RR H0 (upd (upd H f (.dT (putK kvs (aT y) v))) rw (.lst (List.map V.ref as++[.ref th]))) f rw (qs++[y]):=by
 obtain⟨h1,h2,h3,⟨kvs,h4,h5⟩,as,h6,h7⟩:=h;have nf:∀xs,(HO.dT kvs)≠.tup xs:=λxs z=>by cases z
 have nr:∀xs,(HO.lst (List.map V.ref as))≠.tup xs:=λxs z=>by cases z
 have ne:rw≠f:=bO h6 h4 (by intro z;cases z);have h6':upd H f (.dT (putK kvs (aT y) v)) rw=some (.lst (List.map V.ref as)):=by rw[ay ne];exact h6
 refine⟨kvs,h4,Paired.length h5,as,h6',Paired.length h7,bK (bK h1 h2) h3,h2,h3,⟨kvs++[(aT y,v)],?_,?_⟩,as++[th],?_,?_⟩
 ·rw[ay ne.symm,aE,jZ _ (wc h5 hy)]
 ·exact Paired.snoc h5 rfl
 ·rw[aE,E3];rfl
 ·exact jB (b9 (λa x z=>aA.put h6' nr (aA.put h4 nf z)) h7) (aA.put h6' nr (aA.put h4 nf hth))
structure RQ(S:Bfs.Pl->Bfs.Pl->Prop)(m T:Int)(x:Bfs.Pl)(qs:List Bfs.Pl)(i:Nat):Prop where
 nd:qs.Nodup
 has:x∈qs
 wk:∀z∈qs,∃n,Bfs.Rw S n x z
 ins:∀z∈qs,bC m T z
 cl:∀j,j<i->∀y,qs[j]?=some y->∀z,S y z->z∈qs
def RQ.done{S:Bfs.Pl->Bfs.Pl->Prop}{m T:Int}{x:Bfs.Pl}{qs:List Bfs.Pl}{i:Nat}(h:RQ S m T x qs i)(hi:qs.length<=i):∀z,z∈qs↔∃n,Bfs.Rw S n x z:=λz=>by
 refine⟨h.wk z,λ⟨n,hn⟩=>?_⟩;have go:∀(n:Nat) (a b:Bfs.Pl),Bfs.Rw S n a b->a∈qs->b∈qs:=by
  intro n a b hr;induction hr with
  | nil=>exact λh=>h
  | snoc _ hs ih=>
   intro ha;obtain⟨j,hj⟩:=Fy (ih ha);have:=(EU.mp hj).1;exact h.cl j (by omega) _ hj _ hs
 exact go n x z hn h.has
def ui(m T:Int)(S:Bfs.Pl->Bfs.Pl->Prop):List V->Hp->VK->Prop:=λvs H Q=>∃p y,vs=[.ref p]/\aA H p y/\bC m T y/\∀l ps ys H',Ext H H'->H l=none->H' l=some (.lst (List.map V.ref ps))->Paired (aA H') ps ys->(∀z,z∈ys↔S y z)->ys.length<=300->Q (.ref l) H'
def xu(P:Program)(w:World)(K:EG)(mg:Str->Option Value)(base:Heap):Sp:=λvs H Q _=>∃pa f pre x m T S,vs=[.ref pa,.ref f]/\aA H pa x/\bC m T x/\m<=12/\T<=2000/\FunR P w K mg base 5 f pre (ui m T S)/\pre H/\(∀H H',Ext H H'->pre H->pre H')/\(∀y z,bC m T y->S y z->bC m T z) ∧
 ∀l as qs H',Ext H H'->H' l=some (.lst (List.map V.ref as))->Paired (aA H') as qs->(∀z∈qs,bC m T z)->qs.length<=24012->(∀z,z∈qs↔∃n,Bfs.Rw S n x z)->Q (.ref l) H'
abbrev oJ:Stmt:=stq 38
def rG:FnScope ["place","beside","found","row","looked","here","there"] ["place","beside"] (aM oJ):=⟨rfl,rfl,rfl,by decide +kernel,rfl,by decide +kernel,by decide +kernel⟩
def Bc{P:Program}{w:World}{K:EG}{mg:Str->Option Value}{base:Heap}(D:Dfn K mg "reached" oJ ["place","beside"])(T:Blt mg):Cal P w K mg base "reached" 6 ["place","beside"] (xu P w K mg base):=by
 have nd:=(rG).nd;refine D.ok rG (λvs H Q E h=>?_) (λX hX H vs Q E h=>?_)
 ·obtain⟨pa,f,pre,x,m,T,S,rfl,_⟩:=h;rfl
 ·obtain⟨f,cdv,A,outer,s,H0,E0,rfl,hr⟩:=hX;obtain⟨pa,ff,pre,x,m,TT,S,rfl,hx,ix,hm12,hT,hF,hpre,hmono,hSin,q⟩:=h;refine⟨_,(@aj _ _ _ _ _ (@aG _ _ 2 _ _ _ _ nd rfl (Or.inl rfl) (nv (df hr) (pv 0) bX) rfl (Or.inl rfl))
    (@aj _ _ _ _ _ (@aG _ _ 3 _ _ _ _ nd rfl (Or.inl rfl) (@bq _ _ _ _ (@aa _ _ _ _ _ (pv 0) ae rfl)) rfl (Or.inl rfl))
    (@aj _ _ _ _ _ (@aG _ _ 4 _ _ _ _ nd rfl (Or.inl rfl) af rfl (Or.inl rfl))
    (@aj _ _ _ _ _ (fD PassesOwn.never (aS fB (pv 4) (bh (cY K) rfl T.len_ PySem.boot_len (@aa _ _ _ _ _ (pv 3) ae rfl)) (aQ _)) (@aj _ _ _ _ _ (@aG _ _ 5 _ _ _ _ nd rfl (Or.inl rfl) (@ah _ _ _ _ _ _ _ (aI K) (pv 3) (pv 4) (λ_ _=>rfl)) rfl (Or.inl rfl))
    (@aj _ _ _ _ _ (pM (i:=4) nd rfl (Or.inl rfl) af vv)
    (@ao _ _ _ (bH PassesOwn.never rfl (cK K (pU (P:=P) (w:=w) (K:=K) (mg:=mg) (base:=base) hr (pv 1) (@aa _ _ _ _ _ (pv 5) ae rfl))) (aK (i:=6) nd rfl (Or.inl rfl)) (@ao _ _ _ (cq (iq (kh (df hr) (pv 6) (pv 2)) (by with_unfolding_all rfl)) (@aj _ _ _ _ _ (kx (df hr) (pv 2) (pv 6) bX rfl)
    (@ao _ _ _ (bt (bE K ET E7 E8 bL (pv 3) (@aa _ _ _ _ _ (pv 6) ae rfl))))) aY)))))))
    (@ao _ _ _ (@aL _ _ _ _ (pv 3))))))),?_⟩
  walk_at"";refine λf hfn=>?_;walk_at"";refine⟨pa,aT x,rfl,(aX hfn) _ _ hx,aE,?_⟩;walk_at"";refine aJ λrw H3 e3 hrw hrn=>?_;walk_at"";have e13:Ext H (upd (upd H f (.dT [])) f (.dT [(aT x,.bl true)])):=λb o hb=>by rw[ay (cg hb hfn),ay (cg hb hfn)];exact hb
  have hrn1:H rw=none:=by
   cases z:H rw with
   | none=>rfl
   | some o=>rw[e13 _ _ z]at hrn;cases hrn
  have hf3:H3 f=some (.dT [(aT x,.bl true)]):=e3 _ _ aE;have rr0:RR H H3 f rw [x]:=⟨e13.trans e3,hfn,hrn1,⟨_,hf3,.cons rfl .nil⟩,[pa],hrw,.cons (e3 _ _ (e13 _ _ hx)) .nil⟩;have rq0:RQ S m TT x [x] 0:=⟨by simp,by simp,λz hz=>by rw[EW.mp hz];exact⟨0,.nil⟩,λz hz=>by rw[EW.mp hz];exact ix,λj hj=>absurd hj (Nat.not_lt_zero _)⟩;clear hf3 hrn1 e13 hrw hrn e3;refine fY (λM σ H'=>∃qs i k1 k2,RR H H' f rw qs/\RQ S m TT x qs i/\i<=qs.length/\M=24013-i/\σ=[some (.ref pa),some (.ref ff),some (.ref f),some (.ref rw),some (.int (i:Nat)),k1,k2]) (λσ H'=>∃qs i k0 k1 k2,RR H H' f rw qs/\RQ S m TT x qs i/\qs.length<=i/\qs.length<=24012/\σ=[some (.ref pa),some (.ref ff),some (.ref f),some (.ref rw),k0,k1,k2]) 24013 ⟨[x],0,_,_,rr0,rq0,by simp,by simp,rfl⟩ ?_ ?_
  ·rintro M σ H4 ⟨qs,i,k1,k2,rr,rq,hi,rfl,rfl⟩;have hqn:qs.length<=24012:=bC.few hm12 hT rq.nd rq.ins;obtain⟨as,hr4,pr⟩:=rr.r;have hal:=dI pr;walk_at"";refine eh (ag.of hr4) ?_;walk_at"";by_cases hlt:i<qs.length
   rotate_left
   ·rw[FF (show ¬((i:Nat):Int)<((List.map V.ref as).length:Nat) by rw[EK,hal];omega)];refine az ?_;exact⟨qs,i,_,_,_,rr,rq,by omega,hqn,rfl⟩
   ·rw[FG (show((i:Nat):Int)<((List.map V.ref as).length:Nat) by rw[EK,hal];omega)];refine aD ?_;refine⟨λσ' H'=>∃qs' k1 k2,RR H H' f rw qs'/\RQ S m TT x qs' (i+1)/\i+1<=qs'.length/\qs'.length<=24012/\σ'=[some (.ref pa),some (.ref ff),some (.ref f),some (.ref rw),some (.int ((i+1:Nat):Int)),k1,k2],λσ' H' ⟨qs',k1,k2,a1,a2,a3,a4,a5⟩=>⟨24013-(i+1),by omega,qs',i+1,k1,k2,a1,a2,a3,rfl,a5⟩,?_⟩;have hqi:qs[i]?=some qs[i]:=EL hlt;generalize qs[i]=y at hqi;obtain⟨b,hb,hby⟩:=Ek pr hqi;have iy:=rq.ins y (EV hqi);walk_at"";refine aF (ag.of hr4) (gK (v:=.ref b) (by rw[EM,hb];rfl)) ?_;walk_at"";refine vV ?_;walk_at"";have hpre4:=hmono _ _ rr.ext hpre;refine⟨ff,pre,_,rfl,hF,hpre4,?_⟩;walk_at"";refine⟨hpre4,b,y,rfl,hby,iy,λl ps ys H5 e5 hln hl5 hps hys hyl=>?_⟩;have hpl:=dI hps;have rr5:=rr.step e5;obtain⟨kvs5,hd5,_⟩:=rr5.d;obtain⟨as5,hr5,_⟩:=rr5.r;have nlf:l≠f:=λz=>by obtain⟨kvs,hd,_⟩:=rr.d;rw[z,hd]at hln;cases hln
    have nlr:l≠rw:=λz=>by rw[z,hr4]at hln;cases hln
    refine cH (ag.of hl5) ?_;refine forL (xs:=List.map V.ref ps) (λj σ H'=>∃qs' k2,RR H H' f rw qs'/\qs'.Nodup/\(∃new,qs'=qs++new)/\(∀z∈qs',(∃n,Bfs.Rw S n x z)/\bC m TT z)/\(∀a,a<j->∀z,ys[a]?=some z->z∈qs')/\(∀c o,c≠f->c≠rw->H5 c=some o->H' c=some o)/\σ=[some (.ref pa),some (.ref ff),some (.ref f),some (.ref rw),some (.int ((i+1:Nat):Int)),some (.ref b),k2]) ⟨qs,_,rr5,rq.nd,⟨[],by simp⟩,λz hz=>⟨rq.wk z hz,rq.ins z hz⟩,λa ha=>absurd ha (Nat.not_lt_zero _),λc o _ _ h=>h,rfl⟩ (λj σ H' _ h=>by obtain⟨_,_,_,_,_,_,_,kp,_⟩:=h;exact ag.of (kp _ _ nlf nlr hl5)) ?_ ?_
    ·rintro j v σ H6 hv ⟨qs6,k2,rr6,nd6,⟨new,hnew⟩,in6,cl6,kp6,rfl⟩;rw[EM]at hv;obtain⟨th,hth,rfl⟩:=EX.mp hv;obtain⟨z,hz,hthz5⟩:=fG hps hth;have nth:∀{c:Addr} {o:HO},H5 c=some o->(∀xs,o≠.tup xs)->th≠c:=λ{c o} hc hn=>bO hthz5 hc (λe=>hn _ e.symm);have hthz:aA H6 th z:=kp6 _ _ (nth hd5 (λxs e=>by cases e)) (nth hr5 (λxs e=>by cases e)) hthz5;have hSz:S y z:=(hys z).mp (EV hz);have hq6:qs6.length<=24012:=bC.few hm12 hT nd6 λz hz=>(in6 z hz).2;obtain⟨kvs,hd,pk⟩:=rr6.d;walk_at"";refine bT ?_;walk_at"";refine⟨f,_,rfl,bY.t hd (k:=aT z) hthz,?_⟩;by_cases hin:z∈qs6
     ·obtain⟨v1,hv1⟩:=xP pk nd6 hin;rw[hv1];refine rd_exb (az ?_);walk_at"";refine⟨qs6,_,rr6,nd6,⟨new,hnew⟩,in6,λa ha z' hz'=>?_,kp6,rfl⟩;by_cases haj:a<j
      ·exact cl6 a haj z' hz'
      ·have:a=j:=by omega
       subst this;rw[hz]at hz';cases hz';exact hin
     ·rw[wc pk hin];refine rd_exb (aD ?_);obtain⟨kvs,hd',hkl,as7,hr7,hal7,rr8⟩:=rr6.push (v:=.bl true) hin hthz;walk_at"";refine⟨f,_,rfl,fF.t hd' (k:=aT z) hthz (dO (by omega)),?_⟩;walk_at"";refine⟨cB (ag.of hr7),?_⟩;walk_at"";refine bJ hr7 (dO (by rw[EK];omega)) ?_;walk_at"";obtain⟨n0,hn0⟩:=rq.wk y (EV hqi);refine⟨qs6++[z],_,rr8,?_,⟨new++[z],by rw[hnew,List.append_assoc]⟩,λz' hz'=>?_,λa ha z' hz'=>?_,λc o nf nr hc=>?_,rfl⟩
      ·rw[List.nodup_append];refine⟨nd6,by simp,λa ha c hc e=>?_⟩;rw[EW.mp hc]at e;exact hin (e ▸ ha)
      ·rcases E9.mp hz' with h|h
       ·exact in6 z' h
       ·rw[EW.mp h];exact⟨⟨n0+1,.snoc hn0 hSz⟩,hSin y z iy hSz⟩
      ·by_cases haj:a<j
       ·exact Fu _ (cl6 a haj z' hz')
       ·have:a=j:=by omega
        subst this;rw[hz]at hz';cases hz';exact Ft _ (by simp)
      ·rw[ay nr,ay nf];exact kp6 c o nf nr hc
    ·rintro σ H6 ⟨qs6,k2,rr6,nd6,⟨new,hnew⟩,in6,cl6,kp6,rfl⟩;rw[EK,hpl]at cl6;have hq6:qs6.length<=24012:=bC.few hm12 hT nd6 λz hz=>(in6 z hz).2;have hle:qs.length<=qs6.length:=by rw[hnew,E4];omega
     refine⟨qs6,_,_,rr6,⟨nd6,by rw[hnew];exact Fu _ rq.has,λz hz=>(in6 z hz).1,λz hz=>(in6 z hz).2,λj hj y' hy' z hz=>?_⟩,by omega,hq6,rfl⟩;have hjq:j<qs.length:=by omega
     have hy2:qs[j]?=some y':=by rw[hnew,Fc hjq]at hy';exact hy'
     by_cases hji:j<i
     ·rw[hnew];exact Fu _ (rq.cl j hji y' hy2 z hz)
     ·have:j=i:=by omega
      subst this;rw[hqi]at hy2;cases hy2;obtain⟨a,ha⟩:=Fy ((hys z).mpr hz);exact cl6 a (EU.mp ha).1 z ha
  ·rintro σ H4 ⟨qs,i,k0,k1,k2,rr,rq,hi,hqn,rfl⟩;obtain⟨as,hr4,pr⟩:=rr.r;walk_at"";exact q rw as qs H4 rr.ext hr4 pr rq.ins hqn (rq.done hi)
def Eu(H H':Hp):Prop:=∀b o,H b=some o->(∀f,o≠.ext f)->H' b=some o
def aP.eu{H H':Hp}{bs:List Addr}{ws:List Way}(e:Eu H H')(h:aP H bs ws):aP H' bs ws:=⟨h.1,λj b w e1 e2=>e _ _ (h.2 j b w e1 e2) (λf z=>by cases z)⟩
def aA.eu{H H':Hp}(e:Eu H H'){p:Addr}{x:Bfs.Pl}(h:aA H p x):aA H' p x:=e _ _ h (λf z=>by cases z)
structure TL(H H':Hp)(q:Addr)(rs:List Addr)(n:Nat)(M:Nat->Nat->Bool):Prop where
 keep:∀b o,b∉rs->H b=some o->H' b=some o
 nd:rs.Nodup
 nq:q∉rs
 rows:Rows H' q rs n M
def TL.mark{H H1:Hp}{q r:Addr}{rs:List Addr}{n i j:Nat}{M:Nat->Nat->Bool}(h:TL H H1 q rs n M)(hi:rs[i]?=some r)(hj:j<n):TL H (upd H1 r (.lst ((aO n (M i)).set j (.bl true)))) q rs n (put2 M i j):=by
 have hm:=EV hi;have nqr:q≠r:=λz=>h.nq (z ▸ hm);refine⟨λb o nb e=>?_,h.nd,h.nq,?_,λa r' ha=>?_⟩
 ·have nbr:b≠r:=λz=>nb (by rw[z];exact hm);rw[ay nbr];exact h.keep b o nb e
 ·rw[ay nqr];exact h.rows.1
 ·by_cases hai:a=i
  ·subst hai;rw[hi]at ha;cases ha;rw[aE,ni _ _ hj];congr 2;refine eU λy _=>?_;unfold put2;by_cases hy:y=j
   ·rw[FI hy,FI ⟨rfl,hy⟩]
   ·rw[FH hy,FH λz=>hy z.2]
  ·have nr:r'≠r:=λz=>hai ((List.getElem?_inj (EU.mp ha).1 h.nd).mp (by rw[ha,hi,z]));rw[ay nr,h.rows.2 a r' ha];congr 2;exact eU λy _=>by unfold put2;rw[FH λz=>hai z.1]
def yD{m:Int}{ws:List Way}(ok:HOuse m ws){top:Int}{x y:Bfs.Pl}(h0:0<=top)(hx:bC m top x)(h:LB ws m.toNat top x y):bC m top y:=by
 have m1:=ok.m1;rcases h with⟨w,hw,ho,rfl,hle⟩|⟨_,i,j,hk,_,rfl⟩
 ·have okw:=ok.ok w hw;refine⟨okw.o0,okw.o1,?_,hle⟩;have hs:=(xH okw.dd x).mp ho;exact tQ okw.dd hx.2.2.1 hs.2
 ·have:=Kpt.lt ok.ok hk;exact⟨by show(0:Int)<=(j:Int);omega,by show(j:Int)<m;omega,h0,Int.le_refl _⟩
def WT.eu{H H':Hp}{c:Addr}{n:Nat}{ls:List Addr}{ws:List Way}(e:Eu H H')(h:WT H c n ls ws):WT H' c n ls ws:=
 ⟨e _ _ h.at_ (λf z=>by cases z),h.len,λr l hl=>by obtain⟨bs,h1,h2⟩:=h.it r l hl;exact⟨bs,e _ _ h1 (λf z=>by cases z),h2.eu e⟩⟩
def fh.eu{H H':Hp}(e:Eu H H'){l:Addr}{n:Nat}{R:Nat->Nat->Prop}(h:fh H l n R):fh H' l n R:=by obtain⟨ps,g,h1,h2,h3⟩:=h;exact⟨ps,g,e _ _ h1 (λf z=>by cases z),b9 (λa x h=>h.eu e) h2,h3⟩
def lL{K:EG}{x q:Str}{line col:Nat}{H H':Hp}{rs:List Addr}(e:∀b o,b∉rs->H b=some o->H' b=some o)(hr:∀r∈rs,∃xs,H r=some (.lst xs))(h:cN K x q line col H):cN K x q line col H':=λc T ht=>by
 have no:∀b o,H b=some o->(∀xs,o≠.lst xs)->H' b=some o:=λb o hb nl=>e b o (λz=>by obtain⟨xs,hx⟩:=hr b z;rw[hx]at hb;cases hb;exact nl _ rfl) hb;rcases h c T ht with h|⟨c',h1,h2⟩
 ·exact .inl (no _ _ h (λxs z=>by cases z))
 ·exact .inr ⟨c',no _ _ h1 (λxs z=>by cases z),no _ _ h2 (λxs z=>by cases z)⟩
def Tbs.kp{K:EG}{H H':Hp}{rs:List Addr}(e:∀b o,b∉rs->H b=some o->H' b=some o)(hr:∀r∈rs,∃xs,H r=some (.lst xs))(h:Tbs K H):Tbs K H':=⟨lL e hr h.kept,lL e hr h.low,lL e hr h.risen⟩
def oI(K:EG):Sp:=λvs H Q _=>∃vh m ws pa x,vs=[vh,.ref pa]/\bw H vh m ws/\HOuse m ws/\aA H pa x/\fM m x/\gU K/\Tbs K H/\∀q rs M H',Et H H'->Tbs K H'->Rows H' q rs m.toNat M->(rs.length:Int)=x.2+1->(∀i r:Nat,(i:Int)<=x.2->(r:Int)<m->(M i r=true↔∃n,Bfs.Rw (LB ws m.toNat x.2) n x ((r:Int),(i:Int))))->Q (.ref q) H'
abbrev nY:Stmt:=stq 40
def v9:FnScope ["house","place","ways","keeps","levels","room","number"] ["house","place"] (aM nY):=⟨rfl,rfl,rfl,by decide +kernel,rfl,by decide +kernel,by decide +kernel⟩
def Ez{P:Program}{w:World}{K:EG}{mg:Str->Option Value}{base:Heap}(D:Dfn K mg "low_levels" nY ["house","place"])(T:Blt mg){c9 T9:Addr}(B:Tab K mg base "low_levels" c9 T9)(C_reached:Cal P w K mg base "reached" 6 ["place","beside"] (xu P w K mg base))(C_kept:Cal P w K mg base "kept" 7 ["house"] (mf K))(C_ways_by_room:Cal P w K mg base "ways_by_room" 1 ["house"] (vw K))(C_low_beside:Cal P w K mg base "low_beside" 4 ["ways","keeps","top","here"] (qf K)):Cal P w K mg base "low_levels" 8 ["house","place"] (oI K):=by
 have nd:=(v9).nd;refine D.okL B v9 (λvs H Q E h=>?_) (λX hX H vs Q E h=>?_)
 ·obtain⟨vh,m,ws,pa,x,rfl,_⟩:=h;rfl
 ·obtain⟨f,A,outer,s,H0,E0,rfl,hr⟩:=hX;obtain⟨vh,m,ws,pa,x,rfl,hv,ok,hpx,ix,dis,htb,q⟩:=h;have m1:=ok.m1;have m12:=ok.m12;obtain⟨i0,i1,i2,i3⟩:=id ix;refine⟨_,(aj (aG (i:=2) nd rfl (Or.inr rfl) (aH C_ways_by_room hr (aa (pv 0) ae)))
    (aj (aG (i:=3) nd rfl (Or.inr rfl) (aH C_kept hr (aa (pv 0) ae)))
    (aj (gC (i:=4) ["number"] [0] nd rfl (Or.inl rfl) (bR rfl T.range_ (aa (aq aU (ah (aC K) (pv 1) af (λ_ _=>rfl)) af) ae)) (λ_=>(aK (i:=0) (show(["number","house"]:List Str).Nodup from by decide +kernel) rfl (Or.inl rfl) (Or.inr rfl))) (λ_=>dD) (λ_=>(aq pJ (bq (aa bX ae)) (ah (aC K) (pv 1) af (λ_ _=>rfl)))))
    (aj (bH PassesOwn.never rfl (cK K (ml [2,3,1] C_reached hr (aa (pv 1) (aa (pI rfl rfl B.hd B.blt B.gl (by decide +kernel) rfl rfl rfl) ae)))) (gm (n:=2) K rfl (b6 (aK (i:=5) nd rfl (Or.inl rfl)) (b6 (aK (i:=6) nd rfl (Or.inl rfl)) fU))) (ao (gF bX (iL (ah (aI K) (pv 4) (pv 6) (λ_ _=>rfl)) (pv 5) set_list))))
    (ao (aL (pv 4))))))),?_⟩
  walk_at"";refine⟨vh,m,ws,rfl,hv,ok,λc ls H1 e1 wt=>?_⟩;walk_at"";refine⟨vh,m,ws,rfl,hv.ext e1,ok,dis,htb.ext e1,λkl H2 e2 tb2 prs=>?_⟩;have e02:=e1.et.trans e2;have wt2:=wt.et e2;have hv2:=hv.et e02;have hpx2:=hpx.et e02;obtain⟨hp0,hq0,hvr,hh2,_⟩:=id hv2;subst hvr;walk_at"";refine aB (ai.of hpx2) (v:=.int x.2) rfl ?_;walk_at"";refine bS (by omega) ?_;refine dA (λi ys H'=>Ext H2 H'/\∃rs:List Addr,ys=List.map V.ref rs/\rs.length=i/\rs.Nodup/\∀r∈rs,H' r=some (.lst (aO m.toNat λ_=>false))/\H2 r=none) (br (by omega)) ⟨Ext.rfl' _,[],rfl,rfl,List.nodup_nil,λl h=>(nomatch h)⟩ (λi ys H' _ h=>by obtain⟨_,ls,rfl,h,_⟩:=h;rw[EK,h];exact E6 _) ?_ ?_
  ·rintro i ys H3 hi ⟨e3,rs,rfl,hl,hnd,hrs⟩;walk_at"";refine aD ?_;walk_at"";refine aJ λz1 H4 e4 hz1 _=>?_;walk_at"";refine aB (ai.of ((e3.trans e4) _ _ hh2)) (v:=.int m) rfl ?_;refine nF hz1 (by omega) (br (by simp;omega)) (bW λz2 H5 e5 hz2 hn5=>?_);rw[qJ]at hz2;refine⟨(e3.trans e4).trans e5,rs++[z2],by rw[E3];rfl,by rw[E4,hl];rfl,?_,λr hr=>?_⟩
   ·rw[List.nodup_append];refine⟨hnd,by simp,λa ha b hb z=>?_⟩;rw[EW.mp hb]at z;subst z;rw[e4 _ _ (hrs a ha).1]at hn5;cases hn5
   ·rcases E9.mp hr with h|h
    ·exact⟨(e4.trans e5) _ _ (hrs r h).1,(hrs r h).2⟩
    ·rw[EW.mp h];refine⟨hz2,?_⟩;cases y:H2 z2 with
     | none=>rfl
     | some o=>rw[(e3.trans e4) _ _ y]at hn5;cases hn5
  ·rintro ys H3 lq ⟨e3,rs,rfl,hrl,hnd,hrs⟩ hlq;have e34:=aX (o:=.lst (List.map V.ref rs)) hlq;have hlq4:(upd H3 lq (.lst (List.map V.ref rs))) lq=_:=aE;have nql:lq∉rs:=λz=>by rw[(hrs lq z).1]at hlq;cases hlq
   have rows4:Rows (upd H3 lq (.lst (List.map V.ref rs))) lq rs m.toNat (λ_ _=>false):=⟨aE,λi r h=>e34 _ _ (hrs r (EV h)).1⟩;have e24:=e3.trans e34;generalize upd H3 lq (.lst (List.map V.ref rs))=H4 at e34 hlq4 rows4 e24 ⊢;have e04:=e02.trans e24.et;have tb4:=tb2.ext e24;have wt4:=wt2.ext e24;have prs4:=prs.et e24.et;have hpx4:aA H4 pa x:=e24 _ _ hpx2;walk_at"";show ju _ [2,3,1] _ (["house","place","ways","keeps","levels","room","number"]:List Str) _ _ _ _;generalize PySem.Env.cells _=cells0;refine lj ?_;walk_at"";refine oR ?_;refine oZ (x:="low_levels") tb4.low B.tin λfl c' cl H5 hcl e5 ht5 ot hf hc'=>?_;have t5:Tbs K H5:=⟨ot "kept" _ _ _ (λc2 T2 e2=>dis "low_levels" (by simp) "kept" (by simp) (by decide +kernel) _ _ _ _ B.tin e2) tb4.kept,ht5,ot "risen" _ _ _ (λc2 T2 e2=>dis "low_levels" (by simp) "risen" (by simp) (by decide +kernel) _ _ _ _ B.tin e2) tb4.risen⟩;walk_at"";refine⟨λj hj=>?_,λcp hlen hcp=>?_⟩
   ·simp only[E1,Fj,or_false]at hj;rcases hj with rfl|rfl|rfl
    ·exact⟨_,rfl⟩
    ·exact⟨_,rfl⟩
    ·exact⟨_,rfl⟩
   obtain⟨⟨n1,d1,o1,v1⟩,⟨n2,d2,o2,v2⟩,⟨n3,d3,o3,v3⟩,rfl⟩:=CL hlen;obtain⟨hN1,hcc1,hσ1,hno1,u1,hdat1,hrel1⟩:=hcp 0 2 _ rfl rfl;obtain⟨hN2,hcc2,hσ2,hno2,u2,hdat2,hrel2⟩:=hcp 1 3 _ rfl rfl;obtain⟨hN3,hcc3,hσ3,hno3,u3,hdat3,hrel3⟩:=hcp 2 1 _ rfl rfl;clear hcp hlen;dsimp only at hN1 hcc1 hσ1 hno1 hdat1 hrel1 hN2 hcc2 hσ2 hno2 hdat2 hrel2 hN3 hcc3 hσ3 hno3 hdat3 hrel3;have hN1':(Fp "ways")=n1:=Fq hN1;have hσ1':(V.ref c)=v1:=Fq (Fq hσ1);have hN2':(Fp "keeps")=n2:=Fq hN2;have hσ2':(V.ref kl)=v2:=Fq (Fq hσ2);have hN3':(Fp "place")=n3:=Fq hN3;have hσ3':(V.ref pa)=v3:=Fq (Fq hσ3);clear hN1 hσ1 hN2 hσ2 hN3 hσ3;subst hN1';subst hσ1';subst hN2';subst hσ2';subst hN3';subst hσ3';obtain⟨a1,ha1⟩:=hcl.has (Fp "ways") rfl;obtain⟨a2,ha2⟩:=hcl.has (Fp "keeps") rfl;obtain⟨a3,ha3⟩:=hcl.has (Fp "place") rfl;have hb1:=(hcl.fr _ _ ha1).2;have hb2:=(hcl.fr _ _ ha2).2;have hb3:=(hcl.fr _ _ ha3).2;rw[hcc1]at hb1;rw[hcc2]at hb2;rw[hcc3]at hb3;cases hb1;cases hb2;cases hb3;have n12:d1≠d2:=λz=>absurd (hcl.inj _ _ _ ha1 (z ▸ ha2)) (by decide +kernel);have n13:d1≠d3:=λz=>absurd (hcl.inj _ _ _ ha1 (z ▸ ha3)) (by decide +kernel);have n23:d2≠d3:=λz=>absurd (hcl.inj _ _ _ ha2 (z ▸ ha3)) (by decide +kernel);obtain⟨cp,hcp⟩:∃cp:List Cap,cp=[⟨Fp "ways",d1,o1,V.ref c⟩,⟨Fp "keeps",d2,o2,V.ref kl⟩,⟨Fp "place",d3,o3,V.ref pa⟩]:=⟨_,rfl⟩;have hn5:∀b o9,(cellsOf cp).lookup b=some o9->H5 b=none:=λb o9 hb=>by
    obtain⟨e,he,rfl,rfl⟩:=gG hb;rw[hcp]at he;simp only[E1,Fj,or_false]at he;rcases he with rfl|rfl|rfl
    ·exact hno1
    ·exact hno2
    ·exact hno3
   have ex:=kJ hn5;have hcaps:Caps (bM (cellsOf cp) H5) cl cp:=by
    refine⟨λe he=>?_,λy g hy=>?_⟩
    ·rw[hcp]at he ⊢;simp only[E1,Fj,or_false]at he;rcases he with rfl|rfl|rfl
     ·exact⟨ha1,eP (by simp[cellsOf]),u1,hdat1,hrel1⟩
     ·refine⟨ha2,eP ?_,u2,hdat2,hrel2⟩;show List.lookup d2 ((d1,o1)::(d2,o2)::[(d3,o3)])=some o2;rw[Fz,show (d2 == d1)=false from beq_eq_false_iff_ne.mpr (Ne.symm n12),Fz,beq_self_eq_true]
     ·refine⟨ha3,eP ?_,u3,hdat3,hrel3⟩;show List.lookup d3 ((d1,o1)::(d2,o2)::[(d3,o3)])=some o3;rw[Fz,show (d3 == d1)=false from beq_eq_false_iff_ne.mpr (Ne.symm n13),Fz,show (d3 == d2)=false from beq_eq_false_iff_ne.mpr (Ne.symm n23),Fz,beq_self_eq_true]
    ·have hm:=iO (hcl.fr y g hy).1;rw[hcp];simp at hm;rcases hm with rfl|rfl|rfl
     all_goals first|(rw[ha1]at hy;cases hy;exact⟨⟨Fp "ways",d1,o1,V.ref c⟩,by simp,rfl,rfl⟩)|(rw[ha2]at hy;cases hy;exact⟨⟨Fp "keeps",d2,o2,V.ref kl⟩,by simp,rfl,rfl⟩)|(rw[ha3]at hy;cases hy;exact⟨⟨Fp "place",d3,o3,V.ref pa⟩,by simp,rfl,rfl⟩)
   have wt5:=(wt4.et e5).ext ex;have prs5:=(prs4.et e5).et ex.et;have hpx5:aA (bM (cellsOf cp) H5) pa x:=ex _ _ (hpx4.et e5);subst hcp;have hF:=
    om (P:=P) (w:=w) (K:=K) (mg:=mg) (base:=base) (k:=4) hf hcl (["here"]:List Str) [⟨Fp "ways",d1,o1,V.ref c⟩,⟨Fp "keeps",d2,o2,V.ref kl⟩,⟨Fp "place",d3,o3,V.ref pa⟩] (ui m x.2 (LB ws m.toNat x.2)) (λH=>WT H c m.toNat ls ws/\fh H kl m.toNat (Kpt ws m.toNat)/\aA H pa x) ⟨rfl,rfl,rfl,by decide +kernel,by decide +kernel⟩ (λ_ _ _ us hl=>by obtain⟨u1,rfl⟩:=nI hl;rfl) (λvs H Q h=>by obtain⟨p,y,rfl,_⟩:=h;rfl) (λA outer s H vs Q hrL hpre hI hR=>by
     obtain⟨p,y,rfl,hpy,iy,hQ⟩:=hR;have hlk:=hpre.2.2.look;obtain⟨hI1,hI2,hI3⟩:=hI;have eu:Eu H (aZ (cellsOf [⟨Fp "ways",d1,o1,V.ref c⟩,⟨Fp "keeps",d2,o2,V.ref kl⟩,⟨Fp "place",d3,o3,V.ref pa⟩]) H):=λb o hb nf=>gj hlk hb nf;have k1:=hI1.eu eu;have k2:=hI2.eu eu;have k3:=hI3.eu eu;have kp:=hpy.eu eu;refine⟨_,(aH C_low_beside hrL (aa (pv 1) (aa (pv 2) (aa (ah (aC K) (pv 3) af (λ_ _=>rfl)) (aa (pv 0) ae))))),?_⟩;have hb:∀H',Ext (aZ (cellsOf [⟨Fp "ways",d1,o1,V.ref c⟩,⟨Fp "keeps",d2,o2,V.ref kl⟩,⟨Fp "place",d3,o3,V.ref pa⟩]) H) H'->Ext H (bM (cellsOf [⟨Fp "ways",d1,o1,V.ref c⟩,⟨Fp "keeps",d2,o2,V.ref kl⟩,⟨Fp "place",d3,o3,V.ref pa⟩]) H'):=λH' e=>vX hlk e;have hu:∀l,(cellsOf [⟨Fp "ways",d1,o1,V.ref c⟩,⟨Fp "keeps",d2,o2,V.ref kl⟩,⟨Fp "place",d3,o3,V.ref pa⟩]).lookup l=none->aZ (cellsOf [⟨Fp "ways",d1,o1,V.ref c⟩,⟨Fp "keeps",d2,o2,V.ref kl⟩,⟨Fp "place",d3,o3,V.ref pa⟩]) H l=H l:=λl hl=>cC hl;generalize aZ (cellsOf [⟨Fp "ways",d1,o1,V.ref c⟩,⟨Fp "keeps",d2,o2,V.ref kl⟩,⟨Fp "place",d3,o3,V.ref pa⟩]) H=HU at k1 k2 k3 kp hb hu ⊢;generalize cellsOf [⟨Fp "ways",d1,o1,V.ref c⟩,⟨Fp "keeps",d2,o2,V.ref kl⟩,⟨Fp "place",d3,o3,V.ref pa⟩]=cs at hb hu ⊢;show kg _ _ _ _ [some (.ref p),some (.ref c),some (.ref kl),some (.ref pa)] _ _;walk_at"";refine aB (ai.of k3) (v:=.int x.2) rfl ?_;walk_at"";refine⟨c,kl,x.2,p,m,ws,ls,y,rfl,k1,k2,ok,kp,iy.1,iy.2.1,λl ps ys H' e hn hl hps hys hyl=>?_⟩;intro hnc;have nl:cs.lookup l=none:=by
      cases z:cs.lookup l with
      | none=>rfl
      | some o=>rw[hnc l o z]at hl;cases hl
     have et:=kJ hnc;exact hQ l ps ys _ (hb H' e) (by rw[←hu l nl];exact hn) (et _ _ hl) (b9 (λa x h=>et _ _ h) hps) hys hyl)
   refine⟨pa,fl,_,x,m,x.2,LB ws m.toNat x.2,rfl,hpx5,⟨i0,i1,i2,Int.le_refl _⟩,m12,by omega,hF,⟨⟨ex _ _ hf,ex _ _ hc',hcaps⟩,wt5,prs5,hpx5⟩,λH H' e h=>⟨h.1.ext e,h.2.1.ext e,h.2.2.1.et e.et,e _ _ h.2.2.2⟩,λy z hy hS=>yD ok i2 hy hS,λl as qs H6 e6 hl6 hps hin hqn hqs=>?_⟩;clear hF;obtain⟨b1,b2,b3,b4⟩:=held hn5 e6;refine⟨b1,?_⟩;have hl7:=b4 _ _ hl6 (λf z=>by cases z);have hps7:Paired (aA (aZ _ H6)) as qs:=b9 (λa x h=>b4 _ _ h (λf z=>by cases z)) hps;have rows7:=(rows4.et e5).ext b2;have e07:=(e04.trans e5).trans b2.et;have t7:=t5.ext b2;generalize aZ _ H6=H7 at hl7 hps7 rows7 e07 t7 ⊢;have hal:=dI hps7;have fr0:∀r∈rs,∀o,H r=some o->(∀ps,o≠.tbl ps)->False:=λr hr o ho no=>by have:=e02 _ _ ho no;rw[(hrs r hr).2]at this;cases this
   clear hcaps hn5 ex wt5 prs5 hpx5 e6 hl6 hps b1 b2 b3 b4 hf hc' hcl ha1 ha2 ha3 hcc1 hcc2 hcc3 hno1 hno2 hno3 hrel1 hrel2 hrel3 hdat1 hdat2 hdat3 n12 n13 n23 ot;have tup1:∀(b:Addr) (z:Bfs.Pl),aA H7 b z->b∉rs:=λb z hb hr=>by obtain⟨j,hj⟩:=Fy hr;have h1:=rows7.2 j b hj;have h2:H7 b=some (.tup [.int z.1,.int z.2]):=hb;rw[h1]at h2;cases h2
   have nl:l∉rs:=λhr=>by
    obtain⟨j,hj⟩:=Fy hr;have h1:=rows7.2 j l hj;rw[hl7]at h1;have h2:List.map V.ref as=aO m.toNat λ_=>false:=by
     injection h1 with h1
     injection h1
    have h3:=congrArg (λz:List V=>z[0]?) h2
    try dsimp only at h3
    rw[fE _ (by omega),EM]at h3;cases y:as[0]? with
    | none=>rw[y]at h3;cases h3
    | some a=>rw[y]at h3;cases h3
   refine cH (ag.of hl7) ?_;refine forL (xs:=List.map V.ref as) (λj σ H'=>∃M k1 k2,TL H7 H' lq rs m.toNat M/\(∀i r:Nat,M i r=true↔(((r:Nat):Int),((i:Nat):Int))∈qs.take j)/\σ=[some (.ref hp0),some (.ref pa),some (.ref c),some (.ref kl),some (.ref lq),k1,k2]) ⟨_,_,_,⟨λ_ _ _ e=>e,hnd,nql,rows7⟩,λi r=>by simp,rfl⟩ (λj σ H' _ h=>by obtain⟨M,k1,k2,tl,_⟩:=h;exact ag.of (tl.keep _ _ nl hl7)) ?_ ?_
   ·rintro j v σ H8 hx ⟨M,k1,k2,tl,hM,rfl⟩;rw[EM]at hx;obtain⟨b,hb,rfl⟩:=EX.mp hx;obtain⟨z,hz,hbz⟩:=fG hps7 hb;obtain⟨z0,z1,z2,z3⟩:=hin z (EV hz);have hbz8:aA H8 b z:=tl.keep _ _ (tup1 b z hbz) hbz;have hrx:z.2.toNat<rs.length:=by omega
    have hrg:rs[z.2.toNat]?=some rs[z.2.toNat]:=EL hrx;generalize rs[z.2.toNat]=ar at hrg;have hrow:=tl.rows.2 _ _ hrg;refine gN (ai.of hbz8) rfl ?_;walk_at"";refine aF (ag.of tl.rows.1) (v:=.ref ar) (dP z2 (by rw[EM,hrg];rfl)) ?_;walk_at"";refine iN hrow (iF z0 (by rw[cL];omega)) ?_;refine⟨_,_,_,tl.mark hrg (by omega),λi r=>?_,rfl⟩;rw[List.take_add_one,hz,E9];unfold put2;split
    ·rename_i y;simp only[true_iff];right;simp;refine Prod.ext ?_ ?_
     ·show((r:Nat):Int)=z.1;omega
     ·show((i:Nat):Int)=z.2;omega
    ·rename_i y;rw[hM];constructor
     ·exact λh=>.inl h
     ·rintro(h|h)
      ·exact h
      ·have h':(((r:Nat):Int),((i:Nat):Int))=z:=by simpa using h
       refine absurd ⟨?_,?_⟩ y
       ·rw[←h'];show i=((i:Nat):Int).toNat;omega
       ·rw[←h'];show r=((r:Nat):Int).toNat;omega
   ·rintro σ H8 ⟨M,k1,k2,tl,hM,rfl⟩;rw[EK,hal,Ff]at hM;walk_at"";refine q lq rs M H8 (λb o hb no=>?_) (t7.kp tl.keep λr hr=>?_) tl.rows (by omega) λi r hi hr=>?_
    ·have h7:=e07 _ _ hb no;exact tl.keep b o (λhr=>fr0 b hr o hb no) h7
    ·obtain⟨j,hj⟩:=Fy hr;exact⟨_,rows7.2 j r hj⟩
    ·rw[hM];exact hqs _
def uJ(K:EG):Sp:=λvs H Q _=>∃rl lv n f R,vs=[.ref rl,.ref lv]/\fh H rl n R/\H lv=some (.lst (aO n f))/\n<=12/\∀l g H',Ext H H'->H l=none->H' l=some (.lst (aO n g))->(∀j,j<n->(g j=true↔∃i,i<n/\f i=true/\R i j))->Q (.ref l) H'
abbrev n6:Stmt:=stq 41
def qN:FnScope ["rises","level","risen_to","p","q"] ["rises","level"] (aM n6):=⟨rfl,rfl,rfl,by decide +kernel,rfl,by decide +kernel,by decide +kernel⟩
def B6{P:Program}{w:World}{K:EG}{mg:Str->Option Value}{base:Heap}(D:Dfn K mg "next_level" n6 ["rises","level"])(T:Blt mg):Cal P w K mg base "next_level" 1 ["rises","level"] (uJ K):=by
 have nd:=(qN).nd;refine D.ok qN (λvs H Q E h=>?_) (λX hX H vs Q E h=>?_)
 ·obtain⟨rl,lv,n,f,R,rfl,_⟩:=h;rfl
 ·obtain⟨f,cdv,A,outer,s,H0,E0,rfl,hr⟩:=hX;obtain⟨rl,lv,n,f',R,rfl,prs,hlv,hn,q⟩:=h;obtain⟨ps,g,hrl,hps,hg⟩:=prs;have hpl:=dI hps;refine⟨_,(@aj _ _ _ _ _ (@aG _ _ 2 _ _ _ _ nd rfl (Or.inl rfl) (aq pJ (@bq _ _ _ _ (@aa _ _ _ _ _ bX ae rfl)) (bh (cY K) rfl T.len_ PySem.boot_len (@aa _ _ _ _ _ (pv 1) ae rfl))) rfl (Or.inl rfl))
    (@aj _ _ _ _ _ (bH PassesOwn.never rfl (cK K (pv 0)) (gm (n:=2) K rfl (b6 (aK (i:=3) nd rfl (Or.inl rfl)) (b6 (aK (i:=4) nd rfl (Or.inl rfl)) fU))) (@ao _ _ _ (cq (bQ (@ah _ _ _ _ _ _ _ (aI K) (pv 1) (pv 3) (λ_ _=>rfl))) (@ao _ _ _ (@gF _ _ _ _ _ _ bX (iL (pv 2) (pv 4) set_list) rfl rfl rfl)) aY)))
    (@ao _ _ _ (@aL _ _ _ _ (pv 2))))),?_⟩
  walk_at"";refine aJ λz1 H1 e1 hz1 _=>?_;walk_at"";refine eh (ag.of (e1 _ _ hlv)) ?_;rw[cL];refine nF hz1 (by omega) (br (by simp;omega)) (bW λrt H2 e2 hrt hrn=>?_);rw[qJ,EY]at hrt;have e02:=e1.trans e2;have hrt0:H rt=none:=by
   cases y:H rt with
   | none=>rfl
   | some o=>rw[e1 _ _ y]at hrn;cases hrn
  walk_at"";refine cH (ag.of (e02 _ _ hrl)) ?_;refine forL (xs:=List.map V.ref ps) (λj σ H'=>∃h k1 k2,Ext H H'/\H' rt=some (.lst (aO n h))/\(∀b,h b=true↔∃z∈(cZ n g n).take j,f' z.1.toNat=true/\z.2.toNat=b)/\σ=[some (.ref rl),some (.ref lv),some (.ref rt),k1,k2]) ⟨_,_,_,e02,hrt,λb=>by simp,rfl⟩ (λj σ H' _ h=>by obtain⟨_,_,_,e,_⟩:=h;exact ag.of (e _ _ hrl)) ?_ ?_
  ·rintro j v σ H3 hx ⟨h,k1,k2,e3,hr3,hh,rfl⟩;rw[EM]at hx;obtain⟨b,hb,rfl⟩:=EX.mp hx;obtain⟨z,hz,hbz⟩:=fG hps hb;obtain⟨i,r,hi,hr,hgz,rfl⟩:=ip.mp (EV hz);have hbz3:aA H3 b (((i:Nat):Int),((r:Nat):Int)):=e3 _ _ hbz;refine gN (ai.of hbz3) rfl ?_;walk_at"";refine bT ?_;walk_at"";refine aF (ag.of (e3 _ _ hlv)) (cF (by omega) (by omega)) ?_;rw[EY];walk_at"";have step:∀P:Bfs.Pl->Prop,(∃z∈(cZ n g n).take (j+1),P z)↔(∃z∈(cZ n g n).take j,P z)\/P (((i:Nat):Int),((r:Nat):Int)):=λP=>by
    rw[List.take_add_one,hz];constructor
    ·rintro⟨z,hm,hp⟩;rcases E9.mp hm with hm|hm
     ·exact .inl ⟨z,hm,hp⟩
     ·have:z=(((i:Nat):Int),((r:Nat):Int)):=by simpa using hm
      subst this;exact .inr hp
    ·rintro(⟨z,hm,hp⟩|hp)
     ·exact⟨z,Fu _ hm,hp⟩
     ·exact⟨_,Ft _ (by simp),hp⟩
   cases hf:f' i with
   | false=>
    refine az ?_;walk_at"";refine⟨h,_,_,e3,hr3,λb=>?_,rfl⟩;rw[hh,step];constructor
    ·exact λy=>.inl y
    ·rintro(y|⟨y,_⟩)
     ·exact y
     ·have y':f' ((i:Nat):Int).toNat=true:=y;rw[EY,hf]at y';cases y'
   | true=>
    refine aD ?_;walk_at"";refine iN hr3 (iF (by omega) (by rw[cL];omega)) ?_;rw[EY,ni _ _ hr];refine⟨_,_,_,bK e3 hrt0,aE,λb=>?_,rfl⟩;rw[step];by_cases hbr:b=r
    ·rw[FI hbr];simp only[true_iff];refine .inr ⟨?_,?_⟩
     ·show f' ((i:Nat):Int).toNat=true;rw[EY];exact hf
     ·show((r:Nat):Int).toNat=b;rw[EY];exact hbr.symm
    ·rw[FH hbr,hh];constructor
     ·exact λy=>.inl y
     ·rintro(y|⟨_,y⟩)
      ·exact y
      ·have y':((r:Nat):Int).toNat=b:=y;rw[EY]at y';exact absurd y'.symm hbr
  ·rintro σ H3 ⟨h,k1,k2,e3,hr3,hh,rfl⟩;rw[EK,hpl,Ff]at hh;walk_at"";refine q rt h H3 e3 hrt0 hr3 λb hb=>?_;rw[hh];constructor
   ·rintro⟨z,hz,hf,rfl⟩;obtain⟨i,r,hi,hr,hgz,rfl⟩:=ip.mp hz;have hf':f' ((i:Nat):Int).toNat=true:=hf;rw[EY]at hf';refine⟨i,hi,hf',?_⟩;show R i ((r:Nat):Int).toNat;rw[EY];exact(hg i r hi hr).mp hgz
   ·rintro⟨i,hi,hf,hR⟩;refine⟨(((i:Nat):Int),((b:Nat):Int)),ip.mpr ⟨i,b,hi,hb,(hg i b hi hb).mpr hR,rfl⟩,?_,?_⟩
    ·show f' ((i:Nat):Int).toNat=true;rw[EY];exact hf
    ·show((b:Nat):Int).toNat=b;exact EY b
def i9{f:Nat->Bool}{lo i:Nat}{ys:List V}(h:ys=(row f lo i).map V.int)(hf:f (lo+i)=true):ys++[V.int ((lo+i:Nat):Int)]=(row f lo (i+1)).map V.int:=by rw[sy,FI hf,E3,h];rfl
def iS{f:Nat->Bool}{lo i:Nat}{ys:List V}(h:ys=(row f lo i).map V.int)(hf:f (lo+i)=false):ys=(row f lo (i+1)).map V.int:=by rw[sy,FH (by rw[hf];decide),List.append_nil,h]
def dv(H:Hp)(v:V)(b s:Int)(o a:List Int):Prop:=∃p q r,v=.ref p/\H p=some (.tup [.int b,.int s,.ref q,.ref r])/\H q=some (.tup (o.map V.int))/\H r=some (.tup (a.map V.int))
def dv.ext{H H':Hp}{v:V}{b s:Int}{o a:List Int}(e:Ext H H')(h:dv H v b s o a):dv H' v b s o a:=by obtain⟨p,q,r,rfl,h1,h2,h3⟩:=h;exact⟨p,q,r,rfl,e _ _ h1,e _ _ h2,e _ _ h3⟩
def tN{n:Nat}{f:Nat->Bool}{i:Int}(h0:0<=i)(h:i<=n):cj (aO n f) (some i) none=aO (n-i.toNat) λk=>f (i.toNat+k):=by
 unfold cj;rw[cL,HT.pG];have e:HT.aN n 0 (some i)=i.toNat:=by show(if i<0 then(i+(n:Int)).toNat else min i.toNat n)=i.toNat;rw[FH (by omega)];omega
 rw[e];apply List.ext_getElem?;intro k;rcases Fx k (n-i.toNat)with hk|hk
 ·rw[List.getElem?_take_of_lt hk,List.getElem?_drop,fE _ (by omega),fE _ hk]
 ·rw[List.getElem?_eq_none (by rw[FA,List.length_drop,cL];omega),List.getElem?_eq_none (by rw[cL];omega)]
def dB(n:Nat)(f:Nat->Bool):List PyData:=(FE n).map λi=>PyData.bool (f i)
def ph{α:Type}{R:V->PyData->Prop}{g:α->V}{k:α->PyData}(h:∀x,R (g x) (k x)):∀l:List α,Paired R (l.map g) (l.map k)
 | []=>.nil
 | x::l=>.cons (h x) (ph h l)
def jx{H:Hp}{p:Addr}{n:Nat}{f:Nat->Bool}(h:H p=some (.lst (aO n f))):aV H 1 (.ref p) (.list (dB n f)):=
 .inr ⟨p,aO n f,dB n f,rfl,.inr ⟨h,rfl⟩,ph (λi=>(rfl:f i=f i)) _⟩
def sh{α:Type}(f g:α->Bool):∀l:List α,PyData.eqvAll (l.map λi=>PyData.bool (f i)) (l.map λi=>PyData.bool (g i))=l.all λi=>f i == g i
 | []=>rfl
 | x::l=>by show(PyData.eqv (.bool (f x)) (.bool (g x)) && PyData.eqvAll (l.map λi=>PyData.bool (f i)) (l.map λi=>PyData.bool (g i)))=((f x == g x) && l.all λi=>f i == g i);rw[sh f g l];rfl
def jz{n:Nat}{f g:Nat->Bool}:PyData.eqv (.list (dB n f)) (.list (dB n g))=true↔∀i,i<n->f i=g i:=by show PyData.eqvAll (dB n f) (dB n g)=true↔_;unfold dB;rw[sh,Fl];simp only[List.mem_range,beq_iff_eq]
def zZ{n d:Nat}{g:Nat->Bool}(hd:d<=n)(hz:n % d=0):PyData.eqv (.list (dB (n-d) λk=>g (d+k))) (.list (dB (n-d) g))=true↔Alike g 0 n d:=by
 rw[jz];constructor
 ·intro h;refine⟨hz,λi hi=>?_⟩;have:=h i (by omega);rw[show 0+i+d=d+i by omega,this,Nat.zero_add]
 ·intro h i hi;have:=h.2 i (by omega);rw[show 0+i+d=d+i by omega,Nat.zero_add]at this;exact this
def uU(K:EG):Sp:=λvs H Q _=>∃(p:Addr) (n:Nat) (g:Nat->Bool),vs=[.ref p]/\1<=n/\n<=20000/\H p=some (.lst (aO n g)) ∧
 ∀(d:Nat) H',Ext H H'->1<=d->d<=n->Alike g 0 n d->(∀e,1<=e->e<d->¬Alike g 0 n e)->Q (.int d) H'
abbrev mD:Stmt:=stq 7
def qy:FnScope ["turn","whole","step"] ["turn"] (aM mD):=⟨rfl,rfl,rfl,by decide +kernel,rfl,by decide +kernel,by decide +kernel⟩
def AD{P:Program}{w:World}{K:EG}{mg:Str->Option Value}{base:Heap}(D:Dfn K mg "least_step" mD ["turn"])(T:Blt mg):Cal P w K mg base "least_step" 1 ["turn"] (uU K):=by
 have nd:=(qy).nd;refine D.ok qy (λvs H Q E h=>?_) (λX hX H vs Q E h=>?_)
 ·obtain⟨p,n,g,rfl,_⟩:=h;rfl
 ·obtain⟨f,cdv,A,outer,s,H0,E0,rfl,hr⟩:=hX;obtain⟨p,n,g,rfl,hn1,hn2,hp,q⟩:=h;refine⟨_,(aj (aG (i:=1) nd rfl (Or.inl rfl) (bh (cY K) rfl T.len_ PySem.boot_len (aa (pv 0) ae)))
    (aj (aG (i:=2) nd rfl (Or.inl rfl) af)
    (aj (fD PassesOwn.never (PW.pt (eC (aS hZ (aq cy (pv 1) (pv 2)) af (aQ _)) (eY (aS (A9 hr) (ie (iT K) (pv 0) (f6 (pv 2)) iK) (ie (iT K) (pv 0) iK (f6 (aq cG (pv 1) (pv 2)))) (aQ _))))) (ao (pM (i:=2) nd rfl (Or.inl rfl) af vv)))
    (ao (aL (pv 2)))))),?_⟩
  walk_at"";refine eh (ag.of hp) ?_;rw[cL];walk_at"";refine fY (λm σ H'=>Ext H H'/\∃d:Nat,σ=[some (.ref p),some (.int n),some (.int d)]/\1<=d/\d<=n/\m=n-d/\∀e,1<=e->e<d->¬Alike g 0 n e)
   (λσ H'=>Ext H H'/\∃d:Nat,σ=[some (.ref p),some (.int n),some (.int d)]/\1<=d/\d<=n/\Alike g 0 n d/\∀e,1<=e->e<d->¬Alike g 0 n e) (n-1)
   ⟨Ext.rfl' H,1,rfl,E6 _,hn1,rfl,λe h1 h2=>by omega⟩ ?_ ?_
  rotate_left
  ·rintro σ H' ⟨e,d,rfl,h1,h2,ha,hf⟩;walk_at"";exact q d H' e h1 h2 ha hf
  rintro m σ H' ⟨e,d,rfl,h1,h2,rfl,hf⟩;have hp':=e _ _ hp;have hmod:((n:Int) % (d:Int)=0)↔n % d=0:=by have:(n:Int) % (d:Int)=((n % d:Nat):Int):=rfl;omega
  have next:∀H2,Ext H' H2->¬Alike g 0 n d->∃m',m'<n-d/\Ext H H2/\∃d':Nat,[some (V.ref p),some (V.int n),some (V.int ((d:Int)+1))]=[some (V.ref p),some (V.int n),some (V.int d')]/\1<=d'/\d'<=n/\m'=n-d'/\∀e,1<=e->e<d'->¬Alike g 0 n e:=by
   intro H2 e2 hna;have hlt:d<n:=by
    rcases Fx d n with h|h
    ·exact h
    ·have:d=n:=by omega
     subst this;exact absurd ⟨Nat.mod_self d,λi hi=>by omega⟩ hna
   refine⟨n-(d+1),by omega,e.trans e2,d+1,rfl,by omega,by omega,rfl,λe' h3 h4=>?_⟩;rcases Fx e' d with h5|h5
   ·exact hf e' h3 h5
   ·have:e'=d:=by omega
    subst this;exact hna
  walk_at"";by_cases hz:(n:Int) % (d:Int)=0
  ·rw[FG hz];refine az ?_;walk_at"";refine iI (ag.of hp') (bW λp1 H1 e1 hp1 _=>?_);walk_at"";refine iI (ag.of (e1 _ _ hp')) (bW λp2 H2 e2 hp2 _=>?_);rw[tN (by omega) (by omega),EY]at hp1;rw[DO (by omega) (by omega),show ((n:Int)-(d:Int)).toNat=n-d by omega]at hp2;refine⟨1,1,_,_,jx (e2 _ _ hp1),jx hp2,by decide,?_⟩;walk_at"";have hal:=zZ (g:=g) h2 (hmod.mp hz);cases hc:PyData.eqv (.list (dB (n-d) λk=>g (d+k))) (.list (dB (n-d) g))with
   | true=>
    exact az ⟨e.trans (e1.trans e2),d,rfl,h1,h2,hal.mp hc,hf⟩
   | false=>
    refine aD ⟨_,λ_ _ h=>h,?_⟩;walk_at"";exact next H2 (e1.trans e2) λh=>by rw[hal.mpr h]at hc;cases hc
  ·rw[FF hz];refine aD (aD ⟨_,λ_ _ h=>h,?_⟩);walk_at"";exact next H' (Ext.rfl' H') λh=>hz (hmod.mpr h.1)
def uN{f:Nat->Bool}{b n d:Nat}:Alike (λk=>f (b+k)) 0 n d↔Alike f b n d:=by unfold Alike;simp only[Nat.zero_add,Nat.add_assoc]
def xD(K:EG):Sp:=λvs H Q _=>∃(p:Addr) (b n:Nat) (f:Nat->Bool),vs=[.ref p,.int b]/\1<=n/\b+n<=20000/\H p=some (.lst (aO (b+n) f))/\bA f b n ∧
 ∀v (l d:Nat) H',Ext H H'->Least f d l->l<=b->d<=n->dv H' v l d (row f 0 l) (row f l d)->Q v H'
abbrev lU:Stmt:=stq 8
def qQ:FnScope ["marks","base","step","low","once","again"] ["marks","base"] (aM lU):=⟨rfl,rfl,rfl,by decide +kernel,rfl,by decide +kernel,by decide +kernel⟩
def Df{P:Program}{w:World}{K:EG}{mg:Str->Option Value}{base:Heap}(D:Dfn K mg "stair_of_marks" lU ["marks","base"])(T:Blt mg)(C_least_step:Cal P w K mg base "least_step" 1 ["turn"] (uU K)):Cal P w K mg base "stair_of_marks" 2 ["marks","base"] (xD K):=by
 have nd:=(qQ).nd;refine D.ok qQ (λvs H Q E h=>?_) (λX hX H vs Q E h=>?_)
 ·obtain⟨p,b,n,f,rfl,_⟩:=h;rfl
 ·obtain⟨f,cdv,A,outer,s,H0,E0,rfl,hr⟩:=hX;obtain⟨p,b,n,g,rfl,hn1,hbn,hp,hper,q⟩:=h;refine⟨_,(aj (aG (i:=2) nd rfl (Or.inl rfl) (aH C_least_step hr (aa (ie (iT K) (pv 0) (f6 (pv 1)) iK) ae)))
    (aj (aG (i:=3) nd rfl (Or.inl rfl) (pv 1))
    (aj (fD PassesOwn.never (PW.pt (fV (aS fS (pv 3) af (aQ _)) (fL (aS bG (ah (aI K) (pv 0) (aq cG (pv 3) af) (λ_ _=>rfl)) (ah (aI K) (pv 0) (aq aU (aq cG (pv 3) af) (pv 2)) (λ_ _=>rfl)) (aQ _))))) (ao (pM (i:=3) nd rfl (Or.inl rfl) af y8)))
    (aj (gC (i:=4) ["number"] [0] nd rfl (Or.inl rfl) (bR rfl T.range_ (aa (pv 3) ae)) (λ_=>(aK (i:=0) (show(["number","marks"]:List Str).Nodup from by decide +kernel) rfl (Or.inl rfl) (Or.inr rfl))) (λ_=>(dR (bQ (ah (aI K) (pv 1) (pv 0) (λ_ _=>rfl))))) (λ_=>(pv 0)))
    (aj (gC (i:=5) ["number"] [0] nd rfl (Or.inl rfl) (vT rfl T.range_ (aa (pv 3) (aa (aq aU (pv 3) (pv 2)) ae))) (λ_=>(aK (i:=0) (show(["number","marks"]:List Str).Nodup from by decide +kernel) rfl (Or.inl rfl) (Or.inr rfl))) (λ_=>(dR (bQ (ah (aI K) (pv 1) (pv 0) (λ_ _=>rfl))))) (λ_=>(pv 0)))
    (ao (aL (bj (aa (pv 3) (aa (pv 2) (aa (eQ (gX K) rfl T.tuple_ PyProof.Rows.boot_tuple (aa (pv 4) ae)) (aa (eQ (gX K) rfl T.tuple_ PyProof.Rows.boot_tuple (aa (pv 5) ae)) ae)))))))))))),?_⟩
  walk_at"";refine iI (ag.of hp) (bW λp1 H1 e1 hp1 _=>?_);rw[tN (by omega) (by omega),EY,show b+n-b=n by omega]at hp1;walk_at"";refine⟨p1,n,_,rfl,hn1,by omega,hp1,λd H2 e2 hd1 hd2 hal hfirst=>?_⟩;have hal':=uN.mp hal;have hfirst':∀e,1<=e->e<d->¬Alike g b n e:=λe h3 h4 h5=>hfirst e h3 h4 (uN.mpr h5);have e02:Ext H H2:=e1.trans e2;have hp2:=e02 _ _ hp;walk_at"";refine fY (λm σ H'=>H'=H2/\∃l:Nat,σ=[some (.ref p),some (.int b),some (.int d),some (.int l),none,none]/\l<=b/\m=l/\∀x,l<=x->x<b->g x=g (x+d))
   (λσ H'=>H'=H2/\∃l:Nat,σ=[some (.ref p),some (.int b),some (.int d),some (.int l),none,none]/\l<=b/\(∀x,l<=x->x<b->g x=g (x+d))/\(l=0\/g (l-1)≠g (l-1+d))) b
   ⟨rfl,b,rfl,E6 _,rfl,λx h1 h2=>by omega⟩ ?_ ?_
  ·rintro m σ H' ⟨rfl,l,rfl,hl,rfl,hdown⟩;walk_at"";by_cases h0:(0:Int)<(m:Int)
   ·rw[FG h0];refine aD ?_;walk_at"";refine aF (ag.of hp2) (cF (by omega) (by omega)) ?_;walk_at"";refine aF (ag.of hp2) (cF (by omega) (by omega)) ?_;walk_at"";rw[show ((m:Int)-1).toNat=m-1 by omega,show ((m:Int)-1+(d:Int)).toNat=m-1+d by omega];cases hc:g (m-1) == g (m-1+d)with
    | true=>
     refine aD ⟨_,λ_ _ h=>h,?_⟩;walk_at"";refine⟨m-1,by omega,rfl,m-1,by rw[show ((m-1:Nat):Int)=(m:Int)-1 by omega];rfl,by omega,rfl,λx h1 h2=>?_⟩;rcases Fx x m with h3|h3
     ·have:x=m-1:=by omega
      rw[this];exact eq_of_beq hc
     ·exact hdown x h3 h2
    | false=>exact az ⟨rfl,m,rfl,hl,hdown,.inr λh=>by rw[h]at hc;simp at hc⟩
   ·rw[FF h0];exact az (az ⟨rfl,m,rfl,hl,hdown,.inl (by omega)⟩)
  rintro σ H' ⟨rfl,l,rfl,hl,hdown,hstop⟩;have hleast:Least g d l:=wU hper hn1 hd1 hal' hfirst' hl hdown hstop;walk_at"";refine bS (by omega) ?_;rw[EY];refine dA (λi ys H3=>H3=H'/\ys=(row g 0 i).map V.int) (br (by omega)) ⟨rfl,rfl⟩ ?_ ?_ ?_
  ·rintro i ys H3 _ ⟨rfl,rfl⟩;rw[EK];exact gQ g 0 i
  ·rintro i ys H3 hi ⟨rfl,hy⟩;walk_at"";refine aF (ag.of hp2) (cF (by omega) (by omega)) ?_;walk_at"";rw[show ((0:Int)+(i:Int)).toNat=i by omega];have e0:g (0+i)=g i:=by rw[Nat.zero_add]
   cases hg:g i with
   | true=>
    refine aD ?_;walk_at"";refine⟨rfl,?_⟩;rw[←i9 hy (e0.trans hg)];congr 3
    all_goals omega
   | false=>exact az ⟨rfl,iS hy (e0.trans hg)⟩
  rintro ys H3 p3 ⟨rfl,rfl⟩ hp3;have e4:Ext H3 (upd H3 p3 (.lst ((row g 0 l).map V.int))):=aX hp3;have h4:(upd H3 p3 (.lst ((row g 0 l).map V.int))) p3=_:=aE;generalize upd H3 p3 (.lst ((row g 0 l).map V.int))=H4 at e4 h4;have hp4:=e4 _ _ hp2;walk_at"";refine rZ (by omega) ?_;rw[show ((l:Int)+(d:Int)-(l:Int)).toNat=d by omega];refine dA (λi ys H5=>H5=H4/\ys=(row g l i).map V.int) (br (by omega)) ⟨rfl,rfl⟩ ?_ ?_ ?_
  ·rintro i ys H5 _ ⟨rfl,rfl⟩;rw[EK];exact gQ g _ i
  ·rintro i ys H5 hi ⟨rfl,hy⟩;walk_at"";refine aF (ag.of hp4) (cF (by omega) (by omega)) ?_;walk_at"";rw[show ((l:Int)+(i:Int)).toNat=l+i by omega];cases hg:g (l+i)with
   | true=>
    refine aD ?_;walk_at"";refine⟨rfl,?_⟩;rw[←i9 hy hg];congr 3
    all_goals omega
   | false=>exact az ⟨rfl,iS hy hg⟩
  rintro ys H5 p5 ⟨rfl,rfl⟩ hp5;have e6:Ext H5 (upd H5 p5 (.lst ((row g l d).map V.int))):=aX hp5;have h6:(upd H5 p5 (.lst ((row g l d).map V.int))) p5=_:=aE;generalize upd H5 p5 (.lst ((row g l d).map V.int))=H6 at e6 h6;walk_at"";refine gg (ag.of (e6 _ _ h4)) (bW λt1 H7 e7 ht1 _=>?_);walk_at"";refine gg (ag.of (e7 _ _ h6)) (bW λt2 H8 e8 ht2 _=>?_);walk_at"";refine aJ λt H9 e9 ht _=>?_;exact q _ l d H9 (e02.trans (e4.trans (e6.trans (e7.trans (e8.trans e9))))) hleast hl hd2 ⟨t,t1,t2,rfl,ht,e9 _ _ (e8 _ _ ht1),e9 _ _ ht2⟩
open Classical in
def iB(n:Nat)(R:Nat->Nat->Prop)(f:Nat->Bool):Nat->Bool:=λj=>decide (∃i,i<n/\f i=true/\R i j)
def jR{n:Nat}{R:Nat->Nat->Prop}{f:Nat->Bool}{j:Nat}:iB n R f j=true↔∃i,i<n/\f i=true/\R i j:=by unfold iB;simp
def bx(n:Nat)(R:Nat->Nat->Prop)(f:Nat->Bool):Nat->Nat->Bool
 | 0=>f
 | k+1=>iB n R (bx n R f k)
def cO(n:Nat)(f g:Nat->Bool):Prop:=∀j,j<n->f j=g j
def zd{n:Nat}{R:Nat->Nat->Prop}{f g:Nat->Bool}(h:cO n f g):cO n (iB n R f) (iB n R g):=λj _=>by
 rw[Fn,jR,jR];constructor
 ·rintro⟨i,hi,h1,h2⟩;exact⟨i,hi,by rw[←h i hi];exact h1,h2⟩
 ·rintro⟨i,hi,h1,h2⟩;exact⟨i,hi,by rw[h i hi];exact h1,h2⟩
def vz{n:Nat}{R:Nat->Nat->Prop}{f:Nat->Bool}{a k:Nat}(h:cO n (bx n R f a) (bx n R f k)):∀t,cO n (bx n R f (a+t)) (bx n R f (k+t))
 | 0=>h
 | t+1=>zd (vz h t)
def eR(f:Nat->Bool):Nat->Nat
 | 0=>0
 | n+1=>eR f n+if f n then 2 ^ n else 0
def kO(f:Nat->Bool):∀n,eR f n<2 ^ n
 | 0=>by simp[eR]
 | n+1=>by
  have:=kO f n;have h2:2 ^ (n+1)=2 ^ n+2 ^ n:=by rw[Nat.pow_succ];omega
  show eR f n+(if f n then 2 ^ n else 0)<_;split<;>omega
def vF{f g:Nat->Bool}:∀n,eR f n=eR g n->cO n f g
 | 0,_=>λj hj=>absurd hj (Nat.not_lt_zero _)
 | n+1,h=>by
  have h1:=kO f n;have h2:=kO g n;have h':eR f n+(if f n then 2 ^ n else 0)=eR g n+(if g n then 2 ^ n else 0):=h;have key:f n=g n/\eR f n=eR g n:=by cases hf:f n<;>cases hg:g n<;>simp[hf,hg]at h' ⊢<;>omega
  intro j hj;by_cases hjn:j<n
  ·exact vF n key.2 j hjn
  ·have:j=n:=by omega
   subst this;exact key.1
def oP{n k:Nat}{F:Nat->Nat->Bool}(hn:n<=12)(h:∀a b,a<b->b<k->¬cO n (F a) (F b)):k<=4096:=by
 have h1:=Bfs.ki 4096 ((FE k).map λa=>eR (F a) n) (by
  rw[List.nodup_iff_pairwise_ne,List.pairwise_map,List.pairwise_iff_getElem];intro i j hi hj hij e;simp at hi hj e;exact h i j hij hj (vF n e)) (λx hx=>by
  obtain⟨a,_,rfl⟩:=List.mem_map.mp hx;exact Fh (kO (F a) n) (Fi (Nat.pow_le_pow_right (by omega) hn) (by decide)))
 simpa using h1
def fK(n:Nat)(R:Nat->Nat->Prop)(top:Nat)(M:Nat->Nat->Bool):Nat->Nat->Bool:=λi=>if i<top then M i else bx n R (M top) (i-top)
def o4{α:Type}{xs:List α}{k:Nat}(h:xs.length=k+1){v:α}(hv:xs[k]?=some v):bz xs (-1)=some v:=by unfold bz fi;rw[h,FH (by omega),FI (by omega)];show xs[(-1+((k+1:Nat):Int)).toNat]?=some v;rw[show (-1+((k+1:Nat):Int)).toNat=k by omega];exact hv
def vW{xs:List V}{k:Nat}(h:xs.length=k+1):cj xs none (some (-1))=xs.take k:=by
 unfold cj;have e1:HT.aN xs.length xs.length (some (-1))=k:=by show(if(-1:Int)<0 then(-1+(xs.length:Int)).toNat else min (-1:Int).toNat xs.length)=_;rw[FI (by decide)];omega
 have e2:HT.aN xs.length 0 none=0:=rfl;rw[e1,e2];simp
def o8{H:Hp}{n:Nat}:∀{hs:List Addr} {F:Nat->Nat->Bool},(∀(a:Nat) (r:Addr),hs[a]?=some r->H r=some (.lst (aO n (F a))))->Paired (aV H 1) (List.map V.ref hs) ((FE hs.length).map λa=>PyData.list (dB n (F a)))
 | [],_,_=>.nil
 | r::hs,F,h=>by rw[Fe,List.range_succ_eq_map,List.map_cons,List.map_cons,List.map_map];exact .cons (jx (h 0 r rfl)) (o8 (F:=λa=>F (a+1)) λa r' hr=>h (a+1) r' (by simpa using hr))
def qw(K:EG):Sp:=λvs H Q _=>∃vh m ws pa x,vs=[vh,.ref pa]/\bw H vh m ws/\HOuse m ws/\aA H pa x/\fM m x/\gU K/\Tbs K H/\∀p lq rs (b N:Nat) M H',Et H H'->Tbs K H'->H' p=some (.tup [.ref lq,.int (b:Nat)])->Rows H' lq rs m.toNat (fK m.toNat (bf ws m.toNat) x.2.toNat M)->rs.length=b+N->1<=N->b+N<=5200->(∀r,r<m.toNat->bA (λi=>fK m.toNat (bf ws m.toNat) x.2.toNat M i r) b N) →
 (∀i r:Nat,(i:Int)<=x.2->(r:Int)<m->(M i r=true↔∃n,Bfs.Rw (LB ws m.toNat x.2) n x ((r:Int),(i:Int))))->Q (.ref p) H'
abbrev oy:Stmt:=stq 42
def v7:FnScope ["house","place","rises","low","high","level"] ["house","place"] (aM oy):=⟨rfl,rfl,rfl,by decide +kernel,rfl,by decide +kernel,by decide +kernel⟩
def DZ{P:Program}{w:World}{K:EG}{mg:Str->Option Value}{base:Heap}(D:Dfn K mg "all_levels" oy ["house","place"])(T:Blt mg)(C_next_level:Cal P w K mg base "next_level" 1 ["rises","level"] (uJ K))(C_low_levels:Cal P w K mg base "low_levels" 8 ["house","place"] (oI K))(C_risen:Cal P w K mg base "risen" 7 ["house"] (lJ K)):Cal P w K mg base "all_levels" 9 ["house","place"] (qw K):=by
 have nd:=(v7).nd;refine D.ok v7 (λvs H Q E h=>?_) (λX hX H vs Q E h=>?_)
 ·obtain⟨vh,m,ws,pa,x,rfl,_⟩:=h;rfl
 ·obtain⟨f,cdv,A,outer,s,H0,E0,rfl,hr⟩:=hX;obtain⟨vh,m,ws,pa,x,rfl,hv,ok,hpx,ix,dis,htb,q⟩:=h;have m1:=ok.m1;have m12:=ok.m12;obtain⟨i0,i1,i2,i3⟩:=id ix;refine⟨_,(aj (aG (i:=2) nd rfl (Or.inl rfl) (aH C_risen hr (aa (pv 0) ae)))
    (aj (aG (i:=3) nd rfl (Or.inl rfl) (aH C_low_levels hr (aa (pv 0) (aa (pv 1) ae))))
    (aj (aG (i:=4) nd rfl (Or.inl rfl) (bq (aa (ah (aI K) (pv 3) (eZ eX af) (λ_ _=>rfl)) ae)))
    (aj (aG (i:=5) nd rfl (Or.inl rfl) (aH C_next_level hr (aa (pv 2) (aa (ah (aI K) (pv 3) (eZ eX af) (λ_ _=>rfl)) ae))))
    (aj (fD PassesOwn.never (aS (uT hr) (pv 5) (pv 4) (by with_unfolding_all rfl)) (aj (bt (bE K ET E7 E8 bL (pv 4) (aa (pv 5) ae)))
    (ao (aG (i:=5) nd rfl (Or.inl rfl) (aH C_next_level hr (aa (pv 2) (aa (pv 5) ae)))))))
    (ao (aL (bj (aa (aq jL (ie (iT K) (pv 3) iK (f6 (eZ eX af))) (pv 4)) (aa (aq aU (ah (aC K) (pv 1) af (λ_ _=>rfl)) (bE K ET PySem.F.slot_list_index PySem.F.type_list_index (AY hr) (pv 4) (aa (pv 5) ae))) ae)))))))))),?_⟩
  walk_at"";refine⟨vh,m,ws,rfl,hv,ok,dis,htb,λrl H1 e1 tb1 prs=>?_⟩;walk_at"";refine⟨vh,m,ws,pa,x,rfl,hv.et e1,ok,hpx.et e1,ix,dis,tb1,λlq rs M H2 e2 tb2 rows hrl hM=>?_⟩;have prs2:=prs.et e2;have hpx2:=(hpx.et e1).et e2;have hrl':rs.length=x.2.toNat+1:=by omega
  have hlast:rs[x.2.toNat]?=some rs[x.2.toNat]:=EL (by omega);generalize rs[x.2.toNat]=r0 at hlast;have hr0:=rows.2 _ _ hlast;have hat:bz (List.map V.ref rs) (-1)=some (.ref r0):=o4 (k:=x.2.toNat) (by rw[EK];exact hrl') (by rw[EM,hlast];rfl);walk_at"";refine aF (ag.of rows.1) hat ?_;walk_at"";refine aJ λhq H3 e3 hhq hhn=>?_;walk_at"";refine aF (ag.of (e3 _ _ rows.1)) hat ?_;walk_at"";refine⟨rl,r0,m.toNat,_,_,rfl,prs2.et e3.et,e3 _ _ hr0,by omega,λlv g H4 e4 hln hl4 hg=>?_⟩;have e24:=e3.trans e4;have hl4':H4 lv=some (.lst (aO m.toNat (bx m.toNat (bf ws m.toNat) (M x.2.toNat) 1))):=by
   rw[hl4];congr 2;exact eU λj hj=>by rw[Fn];exact(hg j hj).trans jR.symm
  clear hl4 hg;walk_at"";refine fY (λmm σ H'=>∃hs lv k,Ext H2 H'/\H' hq=some (.lst (List.map V.ref hs))/\hs.length=k+1/\(∀(a:Nat) (r:Addr),hs[a]?=some r->H' r=some (.lst (aO m.toNat (bx m.toNat (bf ws m.toNat) (M x.2.toNat) a))))/\(∀a b,a<b->b<k+1->¬cO m.toNat (bx m.toNat (bf ws m.toNat) (M x.2.toNat) a) (bx m.toNat (bf ws m.toNat) (M x.2.toNat) b))/\H' lv=some (.lst (aO m.toNat (bx m.toNat (bf ws m.toNat) (M x.2.toNat) (k+1))))/\mm=4097-k/\σ=[some vh,some (.ref pa),some (.ref rl),some (.ref lq),some (.ref hq),some (.ref lv)])
   (λσ H'=>∃hs lv k a,Ext H2 H'/\H' hq=some (.lst (List.map V.ref hs))/\hs.length=k+1/\(∀(a:Nat) (r:Addr),hs[a]?=some r->H' r=some (.lst (aO m.toNat (bx m.toNat (bf ws m.toNat) (M x.2.toNat) a))))/\(∀a b,a<b->b<k+1->¬cO m.toNat (bx m.toNat (bf ws m.toNat) (M x.2.toNat) a) (bx m.toNat (bf ws m.toNat) (M x.2.toNat) b))/\H' lv=some (.lst (aO m.toNat (bx m.toNat (bf ws m.toNat) (M x.2.toNat) (k+1))))/\a<k+1/\cO m.toNat (bx m.toNat (bf ws m.toNat) (M x.2.toNat) a) (bx m.toNat (bf ws m.toNat) (M x.2.toNat) (k+1))/\k+1<=4096/\σ=[some vh,some (.ref pa),some (.ref rl),some (.ref lq),some (.ref hq),some (.ref lv)])
   4097 ⟨[r0],lv,0,e24,e4 _ _ hhq,rfl,λa r ha=>by
    cases a with
    | zero=>cases ha;exact e24 _ _ hr0
    | succ a=>simp at ha,λa b h1 h2=>by omega,hl4',rfl,rfl⟩ ?_ ?_
  ·rintro mm σ H5 ⟨hs,lv,k,e5,hq5,hsl,hrow,hun,hlv,rfl,rfl⟩;have hk:=oP (F:=bx m.toNat (bf ws m.toNat) (M x.2.toNat)) (show m.toNat<=12 by omega) hun;have hrep:=o8 hrow;walk_at"";refine vc (jx hlv) hq5 hrep (by omega) ?_;have hany:((FE hs.length).map λa=>PyData.list (dB m.toNat (bx m.toNat (bf ws m.toNat) (M x.2.toNat) a))).any (λe=>PyData.eqv e (.list (dB m.toNat (bx m.toNat (bf ws m.toNat) (M x.2.toNat) (k+1)))))=true↔∃a,a<k+1/\cO m.toNat (bx m.toNat (bf ws m.toNat) (M x.2.toNat) a) (bx m.toNat (bf ws m.toNat) (M x.2.toNat) (k+1)):=by
    rw[List.any_map,Fm,hsl];constructor
    ·rintro⟨a,ha,he⟩;exact⟨a,List.mem_range.mp ha,jz.mp he⟩
    ·rintro⟨a,ha,he⟩;exact⟨a,List.mem_range.mpr ha,jz.mpr he⟩
   generalize ((FE hs.length).map λa=>PyData.list (dB m.toNat (bx m.toNat (bf ws m.toNat) (M x.2.toNat) a))).any (λe=>PyData.eqv e (.list (dB m.toNat (bx m.toNat (bf ws m.toNat) (M x.2.toNat) (k+1)))))=bb at hany ⊢;cases bb with
   | true=>
    obtain⟨a,ha,hsame⟩:=hany.mp rfl;refine⟨_,rfl,az ?_⟩;exact⟨hs,lv,k,a,e5,hq5,hsl,hrow,hun,hlv,ha,hsame,hk,rfl⟩
   | false=>
    have hno:∀a,a<k+1->¬cO m.toNat (bx m.toNat (bf ws m.toNat) (M x.2.toNat) a) (bx m.toNat (bf ws m.toNat) (M x.2.toNat) (k+1)):=λa ha hs=>by have:=hany.mpr ⟨a,ha,hs⟩;cases this
    have hun2:∀a b,a<b->b<k+1+1->¬cO m.toNat (bx m.toNat (bf ws m.toNat) (M x.2.toNat) a) (bx m.toNat (bf ws m.toNat) (M x.2.toNat) b):=λa b hab hb=>by
     by_cases hbk:b<k+1
     ·exact hun a b hab hbk
     ·have:b=k+1:=by omega
      subst this;exact hno a hab
    have hk2:=oP (F:=bx m.toNat (bf ws m.toNat) (M x.2.toNat)) (show m.toNat<=12 by omega) hun2;refine⟨_,rfl,aD ⟨λσ' H'=>∃hs lv,Ext H2 H'/\H' hq=some (.lst (List.map V.ref hs))/\hs.length=k+1+1/\(∀(a:Nat) (r:Addr),hs[a]?=some r->H' r=some (.lst (aO m.toNat (bx m.toNat (bf ws m.toNat) (M x.2.toNat) a))))/\H' lv=some (.lst (aO m.toNat (bx m.toNat (bf ws m.toNat) (M x.2.toNat) (k+1+1))))/\σ'=[some vh,some (.ref pa),some (.ref rl),some (.ref lq),some (.ref hq),some (.ref lv)],λσ' H' ⟨hs,lv,a1,a2,a3,a4,a5,a6⟩=>⟨4097-(k+1),by omega,hs,lv,k+1,a1,a2,a3,a4,hun2,a5,rfl,a6⟩,?_⟩⟩;have nqr:∀r∈hs++[lv],r≠hq:=λr hr z=>by
     have hb:∃f,H5 r=some (.lst (aO m.toNat f)):=by
      rcases E9.mp hr with h|h
      ·obtain⟨j,hj⟩:=Fy h;exact⟨_,hrow j r hj⟩
      ·rw[EW.mp h];exact⟨_,hlv⟩
     obtain⟨f,hb⟩:=hb;rw[z,hq5]at hb;have h2:List.map V.ref hs=aO m.toNat f:=by
      injection hb with hb
      injection hb
     have h3:=congrArg (λz:List V=>z[0]?) h2
     try dsimp only at h3
     rw[fE _ (by omega),EM]at h3;cases y:hs[0]? with
     | none=>rw[y]at h3;cases h3
     | some a=>rw[y]at h3;cases h3
    walk_at"";refine⟨cB (ag.of hq5),?_⟩;walk_at"";refine bJ hq5 (dO (by rw[EK];omega)) ?_;have hn2:H2 hq=none:=hhn;have e6:=bK (o:=.lst (List.map V.ref hs++[.ref lv])) e5 hn2;have keep:∀b o,b≠hq->H5 b=some o->upd H5 hq (.lst (List.map V.ref hs++[.ref lv])) b=some o:=λb o nb e=>by rw[ay nb];exact e
    have hq6:upd H5 hq (.lst (List.map V.ref hs++[.ref lv])) hq=some (.lst (List.map V.ref (hs++[lv]))):=by rw[aE,E3];rfl
    have hlv6:=keep lv _ (nqr lv (by simp)) hlv;have hrow6:∀(a:Nat) (r:Addr),(hs++[lv])[a]?=some r->upd H5 hq (.lst (List.map V.ref hs++[.ref lv])) r=some (.lst (aO m.toNat (bx m.toNat (bf ws m.toNat) (M x.2.toNat) a))):=λa r ha=>by
     by_cases hal:a<hs.length
     ·rw[Fc hal]at ha;exact keep r _ (nqr r (Fu _ (EV ha))) (hrow a r ha)
     ·rw[Fb (by omega)]at ha;have hz:a-hs.length=0:=by have:=(EU.mp ha).1;simp at this;omega
      rw[hz]at ha;cases ha;have:a=k+1:=by omega
      subst this;exact hlv6
    generalize upd H5 hq (.lst (List.map V.ref hs++[.ref lv]))=H6 at e6 hq6 hlv6 hrow6 ⊢;walk_at"";refine⟨rl,lv,m.toNat,_,_,rfl,prs2.et e6.et,hlv6,by omega,λlv2 g2 H7 e7 _ hl7 hg2=>?_⟩;walk_at"";refine⟨hs++[lv],lv2,e6.trans e7,e7 _ _ hq6,by rw[E4,hsl];rfl,λa r ha=>e7 _ _ (hrow6 a r ha),?_,rfl⟩;rw[hl7];congr 2;exact eU λj hj=>by rw[Fn];exact(hg2 j hj).trans jR.symm
  ·rintro σ H5 ⟨hs,lv,k,a,e5,hq5,hsl,hrow,hun,hlv,ha,hsame,hk,rfl⟩;have rows5:=rows.ext e5;walk_at"";refine iI (ag.of rows5.1) (bW λlo H6 e6 hlo _=>?_);rw[vW (k:=x.2.toNat) (by rw[EK];exact hrl')]at hlo;walk_at"";refine jj hlo (e6 _ _ hq5) (br (by simp;omega)) (bW λll H7 e7 hll _=>?_);have e57:=e6.trans e7;walk_at"";refine aB (ai.of (e57 _ _ (e5 _ _ hpx2))) (v:=.int x.2) rfl ?_;walk_at"";have hrow7:∀(a:Nat) (r:Addr),hs[a]?=some r->H7 r=some (.lst (aO m.toNat (bx m.toNat (bf ws m.toNat) (M x.2.toNat) a))):=λa r h=>e57 _ _ (hrow a r h);refine⟨cB (ag.of (e57 _ _ hq5)),?_⟩;walk_at"";refine⟨1,hq,_,.ref lv,_,_,a,rfl,rfl,jx (e57 _ _ hlv),e57 _ _ hq5,o8 hrow7,by omega,⟨_,by rw[EM,List.getElem?_range (by omega)];rfl,jz.mpr hsame⟩,λb e hb he=>?_,by omega,?_⟩
   ·rw[EM,List.getElem?_range (by omega)]at he;cases he;rw[Bool.eq_false_iff];intro hc;have:=jz.mp hc;exact hun b a hb ha λj hj=>(this j hj).trans (hsame j hj).symm
   walk_at"";refine aJ λpp H8 e8 hpp _=>?_;have e28:=e5.trans (e57.trans e8);refine q pp ll (rs.take x.2.toNat++hs) (x.2.toNat+a) (k+1-a) M H8 ((e1.trans e2).trans e28.et) (tb2.ext e28) ?_ ⟨?_,λi r hi=>?_⟩ ?_ (by omega) (by omega) (λr hr=>?_) hM
   ·rw[hpp];congr 3;congr 2;omega
   ·rw[e8 _ _ hll,E3,List.map_take]
   ·unfold fK;by_cases hix:i<x.2.toNat
    ·rw[FI hix];rw[Fc (by rw[FA];omega),List.getElem?_take_of_lt hix]at hi;exact e28 _ _ (rows.2 i r hi)
    ·rw[FH hix];rw[Fb (by rw[FA];omega),FA,show i-min x.2.toNat rs.length=i-x.2.toNat by omega]at hi;exact e8 _ _ (hrow7 _ _ hi)
   ·rw[E4,FA];omega
   ·intro i hi;show fK _ _ _ _ (i+(k+1-a)) r=fK _ _ _ _ i r;unfold fK;rw[FH (by omega),FH (by omega)];have hp:=vz hsame (i-x.2.toNat-a) r hr;rw[show a+(i-x.2.toNat-a)=i-x.2.toNat by omega,show k+1+(i-x.2.toNat-a)=i+(k+1-a)-x.2.toNat by omega]at hp;exact hp.symm
def dz(ws:List Way)(a b:Bfs.Pl):Prop:=∃w∈ws,cR w a.1 a.2=true/\b=(w.other,a.2+rz w.deed)
def cb(ws:List Way)(x y:Bfs.Pl):Prop:=∃n,Bfs.Rw (dz ws) n x y
def gZ{w:Way}{r n:Int}(hr:w.room=r)(h:w.deed = "up"\/w.deed = "stay"\/(w.deed = "down"/\0<n)\/(w.deed = "zero"/\n=0)):cR w r n=true:=by
 unfold cR;rw[FG hr,Bool.true_and];rcases h with h|h|⟨h,hn⟩|⟨h,hn⟩
 ·rw[h,FH (by decide +kernel)];have:decide ((Fp "up") = "zero")=false:=by decide +kernel
  rw[this];rfl
 ·rw[h,FH (by decide +kernel)];have:decide ((Fp "stay") = "zero")=false:=by decide +kernel
  rw[this];rfl
 ·rw[h,FI (by decide +kernel)];exact FG hn
 ·rw[h,FH (by decide +kernel),hn];simp
def gq{w:Way}{r n:Int}(hd:bZ w.deed)(h:cR w r n=true):(w.deed = "up"/\rz w.deed=1)\/(w.deed = "stay"/\rz w.deed=0)\/(w.deed = "down"/\0<n/\rz w.deed = -1)\/(w.deed = "zero"/\n=0/\rz w.deed=0):=by
 unfold cR at h;rw[Fo]at h;rcases hd with hd|hd|hd|hd
 ·exact .inl ⟨hd,by rw[hd];exact g7⟩
 ·rw[hd,FI (by decide +kernel)]at h;exact .inr (.inr (.inl ⟨hd,of_decide_eq_true h.2,by rw[hd];exact iU⟩))
 ·exact .inr (.inl ⟨hd,by rw[hd];exact iV⟩)
 ·rw[hd,FH (by decide +kernel)]at h;have h2:decide ((Fp "zero") = "zero")=true:=by decide +kernel
  rw[h2]at h;refine .inr (.inr (.inr ⟨hd,?_,by rw[hd];exact pO⟩));simpa using h.2
def cb.refl{ws:List Way}{x:Bfs.Pl}:cb ws x x:=⟨0,.nil⟩
def cb.trans{ws:List Way}{x y z:Bfs.Pl}(h:cb ws x y)(g:cb ws y z):cb ws x z:=by obtain⟨n,h⟩:=h;obtain⟨k,g⟩:=g;exact⟨n+k,h.trans g⟩
def cb.one{ws:List Way}{x y:Bfs.Pl}(h:dz ws x y):cb ws x y:=⟨1,.snoc .nil h⟩
section
variable {m:Int} {ws:List Way} (ok:∀w∈ws,w.Ok m)
include ok
def fI{a b:Bfs.Pl}(h:dz ws a b)(ha:0<=a.2):0<=b.1/\b.1<m/\0<=b.2/\b.2<=a.2+1/\a.2<=b.2+1:=by obtain⟨w,hw,ho,rfl⟩:=h;have okw:=ok w hw;refine⟨okw.o0,okw.o1,?_⟩;rcases gq okw.dd ho with⟨_,h⟩|⟨_,h⟩|⟨_,h1,h⟩|⟨_,h1,h⟩<;>(show 0<=a.2+rz w.deed/\a.2+rz w.deed<=a.2+1/\a.2<=a.2+rz w.deed+1;omega)
def si{i j:Nat}(h:Kpt ws m.toNat i j):∀L:Int,0<=L->cb ws ((i:Int),L) ((j:Int),L):=by
 induction h with
 | refl _=>exact λ_ _=>.refl
 | @stay w hw hd=>
  intro L _;have okw:=ok w hw;have r0:=okw.r0;have o0:=okw.o0;refine .one ⟨w,hw,gZ (by show w.room=((w.room.toNat:Nat):Int);omega) (.inr (.inl hd)),?_⟩;rw[hd,iV];exact Prod.ext (by show((w.other.toNat:Nat):Int)=w.other;omega) (by show L=L+0;omega)
 | trans _ _ h1 h2=>exact λL hL=>(h1 L hL).trans (h2 L hL)
 | @arch u d hu hud hd hdd _ ih=>
  intro L hL;have oku:=ok u hu;have okd:=ok d hd;have u0:=oku.r0;have u1:=oku.o0;have d0:=okd.r0;have d1:=okd.o0;have s1:dz ws (((u.room.toNat:Nat):Int),L) (((u.other.toNat:Nat):Int),L+1):=⟨u,hu,gZ (by show u.room=((u.room.toNat:Nat):Int);omega) (.inl hud),by rw[hud,g7];exact Prod.ext (by show((u.other.toNat:Nat):Int)=u.other;omega) rfl⟩;have s2:dz ws (((d.room.toNat:Nat):Int),L+1) (((d.other.toNat:Nat):Int),L):=⟨d,hd,gZ (by show d.room=((d.room.toNat:Nat):Int);omega) (.inr (.inr (.inl ⟨hdd,by omega⟩))),by rw[hdd,iU];exact Prod.ext (by show((d.other.toNat:Nat):Int)=d.other;omega) (by show L=L+1 + -1;omega)⟩;exact((cb.one s1).trans (ih (L+1) (by omega))).trans (.one s2)
def mJ:∀(n:Nat) (w:Nat->Bfs.Pl) (i:Nat) (L:Int),1<=L->(∀k,i<=k->k<i+n->dz ws (w k) (w (k+1)))->(∀k,i<=k->k<=i+n->L<=(w k).2)->(w i).2=L->(w (i+n)).2=L->0<=(w i).1->(w i).1<m->Kpt ws m.toNat (w i).1.toNat (w (i+n)).1.toNat:=by
 intro n;induction n using Nat.strongRecOn with
 | ind n ih=>
  intro w i L hL hS hh h0 h1 r0 r1;cases n with
  | zero=>exact .refl (by show(w i).1.toNat<m.toNat;omega)
  | succ n=>
   have s0:=hS i (E6 _) (by omega);have in1:=fI ok s0 (by omega);obtain⟨v,hv,ho,hw1⟩:=id s0;have okv:=ok v hv;have hroom:=gL ho;have e1:(w (i+1)).1=v.other:=by rw[hw1]
   have e2:(w (i+1)).2=(w i).2+rz v.deed:=by rw[hw1]
   have hge:=hh (i+1) (by omega) (by omega);rcases gq okv.dd ho with⟨hd,hz⟩|⟨hd,hz⟩|⟨hd,_,hz⟩|⟨hd,h00,hz⟩
   ·obtain⟨d,hd1,hd2,hd3,hd4⟩:=Bfs.rC (h:=λk=>(w k).2) (l:=L) (P:=i+1) (n:=i+(n+1)) (by omega) (λk hk1 hk2=>(fI ok (hS k (by omega) hk2) (by have:=hh k (by omega) (by omega);omega)).2.2.2.2) (by show(w (i+(n+1))).2<=L;omega) (by show L<=(w (i+1)).2;omega)
    try dsimp only at hd3 hd4
    have hdi:d≠i+1:=λz=>by rw[z]at hd3;omega
    have sd:=hS (d-1) (by omega) (by omega);rw[show d-1+1=d by omega]at sd;obtain⟨v2,hv2,ho2,hw2⟩:=id sd;have okv2:=ok v2 hv2;have hroom2:=gL ho2;have f1:(w d).1=v2.other:=by rw[hw2]
    have f2:(w d).2=(w (d-1)).2+rz v2.deed:=by rw[hw2]
    have hgt:=hd4 (d-1) (by omega) (by omega);have hdown:v2.deed = "down"/\rz v2.deed = -1:=by
     rcases gq okv2.dd ho2 with⟨_,hz⟩|⟨_,hz⟩|⟨hd,_,hz⟩|⟨_,_,hz⟩
     ·omega
     ·omega
     ·exact⟨hd,hz⟩
     ·omega
    have inner:=ih (d-1-(i+1)) (by omega) w (i+1) (L+1) (by omega) (λk hk1 hk2=>hS k (by omega) (by omega)) (λk hk1 hk2=>by have:=hd4 k hk1 (by omega);omega) (by omega) (by rw[show i+1+(d-1-(i+1))=d-1 by omega];omega) in1.1 in1.2.1;rw[show i+1+(d-1-(i+1))=d-1 by omega,e1,←hroom2]at inner;have ar:=Kpt.arch hv hd hv2 hdown.1 inner;rw[hroom,←f1]at ar;have ind:=fI ok sd (by omega);have rest:=ih (i+(n+1)-d) (by omega) w d L hL (λk hk1 hk2=>hS k (by omega) (by omega)) (λk hk1 hk2=>hh k (by omega) (by omega)) hd3 (by rw[show d+(i+(n+1)-d)=i+(n+1) by omega];exact h1) ind.1 ind.2.1;rw[show d+(i+(n+1)-d)=i+(n+1) by omega]at rest;exact .trans ar rest
   ·have rest:=ih n (by omega) w (i+1) L hL (λk hk1 hk2=>hS k (by omega) (by omega)) (λk hk1 hk2=>hh k (by omega) (by omega)) (by omega) (by rw[show i+1+n=i+(n+1) by omega];exact h1) in1.1 in1.2.1;rw[show i+1+n=i+(n+1) by omega,e1]at rest;have st:=Kpt.stay (n:=m.toNat) hv hd;rw[hroom]at st;exact .trans st rest
   ·omega
   ·omega
def oQ{w:Nat->Bfs.Pl}{n:Nat}(h0:0<=(w 0).1/\(w 0).1<m/\0<=(w 0).2)(hS:∀k,k<n->dz ws (w k) (w (k+1))):∀k,k<=n->0<=(w k).1/\(w k).1<m/\0<=(w k).2
 | 0,_=>h0
 | k+1,hk=>by have ih:=oQ h0 hS k (by omega);have:=fI ok (hS k (by omega)) ih.2.2;exact⟨this.1,this.2.1,this.2.2.1⟩
def Bx{top:Int}{x:Bfs.Pl}(ht:0<=top)(hx:bC m top x){k:Nat}{y:Bfs.Pl}(h:Bfs.Rw (LB ws m.toNat top) k x y):cb ws x y/\bC m top y:=by
 induction h with
 | nil=>exact⟨.refl,hx⟩
 | @snoc n x y z _ hs ih=>
  obtain⟨hr,hy⟩:=ih hx;rcases hs with⟨w,hw,ho,rfl,hle⟩|⟨hty,i,j,hk,hyi,rfl⟩
  ·have st:dz ws y (w.other,y.2+rz w.deed):=⟨w,hw,ho,rfl⟩;have:=fI ok st hy.2.2.1;exact⟨hr.trans (.one st),this.1,this.2.1,this.2.2.1,hle⟩
  ·have hlt:=Kpt.lt ok hk;have hy2:y.2=top:=by have:=hy.2.2.2;omega
   have hs:=si ok hk top ht;have hye:y=((i:Int),top):=Prod.ext hyi hy2;rw[←hye]at hs;exact⟨hr.trans hs,by show(0:Int)<=(j:Int);omega,by show(j:Int)<m;omega,ht,Int.le_refl _⟩
def zo{top:Int}(ht:0<=top):∀(n:Nat) (w:Nat->Bfs.Pl),0<=(w 0).1->(w 0).1<m->(w 0).2=top->(∀k,k<n->dz ws (w k) (w (k+1)))->(w n).2<=top->∃k,Bfs.Rw (LB ws m.toNat top) k (w 0) (w n):=by
 intro n;induction n using Nat.strongRecOn with
 | ind n ih=>
  intro w h00 h01 h02 hS hle;cases n with
  | zero=>exact⟨0,.nil⟩
  | succ n=>
   have hin:=oQ ok (w:=w) (n:=n+1) ⟨h00,h01,by omega⟩ hS;have sn:=hS n (by omega);have inn:=fI ok sn (hin n (by omega)).2.2;by_cases hz:(w n).2<=top
   ·obtain⟨k,hk⟩:=ih n (by omega) w h00 h01 h02 (λk hk=>hS k (by omega)) hz;obtain⟨v,hv,ho,he⟩:=sn;exact⟨k+1,.snoc hk (.inl ⟨v,hv,ho,he,hle⟩)⟩
   ·obtain⟨u,hu,hul,hui⟩:=Bfs.jK (h:=λk=>(w k).2) (l:=top) n (λk hk=>(fI ok (hS k (by omega)) (hin k (by omega)).2.2).2.2.2.1) (by show(w 0).2<=top;omega) (by show top<=(w n).2;omega)
    try dsimp only at hul hui
    have hun:u≠n:=λz=>by rw[z]at hul;omega
    have su:=hS u (by omega);have inu:=fI ok su (hin u (by omega)).2.2;have hu1:=hui (u+1) (by omega) (by omega);obtain⟨v,hv,ho,hw1⟩:=id su;obtain⟨v2,hv2,ho2,hw2⟩:=id sn;have e1:(w (u+1)).1=v.other:=by rw[hw1]
    have e2:(w (u+1)).2=(w u).2+rz v.deed:=by rw[hw1]
    have f1:(w (n+1)).1=v2.other:=by rw[hw2]
    have f2:(w (n+1)).2=(w n).2+rz v2.deed:=by rw[hw2]
    have hup:v.deed = "up":=by
     rcases gq (ok v hv).dd ho with⟨hd,_⟩|⟨_,hz⟩|⟨_,_,hz⟩|⟨_,_,hz⟩
     ·exact hd
     ·omega
     ·omega
     ·omega
    have hdn:v2.deed = "down":=by
     rcases gq (ok v2 hv2).dd ho2 with⟨_,hz⟩|⟨_,hz⟩|⟨hd,_,_⟩|⟨_,_,hz⟩
     ·omega
     ·omega
     ·exact hd
     ·omega
    have hin1:=hin (u+1) (by omega);have inner:=mJ ok (n-(u+1)) w (u+1) (top+1) (by omega) (λk hk1 hk2=>hS k (by omega)) (λk hk1 hk2=>by have:=hui k (by omega) (by omega);omega) (by omega) (by rw[show u+1+(n-(u+1))=n by omega];omega) hin1.1 hin1.2.1;rw[show u+1+(n-(u+1))=n by omega,e1,←gL ho2]at inner;have ar:=Kpt.arch hv hup hv2 hdn inner;rw[gL ho,←f1]at ar;obtain⟨k,hk⟩:=ih u (by omega) w h00 h01 h02 (λk hk=>hS k (by omega)) (by omega);have hinu:=hin u (by omega);have hinn:=hin (n+1) (by omega);refine⟨k+1,.snoc hk (.inr ⟨by omega,_,_,ar,by omega,?_⟩)⟩;exact Prod.ext (by show(w (n+1)).1=(((w (n+1)).1.toNat:Nat):Int);omega) (by show(w (n+1)).2=top;omega)
def En{top:Int}{x:Bfs.Pl}(ht:0<=top)(hx:bC m top x)(hx2:x.2=top){y:Bfs.Pl}(hy:y.2<=top):(∃n,Bfs.Rw (LB ws m.toNat top) n x y)↔cb ws x y:=by
 constructor
 ·rintro⟨n,h⟩;exact(Bx ok ht hx h).1
 ·rintro⟨n,h⟩;obtain⟨w,w0,wn,hS⟩:=h.fn;have:=zo ok ht n w (by rw[w0];exact hx.1) (by rw[w0];exact hx.2.1) (by rw[w0];exact hx2) hS (by rw[wn];exact hy);rw[w0,wn]at this;exact this
def kQ{x:Bfs.Pl}(hx:0<=x.1/\x.1<m/\0<=x.2){i r:Nat}(hi:x.2<=(i:Int)):cb ws x ((r:Int),((i+1:Nat):Int))↔∃p,p<m.toNat/\cb ws x ((p:Int),(i:Int))/\bf ws m.toNat p r:=by
 constructor
 ·rintro⟨n,h⟩;obtain⟨w,w0,wn,hS⟩:=h.fn;have hin:=oQ ok (w:=w) (n:=n) (by rw[w0];exact hx) hS;have wn2:(w n).2=(i:Int)+1:=by rw[wn];show((i+1:Nat):Int)=_;omega
  obtain⟨u,hu,hul,hui⟩:=Bfs.jK (h:=λk=>(w k).2) (l:=(i:Int)) n (λk hk=>(fI ok (hS k hk) (hin k (by omega)).2.2).2.2.2.1) (by show(w 0).2<=(i:Int);rw[w0];exact hi) (by show(i:Int)<=(w n).2;omega)
  try dsimp only at hul hui
  have hun:u≠n:=λz=>by rw[z]at hul;omega
  have su:=hS u (by omega);have hu1:=hui (u+1) (by omega) (by omega);obtain⟨v,hv,ho,hw1⟩:=id su;have e1:(w (u+1)).1=v.other:=by rw[hw1]
  have e2:(w (u+1)).2=(w u).2+rz v.deed:=by rw[hw1]
  have hup:v.deed = "up"/\rz v.deed=1:=by
   rcases gq (ok v hv).dd ho with⟨hd,hz⟩|⟨_,hz⟩|⟨_,_,hz⟩|⟨_,_,hz⟩
   ·exact⟨hd,hz⟩
   ·omega
   ·omega
   ·omega
  have hin1:=hin (u+1) (by omega);have hinu:=hin u (by omega);have inner:=mJ ok (n-(u+1)) w (u+1) ((i:Int)+1) (by omega) (λk hk1 hk2=>hS k (by omega)) (λk hk1 hk2=>by have:=hui k (by omega) (by omega);omega) (by omega) (by rw[show u+1+(n-(u+1))=n by omega];exact wn2) hin1.1 hin1.2.1;rw[show u+1+(n-(u+1))=n by omega,e1,show (w n).1.toNat=r by rw[wn];exact EY r]at inner;refine⟨(w u).1.toNat,by omega,⟨u,?_⟩,v,hv,hup.1,by rw[gL ho],inner⟩;have seg:=Bfs.ji (S:=dz ws) (w:=w) (i:=0) (j:=u) (by omega) (λk _ hk=>hS k (by omega));rw[w0,Nat.sub_zero]at seg;have hwu:w u=((((w u).1.toNat:Nat):Int),(i:Int)):=Prod.ext (by show(w u).1=(((w u).1.toNat:Nat):Int);omega) hul;rw[hwu]at seg;exact seg
 ·rintro⟨p,hp,hr,v,hv,hd,hroom,hk⟩;have okv:=ok v hv;have r0:=okv.r0;have o0:=okv.o0;have st:dz ws ((p:Int),(i:Int)) (((v.other.toNat:Nat):Int),(i:Int)+1):=⟨v,hv,gZ (by show v.room=((p:Nat):Int);omega) (.inl hd),by rw[hd,g7];exact Prod.ext (by show((v.other.toNat:Nat):Int)=v.other;omega) rfl⟩;have hs:=si ok hk ((i:Int)+1) (by omega);have:=(hr.trans (.one st)).trans hs;rw[show ((i+1:Nat):Int)=(i:Int)+1 by omega];exact this
def B3{x:Bfs.Pl}(hx:0<=x.1/\x.1<m/\0<=x.2){M:Nat->Nat->Bool}(hM:∀i r:Nat,(i:Int)<=x.2->(r:Int)<m->(M i r=true↔∃n,Bfs.Rw (LB ws m.toNat x.2) n x ((r:Int),(i:Int)))):∀i r:Nat,r<m.toNat->(fK m.toNat (bf ws m.toNat) x.2.toNat M i r=true↔cb ws x ((r:Int),(i:Int))):=by
 have hxT:bC m x.2 x:=⟨hx.1,hx.2.1,hx.2.2,Int.le_refl _⟩;have low:∀i r:Nat,(i:Int)<=x.2->r<m.toNat->(M i r=true↔cb ws x ((r:Int),(i:Int))):=λi r hi hr=>(hM i r hi (by omega)).trans (En ok hx.2.2 hxT rfl hi);have high:∀k r:Nat,r<m.toNat->(bx m.toNat (bf ws m.toNat) (M x.2.toNat) k r=true↔cb ws x ((r:Int),((x.2.toNat+k:Nat):Int))):=by
  intro k;induction k with
  | zero=>exact λr hr=>low x.2.toNat r (by omega) hr
  | succ k ih=>
   intro r hr;show iB _ _ _ r=true↔_;rw[jR,show x.2.toNat+(k+1)=x.2.toNat+k+1 by omega,kQ ok hx (by omega)];constructor
   ·rintro⟨i,hi,h1,h2⟩;exact⟨i,hi,(ih i hi).mp h1,h2⟩
   ·rintro⟨i,hi,h1,h2⟩;exact⟨i,hi,(ih i hi).mpr h1,h2⟩
 intro i r hr;unfold fK;by_cases hi:i<x.2.toNat
 ·rw[FI hi];exact low i r (by omega) hr
 ·rw[FH hi,high (i-x.2.toNat) r hr,show x.2.toNat+(i-x.2.toNat)=i by omega]
end
def vD(K:EG):Sp:=λvs H Q _=>∃lq rs m F b N r,vs=[.ref lq,.int (b:Nat),.int (r:Nat)]/\Rows H lq rs m F/\rs.length=b+N/\1<=N/\b+N<=20000/\r<m/\bA (λi=>F i r) b N/\∀v (l d:Nat) H',Ext H H'->Least (λi=>F i r) d l->l<=b->d<=N->dv H' v l d (row (λi=>F i r) 0 l) (row (λi=>F i r) l d)->Q v H'
abbrev nM:Stmt:=stq 43
def vM:FnScope ["levels","base","room"] ["levels","base","room"] (aM nM):=⟨rfl,rfl,rfl,by decide +kernel,rfl,by decide +kernel,by decide +kernel⟩
def Dn{P:Program}{w:World}{K:EG}{mg:Str->Option Value}{base:Heap}(D:Dfn K mg "stair_of_room" nM ["levels","base","room"])(T:Blt mg)(C_stair_of_marks:Cal P w K mg base "stair_of_marks" 2 ["marks","base"] (xD K)):Cal P w K mg base "stair_of_room" 3 ["levels","base","room"] (vD K):=by
 have nd:=(vM).nd;refine D.ok vM (λvs H Q E h=>?_) (λX hX H vs Q E h=>?_)
 ·obtain⟨lq,rs,m,F,b,N,r,rfl,_⟩:=h;rfl
 ·obtain⟨f,cdv,A,outer,s,H0,E0,rfl,hr⟩:=hX;obtain⟨lq,rs,m,F,b,N,r,rfl,rows,hrl,hN,hbN,hr',hper,q⟩:=h;refine⟨_,(ao (aL (aH C_stair_of_marks hr (aa (cx ["level"] [2] (cK K (pv 0)) (λ_=>(aK (i:=0) (show(["level","room"]:List Str).Nodup from by decide +kernel) rfl (Or.inl rfl) (Or.inr rfl))) (λ_=>dD) (λ_=>(ah (aI K) (pv 0) (pv 1) (λ_ _=>rfl)))) (aa (pv 1) ae))))),?_⟩;walk_at"";refine cH (ag.of rows.1) ?_;refine g9 (xs:=List.map V.ref rs) (λi ys H'=>H'=H/\ys=aO i (λi=>F i r)) (Fi (show(List.map V.ref rs).length<=20000 by rw[EK];omega) (by decide)) ⟨rfl,rfl⟩ (λi ys H' _ h=>⟨by rw[h.1];exact ag.of rows.1,by rw[h.2,cL];exact E6 _⟩) ?_ ?_
  ·rintro i v ys H1 hx ⟨rfl,rfl⟩;rw[EM]at hx;obtain⟨a,ha,rfl⟩:=EX.mp hx;have hrow:=rows.2 i a ha;walk_at"";refine aD ?_;walk_at"";refine aF (ag.of hrow) (cF (by omega) (by omega)) ?_;rw[EY];refine⟨rfl,?_⟩;rw[i8]
  ·rintro ys H1 p9 ⟨hH,rfl⟩ hp9;subst hH;rw[EK,hrl];have e1:=aX (o:=.lst (aO (b+N) λi=>F i r)) hp9;have h9:(upd H1 p9 (.lst (aO (b+N) λi=>F i r))) p9=_:=aE;generalize upd H1 p9 (.lst (aO (b+N) λi=>F i r))=H2 at e1 h9 ⊢;walk_at"";exact⟨p9,b,N,_,rfl,hN,hbN,h9,hper,λv l d H3 e3 hL hl hd hst=>q v l d H3 (e1.trans e3) hL hl hd hst⟩
def i7(H:Hp)(vs:List V)(m:Int)(ws:List Way)(x:Bfs.Pl):Prop:=(vs.length:Int)=m/\∀(r:Nat) (v:V),vs[r]?=some v->∃(F:Nat->Bool) (l d:Nat),dv H v l d (row F 0 l) (row F l d)/\Least F d l/\1<=d/\l+d<=5200/\∀i:Nat,F i=true↔cb ws x ((r:Int),(i:Int))
def i7.ext{H H':Hp}(e:Ext H H'){vs:List V}{m:Int}{ws:List Way}{x:Bfs.Pl}(h:i7 H vs m ws x):i7 H' vs m ws x:=⟨h.1,λr v hv=>by obtain⟨F,l,d,h1,h2⟩:=h.2 r v hv;exact⟨F,l,d,h1.ext e,h2⟩⟩
def xG(K:EG):Sp:=λvs H Q _=>∃vh m ws pa x,vs=[vh,.ref pa]/\bw H vh m ws/\HOuse m ws/\aA H pa x/\fM m x/\gU K/\Tbs K H/\∀l xs H',Et H H'->Tbs K H'->(∀o,H l=some o->∃ps,o=.tbl ps)->H' l=some (.lst xs)->i7 H' xs m ws x->Q (.ref l) H'
abbrev lQ:Stmt:=stq 44
def rf:FnScope ["house","place","told"] ["house","place"] (aM lQ):=⟨rfl,rfl,rfl,by decide +kernel,rfl,by decide +kernel,by decide +kernel⟩
def B4{P:Program}{w:World}{K:EG}{mg:Str->Option Value}{base:Heap}(D:Dfn K mg "forward" lQ ["house","place"])(T:Blt mg)(C_stair_of_room:Cal P w K mg base "stair_of_room" 3 ["levels","base","room"] (vD K))(C_all_levels:Cal P w K mg base "all_levels" 9 ["house","place"] (qw K))(C_refuse_bad_places:Cal P w K mg base "refuse_bad_places" 3 ["house","places"] (va K))(C_refuse_no_house:Cal P w K mg base "refuse_no_house" 6 ["thing"] (jU K)):Cal P w K mg base "forward" 10 ["house","place"] (xG K):=by
 have nd:=(rf).nd;refine D.ok rf (λvs H Q E h=>?_) (λX hX H vs Q E h=>?_)
 ·obtain⟨vh,m,ws,pa,x,rfl,_⟩:=h;rfl
 ·obtain⟨f,cdv,A,outer,s,H0,E0,rfl,hr⟩:=hX;obtain⟨vh,m,ws,pa,x,rfl,hv,ok,hpx,ix,dis,htb,q⟩:=h;have m1:=ok.m1;have m12:=ok.m12;refine⟨_,(aj (bt (aH C_refuse_no_house hr (aa (pv 0) ae)))
    (aj (bt (aH C_refuse_bad_places hr (aa (pv 0) (aa (bq (aa (pv 1) ae)) ae))))
    (aj (aG (i:=2) nd rfl (Or.inr rfl) (aH C_all_levels hr (aa (pv 0) (aa (pv 1) ae))))
    (ao (aL (cx ["room"] [2] (bR rfl T.range_ (aa (ah (aC K) (pv 0) af (λ_ _=>rfl)) ae)) (λ_=>(aK (i:=0) (show(["room","told"]:List Str).Nodup from by decide +kernel) rfl (Or.inl rfl) (Or.inr rfl))) (λ_=>dD) (λ_=>(aH C_stair_of_room hr (aa (ah (aC K) (pv 1) af (λ_ _=>rfl)) (aa (ah (aC K) (pv 1) af (λ_ _=>rfl)) (aa (pv 0) ae))))))))))),?_⟩
  walk_at"";refine⟨vh,m,ws,rfl,hv,ok,λH1 e1=>?_⟩;obtain⟨hp0,hq0,hvr,hh,_⟩:=id (hv.ext e1);subst hvr;walk_at"";refine aJ λpl H2 e2 hpl _=>?_;have e02:=e1.trans e2;walk_at"";refine⟨hp0,.ref hq0,m,pl,[pa],[x],rfl,e2 _ _ hh,hpl,.cons (e02 _ _ hpx) .nil,λy hy=>by rw[EW.mp hy];exact ix,?_⟩;walk_at"";refine⟨.ref hp0,m,ws,pa,x,rfl,hv.ext e02,ok,e02 _ _ hpx,ix,dis,htb.ext e02,λp lq rs b N M H3 e3 tb3 hp rows hrl hN hbN hper hM=>?_⟩;have hiff:=B3 ok.ok ⟨ix.1,ix.2.1,ix.2.2.1⟩ hM;generalize fK m.toNat (bf ws m.toNat) x.2.toNat M=F at rows hper hiff;have hh3:H3 hp0=some (.tup [.int m,.ref hq0]):=e3 _ _ (e2 _ _ hh) (λps z=>by cases z);walk_at"";refine aB (ai.of hh3) (v:=.int m) rfl ?_;walk_at"";refine bS (by omega) ?_;refine dA (λi ys H'=>Ext H3 H'/\ys.length=i/\∀(r:Nat) (v:V),ys[r]?=some v->∃(F:Nat->Bool) (l d:Nat),dv H' v l d (row F 0 l) (row F l d)/\Least F d l/\1<=d/\l+d<=5200/\∀i:Nat,F i=true↔cb ws x ((r:Int),(i:Int))) (br (by omega)) ⟨Ext.rfl' _,rfl,λr v h=>by simp at h⟩ (λi ys H' _ h=>Nat.le_of_eq h.2.1) ?_ ?_
  ·rintro i ys H4 hi ⟨e4,hyl,hys⟩;rw[show (0:Int)+(i:Int)=((i:Nat):Int) by omega];have hp4:=e4 _ _ hp;walk_at"";refine aD ?_;walk_at"";refine aB (ai.of hp4) (v:=.ref lq) rfl ?_;walk_at"";refine aB (ai.of hp4) (v:=.int (b:Nat)) rfl ?_;walk_at"";refine⟨lq,rs,m.toNat,F,b,N,i,rfl,rows.ext e4,hrl,hN,by omega,hi,hper i hi,λv l d H5 e5 hL hl hd hst=>?_⟩;refine⟨e4.trans e5,by rw[E4,hyl];rfl,λr v' hv'=>?_⟩;by_cases hrl2:r<ys.length
   ·rw[Fc hrl2]at hv';obtain⟨F',l',d',a1,a2⟩:=hys r v' hv';exact⟨F',l',d',a1.ext e5,a2⟩
   ·rw[Fb (by omega)]at hv';have hz:r-ys.length=0:=by have:=(EU.mp hv').1;simp at this;omega
    rw[hz]at hv';cases hv';have hri:r=i:=by omega
    subst hri;exact⟨λj=>F j r,l,d,hst,hL,hL.pos,by omega,λj=>hiff j r hi⟩
  ·rintro ys H4 p9 ⟨e4,hyl,hys⟩ hp9;have e5:=aX (o:=.lst ys) hp9;have e35:=e4.trans e5;walk_at"";refine q p9 ys _ ((e02.et.trans e3).trans e35.et) (tb3.ext e35) (λo ho=>Classical.byContradiction λz=>by have:=((e02.et.trans e3).trans e4.et) p9 o ho λps w=>z ⟨ps,w⟩;rw[hp9]at this;cases this) aE ⟨by omega,λr v hv=>?_⟩
   obtain⟨F',l',d',a1,a2⟩:=hys r v hv;exact⟨F',l',d',a1.ext e5,a2⟩
def oo(K:EG):Sp:=λvs H Q _=>∃v m ws c p,vs=[v,.int c,.int p]/\bw H v m ws/\1<=m/\0<p/\∀a x H',Ext H H'->aA H' a x->0<=x.1->x.1<m->0<=x.2->x.2<=12->Q (.ref a) H'
abbrev nV:Stmt:=stq 55
def vo:FnScope ["_law_house_here","_law_cell_here","_law_prime","_law_draws_here"] ["_law_house_here","_law_cell_here","_law_prime"] (aM nV):=⟨rfl,rfl,rfl,by decide +kernel,rfl,by decide +kernel,by decide +kernel⟩
def Cr{P:Program}{w:World}{K:EG}{mg:Str->Option Value}{base:Heap}(D:Dfn K mg "_law_place" nV ["_law_house_here","_law_cell_here","_law_prime"])(T:Blt mg)(C__law_draws:Cal P w K mg base "_law_draws" 2 ["_law_cell_here","_law_widths","_law_prime"] (gM K)):Cal P w K mg base "_law_place" 3 ["_law_house_here","_law_cell_here","_law_prime"] (oo K):=by
 have nd:=(vo).nd;refine D.ok vo (λvs H Q E h=>?_) (λX hX H vs Q E h=>?_)
 ·obtain⟨v,m,ws,c,p,rfl,_⟩:=h;rfl
 ·obtain⟨f,cdv,A,outer,s,H0,E0,rfl,hr⟩:=hX;obtain⟨v,m,ws,c,p,rfl,hv,m1,hp,q⟩:=h;refine⟨_,(aj (aG (i:=3) nd rfl (Or.inl rfl) (aH C__law_draws hr (aa (pv 1) (aa (bq (aa af (aa af ae))) (aa (pv 2) ae)))))
    (ao (aL (bj (aa (aq cy (ah (aI K) (pv 3) af (λ_ _=>rfl)) (ah (aC K) (pv 0) af (λ_ _=>rfl))) (aa (ah (aI K) (pv 3) af (λ_ _=>rfl)) ae)))))),?_⟩
  walk_at"";refine aJ λw0 G1 f1 hw0 _=>?_;walk_at"";refine⟨c,w0,[12,13],p,rfl,hw0,by decide,by decide,hp,λdq ds H1 e1 hd hdn hl hb=>?_⟩;have eH:Ext H H1:=f1.trans e1;obtain⟨d0,g0,_⟩:=cn hl hb 0 rfl;obtain⟨d1,g1,b10,b11⟩:=cn hl hb 1 rfl;obtain⟨hh,t,rfl,k1,k2⟩:=hv.ext eH;walk_at"";refine aF (ag.of hd) g0 ?_;walk_at"";refine aB (ai.of k1) (v:=.int m) rfl ?_
  try refine rd_I (show(0:Int)<m by omega) ?_
  walk_at"";refine aF (ag.of hd) g1 ?_;walk_at"";refine aJ λa H2 e2 ha _=>?_;exact q a (d0 % m,d1) H2 (eH.trans e2) ha (Int.emod_nonneg _ (by omega)) (Int.emod_lt_of_pos _ (by omega)) b10 (by show d1<=12;omega)
def nR(K:EG):Sp:=λvs H Q _=>∃i:Int,vs=[.int i]/\Q (.bl true) H
abbrev nH:Stmt:=stq 66
def wV:FnScope ["_law_found"] ["_law_found"] (aM nH):=⟨rfl,rfl,rfl,by decide +kernel,rfl,by decide +kernel,by decide +kernel⟩
def CZ{P:Program}{w:World}{K:EG}{mg:Str->Option Value}{base:Heap}(D:Dfn K mg "_law_whole" nH ["_law_found"])(T:Blt mg):Cal P w K mg base "_law_whole" 1 ["_law_found"] (nR K):=by
 have nd:=(wV).nd;refine D.ok wV (λvs H Q E h=>?_) (λX hX H vs Q E h=>?_)
 ·obtain⟨i,rfl,_⟩:=h;rfl
 ·obtain⟨f,cdv,A,outer,s,H0,E0,rfl,hr⟩:=hX;obtain⟨i,rfl,q⟩:=h;refine⟨_,(ao (aL (dW (bh eE rfl T.isinstance_ PyProof.Rows.boot_isinstance (aa (pv 0) (aa (ee (v:=.ty "int") rfl T.int_ PyProof.Rows.boot_int rfl) ae))) (eJ (vd (bh eE rfl T.isinstance_ PyProof.Rows.boot_isinstance (aa (pv 0) (aa (ee (v:=.ty "bool") rfl T.bool_ PyProof.Rows.boot_bool rfl) ae)))))))),?_⟩;walk_at"";refine eL (n:="int") rfl (b:=true) rfl ?_;walk_at"";refine aD ?_;walk_at"";refine eL (n:="int") rfl (b:=false) rfl ?_;walk_at"";exact q
def xQ{H:Hp}{p:Addr}{xs:List V}(h:H p=some (.lst xs)):fA H (.ref p) "list":=.inl ⟨rfl,xs,h⟩
def rK{ws:List Way}{r n:Int}{t:Int×Int×Int}:∀{k:Nat},t∈dG ws r n k->∃j w,j<k/\ws[j]?=some w/\w.room=r/\stp w.deed n=some t.2.2/\t.1=((j:Nat):Int)/\t.2.1=w.other
 | 0,h=>by cases h
 | k+1,h=>by
  rcases E9.mp h with z|z
  ·obtain⟨j,w,h1,h2⟩:=rK z;exact⟨j,w,by omega,h2⟩
  ·cases hw:ws[k]? with
   | none=>rw[hw]at z;cases z
   | some w=>
    rw[hw]at z;have z':t∈dX w r n k:=z;by_cases hr:w.room=r
    ·cases hs:stp w.deed n with
     | none=>rw[fH hr hs]at z';cases z'
     | some n'=>
      rw[fH hr hs]at z';have:t=((k:Int),w.other,n'):=by simpa using z'
      subst this;exact⟨k,w,Nat.lt_succ_self _,hw,hr,hs,rfl,rfl⟩
    ·rw[rV hr]at z';cases z'
def p7{ws:List Way}{r n n':Int}{w:Way}{j:Nat}(hw:ws[j]?=some w)(hr:w.room=r)(hs:stp w.deed n=some n'):∀{k:Nat},j<k->((j:Int),w.other,n')∈dG ws r n k
 | 0,h=>absurd h (Nat.not_lt_zero _)
 | k+1,h=>by
  rcases Fx j k with l|l
  ·exact Fu _ (p7 hw hr hs l)
  ·have:j=k:=by omega
   subst this;refine Ft _ ?_;rw[hw];show _∈dX w r n j;rw[fH hr hs];simp
def Es{ws:List Way}{T:Int}{x y:Bfs.Pl}{k:Nat}(h:cM ws T x k=some y):((k:Int),y.1,y.2)∈dG ws x.1 x.2 ws.length/\y.2<=T:=by obtain⟨w,hw,hr,hs,ho,ht⟩:=mT h;rw[ho];exact⟨p7 hw hr hs (EU.mp hw).1,ht⟩
def Aq{ws:List Way}{T:Int}{x:Bfs.Pl}{t:Int×Int×Int}(h:t∈dG ws x.1 x.2 ws.length)(ht:t.2.2<=T):∃k:Nat,t.1=(k:Int)/\cM ws T x k=some (t.2.1,t.2.2):=by obtain⟨j,w,_,hw,hr,hs,h1,h2⟩:=rK h;refine⟨j,h1,?_⟩;unfold cM;rw[hw,Fg,FI hr,hs,Fg,FI ht,h2]
def xi(K:EG):Sp:=λvs H Q _=>∃c p,vs=[.int c,.int p]/\0<p/\∀n H',Ext H H'->0<=n->n<=1000->Q (.int n) H'
abbrev mF:Stmt:=stq 56
def uP:FnScope ["_law_cell_here","_law_prime","_law_draws_here"] ["_law_cell_here","_law_prime"] (aM mF):=⟨rfl,rfl,rfl,by decide +kernel,rfl,by decide +kernel,by decide +kernel⟩
def Ex{P:Program}{w:World}{K:EG}{mg:Str->Option Value}{base:Heap}(D:Dfn K mg "_law_number" mF ["_law_cell_here","_law_prime"])(T:Blt mg)(C__law_draws:Cal P w K mg base "_law_draws" 2 ["_law_cell_here","_law_widths","_law_prime"] (gM K)):Cal P w K mg base "_law_number" 3 ["_law_cell_here","_law_prime"] (xi K):=by
 have nd:=(uP).nd;refine D.ok uP (λvs H Q E h=>?_) (λX hX H vs Q E h=>?_)
 ·obtain⟨c,p,rfl,_⟩:=h;rfl
 ·obtain⟨f,cdv,A,outer,s,H0,E0,rfl,hr⟩:=hX;obtain⟨c,p,rfl,hp,q⟩:=h;refine⟨_,(aj (aG (i:=2) nd rfl (Or.inl rfl) (aH C__law_draws hr (aa (pv 0) (aa (bq (iY (.c (.c (.c (.c .n)))))) (aa (pv 1) ae)))))
    (aj (bU (aS bG (ah (aI K) (pv 2) af (λ_ _=>rfl)) af (aQ _)) (ao (aL (ah (aI K) (pv 2) af (λ_ _=>rfl)))) aY)
    (aj (bU (aS bG (ah (aI K) (pv 2) af (λ_ _=>rfl)) af (aQ _)) (ao (aL (ah (aI K) (pv 2) af (λ_ _=>rfl)))) aY)
    (ao (aL (ah (aI K) (pv 2) af (λ_ _=>rfl))))))),?_⟩
  walk_at"";refine aJ λw0 G1 f1 hw0 _=>?_;walk_at"";refine⟨c,w0,[8,13,201,1001],p,rfl,hw0,by decide,by decide,hp,λdq ds H1 e1 hd hdn hl hb=>?_⟩;have eH:Ext H H1:=f1.trans e1;obtain⟨d0,g0,_⟩:=cn hl hb 0 rfl;obtain⟨d1,g1,b10,b11⟩:=cn hl hb 1 rfl;obtain⟨d2,g2,b20,b21⟩:=cn hl hb 2 rfl;obtain⟨d3,g3,b30,b31⟩:=cn hl hb 3 rfl;walk_at"";refine aF (ag.of hd) g0 ?_;walk_at"";by_cases h7:d0=7
  ·rw[FG h7];refine aD ?_;walk_at"";refine aF (ag.of hd) g3 ?_;exact q d3 H1 eH b30 (by omega)
  ·rw[FF h7];refine az ?_;walk_at"";refine aF (ag.of hd) g0 ?_;walk_at"";by_cases h6:d0=6
   ·rw[FG h6];refine aD ?_;walk_at"";refine aF (ag.of hd) g2 ?_;exact q d2 H1 eH b20 (by omega)
   ·rw[FF h6];refine az ?_;walk_at"";refine aF (ag.of hd) g1 ?_;exact q d1 H1 eH b10 (by omega)
def xF(K:EG):Sp:=λvs H Q _=>∃v m ws c p,vs=[v,.int c,.int p]/\bw H v m ws/\1<=m/\0<p/\∀a x H',Ext H H'->aA H' a x->0<=x.1->x.1<m->0<=x.2->x.2<=300->Q (.ref a) H'
abbrev oC:Stmt:=stq 57
def wF:FnScope ["_law_house_here","_law_cell_here","_law_prime","_law_place_here"] ["_law_house_here","_law_cell_here","_law_prime"] (aM oC):=⟨rfl,rfl,rfl,by decide +kernel,rfl,by decide +kernel,by decide +kernel⟩
def CC{P:Program}{w:World}{K:EG}{mg:Str->Option Value}{base:Heap}(D:Dfn K mg "_law_any_place" oC ["_law_house_here","_law_cell_here","_law_prime"])(T:Blt mg)(C__law_number:Cal P w K mg base "_law_number" 3 ["_law_cell_here","_law_prime"] (xi K))(C__law_spare:Cal P w K mg base "_law_spare" 1 ["_law_cell_here","_law_width"] (pH K))(C__law_place:Cal P w K mg base "_law_place" 3 ["_law_house_here","_law_cell_here","_law_prime"] (oo K)):Cal P w K mg base "_law_any_place" 4 ["_law_house_here","_law_cell_here","_law_prime"] (xF K):=by
 have nd:=(wF).nd;refine D.ok wF (λvs H Q E h=>?_) (λX hX H vs Q E h=>?_)
 ·obtain⟨v,m,ws,c,p,rfl,_⟩:=h;rfl
 ·obtain⟨f,cdv,A,outer,s,H0,E0,rfl,hr⟩:=hX;obtain⟨v,m,ws,c,p,rfl,hv,m1,hp,q⟩:=h;refine⟨_,(@aj _ _ _ _ _ (@aG _ _ 3 _ _ _ _ nd rfl (Or.inl rfl) (aH C__law_place hr (@aa _ _ _ _ _ (pv 0) (@aa _ _ _ _ _ (pv 1) (@aa _ _ _ _ _ (pv 2) ae rfl) rfl) rfl)) rfl (Or.inl rfl))
    (@ao _ _ _ (@aL _ _ _ _ (@bj _ _ _ _ _ (@aa _ _ _ _ _ (@ah _ _ _ _ _ _ _ (aC K) (pv 3) af (λ_ _=>rfl)) (@aa _ _ _ _ _ (aq cy (aH C__law_number hr (@aa _ _ _ _ _ (aH C__law_spare hr (@aa _ _ _ _ _ (pv 1) (@aa _ _ _ _ _ af ae rfl) rfl)) (@aa _ _ _ _ _ (pv 2) ae rfl) rfl)) (@ah _ _ _ _ _ _ _ (aI K) (@bq _ _ _ _ (@aa _ _ _ _ _ af (@aa _ _ _ _ _ af ae rfl) rfl)) (eQ Dk rfl T.int_ PyProof.Rows.boot_int (@aa _ _ _ _ _ (eW fB (@ah _ _ _ _ _ _ _ (aC K) (pv 0) af (λ_ _=>rfl)) af (aQ _)) ae rfl)) (λ_ _=>rfl))) ae rfl) rfl))))),?_⟩
  walk_at"";refine⟨v,m,ws,c,p,rfl,hv,m1,hp,λa x H1 e1 hx x0 x1 x2 x3=>?_⟩;walk_at"";refine aB (ai.of hx) (v:=.int x.1) rfl ?_;walk_at"";refine⟨c,12,rfl,by decide,by decide,λz=>?_⟩;walk_at"";refine⟨z,p,rfl,hp,λn H2 e2 n0 n1=>?_⟩;walk_at"";refine aJ λw1 H3 e3 hw1 _=>?_;obtain⟨hh,t,rfl,k1,k2⟩:=hv.ext (e1.trans (e2.trans e3));walk_at"";refine aB (ai.of k1) (v:=.int m) rfl ?_;walk_at"";have eH:=e1.trans (e2.trans e3);have hpos:∀M:Int,0<M->M<=301->0<=n % M/\n % M<=300:=λM h1 h2=>⟨Int.emod_nonneg _ (by omega),by have:=Int.emod_lt_of_pos n h1;omega⟩;by_cases h6:m<6
  ·rw[FG h6,FI rfl];refine aF (ag.of hw1) (v:=.int 301) rfl ?_
   try refine rd_I (show(0:Int)<301 by decide) ?_
   walk_at"";refine aJ λr H4 e4 hr _=>?_;exact q r (x.1,n % 301) H4 (eH.trans e4) hr x0 x1 (hpos 301 (by decide) (by decide)).1 (hpos 301 (by decide) (by decide)).2
  ·rw[FF h6,FH E2];refine aF (ag.of hw1) (v:=.int 61) rfl ?_
   try refine rd_I (show(0:Int)<61 by decide) ?_
   walk_at"";refine aJ λr H4 e4 hr _=>?_;exact q r (x.1,n % 61) H4 (eH.trans e4) hr x0 x1 (hpos 61 (by decide) (by decide)).1 (hpos 61 (by decide) (by decide)).2
def hide(H:Hp)(f:Addr):Hp:=λa=>if a=f then none else H a
def pC(H:Hp)(f:Addr):Ext (hide H f) H:=λb o h=>by
 unfold hide at h;split at h
 ·cases h
 ·exact h
def iz{H:Hp}{f a:Addr}{o:HO}(ne:a≠f)(h:H a=some o):hide H f a=some o:=by unfold hide;rw[FH ne];exact h
def lV(H:Hp)(f:Addr):hide H f f=none:=by unfold hide;rw[FI rfl]
def rH{H:Hp}{f a:Addr}(h:H a=none):hide H f a=none:=by
 unfold hide;split
 ·rfl
 ·exact h
abbrev tR(kv:List Key×V)(e:Bfs.dE):Prop:=kv.1=aT e.1/\kv.2=.int ((e.2:Nat):Int)
structure LC(H:Hp)(f la:Addr)(fl:List Bfs.dE)(lt:List Bfs.Pl):Prop where
 d:∃kvs,H f=some (.dT kvs)/\Paired tR kvs fl
 r:∃as,H la=some (.lst (List.map V.ref as))/\Paired (aA H) as lt
def LC.step{H H1:Hp}{f la:Addr}{fl:List Bfs.dE}{lt:List Bfs.Pl}(h:LC H f la fl lt)(e:Ext H H1):LC H1 f la fl lt:=by obtain⟨⟨kvs,h4,h5⟩,as,h6,h7⟩:=h;exact⟨⟨kvs,e _ _ h4,h5⟩,as,e _ _ h6,Paired.mapP h7 λ_ _ z=>e _ _ z⟩
def LC.push{H:Hp}{f la th:Addr}{fl:List Bfs.dE}{lt:List Bfs.Pl}{y:Bfs.Pl}{d:Nat}(h:LC H f la fl lt)(hy:y∉fl.map (·.1))(hth:aA H th y):
  ∃kvs,H f=some (.dT kvs)/\kvs.length=fl.length/\∃as,upd H f (.dT (putK kvs (aT y) (.int ((d:Nat):Int)))) la=some (.lst (List.map V.ref as))/\as.length=lt.length ∧
   LC (upd (upd H f (.dT (putK kvs (aT y) (.int ((d:Nat):Int))))) la (.lst (List.map V.ref as++[.ref th]))) f la (fl++[(y,d)]) (lt++[y]):=by
 obtain⟨⟨kvs,h4,h5⟩,as,h6,h7⟩:=h;have nf:∀xs,(HO.dT kvs)≠.tup xs:=λxs z=>by cases z
 have nr:∀xs,(HO.lst (List.map V.ref as))≠.tup xs:=λxs z=>by cases z
 have ne:la≠f:=bO h6 h4 (by intro z;cases z);have h6':upd H f (.dT (putK kvs (aT y) (.int ((d:Nat):Int)))) la=some (.lst (List.map V.ref as)):=by rw[ay ne];exact h6
 refine⟨kvs,h4,Paired.length h5,as,h6',Paired.length h7,⟨kvs++[(aT y,.int ((d:Nat):Int))],?_,?_⟩,as++[th],?_,?_⟩
 ·rw[ay ne.symm,aE,jZ _ (iZ (λ_ _ z=>z.1) h5 hy)]
 ·exact Paired.snoc h5 ⟨rfl,rfl⟩
 ·rw[aE,E3];rfl
 ·exact Paired.snoc (Paired.mapP h7 λ_ _ z=>aA.put h6' nr (aA.put h4 nf z)) (aA.put h6' nr (aA.put h4 nf hth))
def ky(fl:List Bfs.dE)(wt:List Bfs.Pl):Nat:=(24013-fl.length)+(if wt=[]then 0 else 1)
def qM(H0:Hp)(ws:List Way)(m U:Int)(x:Bfs.Pl)(v:V)(pa f:Addr)(M:Nat)(σ:St)(H':Hp):Prop:=
 ∃fl wt L wa k1 k2 k3 k4,σ=[some v,some (.ref pa),some (.int U),some (.ref f),some (.ref wa),k1,k2,k3,k4]/\Ext H0 H'/\LC H' f wa fl wt/\Bfs.LI (nx:=cM ws U) (s:=x) fl wt L/\(∀e∈fl,bC m U e.1)/\ky fl wt=M
def Ax(H0:Hp)(ws:List Way)(U:Int)(x:Bfs.Pl)(v:V)(pa f:Addr)(σ:St)(H':Hp):Prop:=
 ∃fl L wa k1 k2 k3 k4,σ=[some v,some (.ref pa),some (.int U),some (.ref f),some (.ref wa),k1,k2,k3,k4]/\Ext H0 H'/\LC H' f wa fl []/\Bfs.LI (nx:=cM ws U) (s:=x) fl [] L
def uL(ws:List Way)(U:Int)(wt:List Bfs.Pl)(i:Nat)(y:Bfs.Pl):Prop:=∃z∈wt.take i,∃k,cM ws U z k=some y
def oK(ws:List Way)(U:Int)(wt:List Bfs.Pl)(i:Nat)(z:Bfs.Pl)(j:Nat)(y:Bfs.Pl):Prop:=uL ws U wt i y\/∃t∈(dG ws z.1 z.2 ws.length).take j,y=(t.2.1,t.2.2)/\t.2.2<=U
def xN(H0 G:Hp)(ws:List Way)(m U:Int)(x:Bfs.Pl)(v:V)(pa f wa la:Addr)(fl:List Bfs.dE)(wt:List Bfs.Pl)(L i:Nat)(σ:St)(H':Hp):Prop:=
 ∃fl' lt k2 k3 k4,σ=[some v,some (.ref pa),some (.int U),some (.ref f),some (.ref wa),some (.ref la),k2,k3,k4]/\Ext H0 H'/\Ext G H'/\LC H' f la fl' lt/\Bfs.LF (nx:=cM ws U) (s:=x) fl fl' wt lt L (uL ws U wt i)/\(∀e∈fl',bC m U e.1)/\fl'.length=fl.length+lt.length
def Aj(H0 G G2:Hp)(ws:List Way)(m U:Int)(x:Bfs.Pl)(v:V)(pa f wa la b:Addr)(z:Bfs.Pl)(fl:List Bfs.dE)(wt:List Bfs.Pl)(L i j:Nat)(σ:St)(H':Hp):Prop:=
 ∃fl' lt k3 k4,σ=[some v,some (.ref pa),some (.int U),some (.ref f),some (.ref wa),some (.ref la),some (.ref b),k3,k4]/\Ext H0 H'/\Ext G H'/\Ext G2 H'/\LC H' f la fl' lt/\Bfs.LF (nx:=cM ws U) (s:=x) fl fl' wt lt L (oK ws U wt i z j)/\(∀e∈fl',bC m U e.1)/\fl'.length=fl.length+lt.length
def tT{m U:Int}{fl:List Bfs.dE}(hm:m<=12)(hU:U<=2000)(hn:(fl.map (·.1)).Nodup)(h:∀e∈fl,bC m U e.1):fl.length<=24012:=by
 have:=bC.few hm hU hn (λy hy=>by obtain⟨e,he,rfl⟩:=List.mem_map.mp hy;exact h e he)
 rwa [EK]at this
def sI(K:EG):Sp:=λvs H Q _=>∃v m ws pa x U,vs=[v,.ref pa,.int U]/\bw H v m ws/\HOuse m ws/\aA H pa x/\bC m U x/\U<=2000 ∧
 ∀f H' kvs fl,Ext H H'->H' f=some (.dT kvs)->Paired tR kvs fl->(fl.map (·.1)).Nodup->(∀e∈fl,Bfs.cU (cM ws U) x e.2 e.1)->(∀n y,Bfs.Wk (cM ws U) x n y->y∈fl.map (·.1))->Q (.ref f) H'
abbrev nj:Stmt:=stq 59
def wm:FnScope ["_law_house_here","_law_place_here","_law_top","_law_found","_law_waiting","_law_later","_law_here","_law_k","_law_there"] ["_law_house_here","_law_place_here","_law_top"] (aM nj):=⟨rfl,rfl,rfl,by decide +kernel,rfl,by decide +kernel,by decide +kernel⟩
def zc{P:Program}{w:World}{K:EG}{mg:Str->Option Value}{base:Heap}(D:Dfn K mg "_law_come" nj ["_law_house_here","_law_place_here","_law_top"])(T:Blt mg)(C__law_behind:Cal P w K mg base "_law_behind" 1 ["_law_house_here","_law_place_here"] (pX K)):Cal P w K mg base "_law_come" 2 ["_law_house_here","_law_place_here","_law_top"] (sI K):=by
 have nd:=(wm).nd;refine D.ok wm (λvs H Q E h=>?_) (λX hX H vs Q E h=>?_)
 ·obtain⟨v,m,ws,pa,x,U,rfl,_⟩:=h;rfl
 ·obtain⟨f,cdv,A,outer,s,H0,E0,rfl,hr⟩:=hX;obtain⟨v,m,ws,pa,x,U,rfl,hv,ok,hx,ix,hU,q⟩:=h;have m2:=ok.m12;have hfew:=ok.few;refine⟨_,(aj (aG (i:=3) nd rfl (Or.inl rfl) (nv (df hr) (pv 1) af))
    (aj (aG (i:=4) nd rfl (Or.inl rfl) (bq (aa (pv 1) ae)))
    (aj (fD PassesOwn.never (aS fS (bh (cY K) rfl T.len_ PySem.boot_len (aa (pv 4) ae)) af (aQ _)) (aj (aG (i:=5) nd rfl (Or.inl rfl) (bq ae))
    (aj (bH PassesOwn.never rfl (cK K (pv 4)) (aK (i:=6) nd rfl (Or.inl rfl)) (ao (bH PassesOwn.never rfl (cK K (aH C__law_behind hr (aa (pv 0) (aa (pv 6) ae)))) (gm (n:=2) K rfl (b6 (aK (i:=7) nd rfl (Or.inl rfl)) (b6 (aK (i:=8) nd rfl (Or.inl rfl)) fU))) (ao (cq (PW.pt (fV (aS gY (ah (aC K) (pv 8) af (λ_ _=>rfl)) (pv 2) (aQ _)) (fL (iq (kh (df hr) (pv 8) (pv 3)) (by with_unfolding_all rfl))))) (aj (kx (df hr) (pv 3) (pv 8) (aq aU (lG (df hr) (pv 3) (pv 6) (λ_ _=>rfl)) af) rfl)
    (ao (bt (bE K ET E7 E8 bL (pv 5) (aa (pv 8) ae))))) aY)))))
    (ao (aG (i:=4) nd rfl (Or.inl rfl) (pv 5))))))
    (ao (aL (pv 3)))))),?_⟩
  walk_at"";refine λf hfn=>?_;walk_at"";refine⟨pa,aT x,rfl,(aX hfn) _ _ hx,aE,?_⟩;walk_at"";refine aJ λwa H3 e3 hwa hwn=>?_;walk_at"";have e13:Ext H (upd (upd H f (.dT [])) f (.dT [(aT x,.int 0)])):=λb o hb=>by rw[ay (cg hb hfn),ay (cg hb hfn)];exact hb
  have eH3:=e13.trans e3;have lc0:LC H3 f wa [(x,0)] [x]:=⟨⟨_,e3 _ _ aE,.cons ⟨rfl,rfl⟩ .nil⟩,[pa],hwa,.cons (eH3 _ _ hx) .nil⟩;refine fY (qM H ws m U x v pa f) (Ax H ws U x v pa f) (ky [(x,0)] [x]) ⟨[(x,0)],[x],0,wa,_,_,_,_,rfl,eH3,lc0,Bfs.LI.begin,?_,rfl⟩ ?_ ?_
  ·intro e he;rw[EW]at he;subst he;exact ix
  ·clear lc0 eH3 e13 hwa hwn e3 wa;rintro M σ H4 ⟨fl,wt,L,wa,k1,k2,k3,k4,rfl,e4,lc,li,hin,hM⟩;obtain⟨as,hwa,pa4⟩:=lc.r;have hal:=Paired.length pa4;walk_at"";refine eh (ag.of hwa) ?_;walk_at"";rw[EK,hal];by_cases hw0:wt=[]
   ·subst hw0;refine az ?_;exact⟨fl,L,wa,_,_,_,_,rfl,e4,lc,li⟩
   ·rw[FG (show(0:Int)<((wt.length:Nat):Int) by have:=List.length_pos_iff.mpr hw0;omega)];refine aD ?_;refine⟨λσ' H'=>∃m',m'<M/\qM H ws m U x v pa f m' σ' H',λ_ _ h=>h,?_⟩;walk_at"";refine aJ λla H5 e5 hla hlan=>?_;walk_at"";refine cH (ag.of (e5 _ _ hwa)) ?_;obtain⟨kvs0,hf0,pk0⟩:=lc.d;have wf:wa≠f:=bO hwa hf0 (by intro z;cases z);have haf:la≠f:=λz=>by rw[z]at hlan;rw[hf0]at hlan;cases hlan
    have eG5:Ext (hide H4 f) H5:=(pC _ _).trans e5;have hwG:hide H4 f wa=some (.lst (List.map V.ref as)):=iz wf hwa;have hpG:Paired (aA (hide H4 f)) as wt:=Paired.mapP pa4 λa y z=>iz (bO z hf0 (by intro z;cases z)) z;have hGf:=lV H4 f;have hGl:hide H4 f la=none:=rH hlan;have hHl:H la=none:=e4.none hlan;have lc5:LC H5 f la fl []:=⟨⟨kvs0,e5 _ _ hf0,pk0⟩,[],hla,.nil⟩;have e05:=e4.trans e5;clear pa4 hwa e5 hlan hla pk0 hf0 lc kvs0;generalize hide H4 f=G at eG5 hwG hpG hGf hGl;clear e4 H4;refine forL (xs:=List.map V.ref as) (xN H G ws m U x v pa f wa la fl wt L) ?_ (λi σ H' _ h=>?_) ?_ ?_
    ·refine⟨fl,[],_,_,_,rfl,e05,eG5,lc5,li.start.more (λy hy=>?_),hin,by simp⟩;obtain⟨z,hz,_⟩:=hy;simp at hz
    ·obtain⟨_,_,_,_,_,_,_,eG,_⟩:=h;exact ag.of (eG _ _ hwG)
    ·rintro i u σ H6 hu ⟨fl',lt,c2,c3,c4,rfl,e6,eG6,lc6,lf,hin6,hlen6⟩;rw[EM]at hu;obtain⟨b,hb,rfl⟩:=EX.mp hu;obtain⟨z,hz,hbG⟩:=fG hpG hb;have hzm:z∈wt:=EV hz;have hb6:aA H6 b z:=eG6 _ _ hbG;clear lc5 eG5 e05 H5;walk_at"";refine⟨v,m,ws,b,z.1,z.2,rfl,hv.ext e6,ok,hb6,λbl H7 cs e7 hbn hbl hpd=>?_⟩;have hcl:=Paired.length hpd;have lc7:=lc6.step e7;obtain⟨kvs6,hf6,_⟩:=lc6.d;obtain⟨as6,hl6,_⟩:=lc6.r;have hf7:=e7 _ _ hf6;have hl7:=e7 _ _ hl6;have blf:bl≠f:=λz=>by rw[z,hf6]at hbn;cases hbn
     have bll:bl≠la:=λz=>by rw[z,hl6]at hbn;cases hbn
     have eG2:Ext (hide (hide H7 f) la) H7:=(pC _ _).trans (pC _ _);have hbl2:hide (hide H7 f) la bl=some (.lst (List.map V.ref cs)):=iz bll (iz blf hbl);have tupG:∀a xs,H7 a=some (.tup xs)->hide (hide H7 f) la a=some (.tup xs):=λa xs h=>iz (bO h hl7 (by intro z;cases z)) (iz (bO h hf7 (by intro z;cases z)) h);have hpd2:Paired (cV (hide (hide H7 f) la)) cs (dG ws z.1 z.2 ws.length):=Paired.mapP hpd λc t h=>by obtain⟨d,h1,h2⟩:=h;exact⟨d,tupG _ _ h1,tupG _ _ h2⟩
     have hG2f:hide (hide H7 f) la f=none:=rH (lV _ _);have hG2l:hide (hide H7 f) la la=none:=lV _ _;have hb2:aA (hide (hide H7 f) la) b z:=tupG _ _ (e7 _ _ hb6);have e07:=e6.trans e7;have eG7:=eG6.trans e7;clear tupG hl7 hf7 hl6 hf6 hbl hpd hbn e7 lc6 eG6 e6 hb6 blf bll;generalize hide (hide H7 f) la=G2 at eG2 hbl2 hpd2 hG2f hG2l hb2;refine cH (ag.of (eG2 _ _ hbl2)) ?_;refine forL (xs:=List.map V.ref cs) (Aj H G G2 ws m U x v pa f wa la b z fl wt L i) ?_ (λj σ H' _ h=>?_) ?_ ?_
     ·refine⟨fl',lt,_,_,rfl,e07,eG7,eG2,lc7,lf.more (λy hy=>?_),hin6,hlen6⟩;rcases hy with h|⟨t,ht,_⟩
      ·exact .inl h
      ·simp at ht
     ·obtain⟨_,_,_,_,_,_,_,e2,_⟩:=h;exact ag.of (e2 _ _ hbl2)
     ·clear lc7 lf hin6 hlen6 eG7 e07;rintro j u σ H8 hu ⟨fl',lt,d3,d4,rfl,e08,eG8,e28,lc8,lf,hin8,hlen8⟩;rw[EM]at hu;obtain⟨c,hc,rfl⟩:=EX.mp hu;obtain⟨t,ht,hbt⟩:=fG hpd2 hc;have htm:=EV ht;obtain⟨d,hc1,hd1⟩:=hbt.ext e28;have hfl:=tT m2 hU lf.nd hin8;have hd1':aA H8 d (t.2.1,t.2.2):=hd1;have hmore:∀y,oK ws U wt i z (j+1) y->oK ws U wt i z j y\/(y=(t.2.1,t.2.2)/\t.2.2<=U):=by
       rintro y (h|⟨t',ht',h1,h2⟩)
       ·exact .inl (.inl h)
       ·rw[List.take_succ,ht]at ht';rcases E9.mp ht' with w|w
        ·exact .inl (.inr ⟨t',w,h1,h2⟩)
        ·have:t'=t:=by simpa using w
         subst this;exact .inr ⟨h1,h2⟩
      refine gN (ai.of hc1) rfl ?_;walk_at"";refine bT ?_;walk_at"";refine aB (ai.of hd1) (v:=.int t.2.2) rfl ?_;walk_at"";by_cases hle:t.2.2<=U
      rotate_left
      ·rw[FF hle];refine az ?_;refine az ?_;walk_at"";refine⟨fl',lt,_,_,rfl,e08,eG8,e28,lc8,lf.more (λy hy=>?_),hin8,hlen8⟩;rcases hmore y hy with h|⟨_,h⟩
       ·exact .inl h
       ·exact absurd h hle
      ·rw[FG hle];refine aD ?_;walk_at"";obtain⟨kvs,hd8,pk8⟩:=lc8.d;refine⟨f,_,rfl,bY.t hd8 (k:=aT (t.2.1,t.2.2)) hd1',?_⟩;by_cases hnew:(t.2.1,t.2.2)∈fl'.map (·.1)
       ·obtain⟨e,he,hee⟩:=List.mem_map.mp hnew;obtain⟨v1,hv1,_⟩:=jG (λ_ _ z=>z.1) pk8 lf.nd he;rw[hee]at hv1;rw[hv1];refine rd_exb (az ?_);walk_at"";refine⟨fl',lt,_,_,rfl,e08,eG8,e28,lc8,lf.more (λy hy=>?_),hin8,hlen8⟩;rcases hmore y hy with h|⟨h,_⟩
        ·exact .inl h
        ·rw[h];exact .inr hnew
       ·rw[iZ (λ_ _ z=>z.1) pk8 hnew];refine rd_exb (aD ?_);obtain⟨kk,_,hkk⟩:=Aq htm hle;obtain⟨ez,hez,hez1⟩:=List.mem_map.mp (li.al L z (E6 _) (li.wt z hzm).1);have hezL:ez.2=L:=Bfs.cU.uniq (nx:=cM ws U) (s:=x) (li.ds ez hez).1 (by rw[hez1];exact li.wt z hzm);obtain⟨v1,hv1,hkd⟩:=jG (λ_ _ z=>z.1) pk8 lf.nd (lf.sub ez hez);rw[hez1]at hv1;obtain rfl:v1=.int ((L:Nat):Int):=by rw[←hezL];exact hkd.2
        have hiny:bC m U (t.2.1,t.2.2):=CA ok (by have:=hin ez hez;rw[hez1]at this;exact this.2.2.1) hkk;walk_at"";refine⟨f,_,rfl,by rw[←hv1];exact bY.t hd8 (k:=aT z) (e28 _ _ hb2),?_⟩;clear hv1 hkd;walk_at"";obtain⟨kvs',hd9,hkl,as9,hr9,hal9,lc9⟩:=lc8.push (d:=L+1) hnew hd1';refine⟨f,_,rfl,fF.t hd9 (k:=aT (t.2.1,t.2.2)) hd1' (dO (by omega)),?_⟩;walk_at"";refine⟨cB (ag.of hr9),?_⟩;walk_at"";refine bJ hr9 (dO (by rw[EK];omega)) ?_;have inn:∀e∈fl'++[((t.2.1,t.2.2),L+1)],bC m U e.1:=λe he=>by
         rcases E9.mp he with w|w
         ·exact hin8 e w
         ·rw[EW]at w;subst w;exact hiny
        walk_at"";refine⟨_,_,_,_,rfl,bK (bK e08 hfn) hHl,bK (bK eG8 hGf) hGl,bK (bK e28 hG2f) hG2l,lc9,lf.add li hzm hkk hnew (λy hy=>?_),inn,by rw[E4,E4,hlen8];simp;omega⟩;rcases hmore y hy with h|⟨h,_⟩
        ·exact .inl h
        ·exact .inr h
     ·rintro σ H8 ⟨fl2,lt2,d3,d4,rfl,e08,eG8,e28,lc8,lf2,hin8,hlen8⟩;rw[EK,hcl]at lf2;refine⟨fl2,lt2,_,_,_,rfl,e08,eG8,lc8,lf2.more (λy hy=>.inl ?_),hin8,hlen8⟩;obtain⟨z',hz',k,hk⟩:=hy;rw[List.take_succ,hz]at hz';rcases E9.mp hz' with w|w
      ·exact .inl ⟨z',w,k,hk⟩
      ·have:z'=z:=by simpa using w
       subst this;obtain⟨h1,h2⟩:=Es hk;exact .inr ⟨_,by rw[Ff];exact h1,rfl,h2⟩
    ·rintro σ H6 ⟨fl',lt,c2,c3,c4,rfl,e6,eG6,lc6,lf,hin6,hlen6⟩;rw[EK,hal]at lf;have li':=lf.next li (λy hy k z hz=>⟨y,by rw[Ff];exact hy,k,hz⟩);have hfl:=tT m2 hU lf.nd hin6;walk_at"";refine⟨ky fl' lt,?_,fl',lt,L+1,la,_,_,_,_,rfl,e6,lc6,li',hin6,rfl⟩;rw[←hM];unfold ky;rw[FH hw0];cases lt with
     | nil=>rw[FI rfl,hlen6];simp
     | cons a r=>rw[FH (by simp),hlen6];rw[hlen6]at hfl;rw[Fe]at hfl ⊢;omega
  ·rintro σ H4 ⟨fl,L,wa,k1,k2,k3,k4,rfl,e4,lc,li⟩;obtain⟨kvs,hd,pk⟩:=lc.d;walk_at"";exact q f H4 kvs fl e4 hd pk li.nd (λe he=>(li.ds e he).1) li.end_
def Sk(ws:List Way)(a b:Bfs.Pl):Prop:=1<=b.2/\∃w∈ws,w.room=a.1/\w.deed≠"zero"/\b=(w.other,a.2+rz w.deed)
def RK(ws:List Way)(x y:Bfs.Pl):Prop:=∃n,Bfs.Rw (Sk ws) n x y
def RK.trans{ws:List Way}{x y z:Bfs.Pl}(h:RK ws x y)(g:RK ws y z):RK ws x z:=by obtain⟨n,h⟩:=h;obtain⟨k,g⟩:=g;exact⟨_,h.trans g⟩
def RK.one{ws:List Way}{x y:Bfs.Pl}(h:Sk ws x y):RK ws x y:=⟨1,.snoc .nil h⟩
section
variable {m:Int} {ws:List Way} (ok:∀w∈ws,w.Ok m)
include ok
def Sk.stp{a b:Bfs.Pl}(h:Sk ws a b)(ha:1<=a.2):dz ws a b:=by
 obtain⟨_,w,hw,hr,hz,rfl⟩:=h;refine⟨w,hw,gZ hr ?_,rfl⟩;rcases(ok w hw).dd with e|e|e|e
 ·exact .inl e
 ·exact .inr (.inr (.inl ⟨e,by omega⟩))
 ·exact .inr (.inl e)
 ·exact absurd e hz
def Di{i j:Nat}(h:Kpt ws m.toNat i j):∀L:Int,1<=L->RK ws ((i:Int),L) ((j:Int),L):=by
 induction h with
 | refl _=>exact λ_ _=>⟨0,.nil⟩
 | @stay w hw hd=>
  intro L hL;have r0:=(ok w hw).r0;have o0:=(ok w hw).o0;refine .one ⟨hL,w,hw,by show w.room=((w.room.toNat:Nat):Int);omega,by rw[hd];decide +kernel,?_⟩;rw[hd,iV];exact Prod.ext (by show((w.other.toNat:Nat):Int)=w.other;omega) (by show L=L+0;omega)
 | trans _ _ h1 h2=>exact λL hL=>(h1 L hL).trans (h2 L hL)
 | @arch u d hu hud hd hdd _ ih=>
  intro L hL;have u0:=(ok u hu).r0;have u1:=(ok u hu).o0;have d0:=(ok d hd).r0;have d1:=(ok d hd).o0;have s1:Sk ws (((u.room.toNat:Nat):Int),L) (((u.other.toNat:Nat):Int),L+1):=⟨by show 1<=L+1;omega,u,hu,by show u.room=((u.room.toNat:Nat):Int);omega,by rw[hud];decide +kernel,by rw[hud,g7];exact Prod.ext (by show((u.other.toNat:Nat):Int)=u.other;omega) rfl⟩;have s2:Sk ws (((d.room.toNat:Nat):Int),L+1) (((d.other.toNat:Nat):Int),L):=⟨hL,d,hd,by show d.room=((d.room.toNat:Nat):Int);omega,by rw[hdd];decide +kernel,by rw[hdd,iU];exact Prod.ext (by show((d.other.toNat:Nat):Int)=d.other;omega) (by show L=L+1 + -1;omega)⟩;exact((RK.one s1).trans (ih (L+1) (by omega))).trans (.one s2)
def Cu{i j:Nat}(hi:i<m.toNat)(h:RK ws ((i:Int),1) ((j:Int),1)):Kpt ws m.toNat i j:=by
 obtain⟨n,h⟩:=h;obtain⟨w,w0,wn,hS⟩:=h.fn;have hl:∀k,k<=n->1<=(w k).2:=λk hk=>by
  cases k with
  | zero=>rw[w0];exact Int.le_refl _
  | succ k=>exact(hS k (by omega)).1
 have:=mJ ok n w 0 1 (Int.le_refl _) (λk _ hk=>(hS k (by omega)).stp ok (hl k (by omega))) (λk _ hk=>hl k (by omega)) (by rw[w0]) (by rw[Nat.zero_add,wn]) (by rw[w0];show(0:Int)<=(i:Int);omega) (by rw[w0];show(i:Int)<m;omega);rw[Nat.zero_add,w0,wn]at this;exact this
def Sc(ws:List Way)(m:Int)(a b:Bfs.Pl):Prop:=Sk ws a b/\b.2<=1+m*m
def yI{i j:Nat}(hi:i<m.toNat):Kpt ws m.toNat i j↔∃n,Bfs.Rw (Sc ws m) n ((i:Int),1) ((j:Int),1):=by
 constructor
 ·intro h;obtain⟨n,h⟩:=Di ok h 1 (Int.le_refl _);obtain⟨n',_,r'⟩:=Bfs.cut (S:=Sk ws) (m:=m) (by omega) (λp q h=>by
    obtain⟨_,w,hw,_,_,rfl⟩:=h;have r1:=rg w.deed;have r2:=sR w.deed;show p.2+rz w.deed<=p.2+1/\p.2<=p.2+rz w.deed+1;omega) (λp q c h _ _ h2=>by
    obtain⟨_,w,hw,hr,hz,rfl⟩:=h;exact⟨h2,w,hw,hr,hz,Prod.ext rfl (by show p.2+rz w.deed-c=p.2-c+rz w.deed;omega)⟩) (λp q h=>by
    obtain⟨_,w,hw,_,_,rfl⟩:=h;exact⟨(ok w hw).o0,(ok w hw).o1⟩) (b:=1) (by decide) n _ _ h (by show(0:Int)<=(i:Int);omega) (by show(i:Int)<m;omega) (Int.le_refl _) (Int.le_refl _)
  exact⟨n',r'⟩
 ·rintro⟨n,h⟩;exact Cu ok hi ⟨n,h.imp λa c h=>h.1⟩
end
structure Ds(ws:List Way)(m:Int)(x:Bfs.Pl)(F W:List Bfs.Pl):Prop where
 nd:F.Nodup
 sub:∀y∈W,y∈F
 ok:∀y∈F,∃n,Bfs.Rw (Sc ws m) n x y
 box:∀y∈F,bC m (1+m*m) y
 st:x∈F
 few:W.length<=F.length
def Ds.all{ws:List Way}{m:Int}{x:Bfs.Pl}{F:List Bfs.Pl}(h:Ds ws m x F [])(cl:∀y∈F,∀z,Sc ws m y z->z∈F){y:Bfs.Pl}:y∈F↔∃n,Bfs.Rw (Sc ws m) n x y:=by
 refine⟨h.ok y,?_⟩;rintro⟨n,hr⟩;have:∀(n:Nat) (z y:Bfs.Pl),Bfs.Rw (Sc ws m) n z y->z=x->y∈F:=by
  intro n z y hr;induction hr with
  | nil=>intro e;rw[e];exact h.st
  | snoc _ hs ih=>intro e;exact cl _ (ih e) _ hs
 exact this n x y hr rfl
def Ds.add{ws:List Way}{m:Int}{x y:Bfs.Pl}{F W:List Bfs.Pl}(h:Ds ws m x F W)(hn:y∉F)(hr:∃n,Bfs.Rw (Sc ws m) n x y)(hb:bC m (1+m*m) y):Ds ws m x (F++[y]) (W++[y]) where
 nd:=by rw[List.nodup_append];refine⟨h.nd,by simp,λa ha b hb e=>?_⟩;rw[EW.mp hb]at e;exact hn (e ▸ ha)
 sub:=λz hz=>by
  rcases E9.mp hz with a|a
  ·exact Fu _ (h.sub z a)
  ·exact Ft _ a
 ok:=λz hz=>by
  rcases E9.mp hz with a|a
  ·exact h.ok z a
  ·rw[EW.mp a];exact hr
 box:=λz hz=>by
  rcases E9.mp hz with a|a
  ·exact h.box z a
  ·rw[EW.mp a];exact hb
 st:=Fu _ h.st
 few:=by rw[E4,E4];exact Nat.add_le_add_right h.few _
def cJ(r:Int)(w:Way):Bool:=decide (w.room=r) && !decide (w.deed = "zero")
def kI(H:Hp)(rs:List Addr)(ws:List Way)(n:Nat):Prop:=rs.length=n/\∀(r:Nat) (a:Addr),rs[r]?=some a->∃cs,H a=some (.lst (List.map V.ref cs))/\aP H cs (ws.filter (cJ (r:Int)))
def kI.ext{H H':Hp}(e:Ext H H'){rs:List Addr}{ws:List Way}{n:Nat}(h:kI H rs ws n):kI H' rs ws n:=⟨h.1,λr a ha=>by obtain⟨cs,h1,h2⟩:=h.2 r a ha;exact⟨cs,e _ _ h1,h2.ext e⟩⟩
structure DsAt(H:Hp)(f l:Addr)(F W:List Bfs.Pl):Prop where
 d:∃kvs,H f=some (.dT kvs)/\Paired (λkv e=>kv.1=aT e) kvs F
 r:∃as,H l=some (.lst (List.map V.ref as))/\Paired (aA H) as W
def DsAt.ext{H H':Hp}{f l:Addr}{F W:List Bfs.Pl}(e:Ext H H')(h:DsAt H f l F W):DsAt H' f l F W:=by obtain⟨⟨kvs,h1,h2⟩,as,h3,h4⟩:=h;exact⟨⟨kvs,e _ _ h1,h2⟩,as,e _ _ h3,Paired.mapP h4 λ_ _ z=>e _ _ z⟩
def sW{kvs:List (List Key×V)}{F:List Bfs.Pl}(h:Paired (λkv e=>kv.1=aT e) kvs F)(nd:F.Nodup)(y:Bfs.Pl):(aW kvs (aT y)).isSome=decide (y∈F):=by
 by_cases hy:y∈F
 ·obtain⟨v,hv,_⟩:=jG (key:=id) (λ_ _ z=>z) h (by rw[List.map_id];exact nd) hy;rw[FG hy];have hv:aW kvs (aT y)=some v:=hv;rw[hv];rfl
 ·rw[iZ (key:=id) (λ_ _ z=>z) h (by rw[List.map_id];exact hy),FF hy];rfl
def DsAt.push{H:Hp}{f l th:Addr}{F W:List Bfs.Pl}{y:Bfs.Pl}(h:DsAt H f l F W)(hy:y∉F)(hth:aA H th y):∃kvs as,H f=some (.dT kvs)/\kvs.length=F.length/\upd H f (.dT (putK kvs (aT y) (.bl true))) l=some (.lst (List.map V.ref as))/\as.length=W.length ∧
  DsAt (upd (upd H f (.dT (putK kvs (aT y) (.bl true)))) l (.lst (List.map V.ref as++[.ref th]))) f l (F++[y]) (W++[y]):=by
 obtain⟨⟨kvs,h4,h5⟩,as,h6,h7⟩:=h;have ne:l≠f:=bO h6 h4 (by intro z;cases z);have nf:∀xs,(HO.dT kvs)≠.tup xs:=λxs z=>by cases z
 have nr:∀xs,(HO.lst (List.map V.ref as))≠.tup xs:=λxs z=>by cases z
 have h6':upd H f (.dT (putK kvs (aT y) (.bl true))) l=some (.lst (List.map V.ref as)):=by rw[ay ne];exact h6
 refine⟨kvs,as,h4,Paired.length h5,h6',Paired.length h7,⟨kvs++[(aT y,.bl true)],?_,Paired.snoc h5 rfl⟩,as++[th],?_,?_⟩
 ·rw[ay ne.symm,aE,jZ _ (iZ (key:=id) (λ_ _ z=>z) h5 (by rw[List.map_id];exact hy))]
 ·rw[aE,E3];rfl
 ·exact Paired.snoc (Paired.mapP h7 λ_ _ z=>aA.put h6' nr (aA.put h4 nf z)) (aA.put h6' nr (aA.put h4 nf hth))
def qm{α β:Type}{F:α->β->Prop}:∀{ts:List β} {as:List α} {t:β},Paired F as (ts++[t])->∃as' a,as=as'++[a]/\Paired F as' ts/\F a t
 | [],_,_,.cons h .nil=>⟨[],_,rfl,.nil,h⟩
 | _::_,_,_,.cons h r=>by obtain⟨as',a,rfl,h1,h2⟩:=qm r;exact⟨_::as',a,rfl,.cons h h1,h2⟩
def iM:List (Key×V):=[(.inr "up",.int 1),(.inr "down",.int (-1)),(.inr "stay",.int 0)]
def yE{z:Str}(h:bZ z)(hz:z≠"zero"):aW iM (.inr z)=some (.int (rz z)):=by
 rcases h with rfl|rfl|rfl|rfl
 ·rw[g7];rfl
 ·rw[iU];rfl
 ·rw[iV];rfl
 ·exact absurd rfl hz
def jQ(m:Int)(y u:Bfs.Pl)(w:Way):Prop:=u=(w.other,y.2+rz w.deed)/\1<=u.2/\u.2<=1+m*m
def wH(K:EG):Sp:=λvs H Q _=>∃(vh:V) (m:Int) (ws:List Way) (i:Nat),vs=[vh,.int (i:Int)]/\bw H vh m ws/\HOuse m ws/\i<m.toNat/\∀l (G:Nat->Bool) H',Ext H H'->H' l=some (.lst ((row G 0 m.toNat).map V.int))->(∀j,j<m.toNat->(G j=true↔Kpt ws m.toNat i j))->Q (.ref l) H'
abbrev m9:Stmt:=stq 60
def vJ:FnScope ["_law_house_here","_law_room","_law_rows","_law_raised_here","_law_found","_law_waiting","_law_here","_law_way","_law_there"] ["_law_house_here","_law_room"] (aM m9):=⟨rfl,rfl,rfl,by decide +kernel,rfl,by decide +kernel,by decide +kernel⟩
def AU{P:Program}{w:World}{K:EG}{mg:Str->Option Value}{base:Heap}(D:Dfn K mg "_law_along" m9 ["_law_house_here","_law_room"])(T:Blt mg):Cal P w K mg base "_law_along" 1 ["_law_house_here","_law_room"] (wH K):=by
 have nd:=(vJ).nd;refine D.ok vJ (λvs H Q E h=>?_) (λX hX H vs Q E h=>?_)
 ·obtain⟨vh,m,ws,i,rfl,_⟩:=h;rfl
 ·obtain⟨f,cdv,A,outer,s,H0,E0,rfl,hr⟩:=hX;obtain⟨vh,m,ws,i,rfl,hv,ok,hi,q⟩:=h;have m1:=ok.m1;have m12:=ok.m12;have hfew:=ok.few;have hmm:m*m<=12*12:=Int.mul_le_mul m12 m12 (by omega) (by decide);have hmm0:0<=m*m:=Int.mul_nonneg (by omega) (by omega);obtain⟨hp,hq,rfl,h1,h2⟩:=id hv;obtain⟨bs,hb,al⟩:=h2.al;have hbl:=al.1;refine⟨_,(@aj _ _ _ _ _ (gC (i:=2) ["_law_here"] [0] nd rfl (Or.inl rfl) (bR rfl T.range_ (@aa _ _ _ _ _ (@ah _ _ _ _ _ _ _ (aC K) (pv 0) af (λ_ _=>rfl)) ae rfl)) (λ_=>(aK (i:=0) (show(["_law_here","_law_house_here"]:List Str).Nodup from by decide +kernel) rfl (Or.inr rfl) (Or.inl rfl))) (λ_=>dD) (λ_=>(cx ["_law_way"] [0] (f9 K (@ah _ _ _ _ _ _ _ (aC K) (pv 1) af (λ_ _=>rfl))) (λ_=>(aK (i:=0) (show(["_law_way","_law_here"]:List Str).Nodup from by decide +kernel) rfl (Or.inl rfl) (Or.inr rfl))) (λ_=>(dR (PW.pt (fV (aS bG (@ah _ _ _ _ _ _ _ (aC K) (pv 0) af (λ_ _=>rfl)) (pv 1) (aQ _)) (fL (aS hZ (@ah _ _ _ _ _ _ _ (aC K) (pv 0) af (λ_ _=>rfl)) aR (aQ _))))))) (λ_=>(pv 0)))))
    (@aj _ _ _ _ _ (@aG _ _ 3 _ _ _ _ nd rfl (Or.inl rfl) (ym (oA aR af (oA aR (eZ eX af) (oA aR af Ep))) rfl rfl (by decide) (by decide)) rfl (Or.inl rfl))
    (@aj _ _ _ _ _ (@aG _ _ 4 _ _ _ _ nd rfl (Or.inr rfl) (nv (df hr) (@bj _ _ _ _ _ (@aa _ _ _ _ _ (pv 1) (@aa _ _ _ _ _ af ae rfl) rfl)) bX) rfl (Or.inl rfl))
    (@aj _ _ _ _ _ (@aG _ _ 5 _ _ _ _ nd rfl (Or.inl rfl) (@bq _ _ _ _ (@aa _ _ _ _ _ (@bj _ _ _ _ _ (@aa _ _ _ _ _ (pv 1) (@aa _ _ _ _ _ af ae rfl) rfl)) ae rfl)) rfl (Or.inl rfl))
    (@aj _ _ _ _ _ (fD PassesOwn.never (aS fS (bh (cY K) rfl T.len_ PySem.boot_len (@aa _ _ _ _ _ (pv 5) ae rfl)) af (aQ _)) (@aj _ _ _ _ _ (@aG _ _ 6 _ _ _ _ nd rfl (Or.inl rfl) (yq K ET PySem.F.slot_list_pop PySem.F.type_list_pop DN (pv 5)) rfl (Or.inl rfl))
    (@ao _ _ _ (bH PassesOwn.never rfl (cK K (@ah _ _ _ _ _ _ _ (aI K) (pv 2) (@ah _ _ _ _ _ _ _ (aC K) (pv 6) af (λ_ _=>rfl)) (λ_ _=>rfl))) (aK (i:=7) nd rfl (Or.inl rfl)) (@aj _ _ _ _ _ (@aG _ _ 8 _ _ _ _ nd rfl (Or.inl rfl) (@bj _ _ _ _ _ (@aa _ _ _ _ _ (@ah _ _ _ _ _ _ _ (aC K) (pv 7) af (λ_ _=>rfl)) (@aa _ _ _ _ _ (aq aU (@ah _ _ _ _ _ _ _ (aC K) (pv 6) af (λ_ _=>rfl)) (lG (df hr) (pv 3) (@ah _ _ _ _ _ _ _ (aC K) (pv 7) af (λ_ _=>rfl)) (λ_ _=>rfl))) ae rfl) rfl)) rfl (Or.inl rfl))
    (@ao _ _ _ (cq (PW.pt (fV (A2 gY gY af (@ah _ _ _ _ _ _ _ (aC K) (pv 8) af (λ_ _=>rfl)) (aq aU af (aq eM (@ah _ _ _ _ _ _ _ (aC K) (pv 0) af (λ_ _=>rfl)) (@ah _ _ _ _ _ _ _ (aC K) (pv 0) af (λ_ _=>rfl))))) (fL (iq (kh (df hr) (pv 8) (pv 4)) (by with_unfolding_all rfl))))) (@aj _ _ _ _ _ (kx (df hr) (pv 4) (pv 8) bX rfl)
    (@ao _ _ _ (bt (bE K ET E7 E8 bL (pv 5) (@aa _ _ _ _ _ (pv 8) ae rfl))))) aY)))))))
    (@ao _ _ _ (@aL _ _ _ _ (cx ["_law_q"] [4] (bR rfl T.range_ (@aa _ _ _ _ _ (@ah _ _ _ _ _ _ _ (aC K) (pv 0) af (λ_ _=>rfl)) ae rfl)) (λ_=>(aK (i:=0) (show(["_law_q","_law_found"]:List Str).Nodup from by decide +kernel) rfl (Or.inl rfl) (Or.inr rfl))) (λ_=>(dR (iq (rB (df hr) (@bj _ _ _ _ _ (@aa _ _ _ _ _ (pv 0) (@aa _ _ _ _ _ af ae rfl) rfl)) (pv 1)) (by with_unfolding_all rfl)))) (λ_=>(pv 0)))))))))),?_⟩
  walk_at"";refine aB (ai.of h1) (v:=.int m) rfl ?_;walk_at"";refine bS (by omega) ?_;refine dA (λr ys H'=>Ext H H'/\∃rs,ys=List.map V.ref rs/\kI H' rs ws r) (br (by omega)) ⟨Ext.rfl' _,[],rfl,rfl,λr a h=>by simp at h⟩ (λr ys H' _ h=>by obtain⟨_,rs,rfl,hr⟩:=h;rw[EK,hr.1];exact E6 _) ?_ ?_
  ·rintro r ys H1 hr' ⟨e1,rs,rfl,hrs⟩;rw[show (0:Int)+(r:Int)=((r:Nat):Int) by omega];have hb1:=e1 _ _ hb;have al1:=al.ext e1;walk_at"";refine aD ?_;walk_at"";refine aB (ai.of (e1 _ _ h1)) (v:=.ref hq) rfl ?_;walk_at"";refine gh (ai.of hb1) ?_;refine jI (xs:=List.map V.ref bs) (λj zs H'=>H'=H1/\∃cs,zs=List.map V.ref cs/\aP H1 cs ((ws.take j).filter (cJ (r:Int)))/\cs.length<=j) (br (by rw[EK];omega)) ⟨rfl,[],rfl,aP.nil _,E6 _⟩ (λj zs H' _ h=>by obtain⟨rfl,cs,rfl,_,hc⟩:=h;exact⟨ai.of hb1,by rw[EK];exact hc⟩) ?_ ?_
   ·rintro j u zs H2 hu ⟨rfl,cs,rfl,hcs,hcl⟩;rw[EM]at hu;obtain⟨b,hbj,rfl⟩:=EX.mp hu;have hjl:j<ws.length:=by rw[←hbl];exact(EU.mp hbj).1
    have hwj:ws[j]?=some ws[j]:=EL hjl;generalize ws[j]=w at hwj;have hbw:=al1.2 j b w hbj hwj;have htk:(ws.take (j+1)).filter (cJ (r:Int))=(ws.take j).filter (cJ (r:Int))++(if cJ (r:Int) w then[w]else[]):=by rw[List.take_succ,hwj,List.filter_append];congr 1;show List.filter _ [w]=_;rw[List.filter_cons,List.filter_nil]
    walk_at"";refine aB (ai.of hbw) (v:=.int w.room) rfl ?_;walk_at"";have skip:cJ (r:Int) w=false->H2=H2/\∃cs',List.map V.ref cs=List.map V.ref cs'/\aP H2 cs' ((ws.take (j+1)).filter (cJ (r:Int)))/\cs'.length<=j+1:=λz=>⟨rfl,cs,rfl,by rw[htk,z,FH E2,List.append_nil];exact hcs,by omega⟩;by_cases hr0:w.room=(r:Int)
    ·rw[FG hr0];refine aD ?_;walk_at"";refine aB (ai.of hbw) (v:=.str w.deed) rfl ?_;walk_at"";refine uB ?_;by_cases hz:w.deed = "zero"
     ·rw[FG hz];refine rd_exb (az ?_);exact skip (by unfold cJ;rw[FG hz,Bool.not_true,Bool.and_false])
     ·rw[FF hz];refine rd_exb (aD ?_);walk_at"";refine⟨rfl,cs++[b],by rw[E3];rfl,?_,by rw[E4];simp;omega⟩;rw[htk,FI (by unfold cJ;rw[FG hr0,FF hz];rfl)];exact hcs.snoc hbw
    ·rw[FF hr0];refine az (az ?_);exact skip (by unfold cJ;rw[FF hr0,Bool.false_and])
   ·rintro zs H2 pr ⟨rfl,cs,rfl,hcs,hcl⟩ hpr;rw[EK,hbl,Ff]at hcs;walk_at"";have e2:=aX (o:=.lst (List.map V.ref cs)) hpr;refine⟨e1.trans e2,rs++[pr],by rw[E3];rfl,by rw[E4,hrs.1];rfl,λk a ha=>?_⟩;rcases Fx k rs.length with hk|hk
    ·rw[Fc hk]at ha;exact(hrs.ext e2).2 k a ha
    ·rw[Fb hk]at ha;have hz:k-rs.length=0:=by have:=(EU.mp ha).1;simp at this;omega
     rw[hz]at ha;cases ha;have:k=r:=by have:=hrs.1;omega
     subst this;exact⟨cs,aE,hcs.ext e2⟩
  rintro ys H1 rl ⟨e1,rs,rfl,hrs⟩ hrl;have e2:=e1.trans (aX (o:=.lst (List.map V.ref rs)) hrl);have hrs2:=hrs.ext (aX (o:=.lst (List.map V.ref rs)) hrl);have hrl2:(upd H1 rl (.lst (List.map V.ref rs))) rl=_:=aE;generalize upd H1 rl (.lst (List.map V.ref rs))=H2 at e2 hrs2 hrl2 ⊢;walk_at"";refine λdp hdp=>?_;walk_at"";refine⟨_,rfl,?_⟩;refine⟨aE,iM,rfl,by decide,?_⟩;have hD:upd (upd H2 dp (.dK [])) dp (.dK (fR [] iM)) dp=some (.dK iM):=aE;have eD:Ext H2 (upd (upd H2 dp (.dK [])) dp (.dK (fR [] iM))):=bK (aX hdp) hdp;generalize upd (upd H2 dp (.dK [])) dp (.dK (fR [] iM))=H3 at hD eD ⊢;have e3:=e2.trans eD;have hrs3:=hrs2.ext eD;have hrl3:=eD _ _ hrl2;have h13:=e3 _ _ h1;clear hrl2 hrs2 e2 eD hdp hrl hrs e1 hb al hbl h2 hv h1;walk_at"";refine λf hfn=>?_;walk_at"";refine aJ λt0 H4 e4 ht0 _=>?_;walk_at"";refine⟨t0,aT ((i:Int),1),rfl,ht0,e4 _ _ aE,?_⟩;have hf5:upd H4 f (.dT [(aT ((i:Int),1),.bl true)]) f=some (.dT [(aT ((i:Int),1),.bl true)]):=aE;have e5:Ext H3 (upd H4 f (.dT [(aT ((i:Int),1),.bl true)])):=bK ((aX hfn).trans e4) hfn;generalize upd H4 f (.dT [(aT ((i:Int),1),.bl true)])=H5 at hf5 e5 ⊢;clear ht0 e4;walk_at"";refine aJ λt1 H6 e6 ht1 _=>?_;walk_at"";refine aJ λwl H7 e7 hwl hwn=>?_;have hwl3:H3 wl=none:=(e5.trans e6).none hwn;have e37:=e5.trans (e6.trans e7);have ds0:DsAt H7 f wl [((i:Int),1)] [((i:Int),1)]:=⟨⟨_,e7 _ _ (e6 _ _ hf5),.cons rfl .nil⟩,[t1],hwl,.cons (e7 _ _ ht1) .nil⟩;have hx0:bC m (1+m*m) ((i:Int),1):=⟨by show(0:Int)<=(i:Int);omega,by show(i:Int)<m;omega,by show(0:Int)<=1;decide,by show(1:Int)<=1+m*m;omega⟩;have dq0:Ds ws m ((i:Int),1) [((i:Int),1)] [((i:Int),1)]:=⟨by simp,λy h=>h,λy h=>⟨0,by rw[EW.mp h];exact .nil⟩,λy h=>by rw[EW.mp h];exact hx0,EW.mpr rfl,E6 _⟩;clear hx0 hwl hwn ht1 e7 e6 e5 hf5;walk_at"";refine fY (λM σ H'=>∃F W k6 k7 k8,σ=[some (.ref hp),some (.int (i:Int)),some (.ref rl),some (.ref dp),some (.ref f),some (.ref wl),k6,k7,k8]/\Ext H3 H'/\DsAt H' f wl F W/\Ds ws m ((i:Int),1) F W/\(∀y∈F,y∉W->∀z,Sc ws m y z->z∈F)/\2*(24013-F.length)+W.length=M)
   (λσ H'=>∃F k6 k7 k8,σ=[some (.ref hp),some (.int (i:Int)),some (.ref rl),some (.ref dp),some (.ref f),some (.ref wl),k6,k7,k8]/\Ext H3 H'/\DsAt H' f wl F []/\Ds ws m ((i:Int),1) F []/\∀y∈F,∀z,Sc ws m y z->z∈F) (2*(24013-1)+1)
   ⟨_,_,_,_,_,rfl,e37,ds0,dq0,λy h1 h2=>absurd h1 h2,rfl⟩ ?_ ?_
  ·clear ds0 dq0 e37 H7;rintro M σ H7 ⟨F,W,k6,k7,k8,rfl,e7,ds,dq,cl,hM⟩;obtain⟨as,hwl,pas⟩:=ds.r;have hal:=Paired.length pas;walk_at"";refine eh (ag.of hwl) ?_;walk_at"";rw[EK,hal];rcases List.eq_nil_or_concat W with rfl|⟨W',y,rfl⟩
   ·refine az ?_;exact⟨F,_,_,_,rfl,e7,ds,dq,λy hy z hz=>cl y hy (by simp) z hz⟩
   ·rw[List.concat_eq_append]at *;rw[FG (show(0:Int)<(((W'++[y]).length:Nat):Int) by rw[E4,List.length_singleton];omega)];refine aD ⟨_,λ_ _ h=>h,?_⟩;obtain⟨as',a,rfl,pas',hay⟩:=qm pas;walk_at"";refine⟨cB (ag.of hwl),?_⟩;refine⟨wl,_,.ref a,rfl,rfl,hwl,by simp,?_⟩;rw[E3,show List.map V.ref [a]=[V.ref a]from rfl,List.dropLast_concat];rw[E3]at hwl;have hyF:y∈F:=dq.sub y (Ft _ (EW.mpr rfl));have hyb:=dq.box y hyF;obtain⟨kvs0,hf0,pk0⟩:=ds.d;have nef:f≠wl:=bO hf0 hwl (by intro z;cases z);have nt:∀xs,(HO.lst (List.map V.ref as'++List.map V.ref [a]))≠.tup xs:=λxs z=>by cases z
    have ds8:DsAt (upd H7 wl (.lst (List.map V.ref as'))) f wl F W':=⟨⟨kvs0,by rw[ay nef];exact hf0,pk0⟩,as',aE,Paired.mapP pas' λ_ _ z=>aA.put hwl nt z⟩;have e8:Ext H3 (upd H7 wl (.lst (List.map V.ref as'))):=bK e7 hwl3;have ha8:aA (upd H7 wl (.lst (List.map V.ref as'))) a y:=aA.put hwl nt hay;generalize upd H7 wl (.lst (List.map V.ref as'))=H8 at ds8 e8 ha8 ⊢;have dq8:Ds ws m ((i:Int),1) F W':=⟨dq.nd,λz hz=>dq.sub z (Fu _ hz),dq.ok,dq.box,dq.st,by have:=dq.few;rw[E4]at this;omega⟩;have hyn:y.1.toNat<rs.length:=by have:=hrs3.1;have:=hyb.1;have:=hyb.2.1;omega
    obtain⟨cs,hcs,alc⟩:=hrs3.2 y.1.toNat _ (EL hyn);have hra:(List.map V.ref rs)[y.1.toNat]?=some (.ref rs[y.1.toNat]):=by rw[EM,EL hyn];rfl
    rw[EZ hyb.1]at alc;generalize rs[y.1.toNat]=ra at hcs hra;have hra':bz (List.map V.ref rs) y.1=some (.ref ra):=dP hyb.1 hra;walk_at"";refine aB (ai.of ha8) (v:=.int y.1) rfl ?_;walk_at"";refine aF (ag.of (e8 _ _ hrl3)) hra' ?_;walk_at"";refine cH (ag.of (e8 _ _ hcs)) ?_;have hcl:=alc.1;refine forL (xs:=List.map V.ref cs) (λj σ H'=>∃F2 W2 k7 k8,σ=[some (.ref hp),some (.int (i:Int)),some (.ref rl),some (.ref dp),some (.ref f),some (.ref wl),some (.ref a),k7,k8]/\Ext H3 H'/\aA H' a y/\DsAt H' f wl F2 W2/\Ds ws m ((i:Int),1) F2 W2/\y∈F2/\F.length<=F2.length/\F2.length+W'.length=F.length+W2.length/\(∀z∈F2,z∉W2->z=y\/∀u,Sc ws m z u->u∈F2)/\∀w∈(ws.filter (cJ y.1)).take j,∀u,jQ m y u w->u∈F2)
     ⟨F,W',_,_,rfl,e8,ha8,ds8,dq8,hyF,E6 _,rfl,λz hz hn=>(Classical.em (z=y)).imp_right λhne u hu=>cl z hz (λh=>(E9.mp h).elim hn λh=>hne (EW.mp h)) u hu,λw hw=>by simp at hw⟩ (λj σ H' _ h=>by obtain⟨_,_,_,_,_,e,_⟩:=h;exact ag.of (e _ _ hcs)) ?_ ?_
    ·clear ds8 e8 ha8 dq8 hf0 pk0 hay pas' nt hra hra' cl dq ds hwl pas;rintro j u σ H9 hu ⟨F2,W2,k7,k8,rfl,e9,ha9,ds9,dq9,hy2,hF2,hFW,cl9,hj9⟩;rw[EM]at hu;obtain⟨b,hbj,rfl⟩:=EX.mp hu;have hjl:j<(ws.filter (cJ y.1)).length:=by rw[←hcl];exact(EU.mp hbj).1
     have hwj:(ws.filter (cJ y.1))[j]?=some (ws.filter (cJ y.1))[j]:=EL hjl;generalize (ws.filter (cJ y.1))[j]=w at hwj;have hbw:H9 b=some (.tup w.vs):=e9 _ _ (alc.2 j b w hbj hwj);obtain⟨hwm,hwon⟩:=List.mem_filter.mp (EV hwj);have okw:=ok.ok w hwm;unfold cJ at hwon;rw[Fo,decide_eq_true_iff,Bool.not_eq_true',decide_eq_false_iff_not]at hwon;have hwd:=hwon.2;have hfl:=bC.few m12 (by omega) dq9.nd dq9.box;have hfw:=dq9.few;have hnext:∀F3:List Bfs.Pl,(∀z∈F2,z∈F3)->(∀u,jQ m y u w->u∈F3)->∀w'∈(ws.filter (cJ y.1)).take (j+1),∀u,jQ m y u w'->u∈F3:=λF3 hsub hu w' hw' u hc=>by
      rw[List.take_succ,hwj]at hw';rcases E9.mp hw' with z|z
      ·exact hsub u (hj9 w' z u hc)
      ·have:w'=w:=by simpa using z
       subst this;exact hu u hc
     walk_at"";refine aB (ai.of hbw) (v:=.int w.other) rfl ?_;walk_at"";refine aB (ai.of ha9) (v:=.int y.2) rfl ?_;walk_at"";refine aB (ai.of hbw) (v:=.str w.deed) rfl ?_;refine⟨dp,_,rfl,by rw[←yE okw.dd hwd];exact bY.k (k:=.inr w.deed) (e9 _ _ hD),?_⟩;walk_at"";refine aJ λth H10 e10 hth _=>?_;have hth':aA H10 th (w.other,y.2+rz w.deed):=hth;have ds10:=ds9.ext e10;have e310:=e9.trans e10;have keep:(∀u,jQ m y u w->u∈F2)->∃F3 W3 c7 c8,[some (V.ref hp),some (.int (i:Int)),some (.ref rl),some (.ref dp),some (.ref f),some (.ref wl),some (.ref a),some (.ref b),some (.ref th)]=[some (.ref hp),some (.int (i:Int)),some (.ref rl),some (.ref dp),some (.ref f),some (.ref wl),some (.ref a),c7,c8]/\Ext H3 H10/\aA H10 a y/\DsAt H10 f wl F3 W3/\Ds ws m ((i:Int),1) F3 W3/\y∈F3/\F.length<=F3.length/\F3.length+W'.length=F.length+W3.length/\(∀z∈F3,z∉W3->z=y\/∀u,Sc ws m z u->u∈F3)/\∀w∈(ws.filter (cJ y.1)).take (j+1),∀u,jQ m y u w->u∈F3:=λhu=>⟨F2,W2,_,_,rfl,e310,e10 _ _ ha9,ds10,dq9,hy2,hF2,hFW,cl9,hnext F2 (λz hz=>hz) hu⟩;walk_at"";refine bT ?_;walk_at"";refine aB (ai.of hth) (v:=.int (y.2+rz w.deed)) rfl ?_;walk_at"";by_cases h1:1<=y.2+rz w.deed
     ·rw[FG h1];refine aD ?_;walk_at"";refine aB (ai.of (e310 _ _ h13)) (v:=.int m) rfl ?_;walk_at"";refine aB (ai.of (e310 _ _ h13)) (v:=.int m) rfl ?_;walk_at""
      try refine rd_I (.inl ⟨by omega,by omega⟩) ?_
      walk_at"";by_cases h2:y.2+rz w.deed<=1+m*m
      ·rw[FG h2];refine aD ?_;walk_at"";obtain⟨kvs,hd10,pk10⟩:=ds10.d;refine⟨f,_,rfl,bY.t hd10 (k:=aT (w.other,y.2+rz w.deed)) hth',?_⟩;rw[sW pk10 dq9.nd];by_cases hin:(w.other,y.2+rz w.deed)∈F2
       ·rw[FG hin];refine rd_exb (az ?_);walk_at"";exact keep λu hu=>by rw[hu.1];exact hin
       ·rw[FF hin];refine rd_exb (aD ?_);walk_at"";obtain⟨kvs',as9,hd11,hkl,hl11,hal11,ds11⟩:=ds10.push hin hth';refine⟨f,_,rfl,fF.t hd11 (k:=aT (w.other,y.2+rz w.deed)) hth' (dO (by omega)),?_⟩;walk_at"";refine⟨cB (ag.of hl11),?_⟩;walk_at"";refine bJ hl11 (dO (by rw[EK];omega)) ?_;have hrun:∃n,Bfs.Rw (Sc ws m) n ((i:Int),1) (w.other,y.2+rz w.deed):=by obtain⟨n,hn⟩:=dq9.ok y hy2;exact⟨n+1,.snoc hn ⟨⟨h1,w,hwm,hwon.1,hwd,rfl⟩,h2⟩⟩
        have dq11:=dq9.add hin hrun ⟨okw.o0,okw.o1,by show 0<=y.2+rz w.deed;omega,h2⟩;refine⟨_,_,_,_,rfl,bK (bK e310 hfn) hwl3,?_,ds11,dq11,Fu _ hy2,by rw[E4];omega,by rw[E4,E4,List.length_singleton];omega,λz hz hn=>?_,hnext _ (λz hz=>Fu _ hz) λu hu=>by rw[hu.1];exact Ft _ (EW.mpr rfl)⟩
        ·exact aA.put hl11 (λxs z=>by cases z) (aA.put hd11 (λxs z=>by cases z) (e10 _ _ ha9))
        ·rcases E9.mp hz with z1|z1
         ·rcases cl9 z z1 (λh=>hn (Fu _ h))with h|h
          ·exact .inl h
          ·exact .inr λu hu=>Fu _ (h u hu)
         ·exact absurd (Ft _ z1) hn
      ·rw[FF h2];refine az (az ?_);walk_at"";exact keep λu hu=>absurd hu.2.2 (by rw[hu.1];exact h2)
     ·rw[FF h1];refine az ?_;refine rd_exb (az (az ?_));walk_at"";exact keep λu hu=>absurd hu.2.1 (by rw[hu.1];exact h1)
    ·rintro σ H9 ⟨F2,W2,c7,c8,rfl,e9,ha9,ds9,dq9,hy2,hF2,hFW,cl9,hj9⟩;rw[EK,hcl,Ff]at hj9;have hfl:=bC.few m12 (by omega) dq9.nd dq9.box;refine⟨_,?_,F2,W2,_,_,_,rfl,e9,ds9,dq9,λz hz hn u hu=>?_,rfl⟩
     ·rw[←hM,E4,List.length_singleton];omega
     ·rcases cl9 z hz hn with rfl|h
      ·obtain⟨⟨h1,w,hw,hr0,hz0,rfl⟩,h2⟩:=hu;exact hj9 w (List.mem_filter.mpr ⟨hw,by unfold cJ;rw[FG hr0,FF hz0];rfl⟩) _ ⟨rfl,h1,h2⟩
      ·exact h u hu
  rintro σ H8 ⟨F,k6,k7,k8,rfl,e8,ds,dq,cl⟩;obtain⟨kvs,hd,pk⟩:=ds.d;obtain⟨G,hG⟩:∃G:Nat->Bool,∀j:Nat,(G j=true↔((j:Int),(1:Int))∈F):=⟨λj=>decide (((j:Int),(1:Int))∈F),λj=>decide_eq_true_iff⟩;walk_at"";refine aB (ai.of (e8 _ _ h13)) (v:=.int m) rfl ?_;walk_at"";refine bS (by omega) ?_;refine dA (λj ys H'=>Ext H8 H'/\ys=(row G 0 j).map V.int) (br (by omega)) ⟨Ext.rfl' _,rfl⟩ (λj ys H' _ h=>by rw[h.2,EK];exact gQ _ _ _) ?_ ?_
  ·rintro j ys H9 hj ⟨e9,rfl⟩;rw[show (0:Int)+(j:Int)=((j:Nat):Int) by omega];walk_at"";refine aJ λpr H10 e10 hpr _=>?_;have hpr':aA H10 pr ((j:Int),1):=hpr;walk_at"";refine⟨f,_,rfl,bY.t ((e9.trans e10) _ _ hd) (k:=aT ((j:Int),1)) hpr',_,rfl,?_⟩;rw[sW pk dq.nd];cases hGj:G j with
   | true=>
    rw[FG ((hG j).mp hGj)];refine aD ?_;walk_at"";refine⟨e9.trans e10,?_⟩;have:=i9 (f:=G) (lo:=0) (i:=j) rfl (by rw[Nat.zero_add];exact hGj);rw[Nat.zero_add]at this;exact this
   | false=>
    rw[FF (λz=>by rw[(hG j).mpr z]at hGj;cases hGj)];refine az ?_;exact⟨e9.trans e10,iS (f:=G) (lo:=0) (i:=j) rfl (by rw[Nat.zero_add];exact hGj)⟩
  ·rintro ys H9 p9 ⟨e9,rfl⟩ hp9;refine q p9 G _ (e3.trans (e8.trans (e9.trans (aX hp9)))) aE λj hj=>?_;rw[hG,dq.all cl,yI ok.ok hi]
def tP(G:Nat->Bool)(n:Nat):(row G 0 n).Pairwise (· < ·):=by unfold row;rw[List.pairwise_map];exact(List.pairwise_lt_range.filter _).imp λh=>by omega
def uq{α:Type}{p q r:α->Bool}(h1:∀a,p a=true->r a=true)(h2:∀a,q a=true->r a=true)(hd:∀a,p a=true->q a=false):∀l:List α,l.countP p+l.countP q<=l.countP r
 | []=>E6 _
 | a::l=>by
  have ih:=uq h1 h2 hd l;rw[List.countP_cons,List.countP_cons,List.countP_cons];cases hp:p a with
  | true=>rw[hd a hp,h1 a hp];simp;omega
  | false=>
   cases hq:q a with
   | true=>rw[h2 a hq];simp;omega
   | false=>simp;split<;>omega
def cS(r:Int)(w:Way):Bool:=decide (w.deed = "up") && decide (w.room=r)
def dQ(H:Hp)(rs:List Addr)(ws:List Way)(m:Int)(n:Nat):Prop:=rs.length=n/\∀(r:Nat) (a:Addr),rs[r]?=some a->∃zs:List Int,H a=some (.lst (zs.map V.int))/\(∀z,z∈zs↔∃j:Nat,z=(j:Int)/\bf ws m.toNat r j)/\zs.length<=12*ws.countP (cS (r:Int))
def dQ.et{H H':Hp}(e:Et H H'){rs:List Addr}{ws:List Way}{m:Int}{n:Nat}(h:dQ H rs ws m n):dQ H' rs ws m n:=⟨h.1,λr a ha=>by obtain⟨zs,h1,h2⟩:=h.2 r a ha;exact⟨zs,e _ _ h1 (λps z=>by cases z),h2⟩⟩
def vZ(K:EG):Sp:=λvs H Q _=>∃(vh:V) (m:Int) (ws:List Way),vs=[vh]/\bw H vh m ws/\HOuse m ws/\∀l rs H',Ext H H'->H' l=some (.lst (List.map V.ref rs))->dQ H' rs ws m m.toNat->Q (.ref l) H'
abbrev lZ:Stmt:=stq 61
def uk:FnScope ["_law_house_here","_law_along_here","_law_table","_law_room","_law_far","_law_way"] ["_law_house_here"] (aM lZ):=⟨rfl,rfl,rfl,by decide +kernel,rfl,by decide +kernel,by decide +kernel⟩
def Cn{P:Program}{w:World}{K:EG}{mg:Str->Option Value}{base:Heap}(D:Dfn K mg "_law_over" lZ ["_law_house_here"])(T:Blt mg)(C__law_along:Cal P w K mg base "_law_along" 1 ["_law_house_here","_law_room"] (wH K)):Cal P w K mg base "_law_over" 2 ["_law_house_here"] (vZ K):=by
 have nd:=(uk).nd;refine D.ok uk (λvs H Q E h=>?_) (λX hX H vs Q E h=>?_)
 ·obtain⟨vh,m,ws,rfl,_⟩:=h;rfl
 ·obtain⟨f,cdv,A,outer,s,H0,E0,rfl,hr⟩:=hX;obtain⟨vh,m,ws,rfl,hv,ok,q⟩:=h;have m1:=ok.m1;have m12:=ok.m12;have hfew:=ok.few;obtain⟨hp,hq,rfl,h1,h2⟩:=id hv;obtain⟨bs,hb,al⟩:=h2.al;have hbl:=al.1;refine⟨_,(@aj _ _ _ _ _ (gC (i:=1) ["_law_room"] [0] nd rfl (Or.inl rfl) (bR rfl T.range_ (@aa _ _ _ _ _ (@ah _ _ _ _ _ _ _ (aC K) (pv 0) af (λ_ _=>rfl)) ae rfl)) (λ_=>(aK (i:=0) (show(["_law_room","_law_house_here"]:List Str).Nodup from by decide +kernel) rfl (Or.inl rfl) (Or.inr rfl))) (λ_=>dD) (λ_=>(aH C__law_along hr (@aa _ _ _ _ _ (pv 1) (@aa _ _ _ _ _ (pv 0) ae rfl) rfl))))
    (@aj _ _ _ _ _ (@aG _ _ 2 _ _ _ _ nd rfl (Or.inl rfl) (@bq _ _ _ _ ae) rfl (Or.inl rfl))
    (@aj _ _ _ _ _ (bH PassesOwn.never rfl (bR rfl T.range_ (@aa _ _ _ _ _ (@ah _ _ _ _ _ _ _ (aC K) (pv 0) af (λ_ _=>rfl)) ae rfl)) (aK (i:=3) nd rfl (Or.inl rfl)) (@aj _ _ _ _ _ (@aG _ _ 4 _ _ _ _ nd rfl (Or.inl rfl) (@bq _ _ _ _ ae) rfl (Or.inl rfl))
    (@aj _ _ _ _ _ (bH PassesOwn.never rfl (f9 K (@ah _ _ _ _ _ _ _ (aC K) (pv 0) af (λ_ _=>rfl))) (aK (i:=5) nd rfl (Or.inl rfl)) (@ao _ _ _ (cq (PW.pt (fV (aS bG (@ah _ _ _ _ _ _ _ (aC K) (pv 5) af (λ_ _=>rfl)) aR (aQ _)) (fL (aS bG (@ah _ _ _ _ _ _ _ (aC K) (pv 5) af (λ_ _=>rfl)) (pv 3) (aQ _))))) (@ao _ _ _ (@aG _ _ 4 _ _ _ _ nd rfl (Or.inl rfl) (aq jL (pv 4) (@ah _ _ _ _ _ _ _ (aI K) (pv 1) (@ah _ _ _ _ _ _ _ (aC K) (pv 5) af (λ_ _=>rfl)) (λ_ _=>rfl))) rfl (Or.inl rfl))) aY)))
    (@ao _ _ _ (bt (bE K ET E7 E8 bL (pv 2) (@aa _ _ _ _ _ (pv 4) ae rfl)))))))
    (@ao _ _ _ (@aL _ _ _ _ (pv 2)))))),?_⟩
  walk_at"";refine aB (ai.of h1) (v:=.int m) rfl ?_;walk_at"";refine bS (by omega) ?_;refine dA (λr ys H'=>Ext H H'/\∃as:List Addr,ys=List.map V.ref as/\as.length=r/\∀(k:Nat) (a:Addr),as[k]?=some a->∃G:Nat->Bool,H' a=some (.lst ((row G 0 m.toNat).map V.int))/\∀j,j<m.toNat->(G j=true↔Kpt ws m.toNat k j)) (br (by omega)) ⟨Ext.rfl' _,[],rfl,rfl,λk a h=>by simp at h⟩ (λr ys H' _ h=>by obtain⟨_,as,rfl,hr,_⟩:=h;rw[EK,hr];exact E6 _) ?_ ?_
  ·rintro r ys H1 hr' ⟨e1,as,rfl,hal,has⟩;rw[show (0:Int)+(r:Int)=((r:Nat):Int) by omega];walk_at"";refine aD ?_;walk_at"";refine⟨.ref hp,m,ws,r,rfl,hv.ext e1,ok,hr',λl G H2 e2 hl hG=>?_⟩;refine⟨e1.trans e2,as++[l],by rw[E3];rfl,by rw[E4,hal];rfl,λk a ha=>?_⟩;rcases Fx k as.length with hk|hk
   ·rw[Fc hk]at ha;obtain⟨G',h3,h4⟩:=has k a ha;exact⟨G',e2 _ _ h3,h4⟩
   ·rw[Fb hk]at ha;have hz:k-as.length=0:=by have:=(EU.mp ha).1;simp at this;omega
    rw[hz]at ha;cases ha;have:k=r:=by omega
    subst this;exact⟨G,hl,hG⟩
  rintro ys H1 la ⟨e1,as,rfl,hal,has⟩ hla;have e2:=e1.trans (aX (o:=.lst (List.map V.ref as)) hla);have has2:∀(k:Nat) (a:Addr),as[k]?=some a->∃G:Nat->Bool,(upd H1 la (.lst (List.map V.ref as))) a=some (.lst ((row G 0 m.toNat).map V.int))/\∀j,j<m.toNat->(G j=true↔Kpt ws m.toNat k j):=λk a ha=>by obtain⟨G,h3,h4⟩:=has k a ha;exact⟨G,aX hla _ _ h3,h4⟩
  have hla2:(upd H1 la (.lst (List.map V.ref as))) la=_:=aE;generalize upd H1 la (.lst (List.map V.ref as))=H2 at e2 has2 hla2 ⊢;walk_at"";refine aJ λtl H3 e3 htl htn=>?_;have h12:=e2 _ _ h1;have hb2:=e2 _ _ hb;have al2:=al.ext e2;clear has hla e1 hv h2;walk_at"";refine aB (ai.of (e3 _ _ h12)) (v:=.int m) rfl ?_;walk_at"";refine bS (by omega) ?_;refine forR (λr σ H'=>∃rs k3 k4 k5,σ=[some (.ref hp),some (.ref la),some (.ref tl),k3,k4,k5]/\Ext H2 H'/\H' tl=some (.lst (List.map V.ref rs))/\dQ H' rs ws m r/\∀a∈rs,a≠tl) ⟨[],_,_,_,rfl,e3,htl,⟨rfl,λr a h=>by simp at h⟩,λa h=>by simp at h⟩ ?_ ?_
  ·clear htl e3 H3;rintro r σ H3 hr' ⟨rs,k3,k4,k5,rfl,e3,htl,hov,hne⟩;rw[show (0:Int)+(r:Int)=((r:Nat):Int) by omega];walk_at"";refine aJ λfa H4 e4 hfa hfn=>?_;walk_at"";refine aB (ai.of ((e3.trans e4) _ _ h12)) (v:=.ref hq) rfl ?_;walk_at"";refine gh (ai.of ((e3.trans e4) _ _ hb2)) ?_;refine nA (xs:=List.map V.ref bs) (λj σ H'=>∃(fa:Addr) (zs:List Int) (k5:Option V),σ=[some (.ref hp),some (.ref la),some (.ref tl),some (.int (r:Int)),some (.ref fa),k5]/\Ext H3 H'/\H' fa=some (.lst (zs.map V.int))/\fa≠tl/\(∀z:Int,z∈zs↔∃k:Nat,z=(k:Int)/\∃u∈ws.take j,u.deed = "up"/\u.room.toNat=r/\Kpt ws m.toNat u.other.toNat k)/\zs.length<=12*(ws.take j).countP (cS (r:Int))) ⟨fa,[],_,rfl,e4,hfa,(λz=>by rw[z,htl]at hfn;cases hfn),λz=>by simp,Nat.zero_le _⟩ (λj σ H' _ h=>by obtain⟨_,_,_,_,e,_⟩:=h;exact ai.of (e _ _ (e3 _ _ hb2))) ?_ ?_
   ·clear hfa hfn e4 fa H4;rintro j u σ H4 hu ⟨fa,zs,k5,rfl,e4,hfa,hft,hzs,hzl⟩;rw[EM]at hu;obtain⟨b,hbj,rfl⟩:=EX.mp hu;have hjl:j<ws.length:=by rw[←hbl];exact(EU.mp hbj).1
    have hwj:ws[j]?=some ws[j]:=EL hjl;generalize ws[j]=w at hwj;have hbw:=e4 _ _ (e3 _ _ (al2.2 j b w hbj hwj));have okw:=ok.ok w (EV hwj);have o0:=okw.o0;have o1:=okw.o1;have r0:=okw.r0;have hcnt:(ws.take (j+1)).countP (cS (r:Int))=(ws.take j).countP (cS (r:Int))+(if cS (r:Int) w then 1 else 0):=by rw[List.take_succ,hwj,List.countP_append];congr 1;show List.countP _ [w]=_;rw[List.countP_cons,List.countP_nil,Nat.zero_add]
    have hmem:∀P:Way->Prop,(∃u∈ws.take (j+1),P u)↔(∃u∈ws.take j,P u)\/P w:=λP=>by
     rw[List.take_succ,hwj];constructor
     ·rintro⟨u,hu,hp⟩;rcases E9.mp hu with z|z
      ·exact .inl ⟨u,z,hp⟩
      ·have:u=w:=by simpa using z
       subst this;exact .inr hp
     ·rintro(⟨u,hu,hp⟩|hp)
      ·exact⟨u,Fu _ hu,hp⟩
      ·exact⟨w,Ft _ (by simp),hp⟩
    have skip:cS (r:Int) w=false->∃(fa':Addr) (zs':List Int) (c5:Option V),[some (V.ref hp),some (.ref la),some (.ref tl),some (.int (r:Int)),some (.ref fa),some (.ref b)]=[some (.ref hp),some (.ref la),some (.ref tl),some (.int (r:Int)),some (.ref fa'),c5]/\Ext H3 H4/\H4 fa'=some (.lst (zs'.map V.int))/\fa'≠tl/\(∀z:Int,z∈zs'↔∃k:Nat,z=(k:Int)/\∃u∈ws.take (j+1),u.deed = "up"/\u.room.toNat=r/\Kpt ws m.toNat u.other.toNat k)/\zs'.length<=12*(ws.take (j+1)).countP (cS (r:Int)):=λhz=>by refine⟨fa,zs,_,rfl,e4,hfa,hft,λz=>?_,by rw[hcnt,hz];exact hzl⟩;rw[hzs z];refine exists_congr λk=>and_congr_right λ_=>?_;rw[hmem];refine⟨.inl,λh=>h.elim id λ⟨h1,h2,_⟩=>?_⟩;unfold cS at hz;rw[FG h1,FG (show w.room=(r:Int) by omega)]at hz;cases hz
    walk_at"";refine bT ?_;walk_at"";refine aB (ai.of hbw) (v:=.str w.deed) rfl ?_;walk_at"";refine cz ?_;by_cases hup:w.deed = "up"
    ·rw[FG hup];refine rd_exb (aD ?_);walk_at"";refine aB (ai.of hbw) (v:=.int w.room) rfl ?_;walk_at"";by_cases hro:w.room=(r:Int)
     ·rw[FG hro];refine aD ?_;walk_at"";refine aB (ai.of hbw) (v:=.int w.other) rfl ?_;walk_at"";have hol:w.other.toNat<as.length:=by omega
      obtain⟨G,hG1,hG2⟩:=has2 w.other.toNat _ (EL hol);have hat:bz (List.map V.ref as) w.other=some (.ref as[w.other.toNat]):=dP o0 (by rw[EM,EL hol];rfl);generalize as[w.other.toNat]=aw at hG1 hat;refine aF (ag.of (e4 _ _ (e3 _ _ hla2))) hat ?_;walk_at"";have hrow:=gQ G 0 m.toNat;have hcl:(ws.take j).countP (cS (r:Int))<=100:=Fi List.countP_le_length (by rw[FA];omega);refine jj hfa (e4 _ _ (e3 _ _ hG1)) (br (by rw[EK,EK];omega)) (bW λfb H5 e5 hfb hfbn=>?_);rw[←E3]at hfb;walk_at"";have hupw:cS (r:Int) w=true:=by unfold cS;rw[FG hup,FG hro];rfl
      refine⟨fb,_,_,rfl,e4.trans e5,hfb,(λz=>by rw[z,e4 _ _ htl]at hfbn;cases hfbn),λz=>?_,by rw[hcnt,hupw,FI rfl,E4];omega⟩;rw[E9,hzs z,fo];constructor
      ·rintro(⟨k,rfl,h⟩|⟨h1,h2,h3⟩)
       ·exact⟨k,rfl,(hmem _).mpr (.inl h)⟩
       ·exact⟨z.toNat,by omega,(hmem _).mpr (.inr ⟨hup,by omega,(hG2 z.toNat (by omega)).mp h3⟩)⟩
      ·rintro⟨k,rfl,h⟩;rcases(hmem _).mp h with h|⟨_,_,h⟩
       ·exact .inl ⟨k,rfl,h⟩
       ·have hk:=(Kpt.lt ok.ok h).2;exact .inr ⟨by omega,by omega,(hG2 k hk).mpr h⟩
     ·rw[FF hro];refine az ?_;walk_at"";exact skip (by unfold cS;rw[FF hro,Bool.and_false])
    ·rw[FF hup];refine rd_exb (az (az ?_));walk_at"";exact skip (by unfold cS;rw[FF hup,Bool.false_and])
   ·rintro σ H4 ⟨fa,zs,k5,rfl,e4,hfa,hft,hzs,hzl⟩;rw[EK,hbl,Ff]at hzs hzl;walk_at"";refine⟨cB (ag.of (e4 _ _ htl)),?_⟩;walk_at"";have hrl:=hov.1;refine bJ (e4 _ _ htl) (dO (by rw[EK];omega)) ?_;refine⟨rs++[fa],_,_,_,rfl,bK (e3.trans e4) htn,by rw[aE,E3];rfl,⟨by rw[E4,hrl];rfl,λk a ha=>?_⟩,λa ha=>?_⟩
    ·rcases Fx k rs.length with hk|hk
     ·rw[Fc hk]at ha;obtain⟨zs',h3,h4⟩:=hov.2 k a ha;exact⟨zs',by rw[ay (hne a (EV ha))];exact e4 _ _ h3,h4⟩
     ·rw[Fb hk]at ha;have hz:k-rs.length=0:=by have:=(EU.mp ha).1;simp at this;omega
      rw[hz]at ha;cases ha;have:k=r:=by omega
      subst this;exact⟨zs,by rw[ay hft];exact hfa,hzs,hzl⟩
    ·rcases E9.mp ha with z|z
     ·exact hne a z
     ·rw[EW.mp z];exact hft
  rintro σ H3 ⟨rs,k3,k4,k5,rfl,e3,htl,hov,_⟩;walk_at"";exact q tl rs H3 (e2.trans e3) htl hov
def gH(l:List Int)(w:Way):Bool:=decide (w.deed = "up") && decide (w.room∈l)
def qE(K:EG):Sp:=λvs H Q _=>∃(lr lt:Addr) (rs:List Addr) (ws:List Way) (m:Int) (G:Nat->Bool),vs=[.ref lr,.ref lt]/\H lr=some (.tup ((row G 0 m.toNat).map V.int))/\H lt=some (.lst (List.map V.ref rs))/\dQ H rs ws m m.toNat/\HOuse m ws/\∀t (G':Nat->Bool) H',Ext H H'->H' t=some (.tup ((row G' 0 m.toNat).map V.int))->(∀j,j<m.toNat->(G' j=true↔∃r,r<m.toNat/\G r=true/\bf ws m.toNat r j))->Q (.ref t) H'
abbrev pT:Stmt:=stq 62
def vH:FnScope ["_law_rooms","_law_table","_law_far","_law_room"] ["_law_rooms","_law_table"] (aM pT):=⟨rfl,rfl,rfl,by decide +kernel,rfl,by decide +kernel,by decide +kernel⟩
def yU{P:Program}{w:World}{K:EG}{mg:Str->Option Value}{base:Heap}(D:Dfn K mg "_law_raised" pT ["_law_rooms","_law_table"])(T:Blt mg):Cal P w K mg base "_law_raised" 1 ["_law_rooms","_law_table"] (qE K):=by
 have nd:=(vH).nd;refine D.ok vH (λvs H Q E h=>?_) (λX hX H vs Q E h=>?_)
 ·obtain⟨lr,lt,rs,ws,m,G,rfl,_⟩:=h;rfl
 ·obtain⟨f,cdv,A,outer,s,H0,E0,rfl,hr⟩:=hX;obtain⟨lr,lt,rs,ws,m,G,rfl,hlr,hlt,hov,ok,q⟩:=h;have m1:=ok.m1;have m12:=ok.m12;have hfew:=ok.few;have hrl:=hov.1;refine⟨_,(@aj _ _ _ _ _ (@aG _ _ 2 _ _ _ _ nd rfl (Or.inl rfl) (@bq _ _ _ _ ae) rfl (Or.inl rfl))
    (@aj _ _ _ _ _ (bH PassesOwn.never rfl (f9 K (pv 0)) (aK (i:=3) nd rfl (Or.inl rfl)) (@ao _ _ _ (@aG _ _ 2 _ _ _ _ nd rfl (Or.inl rfl) (aq jL (pv 2) (@ah _ _ _ _ _ _ _ (aI K) (pv 1) (pv 3) (λ_ _=>rfl))) rfl (Or.inl rfl))))
    (@ao _ _ _ (@aL _ _ _ _ (eQ (gX K) rfl T.tuple_ PyProof.Rows.boot_tuple (@aa _ _ _ _ _ (bh (Ti.call_sortJ hr) rfl T.sorted_ PyProof.Rows.boot_sorted (@aa _ _ _ _ _ (eQ (Ti.call_setJ hr) rfl T.set_ PyProof.Rows.boot_set (@aa _ _ _ _ _ (pv 2) ae rfl)) ae rfl)) ae rfl)))))),?_⟩
  walk_at"";refine aJ λfa H1 e1 hfa _=>?_;walk_at"";refine gh (ai.of (e1 _ _ hlr)) ?_;refine nA (xs:=(row G 0 m.toNat).map V.int) (λj σ H'=>∃(fa:Addr) (zs:List Int) (k3:Option V),σ=[some (.ref lr),some (.ref lt),some (.ref fa),k3]/\Ext H H'/\H' fa=some (.lst (zs.map V.int))/\(∀z:Int,z∈zs↔∃k:Nat,z=(k:Int)/\∃r∈(row G 0 m.toNat).take j,bf ws m.toNat r.toNat k)/\zs.length<=12*ws.countP (gH ((row G 0 m.toNat).take j))) ⟨fa,[],_,rfl,e1,hfa,λz=>by simp,Nat.zero_le _⟩ (λj σ H' _ h=>by obtain⟨_,_,_,_,e,_⟩:=h;exact ai.of (e _ _ hlr)) ?_ ?_
  ·clear hfa e1 H1;rintro j u σ H1 hu ⟨fa,zs,k3,rfl,e1,hfa,hzs,hzl⟩;obtain⟨x,rfl,hx⟩:=jP hu;obtain⟨hx0,hx1,_⟩:=fo.mp (EV hx);have hxl:x.toNat<rs.length:=by omega
   obtain⟨zs2,h3,h4,h5⟩:=hov.2 x.toNat _ (EL hxl);have hat:bz (List.map V.ref rs) x=some (.ref rs[x.toNat]):=dP (by omega) (by rw[EM,EL hxl];rfl);generalize rs[x.toNat]=ax at h3 hat;rw[EZ (by omega)]at h5;have hcl:(ws.countP (gH ((row G 0 m.toNat).take j)))<=100:=Fi List.countP_le_length hfew;have hcl2:ws.countP (cS x)<=100:=Fi List.countP_le_length hfew;have htk:(row G 0 m.toNat).take (j+1)=(row G 0 m.toNat).take j++[x]:=by rw[List.take_succ,hx];rfl
   have hxn:x∉(row G 0 m.toNat).take j:=λz=>by obtain⟨i,hi,e⟩:=List.mem_iff_getElem.mp z;have hs:=tP G m.toNat;obtain⟨g1,e1⟩:=EU.mp hx;rw[FA]at hi;have:=List.pairwise_iff_getElem.mp hs i j (by omega) g1 (by omega);rw[List.getElem_take]at e;omega
   have hsum:=uq (p:=gH ((row G 0 m.toNat).take j)) (q:=cS x) (r:=gH ((row G 0 m.toNat).take (j+1))) (λw hw=>by
     unfold gH at hw ⊢;rw[Fo,decide_eq_true_iff,decide_eq_true_iff]at hw ⊢;exact⟨hw.1,by rw[htk];exact Fu _ hw.2⟩) (λw hw=>by
     unfold cS at hw;unfold gH;rw[Fo,decide_eq_true_iff,decide_eq_true_iff]at hw ⊢;exact⟨hw.1,by rw[htk,hw.2];exact Ft _ (by simp)⟩) (λw hw=>by
     unfold gH at hw;rw[Fo,decide_eq_true_iff,decide_eq_true_iff]at hw;unfold cS;rw[FF (show ¬w.room=x from λz=>hxn (by rw[←z];exact hw.2)),Bool.and_false]) ws
   walk_at"";refine aF (ag.of (e1 _ _ hlt)) hat ?_;walk_at"";refine jj hfa (e1 _ _ h3) (br (by rw[EK,EK];omega)) (bW λfb H2 e2 hfb _=>?_);rw[←E3]at hfb;walk_at"";refine⟨fb,_,_,rfl,e1.trans e2,hfb,λz=>?_,by rw[E4];omega⟩;rw[E9,hzs z,h4 z,htk];constructor
   ·rintro(⟨k,rfl,r,hr,h⟩|⟨k,rfl,h⟩)
    ·exact⟨k,rfl,r,Fu _ hr,h⟩
    ·exact⟨k,rfl,x,Ft _ (by simp),h⟩
   ·rintro⟨k,rfl,r,hr,h⟩;rcases E9.mp hr with z|z
    ·exact .inl ⟨k,rfl,r,z,h⟩
    ·rw[EW.mp z]at h;exact .inr ⟨k,rfl,h⟩
  rintro σ H1 ⟨fa,zs,k3,rfl,e1,hfa,hzs,hzl⟩;rw[EK,Ff]at hzs hzl;have hcl:(ws.countP (gH (row G 0 m.toNat)))<=100:=Fi List.countP_le_length hfew;walk_at"";obtain⟨G',hG⟩:∃G':Nat->Bool,∀j:Nat,(G' j=true↔∃r,r<m.toNat/\G r=true/\bf ws m.toNat r j):=⟨λj=>@decide (∃r,r<m.toNat/\G r=true/\bf ws m.toNat r j) (Classical.propDecidable _),λj=>@decide_eq_true_iff _ (Classical.propDecidable _)⟩;have hR1:(row G' 0 m.toNat).Pairwise (· < ·):=tP G' m.toNat;have hmem:∀z,z∈row G' 0 m.toNat↔z∈zs:=λz=>by
   rw[hzs z,fo];constructor
   ·rintro⟨h1,h2,h3⟩;obtain⟨r,hr,hGr,h⟩:=(hG _).mp h3;exact⟨z.toNat,by omega,(r:Int),fo.mpr ⟨by omega,by omega,hGr⟩,h⟩
   ·rintro⟨k,rfl,r,hr,h⟩;obtain⟨h1,h2,h3⟩:=fo.mp hr;obtain⟨u,hu,_,_,hk⟩:=id h;have:=(Kpt.lt ok.ok hk).2;exact⟨by omega,by omega,(hG _).mpr ⟨r.toNat,by omega,h3,h⟩⟩
  have hrl':=gQ G' 0 m.toNat;refine⟨fa,zs,rfl,hfa,by omega,λsp D hspn hnd hD=>?_⟩;have hDR:D.Perm (row G' 0 m.toNat):=(List.perm_ext_iff_of_nodup hnd (hR1.imp λh e=>by omega)).mpr λz=>(hD z).trans (hmem z).symm;walk_at"";refine⟨sp,D,rfl,aE,by rw[hDR.length_eq];omega,λsl ms hsn hpm hms=>?_⟩;have hmR:ms=row G' 0 m.toNat:=List.Perm.eq_of_pairwise (le:=λa b:Int=>a<=b) (λa b _ _ h1 h2=>Int.le_antisymm h1 h2) hms (hR1.imp λh=>Int.le_of_lt h) (hpm.trans hDR);subst hmR;walk_at"";refine gg (ag.of aE) (bW λt H3 e3 ht _=>?_);exact q t G' H3 (e1.trans ((aX hspn).trans ((aX hsn).trans e3))) ht λj _=>hG j
def sf(K:EG):Sp:=λvs H Q _=>∃(p:Addr) (b n m:Nat) (f:Nat->Bool),vs=[.ref p,.int b,.int n]/\1<=n/\b+n<=m/\m<=20000/\H p=some (.lst (aO m f))/\bA f b n ∧
 ∀v (l d:Nat) H',Ext H H'->Least f d l->l<=b->d<=n->dv H' v l d (row f 0 l) (row f l d)->Q v H'
def DI(n:Nat):ft (n:Int) 0 (-1)=n:=by
 unfold ft;rw[FH (by decide)];split
 ·rw[show (- -1:Int)=1 by decide,Int.ediv_one];omega
 ·omega
abbrev m8:Stmt:=stq 64
def rd:FnScope ["_law_bits","_law_base","_law_step","_law_best","_law_s","_law_alike","_law_once"] ["_law_bits","_law_base","_law_step"] (aM m8):=⟨rfl,rfl,rfl,by decide +kernel,rfl,by decide +kernel,by decide +kernel⟩
def Cz{P:Program}{w:World}{K:EG}{mg:Str->Option Value}{base:Heap}(D:Dfn K mg "_law_least" m8 ["_law_bits","_law_base","_law_step"])(T:Blt mg):Cal P w K mg base "_law_least" 1 ["_law_bits","_law_base","_law_step"] (sf K):=by
 have nd:=(rd).nd;refine D.ok rd (λvs H Q E h=>?_) (λX hX H vs Q E h=>?_)
 ·obtain⟨p,b,n,m,f,rfl,_⟩:=h;rfl
 ·obtain⟨f,cdv,A,outer,s,H0,E0,rfl,hr⟩:=hX;obtain⟨p,b,n,m,g,rfl,hn1,hbn,hm,hp,hper,q⟩:=h;refine⟨_,(aj (aG (i:=3) nd rfl (Or.inl rfl) (pv 2))
    (aj (bH PassesOwn.never rfl (DT rfl T.range_ (aa (pv 2) (aa af (aa (eZ eX af) ae)))) (aK (i:=4) nd rfl (Or.inr rfl)) (ao (cq (aS bG (aq cy (pv 2) (pv 4)) af (aQ _)) (aj (gC (i:=5) ["_law_k"] [0,1,4] nd rfl (Or.inl rfl) (bR rfl T.range_ (aa (pv 2) ae)) (λ_=>(aK (i:=0) (show(["_law_k","_law_bits","_law_base","_law_s"]:List Str).Nodup from by decide +kernel) rfl (Or.inl rfl) (Or.inr rfl))) (λ_=>dD) (λ_=>(eW bG (ah (aI K) (pv 1) (aq aU (pv 2) (pv 0)) (λ_ _=>rfl)) (ah (aI K) (pv 1) (aq aU (pv 2) (aq cy (pv 0) (pv 3))) (λ_ _=>rfl)) (aQ _))))
    (ao (cq (bQ (bh (i4 K rfl) rfl T.all_ PyProof.Rows.boot_all (aa (pv 5) ae))) (ao (aG (i:=3) nd rfl (Or.inl rfl) (pv 4))) aY))) aY)))
    (aj (fD PassesOwn.never (PW.pt (fV (aS fS (pv 1) af (aQ _)) (fL (aS bG (ah (aI K) (pv 0) (aq cG (pv 1) af) (λ_ _=>rfl)) (ah (aI K) (pv 0) (aq aU (aq cG (pv 1) af) (pv 3)) (λ_ _=>rfl)) (aQ _))))) (ao (aG (i:=1) nd rfl (Or.inr rfl) (aq cG (pv 1) af))))
    (aj (aG (i:=6) nd rfl (Or.inl rfl) (eQ (gX K) rfl T.tuple_ PyProof.Rows.boot_tuple (aa (cx ["_law_x"] [0] (bR rfl T.range_ (aa (pv 1) ae)) (λ_=>(aK (i:=0) (show(["_law_x","_law_bits"]:List Str).Nodup from by decide +kernel) rfl (Or.inl rfl) (Or.inr rfl))) (λ_=>(dR (bQ (ah (aI K) (pv 1) (pv 0) (λ_ _=>rfl))))) (λ_=>(pv 0))) ae)))
    (ao (aL (bj (aa (pv 1) (aa (pv 3) (aa (pv 6) (aa (eQ (gX K) rfl T.tuple_ PyProof.Rows.boot_tuple (aa (cx ["_law_x"] [0] (vT rfl T.range_ (aa (pv 1) (aa (aq aU (pv 1) (pv 3)) ae))) (λ_=>(aK (i:=0) (show(["_law_x","_law_bits"]:List Str).Nodup from by decide +kernel) rfl (Or.inl rfl) (Or.inr rfl))) (λ_=>(dR (bQ (ah (aI K) (pv 1) (pv 0) (λ_ _=>rfl))))) (λ_=>(pv 0))) ae)) ae))))))))))),?_⟩
  walk_at"";refine CO (by unfold ir;omega) ?_;rw[DI];refine DQ (λi σ H'=>Ext H H'/\∃(d:Nat) (x y:Option V),σ=[some (.ref p),some (.int b),some (.int n),some (.int d),x,y,none]/\1<=d/\d<=n/\Round g b n d/\∀e,n-i<e->e<d->¬Round g b n e)
   ⟨Ext.rfl' H,n,none,none,rfl,hn1,E6 _,⟨Nat.mod_self n,λk hk=>by rw[Nat.mod_eq_of_lt hk]⟩,λe h1 h2=>by omega⟩ ?_ ?_
  ·rintro i σ H' hi ⟨e,d,x,y,rfl,hd1,hd2,hrd,hfirst⟩;have hp':=e _ _ hp;obtain⟨c,hc⟩:∃c:Nat,c+i=n:=⟨n-i,by omega⟩;have hce:(n:Int)+(i:Int)*(-1)=(c:Int):=by omega
   rw[hce];have hc1:1<=c:=by omega
   have hcn:c<=n:=by omega
   have hmod:((n:Int) % (c:Int)=0)↔n % c=0:=by have:(n:Int) % (c:Int)=((n % c:Nat):Int):=rfl;omega
   have skip:∀H2 (y:Option V),Ext H' H2->¬Round g b n c->(Ext H H2/\∃(d':Nat) (x y':Option V),[some (V.ref p),some (V.int b),some (V.int n),some (V.int d),some (V.int c),y,none]=[some (V.ref p),some (V.int b),some (V.int n),some (V.int d'),x,y',none]/\1<=d'/\d'<=n/\Round g b n d'/\∀e,n-(i+1)<e->e<d'->¬Round g b n e):=by
    intro H2 y' e2 hno;refine⟨e.trans e2,d,_,_,rfl,hd1,hd2,hrd,λe' h1 h2=>?_⟩;rcases Fx c e' with h3|h3
    ·exact hfirst e' (by omega) h2
    ·have:e'=c:=by omega
     rw[this];exact hno
   walk_at"";refine bT ?_;walk_at"";by_cases hz:(n:Int) % (c:Int)=0
   ·rw[FG hz];refine aD ?_;walk_at"";refine bS (by omega) ?_;rw[EY];refine dA (λj ys H2=>H2=H'/\ys=((FE j).map λk=>g (b+k) == g (b+k % c)).map V.bl) (br (by omega)) ⟨rfl,rfl⟩ ?_ ?_ ?_
    ·rintro j ys H2 _ ⟨rfl,rfl⟩;simp
    ·rintro j ys H2 hj ⟨rfl,rfl⟩;have hjc:(j:Int) % (c:Int)=((j % c:Nat):Int):=rfl;have hjl:j % c<c:=Nat.mod_lt _ (by omega);walk_at"";refine aD ?_;walk_at"";refine aF (ag.of hp') (cF (by omega) (by omega)) ?_;walk_at"";rw[Int.zero_add,hjc];refine aF (ag.of hp') (cF (by omega) (by omega)) ?_;walk_at"";refine⟨rfl,?_⟩;rw[List.range_succ,E3,E3,show ((b:Int)+(j:Int)).toNat=b+j by omega,show ((b:Int)+((j % c:Nat):Int)).toNat=b+j % c by omega];rfl
    rintro ys H2 p2 ⟨rfl,rfl⟩ hp2;have e3:Ext H2 (upd H2 p2 (.lst (((FE n).map λk=>g (b+k) == g (b+k % c)).map V.bl))):=aX hp2;have h3:(upd H2 p2 (.lst (((FE n).map λk=>g (b+k) == g (b+k % c)).map V.bl))) p2=_:=aE;generalize upd H2 p2 (.lst (((FE n).map λk=>g (b+k) == g (b+k % c)).map V.bl))=H3 at e3 h3;have hround:((FE n).map λk=>g (b+k) == g (b+k % c)).all id=true↔Round g b n c:=by
     rw[List.all_map,Fl];constructor
     ·intro h;exact⟨hmod.mp hz,λk hk=>by simpa using h k (List.mem_range.mpr hk)⟩
     ·intro h k hk;simpa using h.2 k (List.mem_range.mp hk)
    walk_at"";refine bT ?_;walk_at"";refine⟨p2,_,rfl,ag.of h3,?_⟩;walk_at"";cases hall:((FE n).map λk=>g (b+k) == g (b+k % c)).all id with
    | true=>
     refine aD ?_;walk_at"";refine⟨e.trans e3,c,_,_,rfl,hc1,hcn,hround.mp hall,λe' h1 h2=>by omega⟩
    | false=>
     refine az ?_;walk_at"";exact skip H3 _ e3 λh=>by rw[hround.mpr h]at hall;cases hall
   ·rw[FF hz];refine az ?_;walk_at"";exact skip H' _ (Ext.rfl' H') λh=>hz (hmod.mpr h.1)
  rintro σ H1 ⟨e1,d,x,y,rfl,hd1,hd2,hrd,hfirst⟩;have hal:=hrd.alike hd1;have hfirst':∀e,1<=e->e<d->¬Alike g b n e:=λe h1 h2 h3=>hfirst e (by omega) h2 ((h3.per hper hn1 h1).round h3.1);have hp1:=e1 _ _ hp;walk_at"";refine fY (λm' σ H'=>H'=H1/\∃l:Nat,σ=[some (.ref p),some (.int l),some (.int n),some (.int d),x,y,none]/\l<=b/\m'=l/\∀x,l<=x->x<b->g x=g (x+d))
   (λσ H'=>H'=H1/\∃l:Nat,σ=[some (.ref p),some (.int l),some (.int n),some (.int d),x,y,none]/\l<=b/\(∀x,l<=x->x<b->g x=g (x+d))/\(l=0\/g (l-1)≠g (l-1+d))) b
   ⟨rfl,b,rfl,E6 _,rfl,λx h1 h2=>by omega⟩ ?_ ?_
  ·rintro k σ H' ⟨rfl,l,rfl,hl,rfl,hdown⟩;walk_at"";by_cases h0:(0:Int)<(k:Int)
   ·rw[FG h0];refine aD ?_;walk_at"";refine aF (ag.of hp1) (cF (by omega) (by omega)) ?_;walk_at"";refine aF (ag.of hp1) (cF (by omega) (by omega)) ?_;walk_at"";rw[show ((k:Int)-1).toNat=k-1 by omega,show ((k:Int)-1+(d:Int)).toNat=k-1+d by omega];cases hc:g (k-1) == g (k-1+d)with
    | true=>
     refine aD ⟨_,λ_ _ h=>h,?_⟩;walk_at"";refine⟨k-1,by omega,rfl,k-1,by rw[show ((k-1:Nat):Int)=(k:Int)-1 by omega];rfl,by omega,rfl,λx h1 h2=>?_⟩;rcases Fx x k with h3|h3
     ·have:x=k-1:=by omega
      rw[this];exact eq_of_beq hc
     ·exact hdown x h3 h2
    | false=>exact az ⟨rfl,k,rfl,hl,hdown,.inr λh=>by rw[h]at hc;simp at hc⟩
   ·rw[FF h0];exact az (az ⟨rfl,k,rfl,hl,hdown,.inl (by omega)⟩)
  rintro σ H' ⟨rfl,l,rfl,hl,hdown,hstop⟩;have hleast:Least g d l:=wU hper hn1 hd1 hal hfirst' hl hdown hstop;walk_at"";refine bS (by omega) ?_;rw[EY];refine dA (λi ys H3=>H3=H'/\ys=(row g 0 i).map V.int) (br (by omega)) ⟨rfl,rfl⟩ ?_ ?_ ?_
  ·rintro i ys H3 _ ⟨rfl,rfl⟩;rw[EK];exact gQ g 0 i
  ·rintro i ys H3 hi ⟨rfl,hy⟩;walk_at"";refine aF (ag.of hp1) (cF (by omega) (by omega)) ?_;walk_at"";rw[show ((0:Int)+(i:Int)).toNat=i by omega];have e0:g (0+i)=g i:=by rw[Nat.zero_add]
   cases hg:g i with
   | true=>
    refine aD ?_;walk_at"";refine⟨rfl,?_⟩;rw[←i9 hy (e0.trans hg)];congr 3
    all_goals omega
   | false=>exact az ⟨rfl,iS hy (e0.trans hg)⟩
  rintro ys H3 p3 ⟨rfl,rfl⟩ hp3;have e4:Ext H3 (upd H3 p3 (.lst ((row g 0 l).map V.int))):=aX hp3;have h4:(upd H3 p3 (.lst ((row g 0 l).map V.int))) p3=_:=aE;generalize upd H3 p3 (.lst ((row g 0 l).map V.int))=H4 at e4 h4;walk_at"";refine gg (ag.of h4) (bW λt1 H5 e5 ht1 _=>?_);have hp5:=e5 _ _ (e4 _ _ hp1);walk_at"";refine rZ (by omega) ?_;rw[show ((l:Int)+(d:Int)-(l:Int)).toNat=d by omega];refine dA (λi ys H6=>H6=H5/\ys=(row g l i).map V.int) (br (by omega)) ⟨rfl,rfl⟩ ?_ ?_ ?_
  ·rintro i ys H6 _ ⟨rfl,rfl⟩;rw[EK];exact gQ g _ i
  ·rintro i ys H6 hi ⟨rfl,hy⟩;walk_at"";refine aF (ag.of hp5) (cF (by omega) (by omega)) ?_;walk_at"";rw[show ((l:Int)+(i:Int)).toNat=l+i by omega];cases hg:g (l+i)with
   | true=>
    refine aD ?_;walk_at"";refine⟨rfl,?_⟩;rw[←i9 hy hg];congr 3
    all_goals omega
   | false=>exact az ⟨rfl,iS hy hg⟩
  rintro ys H6 p6 ⟨rfl,rfl⟩ hp6;have e7:Ext H6 (upd H6 p6 (.lst ((row g l d).map V.int))):=aX hp6;have h7:(upd H6 p6 (.lst ((row g l d).map V.int))) p6=_:=aE;generalize upd H6 p6 (.lst ((row g l d).map V.int))=H7 at e7 h7;walk_at"";refine gg (ag.of h7) (bW λt2 H8 e8 ht2 _=>?_);walk_at"";refine aJ λt H9 e9 ht _=>?_;exact q _ l d H9 (e1.trans (e4.trans (e5.trans (e7.trans (e8.trans e9))))) hleast hl hd2 ⟨t,t1,t2,rfl,ht,e9 _ _ (e8 _ _ (e7 _ _ ht1)),e9 _ _ ht2⟩
def Bu{lo hi x:Int}{r:List Int}:g8 lo hi (x::r)↔lo<=x/\x<hi/\g8 (x+1) hi r:=by
 constructor
 ·rintro⟨h1,h2⟩;obtain⟨p1,p2⟩:=List.pairwise_cons.mp h1;have hx:=h2 x ES;exact⟨hx.1,hx.2,p2,λz hz=>⟨by have:=p1 z hz;omega,(h2 z (EN _ hz)).2⟩⟩
 ·rintro⟨h1,h2,h3,h4⟩;refine⟨List.pairwise_cons.mpr ⟨λz hz=>by have:=h4 z hz;omega,h3⟩,λz hz=>?_⟩;rcases E1.mp hz with rfl|hz
  ·exact⟨h1,h2⟩
  ·have:=h4 z hz;exact⟨by omega,this.2⟩
def pL{lo hi:Int}:∀{xs:List Int},g8 lo hi xs->(xs.length:Int)<=max 0 (hi-lo)
 | [],_=>by simp;omega
 | x::r,h=>by obtain⟨h1,h2,h3⟩:=Bu.mp h;have:=pL h3;rw[Fe];omega
def ze(xs:List V):cj xs (some 1) none=xs.drop 1:=by
 unfold cj;rw[HT.pG];have e:HT.aN xs.length 0 (some 1)=min 1 xs.length:=rfl;rw[e];rcases Fx xs.length 1 with h|h
 ·have:xs=[]:=List.eq_nil_of_length_eq_zero (by omega);subst this;rfl
 ·rw[Nat.min_eq_left h];exact List.take_of_length_le (by rw[List.length_drop];exact E6 _)
def qA(K:EG):Sp:=λvs H Q _=>∃(p:Addr) (lo hi:Int) (xs:List Int),vs=[.ref p,.int lo,.int hi]/\H p=some (.tup (xs.map V.int))/\xs.length<=10000/\g8 lo hi xs/\∀H',Ext H H'->Q (.bl true) H'
abbrev pw:Stmt:=stq 67
def tY:FnScope ["_law_row","_law_low","_law_high"] ["_law_row","_law_low","_law_high"] (aM pw):=⟨rfl,rfl,rfl,by decide +kernel,rfl,by decide +kernel,by decide +kernel⟩
def CJ{P:Program}{w:World}{K:EG}{mg:Str->Option Value}{base:Heap}(D:Dfn K mg "_law_rises" pw ["_law_row","_law_low","_law_high"])(T:Blt mg)(C__law_whole:Cal P w K mg base "_law_whole" 1 ["_law_found"] (nR K)):Cal P w K mg base "_law_rises" 2 ["_law_row","_law_low","_law_high"] (qA K):=by
 have nd:=(tY).nd;refine D.ok tY (λvs H Q E h=>?_) (λX hX H vs Q E h=>?_)
 ·obtain⟨p,lo,hi,xs,rfl,_⟩:=h;rfl
 ·obtain⟨f,cdv,A,outer,s,H0,E0,rfl,hr⟩:=hX;obtain⟨p,lo,hi,xs,rfl,hp,hl,hr',q⟩:=h;have hk:fA H (.ref p) "tuple":=.inr ⟨rfl,_,hp⟩;refine⟨_,(aj (bU (PW.pt (eC (dm (bQ (bh eE rfl T.isinstance_ PyProof.Rows.boot_isinstance (aa (pv 0) (aa (ee (v:=.ty "tuple") rfl T.tuple_ PyProof.Rows.boot_tuple rfl) ae))))) (eY (dm (bQ (bh (i4 K rfl) rfl T.all_ PyProof.Rows.boot_all (aa (cx ["_law_part"] [] (f9 K (pv 0)) (λ_=>(aK (i:=0) (show(["_law_part"]:List Str).Nodup from by decide +kernel) rfl (Or.inl rfl) (Or.inr rfl))) (λ_=>dD) (λ_=>(aH C__law_whole hr (aa (pv 0) ae)))) ae))))))) (ao (aL bX)) aY)
    (ao (aL (dW (bh (i4 K rfl) rfl T.all_ PyProof.Rows.boot_all (aa (cx ["_law_part"] [1,2] (f9 K (pv 0)) (λ_=>(aK (i:=0) (show(["_law_part","_law_low","_law_high"]:List Str).Nodup from by decide +kernel) rfl (Or.inl rfl) (Or.inr rfl))) (λ_=>dD) (λ_=>(kY gY fB (pv 1) (pv 0) (pv 2)))) ae)) (eJ (bh (i4 K rfl) rfl T.all_ PyProof.Rows.boot_all (aa (cx ["_law_one","_law_two"] [] (BA K rfl T.zip_ (aa (pv 0) (aa (ie AR (pv 0) (f6 af) iK) ae))) (λ_=>(gm (n:=2) K rfl (b6 (aK (i:=0) (show(["_law_one","_law_two"]:List Str).Nodup from by decide +kernel) rfl (Or.inl rfl) (Or.inr rfl)) (b6 (aK (i:=1) (show(["_law_one","_law_two"]:List Str).Nodup from by decide +kernel) rfl (Or.inl rfl) (Or.inr rfl)) fU)))) (λ_=>dD) (λ_=>(eW fB (pv 0) (pv 1) (aQ _)))) ae))))))),?_⟩
  walk_at"";refine eL hk (b:=true) rfl ?_;walk_at"";refine az ?_;walk_at"";refine gh (ai.of hp) ?_;refine jI (xs:=xs.map V.int) (λi ys H'=>H'=H/\ys=(Fv i true).map V.bl) (br (by rw[EK];omega)) ⟨rfl,rfl⟩ ?_ ?_ ?_
  ·rintro i ys H' _ ⟨rfl,rfl⟩;exact⟨ai.of hp,by simp⟩
  ·rintro i v ys H' hi' ⟨rfl,rfl⟩;obtain⟨x,rfl,hx⟩:=jP hi';walk_at"";refine aD ?_;walk_at"";refine⟨_,rfl,rfl,?_⟩;rw[List.replicate_succ',E3];rfl
  rintro ys H' p1 ⟨rfl,rfl⟩ hp1;have e1:Ext H' (upd H' p1 (.lst ((Fv (xs.map V.int).length true).map V.bl))):=aX hp1;have h1:(upd H' p1 (.lst ((Fv (xs.map V.int).length true).map V.bl))) p1=_:=aE;generalize upd H' p1 (.lst ((Fv (xs.map V.int).length true).map V.bl))=H1 at e1 h1;walk_at"";refine⟨p1,_,rfl,ag.of h1,?_⟩;rw[show (Fv (xs.map V.int).length true).all id=true by rw[Fl];intro b hb;rw[List.eq_of_mem_replicate hb];rfl];walk_at"";refine az ?_;walk_at"";have hp':=e1 _ _ hp;refine gh (ai.of hp') ?_;refine jI (xs:=xs.map V.int) (λi ys H'=>H'=H1/\ys=(Fv i true).map V.bl) (br (by rw[EK];omega)) ⟨rfl,rfl⟩ ?_ ?_ ?_
  ·rintro i ys H' _ ⟨rfl,rfl⟩;exact⟨ai.of hp',by simp⟩
  ·rintro i v ys H' hi' ⟨rfl,rfl⟩;obtain⟨x,rfl,hx⟩:=jP hi';have hb:=hr'.2 x (EV hx);walk_at"";refine aD ?_;walk_at"";rw[FG hb.1];refine aD ?_;walk_at"";rw[FG hb.2];refine⟨rfl,?_⟩;rw[List.replicate_succ',E3];rfl
  rintro ys H2' p2 ⟨rfl,rfl⟩ hp2;have e2:Ext H2' (upd H2' p2 (.lst ((Fv (xs.map V.int).length true).map V.bl))):=aX hp2;have h2:(upd H2' p2 (.lst ((Fv (xs.map V.int).length true).map V.bl))) p2=_:=aE;generalize upd H2' p2 (.lst ((Fv (xs.map V.int).length true).map V.bl))=H2 at e2 h2;walk_at"";refine⟨p2,_,rfl,ag.of h2,?_⟩;rw[show (Fv (xs.map V.int).length true).all id=true by rw[Fl];intro b hb;rw[List.eq_of_mem_replicate hb];rfl];walk_at"";refine aD ?_;walk_at"";have hp2':=e2 _ _ hp';refine CG hp2' λp3 H3 e3 h3=>?_;rw[ze]at h3;walk_at"";refine xJ (ai.of (e3 _ _ hp2')) (ai.of h3) ?_;refine BC (xs:=xs.map V.int) (ys:=(xs.map V.int).drop 1) (λi zs H'=>Ext H3 H'/\zs=(Fv i true).map V.bl) (br (by rw[EK];omega)) ⟨Ext.rfl' H3,rfl⟩ ?_ ?_ ?_
  ·rintro i zs H' ⟨e,rfl⟩;exact⟨ai.of (e _ _ (e3 _ _ hp2')),ai.of (e _ _ h3),by simp⟩
  ·rintro i u v zs H' p4 H4 hu hv ⟨e,rfl⟩ e4 h4 hn4;obtain⟨x,rfl,hx⟩:=jP hu;rw[←List.map_drop]at hv;obtain⟨y,rfl,hy⟩:=jP hv;have hlt:x<y:=by rw[List.getElem?_drop]at hy;obtain⟨g1,rfl⟩:=EU.mp hx;obtain⟨g2,rfl⟩:=EU.mp hy;exact List.pairwise_iff_getElem.mp hr'.1 i (1+i) g1 g2 (by omega)
   refine gN (ai.of h4) rfl ?_;walk_at"";refine aD ?_;walk_at"";rw[FG hlt];refine⟨e.trans e4,?_⟩;rw[List.replicate_succ',E3];rfl
  rintro zs H' p5 ⟨e,rfl⟩ hp5;walk_at"";refine⟨p5,_,rfl,ag.of aE,?_⟩;rw[show ∀n:Nat,(Fv n true).all id=true from λn=>by rw[Fl];intro b hb;rw[List.eq_of_mem_replicate hb];rfl];exact q _ (e1.trans (e2.trans (e3.trans (e.trans (aX hp5)))))
structure Gx(b s:Int)(o a:List Int):Prop where
 ok:Ok b s o a
 bs:b+s<=10000
def Gx.lo{b s:Int}{o a:List Int}(g:Gx b s o a):o.length<=10000:=by have:=pL g.ok.ho;have:=g.bs;have:=g.ok.hb;have:=g.ok.hs;omega
def Gx.la{b s:Int}{o a:List Int}(g:Gx b s o a):a.length<=10000:=by have:=pL g.ok.ha;have:=g.bs;have:=g.ok.hs;have:=g.ok.hb;omega
def um(K:EG):Sp:=λvs H Q _=>∃v b s o a,vs=[v]/\dv H v b s o a/\Gx b s o a/\∀H',Ext H H'->Q (.bl true) H'
abbrev pA:Stmt:=stq 68
def vY:FnScope ["_law_found"] ["_law_found"] (aM pA):=⟨rfl,rfl,rfl,by decide +kernel,rfl,by decide +kernel,by decide +kernel⟩
def BG{P:Program}{w:World}{K:EG}{mg:Str->Option Value}{base:Heap}(D:Dfn K mg "_law_is_stair" pA ["_law_found"])(T:Blt mg)(C__law_rises:Cal P w K mg base "_law_rises" 2 ["_law_row","_law_low","_law_high"] (qA K))(C__law_whole:Cal P w K mg base "_law_whole" 1 ["_law_found"] (nR K)):Cal P w K mg base "_law_is_stair" 3 ["_law_found"] (um K):=by
 have nd:=(vY).nd;refine D.ok vY (λvs H Q E h=>?_) (λX hX H vs Q E h=>?_)
 ·obtain⟨v,b,s,o,a,rfl,_⟩:=h;rfl
 ·obtain⟨f,cdv,A,outer,s,H0,E0,rfl,hr⟩:=hX;obtain⟨v,b,s',o,a,rfl,⟨p,q',r,rfl,h1,h2,h3⟩,hg,q⟩:=h;have hb0:=hg.ok.hb;have hs0:=hg.ok.hs;have lo:=hg.lo;have la:=hg.la;have hk:fA H (.ref p) "tuple":=.inr ⟨rfl,_,h1⟩;refine⟨_,(aj (bU (PW.pt (eC (dm (bQ (bh eE rfl T.isinstance_ PyProof.Rows.boot_isinstance (aa (pv 0) (aa (ee (v:=.ty "tuple") rfl T.tuple_ PyProof.Rows.boot_tuple rfl) ae))))) (eY (aS hZ (bh (cY K) rfl T.len_ PySem.boot_len (aa (pv 0) ae)) af (aQ _))))) (ao (aL bX)) aY)
    (aj (bU (PW.pt (eC (dm (bQ (aH C__law_whole hr (aa (ah (aC K) (pv 0) af (λ_ _=>rfl)) ae)))) (eY (dm (bQ (aH C__law_whole hr (aa (ah (aC K) (pv 0) af (λ_ _=>rfl)) ae))))))) (ao (aL bX)) aY)
    (aj (bU (PW.pt (eC (aS fB (ah (aC K) (pv 0) af (λ_ _=>rfl)) af (aQ _)) (eC (aS fB (ah (aC K) (pv 0) af (λ_ _=>rfl)) af (aQ _)) (eY (dm (bQ (aH C__law_rises hr (aa (ah (aC K) (pv 0) af (λ_ _=>rfl)) (aa af (aa (ah (aC K) (pv 0) af (λ_ _=>rfl)) ae)))))))))) (ao (aL bX)) aY)
    (ao (aL (aH C__law_rises hr (aa (ah (aC K) (pv 0) af (λ_ _=>rfl)) (aa (ah (aC K) (pv 0) af (λ_ _=>rfl)) (aa (aq aU (ah (aC K) (pv 0) af (λ_ _=>rfl)) (ah (aC K) (pv 0) af (λ_ _=>rfl))) ae))))))))),?_⟩
  walk_at"";refine eL hk (b:=true) rfl ?_;walk_at"";refine az ?_;walk_at"";refine jg (ai.of h1) ?_;walk_at"";refine az ?_;walk_at"";refine aB (ai.of h1) rfl ?_;walk_at"";refine⟨_,rfl,?_⟩;walk_at"";refine az ?_;walk_at"";refine aB (ai.of h1) rfl ?_;walk_at"";refine⟨_,rfl,?_⟩;walk_at"";refine az ?_;walk_at"";refine aB (ai.of h1) rfl ?_;walk_at"";rw[FF (show ¬b<0 by omega)];refine az ?_;walk_at"";refine aB (ai.of h1) rfl ?_;walk_at"";rw[FF (show ¬s'<1 by omega)];refine az ?_;walk_at"";refine aB (ai.of h1) rfl ?_;walk_at"";refine aB (ai.of h1) rfl ?_;walk_at"";refine⟨q',0,b,o,rfl,h2,by omega,hg.ok.ho,λH1 e1=>?_⟩;walk_at"";refine az ?_;walk_at"";refine aB (ai.of (e1 _ _ h1)) rfl ?_;walk_at"";refine aB (ai.of (e1 _ _ h1)) rfl ?_;walk_at"";refine aB (ai.of (e1 _ _ h1)) rfl ?_;walk_at"";refine aB (ai.of (e1 _ _ h1)) rfl ?_;walk_at"";refine⟨r,b,b+s',a,rfl,e1 _ _ h3,by omega,hg.ok.ha,λH2 e2=>?_⟩;exact q H2 (e1.trans e2)
def dS(b s:Int)(o a:List Int):PyData:=.tuple [.int b,.int s,.tuple (o.map PyData.int),.tuple (a.map PyData.int)]
def xk{H:Hp}{q:Addr}{xs:List Int}(h:H q=some (.tup (xs.map V.int))):aV H 1 (.ref q) (.tuple (xs.map PyData.int)):=
 .inr ⟨q,_,_,rfl,.inl ⟨h,rfl⟩,ph (λi=>(rfl:i=i)) _⟩
def dv.rep{H:Hp}{v:V}{b s:Int}{o a:List Int}(h:dv H v b s o a):aV H 2 v (dS b s o a):=by obtain⟨p,q,r,rfl,h1,h2,h3⟩:=h;exact .inr ⟨p,_,_,rfl,.inl ⟨h1,rfl⟩,.cons (.inl (rfl:b=b)) (.cons (.inl (rfl:s=s)) (.cons (xk h2) (.cons (xk h3) .nil)))⟩
def cA(H:Hp)(xs:List V)(m:Nat)(Fs:Nat->Nat->Bool):Prop:=xs.length=m/\∀(r:Nat) (v:V),xs[r]?=some v->∃l d:Nat,dv H v l d (row (Fs r) 0 l) (row (Fs r) l d)/\Least (Fs r) d l/\l+d<=10000
def cA.ext{H H':Hp}(e:Ext H H'){xs:List V}{m:Nat}{Fs:Nat->Nat->Bool}(h:cA H xs m Fs):cA H' xs m Fs:=⟨h.1,λr v hv=>by obtain⟨l,d,h1,h2⟩:=h.2 r v hv;exact⟨l,d,h1.ext e,h2⟩⟩
def dL(F:Nat->Bool):PyData:=@dite _ (∃p:Nat×Nat,Least F p.2 p.1) (Classical.propDecidable _) (λh=>dS h.choose.1 h.choose.2 (row F 0 h.choose.1) (row F h.choose.1 h.choose.2)) (λ_=>.int 0)
def AZ{F:Nat->Bool}{l d:Nat}(h:Least F d l):dL F=dS l d (row F 0 l) (row F l d):=by have hx:∃p:Nat×Nat,Least F p.2 p.1:=⟨(l,d),h⟩;unfold dL;rw[dif_pos hx];obtain⟨e1,e2⟩:=hx.choose_spec.one h;rw[e1,e2]
def tE{R:V->PyData->Prop}{g:Nat->PyData}:∀(xs:List V) (k:Nat),(∀i v,xs[i]?=some v->R v (g (k+i)))->Paired R xs ((List.range' k xs.length).map g)
 | [],_,_=>.nil
 | v::xs,k,h=>by show Paired R (v::xs) ((List.range' k (xs.length+1)).map g);rw[List.range'_succ];refine .cons (h 0 v rfl) (tE xs (k+1) λi u hu=>?_);have:=h (i+1) u hu;rw[show k+(i+1)=k+1+i by omega]at this;exact this
def cA.rep{H:Hp}{xs:List V}{m:Nat}{Fs:Nat->Nat->Bool}{l:Addr}(h:cA H xs m Fs)(hl:H l=some (.lst xs)):aV H 3 (.ref l) (.list ((List.range' 0 m).map λr=>dL (Fs r))):=by rw[←h.1];refine .inr ⟨l,_,_,rfl,.inr ⟨hl,rfl⟩,tE xs 0 λi v hv=>?_⟩;obtain⟨b,d,hst,hL,_⟩:=h.2 i v hv;rw[Nat.zero_add,AZ hL];exact hst.rep
def sO(K:EG):Sp:=λvs H Q _=>∃la lb xs ys m Fs,vs=[.ref la,.ref lb]/\H la=some (.lst xs)/\H lb=some (.lst ys)/\cA H xs m Fs/\cA H ys m Fs/\m<=100/\∀H',Ext H H'->Q (.bl true) H'
abbrev nO:Stmt:=stq 69
def vq:FnScope ["_law_found","_law_due"] ["_law_found","_law_due"] (aM nO):=⟨rfl,rfl,rfl,by decide +kernel,rfl,by decide +kernel,by decide +kernel⟩
def Cs{P:Program}{w:World}{K:EG}{mg:Str->Option Value}{base:Heap}(D:Dfn K mg "_law_stairs_are" nO ["_law_found","_law_due"])(T:Blt mg)(C__law_is_stair:Cal P w K mg base "_law_is_stair" 3 ["_law_found"] (um K)):Cal P w K mg base "_law_stairs_are" 4 ["_law_found","_law_due"] (sO K):=by
 have nd:=(vq).nd;refine D.ok vq (λvs H Q E h=>?_) (λX hX H vs Q E h=>?_)
 ·obtain⟨la,lb,xs,ys,m,Fs,rfl,_⟩:=h;rfl
 ·obtain⟨f,cdv,A,outer,s,H0,E0,rfl,hr⟩:=hX;obtain⟨la,lb,xs,ys,m,Fs,rfl,hla,hlb,hx,hy,hm,q⟩:=h;have hxl:=hx.1;refine⟨_,(ao (aL (dW (bh eE rfl T.isinstance_ PyProof.Rows.boot_isinstance (aa (pv 0) (aa (ee (v:=.ty "list") rfl T.list_ PyProof.Rows.boot_list rfl) ae))) (dW (bh (i4 K rfl) rfl T.all_ PyProof.Rows.boot_all (aa (cx ["_law_stair"] [] (cK K (pv 0)) (λ_=>(aK (i:=0) (show(["_law_stair"]:List Str).Nodup from by decide +kernel) rfl (Or.inl rfl) (Or.inr rfl))) (λ_=>dD) (λ_=>(aH C__law_is_stair hr (aa (pv 0) ae)))) ae)) (eJ (eW (Dp hr) (pv 0) (pv 1) (aQ _))))))),?_⟩;walk_at"";refine eL (xQ hla) (b:=true) rfl ?_;walk_at"";refine aD ?_;walk_at"";refine cH (ag.of hla) ?_;refine g9 (xs:=xs) (λi zs H'=>Ext H H'/\zs=(Fv i true).map V.bl) (br (by omega)) ⟨Ext.rfl' _,rfl⟩ (λi ys H' hi h=>⟨ag.of (h.1 _ _ hla),by rw[h.2];simp⟩) ?_ ?_
  ·rintro i u zs H4 hu ⟨e4,rfl⟩;obtain⟨b,d,hst,hL,hld⟩:=hx.2 i u hu;walk_at"";refine aD ?_;walk_at"";refine⟨u,_,_,_,_,rfl,hst.ext e4,⟨yB (Fs i) b d hL.pos,by omega⟩,λH5 e5=>?_⟩;refine⟨e4.trans e5,?_⟩;rw[List.replicate_succ',E3];rfl
  rintro zs H4 p9 ⟨e4,rfl⟩ hp9;have e5:=e4.trans (aX (o:=.lst ((Fv xs.length true).map V.bl)) hp9);have h9:(upd H4 p9 (.lst ((Fv xs.length true).map V.bl))) p9=_:=aE;generalize upd H4 p9 (.lst ((Fv xs.length true).map V.bl))=H5 at e5 h9 ⊢;walk_at"";refine⟨p9,_,rfl,ag.of h9,?_⟩;rw[show (Fv xs.length true).all id=true by simp];walk_at"";refine aD ?_;walk_at"";have hr1:=(hx.ext e5).rep (e5 _ _ hla);refine⟨3,3,_,_,hr1,(hy.ext e5).rep (e5 _ _ hlb),by decide,?_⟩;rw[SeqAt.eqv_refl _ (aV.lay 3 hr1).1];exact q _ e5
def tp{w:Way}(hd:bZ w.deed){n n':Int}:stp w.deed n=some n'↔cR w w.room n=true/\n'=n+rz w.deed:=by
 constructor
 ·intro h;refine⟨?_,zN hd h⟩;refine gZ rfl ?_;rcases hd with e|e|e|e
  ·exact .inl e
  ·refine .inr (.inr (.inl ⟨e,?_⟩));rw[e,hV]at h;by_cases hn:0<n
   ·exact hn
   ·rw[FF hn]at h;cases h
  ·exact .inr (.inl e)
  ·refine .inr (.inr (.inr ⟨e,?_⟩));rw[e,hJ]at h;by_cases hn:n=0
   ·exact hn
   ·rw[FF hn]at h;cases h
 ·rintro⟨h,rfl⟩;rcases gq hd h with⟨e,z⟩|⟨e,z⟩|⟨e,hn,z⟩|⟨e,hn,z⟩<;>rw[z,e]
  ·exact jr n
  ·rw[jv];congr 1;omega
  ·rw[hV,FG hn,FI rfl];rfl
  ·rw[hJ,FG hn,FI rfl];congr 1;omega
def CU{m:Int}{ws:List Way}(ok:∀w∈ws,w.Ok m){U:Int}{a b:Bfs.Pl}(h:dz ws a b)(hU:b.2<=U):∃k,cM ws U a k=some b:=by obtain⟨w,hw,ho,rfl⟩:=h;obtain⟨k,hk⟩:=List.mem_iff_getElem?.mp hw;have hr:=gL ho;rw[←hr]at ho;refine⟨k,?_⟩;unfold cM;rw[hk,Fg,FI hr,(tp (ok w hw).dd).mpr ⟨ho,rfl⟩,Fg,FI hU]
def zm{m:Int}{ws:List Way}(ok:∀w∈ws,w.Ok m){U:Int}{a b:Bfs.Pl}{k:Nat}(h:cM ws U a k=some b):dz ws a b:=by obtain⟨w,h1,h2,h3,h4,_⟩:=mT h;have hw:=EV h1;have:=(tp (ok w hw).dd).mp h3;rw[h2]at this;exact⟨w,hw,this.1,Prod.ext h4 this.2⟩
def pV{m:Int}{ws:List Way}(ok:HOuse m ws){x g:Bfs.Pl}(ix:fM m x):cb ws x g↔∃n,Bfs.cU (cM ws (jS m x g)) x n g:=by
 have m1:=ok.m1;constructor
 ·rintro⟨n,h⟩;have hb0:x.2<=(if g.2>x.2 then g.2 else x.2)/\g.2<=(if g.2>x.2 then g.2 else x.2):=by split<;>constructor<;>omega
  obtain⟨n',hn',r'⟩:=Bfs.cut (S:=dz ws) (m:=m) (by omega) (λp q h=>by
    obtain⟨w,hw,ho,rfl⟩:=h;have r1:=rg w.deed;have r2:=sR w.deed;show p.2+rz w.deed<=p.2+1/\p.2<=p.2+rz w.deed+1;omega) (λp q c h hc h1 h2=>by
    obtain⟨w,hw,ho,rfl⟩:=h;refine⟨w,hw,gZ (gL ho) ?_,Prod.ext rfl (by show p.2+rz w.deed-c=p.2-c+rz w.deed;omega)⟩;rcases gq (ok.ok w hw).dd ho with⟨e,z⟩|⟨e,z⟩|⟨e,hn,z⟩|⟨e,hn,z⟩
    ·exact .inl e
    ·exact .inr (.inl e)
    ·exact .inr (.inr (.inl ⟨e,by show 0<p.2-c;omega⟩))
    ·omega) (λp q h=>by
    obtain⟨w,hw,ho,rfl⟩:=h;exact⟨(ok.ok w hw).o0,(ok.ok w hw).o1⟩) (b:=if g.2>x.2 then g.2 else x.2) (Int.le_trans ix.2.2.1 hb0.1) n x g h ix.1 ix.2.1 hb0.1 hb0.2
  have wk:Bfs.Wk (cM ws (jS m x g)) x n' g:=r'.wk (λa c h=>CU ok.ok h.1 h.2);obtain⟨k,_,dk⟩:=Bfs.DX n' wk;exact⟨k,dk⟩
 ·rintro⟨n,d⟩;exact⟨n,d.1.rw.imp λa c h=>zm ok.ok h.choose_spec⟩
def wj{f g:Nat->Bool}{n:Nat}(h:∀r,r<n->f r=g r):row f 0 n=row g 0 n:=by unfold row;congr 1;apply List.filter_congr;intro i hi;rw[Nat.zero_add];exact h i (List.mem_range.mp hi)
def Ar{f g:Nat->Bool}{n:Nat}(h:row f 0 n=row g 0 n):cO n f g:=λj hj=>by
 have:(j:Int)∈row f 0 n↔(j:Int)∈row g 0 n:=by rw[h]
 rw[fo,fo,EY]at this;rw[Fn];exact⟨λz=>(this.mp ⟨by omega,by omega,z⟩).2.2,λz=>(this.mpr ⟨by omega,by omega,z⟩).2.2⟩
def bo(ws:List Way)(x:Bfs.Pl)(l r:Nat):Bool:=@decide (cb ws x ((r:Int),(l:Int))) (Classical.propDecidable _)
def eA{ws:List Way}{x:Bfs.Pl}{l r:Nat}:bo ws x l r=true↔cb ws x ((r:Int),(l:Int)):=@decide_eq_true_iff _ (Classical.propDecidable _)
def xX{m:Int}{ws:List Way}(ok:∀w∈ws,w.Ok m){x:Bfs.Pl}(hx:0<=x.1/\x.1<m/\0<=x.2){l k:Nat}(hl:x.2<=(l:Int))(hk:x.2<=(k:Int))(h:cO m.toNat (bo ws x l) (bo ws x k)):cO m.toNat (bo ws x (l+1)) (bo ws x (k+1)):=λj _=>by
 rw[Fn,eA,eA,kQ ok hx hl,kQ ok hx hk];constructor
 ·rintro⟨p,hp,h1,h2⟩;exact⟨p,hp,eA.mp (by rw[←h p hp];exact eA.mpr h1),h2⟩
 ·rintro⟨p,hp,h1,h2⟩;exact⟨p,hp,eA.mp (by rw[h p hp];exact eA.mpr h1),h2⟩
def AV{m:Int}{ws:List Way}(ok:∀w∈ws,w.Ok m){x:Bfs.Pl}(hx:0<=x.1/\x.1<m/\0<=x.2){b N:Nat}(hb:x.2<=(b:Int))(hbN:b<N)(h:cO m.toNat (bo ws x N) (bo ws x b))(r:Nat)(hr:r<m.toNat):bA (λl=>bo ws x l r) b (N-b):=λl hl=>by
 have key:∀t:Nat,cO m.toNat (bo ws x (N+t)) (bo ws x (b+t)):=λt=>by
  induction t with
  | zero=>exact h
  | succ t ih=>exact xX ok hx (l:=N+t) (k:=b+t) (by omega) (by omega) ih
 have:=key (l-b) r hr;rw[show N+(l-b)=l+(N-b) by omega,show b+(l-b)=l by omega]at this;exact this
def bF(ws:List Way)(x:Bfs.Pl)(n l:Nat):List Key:=(row (bo ws x l) 0 n).map Sum.inl
def ua{ws:List Way}{x:Bfs.Pl}{n l:Nat}:(bF ws x n l).map kV=(row (bo ws x l) 0 n).map V.int:=by unfold bF;rw[List.map_map];rfl
def Ag{ws:List Way}{x:Bfs.Pl}{n l k:Nat}(h:bF ws x n l=bF ws x n k):cO n (bo ws x l) (bo ws x k):=Ar (by unfold bF at h;exact(List.map_inj_right λa b z=>Sum.inl.inj z).mp h)
def dw(H:Hp)(rs:List Addr)(ws:List Way)(x:Bfs.Pl)(n:Nat):Prop:=∀(l:Nat) (a:Addr),rs[l]?=some a->H a=some (.tup ((row (bo ws x l) 0 n).map V.int))
def dw.ext{H H':Hp}(e:Ext H H'){rs:List Addr}{ws:List Way}{x:Bfs.Pl}{n:Nat}(h:dw H rs ws x n):dw H' rs ws x n:=λl a ha=>e _ _ (h l a ha)
def dw.put{H:Hp}{f:Addr}{o o':HO}{rs:List Addr}{ws:List Way}{x:Bfs.Pl}{n:Nat}(hf:H f=some o)(ho:∀xs,o≠.tup xs)(h:dw H rs ws x n):dw (upd H f o') rs ws x n:=λl a ha=>by have hz:=h l a ha;rw[ay (bO hz hf λz=>ho _ z.symm)];exact hz
def dw.add{H:Hp}{rs:List Addr}{ws:List Way}{x:Bfs.Pl}{n:Nat}{a:Addr}(h:dw H rs ws x n)(ha:H a=some (.tup ((row (bo ws x rs.length) 0 n).map V.int))):dw H (rs++[a]) ws x n:=λl b hb=>by
 by_cases hl:l<rs.length
 ·rw[Fc hl]at hb;exact h l b hb
 ·rw[Fb (by omega)]at hb;have hz:l-rs.length=0:=by have:=(EU.mp hb).1;simp at this;omega
  rw[hz]at hb;cases hb;rw[show l=rs.length by omega];exact ha
def dQ.ext{H H':Hp}(e:Ext H H'){rs:List Addr}{ws:List Way}{m:Int}{n:Nat}(h:dQ H rs ws m n):dQ H' rs ws m n:=h.et e.et
def dQ.put{H:Hp}{f:Addr}{o:HO}{rs:List Addr}{ws:List Way}{m:Int}{n:Nat}(hn:∀(r:Nat) (a:Addr),rs[r]?=some a->a≠f)(h:dQ H rs ws m n):dQ (upd H f o) rs ws m n:=⟨h.1,λr a ha=>by obtain⟨zs,h1,h2⟩:=h.2 r a ha;exact⟨zs,by rw[ay (hn r a ha)];exact h1,h2⟩⟩
structure Sn(kvs:List (List Key×V))(ws:List Way)(x:Bfs.Pl)(n lo hi:Nat):Prop where
 yes:∀l,lo<=l->l<hi->aW kvs (bF ws x n l)=some (.int (l:Int))
 only:∀k v,aW kvs k=some v->∃l:Nat,lo<=l/\l<hi/\k=bF ws x n l/\v=.int (l:Int)
 len:kvs.length+lo=hi
def Sn.few{kvs:List (List Key×V)}{ws:List Way}{x:Bfs.Pl}{n lo hi:Nat}(hn:n<=12)(h:Sn kvs ws x n lo hi):hi<=lo+4096:=by
 have:=oP (k:=hi-lo) (F:=λa=>bo ws x (lo+a)) hn λa b hab hb hs=>by
  have e:bF ws x n (lo+a)=bF ws x n (lo+b):=by unfold bF;rw[wj hs]
  have h1:=h.yes (lo+a) (by omega) (by omega);rw[e,h.yes (lo+b) (by omega) (by omega)]at h1;have:=V.int.inj (Fq h1);omega
 omega
def Sn.add{kvs:List (List Key×V)}{ws:List Way}{x:Bfs.Pl}{n lo hi:Nat}(h:Sn kvs ws x n lo hi)(hno:aW kvs (bF ws x n hi)=none)(hle:lo<=hi):Sn (putK kvs (bF ws x n hi) (.int (hi:Int))) ws x n lo (hi+1) where
 yes:=λl h1 h2=>by
  rw[vC];by_cases e:bF ws x n l=bF ws x n hi
  ·rw[FI e];by_cases hl:l=hi
   ·rw[hl]
   ·rw[←e,h.yes l h1 (by omega)]at hno;cases hno
  ·rw[FH e];exact h.yes l h1 (by
    rcases(show l<hi\/l=hi by omega)with z|z
    ·exact z
    ·exact absurd (by rw[z]) e)
 only:=λk v hv=>by
  rw[vC]at hv;by_cases e:k=bF ws x n hi
  ·rw[FI e]at hv;exact⟨hi,hle,by omega,e,(Fq hv).symm⟩
  ·rw[FH e]at hv;obtain⟨l,h1,h2,h3⟩:=h.only k v hv;exact⟨l,h1,by omega,h3⟩
 len:=by rw[jZ _ hno,E4,List.length_singleton];have:=h.len;omega
def q0(K:EG):Sp:=λvs H Q _=>∃(vh:V) (m:Int) (ws:List Way) (pa:Addr) (x:Bfs.Pl),vs=[vh,.ref pa]/\bw H vh m ws/\HOuse m ws/\aA H pa x/\fM m x/\x.2<=300 ∧
 ∀t rl rs (b N:Nat) H',Ext H H'->H' t=some (.tup [.ref rl,.int (b:Int)])->H' rl=some (.lst (List.map V.ref rs))->rs.length=N->b<N->N<=4500->dw H' rs ws x m.toNat->(∀r,r<m.toNat->bA (λl=>bo ws x l r) b (N-b))->Q (.ref t) H'
abbrev n8:Stmt:=stq 63
def u9:FnScope ["_law_house_here","_law_place_here","_law_met","_law_rows","_law_l","_law_table","_law_seen"] ["_law_house_here","_law_place_here"] (aM n8):=⟨rfl,rfl,rfl,by decide +kernel,rfl,by decide +kernel,by decide +kernel⟩
def Eh{P:Program}{w:World}{K:EG}{mg:Str->Option Value}{base:Heap}(D:Dfn K mg "_law_levels" n8 ["_law_house_here","_law_place_here"])(T:Blt mg)(C__law_raised:Cal P w K mg base "_law_raised" 1 ["_law_rooms","_law_table"] (qE K))(C__law_over:Cal P w K mg base "_law_over" 2 ["_law_house_here"] (vZ K))(C__law_come:Cal P w K mg base "_law_come" 2 ["_law_house_here","_law_place_here","_law_top"] (sI K)):Cal P w K mg base "_law_levels" 3 ["_law_house_here","_law_place_here"] (q0 K):=by
 have nd:=(u9).nd;refine D.ok u9 (λvs H Q E h=>?_) (λX hX H vs Q E h=>?_)
 ·obtain⟨vh,m,ws,pa,x,rfl,_⟩:=h;rfl
 ·obtain⟨f,cdv,A,outer,s,H0,E0,rfl,hr⟩:=hX;obtain⟨vh,m,ws,pa,x,rfl,hv,ok,hx,ix,hx3,q⟩:=h;have m1:=ok.m1;have m12:=ok.m12;obtain⟨x0,x1,x2,_⟩:=id ix;have hmm:m*m<=12*12:=Int.mul_le_mul m12 m12 (by omega) (by decide);have hmm0:0<=m*m:=Int.mul_nonneg (by omega) (by omega);obtain⟨hh,hq,rfl,k1,_⟩:=id hv;refine⟨_,(@aj _ _ _ _ _ (@aG _ _ 2 _ _ _ _ nd rfl (Or.inr rfl) (aH C__law_come hr (@aa _ _ _ _ _ (pv 0) (@aa _ _ _ _ _ (pv 1) (@aa _ _ _ _ _ (aq aU (@ah _ _ _ _ _ _ _ (aC K) (pv 1) af (λ_ _=>rfl)) (aq eM (@ah _ _ _ _ _ _ _ (aC K) (pv 0) af (λ_ _=>rfl)) (@ah _ _ _ _ _ _ _ (aC K) (pv 0) af (λ_ _=>rfl)))) ae rfl) rfl) rfl)) rfl (Or.inl rfl))
    (@aj _ _ _ _ _ (@aG _ _ 3 _ _ _ _ nd rfl (Or.inl rfl) (@bq _ _ _ _ ae) rfl (Or.inl rfl))
    (@aj _ _ _ _ _ (bH PassesOwn.never rfl (bR rfl T.range_ (@aa _ _ _ _ _ (aq aU (@ah _ _ _ _ _ _ _ (aC K) (pv 1) af (λ_ _=>rfl)) af) ae rfl)) (aK (i:=4) nd rfl (Or.inr rfl)) (@ao _ _ _ (bt (bE K ET E7 E8 bL (pv 3) (@aa _ _ _ _ _ (eQ (gX K) rfl T.tuple_ PyProof.Rows.boot_tuple (@aa _ _ _ _ _ (cx ["_law_room"] [4,2] (bR rfl T.range_ (@aa _ _ _ _ _ (@ah _ _ _ _ _ _ _ (aC K) (pv 0) af (λ_ _=>rfl)) ae rfl)) (λ_=>(aK (i:=0) (show(["_law_room","_law_l","_law_met"]:List Str).Nodup from by decide +kernel) rfl (Or.inl rfl) (Or.inr rfl))) (λ_=>(dR (iq (rB (df hr) (@bj _ _ _ _ _ (@aa _ _ _ _ _ (pv 0) (@aa _ _ _ _ _ (pv 1) ae rfl) rfl)) (pv 2)) (by with_unfolding_all rfl)))) (λ_=>(pv 0))) ae rfl)) ae rfl)))))
    (@aj _ _ _ _ _ (@aG _ _ 5 _ _ _ _ nd rfl (Or.inl rfl) (aH C__law_over hr (@aa _ _ _ _ _ (pv 0) ae rfl)) rfl (Or.inl rfl))
    (@aj _ _ _ _ _ (@aG _ _ 6 _ _ _ _ nd rfl (Or.inl rfl) Ab rfl (Or.inl rfl))
    (@aj _ _ _ _ _ (fD PassesOwn.never (iq (kh (df hr) (@ah _ _ _ _ _ _ _ (aI K) (pv 3) (eZ eX af) (λ_ _=>rfl)) (pv 6)) (by with_unfolding_all rfl)) (@aj _ _ _ _ _ (kx (df hr) (pv 6) (@ah _ _ _ _ _ _ _ (aI K) (pv 3) (eZ eX af) (λ_ _=>rfl)) (aq cG (bh (cY K) rfl T.len_ PySem.boot_len (@aa _ _ _ _ _ (pv 3) ae rfl)) af) rfl)
    (@ao _ _ _ (bt (bE K ET E7 E8 bL (pv 3) (@aa _ _ _ _ _ (aH C__law_raised hr (@aa _ _ _ _ _ (@ah _ _ _ _ _ _ _ (aI K) (pv 3) (eZ eX af) (λ_ _=>rfl)) (@aa _ _ _ _ _ (pv 5) ae rfl) rfl)) ae rfl))))))
    (@ao _ _ _ (@aL _ _ _ _ (@bj _ _ _ _ _ (@aa _ _ _ _ _ (ie (iT K) (pv 3) iK (f6 (eZ eX af))) (@aa _ _ _ _ _ (lG (df hr) (pv 6) (@ah _ _ _ _ _ _ _ (aI K) (pv 3) (eZ eX af) (λ_ _=>rfl)) (λ_ _=>rfl)) ae rfl) rfl)))))))))),?_⟩
  walk_at"";refine aB (ai.of hx) (v:=.int x.2) rfl ?_;walk_at"";refine aB (ai.of k1) (v:=.int m) rfl ?_;walk_at"";refine aB (ai.of k1) (v:=.int m) rfl ?_;walk_at""
  try refine rd_I (.inl ⟨by omega,by omega⟩) ?_
  walk_at"";refine⟨_,m,ws,pa,x,_,rfl,hv,ok,hx,⟨x0,x1,x2,by omega⟩,by omega,λf H1 kvs fl e1 hf pk hnd hds hal=>?_⟩;have hmem:∀(l i:Nat),(l:Int)<=x.2->(aW kvs (aT ((i:Int),(l:Int)))).isSome=bo ws x l i:=λl i hl=>by
   have htop:jS m x ((i:Int),(l:Int))=x.2+m*m:=by unfold jS;rw[FH (by omega)]
   by_cases hin:((i:Int),(l:Int))∈fl.map (·.1)
   ·obtain⟨e,he,heq⟩:=List.mem_map.mp hin;obtain⟨v1,hv1,_⟩:=jG (λ_ _ z=>z.1) pk hnd he;rw[heq]at hv1;rw[hv1];refine(eA.mpr ((pV ok ix).mpr ⟨e.2,?_⟩)).symm;have:=hds e he;rw[heq]at this;rw[htop];exact this
   ·rw[iZ (λ_ _ z=>z.1) pk hin];symm;show bo ws x l i=false;rw[Bool.eq_false_iff];intro z;obtain⟨n,hD⟩:=(pV ok ix).mp (eA.mp z);rw[htop]at hD;exact hin (hal n _ hD.1)
  walk_at"";refine aJ λrl H2 e2 hrl hrln=>?_;have hx1:aA H1 pa x:=e1 _ _ hx;have k11:=e1 _ _ k1;walk_at"";refine aB (ai.of (e2 _ _ hx1)) (v:=.int x.2) rfl ?_;walk_at"";refine bS (by omega) ?_;refine forR (λl σ H'=>∃rs c4,σ=[some (.ref hh),some (.ref pa),some (.ref f),some (.ref rl),c4,none,none]/\Ext H1 H'/\H' rl=some (.lst (List.map V.ref rs))/\rs.length=l/\dw H' rs ws x m.toNat) ⟨[],_,rfl,e2,hrl,rfl,λl a ha=>by simp at ha⟩ ?_ ?_
  ·clear hrl e2 H2;rintro l σ H2 hl ⟨rs,c4,rfl,e2,hrl,hln,hlv⟩;rw[show (0:Int)+(l:Int)=((l:Nat):Int) by omega];walk_at"";refine⟨cB (ag.of hrl),?_⟩;walk_at"";refine aB (ai.of (e2 _ _ k11)) (v:=.int m) rfl ?_;walk_at"";refine bS (by omega) ?_;refine dA (λi ys H'=>Ext H2 H'/\ys=(row (bo ws x l) 0 i).map V.int) (br (by omega)) ⟨Ext.rfl' _,rfl⟩ (λi ys H' _ h=>by rw[h.2,EK];exact gQ _ _ _) ?_ ?_
   ·rintro i ys H3 hi ⟨e3,rfl⟩;rw[show (0:Int)+(i:Int)=((i:Nat):Int) by omega];walk_at"";refine aJ λpr H4 e4 hpr _=>?_;have hpr':aA H4 pr ((i:Int),(l:Int)):=hpr;walk_at"";refine⟨f,_,rfl,bY.t ((e2.trans (e3.trans e4)) _ _ hf) (k:=aT ((i:Int),(l:Int))) hpr',_,rfl,?_⟩;rw[hmem l i (by omega)];cases hGi:bo ws x l i with
    | true=>
     refine aD ?_;walk_at"";refine⟨e3.trans e4,?_⟩;have:=i9 (f:=bo ws x l) (lo:=0) (i:=i) rfl (by rw[Nat.zero_add];exact hGi);rw[Nat.zero_add]at this;exact this
    | false=>
     refine az ?_;exact⟨e3.trans e4,iS (f:=bo ws x l) (lo:=0) (i:=i) rfl (by rw[Nat.zero_add];exact hGi)⟩
   ·rintro ys H3 p9 ⟨e3,rfl⟩ hp9;have e4:=e3.trans (aX (o:=.lst ((row (bo ws x l) 0 m.toNat).map V.int)) hp9);have h9:(upd H3 p9 (.lst ((row (bo ws x l) 0 m.toNat).map V.int))) p9=_:=aE;generalize upd H3 p9 (.lst ((row (bo ws x l) 0 m.toNat).map V.int))=H4 at e4 h9 ⊢;walk_at"";refine gg (ag.of h9) (bW λt H5 e5 ht _=>?_);have hrl5:=(e4.trans e5) _ _ hrl;walk_at"";refine bJ hrl5 (dO (by rw[EK];omega)) ?_;refine⟨rs++[t],_,rfl,bK (e2.trans (e4.trans e5)) hrln,by rw[aE,E3];rfl,by rw[E4,hln];rfl,dw.put hrl5 (λxs z=>by cases z) ((hlv.ext (e4.trans e5)).add (by rw[hln];exact ht))⟩
  clear hrl e2 H2 hmem hds hal hnd pk hf;rintro σ H2 ⟨rs,c4,rfl,e2,hrl,hln,hlv⟩;walk_at"";refine⟨_,m,ws,rfl,hv.ext (e1.trans e2),ok,λtl ts H3 e3 htl hov=>?_⟩;have hrl3:=e3 _ _ hrl;have hlv3:=hlv.ext e3;obtain⟨a0,ha0⟩:∃a0,rs[0]?=some a0:=⟨_,EL (by omega)⟩;have ntl:tl≠rl:=λz=>by rw[z,hrl3]at htl;have e:ts=rs:=(List.map_inj_right λa b z=>V.ref.inj z).mp (HO.lst.inj (Fq htl)).symm;obtain⟨zs,h1,_⟩:=hov.2 0 a0 (by rw[e];exact ha0);rw[hlv3 0 a0 ha0]at h1;cases h1
  have nts:∀(r:Nat) (a:Addr),ts[r]?=some a->a≠rl:=λr a ha z=>by
   obtain⟨zs,h1,_⟩:=hov.2 r a ha;rw[z,hrl3]at h1;have h1:=HO.lst.inj (Fq h1);have:=congrArg (λl=>l[0]?) h1;simp only[EM,ha0]at this;cases hz:zs[0]? with
   | none=>rw[hz]at this;cases this
   | some z0=>rw[hz]at this;cases this
  have e13:=e2.trans e3;clear hrl hlv e2 e3 ha0;walk_at"";refine λsd hsd=>?_;walk_at"";have hsd1:H1 sd=none:=e13.none hsd;have nsl:rl≠sd:=λz=>by rw[z,hsd]at hrl3;cases hrl3
  have e4:=aX (o:=.dT []) hsd;refine fY (λM σ H'=>∃rs kvs N,σ=[some (.ref hh),some (.ref pa),some (.ref f),some (.ref rl),c4,some (.ref tl),some (.ref sd)]/\Ext H1 H'/\H' rl=some (.lst (List.map V.ref rs))/\rs.length=N+1/\dw H' rs ws x m.toNat/\H' tl=some (.lst (List.map V.ref ts))/\dQ H' ts ws m m.toNat/\H' sd=some (.dT kvs)/\Sn kvs ws x m.toNat x.2.toNat N/\x.2.toNat+4097-N=M)
   (λσ H'=>∃rs kvs N b,σ=[some (.ref hh),some (.ref pa),some (.ref f),some (.ref rl),c4,some (.ref tl),some (.ref sd)]/\Ext H1 H'/\H' rl=some (.lst (List.map V.ref rs))/\rs.length=N+1/\dw H' rs ws x m.toNat/\H' sd=some (.dT kvs)/\N<=4400/\x.2.toNat<=b/\b<N/\bF ws x m.toNat N=bF ws x m.toNat b/\aW kvs (bF ws x m.toNat N)=some (.int (b:Int))) (x.2.toNat+4097-x.2.toNat)
   ⟨rs,[],x.2.toNat,rfl,e13.trans e4,e4 _ _ hrl3,by omega,hlv3.ext e4,e4 _ _ htl,hov.ext e4,aE,⟨λl h1 h2=>by omega,λk v h=>(by cases h),by simp⟩,rfl⟩ ?_ ?_
  ·clear hrl3 hlv3 htl hov e4 hln rs;rintro M σ H4 ⟨rs,kvs,N,rfl,e4,hrl,hln,hlv,htl,hov,hsd4,hsn,hM⟩;have hNl:=hsn.few (by omega);have hlo:x.2.toNat<=N:=by have:=hsn.len;omega
   obtain⟨ar,har⟩:∃ar,rs[N]?=some ar:=⟨_,EL (by omega)⟩;have hat:bz (List.map V.ref rs) (-1)=some (.ref ar):=o4 (k:=N) (by rw[EK];exact hln) (by rw[EM,har];rfl);have hrow:=hlv N ar har;have hkey:H4 ar=some (.tup ((bF ws x m.toNat N).map kV)):=by rw[ua];exact hrow
   walk_at"";refine aF (ag.of hrl) hat ?_;walk_at"";refine⟨sd,_,rfl,bY.t hsd4 (k:=bF ws x m.toNat N) hkey,?_⟩;cases hval:aW kvs (bF ws x m.toNat N)with
   | some v=>
    obtain⟨b,b1,b2,b3,rfl⟩:=hsn.only _ _ hval;refine rd_exb (az ?_);exact⟨rs,kvs,N,b,rfl,e4,hrl,hln,hlv,hsd4,by omega,b1,b2,b3,hval⟩
   | none=>
    refine rd_exb (aD ⟨_,λ_ _ h=>h,?_⟩);have hsn2:=hsn.add hval hlo;walk_at"";refine eh (ag.of hrl) ?_;walk_at"";refine aF (ag.of hrl) hat ?_;rw[EK,hln,show ((N+1:Nat):Int)-1=(N:Int) by omega];refine⟨sd,_,rfl,fF.t hsd4 (k:=bF ws x m.toNat N) hkey (dO (by have:=hsn.len;omega)),?_⟩;have nrd:rl≠sd:=nsl;have e5:Ext H1 (upd H4 sd (.dT (putK kvs (bF ws x m.toNat N) (.int (N:Int))))):=bK e4 hsd1;have hrl5:(upd H4 sd (.dT (putK kvs (bF ws x m.toNat N) (.int (N:Int))))) rl=some (.lst (List.map V.ref rs)):=by rw[ay nsl];exact hrl
    have htl5:(upd H4 sd (.dT (putK kvs (bF ws x m.toNat N) (.int (N:Int))))) tl=some (.lst (List.map V.ref ts)):=by rw[ay (bO htl hsd4 (by intro z;cases z))];exact htl
    have hov5:=hov.put (f:=sd) (o:=.dT (putK kvs (bF ws x m.toNat N) (.int (N:Int)))) λr a ha=>by obtain⟨zs,h1,_⟩:=hov.2 r a ha;exact bO h1 hsd4 (by intro z;cases z)
    have hlv5:=hlv.put (f:=sd) (o':=.dT (putK kvs (bF ws x m.toNat N) (.int (N:Int)))) hsd4 λxs z=>by cases z
    have hsd5:(upd H4 sd (.dT (putK kvs (bF ws x m.toNat N) (.int (N:Int))))) sd=_:=aE;generalize upd H4 sd (.dT (putK kvs (bF ws x m.toNat N) (.int (N:Int))))=H5 at e5 hrl5 htl5 hov5 hlv5 hsd5 ⊢;clear hrl htl hov hlv hsd4 hkey hrow hsn e4;walk_at"";refine⟨cB (ag.of hrl5),?_⟩;walk_at"";refine aF (ag.of hrl5) hat ?_;walk_at"";refine⟨ar,tl,ts,ws,m,bo ws x N,rfl,hlv5 N ar har,htl5,hov5,ok,λt G' H6 e6 ht hG=>?_⟩;rw[show row G' 0 m.toNat=row (bo ws x (N+1)) 0 m.toNat from wj λj hj=>by rw[Fn,hG j hj,eA,kQ ok.ok ⟨x0,x1,x2⟩ (i:=N) (by omega)];exact⟨λ⟨r,h1,h2,h3⟩=>⟨r,h1,eA.mp h2,h3⟩,λ⟨r,h1,h2,h3⟩=>⟨r,h1,eA.mpr h2,h3⟩⟩]at ht
    have hrl6:=e6 _ _ hrl5;walk_at"";refine bJ hrl6 (dO (by rw[EK];omega)) ?_;refine⟨_,?_,rs++[t],_,N+1,rfl,λb o hb=>?_,by rw[aE,E3];rfl,by rw[E4,hln];rfl,dw.put hrl6 (λxs z=>by cases z) ((hlv5.ext e6).add (by rw[hln];exact ht)),?_,(hov5.ext e6).put nts,?_,hsn2,rfl⟩
    ·omega
    ·rw[ay (cg hb hrln)];exact(e5.trans e6) b o hb
    ·rw[ay ntl];exact e6 _ _ htl5
    ·rw[ay nsl.symm];exact e6 _ _ hsd5
  ·clear hrl3 hlv3 htl hov e4 hln rs;rintro σ H4 ⟨rs,kvs,N,b,rfl,e4,hrl,hln,hlv,hsd4,hN,b1,b2,b3,hval⟩;obtain⟨ar,har⟩:∃ar,rs[N]?=some ar:=⟨_,EL (by omega)⟩;have hat:bz (List.map V.ref rs) (-1)=some (.ref ar):=o4 (k:=N) (by rw[EK];exact hln) (by rw[EM,har];rfl);have hkey:H4 ar=some (.tup ((bF ws x m.toNat N).map kV)):=by rw[ua];exact hlv N ar har
   walk_at"";refine iI (ag.of hrl) (bW λrl2 H5 e5 hrl2 _=>?_);rw[vW (k:=N) (by rw[EK];exact hln),←List.map_take]at hrl2;walk_at"";refine aF (ag.of (e5 _ _ hrl)) hat ?_;walk_at"";refine⟨sd,.int (b:Int),rfl,by rw[←hval];exact bY.t (e5 _ _ hsd4) (k:=bF ws x m.toNat N) (e5 _ _ hkey),?_⟩;walk_at"";refine aJ λt H6 e6 ht _=>?_;exact q t rl2 (rs.take N) b N H6 (e1.trans (e4.trans (e5.trans e6))) ht (e6 _ _ hrl2) (by rw[FA,hln];omega) b2 (by omega) (λl a ha=>(e5.trans e6) _ _ (hlv l a (by rw[List.getElem?_take]at ha;split at ha;exact ha;cases ha))) (λr hr=>AV ok.ok ⟨x0,x1,x2⟩ (by omega) b2 (Ag b3) r hr)
def Ea(x:Int)(xs:List Int):ij (.int x) (xs.map V.int)=xs.contains x:=by
 unfold ij;rw[List.any_map,Fn,Fm,List.contains_iff_mem];constructor
 ·rintro⟨y,hy,e⟩;have e':(y == x)=true:=e;rw[←(by simpa using e':y=x)];exact hy
 ·intro hx;exact⟨x,hx,by show(x == x)=true;simp⟩
def Ci(xs:List Int):(xs.map V.int).all eS=true:=by rw[List.all_map,Fl];intro x _;rfl
def Av{f:Nat->Bool}{n r:Nat}(hr:r<n):ij (.int (r:Int)) ((row f 0 n).map V.int)=f r:=by rw[Ea,Fn,List.contains_iff_mem,fo,EY];exact⟨λh=>h.2.2,λh=>⟨by omega,by omega,h⟩⟩
def dv.et{H H':Hp}{v:V}{b s:Int}{o a:List Int}(e:Et H H')(h:dv H v b s o a):dv H' v b s o a:=by obtain⟨p,q,r,rfl,h1,h2,h3⟩:=h;exact⟨p,q,r,rfl,e _ _ h1 (λps z=>by cases z),e _ _ h2 (λps z=>by cases z),e _ _ h3 (λps z=>by cases z)⟩
def cA.et{H H':Hp}(e:Et H H'){xs:List V}{m:Nat}{Fs:Nat->Nat->Bool}(h:cA H xs m Fs):cA H' xs m Fs:=⟨h.1,λr v hv=>by obtain⟨l,d,h1,h2⟩:=h.2 r v hv;exact⟨l,d,h1.et e,h2⟩⟩
def cA.put{H:Hp}{xs:List V}{m:Nat}{Fs:Nat->Nat->Bool}{p:Addr}{o:HO}{os:List V}(hp:H p=some (.lst os))(h:cA H xs m Fs):cA (upd H p o) xs m Fs:=⟨h.1,λr v hv=>by obtain⟨l,d,⟨a,b,c,rfl,h1,h2,h3⟩,h4⟩:=h.2 r v hv;exact⟨l,d,⟨a,b,c,rfl,by rw[ay (bO h1 hp (by intro z;cases z))];exact h1,by rw[ay (bO h2 hp (by intro z;cases z))];exact h2,by rw[ay (bO h3 hp (by intro z;cases z))];exact h3⟩,h4⟩⟩
def cA.snoc{H:Hp}{xs:List V}{n l d:Nat}{Fs:Nat->Nat->Bool}{v:V}(h:cA H xs n Fs)(hv:dv H v l d (row (Fs n) 0 l) (row (Fs n) l d))(hL:Least (Fs n) d l)(hd:l+d<=10000):cA H (xs++[v]) (n+1) Fs:=⟨by rw[E4,h.1];rfl,λr u hu=>by
 by_cases hr:r<xs.length
 ·rw[Fc hr]at hu;exact h.2 r u hu
 ·rw[Fb (by omega)]at hu;have hz:r-xs.length=0:=by have:=(EU.mp hu).1;simp at this;omega
  rw[hz]at hu;cases hu;rw[show r=n by have:=h.1;omega];exact⟨l,d,hv,hL,hd⟩⟩
def i7.ls{H:Hp}{vs:List V}{m:Int}{ws:List Way}{x:Bfs.Pl}(h:i7 H vs m ws x):cA H vs m.toNat λr i=>bo ws x i r:=⟨by have:=h.1;omega,λr v hv=>by
 obtain⟨F,l,d,h1,h2,h3,h4,h5⟩:=h.2 r v hv;have e:(λi=>bo ws x i r)=F:=funext λi=>by rw[Fn,eA,h5]
 refine⟨l,d,?_,?_,by omega⟩<;>show _<;>simp only[e]
 ·exact h1
 ·exact h2⟩
def qI(K:EG):Sp:=λvs H Q _=>∃(vh:V) (m:Int) (ws:List Way) (pa:Addr) (x:Bfs.Pl),vs=[vh,.ref pa]/\bw H vh m ws/\HOuse m ws/\aA H pa x/\fM m x/\x.2<=300 ∧
 ∀l xs H',Ext H H'->H' l=some (.lst xs)->cA H' xs m.toNat (λr i=>bo ws x i r)->Q (.ref l) H'
abbrev pB:Stmt:=stq 65
def wB:FnScope ["_law_house_here","_law_place_here","_law_rows","_law_back","_law_due","_law_room"] ["_law_house_here","_law_place_here"] (aM pB):=⟨rfl,rfl,rfl,by decide +kernel,rfl,by decide +kernel,by decide +kernel⟩
def A3{P:Program}{w:World}{K:EG}{mg:Str->Option Value}{base:Heap}(D:Dfn K mg "_law_stairs_due" pB ["_law_house_here","_law_place_here"])(T:Blt mg)(C__law_least:Cal P w K mg base "_law_least" 1 ["_law_bits","_law_base","_law_step"] (sf K))(C__law_levels:Cal P w K mg base "_law_levels" 3 ["_law_house_here","_law_place_here"] (q0 K)):Cal P w K mg base "_law_stairs_due" 4 ["_law_house_here","_law_place_here"] (qI K):=by
 have nd:=(wB).nd;refine D.ok wB (λvs H Q E h=>?_) (λX hX H vs Q E h=>?_)
 ·obtain⟨vh,m,ws,pa,x,rfl,_⟩:=h;rfl
 ·obtain⟨f,cdv,A,outer,s,H0,E0,rfl,hr⟩:=hX;obtain⟨vh,m,ws,pa,x,rfl,hv,ok,hx,ix,hx3,q⟩:=h;have m1:=ok.m1;have m12:=ok.m12;obtain⟨hh,hq,rfl,k1,_⟩:=id hv;refine⟨_,(@aj _ _ _ _ _ (@gF _ _ _ _ _ _ (aH C__law_levels hr (@aa _ _ _ _ _ (pv 0) (@aa _ _ _ _ _ (pv 1) ae rfl) rfl)) (gm (n:=2) K rfl (b6 (aK (i:=2) nd rfl (Or.inl rfl)) (b6 (aK (i:=3) nd rfl (Or.inl rfl)) fU))) rfl rfl rfl)
    (@aj _ _ _ _ _ (@aG _ _ 4 _ _ _ _ nd rfl (Or.inl rfl) (@bq _ _ _ _ ae) rfl (Or.inl rfl))
    (@aj _ _ _ _ _ (bH PassesOwn.never rfl (bR rfl T.range_ (@aa _ _ _ _ _ (@ah _ _ _ _ _ _ _ (aC K) (pv 0) af (λ_ _=>rfl)) ae rfl)) (aK (i:=5) nd rfl (Or.inr rfl)) (@ao _ _ _ (bt (bE K ET E7 E8 bL (pv 4) (@aa _ _ _ _ _ (aH C__law_least hr (@aa _ _ _ _ _ (cx ["_law_row"] [5] (cK K (pv 2)) (λ_=>(aK (i:=0) (show(["_law_row","_law_room"]:List Str).Nodup from by decide +kernel) rfl (Or.inl rfl) (Or.inr rfl))) (λ_=>dD) (λ_=>(eW (Dm K) (pv 1) (pv 0) (by with_unfolding_all rfl)))) (@aa _ _ _ _ _ (pv 3) (@aa _ _ _ _ _ (aq cG (bh (cY K) rfl T.len_ PySem.boot_len (@aa _ _ _ _ _ (pv 2) ae rfl)) (pv 3)) ae rfl) rfl) rfl)) ae rfl)))))
    (@ao _ _ _ (@aL _ _ _ _ (pv 4)))))),?_⟩
  walk_at"";refine⟨_,m,ws,pa,x,rfl,hv,ok,hx,ix,hx3,λt rl rs b N H1 e1 ht hrl hrs hbN hN hlv hper=>?_⟩;walk_at"";refine gN (ai.of ht) rfl ?_;walk_at"";refine aJ λdu H2 e2 hdu hdun=>?_;walk_at"";refine aB (ai.of ((e1.trans e2) _ _ k1)) (v:=.int m) rfl ?_;walk_at"";refine bS (by omega) ?_;refine forR (λi σ H'=>∃ys c5,σ=[some (.ref hh),some (.ref pa),some (.ref rl),some (.int (b:Int)),some (.ref du),c5]/\Ext H1 H'/\H' du=some (.lst ys)/\cA H' ys i (λr i=>bo ws x i r)) ⟨[],_,rfl,e2,hdu,rfl,λr v h=>by simp at h⟩ ?_ ?_
  ·clear hdu e2 H2;rintro i σ H2 hi ⟨ys,c5,rfl,e2,hdu,hls⟩;rw[show (0:Int)+(i:Int)=((i:Nat):Int) by omega];walk_at"";refine⟨cB (ag.of hdu),?_⟩;walk_at"";have hrl2:=e2 _ _ hrl;refine cH (ag.of hrl2) ?_;refine g9 (xs:=List.map V.ref rs) (λj zs H'=>H'=H2/\zs=aO j (λl=>bo ws x l i)) (br (by rw[EK];omega)) ⟨rfl,rfl⟩ (λj zs H' hj h=>⟨by rw[h.1];exact ag.of hrl2,by rw[h.2,cL];exact E6 _⟩) ?_ ?_
   ·rintro j u zs H3 hu ⟨rfl,rfl⟩;rw[EM]at hu;obtain⟨ar,har,rfl⟩:=EX.mp hu;walk_at"";refine aD ?_;walk_at"";refine BR (.inr (ai.of (e2 _ _ (hlv j ar har)))) rfl (Ci _) ?_;refine⟨rfl,?_⟩;rw[i8];congr 3;exact Av (by omega)
   ·rintro zs H3 p9 ⟨rfl,rfl⟩ hp9;have e3:=aX (o:=.lst (aO (List.map V.ref rs).length (λl=>bo ws x l i))) hp9;have h9:(upd H3 p9 (.lst (aO (List.map V.ref rs).length (λl=>bo ws x l i)))) p9=some (.lst (aO (List.map V.ref rs).length (λl=>bo ws x l i))):=aE;generalize upd H3 p9 (.lst (aO (List.map V.ref rs).length (λl=>bo ws x l i)))=H4 at e3 h9 ⊢;rw[EK,hrs]at h9;walk_at"";refine eh (ag.of (e3 _ _ hrl2)) ?_;rw[EK,hrs];walk_at"";refine⟨p9,b,N-b,N,_,by rw[show ((N:Nat):Int)-(b:Int)=((N-b:Nat):Int) by omega];rfl,by omega,by omega,by omega,h9,hper i (by omega),λv l d H5 e5 hL hl hd hst=>?_⟩;have hdu5:=(e3.trans e5) _ _ hdu;walk_at"";refine bJ hdu5 (dO (by have:=hls.1;omega)) ?_;refine⟨ys++[v],_,rfl,bK (e2.trans (e3.trans e5)) hdun,by rw[aE],cA.put hdu5 ((hls.ext (e3.trans e5)).snoc hst hL (by omega))⟩
  ·clear hdu e2 H2;rintro σ H2 ⟨ys,c5,rfl,e2,hdu,hls⟩;walk_at"";exact q du ys H2 (e1.trans e2) hdu hls
def cN.put{K:EG}{x q:Str}{line col:Nat}{H:Hp}{l:Addr}{xs ys:List V}(h:cN K x q line col H)(hl:H l=some (.lst xs)):cN K x q line col (upd H l (.lst ys)):=λc T ht=>by
 rcases h c T ht with h|⟨c',h1,h2⟩
 ·exact .inl (by rw[ay (bO h hl (by intro z;cases z))];exact h)
 ·exact .inr ⟨c',by rw[ay (bO h1 hl (by intro z;cases z))];exact h1,by rw[ay (bO h2 hl (by intro z;cases z))];exact h2⟩
def Tbs.put{K:EG}{H:Hp}{l:Addr}{xs ys:List V}(h:Tbs K H)(hl:H l=some (.lst xs)):Tbs K (upd H l (.lst ys)):=⟨cN.put h.kept hl,cN.put h.low hl,cN.put h.risen hl⟩
def kf(K:EG):Sp:=λvs H Q _=>∃(a:Addr) (ns:List Int),vs=[.ref a]/\ag K H a (ns.map V.int)/\ns.length<=63/\(∀y∈(["kept","low_levels","risen"]:List Str),∀c T,PySem.W.tabIn K y=some (c,T)->H T=some (.tbl #[]))/\gU K/\∀H',Q (.bl true) H'
abbrev fP:Stmt:=stq 70
def uF:FnScope ["_law_script","_law_house_here","_law_place_here","_law_other","_law_due","_law_found"] ["_law_script"] (aM fP):=⟨rfl,rfl,rfl,by decide +kernel,rfl,by decide +kernel,by decide +kernel⟩
def yS{P:Program}{w:World}{K:EG}{mg:Str->Option Value}{base:Heap}{f:Addr}{fd:FuncData}(F:Fun K "law" "law" fP f fd)(T:Blt mg)(C__law_stairs_are:Cal P w K mg base "_law_stairs_are" 4 ["_law_found","_law_due"] (sO K))(C_forward:Cal P w K mg base "forward" 10 ["house","place"] (xG K))(C__law_stairs_due:Cal P w K mg base "_law_stairs_due" 4 ["_law_house_here","_law_place_here"] (qI K))(C__law_place:Cal P w K mg base "_law_place" 3 ["_law_house_here","_law_cell_here","_law_prime"] (oo K))(C__law_cell:Cal P w K mg base "_law_cell" 1 ["_law_script","_law_k"] (wz K))(C__law_any_place:Cal P w K mg base "_law_any_place" 4 ["_law_house_here","_law_cell_here","_law_prime"] (xF K))(C__law_house:Cal P w K mg base "_law_house" 4 ["_law_cell_here","_law_prime"] (wG K)):FnOk P w K mg base dU 11 f fd ["_law_script"] (kf K):=by
 have nd:=(uF).nd;refine F.ok uF (λvs H Q E h=>?_) (λcdv A outer s H vs Q E hr h=>?_)
 ·obtain⟨a,ns,rfl,_⟩:=h;rfl
 ·obtain⟨a,ns,rfl,ha,hl,hT,dis,q⟩:=h;have tab0:Tbs K H:=⟨λc T e=>.inl (hT _ (by simp) c T e),λc T e=>.inl (hT _ (by simp) c T e),λc T e=>.inl (hT _ (by simp) c T e)⟩;clear hT;refine⟨_,(@aj _ _ _ _ _ (@aG _ _ 1 _ _ _ _ nd rfl (Or.inl rfl) (aH C__law_house hr (@aa _ _ _ _ _ (aH C__law_cell hr (@aa _ _ _ _ _ (pv 0) (@aa _ _ _ _ _ af ae rfl) rfl)) (@aa _ _ _ _ _ af ae rfl) rfl)) rfl (Or.inl rfl))
    (@aj _ _ _ _ _ (@aG _ _ 2 _ _ _ _ nd rfl (Or.inl rfl) (aH C__law_any_place hr (@aa _ _ _ _ _ (pv 1) (@aa _ _ _ _ _ (aH C__law_cell hr (@aa _ _ _ _ _ (pv 0) (@aa _ _ _ _ _ af ae rfl) rfl)) (@aa _ _ _ _ _ af ae rfl) rfl) rfl)) rfl (Or.inl rfl))
    (@aj _ _ _ _ _ (@aG _ _ 3 _ _ _ _ nd rfl (Or.inl rfl) (aH C__law_place hr (@aa _ _ _ _ _ (pv 1) (@aa _ _ _ _ _ (aH C__law_cell hr (@aa _ _ _ _ _ (pv 0) (@aa _ _ _ _ _ af ae rfl) rfl)) (@aa _ _ _ _ _ af ae rfl) rfl) rfl)) rfl (Or.inl rfl))
    (@aj _ _ _ _ _ (@aG _ _ 4 _ _ _ _ nd rfl (Or.inl rfl) (aH C__law_stairs_due hr (@aa _ _ _ _ _ (pv 1) (@aa _ _ _ _ _ (pv 2) ae rfl) rfl)) rfl (Or.inl rfl))
    (@aj _ _ _ _ _ (@aG _ _ 5 _ _ _ _ nd rfl (Or.inl rfl) (aH C_forward hr (@aa _ _ _ _ _ (pv 1) (@aa _ _ _ _ _ (pv 2) ae rfl) rfl)) rfl (Or.inl rfl))
    (@aj _ _ _ _ _ (@bU _ _ _ _ _ _ _ _ (dm (bQ (aH C__law_stairs_are hr (@aa _ _ _ _ _ (pv 5) (@aa _ _ _ _ _ (pv 4) ae rfl) rfl)))) (@ao _ _ _ (@aL _ _ _ _ bX)) aY)
    (@aj _ _ _ _ _ (bt (bE K ET E7 E8 bL (pv 5) (@aa _ _ _ _ _ (@ah _ _ _ _ _ _ _ (aI K) (pv 4) af (λ_ _=>rfl)) ae rfl)))
    (@aj _ _ _ _ _ (@gF _ _ _ _ _ _ (@LitE.pe _ _ _ (.tup (.cons .int (.cons .int (.cons (.tup .nil) (.cons (.tup .nil) .nil)))))) (iL (pv 5) af set_list) rfl rfl rfl)
    (@aj _ _ _ _ _ (@bU _ _ _ _ _ _ _ _ (dm (bQ (aH C__law_stairs_are hr (@aa _ _ _ _ _ (aH C_forward hr (@aa _ _ _ _ _ (pv 1) (@aa _ _ _ _ _ (pv 3) ae rfl) rfl)) (@aa _ _ _ _ _ (aH C__law_stairs_due hr (@aa _ _ _ _ _ (pv 1) (@aa _ _ _ _ _ (pv 3) ae rfl) rfl)) ae rfl) rfl)))) (@ao _ _ _ (@aL _ _ _ _ bX)) aY)
    (@ao _ _ _ (@aL _ _ _ _ (aH C__law_stairs_are hr (@aa _ _ _ _ _ (aH C_forward hr (@aa _ _ _ _ _ (pv 1) (@aa _ _ _ _ _ (pv 2) ae rfl) rfl)) (@aa _ _ _ _ _ (pv 4) ae rfl) rfl))))))))))))),?_⟩
  walk_at"";refine⟨a,ns,0,rfl,ha,hl,by decide,λz=>?_⟩;walk_at"";refine⟨z,_,rfl,by decide,λv m ws H1 e1 hv ok3=>?_⟩;have ok:=ok3.house;have m1:=ok.m1;have m2:=ok.m12;walk_at"";refine⟨a,ns,1,rfl,ha.ext e1,hl,by decide,λz2=>?_⟩;walk_at"";refine⟨v,m,ws,z2,_,rfl,hv,m1,by decide,λpa x H2 e2 hx x0 x1 x2 x3=>?_⟩;have ix:fM m x:=⟨x0,x1,x2,by omega⟩;walk_at"";refine⟨a,ns,2,rfl,ha.ext (e1.trans e2),hl,by decide,λz3=>?_⟩;walk_at"";refine⟨v,m,ws,z3,_,rfl,hv.ext e2,m1,by decide,λpb y H3 e3 hy y0 y1 y2 y3=>?_⟩;have iy:fM m y:=⟨y0,y1,y2,by omega⟩;have hv3:=hv.ext (e2.trans e3);have hx3:aA H3 pa x:=e3 _ _ hx;have tb3:=tab0.ext (e1.trans (e2.trans e3));clear hv hx tab0 e1 e2 e3 ha;walk_at"";refine⟨v,m,ws,pa,x,rfl,hv3,ok,hx3,ix,x3,λdu ys H4 e4 hdu hls=>?_⟩;have hv4:=hv3.ext e4;have hx4:aA H4 pa x:=e4 _ _ hx3;have hy4:aA H4 pb y:=e4 _ _ hy;have tb4:=tb3.ext e4;clear hv3 hx3 hy tb3 e4;walk_at"";refine⟨v,m,ws,pa,x,rfl,hv4,ok,hx4,ix,dis,tb4,λl xs H5 e5 tb5 hfr hl5 hfw=>?_⟩;have hdu5:=e5 _ _ hdu (λps z=>by cases z);walk_at"";refine⟨l,du,xs,ys,_,_,rfl,hl5,hdu5,hfw.ls,hls.et e5,by omega,λH6 e6=>?_⟩;walk_at"";refine az ?_;have hl6:=e6 _ _ hl5;have hdu6:=e6 _ _ hdu5;have hyl:=hls.1;have hxl:=hfw.1;obtain⟨u0,hu0⟩:∃u0,ys[0]?=some u0:=⟨_,EL (by omega)⟩;walk_at"";refine⟨cB (ag.of hl6),?_⟩;walk_at"";refine aF (ag.of hdu6) (v:=u0) (dP (by decide) hu0) ?_;walk_at"";refine bJ hl6 (dO (by omega)) ?_;walk_at"";refine aJ λq1 H7 e7 _ _=>?_;walk_at"";refine aJ λq2 H8 e8 _ _=>?_;walk_at"";refine aJ λq3 H9 e9 _ _=>?_;have e79:=e7.trans (e8.trans e9);have hl9:H9 l=some (.lst (xs++[u0])):=e79 _ _ aE;walk_at"";refine iN hl9 (iF (by decide) (by rw[E4];omega)) ?_;have tb10:Tbs K (upd H9 l (.lst ((xs++[u0]).set (0:Int).toNat (.ref q3)))):=(((tb5.ext e6).put hl6 (ys:=xs++[u0])).ext e79).put hl9;have e10:Et H4 (upd H9 l (.lst ((xs++[u0]).set (0:Int).toNat (.ref q3)))):=λb o hb hn=>by
   have hbl:b≠l:=λz=>by subst z;obtain⟨ps,hps⟩:=hfr o hb;exact hn ps hps
   rw[ay hbl];have h6:=(e5.trans e6.et) b o hb hn;refine e79 _ _ ?_;rw[ay hbl];exact h6
  generalize upd H9 l (.lst ((xs++[u0]).set (0:Int).toNat (.ref q3)))=H10 at tb10 e10 ⊢;clear hl9 e79 e9 e8 e7 hu0 hyl hxl hdu6 hl6 e6 hdu5 hfw hl5 hfr tb5 e5;have hv10:=hv4.et e10;have hx10:aA H10 pa x:=aA.et e10 hx4;have hy10:aA H10 pb y:=aA.et e10 hy4;have hdu10:=e10 _ _ hdu (λps z=>by cases z);have hls10:=hls.et e10;clear hv4 hx4 hy4 hdu hls tb4 e10;walk_at"";refine⟨v,m,ws,pb,y,rfl,hv10,ok,hy10,iy,dis,tb10,λl2 xs2 H11 e11 tb11 _ hl11 hfw=>?_⟩;walk_at"";refine⟨v,m,ws,pb,y,rfl,hv10.et e11,ok,aA.et e11 hy10,iy,by omega,λdu2 ys2 H12 e12 hdu12 hls12=>?_⟩;walk_at"";refine⟨l2,du2,xs2,ys2,_,_,rfl,e12 _ _ hl11,hdu12,(hfw.ext e12).ls,hls12,by omega,λH13 e13=>?_⟩;walk_at"";refine az ?_;have e1013:=e11.trans (e12.trans e13).et;walk_at"";refine⟨v,m,ws,pa,x,rfl,hv10.et e1013,ok,aA.et e1013 hx10,ix,dis,tb11.ext (e12.trans e13),λl3 xs3 H14 e14 tb14 _ hl14 hfw3=>?_⟩;have e1014:=e1013.trans e14;walk_at"";refine⟨l3,du,xs3,ys,_,_,rfl,hl14,e1014 _ _ hdu10 (λps z=>by cases z),hfw3.ls,hls10.et e1014,by omega,λH15 e15=>?_⟩;exact q _
abbrev Dq(K:EG)(mg:Str->Option Value)(x:Str)(st:Stmt):Prop:=∃(f:Addr) (fd:FuncData),mg x=some (.ref f)/\Fun K x x st f fd
def dq{K:EG}{h:Heap}{mg:Str->Option Value}(X:K.In h)(G:h.Ns mainGlobals mg){x:Str}{st:Stmt}{f:Addr}{od an:Option Addr}{sl:Array (Option Value)}{oc kV dc pm cd ct:Value}(a:PySem.W.nsIn K mainGlobals x=some (some (.ref f)))(l:K.lookup f=some ⟨oc,od,.func (PySem.W.fnOf x x (gR st) (eV st) (aM st) .none kV dc pm an cd ct),sl⟩)(c:PySem.W.codeIn K cd x=true)(k:PySem.W.keepIn K (.ref f)=true):Dq K mg x st:=⟨f,_,PySem.W.mg_of X G a,xC (st:=st) l c k⟩
abbrev bd(x:Str)(st:Stmt)(us:List Value)(r:List (Str×Value)):Prop:=∀(kV doc pm:Value) (an:Option Addr) (cdv ct:Value),bindArgs (PySem.W.fnOf x x (gR st) (eV st) (aM st) .none kV doc pm an cdv ct) ⟨us,[]⟩=pure r
def cX{K:EG}{mg:Str->Option Value}{x:Str}{st:Stmt}(p0:Str)(d:Dq K mg x st)(h:∀u0,bd x st [u0] [(p0,u0)]):Dfn K mg x st [p0]:=let ⟨f,fd,a,F⟩:=d;⟨f,fd,a,F,F.binds (ps:=[p0]) λ_ _ _ _ _ _ us hl=>match us,hl with|[_],_=>h _ _ _ _ _ _ _⟩
def bN{K:EG}{mg:Str->Option Value}{x:Str}{st:Stmt}(p0 p1:Str)(d:Dq K mg x st)(h:∀u0 u1,bd x st [u0,u1] [(p0,u0),(p1,u1)]):Dfn K mg x st [p0,p1]:=let ⟨f,fd,a,F⟩:=d;⟨f,fd,a,F,F.binds (ps:=[p0,p1]) λ_ _ _ _ _ _ us hl=>match us,hl with|[_,_],_=>h _ _ _ _ _ _ _ _⟩
def f7{K:EG}{mg:Str->Option Value}{x:Str}{st:Stmt}(p0 p1 p2:Str)(d:Dq K mg x st)(h:∀u0 u1 u2,bd x st [u0,u1,u2] [(p0,u0),(p1,u1),(p2,u2)]):Dfn K mg x st [p0,p1,p2]:=let ⟨f,fd,a,F⟩:=d;⟨f,fd,a,F,F.binds (ps:=[p0,p1,p2]) λ_ _ _ _ _ _ us hl=>match us,hl with|[_,_,_],_=>h _ _ _ _ _ _ _ _ _⟩
def zE{K:EG}{mg:Str->Option Value}{x:Str}{st:Stmt}(p0 p1 p2 p3:Str)(d:Dq K mg x st)(h:∀u0 u1 u2 u3,bd x st [u0,u1,u2,u3] [(p0,u0),(p1,u1),(p2,u2),(p3,u3)]):Dfn K mg x st [p0,p1,p2,p3]:=let ⟨f,fd,a,F⟩:=d;⟨f,fd,a,F,F.binds (ps:=[p0,p1,p2,p3]) λ_ _ _ _ _ _ us hl=>match us,hl with|[_,_,_,_],_=>h _ _ _ _ _ _ _ _ _ _⟩
def all_mk{l:PySem.W.OpenLaw}{w:World}{K:EG}{h:Heap}{mg:Str->Option Value}{fa:Addr}(X:K.In h)(G:h.Ns mainGlobals mg)(hfa:mg "law" = some (.ref fa))
  (d0:Dq K mg "_law_whole" nH)
  (d1:Dq K mg "_law_rises" pw)
  (d2:Dq K mg "_law_is_stair" pA)
  (d3:Dq K mg "_law_stairs_are" nO)
  (d4:Dq K mg "least_step" mD)
  (d5:Dq K mg "stair_of_marks" lU)
  (d6:Dq K mg "stair_of_room" nM)
  (d7:Dq K mg "next_level" n6)
  (d8:Dq K mg "reached" oJ)
  (d9:Dq K mg "told_pairs" lI)
  (d10:Dq K mg "add_arches" oF)
  (d11:Dq K mg "join_walks" oj)
  (d12:Dq K mg "ways_of_deed" oq)
  (d13:Dq K mg "beginning_table" mG)
  (d14:Dq K mg "kept_table" mI)
  (d15:Dq K mg "is_sign" pK)
  (d16:Dq K mg "is_deed" pF)
  (d17:Dq K mg "is_whole" mE)
  (d18:Dq K mg "is_room" lh)
  (d19:Dq K mg "is_way" mY)
  (d20:Dq K mg "are_ways" mn)
  (d21:Dq K mg "is_house" nS)
  (d22:Dq K mg "refuse_no_house" lK)
  (d23:Dq K mg "kept" oW)
  (d24:Dq K mg "ways_by_room" ny)
  (d25:Dq K mg "is_open" nU)
  (d26:Dq K mg "raised_by" oX)
  (d27:Dq K mg "led_to" oY)
  (d28:Dq K mg "led_to_from" mB)
  (d29:Dq K mg "low_beside" lx)
  (d30:Dq K mg "low_levels" nY)
  (d31:Dq K mg "risen" pE)
  (d32:Dq K mg "all_levels" oy)
  (d33:Dq K mg "refuse_bad_places" m7)
  (d34:Dq K mg "forward" lQ)
  (d35:Dq K mg "_law_least" m8)
  (d36:Dq K mg "_law_raised" pT)
  (d37:Dq K mg "_law_along" m9)
  (d38:Dq K mg "_law_over" lZ)
  (d39:Dq K mg "_law_behind" mZ)
  (d40:Dq K mg "_law_come" nj)
  (d41:Dq K mg "_law_levels" n8)
  (d42:Dq K mg "_law_stairs_due" pB)
  (d43:Dq K mg "_law_mixed" mi)
  (d44:Dq K mg "_law_draws" nB)
  (d45:Dq K mg "_law_place" nV)
  (d46:Dq K mg "_law_cell" pN)
  (d47:Dq K mg "_law_number" mF)
  (d48:Dq K mg "_law_spare" lg)
  (d49:Dq K mg "_law_any_place" oC)
  (d50:Dq K mg "_law_unlike" lR)
  (d51:Dq K mg "_law_drawn_house" ng)
  (d52:Dq K mg "_law_gate_house" mU)
  (d53:Dq K mg "_law_ring_house" mL)
  (d54:Dq K mg "_law_house" nh)
  {f55:Addr} {od55 an55:Option Addr} {sl55:Array (Option Value)} {oc55 kV55 dc55 pm55 cd55 ct55:Value} (a55:PySem.W.nsIn K mainGlobals "law" = some (some (.ref f55))) (l55:K.lookup f55=some ⟨oc55,od55,.func (PySem.W.fnOf "law" "law" (gR fP) (eV fP) (aM fP) .none kV55 dc55 pm55 an55 cd55 ct55),sl55⟩) (c55:PySem.W.codeIn K cd55 "law" = true) (k55:PySem.W.keepIn K (.ref f55)=true)
  (z0:PySem.W.nsIn K mainGlobals "len" = some none)
  (z1:PySem.W.nsIn K mainGlobals "isinstance" = some none)
  (z2:PySem.W.nsIn K mainGlobals "tuple" = some none)
  (z3:PySem.W.nsIn K mainGlobals "list" = some none)
  (z4:PySem.W.nsIn K mainGlobals "int" = some none)
  (z5:PySem.W.nsIn K mainGlobals "bool" = some none)
  (z6:PySem.W.nsIn K mainGlobals "range" = some none)
  (z7:PySem.W.nsIn K mainGlobals "zip" = some none)
  (z8:PySem.W.nsIn K mainGlobals "max" = some none)
  (z9:PySem.W.nsIn K mainGlobals "min" = some none)
  (z10:PySem.W.nsIn K mainGlobals "abs" = some none)
  (z11:PySem.W.nsIn K mainGlobals "all" = some none)
  (z12:PySem.W.nsIn K mainGlobals "enumerate" = some none)
  (z13:PySem.W.nsIn K mainGlobals "set" = some none)
  (z14:PySem.W.nsIn K mainGlobals "str" = some none)
  (z15:PySem.W.nsIn K mainGlobals "any" = some none)
  (z16:PySem.W.nsIn K mainGlobals "sorted" = some none)
  {t0:Tok} (v0:PySem.W.nsIn K mainGlobals "GREATEST_WAYS" = some (some (.int 100 t0)))
  {t1:Tok} (v1:PySem.W.nsIn K mainGlobals "GREATEST_MANY" = some (some (.int 12 t1)))
  {t2:Tok} (v2:PySem.W.nsIn K mainGlobals "GREATEST_NUMBER" = some (some (.int 1000 t2)))
  {e0:Addr} {q0_0 u0_0 q0_1 u0_1 q0_2 u0_2 q0_3 u0_3:Tok} {ep0:Nat} (x0:PySem.W.nsIn K mainGlobals "TURNED" = some (some (.ref e0))) (y0:K.lookup e0=some (iW w [("up",q0_0,.str "down" u0_0),("down",q0_1,.str "up" u0_1),("stay",q0_2,.str "stay" u0_2),("zero",q0_3,.str "zero" u0_3)] ep0)) (w0:(e0 == sysModules)=false)
  {e1:Addr} {q1_0 u1_0 q1_1 u1_1 q1_2 u1_2 q1_3 u1_3:Tok} {ep1:Nat} (x1:PySem.W.nsIn K mainGlobals "RAISED" = some (some (.ref e1))) (y1:K.lookup e1=some (iW w [("up",q1_0,.int (1) u1_0),("down",q1_1,.int (-1) u1_1),("stay",q1_2,.int (0) u1_2),("zero",q1_3,.int (0) u1_3)] ep1)) (w1:(e1 == sysModules)=false)
  : ∃fd:FuncData,(∀(s:Shared) (v:Value),BindsTo s fd ⟨[v],[]⟩ [("_law_script",v)])/\∀base:Heap,K.In base->base.Ns mainGlobals mg->(∀y∈(["kept","low_levels","risen"]:List Str),∃c T,Tab K mg base y c T)->FnOk l.prog w K mg base dU 11 fa fd ["_law_script"] (kf K):=by
 have e:=hfa.symm.trans (PySem.W.mg_of X G a55);cases e;have T:Blt mg:=⟨PySem.W.mg_none_of X G z0,PySem.W.mg_none_of X G z1,PySem.W.mg_none_of X G z2,PySem.W.mg_none_of X G z3,PySem.W.mg_none_of X G z4,PySem.W.mg_none_of X G z5,PySem.W.mg_none_of X G z6,PySem.W.mg_none_of X G z7,PySem.W.mg_none_of X G z8,PySem.W.mg_none_of X G z9,PySem.W.mg_none_of X G z10,PySem.W.mg_none_of X G z11,PySem.W.mg_none_of X G z12,PySem.W.mg_none_of X G z13,PySem.W.mg_none_of X G z14,PySem.W.mg_none_of X G z15,PySem.W.mg_none_of X G z16⟩;have D0:=cX "_law_found" d0 λ_ _ _ _ _ _ _=>rfl;have D1:=f7 "_law_row" "_law_low" "_law_high" d1 λ_ _ _ _ _ _ _ _ _=>rfl;have D2:=cX "_law_found" d2 λ_ _ _ _ _ _ _=>rfl;have D3:=bN "_law_found" "_law_due" d3 λ_ _ _ _ _ _ _ _=>rfl;have D4:=cX "turn" d4 λ_ _ _ _ _ _ _=>rfl;have D5:=bN "marks" "base" d5 λ_ _ _ _ _ _ _ _=>rfl;have D6:=f7 "levels" "base" "room" d6 λ_ _ _ _ _ _ _ _ _=>rfl;have D7:=bN "rises" "level" d7 λ_ _ _ _ _ _ _ _=>rfl;have D8:=bN "place" "beside" d8 λ_ _ _ _ _ _ _ _=>rfl;have D9:=bN "house" "choice" d9 λ_ _ _ _ _ _ _ _=>rfl;have D10:=f7 "table" "ups" "downs" d10 λ_ _ _ _ _ _ _ _ _=>rfl;have D11:=cX "table" d11 λ_ _ _ _ _ _ _=>rfl;have D12:=bN "house" "deed" d12 λ_ _ _ _ _ _ _ _=>rfl;have D13:=cX "house" d13 λ_ _ _ _ _ _ _=>rfl;have D14:=cX "house" d14 λ_ _ _ _ _ _ _=>rfl;have D15:=cX "thing" d15 λ_ _ _ _ _ _ _=>rfl;have D16:=cX "thing" d16 λ_ _ _ _ _ _ _=>rfl;have D17:=cX "thing" d17 λ_ _ _ _ _ _ _=>rfl;have D18:=bN "thing" "many" d18 λ_ _ _ _ _ _ _ _=>rfl;have D19:=bN "thing" "many" d19 λ_ _ _ _ _ _ _ _=>rfl;have D20:=bN "thing" "many" d20 λ_ _ _ _ _ _ _ _=>rfl;have D21:=cX "thing" d21 λ_ _ _ _ _ _ _=>rfl;have D22:=cX "thing" d22 λ_ _ _ _ _ _ _=>rfl;have D23:=cX "house" d23 λ_ _ _ _ _ _ _=>rfl;have D24:=cX "house" d24 λ_ _ _ _ _ _ _=>rfl;have D25:=bN "way" "place" d25 λ_ _ _ _ _ _ _ _=>rfl;have D26:=cX "way" d26 λ_ _ _ _ _ _ _=>rfl;have D27:=bN "way" "place" d27 λ_ _ _ _ _ _ _ _=>rfl;have D28:=bN "ways" "place" d28 λ_ _ _ _ _ _ _ _=>rfl;have D29:=zE "ways" "keeps" "top" "here" d29 λ_ _ _ _ _ _ _ _ _ _=>rfl;have D30:=bN "house" "place" d30 λ_ _ _ _ _ _ _ _=>rfl;have D31:=cX "house" d31 λ_ _ _ _ _ _ _=>rfl;have D32:=bN "house" "place" d32 λ_ _ _ _ _ _ _ _=>rfl;have D33:=bN "house" "places" d33 λ_ _ _ _ _ _ _ _=>rfl;have D34:=bN "house" "place" d34 λ_ _ _ _ _ _ _ _=>rfl;have D35:=f7 "_law_bits" "_law_base" "_law_step" d35 λ_ _ _ _ _ _ _ _ _=>rfl;have D36:=bN "_law_rooms" "_law_table" d36 λ_ _ _ _ _ _ _ _=>rfl;have D37:=bN "_law_house_here" "_law_room" d37 λ_ _ _ _ _ _ _ _=>rfl;have D38:=cX "_law_house_here" d38 λ_ _ _ _ _ _ _=>rfl;have D39:=bN "_law_house_here" "_law_place_here" d39 λ_ _ _ _ _ _ _ _=>rfl;have D40:=f7 "_law_house_here" "_law_place_here" "_law_top" d40 λ_ _ _ _ _ _ _ _ _=>rfl;have D41:=bN "_law_house_here" "_law_place_here" d41 λ_ _ _ _ _ _ _ _=>rfl;have D42:=bN "_law_house_here" "_law_place_here" d42 λ_ _ _ _ _ _ _ _=>rfl;have D43:=f7 "_law_cell_here" "_law_k" "_law_prime" d43 λ_ _ _ _ _ _ _ _ _=>rfl;have D44:=f7 "_law_cell_here" "_law_widths" "_law_prime" d44 λ_ _ _ _ _ _ _ _ _=>rfl;have D45:=f7 "_law_house_here" "_law_cell_here" "_law_prime" d45 λ_ _ _ _ _ _ _ _ _=>rfl;have D46:=bN "_law_script" "_law_k" d46 λ_ _ _ _ _ _ _ _=>rfl;have D47:=bN "_law_cell_here" "_law_prime" d47 λ_ _ _ _ _ _ _ _=>rfl;have D48:=bN "_law_cell_here" "_law_width" d48 λ_ _ _ _ _ _ _ _=>rfl;have D49:=f7 "_law_house_here" "_law_cell_here" "_law_prime" d49 λ_ _ _ _ _ _ _ _ _=>rfl;have D50:=cX "_law_ways" d50 λ_ _ _ _ _ _ _=>rfl;have D51:=bN "_law_cell_here" "_law_prime" d51 λ_ _ _ _ _ _ _ _=>rfl;have D52:=bN "_law_cell_here" "_law_prime" d52 λ_ _ _ _ _ _ _ _=>rfl;have D53:=bN "_law_cell_here" "_law_prime" d53 λ_ _ _ _ _ _ _ _=>rfl;have D54:=bN "_law_cell_here" "_law_prime" d54 λ_ _ _ _ _ _ _ _=>rfl;refine⟨PySem.W.fnOf "law" "law" (gR fP) (eV fP) (aM fP) .none kV55 dc55 pm55 an55 cd55 ct55,λs v=>.of_eq rfl,λbase KB GB HB=>?_⟩;have C0:=@CZ l.prog w K mg base D0 T;have C1:=@CJ l.prog w K mg base D1 T C0;have C2:=@BG l.prog w K mg base D2 T C1 C0;have C3:=@Cs l.prog w K mg base D3 T C2;have C4:=@AD l.prog w K mg base D4 T;have C5:=@Df l.prog w K mg base D5 T C4;have C6:=@Dn l.prog w K mg base D6 T C5;have C7:=@B6 l.prog w K mg base D7 T;have C8:=@Bc l.prog w K mg base D8 T;have C9:=@zO l.prog w K mg base D9 T;have C10:=@zl l.prog w K mg base D10 T;have C11:=@B2 l.prog w K mg base D11 T;have C12:=@Dx l.prog w K mg base D12 T;have C13:=@BB l.prog w K mg base D13 T C12;have C14:=@zr l.prog w K mg base D14 T C10 C11 C12 C13;have C15:=@Ec l.prog w K mg base D15 T;have C16:=@By l.prog w K mg base D16 T ⟨_,PySem.W.mg_of X G x0,Cj y0 w0⟩;have C17:=@BH l.prog w K mg base D17 T;have C18:=@CM l.prog w K mg base D18 T C17;have C19:=@Ah l.prog w K mg base D19 T C15 C16 C18;have C20:=@CQ l.prog w K mg base D20 T ⟨_,PySem.W.mg_of X G v0⟩ C19;have C21:=@DE l.prog w K mg base D21 T ⟨_,PySem.W.mg_of X G v1⟩ C20 C17;have C22:=@Ct l.prog w K mg base D22 T C21;obtain⟨c239,T239,B23⟩:=HB "kept" (by simp);have C23:Cal l.prog w K mg base "kept" 7 ["house"] (mf K):=Au D23 T B23 C9 C14 C22;have C24:=@yw l.prog w K mg base D24 T;have C25:=@DR l.prog w K mg base D25 T;have C26:=@Bp l.prog w K mg base D26 T ⟨_,PySem.W.mg_of X G x1,yh y1 w1⟩;have C27:=@xM l.prog w K mg base D27 T C26;have C28:=@yl l.prog w K mg base D28 T C25 C27;have C29:=@Dl l.prog w K mg base D29 T C28;obtain⟨c309,T309,B30⟩:=HB "low_levels" (by simp);have C30:Cal l.prog w K mg base "low_levels" 8 ["house","place"] (oI K):=Ez D30 T B30 C8 C23 C24 C29;obtain⟨c319,T319,B31⟩:=HB "risen" (by simp);have C31:Cal l.prog w K mg base "risen" 7 ["house"] (lJ K):=zX D31 T B31 C9 C12 C14 C22;have C32:=@DZ l.prog w K mg base D32 T C7 C30 C31;have C33:=@Bq l.prog w K mg base D33 T ⟨_,PySem.W.mg_of X G v2⟩ C18;have C34:=@B4 l.prog w K mg base D34 T C6 C32 C33 C22;have C35:=@Cz l.prog w K mg base D35 T;have C36:=@yU l.prog w K mg base D36 T;have C37:=@AU l.prog w K mg base D37 T;have C38:=@Cn l.prog w K mg base D38 T C37;have C39:=@Ef l.prog w K mg base D39 T;have C40:=@zc l.prog w K mg base D40 T C39;have C41:=@Eh l.prog w K mg base D41 T C36 C38 C40;have C42:=@A3 l.prog w K mg base D42 T C35 C41;have C43:=@zT l.prog w K mg base D43 T;have C44:=@ye l.prog w K mg base D44 T C43;have C45:=@Cr l.prog w K mg base D45 T C44;have C46:=@xT l.prog w K mg base D46 T;have C47:=@Ex l.prog w K mg base D47 T C44;have C48:=@B8 l.prog w K mg base D48 T;have C49:=@CC l.prog w K mg base D49 T C47 C48 C45;have C50:=@El l.prog w K mg base D50 T;have C51:=@xV l.prog w K mg base D51 T C50 C44;have C52:=@zw l.prog w K mg base D52 T C50 C44;have C53:=@xW l.prog w K mg base D53 T C44;have C54:=@Cb l.prog w K mg base D54 T C51 C52 C53 C48 C44;exact yS (xC (st:=fP) l55 c55 k55) T C3 C34 C42 C45 C46 C49 C54
def walk{l:PySem.W.OpenLaw}{q:Program}{loose:List Str}{XP:(Str->Option Value)->Heap->Prop}{YP:World->Heap->Prop}{d:DefRec}{K:Params->EG}(hn:l.most=some 63)(hdf:d.params.defaults=[])
  (hY:∀(w:World) (h:Heap),YP w h->(K w.params).In h) (hK:∀w:World,PySem.W.noTabs (K w.params)=true) (hrec:∀y∈(["kept","low_levels","risen"]:List Str),((PyProof.Rows.recsOf q).find? (λe=>e.name == y)).isSome=true) (htab:∀(w:World),∀y∈(["kept","low_levels","risen"]:List Str),(PySem.W.tabIn (K w.params) y).isSome=true) (hdis:∀w:World,gU (K w.params))
  (F:∀(w:World) (mg:Str->Option Value) (fa:Addr) (h:Heap),(K w.params).In h->h.Ns mainGlobals mg->mg d.name=some (.ref fa) →
   ∃fd:FuncData,(∀(s:Shared) (u:Value),BindsTo s fd ⟨[u],[]⟩ [("_law_script",u)])/\∀base:Heap,(K w.params).In base->base.Ns mainGlobals mg->(∀y∈(["kept","low_levels","risen"]:List Str),∃c T,Tab (K w.params) mg base y c T)->FnOk l.prog w (K w.params) mg base dU 11 fa fd ["_law_script"] (kf (K w.params))) :
  PySem.W.WalkO q loose XP YP l.row.toRowW d [] (λf vs=>PySem.call f vs):=
 L2.Bd (n:=63) (k:=11) (x:="_law_script") (sp:=λw=>kf (K w.params)) ["kept","low_levels","risen"] hn (by decide) hdf ⟨rfl,by decide,by decide⟩ hY hK hrec htab F λw H a ns hl hT hS=>⟨a,ns,rfl,hS,hl,hT,hdis w,λ_=>rfl⟩
end My
end
open PySem PySem.W PyProof.Rows
set_option maxRecDepth 100000 in
set_option maxHeartbeats 0 in
theorem PySem.Challenge.cw_stairrooms_k28_whole_forward_holds : PySem.Challenge.rw_stairrooms_k28_whole_forward.Holds := by
 refine My.top ?_
 k_fill
 refine My.walk (l := PySem.Challenge.rw_stairrooms_k28_whole_forward) rfl rfl (λw h Y => PySem.W.km_in_of Y) (λw => by kernel_rfl) ?R (λw => ?Tb) (λw => My.yY (by kernel_rfl)) ?F
 case R => intro y hy; simp only [List.mem_cons, List.not_mem_nil, or_false] at hy; rcases hy with rfl|rfl|rfl <;> kernel_rfl
 case Tb => intro y hy; simp only [List.mem_cons, List.not_mem_nil, or_false] at hy; rcases hy with rfl|rfl|rfl <;> kernel_rfl
 case F =>
  intro w mg fa h KX G hmg;have q := @My.dq _ _ _ KX G
  refine' My.all_mk KX G hmg (q ?a0 ?l0 ?c0 ?k0) (q ?a1 ?l1 ?c1 ?k1) (q ?a2 ?l2 ?c2 ?k2) (q ?a3 ?l3 ?c3 ?k3) (q ?a4 ?l4 ?c4 ?k4) (q ?a5 ?l5 ?c5 ?k5) (q ?a6 ?l6 ?c6 ?k6) (q ?a7 ?l7 ?c7 ?k7) (q ?a8 ?l8 ?c8 ?k8) (q ?a9 ?l9 ?c9 ?k9) (q ?a10 ?l10 ?c10 ?k10) (q ?a11 ?l11 ?c11 ?k11) (q ?a12 ?l12 ?c12 ?k12) (q ?a13 ?l13 ?c13 ?k13) (q ?a14 ?l14 ?c14 ?k14) (q ?a15 ?l15 ?c15 ?k15) (q ?a16 ?l16 ?c16 ?k16) (q ?a17 ?l17 ?c17 ?k17) (q ?a18 ?l18 ?c18 ?k18) (q ?a19 ?l19 ?c19 ?k19) (q ?a20 ?l20 ?c20 ?k20) (q ?a21 ?l21 ?c21 ?k21) (q ?a22 ?l22 ?c22 ?k22) (q ?a23 ?l23 ?c23 ?k23) (q ?a24 ?l24 ?c24 ?k24) (q ?a25 ?l25 ?c25 ?k25) (q ?a26 ?l26 ?c26 ?k26) (q ?a27 ?l27 ?c27 ?k27) (q ?a28 ?l28 ?c28 ?k28) (q ?a29 ?l29 ?c29 ?k29) (q ?a30 ?l30 ?c30 ?k30) (q ?a31 ?l31 ?c31 ?k31) (q ?a32 ?l32 ?c32 ?k32) (q ?a33 ?l33 ?c33 ?k33) (q ?a34 ?l34 ?c34 ?k34) (q ?a35 ?l35 ?c35 ?k35) (q ?a36 ?l36 ?c36 ?k36) (q ?a37 ?l37 ?c37 ?k37) (q ?a38 ?l38 ?c38 ?k38) (q ?a39 ?l39 ?c39 ?k39) (q ?a40 ?l40 ?c40 ?k40) (q ?a41 ?l41 ?c41 ?k41) (q ?a42 ?l42 ?c42 ?k42) (q ?a43 ?l43 ?c43 ?k43) (q ?a44 ?l44 ?c44 ?k44) (q ?a45 ?l45 ?c45 ?k45) (q ?a46 ?l46 ?c46 ?k46) (q ?a47 ?l47 ?c47 ?k47) (q ?a48 ?l48 ?c48 ?k48) (q ?a49 ?l49 ?c49 ?k49) (q ?a50 ?l50 ?c50 ?k50) (q ?a51 ?l51 ?c51 ?k51) (q ?a52 ?l52 ?c52 ?k52) (q ?a53 ?l53 ?c53 ?k53) (q ?a54 ?l54 ?c54 ?k54) ?a55 ?l55 ?c55 ?k55 ?z0 ?z1 ?z2 ?z3 ?z4 ?z5 ?z6 ?z7 ?z8 ?z9 ?z10 ?z11 ?z12 ?z13 ?z14 ?z15 ?z16 ?v0 ?v1 ?v2 ?x0 ?y0 ?w0 ?x1 ?y1 ?w1
  case a0|l0|c0|k0|a1|l1|c1|k1|a2|l2|c2|k2|a3|l3|c3|k3|a4|l4|c4|k4|a5|l5|c5|k5|a6|l6|c6|k6|a7|l7|c7|k7|a8|l8|c8|k8|a9|l9|c9|k9|a10|l10|c10|k10|a11|l11|c11|k11|a12|l12|c12|k12|a13|l13|c13|k13|a14|l14|c14|k14|a15|l15|c15|k15|a16|l16|c16|k16|a17|l17|c17|k17|a18|l18|c18|k18|a19|l19|c19|k19|a20|l20|c20|k20|a21|l21|c21|k21|a22|l22|c22|k22|a23|l23|c23|k23|a24|l24|c24|k24|a25|l25|c25|k25|a26|l26|c26|k26|a27|l27|c27|k27|a28|l28|c28|k28|a29|l29|c29|k29|a30|l30|c30|k30|a31|l31|c31|k31|a32|l32|c32|k32|a33|l33|c33|k33|a34|l34|c34|k34|a35|l35|c35|k35|a36|l36|c36|k36|a37|l37|c37|k37|a38|l38|c38|k38|a39|l39|c39|k39|a40|l40|c40|k40|a41|l41|c41|k41|a42|l42|c42|k42|a43|l43|c43|k43|a44|l44|c44|k44|a45|l45|c45|k45|a46|l46|c46|k46|a47|l47|c47|k47|a48|l48|c48|k48|a49|l49|c49|k49|a50|l50|c50|k50|a51|l51|c51|k51|a52|l52|c52|k52|a53|l53|c53|k53|a54|l54|c54|k54|a55|l55|c55|k55|z0|z1|z2|z3|z4|z5|z6|z7|z8|z9|z10|z11|z12|z13|z14|z15|z16|v0|v1|v2=>k_is
  (case x0 => k_is); (case y0 => k_is); (case w0 => first|rfl|k_is)
  (case x1 => k_is); (case y1 => k_is); (case w1 => first|rfl|k_is)
