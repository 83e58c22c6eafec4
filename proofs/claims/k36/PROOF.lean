import PyProof.Rows.All
import Wide.All
import OpenK.AllK
import Wide.FinOn
import Lean
import PyProof.EqAt
import PyProof.EqKinds
import PyProof.TupleCall
import KE.KLam
import PySem.Challenge.RW_stairrooms_k36_never_conditions
set_option Elab.async false
namespace PySem.W.Fast
theorem tw220609753943645781:True:=trivial
theorem tw13845997145780296109:True:=trivial
theorem tw16921718083302042939:True:=trivial
theorem tw9478813727029378433:True:=trivial
theorem tw2786828017252582702:True:=trivial
theorem tw10373438808742528016:True:=trivial
theorem tw11258306804293243132:True:=trivial
theorem tw4545497819255724011:True:=trivial
theorem tw9248597171148506525:True:=trivial
theorem tw17367211499228228923:True:=trivial
theorem tw10488480282212314105:True:=trivial
theorem tw8969608423780577650:True:=trivial
theorem tw850187462625632381:True:=trivial
theorem tw14977234088687162302:True:=trivial
theorem tw6658185936689682968:True:=trivial
theorem tw10841842699899734311:True:=trivial
theorem tw10500720501580190231:True:=trivial
theorem tw800831887125934919:True:=trivial
theorem tw5096499008420852698:True:=trivial
theorem tw3501889831259424984:True:=trivial
theorem tw11506949944486722818:True:=trivial
theorem tw11198388801270196117:True:=trivial
theorem tw7176572640101177836:True:=trivial
theorem tw6093179522131556990:True:=trivial
theorem tw447717403241242290:True:=trivial
theorem tw15415030129712708594:True:=trivial
theorem tw512557566824241540:True:=trivial
theorem tw17438179399263098937:True:=trivial
theorem tw16669810761675009345:True:=trivial
theorem tw15529604674929473973:True:=trivial
theorem tw12249993202121903794:True:=trivial
theorem tw6181847661251503008:True:=trivial
theorem tw1754243070517289278:True:=trivial
theorem tw16821967185522334815:True:=trivial
theorem tw10276969695076772373:True:=trivial
theorem tw13587432420489492189:True:=trivial
theorem tw12664327836493813462:True:=trivial
theorem tw2355404199824840798:True:=trivial
theorem tw16980547499210933930:True:=trivial
theorem tw16507177298177948937:True:=trivial
theorem tw14867130098325134529:True:=trivial
theorem tw1057306937073154610:True:=trivial
theorem tw7750769465160294860:True:=trivial
theorem tw3121732170634265723:True:=trivial
theorem tw2904058922640873309:True:=trivial
theorem tw119674054762100072:True:=trivial
theorem tw9878173891806150429:True:=trivial
theorem tw9281662355237421915:True:=trivial
theorem tw8487562230406468105:True:=trivial
theorem tw5956051100702781606:True:=trivial
theorem tw16291882091215157828:True:=trivial
theorem tw15660991250957307376:True:=trivial
theorem tw14292392306617517729:True:=trivial
theorem tw6178244272827954729:True:=trivial
theorem tw18066811921283522515:True:=trivial
theorem tw17831088686795452451:True:=trivial
theorem tw15438610589593914328:True:=trivial
theorem tw4074507585887532813:True:=trivial
theorem tw15924826414491783191:True:=trivial
theorem tw14025392896863203041:True:=trivial
theorem tw13820470126673855253:True:=trivial
theorem tw13021086612755893400:True:=trivial
theorem tw12323772569751236006:True:=trivial
theorem tw4855646995411632120:True:=trivial
theorem tw4797132809794432123:True:=trivial
theorem tw17744632191838401134:True:=trivial
theorem tw14849095896601040367:True:=trivial
theorem tw119775208399524090:True:=trivial
theorem tw11030641428109492703:True:=trivial
theorem tw5442971307982108685:True:=trivial
theorem tw5010354932100547165:True:=trivial
theorem tw456031100195234908:True:=trivial
theorem tw4307926830116509514:True:=trivial
theorem tw2696157109874119690:True:=trivial
theorem tw17843839365795533554:True:=trivial
theorem tw17581992280946622230:True:=trivial
theorem tw16964212798373946863:True:=trivial
theorem tw16826725409987885975:True:=trivial
theorem tw16245695487900975421:True:=trivial
theorem tw15729792075999087868:True:=trivial
theorem tw15186367229040268510:True:=trivial
theorem tw12993445975515111361:True:=trivial
theorem tw9590536906216307355:True:=trivial
theorem tw8035931760809384120:True:=trivial
theorem tw14397947794671477899:True:=trivial
theorem tw14109453767193502313:True:=trivial
theorem tw11787554532782738252:True:=trivial
theorem tw10118012357411222232:True:=trivial
theorem tw7848866751621661257:True:=trivial
theorem tw7341270039093922885:True:=trivial
theorem tw7134983793405793177:True:=trivial
theorem tw7115244209674446852:True:=trivial
theorem tw6714801024506940561:True:=trivial
theorem tw5994711959094706394:True:=trivial
theorem tw590611807225418770:True:=trivial
theorem tw5140171473248983199:True:=trivial
theorem tw4817981600543833687:True:=trivial
theorem tw4769826392853288355:True:=trivial
theorem tw17357414001117552268:True:=trivial
theorem tw17218974888202052536:True:=trivial
theorem tw16632375998614247822:True:=trivial
theorem tw1488503510874697304:True:=trivial
theorem tw14832175709080873599:True:=trivial
theorem tw14775263502782431712:True:=trivial
theorem tw14670137783204244808:True:=trivial
theorem tw14221475358252599964:True:=trivial
theorem tw13135487405686255751:True:=trivial
theorem tw12296552071639831032:True:=trivial
theorem tw11339562753883754242:True:=trivial
theorem tw1069010634818593453:True:=trivial
theorem tw10095913671755900038:True:=trivial
theorem tw684117499851941213:True:=trivial
theorem tw5425565988235752197:True:=trivial
theorem tw5019332986140449700:True:=trivial
theorem tw1921160878016633958:True:=trivial
theorem tw18127141830633905074:True:=trivial
theorem tw17843169823834903998:True:=trivial
theorem tw16221219022901355867:True:=trivial
theorem tw14415884991196681418:True:=trivial
theorem tw13679643304169797691:True:=trivial
theorem tw11701492411309977178:True:=trivial
theorem tw11551815002882820457:True:=trivial
theorem tw11282886037220131173:True:=trivial
theorem tw9119751986894142981:True:=trivial
theorem tw8568187914498332850:True:=trivial
theorem tw720755081136891062:True:=trivial
theorem tw7175792842613744815:True:=trivial
theorem tw705330452703051597:True:=trivial
theorem tw4801039527111802282:True:=trivial
theorem tw343839832772155065:True:=trivial
theorem tw3104486758596841148:True:=trivial
theorem tw2419298105991278453:True:=trivial
theorem tw18101583386606535240:True:=trivial
theorem tw16843462989757039891:True:=trivial
theorem tw16408023001231065620:True:=trivial
theorem tw15291515778787918541:True:=trivial
theorem tw15104015179872336855:True:=trivial
theorem tw1492062709326496596:True:=trivial
theorem tw14905269560852764671:True:=trivial
theorem tw5581349078452510653:True:=trivial
theorem tw3258786278723069861:True:=trivial
theorem tw17065142239566038489:True:=trivial
theorem tw16743919102785911483:True:=trivial
theorem tw13809386149585982481:True:=trivial
theorem tw12261729195969336472:True:=trivial
theorem tw10017577030591726147:True:=trivial
theorem tw9930359092145622687:True:=trivial
theorem tw974001917477778970:True:=trivial
theorem tw931510637493425866:True:=trivial
theorem tw9254883793231693245:True:=trivial
theorem tw9002392303285804385:True:=trivial
theorem tw8783073200307453229:True:=trivial
theorem tw8377945894465552080:True:=trivial
theorem tw8143298780573084396:True:=trivial
theorem tw7956301941440062040:True:=trivial
theorem tw7875707854763748492:True:=trivial
theorem tw7863108119856694670:True:=trivial
theorem tw7693350481814642131:True:=trivial
theorem tw762384175361060421:True:=trivial
theorem tw6252878086273825581:True:=trivial
theorem tw6008010531490865865:True:=trivial
theorem tw5190860397250508396:True:=trivial
theorem tw4869967250276580588:True:=trivial
theorem tw4169430970946328830:True:=trivial
theorem tw3941131271490555836:True:=trivial
theorem tw3866599564448483793:True:=trivial
theorem tw3760063030202703356:True:=trivial
theorem tw3711776433476670718:True:=trivial
theorem tw3017139974649574989:True:=trivial
theorem tw3015604971527890583:True:=trivial
theorem tw2448602276733661166:True:=trivial
theorem tw1980078614172103820:True:=trivial
theorem tw1901317781093569649:True:=trivial
theorem tw18334927389422029420:True:=trivial
theorem tw18207201711260066481:True:=trivial
theorem tw18038851775406917655:True:=trivial
theorem tw17994301212061070119:True:=trivial
theorem tw17925923492730016652:True:=trivial
theorem tw17729564300890611173:True:=trivial
theorem tw17644514534155135092:True:=trivial
theorem tw17423125552162021742:True:=trivial
theorem tw17076493798685594974:True:=trivial
theorem tw17002439396945247550:True:=trivial
theorem tw16840622159041910090:True:=trivial
theorem tw1682181479755940848:True:=trivial
theorem tw16655684592037453736:True:=trivial
theorem tw16575673167688372683:True:=trivial
theorem tw16477329177891185698:True:=trivial
theorem tw1637453852661378490:True:=trivial
theorem tw16180315334032665911:True:=trivial
theorem tw1612923964453859806:True:=trivial
theorem tw15266785391687444539:True:=trivial
theorem tw15142431143280010732:True:=trivial
theorem tw1488474676173749703:True:=trivial
theorem tw14800109303040266240:True:=trivial
theorem tw14793259975867257014:True:=trivial
theorem tw14774234679712429206:True:=trivial
theorem tw14429984225472846677:True:=trivial
theorem tw14322595565739780087:True:=trivial
theorem tw13817142068744991791:True:=trivial
theorem tw13769731409856085057:True:=trivial
theorem tw12679859039530741841:True:=trivial
theorem tw12650994420537281789:True:=trivial
theorem tw12357872333080808881:True:=trivial
theorem tw11985937269989024962:True:=trivial
theorem tw11362101791794971524:True:=trivial
theorem tw11137535781475439334:True:=trivial
theorem tw10785498421680218836:True:=trivial
theorem tw1073818698688927204:True:=trivial
theorem tw10424792985553544811:True:=trivial
theorem tw10121643642846045468:True:=trivial
theorem tw9602979466950630956:True:=trivial
theorem tw912290570786946579:True:=trivial
theorem tw8777541643666118068:True:=trivial
theorem tw8572175281459272771:True:=trivial
theorem tw8125407811402774585:True:=trivial
theorem tw684210181549580303:True:=trivial
theorem tw6744984778823417519:True:=trivial
theorem tw621812022307901172:True:=trivial
theorem tw5920227957080817638:True:=trivial
theorem tw3612554134655720397:True:=trivial
theorem tw3566807236516140644:True:=trivial
theorem tw3415376743198261602:True:=trivial
theorem tw2093290091728733057:True:=trivial
theorem tw193794278739742225:True:=trivial
theorem tw18032779900021213040:True:=trivial
theorem tw17795394019121955329:True:=trivial
theorem tw17716863462265859512:True:=trivial
theorem tw16661212229125270991:True:=trivial
theorem tw16219145617115034907:True:=trivial
theorem tw13746588304753895505:True:=trivial
theorem tw9816307224394526710:True:=trivial
theorem tw902582806634263858:True:=trivial
theorem tw8722415481117505015:True:=trivial
theorem tw8604979696160575008:True:=trivial
theorem tw8444893750286939596:True:=trivial
theorem tw8184033042858750843:True:=trivial
theorem tw8147721191793257292:True:=trivial
theorem tw8039774922555296384:True:=trivial
theorem tw8037652997034423971:True:=trivial
theorem tw7904445426397662059:True:=trivial
theorem tw7897135418779063302:True:=trivial
theorem tw7627118995241731642:True:=trivial
theorem tw7259079589770855615:True:=trivial
theorem tw6942357351460751399:True:=trivial
theorem tw6704578965310311189:True:=trivial
theorem tw6429728187070590260:True:=trivial
theorem tw6393150591798677637:True:=trivial
theorem tw6350474685870504171:True:=trivial
theorem tw6158425238486604569:True:=trivial
theorem tw5861546300858528307:True:=trivial
theorem tw5821001088122574322:True:=trivial
theorem tw5717963241065829162:True:=trivial
theorem tw5430882940802126740:True:=trivial
theorem tw4933930183700603765:True:=trivial
theorem tw4566636315000093172:True:=trivial
theorem tw4530914875774024943:True:=trivial
theorem tw4337561567144917162:True:=trivial
theorem tw4138905410403352593:True:=trivial
theorem tw3855077825024126993:True:=trivial
theorem tw3220723017206680370:True:=trivial
theorem tw3182821167057557991:True:=trivial
theorem tw3008007984704827758:True:=trivial
theorem tw2520694231678862498:True:=trivial
theorem tw2248526150547823735:True:=trivial
theorem tw2217001567337907910:True:=trivial
theorem tw2187499721780371684:True:=trivial
theorem tw2045930578084102194:True:=trivial
theorem tw2020109458520273824:True:=trivial
theorem tw1856151083423349262:True:=trivial
theorem tw1847224927995124329:True:=trivial
theorem tw18324572440802094995:True:=trivial
theorem tw1818218476948158209:True:=trivial
theorem tw18159918767601648018:True:=trivial
theorem tw17694846207451314135:True:=trivial
theorem tw17645572048654386869:True:=trivial
theorem tw17628590533929976792:True:=trivial
theorem tw17571631200592639834:True:=trivial
theorem tw17405045028177135956:True:=trivial
theorem tw17238752558760652402:True:=trivial
theorem tw16988158499489311127:True:=trivial
theorem tw16924412733494049589:True:=trivial
theorem tw1691102865124860179:True:=trivial
theorem tw16835956152608702361:True:=trivial
theorem tw16283258727396688951:True:=trivial
theorem tw16164986634524919498:True:=trivial
theorem tw15860708213811878519:True:=trivial
theorem tw1584613233581267300:True:=trivial
theorem tw156604256827902990:True:=trivial
theorem tw15641575440650329080:True:=trivial
theorem tw15565656631415577005:True:=trivial
theorem tw15414259988211055499:True:=trivial
theorem tw15319796435752655959:True:=trivial
theorem tw15003257448840769609:True:=trivial
theorem tw14585778381282314952:True:=trivial
theorem tw14560837491469231475:True:=trivial
theorem tw14324394720252608761:True:=trivial
theorem tw1428814744893504695:True:=trivial
theorem tw13841191037290658594:True:=trivial
theorem tw1382559312744143635:True:=trivial
theorem tw13814131451427507189:True:=trivial
theorem tw13788262537284159298:True:=trivial
theorem tw13385619842731796546:True:=trivial
theorem tw13298203722689827917:True:=trivial
theorem tw1304240117979556626:True:=trivial
theorem tw12996499756298277263:True:=trivial
theorem tw11971130579796114034:True:=trivial
theorem tw11858878876565515630:True:=trivial
theorem tw11801650391622900179:True:=trivial
theorem tw11788803944947964044:True:=trivial
theorem tw11687504721054253588:True:=trivial
theorem tw11665305186481523908:True:=trivial
theorem tw11655376856063916228:True:=trivial
theorem tw11646202046503260017:True:=trivial
theorem tw11612187849094769778:True:=trivial
theorem tw11605670760853518920:True:=trivial
theorem tw11365700717142005424:True:=trivial
theorem tw11166862733661299840:True:=trivial
theorem tw11029396596865941829:True:=trivial
theorem tw10769681086646498438:True:=trivial
theorem tw10698238366409207256:True:=trivial
theorem tw10263077061500514125:True:=trivial
theorem tw10154314827766144001:True:=trivial
theorem tw10035081181641441020:True:=trivial
end PySem.W.Fast
section
open PySem PySem.W PyProof.Rows
set_option maxRecDepth 100000 in
set_option maxHeartbeats 0 in
open_top My.top for PySem.Challenge.rw_stairrooms_k36_never_conditions
end
noncomputable section
set_option linter.all false
set_option maxRecDepth 100000
namespace L2
open PySem PySem.Spec PyProof.Rows
abbrev Key:=Sum Int Str
def fG:Key->Value->Bool
 | .inl k,v=>Value.isInt k v
 | .inr x,v=>Value.isStrOf x v
def zK(w:World):Key->Int
 | .inl k=>hashInt k
 | .inr x=>hashStr w x
theorem dI:∀{k:Key} {v:Value},fG k v=true->(∃i t,k=Sum.inl i/\v=Value.int i t)\/(∃x t,k=Sum.inr x/\v=Value.str x t)
 | .inl i,v,h=>by
  obtain⟨t,e⟩:=Value.isInt_shape (k:=i) (v:=v) h
  exact .inl ⟨i,t,rfl,e⟩
 | .inr x,v,h=>by
  obtain⟨t,e⟩:=Value.isStrOf_shape (x:=x) (v:=v) h
  exact .inr ⟨x,t,rfl,e⟩
theorem xp(i:Int)(t:Tok):fG (.inl i) (.int i t)=true:=by simp[fG,Value.isInt]
theorem vW(x:Str)(t:Tok):fG (.inr x) (.str x t)=true:=by simp[fG,Value.isStrOf]
theorem xA(a b:Int):decide ((Sum.inl a:Key)=Sum.inl b)=(a == b):=by
 by_cases e:a=b
 ·subst e;simp
 ·have h:¬(Sum.inl a:Key)=Sum.inl b:=fun q=>e (Sum.inl.inj q)
  rw[decide_eq_false h]
  exact(beq_eq_false_iff_ne.mpr e).symm
theorem xY(a b:Str):decide ((Sum.inr a:Key)=Sum.inr b)=decide (a=b):=by
 by_cases e:a=b
 ·subst e;simp
 ·have h:¬(Sum.inr a:Key)=Sum.inr b:=fun q=>e (Sum.inr.inj q)
  rw[decide_eq_false h,decide_eq_false e]
theorem AJ(a:Int)(b:Str):decide ((Sum.inl a:Key)=Sum.inr b)=false:=decide_eq_false (fun q=>nomatch q)
theorem yW(a:Str)(b:Int):decide ((Sum.inr a:Key)=Sum.inl b)=false:=decide_eq_false (fun q=>nomatch q)
def aM(prog:Program)(w:World):PySem.KeyKind prog w Key where
 is:=fG
 hash:=zK w
 inj:=fun v a b ha hb=>by
  rcases dI ha with⟨i,t,rfl,rfl⟩ | ⟨x,t,rfl,rfl⟩
  ·rcases dI hb with⟨j,u,rfl,e⟩ | ⟨y,u,rfl,e⟩
   ·injection e with e1 _;rw[e1]
   ·exact nomatch e
  ·rcases dI hb with⟨j,u,rfl,e⟩ | ⟨y,u,rfl,e⟩
   ·exact nomatch e
   ·injection e with e1 _;rw[e1]
 byValue:=fun k v h=>by
  rcases dI h with⟨i,t,rfl,rfl⟩ | ⟨x,t,rfl,rfl⟩<;>rfl
 pyHash:=fun hv h=>by
  rcases dI hv with⟨i,t,rfl,rfl⟩ | ⟨x,t,rfl,rfl⟩
  ·exact wpAny_pyHash_int h
  ·exact wpAny_pyHash_str h
 eqBool:=fun hu hv h=>by
  rcases dI hu with⟨i,t,rfl,rfl⟩ | ⟨x,t,rfl,rfl⟩
  ·rcases dI hv with⟨j,u,rfl,rfl⟩ | ⟨y,u,rfl,rfl⟩
   ·rw[xA]at h;exact wpAny_eqBool_int h
   ·rw[AJ]at h;exact SeqAt.EqAt.int_str i t y u _ _ _ _ h
  ·rcases dI hv with⟨j,u,rfl,rfl⟩ | ⟨y,u,rfl,rfl⟩
   ·rw[yW]at h;exact SeqAt.EqAt.str_int x t j u _ _ _ _ h
   ·rw[xY]at h;exact wpAny_eqBool_str h
 «strs»:=fun k x t v h=>by
  rcases dI h with⟨i,u,rfl,e⟩ | ⟨y,u,rfl,e⟩
  ·exact nomatch e
  ·injection e with e1 _
   subst e1
   cases v<;>rfl
theorem vj(prog:Program)(w:World)(i:Int)(t:Tok):(aM prog w).is (.inl i) (.int i t)=true:=xp i t
theorem lN(prog:Program)(w:World)(x:Str)(t:Tok):(aM prog w).is (.inr x) (.str x t)=true:=vW x t
end L2
namespace L2
open PySem PySem.Spec PyProof.Rows
inductive V where
 | non | bl (b:Bool) | int (i:Int) | str (x:Str) | byt (b:Array UInt8) | flt (b:UInt64) | ref (a:Addr) | ty (n:String)
 deriving DecidableEq
def RelV:V->Value->Prop
 | .non,u=>u=Value.none
 | .bl b,u=>u=Value.bool b
 | .int i,u=>∃t,u=Value.int i t
 | .str x,u=>∃t,u=Value.str x t
 | .byt b,u=>∃t,u=Value.bytes b t
 | .flt b,u=>∃t,u=Value.float b t
 | .ref a,u=>u=Value.ref a
 | .ty n,u=>u=Value.type n
abbrev Vals:List V->List Value->Prop:=Paired RelV
theorem Vals.length{xs:List V}{us:List Value}(r:Vals xs us):xs.length=us.length:=Paired.length r
theorem Vals.get:∀{xs:List V} {us:List Value} {i:Nat} {x:V},Vals xs us->xs[i]?=some x->∃u,us[i]?=some u/\RelV x u
 | _,_,_,_,.nil,e=>by simp at e
 | _,_,0,_,.cons r _,e=>by simp at e;subst e;exact⟨_,rfl,r⟩
 | _,_,i+1,x,.cons _ t,e=>by
  obtain⟨u,h1,h2⟩:=Vals.get (i:=i) (x:=x) t (by simpa using e)
  exact⟨u,by simpa using h1,h2⟩
theorem Vals.set{x:V}{u:Value}(r:RelV x u):∀{xs:List V} {us:List Value} (i:Nat),Vals xs us->Vals (xs.set i x) (us.set i u)
 | _,_,_,.nil=>.nil
 | _,_,0,.cons _ t=>.cons r t
 | _,_,i+1,.cons q t=>.cons q (Vals.set r i t)
theorem Vals.append:∀{xs ys:List V} {us ws:List Value},Vals xs us->Vals ys ws->Vals (xs++ys) (us++ws)
 | _,_,_,_,.nil,s=>s
 | _,_,_,_,.cons r t,s=>.cons r (Vals.append t s)
theorem Vals.take:∀{xs:List V} {us:List Value} (n:Nat),Vals xs us->Vals (xs.take n) (us.take n)
 | _,_,0,_=>.nil
 | _,_,_+1,.nil=>.nil
 | _,_,n+1,.cons r t=>.cons r (Vals.take n t)
theorem Vals.drop:∀{xs:List V} {us:List Value} (n:Nat),Vals xs us->Vals (xs.drop n) (us.drop n)
 | _,_,0,r=>r
 | _,_,_+1,.nil=>.nil
 | _,_,n+1,.cons _ t=>Vals.drop n t
def dU:Option V->Option Value->Prop
 | some v,some u=>RelV v u
 | none,none=>True
 | _,_=>False
def KV{κ:Type}:List (κ×V)->List (κ×Value)->Prop:=Paired fun(p:κ×V) (q:κ×Value)=>p.1=q.1/\RelV p.2 q.2
def kV:Key->V
 | .inl i=>.int i
 | .inr x=>.str x
inductive HO where
 /-- a list -/
 | lst (xs:List V)
 /-- a tuple (never changes) -/
 | tup (xs:List V)
 /-- a dict whose keys are ints and texts;one whose keys are tuples of ints and texts (the empty one is both) -/
 | dK (kvs:List (Key×V)) | dT (kvs:List (List Key×V))
 /-- a set of ints: its members,its size -/
 | set (S:Int->Bool) (n:Nat)
 /-- an instance of the class at C,its dict at dx,its attributes -/
 | ins (C dx:Addr) (fs:List (Str×V))
 /-- the dict of the instance at x -/
 | own (x:Addr)
 /-- the dict of an exception -/
 | xd (fs:List (Str×V))
 /-- a bound method,f of x -/
 | met (f x:Addr)
 /-- a range object lo,lo+1,.. below hi -/
 | rng (lo hi:Int)
 /-- a thing that is known to the object (the script;a dict while a loop walks it): read,never written while it is so -/
 | frz (o:Obj) (u:HO)
 /-- a code object's table -/
 | tbl (ps:Array Value)
 /-- any other thing,by what is true of its one object (a def of one's own: kX a S n:=HO.ext fun h=>..) -/
 | ext (φ:Heap->Prop)
abbrev Hp:=Addr->Option HO
def upd(H:Hp)(a:Addr)(o:HO):Hp:=fun b=>if b=a then some o else H b
theorem aY{H:Hp}{a:Addr}{o:HO}:upd H a o a=some o:=by unfold upd;rw[if_pos rfl]
theorem aT{H:Hp}{a b:Addr}{o:HO}(h:b≠a):upd H a o b=H b:=by unfold upd;rw[if_neg h]
theorem fj{H:Hp}{a b:Addr}{o u:HO}(h:H a=some o)(h':H b=some u)(d:o≠u):a≠b:=by
 intro e;subst e;rw[h]at h';exact d (Option.some.inj h')
theorem dP{H:Hp}{a b:Addr}{o:HO}(h:H a=some o)(h':H b=none):a≠b:=by
 intro e;subst e;rw[h]at h';cases h'
section
variable (P:Program) (w:World)
def bI(H:Hp)(h:Heap)(a:Addr):HO->Prop
 | .lst xs=>xs.length<=sizeLine/\∃(its:List Value) (n:Nat),Vals xs its/\h.get? a=some { cls:=.type "list",data:=.seq its.toArray n }
 | .tup xs=>xs.length<=sizeLine/\∃its:List Value,Vals xs its/\IsTup h a its.toArray
 | .dK kvs=>kvs.length<=sizeLine/\(a == sysModules)=false/\∃vs,KV kvs vs/\h.DictOf (aM P w) a vs
 | .dT kvs=>kvs.length<=sizeLine/\(a == sysModules)=false/\∃xs:List (List Key×Addr×Value),
   Paired (fun(p:List Key×V) (q:List Key×Addr×Value)=>p.1=q.1/\H q.2.1=some (.tup (p.1.map kV))/\RelV p.2 q.2.2) kvs xs ∧
   ∃o es ep,h.get? a=some o/\o.ExactDict/\o.data=.dict es ep/\es.toList=xs.map (entryOfKey (tupleKind (aM P w)))/\(xs.map (·.1)).Nodup
 | .set S n=>h.SetOf (intKind P w) a S n
 | .ins C dx fs=>H dx=some (.own a)/\fs.length<=1000/\dx≠a/\h.get? a=some (PySem.W.instObj C dx) ∧
   ∃mA,h.Ns1 dx mA/\(∀f,dU (fs.lookup f) (mA f))/\PySem.Within mA (fs.map (·.1))
 | .own _=>∃o,h.get? a=some o
 | .xd fs=>∃mA,h.Ns1 a mA/\∀f,dU (fs.lookup f) (mA f)
 | .rng lo hi=>∃t u v,h.get? a=some { cls:=.type "range",data:=.fields #[.int lo t,.int hi u,.int 1 v] }
 | .frz o u=>h.get? a=some o/\bI H h a u
 | .tbl ps=>h.get? a=some { cls:=.none,data:=.fields ps }
 | .met f x=>h.get? a=some (PySem.W.methodObj (.ref f) (.ref x))
 | .ext φ=>φ h/\(∃o,h.get? a=some o)/\∀h1 h2:Heap,φ h1->(∀o,h1.get? a=some o->h2.get? a=some o)->φ h2
def bA(H:Hp)(h:Heap):Prop:=∀a o,H a=some o->bI P w H h a o
end
section
variable {P:Program} {w:World} {H H':Hp} {h h':Heap} {a:Addr} {o:HO}
theorem bI.lt(x:bI P w H h a o):a<h.objs.size:=by
 cases o with
 | lst xs=>obtain⟨_,_,_,_,e⟩:=x;exact Heap.lt_size e
 | tup xs=>obtain⟨_,_,_,p⟩:=x;exact p.lt
 | dK kvs=>obtain⟨_,_,_,_,o,_,_,e,_⟩:=x;exact Heap.lt_size e
 | dT kvs=>obtain⟨_,_,_,_,o,_,_,e,_⟩:=x;exact Heap.lt_size e
 | set S n=>obtain⟨o,_,_,_,e,_⟩:=x;exact Heap.lt_size e
 | ins C dx fs=>obtain⟨_,_,_,e,_⟩:=x;exact Heap.lt_size e
 | own y=>obtain⟨_,e⟩:=x;exact Heap.lt_size e
 | xd fs=>obtain⟨_,⟨_,_,_,e,_⟩,_⟩:=x;exact Heap.lt_size e
 | rng lo hi=>obtain⟨_,_,_,e⟩:=x;exact Heap.lt_size e
 | frz ob u=>obtain⟨e,_⟩:=x;exact Heap.lt_size e
 | tbl ps=>exact Heap.lt_size (show h.get? a=some _ from x)
 | met f y=>exact Heap.lt_size (show h.get? a=some _ from x)
 | ext φ=>obtain⟨_,⟨_,e⟩,_⟩:=x;exact Heap.lt_size e
theorem Paired.mapP{α β:Type}{F G:α->β->Prop}:∀{l₁:List α} {l₂:List β},Paired F l₁ l₂->(∀a b,F a b->G a b)->Paired G l₁ l₂
 | _,_,.nil,_=>.nil
 | _,_,.cons r t,f=>.cons (f _ _ r) (Paired.mapP t f)
theorem Paired.imp'{α β:Type}{F G:α->β->Prop}(f:∀a b,F a b->G a b){l₁:List α}{l₂:List β}(r:Paired F l₁ l₂):Paired G l₁ l₂:=Paired.mapP r f
theorem bI.stay(x:bI P w H h a o)(k:∀b u,(b=a\/H b=some (.own a))->h.get? b=some u->h'.get? b=some u)
  (ho:∀b,H b=some (.own a)->H' b=some (.own a)) (ht:∀b xs,H b=some (.tup xs)->H' b=some (.tup xs)):bI P w H' h' a o:=by
 induction o with
 | lst xs=>obtain⟨z,its,n,r,e⟩:=x;exact⟨z,its,n,r,k _ _ (.inl rfl) e⟩
 | tup xs=>obtain⟨z,its,r,ob,e,c⟩:=x;exact⟨z,its,r,ob,k _ _ (.inl rfl) e,c⟩
 | dK kvs=>obtain⟨z,y,vs,r,ob,es,ep,e,c⟩:=x;exact⟨z,y,vs,r,ob,es,ep,k _ _ (.inl rfl) e,c⟩
 | dT kvs=>
  obtain⟨z,y,xs,r,ob,es,ep,e,c⟩:=x
  exact⟨z,y,xs,Paired.mapP r fun p q z=>⟨z.1,ht _ _ z.2.1,z.2.2⟩,ob,es,ep,k _ _ (.inl rfl) e,c⟩
 | set S n=>obtain⟨ob,es,ep,t,e,c⟩:=x;exact⟨ob,es,ep,t,k _ _ (.inl rfl) e,c⟩
 | ins C dx fs=>
  obtain⟨d,z,ne,e,mA,⟨od,es,ep,e2,c⟩,r⟩:=x
  exact⟨ho _ d,z,ne,k _ _ (.inl rfl) e,mA,⟨od,es,ep,k _ _ (.inr d) e2,c⟩,r⟩
 | own y=>obtain⟨ob,e⟩:=x;exact⟨ob,k _ _ (.inl rfl) e⟩
 | xd fs=>obtain⟨mA,⟨od,es,ep,e,c⟩,r⟩:=x;exact⟨mA,⟨od,es,ep,k _ _ (.inl rfl) e,c⟩,r⟩
 | rng lo hi=>obtain⟨t,u,v,e⟩:=x;exact⟨t,u,v,k _ _ (.inl rfl) e⟩
 | frz ob u ih=>obtain⟨e,q⟩:=x;exact⟨k _ _ (.inl rfl) e,ih q⟩
 | tbl ps=>
  have e:h.get? a=some { cls:=.none,data:=.fields ps }:=x
  show h'.get? a=some { cls:=.none,data:=.fields ps }
  exact k a _ (.inl rfl) e
 | met f y=>
  have e:h.get? a=some (PySem.W.methodObj (.ref f) (.ref y)):=x
  show h'.get? a=some (PySem.W.methodObj (.ref f) (.ref y))
  exact k a _ (.inl rfl) e
 | ext φ=>obtain⟨p,⟨o,e⟩,st⟩:=x;exact⟨st _ _ p fun o q=>k _ _ (.inl rfl) q,⟨o,k _ _ (.inl rfl) e⟩,st⟩
theorem bA.lt(x:bA P w H h)(e:H a=some o):a<h.objs.size:=(x a o e).lt
theorem bA.fresh(x:bA P w H h)(e:h.objs.size<=a):H a=none:=by
 cases q:H a with
 | none=>rfl
 | some u=>exact absurd (Nat.lt_of_lt_of_le (x.lt q) e) (Nat.lt_irrefl _)
theorem bA.kept(x:bA P w H h)(k:∀b u,h.get? b=some u->h'.get? b=some u):bA P w H h':=fun a o e=>
 (x a o e).stay (fun b u _ q=>k b u q) (fun _ q=>q) fun _ _ q=>q
theorem bA.laid(x:bA P w H h)(k:∀b u,h.get? b=some u->h'.get? b=some u)(hp:h.objs.size<=a)(new:bI P w (upd H a o) h' a o):bA P w (upd H a o) h':=fun b u e=>by
 have hn:=x.fresh hp
 by_cases hb:b=a
 ·subst hb;rw[aY]at e;cases e;exact new
 ·rw[aT hb]at e
  exact(x b u e).stay (fun c v _ q=>k c v q) (fun c q=>by rw[aT (dP q hn)];exact q) fun c xs q=>by rw[aT (dP q hn)];exact q
end
def Rd(H:Hp)(a:Addr)(u:HO):Prop:=H a=some u\/∃o,H a=some (.frz o u)
theorem Rd.ok{P:Program}{w:World}{H:Hp}{h:Heap}{a:Addr}{u:HO}(r:Rd H a u)(x:bA P w H h):bI P w H h a u:=by
 rcases r with r | ⟨o,r⟩
 ·exact x a u r
 ·obtain⟨_,q⟩:=x a _ r
  exact q
def jU:Option HO->Prop
 | some (.lst _)=>True
 | some (.dK _)=>True
 | some (.dT _)=>True
 | some (.set _ _)=>True
 | some (.ins _ _ _)=>True
 | some (.ext _)=>True
 | _=>False
section
variable {P:Program} {w:World} {H:Hp} {h h':Heap} {x e:Addr} {o':HO}
theorem bA.write(ok:bA P w H h)(mu:jU (H x))(he:e=x\/H e=some (.own x))(k:∀b u,b≠e->h.get? b=some u->h'.get? b=some u)(heo:∃u,h'.get? e=some u)
  (new:bI P w (upd H x o') h' x o'):bA P w (upd H x o') h':=fun b u q=>by
 have nown:∀c y,H c=some (.own y)->c≠x:=fun c y r z=>by subst z;rw[r]at mu;exact mu
 have ntup:∀c xs,H c=some (.tup xs)->c≠x:=fun c xs r z=>by subst z;rw[r]at mu;exact mu
 by_cases hb:b=x
 ·subst hb;rw[aY]at q;cases q;exact new
 ·rw[aT hb]at q
  by_cases hbe:b=e
  ·have q':H b=some (.own x):=by
    rcases he with z | z
    ·exact absurd (hbe.trans z) hb
    ·rw[hbe];exact z
   rw[q]at q';cases q'
   obtain⟨v,hv⟩:=heo
   exact⟨v,by rw[hbe];exact hv⟩
  ·refine(ok b u q).stay (fun c v hc r=>k c v ?_ r) (fun c r=>by rw[aT (nown c b r)];exact r) fun c xs r=>by rw[aT (ntup c xs r)];exact r
   rcases hc with rfl | hc
   ·exact hbe
   ·rintro rfl
    rcases he with z | z
    ·exact nown c b hc z
    ·rw[hc]at z;cases z;exact hb rfl
end
structure Un(fs ex:List Addr)(H H':Hp)(h h':Heap):Prop where
 keep:∀b o,h.get? b=some o->H b=none->b∉fs->b∉ex->h'.get? b=some o
 slot:∀b o,h.get? b=some o->H b=none->b∈fs->b∉ex->∃sl,h'.get? b=some { o with slots:=sl }
 free:∀b o,h.get? b=some o->H b=none->b∉ex->H' b=none
 there:∀b o,h.get? b=some o->b∉ex->∃o',h'.get? b=some o'
 tups:∀b xs,H b=some (.tup xs)->H' b=some (.tup xs)
 frzs:∀b o u,H b=some (.frz o u)->H' b=some (.frz o u)
 tbls:∀b ps,H b=some (.tbl ps)->∃more,H' b=some (.tbl (ps++more))
section
variable {fs fs' ex ex':List Addr} {H H1 H2:Hp} {h h1 h2 h':Heap} {a x e:Addr} {o:HO}
theorem Un.any(u:Un fs ex H H1 h h1){b:Addr}{ob:Obj}(q:h.get? b=some ob)(n:H b=none)(hx:b∉ex):∃sl,h1.get? b=some { ob with slots:=sl }:=by
 by_cases hb:b∈fs
 ·exact u.slot b ob q n hb hx
 ·exact⟨ob.slots,u.keep b ob q n hb hx⟩
theorem Un.kept(k:∀b u,h.get? b=some u->h'.get? b=some u):Un fs ex H H h h':=
 ⟨fun b ob q _ _ _=>k b ob q,fun b ob q _ _ _=>⟨ob.slots,k b ob q⟩,fun _ _ _ n _=>n,fun b ob q _=>⟨ob,k b ob q⟩,fun _ _ q=>q,fun _ _ _ q=>q,fun _ ps q=>⟨#[],by rw[q];simp⟩⟩
theorem Un.refl:Un fs ex H H h h:=Un.kept fun _ _ q=>q
theorem Un.laid(k:∀b u,h.get? b=some u->h'.get? b=some u)(hp:h.objs.size<=a)(hn:H a=none):Un fs ex H (upd H a o) h h' where
 keep:=fun b u q _ _ _=>k b u q
 slot:=fun b u q _ _ _=>⟨u.slots,k b u q⟩
 free:=fun b u q n _=>by rw[aT (Nat.ne_of_lt (Nat.lt_of_lt_of_le (Heap.lt_size q) hp))];exact n
 there:=fun b u q _=>⟨u,k b u q⟩
 tups:=fun b xs q=>by rw[aT (dP q hn)];exact q
 frzs:=fun b u xs q=>by rw[aT (dP q hn)];exact q
 tbls:=fun b ps q=>⟨#[],by rw[aT (dP q hn),q];simp⟩
theorem Un.write(mu:jU (H x))(he:e=x\/H e=some (.own x))(k:∀b u,b≠e->h.get? b=some u->h'.get? b=some u)(heo:∃u,h'.get? e=some u):Un fs ex H (upd H x o) h h':=by
 have hx:∀b,H b=none->b≠x:=fun b n z=>by subst z;rw[n]at mu;exact mu
 have hb:∀b,H b=none->b≠e:=fun b n z=>by
  subst z
  rcases he with r | r
  ·exact hx b n r
  ·rw[n]at r;cases r
 have hm:∀b u,H b=some u->¬jU (some u)->b≠x:=fun b u q nm z=>by subst z;rw[q]at mu;exact nm mu
 refine⟨fun b u q n _ _=>k b u (hb b n) q,fun b u q n _ _=>⟨u.slots,k b u (hb b n) q⟩,fun b u q n _=>by rw[aT (hx b n)];exact n,fun b u q _=>?_,
  fun b xs q=>by rw[aT (hm b _ q fun z=>z)];exact q,fun b u xs q=>by rw[aT (hm b _ q fun z=>z)];exact q,fun b ps q=>⟨#[],by rw[aT (hm b _ q fun z=>z),q];simp⟩⟩
 by_cases hbe:b=e
 ·subst hbe;exact heo
 ·exact⟨u,k b u hbe q⟩
end
def jk(h:Heap)(H:Hp):List Addr:=(List.range h.objs.size).filter fun a=>(H a).isSome
def ee(h:Heap)(H:Hp):Heap:=PySem.W.hideAll h (jk h H)
theorem zY(h:Heap)(H:Hp):(ee h H).objs.size=h.objs.size:=PySem.W.hideAll_size _ _
theorem yc{h:Heap}{H:Hp}{b:Addr}{o:Obj}(e:h.get? b=some o)(n:H b=none):(ee h H).get? b=some o:=
 PySem.W.hideAll_get _ e fun hm=>by
  have q:(H b).isSome=true:=(List.mem_filter.mp hm).2
  rw[n]at q;simp at q
theorem vY{h:Heap}{H:Hp}{b:Addr}{o:Obj}(e:(ee h H).get? b=some o):h.get? b=some o/\H b=none:=by
 have e':h.get? b=some o:=PySem.W.of_hideAll (jk h H) e
 refine⟨e',?_⟩
 cases q:H b with
 | none=>rfl
 | some x=>
  have hm:b∈jk h H:=List.mem_filter.mpr ⟨List.mem_range.mpr (Heap.lt_size e'),by simp[q]⟩
  have z:(ee h H).get? b=none:=PySem.W.hideAll_none (jk h H) hm
  rw[z]at e;cases e
end L2
namespace L2
open PySem PySem.Spec PyProof.Rows
structure Mod(K:PySem.W.Frag)(mg:Str->Option Value)(base:Heap):Prop where
 kin:K.In base
 glob:base.Ns mainGlobals mg
 blt:∃mb,base.Ns builtinsNs mb/\∀x:Str,x≠"__name__"->mb x=bootBuiltins x
 nolimit:base.NoLimit
structure Cx where
 prog:Program
 w:World
 K:PySem.W.Frag
 mg:Str->Option Value
 base:Heap
 A:Around
 N:List Str
 s₀:Shared
 H₀:Hp
 env:Env
 outer:List Env
 stack:List Env
 ex:List Addr
 fn:Str->Bool
 calm:Bool
 pn:List (Addr×Obj)
 xe:Value->Shared->Prop
def cE(l:List Env):List Addr:=l.filterMap (·.frame)
abbrev Cx.fs(X:Cx):List Addr:=cE X.outer
def lg(sc:Scope)(x:Str):Prop:=sc.names.lookup x=some .local\/sc.names.lookup x=some .cell\/sc.names.lookup x=some .free
def Loc(sc:Scope)(x:Str):Prop:=sc.names.lookup x=some .local\/sc.names.lookup x=some .cell
def Look(env:Env)(h:Heap)(m:Str->Option Value)(x:Str)(u:Value):Prop:=
 (env.kindOf x=some .local/\m x=some u)\/((env.kindOf x=some .cell\/env.kindOf x=some .free)/\∃c,env.cells.lookup x=some c/\h.IsCell c (some u))
structure Cx.Ok(X:Cx):Prop where
 mod:Mod X.K X.mg X.base
 kind:X.env.scope.kind=.function
 glob:X.env.globals=mainGlobals
 blt:X.env.builtins=builtinsNs
 above:X.s₀.heap.objs.size<=X.env.locals
 inj:∀x y c,X.env.cells.lookup x=some c->X.env.cells.lookup y=some c->x=y
 has:∀x,(X.env.kindOf x=some .cell\/X.env.kindOf x=some .free)->∃c,X.env.cells.lookup x=some c
 cab:∀x c,X.fn x=true->X.env.cells.lookup x=some c->X.s₀.heap.objs.size<=c
 hd:X.calm=true->X.A.handled=none
 frames:X.A.frames=some X.stack
 stk:X.stack=X.outer\/(X.stack=X.env::X.outer/\X.env.frame=some X.env.locals)
 exf:∀b∈X.ex,b≠X.env.locals/\∀x c,X.env.cells.lookup x=some c->c≠b
 bs:∀b o,X.base.get? b=some o->X.s₀.heap.get? b=some o/\X.H₀ b=none
 bsz:X.base.objs.size<=X.s₀.heap.objs.size
 noex:∀b o,X.base.get? b=some o->b∉X.ex
 exfs:∀b∈X.ex,b∉X.fs
 funs:X.s₀.heap.FunFrames X.base X.outer
 frf:∀b∈X.fs,X.H₀ b=none
structure Inv(X:Cx)(pins:List (Addr×Obj))(σ:List (Option V))(H:Hp)(s:Shared):Prop where
 ok:X.Ok
 os:s.os=X.s₀.os
 bare:AllBare s.gens
 base:Un X.fs X.ex X.H₀ H X.s₀.heap s.heap
 loc:∃m,s.heap.Ns X.env.locals m/\∀(i:Nat) (x:Str) (v:V),X.N[i]?=some x->σ[i]?=some (some v)->lg X.env.scope x->∃u,RelV v u/\Look X.env s.heap m x u
 cell:∀x c,X.env.cells.lookup x=some c->∃v,s.heap.IsCell c v
 free:H X.env.locals=none
 freeC:∀x c,X.env.cells.lookup x=some c->H c=none
 pin:∀p∈X.pn++pins,s.heap.get? p.1=some p.2/\H p.1=none/\p.1≠X.env.locals/\p.1∉X.fs/\∀v,p.2.data≠.cell v
 hok:bA X.prog X.w H s.heap
 len:σ.length=X.N.length
section
variable {X:Cx} {pins:List (Addr×Obj)} {σ:List (Option V)} {H H':Hp} {s:Shared} {h':Heap}
theorem Cx.Ok.nofr(ok:X.Ok){b:Addr}{o:Obj}(e:X.base.get? b=some o):b∉X.fs:=fun hb=>by
 have:=(ok.funs.mem hb).1
 rw[e]at this;cases this
theorem Inv.bs(I:Inv X pins σ H s):∀b o,X.base.get? b=some o->s.heap.get? b=some o/\H b=none:=fun b o e=>
 ⟨I.base.keep b o (I.ok.bs b o e).1 (I.ok.bs b o e).2 (I.ok.nofr e) (I.ok.noex b o e),I.base.free b o (I.ok.bs b o e).1 (I.ok.bs b o e).2 (I.ok.noex b o e)⟩
theorem Inv.bk(I:Inv X pins σ H s):∀b o,X.base.get? b=some o->s.heap.get? b=some o:=fun b o e=>(I.bs b o e).1
theorem Inv.mod(I:Inv X pins σ H s):Mod X.K X.mg X.base:=I.ok.mod
theorem Inv.kIn(I:Inv X pins σ H s):X.K.In s.heap:=I.ok.mod.kin.keeps I.bk
theorem Inv.lt(I:Inv X pins σ H s):X.env.locals<s.heap.objs.size:=let ⟨_,hn,_⟩:=I.loc;hn.lt
theorem Inv.sz(I:Inv X pins σ H s):X.s₀.heap.objs.size<=s.heap.objs.size:=Nat.le_trans I.ok.above (Nat.le_of_lt I.lt)
theorem Inv.nofs(I:Inv X pins σ H s){a:Addr}(h:s.heap.objs.size<=a):a∉X.fs:=fun hb=>by
 obtain⟨_,o,ho,_⟩:=I.ok.funs.mem hb
 exact absurd (Nat.lt_of_lt_of_le (Heap.lt_size ho) (Nat.le_trans I.sz h)) (Nat.lt_irrefl _)
theorem Inv.cne(I:Inv X pins σ H s):∀x c,X.env.cells.lookup x=some c->c≠X.env.locals:=fun x c e z=>by
 obtain⟨v,o,ho,hd⟩:=I.cell x c e
 obtain⟨m,⟨o',es,ep,ho',hd',_⟩,_⟩:=I.loc
 rw[z,ho']at ho;cases ho;rw[hd']at hd;cases hd
theorem Inv.funs(I:Inv X pins σ H s):s.heap.FunFrames X.base X.outer:=by
 have all:∀(l:List Env),(∀b∈cE l,b∈X.fs)->X.s₀.heap.FunFrames X.base l->s.heap.FunFrames X.base l:=by
  intro l
  induction l with
  | nil=>intro _ _;trivial
  | cons env r ih=>
   intro hs hl
   obtain⟨hk,⟨L,o,hf,hn,ho,hd⟩,hr⟩:=hl
   have hL:L∈X.fs:=hs L (by unfold cE;rw[List.filterMap_cons,hf];exact List.mem_cons_self)
   obtain⟨sl,e⟩:=I.base.slot L o ho (I.ok.frf L hL) hL fun z=>I.ok.exfs L z hL
   exact⟨hk,⟨L,_,hf,hn,e,hd⟩,ih (fun b hb=>hs b (by unfold cE;rw[List.filterMap_cons,hf];exact List.mem_cons_of_mem _ hb)) hr⟩
 exact all X.outer (fun _ hb=>hb) I.ok.funs
theorem Inv.stack(I:Inv X pins σ H s):s.heap.FunFrames X.base X.stack:=by
 rcases I.ok.stk with e | ⟨e,hf⟩
 ·rw[e];exact I.funs
 ·rw[e]
  obtain⟨m,hn,_⟩:=I.loc
  refine .cons (by rw[I.ok.kind];decide) hf hn ?_ I.funs
  exact Heap.get?_none_of_le (Nat.le_trans I.ok.bsz I.ok.above)
theorem Inv.stkSub(I:Inv X pins σ H s):∀b∈cE X.stack,b∈X.env.locals::X.fs:=fun b hb=>by
 rcases I.ok.stk with e | ⟨e,hf⟩
 ·rw[e]at hb;exact List.mem_cons_of_mem _ hb
 ·rw[e]at hb
  unfold cE at hb
  rw[List.filterMap_cons,hf]at hb
  exact hb
theorem Inv.stkFree(I:Inv X pins σ H s):∀b∈cE X.stack,H b=none:=fun b hb=>by
 rcases List.mem_cons.mp (I.stkSub b hb)with e | hb
 ·rw[e];exact I.free
 ·obtain⟨_,o,ho,_⟩:=I.ok.funs.mem hb
  exact I.base.free b o ho (I.ok.frf b hb) fun z=>I.ok.exfs b z hb
theorem Inv.step{g':Array GenState}{t':Nat}{d':Drawn}{ch:List Addr}(I:Inv X pins σ H s)
  (hch:∀b∈ch,(b∈X.ex\/X.s₀.heap.objs.size<=b)/\b≠X.env.locals/\(∀x c,X.env.cells.lookup x=some c->c≠b)/\∀p∈X.pn++pins,p.1≠b)
  (keep:∀b o,b≠X.env.locals->b∉X.fs->b∉ch->s.heap.get? b=some o->H b=none->h'.get? b=some o)
  (slot:∀b o,b≠X.env.locals->b∈X.fs->b∉ch->s.heap.get? b=some o->H b=none->∃sl,h'.get? b=some { o with slots:=sl }) (free:∀b o,b∉ch->s.heap.get? b=some o->H b=none->H' b=none)
  (there:∀b o,b∉ch->s.heap.get? b=some o->∃o',h'.get? b=some o')
  (tups:∀b xs,H b=some (.tup xs)->H' b=some (.tup xs)) (frzs:∀b o u,H b=some (.frz o u)->H' b=some (.frz o u)) (tbls:∀b ps,H b=some (.tbl ps)->∃more,H' b=some (.tbl (ps++more)))
  (ns:∀m,s.heap.Ns X.env.locals m->h'.Ns X.env.locals m) (hok:bA X.prog X.w H' h') (hg:AllBare g') :
  Inv X pins σ H' { s with heap:=h',gens:=g',drawn:=d',toks:=t' }:=by
 have neL:∀b o,X.s₀.heap.get? b=some o->b≠X.env.locals:=fun b o e=>Nat.ne_of_lt (Nat.lt_of_lt_of_le (Heap.lt_size e) I.ok.above)
 have neC:∀b o,X.s₀.heap.get? b=some o->b∉X.ex->b∉ch:=fun b o e hx hb=>by
  rcases(hch b hb).1 with z | z
  ·exact hx z
  ·exact absurd (Nat.lt_of_lt_of_le (Heap.lt_size e) z) (Nat.lt_irrefl _)
 have cellK:∀x c,X.env.cells.lookup x=some c->∀v,s.heap.IsCell c v->h'.IsCell c v:=fun x c e v ⟨o,ho,hd⟩=>by
  have nch:c∉ch:=fun z=>(hch c z).2.2.1 x c e rfl
  by_cases hc:c∈X.fs
  ·obtain⟨sl,q⟩:=slot c o (I.cne x c e) hc nch ho (I.freeC x c e)
   exact⟨_,q,hd⟩
  ·exact⟨o,keep c o (I.cne x c e) hc nch ho (I.freeC x c e),hd⟩
 refine⟨I.ok,I.os,hg,⟨fun b o e n hb hx=>?_,fun b o e n hb hx=>?_,fun b o e n hx=>?_,fun b o e hx=>?_,fun b xs e=>tups b xs (I.base.tups b xs e),fun b o xs e=>frzs b o xs (I.base.frzs b o xs e),fun b ps e=>?_⟩,?_,fun x c e=>?_,?_,fun x c e=>?_,fun p hp=>?_,hok,I.len⟩
 ·exact keep b o (neL b o e) hb (neC b o e hx) (I.base.keep b o e n hb hx) (I.base.free b o e n hx)
 ·obtain⟨sl,e1⟩:=I.base.slot b o e n hb hx
  obtain⟨sl',e2⟩:=slot b _ (neL b o e) hb (neC b o e hx) e1 (I.base.free b o e n hx)
  exact⟨sl',e2⟩
 ·obtain⟨o',e1⟩:=I.base.there b o e hx
  exact free b o' (neC b o e hx) e1 (I.base.free b o e n hx)
 ·obtain⟨o',e1⟩:=I.base.there b o e hx
  exact there b o' (neC b o e hx) e1
 ·obtain⟨m1,e1⟩:=I.base.tbls b ps e
  obtain⟨m2,e2⟩:=tbls b _ e1
  exact⟨m1++m2,by rw[e2,Array.append_assoc]⟩
 ·obtain⟨m,hn,hl⟩:=I.loc
  refine⟨m,ns m hn,fun i x v e1 e2 e3=>?_⟩
  obtain⟨u,r,l⟩:=hl i x v e1 e2 e3
  refine⟨u,r,?_⟩
  rcases l with l | ⟨k,c,e,z⟩
  ·exact .inl l
  ·exact .inr ⟨k,c,e,cellK x c e _ z⟩
 ·obtain⟨v,z⟩:=I.cell x c e
  exact⟨v,cellK x c e v z⟩
 ·obtain⟨m,⟨o,_,_,ho,_⟩,_⟩:=I.loc
  exact free _ o (fun z=>(hch _ z).2.1 rfl) ho I.free
 ·obtain⟨v,o,ho,hd⟩:=I.cell x c e
  exact free c o (fun z=>(hch c z).2.2.1 x c e rfl) ho (I.freeC x c e)
 ·obtain⟨e,n,ne,nf,d⟩:=I.pin p hp
  have nch:p.1∉ch:=fun z=>(hch p.1 z).2.2.2 p hp rfl
  exact⟨keep p.1 p.2 ne nf nch e n,free p.1 p.2 nch e n,ne,nf,d⟩
theorem Inv.un{t':Nat}(I:Inv X pins σ H s)(u:Un X.fs [] H H' s.heap h')(hok:bA X.prog X.w H' h'):Inv X pins σ H' { s with heap:=h',toks:=t' }:=by
 obtain⟨m,⟨o,es,ep,ho,r⟩,_⟩:=id I.loc
 obtain⟨sl,hL⟩:=u.any ho I.free (by simp)
 exact I.step (g':=s.gens) (d':=s.drawn) (ch:=[]) (fun _ z=>nomatch z) (fun b o _ hb _ e n=>u.keep b o e n hb (by simp)) (fun b o _ hb _ e n=>u.slot b o e n hb (by simp)) (fun b o _ e n=>u.free b o e n (by simp)) (fun b o _ e=>u.there b o e (by simp)) u.tups u.frzs u.tbls (fun m' hm=>by
  obtain⟨o',es',ep',ho',r'⟩:=hm
  rw[ho]at ho';cases ho'
  exact⟨_,es',ep',hL,r'⟩) hok I.bare
theorem Inv.call{g':Array GenState}{t':Nat}{d':Drawn}{ch:List Addr}(I:Inv X pins σ H s)(u:Un (cE X.stack) ch H H' s.heap h')(hok:bA X.prog X.w H' h')(hg:AllBare g')
  (hch:∀b∈ch,(b∈X.ex\/X.s₀.heap.objs.size<=b)/\b≠X.env.locals/\(∀x c,X.env.cells.lookup x=some c->c≠b)/\∀p∈X.pn++pins,p.1≠b) :
  Inv X pins σ H' { s with heap:=h',gens:=g',drawn:=d',toks:=t' }:=by
 obtain⟨m,⟨o,es,ep,ho,r⟩,_⟩:=id I.loc
 obtain⟨sl,hL⟩:=u.any ho I.free fun z=>(hch _ z).2.1 rfl
 exact I.step (ch:=ch) hch (fun b o hL hb hc e n=>u.keep b o e n (fun z=>(List.mem_cons.mp (I.stkSub b z)).elim hL hb) hc) (fun b o _ _ hc e n=>u.any e n hc) (fun b o hc e n=>u.free b o e n hc) (fun b o hc e=>u.there b o e hc) u.tups u.frzs u.tbls (fun m' hm=>by
  obtain⟨o',es',ep',ho',r'⟩:=hm
  rw[ho]at ho';cases ho'
  exact⟨_,es',ep',hL,r'⟩) hok hg
theorem Inv.turned{t':Nat}{it:Addr}(I:Inv X pins σ H s)(k:∀b o,b≠it->s.heap.get? b=some o->h'.get? b=some o)(hn:H it=none)(hL:it≠X.env.locals)
  (h1:it∈X.ex\/X.s₀.heap.objs.size<=it) (h2:∀x c,X.env.cells.lookup x=some c->c≠it) (h3:∀p∈X.pn++pins,p.1≠it):Inv X pins σ H { s with heap:=h',toks:=t' }:=by
 have nit:∀b u,H b=some u->b≠it:=fun b u e z=>by rw[z,hn]at e;cases e
 refine I.step (g':=s.gens) (d':=s.drawn) (ch:=[it]) (fun b hb=>?_) (fun b o _ _ hc e _=>k b o (fun z=>hc (by simp[z])) e) (fun b o _ _ hc e _=>⟨o.slots,k b o (fun z=>hc (by simp[z])) e⟩) (fun _ _ _ _ n=>n)
  (fun b o hc e=>⟨o,k b o (fun z=>hc (by simp[z])) e⟩) (fun _ _ e=>e) (fun _ _ _ e=>e) (fun b ps e=>⟨#[],by rw[e];simp⟩) (fun m hm=>?_) (fun b u e=>?_) I.bare
 ·have e:b=it:=by simpa using hb
  subst e
  exact⟨h1,hL,h2,h3⟩
 ·obtain⟨o,es,ep,ho,r⟩:=hm
  exact⟨o,es,ep,k _ o (Ne.symm hL) ho,r⟩
 ·refine(I.hok b u e).stay (fun c v hc q=>k c v ?_ q) (fun _ q=>q) fun _ _ q=>q
  rcases hc with z | z
  ·rw[z];exact nit b u e
  ·exact nit c _ z
theorem Inv.tok(I:Inv X pins σ H s)(t:Nat):Inv X pins σ H { s with toks:=t }:=I.un (h':=s.heap) (t':=t) Un.refl I.hok
theorem Inv.kept{t':Nat}(I:Inv X pins σ H s)(k:∀b u,s.heap.get? b=some u->h'.get? b=some u):Inv X pins σ H { s with heap:=h',toks:=t' }:=I.un (Un.kept k) (I.hok.kept k)
theorem Inv.laid{a:Addr}{o:HO}{t':Nat}(I:Inv X pins σ H s)(k:∀b u,s.heap.get? b=some u->h'.get? b=some u)(hp:s.heap.objs.size<=a)(new:bI X.prog X.w (upd H a o) h' a o):
  Inv X pins σ (upd H a o) { s with heap:=h',toks:=t' }:=I.un (Un.laid k hp (I.hok.fresh hp)) (I.hok.laid k hp new)
theorem Inv.write{x e:Addr}{o:HO}{t':Nat}(I:Inv X pins σ H s)(mu:jU (H x))(he:e=x\/H e=some (.own x))(k:∀b u,b≠e->s.heap.get? b=some u->h'.get? b=some u)(heo:∃u,h'.get? e=some u)
  (new:bI X.prog X.w (upd H x o) h' x o):Inv X pins σ (upd H x o) { s with heap:=h',toks:=t' }:=I.un (Un.write mu he k heo) (I.hok.write mu he k heo new)
theorem Inv.pins_of{pins':List (Addr×Obj)}(I:Inv X pins σ H s)(h:∀p∈pins',s.heap.get? p.1=some p.2/\H p.1=none/\p.1≠X.env.locals/\p.1∉X.fs/\∀v,p.2.data≠.cell v):Inv X pins' σ H s:=
 ⟨I.ok,I.os,I.bare,I.base,I.loc,I.cell,I.free,I.freeC,fun p hp=>(List.mem_append.mp hp).elim (fun z=>I.pin p (List.mem_append_left _ z)) (h p),I.hok,I.len⟩
theorem sX{N:List Str}(hN:N.Nodup){i j:Nat}{x:Str}(a:N[i]?=some x)(b:N[j]?=some x):i=j:=by
 obtain⟨h1,e1⟩:=List.getElem?_eq_some_iff.mp a
 obtain⟨h2,e2⟩:=List.getElem?_eq_some_iff.mp b
 exact(List.getElem_inj hN).mp (e1.trans e2.symm)
theorem tZ{M:Model}{A:Around}{E:Value->Shared->Prop}{i:Nat}{x:Str}{v:V}{u:Value}{Q:Unit->Shared->Prop}(I:Inv X pins σ H s)(hN:X.N.Nodup)(hi:X.N[i]?=some x)(hx:Loc X.env.scope x)(r:RelV v u)
  (h:∀s',Inv X pins (σ.set i (some v)) H s'->(∃a,Heap.SameBut a s.heap s'.heap/\(a=X.env.locals\/X.env.cells.lookup x=some a))->Q () s') (hf:X.fn x=true\/X.env.scope.names.lookup x=some .local:=by first | exact .inl rfl | exact .inr rfl | assumption):wpAny M A (storeName X.env x u) Q E s:=by
 obtain⟨m,hn,hl⟩:=id I.loc
 have hcls:(X.env.scope.kind == .class || (X.env.scope.kind == .module && X.env.locals != X.env.globals))=false:=by rw[I.ok.kind];rfl
 have hiσ:i<σ.length:=by rw[I.len];exact(List.getElem?_eq_some_iff.mp hi).1
 have cne:=I.cne
 have tracked:∀{a:Addr} {h':Heap},(∃o,s.heap.get? a=some o/\H a=none)->Heap.SameBut a s.heap h'->bA X.prog X.w H h':=fun{a h'} ha hs b ob e=>by
  obtain⟨_,_,hfree⟩:=ha
  refine(I.hok b ob e).stay (fun c w' hc q=>(hs.2 c ?_).trans q) (fun _ q=>q) fun _ _ q=>q
  rintro rfl
  rcases hc with rfl | hc
  ·rw[hfree]at e;cases e
  ·rw[hfree]at hc;cases hc
 rcases hx with hk | hk
 ·refine wpAny_storeName_local hk hn (fun h' hn' hs=>?_) hcls
  obtain⟨oL,_,_,hoL,_⟩:=id hn
  refine h _ ⟨I.ok,I.os,I.bare,⟨fun b o e n hb hx=>?_,fun b o e n hb hx=>?_,I.base.free,fun b o e hx=>?_,I.base.tups,I.base.frzs,I.base.tbls⟩,⟨_,hn',fun j y v' e1 e2 e3=>?_⟩,fun y c e=>?_,I.free,I.freeC,fun p hp=>?_,tracked ⟨oL,hoL,I.free⟩ hs,by simpa using I.len⟩ ⟨_,hs,.inl rfl⟩
  ·exact(hs.2 b (Nat.ne_of_lt (Nat.lt_of_lt_of_le (Heap.lt_size e) I.ok.above))).trans (I.base.keep b o e n hb hx)
  ·obtain⟨sl,e1⟩:=I.base.slot b o e n hb hx
   exact⟨sl,(hs.2 b (Nat.ne_of_lt (Nat.lt_of_lt_of_le (Heap.lt_size e) I.ok.above))).trans e1⟩
  ·obtain⟨o',e1⟩:=I.base.there b o e hx
   exact⟨o',(hs.2 b (Nat.ne_of_lt (Nat.lt_of_lt_of_le (Heap.lt_size e) I.ok.above))).trans e1⟩
  ·by_cases hj:j=i
   ·subst hj
    rw[hi]at e1;cases e1
    rw[List.getElem?_set_self hiσ]at e2
    cases e2
    exact⟨u,r,.inl ⟨hk,by simp⟩⟩
   ·rw[List.getElem?_set_ne (Ne.symm hj)]at e2
    obtain⟨u',r',q⟩:=hl j y v' e1 e2 e3
    refine⟨u',r',?_⟩
    rcases q with⟨k,e⟩ | ⟨k,c,e,z⟩
    ·refine .inl ⟨k,?_⟩
     have:y≠x:=fun e=>hj (sX hN e1 (e ▸ hi))
     simp[this,e]
    ·exact .inr ⟨k,c,e,z.sameBut hs (cne y c e)⟩
  ·obtain⟨w',z⟩:=I.cell y c e
   exact⟨w',z.sameBut hs (cne y c e)⟩
  ·obtain⟨e,n,ne,nf,d⟩:=I.pin p hp
   exact⟨(hs.2 p.1 ne).trans e,n,ne,nf,d⟩
 ·have hfn:X.fn x=true:=by
   rcases hf with z | z
   ·exact z
   ·rw[z]at hk;cases hk
  obtain⟨c,hc⟩:=I.ok.has x (.inl hk)
  obtain⟨w',z⟩:=I.cell x c hc
  refine wpAny_storeName_cell I.ok.kind hk hc z (fun h' hc' hs=>?_)
  obtain⟨oc,hoc,hocd⟩:=id z
  refine h { s with heap:=h' } ⟨I.ok,I.os,I.bare,⟨fun b o e n hb hx=>?_,fun b o e n hb hx=>?_,I.base.free,fun b o e hx=>?_,I.base.tups,I.base.frzs,I.base.tbls⟩,⟨m,hn.sameBut hs (Ne.symm (cne x c hc)),fun j y v' e1 e2 e3=>?_⟩,fun y c' e=>?_,I.free,I.freeC,fun p hp=>?_,tracked ⟨oc,hoc,I.freeC x c hc⟩ hs,by simpa using I.len⟩ ⟨c,hs,.inr hc⟩
  ·exact(hs.2 b (Nat.ne_of_lt (Nat.lt_of_lt_of_le (Heap.lt_size e) (I.ok.cab x c hfn hc)))).trans (I.base.keep b o e n hb hx)
  ·obtain⟨sl,e1⟩:=I.base.slot b o e n hb hx
   exact⟨sl,(hs.2 b (Nat.ne_of_lt (Nat.lt_of_lt_of_le (Heap.lt_size e) (I.ok.cab x c hfn hc)))).trans e1⟩
  ·obtain⟨o',e1⟩:=I.base.there b o e hx
   exact⟨o',(hs.2 b (Nat.ne_of_lt (Nat.lt_of_lt_of_le (Heap.lt_size e) (I.ok.cab x c hfn hc)))).trans e1⟩
  ·by_cases hj:j=i
   ·subst hj
    rw[hi]at e1;cases e1
    rw[List.getElem?_set_self hiσ]at e2
    cases e2
    exact⟨u,r,.inr ⟨.inl hk,c,hc,hc'⟩⟩
   ·rw[List.getElem?_set_ne (Ne.symm hj)]at e2
    obtain⟨u',r',q⟩:=hl j y v' e1 e2 e3
    refine⟨u',r',?_⟩
    rcases q with q | ⟨k,c',e,z'⟩
    ·exact .inl q
    ·refine .inr ⟨k,c',e,z'.sameBut hs ?_⟩
     rintro rfl
     exact hj (sX hN e1 (I.ok.inj _ _ _ e hc ▸ hi))
  ·by_cases hcc:c'=c
   ·subst hcc;exact⟨_,hc'⟩
   ·obtain⟨w2,z2⟩:=I.cell y c' e
    exact⟨w2,z2.sameBut hs hcc⟩
  ·obtain⟨e,n,ne,nf,d⟩:=I.pin p hp
   refine⟨(hs.2 p.1 ?_).trans e,n,ne,nf,d⟩
   intro q
   rw[q,hoc]at e
   have q':oc=p.2:=Option.some.inj e
   exact d w' (by rw[←q'];exact hocd)
theorem jt{M:Model}{A:Around}{E:Value->Shared->Prop}{i:Nat}{x:Str}{v:V}{u:Value}{Q:Unit->Shared->Prop}(I:Inv X pins σ H s)(hN:X.N.Nodup)(hi:X.N[i]?=some x)(hx:Loc X.env.scope x)(r:RelV v u)
  (h:∀s',Inv X pins (σ.set i (some v)) H s'->Q () s') (hf:X.fn x=true\/X.env.scope.names.lookup x=some .local:=by first | exact .inl rfl | exact .inr rfl | assumption):wpAny M A (storeName X.env x u) Q E s:=
 tZ I hN hi hx r (fun s' I' _=>h s' I') hf
theorem Inv.call'{s':Shared}{ch:List Addr}(I:Inv X pins σ H s)(ho:s'.os=s.os)(u:Un (cE X.stack) ch H H' s.heap s'.heap)(hok:bA X.prog X.w H' s'.heap)(hg:AllBare s'.gens)
  (hch:∀b∈ch,(b∈X.ex\/X.s₀.heap.objs.size<=b)/\b≠X.env.locals/\(∀x c,X.env.cells.lookup x=some c->c≠b)/\∀p∈X.pn++pins,p.1≠b):Inv X pins σ H' s':=by
 obtain⟨h',g',d',t',o'⟩:=s'
 have e:o'=s.os:=ho
 subst e
 exact I.call (g':=g') (t':=t') (d':=d') u hok hg hch
end
abbrev XK:=Value->Option Addr->Hp->Prop
abbrev St:=List (Option V)
abbrev VK:=V->Hp->Prop
abbrev TE:=St->Hp->VK->Prop
abbrev TT:=St->Hp->(Bool->Hp->Prop)->Prop
abbrev TA:=St->Hp->(List V->Hp->Prop)->Prop
structure Ends where
 nx:St->Hp->Prop
 rt:VK
 bk:St->Hp->Prop:=fun _ _=>False
 ct:St->Hp->Prop:=fun _ _=>False
abbrev TS:=Ends->St->Hp->Prop
def EP(X:Cx)(pins:List (Addr×Obj))(σ:St)(Q:VK)(u:Value)(s':Shared):Prop:=∃v H',Inv X pins σ H' s'/\RelV v u/\Q v H'
def TP(X:Cx)(pins:List (Addr×Obj))(σ:St)(Q:Bool->Hp->Prop)(b:Bool)(s':Shared):Prop:=∃H',Inv X pins σ H' s'/\Q b H'
def AP(X:Cx)(pins:List (Addr×Obj))(σ:St)(Q:List V->Hp->Prop)(us:List Value)(s':Shared):Prop:=∃vs H',Inv X pins σ H' s'/\Vals vs us/\Q vs H'
def SP(X:Cx)(pins:List (Addr×Obj))(D:Ends)(f:Flow)(s':Shared):Prop:=
 match f with
 | .next=>∃σ' H',Inv X pins σ' H' s'/\D.nx σ' H'
 | .brk=>∃σ' H',Inv X pins σ' H' s'/\D.bk σ' H'
 | .cont=>∃σ' H',Inv X pins σ' H' s'/\D.ct σ' H'
 | .ret u=>∃v σ' H',Inv X pins σ' H' s'/\RelV v u/\D.rt v H'
def PE(X:Cx)(e:Expr)(t:TE):Prop:=
 ∀(pins:List (Addr×Obj)) (s:Shared) (σ:St) (H:Hp) (Q:VK),Inv X pins σ H s->t σ H Q->wpAny (model X.prog X.w) X.A (eval e X.env) (EP X pins σ Q) X.xe s
def PT(X:Cx)(e:Expr)(t:TT):Prop:=
 ∀(pins:List (Addr×Obj)) (s:Shared) (σ:St) (H:Hp) (Q:Bool->Hp->Prop),Inv X pins σ H s->t σ H Q->wpAny (model X.prog X.w) X.A (isTrue e X.env (eval e X.env)) (TP X pins σ Q) X.xe s
def PW(X:Cx)(e:Expr)(t:TT):Prop:=
 ∀(whole:Sem Value) (pins:List (Addr×Obj)) (s:Shared) (σ:St) (H:Hp) (Q:Bool->Hp->Prop),Inv X pins σ H s->t σ H Q->wpAny (model X.prog X.w) X.A (isTrue e X.env whole) (TP X pins σ Q) X.xe s
theorem PW.pt{X:Cx}{e:Expr}{t:TT}(h:PW X e t):PT X e t:=h _
def PA(X:Cx)(es:List Expr)(t:TA):Prop:=
 ∀(pos:Pos) (pins:List (Addr×Obj)) (s:Shared) (σ:St) (H:Hp) (Q:List V->Hp->Prop),Inv X pins σ H s->t σ H Q->wpAny (model X.prog X.w) X.A (spliced (backTo pos (starEach es X.env))) (AP X pins σ Q) X.xe s
def PS(X:Cx)(st:Stmt)(t:TS):Prop:=
 ∀(pins:List (Addr×Obj)) (s:Shared) (σ:St) (H:Hp) (D:Ends),Inv X pins σ H s->t D σ H->wpAny (model X.prog X.w) X.A (exec st X.env) (SP X pins D) X.xe s
def bZ(X:Cx)(st:List Stmt)(t:TS):Prop:=
 ∀(pins:List (Addr×Obj)) (s:Shared) (σ:St) (H:Hp) (D:Ends),Inv X pins σ H s->t D σ H->wpAny (model X.prog X.w) X.A (execs st X.env) (SP X pins D) X.xe s
theorem az{α:Type}{t:Sem α}{Q Q':α->Shared->Prop}{M:Model}{A:Around}{E:Value->Shared->Prop}{s:Shared}(h:wpAny M A t Q E s)(hQ:∀a s,Q a s->Q' a s):wpAny M A t Q' E s:=wpAny_mono h hQ fun _ _ x=>x
end L2
namespace L2
open PySem PySem.Spec PyProof.Rows
section
variable {X:Cx}
theorem bin{a b:Expr}{ta tb:TE}(ha:PE X a ta)(hb:PE X b tb){pins:List (Addr×Obj)}{s:Shared}{σ:St}{H:Hp}{R:V->V->Hp->Prop}(I:Inv X pins σ H s)(h:ta σ H fun x H1=>tb σ H1 fun y H2=>R x y H2)
  {α:Type} {Q:α->Shared->Prop} {f:Value->Value->Sem α}
  (hf:∀v u s2 x y H2,Inv X pins σ H2 s2->RelV x v->RelV y u->R x y H2->wpAny (model X.prog X.w) X.A (f v u) Q X.xe s2) :
  wpAny (model X.prog X.w) X.A (eval a X.env) (fun v s₁=>wpAny (model X.prog X.w) X.A (eval b X.env) (fun u s₂=>wpAny (model X.prog X.w) X.A (f v u) Q X.xe s₂) X.xe s₁) X.xe s:=by
 refine az (ha pins s σ H _ I h) fun v s1 ⟨x,H1,I1,r1,q1⟩=>?_
 refine az (hb pins s1 σ H1 _ I1 q1) fun u s2 ⟨y,H2,I2,r2,q2⟩=>?_
 exact hf v u s2 x y H2 I2 r1 r2 q2
def lP(i:Nat):TE:=fun σ H Q=>∃v,σ[i]?=some (some v)/\Q v H
def tC(v:V):TE:=fun _ H Q=>Q v H
theorem yZ{i:Nat}{x:Str}{pos:Pos}(hN:X.N[i]?=some x)(hv:lg X.env.scope x)(hd:(x == ("__debug__":Str))=false:=by decide)(hcd:(x == ("__classdict__":Str))=false:=by decide):PE X (.Name x pos) (lP i):=by
 intro pins s σ H Q I h
 obtain⟨v,e,h⟩:=h
 obtain⟨m,hn,hl⟩:=I.loc
 obtain⟨u,r,l⟩:=hl i x v hN e hv
 have fin:EP X pins σ Q u s:=⟨v,H,I,r,h⟩
 rcases l with⟨hk,hm⟩ | ⟨hk,c,hc,hcell⟩
 ·exact wpAny_Name (wpAny_loadName_local I.ok.kind hk hn hm fin) hd
 ·rcases hk with hk | hk
  ·exact wpAny_Name (wpAny_loadName_cell I.ok.kind hk hc hcell fin) hd
  ·exact wpAny_Name (wpAny_loadName_free I.ok.kind hk hc hcell fin hcd) hd
theorem af{i j pos}:PE X (.Constant (.int i) j pos) (tC (.int i)):=fun _ _ _ H _ I h=>wpAny_Constant_int ⟨.int i,H,I.tok _,⟨_,rfl⟩,h⟩
theorem aN{b j pos}:PE X (.Constant (.bool b) j pos) (tC (.bl b)):=fun _ _ _ H _ I h=>Constant_bool ⟨.bl b,H,I,rfl,h⟩
theorem fB{j pos}:PE X (.Constant .none j pos) (tC .non):=fun _ _ _ H _ I h=>Constant_none ⟨.non,H,I,rfl,h⟩
theorem aQ{x j pos}:PE X (.Constant (.str x) j pos) (tC (.str x)):=fun _ _ _ H _ I h=>Calls.Constant_str ⟨.str x,H,I.tok _,⟨_,rfl⟩,h⟩
def Gl(X:Cx)(x:Str):Prop:=X.env.kindOf x=some .globalImplicit
theorem kH{E:Value->Shared->Prop}{pins:List (Addr×Obj)}{s:Shared}{σ:St}{H:Hp}{x:Str}{u:Value}{pos:Pos}{Q:Value->Shared->Prop}(I:Inv X pins σ H s)(hg:Gl X x)(hm:X.mg x=some u)(h:Q u s)
  (hd:(x == ("__debug__":Str))=false:=by decide):wpAny (model X.prog X.w) X.A (eval (.Name x pos) X.env) Q E s:=
 Calls.Name_function_global I.ok.kind hg (Calls.loadGlobal_global (by rw[I.ok.glob];exact I.mod.glob.keeps I.bk) hm h) hd
theorem eo{E:Value->Shared->Prop}{pins:List (Addr×Obj)}{s:Shared}{σ:St}{H:Hp}{x:Str}{u:Value}{pos:Pos}{Q:Value->Shared->Prop}(I:Inv X pins σ H s)(hg:Gl X x)(hm:X.mg x=none)(hv:bootBuiltins x=some u)(h:Q u s)
  (hn:x≠"__name__":=by decide) (hd:(x == ("__debug__":Str))=false:=by decide):wpAny (model X.prog X.w) X.A (eval (.Name x pos) X.env) Q E s:=by
 obtain⟨mb,h1,h2⟩:=I.mod.blt
 exact Calls.Name_function_global I.ok.kind hg (Calls.loadGlobal_builtin (by rw[I.ok.glob];exact I.mod.glob.keeps I.bk) hm (by rw[I.ok.blt];exact h1.keeps I.bk) ((h2 x hn).trans hv) h) hd
theorem fc{x:Str}{v:V}{u:Value}{pos:Pos}(hg:Gl X x)(hm:X.mg x=some u)(r:RelV v u)(hd:(x == ("__debug__":Str))=false:=by decide):PE X (.Name x pos) (tC v):=
 fun _ _ _ H _ I h=>kH I hg hm ⟨v,H,I,r,h⟩ hd
theorem cP{x:Str}{v:V}{u:Value}{pos:Pos}(hg:Gl X x)(hm:X.mg x=none)(hv:bootBuiltins x=some u)(r:RelV v u)(hn:x≠"__name__":=by decide)(hd:(x == ("__debug__":Str))=false:=by decide):PE X (.Name x pos) (tC v):=
 fun _ _ _ H _ I h=>eo I hg hm hv ⟨v,H,I,r,h⟩ hn hd
variable {a b:Expr} {ta tb:TE} {pos:Pos}
def PC(X:Cx)(op:CmpOp)(a b:Expr)(t:TE):Prop:=
 ∀(pins:List (Addr×Obj)) (s:Shared) (σ:St) (H:Hp) (Q:VK),Inv X pins σ H s->t σ H Q →
  wpAny (model X.prog X.w) X.A (eval a X.env) (fun v s₁=>wpAny (model X.prog X.w) X.A (eval b X.env) (fun u s₂=>wpAny (model X.prog X.w) X.A (compareOp op v u) (EP X pins σ Q) X.xe s₂) X.xe s₁) X.xe s
def tB(t:TE):TT:=fun σ H Q=>t σ H fun x H1=>∃c,x=.bl c/\Q c H1
theorem xT{op:CmpOp}{t:TE}(h:PC X op a b t)(h1:behindInMarks op b=false:=by first | exact nobehind _ (by decide) (by decide) | rfl):PE X (.Compare a [op] [b] pos) t:=fun pins s σ H Q I hw=>wpAny_Compare1 (h pins s σ H Q I hw) h1
theorem Bj{op:CmpOp}{t:TE}(h:PC X op a b t)(h1:behindInMarks op b=false:=by first | exact nobehind _ (by decide) (by decide) | rfl):PT X (.Compare a [op] [b] pos) (tB t):=by
 intro pins s σ H Q I hw
 refine wpAny_isTrue_Compare1 (az (h pins s σ H _ I hw) fun v s1 h1=>az h1 fun u s2 h2=>az h2 fun c s3 ⟨x,H1,I1,r1,q1⟩=>?_) h1
 obtain⟨d,rfl,q⟩:=q1
 cases r1
 exact wpAny_truthy_bool ⟨H1,I1,q⟩
theorem aZ{e:Expr}{t:TE}(h:PE X e t)(he:∀whole,isTrue e X.env whole=(do let v ←whole;standAt e.pos;holding [v] (truthy v)):=by intro _;rfl):PT X e (tB t):=by
 intro pins s σ H Q I hw
 refine isTrue_plain (az (h pins s σ H _ I hw) fun v s1 ⟨x,H1,I1,r1,q1⟩=>?_) (he _)
 obtain⟨d,rfl,q⟩:=q1
 cases r1
 exact wpAny_truthy_bool ⟨H1,I1,q⟩
variable {tA tB':TT} {rest:List Expr}
def rm(t u:TT):TT:=fun σ H Q=>t σ H fun c H1=>if c=true then u σ H1 Q else Q false H1
def ua(t u:TT):TT:=fun σ H Q=>t σ H fun c H1=>if c=true then Q true H1 else u σ H1 Q
def tG(t:TT):TT:=fun σ H Q=>t σ H fun c H1=>Q (!c) H1
theorem iZ(ha:PT X a tA):PW X (.BoolOp .And [a] pos) tA:=by
 intro wh pins s σ H Q I h
 refine isTrue_and (az (ha pins s σ H Q I h) fun c s1 e=>?_)
 cases c with
 | true=>exact isTrue_and_nil e
 | false=>exact e
theorem cz(ha:PT X a tA):PW X (.BoolOp .Or [a] pos) tA:=by
 intro wh pins s σ H Q I h
 refine isTrue_or (az (ha pins s σ H Q I h) fun c s1 e=>?_)
 cases c with
 | false=>exact isTrue_or_nil e
 | true=>exact e
theorem jj(ha:PT X a tA)(hb:PW X (.BoolOp .And (b::rest) pos) tB'):PW X (.BoolOp .And (a::b::rest) pos) (rm tA tB'):=by
 intro wh pins s σ H Q I h
 refine isTrue_and (az (ha pins s σ H _ I h) fun c s1 ⟨H1,I1,q1⟩=>?_)
 cases c with
 | true=>exact hb wh pins s1 σ H1 Q I1 q1
 | false=>exact⟨H1,I1,q1⟩
theorem bV(ha:PT X a tA)(hb:PW X (.BoolOp .Or (b::rest) pos) tB'):PW X (.BoolOp .Or (a::b::rest) pos) (ua tA tB'):=by
 intro wh pins s σ H Q I h
 refine isTrue_or (az (ha pins s σ H _ I h) fun c s1 ⟨H1,I1,q1⟩=>?_)
 cases c with
 | true=>exact⟨H1,I1,q1⟩
 | false=>exact hb wh pins s1 σ H1 Q I1 q1
theorem bt(ha:PT X a tA):PT X (.UnaryOp .Not a pos) (tG tA):=by
 intro pins s σ H Q I h
 exact isTrue_not (ha pins s σ H (fun c H1=>Q (!c) H1) I h)
def sM(ta tb:TE):TE:=fun σ H Q=>ta σ H fun x H1=>∃c,x=.bl c/\if c=true then tb σ H1 Q else Q (.bl false) H1
def oJ(ta:TE):TE:=fun σ H Q=>ta σ H fun x H1=>∃c,x=.bl c/\Q (.bl (!c)) H1
theorem cv{op}{t:TE}(h:PE X a t):PE X (.BoolOp op [a] pos) t:=fun pins s σ H Q I hw=>BoolOp_one (h pins s σ H Q I hw)
theorem bR(ha:PE X a ta)(hb:PE X (.BoolOp .And (b::rest) pos) tb):PE X (.BoolOp .And (a::b::rest) pos) (sM ta tb):=by
 intro pins s σ H Q I h
 refine BoolOp_and (az (ha pins s σ H _ I h) fun v s1 ⟨x,H1,I1,r1,q1⟩=>?_)
 obtain⟨c,rfl,q1⟩:=q1
 cases r1
 refine wpAny_truthy_bool ?_
 cases c with
 | true=>exact hb pins s1 σ H1 Q I1 q1
 | false=>exact⟨.bl false,H1,I1,rfl,q1⟩
theorem ix(ha:PE X a ta):PE X (.UnaryOp .Not a pos) (oJ ta):=by
 intro pins s σ H Q I h
 refine UnaryOp_ (az (ha pins s σ H _ I h) fun v s1 ⟨x,H1,I1,r1,q1⟩=>?_)
 obtain⟨c,rfl,q1⟩:=q1
 cases r1
 exact not_of (wpAny_truthy_bool ⟨.bl (!c),H1,I1,rfl,q1⟩)
end
end L2
namespace L2
open PySem PySem.Spec PyProof.Rows
def ag(K:PySem.W.Frag)(H:Hp)(a:Addr)(xs:List V):Prop:=
 Rd H a (.lst xs) ∨
  ∃(o:Obj) (its:Array Value) (n:Nat),K.lookup a=some o/\o.cls=.type "list"/\o.dict=none/\o.data=.seq its n/\its.size<=sizeLine/\Vals xs its.toList
def aj(K:PySem.W.Frag)(H:Hp)(a:Addr)(xs:List V):Prop:=
 Rd H a (.tup xs) ∨
  ∃(o:Obj) (its:Array Value) (n:Nat),K.lookup a=some o/\o.cls=.type "tuple"/\o.data=.seq its n/\its.size<=sizeLine/\Vals xs its.toList
def wQ:Value->Option V
 | .none=>some .non
 | .bool b=>some (.bl b)
 | .int i _=>some (.int i)
 | .str x _=>some (.str x)
 | .bytes b _=>some (.byt b)
 | .float b _=>some (.flt b)
 | .ref a=>some (.ref a)
 | .type n=>some (.ty n)
 | _=>none
theorem RelV.abs{x:V}{u:Value}(r:RelV x u):wQ u=some x:=by
 cases x with
 | non=>cases r;rfl
 | bl _=>cases r;rfl
 | int _=>obtain⟨t,rfl⟩:=r;rfl
 | str _=>obtain⟨t,rfl⟩:=r;rfl
 | byt _=>obtain⟨t,rfl⟩:=r;rfl
 | flt _=>obtain⟨t,rfl⟩:=r;rfl
 | ref _=>cases r;rfl
 | ty _=>cases r;rfl
theorem RelV.inj{x y:V}{u:Value}(r:RelV x u)(q:RelV y u):x=y:=Option.some.inj (r.abs.symm.trans q.abs)
theorem Vals.inj:∀{xs ys:List V} {us:List Value},Vals xs us->Vals ys us->xs=ys
 | _,_,_,.nil,.nil=>rfl
 | _,_,_,.cons r t,.cons r' t'=>by rw[r.inj r',Vals.inj t t']
section
variable {X:Cx} {pins:List (Addr×Obj)} {σ:St} {H:Hp} {s:Shared} {a:Addr} {xs ys:List V}
theorem ag.of{K:PySem.W.Frag}(h:H a=some (.lst xs)):ag K H a xs:=.inl (.inl h)
theorem aj.of{K:PySem.W.Frag}(h:H a=some (.tup xs)):aj K H a xs:=.inl (.inl h)
theorem Inv.list(I:Inv X pins σ H s)(h:ag X.K H a xs):∃its:List Value,Vals xs its/\PlainL s.heap a its.toArray/\xs.length<=sizeLine:=by
 rcases h with h | ⟨o,its,n,hk,hc,hd,hs,hz,r⟩
 ·obtain⟨z,its,n,r,e⟩:=h.ok I.hok
  exact⟨its,r,⟨_,n,e,rfl,rfl,rfl⟩,z⟩
 ·refine⟨its.toList,r,⟨o,n,I.kIn a o hk,hc,hd,by simpa using hs⟩,?_⟩
  have e:=r.length
  simp only[Array.length_toList]at e
  omega
theorem Inv.tuple(I:Inv X pins σ H s)(h:aj X.K H a xs):∃its:List Value,Vals xs its/\IsTup s.heap a its.toArray/\xs.length<=sizeLine:=by
 rcases h with h | ⟨o,its,n,hk,hc,hs,hz,r⟩
 ·obtain⟨z,its,r,p⟩:=h.ok I.hok
  exact⟨its,r,p,z⟩
 ·refine⟨its.toList,r,⟨o,I.kIn a o hk,hc,n,by simpa using hs⟩,?_⟩
  have e:=r.length
  simp only[Array.length_toList]at e
  omega
theorem Inv.list_inj(I:Inv X pins σ H s)(h:ag X.K H a xs)(h':ag X.K H a ys):xs=ys:=by
 obtain⟨its,r,⟨o,n,e,_,_,d⟩,_⟩:=I.list h
 obtain⟨its',r',⟨o',n',e',_,_,d'⟩,_⟩:=I.list h'
 rw[e]at e';cases e'
 rw[d]at d'
 injection d' with d1 _
 have:its=its':=by simpa using congrArg Array.toList d1
 subst this
 exact r.inj r'
theorem Inv.tuple_inj(I:Inv X pins σ H s)(h:aj X.K H a xs)(h':aj X.K H a ys):xs=ys:=by
 obtain⟨its,r,⟨o,e,_,n,d⟩,_⟩:=I.tuple h
 obtain⟨its',r',⟨o',e',_,n',d'⟩,_⟩:=I.tuple h'
 rw[e]at e';cases e'
 rw[d]at d'
 injection d' with d1 _
 have:its=its':=by simpa using congrArg Array.toList d1
 subst this
 exact r.inj r'
end
abbrev Cx.wish(X:Cx)(E:Value->Shared->Prop):Cx:={ X with xe:=E }
abbrev Cx.nox(X:Cx):Cx:=X.wish fun _ _=>False
theorem Cx.Ok.wish{X:Cx}(ok:X.Ok)(E:Value->Shared->Prop):(X.wish E).Ok:=
 ⟨ok.mod,ok.kind,ok.glob,ok.blt,ok.above,ok.inj,ok.has,ok.cab,ok.hd,ok.frames,ok.stk,ok.exf,ok.bs,ok.bsz,ok.noex,ok.exfs,ok.funs,ok.frf⟩
theorem Cx.Ok.unwish{X:Cx}{E:Value->Shared->Prop}(ok:(X.wish E).Ok):X.Ok:=
 ⟨ok.mod,ok.kind,ok.glob,ok.blt,ok.above,ok.inj,ok.has,ok.cab,ok.hd,ok.frames,ok.stk,ok.exf,ok.bs,ok.bsz,ok.noex,ok.exfs,ok.funs,ok.frf⟩
section
variable {X:Cx} {pins:List (Addr×Obj)} {σ:St} {H:Hp} {s:Shared} {E:Value->Shared->Prop}
theorem Inv.wish(I:Inv X pins σ H s)(E:Value->Shared->Prop):Inv (X.wish E) pins σ H s:=⟨I.ok.wish E,I.os,I.bare,I.base,I.loc,I.cell,I.free,I.freeC,I.pin,I.hok,I.len⟩
theorem Inv.unwish(I:Inv (X.wish E) pins σ H s):Inv X pins σ H s:=⟨I.ok.unwish,I.os,I.bare,I.base,I.loc,I.cell,I.free,I.freeC,I.pin,I.hok,I.len⟩
theorem SP.unwish{D:Ends}{f:Flow}{s':Shared}(h:SP (X.wish E) pins D f s'):SP X pins D f s':=by
 cases f with
 | next=>obtain⟨σ',H',I,q⟩:=h;exact⟨σ',H',I.unwish,q⟩
 | brk=>obtain⟨σ',H',I,q⟩:=h;exact⟨σ',H',I.unwish,q⟩
 | cont=>obtain⟨σ',H',I,q⟩:=h;exact⟨σ',H',I.unwish,q⟩
 | ret u=>obtain⟨v,σ',H',I,r,q⟩:=h;exact⟨v,σ',H',I.unwish,r,q⟩
theorem bZ.nox{st:List Stmt}{t:TS}(h:bZ X.nox st t):bZ X st t:=fun pins s σ H D I hw=>
 wpAny_mono (h pins s σ H D (I.wish _) hw) (fun _ _ q=>q.unwish) fun _ _ z=>False.elim z
end
section
variable {X:Cx} {st:Stmt} {rest:List Stmt} {t u:TS} {e:Expr} {te:TE} {pos:Pos}
def ou:TS:=fun D σ H=>D.nx σ H
def qm(t u:TS):TS:=fun D σ H=>t { D with nx:=u D } σ H
theorem aP:bZ X [] ou:=fun _ _ σ H _ I h=>wpAny_execs_nil ⟨σ,H,I,h⟩
theorem ao(h1:PS X st t)(h2:bZ X rest u):bZ X (st::rest) (qm t u):=by
 intro pins s σ H D I h
 refine wpAny_execs_cons (az (h1 pins s σ H { D with nx:=u D } I h) fun f s1 q=>?_)
 cases f with
 | next=>
  obtain⟨σ',H',I',q⟩:=q
  exact h2 pins s1 σ' H' D I' q
 | ret v=>exact q
 | brk=>exact q
 | cont=>exact q
theorem ar(h1:PS X st t):bZ X [st] t:=by
 intro pins s σ H D I h
 refine wpAny_execs_cons (az (h1 pins s σ H D I h) fun f s1 q=>?_)
 cases f with
 | next=>exact wpAny_execs_nil q
 | ret v=>exact q
 | brk=>exact q
 | cont=>exact q
theorem Inv.quiet{pins:List (Addr×Obj)}{σ:St}{H:Hp}{s:Shared}(I:Inv X pins σ H s):interactive X.env=false:=by simp[interactive,I.ok.kind]
def pS(te:TE):TS:=fun D σ H=>te σ H fun _ H1=>D.nx σ H1
theorem bx(he:PE X e te)(hs:swapsWith e none pos.line X.env=pure false:=by rfl):PS X (.Expr e pos) (pS te):=by
 intro pins s σ H D I h
 exact wpAny_Expr_any (az (he pins s σ H _ I h) fun v s1 ⟨x,H1,I1,r1,q1⟩=>⟨σ,H1,I1,q1⟩) I.quiet hs
def oV(te:TE):TS:=fun D σ H=>te σ H D.rt
theorem aA(he:PE X e te):PS X (.Return (some e) pos) (oV te):=by
 intro pins s σ H D I h
 exact wpAny_Return_some (az (he pins s σ H _ I h) fun v s1 ⟨x,H1,I1,r1,q1⟩=>⟨x,σ,H1,I1,r1,q1⟩)
def tI(c:TT)(t u:TS):TS:=fun D σ H=>c σ H fun b H1=>if b=true then t D σ H1 else u D σ H1
theorem aU{c:Expr}{a b:List Stmt}{tc:TT}(hc:PT X c tc)(ha:bZ X a t)(hb:bZ X b u):PS X (.If c a b pos) (tI tc t u):=by
 intro pins s σ H D I h
 refine wpAny_If (az (hc pins s σ H _ I h) fun d s1 ⟨H1,I1,q1⟩=>?_)
 cases d with
 | true=>exact ha pins s1 σ H1 D I1 q1
 | false=>exact hb pins s1 σ H1 D I1 q1
def zH:TS:=fun _ _ _=>False
theorem lM:PS X st zH:=fun _ _ _ _ _ _ h=>h.elim
end
abbrev TG:=V->St->Hp->(St->Hp->Prop)->Prop
abbrev cO:=List V->St->Hp->(St->Hp->Prop)->Prop
def PG(X:Cx)(target:Expr)(t:TG):Prop:=
 ∀(pins:List (Addr×Obj)) (s:Shared) (σ:St) (H:Hp) (v:V) (u:Value) (Q:St->Hp->Prop),Inv X pins σ H s->RelV v u->t v σ H Q →
  wpAny (model X.prog X.w) X.A (assign target X.env u) (fun _ s'=>∃σ' H',Inv X pins σ' H' s'/\Q σ' H') X.xe s
def gQ(X:Cx)(ts:List Expr)(t:cO):Prop:=
 ∀(pins:List (Addr×Obj)) (s:Shared) (σ:St) (H:Hp) (vs:List V) (us:List Value) (Q:St->Hp->Prop),Inv X pins σ H s->Vals vs us->t vs σ H Q →
  wpAny (model X.prog X.w) X.A (assignInOrder ((assignEach ts X.env).map (·.2)) us) (fun _ s'=>∃σ' H',Inv X pins σ' H' s'/\Q σ' H') X.xe s
abbrev km:=V->V->V->Hp->(Hp->Prop)->Prop
def qA(X:Cx)(t:km):Prop:=
 ∀(pins:List (Addr×Obj)) (s:Shared) (σ:St) (H:Hp) (o i v:V) (ov iv u:Value) (Q:Hp->Prop),Inv X pins σ H s->RelV o ov->RelV i iv->RelV v u->t o i v H Q →
  wpAny (model X.prog X.w) X.A (setItem ov iv u) (fun _ s'=>∃H',Inv X pins σ H' s'/\Q H') X.xe s
section
variable {X:Cx} {pos:Pos}
def iF(i:Nat):TG:=fun v σ H Q=>Q (σ.set i (some v)) H
theorem aF{i:Nat}{x:Str}(hN:X.N.Nodup)(hi:X.N[i]?=some x)(hx:Loc X.env.scope x)(hf:X.fn x=true\/X.env.scope.names.lookup x=some .local:=by first | exact .inl rfl | exact .inr rfl | assumption):PG X (.Name x pos) (iF i):=by
 intro pins s σ H v u Q I r h
 exact wpAny_assign_Name (jt I hN hi hx r (fun s' I'=>⟨_,H,I',h⟩) hf)
def sd:cO:=fun vs σ H Q=>vs=[]/\Q σ H
def qM(t:TG)(u:cO):cO:=fun vs σ H Q=>∃v r,vs=v::r/\t v σ H fun σ' H'=>u r σ' H' Q
theorem eM:gQ X [] sd:=by
 intro pins s σ H vs us Q I r h
 obtain⟨e,h⟩:=h
 subst e
 cases r
 exact assignInOrder_nil ⟨σ,H,I,h⟩
theorem br{e:Expr}{es:List Expr}{t:TG}{u:cO}(h1:PG X e t)(h2:gQ X es u)
  (hs:(assignEach (e::es) X.env).map (·.2)=assign e X.env::(assignEach es X.env).map (·.2):=by rfl):gQ X (e::es) (qM t u):=by
 intro pins s σ H vs us Q I r h
 obtain⟨v,vr,e1,h⟩:=h
 subst e1
 cases r with
 | cons r rr=>
  rw[hs]
  refine assignInOrder_cons (az (h1 pins s σ H _ _ _ I r h) fun _ s1 ⟨σ1,H1,I1,q1⟩=>?_)
  exact h2 pins s1 σ1 H1 _ _ Q I1 rr q1
def ni(K:PySem.W.Frag)(n:Nat)(t:cO):TG:=fun v σ H Q=>∃a xs,v=.ref a/\aj K H a xs/\xs.length=n/\t xs σ H Q
theorem zk{es:List Expr}{k:Nat}{t:cO}{n:Nat}(hc:X.calm=true)(h:gQ X es t)
  (hn:(assignEach es X.env).length=n:=by rfl) (hst:(assignEach es X.env).findIdx? (·.1)=none:=by rfl):PG X (.Tuple es k pos) (ni X.K n t):=by
 intro pins s σ H v u Q I r hw
 obtain⟨a,xs,e1,hq,hl,hw⟩:=hw
 subst e1
 cases r
 obtain⟨its,rv,ht,hz⟩:=I.tuple hq
 refine assign_Tuple_tuple (I.ok.hd hc) ht (by simp[hn,←hl,rv.length]) hst fun h' hx=>?_
 have I1:Inv X pins σ H { s with heap:=h' }:=I.kept (t':=s.toks) fun b o e=>hx b o (Nat.ne_of_lt (Heap.lt_size e)) e
 exact h pins _ σ H xs _ Q I1 (by simpa using rv) hw
def sD(to ti:TE)(t:km):TG:=fun v σ H Q=>to σ H fun o H1=>ti σ H1 fun i H2=>t o i v H2 fun H3=>Q σ H3
theorem lH{o i:Expr}{to ti:TE}{t:km}(ho:PE X o to)(hi:PE X i ti)(hs:qA X t)
  (ha:∀v,assign (.Subscript o i pos) X.env v=(do
   let ov ←holding [v] (eval o X.env)
   let iv ←holding [v,ov] (eval i X.env)
   standAt pos
   holding [v,ov,iv] (setItem ov iv v)
   release [v,ov,iv] []):=by intro _;rfl):PG X (.Subscript o i pos) (sD to ti t):=by
 intro pins s σ H v u Q I r h
 rw[ha]
 refine wpAny_bind (wpAny_holding (az (ho pins s σ H _ I h) fun ov s1 ⟨x,H1,I1,r1,q1⟩=>?_))
 refine wpAny_bind (wpAny_holding (az (hi pins s1 σ H1 _ I1 q1) fun iv s2 ⟨y,H2,I2,r2,q2⟩=>?_))
 refine wpAny_bind (wpAny_standAt (wpAny_bind (wpAny_holding (az (hs pins s2 σ H2 x y v ov iv u _ I2 r1 r2 r q2) fun _ s3 ⟨H3,I3,q3⟩=>?_))))
 exact wpAny_release ⟨σ,H3,I3,q3⟩
def jy(te:TE)(g:TG):TS:=fun D σ H=>te σ H fun x H1=>g x σ H1 D.nx
theorem dX{tg e:Expr}{te:TE}{g:TG}(he:PE X e te)(hg:PG X tg g)(hs:swapsWithSole [tg] e pos.line X.env=pure false:=by rfl)(hw:swappedStores [tg] e X.env=pure none:=by rfl)
  (h1:(assignEach [tg] X.env).map (·.2)=[assign tg X.env]:=by rfl):PS X (.Assign [tg] e pos) (jy te g):=by
 intro pins s σ H D I h
 refine wpAny_Assign_stores (az (he pins s σ H _ I h) fun v s1 ⟨x,H1,I1,r1,q1⟩=>?_) hs hw
 rw[h1]
 exact az (hg pins s1 σ H1 x v _ I1 r1 q1) fun _ s2 q=>q
theorem aH{i:Nat}{x:Str}{e:Expr}{te:TE}{pos':Pos}(hN:X.N.Nodup)(hi:X.N[i]?=some x)(hx:Loc X.env.scope x)(he:PE X e te)(hs:swapsWith e (some (.Name x pos')) pos.line X.env=pure false:=by rfl)(hf:X.fn x=true\/X.env.scope.names.lookup x=some .local:=by first | exact .inl rfl | exact .inr rfl | assumption):
  PS X (.Assign [.Name x pos'] e pos) (jy te (iF i)):=by
 intro pins s σ H D I h
 refine wpAny_Assign_Name (az (he pins s σ H _ I h) fun v s1 ⟨y,H1,I1,r1,q1⟩=>?_) hs
 exact jt I1 hN hi hx r1 (fun s2 I2=>⟨_,H1,I2,q1⟩) hf
def rL(i j:Nat)(ta:TA):TS:=fun D σ H=>ta σ H fun vs H1=>∃v w,vs=[v,w]/\D.nx ((σ.set i (some v)).set j (some w)) H1
theorem uD{i j:Nat}{x y:Str}{a b:Expr}{ta:TA}{px py pt:Pos}{kt k2 pt2}(hc:X.calm=true)(hN:X.N.Nodup)(hi:X.N[i]?=some x)(hj:X.N[j]?=some y)(hij:i≠j)
  (hx:X.env.scope.names.lookup x=some .local) (hy:X.env.scope.names.lookup y=some .local) (ha:PA X [a,b] ta)
  (hw:swappedStores [.Tuple [.Name x px,.Name y py] kt pt] (.Tuple [a,b] k2 pt2) X.env=pure (some [x,y]))
  (hs:swapsWithSole [.Tuple [.Name x px,.Name y py] kt pt] (.Tuple [a,b] k2 pt2) pos.line X.env=pure false:=by rfl) :
  PS X (.Assign [.Tuple [.Name x px,.Name y py] kt pt] (.Tuple [a,b] k2 pt2) pos) (rL i j ta):=by
 intro pins s σ H D I h
 rw[exec_Assign_arm]
 refine wpAny_bind (wpAny_standAt ?_)
 rw[hs]
 refine wpAny_bind (wpAny_pure ?_)
 rw[if_neg (by decide)]
 refine wpAny_bind (Tuple_ (az (ha _ pins s σ H _ I h) fun us s1 ⟨vs,H1,I1,r1,q1⟩=>?_))
 obtain⟨v,w,e1,q1⟩:=q1
 subst e1
 obtain⟨u1,u2,rfl,rv,rw'⟩:∃u1 u2,us=[u1,u2]/\RelV v u1/\RelV w u2:=by
  cases r1 with
  | cons p q=>
   cases q with
   | cons p' q'=>
    cases q'
    exact⟨_,_,rfl,p,p'⟩
 refine wpAny_newObj_type ?_ (by show 2<=sizeLine;decide)
 have I2:Inv X pins σ H1 { s1 with heap:=s1.heap.push { cls:=.type "tuple",data:=.seq [u1,u2].toArray } }:=I1.kept (t':=s1.toks) fun b o e=>Heap.get?_push_of_some _ e
 rw[hw]
 refine wpAny_bind (wpAny_pure ?_)
 show wpAny (model X.prog X.w) X.A (do rule "assign.swapped-stores";let items ←unpackItems (.ref s1.heap.objs.size) 2 none;assignInOrder [fun v=>bindName X.env y v,fun v=>bindName X.env x v] items.reverse;pure Flow.next) _ _ _
 refine wpAny_bind (wpAny_rule (wpAny_bind (unpackItems_tuple (items:=#[u1,u2]) (I.ok.hd hc) (IsTup.new s1.heap _) fun h' hx'=>?_)))
 have I3:=I2.kept (h':=h') (t':=s1.toks) fun b o e=>hx' b o (Nat.ne_of_lt (Heap.lt_size e)) e
 show wpAny _ _ (assignInOrder [fun v=>bindName X.env y v,fun v=>bindName X.env x v] [u2,u1] >>= fun _=>pure Flow.next) _ _ _
 refine wpAny_bind (assignInOrder_cons (wpAny_bindName (jt I3 hN hj (.inl hy) rw' (fun s2 I4=>?_) (.inr hy))))
 refine assignInOrder_cons (wpAny_bindName (jt I4 hN hi (.inl hx) rv (fun s3 I5=>assignInOrder_nil (wpAny_pure ?_)) (.inr hx)))
 rw[List.set_comm _ _ (Ne.symm hij)]at I5
 exact⟨_,H1,I5,q1⟩
end
section
variable {X:Cx} {pos:Pos}
def wz(c:TT)(tb:TS):TS:=fun D σ H=>∃W:Nat->St->Hp->Prop,(∃m,W m σ H)/\∀m σ H,W m σ H →
 c σ H fun b H1=>if b=true then ∃N:St->Hp->Prop,(∀σ' H',N σ' H'->∃m',m'<m/\W m' σ' H')/\tb { D with nx:=N,ct:=N,bk:=D.nx } σ H1 else D.nx σ H1
theorem wA{c:Expr}{body:List Stmt}{tc:TT}{tb:TS}(hp:PassesOwn (model X.prog X.w) X.A X.env X.xe)(hc:PT X c tc)(hb:bZ X body tb):PS X (.While c body [] pos) (wz tc tb):=by
 intro pins s σ H D I h
 obtain⟨W,⟨m0,w0⟩,turn⟩:=h
 refine wpAny_While (codeAny_whileLoop (fun n s'=>∃σ' H',Inv X pins σ' H' s'/\W n σ' H') ?_ m0 ⟨σ,H,I,w0⟩)
 rintro n s1 ⟨σ1,H1,I1,w1⟩
 refine wpAny_passesOwn hp (az (hc pins s1 σ1 H1 _ I1 (turn n σ1 H1 w1)) fun b s2 ⟨H2,I2,q2⟩=>?_)
 cases b with
 | true=>
  obtain⟨N,hN,q2⟩:=q2
  rw[if_pos rfl]
  refine wpAny_passesOwn hp (az (hb pins s2 σ1 H2 _ I2 q2) fun f s3 q3=>?_)
  cases f with
  | next=>
   obtain⟨σ3,H3,I3,n3⟩:=q3
   obtain⟨m',hm,w3⟩:=hN σ3 H3 n3
   exact⟨m',hm,σ3,H3,I3,w3⟩
  | cont=>
   obtain⟨σ3,H3,I3,n3⟩:=q3
   obtain⟨m',hm,w3⟩:=hN σ3 H3 n3
   exact⟨m',hm,σ3,H3,I3,w3⟩
  | brk=>exact q3
  | ret v=>exact q3
 | false=>
  rw[if_neg Bool.false_ne_true]
  exact wpAny_execs_nil ⟨σ1,H2,I2,q2⟩
end
structure It where
 go:Nat->Hp->Prop
 yld:Nat->Hp->V->Hp->Prop
 stop:Nat->Hp->Prop
def bT(X:Cx)(pins:List (Addr×Obj))(H:Hp)(b:Addr):Prop:=
 H b=none/\b≠X.env.locals/\b∉X.fs/\(b∈X.ex\/X.s₀.heap.objs.size<=b)/\(∀x c,X.env.cells.lookup x=some c->c≠b)/\∀p∈X.pn++pins,p.1≠b
theorem Inv.fpOk{X:Cx}{pins:List (Addr×Obj)}{σ:St}{H H':Hp}{s:Shared}{b:Addr}(I:Inv X pins σ H s)(hb:s.heap.objs.size<=b)(hn:H' b=none):bT X pins H' b:=by
 refine⟨hn,Nat.ne_of_gt (Nat.lt_of_lt_of_le I.lt hb),I.nofs hb,.inr (Nat.le_trans I.sz hb),fun x c e z=>?_,fun p hp z=>?_⟩
 ·obtain⟨v,q⟩:=I.cell x c e
  exact absurd (Nat.lt_of_lt_of_le q.lt (by rw[z];exact hb)) (Nat.lt_irrefl _)
 ·exact absurd (Nat.lt_of_lt_of_le (Heap.lt_size (I.pin p hp).1) (by rw[z];exact hb)) (Nat.lt_irrefl _)
structure Turn(P:Program)(w:World)(K:PySem.W.Frag)(tg:Expr)(J:It)(fp:List Addr)(it:Addr)(tn:Nat->Heap->Prop):Prop where
 mem:it∈fp
 obj:∀i h,tn i h->∀b∈fp,∃o,h.get? b=some o/\∀v,o.data≠.cell v
 keep:∀i h h',tn i h->(∀b∈fp,∀o,h.get? b=some o->h'.get? b=some o)->tn i h'
 item:∀(X:Cx),X.prog=P->X.w=w->X.K=K->X.calm=true->∀(i:Nat) (pins:List (Addr×Obj)) (s:Shared) (σ:St) (H:Hp) (E:Value->Shared->Prop),Inv X pins σ H s->(∀b∈fp,bT X pins H b)->tn i s.heap->J.go i H →
  wpAny (model P w) X.A (pyNext (.ref it)) (fun r s1=>∃u,r=some u ∧
   wpAny (model P w) X.A (letOwnedTupleGo tg (.ref it) u) (fun _ s2=>∃x H',Inv X pins σ H' s2/\RelV x u/\J.yld i H x H'/\tn (i+1) s2.heap/\∀b∈fp,H' b=none) E s1) E s
 done:∀(X:Cx),X.prog=P->X.w=w->X.K=K->X.calm=true->∀(i:Nat) (pins:List (Addr×Obj)) (s:Shared) (σ:St) (H:Hp) (E:Value->Shared->Prop),Inv X pins σ H s->(∀b∈fp,bT X pins H b)->tn i s.heap->J.stop i H →
  wpAny (model P w) X.A (pyNext (.ref it)) (fun r s1=>r=none/\Inv X pins σ H s1) E s
 self:∀(A:Around) (i:Nat) (s:Shared) (Q:Value->Shared->Prop) (E:Value->Shared->Prop),tn i s.heap->Q (.ref it) s->wpAny (model P w) A (pyIter (.ref it)) Q E s
abbrev TI:=St->Hp->(It->Hp->Prop)->Prop
def lA(X:Cx)(pins:List (Addr×Obj))(σ:St)(tg:Expr)(R:It->Hp->Prop)(itv:Value)(s2:Shared):Prop:=
 ∃(it:Addr) (fp:List Addr) (tn:Nat->Heap->Prop) (J:It) (H':Hp),itv=.ref it/\Inv X pins σ H' s2/\Turn X.prog X.w X.K tg J fp it tn/\tn 0 s2.heap/\(∀b∈fp,bT X pins H' b)/\R J H'
def PI(X:Cx)(tg iter:Expr)(wi:TI):Prop:=
 ∀(pins:List (Addr×Obj)) (s:Shared) (σ:St) (H:Hp) (R:It->Hp->Prop),Inv X pins σ H s->wi σ H R →
  wpAny (model X.prog X.w) X.A (eval iter X.env) (fun v s1=>wpAny (model X.prog X.w) X.A (pyIter v) (lA X pins σ tg R) X.xe s1) X.xe s
theorem jz {M : Model} {A : Around} {E : Value → Shared → Prop} {s : Shared} {tg : Expr} {it : Addr} {u : Value} {o : Obj} {n : String} {vs : Array Value} {Q : Unit → Shared → Prop} (ho : s.heap.get? it = some o) (hc : o.cls = .type n) (hd : o.data = .fields vs)
    (hn : ["enumerate", "zip", "dict_itemiterator", "dict_reverseitemiterator", "odict_iterator", "itertools.zip_longest", "itertools.pairwise"].contains n = false) (hQ : Q () s) : wpAny M A (letOwnedTupleGo tg (.ref it) u) Q E s := by
  unfold letOwnedTupleGo
  cases tg <;> first
    | exact wpAny_pure hQ
    | (cases u <;> first
        | exact wpAny_pure hQ
        | (refine wpAny_bind (wpAny_load ho ?_)
           rw [hc, hd]
           show wpAny M A (if (["enumerate", "zip", "dict_itemiterator", "dict_reverseitemiterator", "odict_iterator", "itertools.zip_longest", "itertools.pairwise"].contains n && vs[0]? == some (rawInt _)) = true then _ else _) Q E s
           rw [if_neg (by intro h; rw [hn, Bool.false_and] at h; cases h)]
           exact wpAny_pure hQ))
def cg(K:PySem.W.Frag)(a:Addr):It:=
 ⟨fun i H=>∃xs x,ag K H a xs/\xs[i]?=some x,fun i H x H'=>H'=H/\∀xs,ag K H a xs->xs[i]?=some x,fun i H=>∃xs,ag K H a xs/\xs.length<=i⟩
def cG(K:PySem.W.Frag)(a:Addr):It:=
 ⟨fun i H=>∃xs x,aj K H a xs/\xs[i]?=some x,fun i H x H'=>H'=H/\∀xs,aj K H a xs->xs[i]?=some x,fun i H=>∃xs,aj K H a xs/\xs.length<=i⟩
def cN(lo:Int)(n:Nat):It:=⟨fun i _=>i<n,fun i H x H'=>H'=H/\x=.int (lo+i),fun i _=>n<=i⟩
theorem yq{P:Program}{w:World}{K:PySem.W.Frag}{tg:Expr}(a it:Addr):Turn P w K tg (cg K a) [it] it (fun i h=>h.IsListIter it a i) where
 mem:=by simp
 obj:=fun i h st b hb=>by
  have e:b=it:=by simpa using hb
  subst e
  obtain⟨o,e,c,d⟩:=st
  exact⟨o,e,fun v z=>by rw[d]at z;cases z⟩
 keep:=fun i h h' st k=>st.at fun o e=>k it (by simp) o e
 item:=by
  intro X hP hw hK hc i pins s σ H E I hf st hg
  subst hP hw hK
  obtain⟨xs,x,hq,hx⟩:=hg
  obtain⟨its,rv,p,hz⟩:=I.list hq
  obtain⟨u,hu,ru⟩:=rv.get hx
  obtain⟨f0,f1,f2,f3,f4,f5⟩:=hf it (by simp)
  refine wpAny_pyNext_list_item st p.isList (x:=u) (by simpa using hu) fun h' st' sb=>?_
  have I1:Inv X pins σ H { s with heap:=h' }:=I.turned (t':=s.toks) (fun b o hb e=>(sb.2 b hb).trans e) f0 f1 f3 f4 f5
  obtain⟨o,e,c,d⟩:=id st'
  exact⟨u,rfl,jz (s:={ s with heap:=h' }) e c d (by decide) ⟨x,H,I1,ru,⟨rfl,fun ys hy=>by rw[I.list_inj hy hq];exact hx⟩,st',fun b hb=>(hf b hb).1⟩⟩
 done:=by
  intro X hP hw hK hc i pins s σ H E I hf st hg
  subst hP hw hK
  obtain⟨xs,hq,hx⟩:=hg
  obtain⟨its,rv,p,hz⟩:=I.list hq
  obtain⟨f0,f1,f2,f3,f4,f5⟩:=hf it (by simp)
  have hl:=rv.length
  exact wpAny_pyNext_list_end (I.ok.hd hc) st p.isList (by simp;omega) fun h' eb=>⟨rfl,I.turned (t':=s.toks) (fun b o hb e=>eb b o hb e) f0 f1 f3 f4 f5⟩
 self:=fun _ _ _ _ _ st h=>wpAny_pyIter_listiter st h
theorem yA{P:Program}{w:World}{K:PySem.W.Frag}{tg:Expr}(a it:Addr):Turn P w K tg (cG K a) [it] it (fun i h=>h.IsTupleIter it a i) where
 mem:=by simp
 obj:=fun i h st b hb=>by
  have e:b=it:=by simpa using hb
  subst e
  obtain⟨o,e,c,d⟩:=st
  exact⟨o,e,fun v z=>by rw[d]at z;cases z⟩
 keep:=fun i h h' st k=>st.at fun o e=>k it (by simp) o e
 item:=by
  intro X hP hw hK hc i pins s σ H E I hf st hg
  subst hP hw hK
  obtain⟨xs,x,hq,hx⟩:=hg
  obtain⟨its,rv,p,hz⟩:=I.tuple hq
  obtain⟨u,hu,ru⟩:=rv.get hx
  obtain⟨f0,f1,f2,f3,f4,f5⟩:=hf it (by simp)
  refine wpAny_pyNext_tuple_item st (show s.heap.IsTuple a its.toArray from p) (x:=u) (by simpa using hu) fun h' st' sb=>?_
  have I1:Inv X pins σ H { s with heap:=h' }:=I.turned (t':=s.toks) (fun b o hb e=>(sb.2 b hb).trans e) f0 f1 f3 f4 f5
  obtain⟨o,e,c,d⟩:=id st'
  exact⟨u,rfl,jz (s:={ s with heap:=h' }) e c d (by decide) ⟨x,H,I1,ru,⟨rfl,fun ys hy=>by rw[I.tuple_inj hy hq];exact hx⟩,st',fun b hb=>(hf b hb).1⟩⟩
 done:=by
  intro X hP hw hK hc i pins s σ H E I hf st hg
  subst hP hw hK
  obtain⟨xs,hq,hx⟩:=hg
  obtain⟨its,rv,p,hz⟩:=I.tuple hq
  obtain⟨f0,f1,f2,f3,f4,f5⟩:=hf it (by simp)
  have hl:=rv.length
  exact wpAny_pyNext_tuple_end (I.ok.hd hc) st (show s.heap.IsTuple a its.toArray from p) (by simp;omega) fun h' eb=>⟨rfl,I.turned (t':=s.toks) (fun b o hb e=>eb b o hb e) f0 f1 f3 f4 f5⟩
 self:=fun _ _ _ _ _ st h=>wpAny_pyIter_tupleiter st h
theorem yf{P:Program}{w:World}{K:PySem.W.Frag}{tg:Expr}(it:Addr)(lo:Int)(n:Nat):Turn P w K tg (cN lo n) [it] it (fun i h=>IsRangeIter h it (lo+(i:Nat)*1) ((n:Int)-(i:Nat)) 1) where
 mem:=by simp
 obj:=fun i h st b hb=>by
  have e:b=it:=by simpa using hb
  subst e
  exact⟨_,st,fun v z=>by
   have z':Data.fields _=Data.cell v:=z
   cases z'⟩
 keep:=fun i h h' st k=>k it (by simp) _ st
 item:=by
  intro X hP hw hK hc i pins s σ H E I hf st hg
  subst hP hw hK
  obtain⟨f0,f1,f2,f3,f4,f5⟩:=hf it (by simp)
  have W:=Walks.range (prog:=X.prog) (w:=X.w) (I.ok.hd hc) it lo 1 n
  refine W.item i s _ _ hg st fun v h' tk hv st' kk=>?_
  obtain⟨t,rfl⟩:=hv
  have I1:Inv X pins σ H { s with heap:=h',toks:=tk }:=I.turned (fun b o hb e=>kk b o (by simpa using hb) e) f0 f1 f3 f4 f5
  refine⟨_,rfl,jz (s:={ s with heap:=h',toks:=tk }) (n:="range_iterator") st' rfl rfl (by decide) ⟨.int (lo+i),H,I1,⟨t,?_⟩,⟨rfl,rfl⟩,st',fun b hb=>(hf b hb).1⟩⟩
  rw[Int.mul_one]
 done:=by
  intro X hP hw hK hc i pins s σ H E I hf st hg
  subst hP hw hK
  obtain⟨f0,f1,f2,f3,f4,f5⟩:=hf it (by simp)
  exact wpAny_pyNext_range_end (I.ok.hd hc) st (by have:n<=i:=hg;omega) fun h' eb=>⟨rfl,I.turned (t':=s.toks) (fun b o hb e=>eb b o hb e) f0 f1 f3 f4 f5⟩
 self:=fun _ _ _ _ _ st h=>wpAny_pyIter_rangeiter st h
end L2
namespace L2
open PySem PySem.Spec PyProof.Rows
section
variable {X:Cx} {tg:Expr}
def lX(K:PySem.W.Frag)(tl:TE):TI:=fun σ H R=>tl σ H fun x H1=>∃a,x=.ref a/\(∃xs,ag K H1 a xs)/\R (cg K a) H1
def nc(K:PySem.W.Frag)(tl:TE):TI:=fun σ H R=>tl σ H fun x H1=>∃a,x=.ref a/\(∃xs,aj K H1 a xs)/\R (cG K a) H1
theorem wZ{l:Expr}{tl:TE}(hl:PE X l tl):PI X tg l (lX X.K tl):=by
 intro pins s σ H R I h
 refine az (hl pins s σ H _ I h) fun v s1 ⟨x,H1,I1,r1,q1⟩=>?_
 obtain⟨a,e,⟨xs,hq⟩,q⟩:=q1
 subst e
 cases r1
 obtain⟨its,rv,p,hz⟩:=I1.list hq
 refine wpAny_pyIter_list p.isList ?_
 refine⟨s1.heap.objs.size,[s1.heap.objs.size],_,_,H1,rfl,I1.kept (t':=s1.toks) fun b o e=>Heap.get?_push_of_some _ e,yq a _,⟨_,Heap.get?_push_size _ rfl,rfl,rfl⟩,fun b hb=>?_,q⟩
 have e:b=s1.heap.objs.size:=by simpa using hb
 subst e
 exact I1.fpOk (Nat.le_refl _) (I1.hok.fresh (Nat.le_refl _))
theorem wH{l:Expr}{tl:TE}(hl:PE X l tl):PI X tg l (nc X.K tl):=by
 intro pins s σ H R I h
 refine az (hl pins s σ H _ I h) fun v s1 ⟨x,H1,I1,r1,q1⟩=>?_
 obtain⟨a,e,⟨xs,hq⟩,q⟩:=q1
 subst e
 cases r1
 obtain⟨its,rv,p,hz⟩:=I1.tuple hq
 refine wpAny_pyIter_tuple (show s1.heap.IsTuple a its.toArray from p) ?_
 refine⟨s1.heap.objs.size,[s1.heap.objs.size],_,_,H1,rfl,I1.kept (t':=s1.toks) fun b o e=>Heap.get?_push_of_some _ e,yA a _,⟨_,Heap.get?_push_size _ rfl,rfl,rfl⟩,fun b hb=>?_,q⟩
 have e:b=s1.heap.objs.size:=by simpa using hb
 subst e
 exact I1.fpOk (Nat.le_refl _) (I1.hok.fresh (Nat.le_refl _))
theorem pT{pins:List (Addr×Obj)}{σ:St}{H:Hp}{s:Shared}{R:It->Hp->Prop}{E:Value->Shared->Prop}{lo hi:Int}{t u v:Tok}{tk:Nat}(I:Inv X pins σ H s)(h1:-(2 ^ 62)<=lo)(h2:lo<2 ^ 62)(h3:-(2 ^ 62)<=hi)(h4:hi<2 ^ 62)
  (q:R (cN lo (hi-lo).toNat) H):wpAny (model X.prog X.w) X.A (pyIter (.ref s.heap.objs.size)) (lA X pins σ tg R) E { s with heap:=s.heap.push { cls:=.type "range",data:=.fields #[.int lo t,.int hi u,.int 1 v] },toks:=tk }:=by
 refine wpAny_pyIter_range (IsRange.new ..) (small_one h1 h2 h3 h4) ?_
 have I1:Inv X pins σ H { s with heap:=s.heap.push { cls:=.type "range",data:=.fields #[.int lo t,.int hi u,.int 1 v] },toks:=tk }:=I.kept fun b o e=>Heap.get?_push_of_some _ e
 refine⟨(s.heap.push { cls:=.type "range",data:=.fields #[.int lo t,.int hi u,.int 1 v] }).objs.size,[(s.heap.push { cls:=.type "range",data:=.fields #[.int lo t,.int hi u,.int 1 v] }).objs.size],_,_,H,rfl,
  I1.kept (t':=tk) fun b o e=>Heap.get?_push_of_some _ e,yf _ lo (hi-lo).toNat,?_,fun b hb=>?_,q⟩
 ·have e1:lo+((0:Nat):Int)*1=lo:=by simp
  have e2:(((hi-lo).toNat:Nat):Int)-((0:Nat):Int)=Builtin.Range.rangeSize lo hi 1:=by rw[rangeSize_one];split<;>omega
  show IsRangeIter _ _ (lo+((0:Nat):Int)*1) ((((hi-lo).toNat:Nat):Int)-((0:Nat):Int)) 1
  rw[e1,e2]
  exact Heap.get?_push_size _ rfl
 ·have e:b=(s.heap.push { cls:=.type "range",data:=.fields #[.int lo t,.int hi u,.int 1 v] }).objs.size:=by simpa using hb
  subst e
  exact I1.fpOk (Nat.le_refl _) (I1.hok.fresh (Nat.le_refl _))
def pZ(ta:TA):TI:=fun σ H R=>ta σ H fun vs H1=>∃j:Int,vs=[.int j]/\-(2 ^ 62)<=j/\j<2 ^ 62/\R (cN 0 j.toNat) H1
def pd(ta:TA):TI:=fun σ H R=>ta σ H fun vs H1=>∃i j:Int,vs=[.int i,.int j]/\(-(2 ^ 62)<=i/\i<2 ^ 62/\-(2 ^ 62)<=j/\j<2 ^ 62)/\R (cN i (j-i).toNat) H1
theorem cQ{a:Expr}{ta:TA}{p pos:Pos}(hg:Gl X "range")(hm:X.mg "range" = none)(ha:PA X [a] ta)(hs:starEach [a] X.env=[(false,eval a X.env)]:=by rfl):PI X tg (.Call (.Name "range" p) [a] [] pos) (pZ ta):=by
 intro pins s σ H R I h
 refine Call_ (eo I hg hm boot_range (PyProof.Rows.callWith_type1 (az (ha pos pins s σ H _ I h) fun us s1 ⟨vs,H1,I1,r1,q1⟩=>?_) hs rfl))
 obtain⟨j,e,q1,q2,q⟩:=q1
 subst e
 cases r1 with
 | cons r rr=>
  cases rr
  obtain⟨t,rfl⟩:=r
  exact call_range_1 (pT I1 (by omega) (by omega) q1 q2 (by simpa using q))
theorem uU{a b:Expr}{ta:TA}{p pos:Pos}(hg:Gl X "range")(hm:X.mg "range" = none)(ha:PA X [a,b] ta)(hs:starEach [a,b] X.env=[(false,eval a X.env),(false,eval b X.env)]:=by rfl)(hs2:starEach [b] X.env=[(false,eval b X.env)]:=by rfl):
  PI X tg (.Call (.Name "range" p) [a,b] [] pos) (pd ta):=by
 intro pins s σ H R I h
 refine Call_ (eo I hg hm boot_range (PyProof.Rows.callWith_type1 (az (ha pos pins s σ H _ I h) fun us s1 ⟨vs,H1,I1,r1,q1⟩=>?_) (by rw[hs,hs2]) (by rw[hs2];rfl)))
 obtain⟨i,j,e,⟨q1,q2,q3,q4⟩,q⟩:=q1
 subst e
 cases r1 with
 | cons r rr=>
  cases rr with
  | cons r' rr=>
   cases rr
   obtain⟨t,rfl⟩:=r
   obtain⟨t',rfl⟩:=r'
   exact call_range_2 (pT I1 q1 q2 q3 q4 q)
def oA(wi:TI)(g:TG)(tb:TS):TS:=fun D σ H=>wi σ H fun J H1=>∃W:Nat->Nat->St->Hp->Prop,(∃m,W 0 m σ H1)/\∀i m σ H,W i m σ H →
 (J.stop i H/\D.nx σ H)\/(J.go i H/\∃N:St->Hp->Prop,(∀σ' H',N σ' H'->∃m',m'<m/\W (i+1) m' σ' H')/\∀x H',J.yld i H x H'->g x σ H' fun σ2 H2=>tb { D with nx:=N,ct:=N,bk:=D.nx } σ2 H2)
def eT(fp:List Addr)(h:Heap):List (Addr×Obj):=fp.filterMap fun b=>(h.get? b).map fun o=>(b,o)
theorem lF{fp:List Addr}{h:Heap}{b:Addr}{o:Obj}(hb:b∈fp)(e:h.get? b=some o):(b,o)∈eT fp h:=List.mem_filterMap.mpr ⟨b,hb,by rw[e];rfl⟩
theorem qc{fp:List Addr}{h:Heap}{p:Addr×Obj}(hp:p∈eT fp h):p.1∈fp/\h.get? p.1=some p.2:=by
 obtain⟨b,hb,e⟩:=List.mem_filterMap.mp hp
 cases q:h.get? b with
 | none=>rw[q]at e;cases e
 | some o=>
  rw[q]at e
  have e':(b,o)=p:=Option.some.inj e
  subst e'
  exact⟨hb,q⟩
theorem Inv.pinned{pins:List (Addr×Obj)}{σ:St}{H:Hp}{s:Shared}{fp:List Addr}(I:Inv X pins σ H s)(hf:∀b∈fp,bT X pins H b)(ho:∀b∈fp,∃o,s.heap.get? b=some o/\∀v,o.data≠.cell v):Inv X (pins++eT fp s.heap) σ H s:=
 I.pins_of fun p hp=>(List.mem_append.mp hp).elim (fun z=>I.pin p (List.mem_append_right _ z)) fun z=>by
  obtain⟨hb,e⟩:=qc z
  obtain⟨f0,f1,f2,_⟩:=hf p.1 hb
  obtain⟨o,e',d⟩:=ho p.1 hb
  rw[e]at e';cases e'
  exact⟨e,f0,f1,f2,d⟩
theorem Inv.unpinned{pins pl:List (Addr×Obj)}{σ:St}{H:Hp}{s:Shared}(I:Inv X (pins++pl) σ H s):Inv X pins σ H s:=I.pins_of fun p hp=>I.pin p (List.mem_append_right _ (List.mem_append_left _ hp))
theorem bw{iter:Expr}{body:List Stmt}{wi:TI}{g:TG}{tb:TS}{pos:Pos}(hp:PassesOwn (model X.prog X.w) X.A X.env X.xe)(hc:X.calm=true)(hi:PI X tg iter wi)(hg:PG X tg g)(hb:bZ X body tb)
  (hs:∀x,foldedSetIterable iter X.env x=pure x:=by intro _;rfl):PS X (.For tg iter body [] pos) (oA wi g tb):=by
 intro pins s σ H D I h
 refine wpAny_For (az (hi pins s σ H _ I h) fun v s1 h1=>az h1 fun itv s2 h2=>?_) hs
 obtain⟨it,fp,tn,J,H2,e,I2,T,st2,f2,W,⟨m0,w0⟩,turn⟩:=h2
 subst e
 -- what stays true of the iterator's objects through the loop
 have stat:∀{H':Hp},(∀b∈fp,H' b=none)->∀b∈fp,bT X pins H' b:=fun hn b hb=>⟨hn b hb,(f2 b hb).2⟩
 refine codeAny_forLoop_any (fun n s'=>∃i σ' H',Inv X pins σ' H' s'/\tn i s'.heap/\(∀b∈fp,H' b=none)/\W i n σ' H') ?_ m0 ⟨0,σ,H2,I2,st2,fun b hb=>(f2 b hb).1,w0⟩
 rintro n s3 ⟨i,σ3,H3,I3,st3,fr3,w3⟩
 rcases turn i n σ3 H3 w3 with⟨stop,qn⟩ | ⟨go,N,hN,step⟩
 ·refine wpAny_passesOwn hp (az (T.done X rfl rfl rfl hc i pins s3 σ3 H3 X.xe I3 (stat fr3) st3 stop) fun r s4 ⟨hr,I4⟩=>?_)
  subst hr
  exact wpAny_execs_nil ⟨σ3,H3,I4,qn⟩
 ·refine wpAny_passesOwn hp (az (T.item X rfl rfl rfl hc i pins s3 σ3 H3 X.xe I3 (stat fr3) st3 go) fun r s4 ⟨u,hr,h4⟩=>?_)
  subst hr
  refine wpAny_passesOwn hp (az h4 fun _ s5 ⟨x,H5,I5,r5,y5,st5,fr5⟩=>?_)
  have I5':=I5.pinned (stat fr5) (T.obj _ _ st5)
  refine wpAny_passesOwn hp (az (hg _ s5 σ3 H5 x u _ I5' r5 (step x H5 y5)) fun _ s6 ⟨σ6,H6,I6,q6⟩=>?_)
  refine wpAny_passesOwn hp (az (hb _ s6 σ6 H6 _ I6 q6) fun f s7 q7=>?_)
  have again:∀{σ7:St} {H7:Hp},Inv X (pins++eT fp s5.heap) σ7 H7 s7->N σ7 H7->∃m,m<n/\∃i σ' H',Inv X pins σ' H' s7/\tn i s7.heap/\(∀b∈fp,H' b=none)/\W i m σ' H':=fun{σ7 H7} I7 n7=>by
   obtain⟨m',hm,w7⟩:=hN σ7 H7 n7
   refine⟨m',hm,i+1,σ7,H7,I7.unpinned,T.keep _ _ _ st5 fun b hb o e=>(I7.pin (b,o) (List.mem_append_right _ (List.mem_append_right _ (lF hb e)))).1,fun b hb=>?_,w7⟩
   obtain⟨o,e,d⟩:=T.obj _ _ st5 b hb
   exact(I7.pin (b,o) (List.mem_append_right _ (List.mem_append_right _ (lF hb e)))).2.1
  cases f with
  | next=>obtain⟨σ7,H7,I7,n7⟩:=q7;exact again I7 n7
  | cont=>obtain⟨σ7,H7,I7,n7⟩:=q7;exact again I7 n7
  | brk=>obtain⟨σ7,H7,I7,q7⟩:=q7;exact⟨σ7,H7,I7.unpinned,q7⟩
  | ret v=>obtain⟨x7,σ7,H7,I7,r7,q7⟩:=q7;exact⟨x7,σ7,H7,I7.unpinned,r7,q7⟩
end
theorem vO{K:PySem.W.Frag}{a:Addr}{xs:List V}{g:TG}{tb:TS}{D:Ends}{σ:St}{H:Hp}(Pv:Nat->St->Hp->Prop)(h0:Pv 0 σ H)(hl:∀i σ H,i<=xs.length->Pv i σ H->ag K H a xs)
  (hs:∀i x σ H,xs[i]?=some x->Pv i σ H->g x σ H fun σ2 H2=>tb { D with nx:=Pv (i+1),ct:=Pv (i+1),bk:=D.nx } σ2 H2) (hd:∀σ H,Pv xs.length σ H->D.nx σ H) :
  ∃W:Nat->Nat->St->Hp->Prop,(∃m,W 0 m σ H)/\∀i m σ H,W i m σ H →
   ((cg K a).stop i H/\D.nx σ H)\/((cg K a).go i H/\∃N:St->Hp->Prop,(∀σ' H',N σ' H'->∃m',m'<m/\W (i+1) m' σ' H')/\∀x H',(cg K a).yld i H x H'->g x σ H' fun σ2 H2=>tb { D with nx:=N,ct:=N,bk:=D.nx } σ2 H2):=by
 refine⟨fun i m σ H=>m=xs.length-i/\i<=xs.length/\Pv i σ H,⟨xs.length,by simp,Nat.zero_le _,h0⟩,?_⟩
 rintro i m σ H ⟨rfl,hi,p⟩
 have q:=hl i σ H hi p
 by_cases hlt:i<xs.length
 ·refine .inr ⟨⟨xs,xs[i],q,by simp[hlt]⟩,Pv (i+1),fun σ' H' p'=>⟨xs.length-(i+1),by omega,rfl,hlt,p'⟩,fun x H' y=>?_⟩
  obtain⟨e,y⟩:=y
  subst e
  exact hs i x σ _ (y xs q) p
 ·have e:i=xs.length:=by omega
  subst e
  exact .inl ⟨⟨xs,q,Nat.le_refl _⟩,hd σ H p⟩
theorem zJ{K:PySem.W.Frag}{a:Addr}{xs:List V}{g:TG}{tb:TS}{D:Ends}{σ:St}{H:Hp}(Pv:Nat->St->Hp->Prop)(h0:Pv 0 σ H)(hl:∀i σ H,i<=xs.length->Pv i σ H->aj K H a xs)
  (hs:∀i x σ H,xs[i]?=some x->Pv i σ H->g x σ H fun σ2 H2=>tb { D with nx:=Pv (i+1),ct:=Pv (i+1),bk:=D.nx } σ2 H2) (hd:∀σ H,Pv xs.length σ H->D.nx σ H) :
  ∃W:Nat->Nat->St->Hp->Prop,(∃m,W 0 m σ H)/\∀i m σ H,W i m σ H →
   ((cG K a).stop i H/\D.nx σ H)\/((cG K a).go i H/\∃N:St->Hp->Prop,(∀σ' H',N σ' H'->∃m',m'<m/\W (i+1) m' σ' H')/\∀x H',(cG K a).yld i H x H'->g x σ H' fun σ2 H2=>tb { D with nx:=N,ct:=N,bk:=D.nx } σ2 H2):=by
 refine⟨fun i m σ H=>m=xs.length-i/\i<=xs.length/\Pv i σ H,⟨xs.length,by simp,Nat.zero_le _,h0⟩,?_⟩
 rintro i m σ H ⟨rfl,hi,p⟩
 have q:=hl i σ H hi p
 by_cases hlt:i<xs.length
 ·refine .inr ⟨⟨xs,xs[i],q,by simp[hlt]⟩,Pv (i+1),fun σ' H' p'=>⟨xs.length-(i+1),by omega,rfl,hlt,p'⟩,fun x H' y=>?_⟩
  obtain⟨e,y⟩:=y
  subst e
  exact hs i x σ _ (y xs q) p
 ·have e:i=xs.length:=by omega
  subst e
  exact .inl ⟨⟨xs,q,Nat.le_refl _⟩,hd σ H p⟩
theorem zU{lo:Int}{n:Nat}{g:TG}{tb:TS}{D:Ends}{σ:St}{H:Hp}(Pv:Nat->St->Hp->Prop)(h0:Pv 0 σ H)
  (hs:∀i σ H,i<n->Pv i σ H->g (.int (lo+i)) σ H fun σ2 H2=>tb { D with nx:=Pv (i+1),ct:=Pv (i+1),bk:=D.nx } σ2 H2) (hd:∀σ H,Pv n σ H->D.nx σ H) :
  ∃W:Nat->Nat->St->Hp->Prop,(∃m,W 0 m σ H)/\∀i m σ H,W i m σ H →
   ((cN lo n).stop i H/\D.nx σ H)\/((cN lo n).go i H/\∃N:St->Hp->Prop,(∀σ' H',N σ' H'->∃m',m'<m/\W (i+1) m' σ' H')/\∀x H',(cN lo n).yld i H x H'->g x σ H' fun σ2 H2=>tb { D with nx:=N,ct:=N,bk:=D.nx } σ2 H2):=by
 refine⟨fun i m σ H=>m=n-i/\i<=n/\Pv i σ H,⟨n,by simp,Nat.zero_le _,h0⟩,?_⟩
 rintro i m σ H ⟨rfl,hi,p⟩
 by_cases hlt:i<n
 ·refine .inr ⟨hlt,Pv (i+1),fun σ' H' p'=>⟨n-(i+1),by omega,rfl,hlt,p'⟩,fun x H' y=>?_⟩
  obtain⟨e,y⟩:=y
  subst e y
  exact hs i σ _ hlt p
 ·have e:i=n:=by omega
  subst e
  exact .inl ⟨Nat.le_refl _,hd σ H p⟩
end L2
namespace L2
open PySem PySem.Spec PyProof.Rows
abbrev R2:=V->V->Hp->VK->Prop
def bp(X:Cx)(f:Value->Value->Sem Value)(r:R2):Prop:=
 ∀(pins:List (Addr×Obj)) (s:Shared) (σ:St) (H:Hp) (x y:V) (v u:Value) (Q:VK),Inv X pins σ H s->RelV x v->RelV y u->r x y H Q →
  wpAny (model X.prog X.w) X.A (f v u) (EP X pins σ Q) X.xe s
def mT(X:Cx)(f:Value->Sem Value)(r:V->Hp->VK->Prop):Prop:=
 ∀(pins:List (Addr×Obj)) (s:Shared) (σ:St) (H:Hp) (x:V) (v:Value) (Q:VK),Inv X pins σ H s->RelV x v->r x H Q →
  wpAny (model X.prog X.w) X.A (f v) (EP X pins σ Q) X.xe s
def bC(X:Cx)(f:Value)(r:List V->Hp->VK->Prop):Prop:=
 ∀(pins:List (Addr×Obj)) (s:Shared) (σ:St) (H:Hp) (xs:List V) (us:List Value) (Q:VK),Inv X pins σ H s->Vals xs us->r xs H Q →
  wpAny (model X.prog X.w) X.A (call f us) (EP X pins σ Q) X.xe s
def iD(r:R2)(ta tb:TE):TE:=fun σ H Q=>ta σ H fun x H1=>tb σ H1 fun y H2=>r x y H2 Q
def sE(r:V->Hp->VK->Prop)(ta:TE):TE:=fun σ H Q=>ta σ H fun x H1=>r x H1 Q
def rI(C:Int->Int->Prop)(g:Int->Int->V):R2:=fun x y H Q=>∃i j,x=.int i/\y=.int j/\C i j/\Q (g i j) H
def eu(g:Int->Int->V):R2:=fun x y H Q=>∃i j,x=.int i/\y=.int j/\Q (g i j) H
def rU(g:Int->V):V->Hp->VK->Prop:=fun x H Q=>∃i,x=.int i/\Q (g i) H
section
variable {X:Cx} {a b c:Expr} {ta tb tc:TE} {pos:Pos}
theorem my(ha:PE X a ta)(hb:PE X b tb){pins:List (Addr×Obj)}{s:Shared}{σ:St}{H:Hp}{R:V->V->Hp->Prop}(I:Inv X pins σ H s)
  (h:ta σ H fun x H1=>tb σ H1 fun y H2=>R x y H2) {Q:Value->Shared->Prop} {f:Value->Value->Sem Value}
  (hf:∀v u s2 x y H2,Inv X pins σ H2 s2->RelV x v->RelV y u->R x y H2->wpAny (model X.prog X.w) X.A (f v u) Q X.xe s2) :
  wpAny (model X.prog X.w) X.A (eval a X.env) (fun v s₁=>wpAny (model X.prog X.w) X.A (eval b X.env) (fun u s₂=>wpAny (model X.prog X.w) X.A (f v u) Q X.xe s₂) X.xe s₁) X.xe s:=by
 refine az (ha pins s σ H _ I h) fun v s1 ⟨x,H1,I1,r1,q1⟩=>?_
 refine az (hb pins s1 σ H1 _ I1 q1) fun u s2 ⟨y,H2,I2,r2,q2⟩=>?_
 exact hf v u s2 x y H2 I2 r1 r2 q2
theorem ak{op:Operator}{r:R2}(ho:bp X (binaryOp op) r)(ha:PE X a ta)(hb:PE X b tb):PE X (.BinOp a op b pos) (iD r ta tb):=by
 intro pins s σ H Q I h
 exact wpAny_BinOp (my ha hb I h fun v u s2 x y H2 I2 rx ry q=>ho pins s2 σ H2 x y v u Q I2 rx ry q)
theorem gW{op:UnaryOp}{r:V->Hp->VK->Prop}(ho:mT X (unaryOp op) r)(ha:PE X a ta):PE X (.UnaryOp op a pos) (sE r ta):=by
 intro pins s σ H Q I h
 exact UnaryOp_ (az (ha pins s σ H _ I h) fun v s1 ⟨x,H1,I1,r1,q1⟩=>ho pins s1 σ H1 x v Q I1 r1 q1)
theorem jO{f:Value->Value->Sem Value}{C:Int->Int->Prop}{g:Int->Int->Int}
  (rule:∀(i j:Int) (t u:Tok) (s:Shared) (Q:Value->Shared->Prop) (E:Value->Shared->Prop),C i j->Q (.int (g i j) s.toks) { s with toks:=s.toks+1 }->wpAny (model X.prog X.w) X.A (f (.int i t) (.int j u)) Q E s) :
  bp X f (rI C fun i j=>.int (g i j)):=by
 intro pins s σ H x y v u Q I rx ry h
 obtain⟨i,j,rfl,rfl,hc,q⟩:=h
 obtain⟨t,rfl⟩:=rx
 obtain⟨t',rfl⟩:=ry
 exact rule i j t t' s _ _ hc ⟨.int (g i j),H,I.tok _,⟨_,rfl⟩,q⟩
theorem qX{f:Value->Value->Sem Value}{g:Int->Int->Int}
  (rule:∀(i j:Int) (t u:Tok) (s:Shared) (Q:Value->Shared->Prop) (E:Value->Shared->Prop),Q (.int (g i j) s.toks) { s with toks:=s.toks+1 }->wpAny (model X.prog X.w) X.A (f (.int i t) (.int j u)) Q E s) :
  bp X f (eu fun i j=>.int (g i j)):=by
 intro pins s σ H x y v u Q I rx ry h
 obtain⟨i,j,rfl,rfl,q⟩:=h
 obtain⟨t,rfl⟩:=rx
 obtain⟨t',rfl⟩:=ry
 exact rule i j t t' s _ _ ⟨.int (g i j),H,I.tok _,⟨_,rfl⟩,q⟩
theorem jT{f:Value->Value->Sem Value}{g:Int->Int->Bool}
  (rule:∀(i j:Int) (t u:Tok) (s:Shared) (Q:Value->Shared->Prop) (E:Value->Shared->Prop),Q (.bool (g i j)) s->wpAny (model X.prog X.w) X.A (f (.int i t) (.int j u)) Q E s) :
  bp X f (eu fun i j=>.bl (g i j)):=by
 intro pins s σ H x y v u Q I rx ry h
 obtain⟨i,j,rfl,rfl,q⟩:=h
 obtain⟨t,rfl⟩:=rx
 obtain⟨t',rfl⟩:=ry
 exact rule i j t t' s _ _ ⟨.bl (g i j),H,I,rfl,q⟩
def sV(i j:Int):Prop:=0<=j/\j<=1000000/\i.natAbs<2 ^ 64
def fN(i j:Int):Prop:=(-(2 ^ 64)<i/\i<2 ^ 64)\/(-(2 ^ 64)<j/\j<2 ^ 64)
theorem fN.ok{i j:Int}(h:fN i j):IntMulOk i j:=by
 rcases h with⟨h1,h2⟩ | ⟨h1,h2⟩
 ·exact .of_left (intBits_le_64 h1 h2)
 ·exact .of_right (intBits_le_64 h1 h2)
theorem aI:bp X (binaryOp .Add) (eu fun i j=>.int (i+j)):=qX fun _ _ _ _ _ _ _ q=>add_int q
theorem cj:bp X (binaryOp .Sub) (eu fun i j=>.int (i-j)):=qX fun _ _ _ _ _ _ _ q=>sub_int q
theorem cM:bp X (binaryOp .Mult) (rI fN fun i j=>.int (i*j)):=jO fun _ _ _ _ _ _ _ hc q=>mul_int q hc.ok
theorem bO:bp X (binaryOp .Mod) (rI (fun _ j=>0<j) fun i j=>.int (i % j)):=jO fun i j _ _ _ _ _ hc q=>by
 have h1:(0:Int)<j:=hc
 exact mod_int' (by omega) (by rw[Int.fmod_eq_emod_of_nonneg i (by omega)];exact q)
theorem iu:bp X (binaryOp .Pow) (rI sV fun i j=>.int (i ^ j.toNat)):=jO fun _ _ _ _ _ _ _ hc q=>pow_int_small hc.1 hc.2.1 hc.2.2 q
theorem Ah{f:Value->Sem Value}{g:Int->Int}
  (rule:∀(i:Int) (t:Tok) (s:Shared) (Q:Value->Shared->Prop) (E:Value->Shared->Prop),Q (.int (g i) s.toks) { s with toks:=s.toks+1 }->wpAny (model X.prog X.w) X.A (f (.int i t)) Q E s) :
  mT X f (rU fun i=>.int (g i)):=by
 intro pins s σ H x v Q I rx h
 obtain⟨i,rfl,q⟩:=h
 obtain⟨t,rfl⟩:=rx
 exact rule i t s _ _ ⟨.int (g i),H,I.tok _,⟨_,rfl⟩,q⟩
theorem gM:mT X (unaryOp .USub) (rU fun i=>.int (-i)):=Ah fun _ _ _ _ _ q=>neg_int q
end
def sk:V->V->Bool
 | .non,.non=>true | .non,.int _=>true | .int _,.non=>true | .non,.bl _=>true | .bl _,.non=>true | .non,.str _=>true | .str _,.non=>true
 | .int _,.int _=>true | .bl _,.bl _=>true | .str _,.str _=>true | .byt _,.byt _=>true
 | .int _,.str _=>true | .str _,.int _=>true | .bl _,.str _=>true | .str _,.bl _=>true
 | _,_=>false
def mF:R2:=fun x y H Q=>sk x y=true/\Q (.bl (decide (x=y))) H
def qE:R2:=fun x y H Q=>sk x y=true/\Q (.bl (!decide (x=y))) H
theorem t9{i j:Int}:decide (V.int i=V.int j)=(i == j):=by
 rw[Bool.eq_iff_iff]
 simp
theorem rY{i j:Bool}:decide (V.bl i=V.bl j)=(i == j):=by
 rw[Bool.eq_iff_iff]
 simp
theorem ki{i j:Str}:decide (V.str i=V.str j)=(i == j):=by
 rw[Bool.eq_iff_iff]
 simp
theorem se{i j:Array UInt8}:decide (V.byt i=V.byt j)=(i.toList == j.toList):=by
 rw[Bool.eq_iff_iff]
 cases i
 cases j
 simp
section
variable {X:Cx} {a b c:Expr} {ta tb tc:TE} {pos:Pos}
theorem bf{pins:List (Addr×Obj)}{σ:St}{H:Hp}{s:Shared}{Q:VK}{k k':Bool}(I:Inv X pins σ H s)(q:Q (.bl k) H)(e:k=k'):EP X pins σ Q (.bool k') s:=by
 subst e
 exact⟨.bl k,H,I,rfl,q⟩
theorem bQ:bp X (compareOp .Eq) mF:=by
 intro pins s σ H x y v u Q I rx ry h
 obtain⟨hs,q⟩:=h
 cases x with
 | non=>
  cases rx
  cases y with
  | non=>cases ry;exact PySem.EqNone.eq_none_none (bf I q (by simp))
  | bl j=>cases ry;exact PySem.EqNone.eq_none_bool (bf I q (by simp))
  | int j=>obtain⟨t',rfl⟩:=ry;exact PySem.EqNone.eq_none_int (bf I q (by simp))
  | str j=>obtain⟨t',rfl⟩:=ry;exact PySem.EqNone.eq_none_str (bf I q (by simp))
  | _=>exact absurd (show false=true from hs) Bool.false_ne_true
 | bl i=>
  cases rx
  cases y with
  | non=>cases ry;exact PySem.EqNone.eq_bool_none (bf I q (by simp))
  | bl j=>cases ry;exact eq_bool (bf I q rY)
  | str j=>obtain⟨t',rfl⟩:=ry;exact PySem.EqMixed.eq_bool_str (bf I q (by simp))
  | _=>exact absurd (show false=true from hs) Bool.false_ne_true
 | int i=>
  obtain⟨t,rfl⟩:=rx
  cases y with
  | non=>cases ry;exact PySem.EqNone.eq_int_none (bf I q (by simp))
  | int j=>obtain⟨t',rfl⟩:=ry;exact eq_int (bf I q t9)
  | str j=>obtain⟨t',rfl⟩:=ry;exact PySem.EqMixed.eq_int_str (bf I q (by simp))
  | _=>exact absurd (show false=true from hs) Bool.false_ne_true
 | str i=>
  obtain⟨t,rfl⟩:=rx
  cases y with
  | non=>cases ry;exact PySem.EqNone.eq_str_none (bf I q (by simp))
  | bl j=>cases ry;exact PySem.EqMixed.eq_str_bool (bf I q (by simp))
  | int j=>obtain⟨t',rfl⟩:=ry;exact PySem.EqMixed.eq_str_int (bf I q (by simp))
  | str j=>obtain⟨t',rfl⟩:=ry;exact eq_str (bf I q ki)
  | _=>exact absurd (show false=true from hs) Bool.false_ne_true
 | byt i=>
  obtain⟨t,rfl⟩:=rx
  cases y with
  | byt j=>obtain⟨t',rfl⟩:=ry;exact PySem.W.eq_bytes (bf I q se)
  | _=>exact absurd (show false=true from hs) Bool.false_ne_true
 | _=>cases y<;>exact absurd (show false=true from hs) Bool.false_ne_true
theorem iN:bp X (compareOp .NotEq) qE:=by
 intro pins s σ H x y v u Q I rx ry h
 obtain⟨hs,q⟩:=h
 cases x with
 | non=>
  cases rx
  cases y with
  | non=>cases ry;exact PySem.EqNone.ne_none_none (bf I q (by simp))
  | bl j=>cases ry;exact PySem.EqNone.ne_none_bool (bf I q (by simp))
  | int j=>obtain⟨t',rfl⟩:=ry;exact PySem.EqNone.ne_none_int (bf I q (by simp))
  | str j=>obtain⟨t',rfl⟩:=ry;exact PySem.EqNone.ne_none_str (bf I q (by simp))
  | _=>exact absurd (show false=true from hs) Bool.false_ne_true
 | bl i=>
  cases rx
  cases y with
  | non=>cases ry;exact PySem.EqNone.ne_bool_none (bf I q (by simp))
  | bl j=>cases ry;exact ne_bool (bf I q (congrArg not rY))
  | str j=>obtain⟨t',rfl⟩:=ry;exact PySem.EqMixed.ne_bool_str (bf I q (by simp))
  | _=>exact absurd (show false=true from hs) Bool.false_ne_true
 | int i=>
  obtain⟨t,rfl⟩:=rx
  cases y with
  | non=>cases ry;exact PySem.EqNone.ne_int_none (bf I q (by simp))
  | int j=>obtain⟨t',rfl⟩:=ry;exact ne_int (bf I q (congrArg not t9))
  | str j=>obtain⟨t',rfl⟩:=ry;exact PySem.EqMixed.ne_int_str (bf I q (by simp))
  | _=>exact absurd (show false=true from hs) Bool.false_ne_true
 | str i=>
  obtain⟨t,rfl⟩:=rx
  cases y with
  | non=>cases ry;exact PySem.EqNone.ne_str_none (bf I q (by simp))
  | bl j=>cases ry;exact PySem.EqMixed.ne_str_bool (bf I q (by simp))
  | int j=>obtain⟨t',rfl⟩:=ry;exact PySem.EqMixed.ne_str_int (bf I q (by simp))
  | str j=>obtain⟨t',rfl⟩:=ry;exact ne_str (bf I q (congrArg not ki))
  | _=>exact absurd (show false=true from hs) Bool.false_ne_true
 | byt i=>
  obtain⟨t,rfl⟩:=rx
  cases y with
  | byt j=>obtain⟨t',rfl⟩:=ry;exact PySem.W.ne_bytes (bf I q (congrArg not se))
  | _=>exact absurd (show false=true from hs) Bool.false_ne_true
 | _=>cases y<;>exact absurd (show false=true from hs) Bool.false_ne_true
theorem eh:bp X (compareOp .Lt) (eu fun i j=>.bl (decide (i<j))):=jT fun _ _ _ _ _ _ _ q=>lt_int q
theorem fH:bp X (compareOp .LtE) (eu fun i j=>.bl (decide (i<=j))):=jT fun _ _ _ _ _ _ _ q=>le_int q
theorem eZ:bp X (compareOp .Gt) (eu fun i j=>.bl (decide (j<i))):=jT fun _ _ _ _ _ _ _ q=>gt_int q
theorem jX:bp X (compareOp .GtE) (eu fun i j=>.bl (decide (j<=i))):=jT fun _ _ _ _ _ _ _ q=>ge_int q
theorem aG(b:Expr){op:CmpOp}(h:op≠.In:=by decide)(h2:op≠.NotIn:=by decide):behindInMarks op b=false:=by
 have e1:(op == CmpOp.In)=false:=by cases op<;>first | rfl | exact absurd rfl h
 have e2:(op == CmpOp.NotIn)=false:=by cases op<;>first | rfl | exact absurd rfl h2
 cases b<;>simp[behindInMarks,e1,e2]
theorem cD{op:CmpOp}{r:R2}(ho:bp X (compareOp op) r)(ha:PE X a ta)(hb:PE X b tb)(hm:behindInMarks op b=false):PE X (.Compare a [op] [b] pos) (iD r ta tb):=by
 intro pins s σ H Q I h
 exact wpAny_Compare1 (my ha hb I h fun v u s2 x y H2 I2 rx ry q=>ho pins s2 σ H2 x y v u Q I2 rx ry q) hm
def qo(t:TE):TT:=fun σ H Q=>t σ H fun x H'=>∃k,x=.bl k/\Q k H'
theorem aO{op:CmpOp}{r:R2}(ho:bp X (compareOp op) r)(ha:PE X a ta)(hb:PE X b tb)(hm:behindInMarks op b=false):PT X (.Compare a [op] [b] pos) (qo (iD r ta tb)):=by
 intro pins s σ H Q I h
 refine wpAny_isTrue_Compare1 (az (ha pins s σ H _ I h) fun v s1 ⟨x,H1,I1,r1,q1⟩=>az (hb pins s1 σ H1 _ I1 q1) fun u s2 ⟨y,H2,I2,r2,q2⟩=>
  az (ho pins s2 σ H2 x y v u _ I2 r1 r2 q2) fun c s3 ⟨z,H3,I3,r3,k,e,q3⟩=>?_) hm
 subst e
 cases r3
 exact wpAny_truthy_bool ⟨H3,I3,q3⟩
def qY(r r':R2)(ta tb tc:TE):TE:=fun σ H Q=>ta σ H fun x H1=>tb σ H1 fun y H2=>r x y H2 fun z H3=>∃k,z=.bl k ∧
 (if k=true then tc σ H3 fun w' H4=>r' y w' H4 Q else Q (.bl false) H3)
theorem kr{op op':CmpOp}{r r':R2}(ho:bp X (compareOp op) r)(ho':bp X (compareOp op') r')(ha:PE X a ta)(hb:PE X b tb)(hc:PE X c tc)
  (hm:lastMarks [op,op'] [b,c]=false:=by with_unfolding_all rfl):PE X (.Compare a [op,op'] [b,c] pos) (qY r r' ta tb tc):=by
 intro pins s σ H Q I h
 refine Compare_chain (az (ha pins s σ H _ I h) fun v s1 ⟨x,H1,I1,r1,q1⟩=>chain_link (az (hb pins s1 σ H1 _ I1 q1) fun u s2 ⟨y,H2,I2,r2,q2⟩=>
  az (ho pins s2 σ H2 x y v u _ I2 r1 r2 q2) fun d s3 ⟨z,H3,I3,r3,k,e,q3⟩=>?_)) hm
 subst e
 cases r3
 refine wpAny_truthy_bool ?_
 cases k with
 | false=>exact ite_ff ⟨.bl false,H3,I3,rfl,q3⟩
 | true=>exact ite_tt (chain_last (az (hc pins s3 σ H3 _ I3 q3) fun w' s4 ⟨z',H4,I4,r4,q4⟩=>ho' pins s4 σ H4 y z' u w' Q I4 r2 r4 q4))
theorem fW:(sizeLine:Nat)<2 ^ 63:=by rw[sizeLine_eq];decide
theorem vals1{x:V}{us:List Value}(r:Vals [x] us):∃u,us=[u]/\RelV x u:=by
 cases r with
 | cons r1 r2=>cases r2;exact⟨_,rfl,r1⟩
theorem vals2{x y:V}{us:List Value}(r:Vals [x,y] us):∃u w',us=[u,w']/\RelV x u/\RelV y w':=by
 cases r with
 | cons r1 r2=>
  cases r2 with
  | cons r3 r4=>cases r4;exact⟨_,_,rfl,r1,r3⟩
theorem xu(hc:X.calm=true):bC X (.builtin "max") (fun xs H Q=>∃i j,xs=[.int i,.int j]/\Q (.int (if j>i then j else i)) H):=by
 intro pins s σ H xs us Q I r h
 obtain⟨i,j,rfl,q⟩:=h
 obtain⟨u,w',rfl,⟨t,rfl⟩,⟨t',rfl⟩⟩:=vals2 r
 refine max_two_ints (I.ok.hd hc) fun h' tk k=>⟨_,H,I.kept k,?_,q⟩
 by_cases hj:j>i
 ·rw[if_pos hj,if_pos hj];exact⟨_,rfl⟩
 ·rw[if_neg hj,if_neg hj];exact⟨_,rfl⟩
theorem v9(hc:X.calm=true):bC X (.builtin "min") (fun xs H Q=>∃i j,xs=[.int i,.int j]/\Q (.int (if j<i then j else i)) H):=by
 intro pins s σ H xs us Q I r h
 obtain⟨i,j,rfl,q⟩:=h
 obtain⟨u,w',rfl,⟨t,rfl⟩,⟨t',rfl⟩⟩:=vals2 r
 refine min_two_ints (I.ok.hd hc) fun h' tk k=>⟨_,H,I.kept k,?_,q⟩
 by_cases hj:j<i
 ·rw[if_pos hj,if_pos hj];exact⟨_,rfl⟩
 ·rw[if_neg hj,if_neg hj];exact⟨_,rfl⟩
theorem vD:bC X (.type "int") (fun xs H Q=>(∃i,xs=[.int i]/\Q (.int i) H)\/∃k,xs=[.bl k]/\Q (.int (if k then 1 else 0)) H):=by
 intro pins s σ H xs us Q I r h
 rcases h with⟨i,rfl,q⟩ | ⟨k,rfl,q⟩
 ·obtain⟨u,rfl,t,rfl⟩:=vals1 r
  exact call_int_int ⟨.int i,H,I,⟨_,rfl⟩,q⟩
 ·obtain⟨u,rfl,r1⟩:=vals1 r
  cases r1
  exact call_int_bool ⟨.int (if k then 1 else 0),H,I.tok _,⟨_,rfl⟩,q⟩
end
end L2
namespace L2
open PySem PySem.Spec PyProof.Rows
structure ObjM(h:Heap)(x dx C:Addr)(mA:Str->Option Value):Prop where
 obj:h.get? x=some (PySem.W.instObj C dx)
 ns:h.Ns1 dx mA
 ne:dx≠x
theorem vz{h:Heap}{dx:Addr}{mA:Str->Option Value}(n:h.Ns1 dx mA):∃od,h.get? dx=some od/\∀name,PySem.W.lookIn name od=some (mA name):=by
 obtain⟨o,es,ep,ho,hd,hk,_,hm⟩:=n
 refine⟨o,ho,fun name=>?_⟩
 have e:=hm name
 unfold nsFind findBy at e
 rw[←Array.find?_toList]at e
 unfold PySem.W.lookIn
 rw[hd]
 dsimp only
 split
 ·rename_i y q
  rw[q]at e
  exact congrArg some e
 ·rename_i q
  rw[q]at e
  have a:es.toList.any (·.refKey)=false:=by
   rw[List.any_eq_false]
   intro y hy
   obtain⟨z,t,hkey⟩:=hk y (Array.mem_toList_iff.mp hy)
   simp[DictEntry.refKey,hkey]
  have a':¬es.toList.any (·.refKey)=true:=by rw[a];exact Bool.false_ne_true
  rw[if_neg a']
  exact congrArg some e
theorem ObjM.look{h:Heap}{x dx C:Addr}{mA:Str->Option Value}(I:ObjM h x dx C mA):∃od,PySem.W.InstAt h x (PySem.W.instObj C dx) C (some od)/\∀name,PySem.W.lookIn name od=some (mA name):=
 let ⟨od,ho,hl⟩:=vz I.ns
 ⟨od,⟨I.obj,rfl,rfl,ho⟩,hl⟩
section
variable {prog:Program} {w:World} {A:Around} {E:Value->Shared->Prop} {s:Shared} {K:PySem.W.Frag} {x dx C f:Addr} {mA:Str->Option Value} {name:Str} {v:Value}
end
theorem dU.some_of{v:V}{o:Option Value}(r:dU (some v) o):∃u,o=some u/\RelV v u:=by
 cases o with
 | none=>exact(show False from r).elim
 | some u=>exact⟨u,rfl,r⟩
section
variable {P:Program} {w:World} {H H':Hp} {h h':Heap} {a C dx:Addr} {fs fs':List (Str×V)}
theorem zX(hok:bA P w H h)(e:H a=some (.ins C dx fs)):∃mA,ObjM h a dx C mA/\(∀f,dU (fs.lookup f) (mA f))/\PySem.Within mA (fs.map (·.1))/\fs.length<=1000/\H dx=some (.own a):=by
 obtain⟨d,z,ne,ob,mA,n,r,q⟩:=(show bI P w H h a (.ins C dx fs)from hok a _ e)
 exact⟨mA,⟨ob,n,ne⟩,r,q,z,d⟩
end
structure Cls(K:PySem.W.Frag)(C:Addr):Prop where
 pg:PySem.W.plainGet K C Str.empty=true
 hd:PySem.W.hasDictIn K C=true
 po:PySem.W.plainOver K C=true
 sa:PySem.W.findIn K (.ref C) "__setattr__" = some (some (.builtin "object.__setattr__"))
theorem Cls.get{K:PySem.W.Frag}{C:Addr}(c:Cls K C)(f:Str):PySem.W.plainGet K C f=true:=c.pg
section
variable {X:Cx} {pins:List (Addr×Obj)} {σ:St} {H:Hp} {s:Shared} {a C dx:Addr} {fs:List (Str×V)} {f:Str} {v:V} {A:Around} {E:Value->Shared->Prop}
end
section
variable {X:Cx} {o e value:Expr} {f:Str} {pos pos' tpos:Pos} {ta tv:TE}
end
section
variable {X:Cx} {pins:List (Addr×Obj)} {σ:St} {H:Hp} {s:Shared} {A:Around} {E:Value->Shared->Prop} {Q:Value->Shared->Prop} {c:Value} {b:Bool}
inductive TyOf(K:PySem.W.Frag)(H:Hp):V->Value->Prop where
 | non:TyOf K H .non (.type "NoneType")
 | bl (x:Bool):TyOf K H (.bl x) (.type "bool")
 | int (i:Int):TyOf K H (.int i) (.type "int")
 | str (x:Str):TyOf K H (.str x) (.type "str")
 | flt (x:UInt64):TyOf K H (.flt x) (.type "float")
 | lst {a:Addr} {xs:List V} (e:H a=some (.lst xs)):TyOf K H (.ref a) (.type "list")
 | frz {a:Addr} {o:Obj} {xs:List V} (e:H a=some (.frz o (.lst xs))):TyOf K H (.ref a) (.type "list")
 | tup {a:Addr} {xs:List V} (e:H a=some (.tup xs)):TyOf K H (.ref a) (.type "tuple")
 | dK {a:Addr} {kvs:List (Key×V)} (e:H a=some (.dK kvs)):TyOf K H (.ref a) (.type "dict")
 | dT {a:Addr} {kvs:List (List Key×V)} (e:H a=some (.dT kvs)):TyOf K H (.ref a) (.type "dict")
 | ins {a C dx:Addr} {fs:List (Str×V)} (e:H a=some (.ins C dx fs)) (cl:Cls K C) (ha:PySem.W.findIn K (.ref C) "__class__" = some (some (.builtin "object.__class__")))
   (hn:PySem.W.specialIn K (.builtin "object.__class__") "__get__" = some (some (.builtin "getset_descriptor.__get__"))) (htk:PySem.W.takesIn K (.builtin "object.__class__")=some true)
   (hm:PySem.W.mroIn K C (.type "object")=some true):TyOf K H (.ref a) (.ref C)
theorem xO{x:V}{u t:Value}(I:Inv X pins σ H s)(rx:RelV x u)(ty:TyOf X.K H x t)(e:PySem.W.kitOne X.K t c=some b)(h:∀tk,Q (.bool b) { s with toks:=tk }):
  wpAny (model X.prog X.w) A (call (.builtin "isinstance") [u,c]) Q E s:=by
 cases ty with
 | non=>cases(show u=Value.none from rx);exact PySem.W.kia_one PySem.W.kitx_none I.kIn True.intro e (fun z=>nomatch z) h
 | bl y=>cases(show u=Value.bool y from rx);exact PySem.W.kia_one PySem.W.kitx_bool I.kIn True.intro e (fun z=>nomatch z) h
 | int i=>obtain⟨t,q⟩:=(show ∃t,u=Value.int i t from rx);cases q;exact PySem.W.kia_one PySem.W.kitx_int I.kIn True.intro e (fun z=>nomatch z) h
 | str y=>obtain⟨t,q⟩:=(show ∃t,u=Value.str y t from rx);cases q;exact PySem.W.kia_one PySem.W.kitx_str I.kIn True.intro e (fun z=>nomatch z) h
 | flt y=>obtain⟨t,q⟩:=(show ∃t,u=Value.float y t from rx);cases q;exact PySem.W.kia_one PySem.W.kitx_float I.kIn True.intro e (fun z=>nomatch z) h
 | @lst a xs ea=>
  cases(show u=Value.ref a from rx)
  obtain⟨_,_,n,_,h1⟩:=(show bI X.prog X.w H s.heap a (.lst xs)from I.hok a _ ea)
  exact PySem.W.kia_one PySem.W.kitx_list I.kIn ⟨_,h1,rfl⟩ e (fun z=>nomatch z) h
 | @frz a ob xs ea=>
  cases(show u=Value.ref a from rx)
  obtain⟨_,_,_,n,_,h1⟩:=(show bI X.prog X.w H s.heap a (.frz ob (.lst xs))from I.hok a _ ea)
  exact PySem.W.kia_one PySem.W.kitx_list I.kIn ⟨_,h1,rfl⟩ e (fun z=>nomatch z) h
 | @tup a xs ea=>
  cases(show u=Value.ref a from rx)
  obtain⟨_,_,_,p⟩:=(show bI X.prog X.w H s.heap a (.tup xs)from I.hok a _ ea)
  obtain⟨o,h1,h2,_⟩:=p
  exact PySem.W.kia_one PySem.W.kitx_tuple I.kIn ⟨o,h1,h2⟩ e (fun z=>nomatch z) h
 | @dK a kvs ea=>
  cases(show u=Value.ref a from rx)
  obtain⟨_,_,vs,_,p⟩:=(show bI X.prog X.w H s.heap a (.dK kvs)from I.hok a _ ea)
  obtain⟨o,es,ep,h1,h2,_⟩:=p
  exact PySem.W.kia_one PySem.W.kitx_dict I.kIn ⟨o,h1,h2.1⟩ e (fun z=>nomatch z) h
 | @dT a kvs ea=>
  cases(show u=Value.ref a from rx)
  obtain⟨_,_,xs,_,o,es,ep,h1,h2,_⟩:=(show bI X.prog X.w H s.heap a (.dT kvs)from I.hok a _ ea)
  exact PySem.W.kia_one PySem.W.kitx_dict I.kIn ⟨o,h1,h2.1⟩ e (fun z=>nomatch z) h
 | @ins a C dx fs ea cl ha hn htk hm=>
  cases(show u=Value.ref a from rx)
  obtain⟨mA,O,_⟩:=zX I.hok ea
  obtain⟨od,J,_⟩:=O.look
  exact PySem.W.kia_one (PySem.W.kitx_own (cl.get _) cl.hd ha hn htk hm) I.kIn J e (fun z=>nomatch z) h
end
end L2
namespace L2
open PySem PySem.Spec PyProof.Rows
structure Room(k:Nat)(A:Around):Prop where
 hd:A.handled=none
 dp:A.depth+3*k+5<recursionLimit
 un:A.units+16*k+200<cLine
theorem Room.mono{j k:Nat}{A:Around}(r:Room k A)(h:j<=k):Room j A:=⟨r.hd,by have:=r.dp;omega,by have:=r.un;omega⟩
theorem Room.deeper{k:Nat}{A:Around}(r:Room (k+1) A)(env:Env):Room k (A.deeper env):=
 ⟨r.hd,by have:=r.dp;show A.depth+1+3*k+5<_;omega,by have:=r.un;show A.units+3+16*k+200<_;omega⟩
theorem Room.depth{k:Nat}{A:Around}(r:Room k A):A.depth<recursionLimit:=by have:=r.dp;omega
theorem Room.units{k:Nat}{A:Around}(r:Room k A):A.units+64<cLine:=by have:=r.un;omega
def nK:TA:=fun _ H Q=>Q [] H
def jM(ta:TE)(tr:TA):TA:=fun σ H Q=>ta σ H fun x H1=>tr σ H1 fun xs H2=>Q (x::xs) H2
section
variable {X:Cx} {e:Expr} {es:List Expr} {te:TE} {t:TA} {pos:Pos}
theorem ae:PA X [] nK:=fun _ _ _ _ H Q I h=>Calls.spliced_nil ⟨[],H,I,.nil,h⟩
theorem aa(ha:PE X e te)(hr:PA X es t)(hs:starEach (e::es) X.env=(false,eval e X.env)::starEach es X.env:=by rfl):PA X (e::es) (jM te t):=by
 intro pos pins s σ H Q I h
 rw[hs]
 show wpAny _ _ (spliced ((false,eval e X.env)::backTo pos (starEach es X.env))) _ _ s
 refine Calls.spliced_cons (az (ha pins s σ H _ I h) fun u s1 ⟨x,H1,I1,r1,q1⟩=>?_)
 exact az (hr pos pins s1 σ H1 _ I1 q1) fun us s2 ⟨xs,H2,I2,r2,q2⟩=>⟨x::xs,H2,I2,.cons r1 r2,q2⟩
def mz(t:TA):TE:=fun σ H Q=>t σ H fun xs H1=>xs.length<=sizeLine/\∀p,H1 p=none->Q (.ref p) (upd H1 p (.tup xs))
def uh(t:TA):TE:=fun σ H Q=>t σ H fun xs H1=>xs.length<=sizeLine/\∀p,H1 p=none->Q (.ref p) (upd H1 p (.lst xs))
theorem aD{x1}(h:PA X es t):PE X (.Tuple es x1 pos) (mz t):=by
 intro pins s σ H Q I hq
 refine wpAny_Tuple_spliced (az (h pos pins s σ H _ I hq) fun us s1 ⟨xs,H1,I1,r,z,q⟩=>⟨by rw[←r.length];exact z,?_⟩)
 have hf:H1 s1.heap.objs.size=none:=I1.hok.fresh (Nat.le_refl _)
 refine⟨.ref s1.heap.objs.size,upd H1 s1.heap.objs.size (.tup xs),I1.laid (t':=s1.toks) (fun b u e=>Heap.get?_push_of_some _ e) (Nat.le_refl _) ?_,rfl,q _ hf⟩
 exact⟨z,us,r,⟨_,Heap.get?_push_size _ rfl,rfl,_,rfl⟩⟩
theorem aR(h:PA X es t):PE X (.List es pos) (uh t):=by
 intro pins s σ H Q I hq
 refine wpAny_List_spliced (az (h pos pins s σ H _ I hq) fun us s1 ⟨xs,H1,I1,r,z,q⟩=>⟨by rw[←r.length];exact z,?_⟩)
 have hf:H1 s1.heap.objs.size=none:=I1.hok.fresh (Nat.le_refl _)
 refine⟨.ref s1.heap.objs.size,upd H1 s1.heap.objs.size (.lst xs),I1.laid (t':=s1.toks) (fun b u e=>Heap.get?_push_of_some _ e) (Nat.le_refl _) ?_,rfl,q _ hf⟩
 exact⟨z,us,0,r,Heap.get?_push_size _ rfl⟩
end
abbrev Sp:=List V->Hp->VK->XK->Prop
abbrev dw:=List Env->Hp->Shared->XK->Value->Shared->Prop
structure Env0(P:Program)(w:World)(K:PySem.W.Frag)(mg:Str->Option Value)(base:Heap)(A:Around)(outer:List Env)(s:Shared)(H:Hp):Prop where
 frames:A.frames=some outer
 mod:Mod K mg base
 bs:∀b o,base.get? b=some o->s.heap.get? b=some o/\H b=none
 bsz:base.objs.size<=s.heap.objs.size
 funs:s.heap.FunFrames base outer
 frf:∀b∈cE outer,H b=none
 hok:bA P w H s.heap
 bare:AllBare s.gens
def CE(outer:List Env)(P:Program)(w:World)(H:Hp)(s:Shared)(Q:VK)(u:Value)(s':Shared):Prop:=
 ∃v H',s'.os=s.os/\AllBare s'.gens/\Un (cE outer) [] H H' s.heap s'.heap/\bA P w H' s'.heap/\RelV v u/\Q v H'
def CR(CX:dw)(outer:List Env)(P:Program)(w:World)(H:Hp)(s:Shared)(Q:VK)(E:XK)(r:Result)(s':Shared):Prop:=
 match r with
 | .ok (.ret u)=>CE outer P w H s Q u s'
 | .ok _=>False
 | .error e=>CX outer H s E e s'
structure FnOk(P:Program)(w:World)(K:PySem.W.Frag)(mg:Str->Option Value)(base:Heap)(CX:dw)(k:Nat)(f:Addr)(fd:FuncData)(ps:List Str)(sp:Sp):Prop where
 len:∀vs H Q E,sp vs H Q E->vs.length=ps.length
 run:∀(A:Around) (outer:List Env) (s:Shared) (H:Hp) (args:Args) (us:List Value) (vs:List V) (Q:VK) (E:XK),Room k A->Env0 P w K mg base A outer s H->BindsTo s fd args (ps.zip us)->Vals vs us->sp vs H Q E →
  codeAny (model P w) A (.call (.ref f) args) (CR CX outer P w H s Q E) s
section
variable {X:Cx} {pins:List (Addr×Obj)} {σ:St} {H:Hp} {s s':Shared}
theorem Inv.env0(I:Inv X pins σ H s):Env0 X.prog X.w X.K X.mg X.base X.A X.stack s H:=
 ⟨I.ok.frames,I.ok.mod,I.bs,Nat.le_trans I.ok.bsz I.sz,I.stack,I.stkFree,I.hok,I.bare⟩
theorem Inv.after{Q:VK}{u:Value}(I:Inv X pins σ H s)(h:CE X.stack X.prog X.w H s Q u s'):EP X pins σ Q u s':=by
 obtain⟨v,H',os,bare,un,hok,r,q⟩:=h
 obtain⟨hh,g,d,t,os'⟩:=s'
 obtain rfl:os'=s.os:=os
 exact⟨v,H',I.call (h':=hh) (g':=g) (d':=d) (t':=t) (ch:=[]) un hok bare (fun b z=>absurd z (by simp)),r,q⟩
end
def mL(sp:Sp)(dvs:List V)(E:XK)(t:TA):TE:=fun σ H Q=>t σ H fun vs H1=>sp (vs++dvs) H1 Q E
def Binds(K:PySem.W.Frag)(fd:FuncData)(ps:List Str)(ds:List Value):Prop:=
 ∀(s:Shared) (us:List Value),K.In s.heap->(us++ds).length=ps.length->BindsTo s fd ⟨us,[]⟩ (ps.zip (us++ds))
theorem Binds.all{K:PySem.W.Frag}{fd:FuncData}{ps:List Str}(h:∀us:List Value,us.length=ps.length->bindArgs fd ⟨us,[]⟩=pure (ps.zip us)):Binds K fd ps []:=fun s us _ hl=>by
 rw[List.append_nil]at hl ⊢
 exact .of_eq (h us hl)
def Passes(CX:dw)(X:Cx)(E:XK):Prop:=∀(pins:List (Addr×Obj)) (σ:St) (H:Hp) (s:Shared) (e:Value) (s':Shared),Inv X pins σ H s->CX X.stack H s E e s'->X.xe e s'
section
variable {X:Cx} {CX:dw} {k:Nat} {f C:Addr} {fd:FuncData} {ps:List Str} {sp:Sp} {dvs:List V} {ds:List Value} {E:XK} {x m:Str} {p pos apos:Pos} {e o:Expr} {es:List Expr} {ta:TE} {t:TA}
theorem xF{pins:List (Addr×Obj)}{σ:St}{H:Hp}{s:Shared}{Q:VK}{us:List Value}{vs:List V}(F:FnOk X.prog X.w X.K X.mg X.base CX k f fd ps sp)(hr:Room k X.A)(hb:Binds X.K fd ps ds)(hd:Vals dvs ds)(hx:Passes CX X E)
  (I:Inv X pins σ H s) (r:Vals vs us) (h:sp (vs++dvs) H Q E):wpAny (model X.prog X.w) X.A (call (.ref f) us) (EP X pins σ Q) X.xe s:=by
 have r2:Vals (vs++dvs) (us++ds):=r.append hd
 have hl:(us++ds).length=ps.length:=by rw[←r2.length];exact F.len _ _ _ _ h
 refine wpAny_call (codeAny_mono (F.run X.A X.stack s H ⟨us,[]⟩ (us++ds) (vs++dvs) Q E hr I.env0 (hb s us I.kIn hl) r2 h) fun r s' hq=>?_)
 cases r with
 | error e=>exact hx pins σ H s e s' I hq
 | ok fl=>
  cases fl with
  | ret u=>exact I.after hq
  | next=>exact False.elim hq
  | brk=>exact False.elim hq
  | cont=>exact False.elim hq
theorem za(F:FnOk X.prog X.w X.K X.mg X.base CX k f fd ps sp)(hr:Room k X.A)(hg:Gl X x)(hm:X.mg x=some (.ref f))(hk:PySem.W.keepIn X.K (.ref f)=true)(hb:Binds X.K fd ps ds)(hd:Vals dvs ds)(hx:Passes CX X E)
  (ha:PA X (e::es) t) (hdb:(x == ("__debug__":Str))=false:=by decide) (he:starEach (e::es) X.env=(false,eval e X.env)::starEach es X.env:=by rfl) (hpl:(backTo pos (starEach es X.env)).any (·.1)=false:=by rfl) :
  PE X (.Call (.Name x p) (e::es) [] pos) (mL sp dvs E t):=by
 intro pins s σ H Q I h
 refine wpAny_Call_Name_kw (kH I hg hm ?_ hdb)
 refine PySem.W.callWith_K (h₀:=X.base) I.ok.mod.kin hk (az (ha pos pins s σ H _ I h) fun us s1 ⟨vs,H1,I1,r,q⟩=>⟨I1.kIn,?_⟩) he hpl
 exact xF F hr hb hd hx I1 r q
end
section
variable {X:Cx} {CX:dw} {k:Nat} {f C:Addr} {fd:FuncData} {ps ks:List Str} {sp:Sp} {E:XK} {x m:Str} {p pos apos kpos:Pos} {e o:Expr} {es:List Expr} {kws:List Keyword} {te ta:TE} {t tk:TA} {nm:Option Str}
variable {g:List Value->List Value->List Value} {gV:List V->List V->List V}
end
structure FnScope(N P:List Str)(sc:Scope):Prop where
 kind:sc.kind=.function
 co:sc.isCoroutine=false
 gen:sc.isGenerator=false
 nd:N.Nodup
 pre:N.take P.length=P
 par:∀x∈P,sc.names.lookup x=some .local\/sc.names.lookup x=some .cell
 nofree:∀y∈sc.names,y.2≠.free
theorem pW{kindOf:Str->Option NameKind}{x:Str}:∀{binds:List (Str×Value)} {m:Str->Option Value},(∀v,(x,v)∉binds)->bindL kindOf binds m x=m x
 | [],_,_=>rfl
 | (n,v)::r,m,h=>by
  unfold bindL
  rw[pW fun w hw=>h w (List.mem_cons_of_mem _ hw)]
  split
  ·have:x≠n:=by rintro rfl;exact h v List.mem_cons_self
   simp[this]
  ·rfl
theorem qd{kindOf:Str->Option NameKind}{x:Str}:∀{binds:List (Str×Value)} {m:Str->Option Value},(∀v,(x,v)∉binds)->bindC kindOf binds m x=m x
 | [],_,_=>rfl
 | (n,v)::r,m,h=>by
  unfold bindC
  rw[qd fun w hw=>h w (List.mem_cons_of_mem _ hw)]
  split
  ·rfl
  ·have:x≠n:=by rintro rfl;exact h v List.mem_cons_self
   simp[this]
theorem rh{kindOf:Str->Option NameKind}{x:Str}{v:Value}:∀{P:List Str} {vs:List Value} {i:Nat} {m:Str->Option Value},P.Nodup->P[i]?=some x->vs[i]?=some v->kindOf x=some .local →
  bindL kindOf (P.zip vs) m x=some v
 | [],_,_,_,_,h,_,_=>by simp at h
 | _::_,[],_,_,_,_,h,_=>by simp at h
 | p::P,w::vs,0,m,nd,h1,h2,hk=>by
  simp at h1 h2;subst h1;subst h2
  show bindL kindOf ((p,w)::P.zip vs) m p=_
  unfold bindL
  rw[pW fun v hv=>(List.nodup_cons.mp nd).1 (List.of_mem_zip hv).1,if_pos hk]
  simp
 | p::P,w::vs,i+1,m,nd,h1,h2,hk=>by
  show bindL kindOf ((p,w)::P.zip vs) m x=_
  unfold bindL
  exact rh (i:=i) (List.nodup_cons.mp nd).2 (by simpa using h1) (by simpa using h2) hk
theorem rA{kindOf:Str->Option NameKind}{x:Str}{v:Value}:∀{P:List Str} {vs:List Value} {i:Nat} {m:Str->Option Value},P.Nodup->P[i]?=some x->vs[i]?=some v->kindOf x≠some .local →
  bindC kindOf (P.zip vs) m x=some v
 | [],_,_,_,_,h,_,_=>by simp at h
 | _::_,[],_,_,_,_,h,_=>by simp at h
 | p::P,w::vs,0,m,nd,h1,h2,hk=>by
  simp at h1 h2;subst h1;subst h2
  show bindC kindOf ((p,w)::P.zip vs) m p=_
  unfold bindC
  rw[qd fun v hv=>(List.nodup_cons.mp nd).1 (List.of_mem_zip hv).1,if_neg hk]
  simp
 | p::P,w::vs,i+1,m,nd,h1,h2,hk=>by
  show bindC kindOf ((p,w)::P.zip vs) m x=_
  unfold bindC
  exact rA (i:=i) (List.nodup_cons.mp nd).2 (by simpa using h1) (by simpa using h2) hk
def start(N:List Str)(vs:List V):St:=vs.map some++List.replicate (N.length-vs.length) none
def fk(CX:dw)(P:Program)(w:World)(K:PySem.W.Frag)(mg:Str->Option Value)(base:Heap)(N:List Str)(qual:Str)(scope:Scope)(f:Addr)(cd:Value)(A:Around)(outer:List Env)(s:Shared)(H:Hp)(E:XK):Cx where
 prog:=P
 w:=w
 K:=K
 mg:=mg
 base:=base
 A:=A.deeper (envOfC qual scope s.heap.objs.size f cd)
 N:=N
 s₀:=s
 H₀:=H
 env:=envOfC qual scope s.heap.objs.size f cd
 outer:=outer
 stack:=envOfC qual scope s.heap.objs.size f cd::outer
 ex:=[]
 calm:=true
 fn:=fun _=>true
 pn:=[]
 xe:=fun e s'=>wpAny (model P w) (A.deeper (envOfC qual scope s.heap.objs.size f cd)) (leaving (envOfC qual scope s.heap.objs.size f cd) e) (fun _ s''=>CX outer H s E e s'') (fun e' s''=>CX outer H s E e' s'') s'
theorem pj{sc:Scope}{n:Nat}{x:Str}(h:sc.names.lookup x=some .cell):∃c,(cellsFrom n sc.names []).lookup x=some c:=by
 have q:=PySem.W.cellsFrom_some sc.names n [] (.inl h)
 exact Option.isSome_iff_exists.mp q
theorem xI{CX:dw}{P:Program}{w:World}{K:PySem.W.Frag}{mg:Str->Option Value}{base:Heap}{N ps:List Str}{qual:Str}{scope:Scope}{f:Addr}{cd:Value}{A:Around}{outer:List Env}{s s1:Shared}{H:Hp}{E:XK}{us:List Value}{vs:List V}
  (S:FnScope N ps scope) (hd:A.handled=none) (e0:Env0 P w K mg base A outer s H) (hl:vs.length=ps.length) (r:Vals vs us)
  (x:InCallC s s.heap.objs.size (bindL (envOfC qual scope s.heap.objs.size f cd).kindOf (ps.zip us) fun _=>none) (cellsFrom (s.heap.objs.size+1) scope.names []) (bindC (envOfC qual scope s.heap.objs.size f cd).kindOf (ps.zip us) fun _=>none) s1) :
  Inv (fk CX P w K mg base N qual scope f cd A outer s H E) [] (start N vs) H s1:=by
 have hpl:ps.length<=N.length:=by have:=congrArg List.length S.pre;rw[List.length_take]at this;omega
 obtain⟨h1,tk,rfl,hk⟩:=x.done
 have noA:∀b:Addr,b∉(fk CX P w K mg base N qual scope f cd A outer s H E).ex:=fun b z=>absurd (show b∈([]:List Addr)from z) (by simp)
 refine⟨⟨e0.mod,S.kind,rfl,rfl,Nat.le_refl _,fun y z c h1 h2=>?_,fun y hy=>?_,fun y c _ h=>?_,fun _=>hd,Around.frames_deeper e0.frames,.inr ⟨rfl,rfl⟩,fun b z=>absurd z (noA b),e0.bs,e0.bsz,fun b _ _=>noA b,fun b z=>absurd z (noA b),e0.funs,e0.frf⟩,
  rfl,e0.bare,Un.kept hk,⟨_,x.toInCall.ns,fun i y v h1 h2 h3=>?_⟩,fun y c h=>⟨_,x.cell y c h⟩,e0.hok.fresh (Nat.le_refl _),fun y c h=>?_,fun p hp=>absurd (show p∈([]:List (Addr×Obj))from hp) (by simp),e0.hok.kept hk,?_⟩
 ·exact name_of_addr x.apart (PySem.mem_of_lookup h1) (PySem.mem_of_lookup h2)
 ·have hy:scope.names.lookup y=some .cell\/scope.names.lookup y=some .free:=hy
  rcases hy with hy | hy
  ·exact pj hy
  ·exact absurd rfl (S.nofree _ (PySem.mem_of_lookup hy))
 ·exact Nat.le_of_lt (x.above y c (PySem.mem_of_lookup h))
 ·have hi:i<vs.length:=by
   unfold start at h2
   by_cases hi:i<vs.length
   ·exact hi
   ·rw[List.getElem?_append_right (by simpa using hi)]at h2
    rw[List.getElem?_replicate]at h2
    split at h2<;>cases h2
  have ha:vs[i]?=some v:=by
   unfold start at h2
   rw[List.getElem?_append_left (by simpa using hi),List.getElem?_map]at h2
   cases e:vs[i]? with
   | none=>rw[e]at h2;cases h2
   | some a=>rw[e]at h2;cases h2;rfl
  obtain⟨u,hu,rv⟩:=r.get ha
  have hp:ps[i]?=some y:=by
   rw[←S.pre,List.getElem?_take_of_lt (by omega)];exact h1
  have ndP:ps.Nodup:=by rw[←S.pre];exact S.nd.sublist (List.take_sublist _ _)
  refine⟨u,rv,?_⟩
  rcases S.par y (List.mem_of_getElem? hp)with k | k
  ·exact .inl ⟨k,rh ndP hp hu k⟩
  ·obtain⟨c,e⟩:=pj (n:=s.heap.objs.size+1) k
   refine .inr ⟨.inl k,c,e,?_⟩
   have q:=x.cell y c e
   rw[rA ndP hp hu (by show scope.names.lookup y≠_;rw[k];decide)]at q
   exact q
 ·exact e0.hok.fresh (Nat.le_of_lt (x.above y c (PySem.mem_of_lookup h)))
 ·unfold start
  show _=N.length
  rw[List.length_append,List.length_map,List.length_replicate]
  omega
theorem wW{CX:dw}{P:Program}{w:World}{K:PySem.W.Frag}{mg:Str->Option Value}{base:Heap}{k:Nat}{f:Addr}{name qual:Str}{params:Arguments}{body:List Stmt}{scope:Scope}{dV kV doc pm cdv ct oc:Value}{an od:Option Addr}
  {osl:Array (Option Value)} {N ps:List Str} {sp:Sp} (lk:K.lookup f=some ⟨oc,od,.func (PySem.W.fnOf name qual params body scope dV kV doc pm an cdv ct),osl⟩) (hcd:PySem.W.codeIn K cdv qual=true) (S:FnScope N ps scope)
  (len:∀vs H Q E,sp vs H Q E->vs.length=ps.length)
  (hbody:∀(A:Around) (outer:List Env) (s:Shared) (H:Hp) (vs:List V) (Q:VK) (E:XK),Room k (A.deeper (envOfC qual scope s.heap.objs.size f cdv))->sp vs H Q E →
   ∃t,bZ (fk CX P w K mg base N qual scope f cdv A outer s H E) body t/\t { nx:=fun _ H'=>Q .non H',rt:=Q } (start N vs) H) :
  FnOk P w K mg base CX (k+1) f (PySem.W.fnOf name qual params body scope dV kV doc pm an cdv ct) ps sp:=by
 refine⟨len,fun A outer s H args us vs Q E hr e0 hb r hsp=>?_⟩
 have hl:=len _ _ _ _ hsp
 have KX:K.In s.heap:=e0.mod.kin.keeps fun b o e=>(e0.bs b o e).1
 have lim:s.heap.NoLimit:=e0.mod.nolimit.keeps fun b o e=>(e0.bs b o e).1
 have hkind:∀y∈ps.zip us,scope.names.lookup y.1=some .local\/(scope.names.lookup y.1=some .cell/\((cellsFrom (s.heap.objs.size+1) scope.names []).lookup y.1).isSome=true):=fun⟨n,v⟩ hy=>by
  rcases S.par n (List.of_mem_zip hy).1 with q | q
  ·exact .inl q
  ·exact .inr ⟨q,PySem.W.cellsFrom_some _ _ _ (.inl q)⟩
 refine codeAny_call_function hr.depth (KX _ _ lk) rfl S.co S.gen rfl (PySem.W.codeRec_of KX hcd) (hb _ _ _ _ ?_)
 refine wpAny_newFunctionEnv_cells S.kind hkind fun env he s1 x=>?_
 subst he
 refine⟨lim.keeps x.toInCall.keep,codeAny_func ?_⟩
 obtain⟨t,ht,hq⟩:=hbody A outer s H vs Q E (hr.deeper _) hsp
 have I:Inv (fk CX P w K mg base N qual scope f cdv A outer s H E) [] (start N vs) H s1:=xI S hr.hd e0 hl r x
 refine wpAny_mono (ht [] s1 (start N vs) H _ I hq) (fun fl s' hs=>?_) fun e s' hs=>hs
 have fin:∀{σ':St} {H':Hp} {v:V} {u:Value},Inv (fk CX P w K mg base N qual scope f cdv A outer s H E) [] σ' H' s'->RelV v u->Q v H'->CE outer P w H s Q u s':=
  fun{σ' H' v u} J rv q=>⟨v,H',J.os,J.bare,J.base,J.hok,rv,q⟩
 cases fl with
 | ret u=>
  obtain⟨v,σ',H',J,rv,q⟩:=hs
  exact fin J rv q
 | next=>
  obtain⟨σ',H',J,q⟩:=hs
  exact fin (v:=V.non) (u:=Value.none) J rfl q
 | brk=>
  obtain⟨_,_,_,q⟩:=hs
  exact False.elim q
 | cont=>
  obtain⟨_,_,_,q⟩:=hs
  exact False.elim q
end L2
namespace L2
open PySem PySem.Spec PyProof.Rows
section
variable {X:Cx} {x:Str} {p pos:Pos} {e:Expr} {es:List Expr} {t:TA} {id T:String} {r:List V->Hp->VK->Prop}
def nq(r:List V->Hp->VK->Prop)(t:TA):TE:=fun σ H Q=>t σ H fun vs H1=>r vs H1 Q
theorem aV(hc:bC X (.builtin id) r)(hg:Gl X x)(hm:X.mg x=none)(hv:bootBuiltins x=some (.builtin id))(ha:PA X (e::es) t)(hn:x≠"__name__":=by decide)(hdb:(x == ("__debug__":Str))=false:=by decide)
  (he:starEach (e::es) X.env=(false,eval e X.env)::starEach es X.env:=by rfl) (hpl:(backTo pos (starEach es X.env)).any (·.1)=false:=by rfl):PE X (.Call (.Name x p) (e::es) [] pos) (nq r t):=by
 intro pins s σ H Q I h
 refine wpAny_Call_Name_kw (eo I hg hm hv ?_ hn hdb)
 exact PyProof.Rows.callWith_builtin1 (az (ha pos pins s σ H _ I h) fun us s1 ⟨vs,H1,I1,r1,q1⟩=>hc pins s1 σ H1 vs us Q I1 r1 q1) he hpl
theorem cT(hc:bC X (.type T) r)(hg:Gl X x)(hm:X.mg x=none)(hv:bootBuiltins x=some (.type T))(ha:PA X (e::es) t)(hn:x≠"__name__":=by decide)(hdb:(x == ("__debug__":Str))=false:=by decide)
  (he:starEach (e::es) X.env=(false,eval e X.env)::starEach es X.env:=by rfl) (hpl:(backTo pos (starEach es X.env)).any (·.1)=false:=by rfl):PE X (.Call (.Name x p) (e::es) [] pos) (nq r t):=by
 intro pins s σ H Q I h
 refine wpAny_Call_Name_kw (eo I hg hm hv ?_ hn hdb)
 exact PyProof.Rows.callWith_type1 (az (ha pos pins s σ H _ I h) fun us s1 ⟨vs,H1,I1,r1,q1⟩=>hc pins s1 σ H1 vs us Q I1 r1 q1) he hpl
end
end L2
namespace HT
open PySem PyProof.Rows
section
open PySem.SeqAt
open PySem.AutoSeq1 (wpAny_loadPart')
open PySem.MeetsSeq PySem.MeetsSeq2 PySem.MeetsSeq3
end
section
variable {prog:Program} {w:World} {A:Around} {E:Value->Shared->Prop} {s:Shared}
def bz(n d:Nat):Option Int->Nat
 | none=>d
 | some v=>if v<0 then(v+(n:Int)).toNat else min v.toNat n
theorem kY(n d:Nat):bz n d none=d:=rfl
theorem mh(n d k:Nat):bz n d (some (k:Int))=min k n:=by
 show(if(k:Int)<0 then((k:Int)+(n:Int)).toNat else min (k:Int).toNat n)=min k n
 rw[if_neg (by omega),Int.toNat_natCast]
end
end HT
namespace L2
open PySem PySem.Spec PyProof.Rows
abbrev TO:=St->Hp->(Option Int->Hp->Prop)->Prop
def PO(X:Cx)(e:Option Expr)(t:TO):Prop:=
 ∀(pins:List (Addr×Obj)) (s:Shared) (σ:St) (H:Hp) (Q:Option Int->Hp->Prop),Inv X pins σ H s->t σ H Q →
  wpAny (model X.prog X.w) X.A (evalPart e X.env) (fun u s'=>∃o H',Inv X pins σ H' s'/\IsPart u o/\Q o H') X.xe s
def qp:TO:=fun _ H Q=>Q none H
def qu(t:TE):TO:=fun σ H Q=>t σ H fun x H1=>∃i,x=.int i/\Q (some i) H1
section
variable {X:Cx} {e:Expr} {te:TE} {lo hi:Option Expr} {tl th:TO} {pos p2:Pos}
theorem iI:PO X none qp:=by
 intro pins s σ H Q I h
 rw[evalPart_none]
 exact wpAny_pure ⟨none,H,I,.none,h⟩
theorem eW(h:PE X e te):PO X (some e) (qu te):=by
 intro pins s σ H Q I hw
 rw[evalPart_some]
 refine az (h pins s σ H _ I hw) fun u s1 ⟨x,H1,I1,r1,q1⟩=>?_
 obtain⟨i,rfl,q⟩:=q1
 obtain⟨t,rfl⟩:=r1
 exact⟨some i,H1,I1,.int i t,q⟩
def nO(X:Cx)(r:V->Option Int->Option Int->Hp->VK->Prop):Prop:=
 ∀(pins:List (Addr×Obj)) (s:Shared) (σ:St) (H:Hp) (x:V) (v vl vu:Value) (lo hi:Option Int) (sl:Addr) (Q:VK),Inv X pins σ H s->RelV x v->s.heap.IsSliceOf sl vl vu .none->IsPart vl lo->IsPart vu hi->r x lo hi H Q →
  ∃T id,typeLookup (.type T) "__getitem__" = pure (some (.builtin id))/\s.TypeIs v T/\wpAny (model X.prog X.w) X.A (getItem v (.ref sl)) (EP X pins σ Q) X.xe s
def oh(r:V->Option Int->Option Int->Hp->VK->Prop)(te:TE)(tl th:TO):TE:=fun σ H Q=>te σ H fun x H1=>tl σ H1 fun l H2=>th σ H2 fun u H3=>r x l u H3 Q
theorem gH{r:V->Option Int->Option Int->Hp->VK->Prop}(hr:nO X r)(he:PE X e te)(hl:PO X lo tl)(hu:PO X hi th):PE X (.Subscript e (.Slice lo hi none p2) pos) (oh r te tl th):=by
 intro pins s σ H Q I h
 refine Subscript_ (az (he pins s σ H _ I h) fun v s1 ⟨x,H1,I1,r1,q1⟩=>?_)
 refine wpAny_Slice (az (hl pins s1 σ H1 _ I1 q1) fun vl s2 ⟨l,H2,I2,pl,q2⟩=>az (hu pins s2 σ H2 _ I2 q2) fun vu s3 ⟨u,H3,I3,pu,q3⟩=>?_)
 rw[evalPart_none]
 refine wpAny_pure ?_
 have I4:Inv X pins σ H3 { s3 with heap:=s3.heap.push { cls:=.type "slice",data:=.fields #[vl,vu,.none] } }:=I3.kept (t':=s3.toks) fun b ob q=>Heap.get?_push_of_some _ q
 obtain⟨T,id,hT,ht,hg⟩:=hr pins { s3 with heap:=s3.heap.push { cls:=.type "slice",data:=.fields #[vl,vu,.none] } } σ H3 x v vl vu l u s3.heap.objs.size Q I4 r1 (Heap.IsSliceOf.new ..) pl pu q3
 show wpAny (model X.prog X.w) X.A (subscriptTail e (.Slice lo hi none p2) v (.ref s3.heap.objs.size)) (EP X pins σ Q) X.xe { s3 with heap:=s3.heap.push { cls:=.type "slice",data:=.fields #[vl,vu,.none] } }
 exact tail_any (ops:=[.ref s3.heap.objs.size,v]) ht hT hg (by with_unfolding_all rfl)
def cf(xs:List V)(lo hi:Option Int):List V:=(xs.drop (HT.bz xs.length 0 lo)).take (HT.bz xs.length xs.length hi-HT.bz xs.length 0 lo)
theorem qH(xs:List V)(lo hi:Option Int):(cf xs lo hi).length<=xs.length:=by
 unfold cf
 rw[List.length_take,List.length_drop]
 omega
end
end L2
namespace L2
open PySem PySem.Spec PyProof.Rows
def dE(n:Nat)(i:Int):Option Nat:=if 0<=i then(if i<n then some i.toNat else none)else if -(n:Int)<=i then some (i+n).toNat else none
def bN{α:Type}(xs:List α)(i:Int):Option α:=(dE xs.length i).bind fun j=>xs[j]?
theorem rR{n:Nat}{i:Int}{j:Nat}(h:dE n i=some j):seqIndex? i n=some j/\j<n/\-(n:Int)<=i/\i<n:=by
 unfold dE at h
 by_cases h0:0<=i
 ·rw[if_pos h0]at h
  by_cases h1:i<n
  ·rw[if_pos h1]at h
   have e:i.toNat=j:=Option.some.inj h
   exact⟨by rw[seqIndex_of h0 h1,e],by omega,by omega,h1⟩
  ·rw[if_neg h1]at h;cases h
 ·rw[if_neg h0]at h
  by_cases h1:-(n:Int)<=i
  ·rw[if_pos h1]at h
   have e:(i+n).toNat=j:=Option.some.inj h
   exact⟨by rw[seqIndex_neg (by omega) h1,e],by omega,h1,by omega⟩
  ·rw[if_neg h1]at h;cases h
theorem nQ{α:Type}{xs:List α}{i:Int}{v:α}(h:bN xs i=some v):∃j,seqIndex? i xs.length=some j/\xs[j]?=some v/\j<xs.length/\-(xs.length:Int)<=i/\i<xs.length:=by
 unfold bN at h
 cases e:dE xs.length i with
 | none=>rw[e]at h;cases h
 | some j=>
  rw[e]at h
  obtain⟨h1,h2,h3,h4⟩:=rR e
  exact⟨j,h1,h,h2,h3,h4⟩
theorem dR{α:Type}{xs:List α}{j:Nat}{v:α}(h:xs[j]?=some v):bN xs (j:Int)=some v:=by
 have hj:j<xs.length:=(List.getElem?_eq_some_iff.mp h).1
 have e:dE xs.length (j:Int)=some j:=by
  unfold dE
  rw[if_pos (by omega),if_pos (by omega)];simp
 unfold bN;rw[e];exact h
def zT(b:Expr):Prop:=∀o i,subscripted b false o i=operate [o,i] (getItem o i)
def gU(X:Cx)(r:R2):Prop:=
 ∀(value slice:Expr) (pins:List (Addr×Obj)) (s:Shared) (σ:St) (H:Hp) (x y:V) (v u:Value) (Q:VK),Inv X pins σ H s->RelV x v->RelV y u->r x y H Q →
  subscripted slice false v u=operate [v,u] (getItem v u)->wpAny (model X.prog X.w) X.A (subscriptTail value slice v u) (EP X pins σ Q) X.xe s
def jq(X:Cx)(id:String)(r:V->List V->Hp->VK->Prop):Prop:=
 ∀(pins:List (Addr×Obj)) (s:Shared) (σ:St) (H:Hp) (x:V) (xs:List V) (v:Value) (us:List Value) (Q:VK),Inv X pins σ H s->RelV x v->Vals xs us->r x xs H Q →
  wpAny (model X.prog X.w) X.A (call (.builtin id) (v::us)) (EP X pins σ Q) X.xe s
section
variable {X:Cx} {a b:Expr} {ta tb:TE} {pos:Pos}
theorem aq{r:R2}(hr:gU X r)(ha:PE X a ta)(hb:PE X b tb)(hs:zT b):PE X (.Subscript a b pos) (iD r ta tb):=by
 intro pins s σ H Q I h
 exact Subscript_ (my ha hb I h fun v u s2 x y H2 I2 rx ry q=>hr a b pins s2 σ H2 x y v u Q I2 rx ry q (hs _ _))
def lS(K:PySem.W.Frag):R2:=fun x y H Q=>∃p xs i v,x=.ref p/\y=.int i/\ag K H p xs/\bN xs i=some v/\Q v H
def nG(K:PySem.W.Frag):R2:=fun x y H Q=>∃p xs i v,x=.ref p/\y=.int i/\aj K H p xs/\bN xs i=some v/\Q v H
def vV:R2:=fun x y H Q=>∃z i c,x=.str z/\y=.int i/\z.length<=sizeLine/\bN z.cps.toList i=some c/\Q (.str ⟨#[c]⟩) H
theorem AY:gU X (lS X.K):=by
 intro value slice pins s σ H x y v u Q I rx ry h hs
 obtain⟨p,xs,i,z,rfl,rfl,hq,he,q⟩:=h
 cases rx
 obtain⟨t,rfl⟩:=ry
 obtain⟨its,r,pl,hz⟩:=I.list hq
 obtain⟨j,h1,h2,h3,h4,h5⟩:=nQ he
 obtain⟨w,ew,rw'⟩:=r.get h2
 have hl:=r.length
 have hn:=fW
 have fin:EP X pins σ Q w s:=⟨z,H,I,rw',q⟩
 by_cases h0:0<=i
 ·have hj:i.toNat=j:=by
   rw[seqIndex_of h0 h5]at h1
   exact Option.some.inj h1
  exact item_listR pl.isList h0 (by omega) (by rw[hj];simpa using ew) fin hs
 ·have hj:(i+(its.toArray.size:Int)).toNat=j:=by
   rw[seqIndex_neg (by omega) h4]at h1
   rw[List.size_toArray,←hl]
   exact Option.some.inj h1
  exact subscriptTail_builtinR (x:=w) pl.isList.typeIs slot_list_getitem.lookup
   (wpAny_getItem_list_neg (Q:=fun r s'=>r=w/\EP X pins σ Q r s') pl.isList (by omega) (by rw[List.size_toArray]<;>omega) (by omega) (by rw[hj];simpa using ew) ⟨rfl,fin⟩) hs
theorem A8:gU X (nG X.K):=by
 intro value slice pins s σ H x y v u Q I rx ry h hs
 obtain⟨p,xs,i,z,rfl,rfl,hq,he,q⟩:=h
 cases rx
 obtain⟨t,rfl⟩:=ry
 obtain⟨its,r,pl,hz⟩:=I.tuple hq
 obtain⟨j,h1,h2,h3,h4,h5⟩:=nQ he
 obtain⟨w,ew,rw'⟩:=r.get h2
 have hl:=r.length
 have hn:=fW
 have fin:EP X pins σ Q w s:=⟨z,H,I,rw',q⟩
 exact subscriptTail_builtinR (x:=w) pl.typeIs slot_tuple_getitem.lookup
  (getItem_tuple (j:=j) (Q:=fun r s'=>r=w/\EP X pins σ Q r s') pl (by omega) (by omega) (by rw[List.size_toArray,←hl];exact h1) (by simpa using ew) ⟨rfl,fin⟩) hs
theorem oP:gU X vV:=by
 intro value slice pins s σ H x y v u Q I rx ry h hs
 obtain⟨z,i,c,rfl,rfl,hz,he,q⟩:=h
 obtain⟨t,rfl⟩:=rx
 obtain⟨t',rfl⟩:=ry
 obtain⟨j,h1,h2,h3,h4,h5⟩:=nQ he
 have hl:z.cps.toList.length=z.length:=by simp[Str.length]
 rw[hl]at h1 h4 h5
 have hn:=fW
 exact tail_any (typeIs_str s z t) slot_str_getitem.lookup (getItem_str (c:=c) (by
  have e1:decide (i < -(2 ^ 63:Int))=false:=decide_eq_false (by omega)
  have e2:decide (i ≥ 2 ^ 63)=false:=decide_eq_false (by omega)
  rw[e1,e2,Bool.or_false]) (by rw[h1];simpa using h2) ⟨.str ⟨#[c]⟩,H,I.tok _,⟨_,rfl⟩,q⟩) hs
theorem Aa(its:List Value)(n j:Nat)(u:Value):Obj.mapSeq (·.setIfInBounds j u) { cls:=.type "list",data:=.seq its.toArray n }={ cls:=.type "list",data:=.seq (its.set j u).toArray n }:=by
 simp[Obj.mapSeq]
theorem Inv.lst{pins:List (Addr×Obj)}{σ:St}{H:Hp}{s:Shared}{p:Addr}{xs:List V}(I:Inv X pins σ H s)(h:H p=some (.lst xs)):
  ∃(its:List Value) (n:Nat),Vals xs its/\s.heap.get? p=some { cls:=.type "list",data:=.seq its.toArray n }/\xs.length<=sizeLine:=by
 obtain⟨z,its,n,r,e⟩:=I.hok p _ h
 exact⟨its,n,r,e,z⟩
theorem Inv.lstUpd{pins:List (Addr×Obj)}{σ:St}{H:Hp}{s:Shared}{p:Addr}{xs ys:List V}{its its':List Value}{n n':Nat}{f:Obj->Obj}(I:Inv X pins σ H s)(h:H p=some (.lst xs))
  (ho:s.heap.get? p=some { cls:=.type "list",data:=.seq its.toArray n }) (hf:f { cls:=.type "list",data:=.seq its.toArray n }={ cls:=.type "list",data:=.seq its'.toArray n' }) (r:Vals ys its') (hz:ys.length<=sizeLine) (t:Nat) :
  Inv X pins σ (upd H p (.lst ys)) { s with heap:=s.heap.update p f,toks:=t }:=by
 have e:(s.heap.update p f).get? p=some { cls:=.type "list",data:=.seq its'.toArray n' }:=by
  rw[Heap.get?_update_self f ho (by rw[hf]<;>rfl),hf]
 refine I.write (x:=p) (e:=p) (by rw[h];trivial) (.inl rfl) (fun b u hb q=>(Heap.get?_update_other _ _ (Ne.symm hb)).trans q) ⟨_,e⟩ ?_
 exact⟨hz,its',n',r,e⟩
def n9:V->V->V->Hp->(Hp->Prop)->Prop:=fun o i v H Q=>∃p xs k j,o=.ref p/\i=.int k/\H p=some (.lst xs)/\dE xs.length k=some j/\Q (upd H p (.lst (xs.set j v)))
theorem set_list:qA X n9:=by
 intro pins s σ H o i v ov iv u Q I ro ri rv h
 obtain⟨p,xs,k,j,rfl,rfl,hp,hj,q⟩:=h
 cases ro
 obtain⟨t,rfl⟩:=ri
 obtain⟨its,n,r,ho,hz⟩:=I.lst hp
 obtain⟨h1,h2,h3,h4⟩:=rR hj
 have hl:=r.length
 have hn:=fW
 have I':Inv X pins σ (upd H p (.lst (xs.set j v))) { s with heap:=s.heap.update p (Obj.mapSeq (·.setIfInBounds j u)) }:=
  I.lstUpd hp ho (Aa its n j u) (r.set rv j) (by rw[List.length_set];exact hz) s.toks
 by_cases h0:0<=k
 ·have hk:k.toNat=j:=by
   rw[seqIndex_of h0 h4]at h1
   exact Option.some.inj h1
  exact PySem.W.ki_setAt ho h0 (by omega) (by rw[List.size_toArray,←hl];exact h4) (by rw[hk];exact⟨_,I',q⟩)
 ·have hk:(k+(its.toArray.size:Int)).toNat=j:=by
   rw[seqIndex_neg (by omega) h3]at h1
   rw[List.size_toArray,←hl]
   exact Option.some.inj h1
  exact PySem.W.ki_setBack ho (by omega) (by rw[List.size_toArray,←hl];exact h3) (by omega) (by rw[hk];exact⟨_,I',q⟩)
theorem yX(lo hi:Option Int)(n:Nat):(sliceBounds lo hi none n).1=((HT.bz n 0 lo:Nat):Int)/\(sliceBounds lo hi none n).2.1=((HT.bz n n hi:Nat):Int)/\(sliceBounds lo hi none n).2.2=1:=by
 refine⟨?_,?_,rfl⟩
 ·cases lo with
  | none=>simp[sliceBounds,HT.bz]
  | some i=>
   simp only[sliceBounds,HT.bz,Option.getD_none,show (1:Int)>0 by decide,if_true]
   by_cases h:i<0
   ·simp only[h,if_true]<;>omega
   ·simp only[h,if_false]<;>omega
 ·cases hi with
  | none=>simp[sliceBounds,HT.bz]
  | some i=>
   simp only[sliceBounds,HT.bz,Option.getD_none,show (1:Int)>0 by decide,if_true]
   by_cases h:i<0
   ·simp only[h,if_true]<;>omega
   ·simp only[h,if_false]<;>omega
theorem Ap(its:List Value)(lo hi:Option Int):slicePick its.toArray lo hi none=((its.drop (HT.bz its.length 0 lo)).take (HT.bz its.length its.length hi-HT.bz its.length 0 lo)).toArray:=by
 obtain⟨h1,h2,h3⟩:=yX lo hi its.toArray.size
 unfold slicePick
 rw[h1,h2,h3]
 simp only[sliceRange_one,pick_run,List.size_toArray]<;>rfl
def ny(K:PySem.W.Frag):V->Option Int->Option Int->Hp->VK->Prop:=fun x lo hi H Q=>∃a xs,x=.ref a/\ag K H a xs/\∀p,H p=none->Q (.ref p) (upd H p (.lst (cf xs lo hi)))
theorem xc:nO X (ny X.K):=by
 intro pins s σ H x v vl vu lo hi sl Q I rx hs pl pu h
 obtain⟨a,xs,rfl,hx,q⟩:=h
 cases rx
 obtain⟨its,r,ht,hz⟩:=I.list hx
 have hlen:=r.length
 refine⟨"list",_,slot_list_getitem.lookup,ht.isList.typeIs,?_⟩
 refine wpAny_getItem_list_slice ht.isList hs pl pu .none (by simp) ?_ (by rw[List.size_toArray]<;>omega)
 rw[Ap,←hlen]
 refine⟨.ref s.heap.objs.size,_,I.laid (t':=s.toks) (o:=.lst (cf xs lo hi)) (fun b ob q=>Heap.get?_push_of_some _ q) (Nat.le_refl _) ?_,rfl,q _ (I.hok.fresh (Nat.le_refl _))⟩
 exact⟨Nat.le_trans (qH xs lo hi) hz,_,0,(r.drop (HT.bz xs.length 0 lo)).take (HT.bz xs.length xs.length hi-HT.bz xs.length 0 lo),Heap.get?_push_size _ rfl⟩
def dy:V->Bool
 | .non=>true
 | .bl _=>true
 | .int _=>true
 | .str _=>true
 | _=>false
def eU:V->V->Bool
 | .non,.non=>true
 | .bl a,.bl b=>a == b
 | .bl a,.int b=>(if a then 1 else 0) == b
 | .int a,.bl b=>a == (if b then 1 else 0)
 | .int a,.int b=>a == b
 | .str a,.str b=>a == b
 | _,_=>false
theorem vP{A:Around}{s:Shared}{y x:V}{u v:Value}(ry:RelV y u)(rx:RelV x v)(fy:dy y=true)(fx:dy x=true):SeqAt.EqAt A s u v (eU y x):=by
 cases y with
 | non=>
  cases ry
  cases x with
  | non=>cases rx;exact SeqAt.EqAt.same _
  | bl b=>cases rx;exact SeqAt.EqAt.none_bool b
  | int b=>obtain⟨t,rfl⟩:=rx;exact SeqAt.EqAt.none_int b t
  | str b=>obtain⟨t,rfl⟩:=rx;exact SeqAt.EqAt.none_str b t
  | _=>exact absurd (show false=true from fx) Bool.false_ne_true
 | bl a=>
  cases ry
  cases x with
  | non=>cases rx;exact SeqAt.EqAt.bool_none a
  | bl b=>cases rx;exact SeqAt.EqAt.bool_bool a b
  | int b=>obtain⟨t,rfl⟩:=rx;exact SeqAt.EqAt.bool_int a b t
  | str b=>obtain⟨t,rfl⟩:=rx;exact SeqAt.EqAt.bool_str a b t
  | _=>exact absurd (show false=true from fx) Bool.false_ne_true
 | int a=>
  obtain⟨t',rfl⟩:=ry
  cases x with
  | non=>cases rx;exact SeqAt.EqAt.int_none a t'
  | bl b=>cases rx;exact SeqAt.EqAt.int_bool a t' b
  | int b=>obtain⟨t,rfl⟩:=rx;exact SeqAt.EqAt.int_int a t' b t
  | str b=>obtain⟨t,rfl⟩:=rx;exact SeqAt.EqAt.int_str a t' b t
  | _=>exact absurd (show false=true from fx) Bool.false_ne_true
 | str a=>
  obtain⟨t',rfl⟩:=ry
  cases x with
  | non=>cases rx;exact SeqAt.EqAt.str_none a t'
  | bl b=>cases rx;exact SeqAt.EqAt.str_bool a t' b
  | int b=>obtain⟨t,rfl⟩:=rx;exact SeqAt.EqAt.str_int a t' b t
  | str b=>obtain⟨t,rfl⟩:=rx;exact SeqAt.EqAt.str_str a t' b t
  | _=>exact absurd (show false=true from fx) Bool.false_ne_true
 | _=>exact absurd (show false=true from fy) Bool.false_ne_true
def eI(x:V)(u:Value):Bool:=match u with
 | .none=>eU .non x
 | .bool b=>eU (.bl b) x
 | .int i _=>eU (.int i) x
 | .str z _=>eU (.str z) x
 | _=>false
theorem rB{x y:V}{u:Value}(r:RelV y u)(f:dy y=true):eI x u=eU y x:=by
 cases y with
 | non=>cases r;rfl
 | bl b=>cases r;rfl
 | int i=>obtain⟨t,rfl⟩:=r;rfl
 | str z=>obtain⟨t,rfl⟩:=r;rfl
 | _=>exact absurd (show false=true from f) Bool.false_ne_true
theorem lr{x:V}:∀{xs:List V} {us:List Value},Vals xs us->xs.all dy=true->us.any (eI x)=xs.any fun y=>eU y x
 | _,_,.nil,_=>rfl
 | y::xs,u::us,.cons r t,f=>by
  rw[List.all_cons,Bool.and_eq_true]at f
  rw[List.any_cons,List.any_cons,rB r f.1,lr t f.2]
theorem lu{A:Around}{s:Shared}{x:V}{v:Value}(rx:RelV x v)(fx:dy x=true):∀{xs:List V} {us:List Value},Vals xs us->xs.all dy=true->∀u∈us,SeqAt.EqAt A s u v (eI x u)
 | _,_,.nil,_=>fun u hu=>by cases hu
 | y::xs,u::us,.cons r t,f=>fun u' hu=>by
  rw[List.all_cons,Bool.and_eq_true]at f
  rcases List.mem_cons.mp hu with rfl | hu
  ·rw[rB r f.1];exact vP r rx f.1 fx
  ·exact lu rx fx t f.2 u' hu
def gN(x:V)(xs:List V):Bool:=xs.any fun y=>eU y x
def mB(K:PySem.W.Frag)(neg:Bool):R2:=fun x y H Q=>∃p xs,y=.ref p/\(ag K H p xs\/aj K H p xs)/\dy x=true/\xs.all dy=true/\Q (.bl (if neg then !gN x xs else gN x xs)) H
theorem yL:bp X (compareOp .In) (mB X.K false):=by
 intro pins s σ H x y v u Q I rx ry h
 obtain⟨p,xs,rfl,hq,fx,fs,q⟩:=h
 cases ry
 rcases hq with hq | hq
 ·obtain⟨its,r,pl,hz⟩:=I.list hq
  refine SeqAt.in_listAt (eI x) pl.isList (fun w hw=>lu rx fx r fs w (by simpa using hw)) ⟨.bl _,H,I,rfl,?_⟩
  rw[show its.toArray.any (eI x)=its.any (eI x) by simp,lr r fs]
  exact q
 ·obtain⟨its,r,pl,hz⟩:=I.tuple hq
  refine SeqAt.in_tupleAt (eI x) pl (fun w hw=>lu rx fx r fs w (by simpa using hw)) ⟨.bl _,H,I,rfl,?_⟩
  rw[show its.toArray.any (eI x)=its.any (eI x) by simp,lr r fs]
  exact q
theorem Al:bC X (.builtin "len") (fun xs H Q=>∃p ys,xs=[.ref p]/\(ag X.K H p ys\/aj X.K H p ys)/\Q (.int ys.length) H):=by
 intro pins s σ H xs us Q I r h
 obtain⟨p,ys,rfl,hq,q⟩:=h
 obtain⟨u,rfl,rx⟩:=vals1 r
 cases rx
 have hn:=fW
 rcases hq with hq | hq
 ·obtain⟨its,r',pl,hz⟩:=I.list hq
  have hlen:=r'.length
  exact Calls.call_len_list pl.isList (by simp only[List.size_toArray]<;>omega) ⟨.int ys.length,H,I.tok _,⟨s.toks+1,by rw[List.size_toArray,hlen]⟩,q⟩
 ·obtain⟨its,r',pl,hz⟩:=I.tuple hq
  have hlen:=r'.length
  exact len_tuple pl (by simp only[List.size_toArray]<;>omega) ⟨.int ys.length,H,I.tok _,⟨s.toks+1,by rw[List.size_toArray,hlen]⟩,q⟩
theorem zW:bC X (.builtin "len") (fun xs H Q=>∃z,xs=[.str z]/\z.length<=sizeLine/\Q (.int z.length) H):=by
 intro pins s σ H xs us Q I r h
 obtain⟨z,rfl,hz,q⟩:=h
 obtain⟨u,rfl,t,rfl⟩:=vals1 r
 have hn:=fW
 exact len_str (by omega) ⟨.int z.length,H,I.tok _,⟨_,rfl⟩,q⟩
theorem zt:bC X (.type "list") (fun xs H Q=>∃p ys,xs=[.ref p]/\(ag X.K H p ys\/aj X.K H p ys)/\∀l,H l=none->Q (.ref l) (upd H l (.lst ys))):=by
 intro pins s σ H xs us Q I r h
 obtain⟨p,ys,rfl,hq,q⟩:=h
 obtain⟨u,rfl,rx⟩:=vals1 r
 cases rx
 have fin:∀(its:List Value),Vals ys its->ys.length<=sizeLine->∀(h':Heap) (c':Nat),(∀b o',s.heap.get? b=some o'->h'.get? b=some o') →
   h'.get? s.heap.objs.size=some { cls:=.type "list",dict:=none,data:=.seq its.toArray c',slots:=#[] }->EP X pins σ Q (.ref s.heap.objs.size) { s with heap:=h' }:=fun its r' hz h' c' kp e=>
  ⟨.ref s.heap.objs.size,_,I.laid (t':=s.toks) kp (Nat.le_refl _) (show bI X.prog X.w _ h' _ (.lst ys)from⟨hz,its,c',r',e⟩),rfl,q _ (I.hok.fresh (Nat.le_refl _))⟩
 rcases hq with hq | hq
 ·obtain⟨its,r',pl,hz⟩:=I.list hq
  have hlen:=r'.length
  obtain⟨o,ho,hc,n,hd⟩:=pl.isList
  exact call_list_seq p (.inl rfl) ho hc hd (fun h' c' kp e=>fin its r' hz h' c' kp e) (by simp only[List.size_toArray]<;>omega)
 ·obtain⟨its,r',pl,hz⟩:=I.tuple hq
  have hlen:=r'.length
  obtain⟨o,ho,hc,n,hd⟩:=pl
  exact call_list_seq p (.inr rfl) ho hc hd (fun h' c' kp e=>fin its r' hz h' c' kp e) (by simp only[List.size_toArray]<;>omega)
theorem AH:bC X (.type "tuple") (fun xs H Q=>∃p ys,xs=[.ref p]/\((ag X.K H p ys/\∀l,H l=none->Q (.ref l) (upd H l (.tup ys)))\/(aj X.K H p ys/\Q (.ref p) H))):=by
 intro pins s σ H xs us Q I r h
 obtain⟨p,ys,rfl,h⟩:=h
 obtain⟨u,rfl,rx⟩:=vals1 r
 cases rx
 rcases h with⟨hq,q⟩ | ⟨hq,q⟩
 ·obtain⟨its,r',pl,hz⟩:=I.list hq
  have hlen:=r'.length
  refine call_tuple_list pl.isList (fun h' kp=>?_) (by simp only[List.size_toArray]<;>omega)
  have I1:Inv X pins σ H { s with heap:=h' }:=I.kept (t':=s.toks) kp
  have I2:Inv X pins σ (upd H h'.objs.size (.tup ys)) { s with heap:=h'.push { cls:=.type "tuple",data:=.seq its.toArray } }:=
   I1.laid (t':=s.toks) (fun b o e=>Heap.get?_push_of_some _ e) (Nat.le_refl _) (show bI X.prog X.w _ _ _ (.tup ys)from⟨hz,its,r',IsTup.new _ _⟩)
  exact⟨.ref h'.objs.size,_,I2,rfl,q _ (I1.hok.fresh (Nat.le_refl _))⟩
 ·obtain⟨its,r',pl,hz⟩:=I.tuple hq
  exact call_tuple_same pl ⟨.ref p,H,I,rfl,q⟩
def fA(K:PySem.W.Frag)(T:String)(x:V)(H:Hp):Prop:=match x with
 | .str _=>T = "str"
 | .int _=>T = "int"
 | .ref p=>(T = "list"/\∃xs,ag K H p xs)\/(T = "tuple"/\∃o,K.lookup p=some o/\o.cls=.type "tuple"/\o.dict=none) ∨
   (T = "dict"/\((∃kvs,H p=some (.dK kvs))\/∃kvs,H p=some (.dT kvs)))\/(T = "set"/\∃S n,H p=some (.set S n))
 | _=>False
theorem uc{pins:List (Addr×Obj)}{σ:St}{H:Hp}{s:Shared}{T:String}{x:V}{v:Value}(I:Inv X pins σ H s)(r:RelV x v)(ty:fA X.K T x H):
  s.TypeIs v T/\∀a,v=.ref a->∃ob,s.heap.get? a=some ob/\ob.dict=none:=by
 cases x with
 | str z=>
  obtain⟨t,rfl⟩:=r
  cases(show T = "str" from ty)
  exact⟨typeIs_str s z t,fun _ e=>nomatch e⟩
 | int i=>
  obtain⟨t,rfl⟩:=r
  cases(show T = "int" from ty)
  exact⟨typeIs_int s i t,fun _ e=>nomatch e⟩
 | ref p=>
  cases r
  rcases ty with⟨rfl,xs,hq⟩ | ⟨rfl,o,hk,hc,hd⟩ | ⟨rfl,hk⟩ | ⟨rfl,S,n,hk⟩
  ·obtain⟨its,_,pl,_⟩:=I.list hq
   refine⟨pl.isList.typeIs,fun a e=>?_⟩
   cases e
   obtain⟨o,n,e,c,hd,_⟩:=pl
   exact⟨o,e,hd⟩
  ·refine⟨⟨o,I.kIn p o hk,hc⟩,fun a e=>?_⟩
   cases e
   exact⟨o,I.kIn _ o hk,hd⟩
  ·have z:∃o,s.heap.get? p=some o/\o.ExactDict:=by
    rcases hk with⟨kvs,hk⟩ | ⟨kvs,hk⟩
    ·obtain⟨_,_,_,_,o,_,_,e,ex,_⟩:=I.hok p _ hk
     exact⟨o,e,ex⟩
    ·obtain⟨_,_,_,_,o,_,_,e,ex,_⟩:=I.hok p _ hk
     exact⟨o,e,ex⟩
   obtain⟨o,e,ex⟩:=z
   refine⟨⟨o,e,ex.1⟩,fun a e2=>?_⟩
   cases e2
   exact⟨o,e,ex.2.1⟩
  ·obtain⟨o,_,_,_,e,ex,_⟩:=I.hok p _ hk
   refine⟨⟨o,e,ex.1⟩,fun a e2=>?_⟩
   cases e2
   exact⟨o,e,ex.2.1⟩
 | _=>exact False.elim ty
def md(K:PySem.W.Frag)(T:String)(r:V->List V->Hp->VK->Prop)(to:TE):TE:=fun σ H Q=>to σ H fun x H1=>fA K T x H1/\r x [] H1 Q
def me(K:PySem.W.Frag)(T:String)(r:V->List V->Hp->VK->Prop)(to:TE)(t:TA):TE:=fun σ H Q=>to σ H fun x H1=>fA K T x H1/\t σ H1 fun xs H2=>r x xs H2 Q
variable {o e:Expr} {es:List Expr} {to:TE} {t:TA} {name:Str} {apos cpos:Pos} {T id:String} {r:V->List V->Hp->VK->Prop}
theorem vm(pa:PlainAttrs T)(slot:Slot T name id)(hty:typeOf (.builtin id)=pure (.type "method_descriptor"))(hm:jq X id r)(ho:PE X o to)
  (hbase:attributeBase o name X.env (eval o X.env)=eval o X.env:=by rfl) (hline:(apos.endLine == cpos.line)=true:=by rfl):PE X (.Call (.Attribute o name apos) [] [] cpos) (md X.K T r to):=by
 intro pins s σ H Q I h
 refine wpAny_Call_method0_late hbase hline (az (ho pins s σ H _ I h) fun v s1 ⟨x,H1,I1,r1,ty,q1⟩=>?_)
 obtain⟨h1,h2⟩:=uc I1 r1 ty
 exact⟨T,id,pa,slot,hty,h1,h2,Calls.callWith_builtin rfl (PySem.evalArgs_none (hm pins s1 σ H1 x [] v [] Q I1 r1 .nil q1))⟩
theorem zE(pa:PlainAttrs T)(slot:Slot T name id)(hty:typeOf (.builtin id)=pure (.type "method_descriptor"))(hm:jq X id r)(ho:PE X o to)(ha:PA X (e::es) t)
  (hbase:attributeBase o name X.env (eval o X.env)=eval o X.env:=by rfl)
  (hfew:((backTo cpos (starEach (e::es) X.env)).all (fun x=>!x.1) && (backToKw cpos (keywordEach [] X.env)).all (fun x=>x.1.isSome)
   && decide ((e::es).length+([]:List Keyword).length+(if([]:List Keyword).isEmpty then 0 else 1)<30))=true:=by rfl)
  (hline:(apos.endLine == cpos.line)=true:=by rfl) (hs:starEach (e::es) X.env=(false,eval e X.env)::starEach es X.env:=by rfl) (hplain:(backTo cpos (starEach es X.env)).any (·.1)=false:=by rfl) :
  PE X (.Call (.Attribute o name apos) (e::es) [] cpos) (me X.K T r to t):=by
 intro pins s σ H Q I h
 refine wpAny_Call_method_late hbase hfew hline rfl (az (ho pins s σ H _ I h) fun v s1 ⟨x,H1,I1,r1,ty,q1⟩=>?_)
 obtain⟨h1,h2⟩:=uc I1 r1 ty
 refine⟨T,id,pa,slot,hty,h1,h2,?_⟩
 have hA:=ha cpos pins s1 σ H1 _ I1 q1
 rw[hs]at hA ⊢
 refine Calls.callWith_builtin (by show(false || (backTo cpos (starEach es X.env)).any (·.1))=false;rw[hplain]<;>rfl) (Calls.evalArgs_plain ?_)
 exact az hA fun us s2 ⟨vs,H2,I2,r2,q2⟩=>hm pins s2 σ H2 x vs v us Q I2 r1 r2 q2
end
end L2
namespace L2
open PySem PySem.Spec PyProof.Rows
def lC(X:Cx)(id:String)(r:V->List V->Hp->VK->Prop):Prop:=
 ∀(pins:List (Addr×Obj)) (s:Shared) (σ:St) (H:Hp) (x:V) (xs:List V) (v:Value) (us:List Value) (Q:VK),Inv X pins σ H s->RelV x v->Vals xs us->r x xs H Q →
  wpAny (model X.prog X.w) X.A (call (.builtin id) (v::us)) (EP X pins σ Q) X.xe s
theorem Vals.one:∀{x:V} {us:List Value},Vals [x] us->∃u,us=[u]/\RelV x u
 | _,_,.cons r .nil=>⟨_,rfl,r⟩
theorem Vals.zero:∀{us:List Value},Vals [] us->us=[]
 | _,.nil=>rfl
theorem Vals.dropLast{xs:List V}{us:List Value}(h:Vals xs us):Vals xs.dropLast us.dropLast:=by
 induction h with
 | nil=>exact .nil
 | cons r t ih=>
  cases t with
  | nil=>exact .nil
  | cons q t'=>exact .cons r ih
theorem Vals.rep{xs:List V}{us:List Value}(h:Vals xs us):∀k:Nat,Vals (List.replicate k xs).flatten (List.replicate k us).flatten
 | 0=>.nil
 | k+1=>by
  rw[List.replicate_succ,List.replicate_succ,List.flatten_cons,List.flatten_cons]
  exact Vals.append h (Vals.rep h k)
theorem wL{α:Type}(l:List α):l.eraseIdx (l.length-1)=l.dropLast:=by
 induction l with
 | nil=>rfl
 | cons a r ih=>
  cases r with
  | nil=>rfl
  | cons b r=>
   have e:(a::b::r).length-1=((b::r).length-1)+1:=by
    have h1:(a::b::r).length=r.length+2:=rfl
    have h2:(b::r).length=r.length+1:=rfl
    omega
   rw[e,List.eraseIdx_cons_succ,ih]
   all_goals rfl
theorem foldl_rep(its:List Value):∀(k:Nat) (acc:List Value),
  List.foldl (fun x1 x2=>x1++x2) acc.toArray (List.replicate k its.toArray)=(acc++(List.replicate k its).flatten).toArray
 | 0,acc=>by simp
 | k+1,acc=>by
  have e:acc.toArray++its.toArray=(acc++its).toArray:=by simp
  have e2:(acc++its)++(List.replicate k its).flatten=acc++(List.replicate (k+1) its).flatten:=by
   rw[List.replicate_succ,List.flatten_cons,List.append_assoc]
  rw[←e2,←foldl_rep its k (acc++its),←e,List.replicate_succ,List.foldl_cons]
section
variable {X:Cx} {pins:List (Addr×Obj)} {σ:St} {H:Hp} {s:Shared} {l b:Addr} {xs ys zs:List V}
theorem Inv.lset{its its':List Value}{n:Nat}{f:Array Value->Array Value}{t':Nat}(I:Inv X pins σ H s)(hH:H l=some (.lst xs))
  (e:s.heap.get? l=some { cls:=.type "list",data:=.seq its.toArray n }) (hf:f its.toArray=its'.toArray) (hv:Vals ys its') (hz:ys.length<=sizeLine) :
  Inv X pins σ (upd H l (.lst ys)) { s with heap:=s.heap.update l (Obj.mapSeq f),toks:=t' }:=by
 have q:=PySem.IsL.update e f
 rw[hf]at q
 refine I.write (x:=l) (e:=l) (by rw[hH];exact trivial) (.inl rfl) (fun b' u hb hu=>(Heap.get?_update_other s.heap (Obj.mapSeq f) (Ne.symm hb)).trans hu) ⟨_,q⟩ ?_
 exact⟨hz,its',_,hv,q⟩
theorem Inv.lnew{its:List Value}{t':Nat}(I:Inv X pins σ H s)(hv:Vals ys its)(hz:ys.length<=sizeLine):
  Inv X pins σ (upd H s.heap.objs.size (.lst ys)) { s with heap:=s.heap.push { cls:=.type "list",data:=.seq its.toArray },toks:=t' }:=
 I.laid (fun _ _ q=>Heap.get?_push_of_some _ q) (Nat.le_refl _) ⟨hz,its,0,hv,Heap.get?_push_size _ rfl⟩
theorem Inv.fresh(I:Inv X pins σ H s):H s.heap.objs.size=none:=I.hok.fresh (Nat.le_refl _)
theorem Inv.lstM(I:Inv X pins σ H s)(hH:H l=some (.lst xs)):xs.length<=sizeLine/\∃(its:List Value) (n:Nat),Vals xs its/\xs.length=its.length/\s.heap.get? l=some { cls:=.type "list",data:=.seq its.toArray n }:=by
 obtain⟨z,its,n,r,e⟩:=I.hok l _ hH
 exact⟨z,its,n,r,r.length,e⟩
theorem oM{n:Nat}(h:n<=sizeLine):Builtin.List.listTooLong n=false:=by
 unfold Builtin.List.listTooLong
 exact decide_eq_false (by omega)
end
section
variable {X:Cx}
def nU:V->List V->Hp->VK->Prop:=fun x vs H Q=>∃l xs y,x=.ref l/\vs=[y]/\H l=some (.lst xs)/\xs.length<sizeLine/\Q .non (upd H l (.lst (xs++[y])))
theorem bJ:lC X "list.append" nU:=by
 intro pins s σ H x vs v us Q I rx rv h
 obtain⟨l,xs,y,rfl,rfl,hH,hz,q⟩:=h
 cases rx
 obtain⟨u,rfl,ru⟩:=rv.one
 obtain⟨z,its,n,r,hl,e⟩:=I.lstM hH
 refine call_meets F.slot_list_append ⟨_,e,rfl⟩ F.entry_list_append (F.args_list_append_2 _ _) (PySem.list_append l its.toArray n u (by rw[List.size_toArray];omega)) ⟨e,?_⟩
 refine⟨.non,_,I.lset (its':=its++[u]) hH e (by simp) (r.append (.cons ru .nil)) ?_,rfl,q⟩
 rw[List.length_append,List.length_singleton]
 omega
def AO:V->List V->Hp->VK->Prop:=fun x vs H Q=>∃l b xs zs,x=.ref l/\vs=[.ref b]/\H l=some (.lst xs)/\H b=some (.lst zs)/\xs.length+zs.length<=sizeLine/\Q .non (upd H l (.lst (xs++zs)))
theorem Bh:lC X "list.extend" AO:=by
 intro pins s σ H x vs v us Q I rx rv h
 obtain⟨l,b,xs,zs,rfl,rfl,hH,hB,hz,q⟩:=h
 cases rx
 obtain⟨u,rfl,ru⟩:=rv.one
 cases ru
 obtain⟨z,its,n,r,hl,e⟩:=I.lstM hH
 obtain⟨z2,its2,n2,r2,hl2,e2⟩:=I.lstM hB
 have hsz:its.toArray.size+its2.toArray.size<=sizeLine:=by rw[List.size_toArray,List.size_toArray];omega
 have hlong:¬(!its.toArray.isEmpty && Builtin.List.listTooLong (its.toArray.size+its2.toArray.size))=true:=by
  rw[oM hsz,Bool.and_false]
  exact Bool.false_ne_true
 refine call_meets F.slot_list_extend ⟨_,e,rfl⟩ F.entry_list_extend (F.args_list_extend_2 _ _)
  (AutoSeq1.list_extend_list_list_0 l its.toArray n b its2.toArray n2 hlong (by rw[List.size_toArray];omega) (by omega)) ⟨e,e2,?_⟩
 refine⟨.non,_,I.lset (its':=its++its2) hH e (by simp) (r.append r2) ?_,rfl,q⟩
 rw[List.length_append]
 omega
def As:V->List V->Hp->VK->Prop:=fun x vs H Q=>∃l xs y,x=.ref l/\vs=[]/\H l=some (.lst xs)/\xs[xs.length-1]?=some y/\Q y (upd H l (.lst xs.dropLast))
theorem yB:lC X "list.pop" As:=by
 intro pins s σ H x vs v us Q I rx rv h
 obtain⟨l,xs,y,rfl,rfl,hH,hy,q⟩:=h
 cases rx
 have hus:=rv.zero
 subst hus
 obtain⟨z,its,n,r,hl,e⟩:=I.lstM hH
 obtain⟨u,hu,ru⟩:=r.get hy
 have hy':its.toArray[its.toArray.size-1]?=some u:=by
  show its.toArray[its.length-1]?=some u
  rw[←Array.getElem?_toList,←hl]
  exact hu
 refine call_meets F.slot_list_pop ⟨_,e,rfl⟩ F.entry_list_pop (F.args_list_pop_1 _) (MeetsSeq.list_pop_last l its.toArray n u hy' (by rw[List.size_toArray];omega)) ⟨e,?_⟩
 refine⟨y,_,I.lset (its':=its.dropLast) hH e ?_ r.dropLast ?_,ru,q⟩
 ·show its.toArray.eraseIdxIfInBounds (its.toArray.size-1)=its.dropLast.toArray
  rw[List.size_toArray,List.eraseIdxIfInBounds_toArray,wL]
 ·rw[List.length_dropLast]
  omega
def pK:R2:=fun x y H Q=>∃l b xs zs,x=.ref l/\y=.ref b/\H l=some (.lst xs)/\H b=some (.lst zs)/\xs.length+zs.length<=sizeLine/\∀p,H p=none->Q (.ref p) (upd H p (.lst (xs++zs)))
theorem cI:bp X (binaryOp .Add) pK:=by
 intro pins s σ H x y v u Q I rx ry h
 obtain⟨l,b,xs,zs,rfl,rfl,hH,hB,hz,q⟩:=h
 cases rx
 cases ry
 obtain⟨z,its,n,r,hl,e⟩:=I.lstM hH
 obtain⟨z2,its2,n2,r2,hl2,e2⟩:=I.lstM hB
 refine PySem.P.add_list e e2 ?_ (by rw[List.size_toArray,List.size_toArray];omega)
 have ea:its.toArray++its2.toArray=(its++its2).toArray:=by simp
 rw[ea]
 exact⟨.ref _,_,I.lnew (t':=s.toks) (r.append r2) (by rw[List.length_append];omega),rfl,q _ I.fresh⟩
def si:R2:=fun x y H Q=>∃l k xs,x=.ref l/\y=.int k/\H l=some (.lst xs)/\-(2 ^ 63)<=k/\k<2 ^ 63/\xs.length*k.toNat<=sizeLine ∧
 ∀p,H p=none->Q (.ref p) (upd H p (.lst (List.replicate k.toNat xs).flatten))
theorem len_rep{α:Type}(xs:List α)(k:Nat):(List.replicate k xs).flatten.length=k*xs.length:=by
 induction k with
 | zero=>simp
 | succ k ih=>rw[List.replicate_succ,List.flatten_cons,List.length_append,ih,Nat.succ_mul,Nat.add_comm]
theorem kR:bp X (binaryOp .Mult) si:=by
 intro pins s σ H x y v u Q I rx ry h
 obtain⟨l,k,xs,rfl,rfl,hH,h1,h2,hz,q⟩:=h
 cases rx
 obtain⟨t,rfl⟩:=ry
 obtain⟨z,its,n,r,hl,e⟩:=I.lstM hH
 have hlen:its.toArray.size*k.toNat<=sizeLine:=by rw[List.size_toArray,←hl];exact hz
 have hcap:¬its.toArray.size*k.toNat>(2 ^ 63-1) / 8:=by
  have:(sizeLine:Nat)<=(2 ^ 63-1) / 8:=by decide
  omega
 have hfit:¬(!Builtin.List.listFitsIndex k)=true:=by
  rw[fitsIndex_both h1 h2]
  exact Bool.false_ne_true
 have hlong:¬Builtin.List.listTooLong (its.toArray.size*k.toNat)=true:=by
  rw[oM hlen]
  exact Bool.false_ne_true
 have hnew:List.foldl (fun x1 x2=>x1++x2) #[] (List.replicate (if its.toArray.isEmpty=true then 0 else k.toNat) its.toArray)=(List.replicate k.toNat its).flatten.toArray:=by
  have f0:∀m:Nat,List.foldl (fun x1 x2=>x1++x2) #[] (List.replicate m its.toArray)=(List.replicate m its).flatten.toArray:=fun m=>by
   have:=foldl_rep its m []
   rw[List.nil_append]at this
   exact this
  rw[f0]
  cases its with
  | nil=>simp
  | cons a r'=>rw[if_neg (by simp)]
 refine wpAny_binaryOp_repeat_ref (T:="list") (U:="int") (by decide) ⟨_,e,rfl⟩ (fun s'=>typeIs_int s' k t) noFill_list_mul F.fills_int_mul F.slot_int_rmul repeat_list F.slot_int_index.lookup
  (call_meets F.slot_int_rmul (typeIs_int s k t) F.entry_int_rmul (F.args_int_rmul_2 _ _) (int___rmul___int_list k t l its.toArray n)
   ⟨e,rfl,⟨_,e,rfl⟩,call_meets F.slot_list_mul ⟨_,e,rfl⟩ F.entry_list_mul (F.args_list_mul_2 _ _) (AutoListH.list___mul___list_int_3 l its.toArray n k t hfit hcap hlong) ⟨e,?_⟩⟩)
 rw[hnew]
 exact⟨.ref _,_,I.lnew (t':=s.toks) (r.rep k.toNat) (by rw[len_rep,Nat.mul_comm];exact hz),rfl,q _ I.fresh⟩
end
section
variable {prog:Program} {w:World} {A:Around} {E:Value->Shared->Prop} {s:Shared}
end
section
variable {X:Cx}
end
end L2
namespace Att
open PySem PySem.W PySem.Calls PyProof.Rows
theorem wV{P:Params}{h:Heap}:∀(ns:List Int) (vs:List Value),WellAll P h vs (ns.map WData.int)->IntsAre vs ns:=by
 intro ns
 induction ns with
 | nil=>
  intro vs w
  rw[List.map_nil]at w
  cases w
  exact .nil
 | cons n ns ih=>
  intro vs w
  rw[List.map_cons]at w
  cases w with
  | cons a b=>
   cases a
   exact .cons _ _ (ih _ b)
theorem vn{l:OpenLaw}{n:Nat}(hn:l.most=some n){P:Params}{h:Heap}{args:List WData}{vals:List Value}
  (hpre:l.row.toRowW.claim.pre args=true) (hwl:WellAll P h vals args) :
  ∃a vs ns,vals=[Value.ref a]/\args=[WData.list (ns.map WData.int)]/\h.get? a=some { cls:=.type "list",data:=.seq vs.toArray }/\IntsAre vs ns/\ns.length<=n:=by
 have hsh:WShape.hasAll [] args [.list .int]=true:=(pre_splitW hpre).1
 have hc:l.pre.holds [] { args:=args }=true:=(pre_splitW hpre).2
 obtain⟨d,r,rfl,h1,h2⟩:=hasAllW_cons hsh
 obtain rfl:=hasAllW_nil h2
 obtain⟨xs,rfl,h3⟩:=hasW_list h1
 obtain⟨ns,rfl⟩:=items_int h3
 have hlen:ns.length<=n:=by
  unfold OpenLaw.pre at hc
  have h4:(WTm.not (.lt (.lit (.int (n:Int))) (.len (.arg 0)))).holds [] { args:=[.list (ns.map .int)] }=true:=by
   have h4:=(holds_andW hc).1
   rw[hn]at h4
   exact h4
  have h5:=condW_of h4 (w_not (w_lt w_lit (w_len_list (w_arg rfl))))
  rw[List.length_map]at h5
  refine Nat.le_of_not_lt fun q=>?_
  have q':(n:Int)<((ns.length:Nat):Int):=by omega
  first
   | (rw[decide_eq_true q']at h5;exact absurd h5 (by decide))
   | (simp at h5;omega)
 cases hwl with
 | cons w1 w2=>
  cases w2
  cases w1 with
  | list ho hall=>exact⟨_,_,ns,rfl,rfl,ho,wV ns _ hall,hlen⟩
theorem vT(l:OpenLaw)(args:List WData):l.row.toRowW.claim.post args (.bool true) args=true:=
 postW_of (r:=l.row.toRowW) (X:=(true == true))
  (show WShape.has [] (.bool true) .bool=true by first | rfl | decide | simp [WShape.has,WShape.arms,WShape.armsAll])
  (show(WTm.eq .res (.lit (.bool true))).value [] { args:=args,res:=some (.bool true),after:=args }=some (.bool (true == true))from w_eq_bool (w_res rfl) w_lit) rfl
theorem yz{l:OpenLaw}{n:Nat}{q:Program}{loose:List Str}{XP:(Str->Option Value)->Heap->Prop}{YP:World->Heap->Prop}{d:DefRec}
  (hn:l.most=some n) (hdf:d.params.defaults=[])
  (call:∀(w:World) (s₀ s₁:Shared) (mg mb:Str->Option Value) (fa:Addr) (o:Obj) (pm cd doc:Value) (a:Addr) (vs:List Value) (ns:List Int),
   Ground q loose [] XP w s₀ mg mb s₁.heap->YP w s₁.heap →
   s₁.heap.get? fa=some o->o.data=.func (docDef d.name d.params d.body d.scope pm cd doc)->s₁.heap.CodeRec cd d.name->mg d.name=some (.ref fa) →
   s₁.heap.get? a=some { cls:=.type "list",data:=.seq vs.toArray }->IntsAre vs ns->ns.length<=n->s₁.gens = #[] →
   codeAny (model l.prog w) callerA (.call (.ref fa) ⟨[.ref a],[]⟩) (fun r s'=>r=.ok (.ret (.bool true))/\OldK s₁.heap s'.heap/\s'.os=s₁.os/\AllBare s'.gens) s₁) :
  WalkO q loose XP YP l.row.toRowW d [] (fun f vs=>PySem.call f vs):=by
 intro w s₀ s₁ mg mb G Y fa o pm cd doc dV kV ho hd hcd hD hmg hg args vals as hpre hlay hrd hwl hlo
 obtain rfl:dV=.none:=Dflts.none hD hdf
 obtain rfl:kV=.none:=Dflts.noKw hD
 obtain⟨a,vs,ns,rfl,rfl,hobj,hints,hlen⟩:=vn hn hpre hwl
 refine enter_call (codeAny_mono (call w s₀ s₁ mg mb fa o pm cd doc a vs ns G Y ho (fd_plain hd) hcd hmg hobj hints hlen hg) fun r s' hq=>?_)
 obtain⟨rfl,h2,h3,h4⟩:=hq
 exact⟨.inl ⟨.bool true,.bool true,[],rfl,fun _=>rfl,.bool true,vT l _,fun _=>⟨List.Pairwise.nil,fun _ hm=>(nomatch hm)⟩⟩,h2,h3,h4⟩
section
variable {prog:Program} {w:World} {A:Around} {E:Value->Shared->Prop} {s:Shared} {K:Frag}
end
end Att
namespace L2
open PySem PySem.Spec PyProof.Rows
theorem qi:∀{vs:List Value} {ns:List Int},IntsAre vs ns->Vals (ns.map V.int) vs
 | _,_,.nil=>.nil
 | _,_,.cons n t h=>.cons ⟨t,rfl⟩ (qi h)
def nI(H:Hp):Prop:=∀b,H b=none\/∃o xs,H b=some (.frz o (.lst xs))
theorem law_call{P:Program}{w:World}{K:PySem.W.Frag}{mg mb:Str->Option Value}{CX:dw}{k:Nat}{fa a:Addr}{fd:FuncData}{x:Str}{sp:Sp}{s₁:Shared}{vs:List Value}{ns:List Int}
  (KX:K.In s₁.heap) (hns:s₁.heap.Ns mainGlobals mg) (hb:s₁.heap.Ns builtinsNs mb) (hbb:∀x:Str,x≠"__name__"->mb x=bootBuiltins x) (hlim:s₁.heap.NoLimit) (hg:s₁.gens = #[])
  (ha:s₁.heap.get? a=some { cls:=.type "list",data:=.seq vs.toArray }) (hi:IntsAre vs ns) (hl:ns.length<=sizeLine) (hr:Room k callerA)
  (F:∀base:Heap,K.In base->base.Ns mainGlobals mg->FnOk P w K mg base CX k fa fd [x] sp) (hbind:∀(s:Shared) (u:Value),BindsTo s fd ⟨[u],[]⟩ [(x,u)])
  (hsp:∀H:Hp,nI H->ag K H a (ns.map V.int)->sp [.ref a] H (fun v _=>v=.bl true) fun _ _ _=>False)
  (hCX:∀H e s',CX [] H s₁ (fun _ _ _=>False) e s'->False) :
  codeAny (model P w) callerA (.call (.ref fa) ⟨[.ref a],[]⟩) (fun r s'=>r=.ok (.ret (.bool true))/\OldK s₁.heap s'.heap/\s'.os=s₁.os/\AllBare s'.gens) s₁:=by
 have rv:=qi hi
 have lenV:=hi.length
 -- from an abstract heap in which nothing but the script may be tracked
 have core:∀H:Hp,nI H->ag K H a (ns.map V.int)->bA P w H s₁.heap->(∀b,H b≠none->b=a)->(H a≠none->K.lookup a=none) →
   codeAny (model P w) callerA (.call (.ref fa) ⟨[.ref a],[]⟩) (fun r s'=>r=.ok (.ret (.bool true))/\OldK s₁.heap s'.heap/\s'.os=s₁.os/\AllBare s'.gens) s₁:=by
  intro H hO hS hok hA hK
  have base_of:∀{b:Addr} {o:Obj},s₁.heap.get? b=some o->H b=none->(ee s₁.heap H).get? b=some o:=fun e n=>yc e n
  have noA:∀{b:Addr} {o:Obj} {es:Array DictEntry} {ep:Nat},s₁.heap.get? b=some o->o.data=.dict es ep->H b=none:=fun{b o es ep} e d=>by
   cases q:H b with
   | none=>rfl
   | some u=>
    have e':b=a:=hA b (by rw[q];simp)
    subst e'
    rw[ha]at e;cases e
    have d':Data.seq vs.toArray _=Data.dict es ep:=d
    cases d'
  have nsK:∀{b:Addr} {m:Str->Option Value},s₁.heap.Ns b m->(ee s₁.heap H).Ns b m:=fun{b m} ⟨o,es,ep,e,d,r⟩=>⟨o,es,ep,base_of e (noA e d),d,r⟩
  have hKb:K.In (ee s₁.heap H):=fun b o e=>base_of (KX b o e) (by
   cases q:H b with
   | none=>rfl
   | some u=>
    have e':b=a:=hA b (by rw[q];simp)
    subst e'
    rw[hK (by rw[q];simp)]at e;cases e)
  have hM:Mod K mg (ee s₁.heap H):=⟨hKb,nsK hns,⟨mb,nsK hb,hbb⟩,let ⟨mc,h1,h2⟩:=hlim;⟨mc,nsK h1,h2⟩⟩
  have e0:Env0 P w K mg (ee s₁.heap H) callerA [] s₁ H:=⟨rfl,hM,fun b o e=>vY e,Nat.le_of_eq (zY _ _),trivial,fun b hb=>absurd (show b∈([]:List Addr)from hb) (by simp),hok,.of_eq hg⟩
  refine codeAny_mono ((F _ hKb (nsK hns)).run callerA [] s₁ H ⟨[.ref a],[]⟩ [.ref a] [.ref a] _ _ hr e0 (hbind s₁ (.ref a)) (.cons rfl .nil) (hsp H hO hS)) fun r s' h=>?_
  cases r with
  | error e=>exact(hCX H e s' h).elim
  | ok fl=>
   cases fl with
   | next=>exact False.elim h
   | brk=>exact False.elim h
   | cont=>exact False.elim h
   | ret u=>
    obtain⟨v,H',os,bare,un,hok',r',q⟩:=h
    have q':v=.bl true:=q
    subst q'
    obtain rfl:u=Value.bool true:=r'
    refine⟨rfl,OldK.of_keep fun b o e=>?_,os,bare⟩
    cases q:H b with
    | none=>exact un.keep b o e q (by intro z;exact absurd (show b∈([]:List Addr)from z) (by simp)) (by simp)
    | some u=>
     rcases hO b with z | ⟨ob,xs,z⟩
     ·rw[q]at z;cases z
     ·have z2:=un.frzs b ob _ z
      obtain⟨e1,_⟩:=hok b _ z
      obtain⟨e2,_⟩:=hok' b _ z2
      rw[e]at e1;cases e1
      exact e2
 cases hk:K.lookup a with
 | some o=>
  -- the script is one of the module's own objects
  have e:=KX a o hk
  rw[ha]at e
  cases e
  refine core (fun _=>none) (fun _=>.inl rfl) (.inr ⟨_,vs.toArray,_,hk,rfl,rfl,rfl,by rw[List.size_toArray,lenV];exact hl,by simpa using rv⟩) (fun b u z=>by have z':(none:Option HO)=some u:=z;cases z') (fun b z=>absurd rfl z) fun z=>absurd rfl z
 | none=>
  refine core (fun b=>if b=a then some (.frz { cls:=.type "list",data:=.seq vs.toArray } (.lst (ns.map V.int)))else none) (fun b=>?_) (.inl (.inr ⟨{ cls:=.type "list",data:=.seq vs.toArray },if_pos rfl⟩)) (fun b u z=>?_) (fun b z=>?_) fun _=>hk
  ·by_cases hb:b=a
   ·exact .inr ⟨_,_,if_pos hb⟩
   ·exact .inl (if_neg hb)
  ·by_cases hb:b=a
   ·have z':=(if_pos hb).symm.trans z
    cases z'
    subst hb
    exact⟨ha,by rw[List.length_map];exact hl,vs,_,rv,ha⟩
   ·have z':=(if_neg hb).symm.trans z
    cases z'
  ·by_cases hb:b=a
   ·exact hb
   ·exact absurd (if_neg hb) z
end L2
namespace L2
open PySem PySem.Spec PyProof.Rows
theorem wk{l:PySem.W.OpenLaw}{n k:Nat}{q:Program}{loose:List Str}{XP:(Str->Option Value)->Heap->Prop}{YP:World->Heap->Prop}{d:DefRec}{K:Params->PySem.W.Frag}{CX:World->dw}{sp:World->Sp}{x:Str}
  (hn:l.most=some n) (hn2:n<=sizeLine) (hdf:d.params.defaults=[]) (hr:Room k callerA)
  (hY:∀(w:World) (h:Heap),YP w h->(K w.params).In h)
  (F:∀(w:World) (mg:Str->Option Value) (fa:Addr) (h:Heap),(K w.params).In h->h.Ns mainGlobals mg->mg d.name=some (.ref fa) →
   ∃fd:FuncData,(∀(s:Shared) (u:Value),BindsTo s fd ⟨[u],[]⟩ [(x,u)]) ∧
    ∀base:Heap,(K w.params).In base->base.Ns mainGlobals mg->FnOk l.prog w (K w.params) mg base (CX w) k fa fd [x] (sp w))
  (hsp:∀(w:World) (H:Hp) (a:Addr) (ns:List Int),ns.length<=n->nI H->ag (K w.params) H a (ns.map V.int)->sp w [.ref a] H (fun v _=>v=.bl true) fun _ _ _=>False)
  (hCX:∀(w:World) (H:Hp) (s:Shared) (e:Value) (s':Shared),CX w [] H s (fun _ _ _=>False) e s'->False) :
  PySem.W.WalkO q loose XP YP l.row.toRowW d [] (fun f vs=>PySem.call f vs):=by
 refine Att.yz hn hdf fun w s₀ s₁ mg mb fa o pm cd doc a vs ns G Y ho hd hcd hmg hobj hints hlen hg=>?_
 have KX:=hY w _ Y
 obtain⟨fd,hb,hF⟩:=F w mg fa _ KX G.T.g hmg
 exact law_call KX G.T.g G.T.b G.T.builtins G.T.nolimit hg hobj hints (Nat.le_trans hlen hn2) hr hF hb (fun H hO hS=>hsp w H a ns hlen hO hS) fun H e s'=>hCX w H s₁ e s'
end L2
namespace L2
open PySem PySem.Spec PyProof.Rows
def fK(s:Stmt):Arguments:=match s with
 | .FunctionDef _ a _ _ _ _ _ _ _ _=>a
 | _=>{ posonlyargs:=[],args:=[],vararg:=none,kwonlyargs:=[],kw_defaults:=[],kwarg:=none,defaults:=[] }
def eQ(s:Stmt):List Stmt:=match s with
 | .FunctionDef _ _ b _ _ _ _ _ _ _=>b
 | _=>[]
def aJ(s:Stmt):Scope:=match s with
 | .FunctionDef _ _ _ _ _ _ sc _ _ _=>sc
 | _=>{ kind:=.function,names:=[],isGenerator:=false,isCoroutine:=false }
abbrev eO:dw:=fun _ _ _ _ _ _=>False
abbrev E0:XK:=fun _ _ _=>False
theorem wx{X:Cx}:Passes eO X E0:=fun _ _ _ _ _ _ _ h=>h.elim
structure Fun(K:PySem.W.Frag)(x qual:Str)(st:Stmt)(f:Addr)(fd:FuncData):Prop where
 ex:∃(oc:Value) (od:Option Addr) (kV doc pm:Value) (an:Option Addr) (cdv ct:Value) (osl:Array (Option Value)),
  fd=PySem.W.fnOf x qual (fK st) (eQ st) (aJ st) .none kV doc pm an cdv ct/\K.lookup f=some ⟨oc,od,.func fd,osl⟩/\PySem.W.codeIn K cdv qual=true
 kp:PySem.W.keepIn K (.ref f)=true
section
variable {P:Program} {w:World} {K:PySem.W.Frag} {mg:Str->Option Value} {base:Heap}
theorem Fun.ok{x qual:Str}{st:Stmt}{f:Addr}{fd:FuncData}{N ps:List Str}{k:Nat}{sp:Sp}(F:Fun K x qual st f fd)(S:FnScope N ps (aJ st))(len:∀vs H Q E,sp vs H Q E->vs.length=ps.length)
  (hbody:∀(cdv:Value) (A:Around) (outer:List Env) (s:Shared) (H:Hp) (vs:List V) (Q:VK) (E:XK),Room k (A.deeper (envOfC qual (aJ st) s.heap.objs.size f cdv))->sp vs H Q E →
   ∃t,bZ (fk eO P w K mg base N qual (aJ st) f cdv A outer s H E).nox (eQ st) t/\t { nx:=fun _ H'=>Q .non H',rt:=Q } (start N vs) H):FnOk P w K mg base eO (k+1) f fd ps sp:=by
 obtain⟨oc,od,kV,doc,pm,an,cdv,ct,osl,rfl,lk,hcd⟩:=F.ex
 refine wW lk hcd S len fun A outer s H vs Q E hr hsp=>?_
 obtain⟨t,h,q⟩:=hbody cdv A outer s H vs Q E hr hsp
 exact⟨t,h.nox,q⟩
theorem Fun.binds{x qual:Str}{st:Stmt}{f:Addr}{fd:FuncData}{ps:List Str}(F:Fun K x qual st f fd)
  (h:∀(kV doc pm:Value) (an:Option Addr) (cdv ct:Value) (us:List Value),us.length=ps.length->bindArgs (PySem.W.fnOf x qual (fK st) (eQ st) (aJ st) .none kV doc pm an cdv ct) ⟨us,[]⟩=pure (ps.zip us)):Binds K fd ps []:=by
 obtain⟨oc,od,kV,doc,pm,an,cdv,ct,osl,rfl,lk,hcd⟩:=F.ex
 exact .all (h kV doc pm an cdv ct)
theorem oO{x qual:Str}{st:Stmt}{f:Addr}{oc:Value}{od an:Option Addr}{osl:Array (Option Value)}{kV doc pm cdv ct:Value}(l:K.lookup f=some ⟨oc,od,.func (PySem.W.fnOf x qual (fK st) (eQ st) (aJ st) .none kV doc pm an cdv ct),osl⟩)
  (c:PySem.W.codeIn K cdv qual=true) (k:PySem.W.keepIn K (.ref f)=true):Fun K x qual st f (PySem.W.fnOf x qual (fK st) (eQ st) (aJ st) .none kV doc pm an cdv ct):=⟨⟨oc,od,kV,doc,pm,an,cdv,ct,osl,rfl,l,c⟩,k⟩
end
section
variable {X:Cx}
theorem pv(i:Nat){x:Str}{pos:Pos}(hN:X.N[i]?=some x:=by rfl)(hv:lg X.env.scope x:=by first | exact Or.inl rfl | exact Or.inr (Or.inl rfl) | exact Or.inr (Or.inr rfl))(hd:(x == ("__debug__":Str))=false:=by decide)
  (hcd:(x == ("__classdict__":Str))=false:=by decide):PE X (.Name x pos) (lP i):=yZ hN hv hd hcd
end
theorem au{A B:Prop}(h:B):if false=true then A else B:=by
 rw[if_neg Bool.false_ne_true]
 exact h
theorem av{A B:Prop}(h:A):if true=true then A else B:=by
 rw[if_pos rfl]
 exact h
theorem et{c A B:Prop}[Decidable c](h1:c->A)(h2:¬c->B):if c then A else B:=by
 by_cases h:c
 ·rw[if_pos h]
  exact h1 h
 ·rw[if_neg h]
  exact h2 h
end L2
set_option Elab.async false
set_option linter.all false
set_option maxRecDepth 100000
set_option maxHeartbeats 4000000
namespace L2
open PySem PySem.Spec PyProof.Rows
structure Blk where
 s:Shared
 H:Hp
 fp:List Addr
 C:Addr
def fI(names:List (Str×NameKind))(cells:List (Str×Addr)):List (Str×Addr):=
 names.foldl (fun acc p=>if p.2 == .free then(p.1,(cells.lookup p.1).getD 0)::acc else acc) []
def bY(X:Cx)(sc:Scope)(own:List Str)(js:List Nat)(z:Blk):Cx where
 prog:=X.prog
 w:=X.w
 K:=X.K
 mg:=X.mg
 base:=X.base
 A:=X.A
 N:=own++js.map fun j=>X.N.getD j ""
 s₀:=z.s
 H₀:=z.H
 env:=compEnvC sc (fI sc.names X.env.cells) z.C X.env
 outer:=X.stack
 stack:=X.stack
 ex:=z.fp
 fn:=fun _=>false
 calm:=X.calm
 pn:=[]
 xe:=fun _ _=>False
def eP(sc out:Scope):Bool:=sc.names.all fun p=>p.2 != .cell && (p.2 != .local || sc.names.lookup p.1 == some .local) && (p.2 != .free || out.names.lookup p.1 == some .cell || out.names.lookup p.1 == some .free)
def kA(sc:Scope)(N:List Str)(js:List Nat):Bool:=js.all fun j=>decide (j<N.length) && (sc.names.lookup (N.getD j "") == some .free)
def cq(n:Nat)(js:List Nat)(σ:St):St:=List.replicate n none++js.map fun j=>(σ[j]?).join
theorem qy(cells:List (Str×Addr)):∀(names:List (Str×NameKind)) (acc:List (Str×Addr)) (x:Str) (c:Addr),
  (names.foldl (fun acc p=>if p.2 == .free then(p.1,(cells.lookup p.1).getD 0)::acc else acc) acc).lookup x=some c →
  ((x,NameKind.free)∈names/\c=(cells.lookup x).getD 0)\/acc.lookup x=some c
 | [],acc,x,c,h=>.inr h
 | (n,k)::r,acc,x,c,h=>by
  rw[List.foldl_cons]at h
  rcases qy cells r _ x c h with⟨h1,h2⟩ | h1
  ·exact .inl ⟨List.mem_cons_of_mem _ h1,h2⟩
  ·cases hk:(k == NameKind.free)with
   | false=>
    simp only[hk]at h1
    exact .inr h1
   | true=>
    simp only[hk,if_true]at h1
    rw[List.lookup_cons]at h1
    cases hx:(x == n)with
    | false=>rw[hx]at h1;exact .inr h1
    | true=>
     rw[hx]at h1
     have e1:x=n:=by simpa using hx
     have e2:k=.free:=by simpa using hk
     subst e1 e2
     exact .inl ⟨List.mem_cons_self,(Option.some.inj h1).symm⟩
theorem pQ(cells:List (Str×Addr)):∀(names:List (Str×NameKind)) (acc:List (Str×Addr)) (x:Str),
  ((x,NameKind.free)∈names\/(acc.lookup x).isSome=true)->((names.foldl (fun acc p=>if p.2 == .free then(p.1,(cells.lookup p.1).getD 0)::acc else acc) acc).lookup x).isSome=true
 | [],acc,x,h=>by
  rcases h with h | h
  ·simp at h
  ·exact h
 | (n,k)::r,acc,x,h=>by
  rw[List.foldl_cons]
  apply pQ cells r
  rcases h with h | h
  ·rcases List.mem_cons.mp h with e | h
   ·right
    cases e
    simp[List.lookup_cons]
   ·exact .inl h
  ·right
   cases hk:(k == NameKind.free)with
   | false=>simpa[hk]using h
   | true=>
    simp only[hk,if_true,List.lookup_cons]
    cases hx:(x == n)with
    | true=>rfl
    | false=>exact h
theorem uw{env:Env}{sc:Scope}(h:∀p∈sc.names,p.2=.free->∃c,env.cells.lookup p.1=some c):closureFor sc env=pure (fI sc.names env.cells):=by
 have go:∀(names:List (Str×NameKind)) (acc:List (Str×Addr)),(∀p∈names,p.2=NameKind.free->∃c,env.cells.lookup p.1=some c) →
   (forIn names acc fun(p:Str×NameKind) (r:List (Str×Addr))=>(match p with | (name,kind)=>if(kind == NameKind.free)=true then do let c ←cellOf env name;pure (ForInStep.yield ((name,c)::r))else pure (ForInStep.yield r):Sem _)) =
   pure (names.foldl (fun acc p=>if p.2 == .free then(p.1,(env.cells.lookup p.1).getD 0)::acc else acc) acc):=by
  intro names
  induction names with
  | nil=>intro acc _;rfl
  | cons p r ih=>
   intro acc hp
   obtain⟨n,k⟩:=p
   rw[List.forIn_cons,List.foldl_cons]
   cases hk:(k == NameKind.free)with
   | false=>
    simp only[hk,Bool.false_eq_true,if_false]
    exact ih acc fun q hq=>hp q (List.mem_cons_of_mem _ hq)
   | true=>
    obtain⟨c,hc⟩:=hp (n,k) List.mem_cons_self (by simpa using hk)
    have e:cellOf env n=pure c:=by
     unfold cellOf
     rw[show env.cells.lookup n=some c from hc]
    simp only[hk,if_true,e]
    have hc':env.cells.lookup n=some c:=hc
    rw[hc']
    exact ih _ fun q hq=>hp q (List.mem_cons_of_mem _ hq)
 unfold closureFor fI
 have:=go sc.names [] h
 simp only[this]
 rfl
def il(X:Cx)(ifs:List Expr)(t:TT):Prop:=
 ∀(pins:List (Addr×Obj)) (s:Shared) (σ:St) (H:Hp) (Q:Bool->Hp->Prop),Inv X pins σ H s->t σ H Q →
  wpAny (model X.prog X.w) X.A (forIn ifs true fun c r=>if r=true then do let ok ←isTrue c X.env (eval c X.env);pure (ForInStep.yield ok)else pure (ForInStep.yield r)) (TP X pins σ Q) X.xe s
def rS:TT:=fun _ H Q=>Q true H
theorem fg{X:Cx}:il X [] rS:=fun _ _ _ H _ I h=>wpAny_tests_nil ⟨H,I,h⟩
theorem iO{X:Cx}{c:Expr}{t:TT}(h:PT X c t):il X [c] t:=fun pins s σ H Q I hq=>wpAny_tests_one (h pins s σ H Q I hq)
theorem ve{prog:Program}{w:World}{A:Around}{R:Result->Shared->Prop}{t0:Shared}{elt tgt iter:Expr}{ifs:List Expr}{sc:Scope}{ps:Pos}{itv acc:Value}{ce:Env}(Wd:Nat->Shared->Prop)
  (step:∀k t,Wd k t->wpAny (model prog w) A (pyNext itv) (fun got t1=>
   match got with
   | none=>R (.ok .next) t1
   | some u=>wpAny (model prog w) A (letOwnedTupleGo tgt itv u) (fun _ t2=>wpAny (model prog w) A (assign tgt ce u) (fun _ t3=>
     wpAny (model prog w) A (forIn ifs true fun c r=>if r=true then do let ok ←isTrue c ce (eval c ce);pure (ForInStep.yield ok)else pure (ForInStep.yield r)) (fun yes t4=>
      if yes=true then wpAny (model prog w) A (eval elt ce) (fun val t5=>wpAny (model prog w) A (call (.builtin "list.append") [acc,val]) (fun _ t6=>∃m,m<k/\Wd m t6) (fun _ _=>False) t5) (fun _ _=>False) t4
      else ∃m,m<k/\Wd m t4) (fun _ _=>False) t3) (fun _ _=>False) t2) (fun _ _=>False) t1) (fun _ _=>False) t)
  (k0:Nat) (start:Wd k0 t0):codeAny (model prog w) A (.compLoop (.ListComp elt [⟨tgt,iter,ifs,0⟩] sc ps) 0 itv acc ce) R t0:=by
 refine codeAny_loop rfl Wd (fun k t hW=>?turn) k0 start
 case turn=>
  have nox:∀{α:Type} {m:Sem α} {Q:α->Shared->Prop} {E:Value->Shared->Prop} {z:Shared},wpAny (model prog w) A m Q (fun _ _=>False) z->wpAny (model prog w) A m Q E z:=fun h=>wpAny_mono h (fun _ _ q=>q) fun _ _ f=>f.elim
  show wpAny _ A ((compTurn (.ListComp elt [⟨tgt,iter,ifs,0⟩] sc ps) 0 itv acc ce).onRaise (fun x=>do noteFrame x ce;theTreesLotGoes x)) _ _ t
  apply wpAny_noted
  rw[compTurn_list]
  refine wpAny_bind (wpAny_standAt (wpAny_bind (nox (wpAny_mono (step k t hW) (fun got t1 h1=>?_) fun _ _ f=>f))))
  cases got with
  | none=>exact wpAny_pure h1
  | some u=>
   refine wpAny_bind (nox (wpAny_mono h1 (fun _ t2 h2=>?_) fun _ _ f=>f))
   refine wpAny_bind (nox (wpAny_mono h2 (fun _ t3 h3=>?_) fun _ _ f=>f))
   refine wpAny_bind (nox (wpAny_mono h3 (fun yes t4 h4=>?_) fun _ _ f=>f))
   cases yes with
   | false=>
    rw[if_neg Bool.false_ne_true]at h4
    exact wpAny_pure ⟨rfl,h4⟩
   | true=>
    rw[if_pos rfl]at h4
    refine wpAny_bind (wpAny_bind (nox (wpAny_mono h4 (fun val t5 h5=>?_) fun _ _ f=>f)))
    exact wpAny_bind (nox (wpAny_mono h5 (fun _ t6 h6=>wpAny_pure (wpAny_pure ⟨rfl,h6⟩)) fun _ _ f=>f))
section
variable {X:Cx} {pins:List (Addr×Obj)} {σ:St} {H:Hp} {s:Shared}
def de(its:List Value)(n:Nat):Obj:={ cls:=.type "list",data:=.seq its.toArray n }
theorem kB{sc out:Scope}(h:eP sc out=true){p:Str×NameKind}(hp:p∈sc.names)(hf:p.2=.free):out.names.lookup p.1=some .cell\/out.names.lookup p.1=some .free:=by
 have:=List.all_eq_true.mp h p hp
 simp only[hf,Bool.and_eq_true,Bool.or_eq_true,beq_iff_eq,bne_iff_ne,ne_eq,not_true,false_or]at this
 exact this.2
theorem pF{sc out:Scope}(h:eP sc out=true){p:Str×NameKind}(hp:p∈sc.names):p.2≠.cell:=by
 have:=List.all_eq_true.mp h p hp
 simp only[Bool.and_eq_true,bne_iff_ne,ne_eq]at this
 exact this.1.1
theorem pq{sc out:Scope}(h:eP sc out=true){p:Str×NameKind}(hp:p∈sc.names)(hf:p.2=.local):sc.names.lookup p.1=some .local:=by
 have:=List.all_eq_true.mp h p hp
 simp only[hf,Bool.and_eq_true,Bool.or_eq_true,beq_iff_eq,bne_iff_ne,ne_eq,not_true,false_or]at this
 exact this.1.2
theorem kQ{sc:Scope}{env:Env}{x:Str}:∀{names:List (Str×NameKind)} {k:NameKind},(names.map fun(p:Str×NameKind)=>match p with | (n,k)=>if(k == NameKind.free && env.scope.kind == .function && env.kindOf n == some .cell)then(n,NameKind.cell)else(n,k)).lookup x=some k →
  ∃k',names.lookup x=some k'/\(k'=k\/(k'=.free/\k=.cell))
 | [],_,h=>by simp at h
 | (n,q)::r,k,h=>by
  rw[List.map_cons]at h
  rw[List.lookup_cons]
  cases hx:(x == n)with
  | true=>
   refine⟨q,rfl,?_⟩
   by_cases hc:(q == NameKind.free && env.scope.kind == .function && env.kindOf n == some .cell)=true
   ·simp only[hc,if_true,List.lookup_cons,hx]at h
    right
    simp only[Bool.and_eq_true,beq_iff_eq]at hc
    exact⟨hc.1.1,(Option.some.inj h).symm⟩
   ·left
    have h2:List.lookup x ((n,q)::(r.map fun(p:Str×NameKind)=>match p with | (n,k)=>if(k == NameKind.free && env.scope.kind == .function && env.kindOf n == some .cell)then(n,NameKind.cell)else(n,k)))=some k:=by
     have h3:=h
     dsimp only at h3
     rw[if_neg hc]at h3
     exact h3
    rw[List.lookup_cons,hx]at h2
    exact Option.some.inj h2
  | false=>
   have:List.lookup x (r.map fun(p:Str×NameKind)=>match p with | (n,k)=>if(k == NameKind.free && env.scope.kind == .function && env.kindOf n == some .cell)then(n,NameKind.cell)else(n,k))=some k:=by
    by_cases hc:(q == NameKind.free && env.scope.kind == .function && env.kindOf n == some .cell)=true
    ·simpa only[hc,if_true,List.lookup_cons,hx]using h
    ·dsimp only at h
     rw[if_neg hc,List.lookup_cons,hx]at h
     exact h
   exact kQ (sc:=sc) this
theorem oi{names:List (Str×NameKind)}{x:Str}{k:NameKind}(h:names.lookup x=some k):(x,k)∈names:=PySem.mem_of_lookup h
theorem eG(ok:X.Ok){sc:Scope}(hb:eP sc X.env.scope=true){x:Str}{c:Addr}(h:(fI sc.names X.env.cells).lookup x=some c):X.env.cells.lookup x=some c:=by
 rcases qy X.env.cells sc.names [] x c h with⟨h1,h2⟩ | h1
 ·obtain⟨d,hd⟩:=ok.has x (kB hb h1 rfl)
  rw[hd]at h2 ⊢
  rw[h2]
  rfl
 ·simp at h1
theorem nN{sc:Scope}{x:Str}{cells:List (Str×Addr)}(h:(x,NameKind.free)∈sc.names):∃c,(fI sc.names cells).lookup x=some c:=
 Option.isSome_iff_exists.mp (pQ cells sc.names [] x (.inl h))
theorem Inv.stk_lt(I:Inv X pins σ H s){b:Addr}(hb:b∈cE X.stack):b<s.heap.objs.size:=by
 rcases List.mem_cons.mp (I.stkSub b hb)with e | h
 ·rw[e];exact I.lt
 ·obtain⟨_,o,ho,_⟩:=I.ok.funs.mem h
  exact Nat.lt_of_lt_of_le (Heap.lt_size ho) I.sz
theorem Inv.cell_lt(I:Inv X pins σ H s){x:Str}{c:Addr}(h:X.env.cells.lookup x=some c):c<s.heap.objs.size:=by
 obtain⟨v,q⟩:=I.cell x c h
 exact q.lt
theorem Inv.pin_lt(I:Inv X pins σ H s){p:Addr×Obj}(h:p∈X.pn++pins):p.1<s.heap.objs.size:=Heap.lt_size (I.pin p h).1
theorem Ae(I:Inv X pins σ H s){sc:Scope}{own:List Str}{js:List Nat}{fp:List Addr}{C:Nat}(hk:sc.kind=.function)(hb:eP sc X.env.scope=true)
  (hfp:∀b∈fp,bT X pins H b) (hC:s.heap.objs.size<=C) (hlt:∀b∈fp,b<s.heap.objs.size):(bY X sc own js ⟨s,H,fp,C⟩).Ok where
 mod:=I.ok.mod
 kind:=hk
 glob:=I.ok.glob
 blt:=I.ok.blt
 above:=hC
 inj:=fun x y c h1 h2=>I.ok.inj x y c (eG I.ok hb h1) (eG I.ok hb h2)
 has:=fun x hx=>by
  have hx':(relabel sc X.env).names.lookup x=some .cell\/(relabel sc X.env).names.lookup x=some .free:=hx
  have go:∀k,(relabel sc X.env).names.lookup x=some k->(k=.cell\/k=.free)->∃c,(fI sc.names X.env.cells).lookup x=some c:=fun k h hkk=>by
   obtain⟨k',h1,h2⟩:=kQ (sc:=sc) (env:=X.env) h
   have m:=oi h1
   rcases h2 with h2 | ⟨h2,_⟩
   ·subst h2
    rcases hkk with e | e
    ·exact absurd e (pF hb m)
    ·rw[e]at m;exact nN m
   ·rw[h2]at m;exact nN m
  rcases hx' with h | h
  ·exact go _ h (.inl rfl)
  ·exact go _ h (.inr rfl)
 cab:=fun x c h _=>by cases h
 hd:=I.ok.hd
 frames:=I.ok.frames
 stk:=.inl rfl
 exf:=fun b hb'=>⟨Nat.ne_of_lt (Nat.lt_of_lt_of_le (hlt b hb') hC),fun x c e=>(hfp b hb').2.2.2.2.1 x c (eG I.ok hb e)⟩
 bs:=I.bs
 bsz:=Nat.le_trans I.ok.bsz I.sz
 noex:=fun b o e hb'=>by
  rcases(hfp b hb').2.2.2.1 with z | z
  ·exact I.ok.noex b o e z
  ·exact absurd (Nat.lt_of_lt_of_le (Heap.lt_size e) (Nat.le_trans I.ok.bsz z)) (Nat.lt_irrefl _)
 exfs:=fun b hb' hm=>by
  rcases List.mem_cons.mp (I.stkSub b hm)with e | h
  ·exact(hfp b hb').2.1 e
  ·exact(hfp b hb').2.2.1 h
 funs:=I.stack
 frf:=I.stkFree
theorem oQ{n:Nat}{js:List Nat}{i:Nat}{v:V}(h:(cq n js σ)[i]?=some (some v)):∃k j,i=n+k/\js[k]?=some j/\σ[j]?=some (some v):=by
 unfold cq at h
 by_cases hi:i<n
 ·rw[List.getElem?_append_left (by simpa using hi),List.getElem?_replicate]at h
  split at h<;>cases h
 ·rw[List.getElem?_append_right (by simpa using Nat.le_of_not_lt hi),List.length_replicate,List.getElem?_map]at h
  cases e:js[i-n]? with
  | none=>rw[e]at h;cases h
  | some j=>
   rw[e]at h
   refine⟨i-n,j,by omega,e,?_⟩
   have h':(σ[j]?).join=some v:=by simpa using h
   cases q:σ[j]? with
   | none=>rw[q]at h';cases h'
   | some o=>
    rw[q]at h'
    have:o=some v:=h'
    rw[this]
theorem AW(I:Inv X pins σ H s){sc:Scope}{own:List Str}{js:List Nat}{fp:List Addr}{C D:Nat}{h1:Heap}{tk:Nat}{o:Obj}{m:Str->Option Value}(hk:sc.kind=.function)(hb:eP sc X.env.scope=true)(hj:kA sc X.N js=true)
  (hfp:∀b∈fp,bT X pins H b) (hlt:∀b∈fp,b<s.heap.objs.size) (hD:D=s.heap.objs.size) (hC:C=s.heap.objs.size+1) (old:∀b o,s.heap.get? b=some o->h1.get? b=some o)
  (hDo:h1.get? D=some o) (hod:∀v,o.data≠.cell v) (hm:h1.Ns C m) :
  Inv (bY X sc own js ⟨s,H,fp,C⟩) [(D,o)] (cq own.length js σ) H { s with heap:=h1,toks:=tk } where
 ok:=Ae I hk hb hfp (show @LE.le Nat _ s.heap.objs.size C by omega) hlt
 os:=rfl
 bare:=I.bare
 base:=Un.kept old
 loc:=by
  refine⟨m,hm,fun i x v e1 e2 e3=>?_⟩
  obtain⟨k,j,rfl,ej,es⟩:=oQ e2
  have e1':(own++js.map fun j=>X.N.getD j "")[own.length+k]?=some x:=e1
  rw[List.getElem?_append_right (by omega),Nat.add_sub_cancel_left,List.getElem?_map,ej]at e1'
  have ex:X.N.getD j "" = x:=by simpa using e1'
  have hjj:=List.all_eq_true.mp hj j (List.mem_of_getElem? ej)
  simp only[Bool.and_eq_true,decide_eq_true_eq,beq_iff_eq]at hjj
  have exN:X.N[j]?=some x:=by
   rw[←ex,List.getD_eq_getElem?_getD,List.getElem?_eq_getElem hjj.1]
   rfl
  have hfree:sc.names.lookup x=some .free:=by rw[←ex];exact hjj.2
  have hmem:=oi hfree
  have hout:=kB hb hmem rfl
  obtain⟨m0,hn0,hl0⟩:=I.loc
  obtain⟨u,r,l⟩:=hl0 j x v exN es (by rcases hout with z | z;exact .inr (.inl z);exact .inr (.inr z))
  refine⟨u,r,?_⟩
  obtain⟨c,hc⟩:=nN (cells:=X.env.cells) hmem
  have hc':=eG I.ok hb hc
  have hcell:s.heap.IsCell c (some u):=by
   rcases l with⟨z,_⟩ | ⟨_,c',e',q⟩
   ·have z':X.env.scope.names.lookup x=some .local:=z
    rcases hout with w | w<;>(rw[z']at w;cases w)
   ·rw[hc']at e';cases e';exact q
  have hcell1:h1.IsCell c (some u):=by
   obtain⟨oc,ho,hd⟩:=hcell
   exact⟨oc,old c oc ho,hd⟩
  right
  refine⟨?_,c,hc,hcell1⟩
  have e3':(relabel sc X.env).names.lookup x=some .local\/(relabel sc X.env).names.lookup x=some .cell\/(relabel sc X.env).names.lookup x=some .free:=e3
  rcases e3' with z | z
  ·obtain⟨k',z1,z2⟩:=kQ (sc:=sc) (env:=X.env) z
   rw[hfree]at z1
   rcases z2 with z2 | ⟨_,z2⟩
   ·rw[z2]at z1;cases z1
   ·cases z2
  ·exact z
 cell:=fun x c e=>by
  obtain⟨v,oc,ho,hd⟩:=I.cell x c (eG I.ok hb e)
  exact⟨v,oc,old c oc ho,hd⟩
 free:=I.hok.fresh (show @LE.le Nat _ s.heap.objs.size C by omega)
 freeC:=fun x c e=>I.freeC x c (eG I.ok hb e)
 pin:=fun p hp=>by
  have e:p=(D,o):=by simpa[bY]using hp
  subst e
  refine⟨hDo,I.hok.fresh (show @LE.le Nat _ s.heap.objs.size D by omega),?_,fun z=>?_,hod⟩
  ·exact Nat.ne_of_lt (show @LT.lt Nat _ D C by omega)
  ·have h9:@LT.lt Nat _ D s.heap.objs.size:=I.stk_lt (b:=D) z
   omega
 hok:=I.hok.kept old
 len:=by
  show(cq own.length js σ).length=(own++js.map fun j=>X.N.getD j "").length
  simp[cq]
def fD(J:It)(n:Nat)(js:List Nat)(g:TG)(tc:TT)(te:TE)(σ:St)(H:Hp)(Q:VK):Prop:=
 ∃W:Nat->Nat->List V->Hp->Prop,(∃m,W 0 m [] H)/\∀i m ys H',W i m ys H' →
  (J.stop i H'/\∀p,H' p=none->Q (.ref p) (upd H' p (.lst ys))) ∨
  (J.go i H'/\ys.length<sizeLine/\∃N:List V->Hp->Prop,(∀ys' H2,N ys' H2->∃m',m'<m/\W (i+1) m' ys' H2)/\∀x H2,J.yld i H' x H2->g x (cq n js σ) H2 fun σ2 H3=>tc σ2 H3 fun b H4=>
   if b=true then te σ2 H4 fun v H5=>N (ys++[v]) H5 else N ys H4)
def mf(n:Nat)(js:List Nat)(wi:TI)(g:TG)(tc:TT)(te:TE):TE:=fun σ H Q=>wi σ H fun J H1=>fD J n js g tc te σ H1 Q
structure TurnAt(X:Cx)(tg:Expr)(J:It)(fp:List Addr)(it:Addr)(tn:Nat->Heap->Prop):Prop where
 obj:∀i h,tn i h->∀b∈fp,∃o,h.get? b=some o/\∀v,o.data≠.cell v
 keep:∀i h h',tn i h->(∀b∈fp,∀o,h.get? b=some o->h'.get? b=some o)->tn i h'
 item:∀(i:Nat) (pins:List (Addr×Obj)) (s:Shared) (σ:St) (H:Hp) (E:Value->Shared->Prop),Inv X pins σ H s->(∀b∈fp,bT X pins H b)->tn i s.heap->J.go i H →
  wpAny (model X.prog X.w) X.A (pyNext (.ref it)) (fun r s1=>∃u,r=some u ∧
   wpAny (model X.prog X.w) X.A (letOwnedTupleGo tg (.ref it) u) (fun _ s2=>∃x H',Inv X pins σ H' s2/\RelV x u/\J.yld i H x H'/\tn (i+1) s2.heap/\∀b∈fp,H' b=none) E s1) E s
 done:∀(i:Nat) (pins:List (Addr×Obj)) (s:Shared) (σ:St) (H:Hp) (E:Value->Shared->Prop),Inv X pins σ H s->(∀b∈fp,bT X pins H b)->tn i s.heap->J.stop i H →
  wpAny (model X.prog X.w) X.A (pyNext (.ref it)) (fun r s1=>r=none/\Inv X pins σ H s1) E s
 self:∀(A:Around) (i:Nat) (s:Shared) (Q:Value->Shared->Prop) (E:Value->Shared->Prop),tn i s.heap->Q (.ref it) s->wpAny (model X.prog X.w) A (pyIter (.ref it)) Q E s
theorem Turn.at_{Y:Cx}{tg:Expr}{J:It}{fp:List Addr}{it:Addr}{tn:Nat->Heap->Prop}(T:Turn Y.prog Y.w Y.K tg J fp it tn)(hc:Y.calm=true):TurnAt Y tg J fp it tn:=⟨T.obj,T.keep,T.item Y rfl rfl rfl hc,T.done Y rfl rfl rfl hc,T.self⟩
theorem tL{elt tg iter:Expr}{ifs:List Expr}{sc:Scope}{pos:Pos}{own:List Str}{js:List Nat}{g:TG}{tc:TT}{te:TE}{J:It}{it:Addr}{fp:List Addr}{tn:Nat->Heap->Prop}{RR:Value->Addr->Result->Shared->Prop}{E:Value->Shared->Prop}
  {Q:VK} {W:Nat->Nat->List V->Hp->Prop} (hk:sc.kind=.function) (hb:eP sc X.env.scope=true) (hj:kA sc X.N js=true)
  (hg:∀C,PG (bY X sc own js ⟨s,H,fp,C⟩) tg g) (ht:∀C,il (bY X sc own js ⟨s,H,fp,C⟩) ifs tc) (he:∀C,PE (bY X sc own js ⟨s,H,fp,C⟩) elt te)
  (I:Inv X pins σ H s) (T:∀C,TurnAt (bY X sc own js ⟨s,H,fp,C⟩) tg J fp it tn) (st:tn 0 s.heap) (hfp:∀b∈fp,bT X pins H b) (w0:∃m,W 0 m [] H)
  (turn:∀i m ys H',W i m ys H'->(J.stop i H'/\∀p,H' p=none->Q (.ref p) (upd H' p (.lst ys))) ∨
   (J.go i H'/\ys.length<sizeLine/\∃N:List V->Hp->Prop,(∀ys' H2,N ys' H2->∃m',m'<m/\W (i+1) m' ys' H2)/\∀x H2,J.yld i H' x H2->g x (cq own.length js σ) H2 fun σ2 H3=>tc σ2 H3 fun b H4=>
    if b=true then te σ2 H4 fun v H5=>N (ys++[v]) H5 else N ys H4))
  (fin:∀D C s' ys H',H' D=none->Inv X pins σ (upd H' D (.lst ys)) s'->bT X pins (upd H' D (.lst ys)) C->(∃m,s'.heap.Ns C m)->s.heap.objs.size<=C->Q (.ref D) (upd H' D (.lst ys))->RR (.ref D) C (.ok .next) s') :
  wpAny (model X.prog X.w) X.A (newList []) (fun acc s₃=>wpAny (model X.prog X.w) X.A (newFunctionEnv sc X.env.globals (fI sc.names X.env.cells) [] X.env.qual none .none (some X.env)) (fun cenv s₄=>
   codeAny (model X.prog X.w) X.A (.compStart (.ListComp elt [⟨tg,iter,ifs,0⟩] sc pos) 0 (.ref it) acc { cenv with scope:=relabel sc X.env }) (RR acc cenv.locals) s₄) E s₃) E s:=by
 have hlt:∀b∈fp,b<s.heap.objs.size:=fun b hb'=>by
  obtain⟨o,e,_⟩:=(T 0).obj 0 s.heap st b hb'
  exact Heap.lt_size e
 refine wpAny_newObj_type (wpAny_newFunctionEnv (fun y hy=>pF hb hy) (by intro y hy;simp at hy) (fun h₁ hns₁ hsb₁=>?_) hk)
 dsimp only at hns₁ hsb₁ ⊢
 generalize hH2:s.heap.push { cls:=.type "list",dict:=none,data:=.seq ([]:List Value).toArray }=H2 at hns₁ hsb₁ ⊢
 have hCs:H2.objs.size=s.heap.objs.size+1:=by rw[←hH2,Heap.size_push]
 generalize hCe:H2.objs.size=C at *
 have below:∀b:Nat,b<s.heap.objs.size->b≠C:=fun b hb'=>by omega
 have old:∀b o,s.heap.get? b=some o->h₁.get? b=some o:=fun b o e=>hsb₁.extBut b o (below b (Heap.lt_size e)) (Heap.get?_push_of_some _ (hH2 ▸ Heap.get?_push_of_some _ e))
 have hDo:h₁.get? s.heap.objs.size=some (de [] 0):=hsb₁.extBut _ _ (show @Ne Nat s.heap.objs.size C by omega) (Heap.get?_push_of_some _ (hH2 ▸ Heap.get?_push_size _ rfl))
 generalize hDe:s.heap.objs.size=D at *
 -- the loop's word
 let Y:Cx:=bY X sc own js ⟨s,H,fp,C⟩
 have J0:Inv Y [(D,de [] 0)] (cq own.length js σ) H { s with heap:=h₁,toks:=s.toks+([]:List (Str×Value)).length }:=
  AW I hk hb hj hfp (by rw[hDe];exact hlt) hDe.symm (by rw[hDe];exact hCs) old hDo (fun v z=>by cases z) hns₁
 have ndC:@Ne Nat D C:=by omega
 have statF:∀{P':List (Addr×Obj)} {H':Hp},(∀b∈fp,H' b=none)->(∀p∈P',p.1∉fp)->∀b∈fp,bT Y P' H' b:=fun{P' H'} hn hp b hb'=>by
  obtain⟨f0,f1,f2,f3,f4,f5⟩:=hfp b hb'
  refine⟨hn b hb',fun z=>below b (hlt b hb') z,fun z=>?_,.inl hb',fun x c e=>f4 x c (eG I.ok hb e),fun p hp' z=>?_⟩
  ·rcases List.mem_cons.mp (I.stkSub b z)with e | h
   ·exact f1 e
   ·exact f2 h
  ·have:p∈P':=by simpa[Y,bY]using hp'
   exact hp p this (by rw[z];exact hb')
 have Dfp:D∉fp:=fun z=>by have h9:@LT.lt Nat _ D D:=hlt D z;omega
 have st1:tn 0 h₁:=(T 0).keep 0 s.heap h₁ st fun b _ o e=>old b o e
 have loop:∀s₃:Shared,s₃={ s with heap:=h₁,toks:=s.toks+([]:List (Str×Value)).length } →
   codeAny (model X.prog X.w) X.A (.compLoop (.ListComp elt [⟨tg,iter,ifs,0⟩] sc pos) 0 (.ref it) (.ref D) Y.env) (RR (.ref D) C) s₃:=by
  rintro s₃ rfl
  obtain⟨m0,w0⟩:=w0
  refine ve (fun n s'=>∃i ys its q H',Inv Y [(D,de its q)] (cq own.length js σ) H' s'/\Vals ys its/\ys.length<=sizeLine/\tn i s'.heap/\(∀b∈fp,H' b=none)/\W i n ys H') ?_ m0
   ⟨0,[],[],0,H,J0,.nil,Nat.zero_le _,st1,fun b hb'=>(hfp b hb').1,w0⟩
  rintro n s3 ⟨i,ys,its,q,H3,I3,rv,hz,st3,fr3,w3⟩
  have pD:∀p∈[(D,de its q)],p.1∉fp:=fun p hp=>by
   have e:p=(D,de its q):=by simpa using hp
   rw[e];exact Dfp
  rcases turn i n ys H3 w3 with⟨stop,qn⟩ | ⟨go,hlen,N,hN,step⟩
  ·-- the end
   refine az ((T C).done i _ s3 _ H3 _ I3 (statF fr3 pD) st3 stop) fun r s4 ⟨hr,I4⟩=>?_
   subst hr
   show RR (.ref D) C (.ok .next) s4
   have hDp:=I4.pin (D,de its q) (List.mem_append_right _ (List.mem_singleton.mpr rfl))
   have hD4:s4.heap.get? D=some (de its q):=hDp.1
   have nD:H3 D=none:=hDp.2.1
   have U:Un (cE X.stack) fp H H3 s.heap s4.heap:=I4.base
   have neD:∀b o,s.heap.get? b=some o->b≠D:=fun b o e=>Nat.ne_of_lt (by have h9:@LT.lt Nat _ b s.heap.objs.size:=Heap.lt_size e;omega)
   have neDH:∀b o,H b=some o->b≠D:=fun b o e=>Nat.ne_of_lt (by have h9:@LT.lt Nat _ b s.heap.objs.size:=I.hok.lt e;omega)
   have U2:Un (cE X.stack) fp H (upd H3 D (.lst ys)) s.heap s4.heap:=
    ⟨U.keep,U.slot,fun b o e n hx=>by rw[aT (neD b o e)];exact U.free b o e n hx,U.there,fun b xs e=>by rw[aT (neDH b _ e)];exact U.tups b xs e,
     fun b o u e=>by rw[aT (neDH b _ e)];exact U.frzs b o u e,fun b ps e=>by rw[aT (neDH b _ e)];exact U.tbls b ps e⟩
   have hok2:bA X.prog X.w (upd H3 D (.lst ys)) s4.heap:=fun b o e=>by
    by_cases hb':b=D
    ·subst hb'
     rw[aY]at e
     cases e
     exact⟨hz,its,q,rv,hD4⟩
    ·rw[aT hb']at e
     exact(I4.hok b o e).stay (fun c u _ z=>z) (fun c z=>by rw[aT (dP z nD)];exact z) fun c xs z=>by rw[aT (dP z nD)];exact z
   have IX:Inv X pins σ (upd H3 D (.lst ys)) s4:=I.call' (ch:=fp) I4.os U2 hok2 I4.bare fun b hb'=>by
    obtain⟨f0,f1,f2,f3,f4,f5⟩:=hfp b hb'
    exact⟨f3,f1,f4,f5⟩
   obtain⟨m4,hn4,_⟩:=I4.loc
   have nC:H3 C=none:=I4.free
   refine fin D C s4 ys H3 nD IX ?_ ⟨m4,hn4⟩ (show @LE.le Nat _ D C by omega) (qn D nD)
   refine⟨by rw[aT (Ne.symm ndC)];exact nC,?_,?_,?_,?_,?_⟩
   ·have h9:@LT.lt Nat _ X.env.locals s.heap.objs.size:=I.lt
    exact Nat.ne_of_gt (show @LT.lt Nat _ X.env.locals C by omega)
   ·exact I.nofs (show @LE.le Nat _ s.heap.objs.size C by omega)
   ·right
    have h9:@LE.le Nat _ X.s₀.heap.objs.size s.heap.objs.size:=I.sz
    exact(show @LE.le Nat _ X.s₀.heap.objs.size C by omega)
   ·intro x c e
    have h9:@LT.lt Nat _ c s.heap.objs.size:=I.cell_lt e
    exact Nat.ne_of_lt (show @LT.lt Nat _ c C by omega)
   ·intro p hp
    have h9:@LT.lt Nat _ p.1 s.heap.objs.size:=I.pin_lt hp
    exact Nat.ne_of_lt (show @LT.lt Nat _ p.1 C by omega)
  ·-- a turn
   refine az ((T C).item i _ s3 _ H3 _ I3 (statF fr3 pD) st3 go) fun r s4 ⟨u,hr,h4⟩=>?_
   subst hr
   refine az h4 fun _ s5 ⟨x,H5,I5,r5,y5,st5,fr5⟩=>?_
   have I5':=I5.pinned (statF fr5 pD) ((T 0).obj _ _ st5)
   refine az (hg _ _ s5 _ H5 x u _ I5' r5 (step x H5 y5)) fun _ s6 ⟨σ6,H6,I6,q6⟩=>?_
   refine az (ht _ _ s6 σ6 H6 _ I6 q6) fun ok s7 ⟨H7,I7,q7⟩=>?_
   have back:∀{s':Shared} {σ':St} {H':Hp} {ys':List V} {its':List Value} {q':Nat},Inv Y ([(D,de its' q')]++eT fp s5.heap) σ' H' s'->Vals ys' its'->ys'.length<=sizeLine->N ys' H' →
     ∃m,m<n/\∃i ys its q H',Inv Y [(D,de its q)] (cq own.length js σ) H' s'/\Vals ys its/\ys.length<=sizeLine/\tn i s'.heap/\(∀b∈fp,H' b=none)/\W i m ys H':=by
    intro s' σ' H' ys' its' q' I' rv' hz' nn
    obtain⟨m',hm,w'⟩:=hN ys' H' nn
    have hpin:∀b∈fp,∀o,s5.heap.get? b=some o->s'.heap.get? b=some o/\H' b=none:=fun b hb' o e=>by
     have:=I'.pin (b,o) (List.mem_append_right _ (List.mem_append_right _ (lF hb' e)))
     exact⟨this.1,this.2.1⟩
    refine⟨m',hm,i+1,ys',its',q',H',?_,rv',hz',(T 0).keep _ _ _ st5 fun b hb' o e=>(hpin b hb' o e).1,fun b hb'=>?_,w'⟩
    ·have I'':=I'.unpinned
     obtain⟨mm,hmm,_⟩:=id I''.loc
     refine⟨I''.ok,I''.os,I''.bare,I''.base,⟨mm,hmm,fun k x v e1 e2 e3=>?_⟩,I''.cell,I''.free,I''.freeC,I''.pin,I''.hok,?_⟩
     ·-- the captured names: their cells are as they were at the block's beginning
      obtain⟨m1,hn1,hl1⟩:=J0.loc
      obtain⟨u1,r1,l1⟩:=hl1 k x v e1 e2 e3
      refine⟨u1,r1,?_⟩
      rcases l1 with⟨z,zz⟩ | ⟨z,c,e,zz⟩
      ·-- a captured name is no local one
       exfalso
       obtain⟨k',j,rfl,ej,es⟩:=oQ e2
       have e1':(own++js.map fun j=>X.N.getD j "")[own.length+k']?=some x:=e1
       rw[List.getElem?_append_right (by omega),Nat.add_sub_cancel_left,List.getElem?_map,ej]at e1'
       have ex:X.N.getD j "" = x:=by simpa using e1'
       have hjj:=List.all_eq_true.mp hj j (List.mem_of_getElem? ej)
       simp only[Bool.and_eq_true,decide_eq_true_eq,beq_iff_eq]at hjj
       have hfree:sc.names.lookup x=some .free:=by rw[←ex];exact hjj.2
       obtain⟨k2,z1,z2⟩:=kQ (sc:=sc) (env:=X.env) (show(relabel sc X.env).names.lookup x=some .local from z)
       rw[hfree]at z1
       rcases z2 with z2 | ⟨_,z2⟩
       ·rw[z2]at z1;cases z1
       ·cases z2
      ·refine .inr ⟨z,c,e,?_⟩
       have hcs:X.env.cells.lookup x=some c:=eG I.ok hb e
       obtain⟨ov,oc,hoc,hdc⟩:=I.cell x c hcs
       have hoc1:=old c oc hoc
       obtain⟨oz,hoz,hdz⟩:=zz
       have hoz':h₁.get? c=some oz:=hoz
       rw[hoc1]at hoz'
       cases hoz'
       have cnf:c∉fp:=fun z'=>(hfp c z').2.2.2.2.1 x c hcs rfl
       obtain⟨sl,hh⟩:=I''.base.any hoc (I.freeC x c hcs) cnf
       exact⟨_,hh,hdz⟩
     ·show(cq own.length js σ).length=_
      exact J0.len
    ·obtain⟨o,e,d⟩:=(T 0).obj _ _ st5 b hb'
     exact(hpin b hb' o e).2
   cases ok with
   | false=>
    rw[if_neg Bool.false_ne_true]at q7 ⊢
    exact back I7 rv hz q7
   | true=>
    rw[if_pos rfl]at q7 ⊢
    refine az (he _ _ s7 σ6 H7 _ I7 q7) fun xv s8 ⟨v,H8,I8,r8,q8⟩=>?_
    have hDp:=I8.pin (D,de its q) (List.mem_append_right _ (List.mem_append_left _ (List.mem_singleton.mpr rfl)))
    have hD8:s8.heap.get? D=some { cls:=.type "list",data:=.seq its.toArray q }:=hDp.1
    have hl:=rv.length
    refine call_meets F.slot_list_append ⟨_,hD8,rfl⟩ F.entry_list_append (F.args_list_append_2 _ _) (PySem.list_append D its.toArray q xv (by rw[List.size_toArray];omega)) ⟨hD8,?_⟩
    have qq:=PySem.IsL.update hD8 (fun a=>a.push xv)
    have eqs:its.toArray.push xv=(its++[xv]).toArray:=by simp
    rw[eqs]at qq
    obtain⟨q2,hq2⟩:∃q2,(s8.heap.update D (Obj.mapSeq fun a=>a.push xv)).get? D=some (de (its++[xv]) q2):=⟨_,qq⟩
    -- without the pin of D,the record turns,then it is pinned again
    have I8a:Inv Y (eT fp s5.heap) σ6 H8 s8:=I8.pins_of fun p hp=>I8.pin p (List.mem_append_right _ (List.mem_append_right _ hp))
    have nD8:H8 D=none:=hDp.2.1
    have I9:Inv Y (eT fp s5.heap) σ6 H8 { s8 with heap:=s8.heap.update D (Obj.mapSeq fun a=>a.push xv),toks:=s8.toks }:=by
     refine I8a.turned (it:=D) (fun b o hb' e=>(Heap.get?_update_other s8.heap (Obj.mapSeq fun a=>a.push xv) (Ne.symm hb')).trans e) nD8 ndC (.inr (show @LE.le Nat _ s.heap.objs.size D by omega)) (fun x c e=>?_) fun p hp=>?_
     ·have h9:@LT.lt Nat _ c s.heap.objs.size:=I.cell_lt (eG I.ok hb e)
      exact Nat.ne_of_lt (show @LT.lt Nat _ c D by omega)
     ·have hp':p∈eT fp s5.heap:=by simpa[Y,bY]using hp
      obtain⟨h1,_⟩:=qc hp'
      exact fun z=>Dfp (z ▸ h1)
    refine back (ys':=ys++[v]) (its':=its++[xv]) (q':=q2) (I9.pins_of fun p hp=>?_) (rv.append (.cons r8 .nil)) (by rw[List.length_append,List.length_singleton];omega) q8
    rcases List.mem_append.mp hp with hp | hp
    ·have e:p=(D,de (its++[xv]) q2):=by simpa using hp
     subst e
     refine⟨hq2,nD8,ndC,fun z=>?_,fun v z=>by cases z⟩
     have h9:@LT.lt Nat _ D s.heap.objs.size:=I.stk_lt (b:=D) z
     omega
    ·exact I9.pin p (List.mem_append_right _ hp)
 exact codeAny_compStart_list (loop _ rfl) ((T 0).self X.A 0 { s with heap:=h₁,toks:=s.toks+([]:List (Str×Value)).length } _ _ st1 (loop _ rfl))
theorem cU{elt tg iter:Expr}{ifs:List Expr}{sc:Scope}{pos:Pos}(own:List Str)(js:List Nat){wi:TI}{g:TG}{tc:TT}{te:TE}(hi:PI X tg iter wi)(hg:∀z,PG (bY X sc own js z) tg g)(ht:∀z,il (bY X sc own js z) ifs tc)
  (he:∀z,PE (bY X sc own js z) elt te) (hc:X.calm=true:=by rfl) (hk:sc.kind=.function:=by rfl) (hb:eP sc X.env.scope=true:=by rfl) (hj:kA sc X.N js=true:=by rfl)
  (hs:∀x,foldedSetIterable iter X.env x=pure x:=by intro _;rfl):PE X (.ListComp elt [⟨tg,iter,ifs,0⟩] sc pos) (mf own.length js wi g tc te):=by
 intro pins s σ H Q I h
 rw[eval_ListComp]
 refine wpAny_comprehension_free (use:=none) rfl hs (uw fun p hp hf=>I.ok.has p.1 (kB hb hp hf)) hk (fun p hp hl=>pq hb hp hl) (az (hi pins s σ H _ I h) fun v s1 h1=>az h1 fun itv s2 h2=>?_)
 obtain⟨it,fp,tn,J,H2,e,I2,T,st2,f2,W,w0,turn⟩:=h2
 subst e
 refine tL (RR:=fun acc C=>compPost (model X.prog X.w) X.A X.xe none (EP X pins σ Q) acc C) hk hb hj (fun _=>hg _) (fun _=>ht _) (fun _=>he _) I2 (fun C=>Turn.at_ (Y:=bY X sc own js ⟨_,_,_,C⟩) T hc) st2 f2 w0 turn ?_
 intro D C s' ys H' nD I' hC ⟨m,hm⟩ _ q
 refine⟨m,hm,fun h' hs'=>?_⟩
 obtain⟨f0,f1,f2,f3,f4,f5⟩:=hC
 exact⟨.ref D,_,I'.turned (t':=s'.toks) (it:=C) (fun b o hb' e=>(hs'.2 b hb').trans e) f0 f1 f3 f4 f5,rfl,q⟩
theorem vB{i:Nat}{y:Str}{py:Pos}{elt tg iter:Expr}{ifs:List Expr}{sc:Scope}{pos spos:Pos}(own:List Str)(js:List Nat){wi:TI}{g:TG}{tc:TT}{te:TE}(hN:X.N.Nodup)(hi':X.N[i]?=some y)(hx:Loc X.env.scope y)
  (hi:PI X tg iter wi) (hg:∀z,PG (bY X sc own js z) tg g) (ht:∀z,il (bY X sc own js z) ifs tc)
  (he:∀z,PE (bY X sc own js z) elt te) (hsw:swapsWith (.ListComp elt [⟨tg,iter,ifs,0⟩] sc pos) (some (.Name y py)) spos.line X.env=pure true:=by rfl) (hc:X.calm=true:=by rfl) (hk:sc.kind=.function:=by rfl) (hb:eP sc X.env.scope=true:=by rfl) (hj:kA sc X.N js=true:=by rfl)
  (hs:∀x,foldedSetIterable iter X.env x=pure x:=by intro _;rfl) (hf:X.fn y=true\/X.env.scope.names.lookup y=some .local:=by first | exact .inl rfl | exact .inr rfl | assumption) :
  PS X (.Assign [.Name y py] (.ListComp elt [⟨tg,iter,ifs,0⟩] sc pos) spos) (jy (mf own.length js wi g tc te) (iF i)):=by
 intro pins s σ H D' I h
 rw[exec_Assign_Name_used _ _ _ _ hsw]
 refine wpAny_bind (wpAny_standAt (wpAny_bind ?_))
 show wpAny _ X.A (do let _ ←comprehension (.ListComp elt [⟨tg,iter,ifs,0⟩] sc pos) sc X.env _ (newList []) false (eval iter X.env) (some (assign (.Name y py) X.env))) _ _ s
 refine wpAny_bind (wpAny_mono (wpAny_comprehension_free (use:=some (assign (.Name y py) X.env)) (Q:=fun _ s'=>SP X pins D' .next s') rfl hs (uw fun p hp hf=>I.ok.has p.1 (kB hb hp hf)) hk (fun p hp hl=>pq hb hp hl)
  (az (hi pins s σ H _ I h) fun v s1 h1=>az h1 fun itv s2 h2=>?_)) (fun _ s' hq=>wpAny_pure (wpAny_pure hq)) fun _ _ e=>e)
 obtain⟨it,fp,tn,J,H2,e,I2,T,st2,f2,W,w0,turn⟩:=h2
 subst e
 refine tL (Q:=fun x H1=>iF i x σ H1 D'.nx) (RR:=fun acc C=>compPost (model X.prog X.w) X.A X.xe (some (assign (.Name y py) X.env)) (fun _ s'=>SP X pins D' .next s') acc C) hk hb hj (fun _=>hg _) (fun _=>ht _) (fun _=>he _) I2 (fun C=>Turn.at_ (Y:=bY X sc own js ⟨_,_,_,C⟩) T hc) st2 f2 w0 turn ?_
 intro D C s' ys H' nD I' hC ⟨m,hm⟩ hCs q
 show wpAny _ X.A (assign (.Name y py) X.env (.ref D)) _ _ _
 refine wpAny_assign_Name (tZ I' hN hi' hx (v:=.ref D) rfl (fun s'' I'' ⟨a,hsb,ha⟩=>?_) hf)
 obtain⟨f0,f1,f2,f3,f4,f5⟩:=hC
 have hac:a≠C:=by
  rcases ha with rfl | ha
  ·exact Ne.symm f1
  ·exact f4 y a ha
 refine⟨m,hm.sameBut hsb (Ne.symm hac),fun h' hs'=>?_⟩
 exact⟨_,_,I''.turned (t':=s''.toks) (it:=C) (fun b o hb' e=>(hs'.2 b hb').trans e) f0 f1 f3 f4 f5,q⟩
end
theorem mY{K:PySem.W.Frag}{a:Addr}{xs:List V}{n:Nat}{js:List Nat}{g:TG}{tc:TT}{te:TE}{Q:VK}{σ:St}{H:Hp}(Pv:Nat->List V->Hp->Prop)(hz:xs.length<=sizeLine)(h0:Pv 0 [] H)(hl:∀i ys H,i<=xs.length->Pv i ys H->ag K H a xs/\ys.length<=i)
  (hs:∀i x ys H,xs[i]?=some x->Pv i ys H->g x (cq n js σ) H fun σ2 H3=>tc σ2 H3 fun b H4=>if b=true then te σ2 H4 fun v H5=>Pv (i+1) (ys++[v]) H5 else Pv (i+1) ys H4)
  (hd:∀ys H p,Pv xs.length ys H->H p=none->Q (.ref p) (upd H p (.lst ys))):fD (cg K a) n js g tc te σ H Q:=by
 refine⟨fun i m ys H=>m=xs.length-i/\i<=xs.length/\Pv i ys H,⟨xs.length,by simp,Nat.zero_le _,h0⟩,?_⟩
 rintro i m ys H ⟨rfl,hi,p⟩
 have q:=hl i ys H hi p
 by_cases hlt:i<xs.length
 ·refine .inr ⟨⟨xs,xs[i],q.1,by simp[hlt]⟩,by have:=q.2;omega,Pv (i+1),fun ys' H' p'=>⟨xs.length-(i+1),by omega,rfl,hlt,p'⟩,fun x H' y=>?_⟩
  obtain⟨e,y⟩:=y
  subst e
  exact hs i x ys _ (y xs q.1) p
 ·have e:i=xs.length:=by omega
  subst e
  exact .inl ⟨⟨xs,q.1,Nat.le_refl _⟩,fun p' hp=>hd ys H p' p hp⟩
theorem iU{K:PySem.W.Frag}{a:Addr}{xs:List V}{n:Nat}{js:List Nat}{g:TG}{tc:TT}{te:TE}{Q:VK}{σ:St}{H:Hp}(Pv:Nat->List V->Hp->Prop)(hz:xs.length<=sizeLine)(h0:Pv 0 [] H)(hl:∀i ys H,i<=xs.length->Pv i ys H->aj K H a xs/\ys.length<=i)
  (hs:∀i x ys H,xs[i]?=some x->Pv i ys H->g x (cq n js σ) H fun σ2 H3=>tc σ2 H3 fun b H4=>if b=true then te σ2 H4 fun v H5=>Pv (i+1) (ys++[v]) H5 else Pv (i+1) ys H4)
  (hd:∀ys H p,Pv xs.length ys H->H p=none->Q (.ref p) (upd H p (.lst ys))):fD (cG K a) n js g tc te σ H Q:=by
 refine⟨fun i m ys H=>m=xs.length-i/\i<=xs.length/\Pv i ys H,⟨xs.length,by simp,Nat.zero_le _,h0⟩,?_⟩
 rintro i m ys H ⟨rfl,hi,p⟩
 have q:=hl i ys H hi p
 by_cases hlt:i<xs.length
 ·refine .inr ⟨⟨xs,xs[i],q.1,by simp[hlt]⟩,by have:=q.2;omega,Pv (i+1),fun ys' H' p'=>⟨xs.length-(i+1),by omega,rfl,hlt,p'⟩,fun x H' y=>?_⟩
  obtain⟨e,y⟩:=y
  subst e
  exact hs i x ys _ (y xs q.1) p
 ·have e:i=xs.length:=by omega
  subst e
  exact .inl ⟨⟨xs,q.1,Nat.le_refl _⟩,fun p' hp=>hd ys H p' p hp⟩
theorem ij{lo:Int}{N n:Nat}{js:List Nat}{g:TG}{tc:TT}{te:TE}{Q:VK}{σ:St}{H:Hp}(Pv:Nat->List V->Hp->Prop)(hz:N<=sizeLine)(h0:Pv 0 [] H)(hl:∀i ys H,i<=N->Pv i ys H->ys.length<=i)
  (hs:∀i ys H,i<N->Pv i ys H->g (.int (lo+i)) (cq n js σ) H fun σ2 H3=>tc σ2 H3 fun b H4=>if b=true then te σ2 H4 fun v H5=>Pv (i+1) (ys++[v]) H5 else Pv (i+1) ys H4)
  (hd:∀ys H p,Pv N ys H->H p=none->Q (.ref p) (upd H p (.lst ys))):fD (cN lo N) n js g tc te σ H Q:=by
 refine⟨fun i m ys H=>m=N-i/\i<=N/\Pv i ys H,⟨N,by simp,Nat.zero_le _,h0⟩,?_⟩
 rintro i m ys H ⟨rfl,hi,p⟩
 have q:=hl i ys H hi p
 by_cases hlt:i<N
 ·refine .inr ⟨hlt,by omega,Pv (i+1),fun ys' H' p'=>⟨N-(i+1),by omega,rfl,hlt,p'⟩,fun x H' y=>?_⟩
  obtain⟨e,y⟩:=y
  subst e y
  exact hs i ys _ hlt p
 ·have e:i=N:=by omega
  subst e
  exact .inl ⟨Nat.le_refl _,fun p' hp=>hd ys H p' p hp⟩
end L2
set_option Elab.async false
set_option linter.all false
set_option maxRecDepth 100000
set_option maxHeartbeats 4000000
namespace L2
open PySem PySem.Spec PyProof.Rows
structure Cal(P:Program)(w:World)(K:PySem.W.Frag)(mg:Str->Option Value)(base:Heap)(x:Str)(k:Nat)(ps:List Str)(sp:Sp):Prop where
 ex:∃(f:Addr) (fd:FuncData),mg x=some (.ref f)/\PySem.W.keepIn K (.ref f)=true/\Binds K fd ps []/\FnOk P w K mg base eO k f fd ps sp
structure Dfn(K:PySem.W.Frag)(mg:Str->Option Value)(x:Str)(st:Stmt)(ps:List Str):Prop where
 ex:∃(f:Addr) (fd:FuncData),mg x=some (.ref f)/\Fun K x x st f fd/\Binds K fd ps []
section
variable {P:Program} {w:World} {K:PySem.W.Frag} {mg:Str->Option Value} {base:Heap}
theorem Dfn.ok{x:Str}{st:Stmt}{N ps:List Str}{k:Nat}{sp:Sp}(D:Dfn K mg x st ps)(S:FnScope N ps (aJ st))(len:∀vs H Q E,sp vs H Q E->vs.length=ps.length)
  (hbody:∀(X:Cx) (hX:∃f cdv A outer s H E,X=(fk eO P w K mg base N x (aJ st) f cdv A outer s H E).nox/\Room k X.A) (H:Hp) (vs:List V) (Q:VK) (E:XK),sp vs H Q E →
   ∃t,bZ X (eQ st) t/\t { nx:=fun _ H'=>Q .non H',rt:=Q } (start N vs) H):Cal P w K mg base x (k+1) ps sp:=by
 obtain⟨f,fd,hm,F,hb⟩:=D.ex
 exact⟨f,fd,hm,F.kp,hb,F.ok S len fun cdv A outer s H vs Q E hr h=>hbody _ ⟨f,cdv,A,outer,s,H,E,rfl,hr⟩ H vs Q E h⟩
end
section
variable {X:Cx}
theorem aw{x:Str}{k j:Nat}{ps:List Str}{sp:Sp}{e:Expr}{es:List Expr}{t:TA}{p pos:Pos}(C:Cal X.prog X.w X.K X.mg X.base x j ps sp)(hr:Room k X.A)(ha:PA X (e::es) t)(hjk:j<=k:=by decide)(hg:Gl X x:=by rfl)(hdb:(x == ("__debug__":Str))=false:=by decide)
  (he:starEach (e::es) X.env=(false,eval e X.env)::starEach es X.env:=by rfl) (hpl:(backTo pos (starEach es X.env)).any (·.1)=false:=by rfl) :
  PE X (.Call (.Name x p) (e::es) [] pos) (mL sp [] E0 t):=by
 obtain⟨f,fd,hm,hk,hb,F⟩:=C.ex
 exact za F (hr.mono hjk) hg hm hk hb .nil wx ha hdb he hpl
theorem iE:bp X (binaryOp .FloorDiv) (rI (fun _ j=>0<j/\j<2 ^ 64) fun i j=>.int (i / j)):=jO fun i j _ _ _ _ _ hc q=>by
 have h1:(0:Int)<j:=hc.1
 have h2:j<2 ^ 64:=hc.2
 refine floordiv_int (by omega) (by rw[Int.fdiv_eq_ediv_of_nonneg i (by omega)];exact q) (.inl (PyProof.noPylong_of_log2 ?_))
 have h0:j.natAbs≠0:=by omega
 have h64:j.natAbs<2 ^ 64:=by omega
 have:=(Nat.log2_lt h0).mpr h64
 omega
def bS(H:Hp):V->String->Prop
 | .non,n=>n = "NoneType"
 | .bl _,n=>n = "bool"
 | .int _,n=>n = "int"
 | .str _,n=>n = "str"
 | .ref a,n=>(n = "list"/\∃xs,H a=some (.lst xs))\/(n = "tuple"/\∃xs,H a=some (.tup xs))
 | _,_=>False
theorem bS.ty{K:PySem.W.Frag}{H:Hp}{x:V}{n:String}(h:bS H x n):TyOf K H x (.type n):=by
 cases x with
 | non=>cases(show n = "NoneType" from h);exact .non
 | bl b=>cases(show n = "bool" from h);exact .bl b
 | int i=>cases(show n = "int" from h);exact .int i
 | str z=>cases(show n = "str" from h);exact .str z
 | ref a=>
  rcases h with⟨rfl,xs,e⟩ | ⟨rfl,xs,e⟩
  ·exact .lst e
  ·exact .tup e
 | _=>exact False.elim h
def dA:String->String->Option Bool
 | "NoneType","tuple"=>some false | "NoneType","int"=>some false | "NoneType","bool"=>some false | "NoneType","list"=>some false | "NoneType","str"=>some false
 | "bool","tuple"=>some false | "bool","int"=>some true | "bool","bool"=>some true | "bool","list"=>some false | "bool","str"=>some false
 | "int","tuple"=>some false | "int","int"=>some true | "int","bool"=>some false | "int","list"=>some false | "int","str"=>some false
 | "str","tuple"=>some false | "str","int"=>some false | "str","bool"=>some false | "str","list"=>some false | "str","str"=>some true
 | "list","tuple"=>some false | "list","int"=>some false | "list","bool"=>some false | "list","list"=>some true | "list","str"=>some false
 | "tuple","tuple"=>some true | "tuple","int"=>some false | "tuple","bool"=>some false | "tuple","list"=>some false | "tuple","str"=>some false
 | _,_=>none
theorem AV{K:PySem.W.Frag}{n T:String}{b:Bool}(h:dA n T=some b):PySem.W.kitOne K (.type n) (.type T)=some b:=by
 unfold dA at h
 split at h<;>first
  | (cases h;kernel_rfl)
  | cases h
def sQ:List V->Hp->VK->Prop:=fun xs H Q=>∃x n T b,xs=[x,.ty T]/\bS H x n/\dA n T=some b/\Q (.bl b) H
theorem cS:bC X (.builtin "isinstance") sQ:=by
 intro pins s σ H xs us Q I r h
 obtain⟨x,n,T,b,rfl,hk,hb,q⟩:=h
 obtain⟨u,w',rfl,r1,r2⟩:=vals2 r
 cases(show w'=Value.type T from r2)
 exact xO I r1 hk.ty (AV hb) fun tk=>⟨.bl b,H,I.tok tk,rfl,q⟩
theorem mQ:bp X (compareOp .Is) (fun x y H Q=>∃a b,x=.bl a/\y=.bl b/\Q (.bl (a == b)) H):=by
 intro pins s σ H x y v u Q I rx ry h
 obtain⟨a,b,rfl,rfl,q⟩:=h
 cases rx;cases ry
 exact wpAny_is_plain rfl (bf I q (by cases a<;>cases b<;>rfl))
theorem eJ:bp X (compareOp .IsNot) (fun x y H Q=>∃a b,x=.bl a/\y=.bl b/\Q (.bl (!(a == b))) H):=by
 intro pins s σ H x y v u Q I rx ry h
 obtain⟨a,b,rfl,rfl,q⟩:=h
 cases rx;cases ry
 exact wpAny_isNot_plain rfl (bf I q (by cases a<;>cases b<;>rfl))
def fb(lo c:Int)(n:Nat):It:=⟨fun i _=>i<n,fun i H x H'=>H'=H/\x=.int (lo+i*c),fun i _=>n<=i⟩
theorem zc{P:Program}{w:World}{K:PySem.W.Frag}{tg:Expr}(it:Addr)(lo c:Int)(n:Nat):Turn P w K tg (fb lo c n) [it] it (fun i h=>IsRangeIter h it (lo+(i:Nat)*c) ((n:Int)-(i:Nat)) c) where
 mem:=by simp
 obj:=fun i h st b hb=>by
  have e:b=it:=by simpa using hb
  subst e
  exact⟨_,st,fun v z=>by
   have z':Data.fields _=Data.cell v:=z
   cases z'⟩
 keep:=fun i h h' st k=>k it (by simp) _ st
 item:=by
  intro X hP hw hK hc i pins s σ H E I hf st hg
  subst hP hw hK
  obtain⟨f0,f1,f2,f3,f4,f5⟩:=hf it (by simp)
  have W:=Walks.range (prog:=X.prog) (w:=X.w) (I.ok.hd hc) it lo c n
  refine W.item i s _ _ hg st fun v h' tk hv st' kk=>?_
  obtain⟨t,rfl⟩:=hv
  have I1:Inv X pins σ H { s with heap:=h',toks:=tk }:=I.turned (fun b o hb e=>kk b o (by simpa using hb) e) f0 f1 f3 f4 f5
  exact⟨_,rfl,jz (s:={ s with heap:=h',toks:=tk }) (n:="range_iterator") st' rfl rfl (by decide) ⟨.int (lo+i*c),H,I1,⟨t,rfl⟩,⟨rfl,rfl⟩,st',fun b hb=>(hf b hb).1⟩⟩
 done:=by
  intro X hP hw hK hc i pins s σ H E I hf st hg
  subst hP hw hK
  obtain⟨f0,f1,f2,f3,f4,f5⟩:=hf it (by simp)
  exact wpAny_pyNext_range_end (I.ok.hd hc) st (by have:n<=i:=hg;omega) fun h' eb=>⟨rfl,I.turned (t':=s.toks) (fun b o hb e=>eb b o hb e) f0 f1 f3 f4 f5⟩
 self:=fun _ _ _ _ _ st h=>wpAny_pyIter_rangeiter st h
def hZ(i j c:Int):Prop:=(-(2 ^ 40)<=i/\i<2 ^ 40)/\(-(2 ^ 40)<=j/\j<2 ^ 40)/\(-(2 ^ 29)<c/\c<2 ^ 29)/\c≠0
def cW(i j c:Int):Nat:=if 0<c then(if i<j then((j-i-1) / c+1).toNat else 0)else(if j<i then((i-j-1) / (-c)+1).toNat else 0)
theorem wu(i j c:Int)(hc:c≠0):Builtin.Range.rangeSize i j c=(cW i j c:Nat):=by
 unfold Builtin.Range.rangeSize cW
 by_cases h:0<c
 ·rw[if_pos h,if_pos h]
  by_cases h2:i<j
  ·rw[if_pos h2,if_pos h2]
   have:0<=(j-i-1) / c:=Int.ediv_nonneg (by omega) (by omega)
   omega
  ·rw[if_neg h2,if_neg h2];rfl
 ·rw[if_neg h,if_neg h]
  by_cases h2:j<i
  ·rw[if_pos (show i>j from h2),if_pos h2]
   have:0<=(i-j-1) / (-c):=Int.ediv_nonneg (by omega) (by omega)
   omega
  ·rw[if_neg (show ¬i>j from h2),if_neg h2];rfl
theorem A9{i j c:Int}(h:hZ i j c):Builtin.Range.small i j c=true:=by
 obtain⟨⟨h1,h2⟩,⟨h3,h4⟩,⟨h5,h6⟩,h0⟩:=h
 have hb:Builtin.Range.rangeSize i j c<=2 ^ 42/\0<=Builtin.Range.rangeSize i j c:=by
  unfold Builtin.Range.rangeSize
  by_cases hc:c>0
  ·rw[if_pos hc]
   by_cases h':i<j
   ·rw[if_pos h']
    have e1:(j-i-1) / c<=j-i-1:=Int.ediv_le_self _ (by omega)
    have e2:0<=(j-i-1) / c:=Int.ediv_nonneg (by omega) (by omega)
    omega
   ·rw[if_neg h'];omega
  ·rw[if_neg hc]
   by_cases h':i>j
   ·rw[if_pos h']
    have e1:(i-j-1) / (-c)<=i-j-1:=Int.ediv_le_self _ (by omega)
    have e2:0<=(i-j-1) / (-c):=Int.ediv_nonneg (by omega) (by omega)
    omega
   ·rw[if_neg h'];omega
 unfold Builtin.Range.small
 generalize Builtin.Range.rangeSize i j c=z at hb ⊢
 have f:∀x:Int,-(2 ^ 62)<=x->x<2 ^ 62->Builtin.Range.rangeFitsLong x=true:=fun x h1 h2=>by
  unfold Builtin.Range.rangeFitsLong
  rw[decide_eq_true (show -(2 ^ 63)<=x by omega),decide_eq_true (show x<2 ^ 63 by omega)]
  rfl
 rw[f i (by omega) (by omega),f j (by omega) (by omega),f c (by omega) (by omega),f z (by omega) (by omega)]
 by_cases hc:c>0
 ·rw[if_pos hc,f (j+(c-1)) (by omega) (by omega),Bool.or_true];rfl
 ·rw[if_neg hc,f (j+(c+1)) (by omega) (by omega),Bool.or_true];rfl
def rJ(ta:TA):TI:=fun σ H R=>ta σ H fun vs H1=>∃i j c:Int,vs=[.int i,.int j,.int c]/\hZ i j c/\R (fb i c (cW i j c)) H1
theorem yd{tg a b c:Expr}{ta:TA}{p pos:Pos}(hg:Gl X "range")(hm:X.mg "range" = none)(ha:PA X [a,b,c] ta)(hs:starEach [a,b,c] X.env=[(false,eval a X.env),(false,eval b X.env),(false,eval c X.env)]:=by rfl)
  (hs2:starEach [b,c] X.env=[(false,eval b X.env),(false,eval c X.env)]:=by rfl) :
  PI X tg (.Call (.Name "range" p) [a,b,c] [] pos) (rJ ta):=by
 intro pins s σ H R I h
 refine Call_ (eo I hg hm boot_range (PyProof.Rows.callWith_type1 (az (ha pos pins s σ H _ I h) fun us s1 ⟨vs,H1,I1,r1,q1⟩=>?_) (by rw[hs,hs2]) (by rw[hs2];rfl)))
 obtain⟨i,j,c,e,hsm,q⟩:=q1
 subst e
 cases r1 with
 | cons r rr=>
  cases rr with
  | cons r' rr=>
   cases rr with
   | cons r'' rr=>
    cases rr
    obtain⟨t,rfl⟩:=r
    obtain⟨t',rfl⟩:=r'
    obtain⟨t'',rfl⟩:=r''
    have h0:c≠0:=hsm.2.2.2
    have h5:c.natAbs<1073741824:=by have:=hsm.2.2.1;omega
    refine call_range_3 h0 ?_ (.inl (PyProof.noPylong_small h5))
    refine wpAny_pyIter_range (IsRange.new ..) (A9 hsm) ?_
    have I2:Inv X pins σ H1 { s1 with heap:=s1.heap.push { cls:=.type "range",data:=.fields #[.int i t,.int j t',.int c t''] },toks:=s1.toks }:=I1.kept fun b o e=>Heap.get?_push_of_some _ e
    refine⟨_,[_],_,_,H1,rfl,I2.kept (t':=s1.toks) fun b o e=>Heap.get?_push_of_some _ e,zc _ i c (cW i j c),?_,fun b hb=>?_,q⟩
    ·show IsRangeIter _ _ (i+((0:Nat):Int)*c) (((cW i j c:Nat):Int)-((0:Nat):Int)) c
     rw[show i+((0:Nat):Int)*c=i by simp,show ((cW i j c:Nat):Int)-((0:Nat):Int)=Builtin.Range.rangeSize i j c by rw[wu i j c h0];simp]
     exact Heap.get?_push_size _ rfl
    ·have e:=List.mem_singleton.mp hb
     subst e
     exact I2.fpOk (Nat.le_refl _) (I2.hok.fresh (Nat.le_refl _))
theorem uX{lo c:Int}{n:Nat}{g:TG}{tb:TS}{D:Ends}{σ:St}{H:Hp}(Pv:Nat->St->Hp->Prop)(h0:Pv 0 σ H)
  (hs:∀i σ H,i<n->Pv i σ H->g (.int (lo+i*c)) σ H fun σ2 H2=>tb { D with nx:=Pv (i+1),ct:=Pv (i+1),bk:=D.nx } σ2 H2) (hd:∀σ H,Pv n σ H->D.nx σ H) :
  ∃W:Nat->Nat->St->Hp->Prop,(∃m,W 0 m σ H)/\∀i m σ H,W i m σ H →
   ((fb lo c n).stop i H/\D.nx σ H)\/((fb lo c n).go i H/\∃N:St->Hp->Prop,(∀σ' H',N σ' H'->∃m',m'<m/\W (i+1) m' σ' H')/\∀x H',(fb lo c n).yld i H x H'->g x σ H' fun σ2 H2=>tb { D with nx:=N,ct:=N,bk:=D.nx } σ2 H2):=by
 refine⟨fun i m σ H=>m=n-i/\i<=n/\Pv i σ H,⟨n,by simp,Nat.zero_le _,h0⟩,?_⟩
 rintro i m σ H ⟨rfl,hi,p⟩
 by_cases hlt:i<n
 ·refine .inr ⟨hlt,Pv (i+1),fun σ' H' p'=>⟨n-(i+1),by omega,rfl,hlt,p'⟩,fun x H' y=>?_⟩
  obtain⟨e,y⟩:=y
  subst e y
  exact hs i σ _ hlt p
 ·have e:i=n:=by omega
  subst e
  exact .inl ⟨Nat.le_refl _,hd σ H p⟩
def jc(K:PySem.W.Frag):List V->Hp->VK->Prop:=fun xs H Q=>∃p ys,xs=[.ref p]/\(ag K H p ys\/aj K H p ys)/\Q (.int ys.length) H
theorem yT:bC X (.builtin "len") (jc X.K):=Al
def lE(K:PySem.W.Frag):List V->Hp->VK->Prop:=fun xs H Q=>∃p ys,xs=[.ref p]/\((ag K H p ys/\∀l,H l=none->Q (.ref l) (upd H l (.tup ys)))\/(aj K H p ys/\Q (.ref p) H))
theorem yl:bC X (.type "tuple") (lE X.K):=AH
def ma(K:PySem.W.Frag):List V->Hp->VK->Prop:=fun xs H Q=>∃p ys,xs=[.ref p]/\(ag K H p ys\/aj K H p ys)/\∀l,H l=none->Q (.ref l) (upd H l (.lst ys))
theorem zS:bC X (.type "list") (ma X.K):=zt
def ur:List V->Hp->VK->Prop:=fun xs H Q=>(∃i,xs=[.int i]/\Q (.int i) H)\/∃k,xs=[.bl k]/\Q (.int (if k then 1 else 0)) H
theorem xt:bC X (.type "int") ur:=vD
def sT:List V->Hp->VK->Prop:=fun xs H Q=>∃i j,xs=[.int i,.int j]/\Q (.int (if j>i then j else i)) H
theorem ir(hc:X.calm=true):bC X (.builtin "max") sT:=xu hc
def pN:List V->Hp->VK->Prop:=fun xs H Q=>∃i j,xs=[.int i,.int j]/\Q (.int (if j<i then j else i)) H
theorem oB(hc:X.calm=true):bC X (.builtin "min") pN:=v9 hc
end
end L2
set_option Elab.async false
set_option linter.all false
set_option maxRecDepth 100000
set_option maxHeartbeats 4000000
namespace L2
open PySem PySem.Spec PyProof.Rows
def Ext(H H':Hp):Prop:=∀b o,H b=some o->H' b=some o
theorem Ext.rfl'(H:Hp):Ext H H:=fun _ _ h=>h
theorem Ext.trans{H H1 H2:Hp}(a:Ext H H1)(b:Ext H1 H2):Ext H H2:=fun x o h=>b x o (a x o h)
theorem Ext.none{H H':Hp}(e:Ext H H'){l:Addr}(h:H' l=Option.none):H l=Option.none:=by
 cases q:H l with
 | none=>rfl
 | some o=>rw[e l o q]at h;cases h
section
variable {X:Cx} (K:PySem.W.Frag)
theorem aL(h:X.K=K:=by rfl):gU X (lS K):=by subst h;exact AY
theorem aC(h:X.K=K:=by rfl):gU X (nG K):=by subst h;exact A8
theorem gy(h:X.K=K:=by rfl):nO X (ny K):=by subst h;exact xc
theorem kD(h:X.K=K:=by rfl):bp X (compareOp .In) (mB K false):=by subst h;exact yL
theorem dj(h:X.K=K:=by rfl):bC X (.builtin "len") (jc K):=by subst h;exact yT
theorem eE(h:X.K=K:=by rfl):bC X (.type "tuple") (lE K):=by subst h;exact yl
theorem vR(h:X.K=K:=by rfl):bC X (.type "list") (ma K):=by subst h;exact zS
theorem cZ{tg l:Expr}{tl:TE}(hl:PE X l tl)(h:X.K=K:=by rfl):PI X tg l (lX K tl):=by subst h;exact wZ hl
theorem dG{tg l:Expr}{tl:TE}(hl:PE X l tl)(h:X.K=K:=by rfl):PI X tg l (nc K tl):=by subst h;exact wH hl
theorem ff{es:List Expr}{k:Nat}{t:cO}{n:Nat}{pos:Pos}(hc:X.calm=true)(hg:gQ X es t)(h:X.K=K:=by rfl)
  (hn:(assignEach es X.env).length=n:=by rfl) (hst:(assignEach es X.env).findIdx? (·.1)=none:=by rfl):PG X (.Tuple es k pos) (ni K n t):=by subst h;exact zk hc hg hn hst
theorem bK{o e:Expr}{es:List Expr}{to:TE}{t:TA}{name:Str}{apos cpos:Pos}{T id:String}{r:V->List V->Hp->VK->Prop}(pa:PlainAttrs T)(slot:Slot T name id)(hty:typeOf (.builtin id)=pure (.type "method_descriptor"))(hm:jq X id r)(ho:PE X o to)(ha:PA X (e::es) t)(h:X.K=K:=by rfl)
  (hbase:attributeBase o name X.env (eval o X.env)=eval o X.env:=by rfl)
  (hfew:((backTo cpos (starEach (e::es) X.env)).all (fun x=>!x.1) && (backToKw cpos (keywordEach [] X.env)).all (fun x=>x.1.isSome)
   && decide ((e::es).length+([]:List Keyword).length+(if([]:List Keyword).isEmpty then 0 else 1)<30))=true:=by rfl)
  (hline:(apos.endLine == cpos.line)=true:=by rfl) (hs:starEach (e::es) X.env=(false,eval e X.env)::starEach es X.env:=by rfl) (hplain:(backTo cpos (starEach es X.env)).any (·.1)=false:=by rfl) :
  PE X (.Call (.Attribute o name apos) (e::es) [] cpos) (me K T r to t):=by subst h;exact zE pa slot hty hm ho ha hbase hfew hline hs hplain
end
def pY(ns:List Int):TA:=fun _ H Q=>Q (ns.map V.int) H
inductive IntsE:List Expr->List Int->Prop
 | n:IntsE [] []
 | c {i j pos es ns}:IntsE es ns->IntsE (.Constant (.int i) j pos::es) (i::ns)
theorem fR{X:Cx}{es:List Expr}{ns:List Int}(h:IntsE es ns):PA X es (pY ns):=by
 induction h with
 | n=>exact ae
 | @c i j pos es ns _ ih=>
  intro p pins s σ H Q I hq
  exact aa (e:=.Constant (.int i) j pos) af ih rfl p pins s σ H Q I hq
theorem rd_ints{σ:St}{H:Hp}{ns:List Int}{R:List V->Hp->Prop}(h:R (ns.map V.int) H):pY ns σ H R:=h
def mV(c:TT)(t u:TS):TS:=fun D σ H=>∃R:St->Hp->Prop,(c σ H fun b H1=>if b=true then t { D with nx:=R } σ H1 else u { D with nx:=R } σ H1)/\∀σ' H',R σ' H'->D.nx σ' H'
theorem cB{X:Cx}{c:Expr}{a b:List Stmt}{tc:TT}{t u:TS}{pos:Pos}(hc:PT X c tc)(ha:bZ X a t)(hb:bZ X b u):PS X (.If c a b pos) (mV tc t u):=by
 intro pins s σ H D I h
 obtain⟨R,h,hR⟩:=h
 refine az (aU hc ha hb pins s σ H { D with nx:=R } I h) fun f s1 q=>?_
 cases f with
 | next=>
  obtain⟨σ',H',I',q⟩:=q
  exact⟨σ',H',I',hR σ' H' q⟩
 | ret v=>exact q
 | brk=>exact q
 | cont=>exact q
def uk(K:PySem.W.Frag):V->Hp->(It->Hp->Prop)->Prop:=fun x H R=>∃a,x=.ref a/\(∃xs,ag K H a xs)/\R (cg K a) H
def qC(K:PySem.W.Frag):V->Hp->(It->Hp->Prop)->Prop:=fun x H R=>∃a,x=.ref a/\(∃xs,aj K H a xs)/\R (cG K a) H
def rE:List V->Hp->(It->Hp->Prop)->Prop:=fun vs H R=>∃j:Int,vs=[.int j]/\-(2 ^ 62)<=j/\j<2 ^ 62/\R (cN 0 j.toNat) H
def sh:List V->Hp->(It->Hp->Prop)->Prop:=fun vs H R=>∃i j:Int,vs=[.int i,.int j]/\(-(2 ^ 62)<=i/\i<2 ^ 62/\-(2 ^ 62)<=j/\j<2 ^ 62)/\R (cN i (j-i).toNat) H
def uH:List V->Hp->(It->Hp->Prop)->Prop:=fun vs H R=>∃i j c:Int,vs=[.int i,.int j,.int c]/\hZ i j c/\R (fb i c (cW i j c)) H
def iy(J:It)(g:TG)(tb:TS)(D:Ends)(σ:St)(H:Hp):Prop:=∃W:Nat->Nat->St->Hp->Prop,(∃m,W 0 m σ H)/\∀i m σ H,W i m σ H →
 (J.stop i H/\D.nx σ H)\/(J.go i H/\∃N:St->Hp->Prop,(∀σ' H',N σ' H'->∃m',m'<m/\W (i+1) m' σ' H')/\∀x H',J.yld i H x H'->g x σ H' fun σ2 H2=>tb { D with nx:=N,ct:=N,bk:=D.nx } σ2 H2)
theorem forL{K:PySem.W.Frag}{a:Addr}{xs:List V}{g:TG}{tb:TS}{D:Ends}{σ:St}{H:Hp}(Pv:Nat->St->Hp->Prop)(h0:Pv 0 σ H)(hl:∀i σ H,i<=xs.length->Pv i σ H->ag K H a xs)
  (hs:∀i x σ H,xs[i]?=some x->Pv i σ H->g x σ H fun σ2 H2=>tb ⟨Pv (i+1),D.rt,D.nx,Pv (i+1)⟩ σ2 H2) (hd:∀σ H,Pv xs.length σ H->D.nx σ H):iy (cg K a) g tb D σ H:=vO Pv h0 hl hs hd
theorem gj{K:PySem.W.Frag}{a:Addr}{xs:List V}{g:TG}{tb:TS}{D:Ends}{σ:St}{H:Hp}(Pv:Nat->St->Hp->Prop)(h0:Pv 0 σ H)(hl:∀i σ H,i<=xs.length->Pv i σ H->aj K H a xs)
  (hs:∀i x σ H,xs[i]?=some x->Pv i σ H->g x σ H fun σ2 H2=>tb ⟨Pv (i+1),D.rt,D.nx,Pv (i+1)⟩ σ2 H2) (hd:∀σ H,Pv xs.length σ H->D.nx σ H):iy (cG K a) g tb D σ H:=zJ Pv h0 hl hs hd
theorem forR{lo:Int}{n:Nat}{g:TG}{tb:TS}{D:Ends}{σ:St}{H:Hp}(Pv:Nat->St->Hp->Prop)(h0:Pv 0 σ H)
  (hs:∀i σ H,i<n->Pv i σ H->g (.int (lo+i)) σ H fun σ2 H2=>tb ⟨Pv (i+1),D.rt,D.nx,Pv (i+1)⟩ σ2 H2) (hd:∀σ H,Pv n σ H->D.nx σ H):iy (cN lo n) g tb D σ H:=zU Pv h0 hs hd
theorem AR{lo c:Int}{n:Nat}{g:TG}{tb:TS}{D:Ends}{σ:St}{H:Hp}(Pv:Nat->St->Hp->Prop)(h0:Pv 0 σ H)
  (hs:∀i σ H,i<n->Pv i σ H->g (.int (lo+i*c)) σ H fun σ2 H2=>tb ⟨Pv (i+1),D.rt,D.nx,Pv (i+1)⟩ σ2 H2) (hd:∀σ H,Pv n σ H->D.nx σ H):iy (fb lo c n) g tb D σ H:=uX Pv h0 hs hd
def dh(H:Hp)(o:HO)(R:VK):Prop:=∀p,H p=none->R (.ref p) (upd H p o)
section
variable {K:PySem.W.Frag} {D:Ends} {σ:St} {H:Hp} {Q:VK} {ta tb tc te:TE} {t u:TS} {c c':TT}
theorem rd_seq(h:t ⟨u D,D.rt,D.bk,D.ct⟩ σ H):qm t u D σ H:=h
theorem rd_next(h:D.nx σ H):ou D σ H:=h
theorem rd_ret(h:te σ H D.rt):oV te D σ H:=h
theorem rd_asg{g:TG}(h:te σ H fun x H1=>g x σ H1 D.nx):jy te g D σ H:=h
theorem rd_drop(h:te σ H fun _ H1=>D.nx σ H1):pS te D σ H:=h
theorem rd_ifS(h:c σ H fun b H1=>if b=true then t D σ H1 else u D σ H1):tI c t u D σ H:=h
theorem ed(R:St->Hp->Prop)(h:c σ H fun b H1=>if b=true then t ⟨R,D.rt,D.bk,D.ct⟩ σ H1 else u ⟨R,D.rt,D.bk,D.ct⟩ σ H1)(k:∀σ' H',R σ' H'->D.nx σ' H'):mV c t u D σ H:=⟨R,h,k⟩
theorem iz(h:c σ H fun b H1=>if b=true then t D σ H1 else u D σ H1):mV c t u D σ H:=⟨D.nx,h,fun _ _ h=>h⟩
theorem rd_name{i:Nat}{v:V}{R:St->Hp->Prop}(h:R (σ.set i (some v)) H):iF i v σ H R:=h
theorem rd_var{i:Nat}{v:V}(e:σ[i]?=some (some v))(h:Q v H):lP i σ H Q:=⟨v,e,h⟩
theorem rd_c{v:V}(h:Q v H):tC v σ H Q:=h
theorem rd_op{r:R2}(h:ta σ H fun x H1=>tb σ H1 fun y H2=>r x y H2 Q):iD r ta tb σ H Q:=h
theorem rd_un{r:V->Hp->VK->Prop}(h:ta σ H fun x H1=>r x H1 Q):sE r ta σ H Q:=h
theorem rd_CB{r:List V->Hp->VK->Prop}{a:TA}(h:a σ H fun vs H1=>r vs H1 Q):nq r a σ H Q:=h
theorem rd_cons{a:TA}{R:List V->Hp->Prop}(h:ta σ H fun x H1=>a σ H1 fun xs H2=>R (x::xs) H2):jM ta a σ H R:=h
theorem rd_nil{R:List V->Hp->Prop}(h:R [] H):nK σ H R:=h
theorem rd_test{R:Bool->Hp->Prop}(h:te σ H fun x H'=>∃k,x=.bl k/\R k H'):qo te σ H R:=h
theorem rd_B{R:Bool->Hp->Prop}(h:te σ H fun x H'=>∃k,x=.bl k/\R k H'):tB te σ H R:=h
theorem rd_exb{b:Bool}{R:Bool->Prop}(h:R b):∃k,V.bl b=V.bl k/\R k:=⟨b,rfl,h⟩
theorem rd_not{R:Bool->Hp->Prop}(h:c σ H fun b H1=>R (!b) H1):tG c σ H R:=h
theorem rd_and{R:Bool->Hp->Prop}(h:c σ H fun b H1=>if b=true then c' σ H1 R else R false H1):rm c c' σ H R:=h
theorem rd_or{R:Bool->Hp->Prop}(h:c σ H fun b H1=>if b=true then R true H1 else c' σ H1 R):ua c c' σ H R:=h
theorem rd_andV(h:ta σ H fun x H1=>∃k,x=.bl k/\if k=true then tb σ H1 Q else Q (.bl false) H1):sM ta tb σ H Q:=h
theorem rd_notV(h:ta σ H fun x H1=>∃k,x=.bl k/\Q (.bl (!k)) H1):oJ ta σ H Q:=h
theorem rd_yes{R:Bool->Hp->Prop}(h:R true H):rS σ H R:=h
theorem rd_I0{g:Int->Int->V}{i j:Int}(h:Q (g i j) H):eu g (.int i) (.int j) H Q:=⟨i,j,rfl,rfl,h⟩
theorem rd_I{C:Int->Int->Prop}{g:Int->Int->V}{i j:Int}(hc:C i j)(h:Q (g i j) H):rI C g (.int i) (.int j) H Q:=⟨i,j,rfl,rfl,hc,h⟩
theorem rd_U{g:Int->V}{i:Int}(h:Q (g i) H):rU g (.int i) H Q:=⟨i,rfl,h⟩
theorem rd_EqI{i j:Int}(h:Q (.bl (decide (i=j))) H):mF (.int i) (.int j) H Q:=⟨rfl,by
 have e:decide (V.int i=V.int j)=decide (i=j):=by rw[Bool.eq_iff_iff];simp
 rw[e];exact h⟩
theorem rd_NeI{i j:Int}(h:Q (.bl (!decide (i=j))) H):qE (.int i) (.int j) H Q:=⟨rfl,by
 have e:decide (V.int i=V.int j)=decide (i=j):=by rw[Bool.eq_iff_iff];simp
 rw[e];exact h⟩
theorem aK{p:Addr}{xs:List V}{i:Int}{v:V}(e:ag K H p xs)(a:bN xs i=some v)(h:Q v H):lS K (.ref p) (.int i) H Q:=⟨p,xs,i,v,rfl,rfl,e,a,h⟩
theorem aB{p:Addr}{xs:List V}{i:Int}{v:V}(e:aj K H p xs)(a:bN xs i=some v)(h:Q v H):nG K (.ref p) (.int i) H Q:=⟨p,xs,i,v,rfl,rfl,e,a,h⟩
theorem gK{p:Addr}{xs:List V}(e:ag K H p xs)(h:Q (.int xs.length) H):jc K [.ref p] H Q:=⟨p,xs,rfl,.inl e,h⟩
theorem gm{p:Addr}{xs:List V}(e:aj K H p xs)(h:Q (.int xs.length) H):jc K [.ref p] H Q:=⟨p,xs,rfl,.inr e,h⟩
theorem dW{p:Addr}{xs:List V}(e:ag K H p xs)(h:dh H (.tup xs) Q):lE K [.ref p] H Q:=⟨p,xs,rfl,.inl ⟨e,h⟩⟩
theorem ck{x:V}{n T:String}{b:Bool}(hk:bS H x n)(hb:dA n T=some b)(h:Q (.bl b) H):sQ [x,.ty T] H Q:=⟨x,n,T,b,rfl,hk,hb,h⟩
theorem rd_intB{k:Bool}(h:Q (.int (if k then 1 else 0)) H):ur [.bl k] H Q:=.inr ⟨k,rfl,h⟩
theorem rd_max2{i j:Int}(h:Q (.int (if j>i then j else i)) H):sT [.int i,.int j] H Q:=⟨i,j,rfl,h⟩
theorem rd_min2{i j:Int}(h:Q (.int (if j<i then j else i)) H):pN [.int i,.int j] H Q:=⟨i,j,rfl,h⟩
theorem rd_call{sp:Sp}{a:TA}{E:XK}(h:a σ H fun vs H1=>sp (vs++[]) H1 Q E):mL sp [] E a σ H Q:=h
theorem rd_BM{T:String}{r:V->List V->Hp->VK->Prop}{a:TA}(h:te σ H fun x H1=>fA K T x H1/\a σ H1 fun xs H2=>r x xs H2 Q):me K T r te a σ H Q:=h
theorem rd_tup{a:TA}(h:a σ H fun xs H1=>xs.length<=sizeLine/\dh H1 (.tup xs) Q):mz a σ H Q:=h
theorem rd_lst{a:TA}(h:a σ H fun xs H1=>xs.length<=sizeLine/\dh H1 (.lst xs) Q):uh a σ H Q:=h
theorem rd_sl{r:V->Option Int->Option Int->Hp->VK->Prop}{tl th:TO}(h:te σ H fun x H1=>tl σ H1 fun l H2=>th σ H2 fun v H3=>r x l v H3 Q):oh r te tl th σ H Q:=h
theorem rd_noPart{R:Option Int->Hp->Prop}(h:R none H):qp σ H R:=h
theorem rd_part{R:Option Int->Hp->Prop}(h:te σ H fun x H1=>∃i,x=.int i/\R (some i) H1):qu te σ H R:=h
theorem rd_exi{i:Int}{R:Int->Prop}(h:R i):∃k,V.int i=V.int k/\R k:=⟨i,rfl,h⟩
theorem rd_chain{r r':R2}(h:ta σ H fun x H1=>tb σ H1 fun y H2=>r x y H2 fun z H3=>∃k,z=.bl k/\(if k=true then tc σ H3 fun w' H4=>r' y w' H4 Q else Q (.bl false) H3)):qY r r' ta tb tc σ H Q:=h
theorem rd_comp{n:Nat}{js:List Nat}{wi:TI}{g:TG}(h:wi σ H fun J H1=>fD J n js g c te σ H1 Q):mf n js wi g c te σ H Q:=h
theorem rd_iL{R:It->Hp->Prop}(h:te σ H fun x H1=>uk K x H1 R):lX K te σ H R:=h
theorem rd_iT{R:It->Hp->Prop}(h:te σ H fun x H1=>qC K x H1 R):nc K te σ H R:=h
theorem cR{p:Addr}{xs:List V}{R:It->Hp->Prop}(e:ag K H p xs)(h:R (cg K p) H):uk K (.ref p) H R:=⟨p,rfl,⟨xs,e⟩,h⟩
theorem dQ{p:Addr}{xs:List V}{R:It->Hp->Prop}(e:aj K H p xs)(h:R (cG K p) H):qC K (.ref p) H R:=⟨p,rfl,⟨xs,e⟩,h⟩
theorem rd_i1{a:TA}{R:It->Hp->Prop}(h:a σ H fun vs H1=>rE vs H1 R):pZ a σ H R:=h
theorem dg{j:Int}{R:It->Hp->Prop}(h1:-(2 ^ 62)<=j/\j<2 ^ 62)(h:R (cN 0 j.toNat) H):rE [.int j] H R:=⟨j,rfl,h1.1,h1.2,h⟩
theorem rd_i2{a:TA}{R:It->Hp->Prop}(h:a σ H fun vs H1=>sh vs H1 R):pd a σ H R:=h
theorem oW{i j:Int}{R:It->Hp->Prop}(h1:-(2 ^ 62)<=i/\i<2 ^ 62/\-(2 ^ 62)<=j/\j<2 ^ 62)(h:R (cN i (j-i).toNat) H):sh [.int i,.int j] H R:=⟨i,j,rfl,h1,h⟩
theorem rd_i3{a:TA}{R:It->Hp->Prop}(h:a σ H fun vs H1=>uH vs H1 R):rJ a σ H R:=h
theorem A4{i j c:Int}{R:It->Hp->Prop}(h1:hZ i j c)(h:R (fb i c (cW i j c)) H):uH [.int i,.int j,.int c] H R:=⟨i,j,c,rfl,h1,h⟩
theorem rd_for{wi:TI}{g:TG}(h:wi σ H fun J H1=>iy J g t D σ H1):oA wi g t D σ H:=h
theorem bF{l:Addr}{xs:List V}{y:V}(e:H l=some (.lst xs))(hz:xs.length<sizeLine)(h:Q .non (upd H l (.lst (xs++[y])))):nU (.ref l) [y] H Q:=⟨l,xs,y,rfl,rfl,e,hz,h⟩
theorem cF{p:Addr}{xs:List V}(e:ag K H p xs):fA K "list" (.ref p) H:=.inl ⟨rfl,xs,e⟩
theorem rd_sub{to ti:TE}{w:km}{v:V}{R:St->Hp->Prop}(h:to σ H fun o H1=>ti σ H1 fun i H2=>w o i v H2 fun H3=>R σ H3):sD to ti w v σ H R:=h
theorem lj{p:Addr}{xs:List V}{k:Int}{j:Nat}{v:V}{R:Hp->Prop}(e:H p=some (.lst xs))(a:dE xs.length k=some j)(h:R (upd H p (.lst (xs.set j v)))):n9 (.ref p) (.int k) v H R:=⟨p,xs,k,j,rfl,rfl,e,a,h⟩
theorem eR{n:Nat}{g:cO}{a:Addr}{xs:List V}{R:St->Hp->Prop}(e:aj K H a xs)(hl:xs.length=n)(h:g xs σ H R):ni K n g (.ref a) σ H R:=⟨a,xs,rfl,e,hl,h⟩
theorem rd_gcons{g:TG}{gs:cO}{v:V}{r:List V}{R:St->Hp->Prop}(h:g v σ H fun σ' H'=>gs r σ' H' R):qM g gs (v::r) σ H R:=⟨v,r,rfl,h⟩
theorem rd_gnil{R:St->Hp->Prop}(h:R σ H):sd [] σ H R:=⟨rfl,h⟩
theorem cK{l b:Addr}{xs zs:List V}(e1:H l=some (.lst xs))(e2:H b=some (.lst zs))(hz:xs.length+zs.length<=sizeLine)(h:dh H (.lst (xs++zs)) Q):pK (.ref l) (.ref b) H Q:=⟨l,b,xs,zs,rfl,rfl,e1,e2,hz,h⟩
theorem la{l:Addr}{k:Int}{xs:List V}(e:H l=some (.lst xs))(hk:0<=k/\k<10 ^ 6)(hz:xs.length*k.toNat<=sizeLine)(h:dh H (.lst (List.replicate k.toNat xs).flatten) Q):si (.ref l) (.int k) H Q:=
 ⟨l,k,xs,rfl,rfl,e,by omega,by omega,hz,h⟩
theorem gn{a:Addr}{xs:List V}{lo hi:Option Int}(e:ag K H a xs)(h:dh H (.lst (cf xs lo hi)) Q):ny K (.ref a) lo hi H Q:=⟨a,xs,rfl,e,h⟩
theorem jF{neg:Bool}{x:V}{p:Addr}{xs:List V}(e:ag K H p xs\/aj K H p xs)(f:dy x=true)(fs:xs.all dy=true)(h:Q (.bl (if neg then !gN x xs else gN x xs)) H):mB K neg x (.ref p) H Q:=⟨p,xs,rfl,e,f,fs,h⟩
theorem ah{o:HO}{R:VK}(h:∀p H',Ext H H'->H' p=some o->H p=none->R (.ref p) H'):dh H o R:=fun p hp=>
 h p _ (fun b u e=>by rw[aT (dP e hp)];exact e) aY hp
theorem cb{p:Addr}{o:HO}(hp:H p=none):Ext H (upd H p o):=fun b u e=>by rw[aT (dP e hp)];exact e
theorem ag.ext{H':Hp}{p:Addr}{xs:List V}(e:Ext H H')(h:ag K H p xs):ag K H' p xs:=by
 rcases h with(h | ⟨o,h⟩) | h
 ·exact .inl (.inl (e _ _ h))
 ·exact .inl (.inr ⟨o,e _ _ h⟩)
 ·exact .inr h
end
theorem mG{α:Type}{xs:List α}{i:Int}{v:α}(h0:0<=i)(h:xs[i.toNat]?=some v):bN xs i=some v:=by
 have:=dR h
 rwa [Int.toNat_of_nonneg h0]at this
theorem lG{n:Nat}{i:Int}(h0:0<=i)(h:i<n):dE n i=some i.toNat:=by unfold dE;rw[if_pos h0,if_pos h]
end L2
set_option Elab.async false
set_option linter.all false
set_option maxRecDepth 100000
set_option maxHeartbeats 4000000
namespace L2
open PySem PySem.Spec PyProof.Rows
def df:V->PyData->Prop
 | .non,.none=>True
 | .bl b,.bool c=>b=c
 | .int i,.int j=>i=j
 | .str x,.str y=>x=y/\(PyData.str y).canLay0=true
 | _,_=>False
def bo(H:Hp):Nat->V->PyData->Prop
 | 0,x,d=>df x d
 | n+1,x,d=>df x d\/∃a xs ds,x=.ref a/\((H a=some (.tup xs)/\d=.tuple ds)\/(H a=some (.lst xs)/\d=.list ds))/\Paired (bo H n) xs ds
section
variable {X:Cx} {pins:List (Addr×Obj)} {σ:St} {H:Hp} {s:Shared}
theorem df.reads{x:V}{d:PyData}{u:Value}(h:df x d)(r:RelV x u):∃as,Reads s.heap u d as:=by
 cases x with
 | non=>cases d<;>first | exact False.elim h | (cases r;exact⟨_,.none⟩)
 | bl b=>cases d<;>first | exact False.elim h | (cases(show b=_ from h);cases r;exact⟨_,.bool _⟩)
 | int i=>cases d<;>first | exact False.elim h | (cases(show i=_ from h);obtain⟨t,rfl⟩:=r;exact⟨_,.int _ t⟩)
 | str z=>cases d<;>first | exact False.elim h | (cases(show z=_/\_ from h).1;obtain⟨t,rfl⟩:=r;exact⟨_,.str _ t⟩)
 | _=>cases d<;>exact False.elim h
theorem df.lay{x:V}{d:PyData}(h:df x d):d.canLay0=true/\d.depth=0:=by
 cases x<;>cases d<;>first | exact False.elim h | exact ⟨rfl,rfl⟩ | exact ⟨h.2,rfl⟩
theorem lb{R:V->PyData->Prop}(ih:∀{x:V} {d:PyData} {u:Value},R x d->RelV x u->∃as,Reads s.heap u d as):∀{xs:List V} {ds:List PyData} {us:List Value},Paired R xs ds->Vals xs us->∃as,ReadsAll s.heap us ds as
 | _,_,_,.nil,.nil=>⟨_,.nil⟩
 | _,_,_,.cons h t,.cons r rt=>by
  obtain⟨as,ha⟩:=ih h r
  obtain⟨bs,hb⟩:=lb ih t rt
  exact⟨_,.cons ha hb⟩
theorem bo.reads(I:Inv X pins σ H s):∀(n:Nat) {x:V} {d:PyData} {u:Value},bo H n x d->RelV x u->∃as,Reads s.heap u d as
 | 0,_,_,_,h,r=>df.reads h r
 | n+1,x,d,u,h,r=>by
  rcases h with h | ⟨a,xs,ds,rfl,hh,hp⟩
  ·exact df.reads h r
  ·cases r
   rcases hh with⟨e,rfl⟩ | ⟨e,rfl⟩
   ·obtain⟨its,rv,⟨o,ho,hc,k,hd⟩,_⟩:=I.tuple (aj.of e)
    obtain⟨as,ha⟩:=lb (fun{x d u}=>bo.reads I n) hp rv
    exact⟨_,.tuple ho hc hd (by simpa using ha)⟩
   ·obtain⟨its,k,rv,ho,_⟩:=I.lst e
    obtain⟨as,ha⟩:=lb (fun{x d u}=>bo.reads I n) hp rv
    exact⟨_,.list ho rfl rfl (by simpa using ha)⟩
theorem kj{R:V->PyData->Prop}{m:Nat}(ih:∀{x:V} {d:PyData},R x d->d.canLay0=true/\d.depth<=m):∀{xs:List V} {ds:List PyData},Paired R xs ds->PyData.canLayAll0 ds=true/\PyData.depthAll ds<=m
 | _,_,.nil=>⟨rfl,Nat.zero_le _⟩
 | _,_,.cons h t=>by
  obtain⟨h1,h2⟩:=ih h
  obtain⟨h3,h4⟩:=kj ih t
  refine⟨?_,?_⟩
  ·simp only[PyData.canLayAll0,h1,h3,Bool.and_self]
  ·simp only[PyData.depthAll]
   exact Nat.max_le.mpr ⟨h2,h4⟩
theorem bo.lay:∀(n:Nat) {x:V} {d:PyData},bo H n x d->d.canLay0=true/\d.depth<=n
 | 0,_,_,h=>⟨(df.lay h).1,Nat.le_of_eq (df.lay h).2⟩
 | n+1,x,d,h=>by
  rcases h with h | ⟨a,xs,ds,rfl,hh,hp⟩
  ·exact⟨(df.lay h).1,by rw[(df.lay h).2];exact Nat.zero_le _⟩
  ·obtain⟨h1,h2⟩:=kj (fun{x d}=>bo.lay n) hp
   rcases hh with⟨e,rfl⟩ | ⟨e,rfl⟩
   ·exact⟨h1,Nat.succ_le_succ h2⟩
   ·exact⟨h1,Nat.succ_le_succ h2⟩
def wG(neg:Bool):R2:=fun x y H Q=>∃n m d e,bo H n x d/\bo H m y e/\n<=50/\Q (.bl (if neg then !PyData.eqv d e else PyData.eqv d e)) H
theorem Aw{k:Nat}(hr:Room k X.A):bp X (compareOp .Eq) (wG false):=by
 intro pins s σ H x y v u Q I rx ry h
 obtain⟨n,m,d,e,h1,h2,hn,q⟩:=h
 obtain⟨as,ra⟩:=bo.reads I n h1 rx
 obtain⟨bs,rb⟩:=bo.reads I m h2 ry
 have l1:=bo.lay n h1
 have l2:=bo.lay m h2
 have hu:=hr.units
 have hm:min d.depth e.depth<=50:=Nat.le_trans (Nat.min_le_left _ _) (Nat.le_trans l1.2 hn)
 exact SeqAt.compareEq_reads ra rb l1.1 l2.1 (by omega) ⟨.bl _,H,I,rfl,q⟩
end
end L2
set_option Elab.async false
set_option linter.all false
set_option maxRecDepth 100000
set_option maxHeartbeats 4000000
namespace L2
open PySem PySem.Spec PyProof.Rows
def wB(K:PySem.W.Frag):List V->Hp->VK->Prop:=fun xs H Q=>∃(p:Addr) (bs:List Bool),xs=[.ref p]/\ag K H p (bs.map V.bl)/\Q (.bl (bs.all id)) H
theorem lL:∀{bs:List Bool} {us:List Value},Vals (bs.map V.bl) us->us=bs.map Value.bool
 | [],_,r=>by cases r;rfl
 | b::bs,_,r=>by
  cases r with
  | cons r t=>cases r;rw[lL t];rfl
theorem all_range(bs:List Bool):((List.range bs.length).all fun i=>bs.getD i false)=bs.all id:=by
 rw[Bool.eq_iff_iff,List.all_eq_true,List.all_eq_true]
 constructor
 ·intro h b hb
  obtain⟨i,hi,e⟩:=List.mem_iff_getElem.mp hb
  have:=h i (List.mem_range.mpr hi)
  rw[List.getD_eq_getElem?_getD,List.getElem?_eq_getElem hi]at this
  rw[←e]
  exact this
 ·intro h i hi
  have hi':=List.mem_range.mp hi
  rw[List.getD_eq_getElem?_getD,List.getElem?_eq_getElem hi']
  exact h _ (List.getElem_mem hi')
theorem mO{X:Cx}(K:PySem.W.Frag)(hc:X.calm=true)(hK:X.K=K:=by rfl):bC X (.builtin "all") (wB K):=by
 subst hK
 intro pins s σ H xs us Q I r h
 obtain⟨p,bs,rfl,hq,q⟩:=h
 obtain⟨u,rfl,rx⟩:=vals1 r
 cases rx
 obtain⟨its,rv,pl,hz⟩:=I.list hq
 have eb:=lL rv
 have hne:p≠s.heap.objs.size:=Nat.ne_of_lt (by obtain⟨o,n,e,_⟩:=pl;exact Heap.lt_size e)
 refine call_all_walk (wpAny_pyIter_list pl.isList ?_)
 have I1:Inv X pins σ H { s with heap:=s.heap.push { cls:=.type "list_iterator",data:=.fields #[.ref p,.int 0 0] } }:=I.kept (t':=s.toks) fun b o e=>Heap.get?_push_of_some _ e
 have hf:=I.fpOk (H':=H) (Nat.le_refl s.heap.objs.size) I.fresh
 refine⟨s.heap.objs.size,_,_,_,_,_,(fun i=>bs.getD i false),rfl,Walks.list (A:=X.A.in1) (I.ok.hd hc) _ p hne its.toArray,⟨⟨_,Heap.get?_push_size _ rfl,rfl,rfl⟩,?_⟩,?_,fun h' tk hk=>?_⟩
 ·exact pl.isList.push _
 ·intro i v s' Q' E' hv hQ
  rw[eb]at hv
  have hv':(bs.map Value.bool)[i]?=some v:=by simpa using hv
  rw[List.getElem?_map]at hv'
  cases eg:bs[i]? with
  | none=>rw[eg]at hv';cases hv'
  | some b=>
   rw[eg]at hv'
   cases hv'
   have eb':bs.getD i false=b:=by rw[List.getD_eq_getElem?_getD,eg];rfl
   have hQ':Q' (bs.getD i false) s':=hQ
   rw[eb']at hQ'
   exact wpAny_truthy_bool hQ'
 ·obtain⟨f0,f1,f2,f3,f4,f5⟩:=hf
  have hl:=rv.length
  rw[List.length_map]at hl
  refine⟨.bl (bs.all id),H,I1.turned (it:=s.heap.objs.size) (fun b o hb e=>hk b o (by simpa using hb) e) f0 f1 f3 f4 f5,?_,q⟩
  show Value.bool _=Value.bool _
  rw[List.size_toArray,←hl,all_range]
end L2
set_option Elab.async false
set_option linter.all false
set_option maxRecDepth 100000
set_option maxHeartbeats 4000000
namespace L2
open PySem PySem.Spec PyProof.Rows
def uT(c:TT)(tb:TS):TS:=fun D σ H=>∃(W:Nat->St->Hp->Prop) (R:St->Hp->Prop),(∃m,W m σ H)/\(∀m σ H,W m σ H →
 c σ H fun b H1=>if b=true then ∃N:St->Hp->Prop,(∀σ' H',N σ' H'->∃m',m'<m/\W m' σ' H')/\tb ⟨N,D.rt,R,N⟩ σ H1 else R σ H1)/\∀σ H,R σ H->D.nx σ H
theorem lI{X:Cx}{pos:Pos}{c:Expr}{body:List Stmt}{tc:TT}{tb:TS}(hp:PassesOwn (model X.prog X.w) X.A X.env X.xe)(hc:PT X c tc)(hb:bZ X body tb):PS X (.While c body [] pos) (uT tc tb):=by
 intro pins s σ H D I h
 obtain⟨W,R,w0,hs,hR⟩:=h
 refine az (wA hp hc hb pins s σ H { D with nx:=R } I ⟨W,w0,hs⟩) fun f s1 q=>?_
 cases f with
 | next=>
  obtain⟨σ',H',I',q⟩:=q
  exact⟨σ',H',I',hR σ' H' q⟩
 | ret v=>exact q
 | brk=>exact q
 | cont=>exact q
section
variable {D:Ends} {σ:St} {H:Hp} {Q:VK} {te:TE} {t:TS} {c:TT}
theorem lZ(W:Nat->St->Hp->Prop)(R:St->Hp->Prop)(m:Nat)(h0:W m σ H)(hs:∀m σ H,W m σ H->c σ H fun b H1=>if b=true then ∃N:St->Hp->Prop,(∀σ' H',N σ' H'->∃m',m'<m/\W m' σ' H')/\t ⟨N,D.rt,R,N⟩ σ H1 else R σ H1)(k:∀σ H,R σ H->D.nx σ H):uT c t D σ H:=⟨W,R,⟨m,h0⟩,hs,k⟩
end
section
variable {prog:Program} {w:World} {A:Around} {E:Value->Shared->Prop} {s:Shared}
theorem A7{it t:Addr}{i:Nat}{ys:Array Value}{x:Value}{Q:Value->Shared->Prop}(gi:s.heap.IsTupleIter it t i)(gt:s.heap.IsTuple t ys)(gx:ys[i]?=some x)
  (q:∀h',h'.IsTupleIter it t (i+1)->Heap.SameBut it s.heap h'->Q x { s with heap:=h' }):wpAny (model prog w) A (Builtin.SmallTypes.nextOf (.ref it)) Q E s:=by
 obtain⟨u,gu,gc,gd⟩:=id gi
 obtain⟨v,gv,_,k,gk⟩:=gt
 unfold Builtin.SmallTypes.nextOf
 refine wpAny_bind (wpAny_callSpecial?_slot (name:=Str.ofString "__next__") gi.typeIs F.slot_tuple_iterator_next (wpAny_call_entry F.slot_tuple_iterator_next gi.typeIs F.entry_tuple_iterator_next ?_ (F.args_tuple_iterator_next_1 _)))
 show wpAny _ _ (field (Value.ref it) 0 >>= _) _ _ s
 refine wpAny_bind (wpAny_field gu gd (x:=Value.ref t) rfl ?_)
 show wpAny _ _ (if(Value.ref t == Value.none)=true then _ else _) _ _ s
 rw[if_neg (show ¬(Value.ref t == Value.none)=true from Bool.false_ne_true)]
 show wpAny _ _ (field (Value.ref it) 1 >>= _) _ _ s
 refine wpAny_bind (wpAny_field gu gd (x:=Value.int i 0) rfl ?_)
 show wpAny _ _ (seqItems? (Value.ref t) >>= _) _ _ s
 refine wpAny_bind (wpAny_seqItems gv gk ?_)
 simp only[Int.toNat_natCast,gx]
 refine wpAny_bind (wpAny_setField gu gd (by simp) (wpAny_pure ⟨x,rfl,wpAny_pure (q _ ?_ (Heap.SameBut.update ..))⟩))
 exact⟨_,Heap.get?_update_self _ gu (Obj.isFreed_of_fields (Obj.data_mapFields gd _)),(Obj.cls_mapFields ..).trans gc,by rw[Obj.data_mapFields gd];simp[rawInt]⟩
theorem xW{it t:Addr}{i:Nat}{ys:Array Value}{Q:Value->Shared->Prop}(hA:A.handled=none)(gi:s.heap.IsTupleIter it t i)(gt:s.heap.IsTuple t ys)(gx:ys[i]?=none)
  (q:∀h' e,Heap.ExtBut it s.heap h'->(∃o,h'.get? e=some o/\o.cls=.type "StopIteration")->E (.ref e) { s with heap:=h' }):wpAny (model prog w) A (Builtin.SmallTypes.nextOf (.ref it)) Q E s:=by
 obtain⟨u,gu,gc,gd⟩:=id gi
 obtain⟨v,gv,_,k,gk⟩:=gt
 unfold Builtin.SmallTypes.nextOf
 refine wpAny_bind (wpAny_callSpecial?_slot (name:=Str.ofString "__next__") gi.typeIs F.slot_tuple_iterator_next (wpAny_call_entry F.slot_tuple_iterator_next gi.typeIs F.entry_tuple_iterator_next ?_ (F.args_tuple_iterator_next_1 _)))
 show wpAny _ _ (field (Value.ref it) 0 >>= _) _ _ s
 refine wpAny_bind (wpAny_field gu gd (x:=Value.ref t) rfl ?_)
 show wpAny _ _ (if(Value.ref t == Value.none)=true then _ else _) _ _ s
 rw[if_neg (show ¬(Value.ref t == Value.none)=true from Bool.false_ne_true)]
 show wpAny _ _ (field (Value.ref it) 1 >>= _) _ _ s
 refine wpAny_bind (wpAny_field gu gd (x:=Value.int i 0) rfl ?_)
 show wpAny _ _ (seqItems? (Value.ref t) >>= _) _ _ s
 refine wpAny_bind (wpAny_seqItems gv gk ?_)
 simp only[Int.toNat_natCast,gx]
 refine wpAny_bind (wpAny_rule (wpAny_bind (wpAny_setField gu gd (by simp) ?_)))
 show wpAny _ _ (newExc (Value.type "StopIteration") [] >>= _) _ _ _
 refine wpAny_bind ?_
 simp only[newExc,newTuple]
 refine wpAny_bind (wpAny_newObj_type (hd:=by size_fits) ?_)
 refine wpAny_bind (m:=firstArgMember _ _) (wpAny_of_eq (a:=Value.none) (by first | rfl | (unfold firstArgMember;rfl)) ?_)
 refine wpAny_newObj_type (hd:=by size_fits) ?_
 simp only[raiseNew]
 refine wpAny_bind (wpAny_handled ?_)
 first | rw [show Around.handled A.in1=none from hA] | rw [hA]
 refine wpAny_bind (wpAny_pure (wpAny_throw ?_))
 exact q _ _ (((Heap.SameBut.update ..).extBut.push _).push _) ⟨_,Heap.get?_push_size _ rfl,rfl⟩
end
structure Sub(P:Program)(w:World)(K:PySem.W.Frag)(J:It)(it:Addr)(tn:Nat->Heap->Prop):Prop where
 obj:∀i h,tn i h->∃o,h.get? it=some o/\∀v,o.data≠.cell v
 keep:∀i h h',tn i h->(∀o,h.get? it=some o->h'.get? it=some o)->tn i h'
 item:∀(X:Cx),X.prog=P->X.w=w->X.K=K->∀(A:Around) (i:Nat) (pins:List (Addr×Obj)) (s:Shared) (σ:St) (H:Hp) (Q:Value->Shared->Prop) (E:Value->Shared->Prop),Inv X pins σ H s->bT X pins H it->tn i s.heap->J.go i H →
  (∀x u h',Inv X pins σ H { s with heap:=h' }->RelV x u->J.yld i H x H->tn (i+1) h'->Heap.SameBut it s.heap h'->Q u { s with heap:=h' })->wpAny (model P w) A (Builtin.SmallTypes.nextOf (.ref it)) Q E s
 done:∀(X:Cx),X.prog=P->X.w=w->X.K=K->∀(A:Around),A.handled=none->∀(i:Nat) (pins:List (Addr×Obj)) (s:Shared) (σ:St) (H:Hp) (Q:Value->Shared->Prop) (E:Value->Shared->Prop),Inv X pins σ H s->bT X pins H it->tn i s.heap->J.stop i H →
  (∀h' e,Heap.ExtBut it s.heap h'->(∃o,h'.get? e=some o/\o.cls=.type "StopIteration")->E (.ref e) { s with heap:=h' })->wpAny (model P w) A (Builtin.SmallTypes.nextOf (.ref it)) Q E s
theorem uM{P:Program}{w:World}{K:PySem.W.Frag}(a it:Addr):Sub P w K (cg K a) it (fun i h=>h.IsListIter it a i) where
 obj:=fun i h st=>by
  obtain⟨o,e,c,d⟩:=st
  exact⟨o,e,fun v z=>by rw[d]at z;cases z⟩
 keep:=fun i h h' st k=>st.at k
 item:=by
  intro X hP hw hK A i pins s σ H Q E I hf st hg hQ
  subst hP hw hK
  obtain⟨xs,x,hq,hx⟩:=hg
  obtain⟨its,rv,p,hz⟩:=I.list hq
  obtain⟨u,hu,ru⟩:=rv.get hx
  obtain⟨f0,f1,f2,f3,f4,f5⟩:=hf
  exact wpAny_nextOf_list_item st p.isList (x:=u) (by simpa using hu) fun h' st' sb=>hQ x u h' (I.turned (t':=s.toks) (it:=it) (fun b o hb e=>(sb.2 b hb).trans e) f0 f1 f3 f4 f5) ru ⟨rfl,fun ys hy=>by rw[I.list_inj hy hq];exact hx⟩ st' sb
 done:=by
  intro X hP hw hK A hA i pins s σ H Q E I hf st hg hE
  subst hP hw hK
  obtain⟨xs,hq,hx⟩:=hg
  obtain⟨its,rv,p,hz⟩:=I.list hq
  have hl:=rv.length
  exact wpAny_nextOf_list_end hA st p.isList (by simp;omega) hE
theorem sI{P:Program}{w:World}{K:PySem.W.Frag}(a it:Addr):Sub P w K (cG K a) it (fun i h=>h.IsTupleIter it a i) where
 obj:=fun i h st=>by
  obtain⟨o,e,c,d⟩:=st
  exact⟨o,e,fun v z=>by rw[d]at z;cases z⟩
 keep:=fun i h h' st k=>st.at k
 item:=by
  intro X hP hw hK A i pins s σ H Q E I hf st hg hQ
  subst hP hw hK
  obtain⟨xs,x,hq,hx⟩:=hg
  obtain⟨its,rv,p,hz⟩:=I.tuple hq
  obtain⟨u,hu,ru⟩:=rv.get hx
  obtain⟨f0,f1,f2,f3,f4,f5⟩:=hf
  exact A7 st (show s.heap.IsTuple a its.toArray from p) (x:=u) (by simpa using hu) fun h' st' sb=>hQ x u h' (I.turned (t':=s.toks) (it:=it) (fun b o hb e=>(sb.2 b hb).trans e) f0 f1 f3 f4 f5) ru ⟨rfl,fun ys hy=>by rw[I.tuple_inj hy hq];exact hx⟩ st' sb
 done:=by
  intro X hP hw hK A hA i pins s σ H Q E I hf st hg hE
  subst hP hw hK
  obtain⟨xs,hq,hx⟩:=hg
  obtain⟨its,rv,p,hz⟩:=I.tuple hq
  have hl:=rv.length
  exact xW hA st (show s.heap.IsTuple a its.toArray from p) (by simp;omega) hE
def fu(J1 J2:It):It:=⟨fun i H=>J1.go i H/\J2.go i H,fun i H x H'=>∃p u v,x=.ref p/\H p=none/\H'=upd H p (.tup [u,v])/\J1.yld i H u H/\J2.yld i H v H,fun i H=>J1.stop i H\/(J1.go i H/\J2.stop i H)⟩
structure Apart(z TI TO i1 i2:Addr):Prop where
 a:TI≠z
 b:TO≠z
 c:i1≠z
 d:i2≠z
 e:TI≠TO
 f:TI≠i1
 g:TI≠i2
 h:TO≠i1
 i:TO≠i2
 j:i1≠i2
section
variable {X:Cx} {pins:List (Addr×Obj)} {σ:St} {H:Hp} {s:Shared}
theorem Inv.same{it:Addr}{k h':Heap}(I:Inv X pins σ H { s with heap:=k })(f:bT X pins H it)(b:Heap.ExtBut it k h'):Inv X pins σ H { s with heap:=h' }:=by
 obtain⟨f0,f1,f2,f3,f4,f5⟩:=f
 exact Inv.turned (s:={ s with heap:=k }) (t':=s.toks) (it:=it) I (fun c o hb e=>b c o hb e) f0 f1 f3 f4 f5
theorem AB{J1 J2:It}{z TI TO i1 i2:Addr}{t1 t2:Nat->Heap->Prop}{A:Around}{E:Value->Shared->Prop}{a b:Value}{i:Nat}{Q:Value->Shared->Prop}(S1:Sub X.prog X.w X.K J1 i1 t1)(S2:Sub X.prog X.w X.K J2 i2 t2)(N:Apart z TI TO i1 i2)
  (I:Inv X pins σ H s) (hf:∀b∈[z,TI,TO,i1,i2],bT X pins H b) (gz:IsZip s.heap z TI TO .none) (gI:IsPair s.heap TI (.ref i1) (.ref i2)) (gO:IsPair s.heap TO a b) (g1:t1 i s.heap) (g2:t2 i s.heap) (go1:J1.go i H) (go2:J2.go i H)
  (q:∀x y h',Inv X pins σ (upd H s.heap.objs.size (.tup [x,y])) { s with heap:=h' }->J1.yld i H x H->J2.yld i H y H->IsZip h' z TI TO (rawInt s.heap.objs.size)->IsPair h' TI (.ref i1) (.ref i2)->(∃a b,IsPair h' TO a b)->t1 (i+1) h'->t2 (i+1) h'->Q (.ref s.heap.objs.size) { s with heap:=h' }) :
  wpAny (model X.prog X.w) A (Builtin.«zip.__next__» ⟨[.ref z],[]⟩) (fun fin s'=>∃v,fin=.done (.ret v)/\Q v s') E s:=by
 have fz:=hf z (by simp)
 have fO:=hf TO (by simp)
 have f1:=hf i1 (by simp)
 have f2:=hf i2 (by simp)
 show wpAny _ _ (field (Value.ref z) 2 >>= _) _ _ _
 refine wpAny_bind (wpAny_field gz rfl (x:=Value.bool false) rfl ?_)
 show wpAny _ _ (field (Value.ref z) 3 >>= _) _ _ _
 refine wpAny_bind (wpAny_field gz rfl (x:=Value.ref TI) rfl ?_)
 refine wpAny_bind (wpAny_seqItems gI rfl ?_)
 show wpAny _ _ (Builtin.SmallTypes.ownedTupleIsFree (Value.ref z) >>= _) _ _ _
 refine wpAny_bind ?_
 unfold Builtin.SmallTypes.ownedTupleIsFree
 refine wpAny_bind (wpAny_field gz rfl (x:=Value.none) rfl (wpAny_pure ?_))
 simp only[if_true]
 refine wpAny_bind (wpAny_rule ?_)
 refine wpAny_bind (wpAny_field gz rfl (x:=Value.ref TO) rfl ?_)
 refine wpAny_bind (wpAny_setField_rec gz (by simp) fun k1 gz1 b1=>?_)
 replace gz1:IsZip k1 z TI TO .ellipsis:=gz1
 have s1:=b1.1
 replace b1:=b1.extBut
 have I1:Inv X pins σ H { s with heap:=k1 }:=Inv.same (show Inv X pins σ H { s with heap:=s.heap }from I) fz b1
 refine wpAny_bind ?_
 simp only[List.zipIdx_cons,List.zipIdx_nil,List.forIn_cons,List.forIn_nil]
 refine wpAny_bind (wpAny_bind (wpAny_onRaise ?_))
 show wpAny _ _ (Builtin.SmallTypes.nextOf (Value.ref i1) >>= _) _ _ _
 refine wpAny_bind (S1.item X rfl rfl rfl _ i pins _ σ H _ _ I1 f1 (S1.keep i _ _ g1 fun o e=>b1 _ _ N.c e) go1 fun x ux k2 I2 rx yx t12 b2=>wpAny_pure ?_)
 replace I2:Inv X pins σ H { s with heap:=k2 }:=I2
 have s2:=b2.1
 replace b2:=b2.extBut
 have gO2:IsPair k2 TO a b:=b2 _ _ N.h (b1 _ _ N.b gO)
 refine wpAny_bind (wpAny_seqItems gO2 rfl ?_)
 refine wpAny_bind (wpAny_updateSeq_pair gO2 fun k3 gO3 b3=>?_)
 replace gO3:IsPair k3 TO ux b:=gO3
 have s3:=b3.1
 replace b3:=b3.extBut
 have I3:Inv X pins σ H { s with heap:=k3 }:=Inv.same I2 fO b3
 refine wpAny_bind (wpAny_letGo (wpAny_pure ?_))
 refine wpAny_bind (wpAny_bind (wpAny_onRaise ?_))
 show wpAny _ _ (Builtin.SmallTypes.nextOf (Value.ref i2) >>= _) _ _ _
 refine wpAny_bind (S2.item X rfl rfl rfl _ i pins _ σ H _ _ I3 f2 (S2.keep i _ _ g2 fun o e=>b3 _ _ (Ne.symm N.i) (b2 _ _ (Ne.symm N.j) (b1 _ _ N.d e))) go2 fun y uy k4 I4 ry yy t24 b4=>wpAny_pure ?_)
 replace I4:Inv X pins σ H { s with heap:=k4 }:=I4
 have s4:=b4.1
 replace b4:=b4.extBut
 have gO4:IsPair k4 TO ux b:=b4 _ _ N.i gO3
 refine wpAny_bind (wpAny_seqItems gO4 rfl ?_)
 refine wpAny_bind (wpAny_updateSeq_pair gO4 fun k5 gO5 b5=>?_)
 replace gO5:IsPair k5 TO ux uy:=gO5
 have s5:=b5.1
 replace b5:=b5.extBut
 have I5:Inv X pins σ H { s with heap:=k5 }:=Inv.same I4 fO b5
 refine wpAny_bind (wpAny_letGo (wpAny_pure (wpAny_pure ?_)))
 refine wpAny_bind (wpAny_seqItems gO5 rfl ?_)
 refine wpAny_bind (wpAny_newTuple ?_)
 have sz:k5.objs.size=s.heap.objs.size:=by rw[s5,s4,s3,s2,s1]
 have gz5:IsZip k5 z TI TO .ellipsis:=b5 _ _ (Ne.symm N.b) (b4 _ _ (Ne.symm N.d) (b3 _ _ (Ne.symm N.b) (b2 _ _ (Ne.symm N.c) gz1)))
 have gI5:IsPair k5 TI (.ref i1) (.ref i2):=b5 _ _ N.e (b4 _ _ N.g (b3 _ _ N.e (b2 _ _ N.f (b1 _ _ N.a gI))))
 have t15:t1 (i+1) k5:=S1.keep _ _ _ (S1.keep _ _ _ (S1.keep _ _ _ t12 fun o e=>b3 _ _ (Ne.symm N.h) e) fun o e=>b4 _ _ N.j e) fun o e=>b5 _ _ (Ne.symm N.h) e
 have t25:t2 (i+1) k5:=S2.keep _ _ _ t24 fun o e=>b5 _ _ (Ne.symm N.i) e
 have lz:z<k5.objs.size:=Heap.lt_size gz5
 have I6:Inv X pins σ (upd H k5.objs.size (.tup [x,y])) { s with heap:=k5.push { cls:=.type "tuple",data:=.seq #[ux,uy] } }:=
  I5.laid (t':=s.toks) (o:=.tup [x,y]) (fun b ob e=>Heap.get?_push_of_some _ e) (Nat.le_refl _) ⟨by show 2<=sizeLine;decide,[ux,uy],.cons rx (.cons ry .nil),IsTup.new _ _⟩
 have fz6:bT X pins (upd H k5.objs.size (.tup [x,y])) z:=by
  obtain⟨c0,c1,c2,c3,c4,c5⟩:=fz
  exact⟨by rw[aT (Nat.ne_of_lt lz)];exact c0,c1,c2,c3,c4,c5⟩
 show wpAny _ _ (Builtin.SmallTypes.ownedTupleHandOut (Value.ref z) (Value.ref k5.objs.size) >>= _) _ _ _
 refine wpAny_bind ?_
 unfold Builtin.SmallTypes.ownedTupleHandOut
 have gz6:IsZip (k5.push { cls:=.type "tuple",data:=.seq #[ux,uy] }) z TI TO .ellipsis:=Heap.get?_push_of_some _ gz5
 refine wpAny_bind (wpAny_setField_rec gz6 (by simp) fun k7 gz7 b7=>?_)
 replace gz7:IsZip k7 z TI TO (rawInt k5.objs.size):=gz7
 replace b7:=b7.extBut
 have I7:Inv X pins σ (upd H k5.objs.size (.tup [x,y])) { s with heap:=k7 }:=Inv.same I6 fz6 b7
 refine wpAny_setField_rec gz7 (by simp) fun k8 gz8 b8=>?_
 replace gz8:IsZip k8 z TI TO (rawInt k5.objs.size):=gz8
 replace b8:=b8.extBut
 have I8:Inv X pins σ (upd H k5.objs.size (.tup [x,y])) { s with heap:=k8 }:=Inv.same I7 fz6 b8
 have up:∀b o,b≠z->k5.get? b=some o->k8.get? b=some o:=fun b o ne e=>b8 _ _ ne (b7 _ _ ne (Heap.get?_push_of_some _ e))
 rw[sz]at I8 gz8
 refine wpAny_pure ⟨_,rfl,?_⟩
 show Q (.ref k5.objs.size) _
 rw[sz]
 exact q x y k8 I8 yx yy gz8 (up _ _ N.a gI5) ⟨_,_,up _ _ N.b gO5⟩ (S1.keep _ _ _ t15 fun o e=>up _ o N.c e) (S2.keep _ _ _ t25 fun o e=>up _ o N.d e)
theorem wm{J1 J2:It}{z TI TO i1 i2:Addr}{t1 t2:Nat->Heap->Prop}{A:Around}{E:Value->Shared->Prop}{a b:Value}{i:Nat}{Q:Fin->Shared->Prop}(hA:A.handled=none)(S1:Sub X.prog X.w X.K J1 i1 t1)(S2:Sub X.prog X.w X.K J2 i2 t2)(N:Apart z TI TO i1 i2)
  (I:Inv X pins σ H s) (hf:∀b∈[z,TI,TO,i1,i2],bT X pins H b) (gz:IsZip s.heap z TI TO .none) (gI:IsPair s.heap TI (.ref i1) (.ref i2)) (gO:IsPair s.heap TO a b) (g1:t1 i s.heap) (g2:t2 i s.heap) (st:J1.stop i H\/(J1.go i H/\J2.stop i H))
  (q:∀h' e,Inv X pins σ H { s with heap:=h' }->(∃o,h'.get? e=some o/\o.cls=.type "StopIteration")->E (.ref e) { s with heap:=h' }) :
  wpAny (model X.prog X.w) A (Builtin.«zip.__next__» ⟨[.ref z],[]⟩) Q E s:=by
 have fz:=hf z (by simp)
 have fO:=hf TO (by simp)
 have f1:=hf i1 (by simp)
 have f2:=hf i2 (by simp)
 show wpAny _ _ (field (Value.ref z) 2 >>= _) _ _ _
 refine wpAny_bind (wpAny_field gz rfl (x:=Value.bool false) rfl ?_)
 show wpAny _ _ (field (Value.ref z) 3 >>= _) _ _ _
 refine wpAny_bind (wpAny_field gz rfl (x:=Value.ref TI) rfl ?_)
 refine wpAny_bind (wpAny_seqItems gI rfl ?_)
 show wpAny _ _ (Builtin.SmallTypes.ownedTupleIsFree (Value.ref z) >>= _) _ _ _
 refine wpAny_bind ?_
 unfold Builtin.SmallTypes.ownedTupleIsFree
 refine wpAny_bind (wpAny_field gz rfl (x:=Value.none) rfl (wpAny_pure ?_))
 simp only[if_true]
 refine wpAny_bind (wpAny_rule ?_)
 refine wpAny_bind (wpAny_field gz rfl (x:=Value.ref TO) rfl ?_)
 refine wpAny_bind (wpAny_setField_rec gz (by simp) fun k1 gz1 b1=>?_)
 replace gz1:IsZip k1 z TI TO .ellipsis:=gz1
 replace b1:=b1.extBut
 have I1:Inv X pins σ H { s with heap:=k1 }:=Inv.same (show Inv X pins σ H { s with heap:=s.heap }from I) fz b1
 refine wpAny_bind ?_
 simp only[List.zipIdx_cons,List.zipIdx_nil,List.forIn_cons,List.forIn_nil]
 refine wpAny_bind (wpAny_bind (wpAny_onRaise ?_))
 show wpAny _ _ (Builtin.SmallTypes.nextOf (Value.ref i1) >>= _) _ _ _
 have t11:t1 i k1:=S1.keep i _ _ g1 fun o e=>b1 _ _ N.c e
 rcases st with st | ⟨go,st⟩
 ·refine wpAny_bind (S1.done X rfl rfl rfl _ hA i pins _ σ H _ _ I1 f1 t11 st fun k2 e b2 he=>?_)
  obtain⟨oe,hoe,hce⟩:=he
  have gz2:IsZip k2 z TI TO .ellipsis:=b2 _ _ (Ne.symm N.c) gz1
  have I2:Inv X pins σ H { s with heap:=k2 }:=Inv.same I1 f1 b2
  have ne:e≠z:=fun x=>by subst x;rw[gz2]at hoe;cases hoe;simp at hce
  exact wpAny_setField_rec gz2 (by simp) fun k3 _ b3=>q k3 e (Inv.same I2 fz b3.extBut) ⟨oe,b3.extBut _ _ ne hoe,hce⟩
 ·refine wpAny_bind (S1.item X rfl rfl rfl _ i pins _ σ H _ _ I1 f1 t11 go fun x ux k2 I2 rx yx t12 b2=>wpAny_pure ?_)
  replace I2:Inv X pins σ H { s with heap:=k2 }:=I2
  replace b2:=b2.extBut
  have gO2:IsPair k2 TO a b:=b2 _ _ N.h (b1 _ _ N.b gO)
  refine wpAny_bind (wpAny_seqItems gO2 rfl ?_)
  refine wpAny_bind (wpAny_updateSeq_pair gO2 fun k3 gO3 b3=>?_)
  replace b3:=b3.extBut
  have I3:Inv X pins σ H { s with heap:=k3 }:=Inv.same I2 fO b3
  refine wpAny_bind (wpAny_letGo (wpAny_pure ?_))
  refine wpAny_bind (wpAny_bind (wpAny_onRaise ?_))
  show wpAny _ _ (Builtin.SmallTypes.nextOf (Value.ref i2) >>= _) _ _ _
  refine wpAny_bind (S2.done X rfl rfl rfl _ hA i pins _ σ H _ _ I3 f2 (S2.keep i _ _ g2 fun o e=>b3 _ _ (Ne.symm N.i) (b2 _ _ (Ne.symm N.j) (b1 _ _ N.d e))) st fun k4 e b4 he=>?_)
  obtain⟨oe,hoe,hce⟩:=he
  have gz4:IsZip k4 z TI TO .ellipsis:=b4 _ _ (Ne.symm N.d) (b3 _ _ (Ne.symm N.b) (b2 _ _ (Ne.symm N.c) gz1))
  have I4:Inv X pins σ H { s with heap:=k4 }:=Inv.same I3 f2 b4
  have ne:e≠z:=fun x=>by subst x;rw[gz4]at hoe;cases hoe;simp at hce
  exact wpAny_setField_rec gz4 (by simp) fun k5 _ b5=>q k5 e (Inv.same I4 fz b5.extBut) ⟨oe,b5.extBut _ _ ne hoe,hce⟩
end
theorem AS{P:Program}{w:World}{K:PySem.W.Frag}{elts:List Expr}{kk:Nat}{ps:Pos}{J1 J2:It}{z TI TO i1 i2:Addr}{t1 t2:Nat->Heap->Prop}(S1:Sub P w K J1 i1 t1)(S2:Sub P w K J2 i2 t2)(N:Apart z TI TO i1 i2):
  Turn P w K (.Tuple elts kk ps) (fu J1 J2) [z,TI,TO,i1,i2] z (fun i h=>IsZip h z TI TO .none/\IsPair h TI (.ref i1) (.ref i2)/\(∃a b,IsPair h TO a b)/\t1 i h/\t2 i h) where
 mem:=by simp
 obj:=fun i h st b hb=>by
  obtain⟨gz,gI,⟨a,c,gO⟩,g1,g2⟩:=st
  simp only[List.mem_cons,List.not_mem_nil,or_false]at hb
  rcases hb with rfl | rfl | rfl | rfl | rfl
  ·exact⟨_,gz,fun v e=>by cases(show Data.fields _=Data.cell v from e)⟩
  ·exact⟨_,gI,fun v e=>by cases(show Data.seq _ _=Data.cell v from e)⟩
  ·exact⟨_,gO,fun v e=>by cases(show Data.seq _ _=Data.cell v from e)⟩
  ·exact S1.obj _ _ g1
  ·exact S2.obj _ _ g2
 keep:=fun i h h' st k=>by
  obtain⟨gz,gI,⟨a,c,gO⟩,g1,g2⟩:=st
  exact⟨k z (by simp) _ gz,k TI (by simp) _ gI,⟨a,c,k TO (by simp) _ gO⟩,S1.keep _ _ _ g1 fun o e=>k i1 (by simp) o e,S2.keep _ _ _ g2 fun o e=>k i2 (by simp) o e⟩
 item:=by
  intro X hP hw hK hc i pins s σ H E I hf st hg
  subst hP hw hK
  obtain⟨gz,gI,⟨a,c,gO⟩,g1,g2⟩:=st
  have gT:s.TypeIs (.ref z) "zip":=⟨_,gz,rfl⟩
  unfold pyNext
  refine wpAny_bind (wpAny_attempt (wpAny_callSpecial?_slot (name:=Str.ofString "__next__") gT F.slot_zip_next (wpAny_call_entry F.slot_zip_next gT F.entry_zip_next
   (AB S1 S2 N I hf gz gI gO g1 g2 hg.1 hg.2 fun x y h' I' yx yy gz' gI' gO' g1' g2'=>wpAny_pure ⟨_,rfl,?_⟩) (F.args_zip_next_1 _))))
  have lt:∀b∈[z,TI,TO,i1,i2],b≠s.heap.objs.size:=fun b hb=>by
   obtain⟨f0,f1,f2,f3,f4,f5⟩:=hf b hb
   simp only[List.mem_cons,List.not_mem_nil,or_false]at hb
   rcases hb with rfl | rfl | rfl | rfl | rfl
   ·exact Nat.ne_of_lt (Heap.lt_size gz)
   ·exact Nat.ne_of_lt (Heap.lt_size gI)
   ·exact Nat.ne_of_lt (Heap.lt_size gO)
   ·obtain⟨o,e,_⟩:=S1.obj _ _ g1;exact Nat.ne_of_lt (Heap.lt_size e)
   ·obtain⟨o,e,_⟩:=S2.obj _ _ g2;exact Nat.ne_of_lt (Heap.lt_size e)
  have fz:bT X pins (upd H s.heap.objs.size (.tup [x,y])) z:=by
   obtain⟨c0,c1,c2,c3,c4,c5⟩:=hf z (by simp)
   exact⟨by rw[aT (lt z (by simp))];exact c0,c1,c2,c3,c4,c5⟩
  obtain⟨a',c',gO'⟩:=gO'
  refine wpAny_letOwnedTupleGo_zip (s:={ s with heap:=h' }) gz' fun k gk bk=>?_
  refine⟨.ref s.heap.objs.size,upd H s.heap.objs.size (.tup [x,y]),Inv.same I' fz bk.extBut,rfl,⟨_,x,y,rfl,I.hok.fresh (Nat.le_refl _),rfl,yx,yy⟩,
   ⟨gk,bk.extBut _ _ N.a gI',⟨_,_,bk.extBut _ _ N.b gO'⟩,S1.keep _ _ _ g1' fun o e=>bk.extBut _ _ N.c e,S2.keep _ _ _ g2' fun o e=>bk.extBut _ _ N.d e⟩,fun b hb=>?_⟩
  rw[aT (lt b hb)]
  exact(hf b hb).1
 done:=by
  intro X hP hw hK hc i pins s σ H E I hf st hg
  subst hP hw hK
  obtain⟨gz,gI,⟨a,c,gO⟩,g1,g2⟩:=st
  have gT:s.TypeIs (.ref z) "zip":=⟨_,gz,rfl⟩
  unfold pyNext
  refine wpAny_bind (wpAny_attempt (wpAny_callSpecial?_slot (name:=Str.ofString "__next__") gT F.slot_zip_next (wpAny_call_entry F.slot_zip_next gT F.entry_zip_next
   (wm (I.ok.hd hc) S1 S2 N I hf gz gI gO g1 g2 hg fun h' e I' he=>?_) (F.args_zip_next_1 _))))
  obtain⟨o,ho,hc'⟩:=he
  refine wpAny_bind (wpAny_isInstance (s:={ s with heap:=h' }) (T:="StopIteration") (b:=true) ⟨o,ho,hc'⟩ isSubtype_stop ?_)
  exact wpAny_pure ⟨rfl,I'⟩
 self:=fun _ _ _ _ _ st h=>wpAny_pyIter_zip st.1 h
abbrev jK(h:Heap)(a:Addr):Heap:=h.push { cls:=.type "tuple_iterator",data:=.fields #[.ref a,.int 0 0] }
abbrev jY(h:Heap)(a b:Addr):Heap:=(jK h a).push { cls:=.type "tuple_iterator",data:=.fields #[.ref b,.int 0 0] }
abbrev jo(h:Heap)(a b:Addr):Heap:=(jY h a b).push { cls:=.type "tuple",data:=.seq #[.ref h.objs.size,.ref (jK h a).objs.size] }
abbrev kT(h:Heap)(a b:Addr):Heap:=(jo h a b).push { cls:=.type "tuple",data:=.seq #[.none,.none] }
abbrev hJ(h:Heap)(a b:Addr):Heap:=(kT h a b).push { cls:=.type "zip",data:=.fields #[.none,.bool false,.bool false,.ref (jY h a b).objs.size,.ref (jo h a b).objs.size] }
theorem xm(a b:Addr)(xs ys:Array Value):Meets (Builtin.«zip.__new__» ⟨[.type "zip",.ref a,.ref b],[]⟩) (fun _ R s=>s.heap.IsTuple a xs/\s.heap.IsTuple b ys/\R (.ok (.ret (.ref (kT s.heap a b).objs.size))) { s with heap:=hJ s.heap a b }):=
 .of_wp fun prog w A R s q=>by
  obtain⟨hp,g,d,tk,os⟩:=s;obtain⟨ga,gb,q⟩:=q
  have hsub:=sub_zip
  have gA:Heap.IsTuple (Shared.heap ⟨hp,g,d,tk,os⟩) a xs:=ga
  have gB:Heap.IsTuple (Shared.heap ⟨hp.push { cls:=.type "tuple_iterator",data:=.fields #[.ref a,.int 0 0] },g,d,tk,os⟩) b ys:=Heap.IsTuple.push gb _
  wp_walk using wpAny_pyIter_tuple gA,wpAny_pyIter_tuple gB
  exact⟨_,rfl,q⟩
theorem AI{prog:Program}{w:World}{A:Around}{E:Value->Shared->Prop}{s:Shared}{a b:Addr}{xs ys:Array Value}{Q:Value->Shared->Prop}(ga:s.heap.IsTuple a xs)(gb:s.heap.IsTuple b ys)
  (q:∀h',IsZip h' (s.heap.objs.size+4) (s.heap.objs.size+2) (s.heap.objs.size+3) .none->IsPair h' (s.heap.objs.size+2) (.ref s.heap.objs.size) (.ref (s.heap.objs.size+1))->IsPair h' (s.heap.objs.size+3) .none .none →
   h'.IsTupleIter s.heap.objs.size a 0->h'.IsTupleIter (s.heap.objs.size+1) b 0->(∀c o,s.heap.get? c=some o->h'.get? c=some o)->Q (.ref (s.heap.objs.size+4)) { s with heap:=h' }) :
  wpAny (model prog w) A (call (.type "zip") [.ref a,.ref b]) Q E s:=by
 refine callType_new F.called_zip (by decide) (F.typeCall_zip_2 _ _) (F.newCall_zip_2 _ _) (fun ob=>F.args_object_init_3 ob _ _) F.entry_zip_new (xm a b xs ys) ⟨ga,gb,?_⟩
 have n1:(jK s.heap a).objs.size=s.heap.objs.size+1:=Heap.size_push ..
 have n2:(jY s.heap a b).objs.size=s.heap.objs.size+2:=by rw[Heap.size_push,n1]
 have n3:(jo s.heap a b).objs.size=s.heap.objs.size+3:=by rw[Heap.size_push,n2]
 have n4:(kT s.heap a b).objs.size=s.heap.objs.size+4:=by rw[Heap.size_push,n3]
 have k5:(hJ s.heap a b).get? (kT s.heap a b).objs.size=some _:=Heap.get?_push_size _ rfl
 have k4:(hJ s.heap a b).get? (jo s.heap a b).objs.size=some _:=Heap.get?_push_of_some _ (Heap.get?_push_size _ rfl)
 have k3:(hJ s.heap a b).get? (jY s.heap a b).objs.size=some _:=Heap.get?_push_of_some _ (Heap.get?_push_of_some _ (Heap.get?_push_size _ rfl))
 have k2:(hJ s.heap a b).get? (jK s.heap a).objs.size=some _:=Heap.get?_push_of_some _ (Heap.get?_push_of_some _ (Heap.get?_push_of_some _ (Heap.get?_push_size _ rfl)))
 have k1:(hJ s.heap a b).get? s.heap.objs.size=some _:=Heap.get?_push_of_some _ (Heap.get?_push_of_some _ (Heap.get?_push_of_some _ (Heap.get?_push_of_some _ (Heap.get?_push_size _ rfl))))
 show _/\_
 rw[n2,n3,n4]at k5
 rw[n1,n2]at k3
 rw[n3]at k4
 rw[n1]at k2
 rw[n4]
 exact⟨⟨_,k5,rfl⟩,q _ k5 k3 k4 ⟨_,k1,rfl,rfl⟩ ⟨_,k2,rfl,rfl⟩ fun c o x=>Heap.get?_push_of_some _ (Heap.get?_push_of_some _ (Heap.get?_push_of_some _ (Heap.get?_push_of_some _ (Heap.get?_push_of_some _ x))))⟩
section
variable {K:PySem.W.Frag} {σ:St} {H:Hp} {Q:VK}
def mw(K:PySem.W.Frag):List V->Hp->(It->Hp->Prop)->Prop:=fun vs H R=>∃a b xs ys,vs=[.ref a,.ref b]/\((aj K H a xs/\aj K H b ys/\R (fu (cG K a) (cG K b)) H)\/(ag K H a xs/\ag K H b ys/\R (fu (cg K a) (cg K b)) H))
def oY(K:PySem.W.Frag)(ta:TA):TI:=fun σ H R=>ta σ H fun vs H1=>mw K vs H1 R
theorem zI{X:Cx}{elts:List Expr}{kk:Nat}{ps:Pos}(K:PySem.W.Frag){a b:Expr}{ta:TA}{p pos:Pos}(hg:Gl X "zip")(hm:X.mg "zip" = none)(ha:PA X [a,b] ta)(hK:X.K=K:=by rfl)(hs:starEach [a,b] X.env=[(false,eval a X.env),(false,eval b X.env)]:=by rfl)(hs2:starEach [b] X.env=[(false,eval b X.env)]:=by rfl):
  PI X (.Tuple elts kk ps) (.Call (.Name "zip" p) [a,b] [] pos) (oY K ta):=by
 subst hK
 intro pins s σ H R I h
 refine Call_ (eo I hg hm PyProof.Rows.boot_zip (PyProof.Rows.callWith_type1 (az (ha pos pins s σ H _ I h) fun us s1 ⟨vs,H1,I1,r1,q1⟩=>?_) (by rw[hs,hs2]) (by rw[hs2];rfl)))
 obtain⟨l,m,xs,ys,e,q1⟩:=q1
 subst e
 cases r1 with
 | cons r rr=>
  cases rr with
  | cons r' rr=>
   cases rr
   cases r
   cases r'
   have mk:∀{J1 J2:It} {t1 t2:Nat->Heap->Prop},Sub X.prog X.w X.K J1 s1.heap.objs.size t1->Sub X.prog X.w X.K J2 (s1.heap.objs.size+1) t2->∀h',IsZip h' (s1.heap.objs.size+4) (s1.heap.objs.size+2) (s1.heap.objs.size+3) .none->IsPair h' (s1.heap.objs.size+2) (.ref s1.heap.objs.size) (.ref (s1.heap.objs.size+1)) →
     IsPair h' (s1.heap.objs.size+3) .none .none->t1 0 h'->t2 0 h'->(∀c o,s1.heap.get? c=some o->h'.get? c=some o)->R (fu J1 J2) H1->wpAny (model X.prog X.w) X.A (pyIter (.ref (s1.heap.objs.size+4))) (lA X pins σ (.Tuple elts kk ps) R) X.xe { s1 with heap:=h' }:=by
    intro J1 J2 t1 t2 S1 S2 h' gz gI gO g1 g2 k q
    refine wpAny_pyIter_zip (s:={ s1 with heap:=h' }) gz ?_
    have N:Apart (s1.heap.objs.size+4) (s1.heap.objs.size+2) (s1.heap.objs.size+3) s1.heap.objs.size (s1.heap.objs.size+1):=by
     constructor<;>(intro h;have h':@Eq Nat _ _:=h;omega)
    refine⟨s1.heap.objs.size+4,[s1.heap.objs.size+4,s1.heap.objs.size+2,s1.heap.objs.size+3,s1.heap.objs.size,s1.heap.objs.size+1],_,_,H1,rfl,I1.kept (t':=s1.toks) k,AS S1 S2 N,⟨gz,gI,⟨_,_,gO⟩,g1,g2⟩,fun b hb=>?_,q⟩
    have le:@LE.le Nat _ s1.heap.objs.size b:=by
     simp only[List.mem_cons,List.not_mem_nil,or_false]at hb
     rcases hb with rfl | rfl | rfl | rfl | rfl
     ·exact Nat.le_add_right _ _
     ·exact Nat.le_add_right _ _
     ·exact Nat.le_add_right _ _
     ·exact Nat.le_refl _
     ·exact Nat.le_add_right _ _
    exact I1.fpOk le (I1.hok.fresh le)
   rcases q1 with⟨ga,gb,q⟩ | ⟨ga,gb,q⟩
   ·obtain⟨its,_,p1,_⟩:=I1.tuple ga
    obtain⟨its2,_,p2,_⟩:=I1.tuple gb
    exact AI (show s1.heap.IsTuple l its.toArray from p1) (show s1.heap.IsTuple m its2.toArray from p2) fun h' gz gI gO g1 g2 k=>mk (sI l _) (sI m _) h' gz gI gO g1 g2 k q
   ·obtain⟨its,_,p1,_⟩:=I1.list ga
    obtain⟨its2,_,p2,_⟩:=I1.list gb
    exact call_zip_2 p1.isList p2.isList fun h' gz gI gO g1 g2 _ k=>mk (uM l _) (uM m _) h' gz gI gO g1 g2 k q
theorem rd_zip{a:TA}{R:It->Hp->Prop}(h:a σ H fun vs H1=>mw K vs H1 R):oY K a σ H R:=h
theorem Bb{a b:Addr}{xs ys:List V}{R:It->Hp->Prop}(ha:ag K H a xs)(hb:ag K H b ys)(h:R (fu (cg K a) (cg K b)) H):mw K [.ref a,.ref b] H R:=⟨a,b,xs,ys,rfl,.inr ⟨ha,hb,h⟩⟩
theorem Bg{a b:Addr}{xs ys:List V}{n:Nat}{js:List Nat}{g:TG}{tc:TT}{te:TE}(Pv:Nat->List V->Hp->Prop)(hz:xs.length<=sizeLine)(h0:Pv 0 [] H)(hl:∀i zs H,Pv i zs H->aj K H a xs/\aj K H b ys/\zs.length<=i)
  (hs:∀i u v zs H p H',xs[i]?=some u->ys[i]?=some v->Pv i zs H->Ext H H'->H' p=some (.tup [u,v])->H p=none->g (.ref p) (cq n js σ) H' fun σ2 H3=>tc σ2 H3 fun b H4=>if b=true then te σ2 H4 fun v H5=>Pv (i+1) (zs++[v]) H5 else Pv (i+1) zs H4)
  (hd:∀zs H p,Pv (min xs.length ys.length) zs H->H p=none->Q (.ref p) (upd H p (.lst zs))):fD (fu (cG K a) (cG K b)) n js g tc te σ H Q:=by
 refine⟨fun i m zs H=>m=min xs.length ys.length-i/\i<=min xs.length ys.length/\Pv i zs H,⟨min xs.length ys.length,by simp,Nat.zero_le _,h0⟩,?_⟩
 rintro i m zs H ⟨rfl,hi,p⟩
 obtain⟨qa,qb,ql⟩:=hl i zs H p
 by_cases hlt:i<min xs.length ys.length
 ·have hx:i<xs.length:=by omega
  have hy:i<ys.length:=by omega
  refine .inr ⟨⟨⟨xs,xs[i],qa,by simp[hx]⟩,⟨ys,ys[i],qb,by simp[hy]⟩⟩,by omega,Pv (i+1),fun zs' H' p'=>⟨min xs.length ys.length-(i+1),by omega,rfl,hlt,p'⟩,fun x H' y=>?_⟩
  obtain⟨pp,u,v,rfl,hn,rfl,yu,yv⟩:=y
  exact hs i u v zs H pp _ (yu.2 xs qa) (yv.2 ys qb) p (cb hn) aY hn
 ·have e:i=min xs.length ys.length:=by omega
  refine .inl ⟨?_,fun p' hp=>hd zs H p' (e ▸ p) hp⟩
  by_cases h:xs.length<=i
  ·exact .inl ⟨xs,qa,h⟩
  ·exact .inr ⟨⟨xs,xs[i]'(by omega),qa,List.getElem?_eq_getElem (by omega)⟩,⟨ys,qb,by omega⟩⟩
theorem Ac{a b:Addr}{xs ys:List V}{n:Nat}{js:List Nat}{g:TG}{tc:TT}{te:TE}(Pv:Nat->List V->Hp->Prop)(hz:xs.length<=sizeLine)(h0:Pv 0 [] H)(hl:∀i zs H,Pv i zs H->ag K H a xs/\ag K H b ys/\zs.length<=i)
  (hs:∀i u v zs H p H',xs[i]?=some u->ys[i]?=some v->Pv i zs H->Ext H H'->H' p=some (.tup [u,v])->H p=none->g (.ref p) (cq n js σ) H' fun σ2 H3=>tc σ2 H3 fun b H4=>if b=true then te σ2 H4 fun v H5=>Pv (i+1) (zs++[v]) H5 else Pv (i+1) zs H4)
  (hd:∀zs H p,Pv (min xs.length ys.length) zs H->H p=none->Q (.ref p) (upd H p (.lst zs))):fD (fu (cg K a) (cg K b)) n js g tc te σ H Q:=by
 refine⟨fun i m zs H=>m=min xs.length ys.length-i/\i<=min xs.length ys.length/\Pv i zs H,⟨min xs.length ys.length,by simp,Nat.zero_le _,h0⟩,?_⟩
 rintro i m zs H ⟨rfl,hi,p⟩
 obtain⟨qa,qb,ql⟩:=hl i zs H p
 by_cases hlt:i<min xs.length ys.length
 ·have hx:i<xs.length:=by omega
  have hy:i<ys.length:=by omega
  refine .inr ⟨⟨⟨xs,xs[i],qa,by simp[hx]⟩,⟨ys,ys[i],qb,by simp[hy]⟩⟩,by omega,Pv (i+1),fun zs' H' p'=>⟨min xs.length ys.length-(i+1),by omega,rfl,hlt,p'⟩,fun x H' y=>?_⟩
  obtain⟨pp,u,v,rfl,hn,rfl,yu,yv⟩:=y
  exact hs i u v zs H pp _ (yu.2 xs qa) (yv.2 ys qb) p (cb hn) aY hn
 ·have e:i=min xs.length ys.length:=by omega
  refine .inl ⟨?_,fun p' hp=>hd zs H p' (e ▸ p) hp⟩
  by_cases h:xs.length<=i
  ·exact .inl ⟨xs,qa,h⟩
  ·exact .inr ⟨⟨xs,xs[i]'(by omega),qa,List.getElem?_eq_getElem (by omega)⟩,⟨ys,qb,by omega⟩⟩
end
theorem yF{K:PySem.W.Frag}{H:Hp}{Q:VK}{p:Addr}{ys:List V}(e:aj K H p ys)(h:dh H (.lst ys) Q):ma K [.ref p] H Q:=⟨p,ys,rfl,.inr e,h⟩
end L2
set_option Elab.async false
set_option linter.all false
set_option maxRecDepth 100000
set_option maxHeartbeats 4000000
namespace L2
open PySem PySem.Spec PyProof.Rows
mutual
inductive LitE:Expr->TE->Prop
 | non {j pos}:LitE (.Constant .none j pos) (tC .non)
 | bl {b j pos}:LitE (.Constant (.bool b) j pos) (tC (.bl b))
 | int {i j pos}:LitE (.Constant (.int i) j pos) (tC (.int i))
 | str {x j pos}:LitE (.Constant (.str x) j pos) (tC (.str x))
 | tup {es ta k pos}:LitsE es ta->LitE (.Tuple es k pos) (mz ta)
inductive LitsE:List Expr->TA->Prop
 | nil:LitsE [] nK
 | cons {e te es ta}:LitE e te->LitsE es ta->LitsE (e::es) (jM te ta)
end
theorem LitE.star{e:Expr}{te:TE}(h:LitE e te)(es:List Expr)(env:Env):starEach (e::es) env=(false,eval e env)::starEach es env:=by
 cases h<;>rfl
end L2
set_option Elab.async false
set_option linter.all false
set_option maxRecDepth 100000
set_option maxHeartbeats 4000000
namespace L2
open PySem PySem.Spec PyProof.Rows
section
variable {X:Cx} {pins:List (Addr×Obj)} {σ:St} {H:Hp} {s:Shared}
end
section
variable {X:Cx} {pins:List (Addr×Obj)} {σ:St} {H:Hp} {s:Shared}
end
end L2
set_option Elab.async false
set_option linter.all false
set_option maxRecDepth 100000
set_option maxHeartbeats 4000000
namespace L2
open PySem PySem.Spec PyProof.Rows
section
variable {P:Program} {w:World} {K:PySem.W.Frag} {mg:Str->Option Value} {base:Heap}
end
end L2
set_option Elab.async false
set_option linter.all false
set_option maxRecDepth 100000
set_option maxHeartbeats 4000000
namespace L2
open PySem PySem.Spec PyProof.Rows
section
variable {prog:Program} {w:World} {A:Around} {E:Value->Shared->Prop}
theorem rp{it l:Addr}{ys:Array Value}(ne:l≠it):∀(n i:Nat) (s:Shared) (Q:List Value->Shared->Prop),s.heap.IsListIter it l i->s.heap.IsList l ys->i+n<=ys.size →
  (∀h',h'.IsListIter it l (i+n)->Heap.SameBut it s.heap h'->Q ((ys.toList.drop i).take n) { s with heap:=h' })->wpAny (model prog w) A (draw (.ref it) n) Q E s
 | 0,i,s,Q,gi,_,_,q=>by
  show wpAny _ _ (pure []) Q E s
  exact wpAny_pure (by simpa using q s.heap gi (Heap.SameBut.refl ..))
 | n+1,i,s,Q,gi,gl,le,q=>by
  have lt:i<ys.size:=by omega
  show wpAny _ _ (pyNext (Value.ref it) >>= _) Q E s
  refine wpAny_bind (wpAny_pyNext_list_item gi gl (x:=ys[i]) (by simp[lt]) fun k1 g1 b1=>?_)
  refine wpAny_bind (wpAny_holding (rp ne n (i+1) _ _ g1 (gl.extBut b1.extBut ne) (by omega) fun k2 g2 b2=>wpAny_pure ?_))
  have e:ys.toList.drop i=ys[i]::ys.toList.drop (i+1):=by simp[List.drop_eq_getElem_cons,lt]
  have:=q k2 (by rw[show i+(n+1)=i+1+n by omega];exact g2) (b1.trans b2)
  rw[e,List.take_succ_cons]at this
  exact this
theorem zm{s:Shared}{l:Addr}{ys:Array Value}{Q:List Value->Shared->Prop}(hA:A.handled=none)(gl:s.heap.IsList l ys)
  (q:∀h',Heap.ExtBut s.heap.objs.size s.heap h'->Q ys.toList { s with heap:=h' }):wpAny (model prog w) A (unpackItems (.ref l) ys.size none) Q E s:=by
 have lt:l≠s.heap.objs.size:=by obtain⟨o,e,_⟩:=gl;exact Nat.ne_of_lt (Heap.lt_size e)
 unfold unpackItems
 refine wpAny_bind ?_
 unfold notIterableAtAll
 refine wpAny_bind (wpAny_specialOf gl.typeIs slot_list_iter.lookup ?_)
 refine wpAny_pure ?_
 simp only[Bool.false_eq_true,if_false]
 refine wpAny_bind (wpAny_holding (wpAny_pyIter_list gl ?_))
 refine wpAny_bind (wpAny_holding (rp lt ys.size 0 _ _ ⟨_,Heap.get?_push_size _ rfl,rfl,rfl⟩ (gl.push _) (by omega) fun k1 g1 b1=>?_))
 rw[show List.take ys.size (List.drop 0 ys.toList)=ys.toList by rw[List.drop_zero];exact List.take_of_length_le (by simp),if_neg (by simp)]
 refine wpAny_bind (wpAny_holding (wpAny_pyNext_list_end hA g1 ((gl.push _).extBut b1.extBut lt) (by simp) fun k2 b2=>?_))
 simp only[Option.isSome_none,Bool.false_eq_true,if_false]
 exact wpAny_pure (q k2 fun b o nb e=>b2 b o nb (b1.extBut b o nb (Heap.get?_push_of_some _ e)))
theorem Au{s:Shared}{env:Env}{es:List Expr}{k:Nat}{pos:Pos}{l:Addr}{ys:Array Value}{Q:Unit->Shared->Prop}(hA:A.handled=none)(gl:s.heap.IsList l ys)(hn:(assignEach es env).length=ys.size)(hst:(assignEach es env).findIdx? (·.1)=none)
  (h:∀h',Heap.ExtBut s.heap.objs.size s.heap h'->wpAny (model prog w) A (assignInOrder ((assignEach es env).map (·.2)) ys.toList) Q E { s with heap:=h' }):wpAny (model prog w) A (assign (.Tuple es k pos) env (.ref l)) Q E s:=by
 rw[arm_assign_Tuple]
 refine wpAny_bind (wpAny_standAt ?_)
 unfold unpack
 rw[hn,hst]
 exact wpAny_bind (wpAny_holding (zm hA gl h))
end
section
variable {X:Cx} {pos:Pos}
def sF(K:PySem.W.Frag)(n:Nat)(t:cO):TG:=fun v σ H Q=>∃a xs,v=.ref a/\ag K H a xs/\xs.length=n/\t xs σ H Q
theorem wj{es:List Expr}{k:Nat}{t:cO}{n:Nat}(K:PySem.W.Frag)(hc:X.calm=true)(h:gQ X es t)(hK:X.K=K:=by rfl)
  (hn:(assignEach es X.env).length=n:=by rfl) (hst:(assignEach es X.env).findIdx? (·.1)=none:=by rfl):PG X (.Tuple es k pos) (sF K n t):=by
 subst hK
 intro pins s σ H v u Q I r hw
 obtain⟨a,xs,e1,hq,hl,hw⟩:=hw
 subst e1
 cases r
 obtain⟨its,rv,ht,hz⟩:=I.list hq
 refine Au (I.ok.hd hc) ht.isList (by simp[hn,←hl,rv.length]) hst fun h' hx=>?_
 have I1:Inv X pins σ H { s with heap:=h' }:=I.kept (t':=s.toks) fun b o e=>hx b o (Nat.ne_of_lt (Heap.lt_size e)) e
 exact h pins _ σ H xs _ Q I1 (by simpa using rv) hw
end
theorem vJ{K:PySem.W.Frag}{σ:St}{H:Hp}{n:Nat}{g:cO}{a:Addr}{xs:List V}{R:St->Hp->Prop}(e:ag K H a xs)(hl:xs.length=n)(h:g xs σ H R):sF K n g (.ref a) σ H R:=⟨a,xs,rfl,e,hl,h⟩
theorem rd_par{i j:Nat}{ta:TA}{D:Ends}{σ:St}{H:Hp}(h:ta σ H fun vs H1=>∃v w,vs=[v,w]/\D.nx ((σ.set i (some v)).set j (some w)) H1):rL i j ta D σ H:=h
theorem rd_par2{v w:V}{R:V->V->Prop}(h:R v w):∃a b,[v,w]=[a,b]/\R a b:=⟨v,w,rfl,h⟩
end L2
set_option Elab.async false
set_option linter.all false
set_option maxRecDepth 100000
set_option maxHeartbeats 4000000
namespace L2
open PySem PySem.Spec PyProof.Rows
section
variable {κ:Type} [DecidableEq κ]
def cc(kvs:List (κ×V))(k:κ):Option V:=(kvs.find? fun kv=>decide (kv.1=k)).map (·.2)
theorem wR{p:κ×V}{r:List (κ×V)}{k:κ}(e:p.1=k):cc (p::r) k=some p.2:=by simp[cc,List.find?_cons,e]
theorem vN{p:κ×V}{r:List (κ×V)}{k:κ}(e:¬p.1=k):cc (p::r) k=cc r k:=by simp[cc,List.find?_cons,e]
theorem dU.isSome_eq{o:Option V}{u:Option Value}(r:dU o u):o.isSome=u.isSome:=by
 cases o with
 | none=>cases u with
  | none=>rfl
  | some _=>exact(show False from r).elim
 | some _=>cases u with
  | none=>exact(show False from r).elim
  | some _=>rfl
theorem KV.val{kvs:List (κ×V)}{vs:List (κ×Value)}(r:KV kvs vs)(k:κ):dU (cc kvs k) (valueAt vs k):=by
 unfold KV at r
 induction r with
 | nil=>exact True.intro
 | @cons p q ps qs h t ih=>
  obtain⟨h1,h2⟩:=h
  by_cases e:p.1=k
  ·have e':q.1=k:=h1.symm.trans e
   have b:valueAt (q::qs) k=some q.2:=by simp[valueAt,List.find?_cons,e']
   rw[wR e,b];exact h2
  ·have e':¬q.1=k:=fun z=>e (h1.trans z)
   have b:valueAt (q::qs) k=valueAt qs k:=by simp[valueAt,List.find?_cons,e']
   rw[vN e,b];exact ih
theorem KV.keys{kvs:List (κ×V)}{vs:List (κ×Value)}(r:KV kvs vs):kvs.map (·.1)=vs.map (·.1):=by
 unfold KV at r
 induction r with
 | nil=>rfl
 | cons h t ih=>rw[List.map_cons,List.map_cons,ih,h.1]
end
theorem mZ{P:Program}{w:World}{k:Key}{u:Value}(r:RelV (kV k) u):(aM P w).is k u=true:=by
 cases k with
 | inl i=>obtain⟨t,e⟩:=(show ∃t,u=Value.int i t from r);subst e;exact vj P w i t
 | inr x=>obtain⟨t,e⟩:=(show ∃t,u=Value.str x t from r);subst e;exact lN P w x t
theorem uQ{P:Program}{w:World}:∀{ks:List Key} {us:List Value},Vals (ks.map kV) us->ItemsAre (aM P w) ks us
 | [],_,r=>by rw[List.map_nil]at r;cases r;exact .nil
 | k::ks,_,r=>by
  rw[List.map_cons]at r
  cases r with
  | cons h t=>exact .cons (mZ h) (uQ t)
section
variable {P:Program} {w:World} {H:Hp} {h:Heap} {a:Addr}
end
section
variable {X:Cx} {pins:List (Addr×Obj)} {σ:St} {H:Hp} {s:Shared} {a:Addr} {y v:V} {u r:Value} {o:Option V} {A:Around} {E:Value->Shared->Prop}
end
section
variable {X:Cx} {pins:List (Addr×Obj)} {σ:St} {H:Hp} {s:Shared} {a:Addr} {kvs:List (Key×V)} {k:Key} {u:Value} {A:Around} {E:Value->Shared->Prop}
end
def oE(i:Expr):Prop:=∀ov iv,subscripted i false ov iv=operate [ov,iv] (getItem ov iv)
theorem wF{prog:Program}{w:World}{A:Around}{E:Value->Shared->Prop}{s:Shared}{env:Env}{value slice:Expr}{pos:Pos}{T id:String}{Q:Value->Shared->Prop}
  (hl:typeLookup (.type T) "__getitem__" = pure (some (.builtin id))) (hs:oE slice)
  (h:wpAny (model prog w) A (eval value env) (fun o s₁=>wpAny (model prog w) A (eval slice env) (fun i s₂=>s₂.TypeIs o T/\wpAny (model prog w) A (getItem o i) Q E s₂) E s₁) E s) :
  wpAny (model prog w) A (eval (.Subscript value slice pos) env) Q E s:=by
 refine Subscript_ (wpAny_mono h (fun o s₁ h₁=>wpAny_mono h₁ (fun i s₂ h₂=>?_) fun _ _ x=>x) fun _ _ x=>x)
 obtain⟨hT,h₂⟩:=h₂
 unfold subscriptTail
 refine wpAny_bind ?_
 rw[getitemInPython_of_ne hT.not_modules]
 refine wpAny_bind (wpAny_specialOf hT hl ?_)
 have fin:wpAny (model prog w) A (subscripted slice false o i) (fun r s₃=>wpAny (model prog w) A (letTemporaryGo value o r >>= fun _=>pure r) Q E s₃) E s₂:=by
  rw[hs o i]
  exact wpAny_operating (wpAny_mono h₂ (fun r s₃ h₃=>wpAny_bind (wpAny_letTemporaryGo (wpAny_pure h₃))) fun _ _ x=>x)
 first
  | exact wpAny_pure (wpAny_bind fin)
  | exact wpAny_bind (wpAny_pure (wpAny_bind fin))
  | exact wpAny_bind fin
section
variable {X:Cx} {o i e value:Expr} {pos pos' tpos:Pos} {td ty tv:TE}
end
section
variable {X:Cx} {pos:Pos}
end
section
variable {X:Cx} {pins:List (Addr×Obj)} {σ:St} {H:Hp} {s:Shared} {a:Addr} {y d:V} {u r:Value} {o:Option V} {A:Around} {E:Value->Shared->Prop}
end
section
variable {X:Cx} {o e f:Expr} {apos cpos:Pos} {td ty tx:TE}
end
section
variable {X:Cx} {pins:List (Addr×Obj)} {σ:St} {H:Hp} {s:Shared} {a:Addr} {kvs:List (Key×V)} {A:Around} {E:Value->Shared->Prop}
end
section
variable {X:Cx} {pins:List (Addr×Obj)} {σ:St} {H:Hp} {s:Shared} {a:Addr} {y:V} {u:Value} {A:Around} {E:Value->Shared->Prop}
end
end L2
namespace L2
open PySem PySem.Spec PyProof.Rows
section
variable {X:Cx}
end
section
variable {κ:Type} [DecidableEq κ]
end
end L2
set_option Elab.async false
set_option linter.all false
set_option maxRecDepth 100000
set_option maxHeartbeats 4000000
namespace L2
open PySem PySem.Spec PyProof.Rows
section
variable {prog:Program} {w:World} {A:Around} {E:Value->Shared->Prop} {s:Shared} {dd:Option Addr}
end
section
variable {M:Model} {A:Around} {E:Value->Shared->Prop} {s:Shared} {dd:Option Addr}
end
end L2
set_option Elab.async false
set_option linter.all false
set_option maxRecDepth 100000
set_option maxHeartbeats 4000000
namespace L2
open PySem PySem.Spec PyProof.Rows
section
variable {P:Program} {w:World} {K:PySem.W.Frag} {mg:Str->Option Value} {base:Heap} {N:List Str} {qual:Str} {scope:Scope} {f:Addr} {cd:Value} {A:Around} {outer:List Env} {s₀:Shared} {H₀:Hp} {E:XK}
end
end L2
set_option Elab.async false
set_option linter.all false
set_option maxRecDepth 100000
set_option maxHeartbeats 4000000
namespace L2
open PySem PySem.Spec PyProof.Rows
section
variable {prog:Program} {w:World} {A:Around} {E:Value->Shared->Prop} {K:PySem.W.Frag} {x D:Addr} {ox:Obj} {s:Shared}
end
section
variable {X:Cx} {pins:List (Addr×Obj)} {σ:St} {H:Hp} {s:Shared} {x:Addr} {oe:Obj}
end
section
variable {P:Program} {w:World} {K:PySem.W.Frag} {mg:Str->Option Value} {base:Heap} {N:List Str} {qual:Str} {scope:Scope} {f:Addr} {cd:Value} {A:Around} {outer:List Env} {s₀:Shared} {H₀:Hp} {E:XK}
end
section
end
section
variable {P:Program} {w:World} {K:PySem.W.Frag} {mg:Str->Option Value} {base:Heap} {N:List Str} {qual:Str} {scope:Scope} {f:Addr} {cd:Value} {A:Around} {outer:List Env} {s₀:Shared} {H₀:Hp} {E:XK}
end
section
variable {K:PySem.W.Frag} {D:Ends} {σ:St} {H:Hp} {Q:VK} {E:XK} {C x:Addr}
end
section
variable {K:PySem.W.Frag} {D:Ends} {σ:St} {H:Hp} {E:St->XK} {C:Addr} {i:Nat} {t u tb:Ends->(St->XK)->St->Hp->Prop} {ts:Addr->Addr->Option Addr->TS} {c:TT}
end
end L2
set_option linter.all false
set_option maxRecDepth 100000
namespace Tb
open PySem
def nx(m i:Nat):Nat:=(i*5+1) % (m+1)
def it(m:Nat):Nat->Nat->Nat
 | 0,i=>i
 | n+1,i=>it m n (nx m i)
theorem gR(m:Nat):∀a b i,it m (a+b) i=it m b (it m a i)
 | 0,b,i=>by rw[Nat.zero_add];rfl
 | a+1,b,i=>by rw[Nat.succ_add];exact gR m a b (nx m i)
theorem u9(m n i:Nat):it m (n+1) i=nx m (it m n i):=by rw[gR m n 1 i];rfl
def mP(m:Nat):Nat->Nat->List Nat
 | 0,_=>[]
 | n+1,i=>i::mP m n (nx m i)
theorem tP{m:Nat}:∀{n i j:Nat},j∈mP m n i->∃k,k<n/\it m k i=j
 | 0,_,_,h=>by cases h
 | n+1,i,j,h=>by
  rcases List.mem_cons.mp h with rfl | h
  ·exact⟨0,Nat.succ_pos _,rfl⟩
  ·obtain⟨k,hk,e⟩:=tP h
   exact⟨k+1,Nat.succ_lt_succ hk,e⟩
def good(m:Nat):Bool:=(List.range (m+1)).all (fun j=>(mP m (m+1) 0).contains j) && it m (m+1) 0 == 0
theorem vS:good 7=true:=by decide +kernel
theorem zl:good 31=true:=by decide +kernel
theorem zd:good 127=true:=by decide +kernel
theorem wa:good 511=true:=by decide +kernel
def Full(N:Nat):Prop:=(∀j,j<N->∃k,k<N/\it (N-1) k 0=j)/\it (N-1) N 0=0
theorem jb{m:Nat}(h:good m=true):Full (m+1):=by
 unfold Tb.good at h
 rw[Bool.and_eq_true,List.all_eq_true]at h
 refine⟨fun j hj=>?_,eq_of_beq h.2⟩
 have h1:=h.1 j (List.mem_range.mpr hj)
 rw[List.contains_iff_mem]at h1
 exact tP h1
def co:Nat->Nat
 | 0=>0
 | n+1=>5*co n+1
theorem s9(m:Nat):∀n i,it m n i % (m+1)=(5 ^ n*i+co n) % (m+1)
 | 0,i=>by simp[it,co]
 | n+1,i=>by
  rw[u9]
  unfold nx
  rw[Nat.mod_mod,Nat.add_mod,Nat.mul_mod,s9 m n i,←Nat.mul_mod,←Nat.add_mod]
  congr 1
  show(5 ^ n*i+co n)*5+1=5 ^ (n+1)*i+(5*co n+1)
  rw[Nat.pow_succ,Nat.add_mul]
  have:5 ^ n*i*5=5 ^ n*5*i:=by rw[Nat.mul_assoc,Nat.mul_comm i 5,Nat.mul_assoc]
  omega
theorem nE(m:Nat):∀n i,i<=m->it m n i<=m
 | 0,i,h=>h
 | n+1,i,h=>by
  refine nE m n _ ?_
  unfold nx
  have:=Nat.mod_lt (i*5+1) (show 0<m+1 by omega)
  omega
theorem sJ{m n i:Nat}(h:i<=m):it m n i=(5 ^ n*i+co n) % (m+1):=by
 rw[←s9,Nat.mod_eq_of_lt (Nat.lt_succ_of_le (nE m n i h))]
theorem xG(n:Nat):5 ^ n % 2=1:=by
 induction n with
 | zero=>rfl
 | succ n ih=>rw[Nat.pow_succ,Nat.mul_mod,ih]
theorem oq:∀n,4*co n+1=5 ^ n
 | 0=>rfl
 | n+1=>by
  have:=oq n
  show 4*(5*co n+1)+1=5 ^ (n+1)
  rw[Nat.pow_succ]
  omega
theorem Ao{a N:Nat}(h:a % 2=1)(r:Nat):(a*N+r) % (2*N)=(N+r) % (2*N):=by
 obtain⟨c,rfl⟩:∃c,a=2*c+1:=⟨a / 2,by omega⟩
 have:(2*c+1)*N+r=(N+r)+2*N*c:=by
  rw[Nat.add_mul,Nat.one_mul,Nat.mul_assoc,Nat.mul_comm c N,←Nat.mul_assoc]
  omega
 rw[this,Nat.add_mul_mod_self_left]
theorem two{x N:Nat}(h:x<2*N)(hN:0<N):x=x % N\/x=N+x % N:=by
 rcases Nat.lt_or_ge x N with a | a
 ·exact .inl (Nat.mod_eq_of_lt a).symm
 ·refine .inr ?_
  rw[Nat.mod_eq_sub_mod a,Nat.mod_eq_of_lt (by omega)]
  omega
theorem Full.double{N:Nat}(hN:0<N)(h:Full N)(hc:co N % (2*N)=N):Full (2*N):=by
 obtain⟨h1,h2⟩:=h
 have hm:2*N-1+1=2*N:=by omega
 have hm1:N-1+1=N:=by omega
 have val:∀n i,i<=2*N-1->it (2*N-1) n i=(5 ^ n*i+co n) % (2*N):=fun n i hi=>by rw[sJ hi,hm]
 have eN:it (2*N-1) N 0=N:=by rw[val N 0 (by omega),Nat.mul_zero,Nat.zero_add,hc]
 have up:∀k,it (2*N-1) (N+k) 0=(N+it (2*N-1) k 0) % (2*N):=fun k=>by
  rw[gR,eN,val k N (by omega),val k 0 (by omega),Nat.mul_zero,Nat.zero_add,Ao (xG k)]
  rw[Nat.add_mod_mod]
 refine⟨fun j hj=>?_,?_⟩
 ·obtain⟨k,hk,ek⟩:=h1 (j % N) (Nat.mod_lt _ hN)
  have e1:it (2*N-1) k 0 % N=j % N:=by
   rw[val k 0 (by omega),Nat.mul_zero,Nat.zero_add,Nat.mod_mul_left_mod,←ek,sJ (Nat.zero_le _),hm1,Nat.mul_zero,Nat.zero_add]
  have e2:it (2*N-1) k 0<2*N:=by
   have:=nE (2*N-1) k 0 (Nat.zero_le _)
   omega
  by_cases e:it (2*N-1) k 0=j
  ·exact⟨k,by omega,e⟩
  ·refine⟨N+k,by omega,?_⟩
   rw[up k]
   have t1:=two hj hN
   have t2:=two e2 hN
   rw[e1]at t2
   generalize it (2*N-1) k 0=x at *
   generalize j % N=r at *
   rcases t1 with a | a<;>rcases t2 with b | b
   ·omega
   ·have:N+x=j+2*N:=by omega
    rw[this,Nat.add_mod_right,Nat.mod_eq_of_lt hj]
   ·have:N+x=j:=by omega
    rw[this,Nat.mod_eq_of_lt hj]
   ·omega
 ·rw[show 2*N=N+N by omega,show N+N-1=2*N-1 by omega,up N,eN,show N+N=2*N by omega,Nat.mod_self]
theorem kg{N c:Nat}(h:4*c+1=5 ^ N):co N=c:=by
 have:=oq N
 omega
theorem u5:Full 8:=jb vS
theorem wo:Full 32:=jb zl
theorem xn:Full 128:=jb zd
theorem uj:Full 512:=jb wa
theorem vQ:co 512 % (2*512)=512:=by rw[kg (c:=(5 ^ 512-1) / 4) (by decide +kernel)];decide +kernel
theorem zi:co 1024 % (2*1024)=1024:=by rw[kg (c:=(5 ^ 1024-1) / 4) (by decide +kernel)];decide +kernel
theorem Ag:co 2048 % (2*2048)=2048:=by rw[kg (c:=(5 ^ 2048-1) / 4) (by decide +kernel)];decide +kernel
theorem wc:co 4096 % (2*4096)=4096:=by rw[kg (c:=(5 ^ 4096-1) / 4) (by decide +kernel)];decide +kernel
theorem ot:Full 2048:=Full.double (N:=1024) (by decide) (uj.double (by decide) vQ) zi
theorem yH:Full 8192:=Full.double (N:=4096) (by decide) (ot.double (by decide) Ag) wc
def Mask(m:Nat):Prop:=m=7\/m=31\/m=127\/m=511\/m=2047\/m=8191
theorem Mask.full{m:Nat}(h:Mask m):Full (m+1):=by
 rcases h with rfl | rfl | rfl | rfl | rfl | rfl
 ·exact u5
 ·exact wo
 ·exact xn
 ·exact uj
 ·exact ot
 ·exact yH
theorem rQ{m:Nat}(h:Mask m){j:Nat}(hj:j<=m):∃k,k<=m/\it m k 0=j:=by
 obtain⟨k,hk,e⟩:=h.full.1 j (by omega)
 exact⟨k,by omega,e⟩
theorem round0{m:Nat}(h:Mask m):it m (m+1) 0=0:=h.full.2
theorem reach{m:Nat}(h:Mask m){i j:Nat}(hi:i<=m)(hj:j<=m):∃k,k<=m/\it m k i=j:=by
 obtain⟨a,ha,ea⟩:=rQ h hi
 obtain⟨b,hb,eb⟩:=rQ h hj
 rcases Nat.lt_or_ge b a with hlt | hge
 ·refine⟨m+1-a+b,by omega,?_⟩
  rw[←ea,←gR,show a+(m+1-a+b)=(m+1)+b by omega,gR,round0 h]
  exact eb
 ·refine⟨b-a,by omega,?_⟩
  rw[←ea,←gR,show a+(b-a)=b by omega]
  exact eb
def lp(m:Nat):Nat->Nat×Nat->Nat×Nat
 | 0,s=>s
 | n+1,s=>lp m n (SetTable.leap m s.1 s.2)
theorem mI(m:Nat):∀n s,lp m (n+1) s=SetTable.leap m (lp m n s).1 (lp m n s).2
 | 0,s=>rfl
 | n+1,s=>by
  show lp m (n+1) (SetTable.leap m s.1 s.2)=_
  rw[mI m n]
  rfl
theorem ui(m:Nat):∀n s,(lp m n s).2=s.2 / 32 ^ n
 | 0,s=>by simp[lp]
 | n+1,s=>by
  rw[mI m n s]
  show(lp m n s).2 / 32=_
  rw[ui m n s,Nat.div_div_eq_div_mul,Nat.pow_succ]
theorem tY(m:Nat):∀n s,s.1<=m->(lp m n s).1<=m
 | 0,s,h=>h
 | n+1,s,h=>by
  rw[mI m n s]
  show(_ % (m+1))<=m
  have:=Nat.mod_lt ((lp m n s).1*5+1+(lp m n s).2 / 32) (show 0<m+1 by omega)
  omega
theorem tQ(m:Nat):∀n i,(lp m n (i,0)).1=it m n i
 | 0,i=>rfl
 | n+1,i=>by
  show(lp m n (SetTable.leap m i 0)).1=it m n (nx m i)
  have:SetTable.leap m i 0=(nx m i,0):=rfl
  rw[this]
  exact tQ m n _
theorem tp(m:Nat):∀a b s,lp m (a+b) s=lp m b (lp m a s)
 | 0,b,s=>by rw[Nat.zero_add];rfl
 | a+1,b,s=>by rw[Nat.succ_add];exact tp m a b _
theorem rW{m:Nat}(h:Mask m){i p j:Nat}(hi:i<=m)(hp:p<2 ^ 64)(hj:j<=m):∃n,n<=m+13/\(lp m n (i,p)).1=j:=by
 have hz:(lp m 13 (i,p)).2=0:=by
  rw[ui]
  exact Nat.div_eq_of_lt (Nat.lt_of_lt_of_le hp (by decide))
 obtain⟨k,hk,e⟩:=reach h (tY m 13 (i,p) hi) hj
 refine⟨13+k,by omega,?_⟩
 rw[tp]
 have:lp m 13 (i,p)=((lp m 13 (i,p)).1,0):=by rw[←hz]
 rw[this,tQ]
 exact e
theorem ug(h:Int):SetTable.bits h<2 ^ 64:=by
 unfold SetTable.bits
 have h1:=Int.emod_lt_of_pos h (show(0:Int)<2 ^ 64 by decide)
 have h2:=Int.emod_nonneg h (show(2:Int) ^ 64≠0 by decide)
 omega
def aE(t:SetTable):Nat->SetTable.Probe->SetTable.Probe
 | 0,p=>p
 | n+1,p=>aE t n (t.advance p)
theorem fC(t:SetTable):∀a b p,aE t (a+b) p=aE t b (aE t a p)
 | 0,b,p=>by rw[Nat.zero_add];rfl
 | a+1,b,p=>by rw[Nat.succ_add];exact fC t a b _
def at_(t:SetTable)(s:Nat×Nat):SetTable.Probe:={ j:=s.1,more:=SetTable.runEnd t.mask s.1-s.1,i:=s.1,perturb:=s.2,dummy:=none }
theorem m3(t:SetTable):∀(r:Nat) (p:SetTable.Probe),p.more=r->aE t (r+1) p={ p with j:=(SetTable.leap t.mask p.i p.perturb).1,more:=SetTable.runEnd t.mask (SetTable.leap t.mask p.i p.perturb).1-(SetTable.leap t.mask p.i p.perturb).1,i:=(SetTable.leap t.mask p.i p.perturb).1,perturb:=(SetTable.leap t.mask p.i p.perturb).2 }
 | 0,p,h=>by
  show t.advance p=_
  unfold SetTable.advance
  rw[if_neg (by omega)]
 | r+1,p,h=>by
  show aE t (r+1) (t.advance p)=_
  have e:t.advance p={ p with j:=p.j+1,more:=p.more-1 }:=by
   unfold SetTable.advance
   rw[if_pos (by omega)]
  rw[e,m3 t r _ (by show p.more-1=r;omega)]
theorem wO(t:SetTable)(s:Nat×Nat):∃k,k<=10/\aE t k (at_ t s)=at_ t (SetTable.leap t.mask s.1 s.2):=by
 refine⟨SetTable.runEnd t.mask s.1-s.1+1,?_,?_⟩
 ·unfold SetTable.runEnd
  split<;>omega
 ·exact(m3 t (SetTable.runEnd t.mask s.1-s.1) (at_ t s) rfl).trans rfl
theorem rO(t:SetTable):∀(n:Nat) (s:Nat×Nat),∃k,k<=10*n/\aE t k (at_ t s)=at_ t (lp t.mask n s)
 | 0,s=>⟨0,Nat.le_refl _,rfl⟩
 | n+1,s=>by
  obtain⟨k1,h1,e1⟩:=wO t s
  obtain⟨k2,h2,e2⟩:=rO t n (SetTable.leap t.mask s.1 s.2)
  refine⟨k1+k2,by omega,?_⟩
  rw[fC,e1,e2]
  rfl
theorem yh(t:SetTable)(h:Int):t.probeStart h=at_ t (SetTable.bits h % (t.mask+1),SetTable.bits h):=rfl
theorem Ak{t:SetTable}(hm:Mask t.mask){j:Nat}(hj:j<=t.mask)(h:Int):∃K,K<10*SetTable.turns t.mask/\(aE t K (t.probeStart h)).j=j:=by
 have h1:SetTable.bits h % (t.mask+1)<=t.mask:=by
  have:=Nat.mod_lt (SetTable.bits h) (show 0<t.mask+1 by omega)
  omega
 obtain⟨n,hn,e⟩:=rW hm h1 (ug h) hj
 obtain⟨K,hK,eK⟩:=rO t n (SetTable.bits h % (t.mask+1),SetTable.bits h)
 refine⟨K,by unfold SetTable.turns;omega,?_⟩
 rw[yh,eK]
 exact e
theorem iT{t:SetTable}{j i:Nat}(h:t.slot j=.live i):t.place[i]?=some j:=by
 unfold SetTable.slot at h
 dsimp only at h
 split at h
 ·rename_i hq
  cases h
  exact eq_of_beq hq
 ·split at h<;>cases h
theorem om(j:Nat):SetTable.has #[] j=false:=rfl
theorem mW{t:SetTable}(hd:t.dummies = #[])(j:Nat):t.slot j=.empty\/∃i,t.slot j=.live i:=by
 unfold SetTable.slot
 dsimp only
 split
 ·exact .inr ⟨_,rfl⟩
 ·rw[hd,om]
  exact .inl rfl
theorem uE:∀(n:Nat) (l:List Nat),(∀j,j<n->j∈l)->n<=l.length
 | 0,l,_=>Nat.zero_le _
 | n+1,l,h=>by
  have hn:=h n (Nat.lt_succ_self n)
  have:=uE n (l.erase n) fun j hj=>(List.mem_erase_of_ne (by omega)).mpr (h j (by omega))
  rw[List.length_erase_of_mem hn]at this
  have:0<l.length:=List.length_pos_of_mem hn
  omega
theorem xH{t:SetTable}(hd:t.dummies = #[])(h:t.place.size<=t.mask):∃j,j<=t.mask/\t.slot j=.empty:=by
 rcases Classical.em (∃j,j<=t.mask/\t.slot j=.empty)with h1 | h1
 ·exact h1
 ·exfalso
  have:=uE (t.mask+1) t.place.toList fun j hj=>by
   rcases mW hd j with h2 | ⟨i,h2⟩
   ·exact absurd ⟨j,by omega,h2⟩ h1
   ·have:=iT h2
    rw[←Array.getElem?_toList]at this
    exact List.mem_of_getElem? this
  rw[Array.length_toList]at this
  omega
theorem ip(t:SetTable):∀n p,(aE t n p).dummy=p.dummy
 | 0,p=>rfl
 | n+1,p=>by
  show(aE t n (t.advance p)).dummy=_
  rw[ip t n]
  unfold SetTable.advance
  split<;>rfl
theorem pC{α:Type}:∀{l:List (Option α)} {j:Nat} {k:α},l[j]?=some none->((l.set j (some k)).filterMap id).Perm (k::l.filterMap id)
 | [],j,k,h=>by cases h
 | x::l,0,k,h=>by
  have:x=none:=by simpa using h
  subst this
  exact .refl _
 | x::l,j+1,k,h=>by
  have h':l[j]?=some none:=by simpa using h
  have ih:=pC (k:=k) h'
  cases x with
  | none=>exact ih
  | some y=>exact(List.Perm.cons y ih).trans (.swap _ _ _)
theorem yI{α:Type}(l:List (Option α)):(l.filterMap id).length+(l.filter (·.isNone)).length=l.length:=by
 induction l with
 | nil=>rfl
 | cons x l ih=>
  cases x<;>simp at ih ⊢<;>omega
theorem we{m:Nat}(hm:Mask m)(owner:Array (Option Nat))(hz:owner.size=m+1){j:Nat}(hj:owner[j]?=some none):∀(fuel n i p:Nat),i<=m->n<fuel->(lp m n (i,p)).1=j →
  ∃j',SetTable.layClean.free m owner fuel i p=some j'/\owner[j']?=some none:=by
 intro fuel
 induction fuel with
 | zero=>intro n i p _ h;omega
 | succ fuel ih=>
  intro n i p hi hn he
  unfold SetTable.layClean.free
  split
  ·rename_i k hk
   have h1:=List.find?_some hk
   have h2:=List.mem_range.mp (List.mem_of_find?_eq_some hk)
   refine⟨i+k,rfl,?_⟩
   have hb:i+k<owner.size:=by
    rw[hz]
    unfold SetTable.runEnd at h2
    split at h2<;>omega
   rw[Array.getElem?_eq_getElem hb]
   have:owner.getD (i+k) (some 0)=owner[i+k]:=by
    rw[Array.getD_eq_getD_getElem?,Array.getElem?_eq_getElem hb]
    rfl
   rw[this]at h1
   congr 1
   cases hq:owner[i+k]with
   | none=>rfl
   | some y=>rw[hq]at h1;cases h1
  ·rename_i hk
   cases n with
   | zero=>
    exfalso
    have h0:i=j:=he
    have:=List.find?_eq_none.mp hk 0 (List.mem_range.mpr (by unfold SetTable.runEnd;split<;>omega))
    rw[Nat.add_zero,h0,Array.getD_eq_getD_getElem?,hj]at this
    simp at this
   | succ n=>
    have:=tY m 1 (i,p) hi
    exact ih n (SetTable.leap m i p).1 (SetTable.leap m i p).2 this (by omega) he
def kE(mask:Nat)(acc:Option (Array (Option Nat)×Nat))(h:Int):Option (Array (Option Nat)×Nat):=do
 let (owner,k) ←acc
 let j ←SetTable.layClean.free mask owner (SetTable.turns mask) (SetTable.bits h % (mask+1)) (SetTable.bits h)
 pure (owner.setIfInBounds j (some k),k+1)
theorem u3{l:List (Option Nat)}(h:(l.filterMap id).length<l.length):∃j:Nat,l[j]?=some none:=by
 have:=yI l
 have h1:0<(l.filter (·.isNone)).length:=by omega
 obtain⟨x,hx⟩:=List.exists_mem_of_length_pos h1
 obtain⟨hx1,hx2⟩:=List.mem_filter.mp hx
 have:x=none:=by cases x<;>simp_all
 subst this
 obtain⟨j,hj⟩:=List.getElem?_of_mem hx1
 exact⟨j,hj⟩
theorem lY{α:Type}(xs:Array α)(p:Nat)(x:α):(SetTable.insertAt xs p x).size=xs.size+1:=by
 unfold SetTable.insertAt
 simp
 omega
theorem zV{α:Type}{xs:Array α}{p:Nat}{x e:α}(h:e∈(SetTable.insertAt xs p x).toList):e=x\/e∈xs.toList:=by
 unfold SetTable.insertAt at h
 simp only[Array.toList_append,Array.toList_push,Array.toList_extract,List.mem_append,List.mem_singleton]at h
 rcases h with(h | h) | h
 ·exact .inr (List.mem_of_mem_take (by simpa using h))
 ·exact .inl h
 ·exact .inr (List.mem_of_mem_drop (List.mem_of_mem_take h))
theorem xQ:SetTable.sizeAbove 20-1=31:=by decide +kernel
theorem yK:SetTable.sizeAbove 76-1=127:=by decide +kernel
theorem yS:SetTable.sizeAbove 308-1=511:=by decide +kernel
theorem yN:SetTable.sizeAbove 1228-1=2047:=by decide +kernel
theorem zo:SetTable.sizeAbove 4916-1=8191:=by decide +kernel
end Tb
set_option linter.all false
set_option maxRecDepth 100000
namespace Tb
open PySem
theorem least{P:Nat->Prop}:∀n,P n->∃m,m<=n/\P m/\∀k,k<m->¬P k:=by
 intro n
 induction n using Nat.strongRecOn with
 | ind n ih=>
  intro h
  rcases Classical.em (∃k,k<n/\P k)with⟨k,hk,pk⟩ | hn
  ·obtain⟨m,h1,h2,h3⟩:=ih k hk pk
   exact⟨m,by omega,h2,h3⟩
  ·exact⟨n,Nat.le_refl _,h,fun k hk pk=>hn ⟨k,hk,pk⟩⟩
theorem lV{xs:Array Nat}(h:xs.toList.Pairwise (· < ·)){a b x y:Nat}(ha:xs[a]?=some x)(hb:xs[b]?=some y)(hab:a<b):x<y:=by
 obtain⟨h1,e1⟩:=Array.getElem?_eq_some_iff.mp ha
 obtain⟨h2,e2⟩:=Array.getElem?_eq_some_iff.mp hb
 have:=List.pairwise_iff_getElem.mp h a b (by simpa using h1) (by simpa using h2) hab
 simp only[Array.getElem_toList]at this
 rw[e1,e2]at this
 exact this
theorem lD(xs:Array Nat)(j:Nat)(hs:xs.toList.Pairwise (· < ·)):∀fuel lo hi,hi-lo<=fuel->lo<=hi->hi<=xs.size->(∀k x,k<lo->xs[k]?=some x->x<j)->(∀k x,hi<=k->xs[k]?=some x->j<=x) →
  SetTable.below.go xs j fuel lo hi<=xs.size/\(∀k x,k<SetTable.below.go xs j fuel lo hi->xs[k]?=some x->x<j)/\(∀k x,SetTable.below.go xs j fuel lo hi<=k->xs[k]?=some x->j<=x)
 | 0,lo,hi,h1,h2,h3,h4,h5=>by
  have:lo=hi:=by omega
  subst this
  exact⟨h3,h4,h5⟩
 | fuel+1,lo,hi,h1,h2,h3,h4,h5=>by
  unfold SetTable.below.go
  by_cases hlt:lo<hi
  ·rw[if_pos hlt]
   dsimp only
   have hm:(lo+hi) / 2<xs.size:=by omega
   have em:xs[(lo+hi) / 2]?=some xs[(lo+hi) / 2]:=getElem?_pos xs _ hm
   have eg:xs.getD ((lo+hi) / 2) j=xs[(lo+hi) / 2]:=by
    rw[Array.getD_eq_getD_getElem?,em]
    rfl
   rw[eg]
   by_cases hc:xs[(lo+hi) / 2]<j
   ·rw[if_pos hc]
    refine lD xs j hs fuel _ _ (by omega) (by omega) h3 (fun k x hk ek=>?_) h5
    rcases Nat.lt_or_ge k ((lo+hi) / 2)with a | a
    ·have:=lV hs ek em a
     omega
    ·have:k=(lo+hi) / 2:=by omega
     subst this
     rw[em]at ek
     cases ek
     exact hc
   ·rw[if_neg hc]
    refine lD xs j hs fuel _ _ (by omega) (by omega) (by omega) h4 (fun k x hk ek=>?_)
    rcases Nat.lt_or_ge ((lo+hi) / 2) k with a | a
    ·have:=lV hs em ek a
     omega
    ·have:k=(lo+hi) / 2:=by omega
     subst this
     rw[em]at ek
     cases ek
     omega
  ·rw[if_neg hlt]
   have:lo=hi:=by omega
   subst this
   exact⟨h3,h4,h5⟩
theorem ng{xs:Array Nat}(hs:xs.toList.Pairwise (· < ·))(j:Nat):SetTable.below xs j<=xs.size/\(∀k x,k<SetTable.below xs j->xs[k]?=some x->x<j)/\(∀k x,SetTable.below xs j<=k->xs[k]?=some x->j<=x):=
 lD xs j hs xs.size 0 xs.size (by omega) (Nat.zero_le _) (Nat.le_refl _) (fun k x hk=>by omega) (fun k x hk e=>by
  have:=(Array.getElem?_eq_some_iff.mp e).1
  omega)
theorem slot_mem{t:SetTable}(hs:t.place.toList.Pairwise (· < ·)){j i:Nat}(h:t.place[i]?=some j):t.slot j=.live i:=by
 obtain⟨h1,h2,h3⟩:=ng hs j
 have e:SetTable.below t.place j=i:=by
  have hi:=(Array.getElem?_eq_some_iff.mp h).1
  rcases Nat.lt_or_ge i (SetTable.below t.place j)with a | a
  ·have:=h2 i j a h
   omega
  ·rcases Nat.lt_or_ge (SetTable.below t.place j) i with b | b
   ·have eb:t.place[SetTable.below t.place j]?=some t.place[SetTable.below t.place j]:=getElem?_pos t.place _ (by omega)
    have c1:=h3 _ _ (Nat.le_refl _) eb
    have c2:=lV hs eb h b
    omega
   ·omega
 unfold SetTable.slot
 dsimp only
 rw[e,h,if_pos (beq_self_eq_true _)]
theorem gY{α:Type}(xs:Array α)(p:Nat)(x:α):(SetTable.insertAt xs p x).toList=xs.toList.take p++(x::xs.toList.drop p):=by
 unfold SetTable.insertAt
 rw[Array.toList_append,Array.toList_push,Array.toList_extract,Array.toList_extract]
 show List.take (p-0) (xs.toList.drop 0)++[x]++List.take (xs.size-p) (xs.toList.drop p)=_
 rw[List.take_of_length_le (l:=xs.toList.drop p) (by rw[List.length_drop,Array.length_toList];exact Nat.le_refl _),List.append_assoc]
 rfl
theorem qV{α:Type}(xs:Array α){p:Nat}(hp:p<=xs.size)(x:α)(i:Nat):(SetTable.insertAt xs p x)[i]?=if i<p then xs[i]? else if i=p then some x else xs[i-1]?:=by
 rw[←Array.getElem?_toList,gY,List.getElem?_append,List.length_take,Array.length_toList,show min p xs.size=p by omega]
 by_cases h:i<p
 ·rw[if_pos h,if_pos h,List.getElem?_take_of_lt h,Array.getElem?_toList]
 ·rw[if_neg h,if_neg h]
  by_cases e:i=p
  ·rw[if_pos e,e,Nat.sub_self]
   rfl
  ·rw[if_neg e]
   obtain⟨k,rfl⟩:∃k,i=p+(k+1):=⟨i-p-1,by omega⟩
   rw[show p+(k+1)-p=k+1 by omega,List.getElem?_cons_succ,List.getElem?_drop,Array.getElem?_toList]
   congr 1
theorem vK{xs:Array Nat}(hs:xs.toList.Pairwise (· < ·)){j:Nat}(hn:j∉xs.toList):(SetTable.insertAt xs (SetTable.below xs j) j).toList.Pairwise (· < ·):=by
 obtain⟨h1,h2,h3⟩:=ng hs j
 rw[gY]
 have hs':=hs
 rw[←List.take_append_drop (SetTable.below xs j) xs.toList,List.pairwise_append]at hs'
 rw[List.pairwise_append,List.pairwise_cons]
 refine⟨hs'.1,⟨fun y hy=>?_,hs'.2.1⟩,fun x hx y hy=>?_⟩
 ·obtain⟨k,hk,e⟩:=List.mem_iff_getElem.mp hy
  rw[List.length_drop,Array.length_toList]at hk
  rw[List.getElem_drop,Array.getElem_toList]at e
  have ex:xs[SetTable.below xs j+k]?=some y:=by
   rw[getElem?_pos xs _ (by omega),e]
  have:=h3 _ _ (by omega) ex
  have ne:y≠j:=fun z=>hn (by rw[←z];exact Array.mem_toList_iff.mpr (Array.mem_of_getElem? ex))
  omega
 ·have hxj:x<j:=by
   obtain⟨k,hk,e⟩:=List.mem_iff_getElem.mp hx
   rw[List.length_take,Array.length_toList]at hk
   rw[List.getElem_take,Array.getElem_toList]at e
   exact h2 k x (by omega) (by rw[getElem?_pos xs _ (by omega),e])
  rcases List.mem_cons.mp hy with rfl | hy
  ·exact hxj
  ·exact hs'.2.2 x hx y hy
abbrev tM(m:Nat):SetTable:={ mask:=m,place:=#[],dummies:=#[],finger:=0,led:=false,moves:=0,plain:=false }
def pm(m:Nat)(h:Int)(k:Nat):Nat:=(aE (tM m) k ((tM m).probeStart h)).j
theorem rN(t:SetTable):∀k p,aE t k p=aE (tM t.mask) k p
 | 0,p=>rfl
 | k+1,p=>rN t k _
theorem ue(t:SetTable)(h:Int)(k:Nat):(aE t k (t.probeStart h)).j=pm t.mask h k:=by
 rw[rN]
 rfl
structure TOk(m:Nat)(pl:Array Nat)(hs:Array Int):Prop where
 len:pl.size=hs.size
 inc:pl.toList.Pairwise (· < ·)
 rch:∀(i j:Nat) (h:Int),pl[i]?=some j->hs[i]?=some h->∃K,K<10*SetTable.turns m/\pm m h K=j/\∀k,k<K->pm m h k∈pl.toList
theorem TOk.nil(m:Nat):TOk m #[] #[]:=⟨rfl,.nil,fun i j h e=>by simp at e⟩
theorem TOk.put{m:Nat}{pl:Array Nat}{hs:Array Int}(T:TOk m pl hs){h:Int}{K:Nat}(hK:K<10*SetTable.turns m)(hn:pm m h K∉pl.toList)(hb:∀k,k<K->pm m h k∈pl.toList):
  TOk m (SetTable.insertAt pl (SetTable.below pl (pm m h K)) (pm m h K)) (SetTable.insertAt hs (SetTable.below pl (pm m h K)) h):=by
 have hle:=(ng T.inc (pm m h K)).1
 have more:∀x,x∈pl.toList->x∈(SetTable.insertAt pl (SetTable.below pl (pm m h K)) (pm m h K)).toList:=fun x hx=>by
  rw[gY]
  rw[←List.take_append_drop (SetTable.below pl (pm m h K)) pl.toList]at hx
  rcases List.mem_append.mp hx with a | a
  ·exact List.mem_append_left _ a
  ·exact List.mem_append_right _ (List.mem_cons_of_mem _ a)
 have old:∀(i j:Nat) (h':Int),pl[i]?=some j->hs[i]?=some h'->∃K',K'<10*SetTable.turns m/\pm m h' K'=j/\∀k,k<K'->pm m h' k∈(SetTable.insertAt pl (SetTable.below pl (pm m h K)) (pm m h K)).toList:=fun i j h' e1 e2=>by
  obtain⟨K',h1,h2,h3⟩:=T.rch i j h' e1 e2
  exact⟨K',h1,h2,fun k hk=>more _ (h3 k hk)⟩
 refine⟨by rw[lY,lY,T.len],vK T.inc hn,fun i j h' e1 e2=>?_⟩
 rw[qV pl hle]at e1
 rw[qV hs (by rw[←T.len];exact hle)]at e2
 by_cases c1:i<SetTable.below pl (pm m h K)
 ·rw[if_pos c1]at e1 e2
  exact old i j h' e1 e2
 ·rw[if_neg c1]at e1 e2
  by_cases c2:i=SetTable.below pl (pm m h K)
  ·rw[if_pos c2]at e1 e2
   cases e1
   cases e2
   exact⟨K,hK,rfl,fun k hk=>more _ (hb k hk)⟩
  ·rw[if_neg c2]at e1 e2
   exact old _ j h' e1 e2
theorem xg{t:SetTable}(hd:t.dummies = #[]){j:Nat}(h:t.slot j≠.empty):j∈t.place.toList:=by
 rcases mW hd j with e | ⟨i,e⟩
 ·exact absurd e h
 ·exact Array.mem_toList_iff.mpr (Array.mem_of_getElem? (iT e))
theorem sy{t:SetTable}(hs:t.place.toList.Pairwise (· < ·)){j:Nat}(h:j∈t.place.toList):∃i,t.slot j=.live i/\t.place[i]?=some j:=by
 obtain⟨i,hi⟩:=List.getElem?_of_mem h
 rw[Array.getElem?_toList]at hi
 exact⟨i,slot_mem hs hi,hi⟩
theorem vt{t:SetTable}(hs:t.place.toList.Pairwise (· < ·)){j:Nat}(h:t.slot j=.empty):j∉t.place.toList:=fun hm=>by
 obtain⟨i,e,_⟩:=sy hs hm
 rw[h]at e
 cases e
theorem vG{t:SetTable}(hd:t.dummies = #[])(hm:Mask t.mask)(hp:t.place.size<=t.mask)(h:Int):∃K,K<10*SetTable.turns t.mask/\t.slot (pm t.mask h K)=.empty/\∀k,k<K->t.slot (pm t.mask h k)≠.empty:=by
 obtain⟨j0,hj0,hs0⟩:=xH hd hp
 obtain⟨N,hN,eN⟩:=Ak hm hj0 h
 rw[ue]at eN
 obtain⟨K,h1,h2,h3⟩:=least (P:=fun n=>t.slot (pm t.mask h n)=.empty) N (by show t.slot (pm t.mask h N)=_;rw[eN];exact hs0)
 exact⟨K,by omega,h2,h3⟩
theorem uu{t:SetTable}(hd:t.dummies = #[])(hash:Nat->Int)(h:Int):∀(K fuel:Nat) (p:SetTable.Probe),K<fuel->p.dummy=none->(∀k,k<K->t.slot (aE t k p).j≠.empty) →
  (∃k i,k<K/\SetTable.probe.go t hash h fuel p=some (.candidate (aE t k p).j i (aE t (k+1) p))/\t.slot (aE t k p).j=.live i)\/SetTable.probe.go t hash h fuel p=SetTable.probe.go t hash h (fuel-K) (aE t K p):=by
 intro K
 induction K with
 | zero=>intro fuel p _ _ _;exact .inr rfl
 | succ K ih=>
  intro fuel p hf hp hs
  obtain⟨f,rfl⟩:∃f,fuel=f+1:=⟨fuel-1,by omega⟩
  have h0:t.slot p.j≠.empty:=hs 0 (by omega)
  rcases mW hd p.j with h1 | ⟨i,h1⟩
  ·exact absurd h1 h0
  ·by_cases hq:(hash i == h)=true
   ·refine .inl ⟨0,i,by omega,?_,h1⟩
    conv=>lhs;unfold SetTable.probe.go
    rw[h1]
    dsimp only
    rw[if_pos hq]
    rfl
   ·have e:SetTable.probe.go t hash h (f+1) p=SetTable.probe.go t hash h f (t.advance p):=by
     conv=>lhs;unfold SetTable.probe.go
     rw[h1]
     dsimp only
     rw[if_neg hq]
    rw[e]
    have hp':(t.advance p).dummy=none:=by
     have:=ip t 1 p
     rw[hp]at this
     exact this
    rcases ih f (t.advance p) (by omega) hp' (fun k hk=>hs (k+1) (by omega))with⟨k,i',hk,e',hl⟩ | e'
    ·exact .inl ⟨k+1,i',by omega,e',hl⟩
    ·refine .inr ?_
     rw[e',show f+1-(K+1)=f-K by omega]
     rfl
theorem xX{t:SetTable}(hd:t.dummies = #[])(hash:Nat->Int)(h:Int){K fuel:Nat}{p:SetTable.Probe}(hf:K<fuel)(hp:p.dummy=none)(hs:∀k,k<K->t.slot (aE t k p).j≠.empty)(he:t.slot (aE t K p).j=.empty):
  (∃k i,k<K/\SetTable.probe.go t hash h fuel p=some (.candidate (aE t k p).j i (aE t (k+1) p))/\t.slot (aE t k p).j=.live i)\/SetTable.probe.go t hash h fuel p=some (.empty (aE t K p).j none):=by
 rcases uu hd hash h K fuel p hf hp hs with a | a
 ·exact .inl a
 ·refine .inr ?_
  rw[a]
  obtain⟨f,hf'⟩:∃f,fuel-K=f+1:=⟨fuel-K-1,by omega⟩
  rw[hf']
  unfold SetTable.probe.go
  rw[he]
  dsimp only
  rw[ip,hp]
theorem u4{t:SetTable}(hd:t.dummies = #[])(hash:Nat->Int)(h:Int){K fuel i0:Nat}{p:SetTable.Probe}(hf:K<fuel)(hp:p.dummy=none)(hs:∀k,k<K->t.slot (aE t k p).j≠.empty)(he:t.slot (aE t K p).j=.live i0)(hh:hash i0=h):
  ∃k i,k<=K/\SetTable.probe.go t hash h fuel p=some (.candidate (aE t k p).j i (aE t (k+1) p))/\t.slot (aE t k p).j=.live i:=by
 rcases uu hd hash h K fuel p hf hp hs with⟨k,i,hk,e,hl⟩ | a
 ·exact⟨k,i,by omega,e,hl⟩
 ·refine⟨K,i0,Nat.le_refl _,?_,he⟩
  rw[a]
  obtain⟨f,hf'⟩:∃f,fuel-K=f+1:=⟨fuel-K-1,by omega⟩
  rw[hf']
  conv=>lhs;unfold SetTable.probe.go
  rw[he]
  dsimp only
  rw[if_pos (by rw[hh];exact beq_self_eq_true _)]
  rw[fC]
  rfl
theorem oG(t:SetTable):∀(k:Nat) (p:SetTable.Probe),k<=p.more->aE t k p={ p with j:=p.j+k,more:=p.more-k }
 | 0,p,h=>rfl
 | k+1,p,h=>by
  show aE t k (t.advance p)=_
  have e:t.advance p={ p with j:=p.j+1,more:=p.more-1 }:=by
   unfold SetTable.advance
   rw[if_pos (by omega)]
  rw[e,oG t k _ (by show k<=p.more-1;omega)]
  simp only[SetTable.Probe.mk.injEq,true_and,and_true]
  omega
theorem AM{m i:Nat}(h:i<=m):SetTable.runEnd m i<=m/\i<=SetTable.runEnd m i/\SetTable.runEnd m i<=i+9:=by
 unfold SetTable.runEnd
 split<;>omega
theorem mR{t:SetTable}{i p k:Nat}(h:k<=SetTable.runEnd t.mask i-i):(aE t k (at_ t (i,p))).j=i+k:=by
 rw[oG t k _ h]
 rfl
theorem sC{owner:Array (Option Nat)}{j:Nat}(hj:j<owner.size)(h:(owner.getD j (some 0)).isNone=false):∃x,owner[j]?=some (some x):=by
 rw[Array.getD_eq_getD_getElem?,getElem?_pos owner j hj]at h
 rw[getElem?_pos owner j hj]
 cases e:owner[j]with
 | none=>rw[e]at h;cases h
 | some x=>exact⟨x,rfl⟩
theorem sv{t:SetTable}(owner:Array (Option Nat))(hz:owner.size=t.mask+1):∀(fuel i p j':Nat),i<=t.mask->SetTable.layClean.free t.mask owner fuel i p=some j' →
  ∃K,K<10*fuel/\(aE t K (at_ t (i,p))).j=j'/\∀k,k<K->∃x,owner[(aE t k (at_ t (i,p))).j]?=some (some x)
 | 0,i,p,j',hi,h=>by cases h
 | fuel+1,i,p,j',hi,h=>by
  obtain⟨r1,r2,r3⟩:=AM hi
  unfold SetTable.layClean.free at h
  split at h
  ·rename_i k0 hk
   cases h
   rw[List.find?_range_eq_some]at hk
   obtain⟨hk1,hk2,hk3⟩:=hk
   have hk2:=List.mem_range.mp hk2
   refine⟨k0,by omega,mR (by omega),fun k hk=>?_⟩
   rw[mR (by omega)]
   refine sC (by omega) ?_
   have:=hk3 k hk
   simpa using this
  ·rename_i hk
   rw[List.find?_range_eq_none]at hk
   have hnx:(SetTable.leap t.mask i p).1<=t.mask:=by
    show(_ % (t.mask+1))<=t.mask
    have:=Nat.mod_lt (i*5+1+p / 32) (show 0<t.mask+1 by omega)
    omega
   obtain⟨K,h1,h2,h3⟩:=sv owner hz fuel _ _ j' hnx h
   have hr:aE t (SetTable.runEnd t.mask i-i+1) (at_ t (i,p))=at_ t (SetTable.leap t.mask i p):=(m3 t (SetTable.runEnd t.mask i-i) (at_ t (i,p)) rfl).trans rfl
   refine⟨SetTable.runEnd t.mask i-i+1+K,by omega,?_,fun k hk'=>?_⟩
   ·rw[fC,hr]
    exact h2
   ·rcases Nat.lt_or_ge k (SetTable.runEnd t.mask i-i+1)with a | a
    ·rw[mR (by omega)]
     refine sC (by omega) ?_
     have:=hk k (by omega)
     simpa using this
    ·obtain⟨k',rfl⟩:∃k',k=SetTable.runEnd t.mask i-i+1+k':=⟨k-(SetTable.runEnd t.mask i-i+1),by omega⟩
     rw[fC,hr]
     exact h3 k' (by omega)
def mM(m:Nat)(F:Nat->Int)(owner:Array (Option Nat)):Prop:=∀j x:Nat,owner[j]?=some (some x)->∃K,K<10*SetTable.turns m/\pm m (F x) K=j/\∀k,k<K->∃y,owner[pm m (F x) k]?=some (some y)
theorem uo{m:Nat}(hm:Mask m)(F:Nat->Int):∀(hs:List Int) (owner:Array (Option Nat)) (k:Nat),owner.size=m+1->(owner.toList.filterMap id).Perm (List.range k)->k+hs.length<=m->(∀i h,hs[i]?=some h->F (k+i)=h)->mM m F owner →
  ∃owner',hs.foldl (kE m) (some (owner,k))=some (owner',k+hs.length)/\owner'.size=m+1/\(owner'.toList.filterMap id).Perm (List.range (k+hs.length))/\mM m F owner'
 | [],owner,k,h1,h2,h3,h4,h5=>⟨owner,rfl,h1,h2,h5⟩
 | h::hs,owner,k,h1,h2,h3,h4,h5=>by
  rw[List.length_cons]at h3 ⊢
  have hlt:(owner.toList.filterMap id).length<owner.toList.length:=by
   rw[h2.length_eq,List.length_range,Array.length_toList,h1]
   omega
  obtain⟨j,hj⟩:=u3 hlt
  rw[Array.getElem?_toList]at hj
  have hjm:j<=m:=by
   have:=(Array.getElem?_eq_some_iff.mp hj).1
   omega
  have hi:SetTable.bits h % (m+1)<=m:=by
   have:=Nat.mod_lt (SetTable.bits h) (show 0<m+1 by omega)
   omega
  obtain⟨n,hn,en⟩:=rW hm hi (ug h) hjm
  obtain⟨j',e',hj'⟩:=we hm owner h1 hj (SetTable.turns m) n _ _ hi (by unfold SetTable.turns;omega) en
  obtain⟨K,K1,K2,K3⟩:=sv (t:=tM m) owner h1 (SetTable.turns m) _ _ j' hi e'
  have step:kE m (some (owner,k)) h=some (owner.setIfInBounds j' (some k),k+1):=by
   unfold kE
   simp[e']
  rw[List.foldl_cons,step]
  have hp:((owner.setIfInBounds j' (some k)).toList.filterMap id).Perm (List.range (k+1)):=by
   rw[Array.toList_setIfInBounds]
   rw[←Array.getElem?_toList]at hj'
   refine(pC hj').trans ?_
   rw[List.range_succ]
   exact(List.Perm.cons k h2).trans (List.perm_append_comm (l₁:=[k]) (l₂:=List.range k))
  have hj's:j'<owner.size:=(Array.getElem?_eq_some_iff.mp hj').1
  have keep:∀i x,owner[i]?=some (some x)->(owner.setIfInBounds j' (some k))[i]?=some (some x):=fun i x e=>by
   rw[Array.getElem?_setIfInBounds,if_neg]
   ·exact e
   ·rintro rfl
    rw[hj']at e
    cases e
  have hR:mM m F (owner.setIfInBounds j' (some k)):=fun i x e=>by
   rw[Array.getElem?_setIfInBounds]at e
   by_cases c:j'=i
   ·rw[if_pos c,if_pos hj's]at e
    cases e
    have eF:F k=h:=by
     have:=h4 0 h rfl
     rwa [Nat.add_zero]at this
    rw[eF]
    refine⟨K,K1,?_,fun k' hk'=>?_⟩
    ·rw[←c]
     exact K2
    ·obtain⟨y,hy⟩:=K3 k' hk'
     exact⟨y,keep _ _ hy⟩
   ·rw[if_neg c]at e
    obtain⟨K',q1,q2,q3⟩:=h5 i x e
    refine⟨K',q1,q2,fun k' hk'=>?_⟩
    obtain⟨y,hy⟩:=q3 k' hk'
    exact⟨y,keep _ _ hy⟩
  obtain⟨o',f1,f2,f3,f4⟩:=uo hm F hs (owner.setIfInBounds j' (some k)) (k+1) (by simpa using h1) hp (by omega) (fun i h' e=>by
   have:=h4 (i+1) h' e
   rwa [show k+(i+1)=k+1+i by omega]at this) hR
  exact⟨o',by rw[f1];congr 2;omega,f2,by rw[show k+(hs.length+1)=k+1+hs.length by omega];exact f3,f4⟩
theorem mH{α:Type}(es:Array α):∀(l:List Nat),(∀i∈l,i<es.size)->∀n:Nat,(l.filterMap (es[·]?))[n]?=(l[n]?).bind (es[·]?)
 | [],_,n=>by simp
 | x::l,h,n=>by
  have hx:=h x List.mem_cons_self
  have e:(x::l).filterMap (es[·]?)=es[x]::l.filterMap (es[·]?):=by
   rw[List.filterMap_cons]
   simp[hx]
  rw[e]
  cases n with
  | zero=>simp[hx]
  | succ n=>simpa using mH es l (fun i hi=>h i (List.mem_cons_of_mem _ hi)) n
theorem pR{f:Nat->Option (Nat×Nat)}(hf:∀j x,f j=some x->x.1=j):∀(l:List Nat),(∀x∈(l.filterMap f),f x.1=some x)/\((l.filterMap f).map (·.1))=l.filter (fun j=>(f j).isSome)
 | []=>⟨fun x hx=>(by cases hx),rfl⟩
 | a::l=>by
  obtain⟨i1,i2⟩:=pR hf l
  cases e:f a with
  | none=>
   rw[List.filterMap_cons_none e,List.filter_cons_of_neg (by rw[e];simp)]
   exact⟨i1,i2⟩
  | some x=>
   rw[List.filterMap_cons_some e,List.filter_cons_of_pos (by rw[e];rfl),List.map_cons,i2,hf a x e]
   refine⟨fun y hy=>?_,rfl⟩
   rcases List.mem_cons.mp hy with rfl | hy
   ·rw[hf a y e]
    exact e
   ·exact i1 y hy
theorem vw(t:SetTable){es:Array (Int×Value)}{wanted m:Nat}(hm:Mask m)(hw:SetTable.sizeAbove wanted-1=m)(hn:es.size<=m):
  ∃t' order,t.relaid (es.map (·.1)) wanted=some (t',order)/\t'.place.size=es.size/\t'.dummies = #[]/\t'.mask=m/\order.toList.Perm (List.range es.size)/\t'.led=t.led/\t'.plain=t.plain/\TOk m t'.place ((order.filterMap (es[·]?)).map (·.1)):=by
 obtain⟨o',f1,f2,f3,f4⟩:=uo hm (fun i=>((es[i]?).map (·.1)).getD 0) (es.map (·.1)).toList (Array.replicate (m+1) none) 0 (by simp) (by simp) (by rw[Array.length_toList,Array.size_map];omega) (fun i h e=>by
   rw[Array.getElem?_toList,Array.getElem?_map]at e
   show((es[0+i]?).map (·.1)).getD 0=h
   rw[Nat.zero_add,e]
   rfl) (fun j x e=>by
   rw[Array.getElem?_replicate]at e
   split at e<;>cases e)
 rw[Array.length_toList,Nat.zero_add,Array.size_map]at f1 f3
 have hlay:SetTable.layClean m (es.map (·.1))=some o':=by
  show((es.map (·.1)).foldl (kE m) (some (Array.replicate (m+1) none,0))).map (·.1)=some o'
  rw[←Array.foldl_toList,f1]
  rfl
 have hsnd:((List.range (m+1)).filterMap fun j=>(o'.getD j none).map (j,·)).map (·.2)=o'.toList.filterMap id:=by
  rw[List.map_filterMap]
  have:o'.toList=(List.range (m+1)).map fun j=>o'.getD j none:=by
   apply List.ext_getElem
   ·rw[Array.length_toList,List.length_map,List.length_range,f2]
   ·intro i h1 h2
    rw[Array.length_toList]at h1
    simp[h1]
  rw[this,List.filterMap_map]
  congr 1
  funext j
  show((o'.getD j none).map (j,·)).map (·.2)=o'.getD j none
  cases o'.getD j none<;>rfl
 have hrel:t.relaid (es.map (·.1)) wanted=some (({ mask:=m,place:=(((List.range (m+1)).filterMap fun j=>(o'.getD j none).map (j,·)).map (·.1)).toArray,dummies:=#[],finger:=t.finger,led:=t.led,moves:=t.movedTo m,plain:=t.plain }:SetTable),(((List.range (m+1)).filterMap fun j=>(o'.getD j none).map (j,·)).map (·.2)).toArray):=by
  unfold SetTable.relaid
  rw[hw]
  unfold SetTable.laid
  rw[hlay]
  rfl
 obtain⟨lv1,lv2⟩:=pR (f:=fun j=>(o'.getD j none).map (j,·)) (fun j x e=>by
  obtain⟨y,_,rfl⟩:=Option.map_eq_some_iff.mp e
  rfl) (List.range (m+1))
 have hlen:((List.range (m+1)).filterMap fun j=>(o'.getD j none).map (j,·)).length=es.size:=by
  have:=congrArg List.length hsnd
  rwa [List.length_map,f3.length_eq,List.length_range]at this
 have hall:∀i∈((List.range (m+1)).filterMap fun j=>(o'.getD j none).map (j,·)).map (·.2),i<es.size:=fun i hi=>by
  rw[hsnd]at hi
  exact List.mem_range.mp (f3.mem_iff.mp hi)
 refine⟨_,_,hrel,?_,rfl,rfl,?_,rfl,rfl,?_⟩
 ·show(((List.range (m+1)).filterMap fun j=>(o'.getD j none).map (j,·)).map (·.1)).toArray.size=_
  rw[List.size_toArray,List.length_map,hlen]
 ·show(((List.range (m+1)).filterMap fun j=>(o'.getD j none).map (j,·)).map (·.2)).toArray.toList.Perm _
  rw[List.toList_toArray,hsnd]
  exact f3
 ·generalize hlv:((List.range (m+1)).filterMap fun j=>(o'.getD j none).map (j,·))=lv at lv1 lv2 hlen hall
  show TOk m (lv.map (·.1)).toArray (((lv.map (·.2)).toArray.filterMap (es[·]?)).map (·.1))
  have mem:∀j,(∃y,o'[j]?=some (some y))->j∈(lv.map (·.1)).toArray.toList:=fun j ⟨y,hy⟩=>by
   rw[List.toList_toArray,lv2,List.mem_filter]
   have hj:=(Array.getElem?_eq_some_iff.mp hy).1
   refine⟨List.mem_range.mpr (by omega),?_⟩
   rw[Array.getD_eq_getD_getElem?,hy]
   rfl
  have hes:∀n:Nat,((((lv.map (·.2)).toArray.filterMap (es[·]?)).map (·.1)))[n]?=(((lv.map (·.2))[n]?).bind (es[·]?)).map (·.1):=fun n=>by
   rw[Array.getElem?_map,←Array.getElem?_toList,Array.toList_filterMap,List.toList_toArray,mH es _ hall]
  refine⟨?_,?_,fun i j h e1 e2=>?_⟩
  ·rw[Array.size_map,←Array.length_toList,←Array.length_toList,Array.toList_filterMap,List.toList_toArray,List.toList_toArray,List.length_map]
   have key:∀l:List Nat,(∀i∈l,i<es.size)->(l.filterMap (es[·]?)).length=l.length:=by
    intro l
    induction l with
    | nil=>intro _;rfl
    | cons x l ih=>
     intro hl
     have hx:=hl x List.mem_cons_self
     rw[List.filterMap_cons,getElem?_pos es x hx,List.length_cons,List.length_cons,ih fun i hi=>hl i (List.mem_cons_of_mem _ hi)]
   rw[key _ hall,List.length_map]
  ·rw[List.toList_toArray,lv2]
   exact List.Pairwise.filter _ List.pairwise_lt_range
  ·rw[hes]at e2
   rw[List.getElem?_toArray,List.getElem?_map]at e1
   rw[List.getElem?_map]at e2
   obtain⟨⟨j',x⟩,hx,rfl⟩:=Option.map_eq_some_iff.mp e1
   rw[hx]at e2
   have hf:=lv1 _ (List.mem_of_getElem? hx)
   have hx':o'.getD j' none=some x:=by
    obtain⟨y,hy,ey⟩:=Option.map_eq_some_iff.mp hf
    cases ey
    exact hy
   have ho:o'[j']?=some (some x):=by
    rw[Array.getD_eq_getD_getElem?]at hx'
    cases q:o'[j']? with
    | none=>rw[q]at hx';cases hx'
    | some y=>rw[q]at hx';cases hx';rfl
   obtain⟨K,q1,q2,q3⟩:=f4 j' x ho
   have eF:((es[x]?).map (·.1)).getD 0=h:=by
    have:(es[x]?).map (·.1)=some h:=e2
    rw[this]
    rfl
   dsimp only at q2 q3
   rw[eF]at q2 q3
   exact⟨K,q1,q2,fun k hk=>mem _ (q3 k hk)⟩
end Tb
set_option Elab.async false
set_option linter.all false
set_option maxRecDepth 100000
set_option maxHeartbeats 4000000
namespace L2
open PySem PySem.Spec PyProof.Rows
section
variable {P:Program} {w:World} {A:Around} {E:Value->Shared->Prop} {s:Shared} {K:Type} [DecidableEq K] {knd:KeyKind P w K}
theorem lh{ks:List K}{vs:List Value}(h:ItemsAre knd ks vs):∀v∈vs,∀b,v≠.ref b:=fun v hv b e=>by
 have:=h.byValue v hv
 subst e
 cases this
theorem xl(n:Nat){v:Value}(h:∀b,v≠.ref b):ofAClassStatement n v=pure false:=by
 cases v with
 | ref b=>exact absurd rfl (h b)
 | _=>unfold ofAClassStatement;rfl
theorem nZ{ks:List K}{b:Addr}{Q:Bool->Shared->Prop}(hk:IsTupleKey knd s.heap ks b)(h:Q false s):wpAny (model P w) A (ofAClassStatement 8 (.ref b)) Q E s:=by
 have hT:=hk.typeIs
 obtain⟨o,items,n,ho,hc,hd,hi⟩:=hk
 unfold ofAClassStatement
 refine wpAny_bind (wpAny_typeOf hT ?_)
 dsimp only
 refine wpAny_bind (wpAny_pure ?_)
 simp only[Bool.not_true,Bool.false_eq_true,if_false]
 refine wpAny_bind (wpAny_seqItems ho hd ?_)
 dsimp only
 refine wpAny_bind ?_
 rw[←Array.forIn_toList]
 refine wpAny_forIn_list _ (fun rest r s'=>r.1=none/\s'=s/\∀v∈rest,∀b,v≠.ref b) _ ?_ ?_ _ _ ⟨rfl,rfl,lh hi⟩
 ·rintro v rest r s' ⟨hr,rfl,hall⟩
  rw[xl _ (hall v List.mem_cons_self)]
  refine wpAny_bind (wpAny_pure ?_)
  simp only[Bool.false_eq_true,if_false]
  exact wpAny_pure ⟨rfl,rfl,fun u hu=>hall u (List.mem_cons_of_mem _ hu)⟩
 ·rintro⟨r1,r2⟩ s' ⟨hr,rfl,_⟩
  simp only at hr
  subst hr
  exact wpAny_pure h
theorem qt{ks:List K}{b:Addr}{l:List Value}{Q:Bool->Shared->Prop}(hk:IsTupleKey knd s.heap ks b)(hl:∀y∈l,∃b' k',y=.ref b'/\IsTupleKey knd s.heap k' b')(h:Q false s):wpAny (model P w) A (searchCouldBeSeen (.ref b) l) Q E s:=by
 unfold searchCouldBeSeen
 refine wpAny_bind ?_
 refine wpAny_forIn_list _ (fun rest r s'=>r.1=none/\s'=s/\∀y∈rest,∃b' k',y=.ref b'/\IsTupleKey knd s.heap k' b') _ ?_ ?_ _ _ ⟨rfl,rfl,hl⟩
 ·rintro v rest r s' ⟨hr,rfl,hall⟩
  obtain⟨b',k',rfl,hk'⟩:=hall v List.mem_cons_self
  have next:∀y∈rest,∃b' k',y=.ref b'/\IsTupleKey knd s'.heap k' b':=fun y hy=>hall y (List.mem_cons_of_mem _ hy)
  dsimp only
  split
  ·exact wpAny_pure ⟨rfl,rfl,next⟩
  ·refine wpAny_bind (wpAny_eqIsQuiet_tuple hk ?_)
   simp only[Bool.not_true,Bool.false_eq_true,if_false]
   refine wpAny_bind (wpAny_eqIsQuiet_tuple hk' ?_)
   simp only[Bool.not_true,Bool.false_eq_true,if_false]
   refine wpAny_bind (nZ hk ?_)
   simp only[Bool.false_eq_true,if_false]
   refine wpAny_bind (nZ hk' ?_)
   simp only[Bool.false_eq_true,if_false]
   exact wpAny_pure ⟨rfl,rfl,next⟩
 ·rintro⟨r1,r2⟩ s' ⟨hr,rfl,_⟩
  simp only at hr
  subst hr
  exact wpAny_pure h
theorem tJ{t:SetTable}(hm:Tb.Mask t.mask):t.gaveWay=false:=by
 unfold SetTable.gaveWay
 rcases hm with e | e | e | e | e | e<;>rw[e]<;>rfl
theorem vC{a b:Addr}{k:List K}{h:Int}{o:Obj}{es:Array (Int×Value)}{ep:Nat}{t:SetTable}(hu:A.units<cLine)(hk:IsTupleKey knd s.heap k b)(ho:s.heap.get? a=some o)(hd:o.data=.set es ep t)(hf:t.fits es.size=true)(hm:Tb.Mask t.mask)(hdm:t.dummies = #[])
  (hall:∀e∈es.toList,∃b' k',e.2=.ref b'/\IsTupleKey knd s.heap k' b'/\k'≠k) {Q:SetFound->Shared->Prop} :
  ∀(K fuel:Nat) (stand:Option SetTable.Probe),K<fuel->K<10*SetTable.turns t.mask->(stand.getD (t.probeStart h)).dummy=none->(∀k',k'<K->t.slot (Tb.aE t k' (stand.getD (t.probeStart h))).j≠.empty)->t.slot (Tb.aE t K (stand.getD (t.probeStart h))).j=.empty →
   Q (.free (Tb.aE t K (stand.getD (t.probeStart h))).j false) s->wpAny (model P w) A (setSearchFrom a (.ref b) h true fuel stand) Q E s:=by
 intro K
 induction K using Nat.strongRecOn with
 | ind K ih=>
  intro fuel stand hfu hK hdu hne hs hQ
  obtain⟨f,rfl⟩:∃f,fuel=f+1:=⟨fuel-1,by omega⟩
  unfold setSearchFrom
  refine wpAny_bind (wpAny_setState_of ho hd hf ?_)
  dsimp only
  have hg:=tJ hm
  have hsz:t.place.size=es.size:=by
   simp only[SetTable.fits,Bool.and_eq_true,beq_iff_eq]at hf
   exact hf.1
  have hsm:t.sameMemory t.moves t.mask=some true:=by
   unfold SetTable.sameMemory
   rw[if_pos (beq_self_eq_true _)]
  rw[hg]
  simp only[Bool.false_eq_true,if_false]
  generalize hr:t.probe _ h (stand.getD (t.probeStart h))=r
  obtain⟨g,hr⟩:∃g,SetTable.probe.go t g h (10*SetTable.turns t.mask) (stand.getD (t.probeStart h))=r:=⟨_,hr⟩
  rcases Tb.xX hdm g h hK hdu hne hs with⟨k',i,hk',e,hl⟩ | e
  ·rw[e]at hr
   subst hr
   have hpl:=Tb.iT hl
   have hi:i<es.size:=by
    rw[←hsz]
    exact(Array.getElem?_eq_some_iff.mp hpl).1
   have hmem:es[i]∈es.toList:=by simp
   obtain⟨b',k2,hy,hk2,hne2⟩:=hall _ hmem
   have hes:es[i]?=some (es[i].1,.ref b'):=by
    rw[Array.getElem?_eq_getElem hi,←hy]
   have hst:∀y∈((es.filter fun x=>x.1 == h).toList.map fun x=>x.2),∃b' k',y=Value.ref b'/\IsTupleKey knd s.heap k' b':=fun y hy=>by
    obtain⟨e0,he0,rfl⟩:=List.mem_map.mp hy
    have he1:e0∈es.toList:=by
     have:=Array.mem_toList_iff.mp he0
     exact Array.mem_toList_iff.mpr (Array.mem_filter.mp this).1
    obtain⟨b3,k3,h1,h2,_⟩:=hall e0 he1
    exact⟨b3,k3,h1,h2⟩
   have eK:∀x,Tb.aE t (k'+1+x) (stand.getD (t.probeStart h))=Tb.aE t x (Tb.aE t (k'+1) (stand.getD (t.probeStart h))):=fun x=>Tb.fC t _ _ _
   have again:wpAny (model P w) A (setSearchFrom a (.ref b) h true f (some (Tb.aE t (k'+1) (stand.getD (t.probeStart h))))) Q E s:=by
    refine ih (K-(k'+1)) (by omega) f _ (by omega) (by omega) ?_ (fun x hx=>?_) ?_ ?_
    ·show(Tb.aE t (k'+1) _).dummy=none
     rw[Tb.ip]
     exact hdu
    ·show t.slot (Tb.aE t x (Tb.aE t (k'+1) _)).j≠_
     rw[←eK]
     exact hne _ (by omega)
    ·show t.slot (Tb.aE t (K-(k'+1)) (Tb.aE t (k'+1) _)).j=_
     rw[←eK,show k'+1+(K-(k'+1))=K by omega]
     exact hs
    ·show Q (.free (Tb.aE t (K-(k'+1)) (Tb.aE t (k'+1) _)).j false) s
     rw[←eK,show k'+1+(K-(k'+1))=K by omega]
     exact hQ
   have same:isSame (Value.ref b') (Value.ref b')=pure true:=by
    unfold isSame
    simp
   dsimp only
   cases hled:t.led
   ·simp only[Bool.not_false,if_true]
    refine wpAny_bind (qt hk hst ?_)
    simp only[Bool.false_eq_true,if_false]
    rw[hes]
    dsimp only
    refine wpAny_bind (wpAny_holding (wpAny_eqBool_tuple hu hk2 hk ?_))
    rw[decide_eq_false hne2]
    refine wpAny_bind (wpAny_setState_of ho hd hf ?_)
    dsimp only
    simp only[Bool.and_false,Bool.false_eq_true,if_false,hsm,if_true,hl,hes,same]
    exact wpAny_bind (wpAny_pure (wpAny_bind (wpAny_pure again)))
   ·simp only[Bool.not_true,Bool.false_eq_true,if_false]
    rw[hes]
    dsimp only
    refine wpAny_bind (wpAny_holding (wpAny_eqBool_tuple hu hk2 hk ?_))
    rw[decide_eq_false hne2]
    refine wpAny_bind (wpAny_setState_of ho hd hf ?_)
    dsimp only
    simp only[Bool.and_false,Bool.false_eq_true,if_false,hsm,if_true,hl,hes,same]
    exact wpAny_bind (wpAny_pure (wpAny_bind (wpAny_pure again)))
  ·rw[e]at hr
   subst hr
   exact wpAny_pure hQ
theorem xV{a b:Addr}{k:List K}{h:Int}{o:Obj}{es:Array (Int×Value)}{ep i0:Nat}{t:SetTable}(hu:A.units<cLine)(hk:IsTupleKey knd s.heap k b)(ho:s.heap.get? a=some o)(hd:o.data=.set es ep t)(hf:t.fits es.size=true)(hm:Tb.Mask t.mask)(hdm:t.dummies = #[])
  (hall:∀e∈es.toList,∃b' k',e.2=.ref b'/\IsTupleKey knd s.heap k' b') (hi0:∃b0,es[i0]?=some (h,.ref b0)/\IsTupleKey knd s.heap k b0) {Q:SetFound->Shared->Prop} (hQ:Q (.there none) s) :
  ∀(K fuel:Nat) (stand:Option SetTable.Probe),K<fuel->K<10*SetTable.turns t.mask->(stand.getD (t.probeStart h)).dummy=none->(∀k',k'<K->t.slot (Tb.aE t k' (stand.getD (t.probeStart h))).j≠.empty)->t.slot (Tb.aE t K (stand.getD (t.probeStart h))).j=.live i0 →
   wpAny (model P w) A (setSearchFrom a (.ref b) h true fuel stand) Q E s:=by
 obtain⟨b0,hb0,hkb0⟩:=hi0
 intro K
 induction K using Nat.strongRecOn with
 | ind K ih=>
  intro fuel stand hfu hK hdu hne hs
  obtain⟨f,rfl⟩:∃f,fuel=f+1:=⟨fuel-1,by omega⟩
  unfold setSearchFrom
  refine wpAny_bind (wpAny_setState_of ho hd hf ?_)
  dsimp only
  have hg:=tJ hm
  have hsz:t.place.size=es.size:=by
   simp only[SetTable.fits,Bool.and_eq_true,beq_iff_eq]at hf
   exact hf.1
  have hsm:t.sameMemory t.moves t.mask=some true:=by
   unfold SetTable.sameMemory
   rw[if_pos (beq_self_eq_true _)]
  rw[hg]
  simp only[Bool.false_eq_true,if_false]
  generalize hr:t.probe _ h (stand.getD (t.probeStart h))=r
  obtain⟨g,hgi,hr⟩:∃g:Nat->Int,g i0=h/\SetTable.probe.go t g h (10*SetTable.turns t.mask) (stand.getD (t.probeStart h))=r:=⟨_,by show((es[i0]?).map (·.1)).getD 0=h;rw[hb0];rfl,hr⟩
  obtain⟨k',i,hk',e,hl⟩:=Tb.u4 hdm g h hK hdu hne hs hgi
  rw[e]at hr
  subst hr
  have hpl:=Tb.iT hl
  have hi:i<es.size:=by
   rw[←hsz]
   exact(Array.getElem?_eq_some_iff.mp hpl).1
  have hmem:es[i]∈es.toList:=by simp
  obtain⟨b',k2,hy,hk2⟩:=hall _ hmem
  have hes:es[i]?=some (es[i].1,.ref b'):=by
   rw[Array.getElem?_eq_getElem hi,←hy]
  have hst:∀y∈((es.filter fun x=>x.1 == h).toList.map fun x=>x.2),∃b' k',y=Value.ref b'/\IsTupleKey knd s.heap k' b':=fun y hy=>by
   obtain⟨e0,he0,rfl⟩:=List.mem_map.mp hy
   have he1:e0∈es.toList:=by
    have:=Array.mem_toList_iff.mp he0
    exact Array.mem_toList_iff.mpr (Array.mem_filter.mp this).1
   obtain⟨b3,k3,h1,h2⟩:=hall e0 he1
   exact⟨b3,k3,h1,h2⟩
  have eK:∀x,Tb.aE t (k'+1+x) (stand.getD (t.probeStart h))=Tb.aE t x (Tb.aE t (k'+1) (stand.getD (t.probeStart h))):=fun x=>Tb.fC t _ _ _
  have again:k2≠k->wpAny (model P w) A (setSearchFrom a (.ref b) h true f (some (Tb.aE t (k'+1) (stand.getD (t.probeStart h))))) Q E s:=fun hne2=>by
   have hlt:k'<K:=by
    rcases Nat.lt_or_ge k' K with q | q
    ·exact q
    ·have:k'=K:=by omega
     subst this
     rw[hs]at hl
     cases hl
     rw[hb0]at hes
     cases hes
     obtain⟨o1,i1,n1,z1,_,z2,z3⟩:=hk2
     obtain⟨o2,i2,n2,y1,_,y2,y3⟩:=hkb0
     rw[z1]at y1
     cases y1
     rw[z2]at y2
     cases y2
     exact absurd (z3.inj y3) hne2
   refine ih (K-(k'+1)) (by omega) f _ (by omega) (by omega) ?_ (fun x hx=>?_) ?_
   ·show(Tb.aE t (k'+1) _).dummy=none
    rw[Tb.ip]
    exact hdu
   ·show t.slot (Tb.aE t x (Tb.aE t (k'+1) _)).j≠_
    rw[←eK]
    exact hne _ (by omega)
   ·show t.slot (Tb.aE t (K-(k'+1)) (Tb.aE t (k'+1) _)).j=_
    rw[←eK,show k'+1+(K-(k'+1))=K by omega]
    exact hs
  have same:isSame (Value.ref b') (Value.ref b')=pure true:=by
   unfold isSame
   simp
  have fin:wpAny (model P w) A (do
    let equal ←holding [Value.ref b'] (eqBool (.ref b') (.ref b))
    let (es',_,t') ←setState a
    if(true && equal)=true then return SetFound.there none
    let some same:=t'.sameMemory t.moves t.mask | unsupported "set.changed-during-lookup:is-the-new-block-at-the-old-address"
    let still ←match (if same=true then t'.slot (Tb.aE t k' (stand.getD (t.probeStart h))).j else .empty)with
     | .live i'=>match es'[i']? with
      | some (_,y')=>do pure (if ←isSame y' (.ref b')then some i' else none)
      | none=>pure none
     | _=>pure none
    match still with
    | none=>rule "set.search.anew";setSearchFrom a (.ref b) h true f none
    | some i'=>if equal=true then return .there (some i')else setSearchFrom a (.ref b) h true f (some (Tb.aE t (k'+1) (stand.getD (t.probeStart h))))) Q E s:=by
   refine wpAny_bind (wpAny_holding (wpAny_eqBool_tuple hu hk2 hk ?_))
   refine wpAny_bind (wpAny_setState_of ho hd hf ?_)
   dsimp only
   by_cases hq:k2=k
   ·rw[decide_eq_true hq]
    simp only[Bool.and_self,if_true]
    exact wpAny_pure hQ
   ·rw[decide_eq_false hq]
    simp only[Bool.and_false,Bool.false_eq_true,if_false,hsm,if_true,hl,hes,same]
    exact wpAny_bind (wpAny_pure (wpAny_bind (wpAny_pure (again hq))))
  dsimp only
  cases hled:t.led
  ·simp only[Bool.not_false,if_true]
   refine wpAny_bind (qt hk hst ?_)
   simp only[Bool.false_eq_true,if_false]
   rw[hes]
   exact fin
  ·simp only[Bool.not_true,Bool.false_eq_true,if_false]
   rw[hes]
   exact fin
theorem ia{h h':Heap}{a b:Addr}{k:List K}{o:Obj}{es:Array (Int×Value)}{ep:Nat}{t:SetTable}(hk:IsTupleKey knd h k b)(ho:h.get? a=some o)(hd:o.data=.set es ep t)(hs:Heap.SameBut a h h'):IsTupleKey knd h' k b:=by
 obtain⟨o',items,n,ho',hc,hd',hi⟩:=hk
 have hne:b≠a:=by
  rintro rfl
  rw[ho]at ho'
  cases ho'
  rw[hd]at hd'
  cases hd'
 exact⟨o',items,n,(hs.2 b hne).trans ho',hc,hd',hi⟩
theorem sU(n:Nat){v:Value}(h:∀b,v≠.ref b):∃c,hashByValue n v=pure c:=by
 cases v with
 | ref b=>exact absurd rfl (h b)
 | _=>exact⟨_,by cases n<;>unfold hashByValue<;>rfl⟩
theorem y8{ks:List K}{b:Addr}{Q:Bool->Shared->Prop}(hk:IsTupleKey knd s.heap ks b)(h:∀c,Q c s):wpAny (model P w) A (hashByValue 8 (.ref b)) Q E s:=by
 have hT:=hk.typeIs
 obtain⟨o,items,n,ho,hc,hd,hi⟩:=hk
 unfold hashByValue
 refine wpAny_bind (wpAny_specialOf hT F.slot_tuple_hash.lookup ?_)
 dsimp only
 refine wpAny_bind (wpAny_seqItems ho hd ?_)
 dsimp only[Option.getD_some]
 refine wpAny_bind ?_
 rw[←Array.forIn_toList]
 refine wpAny_forIn_list _ (fun rest r s'=>(r.1=none\/∃c,r.1=some c)/\s'=s/\∀v∈rest,∀b,v≠.ref b) _ ?_ ?_ _ _ ⟨.inl rfl,rfl,lh hi⟩
 ·rintro v rest r s' ⟨hr,rfl,hall⟩
  obtain⟨c,hc'⟩:=sU 7 (hall v List.mem_cons_self)
  rw[hc']
  refine wpAny_bind (wpAny_pure ?_)
  cases c
  ·show wpAny _ _ (pure (ForInStep.done (some false,()))) _ _ _
   exact wpAny_pure (wpAny_pure (h false))
  ·simp only[Bool.not_true,Bool.false_eq_true,if_false]
   exact wpAny_pure ⟨.inl rfl,rfl,fun u hu=>hall u (List.mem_cons_of_mem _ hu)⟩
 ·rintro⟨r1,r2⟩ s' ⟨hr,rfl,_⟩
  simp only at hr
  rcases hr with rfl | ⟨c,rfl⟩
  ·exact wpAny_pure (h true)
  ·exact wpAny_pure (h c)
theorem xP{α:Type}{es:Array α}{order:Array Nat}(h:order.toList.Perm (List.range es.size)):(order.filterMap (es[·]?)).size=es.size/\∀e∈(order.filterMap (es[·]?)).toList,e∈es.toList:=by
 have key:∀l:List Nat,(∀i∈l,i<es.size)->(l.filterMap (es[·]?)).length=l.length/\∀e∈l.filterMap (es[·]?),e∈es.toList:=by
  intro l
  induction l with
  | nil=>intro _;exact⟨rfl,fun e he=>by cases he⟩
  | cons x l ih=>
   intro hl
   obtain⟨i1,i2⟩:=ih fun i hi=>hl i (List.mem_cons_of_mem _ hi)
   have hx:=hl x List.mem_cons_self
   have e:(x::l).filterMap (es[·]?)=es[x]::l.filterMap (es[·]?):=by
    rw[List.filterMap_cons]
    simp[hx]
   rw[e]
   refine⟨by rw[List.length_cons,List.length_cons,i1],fun y hy=>?_⟩
   rcases List.mem_cons.mp hy with rfl | hy
   ·simp
   ·exact i2 y hy
 have hlt:∀i∈order.toList,i<es.size:=fun i hi=>List.mem_range.mp (h.mem_iff.mp hi)
 obtain⟨k1,k2⟩:=key order.toList hlt
 rw[Array.toList_filterMap]
 refine⟨?_,k2⟩
 rw[←Array.length_toList,Array.toList_filterMap,k1,h.length_eq,List.length_range]
theorem vy{α:Type}{es:Array α}{order:Array Nat}(h:order.toList.Perm (List.range es.size)):(order.filterMap (es[·]?)).toList.Perm es.toList:=by
 rw[Array.toList_filterMap]
 have e:(List.range es.size).filterMap (es[·]?)=es.toList:=by
  apply List.ext_getElem?
  intro n
  have e0:es.toList[n]?=es[n]?:=Array.getElem?_toList
  rw[e0,Tb.mH es _ (fun i hi=>List.mem_range.mp hi)]
  by_cases hn:n<es.size
  ·rw[List.getElem?_range hn]
   rfl
  ·have e1:(List.range es.size)[n]?=none:=List.getElem?_eq_none (by rw[List.length_range];omega)
   rw[e1,Array.getElem?_eq_none (by omega)]
   rfl
 rw[←e]
 exact h.filterMap _
end
section
variable {P:Program} {w:World} {A:Around} {E:Value->Shared->Prop} {s:Shared}
theorem items_str{ks:List Key}{vs:List Value}(h:ItemsAre (aM P w) ks vs){x:Str}(hx:Sum.inr x∈ks):∃t,Value.str x t∈vs:=by
 induction h with
 | nil=>cases hx
 | @cons k v ks vs hk _ ih=>
  rcases List.mem_cons.mp hx with rfl | hx
  ·rcases dI (show fG (.inr x) v=true from hk)with⟨i,t,e,_⟩ | ⟨y,t,e,rfl⟩
   ·cases e
   ·cases e
    exact⟨t,List.mem_cons_self⟩
  ·obtain⟨t,ht⟩:=ih hx
   exact⟨t,List.mem_cons_of_mem _ ht⟩
theorem Ar{ks:List Key}{b:Addr}{x:Str}{Q:Bool->Shared->Prop}(hk:IsTupleKey (aM P w) s.heap ks b)(hx:Sum.inr x∈ks)(h:Q false s):wpAny (model P w) A (hashByValue 8 (.ref b)) Q E s:=by
 have hT:=hk.typeIs
 obtain⟨o,items,n,ho,hc,hd,hi⟩:=hk
 unfold hashByValue
 refine wpAny_bind (wpAny_specialOf hT F.slot_tuple_hash.lookup ?_)
 dsimp only
 refine wpAny_bind (wpAny_seqItems ho hd ?_)
 dsimp only[Option.getD_some]
 refine wpAny_bind ?_
 rw[←Array.forIn_toList]
 refine wpAny_forIn_list _ (fun rest r s'=>r.1=none/\s'=s/\(∀v∈rest,∀b,v≠.ref b)/\∃t,Value.str x t∈rest) _ ?_ ?_ _ _ ⟨rfl,rfl,lh hi,items_str hi hx⟩
 ·rintro v rest r s' ⟨hr,rfl,hall,t,ht⟩
  obtain⟨c,hc'⟩:=sU 7 (hall v List.mem_cons_self)
  rw[hc']
  refine wpAny_bind (wpAny_pure ?_)
  cases c
  ·show wpAny _ _ (pure (ForInStep.done (some false,()))) _ _ _
   exact wpAny_pure (wpAny_pure h)
  ·simp only[Bool.not_true,Bool.false_eq_true,if_false]
   refine wpAny_pure ⟨rfl,rfl,fun u hu=>hall u (List.mem_cons_of_mem _ hu),t,?_⟩
   rcases List.mem_cons.mp ht with rfl | ht
   ·exact absurd hc' (fun z=>by
     have:hashByValue 7 (Value.str x t)=pure false:=by unfold hashByValue;rfl
     rw[this]at z
     injection z with z
     cases z)
   ·exact ht
 ·rintro⟨r1,r2⟩ s' ⟨hr,rfl,_,t,ht⟩
  cases ht
def cV(P:Program)(w:World)(B:Addr->List Key->Prop)(h:Heap)(a:Addr)(ks:List (List Key)):Prop:=ks.Nodup ∧
 ∃o es ep t,h.get? a=some o/\o.ExactSet/\o.data=.set es ep t/\t.dummies = #[]/\Tb.Mask t.mask/\es.size*5<t.mask*3/\es.size=ks.length/\Tb.TOk t.mask t.place (es.map (·.1)) ∧
  (∀e∈es.toList,∃b k,e=(tupleKeyHash (aM P w) k,.ref b)/\k∈ks/\IsTupleKey (aM P w) h k b/\B b k)/\(∀k∈ks,∃b,(tupleKeyHash (aM P w) k,.ref b)∈es.toList/\IsTupleKey (aM P w) h k b)/\((∀k∈ks,∃x,Sum.inr x∈k)->ks=[]\/t.plain=false)
theorem zh{B:Addr->List Key->Prop}{a:Addr}{o:Obj}{es es1:Array (Int×Value)}{ep n:Nat}{t t1:SetTable}{ks1:List (List Key)}{Q:Bool->Shared->Prop}(hnd:ks1.Nodup)(ho:s.heap.get? a=some o)(hex:o.ExactSet)(hd:o.data=.set es ep t)(hs1:es1.size=n+1)(hdm1:t1.dummies = #[])
  (hm1:Tb.Mask t1.mask) (hfull:n*5<t1.mask*3) (hn:n<1400) (hlen:ks1.length=n+1) (hT1:Tb.TOk t1.mask t1.place (es1.map (·.1))) (hall1:∀e∈es1.toList,∃b k,e=(tupleKeyHash (aM P w) k,.ref b)/\k∈ks1/\IsTupleKey (aM P w) s.heap k b/\B b k)
  (hin1:∀k∈ks1,∃b,(tupleKeyHash (aM P w) k,.ref b)∈es1.toList/\IsTupleKey (aM P w) s.heap k b) (hpl1:(∀k∈ks1,∃x,Sum.inr x∈k)->t1.plain=false)
  (h:∀h',Heap.SameBut a s.heap h'->cV P w B h' a ks1->Q true { s with heap:=h' }) :
  wpAny (model P w) A (do
   storeSet a es1 t1
   if(!false && t1.tooFull)=true then do
    setRelay a (SetTable.grown (n+1))
    pure true
   else pure true) Q E s:=by
 have hline:n+1<=sizeLine:=Nat.le_trans (show n+1<=10000 by omega) (by decide)
 have hp1:t1.place.size=es1.size:=by rw[hT1.len,Array.size_map]
 refine wpAny_bind (wpAny_storeSet_of ho hd ?_ (by omega))
 have ho1:(s.heap.update a (Obj.putSet es1 t1)).get? a=some { o with data:=.set es1 (ep+1) t1 }:=by
  have:=Heap.get?_update_self (Obj.putSet es1 t1) ho (by rw[putSet_of es1 t1 hd];rfl)
  rw[putSet_of es1 t1 hd]at this
  exact this
 have hsb1:=Heap.SameBut.update s.heap a (Obj.putSet es1 t1)
 generalize s.heap.update a (Obj.putSet es1 t1)=h1 at ho1 hsb1
 have hall2:∀e∈es1.toList,∃b k,e=(tupleKeyHash (aM P w) k,.ref b)/\k∈ks1/\IsTupleKey (aM P w) h1 k b/\B b k:=fun e he=>by
  obtain⟨b,k,z1,z2,z3,z4⟩:=hall1 e he
  exact⟨b,k,z1,z2,ia z3 ho hd hsb1,z4⟩
 have hin2:∀k∈ks1,∃b,(tupleKeyHash (aM P w) k,.ref b)∈es1.toList/\IsTupleKey (aM P w) h1 k b:=fun k hk=>by
  obtain⟨b,z1,z2⟩:=hin1 k hk
  exact⟨b,z1,ia z2 ho hd hsb1⟩
 have hfill:t1.fill=n+1:=by
  unfold SetTable.fill
  rw[hdm1,hp1,hs1]
  rfl
 by_cases hq:t1.tooFull=true
 ·rw[hq]
  simp only[Bool.not_false,Bool.and_self,if_true]
  have hq':t1.mask*3<=(n+1)*5:=by
   unfold SetTable.tooFull at hq
   rw[hfill]at hq
   simpa using hq
  obtain⟨m,hm,hw,hmn,hlt⟩:∃m,Tb.Mask m/\SetTable.sizeAbove (SetTable.grown (n+1))-1=m/\n+1<=m/\(n+1)*5<m*3/\SetTable.sizeAbove (SetTable.grown (n+1))<=sizeLine:=by
   have hg:SetTable.grown (n+1)=(n+1)*4:=by
    unfold SetTable.grown
    rw[if_neg (by omega)]
   rw[hg]
   rcases hm1 with e | e | e | e | e | e<;>rw[e]at hfull hq'
   ·obtain rfl:n=4:=by omega
    exact⟨31,.inr (.inl rfl),Tb.xQ,by omega,by omega,by decide +kernel⟩
   ·obtain rfl:n=18:=by omega
    exact⟨127,.inr (.inr (.inl rfl)),Tb.yK,by omega,by omega,by decide +kernel⟩
   ·obtain rfl:n=76:=by omega
    exact⟨511,.inr (.inr (.inr (.inl rfl))),Tb.yS,by omega,by omega,by decide +kernel⟩
   ·obtain rfl:n=306:=by omega
    exact⟨2047,.inr (.inr (.inr (.inr (.inl rfl)))),Tb.yN,by omega,by omega,by decide +kernel⟩
   ·obtain rfl:n=1228:=by omega
    exact⟨8191,.inr (.inr (.inr (.inr (.inr rfl)))),Tb.zo,by omega,by omega,by decide +kernel⟩
   ·omega
  have hfit1:t1.fits es1.size=true:=by
   simp only[SetTable.fits,Bool.and_eq_true,beq_iff_eq,decide_eq_true_eq]
   refine⟨hp1,?_⟩
   rw[hfill]
   rcases hm1 with e | e | e | e | e | e<;>omega
  obtain⟨t2,order,hrel,hp2,hd2,hm2,hperm,_,hpl2,hT2⟩:=Tb.vw t1 (es:=es1) hm hw (by omega)
  obtain⟨r1,r2⟩:=xP hperm
  have r3:=vy hperm
  refine wpAny_bind ?_
  unfold setRelay
  refine wpAny_bind (wpAny_setState_of (s:={ s with heap:=h1 }) ho1 rfl hfit1 ?_)
  dsimp only
  rw[if_neg (Nat.not_lt.mpr hlt.2),hrel]
  refine wpAny_bind ?_
  show wpAny _ _ (do
   if(order.filterMap (es1[·]?)).size != es1.size then unsupported "internal:set-table-lost-an-element"
   pure (order.filterMap (es1[·]?),t2)) _ _ _
  rw[r1]
  simp only[bne_self_eq_false,Bool.false_eq_true,if_false]
  refine wpAny_pure ?_
  dsimp only
  refine wpAny_storeSet_of (s:={ s with heap:=h1 }) ho1 rfl ?_ (by rw[r1];omega)
  have ho2:(h1.update a (Obj.putSet (order.filterMap (es1[·]?)) t2)).get? a=some { o with data:=.set (order.filterMap (es1[·]?)) (ep+1+1) t2 }:=by
   have:=Heap.get?_update_self (Obj.putSet (order.filterMap (es1[·]?)) t2) ho1 (by rw[putSet_of _ _ (o:={ o with data:=.set es1 (ep+1) t1 }) rfl];rfl)
   rw[putSet_of _ _ (o:={ o with data:=.set es1 (ep+1) t1 }) rfl]at this
   exact this
  have hsb2:=Heap.SameBut.update h1 a (Obj.putSet (order.filterMap (es1[·]?)) t2)
  refine wpAny_pure (h _ (hsb1.trans hsb2) ⟨hnd,_,_,_,t2,ho2,hex,rfl,hd2,by rw[hm2];exact hm,by rw[r1,hm2,hs1];exact hlt.1,by rw[r1,hs1,hlen],by rw[hm2];exact hT2,fun e he=>?_,fun k hk=>?_,fun hx=>.inr (hpl2.trans (hpl1 hx))⟩)
  ·obtain⟨b,k,z1,z2,z3,z4⟩:=hall2 e (r2 e he)
   exact⟨b,k,z1,z2,ia z3 ho1 rfl hsb2,z4⟩
  ·obtain⟨b,z1,z2⟩:=hin2 k hk
   exact⟨b,r3.mem_iff.mpr z1,ia z2 ho1 rfl hsb2⟩
 ·have hq0:t1.tooFull=false:=by simpa using hq
  rw[hq0]
  simp only[Bool.and_false,Bool.false_eq_true,if_false]
  have hq':(n+1)*5<t1.mask*3:=by
   unfold SetTable.tooFull at hq0
   rw[hfill]at hq0
   simpa using hq0
  exact wpAny_pure (h h1 hsb1 ⟨hnd,_,es1,_,t1,ho1,hex,rfl,hdm1,hm1,by rw[hs1];exact hq',by rw[hs1,hlen],hT1,hall2,hin2,fun hx=>.inr (hpl1 hx)⟩)
theorem pM{α:Type}{xs:Array α}{p:Nat}{x e:α}(h:e=x\/e∈xs.toList):e∈(SetTable.insertAt xs p x).toList:=by
 rw[Tb.gY]
 rcases h with rfl | h
 ·exact List.mem_append_right _ List.mem_cons_self
 ·rw[←List.take_append_drop p xs.toList]at h
  rcases List.mem_append.mp h with a | a
  ·exact List.mem_append_left _ a
  ·exact List.mem_append_right _ (List.mem_cons_of_mem _ a)
theorem ins_map{α β:Type}(f:α->β)(xs:Array α)(p:Nat)(x:α):(SetTable.insertAt xs p x).map f=SetTable.insertAt (xs.map f) p (f x):=by
 apply Array.toList_inj.mp
 rw[Array.toList_map,Tb.gY,Tb.gY,Array.toList_map]
 simp
theorem yV{B:Addr->List Key->Prop}{a b:Addr}{k:List Key}{ks:List (List Key)}{Q:Bool->Shared->Prop}(hu:A.units<cLine)(hk:IsTupleKey (aM P w) s.heap k b)(hB:B b k)(hS:cV P w B s.heap a ks)(hsz:ks.length<1400)
  (h:∀h' r ks',Heap.SameBut a s.heap h'->cV P w B h' a ks'->ks'.length<=ks.length+1->(∀x,x∈ks'↔x∈ks\/x=k)->Q r { s with heap:=h' }):wpAny (model P w) A (setAddHashed a (.ref b) (tupleKeyHash (aM P w) k)) Q E s:=by
 obtain⟨hnd,o,es,ep,t,ho,hex,hd,hdm,hm,hfull,hlen,hT,hall,hin,hpl⟩:=id hS
 have hp:t.place.size=es.size:=by rw[hT.len,Array.size_map]
 have hle:es.size<=t.mask:=by omega
 have hf:t.fits es.size=true:=by
  simp only[SetTable.fits,Bool.and_eq_true,beq_iff_eq,decide_eq_true_eq]
  refine⟨hp,?_⟩
  unfold SetTable.fill
  rw[hdm,hp]
  simpa using hle
 have hturn:10*SetTable.turns t.mask<100000:=by
  unfold SetTable.turns
  rcases hm with e | e | e | e | e | e<;>rw[e]<;>decide
 have hst:∀x,(Tb.aE t x (Option.getD none (t.probeStart (tupleKeyHash (aM P w) k)))).j=Tb.pm t.mask (tupleKeyHash (aM P w) k) x:=fun x=>Tb.ue t _ x
 unfold setAddHashed setAddHashedIn
 refine wpAny_holding (wpAny_bind (wpAny_setState_of ho hd hf ?_))
 dsimp only
 have hsc:byScan (.ref b) es=false:=rfl
 rw[hsc]
 simp only[Bool.false_eq_true,if_false]
 unfold setSearch
 rcases Classical.em (k∈ks)with hold | hold
 ·obtain⟨b0,hb0,hkb0⟩:=hin k hold
  obtain⟨i0,hi0⟩:=List.getElem?_of_mem hb0
  rw[Array.getElem?_toList]at hi0
  have hi0s:=(Array.getElem?_eq_some_iff.mp hi0).1
  obtain⟨j0,hj0⟩:∃j0,t.place[i0]?=some j0:=⟨_,getElem?_pos t.place i0 (by omega)⟩
  obtain⟨K,q1,q2,q3⟩:=hT.rch i0 j0 (tupleKeyHash (aM P w) k) hj0 (by rw[Array.getElem?_map,hi0];rfl)
  refine wpAny_bind (xV hu hk ho hd hf hm hdm (fun e he=>?_) ⟨b0,hi0,hkb0⟩ ?_ K 100000 none (by omega) q1 rfl (fun x hx=>?_) ?_)
  ·obtain⟨b',k',e1,_,e3,_⟩:=hall e he
   exact⟨b',k',by rw[e1],e3⟩
  ·dsimp only
   refine wpAny_pure ?_
   have e:s={ s with heap:=s.heap }:=by cases s;rfl
   rw[e]
   exact h s.heap _ ks (Heap.SameBut.refl a s.heap) hS (Nat.le_succ _) fun x=>⟨.inl,fun z=>z.elim id fun e=>e ▸ hold⟩
  ·rw[hst]
   obtain⟨i,e,_⟩:=Tb.sy hT.inc (q3 x hx)
   rw[e]
   intro z
   cases z
  ·rw[hst,q2]
   exact Tb.slot_mem hT.inc hj0
 ·obtain⟨K,q1,q2,q3⟩:=Tb.vG hdm hm (by rw[hp];exact hle) (tupleKeyHash (aM P w) k)
  have hall':∀e∈es.toList,∃b' k',e.2=.ref b'/\IsTupleKey (aM P w) s.heap k' b'/\k'≠k:=fun e he=>by
   obtain⟨b',k',h1,h2,h3,_⟩:=hall e he
   exact⟨b',k',by rw[h1],h3,fun z=>hold (z ▸ h2)⟩
  refine wpAny_bind (vC hu hk ho hd hf hm hdm hall' K 100000 none (by omega) q1 rfl (fun x hx=>by rw[hst];exact q3 x hx) (by rw[hst];exact q2) ?_)
  rw[hst]
  dsimp only
  refine wpAny_bind (wpAny_setState_of ho hd hf ?_)
  dsimp only
  have hnm:=Tb.vt hT.inc q2
  have hTp:=hT.put q1 hnm (fun x hx=>Tb.xg hdm (q3 x hx))
  have hput:(t.put (Tb.pm t.mask (tupleKeyHash (aM P w) k) K)).1.dummies = #[]:=by
   show(if SetTable.has t.dummies _=true then _ else t.dummies) = #[]
   rw[hdm,Tb.om]
   rfl
  generalize Tb.pm t.mask (tupleKeyHash (aM P w) k) K=j at hTp hput
  have hT1:Tb.TOk t.mask (t.put j).1.place ((SetTable.insertAt es (t.put j).2 (tupleKeyHash (aM P w) k,Value.ref b)).map (·.1)):=by
   rw[ins_map]
   exact hTp
  have hins:∀e∈(SetTable.insertAt es (t.put j).2 (tupleKeyHash (aM P w) k,Value.ref b)).toList,∃b' k',e=(tupleKeyHash (aM P w) k',.ref b')/\k'∈k::ks/\IsTupleKey (aM P w) s.heap k' b'/\B b' k':=fun e he=>by
   rcases Tb.zV he with rfl | he
   ·exact⟨b,k,rfl,List.mem_cons_self,hk,hB⟩
   ·obtain⟨b',k',z1,z2,z3,z4⟩:=hall e he
    exact⟨b',k',z1,List.mem_cons_of_mem _ z2,z3,z4⟩
  have hin':∀k'∈k::ks,∃b',(tupleKeyHash (aM P w) k',Value.ref b')∈(SetTable.insertAt es (t.put j).2 (tupleKeyHash (aM P w) k,Value.ref b)).toList/\IsTupleKey (aM P w) s.heap k' b':=fun k' hk'=>by
   rcases List.mem_cons.mp hk' with rfl | hk'
   ·exact⟨b,pM (.inl rfl),hk⟩
   ·obtain⟨b',z1,z2⟩:=hin k' hk'
    exact⟨b',pM (.inr z1),z2⟩
  have hnd':(k::ks).Nodup:=List.nodup_cons.mpr ⟨hold,hnd⟩
  have h':∀h',Heap.SameBut a s.heap h'->cV P w B h' a (k::ks)->Q true { s with heap:=h' }:=fun h2 sb hS'=>h h2 true _ sb hS' (Nat.le_refl _) fun x=>by rw[List.mem_cons];exact⟨fun z=>z.symm,fun z=>z.symm⟩
  have fin:∀c:Bool,((∀k'∈k::ks,∃x,Sum.inr x∈k')->(t.put j).1.plain=false\/c=false)->wpAny (model P w) A (do
    storeSet a (SetTable.insertAt es (t.put j).2 (tupleKeyHash (aM P w) k,Value.ref b)) (if c=true then(t.put j).1 else{ (t.put j).1 with plain:=false })
    if(!false && (if c=true then(t.put j).1 else{ (t.put j).1 with plain:=false }).tooFull)=true then do
     setRelay a (SetTable.grown (es.size+1))
     pure true
    else pure true) Q E s:=fun c hcp=>by
   refine zh (ks1:=k::ks) hnd' ho hex hd (Tb.lY _ _ _) ?_ ?_ ?_ (by omega) (by rw[List.length_cons,hlen]) ?_ hins hin' ?_ h'
   ·cases c<;>exact hput
   ·cases c<;>exact hm
   ·cases c<;>exact hfull
   ·cases c<;>exact hT1
   ·intro hx
    cases c
    ·rfl
    ·rcases hcp hx with z | z
     ·exact z
     ·cases z
  cases hpl':(t.put j).1.plain
  ·simp only[Bool.false_eq_true,if_false]
   exact wpAny_bind (wpAny_pure (fin true fun _=>.inl hpl'))
  ·simp only[if_true]
   rcases Classical.em (∃x,Sum.inr x∈k)with⟨x,hx⟩ | hx
   ·exact wpAny_bind (Ar hk hx (fin false fun _=>.inr rfl))
   ·exact wpAny_bind (y8 hk fun c=>fin c fun hall=>absurd (hall k List.mem_cons_self) hx)
end
section
variable {P:Program} {w:World} {A:Around} {I:Addr} {fp wr:List Addr} {G:Array GenState->Array GenState->Prop} {n:Nat} {Pz:Nat->Value->Prop} {St:Nat->Shared->Prop}
theorem cV.moved{B:Addr->List Key->Prop}{h h':Heap}{a:Addr}{ks:List (List Key)}{wr:List Addr}(hS:cV P w B h a ks)(hk:∀b o,b∉wr->h.get? b=some o->h'.get? b=some o)(ha:a∉wr)(hw:∀b∈wr,∀o,h.get? b=some o->∃vs,o.data=.fields vs):cV P w B h' a ks:=by
 obtain⟨hnd,o,es,ep,t,ho,hex,hd,h1,h2,h3,h4,h5,hall,hin,hpl⟩:=hS
 have mv:∀k b,IsTupleKey (aM P w) h k b->IsTupleKey (aM P w) h' k b:=fun k b ⟨o',items,m,ho',hc,hd',hi⟩=>⟨o',items,m,hk b o' (fun hb=>by
   obtain⟨vs,hv⟩:=hw b hb o' ho'
   rw[hd']at hv
   cases hv) ho',hc,hd',hi⟩
 refine⟨hnd,o,es,ep,t,hk a o ha ho,hex,hd,h1,h2,h3,h4,h5,fun e he=>?_,fun k hk=>?_,hpl⟩
 ·obtain⟨b,k,z1,z2,z3,z4⟩:=hall e he
  exact⟨b,k,z1,z2,mv k b z3,z4⟩
 ·obtain⟨b,z1,z2⟩:=hin k hk
  exact⟨b,z1,mv k b z2⟩
theorem pI{B:Addr->List Key->Prop}(W:WalksS P w A.in1 I fp wr G n Pz St)(S:Addr)(hS:S∉fp)(hu:A.in1.units<cLine)(bs:List Addr)(kk:List (List Key))(hnk:kk.length=n)(hBk:∀(j:Nat) b k,bs[j]?=some b->kk[j]?=some k->B b k)(hsz:n<1400)
  (hval:∀i v,Pz i v->∃b,v=.ref b/\bs[i]?=some b) (hwr:∀i s,St i s->∀b∈wr,∀o,s.heap.get? b=some o->∃vs,o.data=.fields vs) {R:Result->Shared->Prop} :
  ∀(m i:Nat) (s:Shared) (D:List (List Key)),n-i=m->i<=n->St i s->cV P w B s.heap S D->D.length<=i->(∀k,k∈D↔k∈kk.take i)->(∀(j:Nat) (b:Addr) (k:List Key),bs[j]?=some b->kk[j]?=some k->IsTupleKey (aM P w) s.heap k b) →
   (∀s' D,Moved (S::wr) G s s'->cV P w B s'.heap S D->(∀k,k∈D↔k∈kk)->R (.ok (.ret .none)) s') →
   codeAny (model P w) A (.builtin "set.update.loop" ⟨[.ref S,.ref I],[]⟩) R s:=by
 have hSw:S∉wr:=fun z=>hS (W.sub _ z)
 have more:∀b∈wr,b∈S::wr:=fun b z=>List.mem_cons_of_mem _ z
 intro m
 induction m with
 | zero=>
  intro i s D hm hi hst hset _ hD hkeys hR
  obtain rfl:i=n:=by omega
  refine codeAny_builtin F.entry_set_update_loop ?_
  rw[Around.under_plainId F.plain_set_update_loop _]
  show wpAny _ A.in1 (pyNext (.ref I) >>= _) _ _ s
  refine wpAny_bind (W.done s _ _ hst fun s' mv=>?_)
  rw[←hnk,List.take_length]at hD
  exact wpAny_pure (hR s' D (mv.mono more) (hset.moved mv.heap hSw (hwr _ s hst)) hD)
 | succ m ih=>
  intro i s D hm hi hst hset hDl hD hkeys hR
  have hlt:i<n:=by omega
  refine codeAny_builtin F.entry_set_update_loop ?_
  rw[Around.under_plainId F.plain_set_update_loop _]
  show wpAny _ A.in1 (pyNext (.ref I) >>= _) _ _ s
  refine wpAny_bind (W.item i s _ _ hlt hst fun v s' hP hst' mv=>?_)
  obtain⟨b,rfl,hb⟩:=hval i v hP
  have hki:kk[i]?=some kk[i]:=List.getElem?_eq_getElem (by omega)
  have hset':=hset.moved mv.heap hSw (hwr _ s hst)
  have hkeys':∀(j:Nat) (b:Addr) (k:List Key),bs[j]?=some b->kk[j]?=some k->IsTupleKey (aM P w) s'.heap k b:=fun j b k e1 e2=>by
   obtain⟨o',items,q,ho',hc,hd',hi'⟩:=hkeys j b k e1 e2
   refine⟨o',items,q,mv.heap b o' (fun hbw=>?_) ho',hc,hd',hi'⟩
   obtain⟨vs,hv⟩:=hwr _ s hst b hbw o' ho'
   rw[hd']at hv
   cases hv
  show wpAny _ A.in1 (holding [Value.ref b] (setAdd S (.ref b)) >>= _) _ _ s'
  refine wpAny_bind (wpAny_holding ?_)
  unfold setAdd
  refine wpAny_holding (wpAny_bind (wpAny_pyHash_tuple hu (hkeys' i b _ hb hki) ?_))
  refine yV (s:={ s' with toks:=s'.toks+(kk[i].length+1) }) hu (hkeys' i b _ hb hki) (hBk i b _ hb hki) hset' (by omega) fun h' r D1 sb hset2 hD1l hD1=>?_
  have htk:∀k,k∈D1↔k∈kk.take (i+1):=fun k=>by
   rw[hD1,hD k,List.take_add_one,hki,List.mem_append]
   simp
  obtain⟨_,oS,esS,epS,tS,hoS,_,hdS,_⟩:=id hset'
  refine wpAny_pure ⟨plainId_quiet F.plain_set_update_loop _,ih (i+1) _ _ (by omega) hlt (W.frame _ s' _ _ hst' (Nat.le_add_right _ _) fun c hc o e=>?_) hset2 (by omega) htk (fun j c k e1 e2=>ia (hkeys' j c k e1 e2) hoS hdS sb) fun s'' D2 mv2 hS2=>?_⟩
  ·rw[sb.2 c (fun z:c=S=>hS (z ▸ hc))]
   exact e
  ·refine hR s'' D2 (Moved.trans W.gtrans ((mv.mono more).then_heap (Nat.le_add_right _ _) fun c o hc e=>?_) mv2) hS2
   rw[sb.2 c (fun z:c=S=>hc (by rw[z];exact List.mem_cons_self))]
   exact e
end
end L2
set_option Elab.async false
set_option linter.all false
set_option maxRecDepth 100000
set_option maxHeartbeats 4000000
namespace L2
open PySem PySem.Spec PyProof.Rows
section
variable {P:Program} {w:World} {A:Around} {E:Value->Shared->Prop} {s:Shared}
abbrev bW(led:Bool):Obj:={ cls:=.type "set",dict:=none,data:=.set #[] 0 (.fresh 0 0 led) }
def ie(P:Program)(w:World)(s:Shared)(bs:List Addr)(kk D:List (List Key))(h':Heap):Prop:=
 cV P w (fun b k=>∃j:Nat,bs[j]?=some b/\kk[j]?=some k) h' s.heap.objs.size D/\(∀k,k∈D↔k∈kk)/\∀b o,b<s.heap.objs.size->s.heap.get? b=some o->h'.get? b=some o
theorem wD:isSubtype (.type "tuple") (.type "frozenset")=pure false:=by
 rw[isSubtype_type]
 kernel_rfl
theorem zv{t:Addr}{ys:Array Value}{bs:List Addr}{kk:List (List Key)}{Q:Value->Shared->Prop}(hA:A.handled=none)(hu:A.units+5<cLine)(gt:s.heap.IsTuple t ys)(hb:ys.toList=bs.map Value.ref)
  (hn:kk.length=ys.size) (hz:ys.size<1400) (hkey:∀(j:Nat) (b:Addr) (k:List Key),bs[j]?=some b->kk[j]?=some k->IsTupleKey (aM P w) s.heap k b)
  (h:∀(h':Heap) (tk:Nat) (D:List (List Key)),ie P w s bs kk D h'->Q (.ref s.heap.objs.size) { s with heap:=h',toks:=tk }):wpAny (model P w) A (call (.type "set") [.ref t]) Q E s:=by
 have x1:=F.called_set.notType
 have x2:=F.called_set.canCreate
 have x3:=F.typeCall_set_1 (.ref t)
 have x4:=F.called_set.made
 have x5:=F.called_set.sub
 obtain⟨c,tl,x6⟩:=F.called_set.mro
 refine wpAny_call (codeAny_of_tree ?_)
 show wpAny _ _ (callAny (.type "set") _) _ _ _
 refine wpAny_pure ⟨Code.quiet_builtin _ (by decide +kernel),codeAny_builtin F.entry_type_call ?_⟩
 rw[Around.under_plain (weight_type_call_type "set" [.ref t] []) rfl]
 repeat (any_goals (first | assumption | wp_step))
 refine codeAny_mono (code_set_new_1 (.ref t) (E:=E) (Q₁:=fun v s1=>∃led,v=.ref s.heap.objs.size/\s1={ s with heap:=s.heap.push (bW led) }) fun led=>⟨led,rfl,rfl⟩) fun r s1 hr=>?_
 cases r with
 | error e=>exact hr
 | ok fl=>
  cases fl with
  | ret v=>
   obtain⟨led,rfl,rfl⟩:=hr
   have gS:(s.heap.push (bW led)).get? s.heap.objs.size=some (bW led):=Heap.get?_push_size _ rfl
   have hT:Shared.TypeIs { s with heap:=s.heap.push (bW led) } (.ref s.heap.objs.size) "set":=⟨_,gS,rfl⟩
   have x7:=F.called_set.init.lookup
   have x8:=F.called_set.init.bind (.ref s.heap.objs.size)
   repeat (any_goals (first | assumption | wp_step))
   refine codeAny_mono (codeAny_call_builtin (R:=wants (fun r s2=>r=.none/\∃h' tk D,s2={ s with heap:=h',toks:=tk }/\ie P w s bs kk D h') E) F.called_set.init.plain F.entry_set_init (check_set_init_1 hT ?_)) fun r2 s2 hr2=>?_
   ·have g1:(s.heap.push (bW led)).IsTuple t ys:=gt.push _
    have hlt:t<s.heap.objs.size:=by
     obtain⟨o,ho,_⟩:=gt
     exact Heap.lt_size ho
    obtain⟨ol,hol,hcl,nl,hdl⟩:=id g1
    obtain⟨c0,d0,dt,sl⟩:=ol
    simp only at hcl hdl
    subst hcl hdl
    have y1:=F.sub_tuple_set
    have y2:=wD
    have y3:(Value.type "tuple" == Value.type "dict")=false:=by decide
    unfold Builtin.«set.__init__» noKeywords Builtin.Frozenset.updateFrom
    generalize hit:pyIter=PI
    wp_walk
    subst hit
    refine wpAny_pyIter_tuple g1 ?_
    refine wpAny_bind (wpAny_runValue ?_)
    have e1:(s.heap.push (bW led)).objs.size=s.heap.objs.size+1:=Heap.size_push _ _
    have hA3:A.in1.in1.in1.handled=none:=by simp[hA]
    have hne:t≠(s.heap.push (bW led)).objs.size:=by
     rw[e1]
     exact Nat.ne_of_lt (Nat.lt_succ_of_lt hlt)
    have hSf:s.heap.objs.size∉[(s.heap.push (bW led)).objs.size,t]:=by
     intro z
     rcases List.mem_cons.mp z with z | z
     ·rw[e1]at z
      exact Nat.ne_of_lt (Nat.lt_succ_self _) z
     ·exact Nat.ne_of_gt hlt (List.mem_singleton.mp z)
    have hbs:∀i:Nat,ys[i]?=(bs[i]?).map Value.ref:=fun i=>by
     rw[←Array.getElem?_toList,hb,List.getElem?_map]
    refine pI (B:=fun b k=>∃j:Nat,bs[j]?=some b/\kk[j]?=some k) ((Walks.tuple hA3 _ t hne ys).toS) s.heap.objs.size hSf (by simp only[Around.in1_units];omega) bs kk hn (fun j b k q1 q2=>⟨j,q1,q2⟩) hz (fun i v hv=>?_) (fun i s' hs b hb' o ho=>?_) (ys.size-0) 0 _ [] (by omega) (Nat.zero_le _) ⟨⟨_,Heap.get?_push_size _ rfl,rfl,rfl⟩,g1.push _⟩ ⟨List.nodup_nil,bW led,#[],0,_,Heap.get?_push_of_some _ gS,⟨rfl,rfl,rfl⟩,rfl,rfl,.inl rfl,(show 0*5<7*3 by decide),rfl,(by rw[Array.map_empty];exact Tb.TOk.nil 7),fun e he=>(by simp at he),fun k hk=>(by cases hk),fun _=>.inl rfl⟩ (Nat.le_refl _) (fun k=>by simp) (fun j b k e1 e2=>?_) fun s' D mv hS' hD=>?_
    ·have hv':ys[i]?=some v:=hv
     rw[hbs i]at hv'
     obtain⟨b,e,rfl⟩:=Option.map_eq_some_iff.mp hv'
     exact⟨b,rfl,e⟩
    ·cases List.mem_singleton.mp hb'
     obtain⟨o',ho',_,hd'⟩:=hs.1
     rw[ho']at ho
     cases ho
     exact⟨_,hd'⟩
    ·obtain⟨o,items,q,ho,r⟩:=hkey j b k e1 e2
     exact⟨o,items,q,Heap.get?_push_of_some _ (Heap.get?_push_of_some _ ho),r⟩
    ·obtain⟨h',g',d',tk',os'⟩:=s'
     have q1:g'=s.gens:=mv.gens
     have q2:d'=s.drawn:=mv.drawn
     have q3:os'=s.os:=mv.os
     subst q1 q2 q3
     show wpAny _ _ _ _ _ _
     refine wpAny_pure ?_
     show wpAny _ _ (ret Value.none) _ _ _
     refine wpAny_pure ⟨rfl,h',tk',D,rfl,hS',hD,fun b o hb e=>mv.heap b o (fun z=>?_) (Heap.get?_push_of_some _ (Heap.get?_push_of_some _ e))⟩
     rcases List.mem_cons.mp z with z | z
     ·exact Nat.ne_of_lt hb z
     ·have z:=List.mem_singleton.mp z
      rw[e1]at z
      exact Nat.ne_of_lt (Nat.lt_succ_of_lt hb) z
   ·cases r2 with
    | error e=>exact hr2
    | ok f2=>
     cases f2 with
     | ret r=>
      obtain⟨rfl,h',tk,D,rfl,hS'⟩:=hr2
      repeat (any_goals (first | assumption | wp_step))
      exact h _ _ D hS'
     | _=>exact hr2.elim
  | _=>exact hr.elim
theorem zC{t:Addr}{ys:Array Value}{bs:List Addr}{kk:List (List Key)}{Q:Value->Shared->Prop}(hA:A.handled=none)(hu:A.units+5<cLine)(gt:s.heap.IsList t ys)(hb:ys.toList=bs.map Value.ref)
  (hn:kk.length=ys.size) (hz:ys.size<1400) (hkey:∀(j:Nat) (b:Addr) (k:List Key),bs[j]?=some b->kk[j]?=some k->IsTupleKey (aM P w) s.heap k b)
  (h:∀(h':Heap) (tk:Nat) (D:List (List Key)),ie P w s bs kk D h'->Q (.ref s.heap.objs.size) { s with heap:=h',toks:=tk }):wpAny (model P w) A (call (.type "set") [.ref t]) Q E s:=by
 have x1:=F.called_set.notType
 have x2:=F.called_set.canCreate
 have x3:=F.typeCall_set_1 (.ref t)
 have x4:=F.called_set.made
 have x5:=F.called_set.sub
 obtain⟨c,tl,x6⟩:=F.called_set.mro
 refine wpAny_call (codeAny_of_tree ?_)
 show wpAny _ _ (callAny (.type "set") _) _ _ _
 refine wpAny_pure ⟨Code.quiet_builtin _ (by decide +kernel),codeAny_builtin F.entry_type_call ?_⟩
 rw[Around.under_plain (weight_type_call_type "set" [.ref t] []) rfl]
 repeat (any_goals (first | assumption | wp_step))
 refine codeAny_mono (code_set_new_1 (.ref t) (E:=E) (Q₁:=fun v s1=>∃led,v=.ref s.heap.objs.size/\s1={ s with heap:=s.heap.push (bW led) }) fun led=>⟨led,rfl,rfl⟩) fun r s1 hr=>?_
 cases r with
 | error e=>exact hr
 | ok fl=>
  cases fl with
  | ret v=>
   obtain⟨led,rfl,rfl⟩:=hr
   have gS:(s.heap.push (bW led)).get? s.heap.objs.size=some (bW led):=Heap.get?_push_size _ rfl
   have hT:Shared.TypeIs { s with heap:=s.heap.push (bW led) } (.ref s.heap.objs.size) "set":=⟨_,gS,rfl⟩
   have x7:=F.called_set.init.lookup
   have x8:=F.called_set.init.bind (.ref s.heap.objs.size)
   repeat (any_goals (first | assumption | wp_step))
   refine codeAny_mono (codeAny_call_builtin (R:=wants (fun r s2=>r=.none/\∃h' tk D,s2={ s with heap:=h',toks:=tk }/\ie P w s bs kk D h') E) F.called_set.init.plain F.entry_set_init (check_set_init_1 hT ?_)) fun r2 s2 hr2=>?_
   ·have g1:(s.heap.push (bW led)).IsList t ys:=gt.push _
    have hlt:t<s.heap.objs.size:=by
     obtain⟨o,ho,_⟩:=gt
     exact Heap.lt_size ho
    obtain⟨ol,hol,hcl,nl,hdl⟩:=id g1
    obtain⟨c0,d0,dt,sl⟩:=ol
    simp only at hcl hdl
    subst hcl hdl
    have y1:=F.sub_list_set
    have y2:=F.sub_list_frozenset
    have y3:(Value.type "list" == Value.type "dict")=false:=by decide
    unfold Builtin.«set.__init__» noKeywords Builtin.Frozenset.updateFrom
    generalize hit:pyIter=PI
    wp_walk
    subst hit
    refine wpAny_pyIter_list g1 ?_
    refine wpAny_bind (wpAny_runValue ?_)
    have e1:(s.heap.push (bW led)).objs.size=s.heap.objs.size+1:=Heap.size_push _ _
    have hA3:A.in1.in1.in1.handled=none:=by simp[hA]
    have hne:t≠(s.heap.push (bW led)).objs.size:=by
     rw[e1]
     exact Nat.ne_of_lt (Nat.lt_succ_of_lt hlt)
    have hSf:s.heap.objs.size∉[(s.heap.push (bW led)).objs.size,t]:=by
     intro z
     rcases List.mem_cons.mp z with z | z
     ·rw[e1]at z
      exact Nat.ne_of_lt (Nat.lt_succ_self _) z
     ·exact Nat.ne_of_gt hlt (List.mem_singleton.mp z)
    have hbs:∀i:Nat,ys[i]?=(bs[i]?).map Value.ref:=fun i=>by
     rw[←Array.getElem?_toList,hb,List.getElem?_map]
    refine pI (B:=fun b k=>∃j:Nat,bs[j]?=some b/\kk[j]?=some k) ((Walks.list hA3 _ t hne ys).toS) s.heap.objs.size hSf (by simp only[Around.in1_units];omega) bs kk hn (fun j b k q1 q2=>⟨j,q1,q2⟩) hz (fun i v hv=>?_) (fun i s' hs b hb' o ho=>?_) (ys.size-0) 0 _ [] (by omega) (Nat.zero_le _) ⟨⟨_,Heap.get?_push_size _ rfl,rfl,rfl⟩,g1.push _⟩ ⟨List.nodup_nil,bW led,#[],0,_,Heap.get?_push_of_some _ gS,⟨rfl,rfl,rfl⟩,rfl,rfl,.inl rfl,(show 0*5<7*3 by decide),rfl,(by rw[Array.map_empty];exact Tb.TOk.nil 7),fun e he=>(by simp at he),fun k hk=>(by cases hk),fun _=>.inl rfl⟩ (Nat.le_refl _) (fun k=>by simp) (fun j b k e1 e2=>?_) fun s' D mv hS' hD=>?_
    ·have hv':ys[i]?=some v:=hv
     rw[hbs i]at hv'
     obtain⟨b,e,rfl⟩:=Option.map_eq_some_iff.mp hv'
     exact⟨b,rfl,e⟩
    ·cases List.mem_singleton.mp hb'
     obtain⟨o',ho',_,hd'⟩:=hs.1
     rw[ho']at ho
     cases ho
     exact⟨_,hd'⟩
    ·obtain⟨o,items,q,ho,r⟩:=hkey j b k e1 e2
     exact⟨o,items,q,Heap.get?_push_of_some _ (Heap.get?_push_of_some _ ho),r⟩
    ·obtain⟨h',g',d',tk',os'⟩:=s'
     have q1:g'=s.gens:=mv.gens
     have q2:d'=s.drawn:=mv.drawn
     have q3:os'=s.os:=mv.os
     subst q1 q2 q3
     show wpAny _ _ _ _ _ _
     refine wpAny_pure ?_
     show wpAny _ _ (ret Value.none) _ _ _
     refine wpAny_pure ⟨rfl,h',tk',D,rfl,hS',hD,fun b o hb e=>mv.heap b o (fun z=>?_) (Heap.get?_push_of_some _ (Heap.get?_push_of_some _ e))⟩
     rcases List.mem_cons.mp z with z | z
     ·exact Nat.ne_of_lt hb z
     ·have z:=List.mem_singleton.mp z
      rw[e1]at z
      exact Nat.ne_of_lt (Nat.lt_succ_of_lt hb) z
   ·cases r2 with
    | error e=>exact hr2
    | ok f2=>
     cases f2 with
     | ret r=>
      obtain⟨rfl,h',tk,D,rfl,hS'⟩:=hr2
      repeat (any_goals (first | assumption | wp_step))
      exact h _ _ D hS'
     | _=>exact hr2.elim
  | _=>exact hr.elim
end
end L2
set_option Elab.async false
set_option linter.all false
set_option maxRecDepth 100000
set_option maxHeartbeats 4000000
namespace L2
open PySem PySem.Spec PyProof.Rows
namespace SF
end SF
section
variable {P:Program} {w:World} {A:Around} {E:Value->Shared->Prop} {s:Shared}
end
end L2
set_option Elab.async false
set_option linter.all false
set_option maxRecDepth 100000
set_option maxHeartbeats 4000000
namespace L2
open PySem PySem.Spec PyProof.Rows
section
variable {P:Program} {w:World} {A:Around} {E:Value->Shared->Prop} {s:Shared}
end
end L2
set_option Elab.async false
set_option linter.all false
set_option maxRecDepth 100000
set_option maxHeartbeats 4000000
namespace PyProof.Rows
open PySem
section
variable {prog:Program} {w:World} {A:Around} {E:Value->Shared->Prop} {s:Shared} {κ:SortKind} {X:Keyed->Prop}
open Classical in
end
end PyProof.Rows
set_option Elab.async false
set_option linter.all false
set_option maxRecDepth 100000
set_option maxHeartbeats 4000000
namespace L2
open PySem PySem.Spec PyProof.Rows
section
variable {P:Program} {w:World} {A:Around} {E:Value->Shared->Prop} {s:Shared}
end
end L2
set_option Elab.async false
set_option linter.all false
set_option maxRecDepth 100000
set_option maxHeartbeats 4000000
namespace L2
open PySem PySem.Spec PyProof.Rows
section
variable {P:Program} {w:World} {A:Around} {E:Value->Shared->Prop} {s:Shared}
open Classical in
theorem sY{α:Type}{D ds:List α}(hd:D.Nodup)(hs:∀k∈D,k∈ds)(hl:ds.length=D.length):ds.Perm D:=by
 induction D generalizing ds with
 | nil=>
  rw[List.length_nil,List.length_eq_zero_iff]at hl
  subst hl
  exact .refl _
 | cons d D ih=>
  have hm:=hs d List.mem_cons_self
  have p1:=List.perm_cons_erase hm
  have hd':=List.nodup_cons.mp hd
  refine p1.trans ((ih hd'.2 (fun k hk=>?_) ?_).cons d)
  ·refine(List.mem_erase_of_ne ?_).mpr (hs k (List.mem_cons_of_mem _ hk))
   rintro rfl
   exact hd'.1 hk
  ·rw[List.length_erase_of_mem hm,hl]
   rfl
theorem key_inj{h:Heap}{b:Addr}{k1 k2:List Key}(h1:IsTupleKey (aM P w) h k1 b)(h2:IsTupleKey (aM P w) h k2 b):k1=k2:=by
 obtain⟨o1,i1,n1,z1,_,z2,z3⟩:=h1
 obtain⟨o2,i2,n2,y1,_,y2,y3⟩:=h2
 rw[z1]at y1
 cases y1
 rw[z2]at y2
 cases y2
 exact z3.inj y3
end
end L2
set_option Elab.async false
set_option linter.all false
set_option maxRecDepth 100000
set_option maxHeartbeats 4000000
namespace L2
open PySem PySem.Spec PyProof.Rows
abbrev tK(P:Program)(w:World)(x:Addr×List Key):Int×Value:=(tupleKeyHash (aM P w) x.2,.ref x.1)
def kX(P:Program)(w:World)(h:Heap)(a:Addr)(L:List (Addr×List Key)):Prop:=∃o es ep t,h.get? a=some o/\o.ExactSet/\o.data=.set es ep t/\t.dummies = #[]/\Tb.Mask t.mask/\es.size*5<t.mask*3/\Tb.TOk t.mask t.place (es.map (·.1))/\es.toList=L.map (tK P w)/\((∀x∈L,∃z,Sum.inr z∈x.2)->L=[]\/t.plain=false)
def iR(P:Program)(w:World)(a:Addr)(L:List (Addr×List Key)):HO:=.ext fun h=>kX P w h a L
section
variable {P:Program} {w:World}
theorem oT{h:Heap}{B:Addr->List Key->Prop}{D:List (List Key)}:∀{es:List (Int×Value)},(∀e∈es,∃b k,e=(tupleKeyHash (aM P w) k,Value.ref b)/\k∈D/\IsTupleKey (aM P w) h k b/\B b k)->∃L:List (Addr×List Key),es=L.map (tK P w)/\∀x∈L,x.2∈D/\IsTupleKey (aM P w) h x.2 x.1/\B x.1 x.2
 | [],_=>⟨[],rfl,fun x hx=>by cases hx⟩
 | e::es,hall=>by
  obtain⟨L,h1,h2⟩:=oT (es:=es) fun x hx=>hall x (List.mem_cons_of_mem _ hx)
  obtain⟨b,k,rfl,hk,hkb,hBb⟩:=hall e List.mem_cons_self
  refine⟨(b,k)::L,by rw[h1];rfl,fun x hx=>?_⟩
  rcases List.mem_cons.mp hx with rfl | hx
  ·exact⟨hk,hkb,hBb⟩
  ·exact h2 x hx
theorem cV.obj{B:Addr->List Key->Prop}{h:Heap}{a:Addr}{D:List (List Key)}(hS:cV P w B h a D):∃L,kX P w h a L/\(L.map (·.2)).Perm D/\∀x∈L,B x.1 x.2:=by
 obtain⟨hnd,o,es,ep,t,ho,hex,hd,hdm,hm,hfull,hlen,hT,hall,hin,hpl⟩:=hS
 obtain⟨L,h1,h2⟩:=oT hall
 have hl:L.length=D.length:=by
  rw[←hlen,←Array.length_toList,h1,List.length_map]
 refine⟨L,⟨o,es,ep,t,ho,hex,hd,hdm,hm,hfull,hT,h1,fun hx=>?_⟩,sY hnd (fun k hk=>?_) (by rw[List.length_map,hl]),fun x hx=>(h2 x hx).2.2⟩
 ·have hx':∀k∈D,∃z,Sum.inr z∈k:=fun k hk=>by
   obtain⟨b,hb,hkb⟩:=hin k hk
   rw[h1]at hb
   obtain⟨x,hx',e⟩:=List.mem_map.mp hb
   have e2:Value.ref x.1=Value.ref b:=congrArg Prod.snd e
   cases e2
   rw[key_inj hkb (h2 x hx').2.1]
   exact hx x hx'
  rcases hpl hx' with e | e
  ·subst e
   rw[List.length_nil,List.length_eq_zero_iff]at hl
   exact .inl hl
  ·exact .inr e
 ·obtain⟨b,hb,hkb⟩:=hin k hk
  rw[h1]at hb
  obtain⟨x,hx',e⟩:=List.mem_map.mp hb
  have e2:Value.ref x.1=Value.ref b:=congrArg Prod.snd e
  cases e2
  rw[key_inj hkb (h2 x hx').2.1]
  exact List.mem_map.mpr ⟨x,hx',rfl⟩
theorem zp{H:Hp}{h:Heap}{a:Addr}{L:List (Addr×List Key)}(S:kX P w h a L):bI P w H h a (iR P w a L):=by
 refine⟨S,?_,fun h1 h2 z k=>?_⟩
 ·obtain⟨o,es,ep,t,ho,_⟩:=S
  exact⟨o,ho⟩
 ·obtain⟨o',es',ep',t',ho',r⟩:=z
  exact⟨o',es',ep',t',k _ ho',r⟩
end
section
variable {X:Cx} {pins:List (Addr×Obj)} {σ:St} {H:Hp} {s:Shared}
theorem lJ:∀{bs:List Addr} {us:List Value},Vals (bs.map V.ref) us->us=bs.map Value.ref
 | [],_,.nil=>rfl
 | b::bs,_,.cons r t=>by
  rw[List.map_cons,←lJ (bs:=bs) t]
  exact congrArg (· :: _) r
theorem yk(I:Inv X pins σ H s){b:Addr}{k:List Key}(e:H b=some (.tup (k.map kV))):IsTupleKey (aM X.prog X.w) s.heap k b:=by
 obtain⟨_,is,rk,o,ho,hc,n,hd⟩:=I.hok b _ e
 exact⟨o,_,n,ho,hc,hd,uQ rk⟩
def iH(H:Hp)(bs:List Addr)(kk:List (List Key)):Prop:=bs.length=kk.length/\∀(j:Nat) (b:Addr) (k:List Key),bs[j]?=some b->kk[j]?=some k->H b=some (.tup (k.map kV))
theorem iH.ext{H H':Hp}{bs:List Addr}{kk:List (List Key)}(e:Ext H H')(h:iH H bs kk):iH H' bs kk:=⟨h.1,fun j b k e1 e2=>e _ _ (h.2 j b k e1 e2)⟩
end
section
variable {X:Cx}
def A0(P:Program)(w:World):List V->Hp->VK->Prop:=fun xs H Q=>∃p bs kk,xs=[.ref p]/\(H p=some (.tup (bs.map V.ref))\/H p=some (.lst (bs.map V.ref)))/\iH H bs kk/\kk.length<1400 ∧
 ∀l L,H l=none->(L.map Prod.snd).Nodup->(∀k,k∈L.map Prod.snd↔k∈kk)->(∀x∈L,H x.1=some (.tup (x.2.map kV)))->Q (.ref l) (upd H l (iR P w l L))
theorem yb{k:Nat}(hr:Room k X.A):bC X (.type "set") (A0 X.prog X.w):=by
 intro pins s σ H xs us Q I r h
 obtain⟨p,bs,kk,rfl,hp,⟨h2,h3⟩,hz,q⟩:=h
 obtain⟨u,rfl,rx⟩:=vals1 r
 cases rx
 have hu:=hr.units
 have hA:=hr.hd
 have keys:∀(j:Nat) (b:Addr) (k:List Key),bs[j]?=some b->kk[j]?=some k->IsTupleKey (aM X.prog X.w) s.heap k b:=fun j b k e1 e2=>yk I (h3 j b k e1 e2)
 have fin:∀(h':Heap) (tk:Nat) (D:List (List Key)),ie X.prog X.w s bs kk D h'->∃v H',Inv X pins σ H' { s with heap:=h',toks:=tk }/\RelV v (.ref s.heap.objs.size)/\Q v H':=fun h' tk D hm=>by
  obtain⟨hS,hD,hk⟩:=hm
  obtain⟨L,hO,hLp,hLB⟩:=hS.obj
  have hfr:=I.hok.fresh (Nat.le_refl _)
  refine⟨.ref s.heap.objs.size,_,I.laid (t':=tk) (fun b o e=>hk b o (Heap.lt_size e) e) (Nat.le_refl _) (zp hO),rfl,q _ L hfr (hLp.nodup_iff.mpr hS.1) (fun k=>(hLp.mem_iff.trans (hD k))) fun x hx=>?_⟩
  obtain⟨j,e1,e2⟩:=hLB x hx
  exact h3 j _ _ e1 e2
 rcases hp with hp | hp
 ·obtain⟨_,its,rv,gt⟩:=I.hok p _ hp
  have ei:=lJ rv
  subst ei
  refine zv (kk:=kk) (bs:=bs) hA (by omega) (show s.heap.IsTuple p _ from gt) rfl (by simp[h2]) (by simp[h2];exact hz) keys fin
 ·obtain⟨_,its,n,rv,gt⟩:=I.hok p _ hp
  have ei:=lJ rv
  subst ei
  refine zC (kk:=kk) (bs:=bs) hA (by omega) (show s.heap.IsList p _ from⟨_,gt,rfl,n,rfl⟩) rfl (by simp[h2]) (by simp[h2];exact hz) keys fin
def vE(P:Program)(w:World):List V->Hp->VK->Prop:=fun xs H Q=>∃p L,xs=[.ref p]/\H p=some (iR P w p L)/\L.length<1400/\Q (.int L.length) H
theorem xw:bC X (.builtin "len") (vE X.prog X.w):=by
 intro pins s σ H xs us Q I r h
 obtain⟨p,L,rfl,hp,hn,q⟩:=h
 obtain⟨u,rfl,rx⟩:=vals1 r
 cases rx
 obtain⟨⟨o,es,ep,t,ho,hex,hd,hdm,hm,hfull,hT,hel,_⟩,_⟩:=I.hok p _ hp
 have hpl:t.place.size=es.size:=by rw[hT.len,Array.size_map]
 have hs:es.size=L.length:=by rw[←Array.length_toList,hel,List.length_map]
 have hf:t.fits es.size=true:=by
  simp only[SetTable.fits,Bool.and_eq_true,beq_iff_eq,decide_eq_true_eq]
  refine⟨hpl,?_⟩
  unfold SetTable.fill
  rw[hdm,hpl]
  have:es.size<=t.mask:=by omega
  simpa using this
 refine call_len_set ho hex hd hf (by omega) ⟨.int L.length,H,I.tok _,⟨s.toks+1,by rw[hs]⟩,q⟩
end
end L2
set_option Elab.async false
set_option linter.all false
set_option maxRecDepth 100000
set_option maxHeartbeats 4000000
namespace L2
open PySem PySem.Spec PyProof.Rows
section
variable {X:Cx} {pins:List (Addr×Obj)} {σ:St} {H:Hp} {s:Shared}
end
open AutoSeq1 (wpAny_loadPart')in
section
variable {K:PySem.W.Frag} {σ:St} {H:Hp} {Q:VK}
end
section
variable {X:Cx}
def m9(neg:Bool):R2:=fun x y H Q=>∃n p xs d ds,bo H n x d/\y=.ref p/\H p=some (.lst xs)/\Paired (bo H n) xs ds/\n<=50/\Q (.bl (if neg then !(ds.any fun e=>PyData.eqv e d)else ds.any fun e=>PyData.eqv e d)) H
theorem Bi{k:Nat}(hr:Room k X.A):bp X (compareOp .In) (m9 false):=by
 intro pins s σ H x y v u Q I rx ry h
 obtain⟨n,p,xs,d,ds,h1,rfl,h2,h3,hn,q⟩:=h
 have h4:bo H (n+1) (.ref p) (.list ds):=.inr ⟨p,xs,ds,rfl,.inr ⟨h2,rfl⟩,h3⟩
 obtain⟨as,ra⟩:=bo.reads I n h1 rx
 obtain⟨bs,rb⟩:=bo.reads I (n+1) h4 ry
 have l1:=bo.lay n h1
 have l2:=kj (fun{x d}=>bo.lay (H:=H) n) h3
 have hu:=hr.units
 have hm:min (PyData.depthAll ds) d.depth<=50:=Nat.le_trans (Nat.min_le_right _ _) (Nat.le_trans l1.2 hn)
 exact SeqAt.in_list_reads rb ra l2.1 l1.1 (by omega) ⟨.bl _,H,I,rfl,q⟩
theorem ya{k:Nat}(hr:Room k X.A):bp X (compareOp .NotIn) (m9 true):=by
 intro pins s σ H x y v u Q I rx ry h
 obtain⟨n,p,xs,d,ds,h1,rfl,h2,h3,hn,q⟩:=h
 have h4:bo H (n+1) (.ref p) (.list ds):=.inr ⟨p,xs,ds,rfl,.inr ⟨h2,rfl⟩,h3⟩
 obtain⟨as,ra⟩:=bo.reads I n h1 rx
 obtain⟨bs,rb⟩:=bo.reads I (n+1) h4 ry
 have l1:=bo.lay n h1
 have l2:=kj (fun{x d}=>bo.lay (H:=H) n) h3
 have hu:=hr.units
 have hm:min (PyData.depthAll ds) d.depth<=50:=Nat.le_trans (Nat.min_le_right _ _) (Nat.le_trans l1.2 hn)
 exact SeqAt.notIn_list_reads rb ra l2.1 l1.1 (by omega) ⟨.bl _,H,I,rfl,q⟩
theorem xb{neg:Bool}{n:Nat}{x:V}{p:Addr}{xs:List V}{d:PyData}{ds:List PyData}{H:Hp}{Q:VK}(h1:bo H n x d)(h2:H p=some (.lst xs))(h3:Paired (bo H n) xs ds)(hn:n<=50)(q:Q (.bl (if neg then !(ds.any fun e=>PyData.eqv e d)else ds.any fun e=>PyData.eqv e d)) H):m9 neg x (.ref p) H Q:=
 ⟨n,p,xs,d,ds,h1,rfl,h2,h3,hn,q⟩
end
end L2
set_option Elab.async false
set_option linter.all false
set_option maxRecDepth 100000
set_option maxHeartbeats 4000000
namespace L2
open PySem PySem.Spec PyProof.Rows
abbrev Row3:=Str×Tok×Value
def jL(w:World)(e:Row3):DictEntry:=⟨PyData.keyHash w.params e.1,.str e.1 e.2.1,e.2.2⟩
def fV(w:World)(l:List Row3)(ep:Nat):Obj:={ cls:=.type "dict",dict:=none,data:=.dict (l.map (jL w)).toArray ep,slots:=#[] }
structure GDict(w:World)(K:PySem.W.Frag)(a:Addr)(kvs:List (Key×V)):Prop where
 has:∃l ep,K.lookup a=some (fV w l ep)/\KV kvs (l.map fun e=>((Sum.inr e.1:Key),e.2.2))
 nd:(kvs.map (·.1)).Nodup
 sm:(a == sysModules)=false
theorem uS{P:Program}{w:World}:∀l:List Row3,Pairs (aM P w) (l.map (jL w)) (l.map fun e=>((Sum.inr e.1:Key),e.2.2))
 | []=>.nil
 | e::l=>.cons (lN P w e.1 e.2.1) rfl (uS l)
theorem yt{P:Program}{w:World}(l:List Row3):KeysOf (aM P w) (l.map (jL w)).toArray:=fun e he=>by
 have he':e∈l.map (jL w):=by simpa using he
 obtain⟨x,_,rfl⟩:=List.mem_map.mp he'
 exact⟨.inr x.1,lN P w x.1 x.2.1,rfl⟩
theorem GDict.at{X:Cx}{pins:List (Addr×Obj)}{σ:St}{H:Hp}{s:Shared}{a:Addr}{kvs:List (Key×V)}(D:GDict X.w X.K a kvs)(I:Inv X pins σ H s):∃vs,KV kvs vs/\s.heap.DictOf (aM X.prog X.w) a vs:=by
 obtain⟨l,ep,hl,r⟩:=D.has
 refine⟨_,r,fV X.w l ep,_,ep,I.kIn _ _ hl,⟨rfl,rfl,rfl⟩,rfl,yt l,uS l,?_⟩
 rw[←r.keys]
 exact D.nd
section
variable {X:Cx} {x:Str} {a:Addr} {kvs:List (Key×V)} {i:Expr} {ty:TE} {p pos:Pos}
def qT(kvs:List (Key×V))(ty:TE):TE:=fun σ H Q=>ty σ H fun y H1=>∃k v,y=kV k/\cc kvs k=some v/\Q v H1
def pU(neg:Bool)(kvs:List (Key×V))(ty:TE):TE:=fun σ H Q=>ty σ H fun y H1=>∃k,y=kV k/\Q (.bl (if neg then !(cc kvs k).isSome else(cc kvs k).isSome)) H1
theorem vM(hg:Gl X x)(hm:X.mg x=some (.ref a))(D:GDict X.w X.K a kvs)(hi:PE X i ty)(hs:oE i)(hd:(x == ("__debug__":Str))=false:=by decide):PE X (.Subscript (.Name x p) i pos) (qT kvs ty):=by
 intro pins s σ H Q I h
 refine wF PySem.F.slot_dict_getitem.lookup hs (kH I hg hm (az (hi pins s σ H _ I h) fun iv s2 ⟨y,H2,I2,ry,k,v,ey,hv,q⟩=>?_) hd)
 subst ey
 obtain⟨vs,rel,dd⟩:=D.at I2
 obtain⟨w',hw,rw'⟩:=dU.some_of (v:=v) (o:=valueAt vs k) (by rw[←hv];exact rel.val k)
 exact⟨dd.typeIs,wpAny_getItem_of (mZ ry) dd.mapOf hw ⟨v,H2,I2.tok _,rw',q⟩⟩
theorem AK(hg:Gl X x)(hm:X.mg x=some (.ref a))(D:GDict X.w X.K a kvs)(hi:PE X i ty)(hd:(x == ("__debug__":Str))=false:=by decide):PC X .In i (.Name x p) (pU false kvs ty):=by
 intro pins s σ H Q I h
 refine az (hi pins s σ H _ I h) fun iv s1 ⟨y,H1,I1,ry,k,ey,q⟩=>kH I1 hg hm ?_ hd
 subst ey
 obtain⟨vs,rel,dd⟩:=D.at I1
 refine wpAny_in_of (mZ ry) D.sm dd.mapOf ?_
 rw[←(rel.val k).isSome_eq]
 exact⟨.bl (cc kvs k).isSome,H1,I1.tok _,rfl,q⟩
theorem rd_gget{σ:St}{H:Hp}{Q:VK}(h:ty σ H fun y H1=>∃k v,y=kV k/\cc kvs k=some v/\Q v H1):qT kvs ty σ H Q:=h
theorem rd_gin{neg:Bool}{σ:St}{H:Hp}{Q:VK}(h:ty σ H fun y H1=>∃k,y=kV k/\Q (.bl (if neg then !(cc kvs k).isSome else(cc kvs k).isSome)) H1):pU neg kvs ty σ H Q:=h
theorem Ba{R:V->Prop}{z:Str}{v:V}(hv:cc kvs (.inr z)=some v)(h:R v):∃k v,V.str z=kV k/\cc kvs k=some v/\R v:=⟨.inr z,v,rfl,hv,h⟩
def tH:R2:=fun x y H Q=>∃a b,x=.str a/\y=.str b/\Q (.bl (!decide (b.cps.toList<a.cps.toList))) H
theorem p9:bp X (compareOp .LtE) tH:=by
 intro pins s σ H x y v u Q I rx ry h
 obtain⟨a,b,rfl,rfl,q⟩:=h
 obtain⟨t,rfl⟩:=rx
 obtain⟨t',rfl⟩:=ry
 exact PySem.P.le_str ⟨.bl _,H,I,rfl,q⟩
theorem rd_leS{a b:Str}{H:Hp}{Q:VK}(h:Q (.bl (!decide (b.cps.toList<a.cps.toList))) H):tH (.str a) (.str b) H Q:=⟨a,b,rfl,rfl,h⟩
theorem nA{α β:Type}{f g:α->Option β}:∀{l:List α},(∀x∈l,f x=g x)->l.filterMap f=l.filterMap g
 | [],_=>rfl
 | x::l,h=>by
  rw[List.filterMap_cons,List.filterMap_cons,h x List.mem_cons_self,nA fun y hy=>h y (List.mem_cons_of_mem _ hy)]
theorem xM(n:Nat)(xs:List Value)(h:xs.length=n):(List.range n).filterMap (fun i:Nat=>xs[((n:Int)-1+(i:Int)*(-1)).toNat]?)=xs.reverse:=by
 refine List.ext_getElem? fun i=>?_
 have e:(List.range n).filterMap (fun i:Nat=>xs[((n:Int)-1+(i:Int)*(-1)).toNat]?)=(List.range n).map (fun i:Nat=>xs.reverse.getD i .none):=by
  rw[←List.filterMap_eq_map]
  refine nA fun i hi=>?_
  have hi:=List.mem_range.mp hi
  have:((n:Int)-1+(i:Int)*(-1)).toNat=n-1-i:=by omega
  rw[this,Function.comp_apply,List.getD_eq_getElem?_getD,List.getElem?_reverse (by omega),h,List.getElem?_eq_getElem (show n-1-i<xs.length by omega)]
  rfl
 rw[e,List.getElem?_map]
 by_cases hi:i<n
 ·rw[List.getElem?_eq_getElem (by simpa using hi),List.getElem?_eq_getElem (by simpa[h]using hi)]
  simp[List.getD_eq_getElem?_getD,h,hi]
 ·rw[List.getElem?_eq_none (by simpa using hi),List.getElem?_eq_none (by simpa[h]using hi)]
  rfl
theorem u0(its:List Value):slicePick its.toArray none none (some (-1))=its.reverse.toArray:=by
 unfold slicePick
 have e:sliceBounds none none (some (-1)) its.toArray.size=((its.length:Int)-1,-1,-1):=by
  unfold sliceBounds
  simp
 rw[e]
 refine congrArg List.toArray ?_
 rw[←xM its.length its rfl]
 unfold sliceRange
 simp only
 rw[if_neg (by decide),List.filterMap_map]
 have el:(if(its.length:Int)-1 > -1 then((its.length:Int)-1 - -1 - -1-1) / - -1 else 0).toNat=its.length:=by
  rw[show (- -1:Int)=1 by decide,Int.ediv_one]
  split<;>omega
 rw[el]
 refine nA fun i hi=>?_
 rw[Function.comp_apply,show (its.length:Int)-1 + -1*(i:Int)=(its.length:Int)-1+(i:Int) * -1 by omega]
 simp
theorem Vals.rev{xs:List V}{us:List Value}(r:Vals xs us):Vals xs.reverse us.reverse:=by
 induction r with
 | nil=>exact .nil
 | cons h t ih=>
  rw[List.reverse_cons,List.reverse_cons]
  exact Vals.append ih (.cons h .nil)
def mN(K:PySem.W.Frag):V->Hp->VK->Prop:=fun x H Q=>∃a xs,x=.ref a/\ag K H a xs/\dh H (.lst xs.reverse) Q
def qj(K:PySem.W.Frag)(te:TE)(ts:TO):TE:=fun σ H Q=>te σ H fun x H1=>ts σ H1 fun k H2=>k=some (-1)/\mN K x H2 Q
theorem zO{e st:Expr}{te:TE}{ts:TO}{p2:Pos}(K:PySem.W.Frag)(he:PE X e te)(hs:PO X (some st) ts)(hK:X.K=K:=by rfl):PE X (.Subscript e (.Slice none none (some st) p2) pos) (qj K te ts):=by
 subst hK
 intro pins s σ H Q I h
 refine Subscript_ (az (he pins s σ H _ I h) fun v s1 ⟨x,H1,I1,r1,q1⟩=>?_)
 refine wpAny_Slice ?_
 rw[evalPart_none]
 refine wpAny_pure (wpAny_pure ?_)
 refine az (hs pins s1 σ H1 _ I1 q1) fun vs s2 ⟨k,H2,I2,pk,q2⟩=>?_
 obtain⟨rfl,a,xs,rfl,hx,q⟩:=q2
 cases pk with
 | int i tk=>
 cases r1
 have I3:Inv X pins σ H2 { s2 with heap:=s2.heap.push { cls:=.type "slice",data:=.fields #[.none,.none,.int (-1) tk] } }:=I2.kept (t':=s2.toks) fun b ob q=>Heap.get?_push_of_some _ q
 obtain⟨its,r,ht,hz⟩:=I3.list hx
 have hlen:=r.length
 show wpAny (model X.prog X.w) X.A (subscriptTail e (.Slice none none (some st) p2) (.ref a) (.ref s2.heap.objs.size)) (EP X pins σ Q) X.xe { s2 with heap:=s2.heap.push { cls:=.type "slice",data:=.fields #[.none,.none,.int (-1) tk] } }
 refine tail_any (ops:=[.ref a,.ref s2.heap.objs.size]) ht.isList.typeIs slot_list_getitem.lookup (wpAny_getItem_list_slice ht.isList (Heap.IsSliceOf.new ..) .none .none (.int (-1) tk) (by decide) ?_ (by rw[List.size_toArray];omega)) (by with_unfolding_all rfl)
 rw[u0]
 exact⟨.ref _,_,I3.laid (t':=s2.toks) (o:=.lst xs.reverse) (fun b ob e=>Heap.get?_push_of_some _ e) (Nat.le_refl _) ⟨by rw[List.length_reverse];exact hz,_,0,r.rev,Heap.get?_push_size _ rfl⟩,rfl,q _ (I3.hok.fresh (Nat.le_refl _))⟩
theorem rd_revL{K:PySem.W.Frag}{te:TE}{ts:TO}{σ:St}{H:Hp}{Q:VK}(h:te σ H fun x H1=>ts σ H1 fun k H2=>k=some (-1)/\mN K x H2 Q):qj K te ts σ H Q:=h
theorem vF{K:PySem.W.Frag}{H:Hp}{Q:VK}{a:Addr}{xs:List V}(e:ag K H a xs)(h:dh H (.lst xs.reverse) Q):mN K (.ref a) H Q:=⟨a,xs,rfl,e,h⟩
end
end L2
set_option Elab.async false
set_option linter.all false
set_option maxRecDepth 100000
set_option maxHeartbeats 4000000
namespace L2
open PySem PySem.Spec PyProof.Rows
section
variable {prog:Program} {w:World} {A:Around} {E:Value->Shared->Prop} {s:Shared} {r d:Addr}
end
section
variable {X:Cx}
end
end L2
set_option Elab.async false
set_option linter.all false
set_option maxRecDepth 100000
set_option maxHeartbeats 4000000
namespace L2
open PySem PySem.Spec PyProof.Rows
section
variable {X:Cx}
theorem LitE.pe{e:Expr}{te:TE}(h:LitE e te):PE X e te:=
 LitE.rec (motive_1:=fun e te _=>PE X e te) (motive_2:=fun es ta _=>PA X es ta) fB aN af aQ (fun _ ih=>aD ih) ae (fun h _ ih1 ih2=>aa ih1 ih2 (h.star _ _)) h
theorem fe{e:Expr}{te:TE}{es:List Expr}{t:TA}(h:LitE e te)(hr:PA X es t):PA X (e::es) (jM te t):=aa h.pe hr (h.star _ _)
end
end L2
set_option Elab.async false
set_option linter.all false
set_option maxRecDepth 100000
set_option maxHeartbeats 4000000
namespace L2
open PySem PySem.Spec PyProof.Rows
section
variable {X:Cx} {tg:Expr}
end
section
variable {prog:Program} {w:World} {A:Around} {E:Value->Shared->Prop} {s:Shared}
end
section
variable {X:Cx} {tg:Expr}
end
end L2
set_option Elab.async false
set_option linter.all false
set_option maxRecDepth 100000
set_option maxHeartbeats 4000000
namespace L2
open PySem PySem.Spec PyProof.Rows
section
variable {X:Cx}
theorem xr(K:PySem.W.Frag){o:Expr}{to:TE}{name:Str}{apos cpos:Pos}{T id:String}{r:V->List V->Hp->VK->Prop}(pa:PlainAttrs T)(slot:Slot T name id)(hty:typeOf (.builtin id)=pure (.type "method_descriptor"))(hm:jq X id r)(ho:PE X o to)(h:X.K=K:=by rfl)
  (hbase:attributeBase o name X.env (eval o X.env)=eval o X.env:=by rfl) (hline:(apos.endLine == cpos.line)=true:=by rfl):PE X (.Call (.Attribute o name apos) [] [] cpos) (md K T r to):=by
 subst h
 exact vm pa slot hty hm ho hbase hline
end
theorem rd_bm0{K:PySem.W.Frag}{T:String}{r:V->List V->Hp->VK->Prop}{to:TE}{σ:St}{H:Hp}{Q:VK}(h:to σ H fun x H1=>fA K T x H1/\r x [] H1 Q):md K T r to σ H Q:=h
def Av(K:PySem.W.Frag):List V->Hp->VK->Prop:=fun xs H Q=>∃(p:Addr) (bs:List Bool),xs=[.ref p]/\ag K H p (bs.map V.bl)/\Q (.bl (bs.any id)) H
theorem any_range(bs:List Bool):((List.range bs.length).any fun i=>bs.getD i false)=bs.any id:=by
 rw[Bool.eq_iff_iff,List.any_eq_true,List.any_eq_true]
 constructor
 ·rintro⟨i,hi,h⟩
  have hi':=List.mem_range.mp hi
  rw[List.getD_eq_getElem?_getD,List.getElem?_eq_getElem hi']at h
  exact⟨_,List.getElem_mem hi',h⟩
 ·rintro⟨b,hb,h⟩
  obtain⟨i,hi,e⟩:=List.mem_iff_getElem.mp hb
  refine⟨i,List.mem_range.mpr hi,?_⟩
  rw[List.getD_eq_getElem?_getD,List.getElem?_eq_getElem hi,e]
  exact h
theorem nS{X:Cx}(K:PySem.W.Frag)(hc:X.calm=true)(hK:X.K=K:=by rfl):bC X (.builtin "any") (Av K):=by
 subst hK
 intro pins s σ H xs us Q I r h
 obtain⟨p,bs,rfl,hq,q⟩:=h
 obtain⟨u,rfl,rx⟩:=vals1 r
 cases rx
 obtain⟨its,rv,pl,hz⟩:=I.list hq
 have eb:=lL rv
 have hne:p≠s.heap.objs.size:=Nat.ne_of_lt (by obtain⟨o,n,e,_⟩:=pl;exact Heap.lt_size e)
 refine call_any_walk (wpAny_pyIter_list pl.isList ?_)
 have I1:Inv X pins σ H { s with heap:=s.heap.push { cls:=.type "list_iterator",data:=.fields #[.ref p,.int 0 0] } }:=I.kept (t':=s.toks) fun b o e=>Heap.get?_push_of_some _ e
 have hf:=I.fpOk (H':=H) (Nat.le_refl s.heap.objs.size) I.fresh
 refine⟨s.heap.objs.size,_,_,_,_,_,(fun i=>bs.getD i false),rfl,Walks.list (A:=X.A.in1) (I.ok.hd hc) _ p hne its.toArray,⟨⟨_,Heap.get?_push_size _ rfl,rfl,rfl⟩,?_⟩,?_,fun h' tk hk=>?_⟩
 ·exact pl.isList.push _
 ·intro i v s' Q' E' hv hQ
  rw[eb]at hv
  have hv':(bs.map Value.bool)[i]?=some v:=by simpa using hv
  rw[List.getElem?_map]at hv'
  cases eg:bs[i]? with
  | none=>rw[eg]at hv';cases hv'
  | some b=>
   rw[eg]at hv'
   cases hv'
   have eb':bs.getD i false=b:=by rw[List.getD_eq_getElem?_getD,eg];rfl
   have hQ':Q' (bs.getD i false) s':=hQ
   rw[eb']at hQ'
   exact wpAny_truthy_bool hQ'
 ·obtain⟨f0,f1,f2,f3,f4,f5⟩:=hf
  have hl:=rv.length
  rw[List.length_map]at hl
  refine⟨.bl (bs.any id),H,I1.turned (it:=s.heap.objs.size) (fun b o hb e=>hk b o (by simpa using hb) e) f0 f1 f3 f4 f5,?_,q⟩
  show Value.bool _=Value.bool _
  rw[List.size_toArray,←hl,any_range]
end L2
set_option Elab.async false
set_option linter.all false
set_option maxRecDepth 100000
set_option maxHeartbeats 4000000
namespace L2
open PySem PySem.Spec PyProof.Rows
section
variable {X:Cx}
end
section
variable {X:Cx}
end
end L2
set_option Elab.async false
set_option linter.all false
set_option maxRecDepth 100000
set_option maxHeartbeats 4000000
namespace L2
open PySem PySem.Spec PyProof.Rows
section
variable {X:Cx}
end
end L2
set_option Elab.async false
set_option linter.all false
set_option maxRecDepth 100000
set_option maxHeartbeats 4000000
namespace L2
open PySem PySem.Spec PyProof.Rows
section
variable {P:Program} {w:World} {K:PySem.W.Frag} {mg:Str->Option Value} {base:Heap}
end
section
variable {X:Cx}
end
end L2
set_option Elab.async false
set_option linter.all false
set_option maxRecDepth 100000
set_option maxHeartbeats 4000000
namespace L2
open PySem PySem.Spec PyProof.Rows
section
variable {P:Program} {w:World} {A:Around} {E:Value->Shared->Prop} {s:Shared}
end
section
variable {P:Program} {w:World} {A:Around} {E:Value->Shared->Prop} {s:Shared}
end
end L2
set_option Elab.async false
set_option linter.all false
set_option maxRecDepth 100000
set_option maxHeartbeats 4000000
namespace L2
open PySem PySem.Spec PyProof.Rows
section
variable {P:Program} {w:World} {A:Around} {E:Value->Shared->Prop} {s:Shared}
end
end L2
set_option Elab.async false
set_option linter.all false
set_option maxRecDepth 100000
set_option maxHeartbeats 4000000
namespace L2
open PySem PySem.Spec PyProof.Rows
section
variable {X:Cx} {pins:List (Addr×Obj)} {σ:St} {H:Hp} {s:Shared}
end
section
variable {X:Cx}
end
end L2
set_option Elab.async false
set_option linter.all false
set_option maxRecDepth 100000
set_option maxHeartbeats 4000000
namespace L2
open PySem PySem.Spec PyProof.Rows
section
variable {P:Program} {w:World} {A:Around} {E:Value->Shared->Prop} {s:Shared}
end
section
variable {X:Cx}
end
end L2
set_option Elab.async false
set_option linter.all false
set_option maxRecDepth 100000
set_option maxHeartbeats 4000000
namespace L2
open PySem PySem.Spec PyProof.Rows
section
variable {X:Cx}
end
end L2
set_option Elab.async false
set_option linter.all false
set_option maxRecDepth 100000
set_option maxHeartbeats 4000000
namespace L2
open PySem PySem.Spec PyProof.Rows
section
variable {X:Cx} {pins:List (Addr×Obj)} {σ:St} {H:Hp} {s:Shared}
end
section
variable {X:Cx}
end
end L2
set_option Elab.async false
set_option linter.all false
set_option maxRecDepth 100000
set_option maxHeartbeats 4000000
namespace L2
open PySem PySem.Spec PyProof.Rows
section
variable {X:Cx}
end
end L2
set_option Elab.async false
set_option linter.all false
set_option maxRecDepth 100000
set_option maxHeartbeats 4000000
namespace L2
open PySem PySem.Spec PyProof.Rows
end L2
set_option Elab.async false
set_option linter.all false
set_option maxRecDepth 100000
set_option maxHeartbeats 4000000
namespace L2
open PySem PySem.Spec PyProof.Rows
section
variable {X:Cx} {x:Addr} {oe:Obj}
end
end L2
set_option Elab.async false
set_option linter.all false
set_option maxRecDepth 100000
set_option maxHeartbeats 4000000
namespace L2
open PySem PySem.Spec PyProof.Rows
section
variable {prog:Program} {w:World} {A:Around} {E:Value->Shared->Prop} {s:Shared} {dd:Option Addr}
end
section
variable {X:Cx} {x:Addr} {oe:Obj}
end
end L2
namespace L2
open PySem PySem.Spec PyProof.Rows
section
variable {X:Cx}
end
end L2
set_option Elab.async false
set_option linter.all false
set_option maxRecDepth 100000
set_option maxHeartbeats 4000000
namespace L2
open PySem PySem.Spec PyProof.Rows
section
variable {prog:Program} {w:World} {A:Around} {E:Value->Shared->Prop} {K:PySem.W.Frag} {x D:Addr} {ox:Obj} {h:Heap} {g:Array GenState} {dr:Drawn} {t:Nat} {os:OsState}
variable {nm q:Str} {N:Addr} {bs bm bmB:List Value} {sn:List Str} {sub:List Value} {ab:Bool} {col:Option Bool} {dd:Option Addr} {k0 k1 k2 k3 k5:Option Value} {newId:String} {name:Str} {v:Value}
end
section
variable {prog:Program} {w:World} {A:Around} {E:Value->Shared->Prop} {h:Heap} {g:Array GenState} {d:Drawn} {t:Nat} {os:OsState}
variable {nm q:Str} {C N:Addr} {bs bm bmB:List Value} {hdct:Bool} {sn:List Str} {sub:List Value} {ab:Bool} {col:Option Bool} {dd:Option Addr} {k0 k1 k2 k3 k5:Option Value} {B newId initId:String} {K:PySem.W.Frag}
end
section
variable {P:Program} {w:World} {A:Around} {E:Value->Shared->Prop} {K:PySem.W.Frag} {s:Shared} {e C:Addr} {oe:Obj} {v:Value}
end
section
variable {M:Model} {A:Around} {E:Value->Shared->Prop} {env:Env} {nm q:Str} {C N:Addr} {bs bm bmB:List Value} {hdct:Bool} {sn:List Str} {sub:List Value} {ab:Bool} {col:Option Bool} {dd:Option Addr} {k0 k1 k2 k3 k5:Option Value} {newId:String}
end
section
variable {prog:Program} {w:World} {A:Around} {E:Value->Shared->Prop} {s:Shared} {env:Env} {K:PySem.W.Frag} {nm q:Str} {C N:Addr} {bs bm bmB:List Value} {hdct:Bool} {sn:List Str} {sub:List Value} {ab:Bool} {col:Option Bool} {dd:Option Addr} {k0 k1 k2 k3 k5:Option Value} {B newId initId:String}
end
section
variable {P:Program} {w:World} {K:PySem.W.Frag} {mg:Str->Option Value} {base:Heap} {N:List Str} {qual:Str} {scope:Scope} {f:Addr} {cd:Value} {A:Around} {outer:List Env} {s₀:Shared} {H₀:Hp} {E:XK}
end
end L2
set_option Elab.async false
set_option linter.all false
set_option maxRecDepth 100000
set_option maxHeartbeats 4000000
namespace L2
open PySem PySem.Spec PyProof.Rows
section
variable {P:Program} {w:World} {K:PySem.W.Frag} {mg:Str->Option Value} {base:Heap}
end
section
variable {Y:Cx} {x:Addr} {oe:Obj}
end
end L2
set_option Elab.async false
set_option linter.all false
set_option maxRecDepth 100000
set_option maxHeartbeats 4000000
namespace L2
open PySem PySem.Spec PyProof.Rows
section
variable {prog:Program} {w:World} {A:Around} {E:Value->Shared->Prop} {K:PySem.W.Frag} {x D:Addr} {ox:Obj} {od:Option Obj} {name:Str} {v:Value}
end
section
variable {X:Cx} {x D:Addr} {oe:Obj} {da:Option Addr}
end
end L2
set_option Elab.async false
set_option linter.all false
set_option maxRecDepth 100000
set_option maxHeartbeats 1000000
namespace L2
open PySem PySem.Spec PyProof.Rows
section
variable {P:Program} {w:World} {A:Around} {E:Value->Shared->Prop} {s:Shared}
end
section
variable {P:Program} {w:World} {A:Around} {E:Value->Shared->Prop} {s:Shared}
end
end L2
set_option Elab.async false
set_option linter.all false
set_option maxRecDepth 100000
set_option maxHeartbeats 400000
namespace L2
open PySem PySem.Spec PyProof.Rows
section
variable {P:Program} {w:World} {A:Around} {E:Value->Shared->Prop} {s:Shared}
end
section
variable {X:Cx}
end
end L2
set_option Elab.async false
set_option linter.all false
set_option maxRecDepth 100000
set_option maxHeartbeats 4000000
namespace L2
open PySem PySem.Spec PyProof.Rows
section
variable {prog:Program} {w:World} {A:Around} {E:Value->Shared->Prop} {s:Shared}
theorem A2{Q:List Value->Shared->Prop}{r:Addr}{a b c:Int}{t u v:Tok}{n:Nat}(hh:A.handled=none)(hr:IsRange s.heap r a b c t u v)(hsmall:Builtin.Range.small a b c=true)(hn:Builtin.Range.rangeSize a b c=n)(hlen:n<=2 ^ 24)
  (hQ:∀(s':Shared) (acc:Array Value),(∀b o,s.heap.get? b=some o->s'.heap.get? b=some o)->s'.gens=s.gens->s'.drawn=s.drawn->s'.os=s.os->ItemsOf (fun i v=>∃t,v=.int (a+i*c) t) acc n->Q acc.toList s') :
  wpAny (model prog w) A (collect (.ref r)) Q E s:=by
 unfold collect
 refine wpAny_bind (wpAny_runValue (codeAny_builtin F.entry_proto_collect ?_))
 rw[Around.under_plainId F.plain_proto_collect _]
 show wpAny _ A.in1 (newList [] >>= fun l=>again (.builtin "list.__iadd__" ⟨[l,.ref r],[]⟩)) _ _ s
 refine wpAny_bind (wpAny_newObj_type ?_)
 refine wpAny_pure ⟨plainId_quiet F.plain_list_iadd _,codeAny_builtin F.entry_list_iadd ?_⟩
 rw[Around.under_plainId F.plain_list_iadd _]
 show wpAny _ A.in1 (Builtin.List.listExtendWith (.ref s.heap.objs.size) (.ref r) (.ref s.heap.objs.size)) _ _ _
 have hS:(s.heap.push { cls:=.type "list",data:=.seq ([]:List Value).toArray }).get? s.heap.objs.size=some { cls:=.type "list",data:=.seq #[] 0 }:=Heap.get?_push_size _ rfl
 have hlt:∀b o,s.heap.get? b=some o->b≠s.heap.objs.size:=fun b o e=>Nat.ne_of_lt (Heap.lt_size e)
 have fin':∀(h':Heap) (tk:Nat) (acc':Array Value) (c':Nat),(∀b o,s.heap.get? b=some o->h'.get? b=some o)->h'.get? s.heap.objs.size=some { cls:=.type "list",dict:=none,data:=.seq acc' c',slots:=#[] }->ItemsOf (fun i v=>∃t,v=.int (a+i*c) t) acc' n->wpAny (model prog w) A (match Value.ref s.heap.objs.size with
   | Value.ref a=>do
    match (←load a).data with
     | Data.seq xs _=>pure xs.toList
     | _=>unsupported "internal:collect"
   | _=>unsupported "internal:collect") Q E { s with heap:=h',toks:=tk }:=by
  intro h' tk acc' c' hk hS' hacc
  show wpAny _ A (load s.heap.objs.size >>= _) _ _ _
  refine wpAny_bind (wpAny_load hS' ?_)
  exact wpAny_pure (hQ { s with heap:=h',toks:=tk } acc' hk rfl rfl rfl hacc)
 refine wpAny_mono (wpAny_extend_range (A:=A) (R:=fun res s'=>∃(h':Heap) (tk:Nat) (acc':Array Value) (c':Nat),res=.ok (.ret (.ref s.heap.objs.size))/\s'={ s with heap:=h',toks:=tk }/\(∀b o,s.heap.get? b=some o->h'.get? b=some o)/\h'.get? s.heap.objs.size=some { cls:=.type "list",dict:=none,data:=.seq acc' c',slots:=#[] }/\ItemsOf (fun i v=>∃t,v=.int (a+i*c) t) acc' n)
  (s:={ s with heap:=s.heap.push { cls:=.type "list",data:=.seq ([]:List Value).toArray } }) hh (Heap.get?_push_of_some _ hr) hsmall hn hlen s.heap.objs.size (.ref s.heap.objs.size) 0 hS fun h' tk acc' c' hk hS' hacc=>⟨h',tk,acc',c',rfl,rfl,fun b o e=>hk b o (hlt b o e) (Heap.get?_push_of_some _ e),hS',hacc⟩) (fun fin s' h=>?_) (fun e s' h=>?_)
 ·cases fin with
  | done f=>
   obtain⟨h',tk,acc',c',e,rfl,hk,hS',hacc⟩:=h
   cases e
   exact fin' h' tk acc' c' hk hS' hacc
  | again c'=>exact⟨h.1,codeAny_mono h.2 fun r s'' hr=>by
    obtain⟨h',tk,acc',c'',rfl,rfl,hk,hS',hacc⟩:=hr
    exact fin' h' tk acc' c'' hk hS' hacc⟩
 ·obtain⟨_,_,_,_,e,_⟩:=h
  cases e
end
theorem wI(r:Addr)(a b c:Int)(t u v:Tok)(n:Nat)(hsmall:Builtin.Range.small a b c=true)(hn:Builtin.Range.rangeSize a b c=n)(hlen:n<=2 ^ 24):
  Meets (Builtin.«tuple.__new__» ⟨[.type "tuple",.ref r],[]⟩)
   (fun A R s=>A.handled=none/\IsRange s.heap r a b c t u v/\∀(s':Shared) (acc:Array Value),(∀b o,s.heap.get? b=some o->s'.heap.get? b=some o)->s'.gens=s.gens->s'.drawn=s.drawn->s'.os=s.os->ItemsOf (fun i v=>∃t,v=.int (a+i*c) t) acc n →
    R (.ok (.ret (.ref s'.heap.objs.size))) { s' with heap:=s'.heap.push { cls:=.type "tuple",data:=.seq acc } }):=
 .of_wp fun prog w A R s h=>by
  obtain⟨hh,hr,h⟩:=h
  have hsub:=sub_tuple_self
  have hinit:=init_tuple_lookup
  have hmh:=madeHere_tuple
  have hT:s.TypeIs (.ref r) "range":=⟨_,hr,rfl⟩
  have hh1:A.in1.handled=none:=hh
  wp_walk using AutoSeq1.wpAny_loadPart' hr,wpAny_typeOf hT,A2 hh1 hr hsmall hn hlen
  intro s' acc hk hg hd hos hacc
  show wpAny _ _ (Builtin.Tuple.tupleExact acc.toList.toArray >>= fun v=>ret v) _ _ _
  unfold Builtin.Tuple.tupleExact
  refine wpAny_bind (wpAny_newObj_type ?_ (show acc.toList.toArray.size<=sizeLine by simp only[Array.toArray_toList];rw[hacc.1,sizeLine_eq];omega))
  refine wpAny_pure ⟨_,rfl,?_⟩
  have e:acc.toList.toArray=acc:=by simp
  rw[e]
  exact h s' acc hk hg hd hos hacc
section
variable {prog:Program} {w:World} {A:Around} {E:Value->Shared->Prop} {s:Shared}
theorem vp{Q:Value->Shared->Prop}{r:Addr}{a b c:Int}{t u v:Tok}{n:Nat}(hh:A.handled=none)(hr:IsRange s.heap r a b c t u v)(hsmall:Builtin.Range.small a b c=true)(hn:Builtin.Range.rangeSize a b c=n)(hlen:n<=2 ^ 24)
  (h:∀(h':Heap) (tk:Nat) (acc:Array Value),(∀b o,s.heap.get? b=some o->h'.get? b=some o)->ItemsOf (fun i v=>∃t,v=.int (a+i*c) t) acc n->Q (.ref h'.objs.size) { s with heap:=h'.push { cls:=.type "tuple",data:=.seq acc },toks:=tk }) :
  wpAny (model prog w) A (call (.type "tuple") [.ref r]) Q E s:=by
 refine callType_new F.called_tuple (by decide) (F.typeCall_tuple_1 _) (F.newCall_tuple_1 _) (fun obj=>F.args_object_init_2 obj _) F.entry_tuple_new
  (wI r a b c t u v n hsmall hn hlen) ⟨hh,hr,fun s' acc hk hg hd hos hacc=>⟨⟨_,Heap.get?_push_size _ rfl,rfl⟩,?_⟩⟩
 obtain⟨h',g',d',tk',os'⟩:=s'
 have e1:g'=s.gens:=hg
 have e2:d'=s.drawn:=hd
 have e3:os'=s.os:=hos
 subst e1 e2 e3
 exact h h' tk' acc hk hacc
end
theorem pB{α β:Type}{R:α->β->Prop}:∀{xs:List α} {ys:List β},xs.length=ys.length->(∀(i:Nat) x y,xs[i]?=some x->ys[i]?=some y->R x y)->Paired R xs ys
 | [],[],_,_=>.nil
 | x::xs,y::ys,hl,h=>.cons (h 0 x y rfl rfl) (pB (by simpa using hl) fun i a b ha hb=>h (i+1) a b (by simpa using ha) (by simpa using hb))
section
variable {X:Cx}
abbrev fE(n:Nat):List V:=(List.range n).map fun i:Nat=>V.int (i:Int)
def mJ(x:V)(H:Hp)(Q:VK):Prop:=∃j:Int,x=.int j/\0<=j/\j<=2 ^ 20/\dh H (.tup (fE j.toNat)) Q
def sG(te:TE):TE:=fun σ H Q=>te σ H fun x H1=>mJ x H1 Q
theorem oD{e:Expr}{te:TE}{p p2 pos pos2:Pos}(hc:X.calm=true)(hg:Gl X "tuple")(hm:X.mg "tuple" = none)(hg2:Gl X "range")(hm2:X.mg "range" = none)(he:PE X e te)
  (h1:starEach [e] X.env=(false,eval e X.env)::starEach [] X.env:=by rfl)
  (h2:starEach [.Call (.Name "range" p2) [e] [] pos2] X.env=(false,eval (.Call (.Name "range" p2) [e] [] pos2) X.env)::starEach [] X.env:=by rfl) :
  PE X (.Call (.Name "tuple" p) [.Call (.Name "range" p2) [e] [] pos2] [] pos) (sG te):=by
 intro pins s σ H Q I h
 refine wpAny_Call_Name_kw (eo I hg hm PyProof.Rows.boot_tuple ?_ (by decide) (by decide))
 refine PyProof.Rows.callWith_type1 ?_ h2 rfl
 rw[h2]
 show wpAny _ _ (spliced ((false,eval (.Call (.Name "range" p2) [e] [] pos2) X.env)::backTo pos (starEach [] X.env))) _ _ s
 refine Calls.spliced_cons ?_
 refine wpAny_Call_Name_kw (eo I hg2 hm2 boot_range ?_ (by decide) (by decide))
 refine PyProof.Rows.callWith_type1 ?_ h1 rfl
 rw[h1]
 show wpAny _ _ (spliced ((false,eval e X.env)::backTo pos2 (starEach [] X.env))) _ _ s
 refine Calls.spliced_cons (az (he pins s σ H _ I h) fun u s1 ⟨x,H1,I1,r1,q1⟩=>?_)
 refine Calls.spliced_nil ?_
 obtain⟨j,rfl,hj0,hj1,q⟩:=q1
 obtain⟨t,rfl⟩:=r1
 refine call_range_1 ?_
 refine Calls.spliced_nil ?_
 have hsz:Builtin.Range.rangeSize 0 j 1=(j.toNat:Nat):=by rw[rangeSize_one];split<;>omega
 refine vp (n:=j.toNat) (I1.ok.hd hc) (IsRange.new ..) (small_one (by omega) (by omega) (by omega) (by omega)) hsz (by omega) fun h' tk acc hk hacc=>?_
 have hk':∀b o,s1.heap.get? b=some o->h'.get? b=some o:=fun b o e=>hk b o (Heap.get?_push_of_some _ e)
 have I2:Inv X pins σ H1 { s1 with heap:=h',toks:=tk }:=I1.kept hk'
 have hl:(fE j.toNat).length=j.toNat:=by rw[List.length_map,List.length_range]
 have hv:Vals (fE j.toNat) acc.toList:=by
  refine pB (by rw[hl,Array.length_toList,hacc.1]) fun i x u hx hu=>?_
  rw[List.getElem?_map]at hx
  rw[Array.getElem?_toList]at hu
  obtain⟨t,rfl⟩:=hacc.2 i u hu
  by_cases hi:i<j.toNat
  ·rw[List.getElem?_range hi]at hx
   cases hx
   exact⟨t,by congr 1;omega⟩
  ·rw[List.getElem?_eq_none (by rw[List.length_range];omega)]at hx
   cases hx
 have I3:Inv X pins σ (upd H1 h'.objs.size (.tup (fE j.toNat))) { s1 with heap:=h'.push { cls:=.type "tuple",data:=.seq acc },toks:=tk }:=
  I2.laid (t':=tk) (fun b o e=>Heap.get?_push_of_some _ e) (Nat.le_refl _) (show bI X.prog X.w _ _ _ (.tup (fE j.toNat))from⟨by rw[hl,sizeLine_eq];omega,acc.toList,hv,by rw[Array.toArray_toList];exact IsTup.new _ _⟩)
 exact⟨.ref h'.objs.size,_,I3,rfl,q _ (I2.hok.fresh (Nat.le_refl _))⟩
theorem tV{te:TE}{σ:St}{H:Hp}{Q:VK}(h:te σ H fun x H1=>mJ x H1 Q):sG te σ H Q:=h
theorem tN{j:Int}{H:Hp}{Q:VK}(h0:0<=j/\j<=2 ^ 20)(h:dh H (.tup (fE j.toNat)) Q):mJ (.int j) H Q:=⟨j,rfl,h0.1,h0.2,h⟩
end
end L2
set_option linter.all false
namespace St
def gZ(lo hi:Int)(xs:List Int):Prop:=xs.Pairwise (· < ·)/\∀x∈xs,lo<=x/\x<hi
structure Ok(b s:Int)(o a:List Int):Prop where
 hb:0<=b
 hs:1<=s
 ho:gZ 0 b o
 ha:gZ b (b+s) a
def mem(b s:Int)(o a:List Int)(x:Int):Bool:=if x<b then o.contains x else a.contains (b+(x-b) % s)
section
variable {b s:Int} {o a:List Int}
theorem fY(x:Int)(h:x<b):mem b s o a x=o.contains x:=if_pos h
theorem fL(x:Int)(h:b<=x):mem b s o a x=a.contains (b+(x-b) % s):=if_neg (by omega)
end
end St
set_option linter.all false
namespace St
def bH(f:Nat->Bool)(b d:Nat):Prop:=∀x,b<=x->f (x+d)=f x
theorem bH.mul{f:Nat->Bool}{b d:Nat}(h:bH f b d):∀k x,b<=x->f (x+k*d)=f x
 | 0,x,hx=>by simp
 | k+1,x,hx=>by
  rw[Nat.succ_mul,←Nat.add_assoc,h _ (by omega),h.mul k x hx]
theorem bH.mono{f:Nat->Bool}{b c d:Nat}(h:bH f b d)(hc:b<=c):bH f c d:=fun x hx=>h x (by omega)
theorem bH.times{f:Nat->Bool}{b d:Nat}(h:bH f b d)(k:Nat):bH f b (k*d):=fun x hx=>h.mul k x hx
def row(f:Nat->Bool)(lo n:Nat):List Int:=((List.range n).filter fun i=>f (lo+i)).map fun i=>((lo+i:Nat):Int)
end St
set_option linter.all false
namespace St
theorem eD(f:Nat->Bool)(lo n:Nat):row f lo (n+1)=row f lo n++if f (lo+n)then[((lo+n:Nat):Int)]else[]:=by
 unfold row
 rw[List.range_succ,List.filter_append,List.map_append]
 congr 1
 by_cases h:f (lo+n)=true<;>simp[h]
theorem gX(f:Nat->Bool)(lo n:Nat):(row f lo n).length<=n:=by
 unfold row
 rw[List.length_map]
 exact Nat.le_trans (List.length_filter_le _ _) (by simp)
theorem iM{f:Nat->Bool}{lo n:Nat}{x:Int}:x∈row f lo n↔(lo:Int)<=x/\x<lo+n/\f x.toNat=true:=by
 unfold row
 simp only[List.mem_map,List.mem_filter,List.mem_range]
 constructor
 ·rintro⟨i,⟨hi,hf⟩,rfl⟩
  refine⟨by omega,by omega,?_⟩
  rw[Int.toNat_natCast];exact hf
 ·rintro⟨h1,h2,h3⟩
  refine⟨x.toNat-lo,⟨by omega,?_⟩,by omega⟩
  rw[show lo+(x.toNat-lo)=x.toNat by omega];exact h3
theorem iQ(f:Nat->Bool)(lo n:Nat):gZ lo (lo+n) (row f lo n):=by
 refine⟨?_,fun x hx=>⟨(iM.mp hx).1,(iM.mp hx).2.1⟩⟩
 unfold row
 rw[List.pairwise_map]
 refine List.Pairwise.imp (R:=fun a b=>a<b) (fun h=>by omega) ?_
 exact List.Pairwise.filter _ List.pairwise_lt_range
theorem tm{f:Nat->Bool}{lo n:Nat}{x:Int}(h1:(lo:Int)<=x)(h2:x<lo+n):(row f lo n).contains x=f x.toNat:=by
 rw[Bool.eq_iff_iff,List.contains_iff_mem,iM]
 constructor
 ·exact fun h=>h.2.2
 ·exact fun h=>⟨h1,h2,h⟩
theorem oU(f:Nat->Bool)(b s:Nat)(hs:1<=s):Ok b s (row f 0 b) (row f b s):=
 ⟨by omega,by omega,by have:=iQ f 0 b;simpa using this,iQ f b s⟩
theorem i9{f:Nat->Bool}{b s:Nat}(hs:1<=s)(h:bH f b s)(x:Nat):mem b s (row f 0 b) (row f b s) x=f x:=by
 by_cases hx:x<b
 ·rw[fY _ (by omega),tm (by omega) (by omega),Int.toNat_natCast]
 ·rw[fL _ (by omega)]
  have r0:0<=((x:Int)-b) % s:=Int.emod_nonneg _ (by omega)
  have r1:((x:Int)-b) % s<s:=Int.emod_lt_of_pos _ (by omega)
  rw[tm (by omega) (by omega)]
  have e:((b:Int)+((x:Int)-b) % s).toNat=b+(x-b) % s:=by
   have:((x:Int)-b) % s=(((x-b) % s:Nat):Int):=by
    rw[show (x:Int)-b=((x-b:Nat):Int) by omega]
    rfl
   omega
  rw[e]
  have:=h.mul ((x-b) / s) (b+(x-b) % s) (by omega)
  rw[←this]
  congr 1
  have:=Nat.div_add_mod (x-b) s
  rw[Nat.mul_comm]at this
  omega
def fn(b s:Int)(o a:List Int)(n:Nat):Bool:=mem b s o a n
theorem v8{b s:Int}{o a:List Int}(S:Ok b s o a):bH (fn b s o a) b.toNat s.toNat:=fun x hx=>by
 have hb:=S.hb
 have hs:=S.hs
 unfold fn
 rw[fL _ (by omega),fL _ (by omega)]
 congr 2
 have:((x+s.toNat:Nat):Int)-b=(x:Int)-b+s*1:=by omega
 rw[this,Int.add_mul_emod_self_left]
theorem AX{b s:Int}{o a:List Int}(S:Ok b s o a){y:Int}(hy:0<=y):(o.contains y || a.any fun x=>decide (x<=y) && (y-x) % s == 0)=mem b s o a y:=by
 have hs:=S.hs
 by_cases h:y<b
 ·rw[fY _ h]
  have:(a.any fun x=>decide (x<=y) && (y-x) % s == 0)=false:=by
   rw[List.any_eq_false]
   intro x hx
   have:=S.ha.2 x hx
   simp
   omega
  rw[this,Bool.or_false]
 ·rw[fL _ (by omega)]
  have:o.contains y=false:=by
   rw[Bool.eq_false_iff]
   intro hc
   rw[List.contains_iff_mem]at hc
   have:=S.ho.2 y hc
   omega
  rw[this,Bool.false_or,Bool.eq_iff_iff,List.any_eq_true,List.contains_iff_mem]
  have r0:0<=(y-b) % s:=Int.emod_nonneg _ (by omega)
  have r1:(y-b) % s<s:=Int.emod_lt_of_pos _ (by omega)
  have hm:=Int.mul_ediv_add_emod (y-b) s
  have q0:0<=(y-b) / s:=Int.ediv_nonneg (by omega) (by omega)
  have q1:0<=s*((y-b) / s):=Int.mul_nonneg (by omega) q0
  constructor
  ·rintro⟨x,hx,hc⟩
   simp only[Bool.and_eq_true,decide_eq_true_eq,beq_iff_eq]at hc
   have hb:=S.ha.2 x hx
   have e:(y-b) % s=x-b:=by
    have e1:y-b=(x-b)+s*((y-x) / s):=by
     have:=Int.mul_ediv_add_emod (y-x) s
     rw[hc.2]at this
     omega
    rw[e1,Int.add_mul_emod_self_left,Int.emod_eq_of_lt (by omega) (by omega)]
   rw[e,show b+(x-b)=x by omega]
   exact hx
  ·intro hx
   refine⟨_,hx,?_⟩
   simp only[Bool.and_eq_true,decide_eq_true_eq,beq_iff_eq]
   refine⟨by omega,?_⟩
   rw[show y-(b+(y-b) % s)=s*((y-b) / s) by omega]
   exact Int.mul_emod_right _ _
theorem iX{xs:List Int}{x:Int}:xs.contains x=true↔x∈xs:=List.contains_iff_mem
theorem wY(f:Nat->Bool)(lo m n:Nat):row f lo (m+n)=row f lo m++row f (lo+m) n:=by
 induction n with
 | zero=>simp[row]
 | succ n ih=>rw[←Nat.add_assoc,eD,ih,eD,List.append_assoc,Nat.add_assoc]
theorem nB:∀{xs ys:List Int},xs.Pairwise (· < ·)->ys.Pairwise (· < ·)->(∀z,z∈xs↔z∈ys)->xs=ys
 | [],[],_,_,_=>rfl
 | [],y::ys,_,_,h=>by have:=(h y).mpr List.mem_cons_self;simp at this
 | x::xs,[],_,_,h=>by have:=(h x).mp List.mem_cons_self;simp at this
 | x::xs,y::ys,hx,hy,h=>by
  obtain⟨hx1,hx2⟩:=List.pairwise_cons.mp hx
  obtain⟨hy1,hy2⟩:=List.pairwise_cons.mp hy
  have e:x=y:=by
   have a1:=(h x).mp List.mem_cons_self
   have a2:=(h y).mpr List.mem_cons_self
   rcases List.mem_cons.mp a1 with e | a1
   ·exact e
   ·rcases List.mem_cons.mp a2 with e | a2
    ·exact e.symm
    ·have:=hy1 _ a1
     have:=hx1 _ a2
     omega
  subst e
  congr 1
  refine nB hx2 hy2 fun z=>⟨fun hz=>?_,fun hz=>?_⟩
  ·rcases List.mem_cons.mp ((h z).mp (List.mem_cons_of_mem _ hz))with e | hz'
   ·have:=hx1 z hz;omega
   ·exact hz'
  ·rcases List.mem_cons.mp ((h z).mpr (List.mem_cons_of_mem _ hz))with e | hz'
   ·have:=hy1 z hz;omega
   ·exact hz'
theorem yQ{b s:Int}{o a:List Int}(S:Ok b s o a):row (fn b s o a) 0 b.toNat=o:=by
 have hb:=S.hb
 refine nB (iQ _ _ _).1 S.ho.1 fun z=>?_
 rw[iM]
 constructor
 ·rintro⟨h1,h2,h3⟩
  unfold fn at h3
  rw[fY _ (by omega),iX]at h3
  rwa [Int.toNat_of_nonneg (by omega)]at h3
 ·intro hz
  have:=S.ho.2 z hz
  refine⟨by omega,by omega,?_⟩
  unfold fn
  rw[fY _ (by omega),iX,Int.toNat_of_nonneg (by omega)]
  exact hz
theorem vx{b s:Int}{o a:List Int}(S:Ok b s o a):row (fn b s o a) b.toNat s.toNat=a:=by
 have hb:=S.hb
 have hs:=S.hs
 refine nB (iQ _ _ _).1 S.ha.1 fun z=>?_
 rw[iM]
 have key:∀z:Int,b<=z->z<b+s->mem b s o a z=a.contains z:=fun z h1 h2=>by
  rw[fL _ h1,Int.emod_eq_of_lt (by omega) (by omega),show b+(z-b)=z by omega]
 constructor
 ·rintro⟨h1,h2,h3⟩
  unfold fn at h3
  rw[Int.toNat_of_nonneg (by omega),key z (by omega) (by omega),iX]at h3
  exact h3
 ·intro hz
  have:=S.ha.2 z hz
  refine⟨by omega,by omega,?_⟩
  unfold fn
  rw[Int.toNat_of_nonneg (by omega),key z (by omega) (by omega),iX]
  exact hz
end St
set_option linter.all false
namespace St
def cm(a b:Nat):Nat:=a / Nat.gcd a b*b
theorem mE(a b:Nat):cm a b=b / Nat.gcd a b*a:=by
 unfold cm
 have ha:Nat.gcd a b*(a / Nat.gcd a b)=a:=Nat.mul_div_cancel' (Nat.gcd_dvd_left a b)
 have hb:Nat.gcd a b*(b / Nat.gcd a b)=b:=Nat.mul_div_cancel' (Nat.gcd_dvd_right a b)
 generalize hg:Nat.gcd a b=g at *
 generalize a / g=x at *
 generalize b / g=y at *
 rw[←ha,←hb,Nat.mul_comm y,Nat.mul_comm g y,Nat.mul_comm g x,Nat.mul_assoc,Nat.mul_comm g y,←Nat.mul_assoc]
theorem xU{a b:Nat}(ha:1<=a)(hb:1<=b):1<=cm a b:=by
 unfold cm
 have h1:0<a / Nat.gcd a b:=Nat.div_pos (Nat.le_of_dvd ha (Nat.gcd_dvd_left a b)) (Nat.gcd_pos_of_pos_left b ha)
 exact Nat.mul_pos h1 hb
theorem nv(a b:Nat):cm a b=cm b a:=by
 rw[mE a b]
 unfold cm
 rw[Nat.gcd_comm]
theorem fZ{a:Nat}(ha:1<=a):cm a a=a:=by
 unfold cm
 rw[Nat.gcd_self,Nat.div_self ha,Nat.one_mul]
theorem zD(x y:Nat):Nat.gcd y (x % y)=Nat.gcd x y:=by
 rw[Nat.gcd_comm x y,Nat.gcd_rec y x,Nat.gcd_comm]
end St
set_option linter.all false
namespace St
theorem yY(a b:Nat):cm a b=Nat.lcm a b:=by
 unfold cm Nat.lcm
 have hd:Nat.gcd a b ∣ a:=Nat.gcd_dvd_left a b
 rw[Nat.div_mul_right_comm hd]
theorem rD{d s:Nat}(hs:1<=s)(h:d ∣ s):cm s d=s:=by
 rw[yY]
 exact Nat.dvd_antisymm (Nat.lcm_dvd (Nat.dvd_refl s) h) (Nat.dvd_lcm_left s d)
end St
set_option Elab.async false
set_option linter.all false
namespace Bfs
abbrev Pl:=Int×Int
section
variable (nx:Pl->Nat->Option Pl) (s:Pl)
variable {nx s}
end
end Bfs
set_option Elab.async false
set_option linter.all false
namespace Bfs
end Bfs
set_option Elab.async false
set_option linter.all false
namespace Bfs
end Bfs
set_option Elab.async false
set_option linter.all false
set_option maxRecDepth 100000
namespace My
open PySem L2 St
set_option maxHeartbeats 4000000
def stq (i : Nat) : Stmt := PySem.Challenge.pw_stairrooms_k36_never_conditions.main.body.getD i (.Pass ⟨0, 0, 0, 0⟩)
local macro_rules | `(tactic| walk_at "cond") => `(tactic| first | decide | omega | (dsimp only; omega) | (unfold fN; omega) | (unfold sV; exact ⟨by decide, by decide, by decide⟩) | (dsimp only; exact ⟨by omega, by omega⟩) | exact .inr ⟨by decide, by decide⟩ | exact .inl ⟨by decide, by decide⟩ | (unfold hZ; omega))
local macro_rules | `(tactic| walk_at "rd") => do
 let ts ← ("seq ret retN asg drop ifS next name var c op un CB cons nil ints test B exb not and or andV orV notV ifE yes I0 I U EqI NeI EqB NeB call BM tup lst sl noPart part exi chain comp iL iT i1 i2 i3 for tTru intB max2 min2 sub gcons gnil aug ipI zip rev par par2 lam calV raise fs try bseq bnext bplain bif bcall enum gget gin revL leS disp dget lrev disp1 din dnin dput min3 iS iD bm0 revS iD2 iLT thaw iD3 iDL dgt2 fs3 fs5".splitOn " ").toArray.mapM fun n =>
  let i := Lean.mkIdent (.mkSimple ("rd_" ++ n))
  if n == "var" || n == "aug" then `(tacticSeq| ((with_reducible apply $i); (exact rfl)))
  else if n == "I" then `(tacticSeq| ((with_reducible apply $i); (walk_at "cond")))
  else `(tacticSeq| with_reducible refine $i ?_)
 `(tactic| repeat (first $[| $ts]* | dsimp only))
structure Blt(mg:Str->Option Value):Prop where
 len_:mg "len" = none
 isinstance_:mg "isinstance" = none
 tuple_:mg "tuple" = none
 list_:mg "list" = none
 int_:mg "int" = none
 bool_:mg "bool" = none
 range_:mg "range" = none
 zip_:mg "zip" = none
 max_:mg "max" = none
 min_:mg "min" = none
 abs_:mg "abs" = none
 all_:mg "all" = none
 set_:mg "set" = none
 str_:mg "str" = none
 any_:mg "any" = none
def isInt:V->Bool
 | .int _=>true
 | _=>false
def isStr:V->Bool
 | .str _=>true
 | _=>false
def isTup(H:Hp):V->Bool
 | .ref p=>match H p with
  | some (.tup _)=>true
  | _=>false
 | _=>false
theorem vi{H:Hp}{v:V}{n:String}(h:bS H v n):∃b c,dA n "int" = some b/\dA n "bool" = some c/\(b && !c)=isInt v:=by
 cases v with
 | non=>cases(show n = "NoneType" from h);exact⟨_,_,rfl,rfl,rfl⟩
 | bl b=>cases(show n = "bool" from h);exact⟨_,_,rfl,rfl,rfl⟩
 | int i=>cases(show n = "int" from h);exact⟨_,_,rfl,rfl,rfl⟩
 | str z=>cases(show n = "str" from h);exact⟨_,_,rfl,rfl,rfl⟩
 | ref a=>rcases h with⟨rfl,xs,e⟩ | ⟨rfl,xs,e⟩<;>exact⟨_,_,rfl,rfl,rfl⟩
 | _=>exact False.elim h
theorem qg{H:Hp}{v:V}{n:String}(h:bS H v n):dA n "str" = some (isStr v):=by
 cases v with
 | non=>cases(show n = "NoneType" from h);rfl
 | bl b=>cases(show n = "bool" from h);rfl
 | int i=>cases(show n = "int" from h);rfl
 | str z=>cases(show n = "str" from h);rfl
 | ref a=>rcases h with⟨rfl,xs,e⟩ | ⟨rfl,xs,e⟩<;>rfl
 | _=>exact False.elim h
theorem mD{H:Hp}{v:V}{n:String}(h:bS H v n):dA n "tuple" = some (isTup H v):=by
 cases v with
 | non=>cases(show n = "NoneType" from h);rfl
 | bl b=>cases(show n = "bool" from h);rfl
 | int i=>cases(show n = "int" from h);rfl
 | str z=>cases(show n = "str" from h);rfl
 | ref a=>rcases h with⟨rfl,xs,e⟩ | ⟨rfl,xs,e⟩<;>(unfold isTup;dsimp only;rw[e];rfl)
 | _=>exact False.elim h
def bh(H:Hp):Nat->V->Prop
 | _,.non=>True
 | _,.bl _=>True
 | _,.int _=>True
 | _,.str z=>z.length<=1000
 | 0,.ref _=>False
 | n+1,.ref p=>∃xs,(H p=some (.tup xs)\/H p=some (.lst xs))/\xs.length<=2000/\∀x∈xs,bh H n x
 | _,_=>False
theorem bh.ext{H H':Hp}(e:Ext H H'):∀{n:Nat} {v:V},bh H n v->bh H' n v:=by
 intro n
 induction n with
 | zero=>intro v h;cases v<;>exact h
 | succ n ih=>
  intro v h
  cases v with
  | ref p=>
   obtain⟨xs,h1,h2,h3⟩:=h
   exact⟨xs,h1.imp (e _ _) (e _ _),h2,fun x hx=>ih (h3 x hx)⟩
  | _=>exact h
theorem bh.kind{H:Hp}{n:Nat}{v:V}(h:bh H n v):∃k,bS H v k:=by
 cases v with
 | non=>exact⟨_,rfl⟩
 | bl b=>exact⟨_,rfl⟩
 | int i=>exact⟨_,rfl⟩
 | str z=>exact⟨_,rfl⟩
 | ref p=>
  cases n with
  | zero=>exact h.elim
  | succ n=>
   obtain⟨xs,h1,_⟩:=h
   rcases h1 with h1 | h1
   ·exact⟨"tuple",.inr ⟨rfl,xs,h1⟩⟩
   ·exact⟨"list",.inl ⟨rfl,xs,h1⟩⟩
 | _=>cases n<;>exact h.elim
theorem jv{H:Hp}{v:V}(h:isTup H v=true):∃p xs,v=.ref p/\H p=some (.tup xs):=by
 cases v with
 | ref p=>
  unfold isTup at h
  dsimp only at h
  split at h
  ·rename_i xs e
   exact⟨p,xs,rfl,e⟩
  ·cases h
 | _=>cases h
theorem bh.items{H:Hp}{n:Nat}{p:Addr}{xs:List V}(h:bh H (n+1) (.ref p))(e:H p=some (.tup xs)):xs.length<=2000/\∀x∈xs,bh H n x:=by
 obtain⟨ys,h1,h2,h3⟩:=h
 rcases h1 with h1 | h1<;>rw[e]at h1<;>cases h1
 exact⟨h2,h3⟩
theorem eS{n:Nat}(h:n<=2000):n<=sizeLine:=Nat.le_trans h (by decide)
def fP(K:PySem.W.Frag):Sp:=fun vs H Q _=>∃v n,vs=[v]/\bS H v n/\Q (.bl (isInt v)) H
abbrev ko:Stmt:=stq 7
theorem oa:FnScope ["thing"] ["thing"] (aJ ko):=⟨rfl,rfl,rfl,by decide +kernel,rfl,by decide +kernel,by decide +kernel⟩
theorem vk{P:Program}{w:World}{K:PySem.W.Frag}{mg:Str->Option Value}{base:Heap}(D:Dfn K mg "is_whole" ko ["thing"])(T:Blt mg):Cal P w K mg base "is_whole" 1 ["thing"] (fP K):=by
 have nd:=(oa).nd
 refine D.ok oa (fun vs H Q E h=>?_) (fun X hX H vs Q E h=>?_)
 ·obtain⟨v,n,rfl,_⟩:=h;rfl
 ·obtain⟨f,cdv,A,outer,s,H0,E0,rfl,hr⟩:=hX
  obtain⟨v,n,rfl,hk,q⟩:=h
  obtain⟨b,c,hb,hc,e⟩:=vi hk
  refine⟨_,(ar (aA (bR (aV cS rfl T.isinstance_ PyProof.Rows.boot_isinstance (aa (pv 0) (aa (cP (v:=.ty "int") rfl T.int_ PyProof.Rows.boot_int rfl) ae))) (cv (ix (aV cS rfl T.isinstance_ PyProof.Rows.boot_isinstance (aa (pv 0) (aa (cP (v:=.ty "bool") rfl T.bool_ PyProof.Rows.boot_bool rfl) ae)))))))),?_⟩
  walk_at "rd"
  refine ck hk hb ?_
  walk_at "rd"
  cases b with
  | false=>refine au ?_;rw[←e]at q;exact q
  | true=>
   refine av ?_
   walk_at "rd"
   refine ck hk hc ?_
   walk_at "rd"
   rw[←e]at q;exact q
def bM(m:Int):V->Bool
 | .int i=>decide (0<=i) && decide (i<m)
 | _=>false
def nu:List (Key×V):=[(.inr "up",.str "down"),(.inr "down",.str "up"),(.inr "stay",.str "stay"),(.inr "zero",.str "zero")]
theorem vI{w:World}{K:PySem.W.Frag}{a:Addr}{t1 t2 t3 t4 t5 t6 t7 t8:Tok}{ep:Nat}(h:K.lookup a=some (fV w [("up",t1,.str "down" t2),("down",t3,.str "up" t4),("stay",t5,.str "stay" t6),("zero",t7,.str "zero" t8)] ep))(hs:(a == sysModules)=false):GDict w K a nu:=
 ⟨⟨_,_,h,.cons ⟨rfl,⟨_,rfl⟩⟩ (.cons ⟨rfl,⟨_,rfl⟩⟩ (.cons ⟨rfl,⟨_,rfl⟩⟩ (.cons ⟨rfl,⟨_,rfl⟩⟩ .nil)))⟩,by decide +kernel,hs⟩
def gh:V->Bool
 | .str z=>(cc nu (.inr z)).isSome
 | _=>false
def je(z:Str):Bool:=!decide (z.cps.toList<(Str.ofString "a").cps.toList) && !decide ((Str.ofString "z").cps.toList<z.cps.toList)
def h7:V->Bool
 | .str z=>decide (z.length=1) && je z
 | _=>false
theorem cX{v:V}(h:isInt v=true):∃i,v=.int i:=by
 cases v<;>first | exact ⟨_,rfl⟩ | cases h
theorem isStr_of{v:V}(h:isStr v=true):∃z,v=.str z:=by
 cases v<;>first | exact ⟨_,rfl⟩ | cases h
theorem nX{m:Int}{v:V}(h:isInt v=false):bM m v=false:=by
 cases v<;>first | rfl | cases h
theorem AZ{v:V}(h:isStr v=false):gh v=false:=by
 cases v<;>first | rfl | cases h
theorem A1{v:V}(h:isStr v=false):h7 v=false:=by
 cases v<;>first | rfl | cases h
def m8(K:PySem.W.Frag):Sp:=fun vs H Q _=>∃v m n,vs=[v,.int m]/\bS H v n/\Q (.bl (bM m v)) H
abbrev jJ:Stmt:=stq 22
theorem nY:FnScope ["thing","many"] ["thing","many"] (aJ jJ):=⟨rfl,rfl,rfl,by decide +kernel,rfl,by decide +kernel,by decide +kernel⟩
theorem AD{P:Program}{w:World}{K:PySem.W.Frag}{mg:Str->Option Value}{base:Heap}(D:Dfn K mg "is_room" jJ ["thing","many"])(T:Blt mg)(C_is_whole:Cal P w K mg base "is_whole" 1 ["thing"] (fP K)):Cal P w K mg base "is_room" 2 ["thing","many"] (m8 K):=by
 have nd:=(nY).nd
 refine D.ok nY (fun vs H Q E h=>?_) (fun X hX H vs Q E h=>?_)
 ·obtain⟨i,m,n,rfl,_⟩:=h;rfl
 ·obtain⟨f,cdv,A,outer,s,H0,E0,rfl,hr⟩:=hX
  obtain⟨v,m,n,rfl,hk,q⟩:=h
  refine⟨_,(ar (aA (bR (aw C_is_whole hr (aa (pv 0) ae)) (cv (kr fH eh af (pv 0) (pv 1)))))),?_⟩
  walk_at "rd"
  refine⟨v,n,rfl,hk,?_⟩
  refine rd_exb ?_
  cases hv:isInt v with
  | false=>
   refine au ?_
   rw[nX hv]at q
   exact q
  | true=>
   obtain⟨i,rfl⟩:=cX hv
   refine av ?_
   walk_at "rd"
   unfold bM at q
   dsimp only at q
   cases h0:decide (0<=i)with
   | false=>
    refine au ?_
    rw[h0]at q
    exact q
   | true=>
    refine av ?_
    walk_at "rd"
    rw[h0,Bool.true_and]at q
    exact q
def tR(K:PySem.W.Frag):Sp:=fun vs H Q _=>∃v n,vs=[v]/\bS H v n/\Q (.bl (gh v)) H
abbrev jw:Stmt:=stq 23
theorem uW:FnScope ["thing"] ["thing"] (aJ jw):=⟨rfl,rfl,rfl,by decide +kernel,rfl,by decide +kernel,by decide +kernel⟩
theorem Az{P:Program}{w:World}{K:PySem.W.Frag}{mg:Str->Option Value}{base:Heap}(D:Dfn K mg "is_deed" jw ["thing"])(T:Blt mg)(g_TURNED:∃a,mg "TURNED" = some (.ref a)/\GDict w K a nu):Cal P w K mg base "is_deed" 1 ["thing"] (tR K):=by
 have nd:=(uW).nd
 refine D.ok uW (fun vs H Q E h=>?_) (fun X hX H vs Q E h=>?_)
 ·obtain⟨z,n,rfl,_⟩:=h;rfl
 ·obtain⟨f,cdv,A,outer,s,H0,E0,rfl,hr⟩:=hX
  obtain⟨a_TURNED,m_TURNED,d_TURNED⟩:=g_TURNED
  obtain⟨v,n,rfl,hk,q⟩:=h
  refine⟨_,(ar (aA (bR (aV cS rfl T.isinstance_ PyProof.Rows.boot_isinstance (aa (pv 0) (aa (cP (v:=.ty "str") rfl T.str_ PyProof.Rows.boot_str rfl) ae))) (cv (xT (AK rfl m_TURNED d_TURNED (pv 0)) (by with_unfolding_all rfl)))))),?_⟩
  walk_at "rd"
  refine ck hk (qg hk) ?_
  walk_at "rd"
  cases hv:isStr v with
  | false=>
   refine au ?_
   rw[AZ hv]at q
   exact q
  | true=>
   obtain⟨z,rfl⟩:=isStr_of hv
   refine av ?_
   walk_at "rd"
   exact⟨.inr z,rfl,q⟩
def qh(K:PySem.W.Frag):Sp:=fun vs H Q _=>∃v n j,vs=[v]/\bS H v n/\bh H j v/\Q (.bl (h7 v)) H
abbrev jN:Stmt:=stq 24
theorem uI:FnScope ["thing"] ["thing"] (aJ jN):=⟨rfl,rfl,rfl,by decide +kernel,rfl,by decide +kernel,by decide +kernel⟩
theorem Ax{P:Program}{w:World}{K:PySem.W.Frag}{mg:Str->Option Value}{base:Heap}(D:Dfn K mg "is_sign" jN ["thing"])(T:Blt mg):Cal P w K mg base "is_sign" 1 ["thing"] (qh K):=by
 have nd:=(uI).nd
 refine D.ok uI (fun vs H Q E h=>?_) (fun X hX H vs Q E h=>?_)
 ·obtain⟨z,n,j,rfl,_⟩:=h;rfl
 ·obtain⟨f,cdv,A,outer,s,H0,E0,rfl,hr⟩:=hX
  obtain⟨v,n,j,rfl,hk,ht,q⟩:=h
  refine⟨_,(ar (aA (bR (aV cS rfl T.isinstance_ PyProof.Rows.boot_isinstance (aa (pv 0) (aa (cP (v:=.ty "str") rfl T.str_ PyProof.Rows.boot_str rfl) ae))) (bR (cD bQ (aV zW rfl T.len_ PySem.boot_len (aa (pv 0) ae)) af (aG _)) (cv (kr p9 p9 aQ (pv 0) aQ)))))),?_⟩
  walk_at "rd"
  refine ck hk (qg hk) ?_
  walk_at "rd"
  cases hv:isStr v with
  | false=>
   refine au ?_
   rw[A1 hv]at q
   exact q
  | true=>
   obtain⟨z,rfl⟩:=isStr_of hv
   refine av ?_
   walk_at "rd"
   refine⟨_,rfl,eS (Nat.le_trans (show z.length<=1000 by cases j<;>exact ht) (by decide)),?_⟩
   walk_at "rd"
   unfold h7 je at q
   dsimp only at q
   by_cases h1:z.length=1
   ·rw[decide_eq_true (show((z.length:Nat):Int)=1 by omega)]
    refine av ?_
    walk_at "rd"
    rw[decide_eq_true h1,Bool.true_and]at q
    cases h2:!decide (z.cps.toList<(Str.ofString "a").cps.toList)with
    | false=>
     refine au ?_
     rw[h2]at q
     exact q
    | true=>
     refine av ?_
     walk_at "rd"
     rw[h2,Bool.true_and]at q
     exact q
   ·rw[decide_eq_false (show ¬((z.length:Nat):Int)=1 by omega)]
    refine au ?_
    rw[decide_eq_false h1,Bool.false_and]at q
    exact q
def ft(m:Int):List V->Bool
 | [a,b,c,d]=>bM m a && (bM m c && (gh b && h7 d))
 | _=>false
def bL(H:Hp)(m:Int):V->Bool
 | .ref p=>match H p with
  | some (.tup xs)=>ft m xs
  | _=>false
 | _=>false
theorem p0{H:Hp}{m:Int}{v:V}(h:isTup H v=false):bL H m v=false:=by
 cases v with
 | ref p=>
  unfold isTup at h
  unfold bL
  dsimp only at h ⊢
  split
  ·rename_i xs e
   rw[e]at h
   cases h
  ·rfl
 | _=>rfl
theorem mS{H:Hp}{m:Int}{p:Addr}{xs:List V}(h:H p=some (.tup xs)):bL H m (.ref p)=ft m xs:=by
 unfold bL
 dsimp only
 rw[h]
theorem uF{m:Int}{xs:List V}(h:xs.length≠4):ft m xs=false:=by
 unfold ft
 split
 ·exact absurd rfl h
 ·rfl
theorem four{xs:List V}(h:xs.length=4):∃a b c d,xs=[a,b,c,d]:=by
 match xs,h with
 | [a,b,c,d],_=>exact⟨a,b,c,d,rfl⟩
def sP(K:PySem.W.Frag):Sp:=fun vs H Q _=>∃v m,vs=[v,.int m]/\bh H 2 v/\Q (.bl (bL H m v)) H
abbrev jD:Stmt:=stq 25
theorem rV:FnScope ["thing","many"] ["thing","many"] (aJ jD):=⟨rfl,rfl,rfl,by decide +kernel,rfl,by decide +kernel,by decide +kernel⟩
theorem zu{P:Program}{w:World}{K:PySem.W.Frag}{mg:Str->Option Value}{base:Heap}(D:Dfn K mg "is_way" jD ["thing","many"])(T:Blt mg)(C_is_sign:Cal P w K mg base "is_sign" 1 ["thing"] (qh K))(C_is_deed:Cal P w K mg base "is_deed" 1 ["thing"] (tR K))(C_is_room:Cal P w K mg base "is_room" 2 ["thing","many"] (m8 K)):Cal P w K mg base "is_way" 3 ["thing","many"] (sP K):=by
 have nd:=(rV).nd
 refine D.ok rV (fun vs H Q E h=>?_) (fun X hX H vs Q E h=>?_)
 ·obtain⟨p,m,rfl,_⟩:=h;rfl
 ·obtain⟨f,cdv,A,outer,s,H0,E0,rfl,hr⟩:=hX
  obtain⟨v,m,rfl,ht,q⟩:=h
  obtain⟨n,hk⟩:=ht.kind
  refine⟨_,(ao (aU (PW.pt (bV (bt (aZ (aV cS rfl T.isinstance_ PyProof.Rows.boot_isinstance (aa (pv 0) (aa (cP (v:=.ty "tuple") rfl T.tuple_ PyProof.Rows.boot_tuple rfl) ae))))) (cz (aO iN (aV (dj K) rfl T.len_ PySem.boot_len (aa (pv 0) ae)) af (aG _))))) (ar (aA aN)) aP)
    (ao (aU (PW.pt (bV (bt (aZ (aw C_is_room hr (aa (aq (aC K) (pv 0) af (fun _ _=>rfl)) (aa (pv 1) ae))))) (cz (bt (aZ (aw C_is_room hr (aa (aq (aC K) (pv 0) af (fun _ _=>rfl)) (aa (pv 1) ae)))))))) (ar (aA aN)) aP)
    (ar (aA (bR (aw C_is_deed hr (aa (aq (aC K) (pv 0) af (fun _ _=>rfl)) ae)) (cv (aw C_is_sign hr (aa (aq (aC K) (pv 0) af (fun _ _=>rfl)) ae)))))))),?_⟩
  walk_at "rd"
  refine ck hk (mD hk) ?_
  walk_at "rd"
  cases hv:isTup H v with
  | false=>
   refine av ?_
   walk_at "rd"
   rw[p0 hv]at q
   exact q
  | true=>
   refine au ?_
   obtain⟨p,xs,rfl,hp⟩:=jv hv
   obtain⟨hx1,hx2⟩:=ht.items hp
   rw[mS hp]at q
   walk_at "rd"
   refine gm (aj.of hp) ?_
   walk_at "rd"
   by_cases h4:xs.length=4
   ·obtain⟨a,b,c,d,rfl⟩:=four h4
    have ta:=hx2 a (by simp)
    have tb:=hx2 b (by simp)
    have tc:=hx2 c (by simp)
    have td:=hx2 d (by simp)
    obtain⟨ka,hka⟩:=ta.kind
    obtain⟨kb,hkb⟩:=tb.kind
    obtain⟨kc,hkc⟩:=tc.kind
    obtain⟨kd,hkd⟩:=td.kind
    unfold ft at q
    dsimp only at q
    refine au ?_
    walk_at "rd"
    refine aB (aj.of hp) (v:=a) rfl ?_
    walk_at "rd"
    refine⟨a,m,ka,rfl,hka,?_⟩
    walk_at "rd"
    cases ra:bM m a with
    | false=>
     refine av ?_
     walk_at "rd"
     rw[ra]at q
     exact q
    | true=>
     refine au ?_
     walk_at "rd"
     refine aB (aj.of hp) (v:=c) rfl ?_
     walk_at "rd"
     refine⟨c,m,kc,rfl,hkc,?_⟩
     walk_at "rd"
     rw[ra,Bool.true_and]at q
     cases rc:bM m c with
     | false=>
      refine av ?_
      walk_at "rd"
      rw[rc]at q
      exact q
     | true=>
      refine au ?_
      walk_at "rd"
      refine aB (aj.of hp) (v:=b) rfl ?_
      walk_at "rd"
      refine⟨b,kb,rfl,hkb,?_⟩
      walk_at "rd"
      rw[rc,Bool.true_and]at q
      cases rb:gh b with
      | false=>
       refine au ?_
       rw[rb]at q
       exact q
      | true=>
       refine av ?_
       walk_at "rd"
       refine aB (aj.of hp) (v:=d) rfl ?_
       walk_at "rd"
       rw[rb,Bool.true_and]at q
       exact⟨d,kd,1,rfl,hkd,td,q⟩
   ·rw[uF h4]at q
    rw[decide_eq_false (show ¬((xs.length:Nat):Int)=4 by omega)]
    refine av ?_
    walk_at "rd"
    exact q
theorem lU{xs:List Int}{i:Nat}{v:V}(h:(xs.map V.int)[i]?=some v):∃x,v=.int x/\xs[i]?=some x:=by
 rw[List.getElem?_map]at h
 cases e:xs[i]? with
 | none=>rw[e]at h;cases h
 | some x=>rw[e]at h;exact⟨x,(Option.some.inj h).symm,rfl⟩
theorem ai{n:Nat}(h:n<=1000000):n<=sizeLine:=Nat.le_trans h (by decide)
def lT(K:PySem.W.Frag):Sp:=fun vs H Q _=>∃(a:Addr) (ns:List Int) (k:Int),vs=[.ref a,.int k]/\ag K H a (ns.map V.int)/\ns.length<=63/\0<=k/\∀z,Q (.int z) H
theorem uV{ns:List Int}{i:Int}(h0:0<=i)(h:i<ns.length):∃z,bN (ns.map V.int) i=some (.int z)/\ns[i.toNat]?=some z:=by
 have hi:i.toNat<ns.length:=by omega
 refine⟨ns[i.toNat],mG h0 ?_,List.getElem?_eq_getElem hi⟩
 rw[List.getElem?_map,List.getElem?_eq_getElem hi]
 rfl
abbrev j7:Stmt:=stq 41
theorem qW:FnScope ["_law_script","_law_k"] ["_law_script","_law_k"] (aJ j7):=⟨rfl,rfl,rfl,by decide +kernel,rfl,by decide +kernel,by decide +kernel⟩
theorem Af{P:Program}{w:World}{K:PySem.W.Frag}{mg:Str->Option Value}{base:Heap}(D:Dfn K mg "_law_cell" j7 ["_law_script","_law_k"])(T:Blt mg):Cal P w K mg base "_law_cell" 1 ["_law_script","_law_k"] (lT K):=by
 have nd:=(qW).nd
 refine D.ok qW (fun vs H Q E h=>?_) (fun X hX H vs Q E h=>?_)
 ·obtain⟨a,ns,k,rfl,_⟩:=h;rfl
 ·obtain⟨f,cdv,A,outer,s,H0,E0,rfl,hr⟩:=hX
  obtain⟨a,ns,k,rfl,ha,hl,hk,q⟩:=h
  refine⟨_,(ao (aU (aO bQ (aV (dj K) rfl T.len_ PySem.boot_len (aa (pv 0) ae)) af (aG _)) (ar (aA (ak cM af (ak aI (pv 1) af)))) aP)
    (ao (aU (aO eh (pv 1) (aV (dj K) rfl T.len_ PySem.boot_len (aa (pv 0) ae)) (aG _)) (ar (aA (aq (aL K) (pv 0) (pv 1) (fun _ _=>rfl)))) aP)
    (ar (aA (ak aI (aq (aL K) (pv 0) (ak bO (pv 1) (aV (dj K) rfl T.len_ PySem.boot_len (aa (pv 0) ae))) (fun _ _=>rfl)) (ak cM af (pv 1))))))),?_⟩
  walk_at "rd"
  refine gK ha ?_
  walk_at "rd"
  rw[List.length_map]
  by_cases h0:(ns.length:Int)=0
  ·rw[decide_eq_true h0]
   refine av ?_
   walk_at "rd"
   exact q _
  ·rw[decide_eq_false h0]
   refine au ?_
   walk_at "rd"
   refine gK ha ?_
   walk_at "rd"
   rw[List.length_map]
   by_cases h1:k<ns.length
   ·rw[decide_eq_true h1]
    refine av ?_
    obtain⟨z,hz,_⟩:=uV hk h1
    walk_at "rd"
    refine aK ha hz ?_
    exact q _
   ·rw[decide_eq_false h1]
    refine au ?_
    walk_at "rd"
    refine gK ha ?_
    rw[List.length_map]
    have hp:(0:Int)<ns.length:=by omega
    refine rd_I hp ?_
    obtain⟨z,hz,_⟩:=uV (ns:=ns) (Int.emod_nonneg k (by omega)) (Int.emod_lt_of_pos k hp)
    refine aK ha hz ?_
    walk_at "rd"
    exact q _
def tO(K:PySem.W.Frag):Sp:=fun vs H Q _=>∃c k p,vs=[.int c,.int k,.int p]/\0<=k/\k<100000/\0<p/\∀z,0<=z->z<p->Q (.int z) H
abbrev ja:Stmt:=stq 42
theorem uR:FnScope ["_law_cell_here","_law_k","_law_prime","_law_far"] ["_law_cell_here","_law_k","_law_prime"] (aJ ja):=⟨rfl,rfl,rfl,by decide +kernel,rfl,by decide +kernel,by decide +kernel⟩
theorem y6{P:Program}{w:World}{K:PySem.W.Frag}{mg:Str->Option Value}{base:Heap}(D:Dfn K mg "_law_mixed" ja ["_law_cell_here","_law_k","_law_prime"])(T:Blt mg):Cal P w K mg base "_law_mixed" 1 ["_law_cell_here","_law_k","_law_prime"] (tO K):=by
 have nd:=(uR).nd
 refine D.ok uR (fun vs H Q E h=>?_) (fun X hX H vs Q E h=>?_)
 ·obtain⟨c,k,p,rfl,_⟩:=h;rfl
 ·obtain⟨f,cdv,A,outer,s,H0,E0,rfl,hr⟩:=hX
  obtain⟨c,k,p,rfl,hk,hk2,hp,q⟩:=h
  refine⟨_,(ao (aH (i:=3) nd rfl (Or.inl rfl) (ak bO (ak cM (ak aI (ak aI (ak aI (pv 0) (ak cM (ak cM af (pv 1)) (pv 1))) (ak cM af (pv 1))) af) af) af))
    (ao (aH (i:=3) nd rfl (Or.inl rfl) (ak bO (ak cM (pv 3) (pv 3)) af))
    (ar (aA (ak bO (ak cM (pv 3) af) (pv 2)))))),?_⟩
  walk_at "rd"
  exact q _ (Int.emod_nonneg _ (by omega)) (Int.emod_lt_of_pos _ hp)
theorem cL{H H2:Hp}{q:Addr}{o:HO}(e:Ext H H2)(hq:H q=none):Ext H (upd H2 q o):=fun b u hb=>by
 rw[aT (dP hb hq)]
 exact e b u hb
def fo(K:PySem.W.Frag):Sp:=fun vs H Q _=>∃(c:Int) (w:Addr) (ws:List Int) (p:Int),vs=[.int c,.ref w,.int p]/\H w=some (.lst (ws.map V.int))/\(∀x∈ws,0<x/\x<2 ^ 40)/\ws.length<=10000/\0<p ∧
 ∀(q:Addr) (ds:List Int) (H':Hp),Ext H H'->H' q=some (.lst (ds.map V.int))->H q=none->ds.length=ws.length->(∀(i:Nat) d x,ds[i]?=some d->ws[i]?=some x->0<=d/\d<x)->Q (.ref q) H'
theorem ik{K:PySem.W.Frag}{H:Hp}{c:Int}{w:Addr}{p:Int}{Q:VK}{xe:XK}(ws:List Int)(h1:H w=some (.lst (ws.map V.int)))(h2:∀x∈ws,0<x/\x<2 ^ 40)(h3:ws.length<=10000)(h4:0<p)
  (k:∀(q:Addr) (ds:List Int) (H':Hp),Ext H H'->H' q=some (.lst (ds.map V.int))->H q=none->ds.length=ws.length->(∀(i:Nat) d x,ds[i]?=some d->ws[i]?=some x->0<=d/\d<x)->Q (.ref q) H'):fo K [.int c,.ref w,.int p] H Q xe:=⟨c,w,ws,p,rfl,h1,h2,h3,h4,k⟩
abbrev ju:Stmt:=stq 43
theorem pH:FnScope ["_law_cell_here","_law_widths","_law_prime","_law_left","_law_found","_law_k"] ["_law_cell_here","_law_widths","_law_prime"] (aJ ju):=⟨rfl,rfl,rfl,by decide +kernel,rfl,by decide +kernel,by decide +kernel⟩
theorem yR{P:Program}{w:World}{K:PySem.W.Frag}{mg:Str->Option Value}{base:Heap}(D:Dfn K mg "_law_draws" ju ["_law_cell_here","_law_widths","_law_prime"])(T:Blt mg)(C__law_mixed:Cal P w K mg base "_law_mixed" 1 ["_law_cell_here","_law_k","_law_prime"] (tO K)):Cal P w K mg base "_law_draws" 2 ["_law_cell_here","_law_widths","_law_prime"] (fo K):=by
 have nd:=(pH).nd
 refine D.ok pH (fun vs H Q E h=>?_) (fun X hX H vs Q E h=>?_)
 ·obtain⟨c,w,ws,p,rfl,_⟩:=h;rfl
 ·obtain⟨f,cdv,A,outer,s,H0,E0,rfl,hr⟩:=hX
  obtain⟨c,w,ws,p,rfl,hw,hpos,hlen,hp,q⟩:=h
  refine⟨_,(ao (aH (i:=3) nd rfl (Or.inl rfl) af)
    (ao (cB (aO jX (pv 0) (ak iu af af) (aG _)) (ar (aH (i:=3) nd rfl (Or.inl rfl) (ak cj (pv 0) (ak iu af af)))) aP)
    (ao (aH (i:=4) nd rfl (Or.inl rfl) (aR ae))
    (ao (bw PassesOwn.never rfl (cQ rfl T.range_ (aa (aV (dj K) rfl T.len_ PySem.boot_len (aa (pv 1) ae)) ae)) (aF (i:=5) nd rfl (Or.inl rfl)) (ar (cB (aO eZ (pv 3) af (aG _)) (ao (bx (bK K PySem.F.plainAttrs_list PySem.F.slot_list_append PySem.F.type_list_append bJ (pv 4) (aa (ak bO (pv 3) (aq (aL K) (pv 1) (pv 5) (fun _ _=>rfl))) ae)))
    (ar (aH (i:=3) nd rfl (Or.inl rfl) (ak iE (pv 3) (aq (aL K) (pv 1) (pv 5) (fun _ _=>rfl)))))) (ar (bx (bK K PySem.F.plainAttrs_list PySem.F.slot_list_append PySem.F.type_list_append bJ (pv 4) (aa (ak bO (aw C__law_mixed hr (aa (pv 0) (aa (pv 5) (aa (pv 2) ae)))) (aq (aL K) (pv 1) (pv 5) (fun _ _=>rfl))) ae)))))))
    (ar (aA (pv 4))))))),?_⟩
  walk_at "rd"
  refine ed (fun σ' H'=>H'=H/\∃l,σ'=[some (.int c),some (.ref w),some (.int p),some (.int l),none,none]) ?_ ?_
  ·walk_at "rd"
   refine et (fun h=>?_) (fun h=>?_)
   ·walk_at "rd"
    exact⟨rfl,_,rfl⟩
   ·walk_at "rd"
    exact⟨rfl,_,rfl⟩
  rintro σ' H' ⟨rfl,l,rfl⟩
  walk_at "rd"
  refine⟨ai (by simp),ah fun f H1 e1 hf hfn=>?_⟩
  walk_at "rd"
  refine gK (ag.of (e1 _ _ hw)) ?_
  rw[List.length_map]
  walk_at "rd"
  refine dg (by omega) ?_
  refine forR (fun i σ H2=>Ext H' H2/\∃(l:Int) (k:Option V) (ds:List Int),σ=[some (.int c),some (.ref w),some (.int p),some (.int l),some (.ref f),k]/\H2 f=some (.lst (ds.map V.int))/\ds.length=i/\∀(i:Nat) d x,ds[i]?=some d->ws[i]?=some x->0<=d/\d<x)
   ⟨e1,l,none,[],rfl,hf,rfl,fun i d x hd=>by simp at hd⟩ ?_ ?_
  ·rintro i σ H2 hi ⟨e2,l,k,ds,rfl,hf2,hds,hb⟩
   rw[Int.toNat_natCast]at hi
   have hwi:ws[i]?=some ws[i]:=List.getElem?_eq_getElem hi
   have hx:=hpos ws[i] (List.getElem_mem hi)
   have hat:bN (ws.map V.int) (0+(i:Int))=some (.int ws[i]):=by
    rw[Int.zero_add]
    exact dR (by rw[List.getElem?_map,hwi];rfl)
   have next:∀d,0<=d->d<ws[i]->∀(j:Nat) (d' x:Int),(ds++[d])[j]?=some d'->ws[j]?=some x->0<=d'/\d'<x:=fun d h0 h1 j d' x hj hx'=>by
    rcases Nat.lt_or_ge j ds.length with h | h
    ·rw[List.getElem?_append_left h]at hj
     exact hb j d' x hj hx'
    ·rw[List.getElem?_append_right h]at hj
     have hj0:j-ds.length=0:=by
      rcases Nat.eq_zero_or_pos (j-ds.length)with h | h
      ·exact h
      ·rw[List.getElem?_eq_none (by simp;omega)]at hj;cases hj
     rw[hj0]at hj
     have hji:j=i:=by omega
     subst hji
     rw[hwi]at hx'
     cases hx'
     have:d=d':=by simpa using hj
     rw[←this]
     exact⟨h0,h1⟩
   walk_at "rd"
   refine iz ?_
   walk_at "rd"
   refine et (fun h=>?_) (fun h=>?_)
   ·have h':1<l:=by simpa using h
    walk_at "rd"
    refine⟨cF (ag.of hf2),?_⟩
    walk_at "rd"
    refine aK (ag.of (e2 _ _ hw)) hat ?_
    refine rd_I (show 0<ws[i] by omega) ?_
    walk_at "rd"
    refine bF hf2 (by rw[List.length_map];exact Nat.lt_of_le_of_lt (show ds.length<=10000 by omega) (by decide)) ?_
    walk_at "rd"
    refine aK (ag.of (cL e2 hfn _ _ hw)) hat ?_
    refine rd_I (show 0<ws[i]/\ws[i]<2 ^ 64 by omega) ?_
    walk_at "rd"
    refine⟨cL e2 hfn,_,_,ds++[l % ws[i]],rfl,?_,by rw[List.length_append,hds];rfl,next _ (Int.emod_nonneg _ (by omega)) (Int.emod_lt_of_pos _ (by omega))⟩
    rw[aY,List.map_append]
    rfl
   ·walk_at "rd"
    refine⟨cF (ag.of hf2),?_⟩
    walk_at "rd"
    refine⟨c,0+(i:Int),p,rfl,by omega,by omega,hp,fun z hz0 hz1=>?_⟩
    walk_at "rd"
    refine aK (ag.of (e2 _ _ hw)) hat ?_
    refine rd_I (show 0<ws[i] by omega) ?_
    walk_at "rd"
    refine bF hf2 (by rw[List.length_map];exact Nat.lt_of_le_of_lt (show ds.length<=10000 by omega) (by decide)) ?_
    walk_at "rd"
    refine⟨cL e2 hfn,_,_,ds++[z % ws[i]],rfl,?_,by rw[List.length_append,hds];rfl,next _ (Int.emod_nonneg _ (by omega)) (Int.emod_lt_of_pos _ (by omega))⟩
    rw[aY,List.map_append]
    rfl
  ·rintro σ H2 ⟨e2,l,k,ds,rfl,hf2,hds,hb⟩
   walk_at "rd"
   exact q f ds H2 e2 hf2 hfn (by rw[hds,Int.toNat_natCast]) hb
def rC(K:PySem.W.Frag):Sp:=fun vs H Q _=>∃c w,vs=[.int c,.int w]/\0<w/\w<2 ^ 64/\∀z,Q (.int z) H
abbrev kI:Stmt:=stq 44
theorem rg:FnScope ["_law_cell_here","_law_width"] ["_law_cell_here","_law_width"] (aJ kI):=⟨rfl,rfl,rfl,by decide +kernel,rfl,by decide +kernel,by decide +kernel⟩
theorem zR{P:Program}{w:World}{K:PySem.W.Frag}{mg:Str->Option Value}{base:Heap}(D:Dfn K mg "_law_spare" kI ["_law_cell_here","_law_width"])(T:Blt mg):Cal P w K mg base "_law_spare" 1 ["_law_cell_here","_law_width"] (rC K):=by
 have nd:=(rg).nd
 refine D.ok rg (fun vs H Q E h=>?_) (fun X hX H vs Q E h=>?_)
 ·obtain⟨c,w,rfl,_⟩:=h;rfl
 ·obtain⟨f,cdv,A,outer,s,H0,E0,rfl,hr⟩:=hX
  obtain⟨c,w,rfl,h1,h2,q⟩:=h
  refine⟨_,(ao (aU (aO jX (pv 0) (ak iu af af) (aG _)) (ar (aA (ak aI (ak iE (ak cj (pv 0) (ak iu af af)) (pv 1)) (ak iu af af)))) aP)
    (ar (aA (ak aI (pv 0) af)))),?_⟩
  walk_at "rd"
  refine et (fun h=>?_) (fun h=>?_)
  ·walk_at "rd"
   exact q _
  ·walk_at "rd"
   exact q _
def Kn(H:Hp):Nat->V->Prop
 | 0,v=>∃n,bS H v n
 | d+1,v=>(∃n,bS H v n)/\∀p xs,v=.ref p->H p=some (.tup xs)->∀x∈xs,Kn H d x
theorem fU{H:Hp}{v:V}{n:String}(h:bS H v n):(∃p xs,v=.ref p/\H p=some (.tup xs)/\n = "tuple")\/(dA n "tuple" = some false/\∀p xs,v=.ref p->H p≠some (.tup xs)):=by
 cases v with
 | non=>cases(show n = "NoneType" from h);exact .inr ⟨rfl,fun p xs e=>nomatch e⟩
 | bl b=>cases(show n = "bool" from h);exact .inr ⟨rfl,fun p xs e=>nomatch e⟩
 | int i=>cases(show n = "int" from h);exact .inr ⟨rfl,fun p xs e=>nomatch e⟩
 | str z=>cases(show n = "str" from h);exact .inr ⟨rfl,fun p xs e=>nomatch e⟩
 | ref a=>
  rcases h with⟨rfl,xs,e⟩ | ⟨rfl,xs,e⟩
  ·exact .inr ⟨rfl,fun p ys q z=>by cases q;rw[e]at z;cases z⟩
  ·exact .inl ⟨a,xs,rfl,e,rfl⟩
 | _=>exact False.elim h
def b6(lo hi:Int):List V->Bool
 | []=>true
 | .int i::r=>decide (lo<=i) && decide (i<hi) && b6 (i+1) hi r
 | _::_=>false
def bu(H:Hp)(lo hi:Int):V->Bool
 | .ref p=>match H p with
  | some (.tup xs)=>b6 lo hi xs
  | _=>false
 | _=>false
theorem iA{H:Hp}{lo hi:Int}{p:Addr}{xs:List V}(h:H p=some (.tup xs)):bu H lo hi (.ref p)=b6 lo hi xs:=by simp only[bu,h]
theorem nF{H:Hp}{lo hi:Int}{v:V}(h:∀p xs,v=.ref p->H p≠some (.tup xs)):bu H lo hi v=false:=by
 cases v with
 | ref p=>
  cases e:H p with
  | none=>simp only[bu,e]
  | some o=>
   cases o with
   | tup xs=>exact absurd e (h p xs rfl)
   | _=>simp only[bu,e]
 | _=>rfl
theorem yp{lo hi:Int}{x:V}{r:List V}(h:isInt x=false):b6 lo hi (x::r)=false:=by
 cases x<;>first | rfl | cases h
def qx(K:PySem.W.Frag):Sp:=fun vs H Q _=>∃v lo hi,vs=[v,.int lo,.int hi]/\Kn H 1 v/\Q (.bl (bu H lo hi v)) H
abbrev jC:Stmt:=stq 8
theorem rq:FnScope ["thing","low","end","lowest","number"] ["thing","low","end"] (aJ jC):=⟨rfl,rfl,rfl,by decide +kernel,rfl,by decide +kernel,by decide +kernel⟩
theorem xK{P:Program}{w:World}{K:PySem.W.Frag}{mg:Str->Option Value}{base:Heap}(D:Dfn K mg "is_rising_row" jC ["thing","low","end"])(T:Blt mg)(C_is_whole:Cal P w K mg base "is_whole" 1 ["thing"] (fP K)):Cal P w K mg base "is_rising_row" 2 ["thing","low","end"] (qx K):=by
 have nd:=(rq).nd
 refine D.ok rq (fun vs H Q E h=>?_) (fun X hX H vs Q E h=>?_)
 ·obtain⟨v,lo,hi,rfl,_⟩:=h;rfl
 ·obtain⟨f,cdv,A,outer,s,H0,E0,rfl,hr⟩:=hX
  obtain⟨v,lo,hi,rfl,hk,q⟩:=h
  obtain⟨n,hn⟩:=hk.1
  refine⟨_,(ao (aU (bt (aZ (aV cS rfl T.isinstance_ PyProof.Rows.boot_isinstance (aa (pv 0) (aa (cP (v:=.ty "tuple") rfl T.tuple_ PyProof.Rows.boot_tuple rfl) ae))))) (ar (aA aN)) aP)
    (ao (aH (i:=3) nd rfl (Or.inl rfl) (pv 1))
    (ao (bw PassesOwn.never rfl (dG K (pv 0)) (aF (i:=4) nd rfl (Or.inl rfl)) (ao (aU (PW.pt (bV (bt (aZ (aw C_is_whole hr (aa (pv 4) ae)))) (bV (aO eh (pv 4) (pv 3) (aG _)) (cz (aO jX (pv 4) (pv 2) (aG _)))))) (ar (aA aN)) aP)
    (ar (aH (i:=3) nd rfl (Or.inl rfl) (ak aI (pv 4) af)))))
    (ar (aA aN))))),?_⟩
  walk_at "rd"
  rcases fU hn with⟨p,xs,rfl,hp,rfl⟩ | ⟨hf,hno⟩
  ·refine ck hn (b:=true) rfl ?_
   walk_at "rd"
   refine au ?_
   walk_at "rd"
   refine dQ (aj.of hp) ?_
   rw[iA hp]at q
   refine gj (xs:=xs) (fun i σ H'=>H'=H/\∃lw w,σ=[some (.ref p),some (.int lo),some (.int hi),some (.int lw),w]/\b6 lo hi xs=b6 lw hi (xs.drop i))
    ⟨rfl,lo,none,rfl,rfl⟩ (fun i σ H' _ h=>by rw[h.1];exact aj.of hp) ?_ ?_
   ·rintro i x σ H' hx ⟨rfl,lw,w,rfl,e⟩
    have hd:xs.drop i=x::xs.drop (i+1):=by
     obtain⟨hi',rfl⟩:=List.getElem?_eq_some_iff.mp hx
     exact List.drop_eq_getElem_cons hi'
    rw[hd]at e
    obtain⟨m,hm⟩:=hk.2 p xs rfl hp x (List.mem_of_getElem? hx)
    walk_at "rd"
    refine⟨x,m,rfl,hm,?_⟩
    walk_at "rd"
    cases hx':isInt x with
    | false=>
     refine av (av ?_)
     walk_at "rd"
     rw[e,yp hx']at q
     exact q
    | true=>
     obtain⟨z,rfl⟩:=cX hx'
     refine au ?_
     walk_at "rd"
     have e':b6 lo hi xs=(decide (lw<=z) && decide (z<hi) && b6 (z+1) hi (xs.drop (i+1))):=e
     by_cases h1:z<lw
     ·rw[decide_eq_true h1]
      refine av (av ?_)
      walk_at "rd"
      rw[e',decide_eq_false (show ¬lw<=z by omega)]at q
      exact q
     ·rw[decide_eq_false h1]
      refine au ?_
      walk_at "rd"
      by_cases h2:hi<=z
      ·rw[decide_eq_true h2]
       refine av ?_
       walk_at "rd"
       rw[e',decide_eq_false (show ¬z<hi by omega),Bool.and_false,Bool.false_and]at q
       exact q
      ·rw[decide_eq_false h2]
       refine au ?_
       walk_at "rd"
       refine⟨rfl,z+1,_,rfl,?_⟩
       rw[e',decide_eq_true (show lw<=z by omega),decide_eq_true (show z<hi by omega)]
       rfl
   ·rintro σ H' ⟨rfl,lw,w,rfl,e⟩
    walk_at "rd"
    rw[e,List.drop_length]at q
    exact q
  ·refine ck hn hf ?_
   walk_at "rd"
   refine av ?_
   walk_at "rd"
   rw[nF hno]at q
   exact q
def cC(H:Hp):V->V->V->V->Bool
 | .int b,.int s,o,a=>decide (0<=b) && decide (1<=s) && bu H 0 b o && bu H b (b+s) a
 | _,_,_,_=>false
theorem jW{H:Hp}{b s o a:V}(h:isInt b=false):cC H b s o a=false:=by
 cases b<;>first | rfl | cases h
theorem jm{H:Hp}{b s o a:V}(h:isInt s=false):cC H b s o a=false:=by
 cases s<;>first | (cases b<;>rfl) | cases h
def rH(K:PySem.W.Frag):Sp:=fun vs H Q _=>∃b s o a,vs=[b,s,o,a]/\Kn H 0 b/\Kn H 0 s/\Kn H 1 o/\Kn H 1 a/\Q (.bl (cC H b s o a)) H
abbrev jG:Stmt:=stq 9
theorem qz:FnScope ["base","step","once","again"] ["base","step","once","again"] (aJ jG):=⟨rfl,rfl,rfl,by decide +kernel,rfl,by decide +kernel,by decide +kernel⟩
theorem xo{P:Program}{w:World}{K:PySem.W.Frag}{mg:Str->Option Value}{base:Heap}(D:Dfn K mg "are_stair_places" jG ["base","step","once","again"])(T:Blt mg)(C_is_rising_row:Cal P w K mg base "is_rising_row" 2 ["thing","low","end"] (qx K))(C_is_whole:Cal P w K mg base "is_whole" 1 ["thing"] (fP K)):Cal P w K mg base "are_stair_places" 3 ["base","step","once","again"] (rH K):=by
 have nd:=(qz).nd
 refine D.ok qz (fun vs H Q E h=>?_) (fun X hX H vs Q E h=>?_)
 ·obtain⟨b,s,o,a,rfl,_⟩:=h;rfl
 ·obtain⟨f,cdv,A,outer,s,H0,E0,rfl,hr⟩:=hX
  obtain⟨b,s',o,a,rfl,⟨nb,hb⟩,⟨ns,hs⟩,ho,ha,q⟩:=h
  refine⟨_,(ao (aU (PW.pt (bV (bt (aZ (aw C_is_whole hr (aa (pv 0) ae)))) (bV (bt (aZ (aw C_is_whole hr (aa (pv 1) ae)))) (bV (aO eh (pv 0) af (aG _)) (cz (aO eh (pv 1) af (aG _))))))) (ar (aA aN)) aP)
    (ar (aA (bR (aw C_is_rising_row hr (aa (pv 2) (aa af (aa (pv 0) ae)))) (cv (aw C_is_rising_row hr (aa (pv 3) (aa (pv 0) (aa (ak aI (pv 0) (pv 1)) ae))))))))),?_⟩
  walk_at "rd"
  refine⟨b,nb,rfl,hb,?_⟩
  walk_at "rd"
  cases ib:isInt b with
  | false=>
   refine av (av ?_)
   walk_at "rd"
   rw[jW ib]at q
   exact q
  | true=>
   refine au ?_
   walk_at "rd"
   refine⟨s',ns,rfl,hs,?_⟩
   walk_at "rd"
   cases is':isInt s' with
   | false=>
    refine av (av ?_)
    walk_at "rd"
    rw[jm is']at q
    exact q
   | true=>
    obtain⟨zb,rfl⟩:=cX ib
    obtain⟨zs,rfl⟩:=cX is'
    refine au ?_
    walk_at "rd"
    have e:cC H (.int zb) (.int zs) o a=(decide (0<=zb) && decide (1<=zs) && bu H 0 zb o && bu H zb (zb+zs) a):=rfl
    by_cases h1:zb<0
    ·rw[decide_eq_true h1]
     refine av (av ?_)
     walk_at "rd"
     rw[e,decide_eq_false (show ¬0<=zb by omega)]at q
     exact q
    ·rw[decide_eq_false h1]
     refine au ?_
     walk_at "rd"
     by_cases h2:zs<1
     ·rw[decide_eq_true h2]
      refine av ?_
      walk_at "rd"
      rw[e,decide_eq_false (show ¬1<=zs by omega),Bool.and_false,Bool.false_and,Bool.false_and]at q
      exact q
     ·rw[decide_eq_false h2]
      refine au ?_
      walk_at "rd"
      refine⟨o,0,zb,rfl,ho,?_⟩
      walk_at "rd"
      rw[e,decide_eq_true (show 0<=zb by omega),decide_eq_true (show 1<=zs by omega)]at q
      cases ho':bu H 0 zb o with
      | false=>
       refine au ?_
       rw[ho']at q
       exact q
      | true=>
       refine av ?_
       walk_at "rd"
       refine⟨a,zb,zb+zs,rfl,ha,?_⟩
       rw[ho']at q
       exact q
def cy(H:Hp):V->Bool
 | .ref p=>match H p with
  | some (.tup [b,s,o,a])=>cC H b s o a
  | _=>false
 | _=>false
theorem dD{H:Hp}{p:Addr}{b s o a:V}(h:H p=some (.tup [b,s,o,a])):cy H (.ref p)=cC H b s o a:=by simp only[cy,h]
theorem iB{H:Hp}{p:Addr}{xs:List V}(h:H p=some (.tup xs))(hl:xs.length≠4):cy H (.ref p)=false:=by
 simp only[cy,h]
 match xs,hl with
 | [],_=>rfl
 | [_],_=>rfl
 | [_,_],_=>rfl
 | [_,_,_],_=>rfl
 | [_,_,_,_],hl=>exact absurd rfl hl
 | _::_::_::_::_::_,_=>rfl
theorem kS{H:Hp}{v:V}(h:∀p xs,v=.ref p->H p≠some (.tup xs)):cy H v=false:=by
 cases v with
 | ref p=>
  cases e:H p with
  | none=>simp only[cy,e]
  | some o=>
   cases o with
   | tup xs=>exact absurd e (h p xs rfl)
   | _=>simp only[cy,e]
 | _=>rfl
def nr(K:PySem.W.Frag):Sp:=fun vs H Q _=>∃v,vs=[v]/\Kn H 2 v/\Q (.bl (cy H v)) H
theorem mU{xs:List V}(h:xs.length=4):∃b s o a,xs=[b,s,o,a]:=by
 match xs,h with
 | [b,s,o,a],_=>exact⟨b,s,o,a,rfl⟩
theorem Kn.down{H:Hp}{v:V}(h:Kn H 1 v):Kn H 0 v:=h.1
abbrev ky:Stmt:=stq 10
theorem sr:FnScope ["thing"] ["thing"] (aJ ky):=⟨rfl,rfl,rfl,by decide +kernel,rfl,by decide +kernel,by decide +kernel⟩
theorem xq{P:Program}{w:World}{K:PySem.W.Frag}{mg:Str->Option Value}{base:Heap}(D:Dfn K mg "is_stair" ky ["thing"])(T:Blt mg)(C_are_stair_places:Cal P w K mg base "are_stair_places" 3 ["base","step","once","again"] (rH K)):Cal P w K mg base "is_stair" 4 ["thing"] (nr K):=by
 have nd:=(sr).nd
 refine D.ok sr (fun vs H Q E h=>?_) (fun X hX H vs Q E h=>?_)
 ·obtain⟨v,rfl,_⟩:=h;rfl
 ·obtain⟨f,cdv,A,outer,s,H0,E0,rfl,hr⟩:=hX
  obtain⟨v,rfl,hk,q⟩:=h
  obtain⟨n,hn⟩:=hk.1
  refine⟨_,(ao (aU (PW.pt (bV (bt (aZ (aV cS rfl T.isinstance_ PyProof.Rows.boot_isinstance (aa (pv 0) (aa (cP (v:=.ty "tuple") rfl T.tuple_ PyProof.Rows.boot_tuple rfl) ae))))) (cz (aO iN (aV (dj K) rfl T.len_ PySem.boot_len (aa (pv 0) ae)) af (aG _))))) (ar (aA aN)) aP)
    (ar (aA (aw C_are_stair_places hr (aa (aq (aC K) (pv 0) af (fun _ _=>rfl)) (aa (aq (aC K) (pv 0) af (fun _ _=>rfl)) (aa (aq (aC K) (pv 0) af (fun _ _=>rfl)) (aa (aq (aC K) (pv 0) af (fun _ _=>rfl)) ae)))))))),?_⟩
  walk_at "rd"
  rcases fU hn with⟨p,xs,rfl,hp,rfl⟩ | ⟨hf,hno⟩
  ·refine ck hn (b:=true) rfl ?_
   walk_at "rd"
   refine au ?_
   walk_at "rd"
   refine gm (aj.of hp) ?_
   walk_at "rd"
   by_cases hl:xs.length=4
   ·obtain⟨b,s',o,a,rfl⟩:=mU hl
    refine au ?_
    walk_at "rd"
    refine aB (aj.of hp) rfl ?_
    walk_at "rd"
    refine aB (aj.of hp) rfl ?_
    walk_at "rd"
    refine aB (aj.of hp) rfl ?_
    walk_at "rd"
    refine aB (aj.of hp) rfl ?_
    walk_at "rd"
    have hi:=hk.2 p _ rfl hp
    rw[dD hp]at q
    exact⟨b,s',o,a,rfl,(hi b (by simp)).down,(hi s' (by simp)).down,hi o (by simp),hi a (by simp),q⟩
   ·rw[decide_eq_false (show ¬((xs.length:Nat):Int)=4 by omega)]
    refine av ?_
    walk_at "rd"
    rw[iB hp hl]at q
    exact q
  ·refine ck hn hf ?_
   walk_at "rd"
   refine av (av ?_)
   walk_at "rd"
   rw[kS hno]at q
   exact q
def bG(H:Hp)(v:V)(b s:Int)(o a:List Int):Prop:=∃p q r,v=.ref p/\H p=some (.tup [.int b,.int s,.ref q,.ref r])/\H q=some (.tup (o.map V.int))/\H r=some (.tup (a.map V.int))
structure Gd(b s:Int)(o a:List Int):Prop where
 ok:Ok b s o a
 b3:b<=3000
 s8:s<=840
theorem bG.ext{H H':Hp}{v:V}{b s:Int}{o a:List Int}(e:Ext H H')(h:bG H v b s o a):bG H' v b s o a:=by
 obtain⟨p,q,r,rfl,h1,h2,h3⟩:=h
 exact⟨p,q,r,rfl,e _ _ h1,e _ _ h2,e _ _ h3⟩
theorem xC{lo hi x:Int}{r:List Int}:gZ lo hi (x::r)↔lo<=x/\x<hi/\gZ (x+1) hi r:=by
 constructor
 ·rintro⟨h1,h2⟩
  obtain⟨p1,p2⟩:=List.pairwise_cons.mp h1
  have hx:=h2 x List.mem_cons_self
  exact⟨hx.1,hx.2,p2,fun z hz=>⟨by have:=p1 z hz;omega,(h2 z (List.mem_cons_of_mem _ hz)).2⟩⟩
 ·rintro⟨h1,h2,h3,h4⟩
  refine⟨List.pairwise_cons.mpr ⟨fun z hz=>by have:=h4 z hz;omega,h3⟩,fun z hz=>?_⟩
  rcases List.mem_cons.mp hz with rfl | hz
  ·exact⟨h1,h2⟩
  ·have:=h4 z hz
   exact⟨by omega,this.2⟩
theorem nz{hi:Int}:∀{lo:Int} {xs:List Int},b6 lo hi (xs.map V.int)=true↔gZ lo hi xs
 | lo,[]=>⟨fun _=>⟨List.Pairwise.nil,fun x hx=>by simp at hx⟩,fun _=>rfl⟩
 | lo,x::r=>by
  rw[xC,←nz (lo:=x+1) (xs:=r)]
  show(decide (lo<=x) && decide (x<hi) && b6 (x+1) hi (r.map V.int))=true↔_
  simp[and_assoc]
theorem bG.yes{H:Hp}{v:V}{b s:Int}{o a:List Int}(h:bG H v b s o a)(k:Ok b s o a):cy H v=true:=by
 obtain⟨p,q,r,rfl,h1,h2,h3⟩:=h
 rw[dD h1]
 show(decide (0<=b) && decide (1<=s) && bu H 0 b (.ref q) && bu H b (b+s) (.ref r))=true
 rw[iA h2,iA h3,nz.mpr k.ho,nz.mpr k.ha,decide_eq_true k.hb,decide_eq_true k.hs]
 rfl
theorem qN{H:Hp}{q:Addr}{xs:List Int}(h:H q=some (.tup (xs.map V.int))):Kn H 1 (.ref q):=by
 refine⟨⟨"tuple",.inr ⟨rfl,_,h⟩⟩,fun p ys e z x hx=>?_⟩
 cases e
 rw[h]at z
 cases z
 obtain⟨i,_,rfl⟩:=List.mem_map.mp hx
 exact⟨"int",rfl⟩
theorem bG.kn{H:Hp}{v:V}{b s:Int}{o a:List Int}(h:bG H v b s o a):Kn H 2 v:=by
 obtain⟨p,q,r,rfl,h1,h2,h3⟩:=h
 refine⟨⟨"tuple",.inr ⟨rfl,_,h1⟩⟩,fun p' ys e z x hx=>?_⟩
 cases e
 rw[h1]at z
 cases z
 simp only[List.mem_cons,List.not_mem_nil,or_false]at hx
 rcases hx with rfl | rfl | rfl | rfl
 ·exact⟨⟨"int",rfl⟩,fun _ _ e=>nomatch e⟩
 ·exact⟨⟨"int",rfl⟩,fun _ _ e=>nomatch e⟩
 ·exact qN h2
 ·exact qN h3
def uA(K:PySem.W.Frag):Sp:=fun vs H Q _=>∃v,vs=[v]/\Kn H 2 v/\cy H v=true/\Q .non H
abbrev kL:Stmt:=stq 11
theorem n0:FnScope ["thing"] ["thing"] (aJ kL):=⟨rfl,rfl,rfl,by decide +kernel,rfl,by decide +kernel,by decide +kernel⟩
theorem vd{P:Program}{w:World}{K:PySem.W.Frag}{mg:Str->Option Value}{base:Heap}(D:Dfn K mg "refuse_no_stair" kL ["thing"])(T:Blt mg)(C_is_stair:Cal P w K mg base "is_stair" 4 ["thing"] (nr K)):Cal P w K mg base "refuse_no_stair" 5 ["thing"] (uA K):=by
 have nd:=(n0).nd
 refine D.ok n0 (fun vs H Q E h=>?_) (fun X hX H vs Q E h=>?_)
 ·obtain⟨v,rfl,_⟩:=h;rfl
 ·obtain⟨f,cdv,A,outer,s,H0,E0,rfl,hr⟩:=hX
  obtain⟨v,rfl,hk,hv,q⟩:=h
  refine⟨_,(ar (aU (bt (aZ (aw C_is_stair hr (aa (pv 0) ae)))) (ar lM) aP)),?_⟩
  walk_at "rd"
  refine⟨v,rfl,hk,?_⟩
  walk_at "rd"
  rw[hv]
  exact au q
def qP(K:PySem.W.Frag):Sp:=fun vs H Q _=>∃v b s o a,vs=[v]/\bG H v b s o a/\b<=3000/\s<=840/\Q .non H
abbrev jI:Stmt:=stq 12
theorem rl:FnScope ["stair"] ["stair"] (aJ jI):=⟨rfl,rfl,rfl,by decide +kernel,rfl,by decide +kernel,by decide +kernel⟩
theorem Ad{P:Program}{w:World}{K:PySem.W.Frag}{mg:Str->Option Value}{base:Heap}(D:Dfn K mg "refuse_great_stair" jI ["stair"])(T:Blt mg)(g_GREATEST_STEP:∃t,mg "GREATEST_STEP" = some (.int 840 t))(g_GREATEST_BASE:∃t,mg "GREATEST_BASE" = some (.int 3000 t)):Cal P w K mg base "refuse_great_stair" 1 ["stair"] (qP K):=by
 have nd:=(rl).nd
 refine D.ok rl (fun vs H Q E h=>?_) (fun X hX H vs Q E h=>?_)
 ·obtain⟨v,b,s,o,a,rfl,_⟩:=h;rfl
 ·obtain⟨f,cdv,A,outer,s,H0,E0,rfl,hr⟩:=hX
  obtain⟨t_GREATEST_STEP,c_GREATEST_STEP⟩:=g_GREATEST_STEP
  obtain⟨t_GREATEST_BASE,c_GREATEST_BASE⟩:=g_GREATEST_BASE
  obtain⟨v,b,s',o,a,rfl,⟨p,q',r,rfl,h1,h2,h3⟩,hb,hs,q⟩:=h
  refine⟨_,(ao (aU (aO eZ (aq (aC K) (pv 0) af (fun _ _=>rfl)) (fc (v:=.int 3000) rfl c_GREATEST_BASE ⟨_,rfl⟩) (aG _)) (ar lM) aP)
    (ar (aU (aO eZ (aq (aC K) (pv 0) af (fun _ _=>rfl)) (fc (v:=.int 840) rfl c_GREATEST_STEP ⟨_,rfl⟩) (aG _)) (ar lM) aP))),?_⟩
  walk_at "rd"
  refine aB (aj.of h1) rfl ?_
  walk_at "rd"
  rw[decide_eq_false (show ¬3000<b by omega)]
  refine au ?_
  walk_at "rd"
  refine aB (aj.of h1) rfl ?_
  walk_at "rd"
  rw[decide_eq_false (show ¬840<s' by omega)]
  exact au q
def tT(K:PySem.W.Frag):Sp:=fun vs H Q _=>∃v b s o a,vs=[v]/\bG H v b s o a/\Gd b s o a/\Q .non H
abbrev kK:Stmt:=stq 13
theorem uv:FnScope ["thing"] ["thing"] (aJ kK):=⟨rfl,rfl,rfl,by decide +kernel,rfl,by decide +kernel,by decide +kernel⟩
theorem Aj{P:Program}{w:World}{K:PySem.W.Frag}{mg:Str->Option Value}{base:Heap}(D:Dfn K mg "refuse_bad_stair" kK ["thing"])(T:Blt mg)(C_refuse_great_stair:Cal P w K mg base "refuse_great_stair" 1 ["stair"] (qP K))(C_refuse_no_stair:Cal P w K mg base "refuse_no_stair" 5 ["thing"] (uA K)):Cal P w K mg base "refuse_bad_stair" 6 ["thing"] (tT K):=by
 have nd:=(uv).nd
 refine D.ok uv (fun vs H Q E h=>?_) (fun X hX H vs Q E h=>?_)
 ·obtain⟨v,b,s,o,a,rfl,_⟩:=h;rfl
 ·obtain⟨f,cdv,A,outer,s,H0,E0,rfl,hr⟩:=hX
  obtain⟨v,b,s',o,a,rfl,hv,hg,q⟩:=h
  refine⟨_,(ao (bx (aw C_refuse_no_stair hr (aa (pv 0) ae)))
    (ar (bx (aw C_refuse_great_stair hr (aa (pv 0) ae))))),?_⟩
  walk_at "rd"
  refine⟨v,rfl,hv.kn,hv.yes hg.ok,?_⟩
  walk_at "rd"
  exact⟨v,b,s',o,a,rfl,hv,hg.b3,hg.s8,q⟩
theorem kx(x:Int)(xs:List Int):gN (.int x) (xs.map V.int)=xs.contains x:=by
 unfold gN
 rw[List.any_map,Bool.eq_iff_iff,List.any_eq_true,List.contains_iff_mem]
 constructor
 ·rintro⟨y,hy,e⟩
  have e':(y == x)=true:=e
  rw[←(by simpa using e':y=x)]
  exact hy
 ·intro hx
  exact⟨x,hx,by show(x == x)=true;simp⟩
theorem jn(xs:List Int):(xs.map V.int).all dy=true:=by
 rw[List.all_map,List.all_eq_true]
 intro x _
 rfl
def nR(K:PySem.W.Frag):Sp:=fun vs H Q _=>∃v x b s o a,vs=[v,.int x]/\bG H v b s o a/\Gd b s o a/\Q (.bl (mem b s o a x)) H
abbrev jE:Stmt:=stq 15
theorem oK:FnScope ["stair","x","base"] ["stair","x"] (aJ jE):=⟨rfl,rfl,rfl,by decide +kernel,rfl,by decide +kernel,by decide +kernel⟩
theorem xB{P:Program}{w:World}{K:PySem.W.Frag}{mg:Str->Option Value}{base:Heap}(D:Dfn K mg "holds" jE ["stair","x"])(T:Blt mg)(C_refuse_bad_stair:Cal P w K mg base "refuse_bad_stair" 6 ["thing"] (tT K)):Cal P w K mg base "holds" 7 ["stair","x"] (nR K):=by
 have nd:=(oK).nd
 refine D.ok oK (fun vs H Q E h=>?_) (fun X hX H vs Q E h=>?_)
 ·obtain⟨v,x,b,s,o,a,rfl,_⟩:=h;rfl
 ·obtain⟨f,cdv,A,outer,s,H0,E0,rfl,hr⟩:=hX
  obtain⟨v,x,b,s',o,a,rfl,hv,hg,q⟩:=h
  have hs:=hg.ok.hs
  refine⟨_,(ao (bx (aw C_refuse_bad_stair hr (aa (pv 0) ae)))
    (ao (aH (i:=2) nd rfl (Or.inl rfl) (aq (aC K) (pv 0) af (fun _ _=>rfl)))
    (ao (aU (aO eh (pv 1) (pv 2) (aG _)) (ar (aA (cD (kD K) (pv 1) (aq (aC K) (pv 0) af (fun _ _=>rfl)) (by with_unfolding_all rfl)))) aP)
    (ar (aA (cD (kD K) (ak aI (pv 2) (ak bO (ak cj (pv 1) (pv 2)) (aq (aC K) (pv 0) af (fun _ _=>rfl)))) (aq (aC K) (pv 0) af (fun _ _=>rfl)) (by with_unfolding_all rfl))))))),?_⟩
  walk_at "rd"
  refine⟨v,b,s',o,a,rfl,hv,hg,?_⟩
  obtain⟨p,q',r,rfl,h1,h2,h3⟩:=hv
  walk_at "rd"
  refine aB (aj.of h1) rfl ?_
  walk_at "rd"
  by_cases hx:x<b
  ·rw[decide_eq_true hx]
   refine av ?_
   walk_at "rd"
   refine aB (aj.of h1) rfl ?_
   walk_at "rd"
   refine jF (.inr (aj.of h2)) rfl (jn o) ?_
   rw[fY _ hx]at q
   rw[kx]
   exact q
  ·rw[decide_eq_false hx]
   refine au ?_
   walk_at "rd"
   refine aB (aj.of h1) rfl ?_
   walk_at "rd"
   refine aB (aj.of h1) rfl ?_
   walk_at "rd"
   refine jF (.inr (aj.of h3)) rfl (jn a) ?_
   rw[fL _ (by omega)]at q
   rw[kx]
   exact q
def sO:List V->List Key
 | [.int a,.str b,.int c,.str d]=>[.inl a,.inr b,.inl c,.inr d]
 | _=>[]
def cJ(H:Hp):V->List Key
 | .ref p=>match H p with
  | some (.tup xs)=>sO xs
  | _=>[]
 | _=>[]
theorem pV{H:Hp}{p:Addr}{xs:List V}(h:H p=some (.tup xs)):cJ H (.ref p)=sO xs:=by
 unfold cJ
 dsimp only
 rw[h]
theorem Am{H:Hp}{m:Int}{v:V}(h:bL H m v=true):∃p a b c d,v=.ref p/\H p=some (.tup [.int a,.str b,.int c,.str d])/\(0<=a/\a<m)/\(0<=c/\c<m)/\gh (.str b)=true/\h7 (.str d)=true:=by
 cases ht:isTup H v with
 | false=>rw[p0 ht]at h;cases h
 | true=>
  obtain⟨p,xs,rfl,hp⟩:=jv ht
  rw[mS hp]at h
  by_cases h4:xs.length=4
  ·obtain⟨a,b,c,d,rfl⟩:=four h4
   unfold ft at h
   simp only[Bool.and_eq_true]at h
   obtain⟨h1,h2,h3,h5⟩:=h
   cases a with
   | int i=>
    cases c with
    | int j=>
     cases b with
     | str y=>
      cases d with
      | str z=>
       unfold bM at h1 h2
       simp only[Bool.and_eq_true,decide_eq_true_eq]at h1 h2
       exact⟨p,i,y,j,z,rfl,hp,h1,h2,h3,h5⟩
      | _=>cases h5
     | _=>cases h3
    | _=>cases h2
   | _=>cases h1
  ·rw[uF h4]at h
   cases h
theorem rZ{H:Hp}{m:Int}:∀{xs:List V},xs.all (bL H m)=true->∃bs:List Addr,xs=bs.map V.ref/\iH H bs (xs.map (cJ H))
 | [],_=>⟨[],rfl,rfl,fun j b k e=>by simp at e⟩
 | x::xs,h=>by
  rw[List.all_cons,Bool.and_eq_true]at h
  obtain⟨bs,e,h1,h2⟩:=rZ h.2
  obtain⟨p,a,b,c,d,rfl,hp,_⟩:=Am h.1
  refine⟨p::bs,by rw[List.map_cons,←e],by rw[List.length_cons,List.map_cons,List.length_cons,h1],fun j b' k e1 e2=>?_⟩
  cases j with
  | zero=>
   cases e1
   rw[List.map_cons,pV hp]at e2
   cases e2
   exact hp
  | succ j=>exact h2 j b' k e1 e2
theorem lK{H H':Hp}{m:Int}{n:Nat}{v:V}(e:Ext H H')(h:bh H n v):bL H' m v=bL H m v:=by
 cases v with
 | ref p=>
  cases n with
  | zero=>exact h.elim
  | succ n=>
   obtain⟨xs,h1,_⟩:=h
   unfold bL
   dsimp only
   rcases h1 with h1 | h1<;>rw[h1,e _ _ h1]
 | _=>rfl
theorem xy{H H':Hp}{n:Nat}{v:V}(e:Ext H H')(h:bh H n v):cJ H' v=cJ H v:=by
 cases v with
 | ref p=>
  cases n with
  | zero=>exact h.elim
  | succ n=>
   obtain⟨xs,h1,_⟩:=h
   unfold cJ
   dsimp only
   rcases h1 with h1 | h1<;>rw[h1,e _ _ h1]
 | _=>rfl
def iq(H:Hp)(m:Int)(xs:List V):Bool:=decide (xs.length<=100) && (xs.all (bL H m) && decide (xs.map (cJ H)).Nodup)
def dm(H:Hp)(m:Int):V->Bool
 | .ref p=>match H p with
  | some (.tup xs)=>iq H m xs
  | _=>false
 | _=>false
theorem rT{H:Hp}{m:Int}{v:V}(h:isTup H v=false):dm H m v=false:=by
 cases v with
 | ref p=>
  unfold isTup at h
  unfold dm
  dsimp only at h ⊢
  split
  ·rename_i xs e
   rw[e]at h
   cases h
  ·rfl
 | _=>rfl
theorem oX{H:Hp}{m:Int}{p:Addr}{xs:List V}(h:H p=some (.tup xs)):dm H m (.ref p)=iq H m xs:=by
 unfold dm
 dsimp only
 rw[h]
open Classical in
theorem kq{α:Type}:∀{D l:List α},D.Nodup->(∀k∈D,k∈l)->D.length<=l.length
 | [],l,_,_=>Nat.zero_le _
 | d::D,l,hn,hs=>by
  have hn':=List.nodup_cons.mp hn
  have hm:=hs d List.mem_cons_self
  have:=kq (D:=D) (l:=l.erase d) hn'.2 fun k hk=>(List.mem_erase_of_ne (by rintro rfl;exact hn'.1 hk)).mpr (hs k (List.mem_cons_of_mem _ hk))
  rw[List.length_erase_of_mem hm]at this
  have h0:0<l.length:=List.length_pos_of_mem hm
  rw[List.length_cons]
  omega
theorem nodup_iff{α:Type}{D l:List α}(hn:D.Nodup)(hm:∀k,k∈D↔k∈l):D.length=l.length↔l.Nodup:=by
 constructor
 ·intro e
  exact(sY hn (fun k hk=>(hm k).mp hk) e.symm).nodup_iff.mpr hn
 ·intro hl
  have h1:=kq hn fun k hk=>(hm k).mp hk
  have h2:=kq hl fun k hk=>(hm k).mpr hk
  omega
def ud(K:PySem.W.Frag):Sp:=fun vs H Q _=>∃v m,vs=[v,.int m]/\bh H 3 v/\∀H',Ext H H'->Q (.bl (dm H m v)) H'
abbrev jS:Stmt:=stq 26
theorem rF:FnScope ["thing","many"] ["thing","many"] (aJ jS):=⟨rfl,rfl,rfl,by decide +kernel,rfl,by decide +kernel,by decide +kernel⟩
theorem xS{P:Program}{w:World}{K:PySem.W.Frag}{mg:Str->Option Value}{base:Heap}(D:Dfn K mg "are_ways" jS ["thing","many"])(T:Blt mg)(g_GREATEST_WAYS:∃t,mg "GREATEST_WAYS" = some (.int 100 t))(C_is_way:Cal P w K mg base "is_way" 3 ["thing","many"] (sP K)):Cal P w K mg base "are_ways" 4 ["thing","many"] (ud K):=by
 have nd:=(rF).nd
 refine D.ok rF (fun vs H Q E h=>?_) (fun X hX H vs Q E h=>?_)
 ·obtain⟨p,m,rfl,_⟩:=h;rfl
 ·obtain⟨f,cdv,A,outer,s,H0,E0,rfl,hr⟩:=hX
  obtain⟨t_GREATEST_WAYS,c_GREATEST_WAYS⟩:=g_GREATEST_WAYS
  obtain⟨v,m,rfl,ht,q⟩:=h
  obtain⟨n,hk⟩:=ht.kind
  refine⟨_,(ao (aU (PW.pt (bV (bt (aZ (aV cS rfl T.isinstance_ PyProof.Rows.boot_isinstance (aa (pv 0) (aa (cP (v:=.ty "tuple") rfl T.tuple_ PyProof.Rows.boot_tuple rfl) ae))))) (cz (aO eZ (aV (dj K) rfl T.len_ PySem.boot_len (aa (pv 0) ae)) (fc (v:=.int 100) rfl c_GREATEST_WAYS ⟨_,rfl⟩) (aG _))))) (ar (aA aN)) aP)
    (ar (aA (bR (aV (mO K rfl) rfl T.all_ PyProof.Rows.boot_all (aa (cU ["way"] [1] (dG K (pv 0)) (fun _=>(aF (i:=0) (show(["way","many"]:List Str).Nodup from by decide +kernel) rfl (Or.inl rfl) (Or.inr rfl))) (fun _=>fg) (fun _=>(aw C_is_way hr (aa (pv 0) (aa (pv 1) ae))))) ae)) (cv (cD bQ (aV xw rfl T.len_ PySem.boot_len (aa (cT (yb hr) rfl T.set_ PyProof.Rows.boot_set (aa (pv 0) ae)) ae)) (aV (dj K) rfl T.len_ PySem.boot_len (aa (pv 0) ae)) (aG _))))))),?_⟩
  walk_at "rd"
  refine ck hk (mD hk) ?_
  walk_at "rd"
  cases hv:isTup H v with
  | false=>
   refine av ?_
   walk_at "rd"
   rw[rT hv]at q
   exact q H fun _ _ z=>z
  | true=>
   refine au ?_
   obtain⟨p,xs,rfl,hp⟩:=jv hv
   obtain⟨hx1,hx2⟩:=ht.items hp
   rw[oX hp]at q
   unfold iq at q
   walk_at "rd"
   refine gm (aj.of hp) ?_
   walk_at "rd"
   by_cases h4:xs.length<=100
   ·rw[decide_eq_false (show ¬((100:Int)<((xs.length:Nat):Int)) by omega)]
    rw[decide_eq_true h4,Bool.true_and]at q
    refine au ?_
    walk_at "rd"
    refine dQ (aj.of hp) ?_
    refine iU (xs:=xs) (fun i ys H'=>Ext H H'/\ys=((xs.take i).map (bL H m)).map V.bl) (eS hx1) ⟨fun _ _ z=>z,rfl⟩ (fun i ys H' hi h=>⟨aj.of (h.1 _ _ hp),by rw[h.2,List.length_map,List.length_map,List.length_take];omega⟩) ?_ ?_
    ·rintro i x ys H' hx ⟨e,rfl⟩
     have hxt:=hx2 x (List.mem_of_getElem? hx)
     walk_at "rd"
     refine av ?_
     walk_at "rd"
     refine⟨x,m,rfl,hxt.ext e,e,?_⟩
     rw[lK e hxt,List.take_add_one,hx]
     simp
    ·rintro ys H' pl ⟨e,rfl⟩ hpl
     rw[List.take_length]
     walk_at "rd"
     have eN:Ext H (upd H' pl (.lst ((xs.map (bL H m)).map V.bl))):=e.trans (cb hpl)
     refine⟨pl,xs.map (bL H m),rfl,ag.of aY,?_⟩
     have ea:(xs.map (bL H m)).all id=xs.all (bL H m):=by
      rw[List.all_map]
      rfl
     rw[ea]
     walk_at "rd"
     cases hall:xs.all (bL H m)with
     | false=>
      refine au ?_
      rw[hall,Bool.false_and]at q
      exact q _ eN
     | true=>
      refine av ?_
      rw[hall,Bool.true_and]at q
      obtain⟨bs,ebs,hka⟩:=rZ hall
      generalize upd H' pl (.lst ((xs.map (bL H m)).map V.bl))=H2 at eN ⊢
      walk_at "rd"
      refine⟨p,bs,xs.map (cJ H),rfl,.inl (by rw[←ebs];exact eN _ _ hp),hka.ext eN,by rw[List.length_map];omega,fun l L hl hnd hmem hL=>?_⟩
      have hll:L.length<=xs.length:=by
       have:=kq hnd fun k hk=>(hmem k).mp hk
       rwa [List.length_map,List.length_map]at this
      walk_at "rd"
      refine⟨l,L,rfl,aY,by omega,?_⟩
      walk_at "rd"
      have eL:Ext H (upd H2 l (iR P w l L)):=eN.trans (cb hl)
      refine gm (aj.of (eL _ _ hp)) ?_
      walk_at "rd"
      have hiff:=nodup_iff hnd hmem
      rw[List.length_map,List.length_map]at hiff
      have eb:decide ((((L.length:Nat):Int))=((xs.length:Nat):Int))=decide ((xs.map (cJ H)).Nodup):=by
       by_cases hq:(xs.map (cJ H)).Nodup
       ·rw[decide_eq_true (show((L.length:Nat):Int)=((xs.length:Nat):Int) by have:=hiff.mpr hq;omega)]
        exact(decide_eq_true hq).symm
       ·rw[decide_eq_false (show ¬((L.length:Nat):Int)=((xs.length:Nat):Int)from fun z=>hq (hiff.mp (by omega)))]
        exact(decide_eq_false hq).symm
      rw[eb]
      exact q _ eL
   ·rw[decide_eq_true (show((100:Int)<((xs.length:Nat):Int)) by omega)]
    rw[decide_eq_false h4,Bool.false_and]at q
    refine av ?_
    walk_at "rd"
    exact q H fun _ _ z=>z
def dO(H:Hp):List V->Bool
 | [.int m,q]=>decide (1<=m) && (decide (m<=12) && dm H m q)
 | _=>false
def cY(H:Hp):V->Bool
 | .ref p=>match H p with
  | some (.tup xs)=>dO H xs
  | _=>false
 | _=>false
theorem qD{H:Hp}{v:V}(h:isTup H v=false):cY H v=false:=by
 cases v with
 | ref p=>
  unfold isTup at h
  unfold cY
  dsimp only at h ⊢
  split
  ·rename_i xs e
   rw[e]at h
   cases h
  ·rfl
 | _=>rfl
theorem fX{H:Hp}{p:Addr}{xs:List V}(h:H p=some (.tup xs)):cY H (.ref p)=dO H xs:=by
 unfold cY
 dsimp only
 rw[h]
theorem uq{H:Hp}{xs:List V}(h:xs.length≠2):dO H xs=false:=by
 unfold dO
 split
 ·exact absurd rfl h
 ·rfl
theorem zM{H:Hp}{a b:V}(h:isInt a=false):dO H [a,b]=false:=by
 cases a<;>first | rfl | cases h
theorem mr{xs:List V}(h:xs.length=2):∃a b,xs=[a,b]:=by
 match xs,h with
 | [a,b],_=>exact⟨a,b,rfl⟩
def tu(K:PySem.W.Frag):Sp:=fun vs H Q _=>∃v,vs=[v]/\bh H 4 v/\∀H',Ext H H'->Q (.bl (cY H v)) H'
abbrev kf:Stmt:=stq 27
theorem uK:FnScope ["thing"] ["thing"] (aJ kf):=⟨rfl,rfl,rfl,by decide +kernel,rfl,by decide +kernel,by decide +kernel⟩
theorem A5{P:Program}{w:World}{K:PySem.W.Frag}{mg:Str->Option Value}{base:Heap}(D:Dfn K mg "is_house" kf ["thing"])(T:Blt mg)(g_GREATEST_MANY:∃t,mg "GREATEST_MANY" = some (.int 12 t))(C_are_ways:Cal P w K mg base "are_ways" 4 ["thing","many"] (ud K))(C_is_whole:Cal P w K mg base "is_whole" 1 ["thing"] (fP K)):Cal P w K mg base "is_house" 5 ["thing"] (tu K):=by
 have nd:=(uK).nd
 refine D.ok uK (fun vs H Q E h=>?_) (fun X hX H vs Q E h=>?_)
 ·obtain⟨p,rfl,_⟩:=h;rfl
 ·obtain⟨f,cdv,A,outer,s,H0,E0,rfl,hr⟩:=hX
  obtain⟨t_GREATEST_MANY,c_GREATEST_MANY⟩:=g_GREATEST_MANY
  obtain⟨v,rfl,ht,q⟩:=h
  obtain⟨n,hk⟩:=ht.kind
  refine⟨_,(ao (aU (PW.pt (bV (bt (aZ (aV cS rfl T.isinstance_ PyProof.Rows.boot_isinstance (aa (pv 0) (aa (cP (v:=.ty "tuple") rfl T.tuple_ PyProof.Rows.boot_tuple rfl) ae))))) (cz (aO iN (aV (dj K) rfl T.len_ PySem.boot_len (aa (pv 0) ae)) af (aG _))))) (ar (aA aN)) aP)
    (ar (aA (bR (aw C_is_whole hr (aa (aq (aC K) (pv 0) af (fun _ _=>rfl)) ae)) (bR (kr fH fH af (aq (aC K) (pv 0) af (fun _ _=>rfl)) (fc (v:=.int 12) rfl c_GREATEST_MANY ⟨_,rfl⟩)) (cv (aw C_are_ways hr (aa (aq (aC K) (pv 0) af (fun _ _=>rfl)) (aa (aq (aC K) (pv 0) af (fun _ _=>rfl)) ae))))))))),?_⟩
  walk_at "rd"
  refine ck hk (mD hk) ?_
  walk_at "rd"
  cases hv:isTup H v with
  | false=>
   refine av ?_
   walk_at "rd"
   rw[qD hv]at q
   exact q H fun _ _ z=>z
  | true=>
   refine au ?_
   obtain⟨p,xs,rfl,hp⟩:=jv hv
   obtain⟨hx1,hx2⟩:=ht.items hp
   rw[fX hp]at q
   walk_at "rd"
   refine gm (aj.of hp) ?_
   walk_at "rd"
   by_cases h4:xs.length=2
   ·obtain⟨a,b,rfl⟩:=mr h4
    have ta:=hx2 a (by simp)
    have tb:=hx2 b (by simp)
    obtain⟨ka,hka⟩:=ta.kind
    refine au ?_
    walk_at "rd"
    refine aB (aj.of hp) (v:=a) rfl ?_
    walk_at "rd"
    refine⟨a,ka,rfl,hka,?_⟩
    refine rd_exb ?_
    cases ha:isInt a with
    | false=>
     refine au ?_
     rw[zM ha]at q
     exact q H fun _ _ z=>z
    | true=>
     obtain⟨m,rfl⟩:=cX ha
     refine av ?_
     unfold dO at q
     dsimp only at q
     walk_at "rd"
     refine aB (aj.of hp) (v:=.int m) rfl ?_
     walk_at "rd"
     cases h1:decide (1<=m)with
     | false=>
      refine au ?_
      walk_at "rd"
      refine au ?_
      rw[h1]at q
      exact q H fun _ _ z=>z
     | true=>
      refine av ?_
      walk_at "rd"
      rw[h1,Bool.true_and]at q
      cases h2:decide (m<=12)with
      | false=>
       refine au ?_
       rw[h2]at q
       exact q H fun _ _ z=>z
      | true=>
       refine av ?_
       walk_at "rd"
       refine aB (aj.of hp) (v:=b) rfl ?_
       walk_at "rd"
       refine aB (aj.of hp) (v:=.int m) rfl ?_
       walk_at "rd"
       rw[h2,Bool.true_and]at q
       exact⟨b,m,rfl,tb,q⟩
   ·rw[uq h4]at q
    rw[decide_eq_false (show ¬((xs.length:Nat):Int)=2 by omega)]
    refine av ?_
    walk_at "rd"
    exact q H fun _ _ z=>z
def cH(H:Hp)(p:Addr)(kk:List (List Key)):Prop:=∃bs:List Addr,H p=some (.tup (bs.map V.ref))/\bs.length=kk.length/\∀(j:Nat) (b:Addr) (k:List Key),bs[j]?=some b->kk[j]?=some k->H b=some (.tup (k.map kV))
theorem cH.ext{H H':Hp}{p:Addr}{kk:List (List Key)}(e:Ext H H')(h:cH H p kk):cH H' p kk:=by
 obtain⟨bs,h1,h2,h3⟩:=h
 exact⟨bs,e _ _ h1,h2,fun j b k e1 e2=>e _ _ (h3 j b k e1 e2)⟩
structure Way where
 room:Int
 deed:Str
 other:Int
 sign:Str
 deriving DecidableEq
abbrev Way.key(w:Way):List Key:=[.inl w.room,.inr w.deed,.inl w.other,.inr w.sign]
abbrev Way.vs(w:Way):List V:=[.int w.room,.str w.deed,.int w.other,.str w.sign]
theorem Way.key_inj{w u:Way}(h:w.key=u.key):w=u:=by
 cases w;cases u
 simp only[Way.key,List.cons.injEq,Sum.inl.injEq,Sum.inr.injEq]at h
 obtain⟨rfl,rfl,rfl,rfl,_⟩:=h
 rfl
def uL(z:Str):Prop:=∃c:Nat,97<=c/\c<=122/\z=⟨#[c]⟩
def cw(z:Str):Prop:=z = "up"\/z = "down"\/z = "stay"\/z = "zero"
structure Way.Ok(m:Int)(w:Way):Prop where
 r0:0<=w.room
 r1:w.room<m
 o0:0<=w.other
 o1:w.other<m
 dd:cw w.deed
 sg:uL w.sign
structure HOuse(m:Int)(ws:List Way):Prop where
 m1:1<=m
 m12:m<=12
 few:ws.length<=100
 ok:∀w∈ws,w.Ok m
 nd:ws.Nodup
def bj(H:Hp)(v:V)(m:Int)(ws:List Way):Prop:=∃p q,v=.ref p/\H p=some (.tup [.int m,.ref q])/\cH H q (ws.map Way.key)
theorem bj.ext{H H':Hp}{v:V}{m:Int}{ws:List Way}(e:Ext H H')(h:bj H v m ws):bj H' v m ws:=by
 obtain⟨p,q,rfl,h1,h2⟩:=h
 exact⟨p,q,rfl,e _ _ h1,h2.ext e⟩
theorem cH.item{H:Hp}{ws:List Way}{bs:List Addr}(h:∀(j:Nat) (b:Addr) (k:List Key),bs[j]?=some b->(ws.map Way.key)[j]?=some k->H b=some (.tup (k.map kV))){j:Nat}{b:Addr}{w:Way}(e1:bs[j]?=some b)(e2:ws[j]?=some w):H b=some (.tup w.vs):=
 h j b w.key e1 (by rw[List.getElem?_map,e2];rfl)
def aX(H:Hp)(bs:List Addr)(ws:List Way):Prop:=bs.length=ws.length/\∀(j:Nat) (b:Addr) (w:Way),bs[j]?=some b->ws[j]?=some w->H b=some (.tup w.vs)
theorem aX.ext{H H':Hp}{bs:List Addr}{ws:List Way}(e:Ext H H')(h:aX H bs ws):aX H' bs ws:=⟨h.1,fun j b w e1 e2=>e _ _ (h.2 j b w e1 e2)⟩
theorem aX.put{H:Hp}{f:Addr}{xs ys:List V}{bs:List Addr}{ws:List Way}(hf:H f=some (.lst xs))(h:aX H bs ws):aX (upd H f (.lst ys)) bs ws:=⟨h.1,fun j b w e1 e2=>by
 have:=h.2 j b w e1 e2
 rw[aT (fj this hf (by intro z;cases z))]
 exact this⟩
theorem aX.nil(H:Hp):aX H [] []:=⟨rfl,fun j b w e=>by simp at e⟩
theorem aX.snoc{H:Hp}{bs:List Addr}{ws:List Way}{b:Addr}{w:Way}(h:aX H bs ws)(hb:H b=some (.tup w.vs)):aX H (bs++[b]) (ws++[w]):=by
 refine⟨by simp[h.1],fun j b' w' e1 e2=>?_⟩
 rcases Nat.lt_or_ge j bs.length with hj | hj
 ·rw[List.getElem?_append_left hj]at e1
  rw[List.getElem?_append_left (by rw[←h.1];exact hj)]at e2
  exact h.2 j b' w' e1 e2
 ·rw[List.getElem?_append_right hj]at e1
  rw[List.getElem?_append_right (by rw[←h.1];exact hj),←h.1]at e2
  cases hk:j-bs.length with
  | zero=>
   rw[hk]at e1 e2
   cases e1;cases e2
   exact hb
  | succ k=>rw[hk]at e1;simp at e1
theorem aX.ways{H:Hp}{p:Addr}{bs:List Addr}{ws:List Way}(h:aX H bs ws)(hp:H p=some (.tup (bs.map V.ref))):cH H p (ws.map Way.key):=
 ⟨bs,hp,by rw[List.length_map];exact h.1,fun j b k e1 e2=>by
  rw[List.getElem?_map]at e2
  obtain⟨w,hw,rfl⟩:=Option.map_eq_some_iff.mp e2
  exact h.2 j b w e1 hw⟩
theorem cH.al{H:Hp}{p:Addr}{ws:List Way}(h:cH H p (ws.map Way.key)):∃bs:List Addr,H p=some (.tup (bs.map V.ref))/\aX H bs ws:=by
 obtain⟨bs,h1,h2,h3⟩:=h
 rw[List.length_map]at h2
 exact⟨bs,h1,h2,fun j b w e1 e2=>cH.item h3 e1 e2⟩
abbrev Way.D(w:Way):PyData:=.tuple [.int w.room,.str w.deed,.int w.other,.str w.sign]
structure Way.Lay(w:Way):Prop where
 d:(PyData.str w.deed).canLay0=true
 s:(PyData.str w.sign).canLay0=true
theorem AN:∀c:Fin 123,97<=c.1->(PyData.str ⟨#[c.1]⟩).canLay0=true:=by decide +kernel
theorem Way.Ok.lay{m:Int}{w:Way}(h:w.Ok m):w.Lay:=by
 constructor
 ·rcases h.dd with e | e | e | e<;>rw[e]<;>decide +kernel
 ·obtain⟨c,h1,h2,e⟩:=h.sg
  rw[e]
  exact AN ⟨c,Nat.lt_succ_of_le h2⟩ h1
theorem Way.rep{H:Hp}{b:Addr}{w:Way}(h:H b=some (.tup w.vs))(l:w.Lay):bo H 1 (.ref b) w.D:=
 .inr ⟨b,w.vs,_,rfl,.inl ⟨h,rfl⟩,.cons rfl (.cons ⟨rfl,l.d⟩ (.cons rfl (.cons ⟨rfl,l.s⟩ .nil)))⟩
theorem Way.eqv(w u:Way):PyData.eqv w.D u.D=decide (w=u):=by
 simp only[PyData.eqv,PyData.eqvAll]
 by_cases h:w=u
 ·subst h;simp
 ·rw[decide_eq_false h]
  obtain⟨a,b,c,d⟩:=w
  obtain⟨a',b',c',d'⟩:=u
  simp only[Way.mk.injEq,not_and]at h
  simp only[Bool.and_true,Bool.and_eq_false_iff,beq_eq_false_iff_ne]
  by_cases h1:a=a'
  ·by_cases h2:b=b'
   ·by_cases h3:c=c'
    ·exact .inr (.inr (.inr (h h1 h2 h3)))
    ·exact .inr (.inr (.inl h3))
   ·exact .inr (.inl h2)
  ·exact .inl h1
theorem aX.reps{H:Hp}:∀{bs:List Addr} {ws:List Way},aX H bs ws->(∀w∈ws,w.Lay)->Paired (bo H 1) (bs.map V.ref) (ws.map Way.D)
 | [],[],_,_=>.nil
 | [],_::_,h,_=>by cases h.1
 | _::_,[],h,_=>by cases h.1
 | b::bs,w::ws,h,l=>.cons (Way.rep (h.2 0 b w rfl rfl) (l w List.mem_cons_self)) (aX.reps ⟨Nat.succ.inj h.1,fun j b w e1 e2=>h.2 (j+1) b w e1 e2⟩ fun u hu=>l u (List.mem_cons_of_mem _ hu))
theorem yn(ws:List Way)(w:Way):((ws.map Way.D).any fun e=>PyData.eqv e w.D)=decide (w∈ws):=by
 rw[List.any_map]
 induction ws with
 | nil=>rfl
 | cons u ws ih=>
  rw[List.any_cons,ih,Function.comp_apply,Way.eqv]
  by_cases h:w∈ws
  ·simp[h]
  ·by_cases e:u=w
   ·simp[e]
   ·have:¬w=u:=fun z=>e z.symm
    simp[h,e,this]
def nT(K:PySem.W.Frag):Sp:=fun vs H Q _=>∃l bs ws,vs=[.ref l]/\H l=some (.lst (bs.map V.ref))/\aX H bs ws/\(∀w∈ws,Way.Lay w)/\ws.length<=200 ∧
 ∀q H' us,Ext H H'->cH H' q (List.map Way.key us)->us.Nodup->(∀u∈us,u∈ws)->us.length<=ws.length->Q (.ref q) H'
abbrev kl:Stmt:=stq 45
theorem qS:FnScope ["_law_ways","_law_found","_law_way"] ["_law_ways"] (aJ kl):=⟨rfl,rfl,rfl,by decide +kernel,rfl,by decide +kernel,by decide +kernel⟩
theorem A3{P:Program}{w:World}{K:PySem.W.Frag}{mg:Str->Option Value}{base:Heap}(D:Dfn K mg "_law_unlike" kl ["_law_ways"])(T:Blt mg):Cal P w K mg base "_law_unlike" 1 ["_law_ways"] (nT K):=by
 have nd:=(qS).nd
 refine D.ok qS (fun vs H Q E h=>?_) (fun X hX H vs Q E h=>?_)
 ·obtain⟨l,bs,ws,rfl,_⟩:=h;rfl
 ·obtain⟨f,cdv,A,outer,s,H0,E0,rfl,hr⟩:=hX
  obtain⟨l,bs,ws,rfl,hl,al,lay,hlen,q⟩:=h
  refine⟨_,(ao (aH (i:=1) nd rfl (Or.inl rfl) (aR ae))
    (ao (bw PassesOwn.never rfl (cZ K (pv 0)) (aF (i:=2) nd rfl (Or.inl rfl)) (ar (cB (aO (ya hr) (pv 2) (pv 1) (by with_unfolding_all rfl)) (ar (bx (bK K PySem.F.plainAttrs_list PySem.F.slot_list_append PySem.F.type_list_append bJ (pv 1) (aa (pv 2) ae)))) aP)))
    (ar (aA (cT (eE K) rfl T.tuple_ PyProof.Rows.boot_tuple (aa (pv 1) ae)))))),?_⟩
  walk_at "rd"
  refine⟨ai (by simp),ah fun f H1 e1 hf hfn=>?_⟩
  walk_at "rd"
  refine cR (ag.of (e1 _ _ hl)) ?_
  refine forL (xs:=bs.map V.ref) (fun i σ H2=>Ext H H2/\∃(k:Option V) (cs:List Addr) (us:List Way),σ=[some (.ref l),some (.ref f),k]/\H2 f=some (.lst (cs.map V.ref))/\aX H2 cs us/\us.Nodup/\(∀u∈us,u∈ws)/\us.length<=i)
   ⟨e1,none,[],[],rfl,hf,aX.nil _,List.nodup_nil,fun u hu=>by simp at hu,Nat.le_refl _⟩ (fun i σ H2 _ h=>ag.of (h.1 _ _ hl)) ?_ ?_
  ·rintro i x σ H2 hx ⟨e2,k,cs,us,rfl,hf2,al2,nd2,sub2,len2⟩
   rw[List.getElem?_map]at hx
   obtain⟨b,hb,rfl⟩:=Option.map_eq_some_iff.mp hx
   have hi:i<ws.length:=by
    rw[←al.1]
    exact(List.getElem?_eq_some_iff.mp hb).1
   have hwi:ws[i]?=some ws[i]:=List.getElem?_eq_getElem hi
   have hbw:=e2 _ _ (al.2 i b _ hb hwi)
   walk_at "rd"
   refine iz ?_
   walk_at "rd"
   refine xb (Way.rep hbw (lay _ (List.getElem_mem hi))) hf2 (al2.reps fun u hu=>lay u (sub2 u hu)) (by decide) ?_
   simp only[if_true,yn]
   refine rd_exb ?_
   by_cases hm:ws[i]∈us
   ·rw[decide_eq_true hm]
    refine au ?_
    walk_at "rd"
    exact⟨e2,_,cs,us,rfl,hf2,al2,nd2,sub2,by omega⟩
   ·rw[decide_eq_false hm]
    refine av ?_
    walk_at "rd"
    refine⟨cF (ag.of hf2),?_⟩
    walk_at "rd"
    refine bF hf2 (by rw[List.length_map,al2.1];exact Nat.lt_of_le_of_lt (show us.length<=1000 by omega) (by decide)) ?_
    walk_at "rd"
    refine⟨cL e2 hfn,_,cs++[b],us++[ws[i]],rfl,by rw[aY,List.map_append];rfl,(al2.put hf2).snoc ?_,?_,?_,by simp;omega⟩
    ·rw[aT (fj hbw hf2 (by intro z;cases z))]
     exact hbw
    ·rw[List.nodup_append]
     exact⟨nd2,by simp,fun a ha c hc=>by rw[List.mem_singleton.mp hc];exact fun z=>hm (z ▸ ha)⟩
    ·intro u hu
     rcases List.mem_append.mp hu with hu | hu
     ·exact sub2 u hu
     ·rw[List.mem_singleton.mp hu];exact List.getElem_mem hi
  ·rintro σ H2 ⟨e2,k,cs,us,rfl,hf2,al2,nd2,sub2,len2⟩
   walk_at "rd"
   refine dW (ag.of hf2) (ah fun p H3 e3 hp _=>?_)
   exact q p H3 us (e2.trans e3) ((al2.ext e3).ways hp) nd2 sub2 (by rw[List.length_map,al.1]at len2;exact len2)
def kP(z:Str):Prop:=∃c:Nat,97<=c/\c<=99/\z=⟨#[c]⟩
structure Way.Ok3(m:Int)(w:Way):Prop where
 r0:0<=w.room
 r1:w.room<m
 o0:0<=w.other
 o1:w.other<m
 dd:cw w.deed
 sg:kP w.sign
structure HOuse3(m:Int)(ws:List Way):Prop where
 m1:1<=m
 m12:m<=12
 few:ws.length<=100
 ok:∀w∈ws,w.Ok3 m
 nd:ws.Nodup
theorem Way.Ok3.ok{m:Int}{w:Way}(h:w.Ok3 m):w.Ok m:=by
 obtain⟨c,h1,h2,h3⟩:=h.sg
 exact⟨h.r0,h.r1,h.o0,h.o1,h.dd,c,h1,by omega,h3⟩
theorem Way.Ok3.lay{m:Int}{w:Way}(h:w.Ok3 m):w.Lay:=h.ok.lay
theorem HOuse3.house{m:Int}{ws:List Way}(h:HOuse3 m ws):HOuse m ws:=⟨h.m1,h.m12,h.few,fun w hw=>(h.ok w hw).ok,h.nd⟩
theorem xN{ds:List Int}{i:Nat}(h:i+4<=ds.length):∃a b c d,cf (ds.map V.int) (some (i:Int)) (some ((i+4:Nat):Int))=[.int a,.int b,.int c,.int d]/\ds[i]?=some a/\ds[i+1]?=some b/\ds[i+2]?=some c/\ds[i+3]?=some d:=by
 refine⟨ds[i],ds[i+1],ds[i+2],ds[i+3],?_,List.getElem?_eq_getElem _,List.getElem?_eq_getElem _,List.getElem?_eq_getElem _,List.getElem?_eq_getElem _⟩
 unfold cf
 rw[HT.mh,HT.mh,List.length_map,Nat.min_eq_left (by omega),Nat.min_eq_left (by omega),show i+4-i=4 by omega,←List.map_drop,←List.map_take]
 rw[List.drop_eq_getElem_cons (show i<ds.length by omega),List.drop_eq_getElem_cons (show i+1<ds.length by omega),List.drop_eq_getElem_cons (show i+1+1<ds.length by omega),List.drop_eq_getElem_cons (show i+1+1+1<ds.length by omega)]
 rfl
def dJ:List Int:=[8,12,13,31]++(List.replicate 30 ([12,6,12,3]:List Int)).flatten
theorem Aq{k:Nat}(h:k<30):dJ[4+4*k]?=some 12/\dJ[4+4*k+1]?=some 6/\dJ[4+4*k+2]?=some 12/\dJ[4+4*k+3]?=some 3:=by
 have:∀k:Fin 30,dJ[4+4*k.val]?=some 12/\dJ[4+4*k.val+1]?=some 6/\dJ[4+4*k.val+2]?=some 12/\dJ[4+4*k.val+3]?=some 3:=by decide +kernel
 exact this ⟨k,h⟩
def sq(K:PySem.W.Frag):Sp:=fun vs H Q _=>∃c p,vs=[.int c,.int p]/\0<p/\∀v m ws H',Ext H H'->bj H' v m ws->HOuse3 m ws->Q v H'
theorem wq{e:Int}(h0:0<=e)(h1:e<6):∃z,bN ([.str "up",.str "down",.str "stay",.str "zero",.str "up",.str "down"]:List V) e=some (.str z)/\cw z:=by
 have:e=0\/e=1\/e=2\/e=3\/e=4\/e=5:=by omega
 rcases this with rfl | rfl | rfl | rfl | rfl | rfl
 ·exact⟨_,rfl,.inl rfl⟩
 ·exact⟨_,rfl,.inr (.inl rfl)⟩
 ·exact⟨_,rfl,.inr (.inr (.inl rfl))⟩
 ·exact⟨_,rfl,.inr (.inr (.inr rfl))⟩
 ·exact⟨_,rfl,.inl rfl⟩
 ·exact⟨_,rfl,.inr (.inl rfl)⟩
theorem AE:(Str.ofString "abc").cps.toList=[97,98,99]:=by decide +kernel
theorem zr{e:Int}(h0:0<=e)(h1:e<3):∃c,bN (Str.ofString "abc").cps.toList e=some c/\97<=c/\c<=99:=by
 rw[AE]
 have:e=0\/e=1\/e=2:=by omega
 rcases this with rfl | rfl | rfl
 ·exact⟨97,rfl,by decide,by decide⟩
 ·exact⟨98,rfl,by decide,by decide⟩
 ·exact⟨99,rfl,by decide,by decide⟩
theorem xj{e:Int}(h0:0<=e)(h1:e<8):∃w:Int,bN (([4,4,4,5,3,2,5,12]:List Int).map V.int) e=some (.int w)/\1<=w/\w<=12:=by
 have:e=0\/e=1\/e=2\/e=3\/e=4\/e=5\/e=6\/e=7:=by omega
 rcases this with rfl | rfl | rfl | rfl | rfl | rfl | rfl | rfl<;>exact⟨_,rfl,by decide,by decide⟩
theorem bj.mk{H:Hp}{p q:Addr}{m:Int}{ws:List Way}(h1:H p=some (.tup [.int m,.ref q]))(h2:cH H q (ws.map Way.key)):bj H (.ref p) m ws:=⟨p,q,rfl,h1,h2⟩
abbrev jr:Stmt:=stq 46
theorem pL:FnScope ["_law_cell_here","_law_prime","_law_draws_here","_law_many","_law_often_here","_law_ways","_law_k","_law_room","_law_deed","_law_other","_law_sign","_law_word"] ["_law_cell_here","_law_prime"] (aJ jr):=⟨rfl,rfl,rfl,by decide +kernel,rfl,by decide +kernel,by decide +kernel⟩
theorem vA{P:Program}{w:World}{K:PySem.W.Frag}{mg:Str->Option Value}{base:Heap}(D:Dfn K mg "_law_drawn_house" jr ["_law_cell_here","_law_prime"])(T:Blt mg)(C__law_unlike:Cal P w K mg base "_law_unlike" 1 ["_law_ways"] (nT K))(C__law_draws:Cal P w K mg base "_law_draws" 2 ["_law_cell_here","_law_widths","_law_prime"] (fo K)):Cal P w K mg base "_law_drawn_house" 3 ["_law_cell_here","_law_prime"] (sq K):=by
 have nd:=(pL).nd
 refine D.ok pL (fun vs H Q E h=>?_) (fun X hX H vs Q E h=>?_)
 ·obtain⟨c,p,rfl,_⟩:=h;rfl
 ·obtain⟨f,cdv,A,outer,s,H0,E0,rfl,hr⟩:=hX
  obtain⟨c,p,rfl,hp,q⟩:=h
  refine⟨_,(@ao _ _ _ _ _ (@aH _ _ 2 _ _ _ _ nd rfl (Or.inl rfl) (aw C__law_draws hr (@aa _ _ _ _ _ (pv 0) (@aa _ _ _ _ _ (ak cI (@aR _ _ _ _ (fR (.c (.c (.c (.c .n)))))) (ak kR (@aR _ _ _ _ (fR (.c (.c (.c (.c .n)))))) af)) (@aa _ _ _ _ _ (pv 1) ae rfl) rfl) rfl)) rfl (Or.inl rfl))
    (@ao _ _ _ _ _ (@aH _ _ 3 _ _ _ _ nd rfl (Or.inl rfl) (ak aI af (ak bO (@aq _ _ _ _ _ _ _ (aL K) (pv 2) af (fun _ _=>rfl)) (@aq _ _ _ _ _ _ _ (aL K) (@aR _ _ _ _ (fR (.c (.c (.c (.c (.c (.c (.c (.c .n)))))))))) (@aq _ _ _ _ _ _ _ (aL K) (pv 2) af (fun _ _=>rfl)) (fun _ _=>rfl)))) rfl (Or.inl rfl))
    (@ao _ _ _ _ _ (@aH _ _ 4 _ _ _ _ nd rfl (Or.inl rfl) (@aq _ _ _ _ _ _ _ (aL K) (pv 2) af (fun _ _=>rfl)) rfl (Or.inl rfl))
    (@ao _ _ _ _ _ (cB (aO bQ (@aq _ _ _ _ _ _ _ (aL K) (pv 2) af (fun _ _=>rfl)) af (aG _)) (@ar _ _ _ (@aH _ _ 4 _ _ _ _ nd rfl (Or.inl rfl) (@aq _ _ _ _ _ _ _ (aL K) (pv 2) af (fun _ _=>rfl)) rfl (Or.inl rfl))) aP)
    (@ao _ _ _ _ _ (@aH _ _ 5 _ _ _ _ nd rfl (Or.inl rfl) (@aR _ _ _ _ ae) rfl (Or.inl rfl))
    (@ao _ _ _ _ _ (bw PassesOwn.never rfl (cQ rfl T.range_ (@aa _ _ _ _ _ (pv 4) ae rfl)) (aF (i:=6) nd rfl (Or.inl rfl)) (@ao _ _ _ _ _ (@dX _ _ _ _ _ _ (gH (gy K) (pv 2) (eW (ak aI af (ak cM af (pv 6)))) (eW (ak aI af (ak cM af (pv 6))))) (wj (n:=4) K rfl (br (aF (i:=7) nd rfl (Or.inl rfl)) (br (aF (i:=8) nd rfl (Or.inl rfl)) (br (aF (i:=9) nd rfl (Or.inl rfl)) (br (aF (i:=10) nd rfl (Or.inl rfl)) eM))))) rfl rfl rfl)
    (@ao _ _ _ _ _ (@aH _ _ 11 _ _ _ _ nd rfl (Or.inl rfl) (@aq _ _ _ _ _ _ _ (aL K) (@aR _ _ _ _ (@aa _ _ _ _ _ aQ (@aa _ _ _ _ _ aQ (@aa _ _ _ _ _ aQ (@aa _ _ _ _ _ aQ (@aa _ _ _ _ _ aQ (@aa _ _ _ _ _ aQ ae rfl) rfl) rfl) rfl) rfl) rfl)) (pv 8) (fun _ _=>rfl)) rfl (Or.inl rfl))
    (@ar _ _ _ (bx (bK K PySem.F.plainAttrs_list PySem.F.slot_list_append PySem.F.type_list_append bJ (pv 5) (@aa _ _ _ _ _ (@aD _ _ _ _ _ (@aa _ _ _ _ _ (ak bO (pv 7) (pv 3)) (@aa _ _ _ _ _ (pv 11) (@aa _ _ _ _ _ (ak bO (pv 9) (pv 3)) (@aa _ _ _ _ _ (@aq _ _ _ _ _ _ _ oP aQ (pv 10) (fun _ _=>rfl)) ae rfl) rfl) rfl) rfl)) ae rfl)))))))
    (@ar _ _ _ (@aA _ _ _ _ (@aD _ _ _ _ _ (@aa _ _ _ _ _ (pv 3) (@aa _ _ _ _ _ (aw C__law_unlike hr (@aa _ _ _ _ _ (pv 5) ae rfl)) ae rfl) rfl)))))))))),?_⟩
  walk_at "rd"
  refine⟨ai (by simp),ah fun w0 G1 f1 hw0 _=>?_⟩
  walk_at "rd"
  refine⟨ai (by simp),ah fun w1 G2 f2 hw1 _=>?_⟩
  walk_at "rd"
  refine la hw1 (by omega) (ai (by decide)) (ah fun w2 G3 f3 hw2 _=>?_)
  walk_at "rd"
  refine cK (f3 _ _ (f2 _ _ hw0)) hw2 (ai (by decide)) (ah fun w3 G4 f4 hw3 _=>?_)
  walk_at "rd"
  refine ik dJ hw3 (by decide +kernel) (by decide +kernel) (hp) fun dq ds H1 e1 hd hdn hl hb=>?_
  have eH:Ext H H1:=f1.trans (f2.trans (f3.trans (f4.trans e1)))
  have hl':ds.length=124:=hl
  have at_:∀(i:Nat) (x:Int),dJ[i]?=some x->∃d,ds[i]?=some d/\0<=d/\d<x:=fun i x hx=>by
   have hi:i<ds.length:=by
    rw[hl]
    exact(List.getElem?_eq_some_iff.mp hx).1
   exact⟨ds[i],List.getElem?_eq_getElem hi,hb i _ x (List.getElem?_eq_getElem hi) hx⟩
  obtain⟨d0,g0,b00,b01⟩:=at_ 0 8 rfl
  obtain⟨d1,g1,b10,b11⟩:=at_ 1 12 rfl
  obtain⟨d2,g2,b20,b21⟩:=at_ 2 13 rfl
  obtain⟨d3,g3,b30,b31⟩:=at_ 3 31 rfl
  have pick:∀{i:Nat} {d:Int},ds[i]?=some d->bN (ds.map V.int) (i:Int)=some (.int d):=fun{i d} h=>dR (by rw[List.getElem?_map,h];rfl)
  walk_at "rd"
  refine aK (ag.of hd) (pick (i:=1) g1) ?_
  walk_at "rd"
  refine⟨ai (by simp),ah fun mq H2 e2 hmq _=>?_⟩
  walk_at "rd"
  refine aK (ag.of (e2 _ _ hd)) (pick (i:=0) g0) ?_
  obtain⟨w,hw,hw1',hw2'⟩:=xj b00 b01
  refine aK (ag.of hmq) hw ?_
  try refine rd_I (show(0:Int)<w by omega) ?_
  walk_at "rd"
  have r0:0<=d1 % w:=Int.emod_nonneg _ (by omega)
  have r1:d1 % w<w:=Int.emod_lt_of_pos _ (by omega)
  obtain⟨m,hm,m1,m2⟩:∃m,1+d1 % w=m/\1<=m/\m<=12:=⟨_,rfl,by omega,by omega⟩
  rw[hm]
  refine aK (ag.of (e2 _ _ hd)) (pick (i:=2) g2) ?_
  walk_at "rd"
  have eH2:Ext H H2:=eH.trans e2
  have hd2:=e2 _ _ hd
  refine ed (fun σ' H'=>H'=H2/\∃o:Nat,o<=30/\σ'=[some (.int c),some (.int p),some (.ref dq),some (.int m),some (.int o),none,none,none,none,none,none,none]) ?_ ?_
  ·walk_at "rd"
   refine aK (ag.of hd2) (pick (i:=0) g0) ?_
   walk_at "rd"
   refine et (fun h=>?_) (fun h=>?_)
   ·walk_at "rd"
    refine aK (ag.of hd2) (pick (i:=3) g3) ?_
    walk_at "rd"
    exact⟨rfl,d3.toNat,by omega,by rw[Int.toNat_of_nonneg b30];rfl⟩
   ·walk_at "rd"
    exact⟨rfl,d2.toNat,by omega,by rw[Int.toNat_of_nonneg b20];rfl⟩
  rintro σ' H' ⟨rfl,o,ho,rfl⟩
  clear hw hw1' hw2' r0 r1 b00 b01 b10 b11 b20 b21 b30 b31
  walk_at "rd"
  refine⟨ai (by simp),ah fun f H3 e3 hf hfn=>?_⟩
  walk_at "rd"
  refine dg (by omega) ?_
  refine forR (fun i σ H4=>Ext H' H4/\∃(k1 k2 k3 k4 k5 k6:Option V) (cs:List Addr) (us:List Way),σ=[some (.int c),some (.int p),some (.ref dq),some (.int m),some (.int o),some (.ref f),k1,k2,k3,k4,k5,k6]/\H4 f=some (.lst (cs.map V.ref))/\aX H4 cs us/\(∀u∈us,u.Ok3 m)/\us.length=i)
   ⟨e3,none,none,none,none,none,none,[],[],rfl,hf,aX.nil _,fun u hu=>by simp at hu,rfl⟩ ?_ ?_
  ·rintro i σ H4 hi ⟨e4,k1,k2,k3,k4,k5,k6,cs,us,rfl,hf4,al,ok,len⟩
   rw[Int.toNat_natCast]at hi
   have hi30:i<30:=by omega
   obtain⟨a,b,c',d,hcut,ga,gb,gc,gd⟩:=xN (ds:=ds) (i:=4+4*i) (by omega)
   obtain⟨y0,y1,y2,y3⟩:=Aq hi30
   have ba:=hb _ _ _ ga y0
   have bb:=hb _ _ _ gb y1
   have bc:=hb _ _ _ gc y2
   have bd:=hb _ _ _ gd y3
   have hd4:=e4 _ _ hd2
   walk_at "rd"
   refine gn (ag.of hd4) (ah fun t H5 e5 ht htn=>?_)
   rw[show (4:Int)+4*(0+(i:Int))=((4+4*i:Nat):Int) by omega,show (8:Int)+4*(0+(i:Int))=((4+4*i+4:Nat):Int) by omega,hcut]at ht
   walk_at "rd"
   refine vJ (ag.of ht) rfl ?_
   walk_at "rd"
   refine⟨ai (by simp),ah fun u1 H6 e6 hu1 _=>?_⟩
   walk_at "rd"
   obtain⟨z,hz,okz⟩:=wq bb.1 bb.2
   refine aK (ag.of hu1) hz ?_
   walk_at "rd"
   have hf6:=e6 _ _ (e5 _ _ hf4)
   refine⟨cF (ag.of hf6),?_⟩
   walk_at "rd"
   try refine rd_I (show(0:Int)<m by omega) ?_
   walk_at "rd"
   try refine rd_I (show(0:Int)<m by omega) ?_
   walk_at "rd"
   obtain⟨s,hs,s1,s2⟩:=zr bd.1 bd.2
   refine⟨_,_,s,rfl,rfl,eS (by decide +kernel),hs,?_⟩
   walk_at "rd"
   refine⟨ai (by simp),ah fun v H7 e7 hv _=>?_⟩
   have hf7:=e7 _ _ hf6
   walk_at "rd"
   refine bF hf7 (by rw[List.length_map,al.1,len];exact Nat.lt_of_le_of_lt (show i<=1000 by omega) (by decide)) ?_
   walk_at "rd"
   have al7:aX H7 cs us:=((al.ext e5).ext e6).ext e7
   have hv7:H7 v=some (.tup (Way.vs ⟨a % m,z,c' % m,⟨#[s]⟩⟩)):=hv
   refine⟨cL (e4.trans (e5.trans (e6.trans e7))) hfn,_,_,_,_,_,_,cs++[v],us++[⟨a % m,z,c' % m,⟨#[s]⟩⟩],rfl,by rw[aY,List.map_append];rfl,(al7.put hf7).snoc ?_,?_,by simp[len]⟩
   ·rw[aT (fj hv7 hf7 (by intro z;cases z))]
    exact hv7
   ·intro u hu
    rcases List.mem_append.mp hu with hu | hu
    ·exact ok u hu
    ·rw[List.mem_singleton.mp hu]
     exact⟨Int.emod_nonneg _ (by omega),Int.emod_lt_of_pos _ (by omega),Int.emod_nonneg _ (by omega),Int.emod_lt_of_pos _ (by omega),okz,s,s1,s2,rfl⟩
  ·rintro σ H4 ⟨e4,k1,k2,k3,k4,k5,k6,cs,us,rfl,hf4,al,ok,len⟩
   rw[Int.toNat_natCast]at len
   walk_at "rd"
   refine⟨f,cs,us,rfl,hf4,al,fun u hu=>(ok u hu).lay,by omega,fun r H5 ws e5 hws nd sub ln=>?_⟩
   walk_at "rd"
   refine⟨ai (by simp),ah fun t H6 e6 ht _=>?_⟩
   exact q _ m ws H6 (eH2.trans (e4.trans (e5.trans e6))) (bj.mk ht (hws.ext e6)) ⟨m1,m2,by omega,fun u hu=>ok u (sub u hu),nd⟩
structure WL(H0 H:Hp)(f:Addr)(us:List Way):Prop where
 ext:Ext H0 H
 at_:∃cs:List Addr,H f=some (.lst (cs.map V.ref))/\aX H cs us
theorem WL.nil{H0 H:Hp}{f:Addr}(e:Ext H0 H)(hf:H f=some (.lst [])):WL H0 H f []:=⟨e,[],hf,aX.nil _⟩
theorem WL.push{H0 H H1:Hp}{f v:Addr}{us:List Way}{w:Way}(h:WL H0 H f us)(hfn:H0 f=none)(e:Ext H H1)(hv:H1 v=some (.tup w.vs)):
  ∃xs,H1 f=some (.lst xs)/\xs.length=us.length/\WL H0 (upd H1 f (.lst (xs++[.ref v]))) f (us++[w]):=by
 obtain⟨e0,cs,hf,al⟩:=h
 have hf1:=e _ _ hf
 refine⟨cs.map V.ref,hf1,by rw[List.length_map];exact al.1,cL (e0.trans e) hfn,cs++[v],by rw[aY,List.map_append];rfl,((al.ext e).put hf1).snoc ?_⟩
 rw[aT (fj hv hf1 (by intro z;cases z))]
 exact hv
theorem WL.ty{K:PySem.W.Frag}{H0 H H1:Hp}{f:Addr}{us:List Way}(h:WL H0 H f us)(e:Ext H H1):fA K "list" (.ref f) H1:=by
 obtain⟨_,cs,hf,al⟩:=h
 exact cF (ag.of (e _ _ hf))
theorem kO:kP "a":=⟨97,by decide,by decide,by decide +kernel⟩
theorem ig:kP "b":=⟨98,by decide,by decide,by decide +kernel⟩
theorem ll:kP "c":=⟨99,by decide,by decide,by decide +kernel⟩
theorem kN:cw "up":=.inl rfl
theorem ly:cw "down":=.inr (.inl rfl)
theorem gr:cw "stay":=.inr (.inr (.inl rfl))
theorem lO:cw "zero":=.inr (.inr (.inr rfl))
theorem dz{n:Nat}(h:n<=1000):n<sizeLine:=Nat.lt_of_le_of_lt h (by decide)
theorem kM{a b:V}{e:Int}(h0:0<=e)(h1:e<2):∃v,bN [a,b] e=some v/\(v=a\/v=b):=by
 have:e=0\/e=1:=by omega
 rcases this with rfl | rfl
 ·exact⟨a,rfl,.inl rfl⟩
 ·exact⟨b,rfl,.inr rfl⟩
theorem dC{m:Int}{us:List Way}{w:Way}(h:∀u∈us,u.Ok3 m)(hw:w.Ok3 m):∀u∈us++[w],u.Ok3 m:=fun u hu=>by
 rcases List.mem_append.mp hu with hu | hu
 ·exact h u hu
 ·rw[List.mem_singleton.mp hu];exact hw
theorem vL:(Str.ofString "ab").cps.toList=[97,98]:=by decide +kernel
theorem zx{e:Int}(h0:0<=e)(h1:e<2):∃c,bN (Str.ofString "ab").cps.toList e=some c/\97<=c/\c<=99:=by
 rw[vL]
 have:e=0\/e=1:=by omega
 rcases this with rfl | rfl
 ·exact⟨97,rfl,by decide,by decide⟩
 ·exact⟨98,rfl,by decide,by decide⟩
theorem bP{ws ds:List Int}(hl:ds.length=ws.length)(hb:∀(i:Nat) (d x:Int),ds[i]?=some d->ws[i]?=some x->0<=d/\d<x)(i:Nat){x:Int}(hx:ws[i]?=some x):∃d,bN (ds.map V.int) (i:Int)=some (.int d)/\0<=d/\d<x:=by
 have hi:i<ds.length:=by
  rw[hl]
  exact(List.getElem?_eq_some_iff.mp hx).1
 have g:ds[i]?=some ds[i]:=List.getElem?_eq_getElem hi
 exact⟨ds[i],dR (by rw[List.getElem?_map,g];rfl),hb i _ x g hx⟩
def og(K:PySem.W.Frag):Sp:=fun vs H Q _=>∃c p,vs=[.int c,.int p]/\0<p/\∀v m ws H',Ext H H'->bj H' v m ws->HOuse3 m ws->Q v H'
abbrev jx:Stmt:=stq 48
theorem uC:FnScope ["_law_cell_here","_law_prime","_law_draws_here","_law_up","_law_down","_law_many","_law_ways","_law_k"] ["_law_cell_here","_law_prime"] (aJ jx):=⟨rfl,rfl,rfl,by decide +kernel,rfl,by decide +kernel,by decide +kernel⟩
theorem xR{P:Program}{w:World}{K:PySem.W.Frag}{mg:Str->Option Value}{base:Heap}(D:Dfn K mg "_law_gate_house" jx ["_law_cell_here","_law_prime"])(T:Blt mg)(C__law_unlike:Cal P w K mg base "_law_unlike" 1 ["_law_ways"] (nT K))(C__law_draws:Cal P w K mg base "_law_draws" 2 ["_law_cell_here","_law_widths","_law_prime"] (fo K)):Cal P w K mg base "_law_gate_house" 3 ["_law_cell_here","_law_prime"] (og K):=by
 have nd:=(uC).nd
 refine D.ok uC (fun vs H Q E h=>?_) (fun X hX H vs Q E h=>?_)
 ·obtain⟨c,p,rfl,_⟩:=h;rfl
 ·obtain⟨f,cdv,A,outer,s,H0,E0,rfl,hr⟩:=hX
  obtain⟨c,p,rfl,hp,q⟩:=h
  refine⟨_,(@ao _ _ _ _ _ (@aH _ _ 2 _ _ _ _ nd rfl (Or.inl rfl) (aw C__law_draws hr (@aa _ _ _ _ _ (pv 0) (@aa _ _ _ _ _ (@aR _ _ _ _ (fR (.c (.c (.c (.c (.c (.c (.c .n))))))))) (@aa _ _ _ _ _ (pv 1) ae rfl) rfl) rfl)) rfl (Or.inl rfl))
    (@ao _ _ _ _ _ (uD (i:=3) (j:=4) rfl nd rfl rfl (by decide) rfl rfl (@aa _ _ _ _ _ (ak aI af (@aq _ _ _ _ _ _ _ (aL K) (pv 2) af (fun _ _=>rfl))) (@aa _ _ _ _ _ (ak aI af (@aq _ _ _ _ _ _ _ (aL K) (pv 2) af (fun _ _=>rfl))) ae rfl) rfl) rfl)
    (@ao _ _ _ _ _ (@aH _ _ 5 _ _ _ _ nd rfl (Or.inl rfl) (ak aI (ak aI (pv 3) (pv 4)) af) rfl (Or.inl rfl))
    (@ao _ _ _ _ _ (@aH _ _ 6 _ _ _ _ nd rfl (Or.inl rfl) (@aR _ _ _ _ ae) rfl (Or.inl rfl))
    (@ao _ _ _ _ _ (bw PassesOwn.never rfl (cQ rfl T.range_ (@aa _ _ _ _ _ (pv 3) ae rfl)) (aF (i:=7) nd rfl (Or.inl rfl)) (@ar _ _ _ (bx (bK K PySem.F.plainAttrs_list PySem.F.slot_list_append PySem.F.type_list_append bJ (pv 6) (@aa _ _ _ _ _ (@aD _ _ _ _ _ (@aa _ _ _ _ _ (pv 7) (@aa _ _ _ _ _ aQ (@aa _ _ _ _ _ (ak bO (ak aI (pv 7) af) (pv 3)) (@aa _ _ _ _ _ (@aq _ _ _ _ _ _ _ oP aQ (@aq _ _ _ _ _ _ _ (aL K) (pv 2) af (fun _ _=>rfl)) (fun _ _=>rfl)) ae rfl) rfl) rfl) rfl)) ae rfl)))))
    (@ao _ _ _ _ _ (bx (bK K PySem.F.plainAttrs_list PySem.F.slot_list_append PySem.F.type_list_append bJ (pv 6) (@aa _ _ _ _ _ (@aD _ _ _ _ _ (@aa _ _ _ _ _ (ak bO (@aq _ _ _ _ _ _ _ (aL K) (pv 2) af (fun _ _=>rfl)) (pv 3)) (@aa _ _ _ _ _ aQ (@aa _ _ _ _ _ (pv 3) (@aa _ _ _ _ _ aQ ae rfl) rfl) rfl) rfl)) ae rfl)))
    (@ao _ _ _ _ _ (bw PassesOwn.never rfl (cQ rfl T.range_ (@aa _ _ _ _ _ (pv 4) ae rfl)) (aF (i:=7) nd rfl (Or.inl rfl)) (@ar _ _ _ (bx (bK K PySem.F.plainAttrs_list PySem.F.slot_list_append PySem.F.type_list_append bJ (pv 6) (@aa _ _ _ _ _ (@aD _ _ _ _ _ (@aa _ _ _ _ _ (ak aI (pv 3) (pv 7)) (@aa _ _ _ _ _ aQ (@aa _ _ _ _ _ (ak aI (pv 3) (ak bO (ak aI (pv 7) af) (pv 4))) (@aa _ _ _ _ _ aQ ae rfl) rfl) rfl) rfl)) ae rfl)))))
    (@ao _ _ _ _ _ (bx (bK K PySem.F.plainAttrs_list PySem.F.slot_list_append PySem.F.type_list_append bJ (pv 6) (@aa _ _ _ _ _ (@aD _ _ _ _ _ (@aa _ _ _ _ _ (ak aI (pv 3) (ak bO (@aq _ _ _ _ _ _ _ (aL K) (pv 2) af (fun _ _=>rfl)) (pv 4))) (@aa _ _ _ _ _ aQ (@aa _ _ _ _ _ (ak cj (pv 5) af) (@aa _ _ _ _ _ aQ ae rfl) rfl) rfl) rfl)) ae rfl)))
    (@ao _ _ _ _ _ (bx (bK K PySem.F.plainAttrs_list PySem.F.slot_list_append PySem.F.type_list_append bJ (pv 6) (@aa _ _ _ _ _ (@aD _ _ _ _ _ (@aa _ _ _ _ _ (ak cj (pv 5) af) (@aa _ _ _ _ _ (@aq _ _ _ _ _ _ _ (aL K) (@aR _ _ _ _ (@aa _ _ _ _ _ aQ (@aa _ _ _ _ _ aQ ae rfl) rfl)) (@aq _ _ _ _ _ _ _ (aL K) (pv 2) af (fun _ _=>rfl)) (fun _ _=>rfl)) (@aa _ _ _ _ _ (@aq _ _ _ _ _ _ _ (aL K) (@aR _ _ _ _ (@aa _ _ _ _ _ af (@aa _ _ _ _ _ (ak cj (pv 5) af) ae rfl) rfl)) (@aq _ _ _ _ _ _ _ (aL K) (pv 2) af (fun _ _=>rfl)) (fun _ _=>rfl)) (@aa _ _ _ _ _ aQ ae rfl) rfl) rfl) rfl)) ae rfl)))
    (@ar _ _ _ (@aA _ _ _ _ (@aD _ _ _ _ _ (@aa _ _ _ _ _ (pv 5) (@aa _ _ _ _ _ (aw C__law_unlike hr (@aa _ _ _ _ _ (pv 6) ae rfl)) ae rfl) rfl))))))))))))),?_⟩
  walk_at "rd"
  refine⟨ai (by simp),ah fun w0 G1 f1 hw0 _=>?_⟩
  walk_at "rd"
  refine ik [6,5,6,5,2,2,2] hw0 (by decide) (by decide) (hp) fun dq ds H1 e1 hd hdn hl hb=>?_
  have eH:Ext H H1:=f1.trans e1
  obtain⟨d0,g0,b00,b01⟩:=bP hl hb 0 rfl
  obtain⟨d1,g1,b10,b11⟩:=bP hl hb 1 rfl
  obtain⟨d2,g2,b20,b21⟩:=bP hl hb 2 rfl
  obtain⟨d3,g3,b30,b31⟩:=bP hl hb 3 rfl
  obtain⟨d4,g4,b40,b41⟩:=bP hl hb 4 rfl
  obtain⟨d5,g5,b50,b51⟩:=bP hl hb 5 rfl
  obtain⟨d6,g6,b60,b61⟩:=bP hl hb 6 rfl
  clear hb hl
  walk_at "rd"
  refine aK (ag.of hd) g0 ?_
  walk_at "rd"
  refine aK (ag.of hd) g1 ?_
  walk_at "rd"
  obtain⟨U,hU⟩:∃U:Nat,1+d0=(U:Int):=⟨(1+d0).toNat,by omega⟩
  obtain⟨D,hD⟩:∃D:Nat,1+d1=(D:Int):=⟨(1+d1).toNat,by omega⟩
  rw[hU,hD]
  have u1:1<=U:=by omega
  have u6:U<=6:=by omega
  have v1:1<=D:=by omega
  have v5:D<=5:=by omega
  clear b00 b01 b10 b11 hU hD
  obtain⟨m,hm⟩:∃m:Int,(U:Int)+(D:Int)+1=m:=⟨_,rfl⟩
  rw[hm]
  refine⟨ai (by simp),ah fun f H2 e2 hf hfn=>?_⟩
  walk_at "rd"
  refine dg (by omega) ?_
  have hfn0:H1 f=none:=hfn
  refine forR (fun i σ H3=>∃(k:Option V) (us:List Way),σ=[some (.int c),some (.int p),some (.ref dq),some (.int U),some (.int D),some (.int m),some (.ref f),k]/\WL H1 H3 f us/\(∀u∈us,u.Ok3 m)/\us.length=i)
   ⟨none,[],rfl,WL.nil e2 hf,fun u hu=>by simp at hu,rfl⟩ ?_ ?_
  ·rintro i σ H3 hi ⟨k,us,rfl,wl,ok,len⟩
   rw[Int.toNat_natCast]at hi
   walk_at "rd"
   refine⟨wl.ty (Ext.rfl' _),?_⟩
   walk_at "rd"
   try refine rd_I (show(0:Int)<(U:Int) by omega) ?_
   walk_at "rd"
   refine aK (ag.of (wl.ext _ _ hd)) g4 ?_
   obtain⟨s,hs,s1,s2⟩:=zx b40 b41
   refine⟨_,_,s,rfl,rfl,eS (by decide +kernel),hs,?_⟩
   walk_at "rd"
   refine⟨ai (by simp),ah fun v H4 e4 hv _=>?_⟩
   walk_at "rd"
   obtain⟨xs,hx,hlx,wl'⟩:=wl.push (w:=⟨0+(i:Int),"up",(0+(i:Int)+1) % (U:Int),⟨#[s]⟩⟩) hfn0 e4 hv
   refine bF hx (dz (by omega)) ?_
   walk_at "rd"
   exact⟨_,_,rfl,wl',dC ok ⟨by show 0<=0+(i:Int);omega,by show 0+(i:Int)<m;omega,Int.emod_nonneg _ (by omega),Int.lt_trans (Int.emod_lt_of_pos _ (by omega)) (by omega),kN,s,s1,s2,rfl⟩,by simp[len]⟩
  rintro σ H3 ⟨k,us,rfl,wl,ok,len⟩
  rw[Int.toNat_natCast]at len
  walk_at "rd"
  refine⟨wl.ty (Ext.rfl' _),?_⟩
  walk_at "rd"
  refine aK (ag.of (wl.ext _ _ hd)) g2 ?_
  try refine rd_I (show(0:Int)<(U:Int) by omega) ?_
  walk_at "rd"
  refine⟨ai (by simp),ah fun v H4 e4 hv _=>?_⟩
  walk_at "rd"
  have r0:0<=d2 % (U:Int):=Int.emod_nonneg _ (by omega)
  have r1:d2 % (U:Int)<U:=Int.emod_lt_of_pos _ (by omega)
  obtain⟨xs,hx,hlx,wl2⟩:=wl.push (w:=⟨d2 % (U:Int),"stay",(U:Int),"b"⟩) hfn0 e4 hv
  have ok2:=dC ok (w:=⟨d2 % (U:Int),"stay",(U:Int),"b"⟩) ⟨r0,by show d2 % (U:Int)<m;omega,by show 0<=(U:Int);omega,by show(U:Int)<m;omega,gr,ig⟩
  refine bF hx (dz (by omega)) ?_
  generalize upd H4 f _=H5 at wl2 ⊢
  generalize hus2:us++[_]=us2 at wl2 ok2
  have len2:us2.length=U+1:=by rw[←hus2];simp[len]
  clear hus2 hx hlx hv e4 r0 r1 wl ok len
  walk_at "rd"
  refine dg (by omega) ?_
  refine forR (fun i σ H3=>∃(k:Option V) (us:List Way),σ=[some (.int c),some (.int p),some (.ref dq),some (.int U),some (.int D),some (.int m),some (.ref f),k]/\WL H1 H3 f us/\(∀u∈us,u.Ok3 m)/\us.length=U+1+i)
   ⟨_,us2,rfl,wl2,ok2,len2⟩ ?_ ?_
  ·rintro i σ H3 hi ⟨k,us,rfl,wl,ok,len⟩
   rw[Int.toNat_natCast]at hi
   walk_at "rd"
   refine⟨wl.ty (Ext.rfl' _),?_⟩
   walk_at "rd"
   try refine rd_I (show(0:Int)<(D:Int) by omega) ?_
   walk_at "rd"
   refine⟨ai (by simp),ah fun v H4 e4 hv _=>?_⟩
   walk_at "rd"
   have r0:0<=(0+(i:Int)+1) % (D:Int):=Int.emod_nonneg _ (by omega)
   have r1:(0+(i:Int)+1) % (D:Int)<D:=Int.emod_lt_of_pos _ (by omega)
   obtain⟨xs,hx,hlx,wl'⟩:=wl.push (w:=⟨(U:Int)+(0+(i:Int)),"down",(U:Int)+(0+(i:Int)+1) % (D:Int),"a"⟩) hfn0 e4 hv
   refine bF hx (dz (by omega)) ?_
   walk_at "rd"
   exact⟨_,_,rfl,wl',dC ok ⟨by show 0<=(U:Int)+(0+(i:Int));omega,by show(U:Int)+(0+(i:Int))<m;omega,by show 0<=(U:Int)+(0+(i:Int)+1) % (D:Int);omega,by show(U:Int)+(0+(i:Int)+1) % (D:Int)<m;omega,ly,kO⟩,by simp[len];omega⟩
  clear wl2 ok2 len2
  rintro σ H3 ⟨k,us,rfl,wl,ok,len⟩
  rw[Int.toNat_natCast]at len
  walk_at "rd"
  refine⟨wl.ty (Ext.rfl' _),?_⟩
  walk_at "rd"
  refine aK (ag.of (wl.ext _ _ hd)) g3 ?_
  try refine rd_I (show(0:Int)<(D:Int) by omega) ?_
  walk_at "rd"
  refine⟨ai (by simp),ah fun v H4 e4 hv _=>?_⟩
  walk_at "rd"
  have r0:0<=d3 % (D:Int):=Int.emod_nonneg _ (by omega)
  have r1:d3 % (D:Int)<D:=Int.emod_lt_of_pos _ (by omega)
  obtain⟨xs,hx,hlx,wl2⟩:=wl.push (w:=⟨(U:Int)+d3 % (D:Int),"zero",m-1,"c"⟩) hfn0 e4 hv
  have ok2:=dC ok (w:=⟨(U:Int)+d3 % (D:Int),"zero",m-1,"c"⟩) ⟨by show 0<=(U:Int)+d3 % (D:Int);omega,by show(U:Int)+d3 % (D:Int)<m;omega,by show 0<=m-1;omega,by show m-1<m;omega,lO,ll⟩
  refine bF hx (dz (by omega)) ?_
  generalize upd H4 f _=H5 at wl2 ⊢
  generalize hus2:us++[_]=us2 at wl2 ok2
  have len2:us2.length=U+D+2:=by rw[←hus2];simp[len];omega
  clear hus2 hx hlx hv e4 r0 r1 wl ok len
  walk_at "rd"
  refine⟨wl2.ty (Ext.rfl' _),?_⟩
  walk_at "rd"
  refine⟨ai (by simp),ah fun t1 H6 e6 ht1 _=>?_⟩
  walk_at "rd"
  refine aK (ag.of (e6 _ _ (wl2.ext _ _ hd))) g5 ?_
  obtain⟨x5,hx5,ax5⟩:=kM (a:=V.str "up") (b:=V.str "stay") b50 b51
  refine aK (ag.of ht1) hx5 ?_
  walk_at "rd"
  refine⟨ai (by simp),ah fun t2 H7 e7 ht2 _=>?_⟩
  walk_at "rd"
  refine aK (ag.of (e7 _ _ (e6 _ _ (wl2.ext _ _ hd)))) g6 ?_
  obtain⟨x6,hx6,ax6⟩:=kM (a:=V.int 0) (b:=V.int (m-1)) b60 b61
  refine aK (ag.of ht2) hx6 ?_
  walk_at "rd"
  refine⟨ai (by simp),ah fun v H8 e8 hv _=>?_⟩
  walk_at "rd"
  obtain⟨z,rfl,oz⟩:∃z,x5=.str z/\cw z:=by
   rcases ax5 with rfl | rfl
   ·exact⟨_,rfl,kN⟩
   ·exact⟨_,rfl,gr⟩
  obtain⟨y,rfl,y0,y1⟩:∃y:Int,x6=.int y/\0<=y/\y<m:=by
   rcases ax6 with rfl | rfl
   ·exact⟨_,rfl,by omega,by omega⟩
   ·exact⟨_,rfl,by omega,by omega⟩
  obtain⟨xs,hx,hlx,wl3⟩:=wl2.push (w:=⟨m-1,z,y,"b"⟩) hfn0 (e6.trans (e7.trans e8)) hv
  have ok3:=dC ok2 (w:=⟨m-1,z,y,"b"⟩) ⟨by show 0<=m-1;omega,by show m-1<m;omega,y0,y1,oz,ig⟩
  refine bF hx (dz (by omega)) ?_
  generalize upd H8 f _=H9 at wl3 ⊢
  generalize hus3:us2++[_]=us3 at wl3 ok3
  have len3:us3.length=U+D+3:=by rw[←hus3];simp[len2]
  walk_at "rd"
  obtain⟨ew,cs,hcs,al⟩:=wl3
  refine⟨f,cs,us3,rfl,hcs,al,fun u hu=>(ok3 u hu).lay,by omega,fun r I1 ws e5 hws nd sub ln=>?_⟩
  walk_at "rd"
  refine⟨ai (by simp),ah fun t I2 e6' ht _=>?_⟩
  exact q _ m ws I2 (eH.trans (ew.trans (e5.trans e6'))) (bj.mk ht (hws.ext e6')) ⟨by omega,by omega,by omega,fun u hu=>ok3 u (sub u hu),nd⟩
theorem aX.rev{H:Hp}{bs:List Addr}{ws:List Way}(h:aX H bs ws):aX H bs.reverse ws.reverse:=by
 refine⟨by rw[List.length_reverse,List.length_reverse];exact h.1,fun j b w e1 e2=>?_⟩
 have hj:j<bs.length:=by
  have:=(List.getElem?_eq_some_iff.mp e1).1
  simpa using this
 rw[List.getElem?_reverse hj]at e1
 rw[List.getElem?_reverse (by rw[←h.1];exact hj),←h.1]at e2
 exact h.2 _ b w e1 e2
theorem gq{us:List Way}{w:Way}(h:us.Nodup)(hw:w∉us):(us++[w]).Nodup:=by
 rw[List.nodup_append]
 exact⟨h,by simp,fun a ha c hc=>by rw[List.mem_singleton.mp hc];exact fun z=>hw (z ▸ ha)⟩
theorem iK{P:Way->Prop}{us:List Way}{w:Way}(h:∀u∈us,P u)(hw:P w):∀u∈us++[w],P u:=fun u hu=>by
 rcases List.mem_append.mp hu with hu | hu
 ·exact h u hu
 ·rw[List.mem_singleton.mp hu];exact hw
theorem qQ:(Str.ofString "a")≠"b":=by decide +kernel
theorem oI:(Str.ofString "a")≠"c":=by decide +kernel
theorem nJ:(Str.ofString "b")≠"c":=by decide +kernel
def pE(K:PySem.W.Frag):Sp:=fun vs H Q _=>∃c p,vs=[.int c,.int p]/\0<p/\∀v m ws H',Ext H H'->bj H' v m ws->HOuse3 m ws->Q v H'
abbrev jh:Stmt:=stq 47
theorem qJ:FnScope ["_law_cell_here","_law_prime","_law_draws_here","_law_one","_law_two","_law_many","_law_ways","_law_k"] ["_law_cell_here","_law_prime"] (aJ jh):=⟨rfl,rfl,rfl,by decide +kernel,rfl,by decide +kernel,by decide +kernel⟩
theorem xx{P:Program}{w:World}{K:PySem.W.Frag}{mg:Str->Option Value}{base:Heap}(D:Dfn K mg "_law_ring_house" jh ["_law_cell_here","_law_prime"])(T:Blt mg)(C__law_draws:Cal P w K mg base "_law_draws" 2 ["_law_cell_here","_law_widths","_law_prime"] (fo K)):Cal P w K mg base "_law_ring_house" 3 ["_law_cell_here","_law_prime"] (pE K):=by
 have nd:=(qJ).nd
 refine D.ok qJ (fun vs H Q E h=>?_) (fun X hX H vs Q E h=>?_)
 ·obtain⟨c,p,rfl,_⟩:=h;rfl
 ·obtain⟨f,cdv,A,outer,s,H0,E0,rfl,hr⟩:=hX
  obtain⟨c,p,rfl,hp,q⟩:=h
  refine⟨_,(@ao _ _ _ _ _ (@aH _ _ 2 _ _ _ _ nd rfl (Or.inl rfl) (aw C__law_draws hr (@aa _ _ _ _ _ (pv 0) (@aa _ _ _ _ _ (@aR _ _ _ _ (fR (.c (.c (.c (.c (.c (.c (.c .n))))))))) (@aa _ _ _ _ _ (pv 1) ae rfl) rfl) rfl)) rfl (Or.inl rfl))
    (@ao _ _ _ _ _ (uD (i:=3) (j:=4) rfl nd rfl rfl (by decide) rfl rfl (@aa _ _ _ _ _ (ak aI af (@aq _ _ _ _ _ _ _ (aL K) (pv 2) af (fun _ _=>rfl))) (@aa _ _ _ _ _ (ak aI af (@aq _ _ _ _ _ _ _ (aL K) (pv 2) af (fun _ _=>rfl))) ae rfl) rfl) rfl)
    (@ao _ _ _ _ _ (@aH _ _ 5 _ _ _ _ nd rfl (Or.inl rfl) (ak aI (ak aI (pv 3) (pv 4)) af) rfl (Or.inl rfl))
    (@ao _ _ _ _ _ (@aH _ _ 6 _ _ _ _ nd rfl (Or.inl rfl) (@aR _ _ _ _ (@aa _ _ _ _ _ (@aD _ _ _ _ _ (@aa _ _ _ _ _ af (@aa _ _ _ _ _ aQ (@aa _ _ _ _ _ af (@aa _ _ _ _ _ aQ ae rfl) rfl) rfl) rfl)) (@aa _ _ _ _ _ (@aD _ _ _ _ _ (@aa _ _ _ _ _ af (@aa _ _ _ _ _ (@aq _ _ _ _ _ _ _ (aL K) (@aR _ _ _ _ (@aa _ _ _ _ _ aQ (@aa _ _ _ _ _ aQ ae rfl) rfl)) (@aq _ _ _ _ _ _ _ (aL K) (pv 2) af (fun _ _=>rfl)) (fun _ _=>rfl)) (@aa _ _ _ _ _ (ak aI af (pv 3)) (@aa _ _ _ _ _ aQ ae rfl) rfl) rfl) rfl)) ae rfl) rfl)) rfl (Or.inl rfl))
    (@ao _ _ _ _ _ (bw PassesOwn.never rfl (cQ rfl T.range_ (@aa _ _ _ _ _ (pv 3) ae rfl)) (aF (i:=7) nd rfl (Or.inl rfl)) (@ar _ _ _ (bx (bK K PySem.F.plainAttrs_list PySem.F.slot_list_append PySem.F.type_list_append bJ (pv 6) (@aa _ _ _ _ _ (@aD _ _ _ _ _ (@aa _ _ _ _ _ (ak aI af (pv 7)) (@aa _ _ _ _ _ aQ (@aa _ _ _ _ _ (ak aI af (ak bO (ak aI (pv 7) af) (pv 3))) (@aa _ _ _ _ _ aQ ae rfl) rfl) rfl) rfl)) ae rfl)))))
    (@ao _ _ _ _ _ (bw PassesOwn.never rfl (cQ rfl T.range_ (@aa _ _ _ _ _ (pv 4) ae rfl)) (aF (i:=7) nd rfl (Or.inl rfl)) (@ar _ _ _ (bx (bK K PySem.F.plainAttrs_list PySem.F.slot_list_append PySem.F.type_list_append bJ (pv 6) (@aa _ _ _ _ _ (@aD _ _ _ _ _ (@aa _ _ _ _ _ (ak aI (ak aI af (pv 3)) (pv 7)) (@aa _ _ _ _ _ (@aq _ _ _ _ _ _ _ (aL K) (@aR _ _ _ _ (@aa _ _ _ _ _ aQ (@aa _ _ _ _ _ aQ ae rfl) rfl)) (@aq _ _ _ _ _ _ _ (aL K) (pv 2) af (fun _ _=>rfl)) (fun _ _=>rfl)) (@aa _ _ _ _ _ (ak aI (ak aI af (pv 3)) (ak bO (ak aI (pv 7) af) (pv 4))) (@aa _ _ _ _ _ aQ ae rfl) rfl) rfl) rfl)) ae rfl)))))
    (@ao _ _ _ _ _ (bx (bK K PySem.F.plainAttrs_list PySem.F.slot_list_append PySem.F.type_list_append bJ (pv 6) (@aa _ _ _ _ _ (@aD _ _ _ _ _ (@aa _ _ _ _ _ af (@aa _ _ _ _ _ aQ (@aa _ _ _ _ _ (ak cj (pv 5) af) (@aa _ _ _ _ _ aQ ae rfl) rfl) rfl) rfl)) ae rfl)))
    (@ao _ _ _ _ _ (bx (bK K PySem.F.plainAttrs_list PySem.F.slot_list_append PySem.F.type_list_append bJ (pv 6) (@aa _ _ _ _ _ (@aD _ _ _ _ _ (@aa _ _ _ _ _ (ak aI af (pv 3)) (@aa _ _ _ _ _ aQ (@aa _ _ _ _ _ (ak cj (pv 5) af) (@aa _ _ _ _ _ aQ ae rfl) rfl) rfl) rfl)) ae rfl)))
    (@ao _ _ _ _ _ (cB (aO bQ (@aq _ _ _ _ _ _ _ (aL K) (pv 2) af (fun _ _=>rfl)) af (aG _)) (@ar _ _ _ (bx (bK K PySem.F.plainAttrs_list PySem.F.slot_list_append PySem.F.type_list_append bJ (pv 6) (@aa _ _ _ _ _ (@aD _ _ _ _ _ (@aa _ _ _ _ _ (ak cj (pv 5) af) (@aa _ _ _ _ _ aQ (@aa _ _ _ _ _ (ak cj (pv 5) af) (@aa _ _ _ _ _ aQ ae rfl) rfl) rfl) rfl)) ae rfl)))) aP)
    (@ao _ _ _ _ _ (cB (aO bQ (@aq _ _ _ _ _ _ _ (aL K) (pv 2) af (fun _ _=>rfl)) af (aG _)) (@ar _ _ _ (bx (bK K PySem.F.plainAttrs_list PySem.F.slot_list_append PySem.F.type_list_append bJ (pv 6) (@aa _ _ _ _ _ (@aD _ _ _ _ _ (@aa _ _ _ _ _ (ak cj (pv 5) af) (@aa _ _ _ _ _ aQ (@aa _ _ _ _ _ af (@aa _ _ _ _ _ aQ ae rfl) rfl) rfl) rfl)) ae rfl)))) aP)
    (@ao _ _ _ _ _ (cB (aO bQ (@aq _ _ _ _ _ _ _ (aL K) (pv 2) af (fun _ _=>rfl)) af (aG _)) (@ar _ _ _ (@aH _ _ 6 _ _ _ _ nd rfl (Or.inl rfl) (zO K (pv 6) (eW (gW gM af))) rfl (Or.inl rfl))) aP)
    (@ar _ _ _ (@aA _ _ _ _ (@aD _ _ _ _ _ (@aa _ _ _ _ _ (pv 5) (@aa _ _ _ _ _ (cT (eE K) rfl T.tuple_ PyProof.Rows.boot_tuple (@aa _ _ _ _ _ (pv 6) ae rfl)) ae rfl) rfl))))))))))))))),?_⟩
  walk_at "rd"
  refine⟨ai (by simp),ah fun w0 G1 f1 hw0 _=>?_⟩
  walk_at "rd"
  refine ik [5,5,2,2,4,4,2] hw0 (by decide) (by decide) (hp) fun dq ds H1 e1 hd hdn hl hb=>?_
  have eH:Ext H H1:=f1.trans e1
  obtain⟨d0,g0,b00,b01⟩:=bP hl hb 0 rfl
  obtain⟨d1,g1,b10,b11⟩:=bP hl hb 1 rfl
  obtain⟨d2,g2,b20,b21⟩:=bP hl hb 2 rfl
  obtain⟨d3,g3,b30,b31⟩:=bP hl hb 3 rfl
  obtain⟨d4,g4,_⟩:=bP hl hb 4 rfl
  obtain⟨d5,g5,_⟩:=bP hl hb 5 rfl
  obtain⟨d6,g6,_⟩:=bP hl hb 6 rfl
  clear hb hl
  walk_at "rd"
  refine aK (ag.of hd) g0 ?_
  walk_at "rd"
  refine aK (ag.of hd) g1 ?_
  walk_at "rd"
  obtain⟨U,hU⟩:∃U:Nat,1+d0=(U:Int):=⟨(1+d0).toNat,by omega⟩
  obtain⟨D,hD⟩:∃D:Nat,1+d1=(D:Int):=⟨(1+d1).toNat,by omega⟩
  rw[hU,hD]
  have u1:1<=U:=by omega
  have u6:U<=5:=by omega
  have v1:1<=D:=by omega
  have v5:D<=5:=by omega
  clear b00 b01 b10 b11 hU hD
  obtain⟨m,hm⟩:∃m:Int,(U:Int)+(D:Int)+2=m:=⟨_,rfl⟩
  rw[hm]
  -- the first two ways
  refine⟨ai (by simp),ah fun a1 H2 e2 ha1 _=>?_⟩
  walk_at "rd"
  refine⟨ai (by simp),ah fun t1 H3 e3 ht1 _=>?_⟩
  walk_at "rd"
  refine aK (ag.of (e3 _ _ (e2 _ _ hd))) g2 ?_
  obtain⟨x2,hx2,ax2⟩:=kM (a:=V.str "stay") (b:=V.str "zero") b20 b21
  refine aK (ag.of ht1) hx2 ?_
  walk_at "rd"
  obtain⟨z2,rfl,oz2⟩:∃z,x2=.str z/\cw z:=by
   rcases ax2 with rfl | rfl
   ·exact⟨_,rfl,gr⟩
   ·exact⟨_,rfl,lO⟩
  refine⟨ai (by simp),ah fun a2 H4 e4 ha2 _=>?_⟩
  walk_at "rd"
  refine⟨ai (by simp),ah fun f H5 e5 hf hfn=>?_⟩
  have e15:Ext H1 H5:=e2.trans (e3.trans (e4.trans e5))
  have hfn0:H1 f=none:=(e2.trans (e3.trans e4)).none hfn
  obtain⟨y1,hy1⟩:∃y:Way,y=⟨0,"stay",1,"a"⟩:=⟨_,rfl⟩
  obtain⟨y2,hy2⟩:∃y:Way,y=⟨0,z2,1+(U:Int),"b"⟩:=⟨_,rfl⟩
  have wl0:WL H1 H5 f [y1,y2]:=by
   refine⟨e15,[a1,a2],hf,?_⟩
   have k1:H5 a1=some (.tup y1.vs):=by rw[hy1];exact e5 _ _ (e4 _ _ (e3 _ _ ha1))
   have k2:H5 a2=some (.tup y2.vs):=by rw[hy2];exact e5 _ _ ha2
   exact((aX.nil H5).snoc k1).snoc k2
  have ok0:∀u∈[y1,y2],u.Ok3 m:=by
   intro u hu
   rcases List.mem_cons.mp hu with rfl | hu
   ·subst hy1;exact⟨Int.le_refl _,by show(0:Int)<m;omega,by show(0:Int)<=1;decide,by show(1:Int)<m;omega,gr,kO⟩
   ·rw[List.mem_singleton.mp hu];subst hy2;exact⟨Int.le_refl _,by show(0:Int)<m;omega,by show(0:Int)<=1+(U:Int);omega,by show 1+(U:Int)<m;omega,oz2,ig⟩
  have nd0:[y1,y2].Nodup:=by
   subst hy1 hy2
   refine List.nodup_cons.mpr ⟨fun z=>?_,by simp⟩
   have:=congrArg Way.sign (List.mem_singleton.mp z)
   exact qQ this
  have pr0:∀u∈[y1,y2],u.room<=((0:Nat):Int)/\u.sign≠"c":=by
   intro u hu
   rcases List.mem_cons.mp hu with rfl | hu
   ·subst hy1;exact⟨Int.le_refl _,oI⟩
   ·rw[List.mem_singleton.mp hu];subst hy2;exact⟨Int.le_refl _,nJ⟩
  have ln0:[y1,y2].length=2:=rfl
  generalize [y1,y2]=us0 at wl0 ok0 nd0 pr0 ln0
  clear hy1 hy2 ha1 ha2 ht1 hf e2 e3 e4 e5
  walk_at "rd"
  refine dg (by omega) ?_
  refine forR (fun i σ H3=>∃(k:Option V) (us:List Way),σ=[some (.int c),some (.int p),some (.ref dq),some (.int U),some (.int D),some (.int m),some (.ref f),k]/\WL H1 H3 f us/\(∀u∈us,u.Ok3 m)/\us.Nodup/\(∀u∈us,u.room<=(i:Int)/\u.sign≠"c")/\us.length=2+i)
   ⟨none,us0,rfl,wl0,ok0,nd0,pr0,ln0⟩ ?_ ?_
  ·rintro i σ H3 hi ⟨k,us,rfl,wl,ok,nd',pr,len⟩
   rw[Int.toNat_natCast]at hi
   walk_at "rd"
   refine⟨wl.ty (Ext.rfl' _),?_⟩
   walk_at "rd"
   try refine rd_I (show(0:Int)<(U:Int) by omega) ?_
   walk_at "rd"
   refine⟨ai (by simp),ah fun v H4 e4 hv _=>?_⟩
   walk_at "rd"
   have r0:0<=(0+(i:Int)+1) % (U:Int):=Int.emod_nonneg _ (by omega)
   have r1:(0+(i:Int)+1) % (U:Int)<U:=Int.emod_lt_of_pos _ (by omega)
   obtain⟨xs,hx,hlx,wl'⟩:=wl.push (w:=⟨1+(0+(i:Int)),"up",1+(0+(i:Int)+1) % (U:Int),"a"⟩) hfn0 e4 hv
   refine bF hx (dz (by omega)) ?_
   walk_at "rd"
   refine⟨_,_,rfl,wl',dC ok ⟨by show 0<=1+(0+(i:Int));omega,by show 1+(0+(i:Int))<m;omega,by show 0<=1+(0+(i:Int)+1) % (U:Int);omega,by show 1+(0+(i:Int)+1) % (U:Int)<m;omega,kN,kO⟩,gq nd' fun z=>?_,iK (fun u hu=>⟨by have:=(pr u hu).1;omega,(pr u hu).2⟩) ⟨by show 1+(0+(i:Int))<=_;omega,oI⟩,by simp[len];omega⟩
   have:=(pr _ z).1
   have:1+(0+(i:Int))<=(i:Int):=this
   omega
  clear wl0 ok0 nd0 pr0 ln0
  rintro σ H3 ⟨k,us,rfl,wl,ok,nd',pr,len⟩
  rw[Int.toNat_natCast]at pr len
  walk_at "rd"
  refine dg (by omega) ?_
  refine forR (fun i σ H3=>∃(k:Option V) (us:List Way),σ=[some (.int c),some (.int p),some (.ref dq),some (.int U),some (.int D),some (.int m),some (.ref f),k]/\WL H1 H3 f us/\(∀u∈us,u.Ok3 m)/\us.Nodup/\(∀u∈us,u.room<=(U:Int)+(i:Int)/\u.sign≠"c"/\(u.room=1+(U:Int)->u.sign = "b"))/\us.length=2+U+i)
   ⟨_,us,rfl,wl,ok,nd',fun u hu=>⟨by have:=(pr u hu).1;omega,(pr u hu).2,fun z=>by have:=(pr u hu).1;omega⟩,len⟩ ?_ ?_
  ·clear wl ok nd' pr len
   rintro i σ H3 hi ⟨k,us,rfl,wl,ok,nd',pr,len⟩
   rw[Int.toNat_natCast]at hi
   walk_at "rd"
   refine⟨wl.ty (Ext.rfl' _),?_⟩
   walk_at "rd"
   refine⟨ai (by simp),ah fun t1 H6 e6 ht1 _=>?_⟩
   walk_at "rd"
   refine aK (ag.of (e6 _ _ (wl.ext _ _ hd))) g3 ?_
   obtain⟨x3,hx3,ax3⟩:=kM (a:=V.str "up") (b:=V.str "down") b30 b31
   refine aK (ag.of ht1) hx3 ?_
   walk_at "rd"
   obtain⟨z3,rfl,oz3⟩:∃z,x3=.str z/\cw z:=by
    rcases ax3 with rfl | rfl
    ·exact⟨_,rfl,kN⟩
    ·exact⟨_,rfl,ly⟩
   try refine rd_I (show(0:Int)<(D:Int) by omega) ?_
   walk_at "rd"
   refine⟨ai (by simp),ah fun v H4 e4 hv _=>?_⟩
   walk_at "rd"
   have r0:0<=(0+(i:Int)+1) % (D:Int):=Int.emod_nonneg _ (by omega)
   have r1:(0+(i:Int)+1) % (D:Int)<D:=Int.emod_lt_of_pos _ (by omega)
   obtain⟨xs,hx,hlx,wl'⟩:=wl.push (w:=⟨1+(U:Int)+(0+(i:Int)),z3,1+(U:Int)+(0+(i:Int)+1) % (D:Int),"b"⟩) hfn0 (e6.trans e4) hv
   refine bF hx (dz (by omega)) ?_
   walk_at "rd"
   refine⟨_,_,rfl,wl',dC ok ⟨by show 0<=1+(U:Int)+(0+(i:Int));omega,by show 1+(U:Int)+(0+(i:Int))<m;omega,by show 0<=1+(U:Int)+(0+(i:Int)+1) % (D:Int);omega,by show 1+(U:Int)+(0+(i:Int)+1) % (D:Int)<m;omega,oz3,ig⟩,gq nd' fun z=>?_,iK (fun u hu=>⟨by have:=(pr u hu).1;omega,(pr u hu).2⟩) ⟨by show 1+(U:Int)+(0+(i:Int))<=_;omega,nJ,fun _=>rfl⟩,by simp[len];omega⟩
   have:=(pr _ z).1
   have:1+(U:Int)+(0+(i:Int))<=(U:Int)+(i:Int):=this
   omega
  clear wl ok nd' pr len
  rintro σ H3 ⟨k,us,rfl,wl,ok,nd',pr,len⟩
  rw[Int.toNat_natCast]at pr len
  walk_at "rd"
  -- (1,stay,m-1,c)
  refine⟨wl.ty (Ext.rfl' _),?_⟩
  walk_at "rd"
  refine⟨ai (by simp),ah fun v H4 e4 hv _=>?_⟩
  walk_at "rd"
  obtain⟨xs,hx,hlx,wl2⟩:=wl.push (w:=⟨1,"stay",m-1,"c"⟩) hfn0 e4 hv
  have ok2:=dC ok (w:=⟨1,"stay",m-1,"c"⟩) ⟨by show(0:Int)<=1;decide,by show(1:Int)<m;omega,by show 0<=m-1;omega,by show m-1<m;omega,gr,ll⟩
  have nd2:=gq nd' (w:=⟨1,"stay",m-1,"c"⟩) fun z=>(pr _ z).2.1 rfl
  have pr2:=iK (P:=fun u=>u.room<=(U:Int)+(D:Int)/\(u.room=1+(U:Int)->u.sign = "b")) (fun u hu=>⟨(pr u hu).1,(pr u hu).2.2⟩) (w:=⟨1,"stay",m-1,"c"⟩) ⟨by show(1:Int)<=_;omega,fun z=>by have:(1:Int)=1+(U:Int):=z;omega⟩
  refine bF hx (dz (by omega)) ?_
  generalize upd H4 f _=H5 at wl2 ⊢
  generalize hus2:us++[_]=us2 at wl2 ok2 nd2 pr2
  have len2:us2.length=3+U+D:=by rw[←hus2];simp[len];omega
  clear hus2 hx hlx hv e4 wl ok nd' pr len
  walk_at "rd"
  -- (1+U,stay,m-1,a)
  refine⟨wl2.ty (Ext.rfl' _),?_⟩
  walk_at "rd"
  refine⟨ai (by simp),ah fun v H4 e4 hv _=>?_⟩
  walk_at "rd"
  obtain⟨xs,hx,hlx,wl3⟩:=wl2.push (w:=⟨1+(U:Int),"stay",m-1,"a"⟩) hfn0 e4 hv
  have ok3:=dC ok2 (w:=⟨1+(U:Int),"stay",m-1,"a"⟩) ⟨by show(0:Int)<=1+(U:Int);omega,by show 1+(U:Int)<m;omega,by show 0<=m-1;omega,by show m-1<m;omega,gr,kO⟩
  have nd3:=gq nd2 (w:=⟨1+(U:Int),"stay",m-1,"a"⟩) fun z=>qQ ((pr2 _ z).2 rfl)
  have pr3:=iK (P:=fun u=>u.room<=(U:Int)+(D:Int)) (fun u hu=>(pr2 u hu).1) (w:=⟨1+(U:Int),"stay",m-1,"a"⟩) (by show 1+(U:Int)<=_;omega)
  refine bF hx (dz (by omega)) ?_
  generalize upd H4 f _=H6 at wl3 ⊢
  generalize hus3:us2++[_]=us3 at wl3 ok3 nd3 pr3
  have len3:us3.length=4+U+D:=by rw[←hus3];simp[len2];omega
  clear hus3 hx hlx hv e4 wl2 ok2 nd2 pr2 len2
  walk_at "rd"
  -- the two that may be left out
  refine ed (fun σ' H'=>∃(k:Option V) (us:List Way),σ'=[some (.int c),some (.int p),some (.ref dq),some (.int U),some (.int D),some (.int m),some (.ref f),k]/\WL H1 H' f us/\(∀u∈us,u.Ok3 m)/\us.Nodup/\(∀u∈us,u.room<=(U:Int)+(D:Int)\/u.sign = "c")/\us.length<=5+U+D) ?_ ?_
  ·walk_at "rd"
   refine aK (ag.of (wl3.ext _ _ hd)) g4 ?_
   walk_at "rd"
   refine et (fun h=>?_) (fun h=>?_)
   ·walk_at "rd"
    refine⟨wl3.ty (Ext.rfl' _),?_⟩
    walk_at "rd"
    refine⟨ai (by simp),ah fun v H4 e4 hv _=>?_⟩
    walk_at "rd"
    obtain⟨xs,hx,hlx,wl4⟩:=wl3.push (w:=⟨m-1,"down",m-1,"c"⟩) hfn0 e4 hv
    refine bF hx (dz (by omega)) ?_
    walk_at "rd"
    exact⟨_,_,rfl,wl4,dC ok3 ⟨by show 0<=m-1;omega,by show m-1<m;omega,by show 0<=m-1;omega,by show m-1<m;omega,ly,ll⟩,gq nd3 fun z=>by have:m-1<=(U:Int)+(D:Int):=pr3 _ z;omega,iK (fun u hu=>.inl (pr3 u hu)) (.inr rfl),by simp[len3];omega⟩
   ·walk_at "rd"
    exact⟨_,us3,rfl,wl3,ok3,nd3,fun u hu=>.inl (pr3 u hu),by omega⟩
  clear wl3 ok3 nd3 pr3 len3
  rintro σ' H7 ⟨k,us,rfl,wl,ok,nd',pr,len⟩
  walk_at "rd"
  refine ed (fun σ' H'=>∃(k:Option V) (us:List Way),σ'=[some (.int c),some (.int p),some (.ref dq),some (.int U),some (.int D),some (.int m),some (.ref f),k]/\WL H1 H' f us/\(∀u∈us,u.Ok3 m)/\us.Nodup/\us.length<=6+U+D) ?_ ?_
  ·walk_at "rd"
   refine aK (ag.of (wl.ext _ _ hd)) g5 ?_
   walk_at "rd"
   refine et (fun h=>?_) (fun h=>?_)
   ·walk_at "rd"
    refine⟨wl.ty (Ext.rfl' _),?_⟩
    walk_at "rd"
    refine⟨ai (by simp),ah fun v H4 e4 hv _=>?_⟩
    walk_at "rd"
    obtain⟨xs,hx,hlx,wl4⟩:=wl.push (w:=⟨m-1,"zero",0,"b"⟩) hfn0 e4 hv
    refine bF hx (dz (by omega)) ?_
    walk_at "rd"
    exact⟨_,_,rfl,wl4,dC ok ⟨by show 0<=m-1;omega,by show m-1<m;omega,by show(0:Int)<=0;decide,by show(0:Int)<m;omega,lO,ig⟩,gq nd' (fun z=>(pr _ z).elim (fun y=>by have:m-1<=(U:Int)+(D:Int):=y;omega) fun y=>nJ y),by simp;omega⟩
   ·walk_at "rd"
    exact⟨_,us,rfl,wl,ok,nd',by omega⟩
  clear wl ok nd' pr len
  rintro σ' H8 ⟨k,us,rfl,wl,ok,nd',len⟩
  walk_at "rd"
  -- backward or not
  refine ed (fun σ' H'=>∃(k:Option V) (f:Addr) (cs:List Addr) (us:List Way),σ'=[some (.int c),some (.int p),some (.ref dq),some (.int U),some (.int D),some (.int m),some (.ref f),k]/\Ext H1 H'/\H' f=some (.lst (cs.map V.ref))/\aX H' cs us/\(∀u∈us,u.Ok3 m)/\us.Nodup/\us.length<=6+U+D) ?_ ?_
  ·walk_at "rd"
   refine aK (ag.of (wl.ext _ _ hd)) g6 ?_
   walk_at "rd"
   obtain⟨ew,cs,hcs,al⟩:=wl
   refine et (fun h=>?_) (fun h=>?_)
   ·walk_at "rd"
    refine⟨rfl,vF (ag.of hcs) (ah fun r H9 e9 hr9 _=>?_)⟩
    walk_at "rd"
    exact⟨_,r,cs.reverse,us.reverse,rfl,ew.trans e9,by rw[hr9,List.map_reverse],(al.ext e9).rev,fun u hu=>ok u (List.mem_reverse.mp hu),List.pairwise_reverse.mpr (nd'.imp fun h=>Ne.symm h),by rw[List.length_reverse];omega⟩
   ·walk_at "rd"
    exact⟨_,f,cs,us,rfl,ew,hcs,al,ok,nd',by omega⟩
  clear wl ok nd' len
  rintro σ' H9 ⟨k,g,cs,us,rfl,ew,hcs,al,ok,nd',len⟩
  walk_at "rd"
  refine dW (ag.of hcs) (ah fun r I1 i1 hr1 _=>?_)
  walk_at "rd"
  refine⟨ai (by simp),ah fun t I2 i2 ht _=>?_⟩
  exact q _ m us I2 (eH.trans (ew.trans (i1.trans i2))) (bj.mk ht (((al.ext i1).ways hr1).ext i2)) ⟨by omega,by omega,by omega,ok,nd'⟩
def rK(K:PySem.W.Frag):Sp:=fun vs H Q _=>∃c p,vs=[.int c,.int p]/\0<p/\∀v m ws H',Ext H H'->bj H' v m ws->HOuse3 m ws->Q v H'
abbrev ku:Stmt:=stq 49
theorem tU:FnScope ["_law_cell_here","_law_prime","_law_kind","_law_left"] ["_law_cell_here","_law_prime"] (aJ ku):=⟨rfl,rfl,rfl,by decide +kernel,rfl,by decide +kernel,by decide +kernel⟩
theorem yj{P:Program}{w:World}{K:PySem.W.Frag}{mg:Str->Option Value}{base:Heap}(D:Dfn K mg "_law_house" ku ["_law_cell_here","_law_prime"])(T:Blt mg)(C__law_drawn_house:Cal P w K mg base "_law_drawn_house" 3 ["_law_cell_here","_law_prime"] (sq K))(C__law_gate_house:Cal P w K mg base "_law_gate_house" 3 ["_law_cell_here","_law_prime"] (og K))(C__law_ring_house:Cal P w K mg base "_law_ring_house" 3 ["_law_cell_here","_law_prime"] (pE K))(C__law_spare:Cal P w K mg base "_law_spare" 1 ["_law_cell_here","_law_width"] (rC K))(C__law_draws:Cal P w K mg base "_law_draws" 2 ["_law_cell_here","_law_widths","_law_prime"] (fo K)):Cal P w K mg base "_law_house" 4 ["_law_cell_here","_law_prime"] (rK K):=by
 have nd:=(tU).nd
 refine D.ok tU (fun vs H Q E h=>?_) (fun X hX H vs Q E h=>?_)
 ·obtain⟨c,p,rfl,_⟩:=h;rfl
 ·obtain⟨f,cdv,A,outer,s,H0,E0,rfl,hr⟩:=hX
  obtain⟨c,p,rfl,hp,q⟩:=h
  refine⟨_,(ao (aH (i:=2) nd rfl (Or.inl rfl) (aq (aL K) (aw C__law_draws hr (aa (pv 0) (aa (aR (aa af ae)) (aa (pv 1) ae)))) af (fun _ _=>rfl)))
    (ao (aH (i:=3) nd rfl (Or.inl rfl) (aw C__law_spare hr (aa (pv 0) (aa af ae))))
    (ao (aU (aO bQ (pv 2) af (aG _)) (ar (aA (aw C__law_ring_house hr (aa (pv 3) (aa (pv 1) ae))))) aP)
    (ao (aU (aO bQ (pv 2) af (aG _)) (ar (aA (aw C__law_gate_house hr (aa (pv 3) (aa (pv 1) ae))))) aP)
    (ar (aA (aw C__law_drawn_house hr (aa (pv 3) (aa (pv 1) ae))))))))),?_⟩
  walk_at "rd"
  refine⟨ai (by simp),ah fun w0 G1 f1 hw0 _=>?_⟩
  walk_at "rd"
  refine ik [8] hw0 (by decide) (by decide) (hp) fun dq ds H1 e1 hd hdn hl hb=>?_
  have eH:Ext H H1:=f1.trans e1
  obtain⟨d0,g0,_⟩:=bP hl hb 0 rfl
  walk_at "rd"
  refine aK (ag.of hd) g0 ?_
  walk_at "rd"
  refine⟨c,8,rfl,by decide,by decide,fun z=>?_⟩
  walk_at "rd"
  refine et (fun h=>?_) (fun h=>?_)
  ·walk_at "rd"
   exact⟨z,p,rfl,hp,fun v m ws H' e hv ok=>q v m ws H' (eH.trans e) hv ok⟩
  ·walk_at "rd"
   refine et (fun h=>?_) (fun h=>?_)
   ·walk_at "rd"
    exact⟨z,p,rfl,hp,fun v m ws H' e hv ok=>q v m ws H' (eH.trans e) hv ok⟩
   ·walk_at "rd"
    exact⟨z,p,rfl,hp,fun v m ws H' e hv ok=>q v m ws H' (eH.trans e) hv ok⟩
theorem mj{H H':Hp}{v:V}{n:String}(e:Ext H H')(h:bS H v n):bS H' v n:=by
 cases v with
 | ref a=>
  rcases h with⟨h1,xs,h2⟩ | ⟨h1,xs,h2⟩
  ·exact .inl ⟨h1,xs,e _ _ h2⟩
  ·exact .inr ⟨h1,xs,e _ _ h2⟩
 | _=>exact h
theorem sx{m i:Int}(h:i<0):bM m (.int i)=false:=by
 unfold bM
 dsimp only
 rw[decide_eq_false (show ¬0<=i by omega)]
 rfl
theorem qe{m i:Int}(h:m<=i):bM m (.int i)=false:=by
 unfold bM
 dsimp only
 rw[decide_eq_false (show ¬i<m by omega)]
 exact Bool.and_false _
theorem mx{m i:Int}(h:0<=i)(h':i<m):bM m (.int i)=true:=by
 unfold bM
 dsimp only
 rw[decide_eq_true h,decide_eq_true h']
 rfl
def cA(H:Hp)(n:Nat)(xs:List V):Prop:=∀x∈xs,bh H n x
theorem cA.ext{H H':Hp}{n:Nat}{xs:List V}(e:Ext H H')(h:cA H n xs):cA H' n xs:=fun x hx=>(h x hx).ext e
theorem cA.nil(H:Hp)(n:Nat):cA H n []:=fun x hx=>by cases hx
theorem cA.cons{H:Hp}{n:Nat}{x:V}{xs:List V}(h:bh H n x)(h':cA H n xs):cA H n (x::xs):=fun y hy=>by
 rcases List.mem_cons.mp hy with rfl | hy
 ·exact h
 ·exact h' y hy
theorem dF{H:Hp}{n:Nat}{p:Addr}{xs:List V}(h:H p=some (.tup xs))(hl:xs.length<=2000)(hx:cA H n xs):bh H (n+1) (.ref p):=⟨xs,.inl h,hl,hx⟩
theorem oN{H:Hp}{n:Nat}{p:Addr}{xs:List V}(h:H p=some (.lst xs))(hl:xs.length<=2000)(hx:cA H n xs):bh H (n+1) (.ref p):=⟨xs,.inr h,hl,hx⟩
theorem bh.up{H:Hp}:∀{n:Nat} {v:V},bh H n v->bh H (n+1) v:=by
 intro n
 induction n with
 | zero=>
  intro v h
  cases v<;>first | exact h | exact h.elim
 | succ n ih=>
  intro v h
  cases v with
  | ref p=>
   obtain⟨xs,h1,h2,h3⟩:=h
   exact⟨xs,h1,h2,fun x hx=>ih (h3 x hx)⟩
  | _=>exact h
theorem cA.up{H:Hp}{n:Nat}{xs:List V}(h:cA H n xs):cA H (n+1) xs:=fun x hx=>(h x hx).up
theorem eV(H:Hp)(n:Nat)(i:Int):bh H n (.int i):=by cases n<;>trivial
theorem zN(H:Hp)(n:Nat):bh H n .non:=by cases n<;>trivial
theorem rX(H:Hp)(n:Nat){z:Str}(h:z.length<=1000):bh H n (.str z):=by cases n<;>exact h
theorem y9{z:Str}(h:cw z):z.length<=1000:=by
 rcases h with rfl | rfl | rfl | rfl<;>decide +kernel
theorem zg{z:Str}(h:uL z):z.length<=1000:=by
 obtain⟨c,_,_,rfl⟩:=h
 show 1<=1000
 decide
theorem xZ{H:Hp}{m:Int}{w:Way}(ok:w.Ok m):cA H 0 w.vs:=
 .cons (eV _ _ _) (.cons (rX _ _ (y9 ok.dd)) (.cons (eV _ _ _) (.cons (rX _ _ (zg ok.sg)) (.nil _ _))))
theorem r6{H:Hp}{v:V}{m:Int}{ws:List Way}(h:bj H v m ws)(ok:HOuse m ws):∃p q bs,v=.ref p/\H p=some (.tup [.int m,.ref q])/\H q=some (.tup (bs.map V.ref))/\bs.length=ws.length/\aX H bs ws/\cA H 1 (bs.map V.ref):=by
 obtain⟨p,q,rfl,h1,h2⟩:=h
 obtain⟨bs,h3,h4⟩:=h2.al
 refine⟨p,q,bs,rfl,h1,h3,h4.1,h4,fun x hx=>?_⟩
 obtain⟨b,hb,rfl⟩:=List.mem_map.mp hx
 obtain⟨j,hj,e⟩:=List.mem_iff_getElem.mp hb
 have hjw:j<ws.length:=by rw[←h4.1];exact hj
 have hw:ws[j]?=some ws[j]:=List.getElem?_eq_getElem hjw
 exact dF (h4.2 j b _ (by rw[List.getElem?_eq_getElem hj,e]) hw) (by show 4<=2000;decide) (xZ (ok.ok _ (List.getElem_mem _)))
theorem yO{c:Nat}(h1:97<=c)(h2:c<=122):je ⟨#[c]⟩=true:=by
 have ea:(Str.ofString "a").cps.toList=[97]:=by decide +kernel
 have ez:(Str.ofString "z").cps.toList=[122]:=by decide +kernel
 unfold je
 rw[ea,ez]
 show(!decide (([c]:List Nat) < [97]) && !decide (([122]:List Nat) < [c]))=true
 rw[decide_eq_false (fun z=>by rw[List.cons_lt_cons_iff]at z;simp at z;omega),decide_eq_false (fun z=>by rw[List.cons_lt_cons_iff]at z;simp at z;omega)]
 rfl
theorem vU{z:Str}(h:cw z):gh (.str z)=true:=by
 rcases h with rfl | rfl | rfl | rfl<;>decide +kernel
theorem wU{H:Hp}{b:Addr}{m:Int}{w:Way}(h:H b=some (.tup w.vs))(ok:w.Ok m):bL H m (.ref b)=true:=by
 rw[mS h]
 obtain⟨c,h1,h2,e⟩:=ok.sg
 unfold Way.vs ft
 dsimp only
 rw[mx ok.r0 ok.r1,mx ok.o0 ok.o1,vU ok.dd,e]
 unfold h7
 dsimp only
 rw[yO h1 h2]
 rfl
theorem qK{H:Hp}:∀{bs:List Addr} {ws:List Way},aX H bs ws->(bs.map V.ref).map (cJ H)=ws.map Way.key
 | [],[],_=>rfl
 | [],_::_,h=>by cases h.1
 | _::_,[],h=>by cases h.1
 | b::bs,w::ws,h=>by
  rw[List.map_cons,List.map_cons,List.map_cons,qK (bs:=bs) (ws:=ws) ⟨Nat.succ.inj h.1,fun j b w e1 e2=>h.2 (j+1) b w e1 e2⟩,pV (h.2 0 b w rfl rfl)]
  rfl
theorem vv{H:Hp}{m:Int}{bs:List Addr}{ws:List Way}(h:aX H bs ws)(ok:∀w∈ws,w.Ok m):(bs.map V.ref).all (bL H m)=true:=by
 rw[List.all_eq_true]
 intro x hx
 obtain⟨b,hb,rfl⟩:=List.mem_map.mp hx
 obtain⟨j,hj,e⟩:=List.mem_iff_getElem.mp hb
 have hjw:j<ws.length:=by rw[←h.1];exact hj
 exact wU (h.2 j b _ (by rw[List.getElem?_eq_getElem hj,e]) (List.getElem?_eq_getElem hjw)) (ok _ (List.getElem_mem hjw))
theorem v7{H:Hp}{p q:Addr}{m:Int}{bs:List Addr}{ws:List Way}(h1:H p=some (.tup [.int m,.ref q]))(h2:H q=some (.tup (bs.map V.ref)))(h3:aX H bs ws)(m1:1<=m)(m2:m<=12)(ok:∀w∈ws,w.Ok m)(nd:ws.Nodup):cY H (.ref p)=decide (ws.length<=100):=by
 rw[fX h1]
 unfold dO
 dsimp only
 rw[decide_eq_true m1,decide_eq_true m2,oX h2]
 unfold iq
 have hk:(ws.map Way.key).Nodup:=by
  unfold List.Nodup at nd ⊢
  rw[List.pairwise_map]
  exact nd.imp fun ne e=>ne (Way.key_inj e)
 rw[vv h3 ok,qK h3,decide_eq_true hk,List.length_map,h3.1]
 simp
theorem xk{H H':Hp}{m:Int}{n:Nat}{v:V}(e:Ext H H')(h:bh H (n+1) v):dm H' m v=dm H m v:=by
 cases v with
 | ref p=>
  obtain⟨xs,h1,_,h3⟩:=h
  unfold dm
  dsimp only
  rcases h1 with h1 | h1
  ·rw[h1,e _ _ h1]
   dsimp only
   unfold iq
   have e1:xs.all (bL H' m)=xs.all (bL H m):=by
    rw[Bool.eq_iff_iff,List.all_eq_true,List.all_eq_true]
    exact⟨fun z x hx=>by rw[←lK e (h3 x hx)];exact z x hx,fun z x hx=>by rw[lK e (h3 x hx)];exact z x hx⟩
   have e2:xs.map (cJ H')=xs.map (cJ H):=List.map_congr_left fun x hx=>xy e (h3 x hx)
   rw[e1,e2]
  ·rw[h1,e _ _ h1]
 | _=>rfl
theorem zf{H H':Hp}{v:V}(e:Ext H H')(h:bh H 4 v):cY H' v=cY H v:=by
 cases v with
 | ref p=>
  obtain⟨xs,h1,_,h3⟩:=h
  unfold cY
  dsimp only
  rcases h1 with h1 | h1
  ·rw[h1,e _ _ h1]
   dsimp only
   unfold dO
   split
   ·rename_i m q _hl
    rw[xk e (h3 q (by simp))]
   ·rfl
  ·rw[h1,e _ _ h1]
 | _=>rfl
theorem gw{xs:List V}{k:Nat}:cf xs none (some (k:Int))=xs.take k:=by
 unfold cf
 rw[HT.kY,HT.mh,List.drop_zero,Nat.sub_zero]
 by_cases h:k<=xs.length
 ·rw[Nat.min_eq_left h]
 ·rw[Nat.min_eq_right (by omega),List.take_of_length_le (Nat.le_refl _),List.take_of_length_le (by omega)]
def bq(n:Nat)(f:Nat->Bool):List V:=(List.range n).map fun i=>V.bl (f i)
theorem cp(n:Nat)(f:Nat->Bool):(bq n f).length=n:=by simp[bq]
theorem dY{n i:Nat}(f:Nat->Bool)(h:i<n):(bq n f)[i]?=some (.bl (f i)):=by
 unfold bq
 rw[List.getElem?_map,List.getElem?_range h]
 rfl
theorem dZ{n:Nat}{f g:Nat->Bool}(h:∀i,i<n->f i=g i):bq n f=bq n g:=by
 unfold bq
 apply List.map_congr_left
 intro i hi
 rw[h i (List.mem_range.mp hi)]
theorem AF(n:Nat)(f:Nat->Bool):bq (n+1) f=bq n f++[V.bl (f n)]:=by
 unfold bq
 rw[List.range_succ,List.map_append]
 rfl
theorem lB{n k:Nat}(f:Nat->Bool)(c:Bool)(hk:k<n):(bq n f).set k (.bl c)=bq n fun i=>if i=k then c else f i:=by
 apply List.ext_getElem?
 intro i
 rcases Nat.lt_or_ge i n with hi | hi
 ·rw[List.getElem?_set,cp,dY _ hi,dY _ hi]
  by_cases h:k=i
  ·subst h
   simp[hi]
  ·rw[if_neg h,if_neg (Ne.symm h)]
 ·rw[List.getElem?_eq_none (by rw[List.length_set,cp];exact hi),List.getElem?_eq_none (by rw[cp];exact hi)]
theorem lx{n:Nat}{f:Nat->Bool}{i:Int}(h0:0<=i)(h:i<n):bN (bq n f) i=some (.bl (f i.toNat)):=mG h0 (dY f (by omega))
theorem n8(n:Nat)(c:Bool):(List.replicate n [V.bl c]).flatten=bq n fun _=>c:=by
 induction n with
 | zero=>rfl
 | succ n ih=>
  rw[List.replicate_succ',List.flatten_append,ih,AF]
  rfl
theorem Bl{n:Nat}{f:Nat->Bool}{i:Int}(h0:0<=i)(h:i<=n):cf (bq n f) none (some i)=bq i.toNat f:=by
 unfold cf
 rw[cp,HT.kY]
 have e:HT.bz n n (some i)=i.toNat:=by
  show(if i<0 then(i+(n:Int)).toNat else min i.toNat n)=i.toNat
  rw[if_neg (by omega)]
  omega
 rw[e,List.drop_zero,Nat.sub_zero]
 apply List.ext_getElem?
 intro k
 rcases Nat.lt_or_ge k i.toNat with hk | hk
 ·rw[List.getElem?_take_of_lt hk,dY _ (by omega),dY _ hk]
 ·rw[List.getElem?_eq_none (by rw[List.length_take,cp];omega),List.getElem?_eq_none (by rw[cp];omega)]
theorem zZ{x n s:Int}(hs:1<=s){i:Nat}(h:i<cW x n s):x+i*s<n:=by
 unfold cW at h
 rw[if_pos (by omega)]at h
 split at h
 ·have h1:(i:Int)<=(n-x-1) / s:=by
   have:0<=(n-x-1) / s:=Int.ediv_nonneg (by omega) (by omega)
   omega
  have h2:(i:Int)*s<=(n-x-1) / s*s:=Int.mul_le_mul_of_nonneg_right h1 (by omega)
  have h3:=Int.ediv_mul_le (n-x-1) (b:=s) (by omega)
  omega
 ·omega
theorem yD{x n s y:Int}(hs:1<=s)(h1:x<=y)(h2:y<n)(h3:(y-x) % s=0):∃i:Nat,i<cW x n s/\y=x+i*s:=by
 have hm:=Int.mul_ediv_add_emod (y-x) s
 rw[h3]at hm
 have hq:0<=(y-x) / s:=Int.ediv_nonneg (by omega) (by omega)
 refine⟨((y-x) / s).toNat,?_,?_⟩
 ·unfold cW
  rw[if_pos (by omega),if_pos (by omega)]
  have:(y-x) / s<=(n-x-1) / s:=Int.ediv_le_ediv (by omega) (by omega)
  omega
 ·rw[Int.toNat_of_nonneg hq,Int.mul_comm]
  omega
def ic(s:Int)(o a:List Int)(y:Nat):Bool:=o.contains (y:Int) || a.any fun x=>decide (x<=(y:Int)) && ((y:Int)-x) % s == 0
theorem wg{b s:Int}{o a:List Int}(S:Ok b s o a)(y:Nat):ic s o a y=fn b s o a y:=AX S (by omega)
theorem um{n:Nat}{f:Nat->Bool}{i:Int}(h0:0<=i)(h:i<=n):cf (bq n f) (some i) none=bq (n-i.toNat) fun k=>f (i.toNat+k):=by
 unfold cf
 rw[cp,HT.kY]
 have e:HT.bz n 0 (some i)=i.toNat:=by
  show(if i<0 then(i+(n:Int)).toNat else min i.toNat n)=i.toNat
  rw[if_neg (by omega)]
  omega
 rw[e]
 apply List.ext_getElem?
 intro k
 rcases Nat.lt_or_ge k (n-i.toNat)with hk | hk
 ·rw[List.getElem?_take_of_lt hk,List.getElem?_drop,dY _ (by omega),dY _ hk]
 ·rw[List.getElem?_eq_none (by rw[List.length_take,List.length_drop,cp];omega),List.getElem?_eq_none (by rw[cp];omega)]
def dB(n:Nat)(f:Nat->Bool):List PyData:=(List.range n).map fun i=>PyData.bool (f i)
theorem AU{α:Type}{R:V->PyData->Prop}{g:α->V}{k:α->PyData}(h:∀x,R (g x) (k x)):∀l:List α,Paired R (l.map g) (l.map k)
 | []=>.nil
 | x::l=>.cons (h x) (AU h l)
theorem uz{α:Type}(f g:α->Bool):∀l:List α,PyData.eqvAll (l.map fun i=>PyData.bool (f i)) (l.map fun i=>PyData.bool (g i))=l.all fun i=>f i == g i
 | []=>rfl
 | x::l=>by
  show(PyData.eqv (.bool (f x)) (.bool (g x)) && PyData.eqvAll (l.map fun i=>PyData.bool (f i)) (l.map fun i=>PyData.bool (g i)))=((f x == g x) && l.all fun i=>f i == g i)
  rw[uz f g l]
  rfl
theorem Bk{n:Nat}{f g:Nat->Bool}:PyData.eqv (.list (dB n f)) (.list (dB n g))=true↔∀i,i<n->f i=g i:=by
 show PyData.eqvAll (dB n f) (dB n g)=true↔_
 unfold dB
 rw[uz,List.all_eq_true]
 simp only[List.mem_range,beq_iff_eq]
def qR(K:PySem.W.Frag):Sp:=fun vs H Q _=>∃v n b s o a,vs=[v,.int n]/\bG H v b s o a/\Gd b s o a/\0<=n/\n<=20000 ∧
 ∀q H',Ext H H'->H q=none->H' q=some (.lst (bq n.toNat (fn b s o a)))->Q (.ref q) H'
abbrev iP:Stmt:=stq 14
theorem qF:FnScope ["stair","end","marks","number","later"] ["stair","end"] (aJ iP):=⟨rfl,rfl,rfl,by decide +kernel,rfl,by decide +kernel,by decide +kernel⟩
theorem zw{P:Program}{w:World}{K:PySem.W.Frag}{mg:Str->Option Value}{base:Heap}(D:Dfn K mg "marks_below" iP ["stair","end"])(T:Blt mg):Cal P w K mg base "marks_below" 1 ["stair","end"] (qR K):=by
 have nd:=(qF).nd
 refine D.ok qF (fun vs H Q E h=>?_) (fun X hX H vs Q E h=>?_)
 ·obtain⟨v,n,b,s,o,a,rfl,_⟩:=h;rfl
 ·obtain⟨f,cdv,A,outer,s,H0,E0,rfl,hr⟩:=hX
  obtain⟨v,n,b,s',o,a,rfl,hv,hg,hn0,hn1,q⟩:=h
  obtain⟨p,q',r,rfl,h1,h2,h3⟩:=hv
  have hs:=hg.ok.hs
  have hs8:=hg.s8
  have hb0:=hg.ok.hb
  have hb3:=hg.b3
  refine⟨_,(ao (aH (i:=2) nd rfl (Or.inl rfl) (ak kR (aR (aa aN ae)) (pv 1)))
    (ao (bw PassesOwn.never rfl (dG K (aq (aC K) (pv 0) af (fun _ _=>rfl))) (aF (i:=3) nd rfl (Or.inl rfl)) (ar (cB (aO eh (pv 3) (pv 1) (aG _)) (ar (dX aN (lH (pv 2) (pv 3) set_list))) aP)))
    (ao (bw PassesOwn.never rfl (dG K (aq (aC K) (pv 0) af (fun _ _=>rfl))) (aF (i:=3) nd rfl (Or.inl rfl)) (ar (bw PassesOwn.never rfl (yd rfl T.range_ (aa (pv 3) (aa (pv 1) (aa (aq (aC K) (pv 0) af (fun _ _=>rfl)) ae)))) (aF (i:=4) nd rfl (Or.inl rfl)) (ar (dX aN (lH (pv 2) (pv 4) set_list))))))
    (ar (aA (pv 2)))))),?_⟩
  walk_at "rd"
  refine⟨ai (by simp),ah fun m H1 e1 hm _=>?_⟩
  walk_at "rd"
  refine la hm (by omega) (ai (by simp;omega)) (ah fun m2 H2 e2 hm2 hn2=>?_)
  rw[n8]at hm2
  have e12:Ext H H2:=e1.trans e2
  have hmn:H m2=none:=e1.none hn2
  walk_at "rd"
  refine aB (aj.of (e12 _ _ h1)) rfl ?_
  walk_at "rd"
  refine dQ (aj.of (e12 _ _ h2)) ?_
  refine gj (xs:=o.map V.int) (fun i σ H'=>Ext H H'/\∃x,σ=[some (.ref p),some (.int n),some (.ref m2),x,none]/\H' m2=some (.lst (bq n.toNat fun y=>(o.take i).contains (y:Int))))
   ⟨e12,none,rfl,by simpa using hm2⟩ (fun i σ H' _ h=>aj.of (h.1 _ _ h2)) ?_ ?_
  ·rintro i v' σ H' hi ⟨e,x,rfl,hm'⟩
   obtain⟨z,rfl,hz⟩:=lU hi
   have hz0:=(hg.ok.ho.2 z (List.mem_of_getElem? hz))
   have htake:o.take (i+1)=o.take i++[z]:=by rw[List.take_add_one,hz];rfl
   walk_at "rd"
   refine ed (fun σ' H'=>Ext H H'/\∃x,σ'=[some (.ref p),some (.int n),some (.ref m2),x,none]/\H' m2=some (.lst (bq n.toNat fun y=>(o.take (i+1)).contains (y:Int)))) ?_ (fun _ _ h=>h)
   walk_at "rd"
   by_cases hzn:z<n
   ·rw[decide_eq_true hzn]
    refine av ?_
    walk_at "rd"
    refine lj hm' (lG (by omega) (by rw[cp];omega)) ?_
    rw[lB _ _ (by omega)]
    refine⟨cL e hmn,_,rfl,?_⟩
    rw[aY]
    congr 2
    refine dZ fun y hy=>?_
    rw[htake,List.contains_append]
    by_cases hyz:y=z.toNat
    ·rw[if_pos hyz]
     have:(y:Int)=z:=by omega
     rw[this]
     simp
    ·rw[if_neg hyz]
     have:[z].contains (y:Int)=false:=by
      rw[Bool.eq_false_iff]
      intro hc
      rw[List.contains_iff_mem,List.mem_singleton]at hc
      omega
     rw[this,Bool.or_false]
   ·rw[decide_eq_false hzn]
    refine au ?_
    walk_at "rd"
    refine⟨e,_,rfl,?_⟩
    rw[hm']
    congr 2
    refine dZ fun y hy=>?_
    rw[htake,List.contains_append]
    have:[z].contains (y:Int)=false:=by
     rw[Bool.eq_false_iff]
     intro hc
     rw[List.contains_iff_mem,List.mem_singleton]at hc
     omega
    rw[this,Bool.or_false]
  ·rintro σ H3 ⟨e3,x,rfl,hm3⟩
   rw[List.length_map,List.take_length]at hm3
   walk_at "rd"
   refine aB (aj.of (e3 _ _ h1)) rfl ?_
   walk_at "rd"
   refine dQ (aj.of (e3 _ _ h3)) ?_
   refine gj (xs:=a.map V.int) (fun i σ H'=>Ext H H'/\∃x y,σ=[some (.ref p),some (.int n),some (.ref m2),x,y]/\H' m2=some (.lst (bq n.toNat (ic s' o (a.take i)))))
    ⟨e3,_,_,rfl,by rw[hm3];congr 2;exact dZ fun y _=>by simp[ic]⟩ (fun i σ H' _ h=>aj.of (h.1 _ _ h3)) ?_ ?_
   ·rintro i v' σ H' hi ⟨e,x,y,rfl,hm'⟩
    obtain⟨z,rfl,hz⟩:=lU hi
    have hz0:=(hg.ok.ha.2 z (List.mem_of_getElem? hz))
    have htake:a.take (i+1)=a.take i++[z]:=by rw[List.take_add_one,hz];rfl
    walk_at "rd"
    refine aB (aj.of (e _ _ h1)) rfl ?_
    walk_at "rd"
    refine A4 (by unfold hZ;omega) ?_
    refine AR (fun j σ H'=>Ext H H'/\∃y,σ=[some (.ref p),some (.int n),some (.ref m2),some (.int z),y]/\H' m2=some (.lst (bq n.toNat fun y=>ic s' o (a.take i) y || (List.range j).any fun k=>decide ((y:Int)=z+(k:Nat)*s'))))
     ⟨e,_,rfl,by rw[hm'];congr 2;exact dZ fun y _=>by simp⟩ ?_ ?_
    ·rintro j σ H'' hj ⟨e',y',rfl,hm''⟩
     have hlt:=zZ hs hj
     have hge:0<=(j:Int)*s':=Int.mul_nonneg (by omega) (by omega)
     walk_at "rd"
     refine lj hm'' (lG (by omega) (by rw[cp];omega)) ?_
     rw[lB _ _ (by omega)]
     refine⟨cL e' hmn,_,rfl,?_⟩
     rw[aY]
     congr 2
     refine dZ fun y hy=>?_
     rw[List.range_succ,List.any_append]
     by_cases hyz:y=(z+(j:Int)*s').toNat
     ·rw[if_pos hyz]
      have:(y:Int)=z+(j:Nat)*s':=by omega
      simp[this]
     ·rw[if_neg hyz]
      have:(List.any [j] fun k=>decide ((y:Int)=z+(k:Nat)*s'))=false:=by
       simp
       omega
      rw[this,Bool.or_false]
    ·rintro σ H'' ⟨e',y',rfl,hm''⟩
     refine⟨e',_,_,rfl,?_⟩
     rw[hm'']
     congr 2
     refine dZ fun y hy=>?_
     rw[htake]
     unfold ic
     rw[List.any_append,Bool.or_assoc]
     congr 2
     rw[Bool.eq_iff_iff,List.any_eq_true]
     simp only[List.mem_range,decide_eq_true_eq,List.any_cons,List.any_nil,Bool.or_false,Bool.and_eq_true,beq_iff_eq]
     constructor
     ·rintro⟨k,hk,hy'⟩
      have hge:0<=(k:Int)*s':=Int.mul_nonneg (by omega) (by omega)
      refine⟨by omega,?_⟩
      rw[show (y:Int)-z=s'*(k:Int) by rw[Int.mul_comm];omega]
      exact Int.mul_emod_right _ _
     ·rintro⟨hy1,hy2⟩
      obtain⟨k,hk1,hk2⟩:=yD (n:=n) hs hy1 (by omega) hy2
      exact⟨k,hk1,hk2⟩
   ·rintro σ H4 ⟨e4,x',y',rfl,hm4⟩
    rw[List.length_map,List.take_length]at hm4
    walk_at "rd"
    refine q m2 H4 e4 hmn ?_
    rw[hm4]
    congr 2
    exact dZ fun y _=>wg hg.ok y
def m6(K:PySem.W.Frag):Sp:=fun vs H Q _=>∃v x b s o a,vs=[v,.int x]/\bG H v b s o a/\Gd b s o a/\Q (.bl (mem b s o a x)) H
abbrev i6:Stmt:=stq 50
theorem rP:FnScope ["_law_stair","_law_x","_law_base","_law_step","_law_once","_law_again"] ["_law_stair","_law_x"] (aJ i6):=⟨rfl,rfl,rfl,by decide +kernel,rfl,by decide +kernel,by decide +kernel⟩
theorem y4{P:Program}{w:World}{K:PySem.W.Frag}{mg:Str->Option Value}{base:Heap}(D:Dfn K mg "_law_holds" i6 ["_law_stair","_law_x"])(T:Blt mg):Cal P w K mg base "_law_holds" 1 ["_law_stair","_law_x"] (m6 K):=by
 have nd:=(rP).nd
 refine D.ok rP (fun vs H Q E h=>?_) (fun X hX H vs Q E h=>?_)
 ·obtain⟨v,x,b,s,o,a,rfl,_⟩:=h;rfl
 ·obtain⟨f,cdv,A,outer,s,H0,E0,rfl,hr⟩:=hX
  obtain⟨v,x,b,s',o,a,rfl,hv,hg,q⟩:=h
  have hs:=hg.ok.hs
  obtain⟨p,q',r,rfl,h1,h2,h3⟩:=hv
  refine⟨_,(ao (dX (pv 0) (ff (n:=4) K rfl (br (aF (i:=2) nd rfl (Or.inl rfl)) (br (aF (i:=3) nd rfl (Or.inl rfl)) (br (aF (i:=4) nd rfl (Or.inl rfl)) (br (aF (i:=5) nd rfl (Or.inl rfl)) eM))))))
    (ao (aU (aO eh (pv 1) (pv 2) (aG _)) (ar (aA (cD (kD K) (pv 1) (pv 4) (by with_unfolding_all rfl)))) aP)
    (ar (aA (cD (kD K) (ak aI (pv 2) (ak bO (ak cj (pv 1) (pv 2)) (pv 3))) (pv 5) (by with_unfolding_all rfl)))))),?_⟩
  walk_at "rd"
  refine eR (aj.of h1) rfl ?_
  walk_at "rd"
  by_cases hx:x<b
  ·rw[decide_eq_true hx]
   refine av ?_
   walk_at "rd"
   refine jF (.inr (aj.of h2)) rfl (jn o) ?_
   rw[fY _ hx]at q
   rw[kx]
   exact q
  ·rw[decide_eq_false hx]
   refine au ?_
   walk_at "rd"
   refine jF (.inr (aj.of h3)) rfl (jn a) ?_
   rw[fL _ (by omega)]at q
   rw[kx]
   exact q
def uP(K:PySem.W.Frag):Sp:=fun vs H Q _=>∃a b:Nat,vs=[.int a,.int b]/\Q (.int (Nat.gcd a b:Nat)) H
abbrev i7:Stmt:=stq 31
theorem tW:FnScope ["one","other","great","small","over"] ["one","other"] (aJ i7):=⟨rfl,rfl,rfl,by decide +kernel,rfl,by decide +kernel,by decide +kernel⟩
theorem yg{P:Program}{w:World}{K:PySem.W.Frag}{mg:Str->Option Value}{base:Heap}(D:Dfn K mg "greatest_divisor" i7 ["one","other"])(T:Blt mg):Cal P w K mg base "greatest_divisor" 1 ["one","other"] (uP K):=by
 have nd:=(tW).nd
 refine D.ok tW (fun vs H Q E h=>?_) (fun X hX H vs Q E h=>?_)
 ·obtain⟨a,b,rfl,_⟩:=h;rfl
 ·obtain⟨f,cdv,A,outer,s,H0,E0,rfl,hr⟩:=hX
  obtain⟨a,b,rfl,q⟩:=h
  refine⟨_,(ao (aH (i:=2) nd rfl (Or.inl rfl) (pv 0))
    (ao (aH (i:=3) nd rfl (Or.inl rfl) (pv 1))
    (ao (lI PassesOwn.never (aO eZ (pv 3) af (aG _)) (ao (aH (i:=4) nd rfl (Or.inl rfl) (ak bO (pv 2) (pv 3)))
    (ao (aH (i:=2) nd rfl (Or.inl rfl) (pv 3))
    (ar (aH (i:=3) nd rfl (Or.inl rfl) (pv 4))))))
    (ar (aA (pv 2)))))),?_⟩
  walk_at "rd"
  refine lZ (fun m σ H'=>H'=H/\∃(x y:Nat) (o:Option V),σ=[some (.int a),some (.int b),some (.int x),some (.int y),o]/\Nat.gcd x y=Nat.gcd a b/\m=y)
   (fun σ H'=>H'=H/\∃(x:Nat) (s:St),σ=some (.int a)::some (.int b)::some (.int x)::s/\x=Nat.gcd a b) b ⟨rfl,a,b,none,rfl,rfl,rfl⟩ ?_ ?_
  ·rintro m σ H' ⟨rfl,x,y,o,rfl,hg,rfl⟩
   walk_at "rd"
   by_cases h0:(0:Int)<(m:Int)
   ·rw[decide_eq_true h0]
    refine av ⟨_,fun _ _ h=>h,?_⟩
    walk_at "rd"
    refine⟨x % m,Nat.mod_lt _ (by omega),rfl,m,x % m,_,rfl,by rw[zD,hg],rfl⟩
   ·rw[decide_eq_false h0]
    have hm:m=0:=by omega
    subst hm
    exact au ⟨rfl,x,_,rfl,by rw[←hg,Nat.gcd_zero_right]⟩
  rintro σ H' ⟨rfl,x,s1,rfl,rfl⟩
  walk_at "rd"
  exact q
def SN(H:Hp)(v:V)(b s:Nat)(o a:List Int):Prop:=bG H v b s o a/\Gd b s o a
theorem SN.ext{H H':Hp}(e:Ext H H'){v:V}{b s:Nat}{o a:List Int}(h:SN H v b s o a):SN H' v b s o a:=⟨h.1.ext e,h.2⟩
theorem SN.s1{H:Hp}{v:V}{b s:Nat}{o a:List Int}(h:SN H v b s o a):1<=s:=by have:=h.2.ok.hs;omega
theorem SN.s8{H:Hp}{v:V}{b s:Nat}{o a:List Int}(h:SN H v b s o a):s<=840:=by have:=h.2.s8;omega
theorem SN.b3{H:Hp}{v:V}{b s:Nat}{o a:List Int}(h:SN H v b s o a):b<=3000:=by have:=h.2.b3;omega
def mX(K:PySem.W.Frag):Sp:=fun vs H Q _=>∃v1 v2 b1 s1 o1 a1 b2 s2 o2 a2,vs=[v1,v2]/\SN H v1 b1 s1 o1 a1/\SN H v2 b2 s2 o2 a2/\Q (.int (cm s1 s2:Nat)) H
abbrev kZ:Stmt:=stq 32
theorem sW:FnScope ["one","other"] ["one","other"] (aJ kZ):=⟨rfl,rfl,rfl,by decide +kernel,rfl,by decide +kernel,by decide +kernel⟩
theorem yo{P:Program}{w:World}{K:PySem.W.Frag}{mg:Str->Option Value}{base:Heap}(D:Dfn K mg "common_step" kZ ["one","other"])(T:Blt mg)(C_greatest_divisor:Cal P w K mg base "greatest_divisor" 1 ["one","other"] (uP K)):Cal P w K mg base "common_step" 2 ["one","other"] (mX K):=by
 have nd:=(sW).nd
 refine D.ok sW (fun vs H Q E h=>?_) (fun X hX H vs Q E h=>?_)
 ·obtain⟨v1,v2,b1,s1,o1,a1,b2,s2,o2,a2,rfl,_⟩:=h;rfl
 ·obtain⟨f,cdv,A,outer,s,H0,E0,rfl,hr⟩:=hX
  obtain⟨v1,v2,b1,s1,o1,a1,b2,s2,o2,a2,rfl,h1,h2,q⟩:=h
  have g1:=h1.s1
  have g8:=h1.s8
  have f1:=h2.s1
  have f8:=h2.s8
  obtain⟨⟨p1,q1,r1,rfl,k1,_,_⟩,_⟩:=h1
  obtain⟨⟨p2,q2,r2,rfl,k2,_,_⟩,_⟩:=h2
  refine⟨_,(ar (aA (ak cM (ak iE (aq (aC K) (pv 0) af (fun _ _=>rfl)) (aw C_greatest_divisor hr (aa (aq (aC K) (pv 0) af (fun _ _=>rfl)) (aa (aq (aC K) (pv 1) af (fun _ _=>rfl)) ae)))) (aq (aC K) (pv 1) af (fun _ _=>rfl))))),?_⟩
  walk_at "rd"
  refine aB (aj.of k1) rfl ?_
  walk_at "rd"
  refine aB (aj.of k1) rfl ?_
  walk_at "rd"
  refine aB (aj.of k2) rfl ?_
  walk_at "rd"
  refine⟨s1,s2,rfl,?_⟩
  have hg:0<Nat.gcd s1 s2:=Nat.gcd_pos_of_pos_left s2 g1
  have hg2:Nat.gcd s1 s2<=s1:=Nat.le_of_dvd g1 (Nat.gcd_dvd_left s1 s2)
  refine rd_I (show(0:Int)<((Nat.gcd s1 s2:Nat):Int)/\((Nat.gcd s1 s2:Nat):Int)<2 ^ 64 by omega) ?_
  walk_at "rd"
  refine aB (aj.of k2) rfl ?_
  refine rd_I (show fN _ _ from .inr (by omega)) ?_
  have e:((s1:Int) / ((Nat.gcd s1 s2:Nat):Int))*(s2:Int)=((cm s1 s2:Nat):Int):=by
   unfold cm
   rw[Int.natCast_mul]
   rfl
  rw[e]
  exact q
theorem xh{b s:Nat}{o a:List Int}(g:Gd b s o a):bH (fn b s o a) b s:=by
 have:=v8 g.ok
 simpa using this
theorem ki{a b:Str}:decide (V.str a=V.str b)=decide (a=b):=by
 by_cases h:a=b
 ·subst h;simp
 ·rw[decide_eq_false h,decide_eq_false (fun z=>h (V.str.inj z))]
theorem iL{a b:Str}{H:Hp}{Q:VK}(h:Q (.bl (decide (a=b))) H):mF (.str a) (.str b) H Q:=⟨rfl,by rw[ki];exact h⟩
theorem dk{α β:Type}{F:α->β->Prop}{cs:List α}{ts:List β}(h:Paired F cs ts):∀{i:Nat} {c:α},cs[i]?=some c->∃t,ts[i]?=some t/\F c t:=by
 induction h with
 | nil=>intro i c e;simp at e
 | cons h t ih=>
  intro i c e
  cases i with
  | zero=>cases e;exact⟨_,rfl,h⟩
  | succ i=>exact ih e
abbrev dN(H:Hp)(a:Addr)(x:Bfs.Pl):Prop:=H a=some (.tup [.int x.1,.int x.2])
theorem dN.put{H:Hp}{f a:Addr}{x:Bfs.Pl}{o o':HO}(hf:H f=some o)(hn:∀xs,o≠.tup xs)(h:dN H a x):dN (upd H f o') a x:=by
 show upd H f o' a=_
 rw[aT (fj h hf (fun z=>hn _ z.symm))]
 exact h
def lQ:List (Key×V):=[(.inr "up",.int 1),(.inr "down",.int (-1)),(.inr "stay",.int 0),(.inr "zero",.int 0)]
theorem zF{w:World}{K:PySem.W.Frag}{a:Addr}{t1 t2 t3 t4 t5 t6 t7 t8:Tok}{ep:Nat}(h:K.lookup a=some (fV w [("up",t1,.int 1 t2),("down",t3,.int (-1) t4),("stay",t5,.int 0 t6),("zero",t7,.int 0 t8)] ep))(hs:(a == sysModules)=false):GDict w K a lQ:=
 ⟨⟨_,_,h,.cons ⟨rfl,⟨_,rfl⟩⟩ (.cons ⟨rfl,⟨_,rfl⟩⟩ (.cons ⟨rfl,⟨_,rfl⟩⟩ (.cons ⟨rfl,⟨_,rfl⟩⟩ .nil)))⟩,by decide +kernel,hs⟩
def rz(z:Str):Int:=if z = "up" then 1 else if z = "down" then -1 else 0
theorem AA{z:Str}(h:cw z):cc lQ (.inr z)=some (.int (rz z)):=by
 rcases h with rfl | rfl | rfl | rfl<;>decide +kernel
def rd(K:PySem.W.Frag):Sp:=fun vs H Q _=>∃b w,vs=[.ref b]/\H b=some (.tup (Way.vs w))/\cw w.deed/\Q (.int (rz w.deed)) H
abbrev jZ:Stmt:=stq 29
theorem uG:FnScope ["way"] ["way"] (aJ jZ):=⟨rfl,rfl,rfl,by decide +kernel,rfl,by decide +kernel,by decide +kernel⟩
theorem yr{P:Program}{w:World}{K:PySem.W.Frag}{mg:Str->Option Value}{base:Heap}(D:Dfn K mg "raised_by" jZ ["way"])(T:Blt mg)(g_RAISED:∃a,mg "RAISED" = some (.ref a)/\GDict w K a lQ):Cal P w K mg base "raised_by" 1 ["way"] (rd K):=by
 have nd:=(uG).nd
 refine D.ok uG (fun vs H Q E h=>?_) (fun X hX H vs Q E h=>?_)
 ·obtain⟨b,w,rfl,_⟩:=h;rfl
 ·obtain⟨f,cdv,A,outer,s,H0,E0,rfl,hr⟩:=hX
  obtain⟨a_RAISED,m_RAISED,d_RAISED⟩:=g_RAISED
  obtain⟨b,w,rfl,h1,hd,q⟩:=h
  refine⟨_,(ar (aA (vM rfl m_RAISED d_RAISED (aq (aC K) (pv 0) af (fun _ _=>rfl)) (fun _ _=>rfl)))),?_⟩
  walk_at "rd"
  refine aB (aj.of h1) (v:=.str w.deed) rfl ?_
  exact Ba (AA hd) q
theorem uY(z:Str):-1<=rz z:=by
 unfold rz
 split
 ·decide
 ·split<;>decide
theorem yi(z:Str):rz z<=1:=by
 unfold rz
 split
 ·decide
 ·split<;>decide
theorem Kn.ext{H H':Hp}(e:Ext H H'):∀{d:Nat} {v:V},Kn H d v->Kn H' d v
 | 0,v,⟨n,h⟩=>⟨n,mj e h⟩
 | d+1,v,⟨⟨n,h⟩,k⟩=>⟨⟨n,mj e h⟩,fun p xs hv hp x hx=>by
  subst hv
  rcases h with⟨rfl,ys,hy⟩ | ⟨rfl,ys,hy⟩
  ·have:=e _ _ hy
   rw[hp]at this
   cases this
  ·have:=e _ _ hy
   rw[hp]at this
   cases this
   exact Kn.ext e (k p _ rfl hy x hx)⟩
def m7(H:Hp):V->Bool
 | .ref p=>match H p with
  | some (.tup [.int b,.int s,_,_])=>decide (b<=3000) && decide (s<=840)
  | _=>false
 | _=>false
theorem iw{H:Hp}{p:Addr}{b s:Int}{o a:V}(h:H p=some (.tup [.int b,.int s,o,a])):m7 H (.ref p)=(decide (b<=3000) && decide (s<=840)):=by simp only[m7,h]
def bB(H:Hp)(v:V):Bool:=cy H v && m7 H v
theorem An{H:Hp}{v:V}(h:cy H v=true):∃p b s o a,v=.ref p/\H p=some (.tup [.int b,.int s,o,a]):=by
 cases v with
 | ref p=>
  cases e:H p with
  | none=>simp only[cy,e]at h;cases h
  | some w=>
   cases w with
   | tup xs=>
    by_cases hl:xs.length=4
    ·obtain⟨b,s,o,a,rfl⟩:=mU hl
     rw[dD e]at h
     cases hb:isInt b with
     | false=>rw[jW hb]at h;cases h
     | true=>
      cases hs:isInt s with
      | false=>rw[jm hs]at h;cases h
      | true=>
       obtain⟨b',rfl⟩:=cX hb
       obtain⟨s',rfl⟩:=cX hs
       exact⟨p,b',s',o,a,rfl,e⟩
    ·rw[iB e hl]at h
     cases h
   | _=>simp only[cy,e]at h;cases h
 | _=>cases h
structure StT where
 b:Nat
 s:Nat
 o:List Int
 a:List Int
abbrev StT.f(t:StT):Nat->Bool:=fn t.b t.s t.o t.a
abbrev cu(H:Hp)(v:V)(t:StT):Prop:=SN H v t.b t.s t.o t.a
abbrev bD(H:Hp)(vs:List V)(ts:List StT):Prop:=Paired (cu H) vs ts
theorem bD.ext{H H':Hp}(e:Ext H H'):∀{vs:List V} {ts:List StT},bD H vs ts->bD H' vs ts
 | _,_,.nil=>.nil
 | _,_,.cons h t=>.cons (h.ext e) (bD.ext e t)
theorem bD.len{H:Hp}:∀{vs:List V} {ts:List StT},bD H vs ts->vs.length=ts.length
 | _,_,.nil=>rfl
 | _,_,.cons _ t=>by rw[List.length_cons,List.length_cons,bD.len t]
theorem SN.near{H:Hp}{v:V}{b s:Nat}{o a:List Int}(h:SN H v b s o a):bB H v=true:=by
 have h3:=h.2.b3
 have h8:=h.2.s8
 unfold bB
 rw[h.1.yes h.2.ok]
 obtain⟨p,q,r,rfl,h1,_,_⟩:=h.1
 rw[iw h1,decide_eq_true h3,decide_eq_true h8]
 rfl
def qG(K:PySem.W.Frag):Sp:=fun vs H Q _=>∃v,vs=[v]/\Kn H 2 v/\Q (.bl (bB H v)) H
abbrev kF:Stmt:=stq 34
theorem uf:FnScope ["thing"] ["thing"] (aJ kF):=⟨rfl,rfl,rfl,by decide +kernel,rfl,by decide +kernel,by decide +kernel⟩
theorem x9{P:Program}{w:World}{K:PySem.W.Frag}{mg:Str->Option Value}{base:Heap}(D:Dfn K mg "is_near_stair" kF ["thing"])(T:Blt mg)(g_GREATEST_STEP:∃t,mg "GREATEST_STEP" = some (.int 840 t))(g_GREATEST_BASE:∃t,mg "GREATEST_BASE" = some (.int 3000 t))(C_is_stair:Cal P w K mg base "is_stair" 4 ["thing"] (nr K)):Cal P w K mg base "is_near_stair" 5 ["thing"] (qG K):=by
 have nd:=(uf).nd
 refine D.ok uf (fun vs H Q E h=>?_) (fun X hX H vs Q E h=>?_)
 ·obtain⟨v,rfl,_⟩:=h;rfl
 ·obtain⟨f,cdv,A,outer,s,H0,E0,rfl,hr⟩:=hX
  obtain⟨t_GREATEST_STEP,c_GREATEST_STEP⟩:=g_GREATEST_STEP
  obtain⟨t_GREATEST_BASE,c_GREATEST_BASE⟩:=g_GREATEST_BASE
  obtain⟨v,rfl,hk,q⟩:=h
  refine⟨_,(ar (aA (bR (aw C_is_stair hr (aa (pv 0) ae)) (bR (cD fH (aq (aC K) (pv 0) af (fun _ _=>rfl)) (fc (v:=.int 3000) rfl c_GREATEST_BASE ⟨_,rfl⟩) (aG _)) (cv (cD fH (aq (aC K) (pv 0) af (fun _ _=>rfl)) (fc (v:=.int 840) rfl c_GREATEST_STEP ⟨_,rfl⟩) (aG _))))))),?_⟩
  walk_at "rd"
  refine⟨v,rfl,hk,?_⟩
  refine rd_exb ?_
  unfold bB at q
  cases hv:cy H v with
  | false=>
   refine au ?_
   rw[hv]at q
   exact q
  | true=>
   refine av ?_
   obtain⟨p,b,s,o,a,rfl,hp⟩:=An hv
   rw[hv,iw hp,Bool.true_and]at q
   walk_at "rd"
   refine aB (aj.of hp) (v:=.int b) rfl ?_
   walk_at "rd"
   cases hb:decide (b<=3000)with
   | false=>
    refine au ?_
    rw[hb]at q
    exact q
   | true=>
    refine av ?_
    rw[hb,Bool.true_and]at q
    walk_at "rd"
    refine aB (aj.of hp) (v:=.int s) rfl ?_
    walk_at "rd"
    exact q
abbrev fF(x y:StT):Bool:=decide (cm x.s y.s<=840)
def steps(ts:List StT):Bool:=ts.all fun x=>ts.all fun y=>fF x y
def oF(K:PySem.W.Frag):Sp:=fun vs H Q _=>∃l xs ts,vs=[.ref l]/\H l=some (.lst xs)/\bD H xs ts/\xs.length<=1000/\∀H',Ext H H'->Q (.bl (steps ts)) H'
abbrev jP:Stmt:=stq 35
theorem tX:FnScope ["stairs","one"] ["stairs"] (aJ jP):=⟨rfl,rfl,rfl,by decide +kernel,rfl,by decide +kernel,by decide +kernel⟩
theorem wy{P:Program}{w:World}{K:PySem.W.Frag}{mg:Str->Option Value}{base:Heap}(D:Dfn K mg "are_near_steps" jP ["stairs"])(T:Blt mg)(g_GREATEST_STEP:∃t,mg "GREATEST_STEP" = some (.int 840 t))(C_common_step:Cal P w K mg base "common_step" 2 ["one","other"] (mX K)):Cal P w K mg base "are_near_steps" 3 ["stairs"] (oF K):=by
 have nd:=(tX).nd
 refine D.ok tX (fun vs H Q E h=>?_) (fun X hX H vs Q E h=>?_)
 ·obtain⟨l,xs,ts,rfl,_⟩:=h;rfl
 ·obtain⟨f,cdv,A,outer,s,H0,E0,rfl,hr⟩:=hX
  obtain⟨t_GREATEST_STEP,c_GREATEST_STEP⟩:=g_GREATEST_STEP
  obtain⟨l,xs,ts,rfl,hl,hs,hn,q⟩:=h
  refine⟨_,(ao (bw PassesOwn.never rfl (cZ K (pv 0)) (aF (i:=1) nd rfl (Or.inr rfl)) (ar (aU (aZ (aV (nS K rfl) rfl T.any_ PyProof.Rows.boot_any (aa (cU ["other"] [1] (cZ K (pv 0)) (fun _=>(aF (i:=0) (show(["other","one"]:List Str).Nodup from by decide +kernel) rfl (Or.inl rfl) (Or.inr rfl))) (fun _=>fg) (fun _=>(cD eZ (aw C_common_step hr (aa (pv 1) (aa (pv 0) ae))) (fc (v:=.int 840) rfl c_GREATEST_STEP ⟨_,rfl⟩) (aG _)))) ae))) (ar (aA aN)) aP)))
    (ar (aA aN))),?_⟩
  walk_at "rd"
  refine cR (ag.of hl) ?_
  refine forL (xs:=xs) (fun i σ H'=>Ext H H'/\(∃w,σ=[some (.ref l),w])/\((ts.take i).all fun x=>ts.all fun y=>fF x y)=true) ⟨Ext.rfl' _,⟨_,rfl⟩,rfl⟩ (fun i σ H' _ h=>ag.of (h.1 _ _ hl)) ?_ ?_
  ·rintro i v σ H1 hx ⟨e1,⟨w,rfl⟩,ha⟩
   obtain⟨t,ht,hvt⟩:=dk hs hx
   walk_at "rd"
   refine cR (ag.of (e1 _ _ hl)) ?_
   refine mY (xs:=xs) (fun j ys H'=>Ext H H'/\ys=((ts.take j).map fun y=>!fF t y).map V.bl) (eS (by omega)) ⟨e1,rfl⟩ (fun j ys H' _ h=>⟨ag.of (h.1 _ _ hl),by rw[h.2,List.length_map,List.length_map,List.length_take];omega⟩) ?_ ?_
   ·rintro j v' ys H2 hx' ⟨e2,rfl⟩
    obtain⟨t',ht',hvt'⟩:=dk hs hx'
    walk_at "rd"
    refine av ?_
    walk_at "rd"
    refine⟨v,v',t.b,t.s,t.o,t.a,t'.b,t'.s,t'.o,t'.a,rfl,hvt.ext e2,hvt'.ext e2,?_⟩
    walk_at "rd"
    refine⟨e2,?_⟩
    rw[List.take_add_one,ht',List.map_append,List.map_append]
    congr 1
    show[V.bl _]=[V.bl _]
    congr 2
    rw[Bool.eq_iff_iff]
    simp
    omega
   ·rintro ys H2 p ⟨e2,rfl⟩ hp
    have e3:Ext H (upd H2 p (.lst (((ts.take xs.length).map fun y=>!fF t y).map V.bl))):=e2.trans (cb hp)
    walk_at "rd"
    refine⟨p,_,rfl,ag.of aY,?_⟩
    refine⟨_,rfl,?_⟩
    have hany:(((ts.take xs.length).map fun y=>!fF t y).any id) = !(ts.all fun y=>fF t y):=by
     rw[hs.len,List.take_length,List.any_map,Bool.eq_iff_iff,List.any_eq_true,Bool.not_eq_true',Bool.eq_false_iff,ne_eq,List.all_eq_true]
     simp
    rw[hany]
    cases hb:(ts.all fun y=>fF t y)with
    | true=>
     refine au ?_
     walk_at "rd"
     refine⟨e3,⟨_,rfl⟩,?_⟩
     rw[List.take_add_one,ht,List.all_append,ha]
     show(_ && (true && _))=true
     simp[hb]
    | false=>
     refine av ?_
     walk_at "rd"
     have hst:steps ts=false:=by
      unfold steps
      rw[Bool.eq_false_iff]
      intro hc
      have:=List.all_eq_true.mp hc t (List.mem_of_getElem? ht)
      rw[hb]at this
      cases this
     have:=q _ e3
     rw[hst]at this
     exact this
  ·rintro σ H1 ⟨e1,⟨w,rfl⟩,ha⟩
   walk_at "rd"
   rw[hs.len,List.take_length]at ha
   have:=q H1 e1
   unfold steps at this
   rw[ha]at this
   exact this
def jV(K:PySem.W.Frag):Sp:=fun vs H Q _=>∃hp hq m tv,vs=[.ref hp,tv]/\H hp=some (.tup [.int m,hq]) ∧
  ((∃n,bS H tv n/\dA n "list" = some false/\∀H',Ext H H'->Q (.bl false) H') ∨
   ∃l xs,tv=.ref l/\H l=some (.lst xs)/\xs.length<=1000/\(∀x∈xs,Kn H 2 x) ∧
    (((xs.length:Int)≠m/\∀H',Ext H H'->Q (.bl false) H')\/((xs.length:Int)=m/\(∃x∈xs,bB H x=false)/\∀H',Ext H H'->Q (.bl false) H')\/((xs.length:Int)=m/\∃ts,bD H xs ts/\∀H',Ext H H'->Q (.bl (steps ts)) H')))
abbrev jR:Stmt:=stq 36
theorem qv:FnScope ["house","thing"] ["house","thing"] (aJ jR):=⟨rfl,rfl,rfl,by decide +kernel,rfl,by decide +kernel,by decide +kernel⟩
theorem Bc{P:Program}{w:World}{K:PySem.W.Frag}{mg:Str->Option Value}{base:Heap}(D:Dfn K mg "are_stairs_for" jR ["house","thing"])(T:Blt mg)(C_are_near_steps:Cal P w K mg base "are_near_steps" 3 ["stairs"] (oF K))(C_is_near_stair:Cal P w K mg base "is_near_stair" 5 ["thing"] (qG K)):Cal P w K mg base "are_stairs_for" 6 ["house","thing"] (jV K):=by
 have nd:=(qv).nd
 refine D.ok qv (fun vs H Q E h=>?_) (fun X hX H vs Q E h=>?_)
 ·obtain⟨hp,hq,m,tv,rfl,_⟩:=h;rfl
 ·obtain⟨f,cdv,A,outer,s,H0,E0,rfl,hr⟩:=hX
  obtain⟨hp,hq,m,tv,rfl,hh,h⟩:=h
  refine⟨_,(ao (aU (PW.pt (bV (bt (aZ (aV cS rfl T.isinstance_ PyProof.Rows.boot_isinstance (aa (pv 1) (aa (cP (v:=.ty "list") rfl T.list_ PyProof.Rows.boot_list rfl) ae))))) (cz (aO iN (aV (dj K) rfl T.len_ PySem.boot_len (aa (pv 1) ae)) (aq (aC K) (pv 0) af (fun _ _=>rfl)) (aG _))))) (ar (aA aN)) aP)
    (ar (aA (bR (aV (mO K rfl) rfl T.all_ PyProof.Rows.boot_all (aa (cU ["stair"] [] (cZ K (pv 1)) (fun _=>(aF (i:=0) (show(["stair"]:List Str).Nodup from by decide +kernel) rfl (Or.inl rfl) (Or.inr rfl))) (fun _=>fg) (fun _=>(aw C_is_near_stair hr (aa (pv 0) ae)))) ae)) (cv (aw C_are_near_steps hr (aa (pv 1) ae))))))),?_⟩
  walk_at "rd"
  rcases h with⟨n,hn,hi,q⟩ | ⟨l,xs,rfl,hl,hlen,hk,h⟩
  ·refine ck hn hi ?_
   walk_at "rd"
   refine av ?_
   walk_at "rd"
   exact q H (Ext.rfl' _)
  ·refine ck (.inl ⟨rfl,xs,hl⟩) (b:=true) rfl ?_
   walk_at "rd"
   refine au ?_
   walk_at "rd"
   refine gK (ag.of hl) ?_
   walk_at "rd"
   refine aB (aj.of hh) (v:=.int m) rfl ?_
   walk_at "rd"
   by_cases hm:(xs.length:Int)=m
   ·rw[decide_eq_true hm]
    refine au ?_
    walk_at "rd"
    refine cR (ag.of hl) ?_
    refine mY (xs:=xs) (fun j ys H'=>H'=H/\ys=((xs.take j).map (bB H)).map V.bl) (eS (by omega)) ⟨rfl,rfl⟩ (fun j ys H' _ h=>⟨by rw[h.1];exact ag.of hl,by rw[h.2,List.length_map,List.length_map,List.length_take];omega⟩) ?_ ?_
    ·rintro j v ys H2 hx ⟨rfl,rfl⟩
     walk_at "rd"
     refine av ?_
     walk_at "rd"
     refine⟨v,rfl,hk v (List.mem_of_getElem? hx),rfl,?_⟩
     rw[List.take_add_one,hx,List.map_append,List.map_append]
     rfl
    ·rintro ys H2 p ⟨hH,rfl⟩ hpn
     subst hH
     rw[List.take_length]
     have e3:=cb (o:=.lst ((xs.map (bB H2)).map V.bl)) hpn
     walk_at "rd"
     refine⟨p,_,rfl,ag.of aY,?_⟩
     rw[List.all_map]
     rcases h with⟨h,_⟩ | ⟨_,⟨x,hx,hf⟩,q⟩ | ⟨_,ts,hs,q⟩
     ·exact absurd hm h
     ·have ha:xs.all (id∘bB H2)=false:=by
       rw[Bool.eq_false_iff]
       intro hc
       have:=List.all_eq_true.mp hc x hx
       rw[show (id∘bB H2) x=bB H2 x from rfl,hf]at this
       cases this
      rw[ha]
      refine rd_exb (au ?_)
      exact q _ e3
     ·have ha:xs.all (id∘bB H2)=true:=by
       rw[List.all_eq_true]
       intro x hx
       obtain⟨i,hi⟩:=List.getElem?_of_mem hx
       obtain⟨t,_,ht⟩:=dk hs hi
       exact SN.near ht
      rw[ha]
      refine rd_exb (av ?_)
      walk_at "rd"
      exact⟨l,xs,ts,rfl,e3 _ _ hl,hs.ext e3,hlen,fun H' e=>q H' (e3.trans e)⟩
   ·rw[decide_eq_false hm]
    refine av ?_
    walk_at "rd"
    rcases h with⟨_,q⟩ | ⟨h,_⟩ | ⟨h,_⟩
    ·exact q H (Ext.rfl' _)
    ·exact absurd h hm
    ·exact absurd h hm
def fQ(m:Int):List V->Bool
 | [a,.int n]=>bM m a && (decide (0<=n) && decide (n<=1000))
 | _=>false
def cn(H:Hp)(m:Int):V->Bool
 | .ref p=>match H p with
  | some (.tup xs)=>fQ m xs
  | _=>false
 | _=>false
theorem gP{H:Hp}{m:Int}{p:Addr}{xs:List V}(h:H p=some (.tup xs)):cn H m (.ref p)=fQ m xs:=by simp only[cn,h]
theorem kU{H:Hp}{m:Int}{v:V}(h:∀p xs,v=.ref p->H p≠some (.tup xs)):cn H m v=false:=by
 cases v with
 | ref p=>
  cases e:H p with
  | none=>simp only[cn,e]
  | some o=>
   cases o with
   | tup xs=>exact absurd e (h p xs rfl)
   | _=>simp only[cn,e]
 | _=>rfl
theorem rG{m:Int}{xs:List V}(h:xs.length≠2):fQ m xs=false:=by
 match xs,h with
 | [],_=>rfl
 | [_],_=>rfl
 | [_,_],h=>exact absurd rfl h
 | _::b::_::_,_=>cases b<;>rfl
theorem fw{m:Int}{a b:V}(h:bM m a=false\/isInt b=false):fQ m [a,b]=false:=by
 rcases h with h | h
 ·cases b<;>first | rfl | (show(bM m a && _)=false;rw[h];rfl)
 ·cases b<;>first | rfl | cases h
def sj(K:PySem.W.Frag):Sp:=fun vs H Q _=>∃v hp hq m,vs=[v,.ref hp]/\H hp=some (.tup [.int m,hq])/\Kn H 1 v/\Q (.bl (cn H m v)) H
abbrev kW:Stmt:=stq 28
theorem tE:FnScope ["thing","house"] ["thing","house"] (aJ kW):=⟨rfl,rfl,rfl,by decide +kernel,rfl,by decide +kernel,by decide +kernel⟩
theorem zA{P:Program}{w:World}{K:PySem.W.Frag}{mg:Str->Option Value}{base:Heap}(D:Dfn K mg "is_near_place" kW ["thing","house"])(T:Blt mg)(g_GREATEST_NUMBER:∃t,mg "GREATEST_NUMBER" = some (.int 1000 t))(C_is_whole:Cal P w K mg base "is_whole" 1 ["thing"] (fP K))(C_is_room:Cal P w K mg base "is_room" 2 ["thing","many"] (m8 K)):Cal P w K mg base "is_near_place" 3 ["thing","house"] (sj K):=by
 have nd:=(tE).nd
 refine D.ok tE (fun vs H Q E h=>?_) (fun X hX H vs Q E h=>?_)
 ·obtain⟨v,hp,hq,m,rfl,_⟩:=h;rfl
 ·obtain⟨f,cdv,A,outer,s,H0,E0,rfl,hr⟩:=hX
  obtain⟨t_GREATEST_NUMBER,c_GREATEST_NUMBER⟩:=g_GREATEST_NUMBER
  obtain⟨v,hp,hq,m,rfl,hh,hk,q⟩:=h
  obtain⟨n,hn⟩:=hk.1
  refine⟨_,(ao (aU (PW.pt (bV (bt (aZ (aV cS rfl T.isinstance_ PyProof.Rows.boot_isinstance (aa (pv 0) (aa (cP (v:=.ty "tuple") rfl T.tuple_ PyProof.Rows.boot_tuple rfl) ae))))) (cz (aO iN (aV (dj K) rfl T.len_ PySem.boot_len (aa (pv 0) ae)) af (aG _))))) (ar (aA aN)) aP)
    (ar (aA (bR (aw C_is_room hr (aa (aq (aC K) (pv 0) af (fun _ _=>rfl)) (aa (aq (aC K) (pv 1) af (fun _ _=>rfl)) ae))) (bR (aw C_is_whole hr (aa (aq (aC K) (pv 0) af (fun _ _=>rfl)) ae)) (cv (kr fH fH af (aq (aC K) (pv 0) af (fun _ _=>rfl)) (fc (v:=.int 1000) rfl c_GREATEST_NUMBER ⟨_,rfl⟩)))))))),?_⟩
  walk_at "rd"
  rcases fU hn with⟨p,xs,rfl,hp',rfl⟩ | ⟨hf,hno⟩
  ·refine ck hn (b:=true) rfl ?_
   walk_at "rd"
   refine au ?_
   walk_at "rd"
   refine gm (aj.of hp') ?_
   walk_at "rd"
   rw[gP hp']at q
   by_cases h2:xs.length=2
   ·obtain⟨a,b,rfl⟩:=mr h2
    obtain⟨ka,hka⟩:=hk.2 p _ rfl hp' a (by simp)
    obtain⟨kb,hkb⟩:=hk.2 p _ rfl hp' b (by simp)
    refine au ?_
    walk_at "rd"
    refine aB (aj.of hp') (v:=a) rfl ?_
    walk_at "rd"
    refine aB (aj.of hh) (v:=.int m) rfl ?_
    walk_at "rd"
    refine⟨a,m,ka,rfl,hka,?_⟩
    refine rd_exb ?_
    cases ha:bM m a with
    | false=>
     refine au ?_
     rw[fw (.inl ha)]at q
     exact q
    | true=>
     refine av ?_
     walk_at "rd"
     refine aB (aj.of hp') (v:=b) rfl ?_
     walk_at "rd"
     refine⟨b,kb,rfl,hkb,?_⟩
     refine rd_exb ?_
     cases hb:isInt b with
     | false=>
      refine au ?_
      rw[fw (.inr hb)]at q
      exact q
     | true=>
      refine av ?_
      obtain⟨i,rfl⟩:=cX hb
      have e:fQ m [a,.int i]=(decide (0<=i) && decide (i<=1000)):=by
       show(bM m a && _)=_
       rw[ha,Bool.true_and]
      rw[e]at q
      walk_at "rd"
      refine aB (aj.of hp') (v:=.int i) rfl ?_
      walk_at "rd"
      cases h0:decide (0<=i)with
      | false=>
       refine au ?_
       rw[h0]at q
       exact q
      | true=>
       refine av ?_
       rw[h0,Bool.true_and]at q
       walk_at "rd"
       exact q
   ·rw[rG h2]at q
    rw[decide_eq_false (show ¬((xs.length:Nat):Int)=2 by omega)]
    refine av ?_
    walk_at "rd"
    exact q
  ·refine ck hn hf ?_
   walk_at "rd"
   refine av ?_
   walk_at "rd"
   rw[kU hno]at q
   exact q
def fS(d:Str)(f g:Nat->Bool):Prop:=
 if d = "zero" then f 0=true/\g 0=false else if d = "up" then ∃x,f x=true/\g (x+1)=false else if d = "down" then ∃x,f (x+1)=true/\g x=false else ∃x,f x=true/\g x=false
theorem zj{f g:Nat->Bool}{b d i j:Nat}(hd:1<=d)(hf:bH f b d)(hg:bH g b d):∀(n x:Nat),x<=n->f (x+i)=true->g (x+j)=false->∃y,y<b+d/\f (y+i)=true/\g (y+j)=false:=by
 intro n
 induction n with
 | zero=>
  intro x hx h1 h2
  exact⟨x,by omega,h1,h2⟩
 | succ n ih=>
  intro x hx h1 h2
  by_cases h:x<b+d
  ·exact⟨x,h,h1,h2⟩
  ·refine ih (x-d) (by omega) ?_ ?_
   ·rw[←hf (x-d+i) (by omega),show x-d+i+d=x+i by omega]
    exact h1
   ·rw[←hg (x-d+j) (by omega),show x-d+j+d=x+j by omega]
    exact h2
theorem xi(n:Nat)(p:Nat->Bool):((List.range n).map p).any id=true↔∃x,x<n/\p x=true:=by
 rw[List.any_map,List.any_eq_true]
 simp
theorem SN.per{H:Hp}{v:V}{b s:Nat}{o a:List Int}(h:SN H v b s o a):bH (fn b s o a) b s:=xh h.2
theorem AQ{f:Nat->Bool}{b c s t:Nat}(h:bH f b s)(hc:b<=c):bH f c (cm s t):=by
 rw[mE]
 exact(h.mono hc).times _
theorem vc{f:Nat->Bool}{b c s t:Nat}(h:bH f b t)(hc:b<=c):bH f c (cm s t):=by
 rw[nv,mE]
 exact(h.mono hc).times _
theorem Ay{f g:Nat->Bool}{b d i j n:Nat}(hd:1<=d)(hf:bH f b d)(hg:bH g b d)(hn:b+d<=n):(∃x,x<n/\(f (i+x) && !g (j+x))=true)↔∃x,f (x+i)=true/\g (x+j)=false:=by
 constructor
 ·rintro⟨x,_,h⟩
  rw[Bool.and_eq_true,Bool.not_eq_true']at h
  exact⟨x,by rw[Nat.add_comm];exact h.1,by rw[Nat.add_comm];exact h.2⟩
 ·rintro⟨x,h1,h2⟩
  obtain⟨y,hy,h1,h2⟩:=zj (i:=i) (j:=j) hd hf hg x x (Nat.le_refl _) h1 h2
  refine⟨y,by omega,?_⟩
  rw[Nat.add_comm i y,Nat.add_comm j y,h1,h2]
  rfl
def pX(K:PySem.W.Frag):Sp:=fun vs H Q _=>∃wb w v1 v2 t1 t2,vs=[.ref wb,v1,v2]/\H wb=some (.tup (Way.vs w))/\cw w.deed/\cu H v1 t1/\cu H v2 t2/\cm t1.s t2.s<=840/\∀r H',Ext H H'->(r=true↔fS w.deed t1.f t2.f)->Q (.bl r) H'
abbrev i8:Stmt:=stq 37
theorem rn:FnScope ["way","one","other","raised","end","starts","ends"] ["way","one","other"] (aJ i8):=⟨rfl,rfl,rfl,by decide +kernel,rfl,by decide +kernel,by decide +kernel⟩
theorem yC{P:Program}{w:World}{K:PySem.W.Frag}{mg:Str->Option Value}{base:Heap}(D:Dfn K mg "is_left_by" i8 ["way","one","other"])(T:Blt mg)(C_marks_below:Cal P w K mg base "marks_below" 1 ["stair","end"] (qR K))(C_common_step:Cal P w K mg base "common_step" 2 ["one","other"] (mX K))(C_raised_by:Cal P w K mg base "raised_by" 1 ["way"] (rd K))(C_holds:Cal P w K mg base "holds" 7 ["stair","x"] (nR K)):Cal P w K mg base "is_left_by" 8 ["way","one","other"] (pX K):=by
 have nd:=(rn).nd
 refine D.ok rn (fun vs H Q E h=>?_) (fun X hX H vs Q E h=>?_)
 ·obtain⟨wb,w,v1,v2,t1,t2,rfl,_⟩:=h;rfl
 ·obtain⟨f,cdv,A,outer,s,H0,E0,rfl,hr⟩:=hX
  obtain⟨wb,w,v1,v2,t1,t2,rfl,hw,hd,h1,h2,hc,q⟩:=h
  have x1:=h1.b3
  have x2:=h2.b3
  have c1:=xU h1.s1 h2.s1
  have p1:=AQ (t:=t2.s) h1.per (Nat.le_max_left t1.b t2.b)
  have p2:=vc (s:=t1.s) h2.per (Nat.le_max_right t1.b t2.b)
  refine⟨_,(ao (aU (aO bQ (aq (aC K) (pv 0) af (fun _ _=>rfl)) aQ (aG _)) (ar (aA (bR (aw C_holds hr (aa (pv 1) (aa af ae))) (cv (ix (aw C_holds hr (aa (pv 2) (aa af ae)))))))) aP)
    (ao (aH (i:=3) nd rfl (Or.inl rfl) (aw C_raised_by hr (aa (pv 0) ae)))
    (ao (aH (i:=4) nd rfl (Or.inl rfl) (ak aI (ak aI (aV (ir rfl) rfl T.max_ PyProof.Rows.boot_max (aa (aq (aC K) (pv 1) af (fun _ _=>rfl)) (aa (aq (aC K) (pv 2) af (fun _ _=>rfl)) ae))) af) (aw C_common_step hr (aa (pv 1) (aa (pv 2) ae)))))
    (ao (aH (i:=5) nd rfl (Or.inl rfl) (gH (gy K) (aw C_marks_below hr (aa (pv 1) (aa (pv 4) ae))) (eW (aV (ir rfl) rfl T.max_ PyProof.Rows.boot_max (aa af (aa (gW gM (pv 3)) ae)))) iI))
    (ao (aH (i:=6) nd rfl (Or.inl rfl) (gH (gy K) (aw C_marks_below hr (aa (pv 2) (aa (ak aI (pv 4) af) ae))) (eW (aV (ir rfl) rfl T.max_ PyProof.Rows.boot_max (aa af (aa (pv 3) ae)))) iI))
    (ar (aA (aV (nS K rfl) rfl T.any_ PyProof.Rows.boot_any (aa (cU ["start","there"] [] (zI K rfl T.zip_ (aa (pv 5) (aa (pv 6) ae))) (fun _=>(ff (n:=2) K rfl (br (aF (i:=0) (show(["start","there"]:List Str).Nodup from by decide +kernel) rfl (Or.inl rfl) (Or.inr rfl)) (br (aF (i:=1) (show(["start","there"]:List Str).Nodup from by decide +kernel) rfl (Or.inl rfl) (Or.inr rfl)) eM)))) (fun _=>fg) (fun _=>(bR (pv 0) (cv (ix (pv 1)))))) ae))))))))),?_⟩
  walk_at "rd"
  refine aB (aj.of hw) (v:=.str w.deed) rfl ?_
  walk_at "rd"
  refine iL (rd_exb ?_)
  by_cases hz:w.deed = "zero"
  ·rw[decide_eq_true hz]
   refine av ?_
   walk_at "rd"
   refine⟨v1,0,_,_,_,_,rfl,h1.1,h1.2,?_⟩
   have e1:mem t1.b t1.s t1.o t1.a 0=t1.f 0:=rfl
   have e2:mem t2.b t2.s t2.o t2.a 0=t2.f 0:=rfl
   refine rd_exb ?_
   have hq:∀r,(r=true↔t1.f 0=true/\t2.f 0=false)->Q (.bl r) H:=fun r hr=>q r H (Ext.rfl' _) (by rw[hr];unfold fS;rw[if_pos hz])
   rw[e1]
   cases hf:t1.f 0 with
   | false=>
    refine au ?_
    exact hq false (by simp[hf])
   | true=>
    refine av ?_
    walk_at "rd"
    refine⟨v2,0,_,_,_,_,rfl,h2.1,h2.2,?_⟩
    walk_at "rd"
    rw[e2]
    exact hq _ (by simp[hf])
  ·rw[decide_eq_false hz]
   refine au ?_
   walk_at "rd"
   refine⟨wb,w,rfl,hw,hd,?_⟩
   obtain⟨q1,_,_,rfl,k1,_,_⟩:=id h1.1
   obtain⟨q2,_,_,rfl,k2,_,_⟩:=id h2.1
   walk_at "rd"
   refine aB (aj.of k1) rfl ?_
   walk_at "rd"
   refine aB (aj.of k2) rfl ?_
   walk_at "rd"
   have em:(if(t2.b:Int)>(t1.b:Int)then(t2.b:Int)else(t1.b:Int))=((max t1.b t2.b:Nat):Int):=by split<;>omega
   rw[em]
   refine⟨_,_,t1.b,t1.s,t1.o,t1.a,t2.b,t2.s,t2.o,t2.a,rfl,h1,h2,?_⟩
   walk_at "rd"
   have r1:=uY w.deed
   have r2:=yi w.deed
   refine⟨_,((max t1.b t2.b:Nat):Int)+1+((cm t1.s t2.s:Nat):Int),t1.b,t1.s,t1.o,t1.a,rfl,h1.1,h1.2,by omega,by omega,fun m1 H1 e1 hn1 hm1=>?_⟩
   rw[show (((max t1.b t2.b:Nat):Int)+1+((cm t1.s t2.s:Nat):Int)).toNat=max t1.b t2.b+cm t1.s t2.s+1 by omega]at hm1
   walk_at "rd"
   refine gn (ag.of hm1) (ah fun l1 H2 e2 hl1 _=>?_)
   generalize hdi:(if -rz w.deed>0 then -rz w.deed else 0)=di at hl1 ⊢
   have hdi0:0<=di/\di<=1:=by rw[←hdi];split<;>omega
   rw[um hdi0.1 (by omega)]at hl1
   have e12:=e1.trans e2
   walk_at "rd"
   refine⟨_,((max t1.b t2.b:Nat):Int)+1+((cm t1.s t2.s:Nat):Int)+1,t2.b,t2.s,t2.o,t2.a,rfl,h2.1.ext e12,h2.2,by omega,by omega,fun m2 H3 e3 hn2 hm2=>?_⟩
   rw[show (((max t1.b t2.b:Nat):Int)+1+((cm t1.s t2.s:Nat):Int)+1).toNat=max t1.b t2.b+cm t1.s t2.s+2 by omega]at hm2
   walk_at "rd"
   refine gn (ag.of hm2) (ah fun l2 H4 e4 hl2 _=>?_)
   generalize hdu:(if rz w.deed>0 then rz w.deed else 0)=du at hl2 ⊢
   have hdu0:0<=du/\du<=1:=by rw[←hdu];split<;>omega
   rw[um hdu0.1 (by omega)]at hl2
   have hl1':=(e3.trans e4) _ _ hl1
   have e14:=e12.trans (e3.trans e4)
   walk_at "rd"
   refine Bb (ag.of hl1') (ag.of hl2) ?_
   refine Ac (fun i zs H'=>Ext H4 H'/\zs=((List.range i).map fun k=>t1.f (di.toNat+k) && !t2.f (du.toNat+k)).map V.bl) (ai (by rw[cp];omega)) ⟨Ext.rfl' _,rfl⟩ (fun i zs H' h=>⟨ag.of (h.1 _ _ hl1'),ag.of (h.1 _ _ hl2),by rw[h.2,List.length_map,List.length_map,List.length_range];exact Nat.le_refl _⟩) ?_ ?_
   ·rintro i u v zs H5 p4 H6 hu hv ⟨e,rfl⟩ e6 h6 hn6
    have hi1:=(List.getElem?_eq_some_iff.mp hu).1
    have hi2:=(List.getElem?_eq_some_iff.mp hv).1
    rw[cp]at hi1 hi2
    rw[dY _ hi1]at hu
    rw[dY _ hi2]at hv
    cases hu
    cases hv
    refine eR (aj.of h6) rfl ?_
    walk_at "rd"
    refine av ?_
    walk_at "rd"
    have hz2:((List.range (i+1)).map fun k=>t1.f (di.toNat+k) && !t2.f (du.toNat+k)).map V.bl=((List.range i).map fun k=>t1.f (di.toNat+k) && !t2.f (du.toNat+k)).map V.bl++[V.bl (t1.f (di.toNat+i) && !t2.f (du.toNat+i))]:=by
     rw[List.range_succ,List.map_append,List.map_append]
     rfl
    cases hf:fn t1.b t1.s t1.o t1.a (di.toNat+i)with
    | false=>
     refine au ?_
     refine⟨e.trans e6,?_⟩
     rw[hz2,show t1.f (di.toNat+i)=false from hf]
     rfl
    | true=>
     refine av ?_
     walk_at "rd"
     refine⟨e.trans e6,?_⟩
     rw[hz2,show t1.f (di.toNat+i)=true from hf]
     rfl
   ·rintro zs H5 p4 ⟨e,rfl⟩ hp4
    rw[cp,cp]
    walk_at "rd"
    refine⟨p4,_,rfl,ag.of aY,?_⟩
    refine q _ _ (e14.trans (e.trans (cb hp4))) ?_
    rw[xi]
    unfold fS
    rw[if_neg hz]
    rw[Ay (b:=max t1.b t2.b) (d:=cm t1.s t2.s) c1 p1 p2 (by omega)]
    rcases hd with hd | hd | hd | hd
    ·have hr:rz w.deed=1:=by rw[hd];decide +kernel
     rw[hr]at hdi hdu
     rw[if_pos hd,←hdi,←hdu]
     exact Iff.rfl
    ·have hr:rz w.deed = -1:=by rw[hd];decide +kernel
     rw[hr]at hdi hdu
     rw[if_neg (by rw[hd];decide +kernel),if_pos hd,←hdi,←hdu]
     exact Iff.rfl
    ·have hr:rz w.deed=0:=by rw[hd];decide +kernel
     rw[hr]at hdi hdu
     rw[if_neg (by rw[hd];decide +kernel),if_neg (by rw[hd];decide +kernel),←hdi,←hdu]
     exact Iff.rfl
    ·exact absurd hd hz
def fT(H:Hp)(v:V):Prop:=bh H 4 v/\cY H v=false
theorem fT.ext{H H':Hp}{v:V}(e:Ext H H')(h:fT H v):fT H' v:=⟨h.1.ext e,(zf e h.1).trans h.2⟩
theorem sR{H:Hp}{v:V}{m:Int}{ws:List Way}(hv:bj H v m ws)(ok:HOuse m ws):bh H 4 v/\cY H v=true:=by
 obtain⟨p,q,bs,rfl,h1,h2,h3,h4,h5⟩:=r6 hv ok
 have hfew:=ok.few
 have t2:bh H 2 (.ref q):=dF h2 (by rw[List.length_map,h3];omega) h5
 exact⟨dF h1 (by simp) (.cons (eV _ _ _) (.cons t2.up (.nil _ _))),(v7 h1 h2 h4 ok.m1 ok.m12 ok.ok ok.nd).trans (decide_eq_true ok.few)⟩
def fm(m:Int)(x:Bfs.Pl):Prop:=0<=x.1/\x.1<m/\0<=x.2/\x.2<=1000
theorem rM{H H':Hp}(e:Ext H H'){v:V}{lo hi:Int}(h:∃n,bS H v n):bu H' lo hi v=bu H lo hi v:=by
 obtain⟨n,hn⟩:=h
 rcases fU hn with⟨p,xs,rfl,hp,_⟩ | ⟨_,hno⟩
 ·rw[iA hp,iA (e _ _ hp)]
 ·rw[nF hno,nF]
  intro p xs hv hp
  subst hv
  rcases hn with⟨_,ys,hy⟩ | ⟨_,ys,hy⟩
  ·have:=e _ _ hy
   rw[hp]at this
   cases this
  ·exact hno p _ rfl hy
theorem sA{H H':Hp}(e:Ext H H'){v:V}(h:Kn H 2 v):bB H' v=bB H v:=by
 obtain⟨n,hn⟩:=h.1
 rcases fU hn with⟨p,xs,rfl,hp,_⟩ | ⟨_,hno⟩
 ·by_cases hl:xs.length=4
  ·obtain⟨b,s,o,a,rfl⟩:=mU hl
   have ho:=(h.2 p _ rfl hp o (by simp)).1
   have ha:=(h.2 p _ rfl hp a (by simp)).1
   have hp':=e _ _ hp
   cases hb:isInt b with
   | false=>unfold bB;rw[dD hp,dD hp',jW hb,jW hb];rfl
   | true=>
    cases hs:isInt s with
    | false=>unfold bB;rw[dD hp,dD hp',jm hs,jm hs];rfl
    | true=>
     obtain⟨b',rfl⟩:=cX hb
     obtain⟨s',rfl⟩:=cX hs
     unfold bB
     rw[dD hp,dD hp',iw hp,iw hp']
     show((decide (0<=b') && decide (1<=s') && bu H' 0 b' o && bu H' b' (b'+s') a) && _)=((decide (0<=b') && decide (1<=s') && bu H 0 b' o && bu H b' (b'+s') a) && _)
     rw[rM e ho,rM e ha]
  ·unfold bB
   rw[iB hp hl,iB (e _ _ hp) hl]
   rfl
 ·have hno':∀p xs,v=.ref p->H' p≠some (.tup xs):=by
   intro p xs hv hp
   subst hv
   rcases hn with⟨_,ys,hy⟩ | ⟨_,ys,hy⟩
   ·have:=e _ _ hy
    rw[hp]at this
    cases this
   ·exact hno p _ rfl hy
  unfold bB
  rw[kS hno,kS hno']
  rfl
def ef(H:Hp)(m:Int)(tv:V):Prop:=(∃n,bS H tv n/\dA n "list" = some false)\/∃l xs,tv=.ref l/\H l=some (.lst xs)/\xs.length<=1000/\(∀x∈xs,Kn H 2 x) ∧
 ((xs.length:Int)≠m\/((xs.length:Int)=m/\∃x∈xs,bB H x=false)\/((xs.length:Int)=m/\∃ts,bD H xs ts/\steps ts=false))
def dn(H:Hp)(m:Int)(tv:V)(ts:List StT):Prop:=∃l xs,tv=.ref l/\H l=some (.lst xs)/\xs.length<=1000/\(xs.length:Int)=m/\bD H xs ts/\steps ts=true
theorem ef.ext{H H':Hp}(e:Ext H H'){m:Int}{tv:V}(h:ef H m tv):ef H' m tv:=by
 rcases h with⟨n,h1,h2⟩ | ⟨l,xs,rfl,hl,hn,hk,h⟩
 ·exact .inl ⟨n,mj e h1,h2⟩
 ·refine .inr ⟨l,xs,rfl,e _ _ hl,hn,fun x hx=>(hk x hx).ext e,?_⟩
  rcases h with h | ⟨h,x,hx,hf⟩ | ⟨h,ts,hs,hf⟩
  ·exact .inl h
  ·exact .inr (.inl ⟨h,x,hx,(sA e (hk x hx)).trans hf⟩)
  ·exact .inr (.inr ⟨h,ts,hs.ext e,hf⟩)
theorem dn.ext{H H':Hp}(e:Ext H H'){m:Int}{tv:V}{ts:List StT}(h:dn H m tv ts):dn H' m tv ts:=by
 obtain⟨l,xs,rfl,hl,h⟩:=h
 exact⟨l,xs,rfl,e _ _ hl,h.1,h.2.1,h.2.2.1.ext e,h.2.2.2⟩
theorem bD.kn{H:Hp}{xs:List V}{ts:List StT}(h:bD H xs ts):∀x∈xs,Kn H 2 x:=by
 intro x hx
 obtain⟨i,hi⟩:=List.getElem?_of_mem hx
 obtain⟨t,_,ht⟩:=dk h hi
 exact ht.1.kn
theorem ym{K:PySem.W.Frag}{H:Hp}{hp:Addr}{hq tv:V}{m:Int}{Q:VK}{E:XK}(hh:H hp=some (.tup [.int m,hq]))(h:ef H m tv)(q:∀H',Ext H H'->Q (.bl false) H'):jV K [.ref hp,tv] H Q E:=by
 refine⟨hp,hq,m,tv,rfl,hh,?_⟩
 rcases h with⟨n,h1,h2⟩ | ⟨l,xs,rfl,hl,hn,hk,h⟩
 ·exact .inl ⟨n,h1,h2,q⟩
 ·refine .inr ⟨l,xs,rfl,hl,hn,hk,?_⟩
  rcases h with h | ⟨h,x⟩ | ⟨h,ts,hs,hf⟩
  ·exact .inl ⟨h,q⟩
  ·exact .inr (.inl ⟨h,x,q⟩)
  ·exact .inr (.inr ⟨h,ts,hs,fun H' e=>by rw[hf];exact q H' e⟩)
theorem yP{K:PySem.W.Frag}{H:Hp}{hp:Addr}{hq tv:V}{m:Int}{ts:List StT}{Q:VK}{E:XK}(hh:H hp=some (.tup [.int m,hq]))(h:dn H m tv ts)(q:∀H',Ext H H'->Q (.bl true) H'):jV K [.ref hp,tv] H Q E:=by
 obtain⟨l,xs,rfl,hl,hn,hm,hs,ht⟩:=h
 exact⟨hp,hq,m,_,rfl,hh,.inr ⟨l,xs,rfl,hl,hn,hs.kn,.inr (.inr ⟨hm,ts,hs,fun H' e=>by rw[ht];exact q H' e⟩)⟩⟩
def cls(ws:List Way)(ts:List StT):Prop:=∀w∈ws,∀t1 t2,ts[w.room.toNat]?=some t1->ts[w.other.toNat]?=some t2->¬fS w.deed t1.f t2.f
theorem jB{xs:List V}{i:Int}{v:V}(h0:0<=i)(h:xs[i.toNat]?=some v):bN xs i=some v:=mG h0 h
def gJ(K:PySem.W.Frag):Sp:=fun vs H Q _=>∃v tv,vs=[v,tv]/\((fT H v/\∀H',Ext H H'->Q (.bl false) H')\/∃m ws,bj H v m ws/\HOuse m ws ∧
 ((ef H m tv/\∀H',Ext H H'->Q (.bl false) H')\/∃ts,dn H m tv ts/\∀r H',Ext H H'->(r=true↔cls ws ts)->Q (.bl r) H'))
abbrev jQ:Stmt:=stq 38
theorem pP:FnScope ["house","stairs"] ["house","stairs"] (aJ jQ):=⟨rfl,rfl,rfl,by decide +kernel,rfl,by decide +kernel,by decide +kernel⟩
theorem zB{P:Program}{w:World}{K:PySem.W.Frag}{mg:Str->Option Value}{base:Heap}(D:Dfn K mg "sees_closed" jQ ["house","stairs"])(T:Blt mg)(C_is_left_by:Cal P w K mg base "is_left_by" 8 ["way","one","other"] (pX K))(C_are_stairs_for:Cal P w K mg base "are_stairs_for" 6 ["house","thing"] (jV K))(C_is_house:Cal P w K mg base "is_house" 5 ["thing"] (tu K)):Cal P w K mg base "sees_closed" 9 ["house","stairs"] (gJ K):=by
 have nd:=(pP).nd
 refine D.ok pP (fun vs H Q E h=>?_) (fun X hX H vs Q E h=>?_)
 ·obtain⟨v,tv,rfl,_⟩:=h;rfl
 ·obtain⟨f,cdv,A,outer,s,H0,E0,rfl,hr⟩:=hX
  obtain⟨v,tv,rfl,h⟩:=h
  refine⟨_,(ao (aU (PW.pt (bV (bt (aZ (aw C_is_house hr (aa (pv 0) ae)))) (cz (bt (aZ (aw C_are_stairs_for hr (aa (pv 0) (aa (pv 1) ae)))))))) (ar (aA aN)) aP)
    (ar (aA (ix (aV (nS K rfl) rfl T.any_ PyProof.Rows.boot_any (aa (cU ["way"] [1] (dG K (aq (aC K) (pv 0) af (fun _ _=>rfl))) (fun _=>(aF (i:=0) (show(["way","stairs"]:List Str).Nodup from by decide +kernel) rfl (Or.inl rfl) (Or.inr rfl))) (fun _=>fg) (fun _=>(aw C_is_left_by hr (aa (pv 0) (aa (aq (aL K) (pv 1) (aq (aC K) (pv 0) af (fun _ _=>rfl)) (fun _ _=>rfl)) (aa (aq (aL K) (pv 1) (aq (aC K) (pv 0) af (fun _ _=>rfl)) (fun _ _=>rfl)) ae)))))) ae)))))),?_⟩
  walk_at "rd"
  rcases h with⟨hno,q⟩ | ⟨m,ws,hv,ok,h⟩
  ·refine⟨v,rfl,hno.1,fun H1 e1=>?_⟩
   rw[hno.2]
   walk_at "rd"
   refine av ?_
   walk_at "rd"
   exact q H1 e1
  ·refine⟨v,rfl,(sR hv ok).1,fun H1 e1=>?_⟩
   rw[(sR hv ok).2]
   walk_at "rd"
   refine au ?_
   walk_at "rd"
   obtain⟨hp,hq,rfl,hh,hw⟩:=id (hv.ext e1)
   rcases h with⟨hb,q⟩ | ⟨ts,hg,q⟩
   ·refine ym hh (hb.ext e1) fun H2 e2=>?_
    walk_at "rd"
    refine av ?_
    walk_at "rd"
    exact q H2 (e1.trans e2)
   ·refine yP hh (hg.ext e1) fun H2 e2=>?_
    have e12:=e1.trans e2
    obtain⟨bs,hbs,hal⟩:=cH.al (hw.ext e2)
    obtain⟨l,xs,rfl,hl,hn,hm,hs,ht⟩:=hg.ext e12
    have hfew:=ok.few
    have hbl:bs.length=ws.length:=hal.1
    walk_at "rd"
    refine au ?_
    walk_at "rd"
    refine aB (aj.of (e2 _ _ hh)) (v:=.ref hq) rfl ?_
    walk_at "rd"
    refine dQ (aj.of hbs) ?_
    refine iU (xs:=bs.map V.ref) (fun i ys H'=>Ext H2 H'/\∃rs:List Bool,ys=rs.map V.bl/\rs.length=i/\(rs.any id=true↔¬cls (ws.take i) ts)) (eS (by rw[List.length_map];omega)) ⟨Ext.rfl' _,[],rfl,rfl,?_⟩ ?_ ?_ ?_
    ·simp[cls]
    ·rintro i ys H' _ ⟨e,rs,rfl,hr,_⟩
     exact⟨aj.of (e _ _ hbs),by rw[List.length_map,hr];exact Nat.le_refl _⟩
    ·rintro i x ys H3 hx ⟨e3,rs,rfl,hr,hrc⟩
     rw[List.getElem?_map]at hx
     obtain⟨b,hb,rfl⟩:=Option.map_eq_some_iff.mp hx
     have hi:i<ws.length:=by
      rw[←hbl]
      exact(List.getElem?_eq_some_iff.mp hb).1
     have hwi:ws[i]?=some ws[i]:=List.getElem?_eq_getElem hi
     have hwv:=e3 _ _ (hal.2 i b _ hb hwi)
     generalize ws[i]=w at hwi hwv
     have okw:=ok.ok w (List.mem_of_getElem? hwi)
     have o1:=okw.r0
     have o2:=okw.r1
     have o3:=okw.o0
     have o4:=okw.o1
     have g1:w.room.toNat<xs.length:=by omega
     have g2:w.other.toNat<xs.length:=by omega
     obtain⟨t1,ht1,hs1⟩:=dk hs (List.getElem?_eq_getElem g1)
     obtain⟨t2,ht2,hs2⟩:=dk hs (List.getElem?_eq_getElem g2)
     walk_at "rd"
     refine av ?_
     walk_at "rd"
     refine aB (aj.of hwv) (v:=.int w.room) rfl ?_
     walk_at "rd"
     refine aK (ag.of (e3 _ _ hl)) (jB o1 (List.getElem?_eq_getElem g1)) ?_
     walk_at "rd"
     refine aB (aj.of hwv) (v:=.int w.other) rfl ?_
     walk_at "rd"
     refine aK (ag.of (e3 _ _ hl)) (jB o3 (List.getElem?_eq_getElem g2)) ?_
     walk_at "rd"
     refine⟨b,w,_,_,t1,t2,rfl,hwv,okw.dd,hs1.ext e3,hs2.ext e3,?_,fun r H4 e4 hr4=>?_⟩
     ·unfold steps at ht
      have:=List.all_eq_true.mp (List.all_eq_true.mp ht t1 (List.mem_of_getElem? ht1)) t2 (List.mem_of_getElem? ht2)
      simpa using this
     ·refine⟨e3.trans e4,rs++[r],by rw[List.map_append];rfl,by rw[List.length_append,hr];rfl,?_⟩
      rw[List.any_append,Bool.or_eq_true,hrc,List.take_add_one,hwi]
      have:List.any [r] id=r:=by cases r<;>rfl
      rw[this,hr4]
      constructor
      ·rintro(h | h) hc
       ·exact h fun u hu=>hc u (List.mem_append.mpr (.inl hu))
       ·exact hc w (by simp) t1 t2 ht1 ht2 h
      ·intro h
       by_cases h1:cls (ws.take i) ts
       ·right
        refine Classical.byContradiction fun h2=>h fun u hu=>?_
        rcases List.mem_append.mp hu with hu | hu
        ·exact h1 u hu
        ·have:u=w:=by simpa using hu
         subst this
         intro t1' t2' h1' h2'
         rw[ht1]at h1'
         rw[ht2]at h2'
         cases h1'
         cases h2'
         exact h2
       ·exact .inl h1
    ·rintro ys H3 p ⟨e3,rs,rfl,hr,hrc⟩ hp3
     walk_at "rd"
     refine⟨p,rs,rfl,ag.of aY,?_⟩
     walk_at "rd"
     refine q _ _ (e12.trans (e3.trans (cb hp3))) ?_
     rw[List.length_map,hbl,List.take_length]at hrc
     cases hb:rs.any id with
     | true=>
      rw[hb]at hrc
      have:=hrc.mp rfl
      simp[this]
     | false=>
      rw[hb]at hrc
      have:cls ws ts:=Classical.byContradiction fun h=>by have:=hrc.mpr h;cases this
      simp[this]
def b9(H:Hp)(v:V)(x:Bfs.Pl):Prop:=∃p,v=.ref p/\dN H p x
theorem b9.ext{H H':Hp}(e:Ext H H'){v:V}{x:Bfs.Pl}(h:b9 H v x):b9 H' v x:=by
 obtain⟨p,rfl,h⟩:=h
 exact⟨p,rfl,e _ _ h⟩
theorem b9.kn{H:Hp}{v:V}{x:Bfs.Pl}(h:b9 H v x):Kn H 1 v:=by
 obtain⟨p,rfl,h⟩:=h
 refine⟨⟨"tuple",.inr ⟨rfl,_,h⟩⟩,fun p' ys e z y hy=>?_⟩
 cases e
 rw[h]at z
 cases z
 simp only[List.mem_cons,List.not_mem_nil,or_false]at hy
 rcases hy with rfl | rfl
 ·exact⟨"int",rfl⟩
 ·exact⟨"int",rfl⟩
theorem rj{H:Hp}{m:Int}{v:V}(h:cn H m v=true):∃x,b9 H v x/\fm m x:=by
 cases v with
 | ref p=>
  cases e:H p with
  | none=>simp only[cn,e]at h;cases h
  | some w=>
   cases w with
   | tup xs=>
    rw[gP e]at h
    by_cases hl:xs.length=2
    ·obtain⟨a,b,rfl⟩:=mr hl
     cases hr:bM m a with
     | false=>rw[fw (.inl hr)]at h;cases h
     | true=>
      cases hb:isInt b with
      | false=>rw[fw (.inr hb)]at h;cases h
      | true=>
       obtain⟨i,rfl⟩:=cX hb
       have ha:isInt a=true:=by
        cases ha:isInt a with
        | true=>rfl
        | false=>rw[nX ha]at hr;cases hr
       obtain⟨j,rfl⟩:=cX ha
       have hj:0<=j/\j<m:=by
        by_cases h0:j<0
        ·rw[sx h0]at hr;cases hr
        ·by_cases h1:m<=j
         ·rw[qe h1]at hr;cases hr
         ·omega
       have h':(bM m (.int j) && (decide (0<=i) && decide (i<=1000)))=true:=h
       rw[hr]at h'
       simp at h'
       exact⟨(j,i),⟨p,rfl,e⟩,hj.1,hj.2,h'.1,h'.2⟩
    ·rw[rG hl]at h
     cases h
   | _=>simp only[cn,e]at h;cases h
 | _=>cases h
theorem jl{H:Hp}{m:Int}{v:V}{x:Bfs.Pl}(h:b9 H v x)(hi:fm m x):cn H m v=true:=by
 obtain⟨p,rfl,h⟩:=h
 rw[gP h]
 show(bM m (.int x.1) && (decide (0<=x.2) && decide (x.2<=1000)))=true
 rw[mx hi.1 hi.2.1,decide_eq_true hi.2.2.1,decide_eq_true hi.2.2.2]
 rfl
theorem b9.eq{H:Hp}{v:V}{x y:Bfs.Pl}(h:b9 H v x)(h':b9 H v y):x=y:=by
 obtain⟨p,rfl,h⟩:=h
 obtain⟨p',e,h'⟩:=h'
 cases e
 have z:some (HO.tup [V.int x.1,V.int x.2])=some (HO.tup [V.int y.1,V.int y.2]):=h.symm.trans h'
 simp at z
 exact Prod.ext z.1 z.2
theorem nP{H H':Hp}(e:Ext H H'){m:Int}{v:V}(h:Kn H 1 v):cn H' m v=cn H m v:=by
 obtain⟨n,hn⟩:=h.1
 rcases fU hn with⟨p,xs,rfl,hp,_⟩ | ⟨_,hno⟩
 ·rw[gP hp,gP (e _ _ hp)]
 ·rw[kU hno,kU]
  intro p xs hv hp
  subst hv
  rcases hn with⟨_,ys,hy⟩ | ⟨_,ys,hy⟩
  ·have:=e _ _ hy
   rw[hp]at this
   cases this
  ·exact hno p _ rfl hy
def bU(H:Hp)(m:Int)(ws:List Way)(ts:List StT)(va vo:V):Prop:=cls ws ts/\∃x1 x2 t1 t2,b9 H va x1/\b9 H vo x2/\fm m x1/\fm m x2/\ts[x1.1.toNat]?=some t1/\ts[x2.1.toNat]?=some t2/\t1.f x1.2.toNat=true/\t2.f x2.2.toNat=false
theorem uN{t:StT}{x:Int}(h:0<=x):mem t.b t.s t.o t.a x=t.f x.toNat:=by
 show _=mem t.b t.s t.o t.a (x.toNat:Int)
 rw[Int.toNat_of_nonneg h]
def gL(K:PySem.W.Frag):Sp:=fun vs H Q _=>∃v va vo tv,vs=[v,va,vo,tv]/\((fT H v/\∀H',Ext H H'->Q (.bl false) H')\/∃m ws,bj H v m ws/\HOuse m ws ∧
 ((ef H m tv/\∀H',Ext H H'->Q (.bl false) H')\/∃ts,dn H m tv ts/\Kn H 1 va/\Kn H 1 vo/\∀r H',Ext H H'->(r=true↔bU H m ws ts va vo)->Q (.bl r) H'))
abbrev kh:Stmt:=stq 39
theorem pJ:FnScope ["house","place","goal","stairs"] ["house","place","goal","stairs"] (aJ kh):=⟨rfl,rfl,rfl,by decide +kernel,rfl,by decide +kernel,by decide +kernel⟩
theorem Ai{P:Program}{w:World}{K:PySem.W.Frag}{mg:Str->Option Value}{base:Heap}(D:Dfn K mg "sees_never" kh ["house","place","goal","stairs"])(T:Blt mg)(C_holds:Cal P w K mg base "holds" 7 ["stair","x"] (nR K))(C_is_near_place:Cal P w K mg base "is_near_place" 3 ["thing","house"] (sj K))(C_sees_closed:Cal P w K mg base "sees_closed" 9 ["house","stairs"] (gJ K)):Cal P w K mg base "sees_never" 10 ["house","place","goal","stairs"] (gL K):=by
 have nd:=(pJ).nd
 refine D.ok pJ (fun vs H Q E h=>?_) (fun X hX H vs Q E h=>?_)
 ·obtain⟨v,va,vo,tv,rfl,_⟩:=h;rfl
 ·obtain⟨f,cdv,A,outer,s,H0,E0,rfl,hr⟩:=hX
  obtain⟨v,va,vo,tv,rfl,h⟩:=h
  refine⟨_,(ao (aU (PW.pt (bV (bt (aZ (aw C_sees_closed hr (aa (pv 0) (aa (pv 3) ae))))) (bV (bt (aZ (aw C_is_near_place hr (aa (pv 1) (aa (pv 0) ae))))) (cz (bt (aZ (aw C_is_near_place hr (aa (pv 2) (aa (pv 0) ae))))))))) (ar (aA aN)) aP)
    (ar (aA (bR (aw C_holds hr (aa (aq (aL K) (pv 3) (aq (aC K) (pv 1) af (fun _ _=>rfl)) (fun _ _=>rfl)) (aa (aq (aC K) (pv 1) af (fun _ _=>rfl)) ae))) (cv (ix (aw C_holds hr (aa (aq (aL K) (pv 3) (aq (aC K) (pv 2) af (fun _ _=>rfl)) (fun _ _=>rfl)) (aa (aq (aC K) (pv 2) af (fun _ _=>rfl)) ae))))))))),?_⟩
  walk_at "rd"
  rcases h with⟨hno,q⟩ | ⟨m,ws,hv,ok,h⟩
  ·refine⟨v,tv,rfl,.inl ⟨hno,fun H1 e1=>?_⟩⟩
   walk_at "rd"
   refine av ?_
   walk_at "rd"
   exact q H1 e1
  rcases h with⟨hb,q⟩ | ⟨ts,hg,hkp,hkg,q⟩
  ·refine⟨v,tv,rfl,.inr ⟨m,ws,hv,ok,.inl ⟨hb,fun H1 e1=>?_⟩⟩⟩
   walk_at "rd"
   refine av ?_
   walk_at "rd"
   exact q H1 e1
  ·refine⟨v,tv,rfl,.inr ⟨m,ws,hv,ok,.inr ⟨ts,hg,fun r H1 e1 hr=>?_⟩⟩⟩
   walk_at "rd"
   cases r with
   | false=>
    refine av ?_
    walk_at "rd"
    refine q false H1 e1 ⟨fun h=>(nomatch h),fun h=>?_⟩
    have:=hr.mpr h.1
    cases this
   | true=>
    have hc:=hr.mp rfl
    refine au ?_
    walk_at "rd"
    obtain⟨hp,hq,rfl,hh,hw⟩:=id (hv.ext e1)
    refine⟨va,hp,.ref hq,m,rfl,hh,hkp.ext e1,?_⟩
    rw[nP e1 hkp]
    walk_at "rd"
    cases hpv:cn H m va with
    | false=>
     refine av ?_
     walk_at "rd"
     refine q false H1 e1 ⟨fun h=>(nomatch h),fun⟨_,x1,x2,t1,t2,h1,h2,i1,i2,_⟩=>?_⟩
     rw[jl h1 i1]at hpv
     cases hpv
    | true=>
     refine au ?_
     walk_at "rd"
     refine⟨vo,hp,.ref hq,m,rfl,hh,hkg.ext e1,?_⟩
     rw[nP e1 hkg]
     walk_at "rd"
     cases hgv:cn H m vo with
     | false=>
      refine av ?_
      walk_at "rd"
      refine q false H1 e1 ⟨fun h=>(nomatch h),fun⟨_,x1,x2,t1,t2,h1,h2,i1,i2,_⟩=>?_⟩
      rw[jl h2 i2]at hgv
      cases hgv
     | true=>
      refine au ?_
      obtain⟨x1,hx1,hi1⟩:=rj hpv
      obtain⟨x2,hx2,hi2⟩:=rj hgv
      obtain⟨l,xs,rfl,hl,hn,hm,hs,ht⟩:=hg.ext e1
      have j1:=hi1.1
      have j2:=hi1.2.1
      have j3:=hi1.2.2.1
      have j4:=hi2.1
      have j5:=hi2.2.1
      have j6:=hi2.2.2.1
      have g1:x1.1.toNat<xs.length:=by omega
      have g2:x2.1.toNat<xs.length:=by omega
      obtain⟨t1,ht1,hs1⟩:=dk hs (List.getElem?_eq_getElem g1)
      obtain⟨t2,ht2,hs2⟩:=dk hs (List.getElem?_eq_getElem g2)
      have hN:∀r,(r=true↔t1.f x1.2.toNat=true/\t2.f x2.2.toNat=false)->(r=true↔bU H m ws ts va vo):=by
       intro r hr
       rw[hr]
       constructor
       ·rintro⟨k1,k2⟩
        exact⟨hc,x1,x2,t1,t2,hx1,hx2,hi1,hi2,ht1,ht2,k1,k2⟩
       ·rintro⟨_,y1,y2,u1,u2,f1,f2,_,_,f5,f6,f7,f8⟩
        cases hx1.eq f1
        cases hx2.eq f2
        rw[ht1]at f5
        rw[ht2]at f6
        cases f5
        cases f6
        exact⟨f7,f8⟩
      obtain⟨p1,rfl,hp1⟩:=hx1.ext e1
      obtain⟨p2,rfl,hp2⟩:=hx2.ext e1
      walk_at "rd"
      refine aB (aj.of hp1) (v:=.int x1.1) rfl ?_
      walk_at "rd"
      refine aK (ag.of hl) (jB j1 (List.getElem?_eq_getElem g1)) ?_
      walk_at "rd"
      refine aB (aj.of hp1) (v:=.int x1.2) rfl ?_
      walk_at "rd"
      refine⟨_,x1.2,_,_,_,_,rfl,hs1.1,hs1.2,?_⟩
      rw[uN j3]
      refine rd_exb ?_
      cases hf:t1.f x1.2.toNat with
      | false=>
       refine au ?_
       exact q false H1 e1 (hN _ (by simp[hf]))
      | true=>
       refine av ?_
       walk_at "rd"
       refine aB (aj.of hp2) (v:=.int x2.1) rfl ?_
       walk_at "rd"
       refine aK (ag.of hl) (jB j4 (List.getElem?_eq_getElem g2)) ?_
       walk_at "rd"
       refine aB (aj.of hp2) (v:=.int x2.2) rfl ?_
       walk_at "rd"
       refine⟨_,x2.2,_,_,_,_,rfl,hs2.1,hs2.2,?_⟩
       walk_at "rd"
       rw[uN j6]
       exact q _ H1 e1 (hN _ (by simp[hf]))
def red(b s x:Nat):Nat:=if x<b then x else b+(x-b) % s
theorem gp{b s x:Nat}(h:x<b+s):red b s x=x:=by
 unfold red
 split
 ·rfl
 ·rw[Nat.mod_eq_of_lt (by omega)]
  omega
theorem pz{b s x:Nat}(h:b+s<=x):red b s (x-s)=red b s x:=by
 unfold red
 rw[if_neg (by omega),if_neg (by omega),show x-b=x-s-b+s by omega,Nat.add_mod_right]
theorem iJ{b s x:Nat}(hs:1<=s):red b s x<b+s:=by
 unfold red
 split
 ·omega
 ·have:=Nat.mod_lt (x-b) hs
  omega
def Goes(d:Str)(b s x:Nat)(P:Nat->Prop):Prop:=(d = "up"->P (if x+1=b+s then b else x+1))/\(d = "down"->(0<x->P (x-1))/\(x=b->P (b+s-1)))/\(d = "stay"\/d = "zero"/\x=0->P x)
theorem Goes.imp{d:Str}{b s x:Nat}{P R:Nat->Prop}(h:Goes d b s x P)(i:∀y,P y->R y):Goes d b s x R:=
 ⟨fun e=>i _ (h.1 e),fun e=>⟨fun z=>i _ ((h.2.1 e).1 z),fun z=>i _ ((h.2.1 e).2 z)⟩,fun e=>i _ (h.2.2 e)⟩
def mK(ws:List Way)(b s:Nat)(M:Nat->Nat->Bool):Prop:=∀w∈ws,∀x,x<b+s->M w.room.toNat x=true->Goes w.deed b s x fun y=>M w.other.toNat y=true
def Rows(H:Hp)(q:Addr)(rs:List Addr)(n:Nat)(M:Nat->Nat->Bool):Prop:=H q=some (.lst (rs.map V.ref))/\∀(i:Nat) (r:Addr),rs[i]?=some r->H r=some (.lst (bq n (M i)))
theorem Rows.ext{H H':Hp}(e:Ext H H'){q:Addr}{rs:List Addr}{n:Nat}{M:Nat->Nat->Bool}(h:Rows H q rs n M):Rows H' q rs n M:=⟨e _ _ h.1,fun i r hi=>e _ _ (h.2 i r hi)⟩
structure Fr(H:Hp)(q wl:Addr)(rs:List Addr):Prop where
 q0:H q=none
 w0:H wl=none
 r0:∀r∈rs,H r=none
 nd:rs.Nodup
 qw:q≠wl
 qr:q∉rs
 wr:wl∉rs
abbrev nj(z:Nat×Nat):Bfs.Pl:=(((z.1:Nat):Int),((z.2:Nat):Int))
structure MI(H H':Hp)(q wl:Addr)(rs:List Addr)(n:Nat)(M:Nat->Nat->Bool)(ps:List Addr)(zs:List (Nat×Nat)):Prop where
 e:Ext H H'
 rows:Rows H' q rs n M
 wt:H' wl=some (.lst (ps.map V.ref))
 pl:Paired (fun a z=>dN H' a (nj z)) ps zs
theorem MI.ext{H H' H2:Hp}{q wl:Addr}{rs:List Addr}{n:Nat}{M:Nat->Nat->Bool}{ps:List Addr}{zs:List (Nat×Nat)}(h:MI H H' q wl rs n M ps zs)(e:Ext H' H2):MI H H2 q wl rs n M ps zs:=
 ⟨h.e.trans e,h.rows.ext e,e _ _ h.wt,Paired.imp' (fun _ _ z=>e _ _ z) h.pl⟩
theorem iC{α β:Type}{R:α->β->Prop}:∀{xs:List α} {ys:List β} {x:α} {y:β},Paired R xs ys->R x y->Paired R (xs++[x]) (ys++[y])
 | _,_,_,_,.nil,h=>.cons h .nil
 | _,_,_,_,.cons a t,h=>.cons a (iC t h)
theorem fi{α β:Type}{R:α->β->Prop}:∀{xs:List α} {ys:List β},Paired R xs ys->xs.length=ys.length
 | _,_,.nil=>rfl
 | _,_,.cons _ t=>by rw[List.length_cons,List.length_cons,fi t]
theorem pA{α β:Type}{R:α->β->Prop}:∀{xs:List α} {ys:List β} {x:α} {y:β},Paired R (xs++[x]) (ys++[y])->xs.length=ys.length->Paired R xs ys/\R x y
 | [],[],_,_,.cons h _,_=>⟨.nil,h⟩
 | _::_,_::_,_,_,.cons h t,e=>by
  obtain⟨h1,h2⟩:=pA t (by simpa using e)
  exact⟨.cons h h1,h2⟩
theorem MI.push{H H':Hp}{q wl:Addr}{rs:List Addr}{n:Nat}{M:Nat->Nat->Bool}{ps:List Addr}{zs:List (Nat×Nat)}(h:MI H H' q wl rs n M ps zs)(f:Fr H q wl rs){p:Addr}{z:Nat×Nat}(hp:dN H' p (nj z)):MI H (upd H' wl (.lst (ps.map V.ref++[.ref p]))) q wl rs n M (ps++[p]) (zs++[z]):=by
 have nt:∀ys,HO.lst (ps.map V.ref)≠.tup ys:=fun ys z=>by cases z
 refine⟨cL h.e f.w0,⟨?_,fun i r hi=>?_⟩,by rw[aY,List.map_append];rfl,iC (Paired.imp' (fun _ _ y=>y.put h.wt nt) h.pl) (hp.put h.wt nt)⟩
 ·rw[aT f.qw]
  exact h.rows.1
 ·have hm:=List.mem_of_getElem? hi
  rw[aT (show r≠wl from fun z=>f.wr (z ▸ hm))]
  exact h.rows.2 i r hi
theorem MI.pop{H H':Hp}{q wl:Addr}{rs:List Addr}{n:Nat}{M:Nat->Nat->Bool}{ps:List Addr}{zs:List (Nat×Nat)}(f:Fr H q wl rs){p:Addr}{z:Nat×Nat}(h:MI H H' q wl rs n M (ps++[p]) (zs++[z]))(hl:ps.length=zs.length):dN (upd H' wl (.lst (ps.map V.ref))) p (nj z)/\MI H (upd H' wl (.lst (ps.map V.ref))) q wl rs n M ps zs:=by
 have nt:∀ys,HO.lst ((ps++[p]).map V.ref)≠.tup ys:=fun ys z=>by cases z
 obtain⟨h1,h2⟩:=pA h.pl hl
 refine⟨h2.put h.wt nt,cL h.e f.w0,⟨?_,fun i r hi=>?_⟩,aY,Paired.imp' (fun _ _ y=>y.put h.wt nt) h1⟩
 ·rw[aT f.qw]
  exact h.rows.1
 ·have hm:=List.mem_of_getElem? hi
  rw[aT (show r≠wl from fun z=>f.wr (z ▸ hm))]
  exact h.rows.2 i r hi
def put2(M:Nat->Nat->Bool)(i x:Nat):Nat->Nat->Bool:=fun j y=>if j=i/\y=x then true else M j y
theorem MI.mark{H H':Hp}{q wl:Addr}{rs:List Addr}{n:Nat}{M:Nat->Nat->Bool}{ps:List Addr}{zs:List (Nat×Nat)}(h:MI H H' q wl rs n M ps zs)(f:Fr H q wl rs){i x:Nat}{r:Addr}(hi:rs[i]?=some r)(hx:x<n):MI H (upd H' r (.lst ((bq n (M i)).set x (.bl true)))) q wl rs n (put2 M i x) ps zs:=by
 have hr:=h.rows.2 i r hi
 have nt:∀ys,HO.lst (bq n (M i))≠.tup ys:=fun ys z=>by cases z
 have hm:=List.mem_of_getElem? hi
 refine⟨cL h.e (f.r0 r hm),⟨?_,fun j r' hj=>?_⟩,?_,Paired.imp' (fun _ _ y=>y.put hr nt) h.pl⟩
 ·rw[aT (show q≠r from fun z=>f.qr (z ▸ hm))]
  exact h.rows.1
 ·by_cases hji:j=i
  ·subst hji
   rw[hi]at hj
   cases hj
   rw[aY,lB _ _ hx]
   congr 2
   refine dZ fun y hy=>?_
   unfold put2
   by_cases hyx:y=x<;>simp[hyx]
  ·have hne:r'≠r:=by
    intro hc
    subst hc
    have l1:=(List.getElem?_eq_some_iff.mp hi).1
    have l2:=(List.getElem?_eq_some_iff.mp hj).1
    have e1:=(List.getElem?_eq_some_iff.mp hi).2
    have e2:=(List.getElem?_eq_some_iff.mp hj).2
    have pw:=List.pairwise_iff_getElem.mp f.nd
    rcases Nat.lt_or_gt_of_ne hji with h' | h'
    ·exact pw j i l2 l1 h' (e2.trans e1.symm)
    ·exact pw i j l1 l2 h' (e1.trans e2.symm)
   rw[aT hne,h.rows.2 j r' hj]
   congr 2
   refine dZ fun y hy=>?_
   unfold put2
   rw[if_neg (fun z=>hji z.1)]
 ·rw[aT (show wl≠r from fun z=>f.wr (z ▸ hm))]
  exact h.wt
theorem pG{α:Type}{p p':α->Bool}(hi:∀y,p' y=true->p y=true){a:α}(ha:p a=true)(ha':p' a=false):∀{L:List α},a∈L->L.countP p'<L.countP p
 | y::L,h=>by
  have hm:L.countP p'<=L.countP p:=List.countP_mono_left (fun y _=>hi y)
  rcases List.mem_cons.mp h with rfl | h
  ·rw[List.countP_cons_of_neg (by rw[ha'];decide),List.countP_cons_of_pos ha]
   omega
  ·have ih:=pG hi ha ha' h
   rw[List.countP_cons,List.countP_cons]
   by_cases hp:p' y=true
   ·rw[if_pos hp,if_pos (hi y hp)]
    omega
   ·rw[if_neg hp]
    omega
def jH:List (Nat×Nat):=(List.range 12).flatMap fun i=>(List.range 110).map fun x=>(i,x)
theorem vX{i x:Nat}(hi:i<12)(hx:x<110):(i,x)∈jH:=by
 unfold jH
 rw[List.mem_flatMap]
 exact⟨i,List.mem_range.mpr hi,List.mem_map.mpr ⟨x,List.mem_range.mpr hx,rfl⟩⟩
theorem xf:jH.length=1320:=by decide +kernel
def un(M:Nat->Nat->Bool):Nat:=jH.countP fun z=>!M z.1 z.2
theorem qf(M:Nat->Nat->Bool):un M<=1320:=by
 rw[←xf]
 exact List.countP_le_length
theorem yJ{M:Nat->Nat->Bool}{i x:Nat}(hi:i<12)(hx:x<110)(h:M i x=false):un (put2 M i x)<un M:=by
 refine pG (a:=(i,x)) (fun y hy=>?_) (by simp[h]) (by simp[put2]) (vX hi hx)
 unfold put2 at hy
 split at hy
 ·cases hy
 ·exact hy
def fv(ws:List Way)(b s:Nat)(M:Nat->Nat->Bool)(zs:List (Nat×Nat)):Prop:=∀(k:Nat) (w:Way),ws[k]?=some w->∀x,M w.room.toNat x=true->Goes w.deed b s x fun y=>M w.other.toNat y=true\/(w.other.toNat,y)∈zs
def HX(ws:List Way)(b s:Nat)(M:Nat->Nat->Bool)(zs:List (Nat×Nat))(i0 x0 j:Nat):Prop:=∀(k:Nat) (w:Way),ws[k]?=some w->∀x,M w.room.toNat x=true->(w.room.toNat=i0/\x=x0/\j<=k)\/Goes w.deed b s x fun y=>M w.other.toNat y=true\/(w.other.toNat,y)∈zs
theorem HX.step{ws:List Way}{b s:Nat}{M:Nat->Nat->Bool}{zs zs':List (Nat×Nat)}{i0 x0 j:Nat}(h:HX ws b s M zs i0 x0 j)(hz:∀z∈zs,z∈zs'){w:Way}(hw:ws[j]?=some w)(hg:w.room.toNat=i0->Goes w.deed b s x0 fun y=>M w.other.toNat y=true\/(w.other.toNat,y)∈zs'):HX ws b s M zs' i0 x0 (j+1):=by
 intro k u hu x hx
 rcases h k u hu x hx with⟨h1,h2,h3⟩ | h
 ·by_cases hk:j=k
  ·subst hk
   rw[hw]at hu
   cases hu
   subst h2
   exact .inr (hg h1)
  ·exact .inl ⟨h1,h2,by omega⟩
 ·exact .inr (h.imp fun y hy=>hy.imp id (hz _))
theorem HX.all{ws:List Way}{b s:Nat}{M:Nat->Nat->Bool}{zs:List (Nat×Nat)}{i0 x0:Nat}(h:HX ws b s M zs i0 x0 ws.length):fv ws b s M zs:=by
 intro k u hu x hx
 rcases h k u hu x hx with⟨_,_,h3⟩ | h
 ·have:=(List.getElem?_eq_some_iff.mp hu).1
  omega
 ·exact h
theorem fv.drop{ws:List Way}{b s:Nat}{M:Nat->Nat->Bool}{zs:List (Nat×Nat)}{z:Nat×Nat}(h:fv ws b s M (zs++[z]))(hz:M z.1 z.2=true):fv ws b s M zs:=by
 intro k u hu x hx
 refine(h k u hu x hx).imp fun y hy=>?_
 rcases hy with hy | hy
 ·exact .inl hy
 ·rcases List.mem_append.mp hy with hy | hy
  ·exact .inr hy
  ·rw[←List.mem_singleton.mp hy]at hz
   exact .inl hz
theorem fv.mark{ws:List Way}{b s:Nat}{M:Nat->Nat->Bool}{zs:List (Nat×Nat)}{i0 x0:Nat}(h:fv ws b s M (zs++[(i0,x0)])):HX ws b s (put2 M i0 x0) zs i0 x0 0:=by
 intro k u hu x hx
 by_cases hc:u.room.toNat=i0/\x=x0
 ·exact .inl ⟨hc.1,hc.2,Nat.zero_le _⟩
 ·right
  unfold put2 at hx
  rw[if_neg hc]at hx
  refine(h k u hu x hx).imp fun y hy=>?_
  rcases hy with hy | hy
  ·left
   unfold put2
   split
   ·rfl
   ·exact hy
  ·rcases List.mem_append.mp hy with hy | hy
   ·exact .inr hy
   ·have:=List.mem_singleton.mp hy
    left
    unfold put2
    rw[if_pos ⟨(Prod.mk.inj this).1,(Prod.mk.inj this).2⟩]
theorem Bd{M:Nat->Nat->Bool}{i x j y:Nat}(h:M j y=true):put2 M i x j y=true:=by
 unfold put2
 split
 ·rfl
 ·exact h
theorem yw{M:Nat->Nat->Bool}{i x:Nat}:put2 M i x i x=true:=by simp[put2]
theorem iG{zs:List (Nat×Nat)}{r n:Nat}(h:∀z∈zs,z.1<r/\z.2<n){z:Nat×Nat}(hz:z.1<r/\z.2<n):∀u∈zs++[z],u.1<r/\u.2<n:=by
 intro u hu
 rcases List.mem_append.mp hu with hu | hu
 ·exact h u hu
 ·rw[List.mem_singleton.mp hu]
  exact hz
def lR(K:PySem.W.Frag):Sp:=fun vs H Q _=>∃hv m ws b s l as xs,vs=[hv,.int (b:Nat),.int (s:Nat),.ref l]/\bj H hv m ws/\HOuse m ws/\1<=s/\b+s<=110/\H l=some (.lst (List.map V.ref as))/\Paired (dN H) as xs/\xs.length<=10/\(∀x∈xs,fm m x) ∧
 ∀q rs M H',Ext H H'->H q=none->(rs.length:Int)=m->Rows H' q rs (b+s) M->mK ws b s M->(∀x∈xs,M x.1.toNat (red b s x.2.toNat)=true)->Q (.ref q) H'
abbrev kJ:Stmt:=stq 51
theorem sS:FnScope ["_law_house_here","_law_base","_law_step","_law_starts","_law_marks_here","_law_waiting","_law_room","_law_number","_law_here","_law_x","_law_deed","_law_other","_law_sign"] ["_law_house_here","_law_base","_law_step","_law_starts"] (aJ kJ):=⟨rfl,rfl,rfl,by decide +kernel,rfl,by decide +kernel,by decide +kernel⟩
theorem Ab{P:Program}{w:World}{K:PySem.W.Frag}{mg:Str->Option Value}{base:Heap}(D:Dfn K mg "_law_marks" kJ ["_law_house_here","_law_base","_law_step","_law_starts"])(T:Blt mg):Cal P w K mg base "_law_marks" 1 ["_law_house_here","_law_base","_law_step","_law_starts"] (lR K):=by
 have nd:=(sS).nd
 refine D.ok sS (fun vs H Q E h=>?_) (fun X hX H vs Q E h=>?_)
 ·obtain⟨hv,m,ws,b,s,l,as,xs,rfl,_⟩:=h;rfl
 ·obtain⟨f,cdv,A,outer,s,H0,E0,rfl,hr⟩:=hX
  obtain⟨vh,m,ws,b,s',l,as,xs,rfl,hv,ok,hs1,hbs,hl,hp,hxl,hin,q⟩:=h
  obtain⟨hp0,hq0,rfl,hh,hw⟩:=id hv
  obtain⟨bs,hbs0,hal⟩:=cH.al hw
  have m1:=ok.m1
  have m12:=ok.m12
  have hpl:=fi hp
  refine⟨_,(@ao _ _ _ _ _ (vB (i:=4) ["_law_room"] [1,2] nd rfl (Or.inl rfl) (cQ rfl T.range_ (@aa _ _ _ _ _ (@aq _ _ _ _ _ _ _ (aC K) (pv 0) af (fun _ _=>rfl)) ae rfl)) (fun _=>(aF (i:=0) (show(["_law_room","_law_base","_law_step"]:List Str).Nodup from by decide +kernel) rfl (Or.inl rfl) (Or.inr rfl))) (fun _=>fg) (fun _=>(ak kR (@aR _ _ _ _ (@aa _ _ _ _ _ aN ae rfl)) (ak aI (pv 1) (pv 2)))))
    (@ao _ _ _ _ _ (@aH _ _ 5 _ _ _ _ nd rfl (Or.inl rfl) (@aR _ _ _ _ ae) rfl (Or.inl rfl))
    (@ao _ _ _ _ _ (bw PassesOwn.never rfl (cZ K (pv 3)) (ff (n:=2) K rfl (br (aF (i:=6) nd rfl (Or.inl rfl)) (br (aF (i:=7) nd rfl (Or.inl rfl)) eM))) (@ao _ _ _ _ _ (lI PassesOwn.never (aO jX (pv 7) (ak aI (pv 1) (pv 2)) (aG _)) (@ar _ _ _ (@aH _ _ 7 _ _ _ _ nd rfl (Or.inl rfl) (ak cj (pv 7) (pv 2)) rfl (Or.inl rfl))))
    (@ar _ _ _ (bx (bK K PySem.F.plainAttrs_list PySem.F.slot_list_append PySem.F.type_list_append bJ (pv 5) (@aa _ _ _ _ _ (@aD _ _ _ _ _ (@aa _ _ _ _ _ (pv 6) (@aa _ _ _ _ _ (pv 7) ae rfl) rfl)) ae rfl))))))
    (@ao _ _ _ _ _ (lI PassesOwn.never (aO eZ (aV (dj K) rfl T.len_ PySem.boot_len (@aa _ _ _ _ _ (pv 5) ae rfl)) af (aG _)) (@ao _ _ _ _ _ (@dX _ _ _ _ _ _ (xr K PySem.F.plainAttrs_list PySem.F.slot_list_pop PySem.F.type_list_pop yB (pv 5)) (ff (n:=2) K rfl (br (aF (i:=8) nd rfl (Or.inl rfl)) (br (aF (i:=9) nd rfl (Or.inl rfl)) eM))) rfl rfl rfl)
    (@ar _ _ _ (cB (bt (aZ (@aq _ _ _ _ _ _ _ (aL K) (@aq _ _ _ _ _ _ _ (aL K) (pv 4) (pv 8) (fun _ _=>rfl)) (pv 9) (fun _ _=>rfl)))) (@ao _ _ _ _ _ (@dX _ _ _ _ _ _ aN (lH (@aq _ _ _ _ _ _ _ (aL K) (pv 4) (pv 8) (fun _ _=>rfl)) (pv 9) set_list) rfl rfl rfl)
    (@ar _ _ _ (bw PassesOwn.never rfl (dG K (@aq _ _ _ _ _ _ _ (aC K) (pv 0) af (fun _ _=>rfl))) (ff (n:=4) K rfl (br (aF (i:=6) nd rfl (Or.inl rfl)) (br (aF (i:=10) nd rfl (Or.inl rfl)) (br (aF (i:=11) nd rfl (Or.inl rfl)) (br (aF (i:=12) nd rfl (Or.inl rfl)) eM))))) (@ao _ _ _ _ _ (cB (PW.pt (jj (aO bQ (pv 6) (pv 8) (aG _)) (iZ (aO bQ (pv 10) aQ (aG _))))) (@ar _ _ _ (bx (bK K PySem.F.plainAttrs_list PySem.F.slot_list_append PySem.F.type_list_append bJ (pv 5) (@aa _ _ _ _ _ (@aD _ _ _ _ _ (@aa _ _ _ _ _ (pv 11) (@aa _ _ _ _ _ (@aq _ _ _ _ _ _ _ (aL K) (@aR _ _ _ _ (@aa _ _ _ _ _ (ak aI (pv 9) af) (@aa _ _ _ _ _ (pv 1) ae rfl) rfl)) (cT xt rfl T.int_ PyProof.Rows.boot_int (@aa _ _ _ _ _ (cD bQ (ak aI (pv 9) af) (ak aI (pv 1) (pv 2)) (aG _)) ae rfl)) (fun _ _=>rfl)) ae rfl) rfl)) ae rfl)))) aP)
    (@ao _ _ _ _ _ (cB (PW.pt (jj (aO bQ (pv 6) (pv 8) (aG _)) (iZ (aO bQ (pv 10) aQ (aG _))))) (@ao _ _ _ _ _ (cB (aO eZ (pv 9) af (aG _)) (@ar _ _ _ (bx (bK K PySem.F.plainAttrs_list PySem.F.slot_list_append PySem.F.type_list_append bJ (pv 5) (@aa _ _ _ _ _ (@aD _ _ _ _ _ (@aa _ _ _ _ _ (pv 11) (@aa _ _ _ _ _ (ak cj (pv 9) af) ae rfl) rfl)) ae rfl)))) aP)
    (@ar _ _ _ (cB (aO bQ (pv 9) (pv 1) (aG _)) (@ar _ _ _ (bx (bK K PySem.F.plainAttrs_list PySem.F.slot_list_append PySem.F.type_list_append bJ (pv 5) (@aa _ _ _ _ _ (@aD _ _ _ _ _ (@aa _ _ _ _ _ (pv 11) (@aa _ _ _ _ _ (ak cj (ak aI (pv 1) (pv 2)) af) ae rfl) rfl)) ae rfl)))) aP))) aP)
    (@ar _ _ _ (cB (PW.pt (jj (aO bQ (pv 6) (pv 8) (aG _)) (iZ (PW.pt (bV (aO bQ (pv 10) aQ (aG _)) (cz (PW.pt (jj (aO bQ (pv 10) aQ (aG _)) (iZ (aO bQ (pv 9) af (aG _))))))))))) (@ar _ _ _ (bx (bK K PySem.F.plainAttrs_list PySem.F.slot_list_append PySem.F.type_list_append bJ (pv 5) (@aa _ _ _ _ _ (@aD _ _ _ _ _ (@aa _ _ _ _ _ (pv 11) (@aa _ _ _ _ _ (pv 9) ae rfl) rfl)) ae rfl)))) aP))))))) aP))))
    (@ar _ _ _ (@aA _ _ _ _ (pv 4))))))),?_⟩
  walk_at "rd"
  refine aB (aj.of hh) (v:=.int m) rfl ?_
  walk_at "rd"
  refine dg (by omega) ?_
  refine ij (fun i ys H'=>Ext H H'/\∃rs:List Addr,ys=rs.map V.ref/\rs.length=i/\rs.Nodup/\∀r∈rs,H r=none/\H' r=some (.lst (bq (b+s') fun _=>false))) (eS (by omega)) ⟨Ext.rfl' _,[],rfl,rfl,List.nodup_nil,fun r hr=>by cases hr⟩ (fun i ys H' _ h=>by obtain⟨_,rs,rfl,h,_⟩:=h;rw[List.length_map,h];exact Nat.le_refl _) ?_ ?_
  ·rintro i ys H1 hi ⟨e1,rs,rfl,hr,hnd,hrs⟩
   walk_at "rd"
   refine av ?_
   walk_at "rd"
   refine⟨ai (by simp),ah fun u1 H2 e2 hu1 _=>?_⟩
   walk_at "rd"
   refine la hu1 (by omega) (ai (by simp;omega)) (ah fun u2 H3 e3 hu2 hn2=>?_)
   rw[n8,show ((b:Int)+(s':Int)).toNat=b+s' by omega]at hu2
   have e23:=e2.trans e3
   have hn1:H1 u2=none:=e2.none hn2
   refine⟨e1.trans e23,rs++[u2],by rw[List.map_append];rfl,by rw[List.length_append,hr];rfl,?_,?_⟩
   ·rw[List.nodup_append]
    refine⟨hnd,by simp,fun r hr' u hu=>?_⟩
    rw[List.mem_singleton.mp hu]
    intro hc
    subst hc
    have:=(hrs r hr').2
    rw[hn1]at this
    cases this
   ·intro r hr'
    rcases List.mem_append.mp hr' with hr' | hr'
    ·exact⟨(hrs r hr').1,e23 _ _ (hrs r hr').2⟩
    ·rw[List.mem_singleton.mp hr']
     exact⟨e1.none hn1,hu2⟩
  ·rintro ys H1 qa ⟨e1,rs,rfl,hr,hnd,hrs⟩ hqn
   have e2:Ext H (upd H1 qa (.lst (rs.map V.ref))):=e1.trans (cb hqn)
   have hq2:(upd H1 qa (.lst (rs.map V.ref))) qa=some (.lst (rs.map V.ref)):=aY
   have hrs2:∀r∈rs,(upd H1 qa (.lst (rs.map V.ref))) r=some (.lst (bq (b+s') fun _=>false)):=fun r hr'=>(cb hqn) _ _ (hrs r hr').2
   have hqr:qa∉rs:=fun hc=>by have:=(hrs qa hc).2;rw[hqn]at this;cases this
   have hqH:H qa=none:=e1.none hqn
   generalize upd H1 qa (.lst (rs.map V.ref))=H2 at e2 hq2 hrs2 ⊢
   walk_at "rd"
   refine⟨ai (by simp),ah fun wl H3 e3 hwl hwn=>?_⟩
   have fr:Fr H qa wl rs:=⟨hqH,e2.none hwn,fun r hr'=>(hrs r hr').1,hnd,fun hc=>(by rw[hc,hwn]at hq2;cases hq2),hqr,fun hc=>(by have:=hrs2 wl hc;rw[hwn]at this;cases this)⟩
   have hrm:(rs.length:Int)=m:=by omega
   have mi0:MI H H3 qa wl rs (b+s') (fun _ _=>false) [] []:=⟨e2.trans e3,⟨e3 _ _ hq2,fun i r hi=>e3 _ _ (hrs2 r (List.mem_of_getElem? hi))⟩,hwl,.nil⟩
   clear hrs hrs2 hq2 hwl hwn hqn e1 e2 e3 hqH hqr hnd
   walk_at "rd"
   refine cR (ag.of (mi0.e _ _ hl)) ?_
   refine forL (xs:=List.map V.ref as) (fun i σ H'=>∃k1 k2 k3 k4 k5 k6 k7 ps,σ=[some (.ref hp0),some (.int (b:Nat)),some (.int (s':Nat)),some (.ref l),some (.ref qa),some (.ref wl),k1,k2,k3,k4,k5,k6,k7]/\MI H H' qa wl rs (b+s') (fun _ _=>false) ps ((xs.take i).map fun x=>(x.1.toNat,red b s' x.2.toNat))) ⟨_,_,_,_,_,_,_,[],rfl,mi0⟩ (fun i σ H' _ h=>by obtain⟨_,_,_,_,_,_,_,ps,_,h⟩:=h;exact ag.of (h.e _ _ hl)) ?_ ?_
   ·rintro i v σ H4 hx ⟨k1,k2,k3,k4,k5,k6,k7,ps,rfl,mi⟩
    rw[List.getElem?_map]at hx
    obtain⟨a,ha,rfl⟩:=Option.map_eq_some_iff.mp hx
    obtain⟨x,hxi,hxa⟩:=dk hp ha
    have hix:=hin x (List.mem_of_getElem? hxi)
    obtain⟨i1,i2,i3,i4⟩:=hix
    refine eR (aj.of (mi.e _ _ hxa)) rfl ?_
    walk_at "rd"
    refine lZ (fun mm σ H'=>H'=H4/\∃y:Nat,σ=[some (.ref hp0),some (.int (b:Nat)),some (.int (s':Nat)),some (.ref l),some (.ref qa),some (.ref wl),some (.int x.1),some (.int (y:Nat)),k3,k4,k5,k6,k7]/\red b s' y=red b s' x.2.toNat/\mm=y)
     (fun σ H'=>H'=H4/\∃y:Nat,σ=[some (.ref hp0),some (.int (b:Nat)),some (.int (s':Nat)),some (.ref l),some (.ref qa),some (.ref wl),some (.int x.1),some (.int (y:Nat)),k3,k4,k5,k6,k7]/\y=red b s' x.2.toNat) x.2.toNat ⟨rfl,x.2.toNat,by rw[Int.toNat_of_nonneg i3];rfl,rfl,rfl⟩ ?_ ?_
    ·rintro mm σ H5 ⟨rfl,y,rfl,hy,rfl⟩
     walk_at "rd"
     by_cases hc:(b:Int)+(s':Int)<=(mm:Int)
     ·rw[decide_eq_true hc]
      refine av ⟨_,fun _ _ h=>h,?_⟩
      walk_at "rd"
      refine⟨mm-s',by omega,rfl,mm-s',?_,?_,rfl⟩
      ·rw[show ((mm-s':Nat):Int)=(mm:Int)-(s':Int) by omega]
       rfl
      ·rw[pz (by omega)]
       exact hy
     ·rw[decide_eq_false hc]
      exact au ⟨rfl,mm,rfl,by rw[←hy,gp (by omega)]⟩
    ·rintro σ H5 ⟨rfl,y,rfl,hy⟩
     have hpz:=fi mi.pl
     rw[List.length_map,List.length_take]at hpz
     walk_at "rd"
     refine⟨cF (ag.of mi.wt),?_⟩
     walk_at "rd"
     refine⟨ai (by simp),ah fun t H6 e6 ht _=>?_⟩
     walk_at "rd"
     refine bF (e6 _ _ mi.wt) (by rw[List.length_map];exact Nat.lt_of_le_of_lt (show ps.length<=1000 by omega) (by decide)) ?_
     walk_at "rd"
     refine⟨_,_,_,_,_,_,_,ps++[t],rfl,?_⟩
     rw[List.take_add_one,hxi,List.map_append]
     refine(mi.ext e6).push fr (z:=(x.1.toNat,red b s' x.2.toNat)) ?_
     show H6 t=_
     rw[ht,hy]
     show some (HO.tup [V.int x.1,V.int _])=some (HO.tup [V.int (x.1.toNat:Nat),V.int _])
     rw[Int.toNat_of_nonneg i1]
   ·rintro σ H4 ⟨k1,k2,k3,k4,k5,k6,k7,ps,rfl,mi⟩
    rw[List.length_map,hpl,List.take_length]at mi
    have hfew:=ok.few
    have hbl:bs.length=ws.length:=hal.1
    walk_at "rd"
    refine lZ (fun mm σ H'=>∃k1 k2 k3 k4 k5 k6 k7 M ps zs,σ=[some (.ref hp0),some (.int (b:Nat)),some (.int (s':Nat)),some (.ref l),some (.ref qa),some (.ref wl),k1,k2,k3,k4,k5,k6,k7]/\MI H H' qa wl rs (b+s') M ps zs/\(∀z∈zs,z.1<rs.length/\z.2<b+s')/\fv ws b s' M zs/\(∀x∈xs,M x.1.toNat (red b s' x.2.toNat)=true\/(x.1.toNat,red b s' x.2.toNat)∈zs)/\mm=501*un M+zs.length/\mm<=800000)
     (fun σ H'=>∃k1 k2 k3 k4 k5 k6 k7 M,σ=[some (.ref hp0),some (.int (b:Nat)),some (.int (s':Nat)),some (.ref l),some (.ref qa),some (.ref wl),k1,k2,k3,k4,k5,k6,k7]/\Ext H H'/\Rows H' qa rs (b+s') M/\mK ws b s' M/\∀x∈xs,M x.1.toNat (red b s' x.2.toNat)=true)
     (501*un (fun _ _=>false)+(xs.map fun x=>(x.1.toNat,red b s' x.2.toNat)).length) ⟨_,_,_,_,_,_,_,_,_,_,rfl,mi,?_,?_,fun x hx=>.inr (List.mem_map.mpr ⟨x,hx,rfl⟩),rfl,?_⟩ ?_ ?_
    ·intro z hz
     obtain⟨x,hx,rfl⟩:=List.mem_map.mp hz
     obtain⟨z1,z2,_,_⟩:=hin x hx
     exact⟨by show x.1.toNat<rs.length;omega,iJ hs1⟩
    ·intro k w _ x hx
     cases hx
    ·have:=qf (fun _ _=>false)
     rw[List.length_map]
     omega
    ·rintro mm σ H5 ⟨k1,k2,k3,k4,k5,k6,k7,M,ps,zs,rfl,mi,hzs,hhalf,hst,hmm,hmx⟩
     walk_at "rd"
     refine gK (ag.of mi.wt) ?_
     walk_at "rd"
     have hpz:=fi mi.pl
     rw[List.length_map]
     by_cases h0:zs.length=0
     ·rw[decide_eq_false (show ¬(0:Int)<((ps.length:Nat):Int) by omega)]
      have hz:zs=[]:=List.length_eq_zero_iff.mp h0
      subst hz
      refine au ⟨_,_,_,_,_,_,_,M,rfl,mi.e,mi.rows,?_,?_⟩
      ·intro w hw x _ hx
       obtain⟨k,hk⟩:=List.getElem?_of_mem hw
       exact(hhalf k w hk x hx).imp fun y hy=>hy.elim id (fun hc=>by cases hc)
      ·intro x hx
       exact(hst x hx).elim id (fun hc=>by cases hc)
     ·rw[decide_eq_true (show(0:Int)<((ps.length:Nat):Int) by omega)]
      refine av ⟨_,fun _ _ h=>h,?_⟩
      obtain⟨zs1,z,rfl⟩:∃zs1 z,zs=zs1++[z]:=⟨_,_,(List.dropLast_concat_getLast (fun hc=>h0 (by rw[hc];rfl))).symm⟩
      obtain⟨ps1,p,rfl⟩:∃ps1 p,ps=ps1++[p]:=⟨_,_,(List.dropLast_concat_getLast (fun hc=>by rw[hc]at hpz;simp at hpz)).symm⟩
      have hl':ps1.length=zs1.length:=by simpa using hpz
      obtain⟨i0,x0⟩:=z
      obtain⟨hpz2,mi2⟩:=MI.pop fr mi hl'
      have hzi:=hzs (i0,x0) (by simp)
      dsimp only at hzi
      have hzs1:∀z∈zs1,z.1<rs.length/\z.2<b+s':=fun z hz=>hzs z (List.mem_append.mpr (.inl hz))
      have hwt:=mi.wt
      obtain⟨r,hr0⟩:∃r,rs[i0]?=some r:=⟨_,List.getElem?_eq_getElem hzi.1⟩
      walk_at "rd"
      refine⟨cF (ag.of hwt),?_⟩
      refine⟨wl,_,.ref p,rfl,rfl,hwt,by simp,?_⟩
      rw[show (List.map V.ref (ps1++[p])).dropLast=List.map V.ref ps1 by simp]
      generalize upd H5 wl (.lst (List.map V.ref ps1))=H6 at hpz2 mi2 ⊢
      refine eR (aj.of hpz2) rfl ?_
      walk_at "rd"
      refine iz ?_
      walk_at "rd"
      refine aK (ag.of mi2.rows.1) (v:=.ref r) (dR (by rw[List.getElem?_map,hr0];rfl)) ?_
      walk_at "rd"
      refine aK (ag.of (mi2.rows.2 i0 r hr0)) (lx (by omega) (by omega)) ?_
      rw[Int.toNat_natCast]
      walk_at "rd"
      cases hM:M i0 x0 with
      | true=>
       refine au ?_
       walk_at "rd"
       rw[List.length_append,List.length_singleton]at hmm
       refine⟨501*un M+zs1.length,by omega,_,_,_,_,_,_,_,M,ps1,zs1,rfl,mi2,hzs1,hhalf.drop hM,fun x hx=>?_,rfl,by omega⟩
       rcases hst x hx with h | h
       ·exact .inl h
       ·rcases List.mem_append.mp h with h | h
        ·exact .inr h
        ·have:=List.mem_singleton.mp h
         rw[(Prod.mk.inj this).1,(Prod.mk.inj this).2]
         exact .inl hM
      | false=>
       refine av ?_
       walk_at "rd"
       refine aK (ag.of mi2.rows.1) (v:=.ref r) (dR (by rw[List.getElem?_map,hr0];rfl)) ?_
       walk_at "rd"
       refine lj (mi2.rows.2 i0 r hr0) (lG (by omega) (by rw[cp];omega)) ?_
       rw[Int.toNat_natCast]
       have mi3:=mi2.mark fr hr0 hzi.2
       generalize upd H6 r _=H7 at mi3 ⊢
       walk_at "rd"
       refine aB (aj.of (mi3.e _ _ hh)) (v:=.ref hq0) rfl ?_
       walk_at "rd"
       refine dQ (aj.of (mi3.e _ _ hbs0)) ?_
       refine gj (xs:=bs.map V.ref) (fun j σ H'=>∃k1 k2 k5 k6 k7 ps2 zs2,σ=[some (.ref hp0),some (.int (b:Nat)),some (.int (s':Nat)),some (.ref l),some (.ref qa),some (.ref wl),k1,k2,some (.int (i0:Nat)),some (.int (x0:Nat)),k5,k6,k7]/\MI H H' qa wl rs (b+s') (put2 M i0 x0) ps2 zs2/\(∀z∈zs2,z.1<rs.length/\z.2<b+s')/\HX ws b s' (put2 M i0 x0) zs2 i0 x0 j/\(∀z∈zs1,z∈zs2)/\zs2.length<=zs1.length+4*j) ⟨_,_,_,_,_,ps1,zs1,rfl,mi3,hzs1,hhalf.mark,fun z h=>h,by omega⟩ (fun j σ H' _ h=>by obtain⟨_,_,_,_,_,_,_,_,h,_⟩:=h;exact aj.of (h.e _ _ hbs0)) ?_ ?_
       ·rintro j v σ H8 hx ⟨k1',k2',k5',k6',k7',ps2,zs2,rfl,mi4,hz4,hx4,hsub,hlen⟩
        rw[List.getElem?_map]at hx
        obtain⟨wb,hb,rfl⟩:=Option.map_eq_some_iff.mp hx
        have hj:j<ws.length:=by
         rw[←hbl]
         exact(List.getElem?_eq_some_iff.mp hb).1
        have hwi:ws[j]?=some ws[j]:=List.getElem?_eq_getElem hj
        have hwv:=mi4.e _ _ (hal.2 j wb _ hb hwi)
        generalize ws[j]=w at hwi hwv
        have okw:=ok.ok w (List.mem_of_getElem? hwi)
        obtain⟨o1,o2,o3,o4,o5,o6⟩:=okw
        have hpz4:=fi mi4.pl
        have hun:=qf M
        rw[List.length_append,List.length_singleton]at hmm
        refine eR (aj.of hwv) rfl ?_
        walk_at "rd"
        have hot:w.other.toNat<rs.length:=by omega
        refine ed (fun σ' H'=>σ'=[some (.ref hp0),some (.int (b:Nat)),some (.int (s':Nat)),some (.ref l),some (.ref qa),some (.ref wl),some (.int w.room),k2',some (.int (i0:Nat)),some (.int (x0:Nat)),some (.str w.deed),some (.int w.other),some (.str w.sign)]/\∃ps3 zs3,MI H H' qa wl rs (b+s') (put2 M i0 x0) ps3 zs3/\(∀z∈zs3,z.1<rs.length/\z.2<b+s')/\(∀z∈zs2,z∈zs3)/\zs3.length<=zs2.length+1/\(w.room=i0->w.deed = "up"->(w.other.toNat,if x0+1=b+s' then b else x0+1)∈zs3)) ?_ ?_
        ·walk_at "rd"
         by_cases hr:w.room=(i0:Int)
         ·rw[decide_eq_true hr]
          refine av ?_
          walk_at "rd"
          refine iL (rd_exb ?_)
          by_cases hd:w.deed = "up"
          ·rw[decide_eq_true hd]
           refine av ?_
           walk_at "rd"
           refine⟨cF (ag.of mi4.wt),?_⟩
           walk_at "rd"
           refine⟨ai (by simp),ah fun u1 G1 f1 hu1 _=>?_⟩
           walk_at "rd"
           refine aK (ag.of hu1) (v:=.int ((if x0+1=b+s' then b else x0+1:Nat):Int)) ?_ ?_
           ·by_cases hc:x0+1=b+s'
            ·rw[if_pos hc,decide_eq_true (show(x0:Int)+1=(b:Int)+(s':Int) by omega)]
             rfl
            ·rw[if_neg hc,decide_eq_false (show ¬(x0:Int)+1=(b:Int)+(s':Int) by omega)]
             rfl
           walk_at "rd"
           refine⟨ai (by simp),ah fun t G2 f2 ht _=>?_⟩
           have f12:=f1.trans f2
           walk_at "rd"
           refine bF (f12 _ _ mi4.wt) (by rw[List.length_map];exact Nat.lt_of_le_of_lt (show ps2.length<=900000 by omega) (by decide)) ?_
           walk_at "rd"
           refine⟨rfl,ps2++[t],zs2++[(w.other.toNat,if x0+1=b+s' then b else x0+1)],(mi4.ext f12).push fr ?_,iG hz4 ⟨hot,by dsimp only;split<;>omega⟩,fun z h=>List.mem_append.mpr (.inl h),by simp,fun _ _=>by simp⟩
           show G2 t=some (.tup [.int (w.other.toNat:Nat),.int ((if x0+1=b+s' then b else x0+1:Nat):Int)])
           rw[ht,Int.toNat_of_nonneg o3]
          ·rw[decide_eq_false hd]
           refine au ?_
           walk_at "rd"
           exact⟨rfl,ps2,zs2,mi4,hz4,fun z h=>h,by omega,fun _ h=>absurd h hd⟩
         ·rw[decide_eq_false hr]
          refine au ?_
          walk_at "rd"
          exact⟨rfl,ps2,zs2,mi4,hz4,fun z h=>h,by omega,fun h=>absurd h hr⟩
        ·rintro σ' H9 ⟨rfl,ps3,zs3,mi5,hz5,hs5,hl5,hg5⟩
         have hpz5:=fi mi5.pl
         walk_at "rd"
         refine ed (fun σ' H'=>σ'=[some (.ref hp0),some (.int (b:Nat)),some (.int (s':Nat)),some (.ref l),some (.ref qa),some (.ref wl),some (.int w.room),k2',some (.int (i0:Nat)),some (.int (x0:Nat)),some (.str w.deed),some (.int w.other),some (.str w.sign)]/\∃ps4 zs4,MI H H' qa wl rs (b+s') (put2 M i0 x0) ps4 zs4/\(∀z∈zs4,z.1<rs.length/\z.2<b+s')/\(∀z∈zs3,z∈zs4)/\zs4.length<=zs3.length+2/\(w.room=i0->w.deed = "down"->(0<x0->(w.other.toNat,x0-1)∈zs4)/\(x0=b->(w.other.toNat,b+s'-1)∈zs4))) ?_ ?_
         ·walk_at "rd"
          by_cases hr:w.room=(i0:Int)
          ·rw[decide_eq_true hr]
           refine av ?_
           walk_at "rd"
           refine iL (rd_exb ?_)
           by_cases hd:w.deed = "down"
           ·rw[decide_eq_true hd]
            refine av ?_
            walk_at "rd"
            refine ed (fun σ' H'=>σ'=[some (.ref hp0),some (.int (b:Nat)),some (.int (s':Nat)),some (.ref l),some (.ref qa),some (.ref wl),some (.int w.room),k2',some (.int (i0:Nat)),some (.int (x0:Nat)),some (.str w.deed),some (.int w.other),some (.str w.sign)]/\∃ps4 zs4,MI H H' qa wl rs (b+s') (put2 M i0 x0) ps4 zs4/\(∀z∈zs4,z.1<rs.length/\z.2<b+s')/\(∀z∈zs3,z∈zs4)/\zs4.length<=zs3.length+1/\(0<x0->(w.other.toNat,x0-1)∈zs4)) ?_ ?_
            ·walk_at "rd"
             by_cases hx0:0<x0
             ·rw[decide_eq_true (show(0:Int)<(x0:Int) by omega)]
              refine av ?_
              walk_at "rd"
              refine⟨cF (ag.of mi5.wt),?_⟩
              walk_at "rd"
              refine⟨ai (by simp),ah fun t G2 f2 ht _=>?_⟩
              walk_at "rd"
              refine bF (f2 _ _ mi5.wt) (by rw[List.length_map];exact Nat.lt_of_le_of_lt (show ps3.length<=900000 by omega) (by decide)) ?_
              walk_at "rd"
              refine⟨rfl,ps3++[t],zs3++[(w.other.toNat,x0-1)],(mi5.ext f2).push fr ?_,iG hz5 ⟨hot,by dsimp only;omega⟩,fun z h=>List.mem_append.mpr (.inl h),by simp,fun _=>by simp⟩
              show G2 t=some (.tup [.int (w.other.toNat:Nat),.int ((x0-1:Nat):Int)])
              rw[ht,Int.toNat_of_nonneg o3,show ((x0-1:Nat):Int)=(x0:Int)-1 by omega]
             ·rw[decide_eq_false (show ¬(0:Int)<(x0:Int) by omega)]
              refine au ?_
              walk_at "rd"
              exact⟨rfl,ps3,zs3,mi5,hz5,fun z h=>h,by omega,fun h=>absurd h hx0⟩
            ·rintro σ' H10 ⟨rfl,ps4,zs4,mi6,hz6,hs6,hl6,hg6⟩
             have hpz6:=fi mi6.pl
             walk_at "rd"
             refine iz ?_
             walk_at "rd"
             by_cases hxb:x0=b
             ·rw[decide_eq_true (show(x0:Int)=(b:Int) by omega)]
              refine av ?_
              walk_at "rd"
              refine⟨cF (ag.of mi6.wt),?_⟩
              walk_at "rd"
              refine⟨ai (by simp),ah fun t G2 f2 ht _=>?_⟩
              walk_at "rd"
              refine bF (f2 _ _ mi6.wt) (by rw[List.length_map];exact Nat.lt_of_le_of_lt (show ps4.length<=900000 by omega) (by decide)) ?_
              walk_at "rd"
              refine⟨rfl,ps4++[t],zs4++[(w.other.toNat,b+s'-1)],(mi6.ext f2).push fr ?_,iG hz6 ⟨hot,by dsimp only;omega⟩,fun z h=>List.mem_append.mpr (.inl (hs6 z h)),by rw[List.length_append,List.length_singleton];omega,fun _ _=>⟨fun h=>List.mem_append.mpr (.inl (hg6 h)),fun _=>by simp⟩⟩
              show G2 t=some (.tup [.int (w.other.toNat:Nat),.int ((b+s'-1:Nat):Int)])
              rw[ht,Int.toNat_of_nonneg o3,show ((b+s'-1:Nat):Int)=(b:Int)+(s':Int)-1 by omega]
             ·rw[decide_eq_false (show ¬(x0:Int)=(b:Int) by omega)]
              refine au ?_
              walk_at "rd"
              exact⟨rfl,ps4,zs4,mi6,hz6,hs6,by omega,fun _ _=>⟨hg6,fun h=>absurd h hxb⟩⟩
           ·rw[decide_eq_false hd]
            refine au ?_
            walk_at "rd"
            exact⟨rfl,ps3,zs3,mi5,hz5,fun z h=>h,by omega,fun _ h=>absurd h hd⟩
          ·rw[decide_eq_false hr]
           refine au ?_
           walk_at "rd"
           exact⟨rfl,ps3,zs3,mi5,hz5,fun z h=>h,by omega,fun h=>absurd h hr⟩
         ·rintro σ' H10 ⟨rfl,ps4,zs4,mi6,hz6,hs6,hl6,hg6⟩
          have hpz6:=fi mi6.pl
          have hdone:∀σ' H' ps5 zs5,σ'=[some (.ref hp0),some (.int (b:Nat)),some (.int (s':Nat)),some (.ref l),some (.ref qa),some (.ref wl),some (.int w.room),k2',some (.int (i0:Nat)),some (.int (x0:Nat)),some (.str w.deed),some (.int w.other),some (.str w.sign)]->MI H H' qa wl rs (b+s') (put2 M i0 x0) ps5 zs5->(∀z∈zs5,z.1<rs.length/\z.2<b+s')->(∀z∈zs4,z∈zs5)->zs5.length<=zs4.length+1->(w.room=i0->w.deed = "stay"\/w.deed = "zero"/\x0=0->(w.other.toNat,x0)∈zs5)->∃k1 k2 k5 k6 k7 ps2 zs2,σ'=[some (.ref hp0),some (.int (b:Nat)),some (.int (s':Nat)),some (.ref l),some (.ref qa),some (.ref wl),k1,k2,some (.int (i0:Nat)),some (.int (x0:Nat)),k5,k6,k7]/\MI H H' qa wl rs (b+s') (put2 M i0 x0) ps2 zs2/\(∀z∈zs2,z.1<rs.length/\z.2<b+s')/\HX ws b s' (put2 M i0 x0) zs2 i0 x0 (j+1)/\(∀z∈zs1,z∈zs2)/\zs2.length<=zs1.length+4*(j+1):=by
           intro σ' H' ps5 zs5 hσ mi7 hz7 hs7 hl7 hg7
           refine⟨_,_,_,_,_,ps5,zs5,hσ,mi7,hz7,hx4.step (fun z h=>hs7 z (hs6 z (hs5 z h))) hwi (fun hr=>?_),fun z h=>hs7 z (hs6 z (hs5 z (hsub z h))),by omega⟩
           have hr':w.room=(i0:Int):=by omega
           exact⟨fun h=>.inr (hs7 _ (hs6 _ (hg5 hr' h))),fun h=>⟨fun h'=>.inr (hs7 _ ((hg6 hr' h).1 h')),fun h'=>.inr (hs7 _ ((hg6 hr' h).2 h'))⟩,fun h=>.inr (hg7 hr' h)⟩
          walk_at "rd"
          refine iz ?_
          walk_at "rd"
          by_cases hr:w.room=(i0:Int)
          ·rw[decide_eq_true hr]
           refine av ?_
           walk_at "rd"
           refine iL (rd_exb ?_)
           by_cases hd:w.deed = "stay"
           ·rw[decide_eq_true hd]
            refine av (av ?_)
            walk_at "rd"
            refine⟨cF (ag.of mi6.wt),?_⟩
            walk_at "rd"
            refine⟨ai (by simp),ah fun t G2 f2 ht _=>?_⟩
            walk_at "rd"
            refine bF (f2 _ _ mi6.wt) (by rw[List.length_map];exact Nat.lt_of_le_of_lt (show ps4.length<=900000 by omega) (by decide)) ?_
            walk_at "rd"
            refine hdone _ _ (ps4++[t]) (zs4++[(w.other.toNat,x0)]) rfl ((mi6.ext f2).push fr ?_) (iG hz6 ⟨hot,hzi.2⟩) (fun z h=>List.mem_append.mpr (.inl h)) (by simp) fun _ _=>by simp
            show G2 t=some (.tup [.int (w.other.toNat:Nat),.int (x0:Int)])
            rw[ht,Int.toNat_of_nonneg o3]
           ·rw[decide_eq_false hd]
            refine au ?_
            walk_at "rd"
            refine iL (rd_exb ?_)
            by_cases hd2:w.deed = "zero"
            ·rw[decide_eq_true hd2]
             refine av ?_
             walk_at "rd"
             by_cases hx0:x0=0
             ·rw[decide_eq_true (show(x0:Int)=0 by omega)]
              refine av ?_
              walk_at "rd"
              refine⟨cF (ag.of mi6.wt),?_⟩
              walk_at "rd"
              refine⟨ai (by simp),ah fun t G2 f2 ht _=>?_⟩
              walk_at "rd"
              refine bF (f2 _ _ mi6.wt) (by rw[List.length_map];exact Nat.lt_of_le_of_lt (show ps4.length<=900000 by omega) (by decide)) ?_
              walk_at "rd"
              refine hdone _ _ (ps4++[t]) (zs4++[(w.other.toNat,x0)]) rfl ((mi6.ext f2).push fr ?_) (iG hz6 ⟨hot,hzi.2⟩) (fun z h=>List.mem_append.mpr (.inl h)) (by simp) fun _ _=>by simp
              show G2 t=some (.tup [.int (w.other.toNat:Nat),.int (x0:Int)])
              rw[ht,Int.toNat_of_nonneg o3]
             ·rw[decide_eq_false (show ¬(x0:Int)=0 by omega)]
              refine au ?_
              walk_at "rd"
              exact hdone _ _ ps4 zs4 rfl mi6 hz6 (fun z h=>h) (by omega) fun _ h=>h.elim (fun h=>absurd h hd) fun h=>absurd h.2 hx0
            ·rw[decide_eq_false hd2]
             refine au (au ?_)
             walk_at "rd"
             exact hdone _ _ ps4 zs4 rfl mi6 hz6 (fun z h=>h) (by omega) fun _ h=>h.elim (fun h=>absurd h hd) fun h=>absurd h.1 hd2
          ·rw[decide_eq_false hr]
           refine au ?_
           walk_at "rd"
           exact hdone _ _ ps4 zs4 rfl mi6 hz6 (fun z h=>h) (by omega) fun h=>absurd h hr
       ·rintro σ H8 ⟨k1',k2',k5',k6',k7',ps2,zs2,rfl,mi4,hz4,hx4,hsub,hlen⟩
        rw[List.length_map,hbl]at hx4 hlen
        have hu:=yJ (M:=M) (i:=i0) (x:=x0) (by omega) (by omega) hM
        rw[List.length_append,List.length_singleton]at hmm
        refine⟨501*un (put2 M i0 x0)+zs2.length,by omega,_,_,_,_,_,_,_,put2 M i0 x0,ps2,zs2,rfl,mi4,hz4,hx4.all,fun x hx=>?_,rfl,by omega⟩
        rcases hst x hx with h | h
        ·exact .inl (Bd h)
        ·rcases List.mem_append.mp h with h | h
         ·exact .inr (hsub _ h)
         ·have:=List.mem_singleton.mp h
          rw[(Prod.mk.inj this).1,(Prod.mk.inj this).2]
          exact .inl yw
    ·rintro σ H5 ⟨k1,k2,k3,k4,k5,k6,k7,M,rfl,e5,hR,hC,hS⟩
     walk_at "rd"
     exact q qa rs M H5 e5 fr.q0 hrm hR hC hS
theorem kC{f:Nat->Bool}{lo i:Nat}{ys:List V}(h:ys=(row f lo i).map V.int)(hf:f (lo+i)=true):ys++[V.int ((lo+i:Nat):Int)]=(row f lo (i+1)).map V.int:=by
 rw[eD,if_pos hf,List.map_append,h]
 rfl
theorem ji{f:Nat->Bool}{lo i:Nat}{ys:List V}(h:ys=(row f lo i).map V.int)(hf:f (lo+i)=false):ys=(row f lo (i+1)).map V.int:=by
 rw[eD,if_neg (by rw[hf];decide),List.append_nil,h]
theorem bG.put{H:Hp}{f:Addr}{xs ys:List V}{v:V}{b s:Int}{o a:List Int}(hf:H f=some (.lst xs))(h:bG H v b s o a):bG (upd H f (.lst ys)) v b s o a:=by
 obtain⟨p,q,r,rfl,h1,h2,h3⟩:=h
 refine⟨p,q,r,rfl,?_,?_,?_⟩
 ·rw[aT (fj h1 hf (by intro z;cases z))];exact h1
 ·rw[aT (fj h2 hf (by intro z;cases z))];exact h2
 ·rw[aT (fj h3 hf (by intro z;cases z))];exact h3
theorem bD.put{H:Hp}{f:Addr}{xs ys:List V}{vs:List V}{ts:List StT}(hf:H f=some (.lst xs))(h:bD H vs ts):bD (upd H f (.lst ys)) vs ts:=Paired.imp' (fun _ _ z=>⟨z.1.put hf,z.2⟩) h
abbrev stM(b s:Nat)(M:Nat->Nat->Bool)(i:Nat):StT:=⟨b,s,row (M i) 0 b,row (M i) b s⟩
def bX(b s:Nat)(M:Nat->Nat->Bool)(n:Nat):List StT:=(List.range n).map (stM b s M)
theorem nH{b s:Nat}{M:Nat->Nat->Bool}{n i:Nat}(h:i<n):(bX b s M n)[i]?=some (stM b s M i):=by
 unfold bX
 rw[List.getElem?_map,List.getElem?_range h]
 rfl
theorem dv{b s:Nat}{M:Nat->Nat->Bool}{n:Nat}:(bX b s M n).length=n:=by simp[bX]
def lW(K:PySem.W.Frag):Sp:=fun vs H Q _=>∃q rs M b s,vs=[.ref q,.int (b:Nat),.int (s:Nat)]/\1<=s/\b+s<=800/\Rows H q rs (b+s) M/\rs.length<=100 ∧
 ∀fq xs H',Ext H H'->H fq=none->H' fq=some (.lst xs)->bD H' xs (bX b s M rs.length)->Q (.ref fq) H'
abbrev ke:Stmt:=stq 52
theorem sN:FnScope ["_law_marks_here","_law_base","_law_step","_law_found","_law_row","_law_once"] ["_law_marks_here","_law_base","_law_step"] (aJ ke):=⟨rfl,rfl,rfl,by decide +kernel,rfl,by decide +kernel,by decide +kernel⟩
theorem wK{P:Program}{w:World}{K:PySem.W.Frag}{mg:Str->Option Value}{base:Heap}(D:Dfn K mg "_law_stairs_of" ke ["_law_marks_here","_law_base","_law_step"])(T:Blt mg):Cal P w K mg base "_law_stairs_of" 1 ["_law_marks_here","_law_base","_law_step"] (lW K):=by
 have nd:=(sN).nd
 refine D.ok sN (fun vs H Q E h=>?_) (fun X hX H vs Q E h=>?_)
 ·obtain⟨q,rs,M,b,s,rfl,_⟩:=h;rfl
 ·obtain⟨f,cdv,A,outer,s,H0,E0,rfl,hr⟩:=hX
  obtain⟨qa,rs,M,b,s',rfl,hs,hbs,hR,hrl,q⟩:=h
  refine⟨_,(@ao _ _ _ _ _ (@aH _ _ 3 _ _ _ _ nd rfl (Or.inl rfl) (@aR _ _ _ _ ae) rfl (Or.inl rfl))
    (@ao _ _ _ _ _ (bw PassesOwn.never rfl (cZ K (pv 0)) (aF (i:=4) nd rfl (Or.inr rfl)) (@ao _ _ _ _ _ (@aH _ _ 5 _ _ _ _ nd rfl (Or.inl rfl) (cT (eE K) rfl T.tuple_ PyProof.Rows.boot_tuple (@aa _ _ _ _ _ (cU ["_law_x"] [4] (cQ rfl T.range_ (@aa _ _ _ _ _ (pv 1) ae rfl)) (fun _=>(aF (i:=0) (show(["_law_x","_law_row"]:List Str).Nodup from by decide +kernel) rfl (Or.inl rfl) (Or.inr rfl))) (fun _=>(iO (aZ (@aq _ _ _ _ _ _ _ (aL K) (pv 1) (pv 0) (fun _ _=>rfl))))) (fun _=>(pv 0))) ae rfl)) rfl (Or.inl rfl))
    (@ar _ _ _ (bx (bK K PySem.F.plainAttrs_list PySem.F.slot_list_append PySem.F.type_list_append bJ (pv 3) (@aa _ _ _ _ _ (@aD _ _ _ _ _ (@aa _ _ _ _ _ (pv 1) (@aa _ _ _ _ _ (pv 2) (@aa _ _ _ _ _ (pv 5) (@aa _ _ _ _ _ (cT (eE K) rfl T.tuple_ PyProof.Rows.boot_tuple (@aa _ _ _ _ _ (cU ["_law_x"] [4] (uU rfl T.range_ (@aa _ _ _ _ _ (pv 1) (@aa _ _ _ _ _ (ak aI (pv 1) (pv 2)) ae rfl) rfl)) (fun _=>(aF (i:=0) (show(["_law_x","_law_row"]:List Str).Nodup from by decide +kernel) rfl (Or.inl rfl) (Or.inr rfl))) (fun _=>(iO (aZ (@aq _ _ _ _ _ _ _ (aL K) (pv 1) (pv 0) (fun _ _=>rfl))))) (fun _=>(pv 0))) ae rfl)) ae rfl) rfl) rfl) rfl)) ae rfl))))))
    (@ar _ _ _ (@aA _ _ _ _ (pv 3))))),?_⟩
  walk_at "rd"
  refine⟨ai (by simp),ah fun fq H1 e1 hf hfn=>?_⟩
  walk_at "rd"
  refine cR (ag.of (e1 _ _ hR.1)) ?_
  refine forL (xs:=rs.map V.ref) (fun i σ H'=>∃k1 k2 xs,σ=[some (.ref qa),some (.int (b:Nat)),some (.int (s':Nat)),some (.ref fq),k1,k2]/\Ext H H'/\H' fq=some (.lst xs)/\bD H' xs (bX b s' M i)) ⟨_,_,[],rfl,e1,hf,.nil⟩ (fun i σ H' _ h=>by obtain⟨_,_,_,_,h,_⟩:=h;exact ag.of (h _ _ hR.1)) ?_ ?_
  ·rintro i v σ H2 hx ⟨k1,k2,xs,rfl,e2,hf2,hS⟩
   rw[List.getElem?_map]at hx
   obtain⟨r,hr,rfl⟩:=Option.map_eq_some_iff.mp hx
   have hrow:=e2 _ _ (hR.2 i r hr)
   have hi:=(List.getElem?_eq_some_iff.mp hr).1
   have hxl:=hS.len
   rw[dv]at hxl
   walk_at "rd"
   refine dg (by omega) ?_
   refine ij (fun j ys H'=>H'=H2/\ys=(row (M i) 0 j).map V.int) (ai (by omega)) ⟨rfl,rfl⟩ ?_ ?_ ?_
   ·rintro j ys H' _ ⟨_,rfl⟩
    rw[List.length_map];exact gX _ 0 j
   ·rintro j ys H' hj ⟨rfl,hy⟩
    walk_at "rd"
    refine aK (ag.of hrow) (lx (by omega) (by omega)) ?_
    walk_at "rd"
    rw[show ((0:Int)+(j:Int)).toNat=j by omega]
    have e0:M i (0+j)=M i j:=by rw[Nat.zero_add]
    cases hg:M i j with
    | true=>
     refine av ?_
     walk_at "rd"
     refine⟨rfl,?_⟩
     rw[←kC hy (e0.trans hg)]
     congr 3
     all_goals omega
    | false=>exact au ⟨rfl,ji hy (e0.trans hg)⟩
   ·rintro ys H' p ⟨hH,rfl⟩ hp
    subst hH
    rw[Int.toNat_natCast]
    walk_at "rd"
    refine dW (ag.of aY) ?_
    have e3:Ext H' (upd H' p (.lst ((row (M i) 0 b).map V.int))):=cb hp
    generalize upd H' p (.lst ((row (M i) 0 b).map V.int))=H3 at e3
    refine ah fun t1 H4 e4 ht1 _=>?_
    have e34:=e3.trans e4
    walk_at "rd"
    refine⟨cF (ag.of (e34 _ _ hf2)),?_⟩
    walk_at "rd"
    refine oW (by omega) ?_
    rw[show (b:Int)+(s':Int)-(b:Int)=(s':Int) by omega]
    refine ij (fun j ys H5=>H5=H4/\ys=(row (M i) b j).map V.int) (ai (by omega)) ⟨rfl,rfl⟩ ?_ ?_ ?_
    ·rintro j ys H' _ ⟨_,rfl⟩
     rw[List.length_map];exact gX _ _ j
    ·rintro j ys H5 hj ⟨rfl,hy⟩
     walk_at "rd"
     refine aK (ag.of (e34 _ _ hrow)) (lx (by omega) (by omega)) ?_
     walk_at "rd"
     rw[show ((b:Int)+(j:Int)).toNat=b+j by omega]
     cases hg:M i (b+j)with
     | true=>
      refine av ?_
      walk_at "rd"
      refine⟨rfl,?_⟩
      rw[←kC hy hg]
      congr 3
      all_goals omega
     | false=>exact au ⟨rfl,ji hy hg⟩
    ·rintro ys H5 p3 ⟨hH,rfl⟩ hp3
     subst hH
     rw[Int.toNat_natCast]
     walk_at "rd"
     refine dW (ag.of aY) ?_
     have e5:Ext H5 (upd H5 p3 (.lst ((row (M i) b s').map V.int))):=cb hp3
     generalize upd H5 p3 (.lst ((row (M i) b s').map V.int))=H6 at e5
     refine ah fun t2 H7 e7 ht2 _=>?_
     walk_at "rd"
     refine⟨ai (by simp),ah fun t H8 e8 ht _=>?_⟩
     have e58:=e5.trans (e7.trans e8)
     have e28:=e34.trans e58
     walk_at "rd"
     refine bF (e28 _ _ hf2) (Nat.lt_of_le_of_lt (show xs.length<=1000 by omega) (by decide)) ?_
     walk_at "rd"
     have hst:bG H8 (.ref t) (b:Nat) (s':Nat) (row (M i) 0 b) (row (M i) b s'):=⟨t,t1,t2,rfl,ht,e58 _ _ ht1,e8 _ _ ht2⟩
     have hgd:Gd (b:Nat) (s':Nat) (row (M i) 0 b) (row (M i) b s'):=⟨oU _ _ _ hs,by omega,by omega⟩
     refine⟨_,_,xs++[.ref t],rfl,cL (e2.trans e28) hfn,aY,?_⟩
     unfold bX
     rw[List.range_succ,List.map_append]
     exact iC ((hS.ext e28).put (e28 _ _ hf2)) ⟨hst.put (e28 _ _ hf2),hgd⟩
  ·rintro σ H2 ⟨k1,k2,xs,rfl,e2,hf2,hS⟩
   rw[List.length_map]at hS
   walk_at "rd"
   exact q fq xs H2 e2 hfn hf2 hS
theorem nM{f g:Nat->Bool}{lo:Nat}:∀{n:Nat},(∀y,lo<=y->y<lo+n->f y=g y)->row f lo n=row g lo n
 | 0,_=>rfl
 | n+1,h=>by rw[eD,eD,nM (n:=n) fun y h1 h2=>h y h1 (by omega),h (lo+n) (by omega) (by omega)]
theorem sZ{f:Nat->Bool}{lo d:Nat}:∀{n:Nat},(∀y,lo<=y->y<lo+n->f (y+d)=f y)->row f (lo+d) n=(row f lo n).map fun x=>x+(d:Int)
 | 0,_=>rfl
 | n+1,h=>by
  rw[eD,eD,sZ (n:=n) fun y h1 h2=>h y h1 (by omega),List.map_append,show lo+d+n=lo+n+d by omega,h (lo+n) (by omega) (by omega)]
  congr 1
  split
  ·simp
  ·rfl
theorem vq{b s:Nat}:∀x,b<=x->red b s (x+s)=red b s x:=fun x hx=>by
 have:=pz (b:=b) (s:=s) (x:=x+s) (by omega)
 rw[show x+s-s=x by omega]at this
 exact this.symm
theorem hI{b s:Nat}(hs:1<=s)(M:Nat->Nat->Bool)(i x:Nat):(stM b s M i).f x=M i (red b s x):=by
 have hp:bH (fun x=>M i (red b s x)) b s:=fun x hx=>by dsimp only;rw[vq x hx]
 have h1:=i9 hs hp x
 have e1:row (fun x=>M i (red b s x)) 0 b=row (M i) 0 b:=nM fun y h1 h2=>by rw[gp (by omega)]
 have e2:row (fun x=>M i (red b s x)) b s=row (M i) b s:=nM fun y h1 h2=>by rw[gp (by omega)]
 rw[e1,e2]at h1
 exact h1
theorem uB{b s x:Nat}(hs:1<=s):red b s (x+1)=if red b s x+1=b+s then b else red b s x+1:=by
 by_cases h1:x+1<b+s
 ·rw[gp h1,gp (show x<b+s by omega),if_neg (by omega)]
 ·have e1:red b s (x+1)=b+(x+1-b) % s:=by unfold red;rw[if_neg (by omega)]
  have e2:red b s x=b+(x-b) % s:=by unfold red;rw[if_neg (by omega)]
  rw[e1,e2,show x+1-b=x-b+1 by omega]
  have hm:=Nat.mod_lt (x-b) hs
  have hd:=Nat.div_add_mod (x-b) s
  by_cases hz:(x-b) % s+1=s
  ·rw[if_pos (by omega)]
   have:x-b+1=s*((x-b) / s+1):=by rw[Nat.mul_add,Nat.mul_one];omega
   rw[this,Nat.mul_mod_right]
   rfl
  ·rw[if_neg (by omega)]
   have:x-b+1=s*((x-b) / s)+((x-b) % s+1):=by omega
   rw[this,Nat.mul_add_mod,Nat.mod_eq_of_lt (by omega)]
   have h':s*((x-b) / s)+((x-b) % s+1)=x-b+1:=by omega
   omega
theorem oy{ws:List Way}{m:Int}{b s n:Nat}{M:Nat->Nat->Bool}(ok:∀w∈ws,w.Ok m)(hn:m<=(n:Nat))(hs:1<=s)(h:mK ws b s M):cls ws (bX b s M n):=by
 intro w hw t1 t2 h1 h2 hl
 obtain⟨o1,o2,o3,o4,o5,_⟩:=ok w hw
 rw[nH (by omega)]at h1 h2
 cases h1
 cases h2
 have key:=h w hw
 unfold fS at hl
 rcases o5 with hd | hd | hd | hd
 ·rw[hd,if_neg (by decide +kernel),if_pos rfl]at hl
  obtain⟨x,k1,k2⟩:=hl
  rw[hI hs]at k1 k2
  have:=(key _ (iJ hs) k1).1 hd
  rw[uB hs,this]at k2
  cases k2
 ·rw[hd,if_neg (by decide +kernel),if_neg (by decide +kernel),if_pos rfl]at hl
  obtain⟨x,k1,k2⟩:=hl
  rw[hI hs]at k1 k2
  have g:=(key _ (iJ hs) k1).2.1 hd
  rw[uB hs]at g
  have hlt:=iJ (b:=b) (x:=x) hs
  by_cases hc:red b s x+1=b+s
  ·rw[if_pos hc]at g
   have:=g.2 rfl
   rw[show b+s-1=red b s x by omega,k2]at this
   cases this
  ·rw[if_neg hc]at g
   have:=g.1 (by omega)
   rw[show red b s x+1-1=red b s x by omega,k2]at this
   cases this
 ·rw[hd,if_neg (by decide +kernel),if_neg (by decide +kernel),if_neg (by decide +kernel)]at hl
  obtain⟨x,k1,k2⟩:=hl
  rw[hI hs]at k1 k2
  have:=(key _ (iJ hs) k1).2.2 (.inl hd)
  rw[this]at k2
  cases k2
 ·rw[hd,if_pos rfl]at hl
  obtain⟨k1,k2⟩:=hl
  rw[hI hs]at k1 k2
  have hr:red b s 0=0:=gp (by omega)
  rw[hr]at k1 k2
  have:=(key _ (by omega) k1).2.2 (.inr ⟨hd,rfl⟩)
  rw[this]at k2
  cases k2
def qU(K:PySem.W.Frag):Sp:=fun vs H Q _=>∃v t B,vs=[v,.int (B:Nat)]/\cu H v t/\t.b<=B/\B<=4000/\∀v' H',Ext H H'->bG H' v' (B:Nat) (t.s:Nat) (row t.f 0 B) (row t.f B t.s)->Q v' H'
abbrev jA:Stmt:=stq 53
theorem oR:FnScope ["_law_stair","_law_base","_law_step","_law_first"] ["_law_stair","_law_base"] (aJ jA):=⟨rfl,rfl,rfl,by decide +kernel,rfl,by decide +kernel,by decide +kernel⟩
theorem zy{P:Program}{w:World}{K:PySem.W.Frag}{mg:Str->Option Value}{base:Heap}(D:Dfn K mg "_law_from" jA ["_law_stair","_law_base"])(T:Blt mg)(C__law_holds:Cal P w K mg base "_law_holds" 1 ["_law_stair","_law_x"] (m6 K)):Cal P w K mg base "_law_from" 2 ["_law_stair","_law_base"] (qU K):=by
 have nd:=(oR).nd
 refine D.ok oR (fun vs H Q E h=>?_) (fun X hX H vs Q E h=>?_)
 ·obtain⟨v,t,B,rfl,_⟩:=h;rfl
 ·obtain⟨f,cdv,A,outer,s,H0,E0,rfl,hr⟩:=hX
  obtain⟨v,t,B,rfl,hv,hb,hB,q⟩:=h
  have hs8:=hv.s8
  have hs1:=hv.s1
  obtain⟨⟨p,_,_,rfl,h1,_,_⟩,_⟩:=id hv
  refine⟨_,(ao (aH (i:=2) nd rfl (Or.inl rfl) (aq (aC K) (pv 0) af (fun _ _=>rfl)))
    (ao (aH (i:=3) nd rfl (Or.inl rfl) (cT (eE K) rfl T.tuple_ PyProof.Rows.boot_tuple (aa (cU ["_law_x"] [0] (cQ rfl T.range_ (aa (pv 1) ae)) (fun _=>(aF (i:=0) (show(["_law_x","_law_stair"]:List Str).Nodup from by decide +kernel) rfl (Or.inl rfl) (Or.inr rfl))) (fun _=>(iO (aZ (aw C__law_holds hr (aa (pv 1) (aa (pv 0) ae)))))) (fun _=>(pv 0))) ae)))
    (ar (aA (aD (aa (pv 1) (aa (pv 2) (aa (pv 3) (aa (cT (eE K) rfl T.tuple_ PyProof.Rows.boot_tuple (aa (cU ["_law_x"] [0] (uU rfl T.range_ (aa (pv 1) (aa (ak aI (pv 1) (pv 2)) ae))) (fun _=>(aF (i:=0) (show(["_law_x","_law_stair"]:List Str).Nodup from by decide +kernel) rfl (Or.inl rfl) (Or.inr rfl))) (fun _=>(iO (aZ (aw C__law_holds hr (aa (pv 1) (aa (pv 0) ae)))))) (fun _=>(pv 0))) ae)) ae))))))))),?_⟩
  walk_at "rd"
  refine aB (aj.of h1) (v:=.int (t.s:Nat)) rfl ?_
  walk_at "rd"
  refine dg (by omega) ?_
  refine ij (fun i ys H'=>H'=H/\ys=(row t.f 0 i).map V.int) (ai (by omega)) ⟨rfl,rfl⟩ ?_ ?_ ?_
  ·rintro i ys H' _ ⟨_,rfl⟩
   rw[List.length_map];exact gX _ 0 i
  ·rintro i ys H' hi ⟨rfl,hy⟩
   walk_at "rd"
   refine⟨_,_,_,_,_,_,rfl,hv.1,hv.2,?_⟩
   rw[show (0:Int)+(i:Int)=((i:Nat):Int) by omega]
   have e0:t.f (0+i)=t.f i:=by rw[Nat.zero_add]
   walk_at "rd"
   cases hg:t.f i with
   | true=>
    have hg':mem t.b t.s t.o t.a (i:Int)=true:=hg
    rw[hg']
    refine av ?_
    walk_at "rd"
    refine⟨rfl,?_⟩
    rw[←kC hy (e0.trans hg)]
    congr 3
    all_goals omega
   | false=>
    have hg':mem t.b t.s t.o t.a (i:Int)=false:=hg
    rw[hg']
    exact au ⟨rfl,ji hy (e0.trans hg)⟩
  ·rintro ys H' p' ⟨hH,rfl⟩ hp
   subst hH
   rw[Int.toNat_natCast]
   walk_at "rd"
   refine dW (ag.of aY) ?_
   have e1:Ext H' (upd H' p' (.lst ((row t.f 0 B).map V.int))):=cb hp
   generalize upd H' p' (.lst ((row t.f 0 B).map V.int))=H1 at e1
   refine ah fun t1 H2 e2 ht1 _=>?_
   have e12:=e1.trans e2
   walk_at "rd"
   refine oW (by omega) ?_
   rw[show (B:Int)+(t.s:Int)-(B:Int)=(t.s:Int) by omega]
   refine ij (fun i ys H3=>H3=H2/\ys=(row t.f B i).map V.int) (ai (by omega)) ⟨rfl,rfl⟩ ?_ ?_ ?_
   ·rintro i ys H' _ ⟨_,rfl⟩
    rw[List.length_map];exact gX _ _ i
   ·rintro i ys H3 hi ⟨rfl,hy⟩
    walk_at "rd"
    refine⟨_,_,_,_,_,_,rfl,hv.1.ext e12,hv.2,?_⟩
    rw[show (B:Int)+(i:Int)=((B+i:Nat):Int) by omega]
    walk_at "rd"
    cases hg:t.f (B+i)with
    | true=>
     have hg':mem t.b t.s t.o t.a ((B+i:Nat):Int)=true:=hg
     rw[hg']
     refine av ?_
     walk_at "rd"
     refine⟨rfl,?_⟩
     rw[←kC hy hg]
     try (congr 3;all_goals omega)
    | false=>
     have hg':mem t.b t.s t.o t.a ((B+i:Nat):Int)=false:=hg
     rw[hg']
     exact au ⟨rfl,ji hy hg⟩
   ·rintro ys H3 p3 ⟨hH,rfl⟩ hp3
    subst hH
    rw[Int.toNat_natCast]
    walk_at "rd"
    refine dW (ag.of aY) ?_
    have e3:Ext H3 (upd H3 p3 (.lst ((row t.f B t.s).map V.int))):=cb hp3
    generalize upd H3 p3 (.lst ((row t.f B t.s).map V.int))=H4 at e3
    refine ah fun t2 H5 e5 ht2 _=>?_
    walk_at "rd"
    refine⟨ai (by simp),ah fun tt H6 e6 ht _=>?_⟩
    exact q _ H6 (e12.trans (e3.trans (e5.trans e6))) ⟨tt,t1,t2,rfl,ht,e6 _ _ (e5 _ _ (e3 _ _ ht1)),e6 _ _ ht2⟩
theorem Bf{b s:Nat}{f:Nat->Bool}(hf:bH f b s)(k:Nat):row f b (s*(k+1))=row f b (s*k)++(row f b s).map fun x=>x+(s:Int)*(k:Int):=by
 rw[Nat.mul_add,Nat.mul_one,wY]
 congr 1
 rw[sZ (fun y h1 h2=>by rw[Nat.mul_comm];exact hf.mul k y h1)]
 congr 1
theorem cu.again{H:Hp}{v:V}{t:StT}(h:cu H v t):row t.f t.b t.s=t.a:=by
 have:=vx h.2.ok
 rw[Int.toNat_natCast,Int.toNat_natCast]at this
 exact this
def oZ(K:PySem.W.Frag):Sp:=fun vs H Q _=>∃v t n,vs=[v,.int (n:Nat)]/\cu H v t/\t.s*n<=2000/\∀v' H',Ext H H'->bG H' v' (t.b:Nat) ((t.s*n:Nat):Int) t.o (row t.f t.b (t.s*n))->Q v' H'
abbrev jg:Stmt:=stq 54
theorem ph:FnScope ["_law_stair","_law_many","_law_base","_law_step","_law_once","_law_again","_law_more","_law_k"] ["_law_stair","_law_many"] (aJ jg):=⟨rfl,rfl,rfl,by decide +kernel,rfl,by decide +kernel,by decide +kernel⟩
theorem xa{P:Program}{w:World}{K:PySem.W.Frag}{mg:Str->Option Value}{base:Heap}(D:Dfn K mg "_law_often" jg ["_law_stair","_law_many"])(T:Blt mg):Cal P w K mg base "_law_often" 1 ["_law_stair","_law_many"] (oZ K):=by
 have nd:=(ph).nd
 refine D.ok ph (fun vs H Q E h=>?_) (fun X hX H vs Q E h=>?_)
 ·obtain⟨v,t,n,rfl,_⟩:=h;rfl
 ·obtain⟨f,cdv,A,outer,s,H0,E0,rfl,hr⟩:=hX
  obtain⟨v,t,n,rfl,hv,hn,q⟩:=h
  have hs8:=hv.s8
  have hs1:=hv.s1
  have hn2:n<=2000:=Nat.le_trans (Nat.le_mul_of_pos_left n hs1) hn
  obtain⟨⟨p,po,pa,rfl,h1,h2,h3⟩,_⟩:=id hv
  have hal:t.a.length<=840:=by
   have:=gX t.f t.b t.s
   rw[hv.again]at this
   omega
  refine⟨_,(ao (dX (pv 0) (ff (n:=4) K rfl (br (aF (i:=2) nd rfl (Or.inl rfl)) (br (aF (i:=3) nd rfl (Or.inr rfl)) (br (aF (i:=4) nd rfl (Or.inl rfl)) (br (aF (i:=5) nd rfl (Or.inl rfl)) eM))))))
    (ao (aH (i:=6) nd rfl (Or.inl rfl) (aR ae))
    (ao (bw PassesOwn.never rfl (cQ rfl T.range_ (aa (pv 1) ae)) (aF (i:=7) nd rfl (Or.inr rfl)) (ar (aH (i:=6) nd rfl (Or.inl rfl) (ak cI (pv 6) (cU ["_law_x"] [3,7] (dG K (pv 5)) (fun _=>(aF (i:=0) (show(["_law_x","_law_step","_law_k"]:List Str).Nodup from by decide +kernel) rfl (Or.inl rfl) (Or.inr rfl))) (fun _=>fg) (fun _=>(ak aI (pv 0) (ak cM (pv 1) (pv 2)))))))))
    (ar (aA (aD (aa (pv 2) (aa (ak cM (pv 3) (pv 1)) (aa (pv 4) (aa (cT (eE K) rfl T.tuple_ PyProof.Rows.boot_tuple (aa (pv 6) ae)) ae)))))))))),?_⟩
  walk_at "rd"
  refine eR (aj.of h1) rfl ?_
  walk_at "rd"
  refine⟨ai (by simp),ah fun ml H1 e1 hm _=>?_⟩
  walk_at "rd"
  refine dg (by omega) ?_
  rw[Int.toNat_natCast]
  refine forR (fun k σ H'=>Ext H H'/\∃ml k1,σ=[some (.ref p),some (.int (n:Nat)),some (.int (t.b:Nat)),some (.int (t.s:Nat)),some (.ref po),some (.ref pa),some (.ref ml),k1]/\H' ml=some (.lst ((row t.f t.b (t.s*k)).map V.int))) ⟨e1,ml,_,rfl,hm⟩ ?_ ?_
  ·rintro k σ H2 hk ⟨e2,ml,k1,rfl,hm2⟩
   have hsk:t.s*(k+1)<=t.s*n:=Nat.mul_le_mul_left _ hk
   rw[Nat.mul_add,Nat.mul_one]at hsk
   have hrl:=gX t.f t.b (t.s*k)
   walk_at "rd"
   refine dQ (aj.of (e2 _ _ h3)) ?_
   refine iU (xs:=t.a.map V.int) (fun i ys H'=>H'=H2/\ys=((t.a.take i).map fun x=>x+(t.s:Int)*(k:Int)).map V.int) (ai (by rw[List.length_map];omega)) ⟨rfl,rfl⟩ (fun i ys H' _ h=>⟨by rw[h.1];exact aj.of (e2 _ _ h3),by rw[h.2,List.length_map,List.length_map,List.length_take];omega⟩) ?_ ?_
   ·rintro i v ys H3 hx ⟨rfl,rfl⟩
    obtain⟨z,rfl,hz⟩:=lU hx
    walk_at "rd"
    refine av ?_
    walk_at "rd"
    try refine rd_I (show fN _ _ from .inr (by omega)) ?_
    walk_at "rd"
    refine⟨rfl,?_⟩
    rw[List.take_add_one,hz,List.map_append,List.map_append]
    congr 1
    show[V.int _]=[V.int _]
    rw[show (0:Int)+(k:Int)=(k:Int) by omega]
   ·rintro ys H3 p3 ⟨hH,rfl⟩ hp3
    subst hH
    rw[List.length_map,List.take_length]
    have e3:Ext H3 (upd H3 p3 (.lst ((t.a.map fun x=>x+(t.s:Int)*(k:Int)).map V.int))):=cb hp3
    have hp4:(upd H3 p3 (.lst ((t.a.map fun x=>x+(t.s:Int)*(k:Int)).map V.int))) p3=_:=aY
    generalize upd H3 p3 (.lst ((t.a.map fun x=>x+(t.s:Int)*(k:Int)).map V.int))=H4 at e3 hp4 ⊢
    walk_at "rd"
    refine cK (e3 _ _ hm2) hp4 (ai (by rw[List.length_map,List.length_map,List.length_map];omega)) (ah fun m5 H5 e5 hm5 _=>?_)
    walk_at "rd"
    refine⟨e2.trans (e3.trans e5),m5,_,rfl,?_⟩
    rw[hm5,Bf hv.per,hv.again,List.map_append]
  ·rintro σ H2 ⟨e2,ml,k1,rfl,hm2⟩
   walk_at "rd"
   try refine rd_I (show fN _ _ from .inr (by omega)) ?_
   walk_at "rd"
   refine dW (ag.of hm2) (ah fun t2 H3 e3 ht2 _=>?_)
   walk_at "rd"
   refine⟨ai (by simp),ah fun tt H4 e4 ht _=>?_⟩
   have e34:=e3.trans e4
   exact q _ H4 (e2.trans e34) ⟨tt,po,t2,rfl,by rw[ht,Int.natCast_mul],e34 _ _ (e2 _ _ h2),e4 _ _ ht2⟩
abbrev stN(t:StT):StT:=⟨t.b,t.s,[],[]⟩
theorem A6{t:StT}{H:Hp}{v:V}(h:cu H v t):Gd (t.b:Nat) (t.s:Nat) [] []:=⟨⟨by omega,by have:=h.s1;omega,⟨List.Pairwise.nil,fun x hx=>by cases hx⟩,⟨List.Pairwise.nil,fun x hx=>by cases hx⟩⟩,by have:=h.b3;omega,by have:=h.s8;omega⟩
theorem vH(t:StT)(x:Nat):(stN t).f x=false:=by
 show(if(x:Int)<(t.b:Int)then([]:List Int).contains (x:Int)else([]:List Int).contains _)=false
 split<;>rfl
def qO(K:PySem.W.Frag):Sp:=fun vs H Q _=>∃vh m ws l xs ts,vs=[vh,.ref l]/\bj H vh m ws/\HOuse m ws/\m<=11/\H l=some (.lst xs)/\bD H xs ts/\(xs.length:Int)=m ∧
 ∀p vh' m' l' xs' ts' pg r x H',Ext H H'->H' p=some (.tup [vh',.ref l',.ref pg])->bj H' vh' m' ws->HOuse m' ws->H' l'=some (.lst xs')->bD H' xs' ts'->(xs'.length:Int)=m'->dN H' pg ((r:Nat),(x:Nat))->(r:Int)<m'->x<=60->(∃tg,ts'[r]?=some tg/\tg.f x=false)->(ts'=ts\/∃t0∈ts,ts'=ts++[stN t0])->Q (.ref p) H'
abbrev kz:Stmt:=stq 55
theorem tF:FnScope ["_law_house_here","_law_stairs","_law_room","_law_x"] ["_law_house_here","_law_stairs"] (aJ kz):=⟨rfl,rfl,rfl,by decide +kernel,rfl,by decide +kernel,by decide +kernel⟩
theorem wM{P:Program}{w:World}{K:PySem.W.Frag}{mg:Str->Option Value}{base:Heap}(D:Dfn K mg "_law_goal" kz ["_law_house_here","_law_stairs"])(T:Blt mg)(C__law_holds:Cal P w K mg base "_law_holds" 1 ["_law_stair","_law_x"] (m6 K)):Cal P w K mg base "_law_goal" 2 ["_law_house_here","_law_stairs"] (qO K):=by
 have nd:=(tF).nd
 refine D.ok tF (fun vs H Q E h=>?_) (fun X hX H vs Q E h=>?_)
 ·obtain⟨vh,m,ws,l,xs,ts,rfl,_⟩:=h;rfl
 ·obtain⟨f,cdv,A,outer,s,H0,E0,rfl,hr⟩:=hX
  obtain⟨vh,m,ws,l,xs,ts,rfl,hv,ok,hm11,hl,hS,hm,q⟩:=h
  obtain⟨hp0,hq0,rfl,hh,hw⟩:=id hv
  have m1:=ok.m1
  have hlen:=hS.len
  refine⟨_,(ao (bw PassesOwn.never rfl (cQ rfl T.range_ (aa (aq (aC K) (pv 0) af (fun _ _=>rfl)) ae)) (aF (i:=2) nd rfl (Or.inl rfl)) (ar (bw PassesOwn.never rfl (cQ rfl T.range_ (aa af ae)) (aF (i:=3) nd rfl (Or.inl rfl)) (ar (aU (bt (aZ (aw C__law_holds hr (aa (aq (aL K) (pv 1) (pv 2) (fun _ _=>rfl)) (aa (pv 3) ae))))) (ar (aA (aD (aa (pv 0) (aa (pv 1) (aa (aD (aa (pv 2) (aa (pv 3) ae))) ae)))))) aP)))))
    (ar (aA (aD (aa (aD (aa (ak aI (aq (aC K) (pv 0) af (fun _ _=>rfl)) af) (aa (aq (aC K) (pv 0) af (fun _ _=>rfl)) ae))) (aa (ak cI (pv 1) (aR (aa (aD (aa (aq (aC K) (aq (aL K) (pv 1) af (fun _ _=>rfl)) af (fun _ _=>rfl)) (aa (aq (aC K) (aq (aL K) (pv 1) af (fun _ _=>rfl)) af (fun _ _=>rfl)) (aa (aD ae) (aa (aD ae) ae))))) ae))) (aa (aD (aa (aq (aC K) (pv 0) af (fun _ _=>rfl)) (aa af ae))) ae))))))),?_⟩
  walk_at "rd"
  refine aB (aj.of hh) (v:=.int m) rfl ?_
  walk_at "rd"
  refine dg (by omega) ?_
  refine forR (fun k σ H'=>H'=H/\∃k1 k2,σ=[some (.ref hp0),some (.ref l),k1,k2]) ⟨rfl,_,_,rfl⟩ ?_ ?_
  ·rintro k σ H1 hk ⟨rfl,k1,k2,rfl⟩
   rw[show (0:Int)+(k:Int)=(k:Int) by omega]
   have hkx:k<xs.length:=by omega
   obtain⟨t,ht,hst⟩:=dk hS (List.getElem?_eq_getElem hkx)
   walk_at "rd"
   refine dg (by omega) ?_
   refine forR (fun x σ H'=>H'=H1/\∃k2,σ=[some (.ref hp0),some (.ref l),some (.int (k:Int)),k2]) ⟨rfl,_,rfl⟩ ?_ ?_
   ·rintro x σ H2 hx ⟨rfl,k2,rfl⟩
    rw[show (0:Int)+(x:Int)=((x:Nat):Int) by omega]
    have hx61:x<61:=hx
    walk_at "rd"
    refine aK (ag.of hl) (dR (List.getElem?_eq_getElem hkx)) ?_
    walk_at "rd"
    refine⟨_,_,_,_,_,_,rfl,hst.1,hst.2,?_⟩
    walk_at "rd"
    cases hg:t.f x with
    | true=>
     have hg':mem t.b t.s t.o t.a ((x:Nat):Int)=true:=hg
     rw[hg']
     refine au ?_
     walk_at "rd"
     exact⟨rfl,_,rfl⟩
    | false=>
     have hg':mem t.b t.s t.o t.a ((x:Nat):Int)=false:=hg
     rw[hg']
     refine av ?_
     walk_at "rd"
     refine⟨ai (by simp),ah fun pg H3 e3 hpg _=>?_⟩
     walk_at "rd"
     refine⟨ai (by simp),ah fun p H4 e4 hp _=>?_⟩
     have e34:=e3.trans e4
     exact q p _ m l xs ts pg k x H4 e34 hp (hv.ext e34) ok (e34 _ _ hl) (hS.ext e34) hm (e4 _ _ hpg) (by omega) (by omega) ⟨t,ht,hg⟩ (.inl rfl)
   ·rintro σ H2 ⟨rfl,k2,rfl⟩
    exact⟨rfl,_,_,rfl⟩
  ·rintro σ H1 ⟨rfl,k1,k2,rfl⟩
   have h0x:0<xs.length:=by omega
   obtain⟨t0,ht0,hs0⟩:=dk hS (List.getElem?_eq_getElem h0x)
   obtain⟨⟨pt,_,_,hpe,h1,_,_⟩,_⟩:=id hs0
   walk_at "rd"
   refine aB (aj.of hh) (v:=.int m) rfl ?_
   walk_at "rd"
   refine aB (aj.of hh) (v:=.ref hq0) rfl ?_
   walk_at "rd"
   refine⟨ai (by simp),ah fun nh H2 e2 hnh _=>?_⟩
   walk_at "rd"
   refine aK (ag.of (e2 _ _ hl)) (v:=.ref pt) (by rw[←hpe];exact dR (j:=0) (List.getElem?_eq_getElem h0x)) ?_
   walk_at "rd"
   refine aB (aj.of (e2 _ _ h1)) (v:=.int (t0.b:Nat)) rfl ?_
   walk_at "rd"
   refine aK (ag.of (e2 _ _ hl)) (v:=.ref pt) (by rw[←hpe];exact dR (j:=0) (List.getElem?_eq_getElem h0x)) ?_
   walk_at "rd"
   refine aB (aj.of (e2 _ _ h1)) (v:=.int (t0.s:Nat)) rfl ?_
   walk_at "rd"
   refine⟨ai (by simp),ah fun z1 H3 e3 hz1 _=>?_⟩
   walk_at "rd"
   refine⟨ai (by simp),ah fun z2 H4 e4 hz2 _=>?_⟩
   walk_at "rd"
   refine⟨ai (by simp),ah fun nt H5 e5 hnt _=>?_⟩
   walk_at "rd"
   refine⟨ai (by simp),ah fun nl H6 e6 hnl _=>?_⟩
   have e26:=e3.trans (e4.trans (e5.trans e6))
   have e06:=e2.trans e26
   refine cK (e06 _ _ hl) hnl (ai (by simp;omega)) (ah fun l' H7 e7 hl' _=>?_)
   have e07:=e06.trans e7
   walk_at "rd"
   refine aB (aj.of (e07 _ _ hh)) (v:=.int m) rfl ?_
   walk_at "rd"
   refine⟨ai (by simp),ah fun pg H8 e8 hpg _=>?_⟩
   walk_at "rd"
   refine⟨ai (by simp),ah fun p H9 e9 hp _=>?_⟩
   have e79:=e8.trans e9
   have e09:=e07.trans e79
   have e59:=e6.trans (e7.trans e79)
   have hnt9:bG H9 (.ref nt) (t0.b:Nat) (t0.s:Nat) [] []:=⟨nt,z1,z2,rfl,e59 _ _ hnt,e59 _ _ (e5 _ _ (e4 _ _ hz1)),e59 _ _ (e5 _ _ hz2)⟩
   have hw9:bj H9 (.ref nh) (m+1) ws:=⟨nh,hq0,rfl,e79 _ _ (e7 _ _ (e26 _ _ hnh)),hw.ext e09⟩
   have ok9:HOuse (m+1) ws:=⟨by omega,by omega,ok.few,fun w hw=>by
    obtain⟨a1,a2,a3,a4,a5,a6⟩:=ok.ok w hw
    exact⟨a1,by omega,a3,by omega,a5,a6⟩,ok.nd⟩
   refine q p _ (m+1) l' (xs++[.ref nt]) (ts++[stN t0]) pg m.toNat 7 H9 e09 hp hw9 ok9 (e79 _ _ hl') (iC (hS.ext e09) ⟨hnt9,A6 (t:=t0) hs0⟩) (by rw[List.length_append,List.length_singleton];omega) ?_ (by omega) (by omega) ⟨stN t0,?_,vH t0 7⟩ (.inr ⟨t0,List.mem_of_getElem? ht0,rfl⟩)
   ·show H9 pg=some (.tup [.int (m.toNat:Nat),.int 7])
    rw[Int.toNat_of_nonneg (by omega)]
    exact e9 _ _ hpg
   ·rw[List.getElem?_append_right (by omega),show m.toNat-ts.length=0 by omega]
    rfl
def gf(H:Hp)(m:Int)(ws:List Way)(va vo tv:V)(due:Bool):Prop:=(ef H m tv/\due=false)\/∃ts,dn H m tv ts/\Kn H 1 va/\Kn H 1 vo/\bU H m ws ts va vo/\due=true
theorem wN{K:PySem.W.Frag}{H:Hp}{vh va vo tv:V}{m:Int}{ws:List Way}{due:Bool}{Q:VK}{E:XK}(hv:bj H vh m ws)(ok:HOuse m ws)(h:gf H m ws va vo tv due)(q:∀H',Ext H H'->Q (.bl due) H'):gJ K [vh,tv] H Q E:=by
 refine⟨vh,tv,rfl,.inr ⟨m,ws,hv,ok,?_⟩⟩
 rcases h with⟨hb,rfl⟩ | ⟨ts,hg,_,_,hn,rfl⟩
 ·exact .inl ⟨hb,q⟩
 ·refine .inr ⟨ts,hg,fun r H' e hr=>?_⟩
  rw[hr.mpr hn.1]
  exact q H' e
theorem bU.ext{H H':Hp}(e:Ext H H'){m:Int}{ws:List Way}{ts:List StT}{va vo:V}(h:bU H m ws ts va vo):bU H' m ws ts va vo:=by
 obtain⟨h1,x1,x2,t1,t2,k1,k2,r⟩:=h
 exact⟨h1,x1,x2,t1,t2,k1.ext e,k2.ext e,r⟩
theorem gf.ext{H H':Hp}(e:Ext H H'){m:Int}{ws:List Way}{va vo tv:V}{due:Bool}(h:gf H m ws va vo tv due):gf H' m ws va vo tv due:=by
 rcases h with⟨hb,hd⟩ | ⟨ts,hg,k1,k2,hn,hd⟩
 ·exact .inl ⟨hb.ext e,hd⟩
 ·exact .inr ⟨ts,hg.ext e,k1.ext e,k2.ext e,hn.ext e,hd⟩
theorem uO{K:PySem.W.Frag}{H:Hp}{vh va vo tv:V}{m:Int}{ws:List Way}{due:Bool}{Q:VK}{E:XK}(hv:bj H vh m ws)(ok:HOuse m ws)(h:gf H m ws va vo tv due)(q:∀H',Ext H H'->Q (.bl due) H'):gL K [vh,va,vo,tv] H Q E:=by
 refine⟨vh,va,vo,tv,rfl,.inr ⟨m,ws,hv,ok,?_⟩⟩
 rcases h with⟨hb,rfl⟩ | ⟨ts,hg,k1,k2,hn,rfl⟩
 ·exact .inl ⟨hb,q⟩
 ·refine .inr ⟨ts,hg,k1,k2,fun r H' e hr=>?_⟩
  rw[hr.mpr hn]
  exact q H' e
def nL(K:PySem.W.Frag):Sp:=fun vs H Q _=>∃vh va vo tv due m ws,vs=[vh,va,vo,tv,.bl due]/\bj H vh m ws/\HOuse m ws/\gf H m ws va vo tv due/\∀H',Ext H H'->Q (.bl true) H'
abbrev kG:Stmt:=stq 56
theorem oH:FnScope ["_law_house_here","_law_place","_law_goal_here","_law_stairs","_law_due","_law_told"] ["_law_house_here","_law_place","_law_goal_here","_law_stairs","_law_due"] (aJ kG):=⟨rfl,rfl,rfl,by decide +kernel,rfl,by decide +kernel,by decide +kernel⟩
theorem wX{P:Program}{w:World}{K:PySem.W.Frag}{mg:Str->Option Value}{base:Heap}(D:Dfn K mg "_law_both_are" kG ["_law_house_here","_law_place","_law_goal_here","_law_stairs","_law_due"])(T:Blt mg)(C_sees_never:Cal P w K mg base "sees_never" 10 ["house","place","goal","stairs"] (gL K))(C_sees_closed:Cal P w K mg base "sees_closed" 9 ["house","stairs"] (gJ K)):Cal P w K mg base "_law_both_are" 11 ["_law_house_here","_law_place","_law_goal_here","_law_stairs","_law_due"] (nL K):=by
 have nd:=(oH).nd
 refine D.ok oH (fun vs H Q E h=>?_) (fun X hX H vs Q E h=>?_)
 ·obtain⟨vh,va,vo,tv,due,m,ws,rfl,_⟩:=h;rfl
 ·obtain⟨f,cdv,A,outer,s,H0,E0,rfl,hr⟩:=hX
  obtain⟨vh,va,vo,tv,due,m,ws,rfl,hv,ok,hb,q⟩:=h
  refine⟨_,(ao (aH (i:=5) nd rfl (Or.inl rfl) (aR (aa (aw C_sees_closed hr (aa (pv 0) (aa (pv 3) ae))) (aa (aw C_sees_never hr (aa (pv 0) (aa (pv 1) (aa (pv 2) (aa (pv 3) ae))))) ae))))
    (ar (aA (bR (aV (mO K rfl) rfl T.all_ PyProof.Rows.boot_all (aa (cU ["_law_one"] [] (cZ K (pv 5)) (fun _=>(aF (i:=0) (show(["_law_one"]:List Str).Nodup from by decide +kernel) rfl (Or.inl rfl) (Or.inr rfl))) (fun _=>fg) (fun _=>(aV cS rfl T.isinstance_ PyProof.Rows.boot_isinstance (aa (pv 0) (aa (cP (v:=.ty "bool") rfl T.bool_ PyProof.Rows.boot_bool rfl) ae))))) ae)) (cv (cD (Aw hr) (pv 5) (aR (aa (pv 4) (aa (pv 4) ae))) (aG _))))))),?_⟩
  walk_at "rd"
  refine wN hv ok hb fun H1 e1=>?_
  walk_at "rd"
  refine uO (hv.ext e1) ok (hb.ext e1) fun H2 e2=>?_
  walk_at "rd"
  refine⟨ai (by simp),ah fun l H3 e3 hl _=>?_⟩
  walk_at "rd"
  refine cR (ag.of hl) ?_
  refine mY (xs:=[V.bl due,V.bl due]) (fun i ys H'=>H'=H3/\ys=(List.replicate i true).map V.bl) (ai (by simp)) ⟨rfl,rfl⟩ (fun i ys H' _ h=>⟨by rw[h.1];exact ag.of hl,by rw[h.2,List.length_map,List.length_replicate];exact Nat.le_refl _⟩) ?_ ?_
  ·rintro i v ys H4 hx ⟨rfl,rfl⟩
   have hv':v=.bl due:=by
    match i,hx with
    | 0,hx=>exact(Option.some.inj hx).symm
    | 1,hx=>exact(Option.some.inj hx).symm
   subst hv'
   walk_at "rd"
   refine av ?_
   walk_at "rd"
   refine ck (n:="bool") rfl (b:=true) rfl ?_
   refine⟨rfl,?_⟩
   rw[List.replicate_succ',List.map_append]
   rfl
  ·rintro ys H4 p ⟨hH,rfl⟩ hp
   subst hH
   have e4:Ext H4 (upd H4 p (.lst ((List.replicate [V.bl due,V.bl due].length true).map V.bl))):=cb hp
   walk_at "rd"
   refine⟨p,List.replicate 2 true,rfl,ag.of aY,?_⟩
   refine rd_exb (av ?_)
   walk_at "rd"
   refine⟨ai (by simp),ah fun l2 H5 e5 hl2 _=>?_⟩
   have hl5:=e5 _ _ (e4 _ _ hl)
   refine⟨1,1,.list [.bool due,.bool due],.list [.bool due,.bool due],.inr ⟨l,[V.bl due,V.bl due],[.bool due,.bool due],rfl,.inr ⟨hl5,rfl⟩,.cons rfl (.cons rfl .nil)⟩,.inr ⟨l2,[V.bl due,V.bl due],[.bool due,.bool due],rfl,.inr ⟨hl2,rfl⟩,.cons rfl (.cons rfl .nil)⟩,by omega,?_⟩
   have he:PyData.eqv (.list [.bool due,.bool due]) (.list [.bool due,.bool due])=true:=by cases due<;>decide +kernel
   rw[he]
   exact q H5 (e1.trans (e2.trans (e3.trans (e4.trans e5))))
def bE(H:Hp)(v:V):Prop:=Kn H 2 v/\bB H v=false
theorem bE.ext{H H':Hp}(e:Ext H H'){v:V}(h:bE H v):bE H' v:=⟨h.1.ext e,(sA e h.1).trans h.2⟩
theorem fh{H:Hp}{d:Nat}{p:Addr}{xs:List V}(h:H p=some (.tup xs))(hx:∀x∈xs,Kn H d x):Kn H (d+1) (.ref p):=by
 refine⟨⟨"tuple",.inr ⟨rfl,_,h⟩⟩,fun p' ys e z x hx'=>?_⟩
 cases e
 rw[h]at z
 cases z
 exact hx x hx'
theorem mC{H:Hp}{d:Nat}{p:Addr}{xs:List V}(h:H p=some (.lst xs)):Kn H d (.ref p):=by
 cases d with
 | zero=>exact⟨"list",.inl ⟨rfl,_,h⟩⟩
 | succ d=>
  refine⟨⟨"list",.inl ⟨rfl,_,h⟩⟩,fun p' ys e z x hx'=>?_⟩
  cases e
  rw[h]at z
  cases z
theorem aW{H:Hp}{d:Nat}{i:Int}:Kn H d (.int i):=by cases d<;>first | exact ⟨"int",rfl⟩ | exact ⟨⟨"int",rfl⟩,fun _ _ e=>nomatch e⟩
theorem sH{H:Hp}{d:Nat}{b:Bool}:Kn H d (.bl b):=by cases d<;>first | exact ⟨"bool",rfl⟩ | exact ⟨⟨"bool",rfl⟩,fun _ _ e=>nomatch e⟩
theorem jd{H:Hp}{d:Nat}:Kn H d .non:=by cases d<;>first | exact ⟨"NoneType",rfl⟩ | exact ⟨⟨"NoneType",rfl⟩,fun _ _ e=>nomatch e⟩
theorem xE{H:Hp}{d:Nat}{z:Str}:Kn H d (.str z):=by cases d<;>first | exact ⟨"str",rfl⟩ | exact ⟨⟨"str",rfl⟩,fun _ _ e=>nomatch e⟩
theorem dM{H:Hp}{d:Nat}{p:Addr}(h:H p=some (.tup [])):Kn H (d+1) (.ref p):=fh h fun x hx=>by cases hx
theorem bg{H:Hp}{d:Nat}{x:V}{xs:List V}(h:Kn H d x)(h':∀y∈xs,Kn H d y):∀y∈x::xs,Kn H d y:=fun y hy=>by
 rcases List.mem_cons.mp hy with rfl | hy
 ·exact h
 ·exact h' y hy
theorem cx{H:Hp}{d:Nat}:∀y∈([]:List V),Kn H d y:=fun y hy=>by cases hy
theorem zL{H:Hp}:bE H .non:=⟨jd,rfl⟩
theorem uZ{H:Hp}{z:Str}:bE H (.str z):=⟨xE,rfl⟩
theorem y7{H:Hp}{p:Addr}{xs:List V}(h:H p=some (.lst xs)):bE H (.ref p):=⟨mC h,by
 unfold bB
 rw[kS]
 ·rfl
 ·intro p' ys e z
  cases e
  rw[h]at z
  cases z⟩
theorem ye{H:Hp}{p:Addr}{xs:List V}(h:H p=some (.tup xs))(hx:∀x∈xs,Kn H 1 x)(hl:xs.length≠4):bE H (.ref p):=⟨fh h hx,by
 unfold bB
 rw[iB h hl]
 rfl⟩
theorem fJ{H:Hp}{p:Addr}{b s o a:V}(h:H p=some (.tup [b,s,o,a]))(hb:Kn H 1 b)(hs:Kn H 1 s)(ho:Kn H 1 o)(ha:Kn H 1 a)(hp:cC H b s o a=false):bE H (.ref p):=⟨fh h (bg hb (bg hs (bg ho (bg ha cx)))),by
 unfold bB
 rw[dD h,hp]
 rfl⟩
theorem qk{H:Hp}{v:V}{b s:Int}{o a:List Int}(h:bG H v b s o a)(hb:3000<b\/840<s):bE H v:=⟨h.kn,by
 obtain⟨p,q,r,rfl,h1,_,_⟩:=h
 unfold bB
 rw[iw h1]
 rcases hb with hb | hb
 ·rw[decide_eq_false (show ¬b<=3000 by omega),Bool.false_and,Bool.and_false]
 ·rw[decide_eq_false (show ¬s<=840 by omega),Bool.and_false,Bool.and_false]⟩
theorem zP{H:Hp}{m:Int}{l:Addr}{xs:List V}{v:V}(h:H l=some (.lst xs))(hl:xs.length<=1000)(hm:(xs.length:Int)=m)(hk:∀x∈xs,Kn H 2 x)(hv:v∈xs)(ho:bE H v):ef H m (.ref l):=
 .inr ⟨l,xs,rfl,h,hl,hk,.inr (.inl ⟨hm,v,hv,ho.2⟩)⟩
theorem j8{xs:List V}{k:Nat}(h:k+1<=xs.length):cf xs (some ((k:Int)+1)) none=xs.drop (k+1):=by
 unfold cf
 rw[HT.kY]
 have e:HT.bz xs.length 0 (some ((k:Int)+1))=k+1:=by
  show(if(k:Int)+1<0 then((k:Int)+1+(xs.length:Int)).toNat else min ((k:Int)+1).toNat xs.length)=k+1
  rw[if_neg (by omega)]
  omega
 rw[e]
 exact List.take_of_length_le (by rw[List.length_drop];omega)
theorem oC{α β:Type}{R:α->β->Prop}:∀{xs:List α} {ys:List β} {x:α} {y:β} {r:Nat},Paired R xs ys->R x y->Paired R (xs.set r x) (ys.set r y)
 | _,_,_,_,_,.nil,_=>.nil
 | _,_,_,_,0,.cons _ t,h=>.cons h t
 | _,_,_,_,r+1,.cons h t,h'=>.cons h (oC (r:=r) t h')
theorem u7{α:Type}{xs:List α}{r:Nat}{x:α}(h:r<xs.length):xs.take r++[x]++xs.drop (r+1)=xs.set r x:=by
 rw[List.set_eq_take_append_cons_drop,if_pos h,List.append_assoc]
 rfl
theorem pb{ts:List StT}{r:Nat}{t t':StT}(ht:ts[r]?=some t)(hf:t'.f=t.f){i:Nat}{u:StT}(h:(ts.set r t')[i]?=some u):∃u',ts[i]?=some u'/\u.f=u'.f:=by
 rw[List.getElem?_set]at h
 split at h
 ·rename_i e
  subst e
  split at h
  ·cases h
   exact⟨t,ht,hf⟩
  ·cases h
 ·exact⟨u,h,rfl⟩
theorem oo{ts:List StT}{r:Nat}{t t':StT}(ht:ts[r]?=some t)(hf:t'.f=t.f){i:Nat}{u:StT}(h:ts[i]?=some u):∃u',(ts.set r t')[i]?=some u'/\u'.f=u.f:=by
 rw[List.getElem?_set]
 by_cases e:r=i
 ·subst e
  rw[ht]at h
  cases h
  obtain⟨hl,_⟩:=List.getElem?_eq_some_iff.mp ht
  rw[if_pos rfl,if_pos hl]
  exact⟨t',rfl,hf⟩
 ·rw[if_neg e]
  exact⟨u,h,rfl⟩
theorem bU.same{H:Hp}{m:Int}{ws:List Way}{ts:List StT}{va vo:V}{r:Nat}{t t':StT}(h:bU H m ws ts va vo)(ht:ts[r]?=some t)(hf:t'.f=t.f):bU H m ws (ts.set r t') va vo:=by
 obtain⟨hc,x1,x2,t1,t2,p1,p2,i1,i2,g1,g2,f1,f2⟩:=h
 obtain⟨u1,k1,l1⟩:=oo ht hf g1
 obtain⟨u2,k2,l2⟩:=oo ht hf g2
 refine⟨fun w hw a1 a2 ha1 ha2 hl=>?_,x1,x2,u1,u2,p1,p2,i1,i2,k1,k2,by rw[l1];exact f1,by rw[l2];exact f2⟩
 obtain⟨b1,y1,z1⟩:=pb ht hf ha1
 obtain⟨b2,y2,z2⟩:=pb ht hf ha2
 rw[z1,z2]at hl
 exact hc w hw b1 b2 y1 y2 hl
theorem iS{ts:List StT}(h:∀x∈ts,∀y∈ts,cm x.s y.s<=840):steps ts=true:=
 List.all_eq_true.mpr fun x hx=>List.all_eq_true.mpr fun y hy=>decide_eq_true (h x hx y hy)
theorem AL{ts:List StT}{r:Nat}{t t':StT}(ht:t∈ts)(hs1:1<=t.s)(h1:1<=t'.s)(h8:t'.s<=840)(hd:t.s ∣ t'.s)(hall:∀u∈ts,u.s=t.s):steps (ts.set r t')=true:=by
 have h84:t.s<=840:=Nat.le_trans (Nat.le_of_dvd h1 hd) h8
 refine iS fun x hx y hy=>?_
 rcases List.mem_or_eq_of_mem_set hx with ax | ax
 ·rcases List.mem_or_eq_of_mem_set hy with ay | ay
  ·rw[hall x ax,hall y ay,fZ hs1];exact h84
  ·rw[hall x ax,ay,nv,rD h1 hd];exact h8
 ·rcases List.mem_or_eq_of_mem_set hy with ay | ay
  ·rw[ax,hall y ay,rD h1 hd];exact h8
  ·rw[ax,ay,fZ h1];exact h8
theorem nk{f:Nat->Bool}{l d:Nat}(h1:1<=d)(h2:l<=3000)(h3:d<=840):Gd l d (row f 0 l) (row f l d):=⟨oU f l d h1,by omega,by omega⟩
theorem wJ{H H':Hp}{v v':V}{t:StT}{B:Nat}(h:cu H v t)(hb:t.b<=B)(hB:B<=3000)(h':bG H' v' (B:Nat) (t.s:Nat) (row t.f 0 B) (row t.f B t.s)):∃t',cu H' v' t'/\t'.f=t.f/\t.s ∣ t'.s:=
 ⟨⟨B,t.s,row t.f 0 B,row t.f B t.s⟩,⟨h',nk h.s1 hB h.s8⟩,funext fun x=>i9 h.s1 (h.per.mono hb) x,Nat.dvd_refl _⟩
theorem yU{H H':Hp}{v v':V}{t:StT}{n:Nat}(h:cu H v t)(hn:1<=n)(h8:t.s*n<=840)(h':bG H' v' (t.b:Nat) ((t.s*n:Nat):Int) t.o (row t.f t.b (t.s*n))):∃t',cu H' v' t'/\t'.f=t.f/\t.s ∣ t'.s:=by
 have ho:row t.f 0 t.b=t.o:=by
  have:=yQ h.2.ok
  rw[Int.toNat_natCast]at this
  exact this
 have h1:1<=t.s*n:=Nat.mul_pos h.s1 hn
 rw[←ho]at h'
 exact⟨⟨t.b,t.s*n,row t.f 0 t.b,row t.f t.b (t.s*n)⟩,⟨h',nk h1 h.b3 h8⟩,funext fun x=>i9 h1 (by have:=h.per.times n;rw[Nat.mul_comm]at this;exact this) x,Nat.dvd_mul_right _ _⟩
def sL(K:PySem.W.Frag):Sp:=fun vs H Q _=>∃vh va vo l xs ts m ws r,vs=[vh,va,vo,.ref l,.int (r:Nat)]/\bj H vh m ws/\HOuse m ws/\H l=some (.lst xs)/\bD H xs ts/\steps ts=true/\(xs.length:Int)=m/\(r:Int)<m/\Kn H 1 va/\Kn H 1 vo/\bU H m ws ts va vo/\(∀t∈ts,∀u∈ts,t.s=u.s/\t.s<=12/\t.b=u.b/\t.b<=40)/\∀H',Ext H H'->Q (.bl true) H'
abbrev jf:Stmt:=stq 57
theorem ub:FnScope ["_law_house_here","_law_place","_law_goal_here","_law_stairs","_law_room","_law_stair","_law_low","_law_high","_law_odd","_law_thing","_law_some","_law_good"] ["_law_house_here","_law_place","_law_goal_here","_law_stairs","_law_room"] (aJ jf):=⟨rfl,rfl,rfl,by decide +kernel,rfl,by decide +kernel,by decide +kernel⟩
theorem yG{P:Program}{w:World}{K:PySem.W.Frag}{mg:Str->Option Value}{base:Heap}(D:Dfn K mg "_law_lists_seen" jf ["_law_house_here","_law_place","_law_goal_here","_law_stairs","_law_room"])(T:Blt mg)(C__law_often:Cal P w K mg base "_law_often" 1 ["_law_stair","_law_many"] (oZ K))(C__law_from:Cal P w K mg base "_law_from" 2 ["_law_stair","_law_base"] (qU K))(C__law_both_are:Cal P w K mg base "_law_both_are" 11 ["_law_house_here","_law_place","_law_goal_here","_law_stairs","_law_due"] (nL K)):Cal P w K mg base "_law_lists_seen" 12 ["_law_house_here","_law_place","_law_goal_here","_law_stairs","_law_room"] (sL K):=by
 have nd:=(ub).nd
 refine D.ok ub (fun vs H Q E h=>?_) (fun X hX H vs Q E h=>?_)
 ·obtain⟨vh,va,vo,l,xs,ts,m,ws,r,rfl,_⟩:=h;rfl
 ·obtain⟨f,cdv,A,outer,s,H0,E0,rfl,hr⟩:=hX
  obtain⟨vh,va,vo,l,xs,ts,m,ws,r,rfl,hv,ok,hl,hS,hst,hm,hrm,hka,hko,hN,hall,q⟩:=h
  refine⟨_,(@ao _ _ _ _ _ (@aH _ _ 5 _ _ _ _ nd rfl (Or.inl rfl) (@aq _ _ _ _ _ _ _ (aL K) (pv 3) (pv 4) (fun _ _=>rfl)) rfl (Or.inl rfl))
    (@ao _ _ _ _ _ (@aH _ _ 6 _ _ _ _ nd rfl (Or.inl rfl) (gH (gy K) (pv 3) iI (eW (pv 4))) rfl (Or.inl rfl))
    (@ao _ _ _ _ _ (@aH _ _ 7 _ _ _ _ nd rfl (Or.inl rfl) (gH (gy K) (pv 3) (eW (ak aI (pv 4) af)) iI) rfl (Or.inl rfl))
    (@ao _ _ _ _ _ (@aH _ _ 8 _ _ _ _ nd rfl (Or.inl rfl) (@aR _ _ _ _ (@aa _ _ _ _ _ fB (@aa _ _ _ _ _ aQ (@fe _ _ _ _ _ (.tup (.cons .int (.cons .int (.cons (.tup .nil) .nil)))) (@aa _ _ _ _ _ (@aR _ _ _ _ (@aa _ _ _ _ _ af (@aa _ _ _ _ _ af (@aa _ _ _ _ _ (@aD _ _ _ _ _ ae) (@aa _ _ _ _ _ (@aD _ _ _ _ _ ae) ae rfl) rfl) rfl) rfl)) (@fe _ _ _ _ _ (.tup (.cons .int (.cons .int (.cons (.tup .nil) (.cons (.tup .nil) .nil))))) (@aa _ _ _ _ _ (@aD _ _ _ _ _ (@aa _ _ _ _ _ (gW gM af) (@aa _ _ _ _ _ af (@aa _ _ _ _ _ (@aD _ _ _ _ _ ae) (@aa _ _ _ _ _ (@aD _ _ _ _ _ (@aa _ _ _ _ _ af ae rfl)) ae rfl) rfl) rfl) rfl)) (@fe _ _ _ _ _ (.tup (.cons .int (.cons .int (.cons (.tup .nil) (.cons (.tup (.cons .int .nil)) .nil))))) ae) rfl)) rfl)) rfl) rfl)) rfl (Or.inl rfl))
    (@ao _ _ _ _ _ (@aH _ _ 8 _ _ _ _ nd rfl (Or.inl rfl) (ak cI (pv 8) (@aR _ _ _ _ (@fe _ _ _ _ _ (.tup (.cons .int (.cons .int (.cons (.tup (.cons .int (.cons .int .nil))) (.cons (.tup .nil) .nil))))) (@fe _ _ _ _ _ (.tup (.cons .bl (.cons .int (.cons (.tup .nil) (.cons (.tup .nil) .nil))))) (@fe _ _ _ _ _ (.tup (.cons .int (.cons .int (.cons (.tup (.cons .int (.cons .int .nil))) (.cons (.tup .nil) .nil))))) (@aa _ _ _ _ _ (@aD _ _ _ _ _ (@aa _ _ _ _ _ af (@aa _ _ _ _ _ af (@aa _ _ _ _ _ (@aR _ _ _ _ (@aa _ _ _ _ _ af ae rfl)) (@aa _ _ _ _ _ (@aD _ _ _ _ _ ae) ae rfl) rfl) rfl) rfl)) (@aa _ _ _ _ _ (aw C__law_from hr (@aa _ _ _ _ _ (pv 5) (@aa _ _ _ _ _ af ae rfl) rfl)) ae rfl) rfl)))))) rfl (Or.inl rfl))
    (@ao _ _ _ _ _ (bx (bK K PySem.F.plainAttrs_list PySem.F.slot_list_append PySem.F.type_list_append bJ (pv 8) (@aa _ _ _ _ _ (aw C__law_often hr (@aa _ _ _ _ _ (pv 5) (@aa _ _ _ _ _ (ak aI (ak iE af (@aq _ _ _ _ _ _ _ (aC K) (pv 5) af (fun _ _=>rfl))) af) ae rfl) rfl)) ae rfl)))
    (@ao _ _ _ _ _ (bw PassesOwn.never rfl (cZ K (pv 8)) (aF (i:=9) nd rfl (Or.inl rfl)) (@ar _ _ _ (@aU _ _ _ _ _ _ _ _ (bt (aZ (aw C__law_both_are hr (@aa _ _ _ _ _ (pv 0) (@aa _ _ _ _ _ (pv 1) (@aa _ _ _ _ _ (pv 2) (@aa _ _ _ _ _ (ak cI (ak cI (pv 6) (@aR _ _ _ _ (@aa _ _ _ _ _ (pv 9) ae rfl))) (pv 7)) (@aa _ _ _ _ _ aN ae rfl) rfl) rfl) rfl) rfl)))) (@ar _ _ _ (@aA _ _ _ _ aN)) aP)))
    (@ao _ _ _ _ _ (bw PassesOwn.never rfl (cZ K (@aR _ _ _ _ (@aa _ _ _ _ _ (gH (gy K) (pv 3) iI (eW (gW gM af))) (@aa _ _ _ _ _ (ak cI (pv 3) (@aR _ _ _ _ (@aa _ _ _ _ _ (pv 5) ae rfl))) (@aa _ _ _ _ _ (cT (eE K) rfl T.tuple_ PyProof.Rows.boot_tuple (@aa _ _ _ _ _ (pv 3) ae rfl)) (@aa _ _ _ _ _ fB (@aa _ _ _ _ _ (@aD _ _ _ _ _ ae) (@aa _ _ _ _ _ aQ (@aa _ _ _ _ _ (ak cI (pv 3) (@aR _ _ _ _ (@aa _ _ _ _ _ fB ae rfl))) ae rfl) rfl) rfl) rfl) rfl) rfl) rfl))) (aF (i:=10) nd rfl (Or.inl rfl)) (@ar _ _ _ (@aU _ _ _ _ _ _ _ _ (bt (aZ (aw C__law_both_are hr (@aa _ _ _ _ _ (pv 0) (@aa _ _ _ _ _ (pv 1) (@aa _ _ _ _ _ (pv 2) (@aa _ _ _ _ _ (pv 10) (@aa _ _ _ _ _ aN ae rfl) rfl) rfl) rfl) rfl)))) (@ar _ _ _ (@aA _ _ _ _ aN)) aP)))
    (@ao _ _ _ _ _ (bw PassesOwn.never rfl (cZ K (@aR _ _ _ _ (@aa _ _ _ _ _ (aw C__law_from hr (@aa _ _ _ _ _ (pv 5) (@aa _ _ _ _ _ af ae rfl) rfl)) (@aa _ _ _ _ _ (aw C__law_often hr (@aa _ _ _ _ _ (pv 5) (@aa _ _ _ _ _ (ak iE af (@aq _ _ _ _ _ _ _ (aC K) (pv 5) af (fun _ _=>rfl))) ae rfl) rfl)) ae rfl) rfl))) (aF (i:=11) nd rfl (Or.inl rfl)) (@ar _ _ _ (@aU _ _ _ _ _ _ _ _ (bt (aZ (aw C__law_both_are hr (@aa _ _ _ _ _ (pv 0) (@aa _ _ _ _ _ (pv 1) (@aa _ _ _ _ _ (pv 2) (@aa _ _ _ _ _ (ak cI (ak cI (pv 6) (@aR _ _ _ _ (@aa _ _ _ _ _ (pv 11) ae rfl))) (pv 7)) (@aa _ _ _ _ _ aN ae rfl) rfl) rfl) rfl) rfl)))) (@ar _ _ _ (@aA _ _ _ _ aN)) aP)))
    (@ar _ _ _ (@aA _ _ _ _ aN))))))))))),?_⟩
  have hrx:r<xs.length:=by omega
  have hm12:=ok.m12
  obtain⟨t,ht,hvt⟩:=dk hS (List.getElem?_eq_getElem hrx)
  walk_at "rd"
  refine aK (ag.of hl) (dR (List.getElem?_eq_getElem hrx)) ?_
  generalize xs[r]=v0 at hvt
  walk_at "rd"
  refine gn (ag.of hl) (ah fun lo H1 e1 hlo _=>?_)
  walk_at "rd"
  refine gn (ag.of (e1 _ _ hl)) (ah fun hi H2 e2 hhi _=>?_)
  walk_at "rd"
  refine⟨ai (by simp),ah fun z3 H3 e3 hz3 _=>?_⟩
  walk_at "rd"
  refine⟨ai (by simp),ah fun z4 H4 e4 hz4 _=>?_⟩
  walk_at "rd"
  refine⟨ai (by simp),ah fun z5 H5 e5 hz5 _=>?_⟩
  walk_at "rd"
  refine⟨ai (by simp),ah fun z6 H6 e6 hz6 _=>?_⟩
  walk_at "rd"
  refine⟨ai (by simp),ah fun z7 H7 e7 hz7 _=>?_⟩
  walk_at "rd"
  refine⟨ai (by simp),ah fun z8 H8 e8 hz8 _=>?_⟩
  walk_at "rd"
  refine⟨ai (by simp),ah fun z9 H9 e9 hz9 _=>?_⟩
  walk_at "rd"
  refine⟨ai (by simp),ah fun z10 H10 e10 hz10 _=>?_⟩
  walk_at "rd"
  refine⟨ai (by simp),ah fun z11 H11 e11 hz11 _=>?_⟩
  walk_at "rd"
  refine⟨ai (by simp),ah fun z12 H12 e12 hz12 _=>?_⟩
  walk_at "rd"
  refine⟨ai (by simp),ah fun z13 H13 e13 hz13 _=>?_⟩
  walk_at "rd"
  refine⟨ai (by simp),ah fun z14 H14 e14 hz14 _=>?_⟩
  walk_at "rd"
  refine⟨ai (by simp),ah fun z15 H15 e15 hz15 _=>?_⟩
  walk_at "rd"
  refine⟨ai (by simp),ah fun z16 H16 e16 hz16 _=>?_⟩
  walk_at "rd"
  refine⟨ai (by simp),ah fun z17 H17 e17 hz17 _=>?_⟩
  walk_at "rd"
  refine⟨ai (by simp),ah fun z18 H18 e18 hz18 _=>?_⟩
  walk_at "rd"
  refine⟨ai (by simp),ah fun z19 H19 e19 hz19 _=>?_⟩
  walk_at "rd"
  refine⟨ai (by simp),ah fun z20 H20 e20 hz20 _=>?_⟩
  walk_at "rd"
  refine⟨ai (by simp),ah fun z21 H21 e21 hz21 _=>?_⟩
  walk_at "rd"
  refine⟨ai (by simp),ah fun z22 H22 e22 hz22 _=>?_⟩
  walk_at "rd"
  refine⟨ai (by simp),ah fun z23 H23 e23 hz23 _=>?_⟩
  walk_at "rd"
  refine⟨ai (by simp),ah fun z24 H24 e24 hz24 _=>?_⟩
  walk_at "rd"
  refine⟨ai (by simp),ah fun z25 H25 e25 hz25 _=>?_⟩
  walk_at "rd"
  refine⟨ai (by simp),ah fun z26 H26 e26 hz26 _=>?_⟩
  walk_at "rd"
  refine⟨ai (by simp),ah fun z27 H27 e27 hz27 _=>?_⟩
  walk_at "rd"
  refine⟨ai (by simp),ah fun z28 H28 e28 hz28 _=>?_⟩
  walk_at "rd"
  refine⟨ai (by simp),ah fun z29 H29 e29 hz29 _=>?_⟩
  walk_at "rd"
  have g28:=e29
  have g27:=e28.trans g28
  have g26:=e27.trans g27
  have g25:=e26.trans g26
  have g24:=e25.trans g25
  have g23:=e24.trans g24
  have g22:=e23.trans g23
  have g21:=e22.trans g22
  have g20:=e21.trans g21
  have g19:=e20.trans g20
  have g18:=e19.trans g19
  have g17:=e18.trans g18
  have g16:=e17.trans g17
  have g15:=e16.trans g16
  have g14:=e15.trans g15
  have g13:=e14.trans g14
  have g12:=e13.trans g13
  have g11:=e12.trans g12
  have g10:=e11.trans g11
  have g9:=e10.trans g10
  have g8:=e9.trans g9
  have g7:=e8.trans g8
  have g6:=e7.trans g7
  have g5:=e6.trans g6
  have g4:=e5.trans g5
  have g3:=e4.trans g4
  have g2:=e3.trans g3
  have g1:=e2.trans g2
  have g0:=e1.trans g1
  have q3:=g3 _ _ hz3
  have q4:=g4 _ _ hz4
  have q5:=g5 _ _ hz5
  have q6:=g6 _ _ hz6
  have q7:=g7 _ _ hz7
  have q8:=g8 _ _ hz8
  have q9:=g9 _ _ hz9
  have q10:=g10 _ _ hz10
  have q11:=g11 _ _ hz11
  have q12:=g12 _ _ hz12
  have q13:=g13 _ _ hz13
  have q14:=g14 _ _ hz14
  have q15:=g15 _ _ hz15
  have q16:=g16 _ _ hz16
  have q18:=g18 _ _ hz18
  have q19:=g19 _ _ hz19
  have q20:=g20 _ _ hz20
  have q21:=g21 _ _ hz21
  have q22:=g22 _ _ hz22
  have q23:=g23 _ _ hz23
  have q24:=g24 _ _ hz24
  have q25:=g25 _ _ hz25
  have q26:=g26 _ _ hz26
  have q27:=g27 _ _ hz27
  have q28:=g28 _ _ hz28
  have q29:=hz29
  have q17:=g17 _ _ hz17
  have o1:bE H29 (V.non):=zL
  have o2:bE H29 (V.str (Str.ofString "0 1 : :")):=uZ
  have o3:bE H29 (V.ref z4):=ye q4 (bg aW (bg aW (bg (dM q3) cx))) (by simp)
  have o4:bE H29 (V.ref z7):=y7 q7
  have o5:bE H29 (V.ref z10):=fJ q10 aW aW (dM q8) (dM q9) (by simp[cC,bu,b6,q8,q9])
  have o6:bE H29 (V.ref z13):=fJ q13 aW aW (dM q11) (fh q12 (bg aW cx)) (by simp[cC,bu,b6,q11,q12])
  have o7:bE H29 (V.ref z16):=fJ q16 aW aW (dM q14) (fh q15 (bg aW cx)) (by simp[cC,bu,b6,q14,q15])
  have o8:bE H29 (V.ref z20):=fJ q20 aW aW (fh q18 (bg aW (bg aW cx))) (dM q19) (by simp[cC,bu,b6,q18,q19])
  have o9:bE H29 (V.ref z23):=fJ q23 sH aW (dM q21) (dM q22) (by simp[cC,bu,b6,q21,q22])
  have o10:bE H29 (V.ref z26):=fJ q26 aW aW (fh q24 (bg aW (bg aW cx))) (dM q25) (by simp[cC,bu,b6,q24,q25])
  have o11:bE H29 (V.ref z29):=fJ q29 aW aW (mC q27) (dM q28) (by simp[cC,bu,b6,q27,q28])
  have hb40:=(hall t (List.mem_of_getElem? ht) t (List.mem_of_getElem? ht)).2.2.2
  have hs12:=(hall t (List.mem_of_getElem? ht) t (List.mem_of_getElem? ht)).2.1
  have hs1:=hvt.s1
  refine⟨v0,t,3001,rfl,hvt.ext g0,by omega,by omega,fun vf H30 e30 hvf=>?_⟩
  have o12:bE H30 vf:=qk hvf (.inl (by omega))
  walk_at "rd"
  refine⟨ai (by simp),ah fun z31 H31 e31 hz31 _=>?_⟩
  have e29_31:=e30.trans e31
  refine cK (e29_31 _ _ q17) hz31 (ai (by simp)) (ah fun od H32 e32 hod hodn=>?_)
  have e29_32:=e29_31.trans e32
  have e30_32:=e31.trans e32
  have g32:=g0.trans e29_32
  walk_at "rd"
  refine⟨cF (ag.of hod),?_⟩
  obtain⟨⟨pv0,_,_,rfl,hv1,_,_⟩,_⟩:=id (hvt.ext g32)
  have hdm:=Nat.div_add_mod 840 t.s
  have hml:=Nat.mod_lt 840 hs1
  have hmul:t.s*(840 / t.s+1)=t.s*(840 / t.s)+t.s:=by rw[Nat.mul_add,Nat.mul_one]
  walk_at "rd"
  refine aB (show aj K H32 pv0 _ from aj.of hv1) (v:=.int (t.s:Nat)) rfl ?_
  refine rd_I (show(0:Int)<(t.s:Int)/\(t.s:Int)<2 ^ 64 by omega) ?_
  walk_at "rd"
  refine⟨_,t,840 / t.s+1,rfl,hvt.ext g32,by omega,fun vg H33 e33 hvg=>?_⟩
  walk_at "rd"
  refine bF (e33 _ _ hod) (by simp;decide) ?_
  have eX:Ext H31 (upd H33 od _):=cL (o:=.lst (([V.non,V.str (Str.ofString "0 1 : :"),V.ref z4,V.ref z7,V.ref z10,V.ref z13,V.ref z16]++[V.ref z20,V.ref z23,V.ref z26,V.ref z29,vf])++[vg])) (e32.trans e33) hodn
  have eY:=e29_31.trans eX
  have hg:=hvg.put (e33 _ _ hod) (ys:=([V.non,V.str (Str.ofString "0 1 : :"),V.ref z4,V.ref z7,V.ref z10,V.ref z13,V.ref z16]++[V.ref z20,V.ref z23,V.ref z26,V.ref z29,vf])++[vg])
  have hodd:∀v∈([V.non,V.str (Str.ofString "0 1 : :"),V.ref z4,V.ref z7,V.ref z10,V.ref z13,V.ref z16]++[V.ref z20,V.ref z23,V.ref z26,V.ref z29,vf])++[vg],bE (upd H33 od (.lst (([V.non,V.str (Str.ofString "0 1 : :"),V.ref z4,V.ref z7,V.ref z10,V.ref z13,V.ref z16]++[V.ref z20,V.ref z23,V.ref z26,V.ref z29,vf])++[vg]))) v:=by
   intro v hv
   simp only[List.cons_append,List.nil_append,List.mem_cons,List.not_mem_nil,or_false]at hv
   rcases hv with rfl | rfl | rfl | rfl | rfl | rfl | rfl | rfl | rfl | rfl | rfl | rfl | rfl
   ·exact o1.ext eY
   ·exact o2.ext eY
   ·exact o3.ext eY
   ·exact o4.ext eY
   ·exact o5.ext eY
   ·exact o6.ext eY
   ·exact o7.ext eY
   ·exact o8.ext eY
   ·exact o9.ext eY
   ·exact o10.ext eY
   ·exact o11.ext eY
   ·exact o12.ext (e31.trans eX)
   ·exact qk hg (.inr (by omega))
  have gl:=(g0.trans e29_31).trans eX
  have hlo':=(g1.trans eY) _ _ hlo
  have hhi':=(g2.trans eY) _ _ hhi
  have hod':(upd H33 od (.lst (([V.non,V.str (Str.ofString "0 1 : :"),V.ref z4,V.ref z7,V.ref z10,V.ref z13,V.ref z16]++[V.ref z20,V.ref z23,V.ref z26,V.ref z29,vf])++[vg]))) od=_:=aY
  generalize hodl:([V.non,V.str (Str.ofString "0 1 : :"),V.ref z4,V.ref z7,V.ref z10,V.ref z13,V.ref z16]++[V.ref z20,V.ref z23,V.ref z26,V.ref z29,vf])++[vg]=ol at hodd hod' gl hlo' hhi' ⊢
  have holn:ol.length<=20:=by rw[←hodl];simp
  generalize upd H33 od (.lst ol)=H34 at hodd hod' gl hlo' hhi' ⊢
  walk_at "rd"
  refine cR (ag.of hod') ?_
  refine forL (xs:=ol) (fun i σ H'=>Ext H34 H'/\∃k1 k2 k3,σ=[some vh,some va,some vo,some (.ref l),some (.int (r:Nat)),some (.ref pv0),some (.ref lo),some (.ref hi),some (.ref od),k1,k2,k3]) ⟨Ext.rfl' _,_,_,_,rfl⟩ (fun i σ H' _ h=>ag.of (h.1 _ _ hod')) ?_ ?_
  ·rintro i v σ H35 hx ⟨e35,k1,k2,k3,rfl⟩
   have ho:=hodd v (List.mem_of_getElem? hx)
   walk_at "rd"
   refine⟨ai (by simp),ah fun l1 H36 e36 hl1 _=>?_⟩
   have e356:=e35.trans e36
   refine cK (e356 _ _ hlo') hl1 (ai (by rw[gw];simp;omega)) (ah fun l2 H37 e37 hl2 _=>?_)
   have e357:=e356.trans e37
   walk_at "rd"
   refine cK hl2 (e357 _ _ hhi') (ai (by rw[gw,j8 (by omega)];simp;omega)) (ah fun l3 H38 e38 hl3 _=>?_)
   have e358:=e357.trans e38
   have eA:=gl.trans e358
   rw[gw,j8 (by omega)]at hl3
   have hlen3:(xs.take r++[v]++xs.drop (r+1)).length=xs.length:=by simp;omega
   walk_at "rd"
   refine⟨vh,va,vo,.ref l3,false,m,ws,rfl,hv.ext eA,ok,.inl ⟨zP (v:=v) hl3 (by omega) (by omega) ?_ (by simp) (ho.ext e358),rfl⟩,fun H39 e39=>?_⟩
   ·intro y hy
    simp only[List.mem_append,List.mem_singleton]at hy
    rcases hy with(hy | rfl) | hy
    ·exact((hS.ext eA).kn) y (List.mem_of_mem_take hy)
    ·exact(ho.ext e358).1
    ·exact((hS.ext eA).kn) y (List.mem_of_mem_drop hy)
   walk_at "rd"
   refine au ?_
   walk_at "rd"
   exact⟨e358.trans e39,_,_,_,rfl⟩
  ·rintro σ H35 ⟨e35,k1,k2,k3,rfl⟩
   have g35:=gl.trans e35
   have hlo5:=e35 _ _ hlo'
   have hhi5:=e35 _ _ hhi'
   clear hodd hod' hodl holn hg eX eY e35 hlo' hhi'
   have hl35:=g35 _ _ hl
   walk_at "rd"
   refine gn (ag.of hl35) (ah fun n1 H36 e36 hn1 _=>?_)
   walk_at "rd"
   refine⟨ai (by simp),ah fun n2 H37 e37 hn2 _=>?_⟩
   have e357:=e36.trans e37
   refine cK (e357 _ _ hl35) hn2 (ai (by simp;omega)) (ah fun n3 H38 e38 hn3 _=>?_)
   have e358:=e357.trans e38
   walk_at "rd"
   refine dW (ag.of (e358 _ _ hl35)) (ah fun n4 H39 e39 hn4 _=>?_)
   have e359:=e358.trans e39
   walk_at "rd"
   refine⟨ai (by simp),ah fun n5 H40 e40 hn5 _=>?_⟩
   walk_at "rd"
   refine⟨ai (by simp),ah fun n6 H41 e41 hn6 _=>?_⟩
   have e391:=e40.trans e41
   have e351:=e359.trans e391
   refine cK (e351 _ _ hl35) hn6 (ai (by simp;omega)) (ah fun n7 H42 e42 hn7 _=>?_)
   walk_at "rd"
   refine⟨ai (by simp),ah fun bl H43 e43 hbl _=>?_⟩
   have e423:=e42.trans e43
   have e353:=e351.trans e423
   have g43:=g35.trans e353
   have hS43:=hS.ext g43
   have hka43:=hS43.kn
   have bad:∀v∈[V.ref n1,V.ref n3,V.ref n4,V.non,V.ref n5,V.str (Str.ofString "none"),V.ref n7],ef H43 m v:=by
    intro v hv
    simp only[List.mem_cons,List.not_mem_nil,or_false]at hv
    have f39:=e391.trans e423
    have f38:=e39.trans f39
    rcases hv with rfl | rfl | rfl | rfl | rfl | rfl | rfl
    ·have hc:=qH xs none (some (-1))
     refine .inr ⟨n1,_,rfl,(e37.trans (e38.trans f38)) _ _ hn1,by omega,fun x hx=>hka43 x (List.mem_of_mem_drop (List.mem_of_mem_take hx)),.inl ?_⟩
     have:(cf xs none (some (-1))).length=xs.length-1:=by
      unfold cf
      rw[List.length_take,List.length_drop]
      show min (HT.bz xs.length xs.length (some (-1))-HT.bz xs.length 0 none) (xs.length-HT.bz xs.length 0 none)=_
      have e1:HT.bz xs.length xs.length (some (-1))=xs.length-1:=by
       show(if(-1:Int)<0 then(-1+(xs.length:Int)).toNat else min (-1:Int).toNat xs.length)=_
       rw[if_pos (by decide)]
       omega
      have e2:HT.bz xs.length 0 none=0:=rfl
      rw[e1,e2]
      omega
     omega
    ·refine .inr ⟨n3,_,rfl,f38 _ _ hn3,by simp;omega,fun x hx=>?_,.inl (by simp;omega)⟩
     rcases List.mem_append.mp hx with hx | hx
     ·exact hka43 x hx
     ·rw[List.mem_singleton.mp hx]
      exact(hvt.ext g43).1.kn
    ·exact .inl ⟨"tuple",.inr ⟨rfl,_,f39 _ _ hn4⟩,rfl⟩
    ·exact .inl ⟨"NoneType",rfl,rfl⟩
    ·exact .inl ⟨"tuple",.inr ⟨rfl,_,(e41.trans e423) _ _ hn5⟩,rfl⟩
    ·exact .inl ⟨"str",rfl,rfl⟩
    ·refine .inr ⟨n7,_,rfl,e43 _ _ hn7,by simp;omega,fun x hx=>?_,.inl (by simp;omega)⟩
     rcases List.mem_append.mp hx with hx | hx
     ·exact hka43 x hx
     ·rw[List.mem_singleton.mp hx]
      exact jd
   refine cR (ag.of hbl) ?_
   refine forL (xs:=[V.ref n1,V.ref n3,V.ref n4,V.non,V.ref n5,V.str (Str.ofString "none"),V.ref n7]) (fun i σ H'=>Ext H43 H'/\∃k1 k2 k3,σ=[some vh,some va,some vo,some (.ref l),some (.int (r:Nat)),some (.ref pv0),some (.ref lo),some (.ref hi),some (.ref od),k1,k2,k3]) ⟨Ext.rfl' _,_,_,_,rfl⟩ (fun i σ H' _ h=>ag.of (h.1 _ _ hbl)) ?_ ?_
   ·rintro i v σ H44 hx ⟨e44,k1,k2,k3,rfl⟩
    have hb:=bad v (List.mem_of_getElem? hx)
    walk_at "rd"
    refine⟨vh,va,vo,v,false,m,ws,rfl,hv.ext (g43.trans e44),ok,.inl ⟨hb.ext e44,rfl⟩,fun H45 e45=>?_⟩
    walk_at "rd"
    refine au ?_
    walk_at "rd"
    exact⟨e44.trans e45,_,_,_,rfl⟩
   ·rintro σ H44 ⟨e44,k1,k2,k3,rfl⟩
    have g44:=g43.trans e44
    walk_at "rd"
    refine⟨_,t,3000,rfl,hvt.ext g44,by omega,by omega,fun v1 H45 e45 hw1=>?_⟩
    have g45:=g44.trans e45
    obtain⟨⟨pv1,_,_,hpe,hp1,_,_⟩,_⟩:=id (hvt.ext g45)
    cases hpe
    walk_at "rd"
    refine aB (show aj K H45 pv0 _ from aj.of hp1) (v:=.int (t.s:Nat)) rfl ?_
    refine rd_I (show(0:Int)<(t.s:Int)/\(t.s:Int)<2 ^ 64 by omega) ?_
    walk_at "rd"
    refine⟨_,t,840 / t.s,rfl,hvt.ext g45,by omega,fun v2 H46 e46 hw2=>?_⟩
    walk_at "rd"
    refine⟨ai (by simp),ah fun gg H47 e47 hgg _=>?_⟩
    have e467:=e46.trans e47
    have e447:=e45.trans e467
    have g47:=g44.trans e447
    have hdv:1<=840 / t.s:=Nat.div_pos (by omega) hs1
    have goods:∀v∈[v1,v2],∃t',cu H47 v t'/\t'.f=t.f/\t.s ∣ t'.s:=by
     intro v hv
     simp only[List.mem_cons,List.not_mem_nil,or_false]at hv
     rcases hv with rfl | rfl
     ·exact wJ hvt (by omega) (by omega) (hw1.ext e467)
     ·exact yU hvt hdv (by omega) (hw2.ext e47)
    have hlo7:=(e44.trans e447) _ _ (e353 _ _ hlo5)
    have hhi7:=(e44.trans e447) _ _ (e353 _ _ hhi5)
    refine cR (ag.of hgg) ?_
    refine forL (xs:=[v1,v2]) (fun i σ H'=>Ext H47 H'/\∃k1 k2 k3,σ=[some vh,some va,some vo,some (.ref l),some (.int (r:Nat)),some (.ref pv0),some (.ref lo),some (.ref hi),some (.ref od),k1,k2,k3]) ⟨Ext.rfl' _,_,_,_,rfl⟩ (fun i σ H' _ h=>ag.of (h.1 _ _ hgg)) ?_ ?_
    ·rintro i v σ H48 hx ⟨e48,k1,k2,k3,rfl⟩
     obtain⟨t',ht',hf',hd'⟩:=goods v (List.mem_of_getElem? hx)
     walk_at "rd"
     refine⟨ai (by simp),ah fun l1 H49 e49 hl1 _=>?_⟩
     have e489:=e48.trans e49
     refine cK (e489 _ _ hlo7) hl1 (ai (by rw[gw];simp;omega)) (ah fun l2 H50 e50 hl2 _=>?_)
     have e480:=e489.trans e50
     walk_at "rd"
     refine cK hl2 (e480 _ _ hhi7) (ai (by rw[gw,j8 (by omega)];simp;omega)) (ah fun l3 H51 e51 hl3 _=>?_)
     have e481:=e480.trans e51
     have eA:=g47.trans e481
     rw[gw,j8 (by omega),u7 hrx]at hl3
     have hlen3:(xs.set r v).length=xs.length:=List.length_set
     have hmt:=List.mem_of_getElem? ht
     walk_at "rd"
     refine⟨vh,va,vo,.ref l3,true,m,ws,rfl,hv.ext eA,ok,.inr ⟨ts.set r t',⟨l3,_,rfl,hl3,by omega,by omega,oC (hS.ext eA) (ht'.ext e481),AL hmt hs1 ht'.s1 ht'.s8 hd' fun u hu=>(hall u hu t hmt).1⟩,hka.ext eA,hko.ext eA,(hN.same ht hf').ext eA,rfl⟩,fun H52 e52=>?_⟩
     walk_at "rd"
     refine au ?_
     walk_at "rd"
     exact⟨e481.trans e52,_,_,_,rfl⟩
    ·rintro σ H48 ⟨e48,k1,k2,k3,rfl⟩
     walk_at "rd"
     exact q H48 (g47.trans e48)
def dS(H:Hp)(m:Int)(v:V):Prop:=Kn H 1 v/\cn H m v=false
theorem dS.ext{H H':Hp}(e:Ext H H'){m:Int}{v:V}(h:dS H m v):dS H' m v:=⟨h.1.ext e,(nP e h.1).trans h.2⟩
theorem yE{H:Hp}{m:Int}{p:Addr}{xs:List V}(h:H p=some (.lst xs)):cn H m (.ref p)=false:=kU fun p' ys e z=>by
 cases e
 rw[h]at z
 cases z
theorem zG{H:Hp}{p:Addr}{xs:List V}(h:H p=some (.lst xs)):cY H (.ref p)=false:=qD (by
 unfold isTup
 dsimp only
 rw[h])
theorem ec{H:Hp}{m:Int}{p:Addr}{xs:List V}(h:H p=some (.tup xs))(hk:∀x∈xs,Kn H 0 x)(hn:fQ m xs=false):dS H m (.ref p):=⟨fh h hk,(gP h).trans hn⟩
theorem fM{K:PySem.W.Frag}{H:Hp}{vh va vo tv:V}{m:Int}{ws:List Way}{ts:List StT}{Q:VK}{E:XK}(hv:bj H vh m ws)(ok:HOuse m ws)(hg:dn H m tv ts)(ka:Kn H 1 va)(kb:Kn H 1 vo)(hn:¬bU H m ws ts va vo)(q:∀H',Ext H H'->Q (.bl false) H'):gL K [vh,va,vo,tv] H Q E:=by
 refine⟨vh,va,vo,tv,rfl,.inr ⟨m,ws,hv,ok,.inr ⟨ts,hg,ka,kb,fun r H' e hr=>?_⟩⟩⟩
 cases r with
 | false=>exact q H' e
 | true=>exact absurd (hr.mp rfl) hn
theorem ow{H:Hp}{m:Int}{ws:List Way}{ts:List StT}{va vo:V}(hb:dS H m va):¬bU H m ws ts va vo:=by
 rintro⟨_,x1,x2,t1,t2,h1,h2,i1,i2,_⟩
 have:=jl h1 i1
 rw[hb.2]at this
 cases this
theorem tj{H:Hp}{m:Int}{ws:List Way}{ts:List StT}{va vo:V}(hb:dS H m vo):¬bU H m ws ts va vo:=by
 rintro⟨_,x1,x2,t1,t2,h1,h2,i1,i2,_⟩
 have:=jl h2 i2
 rw[hb.2]at this
 cases this
theorem bU.not1{H:Hp}{m:Int}{ws:List Way}{ts:List StT}{va vo vb:V}(h:bU H m ws ts va vo):¬bU H m ws ts vo vb:=by
 obtain⟨_,x1,x2,t1,t2,p1,p2,i1,i2,g1,g2,f1,f2⟩:=h
 rintro⟨_,y1,y2,u1,u2,q1,q2,_,_,k1,k2,l1,l2⟩
 have:=p2.eq q1
 subst this
 rw[g2]at k1
 cases k1
 rw[f2]at l1
 cases l1
theorem tw{H:Hp}{m:Int}{ws:List Way}{ts:List StT}{va:V}:¬bU H m ws ts va va:=by
 rintro⟨_,y1,y2,u1,u2,q1,q2,_,_,k1,k2,l1,l2⟩
 have:=q1.eq q2
 subst this
 rw[k1]at k2
 cases k2
 rw[l1]at l2
 cases l2
def tD(K:PySem.W.Frag):Sp:=fun vs H Q _=>∃vh va vo tv m ws ts x1,vs=[vh,va,vo,tv]/\bj H vh m ws/\HOuse m ws/\dn H m tv ts/\b9 H va x1/\Kn H 1 vo/\bU H m ws ts va vo/\∀H',Ext H H'->Q (.bl true) H'
abbrev iW:Stmt:=stq 58
theorem qI:FnScope ["_law_house_here","_law_place","_law_goal_here","_law_stairs","_law_room","_law_x","_law_some","_law_bad"] ["_law_house_here","_law_place","_law_goal_here","_law_stairs"] (aJ iW):=⟨rfl,rfl,rfl,by decide +kernel,rfl,by decide +kernel,by decide +kernel⟩
theorem vZ{P:Program}{w:World}{K:PySem.W.Frag}{mg:Str->Option Value}{base:Heap}(D:Dfn K mg "_law_places_seen" iW ["_law_house_here","_law_place","_law_goal_here","_law_stairs"])(T:Blt mg)(C_sees_never:Cal P w K mg base "sees_never" 10 ["house","place","goal","stairs"] (gL K))(C_sees_closed:Cal P w K mg base "sees_closed" 9 ["house","stairs"] (gJ K)):Cal P w K mg base "_law_places_seen" 11 ["_law_house_here","_law_place","_law_goal_here","_law_stairs"] (tD K):=by
 have nd:=(qI).nd
 refine D.ok qI (fun vs H Q E h=>?_) (fun X hX H vs Q E h=>?_)
 ·obtain⟨vh,va,vo,tv,m,ws,ts,x1,rfl,_⟩:=h;rfl
 ·obtain⟨f,cdv,A,outer,s,H0,E0,rfl,hr⟩:=hX
  obtain⟨vh,va,vo,tv,m,ws,ts,x1,rfl,hv,ok,hg,hx1,hko,hN,q⟩:=h
  have hka:=hx1.kn
  obtain⟨pa,rfl,hpa⟩:=id hx1
  obtain⟨hp0,hq0,bs,rfl,hh,hq,hbl,hal,hths⟩:=r6 hv ok
  have hpl:fm m x1:=by
   obtain⟨_,y1,y2,u1,u2,q1,q2,i1,_⟩:=hN
   rw[hx1.eq q1]
   exact i1
  have hm1:=ok.m1
  have few:=ok.few
  refine⟨_,(@ao _ _ _ _ _ (@dX _ _ _ _ _ _ (pv 1) (ff (n:=2) K rfl (br (aF (i:=4) nd rfl (Or.inl rfl)) (br (aF (i:=5) nd rfl (Or.inl rfl)) eM))) rfl rfl rfl)
    (@ao _ _ _ _ _ (@aH _ _ 6 _ _ _ _ nd rfl (Or.inl rfl) (@aR _ _ _ _ (@aa _ _ _ _ _ (@aD _ _ _ _ _ (@aa _ _ _ _ _ (@aq _ _ _ _ _ _ _ (aC K) (pv 0) af (fun _ _=>rfl)) (@aa _ _ _ _ _ (pv 5) ae rfl) rfl)) (@aa _ _ _ _ _ (@aD _ _ _ _ _ (@aa _ _ _ _ _ (gW gM af) (@aa _ _ _ _ _ (pv 5) ae rfl) rfl)) (@aa _ _ _ _ _ (@aD _ _ _ _ _ (@aa _ _ _ _ _ (pv 4) (@aa _ _ _ _ _ (gW gM af) ae rfl) rfl)) (@aa _ _ _ _ _ (@aD _ _ _ _ _ (@aa _ _ _ _ _ (pv 4) (@aa _ _ _ _ _ af ae rfl) rfl)) (@aa _ _ _ _ _ (@aR _ _ _ _ (@aa _ _ _ _ _ (pv 4) (@aa _ _ _ _ _ (pv 5) ae rfl) rfl)) (@aa _ _ _ _ _ (@aD _ _ _ _ _ (@aa _ _ _ _ _ (pv 4) ae rfl)) (@aa _ _ _ _ _ fB (@aa _ _ _ _ _ (@aD _ _ _ _ _ (@aa _ _ _ _ _ (pv 4) (@aa _ _ _ _ _ (pv 5) (@aa _ _ _ _ _ af ae rfl) rfl) rfl)) (@aa _ _ _ _ _ (@aD _ _ _ _ _ (@aa _ _ _ _ _ (pv 4) (@aa _ _ _ _ _ fB ae rfl) rfl)) ae rfl) rfl) rfl) rfl) rfl) rfl) rfl) rfl) rfl)) rfl (Or.inl rfl))
    (@ao _ _ _ _ _ (bw PassesOwn.never rfl (cZ K (ak cI (pv 6) (@aR _ _ _ _ (@aa _ _ _ _ _ af ae rfl)))) (aF (i:=7) nd rfl (Or.inl rfl)) (@ar _ _ _ (@aU _ _ _ _ _ _ _ _ (PW.pt (bV (aO eJ (aw C_sees_never hr (@aa _ _ _ _ _ (pv 0) (@aa _ _ _ _ _ (pv 7) (@aa _ _ _ _ _ (pv 2) (@aa _ _ _ _ _ (pv 3) ae rfl) rfl) rfl) rfl)) aN (aG _)) (cz (aO eJ (aw C_sees_never hr (@aa _ _ _ _ _ (pv 0) (@aa _ _ _ _ _ (pv 1) (@aa _ _ _ _ _ (pv 7) (@aa _ _ _ _ _ (pv 3) ae rfl) rfl) rfl) rfl)) aN (aG _))))) (@ar _ _ _ (@aA _ _ _ _ aN)) aP)))
    (@ao _ _ _ _ _ (@aU _ _ _ _ _ _ _ _ (aO eJ (aw C_sees_never hr (@aa _ _ _ _ _ (pv 0) (@aa _ _ _ _ _ (@aD _ _ _ _ _ (@aa _ _ _ _ _ (pv 4) (@aa _ _ _ _ _ aN ae rfl) rfl)) (@aa _ _ _ _ _ (pv 2) (@aa _ _ _ _ _ (pv 3) ae rfl) rfl) rfl) rfl)) aN (aG _)) (@ar _ _ _ (@aA _ _ _ _ aN)) aP)
    (@ao _ _ _ _ _ (@aU _ _ _ _ _ _ _ _ (PW.pt (bV (aO eJ (aw C_sees_never hr (@aa _ _ _ _ _ (pv 0) (@aa _ _ _ _ _ (pv 1) (@aa _ _ _ _ _ (pv 1) (@aa _ _ _ _ _ (pv 3) ae rfl) rfl) rfl) rfl)) aN (aG _)) (cz (aO eJ (aw C_sees_never hr (@aa _ _ _ _ _ (pv 0) (@aa _ _ _ _ _ (pv 2) (@aa _ _ _ _ _ (pv 2) (@aa _ _ _ _ _ (pv 3) ae rfl) rfl) rfl) rfl)) aN (aG _))))) (@ar _ _ _ (@aA _ _ _ _ aN)) aP)
    (@ao _ _ _ _ _ (bw PassesOwn.never rfl (cZ K (@aR _ _ _ _ (@aa _ _ _ _ _ fB (@aa _ _ _ _ _ (@aD _ _ _ _ _ (@aa _ _ _ _ _ (@aq _ _ _ _ _ _ _ (aC K) (pv 0) af (fun _ _=>rfl)) ae rfl)) (@aa _ _ _ _ _ (@aR _ _ _ _ (@aa _ _ _ _ _ (@aq _ _ _ _ _ _ _ (aC K) (pv 0) af (fun _ _=>rfl)) (@aa _ _ _ _ _ (@aq _ _ _ _ _ _ _ (aC K) (pv 0) af (fun _ _=>rfl)) ae rfl) rfl)) (@fe _ _ _ _ _ (.tup (.cons .int (.cons (.tup .nil) .nil))) (@fe _ _ _ _ _ (.tup (.cons .int (.cons (.tup .nil) .nil))) (@aa _ _ _ _ _ (@aD _ _ _ _ _ (@aa _ _ _ _ _ (@aq _ _ _ _ _ _ _ (aC K) (pv 0) af (fun _ _=>rfl)) (@aa _ _ _ _ _ (cT (vR K) rfl T.list_ PyProof.Rows.boot_list (@aa _ _ _ _ _ (@aq _ _ _ _ _ _ _ (aC K) (pv 0) af (fun _ _=>rfl)) ae rfl)) ae rfl) rfl)) ae rfl))) rfl) rfl) rfl))) (aF (i:=7) nd rfl (Or.inl rfl)) (@ar _ _ _ (@aU _ _ _ _ _ _ _ _ (PW.pt (bV (aO eJ (aw C_sees_never hr (@aa _ _ _ _ _ (pv 7) (@aa _ _ _ _ _ (pv 1) (@aa _ _ _ _ _ (pv 2) (@aa _ _ _ _ _ (pv 3) ae rfl) rfl) rfl) rfl)) aN (aG _)) (cz (aO eJ (aw C_sees_closed hr (@aa _ _ _ _ _ (pv 7) (@aa _ _ _ _ _ (pv 3) ae rfl) rfl)) aN (aG _))))) (@ar _ _ _ (@aA _ _ _ _ aN)) aP)))
    (@ar _ _ _ (@aA _ _ _ _ (cD mQ (aw C_sees_never hr (@aa _ _ _ _ _ (pv 0) (@aa _ _ _ _ _ (pv 2) (@aa _ _ _ _ _ (pv 1) (@aa _ _ _ _ _ (pv 3) ae rfl) rfl) rfl) rfl)) aN (aG _)))))))))),?_⟩
  walk_at "rd"
  refine eR (aj.of hpa) rfl ?_
  walk_at "rd"
  refine aB (aj.of hh) (v:=.int m) rfl ?_
  walk_at "rd"
  refine⟨ai (by simp),ah fun z1 H1 e1 hz1 _=>?_⟩
  walk_at "rd"
  refine⟨ai (by simp),ah fun z2 H2 e2 hz2 _=>?_⟩
  walk_at "rd"
  refine⟨ai (by simp),ah fun z3 H3 e3 hz3 _=>?_⟩
  walk_at "rd"
  refine⟨ai (by simp),ah fun z4 H4 e4 hz4 _=>?_⟩
  walk_at "rd"
  refine⟨ai (by simp),ah fun z5 H5 e5 hz5 _=>?_⟩
  walk_at "rd"
  refine⟨ai (by simp),ah fun z6 H6 e6 hz6 _=>?_⟩
  walk_at "rd"
  refine⟨ai (by simp),ah fun z7 H7 e7 hz7 _=>?_⟩
  walk_at "rd"
  refine⟨ai (by simp),ah fun z8 H8 e8 hz8 _=>?_⟩
  walk_at "rd"
  refine⟨ai (by simp),ah fun z9 H9 e9 hz9 _=>?_⟩
  walk_at "rd"
  refine⟨ai (by simp),ah fun z10 H10 e10 hz10 _=>?_⟩
  have f9:=e10
  have f8:=e9.trans f9
  have f7:=e8.trans f8
  have f6:=e7.trans f7
  have f5:=e6.trans f6
  have f4:=e5.trans f5
  have f3:=e4.trans f4
  have f2:=e3.trans f3
  have f1:=e2.trans f2
  have f0:=e1.trans f1
  refine cK (f9 _ _ hz9) hz10 (ai (by simp)) (ah fun z11 H11 e11 hz11 _=>?_)
  have f10:=e11
  have g0:=f0.trans e11
  have g1:=f1.trans e11
  have g2:=f2.trans e11
  have g3:=f3.trans e11
  have g4:=f4.trans e11
  have g5:=f5.trans e11
  have g6:=f6.trans e11
  have g7:=f7.trans e11
  have g8:=f8.trans e11
  have g9:=f9.trans e11
  have g10:=e11
  have q1:=g1 _ _ hz1
  have q2:=g2 _ _ hz2
  have q3:=g3 _ _ hz3
  have q4:=g4 _ _ hz4
  have q5:=g5 _ _ hz5
  have q6:=g6 _ _ hz6
  have q7:=g7 _ _ hz7
  have q8:=g8 _ _ hz8
  have bad:∀v∈[V.ref z1,V.ref z2,V.ref z3,V.ref z4,V.ref z5,V.ref z6,V.non,V.ref z7,V.ref z8]++[V.int 0],dS H11 m v:=by
   intro v hv
   simp only[List.cons_append,List.nil_append,List.mem_cons,List.not_mem_nil,or_false]at hv
   rcases hv with rfl | rfl | rfl | rfl | rfl | rfl | rfl | rfl | rfl | rfl
   ·exact ec q1 (bg aW (bg aW cx)) (fw (.inl (qe (by omega))))
   ·exact ec q2 (bg aW (bg aW cx)) (fw (.inl (sx (by omega))))
   ·exact ec q3 (bg aW (bg aW cx)) (by show(_ && (decide ((0:Int)<=-1) && _))=false;simp)
   ·exact ec q4 (bg aW (bg aW cx)) (by show(_ && (_ && decide ((1001:Int)<=1000)))=false;simp)
   ·exact⟨mC q5,yE q5⟩
   ·exact ec q6 (bg aW cx) rfl
   ·exact⟨jd,rfl⟩
   ·exact ec q7 (bg aW (bg aW (bg aW cx))) rfl
   ·exact ec q8 (bg aW (bg jd cx)) rfl
   ·exact⟨aW,rfl⟩
  refine cR (ag.of hz11) ?_
  refine forL (xs:=[V.ref z1,V.ref z2,V.ref z3,V.ref z4,V.ref z5,V.ref z6,V.non,V.ref z7,V.ref z8]++[V.int 0]) (fun i σ H'=>Ext H11 H'/\∃k1,σ=[some (.ref hp0),some (.ref pa),some vo,some tv,some (.int x1.1),some (.int x1.2),some (.ref z9),k1]) ⟨Ext.rfl' _,_,rfl⟩ (fun i σ H' _ h=>ag.of (h.1 _ _ hz11)) ?_ ?_
  ·rintro i v σ H12 hx ⟨e12,k1,rfl⟩
   have hb:=bad v (List.mem_of_getElem? hx)
   have gA:=g0.trans e12
   walk_at "rd"
   refine fM (hv.ext gA) ok (hg.ext gA) (hb.ext e12).1 (hko.ext gA) (ow (hb.ext e12)) fun H13 e13=>?_
   walk_at "rd"
   refine⟨_,_,rfl,rfl,_,rfl,au ?_⟩
   walk_at "rd"
   have e123:=e12.trans e13
   have gB:=g0.trans e123
   refine fM (hv.ext gB) ok (hg.ext gB) (hka.ext gB) (hb.ext e123).1 (tj (hb.ext e123)) fun H14 e14=>?_
   walk_at "rd"
   refine⟨_,_,rfl,rfl,_,rfl,au ?_⟩
   walk_at "rd"
   exact⟨e123.trans e14,_,rfl⟩
  ·rintro σ H12 ⟨e12,k1,rfl⟩
   have gA:=g0.trans e12
   clear bad
   walk_at "rd"
   refine⟨ai (by simp),ah fun y1 H13 e13 hy1 _=>?_⟩
   have gB:=gA.trans e13
   have hby:dS H13 m (.ref y1):=ec hy1 (bg aW (bg sH cx)) (fw (.inr rfl))
   walk_at "rd"
   refine fM (hv.ext gB) ok (hg.ext gB) hby.1 (hko.ext gB) (ow hby) fun H14 e14=>?_
   have gC:=gB.trans e14
   walk_at "rd"
   refine⟨_,_,rfl,rfl,_,rfl,au ?_⟩
   walk_at "rd"
   refine fM (hv.ext gC) ok (hg.ext gC) (hka.ext gC) (hka.ext gC) tw fun H15 e15=>?_
   have gD:=gC.trans e15
   walk_at "rd"
   refine⟨_,_,rfl,rfl,_,rfl,au ?_⟩
   walk_at "rd"
   refine fM (hv.ext gD) ok (hg.ext gD) (hko.ext gD) (hko.ext gD) tw fun H16 e16=>?_
   have gE:=gD.trans e16
   walk_at "rd"
   refine⟨_,_,rfl,rfl,_,rfl,au ?_⟩
   walk_at "rd"
   have hh6:=gE _ _ hh
   have hq6:=gE _ _ hq
   refine aB (aj.of hh6) (v:=.int m) rfl ?_
   walk_at "rd"
   refine⟨ai (by simp),ah fun w1 H17 d1 hw1 _=>?_⟩
   walk_at "rd"
   refine aB (aj.of (d1 _ _ hh6)) (v:=.int m) rfl ?_
   walk_at "rd"
   refine aB (aj.of (d1 _ _ hh6)) (v:=.ref hq0) rfl ?_
   walk_at "rd"
   refine⟨ai (by simp),ah fun w2 H18 d2 hw2 _=>?_⟩
   walk_at "rd"
   refine⟨ai (by simp),ah fun w3 H19 d3 hw3 _=>?_⟩
   walk_at "rd"
   refine⟨ai (by simp),ah fun w4 H20 d4 hw4 _=>?_⟩
   walk_at "rd"
   refine⟨ai (by simp),ah fun w5 H21 d5 hw5 _=>?_⟩
   walk_at "rd"
   refine⟨ai (by simp),ah fun w6 H22 d6 hw6 _=>?_⟩
   have d16:=d1.trans (d2.trans (d3.trans (d4.trans (d5.trans d6))))
   walk_at "rd"
   refine aB (aj.of (d16 _ _ hh6)) (v:=.int m) rfl ?_
   walk_at "rd"
   refine aB (aj.of (d16 _ _ hh6)) (v:=.ref hq0) rfl ?_
   walk_at "rd"
   refine yF (aj.of (d16 _ _ hq6)) (ah fun w7 H23 d7 hw7 _=>?_)
   walk_at "rd"
   refine⟨ai (by simp),ah fun w8 H24 d8 hw8 _=>?_⟩
   walk_at "rd"
   refine⟨ai (by simp),ah fun w9 H25 d9 hw9 _=>?_⟩
   have c8:=d9
   have c7:=d8.trans c8
   have c6:=d7.trans c7
   have c5:=d6.trans c6
   have c4:=d5.trans c5
   have c3:=d4.trans c4
   have c2:=d3.trans c3
   have c1:=d2.trans c2
   have c0:=d1.trans c1
   have gF:=gE.trans c0
   have hthF:=hths.ext gF
   have hqF:=gF _ _ hq
   have hlq:(bs.map V.ref).length<=2000:=by rw[List.length_map];omega
   have p1:=c1 _ _ hw1
   have p2:=c2 _ _ hw2
   have p3:=c3 _ _ hw3
   have p4:=c4 _ _ hw4
   have p5:=c5 _ _ hw5
   have p6:=c6 _ _ hw6
   have p7:=c7 _ _ hw7
   have p8:=c8 _ _ hw8
   have noh:∀v∈[V.non,V.ref w1,V.ref w2,V.ref w4,V.ref w6,V.ref w8],fT H25 v:=by
    intro v hv
    simp only[List.mem_cons,List.not_mem_nil,or_false]at hv
    rcases hv with rfl | rfl | rfl | rfl | rfl | rfl
    ·exact⟨zN _ _,rfl⟩
    ·exact⟨dF p1 (by simp) (.cons (eV _ _ _) (.nil _ _)),(fX p1).trans (uq (by simp))⟩
    ·exact⟨oN p2 (by simp) (.cons (eV _ _ _) (.cons (dF hqF hlq hthF.up) (.nil _ _))),zG p2⟩
    ·exact⟨dF p4 (by simp) (.cons (eV _ _ _) (.cons (dF p3 (by simp) (.nil _ _)) (.nil _ _))),(fX p4).trans (by simp[dO])⟩
    ·exact⟨dF p6 (by simp) (.cons (eV _ _ _) (.cons (dF p5 (by simp) (.nil _ _)) (.nil _ _))),(fX p6).trans (by simp[dO])⟩
    ·refine⟨dF p8 (by simp) (.cons (eV _ _ _) (.cons (oN p7 hlq hthF.up) (.nil _ _))),(fX p8).trans ?_⟩
     have hw0:dm H25 m (.ref w7)=false:=rT (by unfold isTup;dsimp only;rw[p7])
     show(_ && (_ && dm H25 m (.ref w7)))=false
     rw[hw0,Bool.and_false,Bool.and_false]
   refine cR (ag.of hw9) ?_
   refine forL (xs:=[V.non,V.ref w1,V.ref w2,V.ref w4,V.ref w6,V.ref w8]) (fun i σ H'=>Ext H25 H'/\∃k1,σ=[some (.ref hp0),some (.ref pa),some vo,some tv,some (.int x1.1),some (.int x1.2),some (.ref z9),k1]) ⟨Ext.rfl' _,_,rfl⟩ (fun i σ H' _ h=>ag.of (h.1 _ _ hw9)) ?_ ?_
   ·rintro i v σ H26 hx ⟨e26,k1,rfl⟩
    have hb:=noh v (List.mem_of_getElem? hx)
    walk_at "rd"
    refine⟨v,_,_,_,rfl,.inl ⟨hb.ext e26,fun H27 e27=>?_⟩⟩
    walk_at "rd"
    refine⟨_,_,rfl,rfl,_,rfl,au ?_⟩
    walk_at "rd"
    refine⟨v,_,rfl,.inl ⟨hb.ext (e26.trans e27),fun H28 e28=>?_⟩⟩
    walk_at "rd"
    refine⟨_,_,rfl,rfl,_,rfl,au ?_⟩
    walk_at "rd"
    exact⟨(e26.trans e27).trans e28,_,rfl⟩
   ·rintro σ H26 ⟨e26,k1,rfl⟩
    have gG:=gF.trans e26
    walk_at "rd"
    refine fM (hv.ext gG) ok (hg.ext gG) (hko.ext gG) (hka.ext gG) (hN.ext gG).not1 fun H27 e27=>?_
    walk_at "rd"
    refine⟨_,_,rfl,rfl,?_⟩
    exact q H27 (gG.trans e27)
abbrev aS(n:Nat):StT:=⟨0,n,[],row (fun _=>true) 0 n⟩
theorem nW:∀n:Nat,fE n=(row (fun _=>true) 0 n).map V.int
 | 0=>rfl
 | n+1=>by
  show(List.range (n+1)).map _=_
  rw[List.range_succ,List.map_append,eD,List.map_append,←nW n,Nat.zero_add]
  rfl
theorem qZ{n:Nat}(hn:1<=n)(x:Nat):(aS n).f x=true:=by
 have h:=i9 (f:=fun _=>true) (b:=0) (s:=n) hn (fun _ _=>rfl) x
 exact h
theorem r9{n:Nat}(h1:1<=n)(h8:n<=840):Gd ((0:Nat):Int) (n:Nat) [] (row (fun _=>true) 0 n):=nk (f:=fun _=>true) (l:=0) h1 (by omega) h8
theorem oj{α β:Type}{R:α->β->Prop}{x:α}{y:β}(h:R x y):∀n:Nat,Paired R (List.replicate n x) (List.replicate n y)
 | 0=>.nil
 | n+1=>.cons h (oj h n)
theorem sf{α:Type}(x:α):∀n:Nat,(List.replicate n [x]).flatten=List.replicate n x
 | 0=>rfl
 | n+1=>by rw[List.replicate_succ,List.flatten_cons,sf x n];rfl
theorem yM{ws:List Way}{ts:List StT}(h:∀t∈ts,∀x,t.f x=true):cls ws ts:=by
 intro w hw t1 t2 h1 h2 hl
 have k2:=h t2 (List.mem_of_getElem? h2)
 unfold fS at hl
 split at hl
 ·rw[k2]at hl;cases hl.2
 ·split at hl
  ·obtain⟨x,_,hx⟩:=hl;rw[k2]at hx;cases hx
  ·split at hl
   ·obtain⟨x,_,hx⟩:=hl;rw[k2]at hx;cases hx
   ·obtain⟨x,_,hx⟩:=hl;rw[k2]at hx;cases hx
def pO(K:PySem.W.Frag):Sp:=fun vs H Q _=>∃vh m ws n1 n2,vs=[vh,.int (n1:Nat),.int (n2:Nat)]/\bj H vh m ws/\HOuse m ws/\2<=m/\1<=n1/\n1<=840/\1<=n2/\n2<=840/\∀H',Ext H H'->Q (.bl (decide (cm n1 n2<=840))) H'
abbrev j9:Stmt:=stq 59
theorem uJ:FnScope ["_law_house_here","_law_one","_law_two","_law_stairs"] ["_law_house_here","_law_one","_law_two"] (aJ j9):=⟨rfl,rfl,rfl,by decide +kernel,rfl,by decide +kernel,by decide +kernel⟩
theorem zq{P:Program}{w:World}{K:PySem.W.Frag}{mg:Str->Option Value}{base:Heap}(D:Dfn K mg "_law_all_seen" j9 ["_law_house_here","_law_one","_law_two"])(T:Blt mg)(C_sees_closed:Cal P w K mg base "sees_closed" 9 ["house","stairs"] (gJ K)):Cal P w K mg base "_law_all_seen" 10 ["_law_house_here","_law_one","_law_two"] (pO K):=by
 have nd:=(uJ).nd
 refine D.ok uJ (fun vs H Q E h=>?_) (fun X hX H vs Q E h=>?_)
 ·obtain⟨vh,m,ws,n1,n2,rfl,_⟩:=h;rfl
 ·obtain⟨f,cdv,A,outer,s,H0,E0,rfl,hr⟩:=hX
  obtain⟨vh,m,ws,n1,n2,rfl,hv,ok,hm2,h11,h18,h21,h28,q⟩:=h
  obtain⟨hp0,hq0,rfl,hh,_⟩:=id hv
  have hm12:=ok.m12
  refine⟨_,(@ao _ _ _ _ _ (@aH _ _ 3 _ _ _ _ nd rfl (Or.inl rfl) (ak cI (@aR _ _ _ _ (@aa _ _ _ _ _ (@aD _ _ _ _ _ (@aa _ _ _ _ _ af (@aa _ _ _ _ _ (pv 1) (@aa _ _ _ _ _ (@aD _ _ _ _ _ ae) (@aa _ _ _ _ _ (oD rfl rfl T.tuple_ rfl T.range_ (pv 1)) ae rfl) rfl) rfl) rfl)) ae rfl)) (ak kR (@aR _ _ _ _ (@aa _ _ _ _ _ (@aD _ _ _ _ _ (@aa _ _ _ _ _ af (@aa _ _ _ _ _ (pv 2) (@aa _ _ _ _ _ (@aD _ _ _ _ _ ae) (@aa _ _ _ _ _ (oD rfl rfl T.tuple_ rfl T.range_ (pv 2)) ae rfl) rfl) rfl) rfl)) ae rfl)) (ak cj (@aq _ _ _ _ _ _ _ (aC K) (pv 0) af (fun _ _=>rfl)) af))) rfl (Or.inl rfl))
    (@ar _ _ _ (@aA _ _ _ _ (aw C_sees_closed hr (@aa _ _ _ _ _ (pv 0) (@aa _ _ _ _ _ (pv 3) ae rfl) rfl))))),?_⟩
  walk_at "rd"
  refine⟨ai (by simp),ah fun z1 H1 e1 hz1 _=>?_⟩
  walk_at "rd"
  refine tV ?_
  walk_at "rd"
  refine tN (by omega) (ah fun z2 H2 e2 hz2 _=>?_)
  walk_at "rd"
  refine⟨ai (by simp),ah fun z3 H3 e3 hz3 _=>?_⟩
  walk_at "rd"
  refine⟨ai (by simp),ah fun z4 H4 e4 hz4 _=>?_⟩
  walk_at "rd"
  refine⟨ai (by simp),ah fun z5 H5 e5 hz5 _=>?_⟩
  walk_at "rd"
  refine tV ?_
  walk_at "rd"
  refine tN (by omega) (ah fun z6 H6 e6 hz6 _=>?_)
  walk_at "rd"
  refine⟨ai (by simp),ah fun z7 H7 e7 hz7 _=>?_⟩
  walk_at "rd"
  refine⟨ai (by simp),ah fun z8 H8 e8 hz8 _=>?_⟩
  have f7:=e8
  have f6:=e7.trans f7
  have f5:=e6.trans f6
  have f4:=e5.trans f5
  have f3:=e4.trans f4
  have f2:=e3.trans f3
  have f1:=e2.trans f2
  have f0:=e1.trans f1
  walk_at "rd"
  refine aB (aj.of (f0 _ _ hh)) (v:=.int m) rfl ?_
  walk_at "rd"
  refine la hz8 (by omega) (ai (by simp;omega)) (ah fun z9 H9 e9 hz9 _=>?_)
  rw[sf]at hz9
  have g4:=f4.trans e9
  refine cK (g4 _ _ hz4) hz9 (ai (by simp;omega)) (ah fun z10 H10 e10 hz10 _=>?_)
  have g0:=(f0.trans e9).trans e10
  rw[Int.toNat_natCast,nW]at hz2 hz6
  have s1:cu H10 (.ref z3) (aS n1):=⟨⟨z3,z1,z2,rfl,(g4.trans e10) _ _ (e4 _ _ hz3),((f1.trans e9).trans e10) _ _ hz1,((f2.trans e9).trans e10) _ _ hz2⟩,r9 h11 h18⟩
  have s2:cu H10 (.ref z7) (aS n2):=⟨⟨z7,z5,z6,rfl,((f7.trans e9).trans e10) _ _ hz7,((f5.trans e9).trans e10) _ _ hz5,((f6.trans e9).trans e10) _ _ hz6⟩,r9 h21 h28⟩
  have hS:bD H10 ([V.ref z3]++List.replicate (m-1).toNat (V.ref z7)) (aS n1::List.replicate (m-1).toNat (aS n2)):=.cons s1 (oj s2 _)
  have hlen:((([V.ref z3]++List.replicate (m-1).toNat (V.ref z7)).length:Nat):Int)=m:=by simp;omega
  have hl10:([V.ref z3]++List.replicate (m-1).toNat (V.ref z7)).length<=1000:=by omega
  have hmem:∀t∈aS n1::List.replicate (m-1).toNat (aS n2),t=aS n1\/t=aS n2:=by
   intro t ht
   rcases List.mem_cons.mp ht with h | h
   ·exact .inl h
   ·exact .inr (List.eq_of_mem_replicate h)
  walk_at "rd"
  refine⟨.ref hp0,.ref z10,rfl,.inr ⟨m,ws,hv.ext g0,ok,?_⟩⟩
  by_cases hc:cm n1 n2<=840
  ·refine .inr ⟨aS n1::List.replicate (m-1).toNat (aS n2),⟨z10,_,rfl,hz10,hl10,hlen,hS,iS fun x hx y hy=>?_⟩,fun r H' e hr=>?_⟩
   ·rcases hmem x hx with rfl | rfl
    ·rcases hmem y hy with rfl | rfl
     ·show cm n1 n1<=840
      rw[fZ h11];exact h18
     ·exact hc
    ·rcases hmem y hy with rfl | rfl
     ·show cm n2 n1<=840
      rw[nv];exact hc
     ·show cm n2 n2<=840
      rw[fZ h21];exact h28
   ·rw[hr.mpr (yM fun t ht x=>by
     rcases hmem t ht with rfl | rfl
     ·exact qZ h11 x
     ·exact qZ h21 x)]
    have:=q H' (g0.trans e)
    rw[decide_eq_true hc]at this
    exact this
  ·refine .inl ⟨.inr ⟨z10,_,rfl,hz10,hl10,hS.kn,.inr (.inr ⟨hlen,_,hS,?_⟩)⟩,fun H' e=>?_⟩
   ·rw[Bool.eq_false_iff]
    intro hs
    have h1:=List.all_eq_true.mp (List.all_eq_true.mp hs (aS n1) (by simp)) (aS n2) (List.mem_cons_of_mem _ (List.mem_replicate.mpr ⟨by omega,rfl⟩))
    exact hc (of_decide_eq_true h1)
   ·have:=q H' (g0.trans e)
    rw[decide_eq_false hc]at this
    exact this
theorem su{ws:List Way}{m:Int}{ts:List StT}{t:StT}(ok:∀w∈ws,w.Ok m)(hl:(ts.length:Int)=m)(h:cls ws ts):cls ws (ts++[t]):=by
 intro w hw t1 t2 h1 h2
 obtain⟨o1,o2,o3,o4,_,_⟩:=ok w hw
 rw[List.getElem?_append_left (by omega)]at h1 h2
 exact h w hw t1 t2 h1 h2
abbrev dH(b s:Nat):StT:=⟨b,s,[],[]⟩
theorem xD(b s x:Nat):(dH b s).f x=false:=by
 show(if(x:Int)<(b:Int)then([]:List Int).contains (x:Int)else([]:List Int).contains _)=false
 split<;>rfl
theorem zQ{b s:Nat}(hs:1<=s)(hb:b<=3000)(h8:s<=840):Gd (b:Nat) (s:Nat) [] []:=⟨⟨by omega,by omega,⟨List.Pairwise.nil,fun x hx=>by cases hx⟩,⟨List.Pairwise.nil,fun x hx=>by cases hx⟩⟩,by omega,by omega⟩
theorem iY{b s n:Nat}{M:Nat->Nat->Bool}{t:StT}(h:t∈bX b s M n):t.s=s/\t.b=b:=by
 unfold bX at h
 obtain⟨i,_,rfl⟩:=List.mem_map.mp h
 exact⟨rfl,rfl⟩
theorem ze{m:Int}{ws:List Way}(ok:HOuse m ws)(h:m<=11):HOuse (m+1) ws:=⟨by have:=ok.m1;omega,by omega,ok.few,fun w hw=>by
 obtain⟨a1,a2,a3,a4,a5,a6⟩:=ok.ok w hw
 exact⟨a1,by omega,a3,by omega,a5,a6⟩,ok.nd⟩
def qL(K:PySem.W.Frag):Sp:=fun vs H Q _=>∃vh m ws b s r,vs=[vh,.int (b:Nat),.int (s:Nat),.int (r:Nat)]/\bj H vh m ws/\HOuse m ws/\m<=11/\1<=s/\b+s<=110/\(r:Int)<m/\∀H',Ext H H'->Q (.bl true) H'
abbrev i5:Stmt:=stq 60
theorem rf:FnScope ["_law_house_here","_law_base","_law_step","_law_room","_law_wide","_law_number","_law_place","_law_stairs","_law_far"] ["_law_house_here","_law_base","_law_step","_law_room"] (aJ i5):=⟨rfl,rfl,rfl,by decide +kernel,rfl,by decide +kernel,by decide +kernel⟩
theorem wC{P:Program}{w:World}{K:PySem.W.Frag}{mg:Str->Option Value}{base:Heap}(D:Dfn K mg "_law_bounds_seen" i5 ["_law_house_here","_law_base","_law_step","_law_room"])(T:Blt mg)(C_sees_never:Cal P w K mg base "sees_never" 10 ["house","place","goal","stairs"] (gL K))(C__law_stairs_of:Cal P w K mg base "_law_stairs_of" 1 ["_law_marks_here","_law_base","_law_step"] (lW K))(C__law_marks:Cal P w K mg base "_law_marks" 1 ["_law_house_here","_law_base","_law_step","_law_starts"] (lR K)):Cal P w K mg base "_law_bounds_seen" 11 ["_law_house_here","_law_base","_law_step","_law_room"] (qL K):=by
 have nd:=(rf).nd
 refine D.ok rf (fun vs H Q E h=>?_) (fun X hX H vs Q E h=>?_)
 ·obtain⟨vh,m,ws,b,s,r,rfl,_⟩:=h;rfl
 ·obtain⟨f,cdv,A,outer,s,H0,E0,rfl,hr⟩:=hX
  obtain⟨vh,m,ws,b,s',r,rfl,hv,ok,hm11,hs1,hbs,hrm,q⟩:=h
  obtain⟨hp0,hq0,rfl,hh,hw⟩:=id hv
  have hm1:=ok.m1
  refine⟨_,(@ao _ _ _ _ _ (@aH _ _ 4 _ _ _ _ nd rfl (Or.inl rfl) (@aD _ _ _ _ _ (@aa _ _ _ _ _ (ak aI (@aq _ _ _ _ _ _ _ (aC K) (pv 0) af (fun _ _=>rfl)) af) (@aa _ _ _ _ _ (@aq _ _ _ _ _ _ _ (aC K) (pv 0) af (fun _ _=>rfl)) ae rfl) rfl)) rfl (Or.inl rfl))
    (@ao _ _ _ _ _ (bw PassesOwn.never rfl (dG K (@aD _ _ _ _ _ (@aa _ _ _ _ _ af (@aa _ _ _ _ _ af ae rfl) rfl))) (aF (i:=5) nd rfl (Or.inl rfl)) (@ao _ _ _ _ _ (@aH _ _ 6 _ _ _ _ nd rfl (Or.inl rfl) (@aD _ _ _ _ _ (@aa _ _ _ _ _ (pv 3) (@aa _ _ _ _ _ (pv 5) ae rfl) rfl)) rfl (Or.inl rfl))
    (@ao _ _ _ _ _ (@aH _ _ 7 _ _ _ _ nd rfl (Or.inl rfl) (ak cI (aw C__law_stairs_of hr (@aa _ _ _ _ _ (aw C__law_marks hr (@aa _ _ _ _ _ (pv 0) (@aa _ _ _ _ _ (pv 1) (@aa _ _ _ _ _ (pv 2) (@aa _ _ _ _ _ (@aR _ _ _ _ (@aa _ _ _ _ _ (pv 6) ae rfl)) ae rfl) rfl) rfl) rfl)) (@aa _ _ _ _ _ (pv 1) (@aa _ _ _ _ _ (pv 2) ae rfl) rfl) rfl)) (@aR _ _ _ _ (@aa _ _ _ _ _ (@aD _ _ _ _ _ (@aa _ _ _ _ _ (pv 1) (@aa _ _ _ _ _ (pv 2) (@aa _ _ _ _ _ (@aD _ _ _ _ _ ae) (@aa _ _ _ _ _ (@aD _ _ _ _ _ ae) ae rfl) rfl) rfl) rfl)) ae rfl))) rfl (Or.inl rfl))
    (@ao _ _ _ _ _ (bw PassesOwn.never rfl (dG K (@aD _ _ _ _ _ (@aa _ _ _ _ _ af (@aa _ _ _ _ _ af (@aa _ _ _ _ _ af ae rfl) rfl) rfl))) (aF (i:=8) nd rfl (Or.inl rfl)) (@ar _ _ _ (@aU _ _ _ _ _ _ _ _ (aO eJ (aw C_sees_never hr (@aa _ _ _ _ _ (pv 4) (@aa _ _ _ _ _ (pv 6) (@aa _ _ _ _ _ (@aD _ _ _ _ _ (@aa _ _ _ _ _ (@aq _ _ _ _ _ _ _ (aC K) (pv 0) af (fun _ _=>rfl)) (@aa _ _ _ _ _ (pv 8) ae rfl) rfl)) (@aa _ _ _ _ _ (pv 7) ae rfl) rfl) rfl) rfl)) aN (aG _)) (@ar _ _ _ (@aA _ _ _ _ aN)) aP)))
    (@ar _ _ _ (@aU _ _ _ _ _ _ _ _ (aO eJ (aw C_sees_never hr (@aa _ _ _ _ _ (pv 4) (@aa _ _ _ _ _ (pv 6) (@aa _ _ _ _ _ (@aD _ _ _ _ _ (@aa _ _ _ _ _ (@aq _ _ _ _ _ _ _ (aC K) (pv 0) af (fun _ _=>rfl)) (@aa _ _ _ _ _ af ae rfl) rfl)) (@aa _ _ _ _ _ (pv 7) ae rfl) rfl) rfl) rfl)) aN (aG _)) (@ar _ _ _ (@aA _ _ _ _ aN)) aP))))))
    (@ar _ _ _ (@aA _ _ _ _ aN)))),?_⟩
  walk_at "rd"
  refine aB (aj.of hh) (v:=.int m) rfl ?_
  walk_at "rd"
  refine aB (aj.of hh) (v:=.ref hq0) rfl ?_
  walk_at "rd"
  refine⟨ai (by simp),ah fun wd H1 e1 hwd _=>?_⟩
  walk_at "rd"
  refine⟨ai (by simp),ah fun tn H2 e2 htn _=>?_⟩
  have e02:=e1.trans e2
  have hW2:bj H2 (.ref wd) (m+1) ws:=⟨wd,hq0,rfl,e2 _ _ hwd,hw.ext e02⟩
  have okW:=ze ok hm11
  refine dQ (aj.of htn) ?_
  refine gj (xs:=[V.int 999,V.int 1000]) (fun i σ H'=>Ext H2 H'/\∃k1 k2 k3 k4,σ=[some (.ref hp0),some (.int (b:Nat)),some (.int (s':Nat)),some (.int (r:Nat)),some (.ref wd),k1,k2,k3,k4]) ⟨Ext.rfl' _,_,_,_,_,rfl⟩ (fun i σ H' _ h=>aj.of (h.1 _ _ htn)) ?_ ?_
  ·rintro i v σ H3 hx ⟨e3,k1,k2,k3,k4,rfl⟩
   obtain⟨n,rfl,hn9,hn1⟩:∃n:Nat,v=.int (n:Nat)/\999<=n/\n<=1000:=by
    match i,hx with
    | 0,hx=>exact⟨999,(Option.some.inj hx).symm,by omega,by omega⟩
    | 1,hx=>exact⟨1000,(Option.some.inj hx).symm,by omega,by omega⟩
   have e03:=e02.trans e3
   walk_at "rd"
   refine⟨ai (by simp),ah fun pl H4 e4 hpl _=>?_⟩
   walk_at "rd"
   refine⟨ai (by simp),ah fun lp H5 e5 hlp _=>?_⟩
   have e35:=e4.trans e5
   have e05:=e03.trans e35
   walk_at "rd"
   refine⟨.ref hp0,m,ws,b,s',lp,[pl],[((r:Nat),(n:Nat))],rfl,hv.ext e05,ok,hs1,hbs,hlp,.cons (e5 _ _ hpl) .nil,by simp,fun x hx=>?_,fun mq rs M H6 e6 _ hrs hR hC hM=>?_⟩
   ·rw[List.mem_singleton.mp hx]
    exact⟨by show(0:Int)<=(r:Int);omega,hrm,by show(0:Int)<=(n:Int);omega,by show(n:Int)<=1000;omega⟩
   walk_at "rd"
   refine⟨mq,rs,M,b,s',rfl,hs1,by omega,hR,by omega,fun fq xs H7 e7 _ hfq hSt=>?_⟩
   walk_at "rd"
   refine⟨ai (by simp),ah fun z1 H8 e8 hz1 _=>?_⟩
   walk_at "rd"
   refine⟨ai (by simp),ah fun z2 H9 e9 hz2 _=>?_⟩
   walk_at "rd"
   refine⟨ai (by simp),ah fun nt H10 e10 hnt _=>?_⟩
   walk_at "rd"
   refine⟨ai (by simp),ah fun nl H11 e11 hnl _=>?_⟩
   have e9_11:=e10.trans e11
   have e8_11:=e9.trans e9_11
   have e7_11:=e8.trans e8_11
   have hxl:xs.length=rs.length:=by rw[hSt.len,dv]
   refine cK (e7_11 _ _ hfq) hnl (ai (by simp;omega)) (ah fun lq H12 e12 hlq _=>?_)
   have hst12:cu H12 (.ref nt) (dH b s'):=⟨⟨nt,z1,z2,rfl,(e11.trans e12) _ _ hnt,(e8_11.trans e12) _ _ hz1,(e9_11.trans e12) _ _ hz2⟩,zQ (b:=b) (s:=s') hs1 (by omega) (by omega)⟩
   have e7_12:=e7_11.trans e12
   have hS12:bD H12 (xs++[.ref nt]) (bX b s' M rs.length++[dH b s']):=iC (hSt.ext e7_12) hst12
   have e5_12:=e6.trans (e7.trans e7_12)
   have e3_12:=e35.trans e5_12
   have e2_12:=e3.trans e3_12
   have hts:∀t∈bX b s' M rs.length++[dH b s'],t.s=s':=fun t ht=>by
    rcases List.mem_append.mp ht with h | h
    ·exact(iY h).1
    ·rw[List.mem_singleton.mp h]
   have hg:dn H12 (m+1) (.ref lq) (bX b s' M rs.length++[dH b s']):=⟨lq,_,rfl,hlq,by simp;omega,by simp;omega,hS12,iS fun x hx y hy=>by rw[hts x hx,hts y hy,fZ hs1];omega⟩
   have hcl:cls ws (bX b s' M rs.length++[dH b s']):=su ok.ok (by rw[dv];exact hrs) (oy ok.ok (by omega) hs1 hC)
   have hp12:b9 H12 (.ref pl) ((r:Nat),(n:Nat)):=⟨pl,rfl,(e5.trans e5_12) _ _ hpl⟩
   have hgr:(bX b s' M rs.length++[dH b s'])[((r:Nat):Int).toNat]?=some (stM b s' M r):=by
    rw[Int.toNat_natCast,List.getElem?_append_left (by rw[dv];omega),nH (by omega)]
   have hgm:(bX b s' M rs.length++[dH b s'])[m.toNat]?=some (dH b s'):=by
    rw[List.getElem?_append_right (by rw[dv];omega),dv,show m.toNat-rs.length=0 by omega]
    rfl
   have hfr:(stM b s' M r).f n=true:=by
    rw[hI hs1]
    have:=hM ((r:Nat),(n:Nat)) (List.mem_singleton.mpr rfl)
    rw[show (((r:Nat):Int),((n:Nat):Int)).1.toNat=r from Int.toNat_natCast r,show (((r:Nat):Int),((n:Nat):Int)).2.toNat=n from Int.toNat_natCast n]at this
    exact this
   walk_at "rd"
   refine⟨ai (by simp),ah fun tf H13 e13 htf _=>?_⟩
   have e12_13:=e13
   refine dQ (aj.of htf) ?_
   refine gj (xs:=[V.int 0,V.int 999,V.int 1000]) (fun i σ H'=>Ext H13 H'/\∃k4,σ=[some (.ref hp0),some (.int (b:Nat)),some (.int (s':Nat)),some (.int (r:Nat)),some (.ref wd),some (.int (n:Nat)),some (.ref pl),some (.ref lq),k4]) ⟨Ext.rfl' _,_,rfl⟩ (fun i σ H' _ h=>aj.of (h.1 _ _ htf)) ?_ ?_
   ·rintro i v σ H14 hx ⟨e14,k4,rfl⟩
    obtain⟨y,rfl,hy⟩:∃y:Nat,v=.int (y:Nat)/\y<=1000:=by
     match i,hx with
     | 0,hx=>exact⟨0,(Option.some.inj hx).symm,by omega⟩
     | 1,hx=>exact⟨999,(Option.some.inj hx).symm,by omega⟩
     | 2,hx=>exact⟨1000,(Option.some.inj hx).symm,by omega⟩
    have eA:=e13.trans e14
    have eB:=e2_12.trans eA
    walk_at "rd"
    refine aB (aj.of ((e02.trans eB) _ _ hh)) (v:=.int m) rfl ?_
    walk_at "rd"
    refine⟨ai (by simp),ah fun pf H15 e15 hpf _=>?_⟩
    have eC:=eA.trans e15
    have hpf15:b9 H15 (.ref pf) (m,(y:Nat)):=⟨pf,rfl,hpf⟩
    walk_at "rd"
    refine uO (due:=true) (hW2.ext (eB.trans e15)) okW (.inr ⟨_,hg.ext eC,(hp12.ext eC).kn,hpf15.kn,⟨hcl,((r:Nat),(n:Nat)),(m,(y:Nat)),stM b s' M r,dH b s',hp12.ext eC,hpf15,?_,?_,hgr,hgm,?_,xD _ _ _⟩,rfl⟩) fun H16 e16=>?_
    ·exact⟨by show(0:Int)<=(r:Int);omega,by show(r:Int)<m+1;omega,by show(0:Int)<=(n:Int);omega,by show(n:Int)<=1000;omega⟩
    ·exact⟨by show(0:Int)<=m;omega,by show m<m+1;omega,by show(0:Int)<=(y:Int);omega,by show(y:Int)<=1000;omega⟩
    ·show(stM b s' M r).f ((n:Nat):Int).toNat=true
     rw[Int.toNat_natCast]
     exact hfr
    walk_at "rd"
    refine⟨_,_,rfl,rfl,_,rfl,au ?_⟩
    walk_at "rd"
    exact⟨(e14.trans e15).trans e16,_,rfl⟩
   ·rintro σ H14 ⟨e14,k4,rfl⟩
    have eA:=e13.trans e14
    have eB:=e2_12.trans eA
    walk_at "rd"
    refine aB (aj.of ((e02.trans eB) _ _ hh)) (v:=.int m) rfl ?_
    walk_at "rd"
    refine⟨ai (by simp),ah fun pf H15 e15 hpf _=>?_⟩
    have eC:=eA.trans e15
    have hbp:dS H15 (m+1) (.ref pf):=ec hpf (bg aW (bg aW cx)) (by show(_ && (_ && decide ((1001:Int)<=1000)))=false;simp)
    walk_at "rd"
    refine fM (hW2.ext (eB.trans e15)) okW (hg.ext eC) (hp12.ext eC).kn hbp.1 (tj hbp) fun H16 e16=>?_
    walk_at "rd"
    refine⟨_,_,rfl,rfl,_,rfl,au ?_⟩
    walk_at "rd"
    exact⟨e3.trans (e3_12.trans (eC.trans e16)),_,_,_,_,rfl⟩
  ·rintro σ H3 ⟨e3,k1,k2,k3,k4,rfl⟩
   walk_at "rd"
   exact q H3 (e02.trans e3)
theorem xJ:cm 40 21=840:=by decide +kernel
theorem AG:cm 41 21=861:=by decide +kernel
theorem nV{K:PySem.W.Frag}{H:Hp}{a:Addr}{ns:List Int}{k:Int}{Q:VK}{xe:XK}(h1:ag K H a (ns.map V.int))(h2:ns.length<=63)(h3:0<=k)(q:∀z,Q (.int z) H):lT K [.ref a,.int k] H Q xe:=⟨a,ns,k,rfl,h1,h2,h3,q⟩
def iV(K:PySem.W.Frag):Sp:=fun vs H Q _=>∃(a:Addr) (ns:List Int),vs=[.ref a]/\ag K H a (ns.map V.int)/\ns.length<=63/\∀H',Q (.bl true) H'
abbrev er:Stmt:=stq 61
theorem qB:FnScope ["_law_script","_law_house_here","_law_draws_here","_law_place","_law_stairs","_law_goal_here"] ["_law_script"] (aJ er):=⟨rfl,rfl,rfl,by decide +kernel,rfl,by decide +kernel,by decide +kernel⟩
theorem Be{P:Program}{w:World}{K:PySem.W.Frag}{mg:Str->Option Value}{base:Heap}{f:Addr}{fd:FuncData}(F:Fun K "law" "law" er f fd)(T:Blt mg)(C__law_all_seen:Cal P w K mg base "_law_all_seen" 10 ["_law_house_here","_law_one","_law_two"] (pO K))(C__law_places_seen:Cal P w K mg base "_law_places_seen" 11 ["_law_house_here","_law_place","_law_goal_here","_law_stairs"] (tD K))(C__law_lists_seen:Cal P w K mg base "_law_lists_seen" 12 ["_law_house_here","_law_place","_law_goal_here","_law_stairs","_law_room"] (sL K))(C__law_both_are:Cal P w K mg base "_law_both_are" 11 ["_law_house_here","_law_place","_law_goal_here","_law_stairs","_law_due"] (nL K))(C__law_goal:Cal P w K mg base "_law_goal" 2 ["_law_house_here","_law_stairs"] (qO K))(C__law_bounds_seen:Cal P w K mg base "_law_bounds_seen" 11 ["_law_house_here","_law_base","_law_step","_law_room"] (qL K))(C__law_stairs_of:Cal P w K mg base "_law_stairs_of" 1 ["_law_marks_here","_law_base","_law_step"] (lW K))(C__law_marks:Cal P w K mg base "_law_marks" 1 ["_law_house_here","_law_base","_law_step","_law_starts"] (lR K))(C__law_draws:Cal P w K mg base "_law_draws" 2 ["_law_cell_here","_law_widths","_law_prime"] (fo K))(C__law_cell:Cal P w K mg base "_law_cell" 1 ["_law_script","_law_k"] (lT K))(C__law_house:Cal P w K mg base "_law_house" 4 ["_law_cell_here","_law_prime"] (rK K)):FnOk P w K mg base eO 13 f fd ["_law_script"] (iV K):=by
 have nd:=(qB).nd
 refine F.ok qB (fun vs H Q E h=>?_) (fun cdv A outer s H vs Q E hr h=>?_)
 ·obtain⟨a,ns,rfl,_⟩:=h;rfl
 ·obtain⟨a,ns,rfl,ha,hl,q⟩:=h
  refine⟨_,(@ao _ _ _ _ _ (@aH _ _ 1 _ _ _ _ nd rfl (Or.inr rfl) (aw C__law_house hr (@aa _ _ _ _ _ (aw C__law_cell hr (@aa _ _ _ _ _ (pv 0) (@aa _ _ _ _ _ af ae rfl) rfl)) (@aa _ _ _ _ _ af ae rfl) rfl)) rfl (Or.inl rfl))
    (@ao _ _ _ _ _ (@aH _ _ 1 _ _ _ _ nd rfl (Or.inr rfl) (@aD _ _ _ _ _ (@aa _ _ _ _ _ (aV (ir rfl) rfl T.max_ PyProof.Rows.boot_max (@aa _ _ _ _ _ af (@aa _ _ _ _ _ (aV (oB rfl) rfl T.min_ PyProof.Rows.boot_min (@aa _ _ _ _ _ (@aq _ _ _ _ _ _ _ (aC K) (pv 1) af (fun _ _=>rfl)) (@aa _ _ _ _ _ af ae rfl) rfl)) ae rfl) rfl)) (@aa _ _ _ _ _ (cT (eE K) rfl T.tuple_ PyProof.Rows.boot_tuple (@aa _ _ _ _ _ (cU ["_law_way"] [1] (dG K (@aq _ _ _ _ _ _ _ (aC K) (pv 1) af (fun _ _=>rfl))) (fun _=>(aF (i:=0) (show(["_law_way","_law_house_here"]:List Str).Nodup from by decide +kernel) rfl (Or.inl rfl) (Or.inr rfl))) (fun _=>(iO (aO eh (aV (ir rfl) rfl T.max_ PyProof.Rows.boot_max (@aa _ _ _ _ _ (@aq _ _ _ _ _ _ _ (aC K) (pv 0) af (fun _ _=>rfl)) (@aa _ _ _ _ _ (@aq _ _ _ _ _ _ _ (aC K) (pv 0) af (fun _ _=>rfl)) ae rfl) rfl)) (aV (oB rfl) rfl T.min_ PyProof.Rows.boot_min (@aa _ _ _ _ _ (@aq _ _ _ _ _ _ _ (aC K) (pv 1) af (fun _ _=>rfl)) (@aa _ _ _ _ _ af ae rfl) rfl)) (aG _)))) (fun _=>(pv 0))) ae rfl)) ae rfl) rfl)) rfl (Or.inl rfl))
    (@ao _ _ _ _ _ (@aH _ _ 2 _ _ _ _ nd rfl (Or.inl rfl) (aw C__law_draws hr (@aa _ _ _ _ _ (aw C__law_cell hr (@aa _ _ _ _ _ (pv 0) (@aa _ _ _ _ _ af ae rfl) rfl)) (@aa _ _ _ _ _ (@aR _ _ _ _ (fR (.c (.c (.c (.c (.c .n))))))) (@aa _ _ _ _ _ af ae rfl) rfl) rfl)) rfl (Or.inl rfl))
    (@ao _ _ _ _ _ (@aH _ _ 3 _ _ _ _ nd rfl (Or.inl rfl) (@aD _ _ _ _ _ (@aa _ _ _ _ _ (ak bO (@aq _ _ _ _ _ _ _ (aL K) (pv 2) af (fun _ _=>rfl)) (@aq _ _ _ _ _ _ _ (aC K) (pv 1) af (fun _ _=>rfl))) (@aa _ _ _ _ _ (@aq _ _ _ _ _ _ _ (aL K) (pv 2) af (fun _ _=>rfl)) ae rfl) rfl)) rfl (Or.inl rfl))
    (@ao _ _ _ _ _ (@aH _ _ 4 _ _ _ _ nd rfl (Or.inl rfl) (aw C__law_stairs_of hr (@aa _ _ _ _ _ (aw C__law_marks hr (@aa _ _ _ _ _ (pv 1) (@aa _ _ _ _ _ (ak aI af (@aq _ _ _ _ _ _ _ (aL K) (pv 2) af (fun _ _=>rfl))) (@aa _ _ _ _ _ (ak aI af (@aq _ _ _ _ _ _ _ (aL K) (pv 2) af (fun _ _=>rfl))) (@aa _ _ _ _ _ (@aR _ _ _ _ (@aa _ _ _ _ _ (pv 3) ae rfl)) ae rfl) rfl) rfl) rfl)) (@aa _ _ _ _ _ (ak aI af (@aq _ _ _ _ _ _ _ (aL K) (pv 2) af (fun _ _=>rfl))) (@aa _ _ _ _ _ (ak aI af (@aq _ _ _ _ _ _ _ (aL K) (pv 2) af (fun _ _=>rfl))) ae rfl) rfl) rfl)) rfl (Or.inl rfl))
    (@ao _ _ _ _ _ (@aU _ _ _ _ _ _ _ _ (bt (aZ (aw C__law_bounds_seen hr (@aa _ _ _ _ _ (pv 1) (@aa _ _ _ _ _ (ak aI af (@aq _ _ _ _ _ _ _ (aL K) (pv 2) af (fun _ _=>rfl))) (@aa _ _ _ _ _ (ak aI af (@aq _ _ _ _ _ _ _ (aL K) (pv 2) af (fun _ _=>rfl))) (@aa _ _ _ _ _ (@aq _ _ _ _ _ _ _ (aC K) (pv 3) af (fun _ _=>rfl)) ae rfl) rfl) rfl) rfl)))) (@ar _ _ _ (@aA _ _ _ _ aN)) aP)
    (@ao _ _ _ _ _ (@dX _ _ _ _ _ _ (aw C__law_goal hr (@aa _ _ _ _ _ (pv 1) (@aa _ _ _ _ _ (pv 4) ae rfl) rfl)) (ff (n:=3) K rfl (br (aF (i:=1) nd rfl (Or.inr rfl)) (br (aF (i:=4) nd rfl (Or.inl rfl)) (br (aF (i:=5) nd rfl (Or.inl rfl)) eM)))) rfl rfl rfl)
    (@ao _ _ _ _ _ (@aU _ _ _ _ _ _ _ _ (bt (aZ (aw C__law_both_are hr (@aa _ _ _ _ _ (pv 1) (@aa _ _ _ _ _ (pv 3) (@aa _ _ _ _ _ (pv 5) (@aa _ _ _ _ _ (pv 4) (@aa _ _ _ _ _ aN ae rfl) rfl) rfl) rfl) rfl)))) (@ar _ _ _ (@aA _ _ _ _ aN)) aP)
    (@ao _ _ _ _ _ (@aU _ _ _ _ _ _ _ _ (bt (aZ (aw C__law_lists_seen hr (@aa _ _ _ _ _ (pv 1) (@aa _ _ _ _ _ (pv 3) (@aa _ _ _ _ _ (pv 5) (@aa _ _ _ _ _ (pv 4) (@aa _ _ _ _ _ (ak bO (@aq _ _ _ _ _ _ _ (aL K) (pv 2) af (fun _ _=>rfl)) (@aq _ _ _ _ _ _ _ (aC K) (pv 1) af (fun _ _=>rfl))) ae rfl) rfl) rfl) rfl) rfl)))) (@ar _ _ _ (@aA _ _ _ _ aN)) aP)
    (@ao _ _ _ _ _ (@aU _ _ _ _ _ _ _ _ (bt (aZ (aw C__law_places_seen hr (@aa _ _ _ _ _ (pv 1) (@aa _ _ _ _ _ (pv 3) (@aa _ _ _ _ _ (pv 5) (@aa _ _ _ _ _ (pv 4) ae rfl) rfl) rfl) rfl)))) (@ar _ _ _ (@aA _ _ _ _ aN)) aP)
    (@ar _ _ _ (@aA _ _ _ _ (bR (cD mQ (aw C__law_all_seen hr (@aa _ _ _ _ _ (pv 1) (@aa _ _ _ _ _ af (@aa _ _ _ _ _ af ae rfl) rfl) rfl)) aN (aG _)) (cv (cD mQ (aw C__law_all_seen hr (@aa _ _ _ _ _ (pv 1) (@aa _ _ _ _ _ af (@aa _ _ _ _ _ af ae rfl) rfl) rfl)) aN (aG _)))))))))))))))),?_⟩
  walk_at "rd"
  refine nV ha hl (by decide) fun z=>?_
  walk_at "rd"
  refine⟨z,_,rfl,by decide,fun v m ws H1 e1 hv ok3=>?_⟩
  have ok:=ok3.house
  clear ok3
  have m1:=ok.m1
  have m2:=ok.m12
  have few:=ok.few
  obtain⟨hp0,hq0,rfl,hh,hw⟩:=id hv
  obtain⟨bs,hq,hal⟩:=cH.al hw
  have hbl:=hal.1
  obtain⟨mn,hmn⟩:∃mn,mn=(if(11:Int)<m then 11 else m):=⟨_,rfl⟩
  have hmn1:1<=mn/\mn<=11/\mn<=m:=by split at hmn<;>omega
  obtain⟨mm,hmm⟩:∃mm,mm=(if mn>2 then mn else 2):=⟨_,rfl⟩
  have hmm1:2<=mm/\mm<=11/\mn<=mm:=by split at hmm<;>omega
  walk_at "rd"
  refine aB (aj.of hh) (v:=.int m) rfl ?_
  walk_at "rd"
  rw[←hmn,←hmm]
  refine aB (aj.of hh) (v:=.ref hq0) rfl ?_
  walk_at "rd"
  refine dQ (aj.of hq) ?_
  refine iU (xs:=bs.map V.ref) (fun i ys H'=>H'=H1/\∃cs us,ys=List.map V.ref cs/\aX H1 cs us/\us=(ws.take i).filter fun w=>decide ((if w.other>w.room then w.other else w.room)<mn)) (ai (by rw[List.length_map];omega)) ⟨rfl,[],[],rfl,aX.nil _,rfl⟩ ?_ ?_ ?_
  ·rintro i ys H' _ ⟨rfl,cs,us,rfl,hau,rfl⟩
   refine⟨aj.of hq,?_⟩
   rw[List.length_map,hau.1]
   exact Nat.le_trans (List.length_filter_le _ _) (by rw[List.length_take];omega)
  ·rintro i v ys H' hx ⟨rfl,cs,us,rfl,hau,hus⟩
   rw[List.getElem?_map]at hx
   obtain⟨b,hb,rfl⟩:=Option.map_eq_some_iff.mp hx
   have hiw:i<ws.length:=by
    have:=(List.getElem?_eq_some_iff.mp hb).1
    omega
   have hwi:ws[i]?=some ws[i]:=List.getElem?_eq_getElem hiw
   have hbw:=hal.2 i b _ hb hwi
   generalize ws[i]=w0 at hwi hbw
   walk_at "rd"
   refine aB (aj.of hbw) (v:=.int w0.room) rfl ?_
   walk_at "rd"
   refine aB (aj.of hbw) (v:=.int w0.other) rfl ?_
   walk_at "rd"
   refine aB (aj.of hh) (v:=.int m) rfl ?_
   walk_at "rd"
   rw[←hmn]
   cases hc:decide ((if w0.other>w0.room then w0.other else w0.room)<mn)with
   | true=>
    refine av ?_
    walk_at "rd"
    refine⟨rfl,cs++[b],us++[w0],?_,hau.snoc hbw,?_⟩
    ·rw[List.map_append];rfl
    ·rw[hus,List.take_add_one,hwi,List.filter_append]
     congr 1
     show[w0]=List.filter _ [w0]
     rw[List.filter_cons,if_pos hc]
     rfl
   | false=>
    refine au ⟨rfl,cs,us,rfl,hau,?_⟩
    rw[hus,List.take_add_one,hwi,List.filter_append]
    have:List.filter (fun w=>decide ((if w.other>w.room then w.other else w.room)<mn)) [w0]=[]:=by
     rw[List.filter_cons,if_neg (by rw[hc];exact Bool.false_ne_true)]
     rfl
    show _=_++List.filter _ [w0]
    rw[this,List.append_nil]
  ·rintro ys H' pc ⟨hH,cs,us,rfl,hau,hus⟩ hpc
   subst hH
   rw[List.length_map,hbl,List.take_length]at hus
   have f1:Ext H' (upd H' pc (.lst (List.map V.ref cs))):=cb hpc
   have hpc2:(upd H' pc (.lst (List.map V.ref cs))) pc=_:=aY
   generalize upd H' pc (.lst (List.map V.ref cs))=H2 at f1 hpc2 ⊢
   walk_at "rd"
   refine dW (ag.of hpc2) (ah fun tq H3 f3 htq _=>?_)
   walk_at "rd"
   refine⟨ai (by simp),ah fun nh H4 f4 hnh _=>?_⟩
   have e14:=f1.trans (f3.trans f4)
   have hV:bj H4 (.ref nh) mm us:=⟨nh,tq,rfl,hnh,(hau.ext e14).ways (f4 _ _ htq)⟩
   have okM:HOuse mm us:=⟨by omega,by omega,by rw[hus];exact Nat.le_trans (List.length_filter_le _ _) few,fun w hw=>by
    rw[hus]at hw
    obtain⟨hw1,hw2⟩:=List.mem_filter.mp hw
    obtain⟨a1,a2,a3,a4,a5,a6⟩:=ok.ok w hw1
    have hw3:=of_decide_eq_true hw2
    have h1:w.room<mm/\w.other<mm:=by split at hw3<;>omega
    exact⟨a1,h1.1,a3,h1.2,a5,a6⟩,by rw[hus];exact ok.nd.filter _⟩
   have ha4:=ha.ext (e1.trans e14)
   clear hv ok few hw hal hau hus hbl hq hpc hpc2 htq hh
   walk_at "rd"
   refine nV ha4 hl (by decide) fun z2=>?_
   walk_at "rd"
   refine⟨ai (by simp),ah fun w0 H5 e5 hw0 _=>?_⟩
   walk_at "rd"
   refine ik [30,12,12,13,12] hw0 (by decide) (by decide) (by decide) fun dq ds H6 e6 hd _ hdl hdb=>?_
   obtain⟨d0,g0,b0⟩:=bP hdl hdb 0 rfl
   obtain⟨d1,g1,b1⟩:=bP hdl hdb 1 rfl
   obtain⟨d2,g2,b2⟩:=bP hdl hdb 2 rfl
   obtain⟨d3,g3,b3⟩:=bP hdl hdb 3 rfl
   obtain⟨d4,g4,b4⟩:=bP hdl hdb 4 rfl
   obtain⟨d0,rfl⟩:=Int.eq_ofNat_of_zero_le b0.1
   obtain⟨d1,rfl⟩:=Int.eq_ofNat_of_zero_le b1.1
   obtain⟨d3,rfl⟩:=Int.eq_ofNat_of_zero_le b3.1
   obtain⟨r,hr0⟩:=Int.eq_ofNat_of_zero_le (Int.emod_nonneg d2 (show mm≠0 by omega))
   have hr1:=Int.emod_lt_of_pos d2 (show 0<mm by omega)
   have hV6:=hV.ext (e5.trans e6)
   obtain⟨hp2,hq2,hpe,hh6,_⟩:=id hV6
   cases hpe
   walk_at "rd"
   refine aK (ag.of hd) g2 ?_
   walk_at "rd"
   refine aB (aj.of hh6) (v:=.int mm) rfl ?_
   refine rd_I (show(0:Int)<mm by omega) ?_
   rw[hr0]
   walk_at "rd"
   refine aK (ag.of hd) g3 ?_
   walk_at "rd"
   refine⟨ai (by simp),ah fun pl H7 e7 hpl _=>?_⟩
   walk_at "rd"
   refine aK (ag.of (e7 _ _ hd)) g0 ?_
   walk_at "rd"
   refine aK (ag.of (e7 _ _ hd)) g1 ?_
   walk_at "rd"
   refine⟨ai (by simp),ah fun lp H8 e8 hlp _=>?_⟩
   walk_at "rd"
   have e68:=e7.trans e8
   have hin:fm mm ((r:Nat),(d3:Nat)):=⟨by show(0:Int)<=(r:Int);omega,by show(r:Int)<mm;omega,by show(0:Int)<=(d3:Int);omega,by show(d3:Int)<=1000;omega⟩
   refine⟨.ref nh,mm,us,1+d0,1+d1,lp,[pl],[((r:Nat),(d3:Nat))],rfl,hV6.ext e68,okM,by omega,by omega,hlp,.cons (e8 _ _ hpl) .nil,by simp,fun x hx=>by rw[List.mem_singleton.mp hx];exact hin,fun mq rs M H9 e9 _ hrs hR hC hM=>?_⟩
   have e69:=e68.trans e9
   walk_at "rd"
   refine aK (ag.of (e69 _ _ hd)) g0 ?_
   walk_at "rd"
   refine aK (ag.of (e69 _ _ hd)) g1 ?_
   walk_at "rd"
   refine⟨mq,rs,M,1+d0,1+d1,rfl,by omega,by omega,hR,by omega,fun fq xs H10 e10 _ hfq hSt=>?_⟩
   have e610:=e69.trans e10
   have hV10:=hV6.ext e610
   have hpl10:dN H10 pl ((r:Nat),(d3:Nat)):=(e8.trans (e9.trans e10)) _ _ hpl
   have hd10:=e610 _ _ hd
   clear hd hV6 hV hpl hlp
   walk_at "rd"
   refine aK (ag.of hd10) g0 ?_
   walk_at "rd"
   refine aK (ag.of hd10) g1 ?_
   walk_at "rd"
   refine aB (aj.of hpl10) (v:=.int (r:Nat)) rfl ?_
   walk_at "rd"
   refine⟨.ref nh,mm,us,1+d0,1+d1,r,rfl,hV10,okM,by omega,by omega,by omega,by omega,fun H11 e11=>?_⟩
   walk_at "rd"
   refine au ?_
   walk_at "rd"
   have hxl:xs.length=rs.length:=by rw[hSt.len,dv]
   refine⟨.ref nh,mm,us,fq,xs,_,rfl,hV10.ext e11,okM,by omega,e11 _ _ hfq,hSt.ext e11,by omega,fun p3 vh' m' l' xs' ts' pg r' x H12 e12 hp3 hV' ok' hl' hSt' hm' hpg hr' hx60 hgoal hts=>?_⟩
   have e10_12:=e11.trans e12
   have hp12:b9 H12 (.ref pl) ((r:Nat),(d3:Nat)):=⟨pl,rfl,e10_12 _ _ hpl10⟩
   have hg12:b9 H12 (.ref pg) ((r':Nat),(x:Nat)):=⟨pg,rfl,hpg⟩
   have hcl0:cls us (bX (1+d0) (1+d1) M rs.length):=oy okM.ok (by omega) (by omega) hC
   have hget:(bX (1+d0) (1+d1) M rs.length)[r]?=some (stM (1+d0) (1+d1) M r):=nH (by omega)
   have hfr:(stM (1+d0) (1+d1) M r).f d3=true:=by
    rw[hI (by omega)]
    have:=hM ((r:Nat),(d3:Nat)) (List.mem_singleton.mpr rfl)
    rw[show (((r:Nat):Int),((d3:Nat):Int)).1.toNat=r from Int.toNat_natCast r,show (((r:Nat):Int),((d3:Nat):Int)).2.toNat=d3 from Int.toNat_natCast d3]at this
    exact this
   have hsb:∀t∈ts',t.s=1+d1/\t.b=1+d0:=by
    intro t ht
    rcases hts with rfl | ⟨t0,h0,rfl⟩
    ·exact iY ht
    ·rcases List.mem_append.mp ht with h | h
     ·exact iY h
     ·rw[List.mem_singleton.mp h]
      exact(iY h0 :)
   have hcl:cls us ts':=by
    rcases hts with rfl | ⟨t0,h0,rfl⟩
    ·exact hcl0
    ·exact su okM.ok (by rw[dv];omega) hcl0
   have hgr:ts'[r]?=some (stM (1+d0) (1+d1) M r):=by
    rcases hts with rfl | ⟨t0,h0,rfl⟩
    ·exact hget
    ·rw[List.getElem?_append_left (by rw[dv];omega)]
     exact hget
   have hm2:mm<=m':=by
    have:=hSt'.len
    rcases hts with rfl | ⟨t0,h0,rfl⟩
    ·rw[dv]at this;omega
    ·rw[List.length_append,dv,List.length_singleton]at this;omega
   have hm'12:=ok'.m12
   have hst':steps ts'=true:=iS fun x hx y hy=>by
    rw[(hsb x hx).1,(hsb y hy).1,fZ (by omega)];omega
   have hG:dn H12 m' (.ref l') ts':=⟨l',xs',rfl,hl',by omega,hm',hSt',hst'⟩
   have hN:bU H12 m' us ts' (.ref pl) (.ref pg):=by
    obtain⟨tg,hg1,hg2⟩:=hgoal
    refine⟨hcl,((r:Nat),(d3:Nat)),((r':Nat),(x:Nat)),stM (1+d0) (1+d1) M r,tg,hp12,hg12,⟨by show(0:Int)<=(r:Int);omega,by show(r:Int)<m';omega,by show(0:Int)<=(d3:Int);omega,by show(d3:Int)<=1000;omega⟩,⟨by show(0:Int)<=(r':Int);omega,hr',by show(0:Int)<=(x:Int);omega,by show(x:Int)<=1000;omega⟩,?_,?_,?_,?_⟩
    ·show ts'[((r:Nat):Int).toNat]?=_
     rw[Int.toNat_natCast];exact hgr
    ·show ts'[((r':Nat):Int).toNat]?=_
     rw[Int.toNat_natCast];exact hg1
    ·show(stM (1+d0) (1+d1) M r).f ((d3:Nat):Int).toNat=true
     rw[Int.toNat_natCast];exact hfr
    ·show tg.f ((x:Nat):Int).toNat=false
     rw[Int.toNat_natCast];exact hg2
   have hd12:=e10_12 _ _ hd10
   walk_at "rd"
   refine eR (aj.of hp3) rfl ?_
   walk_at "rd"
   refine⟨vh',.ref pl,.ref pg,.ref l',true,m',us,rfl,hV',ok',.inr ⟨ts',hG,hp12.kn,hg12.kn,hN,rfl⟩,fun H13 e13=>?_⟩
   walk_at "rd"
   refine au ?_
   walk_at "rd"
   obtain⟨hp5,hq5,rfl,hh5,_⟩:=id (hV'.ext e13)
   obtain⟨r4,hr4⟩:=Int.eq_ofNat_of_zero_le (Int.emod_nonneg d4 (show m'≠0 by omega))
   have hr41:=Int.emod_lt_of_pos d4 (show 0<m' by omega)
   refine aK (ag.of (e13 _ _ hd12)) g4 ?_
   walk_at "rd"
   refine aB (aj.of hh5) (v:=.int m') rfl ?_
   refine rd_I (show(0:Int)<m' by omega) ?_
   rw[hr4]
   walk_at "rd"
   refine⟨_,.ref pl,.ref pg,l',xs',ts',m',us,r4,rfl,hV'.ext e13,ok',e13 _ _ hl',hSt'.ext e13,hst',hm',by omega,(hp12.ext e13).kn,(hg12.ext e13).kn,hN.ext e13,fun t ht u hu=>?_,fun H14 e14'=>?_⟩
   ·have h1:=hsb t ht
    have h2:=hsb u hu
    omega
   have e12_14:=e13.trans e14'
   walk_at "rd"
   refine au ?_
   walk_at "rd"
   refine⟨_,.ref pl,.ref pg,.ref l',m',us,ts',_,rfl,hV'.ext e12_14,ok',hG.ext e12_14,hp12.ext e12_14,(hg12.ext e12_14).kn,hN.ext e12_14,fun H15 e15=>?_⟩
   have e12_15:=e12_14.trans e15
   walk_at "rd"
   refine au ?_
   walk_at "rd"
   refine⟨_,m',us,40,21,rfl,hV'.ext e12_15,ok',by omega,by omega,by omega,by omega,by omega,fun H16 e16=>?_⟩
   rw[xJ]
   walk_at "rd"
   refine⟨_,_,rfl,rfl,?_⟩
   refine rd_exb (av ?_)
   walk_at "rd"
   refine⟨_,m',us,41,21,rfl,hV'.ext (e12_15.trans e16),ok',by omega,by omega,by omega,by omega,by omega,fun H17 e17=>?_⟩
   rw[AG]
   walk_at "rd"
   refine⟨_,_,rfl,rfl,?_⟩
   exact q H17
abbrev Dq(K:PySem.W.Frag)(mg:Str->Option Value)(x:Str)(st:Stmt):Prop:=∃(f:Addr) (fd:FuncData),mg x=some (.ref f)/\Fun K x x st f fd
theorem dq{K:PySem.W.Frag}{h:Heap}{mg:Str->Option Value}(X:K.In h)(G:h.Ns mainGlobals mg){x:Str}{st:Stmt}{f:Addr}{od an:Option Addr}{sl:Array (Option Value)}{oc kV dc pm cd ct:Value}(a:PySem.W.nsIn K mainGlobals x=some (some (.ref f)))(l:K.lookup f=some ⟨oc,od,.func (PySem.W.fnOf x x (fK st) (eQ st) (aJ st) .none kV dc pm an cd ct),sl⟩)(c:PySem.W.codeIn K cd x=true)(k:PySem.W.keepIn K (.ref f)=true):Dq K mg x st:=⟨f,_,PySem.W.mg_of X G a,oO (st:=st) l c k⟩
theorem all_mk{l:PySem.W.OpenLaw}{w:World}{K:PySem.W.Frag}{h:Heap}{mg:Str->Option Value}{fa:Addr}(X:K.In h)(G:h.Ns mainGlobals mg)(hfa:mg "law" = some (.ref fa))
  (d0:Dq K mg "marks_below" iP)
  (d1:Dq K mg "greatest_divisor" i7)
  (d2:Dq K mg "common_step" kZ)
  (d3:Dq K mg "raised_by" jZ)
  (d4:Dq K mg "refuse_great_stair" jI)
  (d5:Dq K mg "is_whole" ko)
  (d6:Dq K mg "is_rising_row" jC)
  (d7:Dq K mg "are_stair_places" jG)
  (d8:Dq K mg "is_stair" ky)
  (d9:Dq K mg "refuse_no_stair" kL)
  (d10:Dq K mg "refuse_bad_stair" kK)
  (d11:Dq K mg "holds" jE)
  (d12:Dq K mg "is_left_by" i8)
  (d13:Dq K mg "are_near_steps" jP)
  (d14:Dq K mg "is_near_stair" kF)
  (d15:Dq K mg "are_stairs_for" jR)
  (d16:Dq K mg "is_sign" jN)
  (d17:Dq K mg "is_deed" jw)
  (d18:Dq K mg "is_room" jJ)
  (d19:Dq K mg "is_way" jD)
  (d20:Dq K mg "are_ways" jS)
  (d21:Dq K mg "is_house" kf)
  (d22:Dq K mg "sees_closed" jQ)
  (d23:Dq K mg "_law_all_seen" j9)
  (d24:Dq K mg "is_near_place" kW)
  (d25:Dq K mg "sees_never" kh)
  (d26:Dq K mg "_law_places_seen" iW)
  (d27:Dq K mg "_law_often" jg)
  (d28:Dq K mg "_law_holds" i6)
  (d29:Dq K mg "_law_from" jA)
  (d30:Dq K mg "_law_both_are" kG)
  (d31:Dq K mg "_law_lists_seen" jf)
  (d32:Dq K mg "_law_goal" kz)
  (d33:Dq K mg "_law_stairs_of" ke)
  (d34:Dq K mg "_law_marks" kJ)
  (d35:Dq K mg "_law_bounds_seen" i5)
  (d36:Dq K mg "_law_mixed" ja)
  (d37:Dq K mg "_law_draws" ju)
  (d38:Dq K mg "_law_cell" j7)
  (d39:Dq K mg "_law_unlike" kl)
  (d40:Dq K mg "_law_drawn_house" jr)
  (d41:Dq K mg "_law_gate_house" jx)
  (d42:Dq K mg "_law_ring_house" jh)
  (d43:Dq K mg "_law_spare" kI)
  (d44:Dq K mg "_law_house" ku)
  {f45:Addr} {od45 an45:Option Addr} {sl45:Array (Option Value)} {oc45 kV45 dc45 pm45 cd45 ct45:Value} (a45:PySem.W.nsIn K mainGlobals "law" = some (some (.ref f45))) (l45:K.lookup f45=some ⟨oc45,od45,.func (PySem.W.fnOf "law" "law" (fK er) (eQ er) (aJ er) .none kV45 dc45 pm45 an45 cd45 ct45),sl45⟩) (c45:PySem.W.codeIn K cd45 "law" = true) (k45:PySem.W.keepIn K (.ref f45)=true)
  (z0:PySem.W.nsIn K mainGlobals "len" = some none)
  (z1:PySem.W.nsIn K mainGlobals "isinstance" = some none)
  (z2:PySem.W.nsIn K mainGlobals "tuple" = some none)
  (z3:PySem.W.nsIn K mainGlobals "list" = some none)
  (z4:PySem.W.nsIn K mainGlobals "int" = some none)
  (z5:PySem.W.nsIn K mainGlobals "bool" = some none)
  (z6:PySem.W.nsIn K mainGlobals "range" = some none)
  (z7:PySem.W.nsIn K mainGlobals "zip" = some none)
  (z8:PySem.W.nsIn K mainGlobals "max" = some none)
  (z9:PySem.W.nsIn K mainGlobals "min" = some none)
  (z10:PySem.W.nsIn K mainGlobals "abs" = some none)
  (z11:PySem.W.nsIn K mainGlobals "all" = some none)
  (z12:PySem.W.nsIn K mainGlobals "set" = some none)
  (z13:PySem.W.nsIn K mainGlobals "str" = some none)
  (z14:PySem.W.nsIn K mainGlobals "any" = some none)
  {t0:Tok} (v0:PySem.W.nsIn K mainGlobals "GREATEST_STEP" = some (some (.int 840 t0)))
  {t1:Tok} (v1:PySem.W.nsIn K mainGlobals "GREATEST_BASE" = some (some (.int 3000 t1)))
  {t2:Tok} (v2:PySem.W.nsIn K mainGlobals "GREATEST_WAYS" = some (some (.int 100 t2)))
  {t3:Tok} (v3:PySem.W.nsIn K mainGlobals "GREATEST_MANY" = some (some (.int 12 t3)))
  {t4:Tok} (v4:PySem.W.nsIn K mainGlobals "GREATEST_NUMBER" = some (some (.int 1000 t4)))
  {e0:Addr} {q0_0 u0_0 q0_1 u0_1 q0_2 u0_2 q0_3 u0_3:Tok} {ep0:Nat} (x0:PySem.W.nsIn K mainGlobals "RAISED" = some (some (.ref e0))) (y0:K.lookup e0=some (fV w [("up",q0_0,.int (1) u0_0),("down",q0_1,.int (-1) u0_1),("stay",q0_2,.int (0) u0_2),("zero",q0_3,.int (0) u0_3)] ep0)) (w0:(e0 == sysModules)=false)
  {e1:Addr} {q1_0 u1_0 q1_1 u1_1 q1_2 u1_2 q1_3 u1_3:Tok} {ep1:Nat} (x1:PySem.W.nsIn K mainGlobals "TURNED" = some (some (.ref e1))) (y1:K.lookup e1=some (fV w [("up",q1_0,.str "down" u1_0),("down",q1_1,.str "up" u1_1),("stay",q1_2,.str "stay" u1_2),("zero",q1_3,.str "zero" u1_3)] ep1)) (w1:(e1 == sysModules)=false)
  : ∃fd:FuncData,(∀(s:Shared) (v:Value),BindsTo s fd ⟨[v],[]⟩ [("_law_script",v)])/\∀base:Heap,K.In base->base.Ns mainGlobals mg->FnOk l.prog w K mg base eO 13 fa fd ["_law_script"] (iV K):=by
 have e:=hfa.symm.trans (PySem.W.mg_of X G a45)
 cases e
 have T:Blt mg:=⟨PySem.W.mg_none_of X G z0,PySem.W.mg_none_of X G z1,PySem.W.mg_none_of X G z2,PySem.W.mg_none_of X G z3,PySem.W.mg_none_of X G z4,PySem.W.mg_none_of X G z5,PySem.W.mg_none_of X G z6,PySem.W.mg_none_of X G z7,PySem.W.mg_none_of X G z8,PySem.W.mg_none_of X G z9,PySem.W.mg_none_of X G z10,PySem.W.mg_none_of X G z11,PySem.W.mg_none_of X G z12,PySem.W.mg_none_of X G z13,PySem.W.mg_none_of X G z14⟩
 have D0:Dfn K mg "marks_below" iP ["stair","end"]:=let ⟨f,fd,a,F⟩:=d0;⟨f,fd,a,F,F.binds (ps:=["stair","end"]) fun _ _ _ _ _ _ us hl=>match us,hl with | [_,_],_=>rfl⟩
 have D1:Dfn K mg "greatest_divisor" i7 ["one","other"]:=let ⟨f,fd,a,F⟩:=d1;⟨f,fd,a,F,F.binds (ps:=["one","other"]) fun _ _ _ _ _ _ us hl=>match us,hl with | [_,_],_=>rfl⟩
 have D2:Dfn K mg "common_step" kZ ["one","other"]:=let ⟨f,fd,a,F⟩:=d2;⟨f,fd,a,F,F.binds (ps:=["one","other"]) fun _ _ _ _ _ _ us hl=>match us,hl with | [_,_],_=>rfl⟩
 have D3:Dfn K mg "raised_by" jZ ["way"]:=let ⟨f,fd,a,F⟩:=d3;⟨f,fd,a,F,F.binds (ps:=["way"]) fun _ _ _ _ _ _ us hl=>match us,hl with | [_],_=>rfl⟩
 have D4:Dfn K mg "refuse_great_stair" jI ["stair"]:=let ⟨f,fd,a,F⟩:=d4;⟨f,fd,a,F,F.binds (ps:=["stair"]) fun _ _ _ _ _ _ us hl=>match us,hl with | [_],_=>rfl⟩
 have D5:Dfn K mg "is_whole" ko ["thing"]:=let ⟨f,fd,a,F⟩:=d5;⟨f,fd,a,F,F.binds (ps:=["thing"]) fun _ _ _ _ _ _ us hl=>match us,hl with | [_],_=>rfl⟩
 have D6:Dfn K mg "is_rising_row" jC ["thing","low","end"]:=let ⟨f,fd,a,F⟩:=d6;⟨f,fd,a,F,F.binds (ps:=["thing","low","end"]) fun _ _ _ _ _ _ us hl=>match us,hl with | [_,_,_],_=>rfl⟩
 have D7:Dfn K mg "are_stair_places" jG ["base","step","once","again"]:=let ⟨f,fd,a,F⟩:=d7;⟨f,fd,a,F,F.binds (ps:=["base","step","once","again"]) fun _ _ _ _ _ _ us hl=>match us,hl with | [_,_,_,_],_=>rfl⟩
 have D8:Dfn K mg "is_stair" ky ["thing"]:=let ⟨f,fd,a,F⟩:=d8;⟨f,fd,a,F,F.binds (ps:=["thing"]) fun _ _ _ _ _ _ us hl=>match us,hl with | [_],_=>rfl⟩
 have D9:Dfn K mg "refuse_no_stair" kL ["thing"]:=let ⟨f,fd,a,F⟩:=d9;⟨f,fd,a,F,F.binds (ps:=["thing"]) fun _ _ _ _ _ _ us hl=>match us,hl with | [_],_=>rfl⟩
 have D10:Dfn K mg "refuse_bad_stair" kK ["thing"]:=let ⟨f,fd,a,F⟩:=d10;⟨f,fd,a,F,F.binds (ps:=["thing"]) fun _ _ _ _ _ _ us hl=>match us,hl with | [_],_=>rfl⟩
 have D11:Dfn K mg "holds" jE ["stair","x"]:=let ⟨f,fd,a,F⟩:=d11;⟨f,fd,a,F,F.binds (ps:=["stair","x"]) fun _ _ _ _ _ _ us hl=>match us,hl with | [_,_],_=>rfl⟩
 have D12:Dfn K mg "is_left_by" i8 ["way","one","other"]:=let ⟨f,fd,a,F⟩:=d12;⟨f,fd,a,F,F.binds (ps:=["way","one","other"]) fun _ _ _ _ _ _ us hl=>match us,hl with | [_,_,_],_=>rfl⟩
 have D13:Dfn K mg "are_near_steps" jP ["stairs"]:=let ⟨f,fd,a,F⟩:=d13;⟨f,fd,a,F,F.binds (ps:=["stairs"]) fun _ _ _ _ _ _ us hl=>match us,hl with | [_],_=>rfl⟩
 have D14:Dfn K mg "is_near_stair" kF ["thing"]:=let ⟨f,fd,a,F⟩:=d14;⟨f,fd,a,F,F.binds (ps:=["thing"]) fun _ _ _ _ _ _ us hl=>match us,hl with | [_],_=>rfl⟩
 have D15:Dfn K mg "are_stairs_for" jR ["house","thing"]:=let ⟨f,fd,a,F⟩:=d15;⟨f,fd,a,F,F.binds (ps:=["house","thing"]) fun _ _ _ _ _ _ us hl=>match us,hl with | [_,_],_=>rfl⟩
 have D16:Dfn K mg "is_sign" jN ["thing"]:=let ⟨f,fd,a,F⟩:=d16;⟨f,fd,a,F,F.binds (ps:=["thing"]) fun _ _ _ _ _ _ us hl=>match us,hl with | [_],_=>rfl⟩
 have D17:Dfn K mg "is_deed" jw ["thing"]:=let ⟨f,fd,a,F⟩:=d17;⟨f,fd,a,F,F.binds (ps:=["thing"]) fun _ _ _ _ _ _ us hl=>match us,hl with | [_],_=>rfl⟩
 have D18:Dfn K mg "is_room" jJ ["thing","many"]:=let ⟨f,fd,a,F⟩:=d18;⟨f,fd,a,F,F.binds (ps:=["thing","many"]) fun _ _ _ _ _ _ us hl=>match us,hl with | [_,_],_=>rfl⟩
 have D19:Dfn K mg "is_way" jD ["thing","many"]:=let ⟨f,fd,a,F⟩:=d19;⟨f,fd,a,F,F.binds (ps:=["thing","many"]) fun _ _ _ _ _ _ us hl=>match us,hl with | [_,_],_=>rfl⟩
 have D20:Dfn K mg "are_ways" jS ["thing","many"]:=let ⟨f,fd,a,F⟩:=d20;⟨f,fd,a,F,F.binds (ps:=["thing","many"]) fun _ _ _ _ _ _ us hl=>match us,hl with | [_,_],_=>rfl⟩
 have D21:Dfn K mg "is_house" kf ["thing"]:=let ⟨f,fd,a,F⟩:=d21;⟨f,fd,a,F,F.binds (ps:=["thing"]) fun _ _ _ _ _ _ us hl=>match us,hl with | [_],_=>rfl⟩
 have D22:Dfn K mg "sees_closed" jQ ["house","stairs"]:=let ⟨f,fd,a,F⟩:=d22;⟨f,fd,a,F,F.binds (ps:=["house","stairs"]) fun _ _ _ _ _ _ us hl=>match us,hl with | [_,_],_=>rfl⟩
 have D23:Dfn K mg "_law_all_seen" j9 ["_law_house_here","_law_one","_law_two"]:=let ⟨f,fd,a,F⟩:=d23;⟨f,fd,a,F,F.binds (ps:=["_law_house_here","_law_one","_law_two"]) fun _ _ _ _ _ _ us hl=>match us,hl with | [_,_,_],_=>rfl⟩
 have D24:Dfn K mg "is_near_place" kW ["thing","house"]:=let ⟨f,fd,a,F⟩:=d24;⟨f,fd,a,F,F.binds (ps:=["thing","house"]) fun _ _ _ _ _ _ us hl=>match us,hl with | [_,_],_=>rfl⟩
 have D25:Dfn K mg "sees_never" kh ["house","place","goal","stairs"]:=let ⟨f,fd,a,F⟩:=d25;⟨f,fd,a,F,F.binds (ps:=["house","place","goal","stairs"]) fun _ _ _ _ _ _ us hl=>match us,hl with | [_,_,_,_],_=>rfl⟩
 have D26:Dfn K mg "_law_places_seen" iW ["_law_house_here","_law_place","_law_goal_here","_law_stairs"]:=let ⟨f,fd,a,F⟩:=d26;⟨f,fd,a,F,F.binds (ps:=["_law_house_here","_law_place","_law_goal_here","_law_stairs"]) fun _ _ _ _ _ _ us hl=>match us,hl with | [_,_,_,_],_=>rfl⟩
 have D27:Dfn K mg "_law_often" jg ["_law_stair","_law_many"]:=let ⟨f,fd,a,F⟩:=d27;⟨f,fd,a,F,F.binds (ps:=["_law_stair","_law_many"]) fun _ _ _ _ _ _ us hl=>match us,hl with | [_,_],_=>rfl⟩
 have D28:Dfn K mg "_law_holds" i6 ["_law_stair","_law_x"]:=let ⟨f,fd,a,F⟩:=d28;⟨f,fd,a,F,F.binds (ps:=["_law_stair","_law_x"]) fun _ _ _ _ _ _ us hl=>match us,hl with | [_,_],_=>rfl⟩
 have D29:Dfn K mg "_law_from" jA ["_law_stair","_law_base"]:=let ⟨f,fd,a,F⟩:=d29;⟨f,fd,a,F,F.binds (ps:=["_law_stair","_law_base"]) fun _ _ _ _ _ _ us hl=>match us,hl with | [_,_],_=>rfl⟩
 have D30:Dfn K mg "_law_both_are" kG ["_law_house_here","_law_place","_law_goal_here","_law_stairs","_law_due"]:=let ⟨f,fd,a,F⟩:=d30;⟨f,fd,a,F,F.binds (ps:=["_law_house_here","_law_place","_law_goal_here","_law_stairs","_law_due"]) fun _ _ _ _ _ _ us hl=>match us,hl with | [_,_,_,_,_],_=>rfl⟩
 have D31:Dfn K mg "_law_lists_seen" jf ["_law_house_here","_law_place","_law_goal_here","_law_stairs","_law_room"]:=let ⟨f,fd,a,F⟩:=d31;⟨f,fd,a,F,F.binds (ps:=["_law_house_here","_law_place","_law_goal_here","_law_stairs","_law_room"]) fun _ _ _ _ _ _ us hl=>match us,hl with | [_,_,_,_,_],_=>rfl⟩
 have D32:Dfn K mg "_law_goal" kz ["_law_house_here","_law_stairs"]:=let ⟨f,fd,a,F⟩:=d32;⟨f,fd,a,F,F.binds (ps:=["_law_house_here","_law_stairs"]) fun _ _ _ _ _ _ us hl=>match us,hl with | [_,_],_=>rfl⟩
 have D33:Dfn K mg "_law_stairs_of" ke ["_law_marks_here","_law_base","_law_step"]:=let ⟨f,fd,a,F⟩:=d33;⟨f,fd,a,F,F.binds (ps:=["_law_marks_here","_law_base","_law_step"]) fun _ _ _ _ _ _ us hl=>match us,hl with | [_,_,_],_=>rfl⟩
 have D34:Dfn K mg "_law_marks" kJ ["_law_house_here","_law_base","_law_step","_law_starts"]:=let ⟨f,fd,a,F⟩:=d34;⟨f,fd,a,F,F.binds (ps:=["_law_house_here","_law_base","_law_step","_law_starts"]) fun _ _ _ _ _ _ us hl=>match us,hl with | [_,_,_,_],_=>rfl⟩
 have D35:Dfn K mg "_law_bounds_seen" i5 ["_law_house_here","_law_base","_law_step","_law_room"]:=let ⟨f,fd,a,F⟩:=d35;⟨f,fd,a,F,F.binds (ps:=["_law_house_here","_law_base","_law_step","_law_room"]) fun _ _ _ _ _ _ us hl=>match us,hl with | [_,_,_,_],_=>rfl⟩
 have D36:Dfn K mg "_law_mixed" ja ["_law_cell_here","_law_k","_law_prime"]:=let ⟨f,fd,a,F⟩:=d36;⟨f,fd,a,F,F.binds (ps:=["_law_cell_here","_law_k","_law_prime"]) fun _ _ _ _ _ _ us hl=>match us,hl with | [_,_,_],_=>rfl⟩
 have D37:Dfn K mg "_law_draws" ju ["_law_cell_here","_law_widths","_law_prime"]:=let ⟨f,fd,a,F⟩:=d37;⟨f,fd,a,F,F.binds (ps:=["_law_cell_here","_law_widths","_law_prime"]) fun _ _ _ _ _ _ us hl=>match us,hl with | [_,_,_],_=>rfl⟩
 have D38:Dfn K mg "_law_cell" j7 ["_law_script","_law_k"]:=let ⟨f,fd,a,F⟩:=d38;⟨f,fd,a,F,F.binds (ps:=["_law_script","_law_k"]) fun _ _ _ _ _ _ us hl=>match us,hl with | [_,_],_=>rfl⟩
 have D39:Dfn K mg "_law_unlike" kl ["_law_ways"]:=let ⟨f,fd,a,F⟩:=d39;⟨f,fd,a,F,F.binds (ps:=["_law_ways"]) fun _ _ _ _ _ _ us hl=>match us,hl with | [_],_=>rfl⟩
 have D40:Dfn K mg "_law_drawn_house" jr ["_law_cell_here","_law_prime"]:=let ⟨f,fd,a,F⟩:=d40;⟨f,fd,a,F,F.binds (ps:=["_law_cell_here","_law_prime"]) fun _ _ _ _ _ _ us hl=>match us,hl with | [_,_],_=>rfl⟩
 have D41:Dfn K mg "_law_gate_house" jx ["_law_cell_here","_law_prime"]:=let ⟨f,fd,a,F⟩:=d41;⟨f,fd,a,F,F.binds (ps:=["_law_cell_here","_law_prime"]) fun _ _ _ _ _ _ us hl=>match us,hl with | [_,_],_=>rfl⟩
 have D42:Dfn K mg "_law_ring_house" jh ["_law_cell_here","_law_prime"]:=let ⟨f,fd,a,F⟩:=d42;⟨f,fd,a,F,F.binds (ps:=["_law_cell_here","_law_prime"]) fun _ _ _ _ _ _ us hl=>match us,hl with | [_,_],_=>rfl⟩
 have D43:Dfn K mg "_law_spare" kI ["_law_cell_here","_law_width"]:=let ⟨f,fd,a,F⟩:=d43;⟨f,fd,a,F,F.binds (ps:=["_law_cell_here","_law_width"]) fun _ _ _ _ _ _ us hl=>match us,hl with | [_,_],_=>rfl⟩
 have D44:Dfn K mg "_law_house" ku ["_law_cell_here","_law_prime"]:=let ⟨f,fd,a,F⟩:=d44;⟨f,fd,a,F,F.binds (ps:=["_law_cell_here","_law_prime"]) fun _ _ _ _ _ _ us hl=>match us,hl with | [_,_],_=>rfl⟩
 refine⟨PySem.W.fnOf "law" "law" (fK er) (eQ er) (aJ er) .none kV45 dc45 pm45 an45 cd45 ct45,fun s v=>.of_eq rfl,fun base KB GB=>?_⟩
 have C0:=@zw l.prog w K mg base D0 T
 have C1:=@yg l.prog w K mg base D1 T
 have C2:=@yo l.prog w K mg base D2 T C1
 have C3:=@yr l.prog w K mg base D3 T ⟨_,PySem.W.mg_of X G x0,zF y0 w0⟩
 have C4:=@Ad l.prog w K mg base D4 T ⟨_,PySem.W.mg_of X G v0⟩ ⟨_,PySem.W.mg_of X G v1⟩
 have C5:=@vk l.prog w K mg base D5 T
 have C6:=@xK l.prog w K mg base D6 T C5
 have C7:=@xo l.prog w K mg base D7 T C6 C5
 have C8:=@xq l.prog w K mg base D8 T C7
 have C9:=@vd l.prog w K mg base D9 T C8
 have C10:=@Aj l.prog w K mg base D10 T C4 C9
 have C11:=@xB l.prog w K mg base D11 T C10
 have C12:=@yC l.prog w K mg base D12 T C0 C2 C3 C11
 have C13:=@wy l.prog w K mg base D13 T ⟨_,PySem.W.mg_of X G v0⟩ C2
 have C14:=@x9 l.prog w K mg base D14 T ⟨_,PySem.W.mg_of X G v0⟩ ⟨_,PySem.W.mg_of X G v1⟩ C8
 have C15:=@Bc l.prog w K mg base D15 T C13 C14
 have C16:=@Ax l.prog w K mg base D16 T
 have C17:=@Az l.prog w K mg base D17 T ⟨_,PySem.W.mg_of X G x1,vI y1 w1⟩
 have C18:=@AD l.prog w K mg base D18 T C5
 have C19:=@zu l.prog w K mg base D19 T C16 C17 C18
 have C20:=@xS l.prog w K mg base D20 T ⟨_,PySem.W.mg_of X G v2⟩ C19
 have C21:=@A5 l.prog w K mg base D21 T ⟨_,PySem.W.mg_of X G v3⟩ C20 C5
 have C22:=@zB l.prog w K mg base D22 T C12 C15 C21
 have C23:=@zq l.prog w K mg base D23 T C22
 have C24:=@zA l.prog w K mg base D24 T ⟨_,PySem.W.mg_of X G v4⟩ C5 C18
 have C25:=@Ai l.prog w K mg base D25 T C11 C24 C22
 have C26:=@vZ l.prog w K mg base D26 T C25 C22
 have C27:=@xa l.prog w K mg base D27 T
 have C28:=@y4 l.prog w K mg base D28 T
 have C29:=@zy l.prog w K mg base D29 T C28
 have C30:=@wX l.prog w K mg base D30 T C25 C22
 have C31:=@yG l.prog w K mg base D31 T C27 C29 C30
 have C32:=@wM l.prog w K mg base D32 T C28
 have C33:=@wK l.prog w K mg base D33 T
 have C34:=@Ab l.prog w K mg base D34 T
 have C35:=@wC l.prog w K mg base D35 T C25 C33 C34
 have C36:=@y6 l.prog w K mg base D36 T
 have C37:=@yR l.prog w K mg base D37 T C36
 have C38:=@Af l.prog w K mg base D38 T
 have C39:=@A3 l.prog w K mg base D39 T
 have C40:=@vA l.prog w K mg base D40 T C39 C37
 have C41:=@xR l.prog w K mg base D41 T C39 C37
 have C42:=@xx l.prog w K mg base D42 T C37
 have C43:=@zR l.prog w K mg base D43 T
 have C44:=@yj l.prog w K mg base D44 T C40 C41 C42 C43 C37
 exact Be (oO (st:=er) l45 c45 k45) T C23 C26 C31 C30 C32 C35 C33 C34 C37 C38 C44
theorem walk{l:PySem.W.OpenLaw}{q:Program}{loose:List Str}{XP:(Str->Option Value)->Heap->Prop}{YP:World->Heap->Prop}{d:DefRec}{K:Params->PySem.W.Frag}(hn:l.most=some 63)(hdf:d.params.defaults=[])
  (hY:∀(w:World) (h:Heap),YP w h->(K w.params).In h)
  (F:∀(w:World) (mg:Str->Option Value) (fa:Addr) (h:Heap),(K w.params).In h->h.Ns mainGlobals mg->mg d.name=some (.ref fa) →
   ∃fd:FuncData,(∀(s:Shared) (u:Value),BindsTo s fd ⟨[u],[]⟩ [("_law_script",u)])/\∀base:Heap,(K w.params).In base->base.Ns mainGlobals mg->FnOk l.prog w (K w.params) mg base eO 13 fa fd ["_law_script"] (iV (K w.params))) :
  PySem.W.WalkO q loose XP YP l.row.toRowW d [] (fun f vs=>PySem.call f vs):=
 L2.wk (n:=63) (k:=13) (x:="_law_script") (CX:=fun _=>eO) (sp:=fun w=>iV (K w.params)) hn (by decide) hdf ⟨rfl,by decide,by decide⟩ hY F (fun _ _ a ns hl _ hS=>⟨a,ns,rfl,hS,hl,fun _=>rfl⟩) fun _ _ _ _ _ z=>z
end My
end
open PySem PySem.W PyProof.Rows
set_option maxRecDepth 100000 in
set_option maxHeartbeats 0 in
theorem PySem.Challenge.cw_stairrooms_k36_never_conditions_holds : PySem.Challenge.rw_stairrooms_k36_never_conditions.Holds := by
 refine My.top ?_
 k_fill
 refine My.walk (l := PySem.Challenge.rw_stairrooms_k36_never_conditions) rfl rfl (fun w h Y => by first | exact PySem.W.kIn_of Y | exact PySem.W.km_in_of Y) ?F
 case F =>
  intro w mg fa h KX G hmg
  refine' My.all_mk KX G hmg (My.dq KX G ?a0 ?l0 ?c0 ?k0) (My.dq KX G ?a1 ?l1 ?c1 ?k1) (My.dq KX G ?a2 ?l2 ?c2 ?k2) (My.dq KX G ?a3 ?l3 ?c3 ?k3) (My.dq KX G ?a4 ?l4 ?c4 ?k4) (My.dq KX G ?a5 ?l5 ?c5 ?k5) (My.dq KX G ?a6 ?l6 ?c6 ?k6) (My.dq KX G ?a7 ?l7 ?c7 ?k7) (My.dq KX G ?a8 ?l8 ?c8 ?k8) (My.dq KX G ?a9 ?l9 ?c9 ?k9) (My.dq KX G ?a10 ?l10 ?c10 ?k10) (My.dq KX G ?a11 ?l11 ?c11 ?k11) (My.dq KX G ?a12 ?l12 ?c12 ?k12) (My.dq KX G ?a13 ?l13 ?c13 ?k13) (My.dq KX G ?a14 ?l14 ?c14 ?k14) (My.dq KX G ?a15 ?l15 ?c15 ?k15) (My.dq KX G ?a16 ?l16 ?c16 ?k16) (My.dq KX G ?a17 ?l17 ?c17 ?k17) (My.dq KX G ?a18 ?l18 ?c18 ?k18) (My.dq KX G ?a19 ?l19 ?c19 ?k19) (My.dq KX G ?a20 ?l20 ?c20 ?k20) (My.dq KX G ?a21 ?l21 ?c21 ?k21) (My.dq KX G ?a22 ?l22 ?c22 ?k22) (My.dq KX G ?a23 ?l23 ?c23 ?k23) (My.dq KX G ?a24 ?l24 ?c24 ?k24) (My.dq KX G ?a25 ?l25 ?c25 ?k25) (My.dq KX G ?a26 ?l26 ?c26 ?k26) (My.dq KX G ?a27 ?l27 ?c27 ?k27) (My.dq KX G ?a28 ?l28 ?c28 ?k28) (My.dq KX G ?a29 ?l29 ?c29 ?k29) (My.dq KX G ?a30 ?l30 ?c30 ?k30) (My.dq KX G ?a31 ?l31 ?c31 ?k31) (My.dq KX G ?a32 ?l32 ?c32 ?k32) (My.dq KX G ?a33 ?l33 ?c33 ?k33) (My.dq KX G ?a34 ?l34 ?c34 ?k34) (My.dq KX G ?a35 ?l35 ?c35 ?k35) (My.dq KX G ?a36 ?l36 ?c36 ?k36) (My.dq KX G ?a37 ?l37 ?c37 ?k37) (My.dq KX G ?a38 ?l38 ?c38 ?k38) (My.dq KX G ?a39 ?l39 ?c39 ?k39) (My.dq KX G ?a40 ?l40 ?c40 ?k40) (My.dq KX G ?a41 ?l41 ?c41 ?k41) (My.dq KX G ?a42 ?l42 ?c42 ?k42) (My.dq KX G ?a43 ?l43 ?c43 ?k43) (My.dq KX G ?a44 ?l44 ?c44 ?k44) ?a45 ?l45 ?c45 ?k45 ?z0 ?z1 ?z2 ?z3 ?z4 ?z5 ?z6 ?z7 ?z8 ?z9 ?z10 ?z11 ?z12 ?z13 ?z14 ?v0 ?v1 ?v2 ?v3 ?v4 ?x0 ?y0 ?w0 ?x1 ?y1 ?w1
  (case a0 => k_is); (case l0 => k_is); (case c0 => k_is); (case k0 => k_is)
  (case a1 => k_is); (case l1 => k_is); (case c1 => k_is); (case k1 => k_is)
  (case a2 => k_is); (case l2 => k_is); (case c2 => k_is); (case k2 => k_is)
  (case a3 => k_is); (case l3 => k_is); (case c3 => k_is); (case k3 => k_is)
  (case a4 => k_is); (case l4 => k_is); (case c4 => k_is); (case k4 => k_is)
  (case a5 => k_is); (case l5 => k_is); (case c5 => k_is); (case k5 => k_is)
  (case a6 => k_is); (case l6 => k_is); (case c6 => k_is); (case k6 => k_is)
  (case a7 => k_is); (case l7 => k_is); (case c7 => k_is); (case k7 => k_is)
  (case a8 => k_is); (case l8 => k_is); (case c8 => k_is); (case k8 => k_is)
  (case a9 => k_is); (case l9 => k_is); (case c9 => k_is); (case k9 => k_is)
  (case a10 => k_is); (case l10 => k_is); (case c10 => k_is); (case k10 => k_is)
  (case a11 => k_is); (case l11 => k_is); (case c11 => k_is); (case k11 => k_is)
  (case a12 => k_is); (case l12 => k_is); (case c12 => k_is); (case k12 => k_is)
  (case a13 => k_is); (case l13 => k_is); (case c13 => k_is); (case k13 => k_is)
  (case a14 => k_is); (case l14 => k_is); (case c14 => k_is); (case k14 => k_is)
  (case a15 => k_is); (case l15 => k_is); (case c15 => k_is); (case k15 => k_is)
  (case a16 => k_is); (case l16 => k_is); (case c16 => k_is); (case k16 => k_is)
  (case a17 => k_is); (case l17 => k_is); (case c17 => k_is); (case k17 => k_is)
  (case a18 => k_is); (case l18 => k_is); (case c18 => k_is); (case k18 => k_is)
  (case a19 => k_is); (case l19 => k_is); (case c19 => k_is); (case k19 => k_is)
  (case a20 => k_is); (case l20 => k_is); (case c20 => k_is); (case k20 => k_is)
  (case a21 => k_is); (case l21 => k_is); (case c21 => k_is); (case k21 => k_is)
  (case a22 => k_is); (case l22 => k_is); (case c22 => k_is); (case k22 => k_is)
  (case a23 => k_is); (case l23 => k_is); (case c23 => k_is); (case k23 => k_is)
  (case a24 => k_is); (case l24 => k_is); (case c24 => k_is); (case k24 => k_is)
  (case a25 => k_is); (case l25 => k_is); (case c25 => k_is); (case k25 => k_is)
  (case a26 => k_is); (case l26 => k_is); (case c26 => k_is); (case k26 => k_is)
  (case a27 => k_is); (case l27 => k_is); (case c27 => k_is); (case k27 => k_is)
  (case a28 => k_is); (case l28 => k_is); (case c28 => k_is); (case k28 => k_is)
  (case a29 => k_is); (case l29 => k_is); (case c29 => k_is); (case k29 => k_is)
  (case a30 => k_is); (case l30 => k_is); (case c30 => k_is); (case k30 => k_is)
  (case a31 => k_is); (case l31 => k_is); (case c31 => k_is); (case k31 => k_is)
  (case a32 => k_is); (case l32 => k_is); (case c32 => k_is); (case k32 => k_is)
  (case a33 => k_is); (case l33 => k_is); (case c33 => k_is); (case k33 => k_is)
  (case a34 => k_is); (case l34 => k_is); (case c34 => k_is); (case k34 => k_is)
  (case a35 => k_is); (case l35 => k_is); (case c35 => k_is); (case k35 => k_is)
  (case a36 => k_is); (case l36 => k_is); (case c36 => k_is); (case k36 => k_is)
  (case a37 => k_is); (case l37 => k_is); (case c37 => k_is); (case k37 => k_is)
  (case a38 => k_is); (case l38 => k_is); (case c38 => k_is); (case k38 => k_is)
  (case a39 => k_is); (case l39 => k_is); (case c39 => k_is); (case k39 => k_is)
  (case a40 => k_is); (case l40 => k_is); (case c40 => k_is); (case k40 => k_is)
  (case a41 => k_is); (case l41 => k_is); (case c41 => k_is); (case k41 => k_is)
  (case a42 => k_is); (case l42 => k_is); (case c42 => k_is); (case k42 => k_is)
  (case a43 => k_is); (case l43 => k_is); (case c43 => k_is); (case k43 => k_is)
  (case a44 => k_is); (case l44 => k_is); (case c44 => k_is); (case k44 => k_is)
  (case a45 => k_is); (case l45 => k_is); (case c45 => k_is); (case k45 => k_is)
  (case z0 => k_is)
  (case z1 => k_is)
  (case z2 => k_is)
  (case z3 => k_is)
  (case z4 => k_is)
  (case z5 => k_is)
  (case z6 => k_is)
  (case z7 => k_is)
  (case z8 => k_is)
  (case z9 => k_is)
  (case z10 => k_is)
  (case z11 => k_is)
  (case z12 => k_is)
  (case z13 => k_is)
  (case z14 => k_is)
  (case v0 => k_is)
  (case v1 => k_is)
  (case v2 => k_is)
  (case v3 => k_is)
  (case v4 => k_is)
  (case x0 => k_is); (case y0 => k_is); (case w0 => first | rfl | k_is)
  (case x1 => k_is); (case y1 => k_is); (case w1 => first | rfl | k_is)
