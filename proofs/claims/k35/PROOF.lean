import PyProof.Rows.All
import Wide.All
import OpenK.AllK
import Wide.FinOn
import Lean
import PyProof.EqAt
import PyProof.EqKinds
import PyProof.TupleCall
import KE.KLam
import PySem.Challenge.RW_stairrooms_k35_whole_closed_built
set_option Elab.async false
namespace PySem.W.Fast
theorem tw7269541056694436474:True:=trivial
theorem tw12770960736428261065:True:=trivial
theorem tw14753816215210520720:True:=trivial
theorem tw9478813727029378433:True:=trivial
theorem tw2786828017252582702:True:=trivial
theorem tw18043265839045047351:True:=trivial
theorem tw11258306804293243132:True:=trivial
theorem tw4545497819255724011:True:=trivial
theorem tw2028842024213040092:True:=trivial
theorem tw17367211499228228923:True:=trivial
theorem tw12323772569751236006:True:=trivial
theorem tw850187462625632381:True:=trivial
theorem tw14977234088687162302:True:=trivial
theorem tw10488480282212314105:True:=trivial
theorem tw6658185936689682968:True:=trivial
theorem tw10841842699899734311:True:=trivial
theorem tw10500720501580190231:True:=trivial
theorem tw17415715754555401154:True:=trivial
theorem tw119674054762100072:True:=trivial
theorem tw5096499008420852698:True:=trivial
theorem tw3501889831259424984:True:=trivial
theorem tw14429984225472846677:True:=trivial
theorem tw11985937269989024962:True:=trivial
theorem tw14324394720252608761:True:=trivial
theorem tw11892039915525360660:True:=trivial
theorem tw7176572640101177836:True:=trivial
theorem tw447717403241242290:True:=trivial
theorem tw15415030129712708594:True:=trivial
theorem tw512557566824241540:True:=trivial
theorem tw17438179399263098937:True:=trivial
theorem tw16669810761675009345:True:=trivial
theorem tw12249993202121903794:True:=trivial
theorem tw6181847661251503008:True:=trivial
theorem tw16821967185522334815:True:=trivial
theorem tw3268437569422444630:True:=trivial
theorem tw6178244272827954729:True:=trivial
theorem tw15529604674929473973:True:=trivial
theorem tw12664327836493813462:True:=trivial
theorem tw16507177298177948937:True:=trivial
theorem tw15641575440650329080:True:=trivial
theorem tw1057306937073154610:True:=trivial
theorem tw3121732170634265723:True:=trivial
theorem tw2904058922640873309:True:=trivial
theorem tw9749810874003056045:True:=trivial
theorem tw8487562230406468105:True:=trivial
theorem tw5956051100702781606:True:=trivial
theorem tw14292392306617517729:True:=trivial
theorem tw18066811921283522515:True:=trivial
theorem tw17831088686795452451:True:=trivial
theorem tw15438610589593914328:True:=trivial
theorem tw4074507585887532813:True:=trivial
theorem tw15924826414491783191:True:=trivial
theorem tw14025392896863203041:True:=trivial
theorem tw13820470126673855253:True:=trivial
theorem tw13021086612755893400:True:=trivial
theorem tw4855646995411632120:True:=trivial
theorem tw17744632191838401134:True:=trivial
theorem tw14849095896601040367:True:=trivial
theorem tw11030641428109492703:True:=trivial
theorem tw5442971307982108685:True:=trivial
theorem tw5010354932100547165:True:=trivial
theorem tw4307926830116509514:True:=trivial
theorem tw17843839365795533554:True:=trivial
theorem tw17581992280946622230:True:=trivial
theorem tw16964212798373946863:True:=trivial
theorem tw16826725409987885975:True:=trivial
theorem tw16245695487900975421:True:=trivial
theorem tw15729792075999087868:True:=trivial
theorem tw15186367229040268510:True:=trivial
theorem tw12993445975515111361:True:=trivial
theorem tw9590536906216307355:True:=trivial
theorem tw8035931760809384120:True:=trivial
theorem tw14585778381282314952:True:=trivial
theorem tw14397947794671477899:True:=trivial
theorem tw11787554532782738252:True:=trivial
theorem tw10118012357411222232:True:=trivial
theorem tw7848866751621661257:True:=trivial
theorem tw7341270039093922885:True:=trivial
theorem tw7134983793405793177:True:=trivial
theorem tw7115244209674446852:True:=trivial
theorem tw6714801024506940561:True:=trivial
theorem tw5994711959094706394:True:=trivial
theorem tw590611807225418770:True:=trivial
theorem tw5140171473248983199:True:=trivial
theorem tw4817981600543833687:True:=trivial
theorem tw4769826392853288355:True:=trivial
theorem tw17357414001117552268:True:=trivial
theorem tw17218974888202052536:True:=trivial
theorem tw16632375998614247822:True:=trivial
theorem tw1488503510874697304:True:=trivial
theorem tw14775263502782431712:True:=trivial
theorem tw14670137783204244808:True:=trivial
theorem tw14650229311272632197:True:=trivial
theorem tw14221475358252599964:True:=trivial
theorem tw13135487405686255751:True:=trivial
theorem tw12296552071639831032:True:=trivial
theorem tw11339562753883754242:True:=trivial
theorem tw1069010634818593453:True:=trivial
theorem tw10095913671755900038:True:=trivial
theorem tw9930359092145622687:True:=trivial
theorem tw684117499851941213:True:=trivial
theorem tw5425565988235752197:True:=trivial
theorem tw5350998768358884751:True:=trivial
theorem tw5019332986140449700:True:=trivial
theorem tw1921160878016633958:True:=trivial
theorem tw18127141830633905074:True:=trivial
theorem tw17843169823834903998:True:=trivial
theorem tw16221219022901355867:True:=trivial
theorem tw14415884991196681418:True:=trivial
theorem tw13679643304169797691:True:=trivial
theorem tw11701492411309977178:True:=trivial
theorem tw11551815002882820457:True:=trivial
theorem tw11282886037220131173:True:=trivial
theorem tw9119751986894142981:True:=trivial
theorem tw8568187914498332850:True:=trivial
theorem tw800831887125934919:True:=trivial
theorem tw720755081136891062:True:=trivial
theorem tw7175792842613744815:True:=trivial
theorem tw4801039527111802282:True:=trivial
theorem tw343839832772155065:True:=trivial
theorem tw3104486758596841148:True:=trivial
theorem tw2419298105991278453:True:=trivial
theorem tw18101583386606535240:True:=trivial
theorem tw16843462989757039891:True:=trivial
theorem tw16408023001231065620:True:=trivial
theorem tw15291515778787918541:True:=trivial
theorem tw1492062709326496596:True:=trivial
theorem tw14905269560852764671:True:=trivial
theorem tw11198388801270196117:True:=trivial
theorem tw5581349078452510653:True:=trivial
theorem tw3258786278723069861:True:=trivial
theorem tw2355404199824840798:True:=trivial
theorem tw17065142239566038489:True:=trivial
theorem tw16743919102785911483:True:=trivial
theorem tw13809386149585982481:True:=trivial
theorem tw12261729195969336472:True:=trivial
theorem tw11860059332995364445:True:=trivial
theorem tw10017577030591726147:True:=trivial
theorem tw974001917477778970:True:=trivial
theorem tw931510637493425866:True:=trivial
theorem tw9281662355237421915:True:=trivial
theorem tw9254883793231693245:True:=trivial
theorem tw9243865081244972751:True:=trivial
theorem tw902582806634263858:True:=trivial
theorem tw9002392303285804385:True:=trivial
theorem tw8783073200307453229:True:=trivial
theorem tw8143298780573084396:True:=trivial
theorem tw8039774922555296384:True:=trivial
theorem tw7875707854763748492:True:=trivial
theorem tw7863108119856694670:True:=trivial
theorem tw7693350481814642131:True:=trivial
theorem tw762384175361060421:True:=trivial
theorem tw6252878086273825581:True:=trivial
theorem tw6008010531490865865:True:=trivial
theorem tw5190860397250508396:True:=trivial
theorem tw4869967250276580588:True:=trivial
theorem tw4169430970946328830:True:=trivial
theorem tw3941131271490555836:True:=trivial
theorem tw3866599564448483793:True:=trivial
theorem tw3711776433476670718:True:=trivial
theorem tw3017139974649574989:True:=trivial
theorem tw3015604971527890583:True:=trivial
theorem tw2448602276733661166:True:=trivial
theorem tw1980078614172103820:True:=trivial
theorem tw1901317781093569649:True:=trivial
theorem tw18334927389422029420:True:=trivial
theorem tw18207201711260066481:True:=trivial
theorem tw18038851775406917655:True:=trivial
theorem tw17994301212061070119:True:=trivial
theorem tw17925923492730016652:True:=trivial
theorem tw17729564300890611173:True:=trivial
theorem tw17076493798685594974:True:=trivial
theorem tw16980547499210933930:True:=trivial
theorem tw16840622159041910090:True:=trivial
theorem tw1682181479755940848:True:=trivial
theorem tw16575673167688372683:True:=trivial
theorem tw16477329177891185698:True:=trivial
theorem tw1637453852661378490:True:=trivial
theorem tw16180315334032665911:True:=trivial
theorem tw1612923964453859806:True:=trivial
theorem tw15142431143280010732:True:=trivial
theorem tw1488474676173749703:True:=trivial
theorem tw14832175709080873599:True:=trivial
theorem tw14800109303040266240:True:=trivial
theorem tw14793259975867257014:True:=trivial
theorem tw14774234679712429206:True:=trivial
theorem tw14322595565739780087:True:=trivial
theorem tw13817142068744991791:True:=trivial
theorem tw13769731409856085057:True:=trivial
theorem tw13732165248360646341:True:=trivial
theorem tw13587432420489492189:True:=trivial
theorem tw12679859039530741841:True:=trivial
theorem tw12357872333080808881:True:=trivial
theorem tw11971130579796114034:True:=trivial
theorem tw11362101791794971524:True:=trivial
theorem tw11166862733661299840:True:=trivial
theorem tw11137535781475439334:True:=trivial
theorem tw10785498421680218836:True:=trivial
theorem tw1073818698688927204:True:=trivial
theorem tw10424792985553544811:True:=trivial
theorem tw10121643642846045468:True:=trivial
theorem tw9602979466950630956:True:=trivial
theorem tw912290570786946579:True:=trivial
theorem tw8777541643666118068:True:=trivial
theorem tw8572175281459272771:True:=trivial
theorem tw8125407811402774585:True:=trivial
theorem tw684210181549580303:True:=trivial
theorem tw6744984778823417519:True:=trivial
theorem tw621812022307901172:True:=trivial
theorem tw5920227957080817638:True:=trivial
theorem tw3612554134655720397:True:=trivial
theorem tw3566807236516140644:True:=trivial
theorem tw3415376743198261602:True:=trivial
theorem tw2093290091728733057:True:=trivial
theorem tw193794278739742225:True:=trivial
theorem tw18032779900021213040:True:=trivial
theorem tw17795394019121955329:True:=trivial
theorem tw17716863462265859512:True:=trivial
theorem tw16661212229125270991:True:=trivial
theorem tw16219145617115034907:True:=trivial
theorem tw13746588304753895505:True:=trivial
theorem tw9878173891806150429:True:=trivial
theorem tw9816307224394526710:True:=trivial
theorem tw9591621326534694922:True:=trivial
theorem tw9248597171148506525:True:=trivial
theorem tw8722415481117505015:True:=trivial
theorem tw8604979696160575008:True:=trivial
theorem tw8444893750286939596:True:=trivial
theorem tw8184033042858750843:True:=trivial
theorem tw8147721191793257292:True:=trivial
theorem tw8037652997034423971:True:=trivial
theorem tw7904445426397662059:True:=trivial
theorem tw7897135418779063302:True:=trivial
theorem tw7750769465160294860:True:=trivial
theorem tw7627118995241731642:True:=trivial
theorem tw7259079589770855615:True:=trivial
theorem tw6942357351460751399:True:=trivial
theorem tw6704578965310311189:True:=trivial
theorem tw6429728187070590260:True:=trivial
theorem tw6393150591798677637:True:=trivial
theorem tw6350474685870504171:True:=trivial
theorem tw6158425238486604569:True:=trivial
theorem tw5861546300858528307:True:=trivial
theorem tw5821001088122574322:True:=trivial
theorem tw5717963241065829162:True:=trivial
theorem tw5430882940802126740:True:=trivial
theorem tw4933930183700603765:True:=trivial
theorem tw4566636315000093172:True:=trivial
theorem tw456031100195234908:True:=trivial
theorem tw4530914875774024943:True:=trivial
theorem tw4337561567144917162:True:=trivial
theorem tw4138905410403352593:True:=trivial
theorem tw3855077825024126993:True:=trivial
theorem tw3760063030202703356:True:=trivial
theorem tw3182821167057557991:True:=trivial
theorem tw3008007984704827758:True:=trivial
theorem tw2696157109874119690:True:=trivial
theorem tw2520694231678862498:True:=trivial
theorem tw2248526150547823735:True:=trivial
theorem tw2217001567337907910:True:=trivial
theorem tw2045930578084102194:True:=trivial
theorem tw2020109458520273824:True:=trivial
theorem tw1856151083423349262:True:=trivial
theorem tw1847224927995124329:True:=trivial
theorem tw18324572440802094995:True:=trivial
theorem tw1818218476948158209:True:=trivial
theorem tw18159918767601648018:True:=trivial
theorem tw17694846207451314135:True:=trivial
theorem tw17645572048654386869:True:=trivial
theorem tw17628590533929976792:True:=trivial
theorem tw17571631200592639834:True:=trivial
theorem tw1754243070517289278:True:=trivial
theorem tw17405045028177135956:True:=trivial
theorem tw17002439396945247550:True:=trivial
theorem tw16988158499489311127:True:=trivial
theorem tw16924412733494049589:True:=trivial
theorem tw1691102865124860179:True:=trivial
theorem tw16291882091215157828:True:=trivial
theorem tw16283258727396688951:True:=trivial
theorem tw16164986634524919498:True:=trivial
theorem tw1584613233581267300:True:=trivial
theorem tw156604256827902990:True:=trivial
theorem tw15565656631415577005:True:=trivial
theorem tw15414259988211055499:True:=trivial
theorem tw15319796435752655959:True:=trivial
theorem tw15003257448840769609:True:=trivial
theorem tw1428814744893504695:True:=trivial
theorem tw13841191037290658594:True:=trivial
theorem tw1382559312744143635:True:=trivial
theorem tw13814131451427507189:True:=trivial
theorem tw13788262537284159298:True:=trivial
theorem tw13385619842731796546:True:=trivial
theorem tw1304240117979556626:True:=trivial
theorem tw12996499756298277263:True:=trivial
theorem tw11858878876565515630:True:=trivial
theorem tw11801650391622900179:True:=trivial
theorem tw11788803944947964044:True:=trivial
theorem tw11687504721054253588:True:=trivial
theorem tw11665305186481523908:True:=trivial
theorem tw11655376856063916228:True:=trivial
theorem tw11646202046503260017:True:=trivial
theorem tw11612187849094769778:True:=trivial
theorem tw11605670760853518920:True:=trivial
theorem tw11365700717142005424:True:=trivial
theorem tw11029396596865941829:True:=trivial
theorem tw10769681086646498438:True:=trivial
theorem tw10698238366409207256:True:=trivial
theorem tw10276969695076772373:True:=trivial
theorem tw10263077061500514125:True:=trivial
theorem tw10154314827766144001:True:=trivial
end PySem.W.Fast
section
open PySem PySem.W PyProof.Rows
set_option maxRecDepth 100000 in
set_option maxHeartbeats 0 in
open_top My.top for PySem.Challenge.rw_stairrooms_k35_whole_closed_built
end
noncomputable section
set_option linter.all false
set_option maxRecDepth 100000
namespace L2
open PySem PySem.Spec PyProof.Rows
abbrev Key:=Sum Int Str
def eR:Key->Value->Bool
 | .inl k,v=>Value.isInt k v
 | .inr x,v=>Value.isStrOf x v
def xw(w:World):Key->Int
 | .inl k=>hashInt k
 | .inr x=>hashStr w x
theorem dI:∀{k:Key} {v:Value},eR k v=true->(∃i t,k=Sum.inl i/\v=Value.int i t)\/(∃x t,k=Sum.inr x/\v=Value.str x t)
 | .inl i,v,h=>by
  obtain⟨t,e⟩:=Value.isInt_shape (k:=i) (v:=v) h
  exact .inl ⟨i,t,rfl,e⟩
 | .inr x,v,h=>by
  obtain⟨t,e⟩:=Value.isStrOf_shape (x:=x) (v:=v) h
  exact .inr ⟨x,t,rfl,e⟩
theorem zm(i:Int)(t:Tok):eR (.inl i) (.int i t)=true:=by simp[eR,Value.isInt]
theorem Aw(x:Str)(t:Tok):eR (.inr x) (.str x t)=true:=by simp[eR,Value.isStrOf]
theorem wV(a b:Int):decide ((Sum.inl a:Key)=Sum.inl b)=(a == b):=by
 by_cases e:a=b
 ·subst e;simp
 ·have h:¬(Sum.inl a:Key)=Sum.inl b:=fun q=>e (Sum.inl.inj q)
  rw[decide_eq_false h]
  exact(beq_eq_false_iff_ne.mpr e).symm
theorem yo(a b:Str):decide ((Sum.inr a:Key)=Sum.inr b)=decide (a=b):=by
 by_cases e:a=b
 ·subst e;simp
 ·have h:¬(Sum.inr a:Key)=Sum.inr b:=fun q=>e (Sum.inr.inj q)
  rw[decide_eq_false h,decide_eq_false e]
theorem zq(a:Int)(b:Str):decide ((Sum.inl a:Key)=Sum.inr b)=false:=decide_eq_false (fun q=>nomatch q)
theorem xJ(a:Str)(b:Int):decide ((Sum.inr a:Key)=Sum.inl b)=false:=decide_eq_false (fun q=>nomatch q)
def aK(prog:Program)(w:World):PySem.KeyKind prog w Key where
 is:=eR
 hash:=xw w
 inj:=fun v a b ha hb=>by
  rcases dI ha with⟨i,t,rfl,rfl⟩ | ⟨x,t,rfl,rfl⟩
  ·rcases dI hb with⟨j,u,rfl,e⟩ | ⟨y,u,rfl,e⟩
   ·injection e with e1 _;rw[e1]
   ·exact nomatch e
  ·rcases dI hb with⟨j,u,rfl,e⟩ | ⟨y,u,rfl,e⟩
   ·exact nomatch e
   ·injection e with e1 _;rw[e1]
 byValue:=fun k v h=>by
  rcases dI h with⟨i,t,rfl,rfl⟩ | ⟨x,t,rfl,rfl⟩<;>rfl
 pyHash:=fun hv h=>by
  rcases dI hv with⟨i,t,rfl,rfl⟩ | ⟨x,t,rfl,rfl⟩
  ·exact wpAny_pyHash_int h
  ·exact wpAny_pyHash_str h
 eqBool:=fun hu hv h=>by
  rcases dI hu with⟨i,t,rfl,rfl⟩ | ⟨x,t,rfl,rfl⟩
  ·rcases dI hv with⟨j,u,rfl,rfl⟩ | ⟨y,u,rfl,rfl⟩
   ·rw[wV]at h;exact wpAny_eqBool_int h
   ·rw[zq]at h;exact SeqAt.EqAt.int_str i t y u _ _ _ _ h
  ·rcases dI hv with⟨j,u,rfl,rfl⟩ | ⟨y,u,rfl,rfl⟩
   ·rw[xJ]at h;exact SeqAt.EqAt.str_int x t j u _ _ _ _ h
   ·rw[yo]at h;exact wpAny_eqBool_str h
 «strs»:=fun k x t v h=>by
  rcases dI h with⟨i,u,rfl,e⟩ | ⟨y,u,rfl,e⟩
  ·exact nomatch e
  ·injection e with e1 _
   subst e1
   cases v<;>rfl
theorem y6(prog:Program)(w:World)(i:Int)(t:Tok):(aK prog w).is (.inl i) (.int i t)=true:=zm i t
theorem lO(prog:Program)(w:World)(x:Str)(t:Tok):(aK prog w).is (.inr x) (.str x t)=true:=Aw x t
end L2
namespace L2
open PySem PySem.Spec PyProof.Rows
inductive V where
 | non | bl (b:Bool) | int (i:Int) | str (x:Str) | byt (b:Array UInt8) | flt (b:UInt64) | ref (a:Addr) | ty (n:String)
 deriving DecidableEq
def RelV:V->Value->Prop
 | .non,u=>u=Value.none
 | .bl b,u=>u=Value.bool b
 | .int i,u=>∃t,u=Value.int i t
 | .str x,u=>∃t,u=Value.str x t
 | .byt b,u=>∃t,u=Value.bytes b t
 | .flt b,u=>∃t,u=Value.float b t
 | .ref a,u=>u=Value.ref a
 | .ty n,u=>u=Value.type n
abbrev Vals:List V->List Value->Prop:=Paired RelV
theorem Vals.length{xs:List V}{us:List Value}(r:Vals xs us):xs.length=us.length:=Paired.length r
theorem Vals.get:∀{xs:List V} {us:List Value} {i:Nat} {x:V},Vals xs us->xs[i]?=some x->∃u,us[i]?=some u/\RelV x u
 | _,_,_,_,.nil,e=>by simp at e
 | _,_,0,_,.cons r _,e=>by simp at e;subst e;exact⟨_,rfl,r⟩
 | _,_,i+1,x,.cons _ t,e=>by
  obtain⟨u,h1,h2⟩:=Vals.get (i:=i) (x:=x) t (by simpa using e)
  exact⟨u,by simpa using h1,h2⟩
theorem Vals.set{x:V}{u:Value}(r:RelV x u):∀{xs:List V} {us:List Value} (i:Nat),Vals xs us->Vals (xs.set i x) (us.set i u)
 | _,_,_,.nil=>.nil
 | _,_,0,.cons _ t=>.cons r t
 | _,_,i+1,.cons q t=>.cons q (Vals.set r i t)
theorem Vals.append:∀{xs ys:List V} {us ws:List Value},Vals xs us->Vals ys ws->Vals (xs++ys) (us++ws)
 | _,_,_,_,.nil,s=>s
 | _,_,_,_,.cons r t,s=>.cons r (Vals.append t s)
theorem Vals.take:∀{xs:List V} {us:List Value} (n:Nat),Vals xs us->Vals (xs.take n) (us.take n)
 | _,_,0,_=>.nil
 | _,_,_+1,.nil=>.nil
 | _,_,n+1,.cons r t=>.cons r (Vals.take n t)
theorem Vals.drop:∀{xs:List V} {us:List Value} (n:Nat),Vals xs us->Vals (xs.drop n) (us.drop n)
 | _,_,0,r=>r
 | _,_,_+1,.nil=>.nil
 | _,_,n+1,.cons _ t=>Vals.drop n t
def ec:Option V->Option Value->Prop
 | some v,some u=>RelV v u
 | none,none=>True
 | _,_=>False
def KV{κ:Type}:List (κ×V)->List (κ×Value)->Prop:=Paired fun(p:κ×V) (q:κ×Value)=>p.1=q.1/\RelV p.2 q.2
def kV:Key->V
 | .inl i=>.int i
 | .inr x=>.str x
inductive HO where
 /-- a list -/
 | lst (xs:List V)
 /-- a tuple (never changes) -/
 | tup (xs:List V)
 /-- a dict whose keys are ints and texts;one whose keys are tuples of ints and texts (the empty one is both) -/
 | dK (kvs:List (Key×V)) | dT (kvs:List (List Key×V))
 /-- a set of ints: its members,its size -/
 | set (S:Int->Bool) (n:Nat)
 /-- an instance of the class at C,its dict at dx,its attributes -/
 | ins (C dx:Addr) (fs:List (Str×V))
 /-- the dict of the instance at x -/
 | own (x:Addr)
 /-- the dict of an exception -/
 | xd (fs:List (Str×V))
 /-- a bound method,f of x -/
 | met (f x:Addr)
 /-- a range object lo,lo+1,.. below hi -/
 | rng (lo hi:Int)
 /-- a thing that is known to the object (the script;a dict while a loop walks it): read,never written while it is so -/
 | frz (o:Obj) (u:HO)
 /-- a code object's table -/
 | tbl (ps:Array Value)
 /-- any other thing,by what is true of its one object (a def of one's own: j8 a S n:=HO.ext fun h=>..) -/
 | ext (φ:Heap->Prop)
abbrev Hp:=Addr->Option HO
def upd(H:Hp)(a:Addr)(o:HO):Hp:=fun b=>if b=a then some o else H b
theorem aO{H:Hp}{a:Addr}{o:HO}:upd H a o a=some o:=by unfold upd;rw[if_pos rfl]
theorem aL{H:Hp}{a b:Addr}{o:HO}(h:b≠a):upd H a o b=H b:=by unfold upd;rw[if_neg h]
theorem eu{H:Hp}{a b:Addr}{o u:HO}(h:H a=some o)(h':H b=some u)(d:o≠u):a≠b:=by
 intro e;subst e;rw[h]at h';exact d (Option.some.inj h')
theorem cS{H:Hp}{a b:Addr}{o:HO}(h:H a=some o)(h':H b=none):a≠b:=by
 intro e;subst e;rw[h]at h';cases h'
section
variable (P:Program) (w:World)
def bH(H:Hp)(h:Heap)(a:Addr):HO->Prop
 | .lst xs=>xs.length<=sizeLine/\∃(its:List Value) (n:Nat),Vals xs its/\h.get? a=some { cls:=.type "list",data:=.seq its.toArray n }
 | .tup xs=>xs.length<=sizeLine/\∃its:List Value,Vals xs its/\IsTup h a its.toArray
 | .dK kvs=>kvs.length<=sizeLine/\(a == sysModules)=false/\∃vs,KV kvs vs/\h.DictOf (aK P w) a vs
 | .dT kvs=>kvs.length<=sizeLine/\(a == sysModules)=false/\∃xs:List (List Key×Addr×Value),
   Paired (fun(p:List Key×V) (q:List Key×Addr×Value)=>p.1=q.1/\H q.2.1=some (.tup (p.1.map kV))/\RelV p.2 q.2.2) kvs xs ∧
   ∃o es ep,h.get? a=some o/\o.ExactDict/\o.data=.dict es ep/\es.toList=xs.map (entryOfKey (tupleKind (aK P w)))/\(xs.map (·.1)).Nodup
 | .set S n=>h.SetOf (intKind P w) a S n
 | .ins C dx fs=>H dx=some (.own a)/\fs.length<=1000/\dx≠a/\h.get? a=some (PySem.W.instObj C dx) ∧
   ∃mA,h.Ns1 dx mA/\(∀f,ec (fs.lookup f) (mA f))/\PySem.Within mA (fs.map (·.1))
 | .own _=>∃o,h.get? a=some o
 | .xd fs=>∃mA,h.Ns1 a mA/\∀f,ec (fs.lookup f) (mA f)
 | .rng lo hi=>∃t u v,h.get? a=some { cls:=.type "range",data:=.fields #[.int lo t,.int hi u,.int 1 v] }
 | .frz o u=>h.get? a=some o/\bH H h a u
 | .tbl ps=>h.get? a=some { cls:=.none,data:=.fields ps }
 | .met f x=>h.get? a=some (PySem.W.methodObj (.ref f) (.ref x))
 | .ext φ=>φ h/\(∃o,h.get? a=some o)/\∀h1 h2:Heap,φ h1->(∀o,h1.get? a=some o->h2.get? a=some o)->φ h2
def bq(H:Hp)(h:Heap):Prop:=∀a o,H a=some o->bH P w H h a o
end
section
variable {P:Program} {w:World} {H H':Hp} {h h':Heap} {a:Addr} {o:HO}
theorem bH.lt(x:bH P w H h a o):a<h.objs.size:=by
 cases o with
 | lst xs=>obtain⟨_,_,_,_,e⟩:=x;exact Heap.lt_size e
 | tup xs=>obtain⟨_,_,_,p⟩:=x;exact p.lt
 | dK kvs=>obtain⟨_,_,_,_,o,_,_,e,_⟩:=x;exact Heap.lt_size e
 | dT kvs=>obtain⟨_,_,_,_,o,_,_,e,_⟩:=x;exact Heap.lt_size e
 | set S n=>obtain⟨o,_,_,_,e,_⟩:=x;exact Heap.lt_size e
 | ins C dx fs=>obtain⟨_,_,_,e,_⟩:=x;exact Heap.lt_size e
 | own y=>obtain⟨_,e⟩:=x;exact Heap.lt_size e
 | xd fs=>obtain⟨_,⟨_,_,_,e,_⟩,_⟩:=x;exact Heap.lt_size e
 | rng lo hi=>obtain⟨_,_,_,e⟩:=x;exact Heap.lt_size e
 | frz ob u=>obtain⟨e,_⟩:=x;exact Heap.lt_size e
 | tbl ps=>exact Heap.lt_size (show h.get? a=some _ from x)
 | met f y=>exact Heap.lt_size (show h.get? a=some _ from x)
 | ext φ=>obtain⟨_,⟨_,e⟩,_⟩:=x;exact Heap.lt_size e
theorem Paired.mapP{α β:Type}{F G:α->β->Prop}:∀{l₁:List α} {l₂:List β},Paired F l₁ l₂->(∀a b,F a b->G a b)->Paired G l₁ l₂
 | _,_,.nil,_=>.nil
 | _,_,.cons r t,f=>.cons (f _ _ r) (Paired.mapP t f)
theorem Paired.imp'{α β:Type}{F G:α->β->Prop}(f:∀a b,F a b->G a b){l₁:List α}{l₂:List β}(r:Paired F l₁ l₂):Paired G l₁ l₂:=Paired.mapP r f
theorem bH.stay(x:bH P w H h a o)(k:∀b u,(b=a\/H b=some (.own a))->h.get? b=some u->h'.get? b=some u)
  (ho:∀b,H b=some (.own a)->H' b=some (.own a)) (ht:∀b xs,H b=some (.tup xs)->H' b=some (.tup xs)):bH P w H' h' a o:=by
 induction o with
 | lst xs=>obtain⟨z,its,n,r,e⟩:=x;exact⟨z,its,n,r,k _ _ (.inl rfl) e⟩
 | tup xs=>obtain⟨z,its,r,ob,e,c⟩:=x;exact⟨z,its,r,ob,k _ _ (.inl rfl) e,c⟩
 | dK kvs=>obtain⟨z,y,vs,r,ob,es,ep,e,c⟩:=x;exact⟨z,y,vs,r,ob,es,ep,k _ _ (.inl rfl) e,c⟩
 | dT kvs=>
  obtain⟨z,y,xs,r,ob,es,ep,e,c⟩:=x
  exact⟨z,y,xs,Paired.mapP r fun p q z=>⟨z.1,ht _ _ z.2.1,z.2.2⟩,ob,es,ep,k _ _ (.inl rfl) e,c⟩
 | set S n=>obtain⟨ob,es,ep,t,e,c⟩:=x;exact⟨ob,es,ep,t,k _ _ (.inl rfl) e,c⟩
 | ins C dx fs=>
  obtain⟨d,z,ne,e,mA,⟨od,es,ep,e2,c⟩,r⟩:=x
  exact⟨ho _ d,z,ne,k _ _ (.inl rfl) e,mA,⟨od,es,ep,k _ _ (.inr d) e2,c⟩,r⟩
 | own y=>obtain⟨ob,e⟩:=x;exact⟨ob,k _ _ (.inl rfl) e⟩
 | xd fs=>obtain⟨mA,⟨od,es,ep,e,c⟩,r⟩:=x;exact⟨mA,⟨od,es,ep,k _ _ (.inl rfl) e,c⟩,r⟩
 | rng lo hi=>obtain⟨t,u,v,e⟩:=x;exact⟨t,u,v,k _ _ (.inl rfl) e⟩
 | frz ob u ih=>obtain⟨e,q⟩:=x;exact⟨k _ _ (.inl rfl) e,ih q⟩
 | tbl ps=>
  have e:h.get? a=some { cls:=.none,data:=.fields ps }:=x
  show h'.get? a=some { cls:=.none,data:=.fields ps }
  exact k a _ (.inl rfl) e
 | met f y=>
  have e:h.get? a=some (PySem.W.methodObj (.ref f) (.ref y)):=x
  show h'.get? a=some (PySem.W.methodObj (.ref f) (.ref y))
  exact k a _ (.inl rfl) e
 | ext φ=>obtain⟨p,⟨o,e⟩,st⟩:=x;exact⟨st _ _ p fun o q=>k _ _ (.inl rfl) q,⟨o,k _ _ (.inl rfl) e⟩,st⟩
theorem bq.lt(x:bq P w H h)(e:H a=some o):a<h.objs.size:=(x a o e).lt
theorem bq.fresh(x:bq P w H h)(e:h.objs.size<=a):H a=none:=by
 cases q:H a with
 | none=>rfl
 | some u=>exact absurd (Nat.lt_of_lt_of_le (x.lt q) e) (Nat.lt_irrefl _)
theorem bq.kept(x:bq P w H h)(k:∀b u,h.get? b=some u->h'.get? b=some u):bq P w H h':=fun a o e=>
 (x a o e).stay (fun b u _ q=>k b u q) (fun _ q=>q) fun _ _ q=>q
theorem bq.laid(x:bq P w H h)(k:∀b u,h.get? b=some u->h'.get? b=some u)(hp:h.objs.size<=a)(new:bH P w (upd H a o) h' a o):bq P w (upd H a o) h':=fun b u e=>by
 have hn:=x.fresh hp
 by_cases hb:b=a
 ·subst hb;rw[aO]at e;cases e;exact new
 ·rw[aL hb]at e
  exact(x b u e).stay (fun c v _ q=>k c v q) (fun c q=>by rw[aL (cS q hn)];exact q) fun c xs q=>by rw[aL (cS q hn)];exact q
end
def Rd(H:Hp)(a:Addr)(u:HO):Prop:=H a=some u\/∃o,H a=some (.frz o u)
theorem Rd.ok{P:Program}{w:World}{H:Hp}{h:Heap}{a:Addr}{u:HO}(r:Rd H a u)(x:bq P w H h):bH P w H h a u:=by
 rcases r with r | ⟨o,r⟩
 ·exact x a u r
 ·obtain⟨_,q⟩:=x a _ r
  exact q
def iz:Option HO->Prop
 | some (.lst _)=>True
 | some (.dK _)=>True
 | some (.dT _)=>True
 | some (.set _ _)=>True
 | some (.ins _ _ _)=>True
 | some (.ext _)=>True
 | _=>False
section
variable {P:Program} {w:World} {H:Hp} {h h':Heap} {x e:Addr} {o':HO}
theorem bq.write(ok:bq P w H h)(mu:iz (H x))(he:e=x\/H e=some (.own x))(k:∀b u,b≠e->h.get? b=some u->h'.get? b=some u)(heo:∃u,h'.get? e=some u)
  (new:bH P w (upd H x o') h' x o'):bq P w (upd H x o') h':=fun b u q=>by
 have nown:∀c y,H c=some (.own y)->c≠x:=fun c y r z=>by subst z;rw[r]at mu;exact mu
 have ntup:∀c xs,H c=some (.tup xs)->c≠x:=fun c xs r z=>by subst z;rw[r]at mu;exact mu
 by_cases hb:b=x
 ·subst hb;rw[aO]at q;cases q;exact new
 ·rw[aL hb]at q
  by_cases hbe:b=e
  ·have q':H b=some (.own x):=by
    rcases he with z | z
    ·exact absurd (hbe.trans z) hb
    ·rw[hbe];exact z
   rw[q]at q';cases q'
   obtain⟨v,hv⟩:=heo
   exact⟨v,by rw[hbe];exact hv⟩
  ·refine(ok b u q).stay (fun c v hc r=>k c v ?_ r) (fun c r=>by rw[aL (nown c b r)];exact r) fun c xs r=>by rw[aL (ntup c xs r)];exact r
   rcases hc with rfl | hc
   ·exact hbe
   ·rintro rfl
    rcases he with z | z
    ·exact nown c b hc z
    ·rw[hc]at z;cases z;exact hb rfl
end
structure Un(fs ex:List Addr)(H H':Hp)(h h':Heap):Prop where
 keep:∀b o,h.get? b=some o->H b=none->b∉fs->b∉ex->h'.get? b=some o
 slot:∀b o,h.get? b=some o->H b=none->b∈fs->b∉ex->∃sl,h'.get? b=some { o with slots:=sl }
 free:∀b o,h.get? b=some o->H b=none->b∉ex->H' b=none
 there:∀b o,h.get? b=some o->b∉ex->∃o',h'.get? b=some o'
 tups:∀b xs,H b=some (.tup xs)->H' b=some (.tup xs)
 frzs:∀b o u,H b=some (.frz o u)->H' b=some (.frz o u)
 tbls:∀b ps,H b=some (.tbl ps)->∃more,H' b=some (.tbl (ps++more))
section
variable {fs fs' ex ex':List Addr} {H H1 H2:Hp} {h h1 h2 h':Heap} {a x e:Addr} {o:HO}
theorem Un.any(u:Un fs ex H H1 h h1){b:Addr}{ob:Obj}(q:h.get? b=some ob)(n:H b=none)(hx:b∉ex):∃sl,h1.get? b=some { ob with slots:=sl }:=by
 by_cases hb:b∈fs
 ·exact u.slot b ob q n hb hx
 ·exact⟨ob.slots,u.keep b ob q n hb hx⟩
theorem Un.kept(k:∀b u,h.get? b=some u->h'.get? b=some u):Un fs ex H H h h':=
 ⟨fun b ob q _ _ _=>k b ob q,fun b ob q _ _ _=>⟨ob.slots,k b ob q⟩,fun _ _ _ n _=>n,fun b ob q _=>⟨ob,k b ob q⟩,fun _ _ q=>q,fun _ _ _ q=>q,fun _ ps q=>⟨#[],by rw[q];simp⟩⟩
theorem Un.refl:Un fs ex H H h h:=Un.kept fun _ _ q=>q
theorem Un.laid(k:∀b u,h.get? b=some u->h'.get? b=some u)(hp:h.objs.size<=a)(hn:H a=none):Un fs ex H (upd H a o) h h' where
 keep:=fun b u q _ _ _=>k b u q
 slot:=fun b u q _ _ _=>⟨u.slots,k b u q⟩
 free:=fun b u q n _=>by rw[aL (Nat.ne_of_lt (Nat.lt_of_lt_of_le (Heap.lt_size q) hp))];exact n
 there:=fun b u q _=>⟨u,k b u q⟩
 tups:=fun b xs q=>by rw[aL (cS q hn)];exact q
 frzs:=fun b u xs q=>by rw[aL (cS q hn)];exact q
 tbls:=fun b ps q=>⟨#[],by rw[aL (cS q hn),q];simp⟩
theorem Un.write(mu:iz (H x))(he:e=x\/H e=some (.own x))(k:∀b u,b≠e->h.get? b=some u->h'.get? b=some u)(heo:∃u,h'.get? e=some u):Un fs ex H (upd H x o) h h':=by
 have hx:∀b,H b=none->b≠x:=fun b n z=>by subst z;rw[n]at mu;exact mu
 have hb:∀b,H b=none->b≠e:=fun b n z=>by
  subst z
  rcases he with r | r
  ·exact hx b n r
  ·rw[n]at r;cases r
 have hm:∀b u,H b=some u->¬iz (some u)->b≠x:=fun b u q nm z=>by subst z;rw[q]at mu;exact nm mu
 refine⟨fun b u q n _ _=>k b u (hb b n) q,fun b u q n _ _=>⟨u.slots,k b u (hb b n) q⟩,fun b u q n _=>by rw[aL (hx b n)];exact n,fun b u q _=>?_,
  fun b xs q=>by rw[aL (hm b _ q fun z=>z)];exact q,fun b u xs q=>by rw[aL (hm b _ q fun z=>z)];exact q,fun b ps q=>⟨#[],by rw[aL (hm b _ q fun z=>z),q];simp⟩⟩
 by_cases hbe:b=e
 ·subst hbe;exact heo
 ·exact⟨u,k b u hbe q⟩
end
def iu(h:Heap)(H:Hp):List Addr:=(List.range h.objs.size).filter fun a=>(H a).isSome
def ee(h:Heap)(H:Hp):Heap:=PySem.W.hideAll h (iu h H)
theorem vP(h:Heap)(H:Hp):(ee h H).objs.size=h.objs.size:=PySem.W.hideAll_size _ _
theorem wU{h:Heap}{H:Hp}{b:Addr}{o:Obj}(e:h.get? b=some o)(n:H b=none):(ee h H).get? b=some o:=
 PySem.W.hideAll_get _ e fun hm=>by
  have q:(H b).isSome=true:=(List.mem_filter.mp hm).2
  rw[n]at q;simp at q
theorem vH{h:Heap}{H:Hp}{b:Addr}{o:Obj}(e:(ee h H).get? b=some o):h.get? b=some o/\H b=none:=by
 have e':h.get? b=some o:=PySem.W.of_hideAll (iu h H) e
 refine⟨e',?_⟩
 cases q:H b with
 | none=>rfl
 | some x=>
  have hm:b∈iu h H:=List.mem_filter.mpr ⟨List.mem_range.mpr (Heap.lt_size e'),by simp[q]⟩
  have z:(ee h H).get? b=none:=PySem.W.hideAll_none (iu h H) hm
  rw[z]at e;cases e
end L2
namespace L2
open PySem PySem.Spec PyProof.Rows
structure Mod(K:PySem.W.Frag)(mg:Str->Option Value)(base:Heap):Prop where
 kin:K.In base
 glob:base.Ns mainGlobals mg
 blt:∃mb,base.Ns builtinsNs mb/\∀x:Str,x≠"__name__"->mb x=bootBuiltins x
 nolimit:base.NoLimit
structure Cx where
 prog:Program
 w:World
 K:PySem.W.Frag
 mg:Str->Option Value
 base:Heap
 A:Around
 N:List Str
 s₀:Shared
 H₀:Hp
 env:Env
 outer:List Env
 stack:List Env
 ex:List Addr
 fn:Str->Bool
 calm:Bool
 pn:List (Addr×Obj)
 xe:Value->Shared->Prop
def cg(l:List Env):List Addr:=l.filterMap (·.frame)
abbrev Cx.fs(X:Cx):List Addr:=cg X.outer
def mV(sc:Scope)(x:Str):Prop:=sc.names.lookup x=some .local\/sc.names.lookup x=some .cell\/sc.names.lookup x=some .free
def Loc(sc:Scope)(x:Str):Prop:=sc.names.lookup x=some .local\/sc.names.lookup x=some .cell
def Look(env:Env)(h:Heap)(m:Str->Option Value)(x:Str)(u:Value):Prop:=
 (env.kindOf x=some .local/\m x=some u)\/((env.kindOf x=some .cell\/env.kindOf x=some .free)/\∃c,env.cells.lookup x=some c/\h.IsCell c (some u))
structure Cx.Ok(X:Cx):Prop where
 mod:Mod X.K X.mg X.base
 kind:X.env.scope.kind=.function
 glob:X.env.globals=mainGlobals
 blt:X.env.builtins=builtinsNs
 above:X.s₀.heap.objs.size<=X.env.locals
 inj:∀x y c,X.env.cells.lookup x=some c->X.env.cells.lookup y=some c->x=y
 has:∀x,(X.env.kindOf x=some .cell\/X.env.kindOf x=some .free)->∃c,X.env.cells.lookup x=some c
 cab:∀x c,X.fn x=true->X.env.cells.lookup x=some c->X.s₀.heap.objs.size<=c
 hd:X.calm=true->X.A.handled=none
 frames:X.A.frames=some X.stack
 stk:X.stack=X.outer\/(X.stack=X.env::X.outer/\X.env.frame=some X.env.locals)
 exf:∀b∈X.ex,b≠X.env.locals/\∀x c,X.env.cells.lookup x=some c->c≠b
 bs:∀b o,X.base.get? b=some o->X.s₀.heap.get? b=some o/\X.H₀ b=none
 bsz:X.base.objs.size<=X.s₀.heap.objs.size
 noex:∀b o,X.base.get? b=some o->b∉X.ex
 exfs:∀b∈X.ex,b∉X.fs
 funs:X.s₀.heap.FunFrames X.base X.outer
 frf:∀b∈X.fs,X.H₀ b=none
structure Inv(X:Cx)(pins:List (Addr×Obj))(σ:List (Option V))(H:Hp)(s:Shared):Prop where
 ok:X.Ok
 os:s.os=X.s₀.os
 bare:AllBare s.gens
 base:Un X.fs X.ex X.H₀ H X.s₀.heap s.heap
 loc:∃m,s.heap.Ns X.env.locals m/\∀(i:Nat) (x:Str) (v:V),X.N[i]?=some x->σ[i]?=some (some v)->mV X.env.scope x->∃u,RelV v u/\Look X.env s.heap m x u
 cell:∀x c,X.env.cells.lookup x=some c->∃v,s.heap.IsCell c v
 free:H X.env.locals=none
 freeC:∀x c,X.env.cells.lookup x=some c->H c=none
 pin:∀p∈X.pn++pins,s.heap.get? p.1=some p.2/\H p.1=none/\p.1≠X.env.locals/\p.1∉X.fs/\∀v,p.2.data≠.cell v
 hok:bq X.prog X.w H s.heap
 len:σ.length=X.N.length
section
variable {X:Cx} {pins:List (Addr×Obj)} {σ:List (Option V)} {H H':Hp} {s:Shared} {h':Heap}
theorem Cx.Ok.nofr(ok:X.Ok){b:Addr}{o:Obj}(e:X.base.get? b=some o):b∉X.fs:=fun hb=>by
 have:=(ok.funs.mem hb).1
 rw[e]at this;cases this
theorem Inv.bs(I:Inv X pins σ H s):∀b o,X.base.get? b=some o->s.heap.get? b=some o/\H b=none:=fun b o e=>
 ⟨I.base.keep b o (I.ok.bs b o e).1 (I.ok.bs b o e).2 (I.ok.nofr e) (I.ok.noex b o e),I.base.free b o (I.ok.bs b o e).1 (I.ok.bs b o e).2 (I.ok.noex b o e)⟩
theorem Inv.bk(I:Inv X pins σ H s):∀b o,X.base.get? b=some o->s.heap.get? b=some o:=fun b o e=>(I.bs b o e).1
theorem Inv.mod(I:Inv X pins σ H s):Mod X.K X.mg X.base:=I.ok.mod
theorem Inv.kIn(I:Inv X pins σ H s):X.K.In s.heap:=I.ok.mod.kin.keeps I.bk
theorem Inv.lt(I:Inv X pins σ H s):X.env.locals<s.heap.objs.size:=let ⟨_,hn,_⟩:=I.loc;hn.lt
theorem Inv.sz(I:Inv X pins σ H s):X.s₀.heap.objs.size<=s.heap.objs.size:=Nat.le_trans I.ok.above (Nat.le_of_lt I.lt)
theorem Inv.nofs(I:Inv X pins σ H s){a:Addr}(h:s.heap.objs.size<=a):a∉X.fs:=fun hb=>by
 obtain⟨_,o,ho,_⟩:=I.ok.funs.mem hb
 exact absurd (Nat.lt_of_lt_of_le (Heap.lt_size ho) (Nat.le_trans I.sz h)) (Nat.lt_irrefl _)
theorem Inv.cne(I:Inv X pins σ H s):∀x c,X.env.cells.lookup x=some c->c≠X.env.locals:=fun x c e z=>by
 obtain⟨v,o,ho,hd⟩:=I.cell x c e
 obtain⟨m,⟨o',es,ep,ho',hd',_⟩,_⟩:=I.loc
 rw[z,ho']at ho;cases ho;rw[hd']at hd;cases hd
theorem Inv.funs(I:Inv X pins σ H s):s.heap.FunFrames X.base X.outer:=by
 have all:∀(l:List Env),(∀b∈cg l,b∈X.fs)->X.s₀.heap.FunFrames X.base l->s.heap.FunFrames X.base l:=by
  intro l
  induction l with
  | nil=>intro _ _;trivial
  | cons env r ih=>
   intro hs hl
   obtain⟨hk,⟨L,o,hf,hn,ho,hd⟩,hr⟩:=hl
   have hL:L∈X.fs:=hs L (by unfold cg;rw[List.filterMap_cons,hf];exact List.mem_cons_self)
   obtain⟨sl,e⟩:=I.base.slot L o ho (I.ok.frf L hL) hL fun z=>I.ok.exfs L z hL
   exact⟨hk,⟨L,_,hf,hn,e,hd⟩,ih (fun b hb=>hs b (by unfold cg;rw[List.filterMap_cons,hf];exact List.mem_cons_of_mem _ hb)) hr⟩
 exact all X.outer (fun _ hb=>hb) I.ok.funs
theorem Inv.stack(I:Inv X pins σ H s):s.heap.FunFrames X.base X.stack:=by
 rcases I.ok.stk with e | ⟨e,hf⟩
 ·rw[e];exact I.funs
 ·rw[e]
  obtain⟨m,hn,_⟩:=I.loc
  refine .cons (by rw[I.ok.kind];decide) hf hn ?_ I.funs
  exact Heap.get?_none_of_le (Nat.le_trans I.ok.bsz I.ok.above)
theorem Inv.stkSub(I:Inv X pins σ H s):∀b∈cg X.stack,b∈X.env.locals::X.fs:=fun b hb=>by
 rcases I.ok.stk with e | ⟨e,hf⟩
 ·rw[e]at hb;exact List.mem_cons_of_mem _ hb
 ·rw[e]at hb
  unfold cg at hb
  rw[List.filterMap_cons,hf]at hb
  exact hb
theorem Inv.stkFree(I:Inv X pins σ H s):∀b∈cg X.stack,H b=none:=fun b hb=>by
 rcases List.mem_cons.mp (I.stkSub b hb)with e | hb
 ·rw[e];exact I.free
 ·obtain⟨_,o,ho,_⟩:=I.ok.funs.mem hb
  exact I.base.free b o ho (I.ok.frf b hb) fun z=>I.ok.exfs b z hb
theorem Inv.step{g':Array GenState}{t':Nat}{d':Drawn}{ch:List Addr}(I:Inv X pins σ H s)
  (hch:∀b∈ch,(b∈X.ex\/X.s₀.heap.objs.size<=b)/\b≠X.env.locals/\(∀x c,X.env.cells.lookup x=some c->c≠b)/\∀p∈X.pn++pins,p.1≠b)
  (keep:∀b o,b≠X.env.locals->b∉X.fs->b∉ch->s.heap.get? b=some o->H b=none->h'.get? b=some o)
  (slot:∀b o,b≠X.env.locals->b∈X.fs->b∉ch->s.heap.get? b=some o->H b=none->∃sl,h'.get? b=some { o with slots:=sl }) (free:∀b o,b∉ch->s.heap.get? b=some o->H b=none->H' b=none)
  (there:∀b o,b∉ch->s.heap.get? b=some o->∃o',h'.get? b=some o')
  (tups:∀b xs,H b=some (.tup xs)->H' b=some (.tup xs)) (frzs:∀b o u,H b=some (.frz o u)->H' b=some (.frz o u)) (tbls:∀b ps,H b=some (.tbl ps)->∃more,H' b=some (.tbl (ps++more)))
  (ns:∀m,s.heap.Ns X.env.locals m->h'.Ns X.env.locals m) (hok:bq X.prog X.w H' h') (hg:AllBare g') :
  Inv X pins σ H' { s with heap:=h',gens:=g',drawn:=d',toks:=t' }:=by
 have neL:∀b o,X.s₀.heap.get? b=some o->b≠X.env.locals:=fun b o e=>Nat.ne_of_lt (Nat.lt_of_lt_of_le (Heap.lt_size e) I.ok.above)
 have neC:∀b o,X.s₀.heap.get? b=some o->b∉X.ex->b∉ch:=fun b o e hx hb=>by
  rcases(hch b hb).1 with z | z
  ·exact hx z
  ·exact absurd (Nat.lt_of_lt_of_le (Heap.lt_size e) z) (Nat.lt_irrefl _)
 have cellK:∀x c,X.env.cells.lookup x=some c->∀v,s.heap.IsCell c v->h'.IsCell c v:=fun x c e v ⟨o,ho,hd⟩=>by
  have nch:c∉ch:=fun z=>(hch c z).2.2.1 x c e rfl
  by_cases hc:c∈X.fs
  ·obtain⟨sl,q⟩:=slot c o (I.cne x c e) hc nch ho (I.freeC x c e)
   exact⟨_,q,hd⟩
  ·exact⟨o,keep c o (I.cne x c e) hc nch ho (I.freeC x c e),hd⟩
 refine⟨I.ok,I.os,hg,⟨fun b o e n hb hx=>?_,fun b o e n hb hx=>?_,fun b o e n hx=>?_,fun b o e hx=>?_,fun b xs e=>tups b xs (I.base.tups b xs e),fun b o xs e=>frzs b o xs (I.base.frzs b o xs e),fun b ps e=>?_⟩,?_,fun x c e=>?_,?_,fun x c e=>?_,fun p hp=>?_,hok,I.len⟩
 ·exact keep b o (neL b o e) hb (neC b o e hx) (I.base.keep b o e n hb hx) (I.base.free b o e n hx)
 ·obtain⟨sl,e1⟩:=I.base.slot b o e n hb hx
  obtain⟨sl',e2⟩:=slot b _ (neL b o e) hb (neC b o e hx) e1 (I.base.free b o e n hx)
  exact⟨sl',e2⟩
 ·obtain⟨o',e1⟩:=I.base.there b o e hx
  exact free b o' (neC b o e hx) e1 (I.base.free b o e n hx)
 ·obtain⟨o',e1⟩:=I.base.there b o e hx
  exact there b o' (neC b o e hx) e1
 ·obtain⟨m1,e1⟩:=I.base.tbls b ps e
  obtain⟨m2,e2⟩:=tbls b _ e1
  exact⟨m1++m2,by rw[e2,Array.append_assoc]⟩
 ·obtain⟨m,hn,hl⟩:=I.loc
  refine⟨m,ns m hn,fun i x v e1 e2 e3=>?_⟩
  obtain⟨u,r,l⟩:=hl i x v e1 e2 e3
  refine⟨u,r,?_⟩
  rcases l with l | ⟨k,c,e,z⟩
  ·exact .inl l
  ·exact .inr ⟨k,c,e,cellK x c e _ z⟩
 ·obtain⟨v,z⟩:=I.cell x c e
  exact⟨v,cellK x c e v z⟩
 ·obtain⟨m,⟨o,_,_,ho,_⟩,_⟩:=I.loc
  exact free _ o (fun z=>(hch _ z).2.1 rfl) ho I.free
 ·obtain⟨v,o,ho,hd⟩:=I.cell x c e
  exact free c o (fun z=>(hch c z).2.2.1 x c e rfl) ho (I.freeC x c e)
 ·obtain⟨e,n,ne,nf,d⟩:=I.pin p hp
  have nch:p.1∉ch:=fun z=>(hch p.1 z).2.2.2 p hp rfl
  exact⟨keep p.1 p.2 ne nf nch e n,free p.1 p.2 nch e n,ne,nf,d⟩
theorem Inv.un{t':Nat}(I:Inv X pins σ H s)(u:Un X.fs [] H H' s.heap h')(hok:bq X.prog X.w H' h'):Inv X pins σ H' { s with heap:=h',toks:=t' }:=by
 obtain⟨m,⟨o,es,ep,ho,r⟩,_⟩:=id I.loc
 obtain⟨sl,hL⟩:=u.any ho I.free (by simp)
 exact I.step (g':=s.gens) (d':=s.drawn) (ch:=[]) (fun _ z=>nomatch z) (fun b o _ hb _ e n=>u.keep b o e n hb (by simp)) (fun b o _ hb _ e n=>u.slot b o e n hb (by simp)) (fun b o _ e n=>u.free b o e n (by simp)) (fun b o _ e=>u.there b o e (by simp)) u.tups u.frzs u.tbls (fun m' hm=>by
  obtain⟨o',es',ep',ho',r'⟩:=hm
  rw[ho]at ho';cases ho'
  exact⟨_,es',ep',hL,r'⟩) hok I.bare
theorem Inv.call{g':Array GenState}{t':Nat}{d':Drawn}{ch:List Addr}(I:Inv X pins σ H s)(u:Un (cg X.stack) ch H H' s.heap h')(hok:bq X.prog X.w H' h')(hg:AllBare g')
  (hch:∀b∈ch,(b∈X.ex\/X.s₀.heap.objs.size<=b)/\b≠X.env.locals/\(∀x c,X.env.cells.lookup x=some c->c≠b)/\∀p∈X.pn++pins,p.1≠b) :
  Inv X pins σ H' { s with heap:=h',gens:=g',drawn:=d',toks:=t' }:=by
 obtain⟨m,⟨o,es,ep,ho,r⟩,_⟩:=id I.loc
 obtain⟨sl,hL⟩:=u.any ho I.free fun z=>(hch _ z).2.1 rfl
 exact I.step (ch:=ch) hch (fun b o hL hb hc e n=>u.keep b o e n (fun z=>(List.mem_cons.mp (I.stkSub b z)).elim hL hb) hc) (fun b o _ _ hc e n=>u.any e n hc) (fun b o hc e n=>u.free b o e n hc) (fun b o hc e=>u.there b o e hc) u.tups u.frzs u.tbls (fun m' hm=>by
  obtain⟨o',es',ep',ho',r'⟩:=hm
  rw[ho]at ho';cases ho'
  exact⟨_,es',ep',hL,r'⟩) hok hg
theorem Inv.turned{t':Nat}{it:Addr}(I:Inv X pins σ H s)(k:∀b o,b≠it->s.heap.get? b=some o->h'.get? b=some o)(hn:H it=none)(hL:it≠X.env.locals)
  (h1:it∈X.ex\/X.s₀.heap.objs.size<=it) (h2:∀x c,X.env.cells.lookup x=some c->c≠it) (h3:∀p∈X.pn++pins,p.1≠it):Inv X pins σ H { s with heap:=h',toks:=t' }:=by
 have nit:∀b u,H b=some u->b≠it:=fun b u e z=>by rw[z,hn]at e;cases e
 refine I.step (g':=s.gens) (d':=s.drawn) (ch:=[it]) (fun b hb=>?_) (fun b o _ _ hc e _=>k b o (fun z=>hc (by simp[z])) e) (fun b o _ _ hc e _=>⟨o.slots,k b o (fun z=>hc (by simp[z])) e⟩) (fun _ _ _ _ n=>n)
  (fun b o hc e=>⟨o,k b o (fun z=>hc (by simp[z])) e⟩) (fun _ _ e=>e) (fun _ _ _ e=>e) (fun b ps e=>⟨#[],by rw[e];simp⟩) (fun m hm=>?_) (fun b u e=>?_) I.bare
 ·have e:b=it:=by simpa using hb
  subst e
  exact⟨h1,hL,h2,h3⟩
 ·obtain⟨o,es,ep,ho,r⟩:=hm
  exact⟨o,es,ep,k _ o (Ne.symm hL) ho,r⟩
 ·refine(I.hok b u e).stay (fun c v hc q=>k c v ?_ q) (fun _ q=>q) fun _ _ q=>q
  rcases hc with z | z
  ·rw[z];exact nit b u e
  ·exact nit c _ z
theorem Inv.tok(I:Inv X pins σ H s)(t:Nat):Inv X pins σ H { s with toks:=t }:=I.un (h':=s.heap) (t':=t) Un.refl I.hok
theorem Inv.kept{t':Nat}(I:Inv X pins σ H s)(k:∀b u,s.heap.get? b=some u->h'.get? b=some u):Inv X pins σ H { s with heap:=h',toks:=t' }:=I.un (Un.kept k) (I.hok.kept k)
theorem Inv.laid{a:Addr}{o:HO}{t':Nat}(I:Inv X pins σ H s)(k:∀b u,s.heap.get? b=some u->h'.get? b=some u)(hp:s.heap.objs.size<=a)(new:bH X.prog X.w (upd H a o) h' a o):
  Inv X pins σ (upd H a o) { s with heap:=h',toks:=t' }:=I.un (Un.laid k hp (I.hok.fresh hp)) (I.hok.laid k hp new)
theorem Inv.write{x e:Addr}{o:HO}{t':Nat}(I:Inv X pins σ H s)(mu:iz (H x))(he:e=x\/H e=some (.own x))(k:∀b u,b≠e->s.heap.get? b=some u->h'.get? b=some u)(heo:∃u,h'.get? e=some u)
  (new:bH X.prog X.w (upd H x o) h' x o):Inv X pins σ (upd H x o) { s with heap:=h',toks:=t' }:=I.un (Un.write mu he k heo) (I.hok.write mu he k heo new)
theorem Inv.pins_of{pins':List (Addr×Obj)}(I:Inv X pins σ H s)(h:∀p∈pins',s.heap.get? p.1=some p.2/\H p.1=none/\p.1≠X.env.locals/\p.1∉X.fs/\∀v,p.2.data≠.cell v):Inv X pins' σ H s:=
 ⟨I.ok,I.os,I.bare,I.base,I.loc,I.cell,I.free,I.freeC,fun p hp=>(List.mem_append.mp hp).elim (fun z=>I.pin p (List.mem_append_left _ z)) (h p),I.hok,I.len⟩
theorem qi{N:List Str}(hN:N.Nodup){i j:Nat}{x:Str}(a:N[i]?=some x)(b:N[j]?=some x):i=j:=by
 obtain⟨h1,e1⟩:=List.getElem?_eq_some_iff.mp a
 obtain⟨h2,e2⟩:=List.getElem?_eq_some_iff.mp b
 exact(List.getElem_inj hN).mp (e1.trans e2.symm)
theorem rP{M:Model}{A:Around}{E:Value->Shared->Prop}{i:Nat}{x:Str}{v:V}{u:Value}{Q:Unit->Shared->Prop}(I:Inv X pins σ H s)(hN:X.N.Nodup)(hi:X.N[i]?=some x)(hx:Loc X.env.scope x)(r:RelV v u)
  (h:∀s',Inv X pins (σ.set i (some v)) H s'->(∃a,Heap.SameBut a s.heap s'.heap/\(a=X.env.locals\/X.env.cells.lookup x=some a))->Q () s') (hf:X.fn x=true\/X.env.scope.names.lookup x=some .local:=by first | exact .inl rfl | exact .inr rfl | assumption):wpAny M A (storeName X.env x u) Q E s:=by
 obtain⟨m,hn,hl⟩:=id I.loc
 have hcls:(X.env.scope.kind == .class || (X.env.scope.kind == .module && X.env.locals != X.env.globals))=false:=by rw[I.ok.kind];rfl
 have hiσ:i<σ.length:=by rw[I.len];exact(List.getElem?_eq_some_iff.mp hi).1
 have cne:=I.cne
 have tracked:∀{a:Addr} {h':Heap},(∃o,s.heap.get? a=some o/\H a=none)->Heap.SameBut a s.heap h'->bq X.prog X.w H h':=fun{a h'} ha hs b ob e=>by
  obtain⟨_,_,hfree⟩:=ha
  refine(I.hok b ob e).stay (fun c w' hc q=>(hs.2 c ?_).trans q) (fun _ q=>q) fun _ _ q=>q
  rintro rfl
  rcases hc with rfl | hc
  ·rw[hfree]at e;cases e
  ·rw[hfree]at hc;cases hc
 rcases hx with hk | hk
 ·refine wpAny_storeName_local hk hn (fun h' hn' hs=>?_) hcls
  obtain⟨oL,_,_,hoL,_⟩:=id hn
  refine h _ ⟨I.ok,I.os,I.bare,⟨fun b o e n hb hx=>?_,fun b o e n hb hx=>?_,I.base.free,fun b o e hx=>?_,I.base.tups,I.base.frzs,I.base.tbls⟩,⟨_,hn',fun j y v' e1 e2 e3=>?_⟩,fun y c e=>?_,I.free,I.freeC,fun p hp=>?_,tracked ⟨oL,hoL,I.free⟩ hs,by simpa using I.len⟩ ⟨_,hs,.inl rfl⟩
  ·exact(hs.2 b (Nat.ne_of_lt (Nat.lt_of_lt_of_le (Heap.lt_size e) I.ok.above))).trans (I.base.keep b o e n hb hx)
  ·obtain⟨sl,e1⟩:=I.base.slot b o e n hb hx
   exact⟨sl,(hs.2 b (Nat.ne_of_lt (Nat.lt_of_lt_of_le (Heap.lt_size e) I.ok.above))).trans e1⟩
  ·obtain⟨o',e1⟩:=I.base.there b o e hx
   exact⟨o',(hs.2 b (Nat.ne_of_lt (Nat.lt_of_lt_of_le (Heap.lt_size e) I.ok.above))).trans e1⟩
  ·by_cases hj:j=i
   ·subst hj
    rw[hi]at e1;cases e1
    rw[List.getElem?_set_self hiσ]at e2
    cases e2
    exact⟨u,r,.inl ⟨hk,by simp⟩⟩
   ·rw[List.getElem?_set_ne (Ne.symm hj)]at e2
    obtain⟨u',r',q⟩:=hl j y v' e1 e2 e3
    refine⟨u',r',?_⟩
    rcases q with⟨k,e⟩ | ⟨k,c,e,z⟩
    ·refine .inl ⟨k,?_⟩
     have:y≠x:=fun e=>hj (qi hN e1 (e ▸ hi))
     simp[this,e]
    ·exact .inr ⟨k,c,e,z.sameBut hs (cne y c e)⟩
  ·obtain⟨w',z⟩:=I.cell y c e
   exact⟨w',z.sameBut hs (cne y c e)⟩
  ·obtain⟨e,n,ne,nf,d⟩:=I.pin p hp
   exact⟨(hs.2 p.1 ne).trans e,n,ne,nf,d⟩
 ·have hfn:X.fn x=true:=by
   rcases hf with z | z
   ·exact z
   ·rw[z]at hk;cases hk
  obtain⟨c,hc⟩:=I.ok.has x (.inl hk)
  obtain⟨w',z⟩:=I.cell x c hc
  refine wpAny_storeName_cell I.ok.kind hk hc z (fun h' hc' hs=>?_)
  obtain⟨oc,hoc,hocd⟩:=id z
  refine h { s with heap:=h' } ⟨I.ok,I.os,I.bare,⟨fun b o e n hb hx=>?_,fun b o e n hb hx=>?_,I.base.free,fun b o e hx=>?_,I.base.tups,I.base.frzs,I.base.tbls⟩,⟨m,hn.sameBut hs (Ne.symm (cne x c hc)),fun j y v' e1 e2 e3=>?_⟩,fun y c' e=>?_,I.free,I.freeC,fun p hp=>?_,tracked ⟨oc,hoc,I.freeC x c hc⟩ hs,by simpa using I.len⟩ ⟨c,hs,.inr hc⟩
  ·exact(hs.2 b (Nat.ne_of_lt (Nat.lt_of_lt_of_le (Heap.lt_size e) (I.ok.cab x c hfn hc)))).trans (I.base.keep b o e n hb hx)
  ·obtain⟨sl,e1⟩:=I.base.slot b o e n hb hx
   exact⟨sl,(hs.2 b (Nat.ne_of_lt (Nat.lt_of_lt_of_le (Heap.lt_size e) (I.ok.cab x c hfn hc)))).trans e1⟩
  ·obtain⟨o',e1⟩:=I.base.there b o e hx
   exact⟨o',(hs.2 b (Nat.ne_of_lt (Nat.lt_of_lt_of_le (Heap.lt_size e) (I.ok.cab x c hfn hc)))).trans e1⟩
  ·by_cases hj:j=i
   ·subst hj
    rw[hi]at e1;cases e1
    rw[List.getElem?_set_self hiσ]at e2
    cases e2
    exact⟨u,r,.inr ⟨.inl hk,c,hc,hc'⟩⟩
   ·rw[List.getElem?_set_ne (Ne.symm hj)]at e2
    obtain⟨u',r',q⟩:=hl j y v' e1 e2 e3
    refine⟨u',r',?_⟩
    rcases q with q | ⟨k,c',e,z'⟩
    ·exact .inl q
    ·refine .inr ⟨k,c',e,z'.sameBut hs ?_⟩
     rintro rfl
     exact hj (qi hN e1 (I.ok.inj _ _ _ e hc ▸ hi))
  ·by_cases hcc:c'=c
   ·subst hcc;exact⟨_,hc'⟩
   ·obtain⟨w2,z2⟩:=I.cell y c' e
    exact⟨w2,z2.sameBut hs hcc⟩
  ·obtain⟨e,n,ne,nf,d⟩:=I.pin p hp
   refine⟨(hs.2 p.1 ?_).trans e,n,ne,nf,d⟩
   intro q
   rw[q,hoc]at e
   have q':oc=p.2:=Option.some.inj e
   exact d w' (by rw[←q'];exact hocd)
theorem jg{M:Model}{A:Around}{E:Value->Shared->Prop}{i:Nat}{x:Str}{v:V}{u:Value}{Q:Unit->Shared->Prop}(I:Inv X pins σ H s)(hN:X.N.Nodup)(hi:X.N[i]?=some x)(hx:Loc X.env.scope x)(r:RelV v u)
  (h:∀s',Inv X pins (σ.set i (some v)) H s'->Q () s') (hf:X.fn x=true\/X.env.scope.names.lookup x=some .local:=by first | exact .inl rfl | exact .inr rfl | assumption):wpAny M A (storeName X.env x u) Q E s:=
 rP I hN hi hx r (fun s' I' _=>h s' I') hf
theorem Inv.call'{s':Shared}{ch:List Addr}(I:Inv X pins σ H s)(ho:s'.os=s.os)(u:Un (cg X.stack) ch H H' s.heap s'.heap)(hok:bq X.prog X.w H' s'.heap)(hg:AllBare s'.gens)
  (hch:∀b∈ch,(b∈X.ex\/X.s₀.heap.objs.size<=b)/\b≠X.env.locals/\(∀x c,X.env.cells.lookup x=some c->c≠b)/\∀p∈X.pn++pins,p.1≠b):Inv X pins σ H' s':=by
 obtain⟨h',g',d',t',o'⟩:=s'
 have e:o'=s.os:=ho
 subst e
 exact I.call (g':=g') (t':=t') (d':=d') u hok hg hch
end
abbrev XK:=Value->Option Addr->Hp->Prop
abbrev St:=List (Option V)
abbrev VK:=V->Hp->Prop
abbrev TE:=St->Hp->VK->Prop
abbrev TT:=St->Hp->(Bool->Hp->Prop)->Prop
abbrev TA:=St->Hp->(List V->Hp->Prop)->Prop
structure Ends where
 nx:St->Hp->Prop
 rt:VK
 bk:St->Hp->Prop:=fun _ _=>False
 ct:St->Hp->Prop:=fun _ _=>False
abbrev TS:=Ends->St->Hp->Prop
def EP(X:Cx)(pins:List (Addr×Obj))(σ:St)(Q:VK)(u:Value)(s':Shared):Prop:=∃v H',Inv X pins σ H' s'/\RelV v u/\Q v H'
def TP(X:Cx)(pins:List (Addr×Obj))(σ:St)(Q:Bool->Hp->Prop)(b:Bool)(s':Shared):Prop:=∃H',Inv X pins σ H' s'/\Q b H'
def AP(X:Cx)(pins:List (Addr×Obj))(σ:St)(Q:List V->Hp->Prop)(us:List Value)(s':Shared):Prop:=∃vs H',Inv X pins σ H' s'/\Vals vs us/\Q vs H'
def SP(X:Cx)(pins:List (Addr×Obj))(D:Ends)(f:Flow)(s':Shared):Prop:=
 match f with
 | .next=>∃σ' H',Inv X pins σ' H' s'/\D.nx σ' H'
 | .brk=>∃σ' H',Inv X pins σ' H' s'/\D.bk σ' H'
 | .cont=>∃σ' H',Inv X pins σ' H' s'/\D.ct σ' H'
 | .ret u=>∃v σ' H',Inv X pins σ' H' s'/\RelV v u/\D.rt v H'
def PE(X:Cx)(e:Expr)(t:TE):Prop:=
 ∀(pins:List (Addr×Obj)) (s:Shared) (σ:St) (H:Hp) (Q:VK),Inv X pins σ H s->t σ H Q->wpAny (model X.prog X.w) X.A (eval e X.env) (EP X pins σ Q) X.xe s
def PT(X:Cx)(e:Expr)(t:TT):Prop:=
 ∀(pins:List (Addr×Obj)) (s:Shared) (σ:St) (H:Hp) (Q:Bool->Hp->Prop),Inv X pins σ H s->t σ H Q->wpAny (model X.prog X.w) X.A (isTrue e X.env (eval e X.env)) (TP X pins σ Q) X.xe s
def PW(X:Cx)(e:Expr)(t:TT):Prop:=
 ∀(whole:Sem Value) (pins:List (Addr×Obj)) (s:Shared) (σ:St) (H:Hp) (Q:Bool->Hp->Prop),Inv X pins σ H s->t σ H Q->wpAny (model X.prog X.w) X.A (isTrue e X.env whole) (TP X pins σ Q) X.xe s
theorem PW.pt{X:Cx}{e:Expr}{t:TT}(h:PW X e t):PT X e t:=h _
def PA(X:Cx)(es:List Expr)(t:TA):Prop:=
 ∀(pos:Pos) (pins:List (Addr×Obj)) (s:Shared) (σ:St) (H:Hp) (Q:List V->Hp->Prop),Inv X pins σ H s->t σ H Q->wpAny (model X.prog X.w) X.A (spliced (backTo pos (starEach es X.env))) (AP X pins σ Q) X.xe s
def PS(X:Cx)(st:Stmt)(t:TS):Prop:=
 ∀(pins:List (Addr×Obj)) (s:Shared) (σ:St) (H:Hp) (D:Ends),Inv X pins σ H s->t D σ H->wpAny (model X.prog X.w) X.A (exec st X.env) (SP X pins D) X.xe s
def b9(X:Cx)(st:List Stmt)(t:TS):Prop:=
 ∀(pins:List (Addr×Obj)) (s:Shared) (σ:St) (H:Hp) (D:Ends),Inv X pins σ H s->t D σ H->wpAny (model X.prog X.w) X.A (execs st X.env) (SP X pins D) X.xe s
theorem au{α:Type}{t:Sem α}{Q Q':α->Shared->Prop}{M:Model}{A:Around}{E:Value->Shared->Prop}{s:Shared}(h:wpAny M A t Q E s)(hQ:∀a s,Q a s->Q' a s):wpAny M A t Q' E s:=wpAny_mono h hQ fun _ _ x=>x
end L2
namespace L2
open PySem PySem.Spec PyProof.Rows
section
variable {X:Cx}
theorem bin{a b:Expr}{ta tb:TE}(ha:PE X a ta)(hb:PE X b tb){pins:List (Addr×Obj)}{s:Shared}{σ:St}{H:Hp}{R:V->V->Hp->Prop}(I:Inv X pins σ H s)(h:ta σ H fun x H1=>tb σ H1 fun y H2=>R x y H2)
  {α:Type} {Q:α->Shared->Prop} {f:Value->Value->Sem α}
  (hf:∀v u s2 x y H2,Inv X pins σ H2 s2->RelV x v->RelV y u->R x y H2->wpAny (model X.prog X.w) X.A (f v u) Q X.xe s2) :
  wpAny (model X.prog X.w) X.A (eval a X.env) (fun v s₁=>wpAny (model X.prog X.w) X.A (eval b X.env) (fun u s₂=>wpAny (model X.prog X.w) X.A (f v u) Q X.xe s₂) X.xe s₁) X.xe s:=by
 refine au (ha pins s σ H _ I h) fun v s1 ⟨x,H1,I1,r1,q1⟩=>?_
 refine au (hb pins s1 σ H1 _ I1 q1) fun u s2 ⟨y,H2,I2,r2,q2⟩=>?_
 exact hf v u s2 x y H2 I2 r1 r2 q2
def kF(i:Nat):TE:=fun σ H Q=>∃v,σ[i]?=some (some v)/\Q v H
def tC(v:V):TE:=fun _ H Q=>Q v H
theorem yV{i:Nat}{x:Str}{pos:Pos}(hN:X.N[i]?=some x)(hv:mV X.env.scope x)(hd:(x == ("__debug__":Str))=false:=by decide)(hcd:(x == ("__classdict__":Str))=false:=by decide):PE X (.Name x pos) (kF i):=by
 intro pins s σ H Q I h
 obtain⟨v,e,h⟩:=h
 obtain⟨m,hn,hl⟩:=I.loc
 obtain⟨u,r,l⟩:=hl i x v hN e hv
 have fin:EP X pins σ Q u s:=⟨v,H,I,r,h⟩
 rcases l with⟨hk,hm⟩ | ⟨hk,c,hc,hcell⟩
 ·exact wpAny_Name (wpAny_loadName_local I.ok.kind hk hn hm fin) hd
 ·rcases hk with hk | hk
  ·exact wpAny_Name (wpAny_loadName_cell I.ok.kind hk hc hcell fin) hd
  ·exact wpAny_Name (wpAny_loadName_free I.ok.kind hk hc hcell fin hcd) hd
theorem ae{i j pos}:PE X (.Constant (.int i) j pos) (tC (.int i)):=fun _ _ _ H _ I h=>wpAny_Constant_int ⟨.int i,H,I.tok _,⟨_,rfl⟩,h⟩
theorem aW{b j pos}:PE X (.Constant (.bool b) j pos) (tC (.bl b)):=fun _ _ _ H _ I h=>Constant_bool ⟨.bl b,H,I,rfl,h⟩
theorem aN{x j pos}:PE X (.Constant (.str x) j pos) (tC (.str x)):=fun _ _ _ H _ I h=>Calls.Constant_str ⟨.str x,H,I.tok _,⟨_,rfl⟩,h⟩
def Gl(X:Cx)(x:Str):Prop:=X.env.kindOf x=some .globalImplicit
theorem kl{E:Value->Shared->Prop}{pins:List (Addr×Obj)}{s:Shared}{σ:St}{H:Hp}{x:Str}{u:Value}{pos:Pos}{Q:Value->Shared->Prop}(I:Inv X pins σ H s)(hg:Gl X x)(hm:X.mg x=some u)(h:Q u s)
  (hd:(x == ("__debug__":Str))=false:=by decide):wpAny (model X.prog X.w) X.A (eval (.Name x pos) X.env) Q E s:=
 Calls.Name_function_global I.ok.kind hg (Calls.loadGlobal_global (by rw[I.ok.glob];exact I.mod.glob.keeps I.bk) hm h) hd
theorem fm{E:Value->Shared->Prop}{pins:List (Addr×Obj)}{s:Shared}{σ:St}{H:Hp}{x:Str}{u:Value}{pos:Pos}{Q:Value->Shared->Prop}(I:Inv X pins σ H s)(hg:Gl X x)(hm:X.mg x=none)(hv:bootBuiltins x=some u)(h:Q u s)
  (hn:x≠"__name__":=by decide) (hd:(x == ("__debug__":Str))=false:=by decide):wpAny (model X.prog X.w) X.A (eval (.Name x pos) X.env) Q E s:=by
 obtain⟨mb,h1,h2⟩:=I.mod.blt
 exact Calls.Name_function_global I.ok.kind hg (Calls.loadGlobal_builtin (by rw[I.ok.glob];exact I.mod.glob.keeps I.bk) hm (by rw[I.ok.blt];exact h1.keeps I.bk) ((h2 x hn).trans hv) h) hd
theorem eO{x:Str}{v:V}{u:Value}{pos:Pos}(hg:Gl X x)(hm:X.mg x=some u)(r:RelV v u)(hd:(x == ("__debug__":Str))=false:=by decide):PE X (.Name x pos) (tC v):=
 fun _ _ _ H _ I h=>kl I hg hm ⟨v,H,I,r,h⟩ hd
theorem cJ{x:Str}{v:V}{u:Value}{pos:Pos}(hg:Gl X x)(hm:X.mg x=none)(hv:bootBuiltins x=some u)(r:RelV v u)(hn:x≠"__name__":=by decide)(hd:(x == ("__debug__":Str))=false:=by decide):PE X (.Name x pos) (tC v):=
 fun _ _ _ H _ I h=>fm I hg hm hv ⟨v,H,I,r,h⟩ hn hd
variable {a b:Expr} {ta tb:TE} {pos:Pos}
def PC(X:Cx)(op:CmpOp)(a b:Expr)(t:TE):Prop:=
 ∀(pins:List (Addr×Obj)) (s:Shared) (σ:St) (H:Hp) (Q:VK),Inv X pins σ H s->t σ H Q →
  wpAny (model X.prog X.w) X.A (eval a X.env) (fun v s₁=>wpAny (model X.prog X.w) X.A (eval b X.env) (fun u s₂=>wpAny (model X.prog X.w) X.A (compareOp op v u) (EP X pins σ Q) X.xe s₂) X.xe s₁) X.xe s
def tB(t:TE):TT:=fun σ H Q=>t σ H fun x H1=>∃c,x=.bl c/\Q c H1
theorem Ak{op:CmpOp}{t:TE}(h:PC X op a b t)(h1:behindInMarks op b=false:=by first | exact nobehind _ (by decide) (by decide) | rfl):PE X (.Compare a [op] [b] pos) t:=fun pins s σ H Q I hw=>wpAny_Compare1 (h pins s σ H Q I hw) h1
theorem AK{op:CmpOp}{t:TE}(h:PC X op a b t)(h1:behindInMarks op b=false:=by first | exact nobehind _ (by decide) (by decide) | rfl):PT X (.Compare a [op] [b] pos) (tB t):=by
 intro pins s σ H Q I hw
 refine wpAny_isTrue_Compare1 (au (h pins s σ H _ I hw) fun v s1 h1=>au h1 fun u s2 h2=>au h2 fun c s3 ⟨x,H1,I1,r1,q1⟩=>?_) h1
 obtain⟨d,rfl,q⟩:=q1
 cases r1
 exact wpAny_truthy_bool ⟨H1,I1,q⟩
theorem bj{e:Expr}{t:TE}(h:PE X e t)(he:∀whole,isTrue e X.env whole=(do let v ←whole;standAt e.pos;holding [v] (truthy v)):=by intro _;rfl):PT X e (tB t):=by
 intro pins s σ H Q I hw
 refine isTrue_plain (au (h pins s σ H _ I hw) fun v s1 ⟨x,H1,I1,r1,q1⟩=>?_) (he _)
 obtain⟨d,rfl,q⟩:=q1
 cases r1
 exact wpAny_truthy_bool ⟨H1,I1,q⟩
variable {tA tB':TT} {rest:List Expr}
def nB(t u:TT):TT:=fun σ H Q=>t σ H fun c H1=>if c=true then u σ H1 Q else Q false H1
def nO(t u:TT):TT:=fun σ H Q=>t σ H fun c H1=>if c=true then Q true H1 else u σ H1 Q
def sO(t:TT):TT:=fun σ H Q=>t σ H fun c H1=>Q (!c) H1
theorem fZ(ha:PT X a tA):PW X (.BoolOp .And [a] pos) tA:=by
 intro wh pins s σ H Q I h
 refine isTrue_and (au (ha pins s σ H Q I h) fun c s1 e=>?_)
 cases c with
 | true=>exact isTrue_and_nil e
 | false=>exact e
theorem cA(ha:PT X a tA):PW X (.BoolOp .Or [a] pos) tA:=by
 intro wh pins s σ H Q I h
 refine isTrue_or (au (ha pins s σ H Q I h) fun c s1 e=>?_)
 cases c with
 | false=>exact isTrue_or_nil e
 | true=>exact e
theorem fe(ha:PT X a tA)(hb:PW X (.BoolOp .And (b::rest) pos) tB'):PW X (.BoolOp .And (a::b::rest) pos) (nB tA tB'):=by
 intro wh pins s σ H Q I h
 refine isTrue_and (au (ha pins s σ H _ I h) fun c s1 ⟨H1,I1,q1⟩=>?_)
 cases c with
 | true=>exact hb wh pins s1 σ H1 Q I1 q1
 | false=>exact⟨H1,I1,q1⟩
theorem bS(ha:PT X a tA)(hb:PW X (.BoolOp .Or (b::rest) pos) tB'):PW X (.BoolOp .Or (a::b::rest) pos) (nO tA tB'):=by
 intro wh pins s σ H Q I h
 refine isTrue_or (au (ha pins s σ H _ I h) fun c s1 ⟨H1,I1,q1⟩=>?_)
 cases c with
 | true=>exact⟨H1,I1,q1⟩
 | false=>exact hb wh pins s1 σ H1 Q I1 q1
theorem bI(ha:PT X a tA):PT X (.UnaryOp .Not a pos) (sO tA):=by
 intro pins s σ H Q I h
 exact isTrue_not (ha pins s σ H (fun c H1=>Q (!c) H1) I h)
def pT(ta tb:TE):TE:=fun σ H Q=>ta σ H fun x H1=>∃c,x=.bl c/\if c=true then tb σ H1 Q else Q (.bl false) H1
def qY(ta:TE):TE:=fun σ H Q=>ta σ H fun x H1=>∃c,x=.bl c/\Q (.bl (!c)) H1
theorem cp{op}{t:TE}(h:PE X a t):PE X (.BoolOp op [a] pos) t:=fun pins s σ H Q I hw=>BoolOp_one (h pins s σ H Q I hw)
theorem bQ(ha:PE X a ta)(hb:PE X (.BoolOp .And (b::rest) pos) tb):PE X (.BoolOp .And (a::b::rest) pos) (pT ta tb):=by
 intro pins s σ H Q I h
 refine BoolOp_and (au (ha pins s σ H _ I h) fun v s1 ⟨x,H1,I1,r1,q1⟩=>?_)
 obtain⟨c,rfl,q1⟩:=q1
 cases r1
 refine wpAny_truthy_bool ?_
 cases c with
 | true=>exact hb pins s1 σ H1 Q I1 q1
 | false=>exact⟨.bl false,H1,I1,rfl,q1⟩
theorem fT(ha:PE X a ta):PE X (.UnaryOp .Not a pos) (qY ta):=by
 intro pins s σ H Q I h
 refine UnaryOp_ (au (ha pins s σ H _ I h) fun v s1 ⟨x,H1,I1,r1,q1⟩=>?_)
 obtain⟨c,rfl,q1⟩:=q1
 cases r1
 exact not_of (wpAny_truthy_bool ⟨.bl (!c),H1,I1,rfl,q1⟩)
end
end L2
namespace L2
open PySem PySem.Spec PyProof.Rows
def ag(K:PySem.W.Frag)(H:Hp)(a:Addr)(xs:List V):Prop:=
 Rd H a (.lst xs) ∨
  ∃(o:Obj) (its:Array Value) (n:Nat),K.lookup a=some o/\o.cls=.type "list"/\o.dict=none/\o.data=.seq its n/\its.size<=sizeLine/\Vals xs its.toList
def ah(K:PySem.W.Frag)(H:Hp)(a:Addr)(xs:List V):Prop:=
 Rd H a (.tup xs) ∨
  ∃(o:Obj) (its:Array Value) (n:Nat),K.lookup a=some o/\o.cls=.type "tuple"/\o.data=.seq its n/\its.size<=sizeLine/\Vals xs its.toList
def uq:Value->Option V
 | .none=>some .non
 | .bool b=>some (.bl b)
 | .int i _=>some (.int i)
 | .str x _=>some (.str x)
 | .bytes b _=>some (.byt b)
 | .float b _=>some (.flt b)
 | .ref a=>some (.ref a)
 | .type n=>some (.ty n)
 | _=>none
theorem RelV.abs{x:V}{u:Value}(r:RelV x u):uq u=some x:=by
 cases x with
 | non=>cases r;rfl
 | bl _=>cases r;rfl
 | int _=>obtain⟨t,rfl⟩:=r;rfl
 | str _=>obtain⟨t,rfl⟩:=r;rfl
 | byt _=>obtain⟨t,rfl⟩:=r;rfl
 | flt _=>obtain⟨t,rfl⟩:=r;rfl
 | ref _=>cases r;rfl
 | ty _=>cases r;rfl
theorem RelV.inj{x y:V}{u:Value}(r:RelV x u)(q:RelV y u):x=y:=Option.some.inj (r.abs.symm.trans q.abs)
theorem Vals.inj:∀{xs ys:List V} {us:List Value},Vals xs us->Vals ys us->xs=ys
 | _,_,_,.nil,.nil=>rfl
 | _,_,_,.cons r t,.cons r' t'=>by rw[r.inj r',Vals.inj t t']
section
variable {X:Cx} {pins:List (Addr×Obj)} {σ:St} {H:Hp} {s:Shared} {a:Addr} {xs ys:List V}
theorem ag.of{K:PySem.W.Frag}(h:H a=some (.lst xs)):ag K H a xs:=.inl (.inl h)
theorem ah.of{K:PySem.W.Frag}(h:H a=some (.tup xs)):ah K H a xs:=.inl (.inl h)
theorem Inv.list(I:Inv X pins σ H s)(h:ag X.K H a xs):∃its:List Value,Vals xs its/\PlainL s.heap a its.toArray/\xs.length<=sizeLine:=by
 rcases h with h | ⟨o,its,n,hk,hc,hd,hs,hz,r⟩
 ·obtain⟨z,its,n,r,e⟩:=h.ok I.hok
  exact⟨its,r,⟨_,n,e,rfl,rfl,rfl⟩,z⟩
 ·refine⟨its.toList,r,⟨o,n,I.kIn a o hk,hc,hd,by simpa using hs⟩,?_⟩
  have e:=r.length
  simp only[Array.length_toList]at e
  omega
theorem Inv.tuple(I:Inv X pins σ H s)(h:ah X.K H a xs):∃its:List Value,Vals xs its/\IsTup s.heap a its.toArray/\xs.length<=sizeLine:=by
 rcases h with h | ⟨o,its,n,hk,hc,hs,hz,r⟩
 ·obtain⟨z,its,r,p⟩:=h.ok I.hok
  exact⟨its,r,p,z⟩
 ·refine⟨its.toList,r,⟨o,I.kIn a o hk,hc,n,by simpa using hs⟩,?_⟩
  have e:=r.length
  simp only[Array.length_toList]at e
  omega
theorem Inv.list_inj(I:Inv X pins σ H s)(h:ag X.K H a xs)(h':ag X.K H a ys):xs=ys:=by
 obtain⟨its,r,⟨o,n,e,_,_,d⟩,_⟩:=I.list h
 obtain⟨its',r',⟨o',n',e',_,_,d'⟩,_⟩:=I.list h'
 rw[e]at e';cases e'
 rw[d]at d'
 injection d' with d1 _
 have:its=its':=by simpa using congrArg Array.toList d1
 subst this
 exact r.inj r'
theorem Inv.tuple_inj(I:Inv X pins σ H s)(h:ah X.K H a xs)(h':ah X.K H a ys):xs=ys:=by
 obtain⟨its,r,⟨o,e,_,n,d⟩,_⟩:=I.tuple h
 obtain⟨its',r',⟨o',e',_,n',d'⟩,_⟩:=I.tuple h'
 rw[e]at e';cases e'
 rw[d]at d'
 injection d' with d1 _
 have:its=its':=by simpa using congrArg Array.toList d1
 subst this
 exact r.inj r'
end
abbrev Cx.wish(X:Cx)(E:Value->Shared->Prop):Cx:={ X with xe:=E }
abbrev Cx.nox(X:Cx):Cx:=X.wish fun _ _=>False
theorem Cx.Ok.wish{X:Cx}(ok:X.Ok)(E:Value->Shared->Prop):(X.wish E).Ok:=
 ⟨ok.mod,ok.kind,ok.glob,ok.blt,ok.above,ok.inj,ok.has,ok.cab,ok.hd,ok.frames,ok.stk,ok.exf,ok.bs,ok.bsz,ok.noex,ok.exfs,ok.funs,ok.frf⟩
theorem Cx.Ok.unwish{X:Cx}{E:Value->Shared->Prop}(ok:(X.wish E).Ok):X.Ok:=
 ⟨ok.mod,ok.kind,ok.glob,ok.blt,ok.above,ok.inj,ok.has,ok.cab,ok.hd,ok.frames,ok.stk,ok.exf,ok.bs,ok.bsz,ok.noex,ok.exfs,ok.funs,ok.frf⟩
section
variable {X:Cx} {pins:List (Addr×Obj)} {σ:St} {H:Hp} {s:Shared} {E:Value->Shared->Prop}
theorem Inv.wish(I:Inv X pins σ H s)(E:Value->Shared->Prop):Inv (X.wish E) pins σ H s:=⟨I.ok.wish E,I.os,I.bare,I.base,I.loc,I.cell,I.free,I.freeC,I.pin,I.hok,I.len⟩
theorem Inv.unwish(I:Inv (X.wish E) pins σ H s):Inv X pins σ H s:=⟨I.ok.unwish,I.os,I.bare,I.base,I.loc,I.cell,I.free,I.freeC,I.pin,I.hok,I.len⟩
theorem SP.unwish{D:Ends}{f:Flow}{s':Shared}(h:SP (X.wish E) pins D f s'):SP X pins D f s':=by
 cases f with
 | next=>obtain⟨σ',H',I,q⟩:=h;exact⟨σ',H',I.unwish,q⟩
 | brk=>obtain⟨σ',H',I,q⟩:=h;exact⟨σ',H',I.unwish,q⟩
 | cont=>obtain⟨σ',H',I,q⟩:=h;exact⟨σ',H',I.unwish,q⟩
 | ret u=>obtain⟨v,σ',H',I,r,q⟩:=h;exact⟨v,σ',H',I.unwish,r,q⟩
theorem b9.nox{st:List Stmt}{t:TS}(h:b9 X.nox st t):b9 X st t:=fun pins s σ H D I hw=>
 wpAny_mono (h pins s σ H D (I.wish _) hw) (fun _ _ q=>q.unwish) fun _ _ z=>False.elim z
end
section
variable {X:Cx} {st:Stmt} {rest:List Stmt} {t u:TS} {e:Expr} {te:TE} {pos:Pos}
def tK:TS:=fun D σ H=>D.nx σ H
def oJ(t u:TS):TS:=fun D σ H=>t { D with nx:=u D } σ H
theorem aM:b9 X [] tK:=fun _ _ σ H _ I h=>wpAny_execs_nil ⟨σ,H,I,h⟩
theorem ai(h1:PS X st t)(h2:b9 X rest u):b9 X (st::rest) (oJ t u):=by
 intro pins s σ H D I h
 refine wpAny_execs_cons (au (h1 pins s σ H { D with nx:=u D } I h) fun f s1 q=>?_)
 cases f with
 | next=>
  obtain⟨σ',H',I',q⟩:=q
  exact h2 pins s1 σ' H' D I' q
 | ret v=>exact q
 | brk=>exact q
 | cont=>exact q
theorem ao(h1:PS X st t):b9 X [st] t:=by
 intro pins s σ H D I h
 refine wpAny_execs_cons (au (h1 pins s σ H D I h) fun f s1 q=>?_)
 cases f with
 | next=>exact wpAny_execs_nil q
 | ret v=>exact q
 | brk=>exact q
 | cont=>exact q
theorem Inv.quiet{pins:List (Addr×Obj)}{σ:St}{H:Hp}{s:Shared}(I:Inv X pins σ H s):interactive X.env=false:=by simp[interactive,I.ok.kind]
def nK(te:TE):TS:=fun D σ H=>te σ H fun _ H1=>D.nx σ H1
theorem bo(he:PE X e te)(hs:swapsWith e none pos.line X.env=pure false:=by rfl):PS X (.Expr e pos) (nK te):=by
 intro pins s σ H D I h
 exact wpAny_Expr_any (au (he pins s σ H _ I h) fun v s1 ⟨x,H1,I1,r1,q1⟩=>⟨σ,H1,I1,q1⟩) I.quiet hs
def oo(te:TE):TS:=fun D σ H=>te σ H D.rt
theorem ax(he:PE X e te):PS X (.Return (some e) pos) (oo te):=by
 intro pins s σ H D I h
 exact wpAny_Return_some (au (he pins s σ H _ I h) fun v s1 ⟨x,H1,I1,r1,q1⟩=>⟨x,σ,H1,I1,r1,q1⟩)
def rh(c:TT)(t u:TS):TS:=fun D σ H=>c σ H fun b H1=>if b=true then t D σ H1 else u D σ H1
theorem aT{c:Expr}{a b:List Stmt}{tc:TT}(hc:PT X c tc)(ha:b9 X a t)(hb:b9 X b u):PS X (.If c a b pos) (rh tc t u):=by
 intro pins s σ H D I h
 refine wpAny_If (au (hc pins s σ H _ I h) fun d s1 ⟨H1,I1,q1⟩=>?_)
 cases d with
 | true=>exact ha pins s1 σ H1 D I1 q1
 | false=>exact hb pins s1 σ H1 D I1 q1
def xh:TS:=fun _ _ _=>False
theorem kP:PS X st xh:=fun _ _ _ _ _ _ h=>h.elim
end
abbrev TG:=V->St->Hp->(St->Hp->Prop)->Prop
abbrev cL:=List V->St->Hp->(St->Hp->Prop)->Prop
def PG(X:Cx)(target:Expr)(t:TG):Prop:=
 ∀(pins:List (Addr×Obj)) (s:Shared) (σ:St) (H:Hp) (v:V) (u:Value) (Q:St->Hp->Prop),Inv X pins σ H s->RelV v u->t v σ H Q →
  wpAny (model X.prog X.w) X.A (assign target X.env u) (fun _ s'=>∃σ' H',Inv X pins σ' H' s'/\Q σ' H') X.xe s
def fG(X:Cx)(ts:List Expr)(t:cL):Prop:=
 ∀(pins:List (Addr×Obj)) (s:Shared) (σ:St) (H:Hp) (vs:List V) (us:List Value) (Q:St->Hp->Prop),Inv X pins σ H s->Vals vs us->t vs σ H Q →
  wpAny (model X.prog X.w) X.A (assignInOrder ((assignEach ts X.env).map (·.2)) us) (fun _ s'=>∃σ' H',Inv X pins σ' H' s'/\Q σ' H') X.xe s
abbrev jQ:=V->V->V->Hp->(Hp->Prop)->Prop
def ph(X:Cx)(t:jQ):Prop:=
 ∀(pins:List (Addr×Obj)) (s:Shared) (σ:St) (H:Hp) (o i v:V) (ov iv u:Value) (Q:Hp->Prop),Inv X pins σ H s->RelV o ov->RelV i iv->RelV v u->t o i v H Q →
  wpAny (model X.prog X.w) X.A (setItem ov iv u) (fun _ s'=>∃H',Inv X pins σ H' s'/\Q H') X.xe s
section
variable {X:Cx} {pos:Pos}
def gL(i:Nat):TG:=fun v σ H Q=>Q (σ.set i (some v)) H
theorem aI{i:Nat}{x:Str}(hN:X.N.Nodup)(hi:X.N[i]?=some x)(hx:Loc X.env.scope x)(hf:X.fn x=true\/X.env.scope.names.lookup x=some .local:=by first | exact .inl rfl | exact .inr rfl | assumption):PG X (.Name x pos) (gL i):=by
 intro pins s σ H v u Q I r h
 exact wpAny_assign_Name (jg I hN hi hx r (fun s' I'=>⟨_,H,I',h⟩) hf)
def nV:cL:=fun vs σ H Q=>vs=[]/\Q σ H
def qF(t:TG)(u:cL):cL:=fun vs σ H Q=>∃v r,vs=v::r/\t v σ H fun σ' H'=>u r σ' H' Q
theorem eD:fG X [] nV:=by
 intro pins s σ H vs us Q I r h
 obtain⟨e,h⟩:=h
 subst e
 cases r
 exact assignInOrder_nil ⟨σ,H,I,h⟩
theorem bp{e:Expr}{es:List Expr}{t:TG}{u:cL}(h1:PG X e t)(h2:fG X es u)
  (hs:(assignEach (e::es) X.env).map (·.2)=assign e X.env::(assignEach es X.env).map (·.2):=by rfl):fG X (e::es) (qF t u):=by
 intro pins s σ H vs us Q I r h
 obtain⟨v,vr,e1,h⟩:=h
 subst e1
 cases r with
 | cons r rr=>
  rw[hs]
  refine assignInOrder_cons (au (h1 pins s σ H _ _ _ I r h) fun _ s1 ⟨σ1,H1,I1,q1⟩=>?_)
  exact h2 pins s1 σ1 H1 _ _ Q I1 rr q1
def lU(K:PySem.W.Frag)(n:Nat)(t:cL):TG:=fun v σ H Q=>∃a xs,v=.ref a/\ah K H a xs/\xs.length=n/\t xs σ H Q
theorem Ad{es:List Expr}{k:Nat}{t:cL}{n:Nat}(hc:X.calm=true)(h:fG X es t)
  (hn:(assignEach es X.env).length=n:=by rfl) (hst:(assignEach es X.env).findIdx? (·.1)=none:=by rfl):PG X (.Tuple es k pos) (lU X.K n t):=by
 intro pins s σ H v u Q I r hw
 obtain⟨a,xs,e1,hq,hl,hw⟩:=hw
 subst e1
 cases r
 obtain⟨its,rv,ht,hz⟩:=I.tuple hq
 refine assign_Tuple_tuple (I.ok.hd hc) ht (by simp[hn,←hl,rv.length]) hst fun h' hx=>?_
 have I1:Inv X pins σ H { s with heap:=h' }:=I.kept (t':=s.toks) fun b o e=>hx b o (Nat.ne_of_lt (Heap.lt_size e)) e
 exact h pins _ σ H xs _ Q I1 (by simpa using rv) hw
def tJ(to ti:TE)(t:jQ):TG:=fun v σ H Q=>to σ H fun o H1=>ti σ H1 fun i H2=>t o i v H2 fun H3=>Q σ H3
theorem ie{o i:Expr}{to ti:TE}{t:jQ}(ho:PE X o to)(hi:PE X i ti)(hs:ph X t)
  (ha:∀v,assign (.Subscript o i pos) X.env v=(do
   let ov ←holding [v] (eval o X.env)
   let iv ←holding [v,ov] (eval i X.env)
   standAt pos
   holding [v,ov,iv] (setItem ov iv v)
   release [v,ov,iv] []):=by intro _;rfl):PG X (.Subscript o i pos) (tJ to ti t):=by
 intro pins s σ H v u Q I r h
 rw[ha]
 refine wpAny_bind (wpAny_holding (au (ho pins s σ H _ I h) fun ov s1 ⟨x,H1,I1,r1,q1⟩=>?_))
 refine wpAny_bind (wpAny_holding (au (hi pins s1 σ H1 _ I1 q1) fun iv s2 ⟨y,H2,I2,r2,q2⟩=>?_))
 refine wpAny_bind (wpAny_standAt (wpAny_bind (wpAny_holding (au (hs pins s2 σ H2 x y v ov iv u _ I2 r1 r2 r q2) fun _ s3 ⟨H3,I3,q3⟩=>?_))))
 exact wpAny_release ⟨σ,H3,I3,q3⟩
def iy(te:TE)(g:TG):TS:=fun D σ H=>te σ H fun x H1=>g x σ H1 D.nx
theorem dY{tg e:Expr}{te:TE}{g:TG}(he:PE X e te)(hg:PG X tg g)(hs:swapsWithSole [tg] e pos.line X.env=pure false:=by rfl)(hw:swappedStores [tg] e X.env=pure none:=by rfl)
  (h1:(assignEach [tg] X.env).map (·.2)=[assign tg X.env]:=by rfl):PS X (.Assign [tg] e pos) (iy te g):=by
 intro pins s σ H D I h
 refine wpAny_Assign_stores (au (he pins s σ H _ I h) fun v s1 ⟨x,H1,I1,r1,q1⟩=>?_) hs hw
 rw[h1]
 exact au (hg pins s1 σ H1 x v _ I1 r1 q1) fun _ s2 q=>q
theorem aA{i:Nat}{x:Str}{e:Expr}{te:TE}{pos':Pos}(hN:X.N.Nodup)(hi:X.N[i]?=some x)(hx:Loc X.env.scope x)(he:PE X e te)(hs:swapsWith e (some (.Name x pos')) pos.line X.env=pure false:=by rfl)(hf:X.fn x=true\/X.env.scope.names.lookup x=some .local:=by first | exact .inl rfl | exact .inr rfl | assumption):
  PS X (.Assign [.Name x pos'] e pos) (iy te (gL i)):=by
 intro pins s σ H D I h
 refine wpAny_Assign_Name (au (he pins s σ H _ I h) fun v s1 ⟨y,H1,I1,r1,q1⟩=>?_) hs
 exact jg I1 hN hi hx r1 (fun s2 I2=>⟨_,H1,I2,q1⟩) hf
def nT(i j:Nat)(ta:TA):TS:=fun D σ H=>ta σ H fun vs H1=>∃v w,vs=[v,w]/\D.nx ((σ.set i (some v)).set j (some w)) H1
theorem rN{i j:Nat}{x y:Str}{a b:Expr}{ta:TA}{px py pt:Pos}{kt k2 pt2}(hc:X.calm=true)(hN:X.N.Nodup)(hi:X.N[i]?=some x)(hj:X.N[j]?=some y)(hij:i≠j)
  (hx:X.env.scope.names.lookup x=some .local) (hy:X.env.scope.names.lookup y=some .local) (ha:PA X [a,b] ta)
  (hw:swappedStores [.Tuple [.Name x px,.Name y py] kt pt] (.Tuple [a,b] k2 pt2) X.env=pure (some [x,y]))
  (hs:swapsWithSole [.Tuple [.Name x px,.Name y py] kt pt] (.Tuple [a,b] k2 pt2) pos.line X.env=pure false:=by rfl) :
  PS X (.Assign [.Tuple [.Name x px,.Name y py] kt pt] (.Tuple [a,b] k2 pt2) pos) (nT i j ta):=by
 intro pins s σ H D I h
 rw[exec_Assign_arm]
 refine wpAny_bind (wpAny_standAt ?_)
 rw[hs]
 refine wpAny_bind (wpAny_pure ?_)
 rw[if_neg (by decide)]
 refine wpAny_bind (Tuple_ (au (ha _ pins s σ H _ I h) fun us s1 ⟨vs,H1,I1,r1,q1⟩=>?_))
 obtain⟨v,w,e1,q1⟩:=q1
 subst e1
 obtain⟨u1,u2,rfl,rv,rw'⟩:∃u1 u2,us=[u1,u2]/\RelV v u1/\RelV w u2:=by
  cases r1 with
  | cons p q=>
   cases q with
   | cons p' q'=>
    cases q'
    exact⟨_,_,rfl,p,p'⟩
 refine wpAny_newObj_type ?_ (by show 2<=sizeLine;decide)
 have I2:Inv X pins σ H1 { s1 with heap:=s1.heap.push { cls:=.type "tuple",data:=.seq [u1,u2].toArray } }:=I1.kept (t':=s1.toks) fun b o e=>Heap.get?_push_of_some _ e
 rw[hw]
 refine wpAny_bind (wpAny_pure ?_)
 show wpAny (model X.prog X.w) X.A (do rule "assign.swapped-stores";let items ←unpackItems (.ref s1.heap.objs.size) 2 none;assignInOrder [fun v=>bindName X.env y v,fun v=>bindName X.env x v] items.reverse;pure Flow.next) _ _ _
 refine wpAny_bind (wpAny_rule (wpAny_bind (unpackItems_tuple (items:=#[u1,u2]) (I.ok.hd hc) (IsTup.new s1.heap _) fun h' hx'=>?_)))
 have I3:=I2.kept (h':=h') (t':=s1.toks) fun b o e=>hx' b o (Nat.ne_of_lt (Heap.lt_size e)) e
 show wpAny _ _ (assignInOrder [fun v=>bindName X.env y v,fun v=>bindName X.env x v] [u2,u1] >>= fun _=>pure Flow.next) _ _ _
 refine wpAny_bind (assignInOrder_cons (wpAny_bindName (jg I3 hN hj (.inl hy) rw' (fun s2 I4=>?_) (.inr hy))))
 refine assignInOrder_cons (wpAny_bindName (jg I4 hN hi (.inl hx) rv (fun s3 I5=>assignInOrder_nil (wpAny_pure ?_)) (.inr hx)))
 rw[List.set_comm _ _ (Ne.symm hij)]at I5
 exact⟨_,H1,I5,q1⟩
end
section
variable {X:Cx} {pos:Pos}
def zO(c:TT)(tb:TS):TS:=fun D σ H=>∃W:Nat->St->Hp->Prop,(∃m,W m σ H)/\∀m σ H,W m σ H →
 c σ H fun b H1=>if b=true then ∃N:St->Hp->Prop,(∀σ' H',N σ' H'->∃m',m'<m/\W m' σ' H')/\tb { D with nx:=N,ct:=N,bk:=D.nx } σ H1 else D.nx σ H1
theorem Aq{c:Expr}{body:List Stmt}{tc:TT}{tb:TS}(hp:PassesOwn (model X.prog X.w) X.A X.env X.xe)(hc:PT X c tc)(hb:b9 X body tb):PS X (.While c body [] pos) (zO tc tb):=by
 intro pins s σ H D I h
 obtain⟨W,⟨m0,w0⟩,turn⟩:=h
 refine wpAny_While (codeAny_whileLoop (fun n s'=>∃σ' H',Inv X pins σ' H' s'/\W n σ' H') ?_ m0 ⟨σ,H,I,w0⟩)
 rintro n s1 ⟨σ1,H1,I1,w1⟩
 refine wpAny_passesOwn hp (au (hc pins s1 σ1 H1 _ I1 (turn n σ1 H1 w1)) fun b s2 ⟨H2,I2,q2⟩=>?_)
 cases b with
 | true=>
  obtain⟨N,hN,q2⟩:=q2
  rw[if_pos rfl]
  refine wpAny_passesOwn hp (au (hb pins s2 σ1 H2 _ I2 q2) fun f s3 q3=>?_)
  cases f with
  | next=>
   obtain⟨σ3,H3,I3,n3⟩:=q3
   obtain⟨m',hm,w3⟩:=hN σ3 H3 n3
   exact⟨m',hm,σ3,H3,I3,w3⟩
  | cont=>
   obtain⟨σ3,H3,I3,n3⟩:=q3
   obtain⟨m',hm,w3⟩:=hN σ3 H3 n3
   exact⟨m',hm,σ3,H3,I3,w3⟩
  | brk=>exact q3
  | ret v=>exact q3
 | false=>
  rw[if_neg Bool.false_ne_true]
  exact wpAny_execs_nil ⟨σ1,H2,I2,q2⟩
end
structure It where
 go:Nat->Hp->Prop
 yld:Nat->Hp->V->Hp->Prop
 stop:Nat->Hp->Prop
def br(X:Cx)(pins:List (Addr×Obj))(H:Hp)(b:Addr):Prop:=
 H b=none/\b≠X.env.locals/\b∉X.fs/\(b∈X.ex\/X.s₀.heap.objs.size<=b)/\(∀x c,X.env.cells.lookup x=some c->c≠b)/\∀p∈X.pn++pins,p.1≠b
theorem Inv.fpOk{X:Cx}{pins:List (Addr×Obj)}{σ:St}{H H':Hp}{s:Shared}{b:Addr}(I:Inv X pins σ H s)(hb:s.heap.objs.size<=b)(hn:H' b=none):br X pins H' b:=by
 refine⟨hn,Nat.ne_of_gt (Nat.lt_of_lt_of_le I.lt hb),I.nofs hb,.inr (Nat.le_trans I.sz hb),fun x c e z=>?_,fun p hp z=>?_⟩
 ·obtain⟨v,q⟩:=I.cell x c e
  exact absurd (Nat.lt_of_lt_of_le q.lt (by rw[z];exact hb)) (Nat.lt_irrefl _)
 ·exact absurd (Nat.lt_of_lt_of_le (Heap.lt_size (I.pin p hp).1) (by rw[z];exact hb)) (Nat.lt_irrefl _)
structure Turn(P:Program)(w:World)(K:PySem.W.Frag)(tg:Expr)(J:It)(fp:List Addr)(it:Addr)(tn:Nat->Heap->Prop):Prop where
 mem:it∈fp
 obj:∀i h,tn i h->∀b∈fp,∃o,h.get? b=some o/\∀v,o.data≠.cell v
 keep:∀i h h',tn i h->(∀b∈fp,∀o,h.get? b=some o->h'.get? b=some o)->tn i h'
 item:∀(X:Cx),X.prog=P->X.w=w->X.K=K->X.calm=true->∀(i:Nat) (pins:List (Addr×Obj)) (s:Shared) (σ:St) (H:Hp) (E:Value->Shared->Prop),Inv X pins σ H s->(∀b∈fp,br X pins H b)->tn i s.heap->J.go i H →
  wpAny (model P w) X.A (pyNext (.ref it)) (fun r s1=>∃u,r=some u ∧
   wpAny (model P w) X.A (letOwnedTupleGo tg (.ref it) u) (fun _ s2=>∃x H',Inv X pins σ H' s2/\RelV x u/\J.yld i H x H'/\tn (i+1) s2.heap/\∀b∈fp,H' b=none) E s1) E s
 done:∀(X:Cx),X.prog=P->X.w=w->X.K=K->X.calm=true->∀(i:Nat) (pins:List (Addr×Obj)) (s:Shared) (σ:St) (H:Hp) (E:Value->Shared->Prop),Inv X pins σ H s->(∀b∈fp,br X pins H b)->tn i s.heap->J.stop i H →
  wpAny (model P w) X.A (pyNext (.ref it)) (fun r s1=>r=none/\Inv X pins σ H s1) E s
 self:∀(A:Around) (i:Nat) (s:Shared) (Q:Value->Shared->Prop) (E:Value->Shared->Prop),tn i s.heap->Q (.ref it) s->wpAny (model P w) A (pyIter (.ref it)) Q E s
abbrev TI:=St->Hp->(It->Hp->Prop)->Prop
def mR(X:Cx)(pins:List (Addr×Obj))(σ:St)(tg:Expr)(R:It->Hp->Prop)(itv:Value)(s2:Shared):Prop:=
 ∃(it:Addr) (fp:List Addr) (tn:Nat->Heap->Prop) (J:It) (H':Hp),itv=.ref it/\Inv X pins σ H' s2/\Turn X.prog X.w X.K tg J fp it tn/\tn 0 s2.heap/\(∀b∈fp,br X pins H' b)/\R J H'
def PI(X:Cx)(tg iter:Expr)(wi:TI):Prop:=
 ∀(pins:List (Addr×Obj)) (s:Shared) (σ:St) (H:Hp) (R:It->Hp->Prop),Inv X pins σ H s->wi σ H R →
  wpAny (model X.prog X.w) X.A (eval iter X.env) (fun v s1=>wpAny (model X.prog X.w) X.A (pyIter v) (mR X pins σ tg R) X.xe s1) X.xe s
theorem jj {M : Model} {A : Around} {E : Value → Shared → Prop} {s : Shared} {tg : Expr} {it : Addr} {u : Value} {o : Obj} {n : String} {vs : Array Value} {Q : Unit → Shared → Prop} (ho : s.heap.get? it = some o) (hc : o.cls = .type n) (hd : o.data = .fields vs)
    (hn : ["enumerate", "zip", "dict_itemiterator", "dict_reverseitemiterator", "odict_iterator", "itertools.zip_longest", "itertools.pairwise"].contains n = false) (hQ : Q () s) : wpAny M A (letOwnedTupleGo tg (.ref it) u) Q E s := by
  unfold letOwnedTupleGo
  cases tg <;> first
    | exact wpAny_pure hQ
    | (cases u <;> first
        | exact wpAny_pure hQ
        | (refine wpAny_bind (wpAny_load ho ?_)
           rw [hc, hd]
           show wpAny M A (if (["enumerate", "zip", "dict_itemiterator", "dict_reverseitemiterator", "odict_iterator", "itertools.zip_longest", "itertools.pairwise"].contains n && vs[0]? == some (rawInt _)) = true then _ else _) Q E s
           rw [if_neg (by intro h; rw [hn, Bool.false_and] at h; cases h)]
           exact wpAny_pure hQ))
def cb(K:PySem.W.Frag)(a:Addr):It:=
 ⟨fun i H=>∃xs x,ag K H a xs/\xs[i]?=some x,fun i H x H'=>H'=H/\∀xs,ag K H a xs->xs[i]?=some x,fun i H=>∃xs,ag K H a xs/\xs.length<=i⟩
def cG(K:PySem.W.Frag)(a:Addr):It:=
 ⟨fun i H=>∃xs x,ah K H a xs/\xs[i]?=some x,fun i H x H'=>H'=H/\∀xs,ah K H a xs->xs[i]?=some x,fun i H=>∃xs,ah K H a xs/\xs.length<=i⟩
def cN(lo:Int)(n:Nat):It:=⟨fun i _=>i<n,fun i H x H'=>H'=H/\x=.int (lo+i),fun i _=>n<=i⟩
theorem wc{P:Program}{w:World}{K:PySem.W.Frag}{tg:Expr}(a it:Addr):Turn P w K tg (cb K a) [it] it (fun i h=>h.IsListIter it a i) where
 mem:=by simp
 obj:=fun i h st b hb=>by
  have e:b=it:=by simpa using hb
  subst e
  obtain⟨o,e,c,d⟩:=st
  exact⟨o,e,fun v z=>by rw[d]at z;cases z⟩
 keep:=fun i h h' st k=>st.at fun o e=>k it (by simp) o e
 item:=by
  intro X hP hw hK hc i pins s σ H E I hf st hg
  subst hP hw hK
  obtain⟨xs,x,hq,hx⟩:=hg
  obtain⟨its,rv,p,hz⟩:=I.list hq
  obtain⟨u,hu,ru⟩:=rv.get hx
  obtain⟨f0,f1,f2,f3,f4,f5⟩:=hf it (by simp)
  refine wpAny_pyNext_list_item st p.isList (x:=u) (by simpa using hu) fun h' st' sb=>?_
  have I1:Inv X pins σ H { s with heap:=h' }:=I.turned (t':=s.toks) (fun b o hb e=>(sb.2 b hb).trans e) f0 f1 f3 f4 f5
  obtain⟨o,e,c,d⟩:=id st'
  exact⟨u,rfl,jj (s:={ s with heap:=h' }) e c d (by decide) ⟨x,H,I1,ru,⟨rfl,fun ys hy=>by rw[I.list_inj hy hq];exact hx⟩,st',fun b hb=>(hf b hb).1⟩⟩
 done:=by
  intro X hP hw hK hc i pins s σ H E I hf st hg
  subst hP hw hK
  obtain⟨xs,hq,hx⟩:=hg
  obtain⟨its,rv,p,hz⟩:=I.list hq
  obtain⟨f0,f1,f2,f3,f4,f5⟩:=hf it (by simp)
  have hl:=rv.length
  exact wpAny_pyNext_list_end (I.ok.hd hc) st p.isList (by simp;omega) fun h' eb=>⟨rfl,I.turned (t':=s.toks) (fun b o hb e=>eb b o hb e) f0 f1 f3 f4 f5⟩
 self:=fun _ _ _ _ _ st h=>wpAny_pyIter_listiter st h
theorem wL{P:Program}{w:World}{K:PySem.W.Frag}{tg:Expr}(a it:Addr):Turn P w K tg (cG K a) [it] it (fun i h=>h.IsTupleIter it a i) where
 mem:=by simp
 obj:=fun i h st b hb=>by
  have e:b=it:=by simpa using hb
  subst e
  obtain⟨o,e,c,d⟩:=st
  exact⟨o,e,fun v z=>by rw[d]at z;cases z⟩
 keep:=fun i h h' st k=>st.at fun o e=>k it (by simp) o e
 item:=by
  intro X hP hw hK hc i pins s σ H E I hf st hg
  subst hP hw hK
  obtain⟨xs,x,hq,hx⟩:=hg
  obtain⟨its,rv,p,hz⟩:=I.tuple hq
  obtain⟨u,hu,ru⟩:=rv.get hx
  obtain⟨f0,f1,f2,f3,f4,f5⟩:=hf it (by simp)
  refine wpAny_pyNext_tuple_item st (show s.heap.IsTuple a its.toArray from p) (x:=u) (by simpa using hu) fun h' st' sb=>?_
  have I1:Inv X pins σ H { s with heap:=h' }:=I.turned (t':=s.toks) (fun b o hb e=>(sb.2 b hb).trans e) f0 f1 f3 f4 f5
  obtain⟨o,e,c,d⟩:=id st'
  exact⟨u,rfl,jj (s:={ s with heap:=h' }) e c d (by decide) ⟨x,H,I1,ru,⟨rfl,fun ys hy=>by rw[I.tuple_inj hy hq];exact hx⟩,st',fun b hb=>(hf b hb).1⟩⟩
 done:=by
  intro X hP hw hK hc i pins s σ H E I hf st hg
  subst hP hw hK
  obtain⟨xs,hq,hx⟩:=hg
  obtain⟨its,rv,p,hz⟩:=I.tuple hq
  obtain⟨f0,f1,f2,f3,f4,f5⟩:=hf it (by simp)
  have hl:=rv.length
  exact wpAny_pyNext_tuple_end (I.ok.hd hc) st (show s.heap.IsTuple a its.toArray from p) (by simp;omega) fun h' eb=>⟨rfl,I.turned (t':=s.toks) (fun b o hb e=>eb b o hb e) f0 f1 f3 f4 f5⟩
 self:=fun _ _ _ _ _ st h=>wpAny_pyIter_tupleiter st h
theorem um{P:Program}{w:World}{K:PySem.W.Frag}{tg:Expr}(it:Addr)(lo:Int)(n:Nat):Turn P w K tg (cN lo n) [it] it (fun i h=>IsRangeIter h it (lo+(i:Nat)*1) ((n:Int)-(i:Nat)) 1) where
 mem:=by simp
 obj:=fun i h st b hb=>by
  have e:b=it:=by simpa using hb
  subst e
  exact⟨_,st,fun v z=>by
   have z':Data.fields _=Data.cell v:=z
   cases z'⟩
 keep:=fun i h h' st k=>k it (by simp) _ st
 item:=by
  intro X hP hw hK hc i pins s σ H E I hf st hg
  subst hP hw hK
  obtain⟨f0,f1,f2,f3,f4,f5⟩:=hf it (by simp)
  have W:=Walks.range (prog:=X.prog) (w:=X.w) (I.ok.hd hc) it lo 1 n
  refine W.item i s _ _ hg st fun v h' tk hv st' kk=>?_
  obtain⟨t,rfl⟩:=hv
  have I1:Inv X pins σ H { s with heap:=h',toks:=tk }:=I.turned (fun b o hb e=>kk b o (by simpa using hb) e) f0 f1 f3 f4 f5
  refine⟨_,rfl,jj (s:={ s with heap:=h',toks:=tk }) (n:="range_iterator") st' rfl rfl (by decide) ⟨.int (lo+i),H,I1,⟨t,?_⟩,⟨rfl,rfl⟩,st',fun b hb=>(hf b hb).1⟩⟩
  rw[Int.mul_one]
 done:=by
  intro X hP hw hK hc i pins s σ H E I hf st hg
  subst hP hw hK
  obtain⟨f0,f1,f2,f3,f4,f5⟩:=hf it (by simp)
  exact wpAny_pyNext_range_end (I.ok.hd hc) st (by have:n<=i:=hg;omega) fun h' eb=>⟨rfl,I.turned (t':=s.toks) (fun b o hb e=>eb b o hb e) f0 f1 f3 f4 f5⟩
 self:=fun _ _ _ _ _ st h=>wpAny_pyIter_rangeiter st h
end L2
namespace L2
open PySem PySem.Spec PyProof.Rows
section
variable {X:Cx} {tg:Expr}
def kH(K:PySem.W.Frag)(tl:TE):TI:=fun σ H R=>tl σ H fun x H1=>∃a,x=.ref a/\(∃xs,ag K H1 a xs)/\R (cb K a) H1
def lK(K:PySem.W.Frag)(tl:TE):TI:=fun σ H R=>tl σ H fun x H1=>∃a,x=.ref a/\(∃xs,ah K H1 a xs)/\R (cG K a) H1
theorem uo{l:Expr}{tl:TE}(hl:PE X l tl):PI X tg l (kH X.K tl):=by
 intro pins s σ H R I h
 refine au (hl pins s σ H _ I h) fun v s1 ⟨x,H1,I1,r1,q1⟩=>?_
 obtain⟨a,e,⟨xs,hq⟩,q⟩:=q1
 subst e
 cases r1
 obtain⟨its,rv,p,hz⟩:=I1.list hq
 refine wpAny_pyIter_list p.isList ?_
 refine⟨s1.heap.objs.size,[s1.heap.objs.size],_,_,H1,rfl,I1.kept (t':=s1.toks) fun b o e=>Heap.get?_push_of_some _ e,wc a _,⟨_,Heap.get?_push_size _ rfl,rfl,rfl⟩,fun b hb=>?_,q⟩
 have e:b=s1.heap.objs.size:=by simpa using hb
 subst e
 exact I1.fpOk (Nat.le_refl _) (I1.hok.fresh (Nat.le_refl _))
theorem uC{l:Expr}{tl:TE}(hl:PE X l tl):PI X tg l (lK X.K tl):=by
 intro pins s σ H R I h
 refine au (hl pins s σ H _ I h) fun v s1 ⟨x,H1,I1,r1,q1⟩=>?_
 obtain⟨a,e,⟨xs,hq⟩,q⟩:=q1
 subst e
 cases r1
 obtain⟨its,rv,p,hz⟩:=I1.tuple hq
 refine wpAny_pyIter_tuple (show s1.heap.IsTuple a its.toArray from p) ?_
 refine⟨s1.heap.objs.size,[s1.heap.objs.size],_,_,H1,rfl,I1.kept (t':=s1.toks) fun b o e=>Heap.get?_push_of_some _ e,wL a _,⟨_,Heap.get?_push_size _ rfl,rfl,rfl⟩,fun b hb=>?_,q⟩
 have e:b=s1.heap.objs.size:=by simpa using hb
 subst e
 exact I1.fpOk (Nat.le_refl _) (I1.hok.fresh (Nat.le_refl _))
theorem pR{pins:List (Addr×Obj)}{σ:St}{H:Hp}{s:Shared}{R:It->Hp->Prop}{E:Value->Shared->Prop}{lo hi:Int}{t u v:Tok}{tk:Nat}(I:Inv X pins σ H s)(h1:-(2 ^ 62)<=lo)(h2:lo<2 ^ 62)(h3:-(2 ^ 62)<=hi)(h4:hi<2 ^ 62)
  (q:R (cN lo (hi-lo).toNat) H):wpAny (model X.prog X.w) X.A (pyIter (.ref s.heap.objs.size)) (mR X pins σ tg R) E { s with heap:=s.heap.push { cls:=.type "range",data:=.fields #[.int lo t,.int hi u,.int 1 v] },toks:=tk }:=by
 refine wpAny_pyIter_range (IsRange.new ..) (small_one h1 h2 h3 h4) ?_
 have I1:Inv X pins σ H { s with heap:=s.heap.push { cls:=.type "range",data:=.fields #[.int lo t,.int hi u,.int 1 v] },toks:=tk }:=I.kept fun b o e=>Heap.get?_push_of_some _ e
 refine⟨(s.heap.push { cls:=.type "range",data:=.fields #[.int lo t,.int hi u,.int 1 v] }).objs.size,[(s.heap.push { cls:=.type "range",data:=.fields #[.int lo t,.int hi u,.int 1 v] }).objs.size],_,_,H,rfl,
  I1.kept (t':=tk) fun b o e=>Heap.get?_push_of_some _ e,um _ lo (hi-lo).toNat,?_,fun b hb=>?_,q⟩
 ·have e1:lo+((0:Nat):Int)*1=lo:=by simp
  have e2:(((hi-lo).toNat:Nat):Int)-((0:Nat):Int)=Builtin.Range.rangeSize lo hi 1:=by rw[rangeSize_one];split<;>omega
  show IsRangeIter _ _ (lo+((0:Nat):Int)*1) ((((hi-lo).toNat:Nat):Int)-((0:Nat):Int)) 1
  rw[e1,e2]
  exact Heap.get?_push_size _ rfl
 ·have e:b=(s.heap.push { cls:=.type "range",data:=.fields #[.int lo t,.int hi u,.int 1 v] }).objs.size:=by simpa using hb
  subst e
  exact I1.fpOk (Nat.le_refl _) (I1.hok.fresh (Nat.le_refl _))
def tI(ta:TA):TI:=fun σ H R=>ta σ H fun vs H1=>∃j:Int,vs=[.int j]/\-(2 ^ 62)<=j/\j<2 ^ 62/\R (cN 0 j.toNat) H1
def oE(ta:TA):TI:=fun σ H R=>ta σ H fun vs H1=>∃i j:Int,vs=[.int i,.int j]/\(-(2 ^ 62)<=i/\i<2 ^ 62/\-(2 ^ 62)<=j/\j<2 ^ 62)/\R (cN i (j-i).toNat) H1
theorem dH{a:Expr}{ta:TA}{p pos:Pos}(hg:Gl X "range")(hm:X.mg "range" = none)(ha:PA X [a] ta)(hs:starEach [a] X.env=[(false,eval a X.env)]:=by rfl):PI X tg (.Call (.Name "range" p) [a] [] pos) (tI ta):=by
 intro pins s σ H R I h
 refine Call_ (fm I hg hm boot_range (PyProof.Rows.callWith_type1 (au (ha pos pins s σ H _ I h) fun us s1 ⟨vs,H1,I1,r1,q1⟩=>?_) hs rfl))
 obtain⟨j,e,q1,q2,q⟩:=q1
 subst e
 cases r1 with
 | cons r rr=>
  cases rr
  obtain⟨t,rfl⟩:=r
  exact call_range_1 (pR I1 (by omega) (by omega) q1 q2 (by simpa using q))
theorem vS{a b:Expr}{ta:TA}{p pos:Pos}(hg:Gl X "range")(hm:X.mg "range" = none)(ha:PA X [a,b] ta)(hs:starEach [a,b] X.env=[(false,eval a X.env),(false,eval b X.env)]:=by rfl)(hs2:starEach [b] X.env=[(false,eval b X.env)]:=by rfl):
  PI X tg (.Call (.Name "range" p) [a,b] [] pos) (oE ta):=by
 intro pins s σ H R I h
 refine Call_ (fm I hg hm boot_range (PyProof.Rows.callWith_type1 (au (ha pos pins s σ H _ I h) fun us s1 ⟨vs,H1,I1,r1,q1⟩=>?_) (by rw[hs,hs2]) (by rw[hs2];rfl)))
 obtain⟨i,j,e,⟨q1,q2,q3,q4⟩,q⟩:=q1
 subst e
 cases r1 with
 | cons r rr=>
  cases rr with
  | cons r' rr=>
   cases rr
   obtain⟨t,rfl⟩:=r
   obtain⟨t',rfl⟩:=r'
   exact call_range_2 (pR I1 q1 q2 q3 q4 q)
def tD(wi:TI)(g:TG)(tb:TS):TS:=fun D σ H=>wi σ H fun J H1=>∃W:Nat->Nat->St->Hp->Prop,(∃m,W 0 m σ H1)/\∀i m σ H,W i m σ H →
 (J.stop i H/\D.nx σ H)\/(J.go i H/\∃N:St->Hp->Prop,(∀σ' H',N σ' H'->∃m',m'<m/\W (i+1) m' σ' H')/\∀x H',J.yld i H x H'->g x σ H' fun σ2 H2=>tb { D with nx:=N,ct:=N,bk:=D.nx } σ2 H2)
def cX(fp:List Addr)(h:Heap):List (Addr×Obj):=fp.filterMap fun b=>(h.get? b).map fun o=>(b,o)
theorem jb{fp:List Addr}{h:Heap}{b:Addr}{o:Obj}(hb:b∈fp)(e:h.get? b=some o):(b,o)∈cX fp h:=List.mem_filterMap.mpr ⟨b,hb,by rw[e];rfl⟩
theorem md{fp:List Addr}{h:Heap}{p:Addr×Obj}(hp:p∈cX fp h):p.1∈fp/\h.get? p.1=some p.2:=by
 obtain⟨b,hb,e⟩:=List.mem_filterMap.mp hp
 cases q:h.get? b with
 | none=>rw[q]at e;cases e
 | some o=>
  rw[q]at e
  have e':(b,o)=p:=Option.some.inj e
  subst e'
  exact⟨hb,q⟩
theorem Inv.pinned{pins:List (Addr×Obj)}{σ:St}{H:Hp}{s:Shared}{fp:List Addr}(I:Inv X pins σ H s)(hf:∀b∈fp,br X pins H b)(ho:∀b∈fp,∃o,s.heap.get? b=some o/\∀v,o.data≠.cell v):Inv X (pins++cX fp s.heap) σ H s:=
 I.pins_of fun p hp=>(List.mem_append.mp hp).elim (fun z=>I.pin p (List.mem_append_right _ z)) fun z=>by
  obtain⟨hb,e⟩:=md z
  obtain⟨f0,f1,f2,_⟩:=hf p.1 hb
  obtain⟨o,e',d⟩:=ho p.1 hb
  rw[e]at e';cases e'
  exact⟨e,f0,f1,f2,d⟩
theorem Inv.unpinned{pins pl:List (Addr×Obj)}{σ:St}{H:Hp}{s:Shared}(I:Inv X (pins++pl) σ H s):Inv X pins σ H s:=I.pins_of fun p hp=>I.pin p (List.mem_append_right _ (List.mem_append_left _ hp))
theorem bL{iter:Expr}{body:List Stmt}{wi:TI}{g:TG}{tb:TS}{pos:Pos}(hp:PassesOwn (model X.prog X.w) X.A X.env X.xe)(hc:X.calm=true)(hi:PI X tg iter wi)(hg:PG X tg g)(hb:b9 X body tb)
  (hs:∀x,foldedSetIterable iter X.env x=pure x:=by intro _;rfl):PS X (.For tg iter body [] pos) (tD wi g tb):=by
 intro pins s σ H D I h
 refine wpAny_For (au (hi pins s σ H _ I h) fun v s1 h1=>au h1 fun itv s2 h2=>?_) hs
 obtain⟨it,fp,tn,J,H2,e,I2,T,st2,f2,W,⟨m0,w0⟩,turn⟩:=h2
 subst e
 -- what stays true of the iterator's objects through the loop
 have stat:∀{H':Hp},(∀b∈fp,H' b=none)->∀b∈fp,br X pins H' b:=fun hn b hb=>⟨hn b hb,(f2 b hb).2⟩
 refine codeAny_forLoop_any (fun n s'=>∃i σ' H',Inv X pins σ' H' s'/\tn i s'.heap/\(∀b∈fp,H' b=none)/\W i n σ' H') ?_ m0 ⟨0,σ,H2,I2,st2,fun b hb=>(f2 b hb).1,w0⟩
 rintro n s3 ⟨i,σ3,H3,I3,st3,fr3,w3⟩
 rcases turn i n σ3 H3 w3 with⟨stop,qn⟩ | ⟨go,N,hN,step⟩
 ·refine wpAny_passesOwn hp (au (T.done X rfl rfl rfl hc i pins s3 σ3 H3 X.xe I3 (stat fr3) st3 stop) fun r s4 ⟨hr,I4⟩=>?_)
  subst hr
  exact wpAny_execs_nil ⟨σ3,H3,I4,qn⟩
 ·refine wpAny_passesOwn hp (au (T.item X rfl rfl rfl hc i pins s3 σ3 H3 X.xe I3 (stat fr3) st3 go) fun r s4 ⟨u,hr,h4⟩=>?_)
  subst hr
  refine wpAny_passesOwn hp (au h4 fun _ s5 ⟨x,H5,I5,r5,y5,st5,fr5⟩=>?_)
  have I5':=I5.pinned (stat fr5) (T.obj _ _ st5)
  refine wpAny_passesOwn hp (au (hg _ s5 σ3 H5 x u _ I5' r5 (step x H5 y5)) fun _ s6 ⟨σ6,H6,I6,q6⟩=>?_)
  refine wpAny_passesOwn hp (au (hb _ s6 σ6 H6 _ I6 q6) fun f s7 q7=>?_)
  have again:∀{σ7:St} {H7:Hp},Inv X (pins++cX fp s5.heap) σ7 H7 s7->N σ7 H7->∃m,m<n/\∃i σ' H',Inv X pins σ' H' s7/\tn i s7.heap/\(∀b∈fp,H' b=none)/\W i m σ' H':=fun{σ7 H7} I7 n7=>by
   obtain⟨m',hm,w7⟩:=hN σ7 H7 n7
   refine⟨m',hm,i+1,σ7,H7,I7.unpinned,T.keep _ _ _ st5 fun b hb o e=>(I7.pin (b,o) (List.mem_append_right _ (List.mem_append_right _ (jb hb e)))).1,fun b hb=>?_,w7⟩
   obtain⟨o,e,d⟩:=T.obj _ _ st5 b hb
   exact(I7.pin (b,o) (List.mem_append_right _ (List.mem_append_right _ (jb hb e)))).2.1
  cases f with
  | next=>obtain⟨σ7,H7,I7,n7⟩:=q7;exact again I7 n7
  | cont=>obtain⟨σ7,H7,I7,n7⟩:=q7;exact again I7 n7
  | brk=>obtain⟨σ7,H7,I7,q7⟩:=q7;exact⟨σ7,H7,I7.unpinned,q7⟩
  | ret v=>obtain⟨x7,σ7,H7,I7,r7,q7⟩:=q7;exact⟨x7,σ7,H7,I7.unpinned,r7,q7⟩
end
theorem yR{K:PySem.W.Frag}{a:Addr}{xs:List V}{g:TG}{tb:TS}{D:Ends}{σ:St}{H:Hp}(Pv:Nat->St->Hp->Prop)(h0:Pv 0 σ H)(hl:∀i σ H,i<=xs.length->Pv i σ H->ag K H a xs)
  (hs:∀i x σ H,xs[i]?=some x->Pv i σ H->g x σ H fun σ2 H2=>tb { D with nx:=Pv (i+1),ct:=Pv (i+1),bk:=D.nx } σ2 H2) (hd:∀σ H,Pv xs.length σ H->D.nx σ H) :
  ∃W:Nat->Nat->St->Hp->Prop,(∃m,W 0 m σ H)/\∀i m σ H,W i m σ H →
   ((cb K a).stop i H/\D.nx σ H)\/((cb K a).go i H/\∃N:St->Hp->Prop,(∀σ' H',N σ' H'->∃m',m'<m/\W (i+1) m' σ' H')/\∀x H',(cb K a).yld i H x H'->g x σ H' fun σ2 H2=>tb { D with nx:=N,ct:=N,bk:=D.nx } σ2 H2):=by
 refine⟨fun i m σ H=>m=xs.length-i/\i<=xs.length/\Pv i σ H,⟨xs.length,by simp,Nat.zero_le _,h0⟩,?_⟩
 rintro i m σ H ⟨rfl,hi,p⟩
 have q:=hl i σ H hi p
 by_cases hlt:i<xs.length
 ·refine .inr ⟨⟨xs,xs[i],q,by simp[hlt]⟩,Pv (i+1),fun σ' H' p'=>⟨xs.length-(i+1),by omega,rfl,hlt,p'⟩,fun x H' y=>?_⟩
  obtain⟨e,y⟩:=y
  subst e
  exact hs i x σ _ (y xs q) p
 ·have e:i=xs.length:=by omega
  subst e
  exact .inl ⟨⟨xs,q,Nat.le_refl _⟩,hd σ H p⟩
theorem zv{K:PySem.W.Frag}{a:Addr}{xs:List V}{g:TG}{tb:TS}{D:Ends}{σ:St}{H:Hp}(Pv:Nat->St->Hp->Prop)(h0:Pv 0 σ H)(hl:∀i σ H,i<=xs.length->Pv i σ H->ah K H a xs)
  (hs:∀i x σ H,xs[i]?=some x->Pv i σ H->g x σ H fun σ2 H2=>tb { D with nx:=Pv (i+1),ct:=Pv (i+1),bk:=D.nx } σ2 H2) (hd:∀σ H,Pv xs.length σ H->D.nx σ H) :
  ∃W:Nat->Nat->St->Hp->Prop,(∃m,W 0 m σ H)/\∀i m σ H,W i m σ H →
   ((cG K a).stop i H/\D.nx σ H)\/((cG K a).go i H/\∃N:St->Hp->Prop,(∀σ' H',N σ' H'->∃m',m'<m/\W (i+1) m' σ' H')/\∀x H',(cG K a).yld i H x H'->g x σ H' fun σ2 H2=>tb { D with nx:=N,ct:=N,bk:=D.nx } σ2 H2):=by
 refine⟨fun i m σ H=>m=xs.length-i/\i<=xs.length/\Pv i σ H,⟨xs.length,by simp,Nat.zero_le _,h0⟩,?_⟩
 rintro i m σ H ⟨rfl,hi,p⟩
 have q:=hl i σ H hi p
 by_cases hlt:i<xs.length
 ·refine .inr ⟨⟨xs,xs[i],q,by simp[hlt]⟩,Pv (i+1),fun σ' H' p'=>⟨xs.length-(i+1),by omega,rfl,hlt,p'⟩,fun x H' y=>?_⟩
  obtain⟨e,y⟩:=y
  subst e
  exact hs i x σ _ (y xs q) p
 ·have e:i=xs.length:=by omega
  subst e
  exact .inl ⟨⟨xs,q,Nat.le_refl _⟩,hd σ H p⟩
theorem xk{lo:Int}{n:Nat}{g:TG}{tb:TS}{D:Ends}{σ:St}{H:Hp}(Pv:Nat->St->Hp->Prop)(h0:Pv 0 σ H)
  (hs:∀i σ H,i<n->Pv i σ H->g (.int (lo+i)) σ H fun σ2 H2=>tb { D with nx:=Pv (i+1),ct:=Pv (i+1),bk:=D.nx } σ2 H2) (hd:∀σ H,Pv n σ H->D.nx σ H) :
  ∃W:Nat->Nat->St->Hp->Prop,(∃m,W 0 m σ H)/\∀i m σ H,W i m σ H →
   ((cN lo n).stop i H/\D.nx σ H)\/((cN lo n).go i H/\∃N:St->Hp->Prop,(∀σ' H',N σ' H'->∃m',m'<m/\W (i+1) m' σ' H')/\∀x H',(cN lo n).yld i H x H'->g x σ H' fun σ2 H2=>tb { D with nx:=N,ct:=N,bk:=D.nx } σ2 H2):=by
 refine⟨fun i m σ H=>m=n-i/\i<=n/\Pv i σ H,⟨n,by simp,Nat.zero_le _,h0⟩,?_⟩
 rintro i m σ H ⟨rfl,hi,p⟩
 by_cases hlt:i<n
 ·refine .inr ⟨hlt,Pv (i+1),fun σ' H' p'=>⟨n-(i+1),by omega,rfl,hlt,p'⟩,fun x H' y=>?_⟩
  obtain⟨e,y⟩:=y
  subst e y
  exact hs i σ _ hlt p
 ·have e:i=n:=by omega
  subst e
  exact .inl ⟨Nat.le_refl _,hd σ H p⟩
end L2
namespace L2
open PySem PySem.Spec PyProof.Rows
abbrev R2:=V->V->Hp->VK->Prop
def aV(X:Cx)(f:Value->Value->Sem Value)(r:R2):Prop:=
 ∀(pins:List (Addr×Obj)) (s:Shared) (σ:St) (H:Hp) (x y:V) (v u:Value) (Q:VK),Inv X pins σ H s->RelV x v->RelV y u->r x y H Q →
  wpAny (model X.prog X.w) X.A (f v u) (EP X pins σ Q) X.xe s
def mP(X:Cx)(f:Value->Sem Value)(r:V->Hp->VK->Prop):Prop:=
 ∀(pins:List (Addr×Obj)) (s:Shared) (σ:St) (H:Hp) (x:V) (v:Value) (Q:VK),Inv X pins σ H s->RelV x v->r x H Q →
  wpAny (model X.prog X.w) X.A (f v) (EP X pins σ Q) X.xe s
def bg(X:Cx)(f:Value)(r:List V->Hp->VK->Prop):Prop:=
 ∀(pins:List (Addr×Obj)) (s:Shared) (σ:St) (H:Hp) (xs:List V) (us:List Value) (Q:VK),Inv X pins σ H s->Vals xs us->r xs H Q →
  wpAny (model X.prog X.w) X.A (call f us) (EP X pins σ Q) X.xe s
def gP(r:R2)(ta tb:TE):TE:=fun σ H Q=>ta σ H fun x H1=>tb σ H1 fun y H2=>r x y H2 Q
def rV(r:V->Hp->VK->Prop)(ta:TE):TE:=fun σ H Q=>ta σ H fun x H1=>r x H1 Q
def rI(C:Int->Int->Prop)(g:Int->Int->V):R2:=fun x y H Q=>∃i j,x=.int i/\y=.int j/\C i j/\Q (g i j) H
def dO(g:Int->Int->V):R2:=fun x y H Q=>∃i j,x=.int i/\y=.int j/\Q (g i j) H
def rU(g:Int->V):V->Hp->VK->Prop:=fun x H Q=>∃i,x=.int i/\Q (g i) H
section
variable {X:Cx} {a b c:Expr} {ta tb tc:TE} {pos:Pos}
theorem mz(ha:PE X a ta)(hb:PE X b tb){pins:List (Addr×Obj)}{s:Shared}{σ:St}{H:Hp}{R:V->V->Hp->Prop}(I:Inv X pins σ H s)
  (h:ta σ H fun x H1=>tb σ H1 fun y H2=>R x y H2) {Q:Value->Shared->Prop} {f:Value->Value->Sem Value}
  (hf:∀v u s2 x y H2,Inv X pins σ H2 s2->RelV x v->RelV y u->R x y H2->wpAny (model X.prog X.w) X.A (f v u) Q X.xe s2) :
  wpAny (model X.prog X.w) X.A (eval a X.env) (fun v s₁=>wpAny (model X.prog X.w) X.A (eval b X.env) (fun u s₂=>wpAny (model X.prog X.w) X.A (f v u) Q X.xe s₂) X.xe s₁) X.xe s:=by
 refine au (ha pins s σ H _ I h) fun v s1 ⟨x,H1,I1,r1,q1⟩=>?_
 refine au (hb pins s1 σ H1 _ I1 q1) fun u s2 ⟨y,H2,I2,r2,q2⟩=>?_
 exact hf v u s2 x y H2 I2 r1 r2 q2
theorem aj{op:Operator}{r:R2}(ho:aV X (binaryOp op) r)(ha:PE X a ta)(hb:PE X b tb):PE X (.BinOp a op b pos) (gP r ta tb):=by
 intro pins s σ H Q I h
 exact wpAny_BinOp (mz ha hb I h fun v u s2 x y H2 I2 rx ry q=>ho pins s2 σ H2 x y v u Q I2 rx ry q)
theorem m7{op:UnaryOp}{r:V->Hp->VK->Prop}(ho:mP X (unaryOp op) r)(ha:PE X a ta):PE X (.UnaryOp op a pos) (rV r ta):=by
 intro pins s σ H Q I h
 exact UnaryOp_ (au (ha pins s σ H _ I h) fun v s1 ⟨x,H1,I1,r1,q1⟩=>ho pins s1 σ H1 x v Q I1 r1 q1)
theorem iE{f:Value->Value->Sem Value}{C:Int->Int->Prop}{g:Int->Int->Int}
  (rule:∀(i j:Int) (t u:Tok) (s:Shared) (Q:Value->Shared->Prop) (E:Value->Shared->Prop),C i j->Q (.int (g i j) s.toks) { s with toks:=s.toks+1 }->wpAny (model X.prog X.w) X.A (f (.int i t) (.int j u)) Q E s) :
  aV X f (rI C fun i j=>.int (g i j)):=by
 intro pins s σ H x y v u Q I rx ry h
 obtain⟨i,j,rfl,rfl,hc,q⟩:=h
 obtain⟨t,rfl⟩:=rx
 obtain⟨t',rfl⟩:=ry
 exact rule i j t t' s _ _ hc ⟨.int (g i j),H,I.tok _,⟨_,rfl⟩,q⟩
theorem oB{f:Value->Value->Sem Value}{g:Int->Int->Int}
  (rule:∀(i j:Int) (t u:Tok) (s:Shared) (Q:Value->Shared->Prop) (E:Value->Shared->Prop),Q (.int (g i j) s.toks) { s with toks:=s.toks+1 }->wpAny (model X.prog X.w) X.A (f (.int i t) (.int j u)) Q E s) :
  aV X f (dO fun i j=>.int (g i j)):=by
 intro pins s σ H x y v u Q I rx ry h
 obtain⟨i,j,rfl,rfl,q⟩:=h
 obtain⟨t,rfl⟩:=rx
 obtain⟨t',rfl⟩:=ry
 exact rule i j t t' s _ _ ⟨.int (g i j),H,I.tok _,⟨_,rfl⟩,q⟩
theorem jv{f:Value->Value->Sem Value}{g:Int->Int->Bool}
  (rule:∀(i j:Int) (t u:Tok) (s:Shared) (Q:Value->Shared->Prop) (E:Value->Shared->Prop),Q (.bool (g i j)) s->wpAny (model X.prog X.w) X.A (f (.int i t) (.int j u)) Q E s) :
  aV X f (dO fun i j=>.bl (g i j)):=by
 intro pins s σ H x y v u Q I rx ry h
 obtain⟨i,j,rfl,rfl,q⟩:=h
 obtain⟨t,rfl⟩:=rx
 obtain⟨t',rfl⟩:=ry
 exact rule i j t t' s _ _ ⟨.bl (g i j),H,I,rfl,q⟩
def rO(i j:Int):Prop:=0<=j/\j<=1000000/\i.natAbs<2 ^ 64
def hZ(i j:Int):Prop:=(-(2 ^ 64)<i/\i<2 ^ 64)\/(-(2 ^ 64)<j/\j<2 ^ 64)
theorem hZ.ok{i j:Int}(h:hZ i j):IntMulOk i j:=by
 rcases h with⟨h1,h2⟩ | ⟨h1,h2⟩
 ·exact .of_left (intBits_le_64 h1 h2)
 ·exact .of_right (intBits_le_64 h1 h2)
theorem aF:aV X (binaryOp .Add) (dO fun i j=>.int (i+j)):=oB fun _ _ _ _ _ _ _ q=>add_int q
theorem bY:aV X (binaryOp .Sub) (dO fun i j=>.int (i-j)):=oB fun _ _ _ _ _ _ _ q=>sub_int q
theorem cP:aV X (binaryOp .Mult) (rI hZ fun i j=>.int (i*j)):=iE fun _ _ _ _ _ _ _ hc q=>mul_int q hc.ok
theorem bh:aV X (binaryOp .Mod) (rI (fun _ j=>0<j) fun i j=>.int (i % j)):=iE fun i j _ _ _ _ _ hc q=>by
 have h1:(0:Int)<j:=hc
 exact mod_int' (by omega) (by rw[Int.fmod_eq_emod_of_nonneg i (by omega)];exact q)
theorem gQ:aV X (binaryOp .Pow) (rI rO fun i j=>.int (i ^ j.toNat)):=iE fun _ _ _ _ _ _ _ hc q=>pow_int_small hc.1 hc.2.1 hc.2.2 q
theorem vi{f:Value->Sem Value}{g:Int->Int}
  (rule:∀(i:Int) (t:Tok) (s:Shared) (Q:Value->Shared->Prop) (E:Value->Shared->Prop),Q (.int (g i) s.toks) { s with toks:=s.toks+1 }->wpAny (model X.prog X.w) X.A (f (.int i t)) Q E s) :
  mP X f (rU fun i=>.int (g i)):=by
 intro pins s σ H x v Q I rx h
 obtain⟨i,rfl,q⟩:=h
 obtain⟨t,rfl⟩:=rx
 exact rule i t s _ _ ⟨.int (g i),H,I.tok _,⟨_,rfl⟩,q⟩
theorem mH:mP X (unaryOp .USub) (rU fun i=>.int (-i)):=vi fun _ _ _ _ _ q=>neg_int q
end
def qS:V->V->Bool
 | .non,.non=>true | .non,.int _=>true | .int _,.non=>true | .non,.bl _=>true | .bl _,.non=>true | .non,.str _=>true | .str _,.non=>true
 | .int _,.int _=>true | .bl _,.bl _=>true | .str _,.str _=>true | .byt _,.byt _=>true
 | .int _,.str _=>true | .str _,.int _=>true | .bl _,.str _=>true | .str _,.bl _=>true
 | _,_=>false
def kx:R2:=fun x y H Q=>qS x y=true/\Q (.bl (decide (x=y))) H
def kU:R2:=fun x y H Q=>qS x y=true/\Q (.bl (!decide (x=y))) H
theorem rg{i j:Int}:decide (V.int i=V.int j)=(i == j):=by
 rw[Bool.eq_iff_iff]
 simp
theorem jn{i j:Bool}:decide (V.bl i=V.bl j)=(i == j):=by
 rw[Bool.eq_iff_iff]
 simp
theorem iP{i j:Str}:decide (V.str i=V.str j)=(i == j):=by
 rw[Bool.eq_iff_iff]
 simp
theorem s9{i j:Array UInt8}:decide (V.byt i=V.byt j)=(i.toList == j.toList):=by
 rw[Bool.eq_iff_iff]
 cases i
 cases j
 simp
section
variable {X:Cx} {a b c:Expr} {ta tb tc:TE} {pos:Pos}
theorem aU{pins:List (Addr×Obj)}{σ:St}{H:Hp}{s:Shared}{Q:VK}{k k':Bool}(I:Inv X pins σ H s)(q:Q (.bl k) H)(e:k=k'):EP X pins σ Q (.bool k') s:=by
 subst e
 exact⟨.bl k,H,I,rfl,q⟩
theorem bu:aV X (compareOp .Eq) kx:=by
 intro pins s σ H x y v u Q I rx ry h
 obtain⟨hs,q⟩:=h
 cases x with
 | non=>
  cases rx
  cases y with
  | non=>cases ry;exact PySem.EqNone.eq_none_none (aU I q (by simp))
  | bl j=>cases ry;exact PySem.EqNone.eq_none_bool (aU I q (by simp))
  | int j=>obtain⟨t',rfl⟩:=ry;exact PySem.EqNone.eq_none_int (aU I q (by simp))
  | str j=>obtain⟨t',rfl⟩:=ry;exact PySem.EqNone.eq_none_str (aU I q (by simp))
  | _=>exact absurd (show false=true from hs) Bool.false_ne_true
 | bl i=>
  cases rx
  cases y with
  | non=>cases ry;exact PySem.EqNone.eq_bool_none (aU I q (by simp))
  | bl j=>cases ry;exact eq_bool (aU I q jn)
  | str j=>obtain⟨t',rfl⟩:=ry;exact PySem.EqMixed.eq_bool_str (aU I q (by simp))
  | _=>exact absurd (show false=true from hs) Bool.false_ne_true
 | int i=>
  obtain⟨t,rfl⟩:=rx
  cases y with
  | non=>cases ry;exact PySem.EqNone.eq_int_none (aU I q (by simp))
  | int j=>obtain⟨t',rfl⟩:=ry;exact eq_int (aU I q rg)
  | str j=>obtain⟨t',rfl⟩:=ry;exact PySem.EqMixed.eq_int_str (aU I q (by simp))
  | _=>exact absurd (show false=true from hs) Bool.false_ne_true
 | str i=>
  obtain⟨t,rfl⟩:=rx
  cases y with
  | non=>cases ry;exact PySem.EqNone.eq_str_none (aU I q (by simp))
  | bl j=>cases ry;exact PySem.EqMixed.eq_str_bool (aU I q (by simp))
  | int j=>obtain⟨t',rfl⟩:=ry;exact PySem.EqMixed.eq_str_int (aU I q (by simp))
  | str j=>obtain⟨t',rfl⟩:=ry;exact eq_str (aU I q iP)
  | _=>exact absurd (show false=true from hs) Bool.false_ne_true
 | byt i=>
  obtain⟨t,rfl⟩:=rx
  cases y with
  | byt j=>obtain⟨t',rfl⟩:=ry;exact PySem.W.eq_bytes (aU I q s9)
  | _=>exact absurd (show false=true from hs) Bool.false_ne_true
 | _=>cases y<;>exact absurd (show false=true from hs) Bool.false_ne_true
theorem dP:aV X (compareOp .NotEq) kU:=by
 intro pins s σ H x y v u Q I rx ry h
 obtain⟨hs,q⟩:=h
 cases x with
 | non=>
  cases rx
  cases y with
  | non=>cases ry;exact PySem.EqNone.ne_none_none (aU I q (by simp))
  | bl j=>cases ry;exact PySem.EqNone.ne_none_bool (aU I q (by simp))
  | int j=>obtain⟨t',rfl⟩:=ry;exact PySem.EqNone.ne_none_int (aU I q (by simp))
  | str j=>obtain⟨t',rfl⟩:=ry;exact PySem.EqNone.ne_none_str (aU I q (by simp))
  | _=>exact absurd (show false=true from hs) Bool.false_ne_true
 | bl i=>
  cases rx
  cases y with
  | non=>cases ry;exact PySem.EqNone.ne_bool_none (aU I q (by simp))
  | bl j=>cases ry;exact ne_bool (aU I q (congrArg not jn))
  | str j=>obtain⟨t',rfl⟩:=ry;exact PySem.EqMixed.ne_bool_str (aU I q (by simp))
  | _=>exact absurd (show false=true from hs) Bool.false_ne_true
 | int i=>
  obtain⟨t,rfl⟩:=rx
  cases y with
  | non=>cases ry;exact PySem.EqNone.ne_int_none (aU I q (by simp))
  | int j=>obtain⟨t',rfl⟩:=ry;exact ne_int (aU I q (congrArg not rg))
  | str j=>obtain⟨t',rfl⟩:=ry;exact PySem.EqMixed.ne_int_str (aU I q (by simp))
  | _=>exact absurd (show false=true from hs) Bool.false_ne_true
 | str i=>
  obtain⟨t,rfl⟩:=rx
  cases y with
  | non=>cases ry;exact PySem.EqNone.ne_str_none (aU I q (by simp))
  | bl j=>cases ry;exact PySem.EqMixed.ne_str_bool (aU I q (by simp))
  | int j=>obtain⟨t',rfl⟩:=ry;exact PySem.EqMixed.ne_str_int (aU I q (by simp))
  | str j=>obtain⟨t',rfl⟩:=ry;exact ne_str (aU I q (congrArg not iP))
  | _=>exact absurd (show false=true from hs) Bool.false_ne_true
 | byt i=>
  obtain⟨t,rfl⟩:=rx
  cases y with
  | byt j=>obtain⟨t',rfl⟩:=ry;exact PySem.W.ne_bytes (aU I q (congrArg not s9))
  | _=>exact absurd (show false=true from hs) Bool.false_ne_true
 | _=>cases y<;>exact absurd (show false=true from hs) Bool.false_ne_true
theorem dD:aV X (compareOp .Lt) (dO fun i j=>.bl (decide (i<j))):=jv fun _ _ _ _ _ _ _ q=>lt_int q
theorem eT:aV X (compareOp .LtE) (dO fun i j=>.bl (decide (i<=j))):=jv fun _ _ _ _ _ _ _ q=>le_int q
theorem ed:aV X (compareOp .Gt) (dO fun i j=>.bl (decide (j<i))):=jv fun _ _ _ _ _ _ _ q=>gt_int q
theorem ia:aV X (compareOp .GtE) (dO fun i j=>.bl (decide (j<=i))):=jv fun _ _ _ _ _ _ _ q=>ge_int q
theorem aC(b:Expr){op:CmpOp}(h:op≠.In:=by decide)(h2:op≠.NotIn:=by decide):behindInMarks op b=false:=by
 have e1:(op == CmpOp.In)=false:=by cases op<;>first | rfl | exact absurd rfl h
 have e2:(op == CmpOp.NotIn)=false:=by cases op<;>first | rfl | exact absurd rfl h2
 cases b<;>simp[behindInMarks,e1,e2]
theorem dh{op:CmpOp}{r:R2}(ho:aV X (compareOp op) r)(ha:PE X a ta)(hb:PE X b tb)(hm:behindInMarks op b=false):PE X (.Compare a [op] [b] pos) (gP r ta tb):=by
 intro pins s σ H Q I h
 exact wpAny_Compare1 (mz ha hb I h fun v u s2 x y H2 I2 rx ry q=>ho pins s2 σ H2 x y v u Q I2 rx ry q) hm
def qJ(t:TE):TT:=fun σ H Q=>t σ H fun x H'=>∃k,x=.bl k/\Q k H'
theorem aH{op:CmpOp}{r:R2}(ho:aV X (compareOp op) r)(ha:PE X a ta)(hb:PE X b tb)(hm:behindInMarks op b=false):PT X (.Compare a [op] [b] pos) (qJ (gP r ta tb)):=by
 intro pins s σ H Q I h
 refine wpAny_isTrue_Compare1 (au (ha pins s σ H _ I h) fun v s1 ⟨x,H1,I1,r1,q1⟩=>au (hb pins s1 σ H1 _ I1 q1) fun u s2 ⟨y,H2,I2,r2,q2⟩=>
  au (ho pins s2 σ H2 x y v u _ I2 r1 r2 q2) fun c s3 ⟨z,H3,I3,r3,k,e,q3⟩=>?_) hm
 subst e
 cases r3
 exact wpAny_truthy_bool ⟨H3,I3,q3⟩
def rd(r r':R2)(ta tb tc:TE):TE:=fun σ H Q=>ta σ H fun x H1=>tb σ H1 fun y H2=>r x y H2 fun z H3=>∃k,z=.bl k ∧
 (if k=true then tc σ H3 fun w' H4=>r' y w' H4 Q else Q (.bl false) H3)
theorem ko{op op':CmpOp}{r r':R2}(ho:aV X (compareOp op) r)(ho':aV X (compareOp op') r')(ha:PE X a ta)(hb:PE X b tb)(hc:PE X c tc)
  (hm:lastMarks [op,op'] [b,c]=false:=by with_unfolding_all rfl):PE X (.Compare a [op,op'] [b,c] pos) (rd r r' ta tb tc):=by
 intro pins s σ H Q I h
 refine Compare_chain (au (ha pins s σ H _ I h) fun v s1 ⟨x,H1,I1,r1,q1⟩=>chain_link (au (hb pins s1 σ H1 _ I1 q1) fun u s2 ⟨y,H2,I2,r2,q2⟩=>
  au (ho pins s2 σ H2 x y v u _ I2 r1 r2 q2) fun d s3 ⟨z,H3,I3,r3,k,e,q3⟩=>?_)) hm
 subst e
 cases r3
 refine wpAny_truthy_bool ?_
 cases k with
 | false=>exact ite_ff ⟨.bl false,H3,I3,rfl,q3⟩
 | true=>exact ite_tt (chain_last (au (hc pins s3 σ H3 _ I3 q3) fun w' s4 ⟨z',H4,I4,r4,q4⟩=>ho' pins s4 σ H4 y z' u w' Q I4 r2 r4 q4))
theorem fI:(sizeLine:Nat)<2 ^ 63:=by rw[sizeLine_eq];decide
theorem vals1{x:V}{us:List Value}(r:Vals [x] us):∃u,us=[u]/\RelV x u:=by
 cases r with
 | cons r1 r2=>cases r2;exact⟨_,rfl,r1⟩
theorem vals2{x y:V}{us:List Value}(r:Vals [x,y] us):∃u w',us=[u,w']/\RelV x u/\RelV y w':=by
 cases r with
 | cons r1 r2=>
  cases r2 with
  | cons r3 r4=>cases r4;exact⟨_,_,rfl,r1,r3⟩
theorem zH(hc:X.calm=true):bg X (.builtin "max") (fun xs H Q=>∃i j,xs=[.int i,.int j]/\Q (.int (if j>i then j else i)) H):=by
 intro pins s σ H xs us Q I r h
 obtain⟨i,j,rfl,q⟩:=h
 obtain⟨u,w',rfl,⟨t,rfl⟩,⟨t',rfl⟩⟩:=vals2 r
 refine max_two_ints (I.ok.hd hc) fun h' tk k=>⟨_,H,I.kept k,?_,q⟩
 by_cases hj:j>i
 ·rw[if_pos hj,if_pos hj];exact⟨_,rfl⟩
 ·rw[if_neg hj,if_neg hj];exact⟨_,rfl⟩
theorem An:bg X (.type "int") (fun xs H Q=>(∃i,xs=[.int i]/\Q (.int i) H)\/∃k,xs=[.bl k]/\Q (.int (if k then 1 else 0)) H):=by
 intro pins s σ H xs us Q I r h
 rcases h with⟨i,rfl,q⟩ | ⟨k,rfl,q⟩
 ·obtain⟨u,rfl,t,rfl⟩:=vals1 r
  exact call_int_int ⟨.int i,H,I,⟨_,rfl⟩,q⟩
 ·obtain⟨u,rfl,r1⟩:=vals1 r
  cases r1
  exact call_int_bool ⟨.int (if k then 1 else 0),H,I.tok _,⟨_,rfl⟩,q⟩
end
end L2
namespace L2
open PySem PySem.Spec PyProof.Rows
structure ObjM(h:Heap)(x dx C:Addr)(mA:Str->Option Value):Prop where
 obj:h.get? x=some (PySem.W.instObj C dx)
 ns:h.Ns1 dx mA
 ne:dx≠x
theorem uK{h:Heap}{dx:Addr}{mA:Str->Option Value}(n:h.Ns1 dx mA):∃od,h.get? dx=some od/\∀name,PySem.W.lookIn name od=some (mA name):=by
 obtain⟨o,es,ep,ho,hd,hk,_,hm⟩:=n
 refine⟨o,ho,fun name=>?_⟩
 have e:=hm name
 unfold nsFind findBy at e
 rw[←Array.find?_toList]at e
 unfold PySem.W.lookIn
 rw[hd]
 dsimp only
 split
 ·rename_i y q
  rw[q]at e
  exact congrArg some e
 ·rename_i q
  rw[q]at e
  have a:es.toList.any (·.refKey)=false:=by
   rw[List.any_eq_false]
   intro y hy
   obtain⟨z,t,hkey⟩:=hk y (Array.mem_toList_iff.mp hy)
   simp[DictEntry.refKey,hkey]
  have a':¬es.toList.any (·.refKey)=true:=by rw[a];exact Bool.false_ne_true
  rw[if_neg a']
  exact congrArg some e
theorem ObjM.look{h:Heap}{x dx C:Addr}{mA:Str->Option Value}(I:ObjM h x dx C mA):∃od,PySem.W.InstAt h x (PySem.W.instObj C dx) C (some od)/\∀name,PySem.W.lookIn name od=some (mA name):=
 let ⟨od,ho,hl⟩:=uK I.ns
 ⟨od,⟨I.obj,rfl,rfl,ho⟩,hl⟩
section
variable {prog:Program} {w:World} {A:Around} {E:Value->Shared->Prop} {s:Shared} {K:PySem.W.Frag} {x dx C f:Addr} {mA:Str->Option Value} {name:Str} {v:Value}
end
theorem ec.some_of{v:V}{o:Option Value}(r:ec (some v) o):∃u,o=some u/\RelV v u:=by
 cases o with
 | none=>exact(show False from r).elim
 | some u=>exact⟨u,rfl,r⟩
section
variable {P:Program} {w:World} {H H':Hp} {h h':Heap} {a C dx:Addr} {fs fs':List (Str×V)}
theorem xK(hok:bq P w H h)(e:H a=some (.ins C dx fs)):∃mA,ObjM h a dx C mA/\(∀f,ec (fs.lookup f) (mA f))/\PySem.Within mA (fs.map (·.1))/\fs.length<=1000/\H dx=some (.own a):=by
 obtain⟨d,z,ne,ob,mA,n,r,q⟩:=(show bH P w H h a (.ins C dx fs)from hok a _ e)
 exact⟨mA,⟨ob,n,ne⟩,r,q,z,d⟩
end
structure Cls(K:PySem.W.Frag)(C:Addr):Prop where
 pg:PySem.W.plainGet K C Str.empty=true
 hd:PySem.W.hasDictIn K C=true
 po:PySem.W.plainOver K C=true
 sa:PySem.W.findIn K (.ref C) "__setattr__" = some (some (.builtin "object.__setattr__"))
theorem Cls.get{K:PySem.W.Frag}{C:Addr}(c:Cls K C)(f:Str):PySem.W.plainGet K C f=true:=c.pg
section
variable {X:Cx} {pins:List (Addr×Obj)} {σ:St} {H:Hp} {s:Shared} {a C dx:Addr} {fs:List (Str×V)} {f:Str} {v:V} {A:Around} {E:Value->Shared->Prop}
end
section
variable {X:Cx} {o e value:Expr} {f:Str} {pos pos' tpos:Pos} {ta tv:TE}
end
section
variable {X:Cx} {pins:List (Addr×Obj)} {σ:St} {H:Hp} {s:Shared} {A:Around} {E:Value->Shared->Prop} {Q:Value->Shared->Prop} {c:Value} {b:Bool}
inductive TyOf(K:PySem.W.Frag)(H:Hp):V->Value->Prop where
 | non:TyOf K H .non (.type "NoneType")
 | bl (x:Bool):TyOf K H (.bl x) (.type "bool")
 | int (i:Int):TyOf K H (.int i) (.type "int")
 | str (x:Str):TyOf K H (.str x) (.type "str")
 | flt (x:UInt64):TyOf K H (.flt x) (.type "float")
 | lst {a:Addr} {xs:List V} (e:H a=some (.lst xs)):TyOf K H (.ref a) (.type "list")
 | frz {a:Addr} {o:Obj} {xs:List V} (e:H a=some (.frz o (.lst xs))):TyOf K H (.ref a) (.type "list")
 | tup {a:Addr} {xs:List V} (e:H a=some (.tup xs)):TyOf K H (.ref a) (.type "tuple")
 | dK {a:Addr} {kvs:List (Key×V)} (e:H a=some (.dK kvs)):TyOf K H (.ref a) (.type "dict")
 | dT {a:Addr} {kvs:List (List Key×V)} (e:H a=some (.dT kvs)):TyOf K H (.ref a) (.type "dict")
 | ins {a C dx:Addr} {fs:List (Str×V)} (e:H a=some (.ins C dx fs)) (cl:Cls K C) (ha:PySem.W.findIn K (.ref C) "__class__" = some (some (.builtin "object.__class__")))
   (hn:PySem.W.specialIn K (.builtin "object.__class__") "__get__" = some (some (.builtin "getset_descriptor.__get__"))) (htk:PySem.W.takesIn K (.builtin "object.__class__")=some true)
   (hm:PySem.W.mroIn K C (.type "object")=some true):TyOf K H (.ref a) (.ref C)
theorem yM{x:V}{u t:Value}(I:Inv X pins σ H s)(rx:RelV x u)(ty:TyOf X.K H x t)(e:PySem.W.kitOne X.K t c=some b)(h:∀tk,Q (.bool b) { s with toks:=tk }):
  wpAny (model X.prog X.w) A (call (.builtin "isinstance") [u,c]) Q E s:=by
 cases ty with
 | non=>cases(show u=Value.none from rx);exact PySem.W.kia_one PySem.W.kitx_none I.kIn True.intro e (fun z=>nomatch z) h
 | bl y=>cases(show u=Value.bool y from rx);exact PySem.W.kia_one PySem.W.kitx_bool I.kIn True.intro e (fun z=>nomatch z) h
 | int i=>obtain⟨t,q⟩:=(show ∃t,u=Value.int i t from rx);cases q;exact PySem.W.kia_one PySem.W.kitx_int I.kIn True.intro e (fun z=>nomatch z) h
 | str y=>obtain⟨t,q⟩:=(show ∃t,u=Value.str y t from rx);cases q;exact PySem.W.kia_one PySem.W.kitx_str I.kIn True.intro e (fun z=>nomatch z) h
 | flt y=>obtain⟨t,q⟩:=(show ∃t,u=Value.float y t from rx);cases q;exact PySem.W.kia_one PySem.W.kitx_float I.kIn True.intro e (fun z=>nomatch z) h
 | @lst a xs ea=>
  cases(show u=Value.ref a from rx)
  obtain⟨_,_,n,_,h1⟩:=(show bH X.prog X.w H s.heap a (.lst xs)from I.hok a _ ea)
  exact PySem.W.kia_one PySem.W.kitx_list I.kIn ⟨_,h1,rfl⟩ e (fun z=>nomatch z) h
 | @frz a ob xs ea=>
  cases(show u=Value.ref a from rx)
  obtain⟨_,_,_,n,_,h1⟩:=(show bH X.prog X.w H s.heap a (.frz ob (.lst xs))from I.hok a _ ea)
  exact PySem.W.kia_one PySem.W.kitx_list I.kIn ⟨_,h1,rfl⟩ e (fun z=>nomatch z) h
 | @tup a xs ea=>
  cases(show u=Value.ref a from rx)
  obtain⟨_,_,_,p⟩:=(show bH X.prog X.w H s.heap a (.tup xs)from I.hok a _ ea)
  obtain⟨o,h1,h2,_⟩:=p
  exact PySem.W.kia_one PySem.W.kitx_tuple I.kIn ⟨o,h1,h2⟩ e (fun z=>nomatch z) h
 | @dK a kvs ea=>
  cases(show u=Value.ref a from rx)
  obtain⟨_,_,vs,_,p⟩:=(show bH X.prog X.w H s.heap a (.dK kvs)from I.hok a _ ea)
  obtain⟨o,es,ep,h1,h2,_⟩:=p
  exact PySem.W.kia_one PySem.W.kitx_dict I.kIn ⟨o,h1,h2.1⟩ e (fun z=>nomatch z) h
 | @dT a kvs ea=>
  cases(show u=Value.ref a from rx)
  obtain⟨_,_,xs,_,o,es,ep,h1,h2,_⟩:=(show bH X.prog X.w H s.heap a (.dT kvs)from I.hok a _ ea)
  exact PySem.W.kia_one PySem.W.kitx_dict I.kIn ⟨o,h1,h2.1⟩ e (fun z=>nomatch z) h
 | @ins a C dx fs ea cl ha hn htk hm=>
  cases(show u=Value.ref a from rx)
  obtain⟨mA,O,_⟩:=xK I.hok ea
  obtain⟨od,J,_⟩:=O.look
  exact PySem.W.kia_one (PySem.W.kitx_own (cl.get _) cl.hd ha hn htk hm) I.kIn J e (fun z=>nomatch z) h
end
end L2
namespace L2
open PySem PySem.Spec PyProof.Rows
structure Room(k:Nat)(A:Around):Prop where
 hd:A.handled=none
 dp:A.depth+3*k+5<recursionLimit
 un:A.units+16*k+200<cLine
theorem Room.mono{j k:Nat}{A:Around}(r:Room k A)(h:j<=k):Room j A:=⟨r.hd,by have:=r.dp;omega,by have:=r.un;omega⟩
theorem Room.deeper{k:Nat}{A:Around}(r:Room (k+1) A)(env:Env):Room k (A.deeper env):=
 ⟨r.hd,by have:=r.dp;show A.depth+1+3*k+5<_;omega,by have:=r.un;show A.units+3+16*k+200<_;omega⟩
theorem Room.depth{k:Nat}{A:Around}(r:Room k A):A.depth<recursionLimit:=by have:=r.dp;omega
theorem Room.units{k:Nat}{A:Around}(r:Room k A):A.units+64<cLine:=by have:=r.un;omega
def m8:TA:=fun _ H Q=>Q [] H
def mD(ta:TE)(tr:TA):TA:=fun σ H Q=>ta σ H fun x H1=>tr σ H1 fun xs H2=>Q (x::xs) H2
section
variable {X:Cx} {e:Expr} {es:List Expr} {te:TE} {t:TA} {pos:Pos}
theorem af:PA X [] m8:=fun _ _ _ _ H Q I h=>Calls.spliced_nil ⟨[],H,I,.nil,h⟩
theorem aa(ha:PE X e te)(hr:PA X es t)(hs:starEach (e::es) X.env=(false,eval e X.env)::starEach es X.env:=by rfl):PA X (e::es) (mD te t):=by
 intro pos pins s σ H Q I h
 rw[hs]
 show wpAny _ _ (spliced ((false,eval e X.env)::backTo pos (starEach es X.env))) _ _ s
 refine Calls.spliced_cons (au (ha pins s σ H _ I h) fun u s1 ⟨x,H1,I1,r1,q1⟩=>?_)
 exact au (hr pos pins s1 σ H1 _ I1 q1) fun us s2 ⟨xs,H2,I2,r2,q2⟩=>⟨x::xs,H2,I2,.cons r1 r2,q2⟩
def ml(t:TA):TE:=fun σ H Q=>t σ H fun xs H1=>xs.length<=sizeLine/\∀p,H1 p=none->Q (.ref p) (upd H1 p (.tup xs))
def ni(t:TA):TE:=fun σ H Q=>t σ H fun xs H1=>xs.length<=sizeLine/\∀p,H1 p=none->Q (.ref p) (upd H1 p (.lst xs))
theorem aX{x1}(h:PA X es t):PE X (.Tuple es x1 pos) (ml t):=by
 intro pins s σ H Q I hq
 refine wpAny_Tuple_spliced (au (h pos pins s σ H _ I hq) fun us s1 ⟨xs,H1,I1,r,z,q⟩=>⟨by rw[←r.length];exact z,?_⟩)
 have hf:H1 s1.heap.objs.size=none:=I1.hok.fresh (Nat.le_refl _)
 refine⟨.ref s1.heap.objs.size,upd H1 s1.heap.objs.size (.tup xs),I1.laid (t':=s1.toks) (fun b u e=>Heap.get?_push_of_some _ e) (Nat.le_refl _) ?_,rfl,q _ hf⟩
 exact⟨z,us,r,⟨_,Heap.get?_push_size _ rfl,rfl,_,rfl⟩⟩
theorem bf(h:PA X es t):PE X (.List es pos) (ni t):=by
 intro pins s σ H Q I hq
 refine wpAny_List_spliced (au (h pos pins s σ H _ I hq) fun us s1 ⟨xs,H1,I1,r,z,q⟩=>⟨by rw[←r.length];exact z,?_⟩)
 have hf:H1 s1.heap.objs.size=none:=I1.hok.fresh (Nat.le_refl _)
 refine⟨.ref s1.heap.objs.size,upd H1 s1.heap.objs.size (.lst xs),I1.laid (t':=s1.toks) (fun b u e=>Heap.get?_push_of_some _ e) (Nat.le_refl _) ?_,rfl,q _ hf⟩
 exact⟨z,us,0,r,Heap.get?_push_size _ rfl⟩
end
abbrev Sp:=List V->Hp->VK->XK->Prop
abbrev dg:=List Env->Hp->Shared->XK->Value->Shared->Prop
structure Env0(P:Program)(w:World)(K:PySem.W.Frag)(mg:Str->Option Value)(base:Heap)(A:Around)(outer:List Env)(s:Shared)(H:Hp):Prop where
 frames:A.frames=some outer
 mod:Mod K mg base
 bs:∀b o,base.get? b=some o->s.heap.get? b=some o/\H b=none
 bsz:base.objs.size<=s.heap.objs.size
 funs:s.heap.FunFrames base outer
 frf:∀b∈cg outer,H b=none
 hok:bq P w H s.heap
 bare:AllBare s.gens
def CE(outer:List Env)(P:Program)(w:World)(H:Hp)(s:Shared)(Q:VK)(u:Value)(s':Shared):Prop:=
 ∃v H',s'.os=s.os/\AllBare s'.gens/\Un (cg outer) [] H H' s.heap s'.heap/\bq P w H' s'.heap/\RelV v u/\Q v H'
def CR(CX:dg)(outer:List Env)(P:Program)(w:World)(H:Hp)(s:Shared)(Q:VK)(E:XK)(r:Result)(s':Shared):Prop:=
 match r with
 | .ok (.ret u)=>CE outer P w H s Q u s'
 | .ok _=>False
 | .error e=>CX outer H s E e s'
structure FnOk(P:Program)(w:World)(K:PySem.W.Frag)(mg:Str->Option Value)(base:Heap)(CX:dg)(k:Nat)(f:Addr)(fd:FuncData)(ps:List Str)(sp:Sp):Prop where
 len:∀vs H Q E,sp vs H Q E->vs.length=ps.length
 run:∀(A:Around) (outer:List Env) (s:Shared) (H:Hp) (args:Args) (us:List Value) (vs:List V) (Q:VK) (E:XK),Room k A->Env0 P w K mg base A outer s H->BindsTo s fd args (ps.zip us)->Vals vs us->sp vs H Q E →
  codeAny (model P w) A (.call (.ref f) args) (CR CX outer P w H s Q E) s
section
variable {X:Cx} {pins:List (Addr×Obj)} {σ:St} {H:Hp} {s s':Shared}
theorem Inv.env0(I:Inv X pins σ H s):Env0 X.prog X.w X.K X.mg X.base X.A X.stack s H:=
 ⟨I.ok.frames,I.ok.mod,I.bs,Nat.le_trans I.ok.bsz I.sz,I.stack,I.stkFree,I.hok,I.bare⟩
theorem Inv.after{Q:VK}{u:Value}(I:Inv X pins σ H s)(h:CE X.stack X.prog X.w H s Q u s'):EP X pins σ Q u s':=by
 obtain⟨v,H',os,bare,un,hok,r,q⟩:=h
 obtain⟨hh,g,d,t,os'⟩:=s'
 obtain rfl:os'=s.os:=os
 exact⟨v,H',I.call (h':=hh) (g':=g) (d':=d) (t':=t) (ch:=[]) un hok bare (fun b z=>absurd z (by simp)),r,q⟩
end
def lq(sp:Sp)(dvs:List V)(E:XK)(t:TA):TE:=fun σ H Q=>t σ H fun vs H1=>sp (vs++dvs) H1 Q E
def Binds(K:PySem.W.Frag)(fd:FuncData)(ps:List Str)(ds:List Value):Prop:=
 ∀(s:Shared) (us:List Value),K.In s.heap->(us++ds).length=ps.length->BindsTo s fd ⟨us,[]⟩ (ps.zip (us++ds))
theorem Binds.all{K:PySem.W.Frag}{fd:FuncData}{ps:List Str}(h:∀us:List Value,us.length=ps.length->bindArgs fd ⟨us,[]⟩=pure (ps.zip us)):Binds K fd ps []:=fun s us _ hl=>by
 rw[List.append_nil]at hl ⊢
 exact .of_eq (h us hl)
def Passes(CX:dg)(X:Cx)(E:XK):Prop:=∀(pins:List (Addr×Obj)) (σ:St) (H:Hp) (s:Shared) (e:Value) (s':Shared),Inv X pins σ H s->CX X.stack H s E e s'->X.xe e s'
section
variable {X:Cx} {CX:dg} {k:Nat} {f C:Addr} {fd:FuncData} {ps:List Str} {sp:Sp} {dvs:List V} {ds:List Value} {E:XK} {x m:Str} {p pos apos:Pos} {e o:Expr} {es:List Expr} {ta:TE} {t:TA}
theorem zF{pins:List (Addr×Obj)}{σ:St}{H:Hp}{s:Shared}{Q:VK}{us:List Value}{vs:List V}(F:FnOk X.prog X.w X.K X.mg X.base CX k f fd ps sp)(hr:Room k X.A)(hb:Binds X.K fd ps ds)(hd:Vals dvs ds)(hx:Passes CX X E)
  (I:Inv X pins σ H s) (r:Vals vs us) (h:sp (vs++dvs) H Q E):wpAny (model X.prog X.w) X.A (call (.ref f) us) (EP X pins σ Q) X.xe s:=by
 have r2:Vals (vs++dvs) (us++ds):=r.append hd
 have hl:(us++ds).length=ps.length:=by rw[←r2.length];exact F.len _ _ _ _ h
 refine wpAny_call (codeAny_mono (F.run X.A X.stack s H ⟨us,[]⟩ (us++ds) (vs++dvs) Q E hr I.env0 (hb s us I.kIn hl) r2 h) fun r s' hq=>?_)
 cases r with
 | error e=>exact hx pins σ H s e s' I hq
 | ok fl=>
  cases fl with
  | ret u=>exact I.after hq
  | next=>exact False.elim hq
  | brk=>exact False.elim hq
  | cont=>exact False.elim hq
theorem wA(F:FnOk X.prog X.w X.K X.mg X.base CX k f fd ps sp)(hr:Room k X.A)(hg:Gl X x)(hm:X.mg x=some (.ref f))(hk:PySem.W.keepIn X.K (.ref f)=true)(hb:Binds X.K fd ps ds)(hd:Vals dvs ds)(hx:Passes CX X E)
  (ha:PA X (e::es) t) (hdb:(x == ("__debug__":Str))=false:=by decide) (he:starEach (e::es) X.env=(false,eval e X.env)::starEach es X.env:=by rfl) (hpl:(backTo pos (starEach es X.env)).any (·.1)=false:=by rfl) :
  PE X (.Call (.Name x p) (e::es) [] pos) (lq sp dvs E t):=by
 intro pins s σ H Q I h
 refine wpAny_Call_Name_kw (kl I hg hm ?_ hdb)
 refine PySem.W.callWith_K (h₀:=X.base) I.ok.mod.kin hk (au (ha pos pins s σ H _ I h) fun us s1 ⟨vs,H1,I1,r,q⟩=>⟨I1.kIn,?_⟩) he hpl
 exact zF F hr hb hd hx I1 r q
end
section
variable {X:Cx} {CX:dg} {k:Nat} {f C:Addr} {fd:FuncData} {ps ks:List Str} {sp:Sp} {E:XK} {x m:Str} {p pos apos kpos:Pos} {e o:Expr} {es:List Expr} {kws:List Keyword} {te ta:TE} {t tk:TA} {nm:Option Str}
variable {g:List Value->List Value->List Value} {gV:List V->List V->List V}
end
structure FnScope(N P:List Str)(sc:Scope):Prop where
 kind:sc.kind=.function
 co:sc.isCoroutine=false
 gen:sc.isGenerator=false
 nd:N.Nodup
 pre:N.take P.length=P
 par:∀x∈P,sc.names.lookup x=some .local\/sc.names.lookup x=some .cell
 nofree:∀y∈sc.names,y.2≠.free
theorem q9{kindOf:Str->Option NameKind}{x:Str}:∀{binds:List (Str×Value)} {m:Str->Option Value},(∀v,(x,v)∉binds)->bindL kindOf binds m x=m x
 | [],_,_=>rfl
 | (n,v)::r,m,h=>by
  unfold bindL
  rw[q9 fun w hw=>h w (List.mem_cons_of_mem _ hw)]
  split
  ·have:x≠n:=by rintro rfl;exact h v List.mem_cons_self
   simp[this]
  ·rfl
theorem oG{kindOf:Str->Option NameKind}{x:Str}:∀{binds:List (Str×Value)} {m:Str->Option Value},(∀v,(x,v)∉binds)->bindC kindOf binds m x=m x
 | [],_,_=>rfl
 | (n,v)::r,m,h=>by
  unfold bindC
  rw[oG fun w hw=>h w (List.mem_cons_of_mem _ hw)]
  split
  ·rfl
  ·have:x≠n:=by rintro rfl;exact h v List.mem_cons_self
   simp[this]
theorem nY{kindOf:Str->Option NameKind}{x:Str}{v:Value}:∀{P:List Str} {vs:List Value} {i:Nat} {m:Str->Option Value},P.Nodup->P[i]?=some x->vs[i]?=some v->kindOf x=some .local →
  bindL kindOf (P.zip vs) m x=some v
 | [],_,_,_,_,h,_,_=>by simp at h
 | _::_,[],_,_,_,_,h,_=>by simp at h
 | p::P,w::vs,0,m,nd,h1,h2,hk=>by
  simp at h1 h2;subst h1;subst h2
  show bindL kindOf ((p,w)::P.zip vs) m p=_
  unfold bindL
  rw[q9 fun v hv=>(List.nodup_cons.mp nd).1 (List.of_mem_zip hv).1,if_pos hk]
  simp
 | p::P,w::vs,i+1,m,nd,h1,h2,hk=>by
  show bindL kindOf ((p,w)::P.zip vs) m x=_
  unfold bindL
  exact nY (i:=i) (List.nodup_cons.mp nd).2 (by simpa using h1) (by simpa using h2) hk
theorem qo{kindOf:Str->Option NameKind}{x:Str}{v:Value}:∀{P:List Str} {vs:List Value} {i:Nat} {m:Str->Option Value},P.Nodup->P[i]?=some x->vs[i]?=some v->kindOf x≠some .local →
  bindC kindOf (P.zip vs) m x=some v
 | [],_,_,_,_,h,_,_=>by simp at h
 | _::_,[],_,_,_,_,h,_=>by simp at h
 | p::P,w::vs,0,m,nd,h1,h2,hk=>by
  simp at h1 h2;subst h1;subst h2
  show bindC kindOf ((p,w)::P.zip vs) m p=_
  unfold bindC
  rw[oG fun v hv=>(List.nodup_cons.mp nd).1 (List.of_mem_zip hv).1,if_neg hk]
  simp
 | p::P,w::vs,i+1,m,nd,h1,h2,hk=>by
  show bindC kindOf ((p,w)::P.zip vs) m x=_
  unfold bindC
  exact qo (i:=i) (List.nodup_cons.mp nd).2 (by simpa using h1) (by simpa using h2) hk
def start(N:List Str)(vs:List V):St:=vs.map some++List.replicate (N.length-vs.length) none
def eW(CX:dg)(P:Program)(w:World)(K:PySem.W.Frag)(mg:Str->Option Value)(base:Heap)(N:List Str)(qual:Str)(scope:Scope)(f:Addr)(cd:Value)(A:Around)(outer:List Env)(s:Shared)(H:Hp)(E:XK):Cx where
 prog:=P
 w:=w
 K:=K
 mg:=mg
 base:=base
 A:=A.deeper (envOfC qual scope s.heap.objs.size f cd)
 N:=N
 s₀:=s
 H₀:=H
 env:=envOfC qual scope s.heap.objs.size f cd
 outer:=outer
 stack:=envOfC qual scope s.heap.objs.size f cd::outer
 ex:=[]
 calm:=true
 fn:=fun _=>true
 pn:=[]
 xe:=fun e s'=>wpAny (model P w) (A.deeper (envOfC qual scope s.heap.objs.size f cd)) (leaving (envOfC qual scope s.heap.objs.size f cd) e) (fun _ s''=>CX outer H s E e s'') (fun e' s''=>CX outer H s E e' s'') s'
theorem oX{sc:Scope}{n:Nat}{x:Str}(h:sc.names.lookup x=some .cell):∃c,(cellsFrom n sc.names []).lookup x=some c:=by
 have q:=PySem.W.cellsFrom_some sc.names n [] (.inl h)
 exact Option.isSome_iff_exists.mp q
theorem xW{CX:dg}{P:Program}{w:World}{K:PySem.W.Frag}{mg:Str->Option Value}{base:Heap}{N ps:List Str}{qual:Str}{scope:Scope}{f:Addr}{cd:Value}{A:Around}{outer:List Env}{s s1:Shared}{H:Hp}{E:XK}{us:List Value}{vs:List V}
  (S:FnScope N ps scope) (hd:A.handled=none) (e0:Env0 P w K mg base A outer s H) (hl:vs.length=ps.length) (r:Vals vs us)
  (x:InCallC s s.heap.objs.size (bindL (envOfC qual scope s.heap.objs.size f cd).kindOf (ps.zip us) fun _=>none) (cellsFrom (s.heap.objs.size+1) scope.names []) (bindC (envOfC qual scope s.heap.objs.size f cd).kindOf (ps.zip us) fun _=>none) s1) :
  Inv (eW CX P w K mg base N qual scope f cd A outer s H E) [] (start N vs) H s1:=by
 have hpl:ps.length<=N.length:=by have:=congrArg List.length S.pre;rw[List.length_take]at this;omega
 obtain⟨h1,tk,rfl,hk⟩:=x.done
 have noA:∀b:Addr,b∉(eW CX P w K mg base N qual scope f cd A outer s H E).ex:=fun b z=>absurd (show b∈([]:List Addr)from z) (by simp)
 refine⟨⟨e0.mod,S.kind,rfl,rfl,Nat.le_refl _,fun y z c h1 h2=>?_,fun y hy=>?_,fun y c _ h=>?_,fun _=>hd,Around.frames_deeper e0.frames,.inr ⟨rfl,rfl⟩,fun b z=>absurd z (noA b),e0.bs,e0.bsz,fun b _ _=>noA b,fun b z=>absurd z (noA b),e0.funs,e0.frf⟩,
  rfl,e0.bare,Un.kept hk,⟨_,x.toInCall.ns,fun i y v h1 h2 h3=>?_⟩,fun y c h=>⟨_,x.cell y c h⟩,e0.hok.fresh (Nat.le_refl _),fun y c h=>?_,fun p hp=>absurd (show p∈([]:List (Addr×Obj))from hp) (by simp),e0.hok.kept hk,?_⟩
 ·exact name_of_addr x.apart (PySem.mem_of_lookup h1) (PySem.mem_of_lookup h2)
 ·have hy:scope.names.lookup y=some .cell\/scope.names.lookup y=some .free:=hy
  rcases hy with hy | hy
  ·exact oX hy
  ·exact absurd rfl (S.nofree _ (PySem.mem_of_lookup hy))
 ·exact Nat.le_of_lt (x.above y c (PySem.mem_of_lookup h))
 ·have hi:i<vs.length:=by
   unfold start at h2
   by_cases hi:i<vs.length
   ·exact hi
   ·rw[List.getElem?_append_right (by simpa using hi)]at h2
    rw[List.getElem?_replicate]at h2
    split at h2<;>cases h2
  have ha:vs[i]?=some v:=by
   unfold start at h2
   rw[List.getElem?_append_left (by simpa using hi),List.getElem?_map]at h2
   cases e:vs[i]? with
   | none=>rw[e]at h2;cases h2
   | some a=>rw[e]at h2;cases h2;rfl
  obtain⟨u,hu,rv⟩:=r.get ha
  have hp:ps[i]?=some y:=by
   rw[←S.pre,List.getElem?_take_of_lt (by omega)];exact h1
  have ndP:ps.Nodup:=by rw[←S.pre];exact S.nd.sublist (List.take_sublist _ _)
  refine⟨u,rv,?_⟩
  rcases S.par y (List.mem_of_getElem? hp)with k | k
  ·exact .inl ⟨k,nY ndP hp hu k⟩
  ·obtain⟨c,e⟩:=oX (n:=s.heap.objs.size+1) k
   refine .inr ⟨.inl k,c,e,?_⟩
   have q:=x.cell y c e
   rw[qo ndP hp hu (by show scope.names.lookup y≠_;rw[k];decide)]at q
   exact q
 ·exact e0.hok.fresh (Nat.le_of_lt (x.above y c (PySem.mem_of_lookup h)))
 ·unfold start
  show _=N.length
  rw[List.length_append,List.length_map,List.length_replicate]
  omega
theorem zT{CX:dg}{P:Program}{w:World}{K:PySem.W.Frag}{mg:Str->Option Value}{base:Heap}{k:Nat}{f:Addr}{name qual:Str}{params:Arguments}{body:List Stmt}{scope:Scope}{dV kV doc pm cdv ct oc:Value}{an od:Option Addr}
  {osl:Array (Option Value)} {N ps:List Str} {sp:Sp} (lk:K.lookup f=some ⟨oc,od,.func (PySem.W.fnOf name qual params body scope dV kV doc pm an cdv ct),osl⟩) (hcd:PySem.W.codeIn K cdv qual=true) (S:FnScope N ps scope)
  (len:∀vs H Q E,sp vs H Q E->vs.length=ps.length)
  (hbody:∀(A:Around) (outer:List Env) (s:Shared) (H:Hp) (vs:List V) (Q:VK) (E:XK),Room k (A.deeper (envOfC qual scope s.heap.objs.size f cdv))->sp vs H Q E →
   ∃t,b9 (eW CX P w K mg base N qual scope f cdv A outer s H E) body t/\t { nx:=fun _ H'=>Q .non H',rt:=Q } (start N vs) H) :
  FnOk P w K mg base CX (k+1) f (PySem.W.fnOf name qual params body scope dV kV doc pm an cdv ct) ps sp:=by
 refine⟨len,fun A outer s H args us vs Q E hr e0 hb r hsp=>?_⟩
 have hl:=len _ _ _ _ hsp
 have KX:K.In s.heap:=e0.mod.kin.keeps fun b o e=>(e0.bs b o e).1
 have lim:s.heap.NoLimit:=e0.mod.nolimit.keeps fun b o e=>(e0.bs b o e).1
 have hkind:∀y∈ps.zip us,scope.names.lookup y.1=some .local\/(scope.names.lookup y.1=some .cell/\((cellsFrom (s.heap.objs.size+1) scope.names []).lookup y.1).isSome=true):=fun⟨n,v⟩ hy=>by
  rcases S.par n (List.of_mem_zip hy).1 with q | q
  ·exact .inl q
  ·exact .inr ⟨q,PySem.W.cellsFrom_some _ _ _ (.inl q)⟩
 refine codeAny_call_function hr.depth (KX _ _ lk) rfl S.co S.gen rfl (PySem.W.codeRec_of KX hcd) (hb _ _ _ _ ?_)
 refine wpAny_newFunctionEnv_cells S.kind hkind fun env he s1 x=>?_
 subst he
 refine⟨lim.keeps x.toInCall.keep,codeAny_func ?_⟩
 obtain⟨t,ht,hq⟩:=hbody A outer s H vs Q E (hr.deeper _) hsp
 have I:Inv (eW CX P w K mg base N qual scope f cdv A outer s H E) [] (start N vs) H s1:=xW S hr.hd e0 hl r x
 refine wpAny_mono (ht [] s1 (start N vs) H _ I hq) (fun fl s' hs=>?_) fun e s' hs=>hs
 have fin:∀{σ':St} {H':Hp} {v:V} {u:Value},Inv (eW CX P w K mg base N qual scope f cdv A outer s H E) [] σ' H' s'->RelV v u->Q v H'->CE outer P w H s Q u s':=
  fun{σ' H' v u} J rv q=>⟨v,H',J.os,J.bare,J.base,J.hok,rv,q⟩
 cases fl with
 | ret u=>
  obtain⟨v,σ',H',J,rv,q⟩:=hs
  exact fin J rv q
 | next=>
  obtain⟨σ',H',J,q⟩:=hs
  exact fin (v:=V.non) (u:=Value.none) J rfl q
 | brk=>
  obtain⟨_,_,_,q⟩:=hs
  exact False.elim q
 | cont=>
  obtain⟨_,_,_,q⟩:=hs
  exact False.elim q
end L2
namespace L2
open PySem PySem.Spec PyProof.Rows
section
variable {X:Cx} {x:Str} {p pos:Pos} {e:Expr} {es:List Expr} {t:TA} {id T:String} {r:List V->Hp->VK->Prop}
def my(r:List V->Hp->VK->Prop)(t:TA):TE:=fun σ H Q=>t σ H fun vs H1=>r vs H1 Q
theorem aP(hc:bg X (.builtin id) r)(hg:Gl X x)(hm:X.mg x=none)(hv:bootBuiltins x=some (.builtin id))(ha:PA X (e::es) t)(hn:x≠"__name__":=by decide)(hdb:(x == ("__debug__":Str))=false:=by decide)
  (he:starEach (e::es) X.env=(false,eval e X.env)::starEach es X.env:=by rfl) (hpl:(backTo pos (starEach es X.env)).any (·.1)=false:=by rfl):PE X (.Call (.Name x p) (e::es) [] pos) (my r t):=by
 intro pins s σ H Q I h
 refine wpAny_Call_Name_kw (fm I hg hm hv ?_ hn hdb)
 exact PyProof.Rows.callWith_builtin1 (au (ha pos pins s σ H _ I h) fun us s1 ⟨vs,H1,I1,r1,q1⟩=>hc pins s1 σ H1 vs us Q I1 r1 q1) he hpl
theorem de(hc:bg X (.type T) r)(hg:Gl X x)(hm:X.mg x=none)(hv:bootBuiltins x=some (.type T))(ha:PA X (e::es) t)(hn:x≠"__name__":=by decide)(hdb:(x == ("__debug__":Str))=false:=by decide)
  (he:starEach (e::es) X.env=(false,eval e X.env)::starEach es X.env:=by rfl) (hpl:(backTo pos (starEach es X.env)).any (·.1)=false:=by rfl):PE X (.Call (.Name x p) (e::es) [] pos) (my r t):=by
 intro pins s σ H Q I h
 refine wpAny_Call_Name_kw (fm I hg hm hv ?_ hn hdb)
 exact PyProof.Rows.callWith_type1 (au (ha pos pins s σ H _ I h) fun us s1 ⟨vs,H1,I1,r1,q1⟩=>hc pins s1 σ H1 vs us Q I1 r1 q1) he hpl
end
end L2
namespace HT
open PySem PyProof.Rows
section
open PySem.SeqAt
open PySem.AutoSeq1 (wpAny_loadPart')
open PySem.MeetsSeq PySem.MeetsSeq2 PySem.MeetsSeq3
end
section
variable {prog:Program} {w:World} {A:Around} {E:Value->Shared->Prop} {s:Shared}
def bN(n d:Nat):Option Int->Nat
 | none=>d
 | some v=>if v<0 then(v+(n:Int)).toNat else min v.toNat n
theorem iI(n d:Nat):bN n d none=d:=rfl
theorem la(n d k:Nat):bN n d (some (k:Int))=min k n:=by
 show(if(k:Int)<0 then((k:Int)+(n:Int)).toNat else min (k:Int).toNat n)=min k n
 rw[if_neg (by omega),Int.toNat_natCast]
end
end HT
namespace L2
open PySem PySem.Spec PyProof.Rows
abbrev TO:=St->Hp->(Option Int->Hp->Prop)->Prop
def PO(X:Cx)(e:Option Expr)(t:TO):Prop:=
 ∀(pins:List (Addr×Obj)) (s:Shared) (σ:St) (H:Hp) (Q:Option Int->Hp->Prop),Inv X pins σ H s->t σ H Q →
  wpAny (model X.prog X.w) X.A (evalPart e X.env) (fun u s'=>∃o H',Inv X pins σ H' s'/\IsPart u o/\Q o H') X.xe s
def tm:TO:=fun _ H Q=>Q none H
def pI(t:TE):TO:=fun σ H Q=>t σ H fun x H1=>∃i,x=.int i/\Q (some i) H1
theorem intsAre_of{ns:List Int}:∀{us:List Value},Vals (ns.map V.int) us->IntsAre us ns:=by
 induction ns with
 | nil=>intro us r;rw[List.map_nil]at r;cases r;exact .nil
 | cons n ns ih=>
  intro us r
  rw[List.map_cons]at r
  cases r with
  | cons r1 r2=>
   obtain⟨t,e⟩:=r1
   subst e
   exact .cons n t (ih r2)
section
variable {X:Cx} {e:Expr} {te:TE} {lo hi:Option Expr} {tl th:TO} {pos p2:Pos}
theorem gX:PO X none tm:=by
 intro pins s σ H Q I h
 rw[evalPart_none]
 exact wpAny_pure ⟨none,H,I,.none,h⟩
theorem eh(h:PE X e te):PO X (some e) (pI te):=by
 intro pins s σ H Q I hw
 rw[evalPart_some]
 refine au (h pins s σ H _ I hw) fun u s1 ⟨x,H1,I1,r1,q1⟩=>?_
 obtain⟨i,rfl,q⟩:=q1
 obtain⟨t,rfl⟩:=r1
 exact⟨some i,H1,I1,.int i t,q⟩
def m6(X:Cx)(r:V->Option Int->Option Int->Hp->VK->Prop):Prop:=
 ∀(pins:List (Addr×Obj)) (s:Shared) (σ:St) (H:Hp) (x:V) (v vl vu:Value) (lo hi:Option Int) (sl:Addr) (Q:VK),Inv X pins σ H s->RelV x v->s.heap.IsSliceOf sl vl vu .none->IsPart vl lo->IsPart vu hi->r x lo hi H Q →
  ∃T id,typeLookup (.type T) "__getitem__" = pure (some (.builtin id))/\s.TypeIs v T/\wpAny (model X.prog X.w) X.A (getItem v (.ref sl)) (EP X pins σ Q) X.xe s
def oA(r:V->Option Int->Option Int->Hp->VK->Prop)(te:TE)(tl th:TO):TE:=fun σ H Q=>te σ H fun x H1=>tl σ H1 fun l H2=>th σ H2 fun u H3=>r x l u H3 Q
theorem fA{r:V->Option Int->Option Int->Hp->VK->Prop}(hr:m6 X r)(he:PE X e te)(hl:PO X lo tl)(hu:PO X hi th):PE X (.Subscript e (.Slice lo hi none p2) pos) (oA r te tl th):=by
 intro pins s σ H Q I h
 refine Subscript_ (au (he pins s σ H _ I h) fun v s1 ⟨x,H1,I1,r1,q1⟩=>?_)
 refine wpAny_Slice (au (hl pins s1 σ H1 _ I1 q1) fun vl s2 ⟨l,H2,I2,pl,q2⟩=>au (hu pins s2 σ H2 _ I2 q2) fun vu s3 ⟨u,H3,I3,pu,q3⟩=>?_)
 rw[evalPart_none]
 refine wpAny_pure ?_
 have I4:Inv X pins σ H3 { s3 with heap:=s3.heap.push { cls:=.type "slice",data:=.fields #[vl,vu,.none] } }:=I3.kept (t':=s3.toks) fun b ob q=>Heap.get?_push_of_some _ q
 obtain⟨T,id,hT,ht,hg⟩:=hr pins { s3 with heap:=s3.heap.push { cls:=.type "slice",data:=.fields #[vl,vu,.none] } } σ H3 x v vl vu l u s3.heap.objs.size Q I4 r1 (Heap.IsSliceOf.new ..) pl pu q3
 show wpAny (model X.prog X.w) X.A (subscriptTail e (.Slice lo hi none p2) v (.ref s3.heap.objs.size)) (EP X pins σ Q) X.xe { s3 with heap:=s3.heap.push { cls:=.type "slice",data:=.fields #[vl,vu,.none] } }
 exact tail_any (ops:=[.ref s3.heap.objs.size,v]) ht hT hg (by with_unfolding_all rfl)
def cq(xs:List V)(lo hi:Option Int):List V:=(xs.drop (HT.bN xs.length 0 lo)).take (HT.bN xs.length xs.length hi-HT.bN xs.length 0 lo)
theorem xO(xs:List V)(lo hi:Option Int):(cq xs lo hi).length<=xs.length:=by
 unfold cq
 rw[List.length_take,List.length_drop]
 omega
end
end L2
namespace L2
open PySem PySem.Spec PyProof.Rows
def dE(n:Nat)(i:Int):Option Nat:=if 0<=i then(if i<n then some i.toNat else none)else if -(n:Int)<=i then some (i+n).toNat else none
def bD{α:Type}(xs:List α)(i:Int):Option α:=(dE xs.length i).bind fun j=>xs[j]?
theorem oQ{n:Nat}{i:Int}{j:Nat}(h:dE n i=some j):seqIndex? i n=some j/\j<n/\-(n:Int)<=i/\i<n:=by
 unfold dE at h
 by_cases h0:0<=i
 ·rw[if_pos h0]at h
  by_cases h1:i<n
  ·rw[if_pos h1]at h
   have e:i.toNat=j:=Option.some.inj h
   exact⟨by rw[seqIndex_of h0 h1,e],by omega,by omega,h1⟩
  ·rw[if_neg h1]at h;cases h
 ·rw[if_neg h0]at h
  by_cases h1:-(n:Int)<=i
  ·rw[if_pos h1]at h
   have e:(i+n).toNat=j:=Option.some.inj h
   exact⟨by rw[seqIndex_neg (by omega) h1,e],by omega,h1,by omega⟩
  ·rw[if_neg h1]at h;cases h
theorem lC{α:Type}{xs:List α}{i:Int}{v:α}(h:bD xs i=some v):∃j,seqIndex? i xs.length=some j/\xs[j]?=some v/\j<xs.length/\-(xs.length:Int)<=i/\i<xs.length:=by
 unfold bD at h
 cases e:dE xs.length i with
 | none=>rw[e]at h;cases h
 | some j=>
  rw[e]at h
  obtain⟨h1,h2,h3,h4⟩:=oQ e
  exact⟨j,h1,h,h2,h3,h4⟩
theorem dR{α:Type}{xs:List α}{j:Nat}{v:α}(h:xs[j]?=some v):bD xs (j:Int)=some v:=by
 have hj:j<xs.length:=(List.getElem?_eq_some_iff.mp h).1
 have e:dE xs.length (j:Int)=some j:=by
  unfold dE
  rw[if_pos (by omega),if_pos (by omega)];simp
 unfold bD;rw[e];exact h
def vG(b:Expr):Prop:=∀o i,subscripted b false o i=operate [o,i] (getItem o i)
def f9(X:Cx)(r:R2):Prop:=
 ∀(value slice:Expr) (pins:List (Addr×Obj)) (s:Shared) (σ:St) (H:Hp) (x y:V) (v u:Value) (Q:VK),Inv X pins σ H s->RelV x v->RelV y u->r x y H Q →
  subscripted slice false v u=operate [v,u] (getItem v u)->wpAny (model X.prog X.w) X.A (subscriptTail value slice v u) (EP X pins σ Q) X.xe s
def jt(X:Cx)(id:String)(r:V->List V->Hp->VK->Prop):Prop:=
 ∀(pins:List (Addr×Obj)) (s:Shared) (σ:St) (H:Hp) (x:V) (xs:List V) (v:Value) (us:List Value) (Q:VK),Inv X pins σ H s->RelV x v->Vals xs us->r x xs H Q →
  wpAny (model X.prog X.w) X.A (call (.builtin id) (v::us)) (EP X pins σ Q) X.xe s
section
variable {X:Cx} {a b:Expr} {ta tb:TE} {pos:Pos}
theorem ak{r:R2}(hr:f9 X r)(ha:PE X a ta)(hb:PE X b tb)(hs:vG b):PE X (.Subscript a b pos) (gP r ta tb):=by
 intro pins s σ H Q I h
 exact Subscript_ (mz ha hb I h fun v u s2 x y H2 I2 rx ry q=>hr a b pins s2 σ H2 x y v u Q I2 rx ry q (hs _ _))
def lF(K:PySem.W.Frag):R2:=fun x y H Q=>∃p xs i v,x=.ref p/\y=.int i/\ag K H p xs/\bD xs i=some v/\Q v H
def kZ(K:PySem.W.Frag):R2:=fun x y H Q=>∃p xs i v,x=.ref p/\y=.int i/\ah K H p xs/\bD xs i=some v/\Q v H
def zy:R2:=fun x y H Q=>∃z i c,x=.str z/\y=.int i/\z.length<=sizeLine/\bD z.cps.toList i=some c/\Q (.str ⟨#[c]⟩) H
theorem vn:f9 X (lF X.K):=by
 intro value slice pins s σ H x y v u Q I rx ry h hs
 obtain⟨p,xs,i,z,rfl,rfl,hq,he,q⟩:=h
 cases rx
 obtain⟨t,rfl⟩:=ry
 obtain⟨its,r,pl,hz⟩:=I.list hq
 obtain⟨j,h1,h2,h3,h4,h5⟩:=lC he
 obtain⟨w,ew,rw'⟩:=r.get h2
 have hl:=r.length
 have hn:=fI
 have fin:EP X pins σ Q w s:=⟨z,H,I,rw',q⟩
 by_cases h0:0<=i
 ·have hj:i.toNat=j:=by
   rw[seqIndex_of h0 h5]at h1
   exact Option.some.inj h1
  exact item_listR pl.isList h0 (by omega) (by rw[hj];simpa using ew) fin hs
 ·have hj:(i+(its.toArray.size:Int)).toNat=j:=by
   rw[seqIndex_neg (by omega) h4]at h1
   rw[List.size_toArray,←hl]
   exact Option.some.inj h1
  exact subscriptTail_builtinR (x:=w) pl.isList.typeIs slot_list_getitem.lookup
   (wpAny_getItem_list_neg (Q:=fun r s'=>r=w/\EP X pins σ Q r s') pl.isList (by omega) (by rw[List.size_toArray]<;>omega) (by omega) (by rw[hj];simpa using ew) ⟨rfl,fin⟩) hs
theorem uJ:f9 X (kZ X.K):=by
 intro value slice pins s σ H x y v u Q I rx ry h hs
 obtain⟨p,xs,i,z,rfl,rfl,hq,he,q⟩:=h
 cases rx
 obtain⟨t,rfl⟩:=ry
 obtain⟨its,r,pl,hz⟩:=I.tuple hq
 obtain⟨j,h1,h2,h3,h4,h5⟩:=lC he
 obtain⟨w,ew,rw'⟩:=r.get h2
 have hl:=r.length
 have hn:=fI
 have fin:EP X pins σ Q w s:=⟨z,H,I,rw',q⟩
 exact subscriptTail_builtinR (x:=w) pl.typeIs slot_tuple_getitem.lookup
  (getItem_tuple (j:=j) (Q:=fun r s'=>r=w/\EP X pins σ Q r s') pl (by omega) (by omega) (by rw[List.size_toArray,←hl];exact h1) (by simpa using ew) ⟨rfl,fin⟩) hs
theorem tU:f9 X zy:=by
 intro value slice pins s σ H x y v u Q I rx ry h hs
 obtain⟨z,i,c,rfl,rfl,hz,he,q⟩:=h
 obtain⟨t,rfl⟩:=rx
 obtain⟨t',rfl⟩:=ry
 obtain⟨j,h1,h2,h3,h4,h5⟩:=lC he
 have hl:z.cps.toList.length=z.length:=by simp[Str.length]
 rw[hl]at h1 h4 h5
 have hn:=fI
 exact tail_any (typeIs_str s z t) slot_str_getitem.lookup (getItem_str (c:=c) (by
  have e1:decide (i < -(2 ^ 63:Int))=false:=decide_eq_false (by omega)
  have e2:decide (i ≥ 2 ^ 63)=false:=decide_eq_false (by omega)
  rw[e1,e2,Bool.or_false]) (by rw[h1];simpa using h2) ⟨.str ⟨#[c]⟩,H,I.tok _,⟨_,rfl⟩,q⟩) hs
theorem vQ(its:List Value)(n j:Nat)(u:Value):Obj.mapSeq (·.setIfInBounds j u) { cls:=.type "list",data:=.seq its.toArray n }={ cls:=.type "list",data:=.seq (its.set j u).toArray n }:=by
 simp[Obj.mapSeq]
theorem Inv.lst{pins:List (Addr×Obj)}{σ:St}{H:Hp}{s:Shared}{p:Addr}{xs:List V}(I:Inv X pins σ H s)(h:H p=some (.lst xs)):
  ∃(its:List Value) (n:Nat),Vals xs its/\s.heap.get? p=some { cls:=.type "list",data:=.seq its.toArray n }/\xs.length<=sizeLine:=by
 obtain⟨z,its,n,r,e⟩:=I.hok p _ h
 exact⟨its,n,r,e,z⟩
theorem Inv.lstUpd{pins:List (Addr×Obj)}{σ:St}{H:Hp}{s:Shared}{p:Addr}{xs ys:List V}{its its':List Value}{n n':Nat}{f:Obj->Obj}(I:Inv X pins σ H s)(h:H p=some (.lst xs))
  (ho:s.heap.get? p=some { cls:=.type "list",data:=.seq its.toArray n }) (hf:f { cls:=.type "list",data:=.seq its.toArray n }={ cls:=.type "list",data:=.seq its'.toArray n' }) (r:Vals ys its') (hz:ys.length<=sizeLine) (t:Nat) :
  Inv X pins σ (upd H p (.lst ys)) { s with heap:=s.heap.update p f,toks:=t }:=by
 have e:(s.heap.update p f).get? p=some { cls:=.type "list",data:=.seq its'.toArray n' }:=by
  rw[Heap.get?_update_self f ho (by rw[hf]<;>rfl),hf]
 refine I.write (x:=p) (e:=p) (by rw[h];trivial) (.inl rfl) (fun b u hb q=>(Heap.get?_update_other _ _ (Ne.symm hb)).trans q) ⟨_,e⟩ ?_
 exact⟨hz,its',n',r,e⟩
def tp:V->V->V->Hp->(Hp->Prop)->Prop:=fun o i v H Q=>∃p xs k j,o=.ref p/\i=.int k/\H p=some (.lst xs)/\dE xs.length k=some j/\Q (upd H p (.lst (xs.set j v)))
theorem set_list:ph X tp:=by
 intro pins s σ H o i v ov iv u Q I ro ri rv h
 obtain⟨p,xs,k,j,rfl,rfl,hp,hj,q⟩:=h
 cases ro
 obtain⟨t,rfl⟩:=ri
 obtain⟨its,n,r,ho,hz⟩:=I.lst hp
 obtain⟨h1,h2,h3,h4⟩:=oQ hj
 have hl:=r.length
 have hn:=fI
 have I':Inv X pins σ (upd H p (.lst (xs.set j v))) { s with heap:=s.heap.update p (Obj.mapSeq (·.setIfInBounds j u)) }:=
  I.lstUpd hp ho (vQ its n j u) (r.set rv j) (by rw[List.length_set];exact hz) s.toks
 by_cases h0:0<=k
 ·have hk:k.toNat=j:=by
   rw[seqIndex_of h0 h4]at h1
   exact Option.some.inj h1
  exact PySem.W.ki_setAt ho h0 (by omega) (by rw[List.size_toArray,←hl];exact h4) (by rw[hk];exact⟨_,I',q⟩)
 ·have hk:(k+(its.toArray.size:Int)).toNat=j:=by
   rw[seqIndex_neg (by omega) h3]at h1
   rw[List.size_toArray,←hl]
   exact Option.some.inj h1
  exact PySem.W.ki_setBack ho (by omega) (by rw[List.size_toArray,←hl];exact h3) (by omega) (by rw[hk];exact⟨_,I',q⟩)
theorem xY(lo hi:Option Int)(n:Nat):(sliceBounds lo hi none n).1=((HT.bN n 0 lo:Nat):Int)/\(sliceBounds lo hi none n).2.1=((HT.bN n n hi:Nat):Int)/\(sliceBounds lo hi none n).2.2=1:=by
 refine⟨?_,?_,rfl⟩
 ·cases lo with
  | none=>simp[sliceBounds,HT.bN]
  | some i=>
   simp only[sliceBounds,HT.bN,Option.getD_none,show (1:Int)>0 by decide,if_true]
   by_cases h:i<0
   ·simp only[h,if_true]<;>omega
   ·simp only[h,if_false]<;>omega
 ·cases hi with
  | none=>simp[sliceBounds,HT.bN]
  | some i=>
   simp only[sliceBounds,HT.bN,Option.getD_none,show (1:Int)>0 by decide,if_true]
   by_cases h:i<0
   ·simp only[h,if_true]<;>omega
   ·simp only[h,if_false]<;>omega
theorem wj(its:List Value)(lo hi:Option Int):slicePick its.toArray lo hi none=((its.drop (HT.bN its.length 0 lo)).take (HT.bN its.length its.length hi-HT.bN its.length 0 lo)).toArray:=by
 obtain⟨h1,h2,h3⟩:=xY lo hi its.toArray.size
 unfold slicePick
 rw[h1,h2,h3]
 simp only[sliceRange_one,pick_run,List.size_toArray]<;>rfl
def me(K:PySem.W.Frag):V->Option Int->Option Int->Hp->VK->Prop:=fun x lo hi H Q=>∃a xs,x=.ref a/\ag K H a xs/\∀p,H p=none->Q (.ref p) (upd H p (.lst (cq xs lo hi)))
theorem AE:m6 X (me X.K):=by
 intro pins s σ H x v vl vu lo hi sl Q I rx hs pl pu h
 obtain⟨a,xs,rfl,hx,q⟩:=h
 cases rx
 obtain⟨its,r,ht,hz⟩:=I.list hx
 have hlen:=r.length
 refine⟨"list",_,slot_list_getitem.lookup,ht.isList.typeIs,?_⟩
 refine wpAny_getItem_list_slice ht.isList hs pl pu .none (by simp) ?_ (by rw[List.size_toArray]<;>omega)
 rw[wj,←hlen]
 refine⟨.ref s.heap.objs.size,_,I.laid (t':=s.toks) (o:=.lst (cq xs lo hi)) (fun b ob q=>Heap.get?_push_of_some _ q) (Nat.le_refl _) ?_,rfl,q _ (I.hok.fresh (Nat.le_refl _))⟩
 exact⟨Nat.le_trans (xO xs lo hi) hz,_,0,(r.drop (HT.bN xs.length 0 lo)).take (HT.bN xs.length xs.length hi-HT.bN xs.length 0 lo),Heap.get?_push_size _ rfl⟩
def dA:V->Bool
 | .non=>true
 | .bl _=>true
 | .int _=>true
 | .str _=>true
 | _=>false
def eI:V->V->Bool
 | .non,.non=>true
 | .bl a,.bl b=>a == b
 | .bl a,.int b=>(if a then 1 else 0) == b
 | .int a,.bl b=>a == (if b then 1 else 0)
 | .int a,.int b=>a == b
 | .str a,.str b=>a == b
 | _,_=>false
theorem uL{A:Around}{s:Shared}{y x:V}{u v:Value}(ry:RelV y u)(rx:RelV x v)(fy:dA y=true)(fx:dA x=true):SeqAt.EqAt A s u v (eI y x):=by
 cases y with
 | non=>
  cases ry
  cases x with
  | non=>cases rx;exact SeqAt.EqAt.same _
  | bl b=>cases rx;exact SeqAt.EqAt.none_bool b
  | int b=>obtain⟨t,rfl⟩:=rx;exact SeqAt.EqAt.none_int b t
  | str b=>obtain⟨t,rfl⟩:=rx;exact SeqAt.EqAt.none_str b t
  | _=>exact absurd (show false=true from fx) Bool.false_ne_true
 | bl a=>
  cases ry
  cases x with
  | non=>cases rx;exact SeqAt.EqAt.bool_none a
  | bl b=>cases rx;exact SeqAt.EqAt.bool_bool a b
  | int b=>obtain⟨t,rfl⟩:=rx;exact SeqAt.EqAt.bool_int a b t
  | str b=>obtain⟨t,rfl⟩:=rx;exact SeqAt.EqAt.bool_str a b t
  | _=>exact absurd (show false=true from fx) Bool.false_ne_true
 | int a=>
  obtain⟨t',rfl⟩:=ry
  cases x with
  | non=>cases rx;exact SeqAt.EqAt.int_none a t'
  | bl b=>cases rx;exact SeqAt.EqAt.int_bool a t' b
  | int b=>obtain⟨t,rfl⟩:=rx;exact SeqAt.EqAt.int_int a t' b t
  | str b=>obtain⟨t,rfl⟩:=rx;exact SeqAt.EqAt.int_str a t' b t
  | _=>exact absurd (show false=true from fx) Bool.false_ne_true
 | str a=>
  obtain⟨t',rfl⟩:=ry
  cases x with
  | non=>cases rx;exact SeqAt.EqAt.str_none a t'
  | bl b=>cases rx;exact SeqAt.EqAt.str_bool a t' b
  | int b=>obtain⟨t,rfl⟩:=rx;exact SeqAt.EqAt.str_int a t' b t
  | str b=>obtain⟨t,rfl⟩:=rx;exact SeqAt.EqAt.str_str a t' b t
  | _=>exact absurd (show false=true from fx) Bool.false_ne_true
 | _=>exact absurd (show false=true from fy) Bool.false_ne_true
def cy(x:V)(u:Value):Bool:=match u with
 | .none=>eI .non x
 | .bool b=>eI (.bl b) x
 | .int i _=>eI (.int i) x
 | .str z _=>eI (.str z) x
 | _=>false
theorem sV{x y:V}{u:Value}(r:RelV y u)(f:dA y=true):cy x u=eI y x:=by
 cases y with
 | non=>cases r;rfl
 | bl b=>cases r;rfl
 | int i=>obtain⟨t,rfl⟩:=r;rfl
 | str z=>obtain⟨t,rfl⟩:=r;rfl
 | _=>exact absurd (show false=true from f) Bool.false_ne_true
theorem gK{x:V}:∀{xs:List V} {us:List Value},Vals xs us->xs.all dA=true->us.any (cy x)=xs.any fun y=>eI y x
 | _,_,.nil,_=>rfl
 | y::xs,u::us,.cons r t,f=>by
  rw[List.all_cons,Bool.and_eq_true]at f
  rw[List.any_cons,List.any_cons,sV r f.1,gK t f.2]
theorem gZ{A:Around}{s:Shared}{x:V}{v:Value}(rx:RelV x v)(fx:dA x=true):∀{xs:List V} {us:List Value},Vals xs us->xs.all dA=true->∀u∈us,SeqAt.EqAt A s u v (cy x u)
 | _,_,.nil,_=>fun u hu=>by cases hu
 | y::xs,u::us,.cons r t,f=>fun u' hu=>by
  rw[List.all_cons,Bool.and_eq_true]at f
  rcases List.mem_cons.mp hu with rfl | hu
  ·rw[sV r f.1];exact uL r rx f.1 fx
  ·exact gZ rx fx t f.2 u' hu
def gj(x:V)(xs:List V):Bool:=xs.any fun y=>eI y x
def g9(K:PySem.W.Frag)(neg:Bool):R2:=fun x y H Q=>∃p xs,y=.ref p/\(ag K H p xs\/ah K H p xs)/\dA x=true/\xs.all dA=true/\Q (.bl (if neg then !gj x xs else gj x xs)) H
theorem v8:aV X (compareOp .In) (g9 X.K false):=by
 intro pins s σ H x y v u Q I rx ry h
 obtain⟨p,xs,rfl,hq,fx,fs,q⟩:=h
 cases ry
 rcases hq with hq | hq
 ·obtain⟨its,r,pl,hz⟩:=I.list hq
  refine SeqAt.in_listAt (cy x) pl.isList (fun w hw=>gZ rx fx r fs w (by simpa using hw)) ⟨.bl _,H,I,rfl,?_⟩
  rw[show its.toArray.any (cy x)=its.any (cy x) by simp,gK r fs]
  exact q
 ·obtain⟨its,r,pl,hz⟩:=I.tuple hq
  refine SeqAt.in_tupleAt (cy x) pl (fun w hw=>gZ rx fx r fs w (by simpa using hw)) ⟨.bl _,H,I,rfl,?_⟩
  rw[show its.toArray.any (cy x)=its.any (cy x) by simp,gK r fs]
  exact q
theorem yt:aV X (compareOp .NotIn) (g9 X.K true):=by
 intro pins s σ H x y v u Q I rx ry h
 obtain⟨p,xs,rfl,hq,fx,fs,q⟩:=h
 cases ry
 rcases hq with hq | hq
 ·obtain⟨its,r,pl,hz⟩:=I.list hq
  refine SeqAt.notIn_listAt (cy x) pl.isList (fun w hw=>gZ rx fx r fs w (by simpa using hw)) ⟨.bl _,H,I,rfl,?_⟩
  rw[show its.toArray.any (cy x)=its.any (cy x) by simp,gK r fs]
  exact q
 ·obtain⟨its,r,pl,hz⟩:=I.tuple hq
  refine SeqAt.notIn_tupleAt (cy x) pl (fun w hw=>gZ rx fx r fs w (by simpa using hw)) ⟨.bl _,H,I,rfl,?_⟩
  rw[show its.toArray.any (cy x)=its.any (cy x) by simp,gK r fs]
  exact q
theorem uz:bg X (.builtin "len") (fun xs H Q=>∃p ys,xs=[.ref p]/\(ag X.K H p ys\/ah X.K H p ys)/\Q (.int ys.length) H):=by
 intro pins s σ H xs us Q I r h
 obtain⟨p,ys,rfl,hq,q⟩:=h
 obtain⟨u,rfl,rx⟩:=vals1 r
 cases rx
 have hn:=fI
 rcases hq with hq | hq
 ·obtain⟨its,r',pl,hz⟩:=I.list hq
  have hlen:=r'.length
  exact Calls.call_len_list pl.isList (by simp only[List.size_toArray]<;>omega) ⟨.int ys.length,H,I.tok _,⟨s.toks+1,by rw[List.size_toArray,hlen]⟩,q⟩
 ·obtain⟨its,r',pl,hz⟩:=I.tuple hq
  have hlen:=r'.length
  exact len_tuple pl (by simp only[List.size_toArray]<;>omega) ⟨.int ys.length,H,I.tok _,⟨s.toks+1,by rw[List.size_toArray,hlen]⟩,q⟩
theorem uY:bg X (.builtin "len") (fun xs H Q=>∃z,xs=[.str z]/\z.length<=sizeLine/\Q (.int z.length) H):=by
 intro pins s σ H xs us Q I r h
 obtain⟨z,rfl,hz,q⟩:=h
 obtain⟨u,rfl,t,rfl⟩:=vals1 r
 have hn:=fI
 exact len_str (by omega) ⟨.int z.length,H,I.tok _,⟨_,rfl⟩,q⟩
theorem xA:bg X (.type "list") (fun xs H Q=>∃p ys,xs=[.ref p]/\(ag X.K H p ys\/ah X.K H p ys)/\∀l,H l=none->Q (.ref l) (upd H l (.lst ys))):=by
 intro pins s σ H xs us Q I r h
 obtain⟨p,ys,rfl,hq,q⟩:=h
 obtain⟨u,rfl,rx⟩:=vals1 r
 cases rx
 have fin:∀(its:List Value),Vals ys its->ys.length<=sizeLine->∀(h':Heap) (c':Nat),(∀b o',s.heap.get? b=some o'->h'.get? b=some o') →
   h'.get? s.heap.objs.size=some { cls:=.type "list",dict:=none,data:=.seq its.toArray c',slots:=#[] }->EP X pins σ Q (.ref s.heap.objs.size) { s with heap:=h' }:=fun its r' hz h' c' kp e=>
  ⟨.ref s.heap.objs.size,_,I.laid (t':=s.toks) kp (Nat.le_refl _) (show bH X.prog X.w _ h' _ (.lst ys)from⟨hz,its,c',r',e⟩),rfl,q _ (I.hok.fresh (Nat.le_refl _))⟩
 rcases hq with hq | hq
 ·obtain⟨its,r',pl,hz⟩:=I.list hq
  have hlen:=r'.length
  obtain⟨o,ho,hc,n,hd⟩:=pl.isList
  exact call_list_seq p (.inl rfl) ho hc hd (fun h' c' kp e=>fin its r' hz h' c' kp e) (by simp only[List.size_toArray]<;>omega)
 ·obtain⟨its,r',pl,hz⟩:=I.tuple hq
  have hlen:=r'.length
  obtain⟨o,ho,hc,n,hd⟩:=pl
  exact call_list_seq p (.inr rfl) ho hc hd (fun h' c' kp e=>fin its r' hz h' c' kp e) (by simp only[List.size_toArray]<;>omega)
theorem yi:bg X (.type "tuple") (fun xs H Q=>∃p ys,xs=[.ref p]/\((ag X.K H p ys/\∀l,H l=none->Q (.ref l) (upd H l (.tup ys)))\/(ah X.K H p ys/\Q (.ref p) H))):=by
 intro pins s σ H xs us Q I r h
 obtain⟨p,ys,rfl,h⟩:=h
 obtain⟨u,rfl,rx⟩:=vals1 r
 cases rx
 rcases h with⟨hq,q⟩ | ⟨hq,q⟩
 ·obtain⟨its,r',pl,hz⟩:=I.list hq
  have hlen:=r'.length
  refine call_tuple_list pl.isList (fun h' kp=>?_) (by simp only[List.size_toArray]<;>omega)
  have I1:Inv X pins σ H { s with heap:=h' }:=I.kept (t':=s.toks) kp
  have I2:Inv X pins σ (upd H h'.objs.size (.tup ys)) { s with heap:=h'.push { cls:=.type "tuple",data:=.seq its.toArray } }:=
   I1.laid (t':=s.toks) (fun b o e=>Heap.get?_push_of_some _ e) (Nat.le_refl _) (show bH X.prog X.w _ _ _ (.tup ys)from⟨hz,its,r',IsTup.new _ _⟩)
  exact⟨.ref h'.objs.size,_,I2,rfl,q _ (I1.hok.fresh (Nat.le_refl _))⟩
 ·obtain⟨its,r',pl,hz⟩:=I.tuple hq
  exact call_tuple_same pl ⟨.ref p,H,I,rfl,q⟩
def fg(K:PySem.W.Frag)(T:String)(x:V)(H:Hp):Prop:=match x with
 | .str _=>T = "str"
 | .int _=>T = "int"
 | .ref p=>(T = "list"/\∃xs,ag K H p xs)\/(T = "tuple"/\∃o,K.lookup p=some o/\o.cls=.type "tuple"/\o.dict=none) ∨
   (T = "dict"/\((∃kvs,H p=some (.dK kvs))\/∃kvs,H p=some (.dT kvs)))\/(T = "set"/\∃S n,H p=some (.set S n))
 | _=>False
theorem sj{pins:List (Addr×Obj)}{σ:St}{H:Hp}{s:Shared}{T:String}{x:V}{v:Value}(I:Inv X pins σ H s)(r:RelV x v)(ty:fg X.K T x H):
  s.TypeIs v T/\∀a,v=.ref a->∃ob,s.heap.get? a=some ob/\ob.dict=none:=by
 cases x with
 | str z=>
  obtain⟨t,rfl⟩:=r
  cases(show T = "str" from ty)
  exact⟨typeIs_str s z t,fun _ e=>nomatch e⟩
 | int i=>
  obtain⟨t,rfl⟩:=r
  cases(show T = "int" from ty)
  exact⟨typeIs_int s i t,fun _ e=>nomatch e⟩
 | ref p=>
  cases r
  rcases ty with⟨rfl,xs,hq⟩ | ⟨rfl,o,hk,hc,hd⟩ | ⟨rfl,hk⟩ | ⟨rfl,S,n,hk⟩
  ·obtain⟨its,_,pl,_⟩:=I.list hq
   refine⟨pl.isList.typeIs,fun a e=>?_⟩
   cases e
   obtain⟨o,n,e,c,hd,_⟩:=pl
   exact⟨o,e,hd⟩
  ·refine⟨⟨o,I.kIn p o hk,hc⟩,fun a e=>?_⟩
   cases e
   exact⟨o,I.kIn _ o hk,hd⟩
  ·have z:∃o,s.heap.get? p=some o/\o.ExactDict:=by
    rcases hk with⟨kvs,hk⟩ | ⟨kvs,hk⟩
    ·obtain⟨_,_,_,_,o,_,_,e,ex,_⟩:=I.hok p _ hk
     exact⟨o,e,ex⟩
    ·obtain⟨_,_,_,_,o,_,_,e,ex,_⟩:=I.hok p _ hk
     exact⟨o,e,ex⟩
   obtain⟨o,e,ex⟩:=z
   refine⟨⟨o,e,ex.1⟩,fun a e2=>?_⟩
   cases e2
   exact⟨o,e,ex.2.1⟩
  ·obtain⟨o,_,_,_,e,ex,_⟩:=I.hok p _ hk
   refine⟨⟨o,e,ex.1⟩,fun a e2=>?_⟩
   cases e2
   exact⟨o,e,ex.2.1⟩
 | _=>exact False.elim ty
def kG(K:PySem.W.Frag)(T:String)(r:V->List V->Hp->VK->Prop)(to:TE):TE:=fun σ H Q=>to σ H fun x H1=>fg K T x H1/\r x [] H1 Q
def lg(K:PySem.W.Frag)(T:String)(r:V->List V->Hp->VK->Prop)(to:TE)(t:TA):TE:=fun σ H Q=>to σ H fun x H1=>fg K T x H1/\t σ H1 fun xs H2=>r x xs H2 Q
variable {o e:Expr} {es:List Expr} {to:TE} {t:TA} {name:Str} {apos cpos:Pos} {T id:String} {r:V->List V->Hp->VK->Prop}
theorem zo(pa:PlainAttrs T)(slot:Slot T name id)(hty:typeOf (.builtin id)=pure (.type "method_descriptor"))(hm:jt X id r)(ho:PE X o to)
  (hbase:attributeBase o name X.env (eval o X.env)=eval o X.env:=by rfl) (hline:(apos.endLine == cpos.line)=true:=by rfl):PE X (.Call (.Attribute o name apos) [] [] cpos) (kG X.K T r to):=by
 intro pins s σ H Q I h
 refine wpAny_Call_method0_late hbase hline (au (ho pins s σ H _ I h) fun v s1 ⟨x,H1,I1,r1,ty,q1⟩=>?_)
 obtain⟨h1,h2⟩:=sj I1 r1 ty
 exact⟨T,id,pa,slot,hty,h1,h2,Calls.callWith_builtin rfl (PySem.evalArgs_none (hm pins s1 σ H1 x [] v [] Q I1 r1 .nil q1))⟩
theorem xi(pa:PlainAttrs T)(slot:Slot T name id)(hty:typeOf (.builtin id)=pure (.type "method_descriptor"))(hm:jt X id r)(ho:PE X o to)(ha:PA X (e::es) t)
  (hbase:attributeBase o name X.env (eval o X.env)=eval o X.env:=by rfl)
  (hfew:((backTo cpos (starEach (e::es) X.env)).all (fun x=>!x.1) && (backToKw cpos (keywordEach [] X.env)).all (fun x=>x.1.isSome)
   && decide ((e::es).length+([]:List Keyword).length+(if([]:List Keyword).isEmpty then 0 else 1)<30))=true:=by rfl)
  (hline:(apos.endLine == cpos.line)=true:=by rfl) (hs:starEach (e::es) X.env=(false,eval e X.env)::starEach es X.env:=by rfl) (hplain:(backTo cpos (starEach es X.env)).any (·.1)=false:=by rfl) :
  PE X (.Call (.Attribute o name apos) (e::es) [] cpos) (lg X.K T r to t):=by
 intro pins s σ H Q I h
 refine wpAny_Call_method_late hbase hfew hline rfl (au (ho pins s σ H _ I h) fun v s1 ⟨x,H1,I1,r1,ty,q1⟩=>?_)
 obtain⟨h1,h2⟩:=sj I1 r1 ty
 refine⟨T,id,pa,slot,hty,h1,h2,?_⟩
 have hA:=ha cpos pins s1 σ H1 _ I1 q1
 rw[hs]at hA ⊢
 refine Calls.callWith_builtin (by show(false || (backTo cpos (starEach es X.env)).any (·.1))=false;rw[hplain]<;>rfl) (Calls.evalArgs_plain ?_)
 exact au hA fun us s2 ⟨vs,H2,I2,r2,q2⟩=>hm pins s2 σ H2 x vs v us Q I2 r1 r2 q2
end
end L2
namespace L2
open PySem PySem.Spec PyProof.Rows
def mr(X:Cx)(id:String)(r:V->List V->Hp->VK->Prop):Prop:=
 ∀(pins:List (Addr×Obj)) (s:Shared) (σ:St) (H:Hp) (x:V) (xs:List V) (v:Value) (us:List Value) (Q:VK),Inv X pins σ H s->RelV x v->Vals xs us->r x xs H Q →
  wpAny (model X.prog X.w) X.A (call (.builtin id) (v::us)) (EP X pins σ Q) X.xe s
theorem Vals.one:∀{x:V} {us:List Value},Vals [x] us->∃u,us=[u]/\RelV x u
 | _,_,.cons r .nil=>⟨_,rfl,r⟩
theorem Vals.zero:∀{us:List Value},Vals [] us->us=[]
 | _,.nil=>rfl
theorem Vals.dropLast{xs:List V}{us:List Value}(h:Vals xs us):Vals xs.dropLast us.dropLast:=by
 induction h with
 | nil=>exact .nil
 | cons r t ih=>
  cases t with
  | nil=>exact .nil
  | cons q t'=>exact .cons r ih
theorem Vals.rep{xs:List V}{us:List Value}(h:Vals xs us):∀k:Nat,Vals (List.replicate k xs).flatten (List.replicate k us).flatten
 | 0=>.nil
 | k+1=>by
  rw[List.replicate_succ,List.replicate_succ,List.flatten_cons,List.flatten_cons]
  exact Vals.append h (Vals.rep h k)
theorem wR{α:Type}(l:List α):l.eraseIdx (l.length-1)=l.dropLast:=by
 induction l with
 | nil=>rfl
 | cons a r ih=>
  cases r with
  | nil=>rfl
  | cons b r=>
   have e:(a::b::r).length-1=((b::r).length-1)+1:=by
    have h1:(a::b::r).length=r.length+2:=rfl
    have h2:(b::r).length=r.length+1:=rfl
    omega
   rw[e,List.eraseIdx_cons_succ,ih]
   all_goals rfl
theorem foldl_rep(its:List Value):∀(k:Nat) (acc:List Value),
  List.foldl (fun x1 x2=>x1++x2) acc.toArray (List.replicate k its.toArray)=(acc++(List.replicate k its).flatten).toArray
 | 0,acc=>by simp
 | k+1,acc=>by
  have e:acc.toArray++its.toArray=(acc++its).toArray:=by simp
  have e2:(acc++its)++(List.replicate k its).flatten=acc++(List.replicate (k+1) its).flatten:=by
   rw[List.replicate_succ,List.flatten_cons,List.append_assoc]
  rw[←e2,←foldl_rep its k (acc++its),←e,List.replicate_succ,List.foldl_cons]
section
variable {X:Cx} {pins:List (Addr×Obj)} {σ:St} {H:Hp} {s:Shared} {l b:Addr} {xs ys zs:List V}
theorem Inv.lset{its its':List Value}{n:Nat}{f:Array Value->Array Value}{t':Nat}(I:Inv X pins σ H s)(hH:H l=some (.lst xs))
  (e:s.heap.get? l=some { cls:=.type "list",data:=.seq its.toArray n }) (hf:f its.toArray=its'.toArray) (hv:Vals ys its') (hz:ys.length<=sizeLine) :
  Inv X pins σ (upd H l (.lst ys)) { s with heap:=s.heap.update l (Obj.mapSeq f),toks:=t' }:=by
 have q:=PySem.IsL.update e f
 rw[hf]at q
 refine I.write (x:=l) (e:=l) (by rw[hH];exact trivial) (.inl rfl) (fun b' u hb hu=>(Heap.get?_update_other s.heap (Obj.mapSeq f) (Ne.symm hb)).trans hu) ⟨_,q⟩ ?_
 exact⟨hz,its',_,hv,q⟩
theorem Inv.lnew{its:List Value}{t':Nat}(I:Inv X pins σ H s)(hv:Vals ys its)(hz:ys.length<=sizeLine):
  Inv X pins σ (upd H s.heap.objs.size (.lst ys)) { s with heap:=s.heap.push { cls:=.type "list",data:=.seq its.toArray },toks:=t' }:=
 I.laid (fun _ _ q=>Heap.get?_push_of_some _ q) (Nat.le_refl _) ⟨hz,its,0,hv,Heap.get?_push_size _ rfl⟩
theorem Inv.fresh(I:Inv X pins σ H s):H s.heap.objs.size=none:=I.hok.fresh (Nat.le_refl _)
theorem Inv.lstM(I:Inv X pins σ H s)(hH:H l=some (.lst xs)):xs.length<=sizeLine/\∃(its:List Value) (n:Nat),Vals xs its/\xs.length=its.length/\s.heap.get? l=some { cls:=.type "list",data:=.seq its.toArray n }:=by
 obtain⟨z,its,n,r,e⟩:=I.hok l _ hH
 exact⟨z,its,n,r,r.length,e⟩
theorem qV{n:Nat}(h:n<=sizeLine):Builtin.List.listTooLong n=false:=by
 unfold Builtin.List.listTooLong
 exact decide_eq_false (by omega)
end
section
variable {X:Cx}
def nR:V->List V->Hp->VK->Prop:=fun x vs H Q=>∃l xs y,x=.ref l/\vs=[y]/\H l=some (.lst xs)/\xs.length<sizeLine/\Q .non (upd H l (.lst (xs++[y])))
theorem bE:mr X "list.append" nR:=by
 intro pins s σ H x vs v us Q I rx rv h
 obtain⟨l,xs,y,rfl,rfl,hH,hz,q⟩:=h
 cases rx
 obtain⟨u,rfl,ru⟩:=rv.one
 obtain⟨z,its,n,r,hl,e⟩:=I.lstM hH
 refine call_meets F.slot_list_append ⟨_,e,rfl⟩ F.entry_list_append (F.args_list_append_2 _ _) (PySem.list_append l its.toArray n u (by rw[List.size_toArray];omega)) ⟨e,?_⟩
 refine⟨.non,_,I.lset (its':=its++[u]) hH e (by simp) (r.append (.cons ru .nil)) ?_,rfl,q⟩
 rw[List.length_append,List.length_singleton]
 omega
def uW:V->List V->Hp->VK->Prop:=fun x vs H Q=>∃l b xs zs,x=.ref l/\vs=[.ref b]/\H l=some (.lst xs)/\H b=some (.lst zs)/\xs.length+zs.length<=sizeLine/\Q .non (upd H l (.lst (xs++zs)))
theorem AO:mr X "list.extend" uW:=by
 intro pins s σ H x vs v us Q I rx rv h
 obtain⟨l,b,xs,zs,rfl,rfl,hH,hB,hz,q⟩:=h
 cases rx
 obtain⟨u,rfl,ru⟩:=rv.one
 cases ru
 obtain⟨z,its,n,r,hl,e⟩:=I.lstM hH
 obtain⟨z2,its2,n2,r2,hl2,e2⟩:=I.lstM hB
 have hsz:its.toArray.size+its2.toArray.size<=sizeLine:=by rw[List.size_toArray,List.size_toArray];omega
 have hlong:¬(!its.toArray.isEmpty && Builtin.List.listTooLong (its.toArray.size+its2.toArray.size))=true:=by
  rw[qV hsz,Bool.and_false]
  exact Bool.false_ne_true
 refine call_meets F.slot_list_extend ⟨_,e,rfl⟩ F.entry_list_extend (F.args_list_extend_2 _ _)
  (AutoSeq1.list_extend_list_list_0 l its.toArray n b its2.toArray n2 hlong (by rw[List.size_toArray];omega) (by omega)) ⟨e,e2,?_⟩
 refine⟨.non,_,I.lset (its':=its++its2) hH e (by simp) (r.append r2) ?_,rfl,q⟩
 rw[List.length_append]
 omega
def yD:V->List V->Hp->VK->Prop:=fun x vs H Q=>∃l xs y,x=.ref l/\vs=[]/\H l=some (.lst xs)/\xs[xs.length-1]?=some y/\Q y (upd H l (.lst xs.dropLast))
theorem vM:mr X "list.pop" yD:=by
 intro pins s σ H x vs v us Q I rx rv h
 obtain⟨l,xs,y,rfl,rfl,hH,hy,q⟩:=h
 cases rx
 have hus:=rv.zero
 subst hus
 obtain⟨z,its,n,r,hl,e⟩:=I.lstM hH
 obtain⟨u,hu,ru⟩:=r.get hy
 have hy':its.toArray[its.toArray.size-1]?=some u:=by
  show its.toArray[its.length-1]?=some u
  rw[←Array.getElem?_toList,←hl]
  exact hu
 refine call_meets F.slot_list_pop ⟨_,e,rfl⟩ F.entry_list_pop (F.args_list_pop_1 _) (MeetsSeq.list_pop_last l its.toArray n u hy' (by rw[List.size_toArray];omega)) ⟨e,?_⟩
 refine⟨y,_,I.lset (its':=its.dropLast) hH e ?_ r.dropLast ?_,ru,q⟩
 ·show its.toArray.eraseIdxIfInBounds (its.toArray.size-1)=its.dropLast.toArray
  rw[List.size_toArray,List.eraseIdxIfInBounds_toArray,wR]
 ·rw[List.length_dropLast]
  omega
def qK:R2:=fun x y H Q=>∃l b xs zs,x=.ref l/\y=.ref b/\H l=some (.lst xs)/\H b=some (.lst zs)/\xs.length+zs.length<=sizeLine/\∀p,H p=none->Q (.ref p) (upd H p (.lst (xs++zs)))
theorem lJ:aV X (binaryOp .Add) qK:=by
 intro pins s σ H x y v u Q I rx ry h
 obtain⟨l,b,xs,zs,rfl,rfl,hH,hB,hz,q⟩:=h
 cases rx
 cases ry
 obtain⟨z,its,n,r,hl,e⟩:=I.lstM hH
 obtain⟨z2,its2,n2,r2,hl2,e2⟩:=I.lstM hB
 refine PySem.P.add_list e e2 ?_ (by rw[List.size_toArray,List.size_toArray];omega)
 have ea:its.toArray++its2.toArray=(its++its2).toArray:=by simp
 rw[ea]
 exact⟨.ref _,_,I.lnew (t':=s.toks) (r.append r2) (by rw[List.length_append];omega),rfl,q _ I.fresh⟩
def pY:R2:=fun x y H Q=>∃l k xs,x=.ref l/\y=.int k/\H l=some (.lst xs)/\-(2 ^ 63)<=k/\k<2 ^ 63/\xs.length*k.toNat<=sizeLine ∧
 ∀p,H p=none->Q (.ref p) (upd H p (.lst (List.replicate k.toNat xs).flatten))
theorem len_rep{α:Type}(xs:List α)(k:Nat):(List.replicate k xs).flatten.length=k*xs.length:=by
 induction k with
 | zero=>simp
 | succ k ih=>rw[List.replicate_succ,List.flatten_cons,List.length_append,ih,Nat.succ_mul,Nat.add_comm]
theorem jo:aV X (binaryOp .Mult) pY:=by
 intro pins s σ H x y v u Q I rx ry h
 obtain⟨l,k,xs,rfl,rfl,hH,h1,h2,hz,q⟩:=h
 cases rx
 obtain⟨t,rfl⟩:=ry
 obtain⟨z,its,n,r,hl,e⟩:=I.lstM hH
 have hlen:its.toArray.size*k.toNat<=sizeLine:=by rw[List.size_toArray,←hl];exact hz
 have hcap:¬its.toArray.size*k.toNat>(2 ^ 63-1) / 8:=by
  have:(sizeLine:Nat)<=(2 ^ 63-1) / 8:=by decide
  omega
 have hfit:¬(!Builtin.List.listFitsIndex k)=true:=by
  rw[fitsIndex_both h1 h2]
  exact Bool.false_ne_true
 have hlong:¬Builtin.List.listTooLong (its.toArray.size*k.toNat)=true:=by
  rw[qV hlen]
  exact Bool.false_ne_true
 have hnew:List.foldl (fun x1 x2=>x1++x2) #[] (List.replicate (if its.toArray.isEmpty=true then 0 else k.toNat) its.toArray)=(List.replicate k.toNat its).flatten.toArray:=by
  have f0:∀m:Nat,List.foldl (fun x1 x2=>x1++x2) #[] (List.replicate m its.toArray)=(List.replicate m its).flatten.toArray:=fun m=>by
   have:=foldl_rep its m []
   rw[List.nil_append]at this
   exact this
  rw[f0]
  cases its with
  | nil=>simp
  | cons a r'=>rw[if_neg (by simp)]
 refine wpAny_binaryOp_repeat_ref (T:="list") (U:="int") (by decide) ⟨_,e,rfl⟩ (fun s'=>typeIs_int s' k t) noFill_list_mul F.fills_int_mul F.slot_int_rmul repeat_list F.slot_int_index.lookup
  (call_meets F.slot_int_rmul (typeIs_int s k t) F.entry_int_rmul (F.args_int_rmul_2 _ _) (int___rmul___int_list k t l its.toArray n)
   ⟨e,rfl,⟨_,e,rfl⟩,call_meets F.slot_list_mul ⟨_,e,rfl⟩ F.entry_list_mul (F.args_list_mul_2 _ _) (AutoListH.list___mul___list_int_3 l its.toArray n k t hfit hcap hlong) ⟨e,?_⟩⟩)
 rw[hnew]
 exact⟨.ref _,_,I.lnew (t':=s.toks) (r.rep k.toNat) (by rw[len_rep,Nat.mul_comm];exact hz),rfl,q _ I.fresh⟩
end
section
variable {prog:Program} {w:World} {A:Around} {E:Value->Shared->Prop} {s:Shared}
end
section
variable {X:Cx}
end
end L2
namespace Att
open PySem PySem.W PySem.Calls PyProof.Rows
theorem wC{P:Params}{h:Heap}:∀(ns:List Int) (vs:List Value),WellAll P h vs (ns.map WData.int)->IntsAre vs ns:=by
 intro ns
 induction ns with
 | nil=>
  intro vs w
  rw[List.map_nil]at w
  cases w
  exact .nil
 | cons n ns ih=>
  intro vs w
  rw[List.map_cons]at w
  cases w with
  | cons a b=>
   cases a
   exact .cons _ _ (ih _ b)
theorem w6{l:OpenLaw}{n:Nat}(hn:l.most=some n){P:Params}{h:Heap}{args:List WData}{vals:List Value}
  (hpre:l.row.toRowW.claim.pre args=true) (hwl:WellAll P h vals args) :
  ∃a vs ns,vals=[Value.ref a]/\args=[WData.list (ns.map WData.int)]/\h.get? a=some { cls:=.type "list",data:=.seq vs.toArray }/\IntsAre vs ns/\ns.length<=n:=by
 have hsh:WShape.hasAll [] args [.list .int]=true:=(pre_splitW hpre).1
 have hc:l.pre.holds [] { args:=args }=true:=(pre_splitW hpre).2
 obtain⟨d,r,rfl,h1,h2⟩:=hasAllW_cons hsh
 obtain rfl:=hasAllW_nil h2
 obtain⟨xs,rfl,h3⟩:=hasW_list h1
 obtain⟨ns,rfl⟩:=items_int h3
 have hlen:ns.length<=n:=by
  unfold OpenLaw.pre at hc
  have h4:(WTm.not (.lt (.lit (.int (n:Int))) (.len (.arg 0)))).holds [] { args:=[.list (ns.map .int)] }=true:=by
   have h4:=(holds_andW hc).1
   rw[hn]at h4
   exact h4
  have h5:=condW_of h4 (w_not (w_lt w_lit (w_len_list (w_arg rfl))))
  rw[List.length_map]at h5
  refine Nat.le_of_not_lt fun q=>?_
  have q':(n:Int)<((ns.length:Nat):Int):=by omega
  first
   | (rw[decide_eq_true q']at h5;exact absurd h5 (by decide))
   | (simp at h5;omega)
 cases hwl with
 | cons w1 w2=>
  cases w2
  cases w1 with
  | list ho hall=>exact⟨_,_,ns,rfl,rfl,ho,wC ns _ hall,hlen⟩
theorem yT(l:OpenLaw)(args:List WData):l.row.toRowW.claim.post args (.bool true) args=true:=
 postW_of (r:=l.row.toRowW) (X:=(true == true))
  (show WShape.has [] (.bool true) .bool=true by first | rfl | decide | simp [WShape.has,WShape.arms,WShape.armsAll])
  (show(WTm.eq .res (.lit (.bool true))).value [] { args:=args,res:=some (.bool true),after:=args }=some (.bool (true == true))from w_eq_bool (w_res rfl) w_lit) rfl
theorem Ab{l:OpenLaw}{n:Nat}{q:Program}{loose:List Str}{XP:(Str->Option Value)->Heap->Prop}{YP:World->Heap->Prop}{d:DefRec}
  (hn:l.most=some n) (hdf:d.params.defaults=[])
  (call:∀(w:World) (s₀ s₁:Shared) (mg mb:Str->Option Value) (fa:Addr) (o:Obj) (pm cd doc:Value) (a:Addr) (vs:List Value) (ns:List Int),
   Ground q loose [] XP w s₀ mg mb s₁.heap->YP w s₁.heap →
   s₁.heap.get? fa=some o->o.data=.func (docDef d.name d.params d.body d.scope pm cd doc)->s₁.heap.CodeRec cd d.name->mg d.name=some (.ref fa) →
   s₁.heap.get? a=some { cls:=.type "list",data:=.seq vs.toArray }->IntsAre vs ns->ns.length<=n->s₁.gens = #[] →
   codeAny (model l.prog w) callerA (.call (.ref fa) ⟨[.ref a],[]⟩) (fun r s'=>r=.ok (.ret (.bool true))/\OldK s₁.heap s'.heap/\s'.os=s₁.os/\AllBare s'.gens) s₁) :
  WalkO q loose XP YP l.row.toRowW d [] (fun f vs=>PySem.call f vs):=by
 intro w s₀ s₁ mg mb G Y fa o pm cd doc dV kV ho hd hcd hD hmg hg args vals as hpre hlay hrd hwl hlo
 obtain rfl:dV=.none:=Dflts.none hD hdf
 obtain rfl:kV=.none:=Dflts.noKw hD
 obtain⟨a,vs,ns,rfl,rfl,hobj,hints,hlen⟩:=w6 hn hpre hwl
 refine enter_call (codeAny_mono (call w s₀ s₁ mg mb fa o pm cd doc a vs ns G Y ho (fd_plain hd) hcd hmg hobj hints hlen hg) fun r s' hq=>?_)
 obtain⟨rfl,h2,h3,h4⟩:=hq
 exact⟨.inl ⟨.bool true,.bool true,[],rfl,fun _=>rfl,.bool true,yT l _,fun _=>⟨List.Pairwise.nil,fun _ hm=>(nomatch hm)⟩⟩,h2,h3,h4⟩
section
variable {prog:Program} {w:World} {A:Around} {E:Value->Shared->Prop} {s:Shared} {K:Frag}
end
end Att
namespace L2
open PySem PySem.Spec PyProof.Rows
theorem nJ:∀{vs:List Value} {ns:List Int},IntsAre vs ns->Vals (ns.map V.int) vs
 | _,_,.nil=>.nil
 | _,_,.cons n t h=>.cons ⟨t,rfl⟩ (nJ h)
def kT(H:Hp):Prop:=∀b,H b=none\/∃o xs,H b=some (.frz o (.lst xs))
theorem law_call{P:Program}{w:World}{K:PySem.W.Frag}{mg mb:Str->Option Value}{CX:dg}{k:Nat}{fa a:Addr}{fd:FuncData}{x:Str}{sp:Sp}{s₁:Shared}{vs:List Value}{ns:List Int}
  (KX:K.In s₁.heap) (hns:s₁.heap.Ns mainGlobals mg) (hb:s₁.heap.Ns builtinsNs mb) (hbb:∀x:Str,x≠"__name__"->mb x=bootBuiltins x) (hlim:s₁.heap.NoLimit) (hg:s₁.gens = #[])
  (ha:s₁.heap.get? a=some { cls:=.type "list",data:=.seq vs.toArray }) (hi:IntsAre vs ns) (hl:ns.length<=sizeLine) (hr:Room k callerA)
  (F:∀base:Heap,K.In base->base.Ns mainGlobals mg->FnOk P w K mg base CX k fa fd [x] sp) (hbind:∀(s:Shared) (u:Value),BindsTo s fd ⟨[u],[]⟩ [(x,u)])
  (hsp:∀H:Hp,kT H->ag K H a (ns.map V.int)->sp [.ref a] H (fun v _=>v=.bl true) fun _ _ _=>False)
  (hCX:∀H e s',CX [] H s₁ (fun _ _ _=>False) e s'->False) :
  codeAny (model P w) callerA (.call (.ref fa) ⟨[.ref a],[]⟩) (fun r s'=>r=.ok (.ret (.bool true))/\OldK s₁.heap s'.heap/\s'.os=s₁.os/\AllBare s'.gens) s₁:=by
 have rv:=nJ hi
 have lenV:=hi.length
 -- from an abstract heap in which nothing but the script may be tracked
 have core:∀H:Hp,kT H->ag K H a (ns.map V.int)->bq P w H s₁.heap->(∀b,H b≠none->b=a)->(H a≠none->K.lookup a=none) →
   codeAny (model P w) callerA (.call (.ref fa) ⟨[.ref a],[]⟩) (fun r s'=>r=.ok (.ret (.bool true))/\OldK s₁.heap s'.heap/\s'.os=s₁.os/\AllBare s'.gens) s₁:=by
  intro H hO hS hok hA hK
  have base_of:∀{b:Addr} {o:Obj},s₁.heap.get? b=some o->H b=none->(ee s₁.heap H).get? b=some o:=fun e n=>wU e n
  have noA:∀{b:Addr} {o:Obj} {es:Array DictEntry} {ep:Nat},s₁.heap.get? b=some o->o.data=.dict es ep->H b=none:=fun{b o es ep} e d=>by
   cases q:H b with
   | none=>rfl
   | some u=>
    have e':b=a:=hA b (by rw[q];simp)
    subst e'
    rw[ha]at e;cases e
    have d':Data.seq vs.toArray _=Data.dict es ep:=d
    cases d'
  have nsK:∀{b:Addr} {m:Str->Option Value},s₁.heap.Ns b m->(ee s₁.heap H).Ns b m:=fun{b m} ⟨o,es,ep,e,d,r⟩=>⟨o,es,ep,base_of e (noA e d),d,r⟩
  have hKb:K.In (ee s₁.heap H):=fun b o e=>base_of (KX b o e) (by
   cases q:H b with
   | none=>rfl
   | some u=>
    have e':b=a:=hA b (by rw[q];simp)
    subst e'
    rw[hK (by rw[q];simp)]at e;cases e)
  have hM:Mod K mg (ee s₁.heap H):=⟨hKb,nsK hns,⟨mb,nsK hb,hbb⟩,let ⟨mc,h1,h2⟩:=hlim;⟨mc,nsK h1,h2⟩⟩
  have e0:Env0 P w K mg (ee s₁.heap H) callerA [] s₁ H:=⟨rfl,hM,fun b o e=>vH e,Nat.le_of_eq (vP _ _),trivial,fun b hb=>absurd (show b∈([]:List Addr)from hb) (by simp),hok,.of_eq hg⟩
  refine codeAny_mono ((F _ hKb (nsK hns)).run callerA [] s₁ H ⟨[.ref a],[]⟩ [.ref a] [.ref a] _ _ hr e0 (hbind s₁ (.ref a)) (.cons rfl .nil) (hsp H hO hS)) fun r s' h=>?_
  cases r with
  | error e=>exact(hCX H e s' h).elim
  | ok fl=>
   cases fl with
   | next=>exact False.elim h
   | brk=>exact False.elim h
   | cont=>exact False.elim h
   | ret u=>
    obtain⟨v,H',os,bare,un,hok',r',q⟩:=h
    have q':v=.bl true:=q
    subst q'
    obtain rfl:u=Value.bool true:=r'
    refine⟨rfl,OldK.of_keep fun b o e=>?_,os,bare⟩
    cases q:H b with
    | none=>exact un.keep b o e q (by intro z;exact absurd (show b∈([]:List Addr)from z) (by simp)) (by simp)
    | some u=>
     rcases hO b with z | ⟨ob,xs,z⟩
     ·rw[q]at z;cases z
     ·have z2:=un.frzs b ob _ z
      obtain⟨e1,_⟩:=hok b _ z
      obtain⟨e2,_⟩:=hok' b _ z2
      rw[e]at e1;cases e1
      exact e2
 cases hk:K.lookup a with
 | some o=>
  -- the script is one of the module's own objects
  have e:=KX a o hk
  rw[ha]at e
  cases e
  refine core (fun _=>none) (fun _=>.inl rfl) (.inr ⟨_,vs.toArray,_,hk,rfl,rfl,rfl,by rw[List.size_toArray,lenV];exact hl,by simpa using rv⟩) (fun b u z=>by have z':(none:Option HO)=some u:=z;cases z') (fun b z=>absurd rfl z) fun z=>absurd rfl z
 | none=>
  refine core (fun b=>if b=a then some (.frz { cls:=.type "list",data:=.seq vs.toArray } (.lst (ns.map V.int)))else none) (fun b=>?_) (.inl (.inr ⟨{ cls:=.type "list",data:=.seq vs.toArray },if_pos rfl⟩)) (fun b u z=>?_) (fun b z=>?_) fun _=>hk
  ·by_cases hb:b=a
   ·exact .inr ⟨_,_,if_pos hb⟩
   ·exact .inl (if_neg hb)
  ·by_cases hb:b=a
   ·have z':=(if_pos hb).symm.trans z
    cases z'
    subst hb
    exact⟨ha,by rw[List.length_map];exact hl,vs,_,rv,ha⟩
   ·have z':=(if_neg hb).symm.trans z
    cases z'
  ·by_cases hb:b=a
   ·exact hb
   ·exact absurd (if_neg hb) z
end L2
namespace L2
open PySem PySem.Spec PyProof.Rows
theorem xl{l:PySem.W.OpenLaw}{n k:Nat}{q:Program}{loose:List Str}{XP:(Str->Option Value)->Heap->Prop}{YP:World->Heap->Prop}{d:DefRec}{K:Params->PySem.W.Frag}{CX:World->dg}{sp:World->Sp}{x:Str}
  (hn:l.most=some n) (hn2:n<=sizeLine) (hdf:d.params.defaults=[]) (hr:Room k callerA)
  (hY:∀(w:World) (h:Heap),YP w h->(K w.params).In h)
  (F:∀(w:World) (mg:Str->Option Value) (fa:Addr) (h:Heap),(K w.params).In h->h.Ns mainGlobals mg->mg d.name=some (.ref fa) →
   ∃fd:FuncData,(∀(s:Shared) (u:Value),BindsTo s fd ⟨[u],[]⟩ [(x,u)]) ∧
    ∀base:Heap,(K w.params).In base->base.Ns mainGlobals mg->FnOk l.prog w (K w.params) mg base (CX w) k fa fd [x] (sp w))
  (hsp:∀(w:World) (H:Hp) (a:Addr) (ns:List Int),ns.length<=n->kT H->ag (K w.params) H a (ns.map V.int)->sp w [.ref a] H (fun v _=>v=.bl true) fun _ _ _=>False)
  (hCX:∀(w:World) (H:Hp) (s:Shared) (e:Value) (s':Shared),CX w [] H s (fun _ _ _=>False) e s'->False) :
  PySem.W.WalkO q loose XP YP l.row.toRowW d [] (fun f vs=>PySem.call f vs):=by
 refine Att.Ab hn hdf fun w s₀ s₁ mg mb fa o pm cd doc a vs ns G Y ho hd hcd hmg hobj hints hlen hg=>?_
 have KX:=hY w _ Y
 obtain⟨fd,hb,hF⟩:=F w mg fa _ KX G.T.g hmg
 exact law_call KX G.T.g G.T.b G.T.builtins G.T.nolimit hg hobj hints (Nat.le_trans hlen hn2) hr hF hb (fun H hO hS=>hsp w H a ns hlen hO hS) fun H e s'=>hCX w H s₁ e s'
end L2
namespace L2
open PySem PySem.Spec PyProof.Rows
def fv(s:Stmt):Arguments:=match s with
 | .FunctionDef _ a _ _ _ _ _ _ _ _=>a
 | _=>{ posonlyargs:=[],args:=[],vararg:=none,kwonlyargs:=[],kw_defaults:=[],kwarg:=none,defaults:=[] }
def dW(s:Stmt):List Stmt:=match s with
 | .FunctionDef _ _ b _ _ _ _ _ _ _=>b
 | _=>[]
def aJ(s:Stmt):Scope:=match s with
 | .FunctionDef _ _ _ _ _ _ sc _ _ _=>sc
 | _=>{ kind:=.function,names:=[],isGenerator:=false,isCoroutine:=false }
abbrev dU:dg:=fun _ _ _ _ _ _=>False
abbrev E0:XK:=fun _ _ _=>False
theorem xa{X:Cx}:Passes dU X E0:=fun _ _ _ _ _ _ _ h=>h.elim
structure Fun(K:PySem.W.Frag)(x qual:Str)(st:Stmt)(f:Addr)(fd:FuncData):Prop where
 ex:∃(oc:Value) (od:Option Addr) (kV doc pm:Value) (an:Option Addr) (cdv ct:Value) (osl:Array (Option Value)),
  fd=PySem.W.fnOf x qual (fv st) (dW st) (aJ st) .none kV doc pm an cdv ct/\K.lookup f=some ⟨oc,od,.func fd,osl⟩/\PySem.W.codeIn K cdv qual=true
 kp:PySem.W.keepIn K (.ref f)=true
section
variable {P:Program} {w:World} {K:PySem.W.Frag} {mg:Str->Option Value} {base:Heap}
theorem Fun.ok{x qual:Str}{st:Stmt}{f:Addr}{fd:FuncData}{N ps:List Str}{k:Nat}{sp:Sp}(F:Fun K x qual st f fd)(S:FnScope N ps (aJ st))(len:∀vs H Q E,sp vs H Q E->vs.length=ps.length)
  (hbody:∀(cdv:Value) (A:Around) (outer:List Env) (s:Shared) (H:Hp) (vs:List V) (Q:VK) (E:XK),Room k (A.deeper (envOfC qual (aJ st) s.heap.objs.size f cdv))->sp vs H Q E →
   ∃t,b9 (eW dU P w K mg base N qual (aJ st) f cdv A outer s H E).nox (dW st) t/\t { nx:=fun _ H'=>Q .non H',rt:=Q } (start N vs) H):FnOk P w K mg base dU (k+1) f fd ps sp:=by
 obtain⟨oc,od,kV,doc,pm,an,cdv,ct,osl,rfl,lk,hcd⟩:=F.ex
 refine zT lk hcd S len fun A outer s H vs Q E hr hsp=>?_
 obtain⟨t,h,q⟩:=hbody cdv A outer s H vs Q E hr hsp
 exact⟨t,h.nox,q⟩
theorem Fun.binds{x qual:Str}{st:Stmt}{f:Addr}{fd:FuncData}{ps:List Str}(F:Fun K x qual st f fd)
  (h:∀(kV doc pm:Value) (an:Option Addr) (cdv ct:Value) (us:List Value),us.length=ps.length->bindArgs (PySem.W.fnOf x qual (fv st) (dW st) (aJ st) .none kV doc pm an cdv ct) ⟨us,[]⟩=pure (ps.zip us)):Binds K fd ps []:=by
 obtain⟨oc,od,kV,doc,pm,an,cdv,ct,osl,rfl,lk,hcd⟩:=F.ex
 exact .all (h kV doc pm an cdv ct)
theorem rY{x qual:Str}{st:Stmt}{f:Addr}{oc:Value}{od an:Option Addr}{osl:Array (Option Value)}{kV doc pm cdv ct:Value}(l:K.lookup f=some ⟨oc,od,.func (PySem.W.fnOf x qual (fv st) (dW st) (aJ st) .none kV doc pm an cdv ct),osl⟩)
  (c:PySem.W.codeIn K cdv qual=true) (k:PySem.W.keepIn K (.ref f)=true):Fun K x qual st f (PySem.W.fnOf x qual (fv st) (dW st) (aJ st) .none kV doc pm an cdv ct):=⟨⟨oc,od,kV,doc,pm,an,cdv,ct,osl,rfl,l,c⟩,k⟩
end
section
variable {X:Cx}
theorem pv(i:Nat){x:Str}{pos:Pos}(hN:X.N[i]?=some x:=by rfl)(hv:mV X.env.scope x:=by first | exact Or.inl rfl | exact Or.inr (Or.inl rfl) | exact Or.inr (Or.inr rfl))(hd:(x == ("__debug__":Str))=false:=by decide)
  (hcd:(x == ("__classdict__":Str))=false:=by decide):PE X (.Name x pos) (kF i):=yV hN hv hd hcd
end
theorem aq{A B:Prop}(h:B):if false=true then A else B:=by
 rw[if_neg Bool.false_ne_true]
 exact h
theorem ar{A B:Prop}(h:A):if true=true then A else B:=by
 rw[if_pos rfl]
 exact h
theorem dn{c A B:Prop}[Decidable c](h1:c->A)(h2:¬c->B):if c then A else B:=by
 by_cases h:c
 ·rw[if_pos h]
  exact h1 h
 ·rw[if_neg h]
  exact h2 h
end L2
set_option Elab.async false
set_option linter.all false
set_option maxRecDepth 100000
set_option maxHeartbeats 4000000
namespace L2
open PySem PySem.Spec PyProof.Rows
structure Blk where
 s:Shared
 H:Hp
 fp:List Addr
 C:Addr
def cI(names:List (Str×NameKind))(cells:List (Str×Addr)):List (Str×Addr):=
 names.foldl (fun acc p=>if p.2 == .free then(p.1,(cells.lookup p.1).getD 0)::acc else acc) []
def bW(X:Cx)(sc:Scope)(own:List Str)(js:List Nat)(z:Blk):Cx where
 prog:=X.prog
 w:=X.w
 K:=X.K
 mg:=X.mg
 base:=X.base
 A:=X.A
 N:=own++js.map fun j=>X.N.getD j ""
 s₀:=z.s
 H₀:=z.H
 env:=compEnvC sc (cI sc.names X.env.cells) z.C X.env
 outer:=X.stack
 stack:=X.stack
 ex:=z.fp
 fn:=fun _=>false
 calm:=X.calm
 pn:=[]
 xe:=fun _ _=>False
def ef(sc out:Scope):Bool:=sc.names.all fun p=>p.2 != .cell && (p.2 != .local || sc.names.lookup p.1 == some .local) && (p.2 != .free || out.names.lookup p.1 == some .cell || out.names.lookup p.1 == some .free)
def fc(sc:Scope)(N:List Str)(js:List Nat):Bool:=js.all fun j=>decide (j<N.length) && (sc.names.lookup (N.getD j "") == some .free)
def bA(n:Nat)(js:List Nat)(σ:St):St:=List.replicate n none++js.map fun j=>(σ[j]?).join
theorem jI(cells:List (Str×Addr)):∀(names:List (Str×NameKind)) (acc:List (Str×Addr)) (x:Str) (c:Addr),
  (names.foldl (fun acc p=>if p.2 == .free then(p.1,(cells.lookup p.1).getD 0)::acc else acc) acc).lookup x=some c →
  ((x,NameKind.free)∈names/\c=(cells.lookup x).getD 0)\/acc.lookup x=some c
 | [],acc,x,c,h=>.inr h
 | (n,k)::r,acc,x,c,h=>by
  rw[List.foldl_cons]at h
  rcases jI cells r _ x c h with⟨h1,h2⟩ | h1
  ·exact .inl ⟨List.mem_cons_of_mem _ h1,h2⟩
  ·cases hk:(k == NameKind.free)with
   | false=>
    simp only[hk]at h1
    exact .inr h1
   | true=>
    simp only[hk,if_true]at h1
    rw[List.lookup_cons]at h1
    cases hx:(x == n)with
    | false=>rw[hx]at h1;exact .inr h1
    | true=>
     rw[hx]at h1
     have e1:x=n:=by simpa using hx
     have e2:k=.free:=by simpa using hk
     subst e1 e2
     exact .inl ⟨List.mem_cons_self,(Option.some.inj h1).symm⟩
theorem pV(cells:List (Str×Addr)):∀(names:List (Str×NameKind)) (acc:List (Str×Addr)) (x:Str),
  ((x,NameKind.free)∈names\/(acc.lookup x).isSome=true)->((names.foldl (fun acc p=>if p.2 == .free then(p.1,(cells.lookup p.1).getD 0)::acc else acc) acc).lookup x).isSome=true
 | [],acc,x,h=>by
  rcases h with h | h
  ·simp at h
  ·exact h
 | (n,k)::r,acc,x,h=>by
  rw[List.foldl_cons]
  apply pV cells r
  rcases h with h | h
  ·rcases List.mem_cons.mp h with e | h
   ·right
    cases e
    simp[List.lookup_cons]
   ·exact .inl h
  ·right
   cases hk:(k == NameKind.free)with
   | false=>simpa[hk]using h
   | true=>
    simp only[hk,if_true,List.lookup_cons]
    cases hx:(x == n)with
    | true=>rfl
    | false=>exact h
theorem lH{env:Env}{sc:Scope}(h:∀p∈sc.names,p.2=.free->∃c,env.cells.lookup p.1=some c):closureFor sc env=pure (cI sc.names env.cells):=by
 have go:∀(names:List (Str×NameKind)) (acc:List (Str×Addr)),(∀p∈names,p.2=NameKind.free->∃c,env.cells.lookup p.1=some c) →
   (forIn names acc fun(p:Str×NameKind) (r:List (Str×Addr))=>(match p with | (name,kind)=>if(kind == NameKind.free)=true then do let c ←cellOf env name;pure (ForInStep.yield ((name,c)::r))else pure (ForInStep.yield r):Sem _)) =
   pure (names.foldl (fun acc p=>if p.2 == .free then(p.1,(env.cells.lookup p.1).getD 0)::acc else acc) acc):=by
  intro names
  induction names with
  | nil=>intro acc _;rfl
  | cons p r ih=>
   intro acc hp
   obtain⟨n,k⟩:=p
   rw[List.forIn_cons,List.foldl_cons]
   cases hk:(k == NameKind.free)with
   | false=>
    simp only[hk,Bool.false_eq_true,if_false]
    exact ih acc fun q hq=>hp q (List.mem_cons_of_mem _ hq)
   | true=>
    obtain⟨c,hc⟩:=hp (n,k) List.mem_cons_self (by simpa using hk)
    have e:cellOf env n=pure c:=by
     unfold cellOf
     rw[show env.cells.lookup n=some c from hc]
    simp only[hk,if_true,e]
    have hc':env.cells.lookup n=some c:=hc
    rw[hc']
    exact ih _ fun q hq=>hp q (List.mem_cons_of_mem _ hq)
 unfold closureFor cI
 have:=go sc.names [] h
 simp only[this]
 rfl
def eP(X:Cx)(ifs:List Expr)(t:TT):Prop:=
 ∀(pins:List (Addr×Obj)) (s:Shared) (σ:St) (H:Hp) (Q:Bool->Hp->Prop),Inv X pins σ H s->t σ H Q →
  wpAny (model X.prog X.w) X.A (forIn ifs true fun c r=>if r=true then do let ok ←isTrue c X.env (eval c X.env);pure (ForInStep.yield ok)else pure (ForInStep.yield r)) (TP X pins σ Q) X.xe s
def rZ:TT:=fun _ H Q=>Q true H
theorem dz{X:Cx}:eP X [] rZ:=fun _ _ _ H _ I h=>wpAny_tests_nil ⟨H,I,h⟩
theorem ip{X:Cx}{c:Expr}{t:TT}(h:PT X c t):eP X [c] t:=fun pins s σ H Q I hq=>wpAny_tests_one (h pins s σ H Q I hq)
theorem rK{prog:Program}{w:World}{A:Around}{R:Result->Shared->Prop}{t0:Shared}{elt tgt iter:Expr}{ifs:List Expr}{sc:Scope}{ps:Pos}{itv acc:Value}{ce:Env}(Wd:Nat->Shared->Prop)
  (step:∀k t,Wd k t->wpAny (model prog w) A (pyNext itv) (fun got t1=>
   match got with
   | none=>R (.ok .next) t1
   | some u=>wpAny (model prog w) A (letOwnedTupleGo tgt itv u) (fun _ t2=>wpAny (model prog w) A (assign tgt ce u) (fun _ t3=>
     wpAny (model prog w) A (forIn ifs true fun c r=>if r=true then do let ok ←isTrue c ce (eval c ce);pure (ForInStep.yield ok)else pure (ForInStep.yield r)) (fun yes t4=>
      if yes=true then wpAny (model prog w) A (eval elt ce) (fun val t5=>wpAny (model prog w) A (call (.builtin "list.append") [acc,val]) (fun _ t6=>∃m,m<k/\Wd m t6) (fun _ _=>False) t5) (fun _ _=>False) t4
      else ∃m,m<k/\Wd m t4) (fun _ _=>False) t3) (fun _ _=>False) t2) (fun _ _=>False) t1) (fun _ _=>False) t)
  (k0:Nat) (start:Wd k0 t0):codeAny (model prog w) A (.compLoop (.ListComp elt [⟨tgt,iter,ifs,0⟩] sc ps) 0 itv acc ce) R t0:=by
 refine codeAny_loop rfl Wd (fun k t hW=>?turn) k0 start
 case turn=>
  have nox:∀{α:Type} {m:Sem α} {Q:α->Shared->Prop} {E:Value->Shared->Prop} {z:Shared},wpAny (model prog w) A m Q (fun _ _=>False) z->wpAny (model prog w) A m Q E z:=fun h=>wpAny_mono h (fun _ _ q=>q) fun _ _ f=>f.elim
  show wpAny _ A ((compTurn (.ListComp elt [⟨tgt,iter,ifs,0⟩] sc ps) 0 itv acc ce).onRaise (fun x=>do noteFrame x ce;theTreesLotGoes x)) _ _ t
  apply wpAny_noted
  rw[compTurn_list]
  refine wpAny_bind (wpAny_standAt (wpAny_bind (nox (wpAny_mono (step k t hW) (fun got t1 h1=>?_) fun _ _ f=>f))))
  cases got with
  | none=>exact wpAny_pure h1
  | some u=>
   refine wpAny_bind (nox (wpAny_mono h1 (fun _ t2 h2=>?_) fun _ _ f=>f))
   refine wpAny_bind (nox (wpAny_mono h2 (fun _ t3 h3=>?_) fun _ _ f=>f))
   refine wpAny_bind (nox (wpAny_mono h3 (fun yes t4 h4=>?_) fun _ _ f=>f))
   cases yes with
   | false=>
    rw[if_neg Bool.false_ne_true]at h4
    exact wpAny_pure ⟨rfl,h4⟩
   | true=>
    rw[if_pos rfl]at h4
    refine wpAny_bind (wpAny_bind (nox (wpAny_mono h4 (fun val t5 h5=>?_) fun _ _ f=>f)))
    exact wpAny_bind (nox (wpAny_mono h5 (fun _ t6 h6=>wpAny_pure (wpAny_pure ⟨rfl,h6⟩)) fun _ _ f=>f))
section
variable {X:Cx} {pins:List (Addr×Obj)} {σ:St} {H:Hp} {s:Shared}
def bx(its:List Value)(n:Nat):Obj:={ cls:=.type "list",data:=.seq its.toArray n }
theorem ju{sc out:Scope}(h:ef sc out=true){p:Str×NameKind}(hp:p∈sc.names)(hf:p.2=.free):out.names.lookup p.1=some .cell\/out.names.lookup p.1=some .free:=by
 have:=List.all_eq_true.mp h p hp
 simp only[hf,Bool.and_eq_true,Bool.or_eq_true,beq_iff_eq,bne_iff_ne,ne_eq,not_true,false_or]at this
 exact this.2
theorem tq{sc out:Scope}(h:ef sc out=true){p:Str×NameKind}(hp:p∈sc.names):p.2≠.cell:=by
 have:=List.all_eq_true.mp h p hp
 simp only[Bool.and_eq_true,bne_iff_ne,ne_eq]at this
 exact this.1.1
theorem nk{sc out:Scope}(h:ef sc out=true){p:Str×NameKind}(hp:p∈sc.names)(hf:p.2=.local):sc.names.lookup p.1=some .local:=by
 have:=List.all_eq_true.mp h p hp
 simp only[hf,Bool.and_eq_true,Bool.or_eq_true,beq_iff_eq,bne_iff_ne,ne_eq,not_true,false_or]at this
 exact this.1.2
theorem eQ{sc:Scope}{env:Env}{x:Str}:∀{names:List (Str×NameKind)} {k:NameKind},(names.map fun(p:Str×NameKind)=>match p with | (n,k)=>if(k == NameKind.free && env.scope.kind == .function && env.kindOf n == some .cell)then(n,NameKind.cell)else(n,k)).lookup x=some k →
  ∃k',names.lookup x=some k'/\(k'=k\/(k'=.free/\k=.cell))
 | [],_,h=>by simp at h
 | (n,q)::r,k,h=>by
  rw[List.map_cons]at h
  rw[List.lookup_cons]
  cases hx:(x == n)with
  | true=>
   refine⟨q,rfl,?_⟩
   by_cases hc:(q == NameKind.free && env.scope.kind == .function && env.kindOf n == some .cell)=true
   ·simp only[hc,if_true,List.lookup_cons,hx]at h
    right
    simp only[Bool.and_eq_true,beq_iff_eq]at hc
    exact⟨hc.1.1,(Option.some.inj h).symm⟩
   ·left
    have h2:List.lookup x ((n,q)::(r.map fun(p:Str×NameKind)=>match p with | (n,k)=>if(k == NameKind.free && env.scope.kind == .function && env.kindOf n == some .cell)then(n,NameKind.cell)else(n,k)))=some k:=by
     have h3:=h
     dsimp only at h3
     rw[if_neg hc]at h3
     exact h3
    rw[List.lookup_cons,hx]at h2
    exact Option.some.inj h2
  | false=>
   have:List.lookup x (r.map fun(p:Str×NameKind)=>match p with | (n,k)=>if(k == NameKind.free && env.scope.kind == .function && env.kindOf n == some .cell)then(n,NameKind.cell)else(n,k))=some k:=by
    by_cases hc:(q == NameKind.free && env.scope.kind == .function && env.kindOf n == some .cell)=true
    ·simpa only[hc,if_true,List.lookup_cons,hx]using h
    ·dsimp only at h
     rw[if_neg hc,List.lookup_cons,hx]at h
     exact h
   exact eQ (sc:=sc) this
theorem iK{names:List (Str×NameKind)}{x:Str}{k:NameKind}(h:names.lookup x=some k):(x,k)∈names:=PySem.mem_of_lookup h
theorem dX(ok:X.Ok){sc:Scope}(hb:ef sc X.env.scope=true){x:Str}{c:Addr}(h:(cI sc.names X.env.cells).lookup x=some c):X.env.cells.lookup x=some c:=by
 rcases jI X.env.cells sc.names [] x c h with⟨h1,h2⟩ | h1
 ·obtain⟨d,hd⟩:=ok.has x (ju hb h1 rfl)
  rw[hd]at h2 ⊢
  rw[h2]
  rfl
 ·simp at h1
theorem jA{sc:Scope}{x:Str}{cells:List (Str×Addr)}(h:(x,NameKind.free)∈sc.names):∃c,(cI sc.names cells).lookup x=some c:=
 Option.isSome_iff_exists.mp (pV cells sc.names [] x (.inl h))
theorem Inv.stk_lt(I:Inv X pins σ H s){b:Addr}(hb:b∈cg X.stack):b<s.heap.objs.size:=by
 rcases List.mem_cons.mp (I.stkSub b hb)with e | h
 ·rw[e];exact I.lt
 ·obtain⟨_,o,ho,_⟩:=I.ok.funs.mem h
  exact Nat.lt_of_lt_of_le (Heap.lt_size ho) I.sz
theorem Inv.cell_lt(I:Inv X pins σ H s){x:Str}{c:Addr}(h:X.env.cells.lookup x=some c):c<s.heap.objs.size:=by
 obtain⟨v,q⟩:=I.cell x c h
 exact q.lt
theorem Inv.pin_lt(I:Inv X pins σ H s){p:Addr×Obj}(h:p∈X.pn++pins):p.1<s.heap.objs.size:=Heap.lt_size (I.pin p h).1
theorem uR(I:Inv X pins σ H s){sc:Scope}{own:List Str}{js:List Nat}{fp:List Addr}{C:Nat}(hk:sc.kind=.function)(hb:ef sc X.env.scope=true)
  (hfp:∀b∈fp,br X pins H b) (hC:s.heap.objs.size<=C) (hlt:∀b∈fp,b<s.heap.objs.size):(bW X sc own js ⟨s,H,fp,C⟩).Ok where
 mod:=I.ok.mod
 kind:=hk
 glob:=I.ok.glob
 blt:=I.ok.blt
 above:=hC
 inj:=fun x y c h1 h2=>I.ok.inj x y c (dX I.ok hb h1) (dX I.ok hb h2)
 has:=fun x hx=>by
  have hx':(relabel sc X.env).names.lookup x=some .cell\/(relabel sc X.env).names.lookup x=some .free:=hx
  have go:∀k,(relabel sc X.env).names.lookup x=some k->(k=.cell\/k=.free)->∃c,(cI sc.names X.env.cells).lookup x=some c:=fun k h hkk=>by
   obtain⟨k',h1,h2⟩:=eQ (sc:=sc) (env:=X.env) h
   have m:=iK h1
   rcases h2 with h2 | ⟨h2,_⟩
   ·subst h2
    rcases hkk with e | e
    ·exact absurd e (tq hb m)
    ·rw[e]at m;exact jA m
   ·rw[h2]at m;exact jA m
  rcases hx' with h | h
  ·exact go _ h (.inl rfl)
  ·exact go _ h (.inr rfl)
 cab:=fun x c h _=>by cases h
 hd:=I.ok.hd
 frames:=I.ok.frames
 stk:=.inl rfl
 exf:=fun b hb'=>⟨Nat.ne_of_lt (Nat.lt_of_lt_of_le (hlt b hb') hC),fun x c e=>(hfp b hb').2.2.2.2.1 x c (dX I.ok hb e)⟩
 bs:=I.bs
 bsz:=Nat.le_trans I.ok.bsz I.sz
 noex:=fun b o e hb'=>by
  rcases(hfp b hb').2.2.2.1 with z | z
  ·exact I.ok.noex b o e z
  ·exact absurd (Nat.lt_of_lt_of_le (Heap.lt_size e) (Nat.le_trans I.ok.bsz z)) (Nat.lt_irrefl _)
 exfs:=fun b hb' hm=>by
  rcases List.mem_cons.mp (I.stkSub b hm)with e | h
  ·exact(hfp b hb').2.1 e
  ·exact(hfp b hb').2.2.1 h
 funs:=I.stack
 frf:=I.stkFree
theorem jU{n:Nat}{js:List Nat}{i:Nat}{v:V}(h:(bA n js σ)[i]?=some (some v)):∃k j,i=n+k/\js[k]?=some j/\σ[j]?=some (some v):=by
 unfold bA at h
 by_cases hi:i<n
 ·rw[List.getElem?_append_left (by simpa using hi),List.getElem?_replicate]at h
  split at h<;>cases h
 ·rw[List.getElem?_append_right (by simpa using Nat.le_of_not_lt hi),List.length_replicate,List.getElem?_map]at h
  cases e:js[i-n]? with
  | none=>rw[e]at h;cases h
  | some j=>
   rw[e]at h
   refine⟨i-n,j,by omega,e,?_⟩
   have h':(σ[j]?).join=some v:=by simpa using h
   cases q:σ[j]? with
   | none=>rw[q]at h';cases h'
   | some o=>
    rw[q]at h'
    have:o=some v:=h'
    rw[this]
theorem yc(I:Inv X pins σ H s){sc:Scope}{own:List Str}{js:List Nat}{fp:List Addr}{C D:Nat}{h1:Heap}{tk:Nat}{o:Obj}{m:Str->Option Value}(hk:sc.kind=.function)(hb:ef sc X.env.scope=true)(hj:fc sc X.N js=true)
  (hfp:∀b∈fp,br X pins H b) (hlt:∀b∈fp,b<s.heap.objs.size) (hD:D=s.heap.objs.size) (hC:C=s.heap.objs.size+1) (old:∀b o,s.heap.get? b=some o->h1.get? b=some o)
  (hDo:h1.get? D=some o) (hod:∀v,o.data≠.cell v) (hm:h1.Ns C m) :
  Inv (bW X sc own js ⟨s,H,fp,C⟩) [(D,o)] (bA own.length js σ) H { s with heap:=h1,toks:=tk } where
 ok:=uR I hk hb hfp (show @LE.le Nat _ s.heap.objs.size C by omega) hlt
 os:=rfl
 bare:=I.bare
 base:=Un.kept old
 loc:=by
  refine⟨m,hm,fun i x v e1 e2 e3=>?_⟩
  obtain⟨k,j,rfl,ej,es⟩:=jU e2
  have e1':(own++js.map fun j=>X.N.getD j "")[own.length+k]?=some x:=e1
  rw[List.getElem?_append_right (by omega),Nat.add_sub_cancel_left,List.getElem?_map,ej]at e1'
  have ex:X.N.getD j "" = x:=by simpa using e1'
  have hjj:=List.all_eq_true.mp hj j (List.mem_of_getElem? ej)
  simp only[Bool.and_eq_true,decide_eq_true_eq,beq_iff_eq]at hjj
  have exN:X.N[j]?=some x:=by
   rw[←ex,List.getD_eq_getElem?_getD,List.getElem?_eq_getElem hjj.1]
   rfl
  have hfree:sc.names.lookup x=some .free:=by rw[←ex];exact hjj.2
  have hmem:=iK hfree
  have hout:=ju hb hmem rfl
  obtain⟨m0,hn0,hl0⟩:=I.loc
  obtain⟨u,r,l⟩:=hl0 j x v exN es (by rcases hout with z | z;exact .inr (.inl z);exact .inr (.inr z))
  refine⟨u,r,?_⟩
  obtain⟨c,hc⟩:=jA (cells:=X.env.cells) hmem
  have hc':=dX I.ok hb hc
  have hcell:s.heap.IsCell c (some u):=by
   rcases l with⟨z,_⟩ | ⟨_,c',e',q⟩
   ·have z':X.env.scope.names.lookup x=some .local:=z
    rcases hout with w | w<;>(rw[z']at w;cases w)
   ·rw[hc']at e';cases e';exact q
  have hcell1:h1.IsCell c (some u):=by
   obtain⟨oc,ho,hd⟩:=hcell
   exact⟨oc,old c oc ho,hd⟩
  right
  refine⟨?_,c,hc,hcell1⟩
  have e3':(relabel sc X.env).names.lookup x=some .local\/(relabel sc X.env).names.lookup x=some .cell\/(relabel sc X.env).names.lookup x=some .free:=e3
  rcases e3' with z | z
  ·obtain⟨k',z1,z2⟩:=eQ (sc:=sc) (env:=X.env) z
   rw[hfree]at z1
   rcases z2 with z2 | ⟨_,z2⟩
   ·rw[z2]at z1;cases z1
   ·cases z2
  ·exact z
 cell:=fun x c e=>by
  obtain⟨v,oc,ho,hd⟩:=I.cell x c (dX I.ok hb e)
  exact⟨v,oc,old c oc ho,hd⟩
 free:=I.hok.fresh (show @LE.le Nat _ s.heap.objs.size C by omega)
 freeC:=fun x c e=>I.freeC x c (dX I.ok hb e)
 pin:=fun p hp=>by
  have e:p=(D,o):=by simpa[bW]using hp
  subst e
  refine⟨hDo,I.hok.fresh (show @LE.le Nat _ s.heap.objs.size D by omega),?_,fun z=>?_,hod⟩
  ·exact Nat.ne_of_lt (show @LT.lt Nat _ D C by omega)
  ·have h9:@LT.lt Nat _ D s.heap.objs.size:=I.stk_lt (b:=D) z
   omega
 hok:=I.hok.kept old
 len:=by
  show(bA own.length js σ).length=(own++js.map fun j=>X.N.getD j "").length
  simp[bA]
def ff(J:It)(n:Nat)(js:List Nat)(g:TG)(tc:TT)(te:TE)(σ:St)(H:Hp)(Q:VK):Prop:=
 ∃W:Nat->Nat->List V->Hp->Prop,(∃m,W 0 m [] H)/\∀i m ys H',W i m ys H' →
  (J.stop i H'/\∀p,H' p=none->Q (.ref p) (upd H' p (.lst ys))) ∨
  (J.go i H'/\ys.length<sizeLine/\∃N:List V->Hp->Prop,(∀ys' H2,N ys' H2->∃m',m'<m/\W (i+1) m' ys' H2)/\∀x H2,J.yld i H' x H2->g x (bA n js σ) H2 fun σ2 H3=>tc σ2 H3 fun b H4=>
   if b=true then te σ2 H4 fun v H5=>N (ys++[v]) H5 else N ys H4)
def jO(n:Nat)(js:List Nat)(wi:TI)(g:TG)(tc:TT)(te:TE):TE:=fun σ H Q=>wi σ H fun J H1=>ff J n js g tc te σ H1 Q
structure TurnAt(X:Cx)(tg:Expr)(J:It)(fp:List Addr)(it:Addr)(tn:Nat->Heap->Prop):Prop where
 obj:∀i h,tn i h->∀b∈fp,∃o,h.get? b=some o/\∀v,o.data≠.cell v
 keep:∀i h h',tn i h->(∀b∈fp,∀o,h.get? b=some o->h'.get? b=some o)->tn i h'
 item:∀(i:Nat) (pins:List (Addr×Obj)) (s:Shared) (σ:St) (H:Hp) (E:Value->Shared->Prop),Inv X pins σ H s->(∀b∈fp,br X pins H b)->tn i s.heap->J.go i H →
  wpAny (model X.prog X.w) X.A (pyNext (.ref it)) (fun r s1=>∃u,r=some u ∧
   wpAny (model X.prog X.w) X.A (letOwnedTupleGo tg (.ref it) u) (fun _ s2=>∃x H',Inv X pins σ H' s2/\RelV x u/\J.yld i H x H'/\tn (i+1) s2.heap/\∀b∈fp,H' b=none) E s1) E s
 done:∀(i:Nat) (pins:List (Addr×Obj)) (s:Shared) (σ:St) (H:Hp) (E:Value->Shared->Prop),Inv X pins σ H s->(∀b∈fp,br X pins H b)->tn i s.heap->J.stop i H →
  wpAny (model X.prog X.w) X.A (pyNext (.ref it)) (fun r s1=>r=none/\Inv X pins σ H s1) E s
 self:∀(A:Around) (i:Nat) (s:Shared) (Q:Value->Shared->Prop) (E:Value->Shared->Prop),tn i s.heap->Q (.ref it) s->wpAny (model X.prog X.w) A (pyIter (.ref it)) Q E s
theorem Turn.at_{Y:Cx}{tg:Expr}{J:It}{fp:List Addr}{it:Addr}{tn:Nat->Heap->Prop}(T:Turn Y.prog Y.w Y.K tg J fp it tn)(hc:Y.calm=true):TurnAt Y tg J fp it tn:=⟨T.obj,T.keep,T.item Y rfl rfl rfl hc,T.done Y rfl rfl rfl hc,T.self⟩
theorem nq{elt tg iter:Expr}{ifs:List Expr}{sc:Scope}{pos:Pos}{own:List Str}{js:List Nat}{g:TG}{tc:TT}{te:TE}{J:It}{it:Addr}{fp:List Addr}{tn:Nat->Heap->Prop}{RR:Value->Addr->Result->Shared->Prop}{E:Value->Shared->Prop}
  {Q:VK} {W:Nat->Nat->List V->Hp->Prop} (hk:sc.kind=.function) (hb:ef sc X.env.scope=true) (hj:fc sc X.N js=true)
  (hg:∀C,PG (bW X sc own js ⟨s,H,fp,C⟩) tg g) (ht:∀C,eP (bW X sc own js ⟨s,H,fp,C⟩) ifs tc) (he:∀C,PE (bW X sc own js ⟨s,H,fp,C⟩) elt te)
  (I:Inv X pins σ H s) (T:∀C,TurnAt (bW X sc own js ⟨s,H,fp,C⟩) tg J fp it tn) (st:tn 0 s.heap) (hfp:∀b∈fp,br X pins H b) (w0:∃m,W 0 m [] H)
  (turn:∀i m ys H',W i m ys H'->(J.stop i H'/\∀p,H' p=none->Q (.ref p) (upd H' p (.lst ys))) ∨
   (J.go i H'/\ys.length<sizeLine/\∃N:List V->Hp->Prop,(∀ys' H2,N ys' H2->∃m',m'<m/\W (i+1) m' ys' H2)/\∀x H2,J.yld i H' x H2->g x (bA own.length js σ) H2 fun σ2 H3=>tc σ2 H3 fun b H4=>
    if b=true then te σ2 H4 fun v H5=>N (ys++[v]) H5 else N ys H4))
  (fin:∀D C s' ys H',H' D=none->Inv X pins σ (upd H' D (.lst ys)) s'->br X pins (upd H' D (.lst ys)) C->(∃m,s'.heap.Ns C m)->s.heap.objs.size<=C->Q (.ref D) (upd H' D (.lst ys))->RR (.ref D) C (.ok .next) s') :
  wpAny (model X.prog X.w) X.A (newList []) (fun acc s₃=>wpAny (model X.prog X.w) X.A (newFunctionEnv sc X.env.globals (cI sc.names X.env.cells) [] X.env.qual none .none (some X.env)) (fun cenv s₄=>
   codeAny (model X.prog X.w) X.A (.compStart (.ListComp elt [⟨tg,iter,ifs,0⟩] sc pos) 0 (.ref it) acc { cenv with scope:=relabel sc X.env }) (RR acc cenv.locals) s₄) E s₃) E s:=by
 have hlt:∀b∈fp,b<s.heap.objs.size:=fun b hb'=>by
  obtain⟨o,e,_⟩:=(T 0).obj 0 s.heap st b hb'
  exact Heap.lt_size e
 refine wpAny_newObj_type (wpAny_newFunctionEnv (fun y hy=>tq hb hy) (by intro y hy;simp at hy) (fun h₁ hns₁ hsb₁=>?_) hk)
 dsimp only at hns₁ hsb₁ ⊢
 generalize hH2:s.heap.push { cls:=.type "list",dict:=none,data:=.seq ([]:List Value).toArray }=H2 at hns₁ hsb₁ ⊢
 have hCs:H2.objs.size=s.heap.objs.size+1:=by rw[←hH2,Heap.size_push]
 generalize hCe:H2.objs.size=C at *
 have below:∀b:Nat,b<s.heap.objs.size->b≠C:=fun b hb'=>by omega
 have old:∀b o,s.heap.get? b=some o->h₁.get? b=some o:=fun b o e=>hsb₁.extBut b o (below b (Heap.lt_size e)) (Heap.get?_push_of_some _ (hH2 ▸ Heap.get?_push_of_some _ e))
 have hDo:h₁.get? s.heap.objs.size=some (bx [] 0):=hsb₁.extBut _ _ (show @Ne Nat s.heap.objs.size C by omega) (Heap.get?_push_of_some _ (hH2 ▸ Heap.get?_push_size _ rfl))
 generalize hDe:s.heap.objs.size=D at *
 -- the loop's word
 let Y:Cx:=bW X sc own js ⟨s,H,fp,C⟩
 have J0:Inv Y [(D,bx [] 0)] (bA own.length js σ) H { s with heap:=h₁,toks:=s.toks+([]:List (Str×Value)).length }:=
  yc I hk hb hj hfp (by rw[hDe];exact hlt) hDe.symm (by rw[hDe];exact hCs) old hDo (fun v z=>by cases z) hns₁
 have ndC:@Ne Nat D C:=by omega
 have statF:∀{P':List (Addr×Obj)} {H':Hp},(∀b∈fp,H' b=none)->(∀p∈P',p.1∉fp)->∀b∈fp,br Y P' H' b:=fun{P' H'} hn hp b hb'=>by
  obtain⟨f0,f1,f2,f3,f4,f5⟩:=hfp b hb'
  refine⟨hn b hb',fun z=>below b (hlt b hb') z,fun z=>?_,.inl hb',fun x c e=>f4 x c (dX I.ok hb e),fun p hp' z=>?_⟩
  ·rcases List.mem_cons.mp (I.stkSub b z)with e | h
   ·exact f1 e
   ·exact f2 h
  ·have:p∈P':=by simpa[Y,bW]using hp'
   exact hp p this (by rw[z];exact hb')
 have Dfp:D∉fp:=fun z=>by have h9:@LT.lt Nat _ D D:=hlt D z;omega
 have st1:tn 0 h₁:=(T 0).keep 0 s.heap h₁ st fun b _ o e=>old b o e
 have loop:∀s₃:Shared,s₃={ s with heap:=h₁,toks:=s.toks+([]:List (Str×Value)).length } →
   codeAny (model X.prog X.w) X.A (.compLoop (.ListComp elt [⟨tg,iter,ifs,0⟩] sc pos) 0 (.ref it) (.ref D) Y.env) (RR (.ref D) C) s₃:=by
  rintro s₃ rfl
  obtain⟨m0,w0⟩:=w0
  refine rK (fun n s'=>∃i ys its q H',Inv Y [(D,bx its q)] (bA own.length js σ) H' s'/\Vals ys its/\ys.length<=sizeLine/\tn i s'.heap/\(∀b∈fp,H' b=none)/\W i n ys H') ?_ m0
   ⟨0,[],[],0,H,J0,.nil,Nat.zero_le _,st1,fun b hb'=>(hfp b hb').1,w0⟩
  rintro n s3 ⟨i,ys,its,q,H3,I3,rv,hz,st3,fr3,w3⟩
  have pD:∀p∈[(D,bx its q)],p.1∉fp:=fun p hp=>by
   have e:p=(D,bx its q):=by simpa using hp
   rw[e];exact Dfp
  rcases turn i n ys H3 w3 with⟨stop,qn⟩ | ⟨go,hlen,N,hN,step⟩
  ·-- the end
   refine au ((T C).done i _ s3 _ H3 _ I3 (statF fr3 pD) st3 stop) fun r s4 ⟨hr,I4⟩=>?_
   subst hr
   show RR (.ref D) C (.ok .next) s4
   have hDp:=I4.pin (D,bx its q) (List.mem_append_right _ (List.mem_singleton.mpr rfl))
   have hD4:s4.heap.get? D=some (bx its q):=hDp.1
   have nD:H3 D=none:=hDp.2.1
   have U:Un (cg X.stack) fp H H3 s.heap s4.heap:=I4.base
   have neD:∀b o,s.heap.get? b=some o->b≠D:=fun b o e=>Nat.ne_of_lt (by have h9:@LT.lt Nat _ b s.heap.objs.size:=Heap.lt_size e;omega)
   have neDH:∀b o,H b=some o->b≠D:=fun b o e=>Nat.ne_of_lt (by have h9:@LT.lt Nat _ b s.heap.objs.size:=I.hok.lt e;omega)
   have U2:Un (cg X.stack) fp H (upd H3 D (.lst ys)) s.heap s4.heap:=
    ⟨U.keep,U.slot,fun b o e n hx=>by rw[aL (neD b o e)];exact U.free b o e n hx,U.there,fun b xs e=>by rw[aL (neDH b _ e)];exact U.tups b xs e,
     fun b o u e=>by rw[aL (neDH b _ e)];exact U.frzs b o u e,fun b ps e=>by rw[aL (neDH b _ e)];exact U.tbls b ps e⟩
   have hok2:bq X.prog X.w (upd H3 D (.lst ys)) s4.heap:=fun b o e=>by
    by_cases hb':b=D
    ·subst hb'
     rw[aO]at e
     cases e
     exact⟨hz,its,q,rv,hD4⟩
    ·rw[aL hb']at e
     exact(I4.hok b o e).stay (fun c u _ z=>z) (fun c z=>by rw[aL (cS z nD)];exact z) fun c xs z=>by rw[aL (cS z nD)];exact z
   have IX:Inv X pins σ (upd H3 D (.lst ys)) s4:=I.call' (ch:=fp) I4.os U2 hok2 I4.bare fun b hb'=>by
    obtain⟨f0,f1,f2,f3,f4,f5⟩:=hfp b hb'
    exact⟨f3,f1,f4,f5⟩
   obtain⟨m4,hn4,_⟩:=I4.loc
   have nC:H3 C=none:=I4.free
   refine fin D C s4 ys H3 nD IX ?_ ⟨m4,hn4⟩ (show @LE.le Nat _ D C by omega) (qn D nD)
   refine⟨by rw[aL (Ne.symm ndC)];exact nC,?_,?_,?_,?_,?_⟩
   ·have h9:@LT.lt Nat _ X.env.locals s.heap.objs.size:=I.lt
    exact Nat.ne_of_gt (show @LT.lt Nat _ X.env.locals C by omega)
   ·exact I.nofs (show @LE.le Nat _ s.heap.objs.size C by omega)
   ·right
    have h9:@LE.le Nat _ X.s₀.heap.objs.size s.heap.objs.size:=I.sz
    exact(show @LE.le Nat _ X.s₀.heap.objs.size C by omega)
   ·intro x c e
    have h9:@LT.lt Nat _ c s.heap.objs.size:=I.cell_lt e
    exact Nat.ne_of_lt (show @LT.lt Nat _ c C by omega)
   ·intro p hp
    have h9:@LT.lt Nat _ p.1 s.heap.objs.size:=I.pin_lt hp
    exact Nat.ne_of_lt (show @LT.lt Nat _ p.1 C by omega)
  ·-- a turn
   refine au ((T C).item i _ s3 _ H3 _ I3 (statF fr3 pD) st3 go) fun r s4 ⟨u,hr,h4⟩=>?_
   subst hr
   refine au h4 fun _ s5 ⟨x,H5,I5,r5,y5,st5,fr5⟩=>?_
   have I5':=I5.pinned (statF fr5 pD) ((T 0).obj _ _ st5)
   refine au (hg _ _ s5 _ H5 x u _ I5' r5 (step x H5 y5)) fun _ s6 ⟨σ6,H6,I6,q6⟩=>?_
   refine au (ht _ _ s6 σ6 H6 _ I6 q6) fun ok s7 ⟨H7,I7,q7⟩=>?_
   have back:∀{s':Shared} {σ':St} {H':Hp} {ys':List V} {its':List Value} {q':Nat},Inv Y ([(D,bx its' q')]++cX fp s5.heap) σ' H' s'->Vals ys' its'->ys'.length<=sizeLine->N ys' H' →
     ∃m,m<n/\∃i ys its q H',Inv Y [(D,bx its q)] (bA own.length js σ) H' s'/\Vals ys its/\ys.length<=sizeLine/\tn i s'.heap/\(∀b∈fp,H' b=none)/\W i m ys H':=by
    intro s' σ' H' ys' its' q' I' rv' hz' nn
    obtain⟨m',hm,w'⟩:=hN ys' H' nn
    have hpin:∀b∈fp,∀o,s5.heap.get? b=some o->s'.heap.get? b=some o/\H' b=none:=fun b hb' o e=>by
     have:=I'.pin (b,o) (List.mem_append_right _ (List.mem_append_right _ (jb hb' e)))
     exact⟨this.1,this.2.1⟩
    refine⟨m',hm,i+1,ys',its',q',H',?_,rv',hz',(T 0).keep _ _ _ st5 fun b hb' o e=>(hpin b hb' o e).1,fun b hb'=>?_,w'⟩
    ·have I'':=I'.unpinned
     obtain⟨mm,hmm,_⟩:=id I''.loc
     refine⟨I''.ok,I''.os,I''.bare,I''.base,⟨mm,hmm,fun k x v e1 e2 e3=>?_⟩,I''.cell,I''.free,I''.freeC,I''.pin,I''.hok,?_⟩
     ·-- the captured names: their cells are as they were at the block's beginning
      obtain⟨m1,hn1,hl1⟩:=J0.loc
      obtain⟨u1,r1,l1⟩:=hl1 k x v e1 e2 e3
      refine⟨u1,r1,?_⟩
      rcases l1 with⟨z,zz⟩ | ⟨z,c,e,zz⟩
      ·-- a captured name is no local one
       exfalso
       obtain⟨k',j,rfl,ej,es⟩:=jU e2
       have e1':(own++js.map fun j=>X.N.getD j "")[own.length+k']?=some x:=e1
       rw[List.getElem?_append_right (by omega),Nat.add_sub_cancel_left,List.getElem?_map,ej]at e1'
       have ex:X.N.getD j "" = x:=by simpa using e1'
       have hjj:=List.all_eq_true.mp hj j (List.mem_of_getElem? ej)
       simp only[Bool.and_eq_true,decide_eq_true_eq,beq_iff_eq]at hjj
       have hfree:sc.names.lookup x=some .free:=by rw[←ex];exact hjj.2
       obtain⟨k2,z1,z2⟩:=eQ (sc:=sc) (env:=X.env) (show(relabel sc X.env).names.lookup x=some .local from z)
       rw[hfree]at z1
       rcases z2 with z2 | ⟨_,z2⟩
       ·rw[z2]at z1;cases z1
       ·cases z2
      ·refine .inr ⟨z,c,e,?_⟩
       have hcs:X.env.cells.lookup x=some c:=dX I.ok hb e
       obtain⟨ov,oc,hoc,hdc⟩:=I.cell x c hcs
       have hoc1:=old c oc hoc
       obtain⟨oz,hoz,hdz⟩:=zz
       have hoz':h₁.get? c=some oz:=hoz
       rw[hoc1]at hoz'
       cases hoz'
       have cnf:c∉fp:=fun z'=>(hfp c z').2.2.2.2.1 x c hcs rfl
       obtain⟨sl,hh⟩:=I''.base.any hoc (I.freeC x c hcs) cnf
       exact⟨_,hh,hdz⟩
     ·show(bA own.length js σ).length=_
      exact J0.len
    ·obtain⟨o,e,d⟩:=(T 0).obj _ _ st5 b hb'
     exact(hpin b hb' o e).2
   cases ok with
   | false=>
    rw[if_neg Bool.false_ne_true]at q7 ⊢
    exact back I7 rv hz q7
   | true=>
    rw[if_pos rfl]at q7 ⊢
    refine au (he _ _ s7 σ6 H7 _ I7 q7) fun xv s8 ⟨v,H8,I8,r8,q8⟩=>?_
    have hDp:=I8.pin (D,bx its q) (List.mem_append_right _ (List.mem_append_left _ (List.mem_singleton.mpr rfl)))
    have hD8:s8.heap.get? D=some { cls:=.type "list",data:=.seq its.toArray q }:=hDp.1
    have hl:=rv.length
    refine call_meets F.slot_list_append ⟨_,hD8,rfl⟩ F.entry_list_append (F.args_list_append_2 _ _) (PySem.list_append D its.toArray q xv (by rw[List.size_toArray];omega)) ⟨hD8,?_⟩
    have qq:=PySem.IsL.update hD8 (fun a=>a.push xv)
    have eqs:its.toArray.push xv=(its++[xv]).toArray:=by simp
    rw[eqs]at qq
    obtain⟨q2,hq2⟩:∃q2,(s8.heap.update D (Obj.mapSeq fun a=>a.push xv)).get? D=some (bx (its++[xv]) q2):=⟨_,qq⟩
    -- without the pin of D,the record turns,then it is pinned again
    have I8a:Inv Y (cX fp s5.heap) σ6 H8 s8:=I8.pins_of fun p hp=>I8.pin p (List.mem_append_right _ (List.mem_append_right _ hp))
    have nD8:H8 D=none:=hDp.2.1
    have I9:Inv Y (cX fp s5.heap) σ6 H8 { s8 with heap:=s8.heap.update D (Obj.mapSeq fun a=>a.push xv),toks:=s8.toks }:=by
     refine I8a.turned (it:=D) (fun b o hb' e=>(Heap.get?_update_other s8.heap (Obj.mapSeq fun a=>a.push xv) (Ne.symm hb')).trans e) nD8 ndC (.inr (show @LE.le Nat _ s.heap.objs.size D by omega)) (fun x c e=>?_) fun p hp=>?_
     ·have h9:@LT.lt Nat _ c s.heap.objs.size:=I.cell_lt (dX I.ok hb e)
      exact Nat.ne_of_lt (show @LT.lt Nat _ c D by omega)
     ·have hp':p∈cX fp s5.heap:=by simpa[Y,bW]using hp
      obtain⟨h1,_⟩:=md hp'
      exact fun z=>Dfp (z ▸ h1)
    refine back (ys':=ys++[v]) (its':=its++[xv]) (q':=q2) (I9.pins_of fun p hp=>?_) (rv.append (.cons r8 .nil)) (by rw[List.length_append,List.length_singleton];omega) q8
    rcases List.mem_append.mp hp with hp | hp
    ·have e:p=(D,bx (its++[xv]) q2):=by simpa using hp
     subst e
     refine⟨hq2,nD8,ndC,fun z=>?_,fun v z=>by cases z⟩
     have h9:@LT.lt Nat _ D s.heap.objs.size:=I.stk_lt (b:=D) z
     omega
    ·exact I9.pin p (List.mem_append_right _ hp)
 exact codeAny_compStart_list (loop _ rfl) ((T 0).self X.A 0 { s with heap:=h₁,toks:=s.toks+([]:List (Str×Value)).length } _ _ st1 (loop _ rfl))
theorem dC{elt tg iter:Expr}{ifs:List Expr}{sc:Scope}{pos:Pos}(own:List Str)(js:List Nat){wi:TI}{g:TG}{tc:TT}{te:TE}(hi:PI X tg iter wi)(hg:∀z,PG (bW X sc own js z) tg g)(ht:∀z,eP (bW X sc own js z) ifs tc)
  (he:∀z,PE (bW X sc own js z) elt te) (hc:X.calm=true:=by rfl) (hk:sc.kind=.function:=by rfl) (hb:ef sc X.env.scope=true:=by rfl) (hj:fc sc X.N js=true:=by rfl)
  (hs:∀x,foldedSetIterable iter X.env x=pure x:=by intro _;rfl):PE X (.ListComp elt [⟨tg,iter,ifs,0⟩] sc pos) (jO own.length js wi g tc te):=by
 intro pins s σ H Q I h
 rw[eval_ListComp]
 refine wpAny_comprehension_free (use:=none) rfl hs (lH fun p hp hf=>I.ok.has p.1 (ju hb hp hf)) hk (fun p hp hl=>nk hb hp hl) (au (hi pins s σ H _ I h) fun v s1 h1=>au h1 fun itv s2 h2=>?_)
 obtain⟨it,fp,tn,J,H2,e,I2,T,st2,f2,W,w0,turn⟩:=h2
 subst e
 refine nq (RR:=fun acc C=>compPost (model X.prog X.w) X.A X.xe none (EP X pins σ Q) acc C) hk hb hj (fun _=>hg _) (fun _=>ht _) (fun _=>he _) I2 (fun C=>Turn.at_ (Y:=bW X sc own js ⟨_,_,_,C⟩) T hc) st2 f2 w0 turn ?_
 intro D C s' ys H' nD I' hC ⟨m,hm⟩ _ q
 refine⟨m,hm,fun h' hs'=>?_⟩
 obtain⟨f0,f1,f2,f3,f4,f5⟩:=hC
 exact⟨.ref D,_,I'.turned (t':=s'.toks) (it:=C) (fun b o hb' e=>(hs'.2 b hb').trans e) f0 f1 f3 f4 f5,rfl,q⟩
theorem jV{i:Nat}{y:Str}{py:Pos}{elt tg iter:Expr}{ifs:List Expr}{sc:Scope}{pos spos:Pos}(own:List Str)(js:List Nat){wi:TI}{g:TG}{tc:TT}{te:TE}(hN:X.N.Nodup)(hi':X.N[i]?=some y)(hx:Loc X.env.scope y)
  (hi:PI X tg iter wi) (hg:∀z,PG (bW X sc own js z) tg g) (ht:∀z,eP (bW X sc own js z) ifs tc)
  (he:∀z,PE (bW X sc own js z) elt te) (hsw:swapsWith (.ListComp elt [⟨tg,iter,ifs,0⟩] sc pos) (some (.Name y py)) spos.line X.env=pure true:=by rfl) (hc:X.calm=true:=by rfl) (hk:sc.kind=.function:=by rfl) (hb:ef sc X.env.scope=true:=by rfl) (hj:fc sc X.N js=true:=by rfl)
  (hs:∀x,foldedSetIterable iter X.env x=pure x:=by intro _;rfl) (hf:X.fn y=true\/X.env.scope.names.lookup y=some .local:=by first | exact .inl rfl | exact .inr rfl | assumption) :
  PS X (.Assign [.Name y py] (.ListComp elt [⟨tg,iter,ifs,0⟩] sc pos) spos) (iy (jO own.length js wi g tc te) (gL i)):=by
 intro pins s σ H D' I h
 rw[exec_Assign_Name_used _ _ _ _ hsw]
 refine wpAny_bind (wpAny_standAt (wpAny_bind ?_))
 show wpAny _ X.A (do let _ ←comprehension (.ListComp elt [⟨tg,iter,ifs,0⟩] sc pos) sc X.env _ (newList []) false (eval iter X.env) (some (assign (.Name y py) X.env))) _ _ s
 refine wpAny_bind (wpAny_mono (wpAny_comprehension_free (use:=some (assign (.Name y py) X.env)) (Q:=fun _ s'=>SP X pins D' .next s') rfl hs (lH fun p hp hf=>I.ok.has p.1 (ju hb hp hf)) hk (fun p hp hl=>nk hb hp hl)
  (au (hi pins s σ H _ I h) fun v s1 h1=>au h1 fun itv s2 h2=>?_)) (fun _ s' hq=>wpAny_pure (wpAny_pure hq)) fun _ _ e=>e)
 obtain⟨it,fp,tn,J,H2,e,I2,T,st2,f2,W,w0,turn⟩:=h2
 subst e
 refine nq (Q:=fun x H1=>gL i x σ H1 D'.nx) (RR:=fun acc C=>compPost (model X.prog X.w) X.A X.xe (some (assign (.Name y py) X.env)) (fun _ s'=>SP X pins D' .next s') acc C) hk hb hj (fun _=>hg _) (fun _=>ht _) (fun _=>he _) I2 (fun C=>Turn.at_ (Y:=bW X sc own js ⟨_,_,_,C⟩) T hc) st2 f2 w0 turn ?_
 intro D C s' ys H' nD I' hC ⟨m,hm⟩ hCs q
 show wpAny _ X.A (assign (.Name y py) X.env (.ref D)) _ _ _
 refine wpAny_assign_Name (rP I' hN hi' hx (v:=.ref D) rfl (fun s'' I'' ⟨a,hsb,ha⟩=>?_) hf)
 obtain⟨f0,f1,f2,f3,f4,f5⟩:=hC
 have hac:a≠C:=by
  rcases ha with rfl | ha
  ·exact Ne.symm f1
  ·exact f4 y a ha
 refine⟨m,hm.sameBut hsb (Ne.symm hac),fun h' hs'=>?_⟩
 exact⟨_,_,I''.turned (t':=s''.toks) (it:=C) (fun b o hb' e=>(hs'.2 b hb').trans e) f0 f1 f3 f4 f5,q⟩
end
theorem fb{K:PySem.W.Frag}{a:Addr}{xs:List V}{n:Nat}{js:List Nat}{g:TG}{tc:TT}{te:TE}{Q:VK}{σ:St}{H:Hp}(Pv:Nat->List V->Hp->Prop)(hz:xs.length<=sizeLine)(h0:Pv 0 [] H)(hl:∀i ys H,i<=xs.length->Pv i ys H->ag K H a xs/\ys.length<=i)
  (hs:∀i x ys H,xs[i]?=some x->Pv i ys H->g x (bA n js σ) H fun σ2 H3=>tc σ2 H3 fun b H4=>if b=true then te σ2 H4 fun v H5=>Pv (i+1) (ys++[v]) H5 else Pv (i+1) ys H4)
  (hd:∀ys H p,Pv xs.length ys H->H p=none->Q (.ref p) (upd H p (.lst ys))):ff (cb K a) n js g tc te σ H Q:=by
 refine⟨fun i m ys H=>m=xs.length-i/\i<=xs.length/\Pv i ys H,⟨xs.length,by simp,Nat.zero_le _,h0⟩,?_⟩
 rintro i m ys H ⟨rfl,hi,p⟩
 have q:=hl i ys H hi p
 by_cases hlt:i<xs.length
 ·refine .inr ⟨⟨xs,xs[i],q.1,by simp[hlt]⟩,by have:=q.2;omega,Pv (i+1),fun ys' H' p'=>⟨xs.length-(i+1),by omega,rfl,hlt,p'⟩,fun x H' y=>?_⟩
  obtain⟨e,y⟩:=y
  subst e
  exact hs i x ys _ (y xs q.1) p
 ·have e:i=xs.length:=by omega
  subst e
  exact .inl ⟨⟨xs,q.1,Nat.le_refl _⟩,fun p' hp=>hd ys H p' p hp⟩
theorem kB{K:PySem.W.Frag}{a:Addr}{xs:List V}{n:Nat}{js:List Nat}{g:TG}{tc:TT}{te:TE}{Q:VK}{σ:St}{H:Hp}(Pv:Nat->List V->Hp->Prop)(hz:xs.length<=sizeLine)(h0:Pv 0 [] H)(hl:∀i ys H,i<=xs.length->Pv i ys H->ah K H a xs/\ys.length<=i)
  (hs:∀i x ys H,xs[i]?=some x->Pv i ys H->g x (bA n js σ) H fun σ2 H3=>tc σ2 H3 fun b H4=>if b=true then te σ2 H4 fun v H5=>Pv (i+1) (ys++[v]) H5 else Pv (i+1) ys H4)
  (hd:∀ys H p,Pv xs.length ys H->H p=none->Q (.ref p) (upd H p (.lst ys))):ff (cG K a) n js g tc te σ H Q:=by
 refine⟨fun i m ys H=>m=xs.length-i/\i<=xs.length/\Pv i ys H,⟨xs.length,by simp,Nat.zero_le _,h0⟩,?_⟩
 rintro i m ys H ⟨rfl,hi,p⟩
 have q:=hl i ys H hi p
 by_cases hlt:i<xs.length
 ·refine .inr ⟨⟨xs,xs[i],q.1,by simp[hlt]⟩,by have:=q.2;omega,Pv (i+1),fun ys' H' p'=>⟨xs.length-(i+1),by omega,rfl,hlt,p'⟩,fun x H' y=>?_⟩
  obtain⟨e,y⟩:=y
  subst e
  exact hs i x ys _ (y xs q.1) p
 ·have e:i=xs.length:=by omega
  subst e
  exact .inl ⟨⟨xs,q.1,Nat.le_refl _⟩,fun p' hp=>hd ys H p' p hp⟩
theorem kI{lo:Int}{N n:Nat}{js:List Nat}{g:TG}{tc:TT}{te:TE}{Q:VK}{σ:St}{H:Hp}(Pv:Nat->List V->Hp->Prop)(hz:N<=sizeLine)(h0:Pv 0 [] H)(hl:∀i ys H,i<=N->Pv i ys H->ys.length<=i)
  (hs:∀i ys H,i<N->Pv i ys H->g (.int (lo+i)) (bA n js σ) H fun σ2 H3=>tc σ2 H3 fun b H4=>if b=true then te σ2 H4 fun v H5=>Pv (i+1) (ys++[v]) H5 else Pv (i+1) ys H4)
  (hd:∀ys H p,Pv N ys H->H p=none->Q (.ref p) (upd H p (.lst ys))):ff (cN lo N) n js g tc te σ H Q:=by
 refine⟨fun i m ys H=>m=N-i/\i<=N/\Pv i ys H,⟨N,by simp,Nat.zero_le _,h0⟩,?_⟩
 rintro i m ys H ⟨rfl,hi,p⟩
 have q:=hl i ys H hi p
 by_cases hlt:i<N
 ·refine .inr ⟨hlt,by omega,Pv (i+1),fun ys' H' p'=>⟨N-(i+1),by omega,rfl,hlt,p'⟩,fun x H' y=>?_⟩
  obtain⟨e,y⟩:=y
  subst e y
  exact hs i ys _ hlt p
 ·have e:i=N:=by omega
  subst e
  exact .inl ⟨Nat.le_refl _,fun p' hp=>hd ys H p' p hp⟩
end L2
set_option Elab.async false
set_option linter.all false
set_option maxRecDepth 100000
set_option maxHeartbeats 4000000
namespace L2
open PySem PySem.Spec PyProof.Rows
structure Cal(P:Program)(w:World)(K:PySem.W.Frag)(mg:Str->Option Value)(base:Heap)(x:Str)(k:Nat)(ps:List Str)(sp:Sp):Prop where
 ex:∃(f:Addr) (fd:FuncData),mg x=some (.ref f)/\PySem.W.keepIn K (.ref f)=true/\Binds K fd ps []/\FnOk P w K mg base dU k f fd ps sp
structure Dfn(K:PySem.W.Frag)(mg:Str->Option Value)(x:Str)(st:Stmt)(ps:List Str):Prop where
 ex:∃(f:Addr) (fd:FuncData),mg x=some (.ref f)/\Fun K x x st f fd/\Binds K fd ps []
section
variable {P:Program} {w:World} {K:PySem.W.Frag} {mg:Str->Option Value} {base:Heap}
theorem Dfn.ok{x:Str}{st:Stmt}{N ps:List Str}{k:Nat}{sp:Sp}(D:Dfn K mg x st ps)(S:FnScope N ps (aJ st))(len:∀vs H Q E,sp vs H Q E->vs.length=ps.length)
  (hbody:∀(X:Cx) (hX:∃f cdv A outer s H E,X=(eW dU P w K mg base N x (aJ st) f cdv A outer s H E).nox/\Room k X.A) (H:Hp) (vs:List V) (Q:VK) (E:XK),sp vs H Q E →
   ∃t,b9 X (dW st) t/\t { nx:=fun _ H'=>Q .non H',rt:=Q } (start N vs) H):Cal P w K mg base x (k+1) ps sp:=by
 obtain⟨f,fd,hm,F,hb⟩:=D.ex
 exact⟨f,fd,hm,F.kp,hb,F.ok S len fun cdv A outer s H vs Q E hr h=>hbody _ ⟨f,cdv,A,outer,s,H,E,rfl,hr⟩ H vs Q E h⟩
end
section
variable {X:Cx}
theorem aw{x:Str}{k j:Nat}{ps:List Str}{sp:Sp}{e:Expr}{es:List Expr}{t:TA}{p pos:Pos}(C:Cal X.prog X.w X.K X.mg X.base x j ps sp)(hr:Room k X.A)(ha:PA X (e::es) t)(hjk:j<=k:=by decide)(hg:Gl X x:=by rfl)(hdb:(x == ("__debug__":Str))=false:=by decide)
  (he:starEach (e::es) X.env=(false,eval e X.env)::starEach es X.env:=by rfl) (hpl:(backTo pos (starEach es X.env)).any (·.1)=false:=by rfl) :
  PE X (.Call (.Name x p) (e::es) [] pos) (lq sp [] E0 t):=by
 obtain⟨f,fd,hm,hk,hb,F⟩:=C.ex
 exact wA F (hr.mono hjk) hg hm hk hb .nil xa ha hdb he hpl
theorem mS:aV X (binaryOp .FloorDiv) (rI (fun _ j=>0<j/\j<2 ^ 64) fun i j=>.int (i / j)):=iE fun i j _ _ _ _ _ hc q=>by
 have h1:(0:Int)<j:=hc.1
 have h2:j<2 ^ 64:=hc.2
 refine floordiv_int (by omega) (by rw[Int.fdiv_eq_ediv_of_nonneg i (by omega)];exact q) (.inl (PyProof.noPylong_of_log2 ?_))
 have h0:j.natAbs≠0:=by omega
 have h64:j.natAbs<2 ^ 64:=by omega
 have:=(Nat.log2_lt h0).mpr h64
 omega
def bO(H:Hp):V->String->Prop
 | .non,n=>n = "NoneType"
 | .bl _,n=>n = "bool"
 | .int _,n=>n = "int"
 | .str _,n=>n = "str"
 | .ref a,n=>(n = "list"/\∃xs,H a=some (.lst xs))\/(n = "tuple"/\∃xs,H a=some (.tup xs))
 | _,_=>False
theorem bO.ty{K:PySem.W.Frag}{H:Hp}{x:V}{n:String}(h:bO H x n):TyOf K H x (.type n):=by
 cases x with
 | non=>cases(show n = "NoneType" from h);exact .non
 | bl b=>cases(show n = "bool" from h);exact .bl b
 | int i=>cases(show n = "int" from h);exact .int i
 | str z=>cases(show n = "str" from h);exact .str z
 | ref a=>
  rcases h with⟨rfl,xs,e⟩ | ⟨rfl,xs,e⟩
  ·exact .lst e
  ·exact .tup e
 | _=>exact False.elim h
def df:String->String->Option Bool
 | "NoneType","tuple"=>some false | "NoneType","int"=>some false | "NoneType","bool"=>some false | "NoneType","list"=>some false | "NoneType","str"=>some false
 | "bool","tuple"=>some false | "bool","int"=>some true | "bool","bool"=>some true | "bool","list"=>some false | "bool","str"=>some false
 | "int","tuple"=>some false | "int","int"=>some true | "int","bool"=>some false | "int","list"=>some false | "int","str"=>some false
 | "str","tuple"=>some false | "str","int"=>some false | "str","bool"=>some false | "str","list"=>some false | "str","str"=>some true
 | "list","tuple"=>some false | "list","int"=>some false | "list","bool"=>some false | "list","list"=>some true | "list","str"=>some false
 | "tuple","tuple"=>some true | "tuple","int"=>some false | "tuple","bool"=>some false | "tuple","list"=>some false | "tuple","str"=>some false
 | _,_=>none
theorem xt{K:PySem.W.Frag}{n T:String}{b:Bool}(h:df n T=some b):PySem.W.kitOne K (.type n) (.type T)=some b:=by
 unfold df at h
 split at h<;>first
  | (cases h;kernel_rfl)
  | cases h
def rH:List V->Hp->VK->Prop:=fun xs H Q=>∃x n T b,xs=[x,.ty T]/\bO H x n/\df n T=some b/\Q (.bl b) H
theorem cK:bg X (.builtin "isinstance") rH:=by
 intro pins s σ H xs us Q I r h
 obtain⟨x,n,T,b,rfl,hk,hb,q⟩:=h
 obtain⟨u,w',rfl,r1,r2⟩:=vals2 r
 cases(show w'=Value.type T from r2)
 exact yM I r1 hk.ty (xt hb) fun tk=>⟨.bl b,H,I.tok tk,rfl,q⟩
theorem rD:aV X (compareOp .IsNot) (fun x y H Q=>∃a b,x=.bl a/\y=.bl b/\Q (.bl (!(a == b))) H):=by
 intro pins s σ H x y v u Q I rx ry h
 obtain⟨a,b,rfl,rfl,q⟩:=h
 cases rx;cases ry
 exact wpAny_isNot_plain rfl (aU I q (by cases a<;>cases b<;>rfl))
def eM(lo c:Int)(n:Nat):It:=⟨fun i _=>i<n,fun i H x H'=>H'=H/\x=.int (lo+i*c),fun i _=>n<=i⟩
theorem w4{P:Program}{w:World}{K:PySem.W.Frag}{tg:Expr}(it:Addr)(lo c:Int)(n:Nat):Turn P w K tg (eM lo c n) [it] it (fun i h=>IsRangeIter h it (lo+(i:Nat)*c) ((n:Int)-(i:Nat)) c) where
 mem:=by simp
 obj:=fun i h st b hb=>by
  have e:b=it:=by simpa using hb
  subst e
  exact⟨_,st,fun v z=>by
   have z':Data.fields _=Data.cell v:=z
   cases z'⟩
 keep:=fun i h h' st k=>k it (by simp) _ st
 item:=by
  intro X hP hw hK hc i pins s σ H E I hf st hg
  subst hP hw hK
  obtain⟨f0,f1,f2,f3,f4,f5⟩:=hf it (by simp)
  have W:=Walks.range (prog:=X.prog) (w:=X.w) (I.ok.hd hc) it lo c n
  refine W.item i s _ _ hg st fun v h' tk hv st' kk=>?_
  obtain⟨t,rfl⟩:=hv
  have I1:Inv X pins σ H { s with heap:=h',toks:=tk }:=I.turned (fun b o hb e=>kk b o (by simpa using hb) e) f0 f1 f3 f4 f5
  exact⟨_,rfl,jj (s:={ s with heap:=h',toks:=tk }) (n:="range_iterator") st' rfl rfl (by decide) ⟨.int (lo+i*c),H,I1,⟨t,rfl⟩,⟨rfl,rfl⟩,st',fun b hb=>(hf b hb).1⟩⟩
 done:=by
  intro X hP hw hK hc i pins s σ H E I hf st hg
  subst hP hw hK
  obtain⟨f0,f1,f2,f3,f4,f5⟩:=hf it (by simp)
  exact wpAny_pyNext_range_end (I.ok.hd hc) st (by have:n<=i:=hg;omega) fun h' eb=>⟨rfl,I.turned (t':=s.toks) (fun b o hb e=>eb b o hb e) f0 f1 f3 f4 f5⟩
 self:=fun _ _ _ _ _ st h=>wpAny_pyIter_rangeiter st h
def fL(i j c:Int):Prop:=(-(2 ^ 40)<=i/\i<2 ^ 40)/\(-(2 ^ 40)<=j/\j<2 ^ 40)/\(-(2 ^ 29)<c/\c<2 ^ 29)/\c≠0
def cQ(i j c:Int):Nat:=if 0<c then(if i<j then((j-i-1) / c+1).toNat else 0)else(if j<i then((i-j-1) / (-c)+1).toNat else 0)
theorem tZ(i j c:Int)(hc:c≠0):Builtin.Range.rangeSize i j c=(cQ i j c:Nat):=by
 unfold Builtin.Range.rangeSize cQ
 by_cases h:0<c
 ·rw[if_pos h,if_pos h]
  by_cases h2:i<j
  ·rw[if_pos h2,if_pos h2]
   have:0<=(j-i-1) / c:=Int.ediv_nonneg (by omega) (by omega)
   omega
  ·rw[if_neg h2,if_neg h2];rfl
 ·rw[if_neg h,if_neg h]
  by_cases h2:j<i
  ·rw[if_pos (show i>j from h2),if_pos h2]
   have:0<=(i-j-1) / (-c):=Int.ediv_nonneg (by omega) (by omega)
   omega
  ·rw[if_neg (show ¬i>j from h2),if_neg h2];rfl
theorem ug{i j c:Int}(h:fL i j c):Builtin.Range.small i j c=true:=by
 obtain⟨⟨h1,h2⟩,⟨h3,h4⟩,⟨h5,h6⟩,h0⟩:=h
 have hb:Builtin.Range.rangeSize i j c<=2 ^ 42/\0<=Builtin.Range.rangeSize i j c:=by
  unfold Builtin.Range.rangeSize
  by_cases hc:c>0
  ·rw[if_pos hc]
   by_cases h':i<j
   ·rw[if_pos h']
    have e1:(j-i-1) / c<=j-i-1:=Int.ediv_le_self _ (by omega)
    have e2:0<=(j-i-1) / c:=Int.ediv_nonneg (by omega) (by omega)
    omega
   ·rw[if_neg h'];omega
  ·rw[if_neg hc]
   by_cases h':i>j
   ·rw[if_pos h']
    have e1:(i-j-1) / (-c)<=i-j-1:=Int.ediv_le_self _ (by omega)
    have e2:0<=(i-j-1) / (-c):=Int.ediv_nonneg (by omega) (by omega)
    omega
   ·rw[if_neg h'];omega
 unfold Builtin.Range.small
 generalize Builtin.Range.rangeSize i j c=z at hb ⊢
 have f:∀x:Int,-(2 ^ 62)<=x->x<2 ^ 62->Builtin.Range.rangeFitsLong x=true:=fun x h1 h2=>by
  unfold Builtin.Range.rangeFitsLong
  rw[decide_eq_true (show -(2 ^ 63)<=x by omega),decide_eq_true (show x<2 ^ 63 by omega)]
  rfl
 rw[f i (by omega) (by omega),f j (by omega) (by omega),f c (by omega) (by omega),f z (by omega) (by omega)]
 by_cases hc:c>0
 ·rw[if_pos hc,f (j+(c-1)) (by omega) (by omega),Bool.or_true];rfl
 ·rw[if_neg hc,f (j+(c+1)) (by omega) (by omega),Bool.or_true];rfl
def qN(ta:TA):TI:=fun σ H R=>ta σ H fun vs H1=>∃i j c:Int,vs=[.int i,.int j,.int c]/\fL i j c/\R (eM i c (cQ i j c)) H1
theorem zN{tg a b c:Expr}{ta:TA}{p pos:Pos}(hg:Gl X "range")(hm:X.mg "range" = none)(ha:PA X [a,b,c] ta)(hs:starEach [a,b,c] X.env=[(false,eval a X.env),(false,eval b X.env),(false,eval c X.env)]:=by rfl)
  (hs2:starEach [b,c] X.env=[(false,eval b X.env),(false,eval c X.env)]:=by rfl) :
  PI X tg (.Call (.Name "range" p) [a,b,c] [] pos) (qN ta):=by
 intro pins s σ H R I h
 refine Call_ (fm I hg hm boot_range (PyProof.Rows.callWith_type1 (au (ha pos pins s σ H _ I h) fun us s1 ⟨vs,H1,I1,r1,q1⟩=>?_) (by rw[hs,hs2]) (by rw[hs2];rfl)))
 obtain⟨i,j,c,e,hsm,q⟩:=q1
 subst e
 cases r1 with
 | cons r rr=>
  cases rr with
  | cons r' rr=>
   cases rr with
   | cons r'' rr=>
    cases rr
    obtain⟨t,rfl⟩:=r
    obtain⟨t',rfl⟩:=r'
    obtain⟨t'',rfl⟩:=r''
    have h0:c≠0:=hsm.2.2.2
    have h5:c.natAbs<1073741824:=by have:=hsm.2.2.1;omega
    refine call_range_3 h0 ?_ (.inl (PyProof.noPylong_small h5))
    refine wpAny_pyIter_range (IsRange.new ..) (ug hsm) ?_
    have I2:Inv X pins σ H1 { s1 with heap:=s1.heap.push { cls:=.type "range",data:=.fields #[.int i t,.int j t',.int c t''] },toks:=s1.toks }:=I1.kept fun b o e=>Heap.get?_push_of_some _ e
    refine⟨_,[_],_,_,H1,rfl,I2.kept (t':=s1.toks) fun b o e=>Heap.get?_push_of_some _ e,w4 _ i c (cQ i j c),?_,fun b hb=>?_,q⟩
    ·show IsRangeIter _ _ (i+((0:Nat):Int)*c) (((cQ i j c:Nat):Int)-((0:Nat):Int)) c
     rw[show i+((0:Nat):Int)*c=i by simp,show ((cQ i j c:Nat):Int)-((0:Nat):Int)=Builtin.Range.rangeSize i j c by rw[tZ i j c h0];simp]
     exact Heap.get?_push_size _ rfl
    ·have e:=List.mem_singleton.mp hb
     subst e
     exact I2.fpOk (Nat.le_refl _) (I2.hok.fresh (Nat.le_refl _))
theorem yU{lo c:Int}{n:Nat}{g:TG}{tb:TS}{D:Ends}{σ:St}{H:Hp}(Pv:Nat->St->Hp->Prop)(h0:Pv 0 σ H)
  (hs:∀i σ H,i<n->Pv i σ H->g (.int (lo+i*c)) σ H fun σ2 H2=>tb { D with nx:=Pv (i+1),ct:=Pv (i+1),bk:=D.nx } σ2 H2) (hd:∀σ H,Pv n σ H->D.nx σ H) :
  ∃W:Nat->Nat->St->Hp->Prop,(∃m,W 0 m σ H)/\∀i m σ H,W i m σ H →
   ((eM lo c n).stop i H/\D.nx σ H)\/((eM lo c n).go i H/\∃N:St->Hp->Prop,(∀σ' H',N σ' H'->∃m',m'<m/\W (i+1) m' σ' H')/\∀x H',(eM lo c n).yld i H x H'->g x σ H' fun σ2 H2=>tb { D with nx:=N,ct:=N,bk:=D.nx } σ2 H2):=by
 refine⟨fun i m σ H=>m=n-i/\i<=n/\Pv i σ H,⟨n,by simp,Nat.zero_le _,h0⟩,?_⟩
 rintro i m σ H ⟨rfl,hi,p⟩
 by_cases hlt:i<n
 ·refine .inr ⟨hlt,Pv (i+1),fun σ' H' p'=>⟨n-(i+1),by omega,rfl,hlt,p'⟩,fun x H' y=>?_⟩
  obtain⟨e,y⟩:=y
  subst e y
  exact hs i σ _ hlt p
 ·have e:i=n:=by omega
  subst e
  exact .inl ⟨Nat.le_refl _,hd σ H p⟩
def rR(K:PySem.W.Frag):List V->Hp->VK->Prop:=fun xs H Q=>∃(p:Addr) (ns:List Int),xs=[.ref p]/\ag K H p (ns.map V.int)/\0<ns.length/\∀M,M∈ns->(∀a,a∈ns->a<=M)->Q (.int M) H
theorem uE(hc:X.calm=true):bg X (.builtin "max") (rR X.K):=by
 intro pins s σ H xs us Q I r h
 obtain⟨p,ns,rfl,hq,hl,q⟩:=h
 obtain⟨u,rfl,rx⟩:=vals1 r
 cases rx
 obtain⟨its,r',pl,hz⟩:=I.list hq
 have i1:IntsAre its ns:=intsAre_of r'
 obtain⟨its0,e0⟩:=i1.allInts.items
 have en:ns=its0.toList.map (·.1):=(i1.numsOf.symm.trans (by rw[←e0])).trans (nums_intItems its0)
 have el:its0.toList.length=its0.size:=Array.length_toList
 have ln:ns.length=its0.size:=by rw[en,List.length_map,el]
 have hL:s.heap.IsList p (intItems its0):=e0 ▸ pl.isList
 refine max_intList (I.ok.hd hc) hL (by omega) fun best h' tk hbest kept=>?_
 obtain⟨tok,hv⟩:=intItems_at hbest
 subst hv
 have am:=argBest_gt (numAt its0) (its0.size-1)
 refine⟨.int _,H,I.kept kept,⟨tok,rfl⟩,q _ ?_ fun z hz=>?_⟩
 ·rw[en]
  have:=am.1
  rw[numAt_eq]
  exact getD_mem (by rw[List.length_map,el];omega)
 ·rw[en]at hz
  obtain⟨k,hk,ez⟩:=mem_getD hz
  subst ez
  have hk2:k<its0.size:=by rw[List.length_map,el]at hk;exact hk
  have:=am.2 k (by omega)
  rw[numAt_eq]at this
  exact this
def jT(K:PySem.W.Frag):List V->Hp->VK->Prop:=fun xs H Q=>∃p ys,xs=[.ref p]/\(ag K H p ys\/ah K H p ys)/\Q (.int ys.length) H
theorem wQ:bg X (.builtin "len") (jT X.K):=uz
def mQ(K:PySem.W.Frag):List V->Hp->VK->Prop:=fun xs H Q=>∃p ys,xs=[.ref p]/\((ag K H p ys/\∀l,H l=none->Q (.ref l) (upd H l (.tup ys)))\/(ah K H p ys/\Q (.ref p) H))
theorem xV:bg X (.type "tuple") (mQ X.K):=yi
def mj(K:PySem.W.Frag):List V->Hp->VK->Prop:=fun xs H Q=>∃p ys,xs=[.ref p]/\(ag K H p ys\/ah K H p ys)/\∀l,H l=none->Q (.ref l) (upd H l (.lst ys))
theorem yS:bg X (.type "list") (mj X.K):=xA
def rE:List V->Hp->VK->Prop:=fun xs H Q=>(∃i,xs=[.int i]/\Q (.int i) H)\/∃k,xs=[.bl k]/\Q (.int (if k then 1 else 0)) H
theorem vD:bg X (.type "int") rE:=An
def qg:List V->Hp->VK->Prop:=fun xs H Q=>∃i j,xs=[.int i,.int j]/\Q (.int (if j>i then j else i)) H
theorem mE(hc:X.calm=true):bg X (.builtin "max") qg:=zH hc
end
end L2
set_option Elab.async false
set_option linter.all false
set_option maxRecDepth 100000
set_option maxHeartbeats 4000000
namespace L2
open PySem PySem.Spec PyProof.Rows
def Ext(H H':Hp):Prop:=∀b o,H b=some o->H' b=some o
theorem Ext.rfl'(H:Hp):Ext H H:=fun _ _ h=>h
theorem Ext.trans{H H1 H2:Hp}(a:Ext H H1)(b:Ext H1 H2):Ext H H2:=fun x o h=>b x o (a x o h)
theorem Ext.none{H H':Hp}(e:Ext H H'){l:Addr}(h:H' l=Option.none):H l=Option.none:=by
 cases q:H l with
 | none=>rfl
 | some o=>rw[e l o q]at h;cases h
section
variable {X:Cx} (K:PySem.W.Frag)
theorem aD(h:X.K=K:=by rfl):f9 X (lF K):=by subst h;exact vn
theorem aG(h:X.K=K:=by rfl):f9 X (kZ K):=by subst h;exact uJ
theorem fU(h:X.K=K:=by rfl):m6 X (me K):=by subst h;exact AE
theorem jS(h:X.K=K:=by rfl):aV X (compareOp .In) (g9 K false):=by subst h;exact v8
theorem nZ(h:X.K=K:=by rfl):aV X (compareOp .NotIn) (g9 K true):=by subst h;exact yt
theorem cU(h:X.K=K:=by rfl):bg X (.builtin "len") (jT K):=by subst h;exact wQ
theorem fF(h:X.K=K:=by rfl):bg X (.type "tuple") (mQ K):=by subst h;exact xV
theorem rm(h:X.K=K:=by rfl):bg X (.type "list") (mj K):=by subst h;exact yS
theorem mF(hc:X.calm=true)(h:X.K=K:=by rfl):bg X (.builtin "max") (rR K):=by subst h;exact uE hc
theorem cZ{tg l:Expr}{tl:TE}(hl:PE X l tl)(h:X.K=K:=by rfl):PI X tg l (kH K tl):=by subst h;exact uo hl
theorem dw{tg l:Expr}{tl:TE}(hl:PE X l tl)(h:X.K=K:=by rfl):PI X tg l (lK K tl):=by subst h;exact uC hl
theorem fj{es:List Expr}{k:Nat}{t:cL}{n:Nat}{pos:Pos}(hc:X.calm=true)(hg:fG X es t)(h:X.K=K:=by rfl)
  (hn:(assignEach es X.env).length=n:=by rfl) (hst:(assignEach es X.env).findIdx? (·.1)=none:=by rfl):PG X (.Tuple es k pos) (lU K n t):=by subst h;exact Ad hc hg hn hst
theorem bF{o e:Expr}{es:List Expr}{to:TE}{t:TA}{name:Str}{apos cpos:Pos}{T id:String}{r:V->List V->Hp->VK->Prop}(pa:PlainAttrs T)(slot:Slot T name id)(hty:typeOf (.builtin id)=pure (.type "method_descriptor"))(hm:jt X id r)(ho:PE X o to)(ha:PA X (e::es) t)(h:X.K=K:=by rfl)
  (hbase:attributeBase o name X.env (eval o X.env)=eval o X.env:=by rfl)
  (hfew:((backTo cpos (starEach (e::es) X.env)).all (fun x=>!x.1) && (backToKw cpos (keywordEach [] X.env)).all (fun x=>x.1.isSome)
   && decide ((e::es).length+([]:List Keyword).length+(if([]:List Keyword).isEmpty then 0 else 1)<30))=true:=by rfl)
  (hline:(apos.endLine == cpos.line)=true:=by rfl) (hs:starEach (e::es) X.env=(false,eval e X.env)::starEach es X.env:=by rfl) (hplain:(backTo cpos (starEach es X.env)).any (·.1)=false:=by rfl) :
  PE X (.Call (.Attribute o name apos) (e::es) [] cpos) (lg K T r to t):=by subst h;exact xi pa slot hty hm ho ha hbase hfew hline hs hplain
end
def om(ns:List Int):TA:=fun _ H Q=>Q (ns.map V.int) H
inductive IntsE:List Expr->List Int->Prop
 | n:IntsE [] []
 | c {i j pos es ns}:IntsE es ns->IntsE (.Constant (.int i) j pos::es) (i::ns)
theorem fu{X:Cx}{es:List Expr}{ns:List Int}(h:IntsE es ns):PA X es (om ns):=by
 induction h with
 | n=>exact af
 | @c i j pos es ns _ ih=>
  intro p pins s σ H Q I hq
  exact aa (e:=.Constant (.int i) j pos) ae ih rfl p pins s σ H Q I hq
theorem rd_ints{σ:St}{H:Hp}{ns:List Int}{R:List V->Hp->Prop}(h:R (ns.map V.int) H):om ns σ H R:=h
def mU(c:TT)(t u:TS):TS:=fun D σ H=>∃R:St->Hp->Prop,(c σ H fun b H1=>if b=true then t { D with nx:=R } σ H1 else u { D with nx:=R } σ H1)/\∀σ' H',R σ' H'->D.nx σ' H'
theorem bX{X:Cx}{c:Expr}{a b:List Stmt}{tc:TT}{t u:TS}{pos:Pos}(hc:PT X c tc)(ha:b9 X a t)(hb:b9 X b u):PS X (.If c a b pos) (mU tc t u):=by
 intro pins s σ H D I h
 obtain⟨R,h,hR⟩:=h
 refine au (aT hc ha hb pins s σ H { D with nx:=R } I h) fun f s1 q=>?_
 cases f with
 | next=>
  obtain⟨σ',H',I',q⟩:=q
  exact⟨σ',H',I',hR σ' H' q⟩
 | ret v=>exact q
 | brk=>exact q
 | cont=>exact q
def tG(K:PySem.W.Frag):V->Hp->(It->Hp->Prop)->Prop:=fun x H R=>∃a,x=.ref a/\(∃xs,ag K H a xs)/\R (cb K a) H
def sk(K:PySem.W.Frag):V->Hp->(It->Hp->Prop)->Prop:=fun x H R=>∃a,x=.ref a/\(∃xs,ah K H a xs)/\R (cG K a) H
def o7:List V->Hp->(It->Hp->Prop)->Prop:=fun vs H R=>∃j:Int,vs=[.int j]/\-(2 ^ 62)<=j/\j<2 ^ 62/\R (cN 0 j.toNat) H
def qe:List V->Hp->(It->Hp->Prop)->Prop:=fun vs H R=>∃i j:Int,vs=[.int i,.int j]/\(-(2 ^ 62)<=i/\i<2 ^ 62/\-(2 ^ 62)<=j/\j<2 ^ 62)/\R (cN i (j-i).toNat) H
def rj:List V->Hp->(It->Hp->Prop)->Prop:=fun vs H R=>∃i j c:Int,vs=[.int i,.int j,.int c]/\fL i j c/\R (eM i c (cQ i j c)) H
def gy(J:It)(g:TG)(tb:TS)(D:Ends)(σ:St)(H:Hp):Prop:=∃W:Nat->Nat->St->Hp->Prop,(∃m,W 0 m σ H)/\∀i m σ H,W i m σ H →
 (J.stop i H/\D.nx σ H)\/(J.go i H/\∃N:St->Hp->Prop,(∀σ' H',N σ' H'->∃m',m'<m/\W (i+1) m' σ' H')/\∀x H',J.yld i H x H'->g x σ H' fun σ2 H2=>tb { D with nx:=N,ct:=N,bk:=D.nx } σ2 H2)
theorem forL{K:PySem.W.Frag}{a:Addr}{xs:List V}{g:TG}{tb:TS}{D:Ends}{σ:St}{H:Hp}(Pv:Nat->St->Hp->Prop)(h0:Pv 0 σ H)(hl:∀i σ H,i<=xs.length->Pv i σ H->ag K H a xs)
  (hs:∀i x σ H,xs[i]?=some x->Pv i σ H->g x σ H fun σ2 H2=>tb ⟨Pv (i+1),D.rt,D.nx,Pv (i+1)⟩ σ2 H2) (hd:∀σ H,Pv xs.length σ H->D.nx σ H):gy (cb K a) g tb D σ H:=yR Pv h0 hl hs hd
theorem eY{K:PySem.W.Frag}{a:Addr}{xs:List V}{g:TG}{tb:TS}{D:Ends}{σ:St}{H:Hp}(Pv:Nat->St->Hp->Prop)(h0:Pv 0 σ H)(hl:∀i σ H,i<=xs.length->Pv i σ H->ah K H a xs)
  (hs:∀i x σ H,xs[i]?=some x->Pv i σ H->g x σ H fun σ2 H2=>tb ⟨Pv (i+1),D.rt,D.nx,Pv (i+1)⟩ σ2 H2) (hd:∀σ H,Pv xs.length σ H->D.nx σ H):gy (cG K a) g tb D σ H:=zv Pv h0 hl hs hd
theorem forR{lo:Int}{n:Nat}{g:TG}{tb:TS}{D:Ends}{σ:St}{H:Hp}(Pv:Nat->St->Hp->Prop)(h0:Pv 0 σ H)
  (hs:∀i σ H,i<n->Pv i σ H->g (.int (lo+i)) σ H fun σ2 H2=>tb ⟨Pv (i+1),D.rt,D.nx,Pv (i+1)⟩ σ2 H2) (hd:∀σ H,Pv n σ H->D.nx σ H):gy (cN lo n) g tb D σ H:=xk Pv h0 hs hd
theorem w5{lo c:Int}{n:Nat}{g:TG}{tb:TS}{D:Ends}{σ:St}{H:Hp}(Pv:Nat->St->Hp->Prop)(h0:Pv 0 σ H)
  (hs:∀i σ H,i<n->Pv i σ H->g (.int (lo+i*c)) σ H fun σ2 H2=>tb ⟨Pv (i+1),D.rt,D.nx,Pv (i+1)⟩ σ2 H2) (hd:∀σ H,Pv n σ H->D.nx σ H):gy (eM lo c n) g tb D σ H:=yU Pv h0 hs hd
def dJ(H:Hp)(o:HO)(R:VK):Prop:=∀p,H p=none->R (.ref p) (upd H p o)
section
variable {K:PySem.W.Frag} {D:Ends} {σ:St} {H:Hp} {Q:VK} {ta tb tc te:TE} {t u:TS} {c c':TT}
theorem rd_seq(h:t ⟨u D,D.rt,D.bk,D.ct⟩ σ H):oJ t u D σ H:=h
theorem rd_next(h:D.nx σ H):tK D σ H:=h
theorem rd_ret(h:te σ H D.rt):oo te D σ H:=h
theorem rd_asg{g:TG}(h:te σ H fun x H1=>g x σ H1 D.nx):iy te g D σ H:=h
theorem rd_drop(h:te σ H fun _ H1=>D.nx σ H1):nK te D σ H:=h
theorem rd_ifS(h:c σ H fun b H1=>if b=true then t D σ H1 else u D σ H1):rh c t u D σ H:=h
theorem cO(R:St->Hp->Prop)(h:c σ H fun b H1=>if b=true then t ⟨R,D.rt,D.bk,D.ct⟩ σ H1 else u ⟨R,D.rt,D.bk,D.ct⟩ σ H1)(k:∀σ' H',R σ' H'->D.nx σ' H'):mU c t u D σ H:=⟨R,h,k⟩
theorem hG(h:c σ H fun b H1=>if b=true then t D σ H1 else u D σ H1):mU c t u D σ H:=⟨D.nx,h,fun _ _ h=>h⟩
theorem rd_name{i:Nat}{v:V}{R:St->Hp->Prop}(h:R (σ.set i (some v)) H):gL i v σ H R:=h
theorem rd_var{i:Nat}{v:V}(e:σ[i]?=some (some v))(h:Q v H):kF i σ H Q:=⟨v,e,h⟩
theorem rd_c{v:V}(h:Q v H):tC v σ H Q:=h
theorem rd_op{r:R2}(h:ta σ H fun x H1=>tb σ H1 fun y H2=>r x y H2 Q):gP r ta tb σ H Q:=h
theorem rd_un{r:V->Hp->VK->Prop}(h:ta σ H fun x H1=>r x H1 Q):rV r ta σ H Q:=h
theorem rd_CB{r:List V->Hp->VK->Prop}{a:TA}(h:a σ H fun vs H1=>r vs H1 Q):my r a σ H Q:=h
theorem rd_cons{a:TA}{R:List V->Hp->Prop}(h:ta σ H fun x H1=>a σ H1 fun xs H2=>R (x::xs) H2):mD ta a σ H R:=h
theorem rd_nil{R:List V->Hp->Prop}(h:R [] H):m8 σ H R:=h
theorem rd_test{R:Bool->Hp->Prop}(h:te σ H fun x H'=>∃k,x=.bl k/\R k H'):qJ te σ H R:=h
theorem rd_B{R:Bool->Hp->Prop}(h:te σ H fun x H'=>∃k,x=.bl k/\R k H'):tB te σ H R:=h
theorem rd_exb{b:Bool}{R:Bool->Prop}(h:R b):∃k,V.bl b=V.bl k/\R k:=⟨b,rfl,h⟩
theorem rd_not{R:Bool->Hp->Prop}(h:c σ H fun b H1=>R (!b) H1):sO c σ H R:=h
theorem rd_and{R:Bool->Hp->Prop}(h:c σ H fun b H1=>if b=true then c' σ H1 R else R false H1):nB c c' σ H R:=h
theorem rd_or{R:Bool->Hp->Prop}(h:c σ H fun b H1=>if b=true then R true H1 else c' σ H1 R):nO c c' σ H R:=h
theorem rd_andV(h:ta σ H fun x H1=>∃k,x=.bl k/\if k=true then tb σ H1 Q else Q (.bl false) H1):pT ta tb σ H Q:=h
theorem rd_notV(h:ta σ H fun x H1=>∃k,x=.bl k/\Q (.bl (!k)) H1):qY ta σ H Q:=h
theorem rd_yes{R:Bool->Hp->Prop}(h:R true H):rZ σ H R:=h
theorem rd_I0{g:Int->Int->V}{i j:Int}(h:Q (g i j) H):dO g (.int i) (.int j) H Q:=⟨i,j,rfl,rfl,h⟩
theorem rd_I{C:Int->Int->Prop}{g:Int->Int->V}{i j:Int}(hc:C i j)(h:Q (g i j) H):rI C g (.int i) (.int j) H Q:=⟨i,j,rfl,rfl,hc,h⟩
theorem rd_U{g:Int->V}{i:Int}(h:Q (g i) H):rU g (.int i) H Q:=⟨i,rfl,h⟩
theorem rd_EqI{i j:Int}(h:Q (.bl (decide (i=j))) H):kx (.int i) (.int j) H Q:=⟨rfl,by
 have e:decide (V.int i=V.int j)=decide (i=j):=by rw[Bool.eq_iff_iff];simp
 rw[e];exact h⟩
theorem rd_NeI{i j:Int}(h:Q (.bl (!decide (i=j))) H):kU (.int i) (.int j) H Q:=⟨rfl,by
 have e:decide (V.int i=V.int j)=decide (i=j):=by rw[Bool.eq_iff_iff];simp
 rw[e];exact h⟩
theorem rd_EqB{i j:Bool}(h:Q (.bl (i == j)) H):kx (.bl i) (.bl j) H Q:=⟨rfl,by rw[jn];exact h⟩
theorem rd_NeB{i j:Bool}(h:Q (.bl (!(i == j))) H):kU (.bl i) (.bl j) H Q:=⟨rfl,by rw[jn];exact h⟩
theorem aB{p:Addr}{xs:List V}{i:Int}{v:V}(e:ag K H p xs)(a:bD xs i=some v)(h:Q v H):lF K (.ref p) (.int i) H Q:=⟨p,xs,i,v,rfl,rfl,e,a,h⟩
theorem aE{p:Addr}{xs:List V}{i:Int}{v:V}(e:ah K H p xs)(a:bD xs i=some v)(h:Q v H):kZ K (.ref p) (.int i) H Q:=⟨p,xs,i,v,rfl,rfl,e,a,h⟩
theorem fJ{p:Addr}{xs:List V}(e:ag K H p xs)(h:Q (.int xs.length) H):jT K [.ref p] H Q:=⟨p,xs,rfl,.inl e,h⟩
theorem gm{p:Addr}{xs:List V}(e:ah K H p xs)(h:Q (.int xs.length) H):jT K [.ref p] H Q:=⟨p,xs,rfl,.inr e,h⟩
theorem fR{p:Addr}{xs:List V}(e:ag K H p xs)(h:dJ H (.tup xs) Q):mQ K [.ref p] H Q:=⟨p,xs,rfl,.inl ⟨e,h⟩⟩
theorem bK{x:V}{n T:String}{b:Bool}(hk:bO H x n)(hb:df n T=some b)(h:Q (.bl b) H):rH [x,.ty T] H Q:=⟨x,n,T,b,rfl,hk,hb,h⟩
theorem rd_intB{k:Bool}(h:Q (.int (if k then 1 else 0)) H):rE [.bl k] H Q:=.inr ⟨k,rfl,h⟩
theorem rd_max2{i j:Int}(h:Q (.int (if j>i then j else i)) H):qg [.int i,.int j] H Q:=⟨i,j,rfl,h⟩
theorem rd_call{sp:Sp}{a:TA}{E:XK}(h:a σ H fun vs H1=>sp (vs++[]) H1 Q E):lq sp [] E a σ H Q:=h
theorem rd_BM{T:String}{r:V->List V->Hp->VK->Prop}{a:TA}(h:te σ H fun x H1=>fg K T x H1/\a σ H1 fun xs H2=>r x xs H2 Q):lg K T r te a σ H Q:=h
theorem rd_tup{a:TA}(h:a σ H fun xs H1=>xs.length<=sizeLine/\dJ H1 (.tup xs) Q):ml a σ H Q:=h
theorem rd_lst{a:TA}(h:a σ H fun xs H1=>xs.length<=sizeLine/\dJ H1 (.lst xs) Q):ni a σ H Q:=h
theorem rd_sl{r:V->Option Int->Option Int->Hp->VK->Prop}{tl th:TO}(h:te σ H fun x H1=>tl σ H1 fun l H2=>th σ H2 fun v H3=>r x l v H3 Q):oA r te tl th σ H Q:=h
theorem rd_noPart{R:Option Int->Hp->Prop}(h:R none H):tm σ H R:=h
theorem rd_part{R:Option Int->Hp->Prop}(h:te σ H fun x H1=>∃i,x=.int i/\R (some i) H1):pI te σ H R:=h
theorem rd_exi{i:Int}{R:Int->Prop}(h:R i):∃k,V.int i=V.int k/\R k:=⟨i,rfl,h⟩
theorem rd_chain{r r':R2}(h:ta σ H fun x H1=>tb σ H1 fun y H2=>r x y H2 fun z H3=>∃k,z=.bl k/\(if k=true then tc σ H3 fun w' H4=>r' y w' H4 Q else Q (.bl false) H3)):rd r r' ta tb tc σ H Q:=h
theorem rd_comp{n:Nat}{js:List Nat}{wi:TI}{g:TG}(h:wi σ H fun J H1=>ff J n js g c te σ H1 Q):jO n js wi g c te σ H Q:=h
theorem rd_iL{R:It->Hp->Prop}(h:te σ H fun x H1=>tG K x H1 R):kH K te σ H R:=h
theorem rd_iT{R:It->Hp->Prop}(h:te σ H fun x H1=>sk K x H1 R):lK K te σ H R:=h
theorem dy{p:Addr}{xs:List V}{R:It->Hp->Prop}(e:ag K H p xs)(h:R (cb K p) H):tG K (.ref p) H R:=⟨p,rfl,⟨xs,e⟩,h⟩
theorem dj{p:Addr}{xs:List V}{R:It->Hp->Prop}(e:ah K H p xs)(h:R (cG K p) H):sk K (.ref p) H R:=⟨p,rfl,⟨xs,e⟩,h⟩
theorem rd_i1{a:TA}{R:It->Hp->Prop}(h:a σ H fun vs H1=>o7 vs H1 R):tI a σ H R:=h
theorem dN{j:Int}{R:It->Hp->Prop}(h1:-(2 ^ 62)<=j/\j<2 ^ 62)(h:R (cN 0 j.toNat) H):o7 [.int j] H R:=⟨j,rfl,h1.1,h1.2,h⟩
theorem rd_i2{a:TA}{R:It->Hp->Prop}(h:a σ H fun vs H1=>qe vs H1 R):oE a σ H R:=h
theorem zL{i j:Int}{R:It->Hp->Prop}(h1:-(2 ^ 62)<=i/\i<2 ^ 62/\-(2 ^ 62)<=j/\j<2 ^ 62)(h:R (cN i (j-i).toNat) H):qe [.int i,.int j] H R:=⟨i,j,rfl,h1,h⟩
theorem rd_i3{a:TA}{R:It->Hp->Prop}(h:a σ H fun vs H1=>rj vs H1 R):qN a σ H R:=h
theorem vU{i j c:Int}{R:It->Hp->Prop}(h1:fL i j c)(h:R (eM i c (cQ i j c)) H):rj [.int i,.int j,.int c] H R:=⟨i,j,c,rfl,h1,h⟩
theorem rd_for{wi:TI}{g:TG}(h:wi σ H fun J H1=>gy J g t D σ H1):tD wi g t D σ H:=h
theorem bB{l:Addr}{xs:List V}{y:V}(e:H l=some (.lst xs))(hz:xs.length<sizeLine)(h:Q .non (upd H l (.lst (xs++[y])))):nR (.ref l) [y] H Q:=⟨l,xs,y,rfl,rfl,e,hz,h⟩
theorem cB{p:Addr}{xs:List V}(e:ag K H p xs):fg K "list" (.ref p) H:=.inl ⟨rfl,xs,e⟩
theorem rd_sub{to ti:TE}{w:jQ}{v:V}{R:St->Hp->Prop}(h:to σ H fun o H1=>ti σ H1 fun i H2=>w o i v H2 fun H3=>R σ H3):tJ to ti w v σ H R:=h
theorem gE{p:Addr}{xs:List V}{k:Int}{j:Nat}{v:V}{R:Hp->Prop}(e:H p=some (.lst xs))(a:dE xs.length k=some j)(h:R (upd H p (.lst (xs.set j v)))):tp (.ref p) (.int k) v H R:=⟨p,xs,k,j,rfl,rfl,e,a,h⟩
theorem fo{n:Nat}{g:cL}{a:Addr}{xs:List V}{R:St->Hp->Prop}(e:ah K H a xs)(hl:xs.length=n)(h:g xs σ H R):lU K n g (.ref a) σ H R:=⟨a,xs,rfl,e,hl,h⟩
theorem rd_gcons{g:TG}{gs:cL}{v:V}{r:List V}{R:St->Hp->Prop}(h:g v σ H fun σ' H'=>gs r σ' H' R):qF g gs (v::r) σ H R:=⟨v,r,rfl,h⟩
theorem rd_gnil{R:St->Hp->Prop}(h:R σ H):nV [] σ H R:=⟨rfl,h⟩
theorem lj{l b:Addr}{xs zs:List V}(e1:H l=some (.lst xs))(e2:H b=some (.lst zs))(hz:xs.length+zs.length<=sizeLine)(h:dJ H (.lst (xs++zs)) Q):qK (.ref l) (.ref b) H Q:=⟨l,b,xs,zs,rfl,rfl,e1,e2,hz,h⟩
theorem kf{l:Addr}{k:Int}{xs:List V}(e:H l=some (.lst xs))(hk:0<=k/\k<10 ^ 6)(hz:xs.length*k.toNat<=sizeLine)(h:dJ H (.lst (List.replicate k.toNat xs).flatten) Q):pY (.ref l) (.int k) H Q:=
 ⟨l,k,xs,rfl,rfl,e,by omega,by omega,hz,h⟩
theorem fP{a:Addr}{xs:List V}{lo hi:Option Int}(e:ag K H a xs)(h:dJ H (.lst (cq xs lo hi)) Q):me K (.ref a) lo hi H Q:=⟨a,xs,rfl,e,h⟩
theorem gp{neg:Bool}{x:V}{p:Addr}{xs:List V}(e:ag K H p xs\/ah K H p xs)(f:dA x=true)(fs:xs.all dA=true)(h:Q (.bl (if neg then !gj x xs else gj x xs)) H):g9 K neg x (.ref p) H Q:=⟨p,xs,rfl,e,f,fs,h⟩
theorem av{o:HO}{R:VK}(h:∀p H',Ext H H'->H' p=some o->H p=none->R (.ref p) H'):dJ H o R:=fun p hp=>
 h p _ (fun b u e=>by rw[aL (cS e hp)];exact e) aO hp
theorem bC{p:Addr}{o:HO}(hp:H p=none):Ext H (upd H p o):=fun b u e=>by rw[aL (cS e hp)];exact e
theorem ag.ext{H':Hp}{p:Addr}{xs:List V}(e:Ext H H')(h:ag K H p xs):ag K H' p xs:=by
 rcases h with(h | ⟨o,h⟩) | h
 ·exact .inl (.inl (e _ _ h))
 ·exact .inl (.inr ⟨o,e _ _ h⟩)
 ·exact .inr h
end
theorem gC{α:Type}{xs:List α}{i:Int}{v:α}(h0:0<=i)(h:xs[i.toNat]?=some v):bD xs i=some v:=by
 have:=dR h
 rwa [Int.toNat_of_nonneg h0]at this
theorem h7{n:Nat}{i:Int}(h0:0<=i)(h:i<n):dE n i=some i.toNat:=by unfold dE;rw[if_pos h0,if_pos h]
end L2
set_option Elab.async false
set_option linter.all false
set_option maxRecDepth 100000
set_option maxHeartbeats 4000000
namespace L2
open PySem PySem.Spec PyProof.Rows
def cV:V->PyData->Prop
 | .non,.none=>True
 | .bl b,.bool c=>b=c
 | .int i,.int j=>i=j
 | .str x,.str y=>x=y/\(PyData.str y).canLay0=true
 | _,_=>False
def aR(H:Hp):Nat->V->PyData->Prop
 | 0,x,d=>cV x d
 | n+1,x,d=>cV x d\/∃a xs ds,x=.ref a/\((H a=some (.tup xs)/\d=.tuple ds)\/(H a=some (.lst xs)/\d=.list ds))/\Paired (aR H n) xs ds
section
variable {X:Cx} {pins:List (Addr×Obj)} {σ:St} {H:Hp} {s:Shared}
theorem cV.reads{x:V}{d:PyData}{u:Value}(h:cV x d)(r:RelV x u):∃as,Reads s.heap u d as:=by
 cases x with
 | non=>cases d<;>first | exact False.elim h | (cases r;exact⟨_,.none⟩)
 | bl b=>cases d<;>first | exact False.elim h | (cases(show b=_ from h);cases r;exact⟨_,.bool _⟩)
 | int i=>cases d<;>first | exact False.elim h | (cases(show i=_ from h);obtain⟨t,rfl⟩:=r;exact⟨_,.int _ t⟩)
 | str z=>cases d<;>first | exact False.elim h | (cases(show z=_/\_ from h).1;obtain⟨t,rfl⟩:=r;exact⟨_,.str _ t⟩)
 | _=>cases d<;>exact False.elim h
theorem cV.lay{x:V}{d:PyData}(h:cV x d):d.canLay0=true/\d.depth=0:=by
 cases x<;>cases d<;>first | exact False.elim h | exact ⟨rfl,rfl⟩ | exact ⟨h.2,rfl⟩
theorem kS{R:V->PyData->Prop}(ih:∀{x:V} {d:PyData} {u:Value},R x d->RelV x u->∃as,Reads s.heap u d as):∀{xs:List V} {ds:List PyData} {us:List Value},Paired R xs ds->Vals xs us->∃as,ReadsAll s.heap us ds as
 | _,_,_,.nil,.nil=>⟨_,.nil⟩
 | _,_,_,.cons h t,.cons r rt=>by
  obtain⟨as,ha⟩:=ih h r
  obtain⟨bs,hb⟩:=kS ih t rt
  exact⟨_,.cons ha hb⟩
theorem aR.reads(I:Inv X pins σ H s):∀(n:Nat) {x:V} {d:PyData} {u:Value},aR H n x d->RelV x u->∃as,Reads s.heap u d as
 | 0,_,_,_,h,r=>cV.reads h r
 | n+1,x,d,u,h,r=>by
  rcases h with h | ⟨a,xs,ds,rfl,hh,hp⟩
  ·exact cV.reads h r
  ·cases r
   rcases hh with⟨e,rfl⟩ | ⟨e,rfl⟩
   ·obtain⟨its,rv,⟨o,ho,hc,k,hd⟩,_⟩:=I.tuple (ah.of e)
    obtain⟨as,ha⟩:=kS (fun{x d u}=>aR.reads I n) hp rv
    exact⟨_,.tuple ho hc hd (by simpa using ha)⟩
   ·obtain⟨its,k,rv,ho,_⟩:=I.lst e
    obtain⟨as,ha⟩:=kS (fun{x d u}=>aR.reads I n) hp rv
    exact⟨_,.list ho rfl rfl (by simpa using ha)⟩
theorem jR{R:V->PyData->Prop}{m:Nat}(ih:∀{x:V} {d:PyData},R x d->d.canLay0=true/\d.depth<=m):∀{xs:List V} {ds:List PyData},Paired R xs ds->PyData.canLayAll0 ds=true/\PyData.depthAll ds<=m
 | _,_,.nil=>⟨rfl,Nat.zero_le _⟩
 | _,_,.cons h t=>by
  obtain⟨h1,h2⟩:=ih h
  obtain⟨h3,h4⟩:=jR ih t
  refine⟨?_,?_⟩
  ·simp only[PyData.canLayAll0,h1,h3,Bool.and_self]
  ·simp only[PyData.depthAll]
   exact Nat.max_le.mpr ⟨h2,h4⟩
theorem aR.lay:∀(n:Nat) {x:V} {d:PyData},aR H n x d->d.canLay0=true/\d.depth<=n
 | 0,_,_,h=>⟨(cV.lay h).1,Nat.le_of_eq (cV.lay h).2⟩
 | n+1,x,d,h=>by
  rcases h with h | ⟨a,xs,ds,rfl,hh,hp⟩
  ·exact⟨(cV.lay h).1,by rw[(cV.lay h).2];exact Nat.zero_le _⟩
  ·obtain⟨h1,h2⟩:=jR (fun{x d}=>aR.lay n) hp
   rcases hh with⟨e,rfl⟩ | ⟨e,rfl⟩
   ·exact⟨h1,Nat.succ_le_succ h2⟩
   ·exact⟨h1,Nat.succ_le_succ h2⟩
def Ar(neg:Bool):R2:=fun x y H Q=>∃n m d e,aR H n x d/\aR H m y e/\n<=50/\Q (.bl (if neg then !PyData.eqv d e else PyData.eqv d e)) H
theorem vJ{k:Nat}(hr:Room k X.A):aV X (compareOp .Eq) (Ar false):=by
 intro pins s σ H x y v u Q I rx ry h
 obtain⟨n,m,d,e,h1,h2,hn,q⟩:=h
 obtain⟨as,ra⟩:=aR.reads I n h1 rx
 obtain⟨bs,rb⟩:=aR.reads I m h2 ry
 have l1:=aR.lay n h1
 have l2:=aR.lay m h2
 have hu:=hr.units
 have hm:min d.depth e.depth<=50:=Nat.le_trans (Nat.min_le_left _ _) (Nat.le_trans l1.2 hn)
 exact SeqAt.compareEq_reads ra rb l1.1 l2.1 (by omega) ⟨.bl _,H,I,rfl,q⟩
end
end L2
set_option Elab.async false
set_option linter.all false
set_option maxRecDepth 100000
set_option maxHeartbeats 4000000
namespace L2
open PySem PySem.Spec PyProof.Rows
def vI(K:PySem.W.Frag):List V->Hp->VK->Prop:=fun xs H Q=>∃(p:Addr) (bs:List Bool),xs=[.ref p]/\ag K H p (bs.map V.bl)/\Q (.bl (bs.all id)) H
theorem m3:∀{bs:List Bool} {us:List Value},Vals (bs.map V.bl) us->us=bs.map Value.bool
 | [],_,r=>by cases r;rfl
 | b::bs,_,r=>by
  cases r with
  | cons r t=>cases r;rw[m3 t];rfl
theorem all_range(bs:List Bool):((List.range bs.length).all fun i=>bs.getD i false)=bs.all id:=by
 rw[Bool.eq_iff_iff,List.all_eq_true,List.all_eq_true]
 constructor
 ·intro h b hb
  obtain⟨i,hi,e⟩:=List.mem_iff_getElem.mp hb
  have:=h i (List.mem_range.mpr hi)
  rw[List.getD_eq_getElem?_getD,List.getElem?_eq_getElem hi]at this
  rw[←e]
  exact this
 ·intro h i hi
  have hi':=List.mem_range.mp hi
  rw[List.getD_eq_getElem?_getD,List.getElem?_eq_getElem hi']
  exact h _ (List.getElem_mem hi')
theorem nW{X:Cx}(K:PySem.W.Frag)(hc:X.calm=true)(hK:X.K=K:=by rfl):bg X (.builtin "all") (vI K):=by
 subst hK
 intro pins s σ H xs us Q I r h
 obtain⟨p,bs,rfl,hq,q⟩:=h
 obtain⟨u,rfl,rx⟩:=vals1 r
 cases rx
 obtain⟨its,rv,pl,hz⟩:=I.list hq
 have eb:=m3 rv
 have hne:p≠s.heap.objs.size:=Nat.ne_of_lt (by obtain⟨o,n,e,_⟩:=pl;exact Heap.lt_size e)
 refine call_all_walk (wpAny_pyIter_list pl.isList ?_)
 have I1:Inv X pins σ H { s with heap:=s.heap.push { cls:=.type "list_iterator",data:=.fields #[.ref p,.int 0 0] } }:=I.kept (t':=s.toks) fun b o e=>Heap.get?_push_of_some _ e
 have hf:=I.fpOk (H':=H) (Nat.le_refl s.heap.objs.size) I.fresh
 refine⟨s.heap.objs.size,_,_,_,_,_,(fun i=>bs.getD i false),rfl,Walks.list (A:=X.A.in1) (I.ok.hd hc) _ p hne its.toArray,⟨⟨_,Heap.get?_push_size _ rfl,rfl,rfl⟩,?_⟩,?_,fun h' tk hk=>?_⟩
 ·exact pl.isList.push _
 ·intro i v s' Q' E' hv hQ
  rw[eb]at hv
  have hv':(bs.map Value.bool)[i]?=some v:=by simpa using hv
  rw[List.getElem?_map]at hv'
  cases eg:bs[i]? with
  | none=>rw[eg]at hv';cases hv'
  | some b=>
   rw[eg]at hv'
   cases hv'
   have eb':bs.getD i false=b:=by rw[List.getD_eq_getElem?_getD,eg];rfl
   have hQ':Q' (bs.getD i false) s':=hQ
   rw[eb']at hQ'
   exact wpAny_truthy_bool hQ'
 ·obtain⟨f0,f1,f2,f3,f4,f5⟩:=hf
  have hl:=rv.length
  rw[List.length_map]at hl
  refine⟨.bl (bs.all id),H,I1.turned (it:=s.heap.objs.size) (fun b o hb e=>hk b o (by simpa using hb) e) f0 f1 f3 f4 f5,?_,q⟩
  show Value.bool _=Value.bool _
  rw[List.size_toArray,←hl,all_range]
end L2
set_option Elab.async false
set_option linter.all false
set_option maxRecDepth 100000
set_option maxHeartbeats 4000000
namespace L2
open PySem PySem.Spec PyProof.Rows
def nE(c:TT)(tb:TS):TS:=fun D σ H=>∃(W:Nat->St->Hp->Prop) (R:St->Hp->Prop),(∃m,W m σ H)/\(∀m σ H,W m σ H →
 c σ H fun b H1=>if b=true then ∃N:St->Hp->Prop,(∀σ' H',N σ' H'->∃m',m'<m/\W m' σ' H')/\tb ⟨N,D.rt,R,N⟩ σ H1 else R σ H1)/\∀σ H,R σ H->D.nx σ H
theorem gD{X:Cx}{pos:Pos}{c:Expr}{body:List Stmt}{tc:TT}{tb:TS}(hp:PassesOwn (model X.prog X.w) X.A X.env X.xe)(hc:PT X c tc)(hb:b9 X body tb):PS X (.While c body [] pos) (nE tc tb):=by
 intro pins s σ H D I h
 obtain⟨W,R,w0,hs,hR⟩:=h
 refine au (Aq hp hc hb pins s σ H { D with nx:=R } I ⟨W,w0,hs⟩) fun f s1 q=>?_
 cases f with
 | next=>
  obtain⟨σ',H',I',q⟩:=q
  exact⟨σ',H',I',hR σ' H' q⟩
 | ret v=>exact q
 | brk=>exact q
 | cont=>exact q
section
variable {D:Ends} {σ:St} {H:Hp} {Q:VK} {te:TE} {t:TS} {c:TT}
theorem gN(W:Nat->St->Hp->Prop)(R:St->Hp->Prop)(m:Nat)(h0:W m σ H)(hs:∀m σ H,W m σ H->c σ H fun b H1=>if b=true then ∃N:St->Hp->Prop,(∀σ' H',N σ' H'->∃m',m'<m/\W m' σ' H')/\t ⟨N,D.rt,R,N⟩ σ H1 else R σ H1)(k:∀σ H,R σ H->D.nx σ H):nE c t D σ H:=⟨W,R,⟨m,h0⟩,hs,k⟩
end
section
variable {prog:Program} {w:World} {A:Around} {E:Value->Shared->Prop} {s:Shared}
theorem zA{it t:Addr}{i:Nat}{ys:Array Value}{x:Value}{Q:Value->Shared->Prop}(gi:s.heap.IsTupleIter it t i)(gt:s.heap.IsTuple t ys)(gx:ys[i]?=some x)
  (q:∀h',h'.IsTupleIter it t (i+1)->Heap.SameBut it s.heap h'->Q x { s with heap:=h' }):wpAny (model prog w) A (Builtin.SmallTypes.nextOf (.ref it)) Q E s:=by
 obtain⟨u,gu,gc,gd⟩:=id gi
 obtain⟨v,gv,_,k,gk⟩:=gt
 unfold Builtin.SmallTypes.nextOf
 refine wpAny_bind (wpAny_callSpecial?_slot (name:=Str.ofString "__next__") gi.typeIs F.slot_tuple_iterator_next (wpAny_call_entry F.slot_tuple_iterator_next gi.typeIs F.entry_tuple_iterator_next ?_ (F.args_tuple_iterator_next_1 _)))
 show wpAny _ _ (field (Value.ref it) 0 >>= _) _ _ s
 refine wpAny_bind (wpAny_field gu gd (x:=Value.ref t) rfl ?_)
 show wpAny _ _ (if(Value.ref t == Value.none)=true then _ else _) _ _ s
 rw[if_neg (show ¬(Value.ref t == Value.none)=true from Bool.false_ne_true)]
 show wpAny _ _ (field (Value.ref it) 1 >>= _) _ _ s
 refine wpAny_bind (wpAny_field gu gd (x:=Value.int i 0) rfl ?_)
 show wpAny _ _ (seqItems? (Value.ref t) >>= _) _ _ s
 refine wpAny_bind (wpAny_seqItems gv gk ?_)
 simp only[Int.toNat_natCast,gx]
 refine wpAny_bind (wpAny_setField gu gd (by simp) (wpAny_pure ⟨x,rfl,wpAny_pure (q _ ?_ (Heap.SameBut.update ..))⟩))
 exact⟨_,Heap.get?_update_self _ gu (Obj.isFreed_of_fields (Obj.data_mapFields gd _)),(Obj.cls_mapFields ..).trans gc,by rw[Obj.data_mapFields gd];simp[rawInt]⟩
theorem y7{it t:Addr}{i:Nat}{ys:Array Value}{Q:Value->Shared->Prop}(hA:A.handled=none)(gi:s.heap.IsTupleIter it t i)(gt:s.heap.IsTuple t ys)(gx:ys[i]?=none)
  (q:∀h' e,Heap.ExtBut it s.heap h'->(∃o,h'.get? e=some o/\o.cls=.type "StopIteration")->E (.ref e) { s with heap:=h' }):wpAny (model prog w) A (Builtin.SmallTypes.nextOf (.ref it)) Q E s:=by
 obtain⟨u,gu,gc,gd⟩:=id gi
 obtain⟨v,gv,_,k,gk⟩:=gt
 unfold Builtin.SmallTypes.nextOf
 refine wpAny_bind (wpAny_callSpecial?_slot (name:=Str.ofString "__next__") gi.typeIs F.slot_tuple_iterator_next (wpAny_call_entry F.slot_tuple_iterator_next gi.typeIs F.entry_tuple_iterator_next ?_ (F.args_tuple_iterator_next_1 _)))
 show wpAny _ _ (field (Value.ref it) 0 >>= _) _ _ s
 refine wpAny_bind (wpAny_field gu gd (x:=Value.ref t) rfl ?_)
 show wpAny _ _ (if(Value.ref t == Value.none)=true then _ else _) _ _ s
 rw[if_neg (show ¬(Value.ref t == Value.none)=true from Bool.false_ne_true)]
 show wpAny _ _ (field (Value.ref it) 1 >>= _) _ _ s
 refine wpAny_bind (wpAny_field gu gd (x:=Value.int i 0) rfl ?_)
 show wpAny _ _ (seqItems? (Value.ref t) >>= _) _ _ s
 refine wpAny_bind (wpAny_seqItems gv gk ?_)
 simp only[Int.toNat_natCast,gx]
 refine wpAny_bind (wpAny_rule (wpAny_bind (wpAny_setField gu gd (by simp) ?_)))
 show wpAny _ _ (newExc (Value.type "StopIteration") [] >>= _) _ _ _
 refine wpAny_bind ?_
 simp only[newExc,newTuple]
 refine wpAny_bind (wpAny_newObj_type (hd:=by size_fits) ?_)
 refine wpAny_bind (m:=firstArgMember _ _) (wpAny_of_eq (a:=Value.none) (by first | rfl | (unfold firstArgMember;rfl)) ?_)
 refine wpAny_newObj_type (hd:=by size_fits) ?_
 simp only[raiseNew]
 refine wpAny_bind (wpAny_handled ?_)
 first | rw [show Around.handled A.in1=none from hA] | rw [hA]
 refine wpAny_bind (wpAny_pure (wpAny_throw ?_))
 exact q _ _ (((Heap.SameBut.update ..).extBut.push _).push _) ⟨_,Heap.get?_push_size _ rfl,rfl⟩
end
structure Sub(P:Program)(w:World)(K:PySem.W.Frag)(J:It)(it:Addr)(tn:Nat->Heap->Prop):Prop where
 obj:∀i h,tn i h->∃o,h.get? it=some o/\∀v,o.data≠.cell v
 keep:∀i h h',tn i h->(∀o,h.get? it=some o->h'.get? it=some o)->tn i h'
 item:∀(X:Cx),X.prog=P->X.w=w->X.K=K->∀(A:Around) (i:Nat) (pins:List (Addr×Obj)) (s:Shared) (σ:St) (H:Hp) (Q:Value->Shared->Prop) (E:Value->Shared->Prop),Inv X pins σ H s->br X pins H it->tn i s.heap->J.go i H →
  (∀x u h',Inv X pins σ H { s with heap:=h' }->RelV x u->J.yld i H x H->tn (i+1) h'->Heap.SameBut it s.heap h'->Q u { s with heap:=h' })->wpAny (model P w) A (Builtin.SmallTypes.nextOf (.ref it)) Q E s
 done:∀(X:Cx),X.prog=P->X.w=w->X.K=K->∀(A:Around),A.handled=none->∀(i:Nat) (pins:List (Addr×Obj)) (s:Shared) (σ:St) (H:Hp) (Q:Value->Shared->Prop) (E:Value->Shared->Prop),Inv X pins σ H s->br X pins H it->tn i s.heap->J.stop i H →
  (∀h' e,Heap.ExtBut it s.heap h'->(∃o,h'.get? e=some o/\o.cls=.type "StopIteration")->E (.ref e) { s with heap:=h' })->wpAny (model P w) A (Builtin.SmallTypes.nextOf (.ref it)) Q E s
theorem qf{P:Program}{w:World}{K:PySem.W.Frag}(a it:Addr):Sub P w K (cb K a) it (fun i h=>h.IsListIter it a i) where
 obj:=fun i h st=>by
  obtain⟨o,e,c,d⟩:=st
  exact⟨o,e,fun v z=>by rw[d]at z;cases z⟩
 keep:=fun i h h' st k=>st.at k
 item:=by
  intro X hP hw hK A i pins s σ H Q E I hf st hg hQ
  subst hP hw hK
  obtain⟨xs,x,hq,hx⟩:=hg
  obtain⟨its,rv,p,hz⟩:=I.list hq
  obtain⟨u,hu,ru⟩:=rv.get hx
  obtain⟨f0,f1,f2,f3,f4,f5⟩:=hf
  exact wpAny_nextOf_list_item st p.isList (x:=u) (by simpa using hu) fun h' st' sb=>hQ x u h' (I.turned (t':=s.toks) (it:=it) (fun b o hb e=>(sb.2 b hb).trans e) f0 f1 f3 f4 f5) ru ⟨rfl,fun ys hy=>by rw[I.list_inj hy hq];exact hx⟩ st' sb
 done:=by
  intro X hP hw hK A hA i pins s σ H Q E I hf st hg hE
  subst hP hw hK
  obtain⟨xs,hq,hx⟩:=hg
  obtain⟨its,rv,p,hz⟩:=I.list hq
  have hl:=rv.length
  exact wpAny_nextOf_list_end hA st p.isList (by simp;omega) hE
theorem oh{P:Program}{w:World}{K:PySem.W.Frag}(a it:Addr):Sub P w K (cG K a) it (fun i h=>h.IsTupleIter it a i) where
 obj:=fun i h st=>by
  obtain⟨o,e,c,d⟩:=st
  exact⟨o,e,fun v z=>by rw[d]at z;cases z⟩
 keep:=fun i h h' st k=>st.at k
 item:=by
  intro X hP hw hK A i pins s σ H Q E I hf st hg hQ
  subst hP hw hK
  obtain⟨xs,x,hq,hx⟩:=hg
  obtain⟨its,rv,p,hz⟩:=I.tuple hq
  obtain⟨u,hu,ru⟩:=rv.get hx
  obtain⟨f0,f1,f2,f3,f4,f5⟩:=hf
  exact zA st (show s.heap.IsTuple a its.toArray from p) (x:=u) (by simpa using hu) fun h' st' sb=>hQ x u h' (I.turned (t':=s.toks) (it:=it) (fun b o hb e=>(sb.2 b hb).trans e) f0 f1 f3 f4 f5) ru ⟨rfl,fun ys hy=>by rw[I.tuple_inj hy hq];exact hx⟩ st' sb
 done:=by
  intro X hP hw hK A hA i pins s σ H Q E I hf st hg hE
  subst hP hw hK
  obtain⟨xs,hq,hx⟩:=hg
  obtain⟨its,rv,p,hz⟩:=I.tuple hq
  have hl:=rv.length
  exact y7 hA st (show s.heap.IsTuple a its.toArray from p) (by simp;omega) hE
def eZ(J1 J2:It):It:=⟨fun i H=>J1.go i H/\J2.go i H,fun i H x H'=>∃p u v,x=.ref p/\H p=none/\H'=upd H p (.tup [u,v])/\J1.yld i H u H/\J2.yld i H v H,fun i H=>J1.stop i H\/(J1.go i H/\J2.stop i H)⟩
structure Apart(z TI TO i1 i2:Addr):Prop where
 a:TI≠z
 b:TO≠z
 c:i1≠z
 d:i2≠z
 e:TI≠TO
 f:TI≠i1
 g:TI≠i2
 h:TO≠i1
 i:TO≠i2
 j:i1≠i2
section
variable {X:Cx} {pins:List (Addr×Obj)} {σ:St} {H:Hp} {s:Shared}
theorem Inv.same{it:Addr}{k h':Heap}(I:Inv X pins σ H { s with heap:=k })(f:br X pins H it)(b:Heap.ExtBut it k h'):Inv X pins σ H { s with heap:=h' }:=by
 obtain⟨f0,f1,f2,f3,f4,f5⟩:=f
 exact Inv.turned (s:={ s with heap:=k }) (t':=s.toks) (it:=it) I (fun c o hb e=>b c o hb e) f0 f1 f3 f4 f5
theorem yq{J1 J2:It}{z TI TO i1 i2:Addr}{t1 t2:Nat->Heap->Prop}{A:Around}{E:Value->Shared->Prop}{a b:Value}{i:Nat}{Q:Value->Shared->Prop}(S1:Sub X.prog X.w X.K J1 i1 t1)(S2:Sub X.prog X.w X.K J2 i2 t2)(N:Apart z TI TO i1 i2)
  (I:Inv X pins σ H s) (hf:∀b∈[z,TI,TO,i1,i2],br X pins H b) (gz:IsZip s.heap z TI TO .none) (gI:IsPair s.heap TI (.ref i1) (.ref i2)) (gO:IsPair s.heap TO a b) (g1:t1 i s.heap) (g2:t2 i s.heap) (go1:J1.go i H) (go2:J2.go i H)
  (q:∀x y h',Inv X pins σ (upd H s.heap.objs.size (.tup [x,y])) { s with heap:=h' }->J1.yld i H x H->J2.yld i H y H->IsZip h' z TI TO (rawInt s.heap.objs.size)->IsPair h' TI (.ref i1) (.ref i2)->(∃a b,IsPair h' TO a b)->t1 (i+1) h'->t2 (i+1) h'->Q (.ref s.heap.objs.size) { s with heap:=h' }) :
  wpAny (model X.prog X.w) A (Builtin.«zip.__next__» ⟨[.ref z],[]⟩) (fun fin s'=>∃v,fin=.done (.ret v)/\Q v s') E s:=by
 have fz:=hf z (by simp)
 have fO:=hf TO (by simp)
 have f1:=hf i1 (by simp)
 have f2:=hf i2 (by simp)
 show wpAny _ _ (field (Value.ref z) 2 >>= _) _ _ _
 refine wpAny_bind (wpAny_field gz rfl (x:=Value.bool false) rfl ?_)
 show wpAny _ _ (field (Value.ref z) 3 >>= _) _ _ _
 refine wpAny_bind (wpAny_field gz rfl (x:=Value.ref TI) rfl ?_)
 refine wpAny_bind (wpAny_seqItems gI rfl ?_)
 show wpAny _ _ (Builtin.SmallTypes.ownedTupleIsFree (Value.ref z) >>= _) _ _ _
 refine wpAny_bind ?_
 unfold Builtin.SmallTypes.ownedTupleIsFree
 refine wpAny_bind (wpAny_field gz rfl (x:=Value.none) rfl (wpAny_pure ?_))
 simp only[if_true]
 refine wpAny_bind (wpAny_rule ?_)
 refine wpAny_bind (wpAny_field gz rfl (x:=Value.ref TO) rfl ?_)
 refine wpAny_bind (wpAny_setField_rec gz (by simp) fun k1 gz1 b1=>?_)
 replace gz1:IsZip k1 z TI TO .ellipsis:=gz1
 have s1:=b1.1
 replace b1:=b1.extBut
 have I1:Inv X pins σ H { s with heap:=k1 }:=Inv.same (show Inv X pins σ H { s with heap:=s.heap }from I) fz b1
 refine wpAny_bind ?_
 simp only[List.zipIdx_cons,List.zipIdx_nil,List.forIn_cons,List.forIn_nil]
 refine wpAny_bind (wpAny_bind (wpAny_onRaise ?_))
 show wpAny _ _ (Builtin.SmallTypes.nextOf (Value.ref i1) >>= _) _ _ _
 refine wpAny_bind (S1.item X rfl rfl rfl _ i pins _ σ H _ _ I1 f1 (S1.keep i _ _ g1 fun o e=>b1 _ _ N.c e) go1 fun x ux k2 I2 rx yx t12 b2=>wpAny_pure ?_)
 replace I2:Inv X pins σ H { s with heap:=k2 }:=I2
 have s2:=b2.1
 replace b2:=b2.extBut
 have gO2:IsPair k2 TO a b:=b2 _ _ N.h (b1 _ _ N.b gO)
 refine wpAny_bind (wpAny_seqItems gO2 rfl ?_)
 refine wpAny_bind (wpAny_updateSeq_pair gO2 fun k3 gO3 b3=>?_)
 replace gO3:IsPair k3 TO ux b:=gO3
 have s3:=b3.1
 replace b3:=b3.extBut
 have I3:Inv X pins σ H { s with heap:=k3 }:=Inv.same I2 fO b3
 refine wpAny_bind (wpAny_letGo (wpAny_pure ?_))
 refine wpAny_bind (wpAny_bind (wpAny_onRaise ?_))
 show wpAny _ _ (Builtin.SmallTypes.nextOf (Value.ref i2) >>= _) _ _ _
 refine wpAny_bind (S2.item X rfl rfl rfl _ i pins _ σ H _ _ I3 f2 (S2.keep i _ _ g2 fun o e=>b3 _ _ (Ne.symm N.i) (b2 _ _ (Ne.symm N.j) (b1 _ _ N.d e))) go2 fun y uy k4 I4 ry yy t24 b4=>wpAny_pure ?_)
 replace I4:Inv X pins σ H { s with heap:=k4 }:=I4
 have s4:=b4.1
 replace b4:=b4.extBut
 have gO4:IsPair k4 TO ux b:=b4 _ _ N.i gO3
 refine wpAny_bind (wpAny_seqItems gO4 rfl ?_)
 refine wpAny_bind (wpAny_updateSeq_pair gO4 fun k5 gO5 b5=>?_)
 replace gO5:IsPair k5 TO ux uy:=gO5
 have s5:=b5.1
 replace b5:=b5.extBut
 have I5:Inv X pins σ H { s with heap:=k5 }:=Inv.same I4 fO b5
 refine wpAny_bind (wpAny_letGo (wpAny_pure (wpAny_pure ?_)))
 refine wpAny_bind (wpAny_seqItems gO5 rfl ?_)
 refine wpAny_bind (wpAny_newTuple ?_)
 have sz:k5.objs.size=s.heap.objs.size:=by rw[s5,s4,s3,s2,s1]
 have gz5:IsZip k5 z TI TO .ellipsis:=b5 _ _ (Ne.symm N.b) (b4 _ _ (Ne.symm N.d) (b3 _ _ (Ne.symm N.b) (b2 _ _ (Ne.symm N.c) gz1)))
 have gI5:IsPair k5 TI (.ref i1) (.ref i2):=b5 _ _ N.e (b4 _ _ N.g (b3 _ _ N.e (b2 _ _ N.f (b1 _ _ N.a gI))))
 have t15:t1 (i+1) k5:=S1.keep _ _ _ (S1.keep _ _ _ (S1.keep _ _ _ t12 fun o e=>b3 _ _ (Ne.symm N.h) e) fun o e=>b4 _ _ N.j e) fun o e=>b5 _ _ (Ne.symm N.h) e
 have t25:t2 (i+1) k5:=S2.keep _ _ _ t24 fun o e=>b5 _ _ (Ne.symm N.i) e
 have lz:z<k5.objs.size:=Heap.lt_size gz5
 have I6:Inv X pins σ (upd H k5.objs.size (.tup [x,y])) { s with heap:=k5.push { cls:=.type "tuple",data:=.seq #[ux,uy] } }:=
  I5.laid (t':=s.toks) (o:=.tup [x,y]) (fun b ob e=>Heap.get?_push_of_some _ e) (Nat.le_refl _) ⟨by show 2<=sizeLine;decide,[ux,uy],.cons rx (.cons ry .nil),IsTup.new _ _⟩
 have fz6:br X pins (upd H k5.objs.size (.tup [x,y])) z:=by
  obtain⟨c0,c1,c2,c3,c4,c5⟩:=fz
  exact⟨by rw[aL (Nat.ne_of_lt lz)];exact c0,c1,c2,c3,c4,c5⟩
 show wpAny _ _ (Builtin.SmallTypes.ownedTupleHandOut (Value.ref z) (Value.ref k5.objs.size) >>= _) _ _ _
 refine wpAny_bind ?_
 unfold Builtin.SmallTypes.ownedTupleHandOut
 have gz6:IsZip (k5.push { cls:=.type "tuple",data:=.seq #[ux,uy] }) z TI TO .ellipsis:=Heap.get?_push_of_some _ gz5
 refine wpAny_bind (wpAny_setField_rec gz6 (by simp) fun k7 gz7 b7=>?_)
 replace gz7:IsZip k7 z TI TO (rawInt k5.objs.size):=gz7
 replace b7:=b7.extBut
 have I7:Inv X pins σ (upd H k5.objs.size (.tup [x,y])) { s with heap:=k7 }:=Inv.same I6 fz6 b7
 refine wpAny_setField_rec gz7 (by simp) fun k8 gz8 b8=>?_
 replace gz8:IsZip k8 z TI TO (rawInt k5.objs.size):=gz8
 replace b8:=b8.extBut
 have I8:Inv X pins σ (upd H k5.objs.size (.tup [x,y])) { s with heap:=k8 }:=Inv.same I7 fz6 b8
 have up:∀b o,b≠z->k5.get? b=some o->k8.get? b=some o:=fun b o ne e=>b8 _ _ ne (b7 _ _ ne (Heap.get?_push_of_some _ e))
 rw[sz]at I8 gz8
 refine wpAny_pure ⟨_,rfl,?_⟩
 show Q (.ref k5.objs.size) _
 rw[sz]
 exact q x y k8 I8 yx yy gz8 (up _ _ N.a gI5) ⟨_,_,up _ _ N.b gO5⟩ (S1.keep _ _ _ t15 fun o e=>up _ o N.c e) (S2.keep _ _ _ t25 fun o e=>up _ o N.d e)
theorem AJ{J1 J2:It}{z TI TO i1 i2:Addr}{t1 t2:Nat->Heap->Prop}{A:Around}{E:Value->Shared->Prop}{a b:Value}{i:Nat}{Q:Fin->Shared->Prop}(hA:A.handled=none)(S1:Sub X.prog X.w X.K J1 i1 t1)(S2:Sub X.prog X.w X.K J2 i2 t2)(N:Apart z TI TO i1 i2)
  (I:Inv X pins σ H s) (hf:∀b∈[z,TI,TO,i1,i2],br X pins H b) (gz:IsZip s.heap z TI TO .none) (gI:IsPair s.heap TI (.ref i1) (.ref i2)) (gO:IsPair s.heap TO a b) (g1:t1 i s.heap) (g2:t2 i s.heap) (st:J1.stop i H\/(J1.go i H/\J2.stop i H))
  (q:∀h' e,Inv X pins σ H { s with heap:=h' }->(∃o,h'.get? e=some o/\o.cls=.type "StopIteration")->E (.ref e) { s with heap:=h' }) :
  wpAny (model X.prog X.w) A (Builtin.«zip.__next__» ⟨[.ref z],[]⟩) Q E s:=by
 have fz:=hf z (by simp)
 have fO:=hf TO (by simp)
 have f1:=hf i1 (by simp)
 have f2:=hf i2 (by simp)
 show wpAny _ _ (field (Value.ref z) 2 >>= _) _ _ _
 refine wpAny_bind (wpAny_field gz rfl (x:=Value.bool false) rfl ?_)
 show wpAny _ _ (field (Value.ref z) 3 >>= _) _ _ _
 refine wpAny_bind (wpAny_field gz rfl (x:=Value.ref TI) rfl ?_)
 refine wpAny_bind (wpAny_seqItems gI rfl ?_)
 show wpAny _ _ (Builtin.SmallTypes.ownedTupleIsFree (Value.ref z) >>= _) _ _ _
 refine wpAny_bind ?_
 unfold Builtin.SmallTypes.ownedTupleIsFree
 refine wpAny_bind (wpAny_field gz rfl (x:=Value.none) rfl (wpAny_pure ?_))
 simp only[if_true]
 refine wpAny_bind (wpAny_rule ?_)
 refine wpAny_bind (wpAny_field gz rfl (x:=Value.ref TO) rfl ?_)
 refine wpAny_bind (wpAny_setField_rec gz (by simp) fun k1 gz1 b1=>?_)
 replace gz1:IsZip k1 z TI TO .ellipsis:=gz1
 replace b1:=b1.extBut
 have I1:Inv X pins σ H { s with heap:=k1 }:=Inv.same (show Inv X pins σ H { s with heap:=s.heap }from I) fz b1
 refine wpAny_bind ?_
 simp only[List.zipIdx_cons,List.zipIdx_nil,List.forIn_cons,List.forIn_nil]
 refine wpAny_bind (wpAny_bind (wpAny_onRaise ?_))
 show wpAny _ _ (Builtin.SmallTypes.nextOf (Value.ref i1) >>= _) _ _ _
 have t11:t1 i k1:=S1.keep i _ _ g1 fun o e=>b1 _ _ N.c e
 rcases st with st | ⟨go,st⟩
 ·refine wpAny_bind (S1.done X rfl rfl rfl _ hA i pins _ σ H _ _ I1 f1 t11 st fun k2 e b2 he=>?_)
  obtain⟨oe,hoe,hce⟩:=he
  have gz2:IsZip k2 z TI TO .ellipsis:=b2 _ _ (Ne.symm N.c) gz1
  have I2:Inv X pins σ H { s with heap:=k2 }:=Inv.same I1 f1 b2
  have ne:e≠z:=fun x=>by subst x;rw[gz2]at hoe;cases hoe;simp at hce
  exact wpAny_setField_rec gz2 (by simp) fun k3 _ b3=>q k3 e (Inv.same I2 fz b3.extBut) ⟨oe,b3.extBut _ _ ne hoe,hce⟩
 ·refine wpAny_bind (S1.item X rfl rfl rfl _ i pins _ σ H _ _ I1 f1 t11 go fun x ux k2 I2 rx yx t12 b2=>wpAny_pure ?_)
  replace I2:Inv X pins σ H { s with heap:=k2 }:=I2
  replace b2:=b2.extBut
  have gO2:IsPair k2 TO a b:=b2 _ _ N.h (b1 _ _ N.b gO)
  refine wpAny_bind (wpAny_seqItems gO2 rfl ?_)
  refine wpAny_bind (wpAny_updateSeq_pair gO2 fun k3 gO3 b3=>?_)
  replace b3:=b3.extBut
  have I3:Inv X pins σ H { s with heap:=k3 }:=Inv.same I2 fO b3
  refine wpAny_bind (wpAny_letGo (wpAny_pure ?_))
  refine wpAny_bind (wpAny_bind (wpAny_onRaise ?_))
  show wpAny _ _ (Builtin.SmallTypes.nextOf (Value.ref i2) >>= _) _ _ _
  refine wpAny_bind (S2.done X rfl rfl rfl _ hA i pins _ σ H _ _ I3 f2 (S2.keep i _ _ g2 fun o e=>b3 _ _ (Ne.symm N.i) (b2 _ _ (Ne.symm N.j) (b1 _ _ N.d e))) st fun k4 e b4 he=>?_)
  obtain⟨oe,hoe,hce⟩:=he
  have gz4:IsZip k4 z TI TO .ellipsis:=b4 _ _ (Ne.symm N.d) (b3 _ _ (Ne.symm N.b) (b2 _ _ (Ne.symm N.c) gz1))
  have I4:Inv X pins σ H { s with heap:=k4 }:=Inv.same I3 f2 b4
  have ne:e≠z:=fun x=>by subst x;rw[gz4]at hoe;cases hoe;simp at hce
  exact wpAny_setField_rec gz4 (by simp) fun k5 _ b5=>q k5 e (Inv.same I4 fz b5.extBut) ⟨oe,b5.extBut _ _ ne hoe,hce⟩
end
theorem wB{P:Program}{w:World}{K:PySem.W.Frag}{elts:List Expr}{kk:Nat}{ps:Pos}{J1 J2:It}{z TI TO i1 i2:Addr}{t1 t2:Nat->Heap->Prop}(S1:Sub P w K J1 i1 t1)(S2:Sub P w K J2 i2 t2)(N:Apart z TI TO i1 i2):
  Turn P w K (.Tuple elts kk ps) (eZ J1 J2) [z,TI,TO,i1,i2] z (fun i h=>IsZip h z TI TO .none/\IsPair h TI (.ref i1) (.ref i2)/\(∃a b,IsPair h TO a b)/\t1 i h/\t2 i h) where
 mem:=by simp
 obj:=fun i h st b hb=>by
  obtain⟨gz,gI,⟨a,c,gO⟩,g1,g2⟩:=st
  simp only[List.mem_cons,List.not_mem_nil,or_false]at hb
  rcases hb with rfl | rfl | rfl | rfl | rfl
  ·exact⟨_,gz,fun v e=>by cases(show Data.fields _=Data.cell v from e)⟩
  ·exact⟨_,gI,fun v e=>by cases(show Data.seq _ _=Data.cell v from e)⟩
  ·exact⟨_,gO,fun v e=>by cases(show Data.seq _ _=Data.cell v from e)⟩
  ·exact S1.obj _ _ g1
  ·exact S2.obj _ _ g2
 keep:=fun i h h' st k=>by
  obtain⟨gz,gI,⟨a,c,gO⟩,g1,g2⟩:=st
  exact⟨k z (by simp) _ gz,k TI (by simp) _ gI,⟨a,c,k TO (by simp) _ gO⟩,S1.keep _ _ _ g1 fun o e=>k i1 (by simp) o e,S2.keep _ _ _ g2 fun o e=>k i2 (by simp) o e⟩
 item:=by
  intro X hP hw hK hc i pins s σ H E I hf st hg
  subst hP hw hK
  obtain⟨gz,gI,⟨a,c,gO⟩,g1,g2⟩:=st
  have gT:s.TypeIs (.ref z) "zip":=⟨_,gz,rfl⟩
  unfold pyNext
  refine wpAny_bind (wpAny_attempt (wpAny_callSpecial?_slot (name:=Str.ofString "__next__") gT F.slot_zip_next (wpAny_call_entry F.slot_zip_next gT F.entry_zip_next
   (yq S1 S2 N I hf gz gI gO g1 g2 hg.1 hg.2 fun x y h' I' yx yy gz' gI' gO' g1' g2'=>wpAny_pure ⟨_,rfl,?_⟩) (F.args_zip_next_1 _))))
  have lt:∀b∈[z,TI,TO,i1,i2],b≠s.heap.objs.size:=fun b hb=>by
   obtain⟨f0,f1,f2,f3,f4,f5⟩:=hf b hb
   simp only[List.mem_cons,List.not_mem_nil,or_false]at hb
   rcases hb with rfl | rfl | rfl | rfl | rfl
   ·exact Nat.ne_of_lt (Heap.lt_size gz)
   ·exact Nat.ne_of_lt (Heap.lt_size gI)
   ·exact Nat.ne_of_lt (Heap.lt_size gO)
   ·obtain⟨o,e,_⟩:=S1.obj _ _ g1;exact Nat.ne_of_lt (Heap.lt_size e)
   ·obtain⟨o,e,_⟩:=S2.obj _ _ g2;exact Nat.ne_of_lt (Heap.lt_size e)
  have fz:br X pins (upd H s.heap.objs.size (.tup [x,y])) z:=by
   obtain⟨c0,c1,c2,c3,c4,c5⟩:=hf z (by simp)
   exact⟨by rw[aL (lt z (by simp))];exact c0,c1,c2,c3,c4,c5⟩
  obtain⟨a',c',gO'⟩:=gO'
  refine wpAny_letOwnedTupleGo_zip (s:={ s with heap:=h' }) gz' fun k gk bk=>?_
  refine⟨.ref s.heap.objs.size,upd H s.heap.objs.size (.tup [x,y]),Inv.same I' fz bk.extBut,rfl,⟨_,x,y,rfl,I.hok.fresh (Nat.le_refl _),rfl,yx,yy⟩,
   ⟨gk,bk.extBut _ _ N.a gI',⟨_,_,bk.extBut _ _ N.b gO'⟩,S1.keep _ _ _ g1' fun o e=>bk.extBut _ _ N.c e,S2.keep _ _ _ g2' fun o e=>bk.extBut _ _ N.d e⟩,fun b hb=>?_⟩
  rw[aL (lt b hb)]
  exact(hf b hb).1
 done:=by
  intro X hP hw hK hc i pins s σ H E I hf st hg
  subst hP hw hK
  obtain⟨gz,gI,⟨a,c,gO⟩,g1,g2⟩:=st
  have gT:s.TypeIs (.ref z) "zip":=⟨_,gz,rfl⟩
  unfold pyNext
  refine wpAny_bind (wpAny_attempt (wpAny_callSpecial?_slot (name:=Str.ofString "__next__") gT F.slot_zip_next (wpAny_call_entry F.slot_zip_next gT F.entry_zip_next
   (AJ (I.ok.hd hc) S1 S2 N I hf gz gI gO g1 g2 hg fun h' e I' he=>?_) (F.args_zip_next_1 _))))
  obtain⟨o,ho,hc'⟩:=he
  refine wpAny_bind (wpAny_isInstance (s:={ s with heap:=h' }) (T:="StopIteration") (b:=true) ⟨o,ho,hc'⟩ isSubtype_stop ?_)
  exact wpAny_pure ⟨rfl,I'⟩
 self:=fun _ _ _ _ _ st h=>wpAny_pyIter_zip st.1 h
abbrev ja(h:Heap)(a:Addr):Heap:=h.push { cls:=.type "tuple_iterator",data:=.fields #[.ref a,.int 0 0] }
abbrev jq(h:Heap)(a b:Addr):Heap:=(ja h a).push { cls:=.type "tuple_iterator",data:=.fields #[.ref b,.int 0 0] }
abbrev i7(h:Heap)(a b:Addr):Heap:=(jq h a b).push { cls:=.type "tuple",data:=.seq #[.ref h.objs.size,.ref (ja h a).objs.size] }
abbrev kr(h:Heap)(a b:Addr):Heap:=(i7 h a b).push { cls:=.type "tuple",data:=.seq #[.none,.none] }
abbrev fN(h:Heap)(a b:Addr):Heap:=(kr h a b).push { cls:=.type "zip",data:=.fields #[.none,.bool false,.bool false,.ref (jq h a b).objs.size,.ref (i7 h a b).objs.size] }
theorem Av(a b:Addr)(xs ys:Array Value):Meets (Builtin.«zip.__new__» ⟨[.type "zip",.ref a,.ref b],[]⟩) (fun _ R s=>s.heap.IsTuple a xs/\s.heap.IsTuple b ys/\R (.ok (.ret (.ref (kr s.heap a b).objs.size))) { s with heap:=fN s.heap a b }):=
 .of_wp fun prog w A R s q=>by
  obtain⟨hp,g,d,tk,os⟩:=s;obtain⟨ga,gb,q⟩:=q
  have hsub:=sub_zip
  have gA:Heap.IsTuple (Shared.heap ⟨hp,g,d,tk,os⟩) a xs:=ga
  have gB:Heap.IsTuple (Shared.heap ⟨hp.push { cls:=.type "tuple_iterator",data:=.fields #[.ref a,.int 0 0] },g,d,tk,os⟩) b ys:=Heap.IsTuple.push gb _
  wp_walk using wpAny_pyIter_tuple gA,wpAny_pyIter_tuple gB
  exact⟨_,rfl,q⟩
theorem yf{prog:Program}{w:World}{A:Around}{E:Value->Shared->Prop}{s:Shared}{a b:Addr}{xs ys:Array Value}{Q:Value->Shared->Prop}(ga:s.heap.IsTuple a xs)(gb:s.heap.IsTuple b ys)
  (q:∀h',IsZip h' (s.heap.objs.size+4) (s.heap.objs.size+2) (s.heap.objs.size+3) .none->IsPair h' (s.heap.objs.size+2) (.ref s.heap.objs.size) (.ref (s.heap.objs.size+1))->IsPair h' (s.heap.objs.size+3) .none .none →
   h'.IsTupleIter s.heap.objs.size a 0->h'.IsTupleIter (s.heap.objs.size+1) b 0->(∀c o,s.heap.get? c=some o->h'.get? c=some o)->Q (.ref (s.heap.objs.size+4)) { s with heap:=h' }) :
  wpAny (model prog w) A (call (.type "zip") [.ref a,.ref b]) Q E s:=by
 refine callType_new F.called_zip (by decide) (F.typeCall_zip_2 _ _) (F.newCall_zip_2 _ _) (fun ob=>F.args_object_init_3 ob _ _) F.entry_zip_new (Av a b xs ys) ⟨ga,gb,?_⟩
 have n1:(ja s.heap a).objs.size=s.heap.objs.size+1:=Heap.size_push ..
 have n2:(jq s.heap a b).objs.size=s.heap.objs.size+2:=by rw[Heap.size_push,n1]
 have n3:(i7 s.heap a b).objs.size=s.heap.objs.size+3:=by rw[Heap.size_push,n2]
 have n4:(kr s.heap a b).objs.size=s.heap.objs.size+4:=by rw[Heap.size_push,n3]
 have k5:(fN s.heap a b).get? (kr s.heap a b).objs.size=some _:=Heap.get?_push_size _ rfl
 have k4:(fN s.heap a b).get? (i7 s.heap a b).objs.size=some _:=Heap.get?_push_of_some _ (Heap.get?_push_size _ rfl)
 have k3:(fN s.heap a b).get? (jq s.heap a b).objs.size=some _:=Heap.get?_push_of_some _ (Heap.get?_push_of_some _ (Heap.get?_push_size _ rfl))
 have k2:(fN s.heap a b).get? (ja s.heap a).objs.size=some _:=Heap.get?_push_of_some _ (Heap.get?_push_of_some _ (Heap.get?_push_of_some _ (Heap.get?_push_size _ rfl)))
 have k1:(fN s.heap a b).get? s.heap.objs.size=some _:=Heap.get?_push_of_some _ (Heap.get?_push_of_some _ (Heap.get?_push_of_some _ (Heap.get?_push_of_some _ (Heap.get?_push_size _ rfl))))
 show _/\_
 rw[n2,n3,n4]at k5
 rw[n1,n2]at k3
 rw[n3]at k4
 rw[n1]at k2
 rw[n4]
 exact⟨⟨_,k5,rfl⟩,q _ k5 k3 k4 ⟨_,k1,rfl,rfl⟩ ⟨_,k2,rfl,rfl⟩ fun c o x=>Heap.get?_push_of_some _ (Heap.get?_push_of_some _ (Heap.get?_push_of_some _ (Heap.get?_push_of_some _ (Heap.get?_push_of_some _ x))))⟩
section
variable {K:PySem.W.Frag} {σ:St} {H:Hp} {Q:VK}
def lR(K:PySem.W.Frag):List V->Hp->(It->Hp->Prop)->Prop:=fun vs H R=>∃a b xs ys,vs=[.ref a,.ref b]/\((ah K H a xs/\ah K H b ys/\R (eZ (cG K a) (cG K b)) H)\/(ag K H a xs/\ag K H b ys/\R (eZ (cb K a) (cb K b)) H))
def tP(K:PySem.W.Frag)(ta:TA):TI:=fun σ H R=>ta σ H fun vs H1=>lR K vs H1 R
theorem yp{X:Cx}{elts:List Expr}{kk:Nat}{ps:Pos}(K:PySem.W.Frag){a b:Expr}{ta:TA}{p pos:Pos}(hg:Gl X "zip")(hm:X.mg "zip" = none)(ha:PA X [a,b] ta)(hK:X.K=K:=by rfl)(hs:starEach [a,b] X.env=[(false,eval a X.env),(false,eval b X.env)]:=by rfl)(hs2:starEach [b] X.env=[(false,eval b X.env)]:=by rfl):
  PI X (.Tuple elts kk ps) (.Call (.Name "zip" p) [a,b] [] pos) (tP K ta):=by
 subst hK
 intro pins s σ H R I h
 refine Call_ (fm I hg hm PyProof.Rows.boot_zip (PyProof.Rows.callWith_type1 (au (ha pos pins s σ H _ I h) fun us s1 ⟨vs,H1,I1,r1,q1⟩=>?_) (by rw[hs,hs2]) (by rw[hs2];rfl)))
 obtain⟨l,m,xs,ys,e,q1⟩:=q1
 subst e
 cases r1 with
 | cons r rr=>
  cases rr with
  | cons r' rr=>
   cases rr
   cases r
   cases r'
   have mk:∀{J1 J2:It} {t1 t2:Nat->Heap->Prop},Sub X.prog X.w X.K J1 s1.heap.objs.size t1->Sub X.prog X.w X.K J2 (s1.heap.objs.size+1) t2->∀h',IsZip h' (s1.heap.objs.size+4) (s1.heap.objs.size+2) (s1.heap.objs.size+3) .none->IsPair h' (s1.heap.objs.size+2) (.ref s1.heap.objs.size) (.ref (s1.heap.objs.size+1)) →
     IsPair h' (s1.heap.objs.size+3) .none .none->t1 0 h'->t2 0 h'->(∀c o,s1.heap.get? c=some o->h'.get? c=some o)->R (eZ J1 J2) H1->wpAny (model X.prog X.w) X.A (pyIter (.ref (s1.heap.objs.size+4))) (mR X pins σ (.Tuple elts kk ps) R) X.xe { s1 with heap:=h' }:=by
    intro J1 J2 t1 t2 S1 S2 h' gz gI gO g1 g2 k q
    refine wpAny_pyIter_zip (s:={ s1 with heap:=h' }) gz ?_
    have N:Apart (s1.heap.objs.size+4) (s1.heap.objs.size+2) (s1.heap.objs.size+3) s1.heap.objs.size (s1.heap.objs.size+1):=by
     constructor<;>(intro h;have h':@Eq Nat _ _:=h;omega)
    refine⟨s1.heap.objs.size+4,[s1.heap.objs.size+4,s1.heap.objs.size+2,s1.heap.objs.size+3,s1.heap.objs.size,s1.heap.objs.size+1],_,_,H1,rfl,I1.kept (t':=s1.toks) k,wB S1 S2 N,⟨gz,gI,⟨_,_,gO⟩,g1,g2⟩,fun b hb=>?_,q⟩
    have le:@LE.le Nat _ s1.heap.objs.size b:=by
     simp only[List.mem_cons,List.not_mem_nil,or_false]at hb
     rcases hb with rfl | rfl | rfl | rfl | rfl
     ·exact Nat.le_add_right _ _
     ·exact Nat.le_add_right _ _
     ·exact Nat.le_add_right _ _
     ·exact Nat.le_refl _
     ·exact Nat.le_add_right _ _
    exact I1.fpOk le (I1.hok.fresh le)
   rcases q1 with⟨ga,gb,q⟩ | ⟨ga,gb,q⟩
   ·obtain⟨its,_,p1,_⟩:=I1.tuple ga
    obtain⟨its2,_,p2,_⟩:=I1.tuple gb
    exact yf (show s1.heap.IsTuple l its.toArray from p1) (show s1.heap.IsTuple m its2.toArray from p2) fun h' gz gI gO g1 g2 k=>mk (oh l _) (oh m _) h' gz gI gO g1 g2 k q
   ·obtain⟨its,_,p1,_⟩:=I1.list ga
    obtain⟨its2,_,p2,_⟩:=I1.list gb
    exact call_zip_2 p1.isList p2.isList fun h' gz gI gO g1 g2 _ k=>mk (qf l _) (qf m _) h' gz gI gO g1 g2 k q
theorem rd_zip{a:TA}{R:It->Hp->Prop}(h:a σ H fun vs H1=>lR K vs H1 R):tP K a σ H R:=h
theorem uk{a b:Addr}{xs ys:List V}{R:It->Hp->Prop}(ha:ag K H a xs)(hb:ag K H b ys)(h:R (eZ (cb K a) (cb K b)) H):lR K [.ref a,.ref b] H R:=⟨a,b,xs,ys,rfl,.inr ⟨ha,hb,h⟩⟩
theorem AN{a b:Addr}{xs ys:List V}{n:Nat}{js:List Nat}{g:TG}{tc:TT}{te:TE}(Pv:Nat->List V->Hp->Prop)(hz:xs.length<=sizeLine)(h0:Pv 0 [] H)(hl:∀i zs H,Pv i zs H->ah K H a xs/\ah K H b ys/\zs.length<=i)
  (hs:∀i u v zs H p H',xs[i]?=some u->ys[i]?=some v->Pv i zs H->Ext H H'->H' p=some (.tup [u,v])->H p=none->g (.ref p) (bA n js σ) H' fun σ2 H3=>tc σ2 H3 fun b H4=>if b=true then te σ2 H4 fun v H5=>Pv (i+1) (zs++[v]) H5 else Pv (i+1) zs H4)
  (hd:∀zs H p,Pv (min xs.length ys.length) zs H->H p=none->Q (.ref p) (upd H p (.lst zs))):ff (eZ (cG K a) (cG K b)) n js g tc te σ H Q:=by
 refine⟨fun i m zs H=>m=min xs.length ys.length-i/\i<=min xs.length ys.length/\Pv i zs H,⟨min xs.length ys.length,by simp,Nat.zero_le _,h0⟩,?_⟩
 rintro i m zs H ⟨rfl,hi,p⟩
 obtain⟨qa,qb,ql⟩:=hl i zs H p
 by_cases hlt:i<min xs.length ys.length
 ·have hx:i<xs.length:=by omega
  have hy:i<ys.length:=by omega
  refine .inr ⟨⟨⟨xs,xs[i],qa,by simp[hx]⟩,⟨ys,ys[i],qb,by simp[hy]⟩⟩,by omega,Pv (i+1),fun zs' H' p'=>⟨min xs.length ys.length-(i+1),by omega,rfl,hlt,p'⟩,fun x H' y=>?_⟩
  obtain⟨pp,u,v,rfl,hn,rfl,yu,yv⟩:=y
  exact hs i u v zs H pp _ (yu.2 xs qa) (yv.2 ys qb) p (bC hn) aO hn
 ·have e:i=min xs.length ys.length:=by omega
  refine .inl ⟨?_,fun p' hp=>hd zs H p' (e ▸ p) hp⟩
  by_cases h:xs.length<=i
  ·exact .inl ⟨xs,qa,h⟩
  ·exact .inr ⟨⟨xs,xs[i]'(by omega),qa,List.getElem?_eq_getElem (by omega)⟩,⟨ys,qb,by omega⟩⟩
theorem zx{a b:Addr}{xs ys:List V}{n:Nat}{js:List Nat}{g:TG}{tc:TT}{te:TE}(Pv:Nat->List V->Hp->Prop)(hz:xs.length<=sizeLine)(h0:Pv 0 [] H)(hl:∀i zs H,Pv i zs H->ag K H a xs/\ag K H b ys/\zs.length<=i)
  (hs:∀i u v zs H p H',xs[i]?=some u->ys[i]?=some v->Pv i zs H->Ext H H'->H' p=some (.tup [u,v])->H p=none->g (.ref p) (bA n js σ) H' fun σ2 H3=>tc σ2 H3 fun b H4=>if b=true then te σ2 H4 fun v H5=>Pv (i+1) (zs++[v]) H5 else Pv (i+1) zs H4)
  (hd:∀zs H p,Pv (min xs.length ys.length) zs H->H p=none->Q (.ref p) (upd H p (.lst zs))):ff (eZ (cb K a) (cb K b)) n js g tc te σ H Q:=by
 refine⟨fun i m zs H=>m=min xs.length ys.length-i/\i<=min xs.length ys.length/\Pv i zs H,⟨min xs.length ys.length,by simp,Nat.zero_le _,h0⟩,?_⟩
 rintro i m zs H ⟨rfl,hi,p⟩
 obtain⟨qa,qb,ql⟩:=hl i zs H p
 by_cases hlt:i<min xs.length ys.length
 ·have hx:i<xs.length:=by omega
  have hy:i<ys.length:=by omega
  refine .inr ⟨⟨⟨xs,xs[i],qa,by simp[hx]⟩,⟨ys,ys[i],qb,by simp[hy]⟩⟩,by omega,Pv (i+1),fun zs' H' p'=>⟨min xs.length ys.length-(i+1),by omega,rfl,hlt,p'⟩,fun x H' y=>?_⟩
  obtain⟨pp,u,v,rfl,hn,rfl,yu,yv⟩:=y
  exact hs i u v zs H pp _ (yu.2 xs qa) (yv.2 ys qb) p (bC hn) aO hn
 ·have e:i=min xs.length ys.length:=by omega
  refine .inl ⟨?_,fun p' hp=>hd zs H p' (e ▸ p) hp⟩
  by_cases h:xs.length<=i
  ·exact .inl ⟨xs,qa,h⟩
  ·exact .inr ⟨⟨xs,xs[i]'(by omega),qa,List.getElem?_eq_getElem (by omega)⟩,⟨ys,qb,by omega⟩⟩
end
end L2
set_option Elab.async false
set_option linter.all false
set_option maxRecDepth 100000
set_option maxHeartbeats 4000000
namespace L2
open PySem PySem.Spec PyProof.Rows
mutual
inductive LitE:Expr->TE->Prop
 | non {j pos}:LitE (.Constant .none j pos) (tC .non)
 | bl {b j pos}:LitE (.Constant (.bool b) j pos) (tC (.bl b))
 | int {i j pos}:LitE (.Constant (.int i) j pos) (tC (.int i))
 | str {x j pos}:LitE (.Constant (.str x) j pos) (tC (.str x))
 | tup {es ta k pos}:LitsE es ta->LitE (.Tuple es k pos) (ml ta)
inductive LitsE:List Expr->TA->Prop
 | nil:LitsE [] m8
 | cons {e te es ta}:LitE e te->LitsE es ta->LitsE (e::es) (mD te ta)
end
end L2
set_option Elab.async false
set_option linter.all false
set_option maxRecDepth 100000
set_option maxHeartbeats 4000000
namespace L2
open PySem PySem.Spec PyProof.Rows
section
variable {X:Cx} {pins:List (Addr×Obj)} {σ:St} {H:Hp} {s:Shared}
end
section
variable {X:Cx} {pins:List (Addr×Obj)} {σ:St} {H:Hp} {s:Shared}
end
end L2
set_option Elab.async false
set_option linter.all false
set_option maxRecDepth 100000
set_option maxHeartbeats 4000000
namespace L2
open PySem PySem.Spec PyProof.Rows
section
variable {P:Program} {w:World} {K:PySem.W.Frag} {mg:Str->Option Value} {base:Heap}
end
end L2
set_option Elab.async false
set_option linter.all false
set_option maxRecDepth 100000
set_option maxHeartbeats 4000000
namespace L2
open PySem PySem.Spec PyProof.Rows
section
variable {prog:Program} {w:World} {A:Around} {E:Value->Shared->Prop}
theorem sJ{it l:Addr}{ys:Array Value}(ne:l≠it):∀(n i:Nat) (s:Shared) (Q:List Value->Shared->Prop),s.heap.IsListIter it l i->s.heap.IsList l ys->i+n<=ys.size →
  (∀h',h'.IsListIter it l (i+n)->Heap.SameBut it s.heap h'->Q ((ys.toList.drop i).take n) { s with heap:=h' })->wpAny (model prog w) A (draw (.ref it) n) Q E s
 | 0,i,s,Q,gi,_,_,q=>by
  show wpAny _ _ (pure []) Q E s
  exact wpAny_pure (by simpa using q s.heap gi (Heap.SameBut.refl ..))
 | n+1,i,s,Q,gi,gl,le,q=>by
  have lt:i<ys.size:=by omega
  show wpAny _ _ (pyNext (Value.ref it) >>= _) Q E s
  refine wpAny_bind (wpAny_pyNext_list_item gi gl (x:=ys[i]) (by simp[lt]) fun k1 g1 b1=>?_)
  refine wpAny_bind (wpAny_holding (sJ ne n (i+1) _ _ g1 (gl.extBut b1.extBut ne) (by omega) fun k2 g2 b2=>wpAny_pure ?_))
  have e:ys.toList.drop i=ys[i]::ys.toList.drop (i+1):=by simp[List.drop_eq_getElem_cons,lt]
  have:=q k2 (by rw[show i+(n+1)=i+1+n by omega];exact g2) (b1.trans b2)
  rw[e,List.take_succ_cons]at this
  exact this
theorem wK{s:Shared}{l:Addr}{ys:Array Value}{Q:List Value->Shared->Prop}(hA:A.handled=none)(gl:s.heap.IsList l ys)
  (q:∀h',Heap.ExtBut s.heap.objs.size s.heap h'->Q ys.toList { s with heap:=h' }):wpAny (model prog w) A (unpackItems (.ref l) ys.size none) Q E s:=by
 have lt:l≠s.heap.objs.size:=by obtain⟨o,e,_⟩:=gl;exact Nat.ne_of_lt (Heap.lt_size e)
 unfold unpackItems
 refine wpAny_bind ?_
 unfold notIterableAtAll
 refine wpAny_bind (wpAny_specialOf gl.typeIs slot_list_iter.lookup ?_)
 refine wpAny_pure ?_
 simp only[Bool.false_eq_true,if_false]
 refine wpAny_bind (wpAny_holding (wpAny_pyIter_list gl ?_))
 refine wpAny_bind (wpAny_holding (sJ lt ys.size 0 _ _ ⟨_,Heap.get?_push_size _ rfl,rfl,rfl⟩ (gl.push _) (by omega) fun k1 g1 b1=>?_))
 rw[show List.take ys.size (List.drop 0 ys.toList)=ys.toList by rw[List.drop_zero];exact List.take_of_length_le (by simp),if_neg (by simp)]
 refine wpAny_bind (wpAny_holding (wpAny_pyNext_list_end hA g1 ((gl.push _).extBut b1.extBut lt) (by simp) fun k2 b2=>?_))
 simp only[Option.isSome_none,Bool.false_eq_true,if_false]
 exact wpAny_pure (q k2 fun b o nb e=>b2 b o nb (b1.extBut b o nb (Heap.get?_push_of_some _ e)))
theorem uf{s:Shared}{env:Env}{es:List Expr}{k:Nat}{pos:Pos}{l:Addr}{ys:Array Value}{Q:Unit->Shared->Prop}(hA:A.handled=none)(gl:s.heap.IsList l ys)(hn:(assignEach es env).length=ys.size)(hst:(assignEach es env).findIdx? (·.1)=none)
  (h:∀h',Heap.ExtBut s.heap.objs.size s.heap h'->wpAny (model prog w) A (assignInOrder ((assignEach es env).map (·.2)) ys.toList) Q E { s with heap:=h' }):wpAny (model prog w) A (assign (.Tuple es k pos) env (.ref l)) Q E s:=by
 rw[arm_assign_Tuple]
 refine wpAny_bind (wpAny_standAt ?_)
 unfold unpack
 rw[hn,hst]
 exact wpAny_bind (wpAny_holding (wK hA gl h))
end
section
variable {X:Cx} {pos:Pos}
def n9(K:PySem.W.Frag)(n:Nat)(t:cL):TG:=fun v σ H Q=>∃a xs,v=.ref a/\ag K H a xs/\xs.length=n/\t xs σ H Q
theorem zI{es:List Expr}{k:Nat}{t:cL}{n:Nat}(K:PySem.W.Frag)(hc:X.calm=true)(h:fG X es t)(hK:X.K=K:=by rfl)
  (hn:(assignEach es X.env).length=n:=by rfl) (hst:(assignEach es X.env).findIdx? (·.1)=none:=by rfl):PG X (.Tuple es k pos) (n9 K n t):=by
 subst hK
 intro pins s σ H v u Q I r hw
 obtain⟨a,xs,e1,hq,hl,hw⟩:=hw
 subst e1
 cases r
 obtain⟨its,rv,ht,hz⟩:=I.list hq
 refine uf (I.ok.hd hc) ht.isList (by simp[hn,←hl,rv.length]) hst fun h' hx=>?_
 have I1:Inv X pins σ H { s with heap:=h' }:=I.kept (t':=s.toks) fun b o e=>hx b o (Nat.ne_of_lt (Heap.lt_size e)) e
 exact h pins _ σ H xs _ Q I1 (by simpa using rv) hw
end
theorem uS{K:PySem.W.Frag}{σ:St}{H:Hp}{n:Nat}{g:cL}{a:Addr}{xs:List V}{R:St->Hp->Prop}(e:ag K H a xs)(hl:xs.length=n)(h:g xs σ H R):n9 K n g (.ref a) σ H R:=⟨a,xs,rfl,e,hl,h⟩
theorem rd_par{i j:Nat}{ta:TA}{D:Ends}{σ:St}{H:Hp}(h:ta σ H fun vs H1=>∃v w,vs=[v,w]/\D.nx ((σ.set i (some v)).set j (some w)) H1):nT i j ta D σ H:=h
theorem rd_par2{v w:V}{R:V->V->Prop}(h:R v w):∃a b,[v,w]=[a,b]/\R a b:=⟨v,w,rfl,h⟩
end L2
set_option Elab.async false
set_option linter.all false
set_option maxRecDepth 100000
set_option maxHeartbeats 4000000
namespace L2
open PySem PySem.Spec PyProof.Rows
section
variable {κ:Type} [DecidableEq κ]
def bZ(kvs:List (κ×V))(k:κ):Option V:=(kvs.find? fun kv=>decide (kv.1=k)).map (·.2)
theorem xN{p:κ×V}{r:List (κ×V)}{k:κ}(e:p.1=k):bZ (p::r) k=some p.2:=by simp[bZ,List.find?_cons,e]
theorem vg{p:κ×V}{r:List (κ×V)}{k:κ}(e:¬p.1=k):bZ (p::r) k=bZ r k:=by simp[bZ,List.find?_cons,e]
theorem ec.isSome_eq{o:Option V}{u:Option Value}(r:ec o u):o.isSome=u.isSome:=by
 cases o with
 | none=>cases u with
  | none=>rfl
  | some _=>exact(show False from r).elim
 | some _=>cases u with
  | none=>exact(show False from r).elim
  | some _=>rfl
theorem KV.val{kvs:List (κ×V)}{vs:List (κ×Value)}(r:KV kvs vs)(k:κ):ec (bZ kvs k) (valueAt vs k):=by
 unfold KV at r
 induction r with
 | nil=>exact True.intro
 | @cons p q ps qs h t ih=>
  obtain⟨h1,h2⟩:=h
  by_cases e:p.1=k
  ·have e':q.1=k:=h1.symm.trans e
   have b:valueAt (q::qs) k=some q.2:=by simp[valueAt,List.find?_cons,e']
   rw[xN e,b];exact h2
  ·have e':¬q.1=k:=fun z=>e (h1.trans z)
   have b:valueAt (q::qs) k=valueAt qs k:=by simp[valueAt,List.find?_cons,e']
   rw[vg e,b];exact ih
theorem KV.keys{kvs:List (κ×V)}{vs:List (κ×Value)}(r:KV kvs vs):kvs.map (·.1)=vs.map (·.1):=by
 unfold KV at r
 induction r with
 | nil=>rfl
 | cons h t ih=>rw[List.map_cons,List.map_cons,ih,h.1]
end
theorem mx{P:Program}{w:World}{k:Key}{u:Value}(r:RelV (kV k) u):(aK P w).is k u=true:=by
 cases k with
 | inl i=>obtain⟨t,e⟩:=(show ∃t,u=Value.int i t from r);subst e;exact y6 P w i t
 | inr x=>obtain⟨t,e⟩:=(show ∃t,u=Value.str x t from r);subst e;exact lO P w x t
theorem pj{P:Program}{w:World}:∀{ks:List Key} {us:List Value},Vals (ks.map kV) us->ItemsAre (aK P w) ks us
 | [],_,r=>by rw[List.map_nil]at r;cases r;exact .nil
 | k::ks,_,r=>by
  rw[List.map_cons]at r
  cases r with
  | cons h t=>exact .cons (mx h) (pj t)
section
variable {P:Program} {w:World} {H:Hp} {h:Heap} {a:Addr}
end
section
variable {X:Cx} {pins:List (Addr×Obj)} {σ:St} {H:Hp} {s:Shared} {a:Addr} {y v:V} {u r:Value} {o:Option V} {A:Around} {E:Value->Shared->Prop}
end
section
variable {X:Cx} {pins:List (Addr×Obj)} {σ:St} {H:Hp} {s:Shared} {a:Addr} {kvs:List (Key×V)} {k:Key} {u:Value} {A:Around} {E:Value->Shared->Prop}
end
def tR(i:Expr):Prop:=∀ov iv,subscripted i false ov iv=operate [ov,iv] (getItem ov iv)
theorem wq{prog:Program}{w:World}{A:Around}{E:Value->Shared->Prop}{s:Shared}{env:Env}{value slice:Expr}{pos:Pos}{T id:String}{Q:Value->Shared->Prop}
  (hl:typeLookup (.type T) "__getitem__" = pure (some (.builtin id))) (hs:tR slice)
  (h:wpAny (model prog w) A (eval value env) (fun o s₁=>wpAny (model prog w) A (eval slice env) (fun i s₂=>s₂.TypeIs o T/\wpAny (model prog w) A (getItem o i) Q E s₂) E s₁) E s) :
  wpAny (model prog w) A (eval (.Subscript value slice pos) env) Q E s:=by
 refine Subscript_ (wpAny_mono h (fun o s₁ h₁=>wpAny_mono h₁ (fun i s₂ h₂=>?_) fun _ _ x=>x) fun _ _ x=>x)
 obtain⟨hT,h₂⟩:=h₂
 unfold subscriptTail
 refine wpAny_bind ?_
 rw[getitemInPython_of_ne hT.not_modules]
 refine wpAny_bind (wpAny_specialOf hT hl ?_)
 have fin:wpAny (model prog w) A (subscripted slice false o i) (fun r s₃=>wpAny (model prog w) A (letTemporaryGo value o r >>= fun _=>pure r) Q E s₃) E s₂:=by
  rw[hs o i]
  exact wpAny_operating (wpAny_mono h₂ (fun r s₃ h₃=>wpAny_bind (wpAny_letTemporaryGo (wpAny_pure h₃))) fun _ _ x=>x)
 first
  | exact wpAny_pure (wpAny_bind fin)
  | exact wpAny_bind (wpAny_pure (wpAny_bind fin))
  | exact wpAny_bind fin
section
variable {X:Cx} {o i e value:Expr} {pos pos' tpos:Pos} {td ty tv:TE}
end
section
variable {X:Cx} {pos:Pos}
end
section
variable {X:Cx} {pins:List (Addr×Obj)} {σ:St} {H:Hp} {s:Shared} {a:Addr} {y d:V} {u r:Value} {o:Option V} {A:Around} {E:Value->Shared->Prop}
end
section
variable {X:Cx} {o e f:Expr} {apos cpos:Pos} {td ty tx:TE}
end
section
variable {X:Cx} {pins:List (Addr×Obj)} {σ:St} {H:Hp} {s:Shared} {a:Addr} {kvs:List (Key×V)} {A:Around} {E:Value->Shared->Prop}
end
section
variable {X:Cx} {pins:List (Addr×Obj)} {σ:St} {H:Hp} {s:Shared} {a:Addr} {y:V} {u:Value} {A:Around} {E:Value->Shared->Prop}
end
end L2
namespace L2
open PySem PySem.Spec PyProof.Rows
section
variable {X:Cx}
end
section
variable {κ:Type} [DecidableEq κ]
end
end L2
set_option Elab.async false
set_option linter.all false
set_option maxRecDepth 100000
set_option maxHeartbeats 4000000
namespace L2
open PySem PySem.Spec PyProof.Rows
section
variable {prog:Program} {w:World} {A:Around} {E:Value->Shared->Prop} {s:Shared} {dd:Option Addr}
end
section
variable {M:Model} {A:Around} {E:Value->Shared->Prop} {s:Shared} {dd:Option Addr}
end
end L2
set_option Elab.async false
set_option linter.all false
set_option maxRecDepth 100000
set_option maxHeartbeats 4000000
namespace L2
open PySem PySem.Spec PyProof.Rows
section
variable {P:Program} {w:World} {K:PySem.W.Frag} {mg:Str->Option Value} {base:Heap} {N:List Str} {qual:Str} {scope:Scope} {f:Addr} {cd:Value} {A:Around} {outer:List Env} {s₀:Shared} {H₀:Hp} {E:XK}
end
end L2
set_option Elab.async false
set_option linter.all false
set_option maxRecDepth 100000
set_option maxHeartbeats 4000000
namespace L2
open PySem PySem.Spec PyProof.Rows
section
variable {prog:Program} {w:World} {A:Around} {E:Value->Shared->Prop} {K:PySem.W.Frag} {x D:Addr} {ox:Obj} {s:Shared}
end
section
variable {X:Cx} {pins:List (Addr×Obj)} {σ:St} {H:Hp} {s:Shared} {x:Addr} {oe:Obj}
end
section
variable {P:Program} {w:World} {K:PySem.W.Frag} {mg:Str->Option Value} {base:Heap} {N:List Str} {qual:Str} {scope:Scope} {f:Addr} {cd:Value} {A:Around} {outer:List Env} {s₀:Shared} {H₀:Hp} {E:XK}
end
section
end
section
variable {P:Program} {w:World} {K:PySem.W.Frag} {mg:Str->Option Value} {base:Heap} {N:List Str} {qual:Str} {scope:Scope} {f:Addr} {cd:Value} {A:Around} {outer:List Env} {s₀:Shared} {H₀:Hp} {E:XK}
end
section
variable {K:PySem.W.Frag} {D:Ends} {σ:St} {H:Hp} {Q:VK} {E:XK} {C x:Addr}
end
section
variable {K:PySem.W.Frag} {D:Ends} {σ:St} {H:Hp} {E:St->XK} {C:Addr} {i:Nat} {t u tb:Ends->(St->XK)->St->Hp->Prop} {ts:Addr->Addr->Option Addr->TS} {c:TT}
end
end L2
set_option linter.all false
set_option maxRecDepth 100000
namespace Tb
open PySem
def nx(m i:Nat):Nat:=(i*5+1) % (m+1)
def it(m:Nat):Nat->Nat->Nat
 | 0,i=>i
 | n+1,i=>it m n (nx m i)
theorem fQ(m:Nat):∀a b i,it m (a+b) i=it m b (it m a i)
 | 0,b,i=>by rw[Nat.zero_add];rfl
 | a+1,b,i=>by rw[Nat.succ_add];exact fQ m a b (nx m i)
theorem vx(m n i:Nat):it m (n+1) i=nx m (it m n i):=by rw[fQ m n 1 i];rfl
def kJ(m:Nat):Nat->Nat->List Nat
 | 0,_=>[]
 | n+1,i=>i::kJ m n (nx m i)
theorem nS{m:Nat}:∀{n i j:Nat},j∈kJ m n i->∃k,k<n/\it m k i=j
 | 0,_,_,h=>by cases h
 | n+1,i,j,h=>by
  rcases List.mem_cons.mp h with rfl | h
  ·exact⟨0,Nat.succ_pos _,rfl⟩
  ·obtain⟨k,hk,e⟩:=nS h
   exact⟨k+1,Nat.succ_lt_succ hk,e⟩
def good(m:Nat):Bool:=(List.range (m+1)).all (fun j=>(kJ m (m+1) 0).contains j) && it m (m+1) 0 == 0
theorem uZ:good 7=true:=by decide +kernel
theorem vj:good 31=true:=by decide +kernel
theorem uu:good 127=true:=by decide +kernel
theorem xD:good 511=true:=by decide +kernel
def Full(N:Nat):Prop:=(∀j,j<N->∃k,k<N/\it (N-1) k 0=j)/\it (N-1) N 0=0
theorem iq{m:Nat}(h:good m=true):Full (m+1):=by
 unfold Tb.good at h
 rw[Bool.and_eq_true,List.all_eq_true]at h
 refine⟨fun j hj=>?_,eq_of_beq h.2⟩
 have h1:=h.1 j (List.mem_range.mpr hj)
 rw[List.contains_iff_mem]at h1
 exact nS h1
def co:Nat->Nat
 | 0=>0
 | n+1=>5*co n+1
theorem rL(m:Nat):∀n i,it m n i % (m+1)=(5 ^ n*i+co n) % (m+1)
 | 0,i=>by simp[it,co]
 | n+1,i=>by
  rw[vx]
  unfold nx
  rw[Nat.mod_mod,Nat.add_mod,Nat.mul_mod,rL m n i,←Nat.mul_mod,←Nat.add_mod]
  congr 1
  show(5 ^ n*i+co n)*5+1=5 ^ (n+1)*i+(5*co n+1)
  rw[Nat.pow_succ,Nat.add_mul]
  have:5 ^ n*i*5=5 ^ n*5*i:=by rw[Nat.mul_assoc,Nat.mul_comm i 5,Nat.mul_assoc]
  omega
theorem m9(m:Nat):∀n i,i<=m->it m n i<=m
 | 0,i,h=>h
 | n+1,i,h=>by
  refine m9 m n _ ?_
  unfold nx
  have:=Nat.mod_lt (i*5+1) (show 0<m+1 by omega)
  omega
theorem oK{m n i:Nat}(h:i<=m):it m n i=(5 ^ n*i+co n) % (m+1):=by
 rw[←rL,Nat.mod_eq_of_lt (Nat.lt_succ_of_le (m9 m n i h))]
theorem xE(n:Nat):5 ^ n % 2=1:=by
 induction n with
 | zero=>rfl
 | succ n ih=>rw[Nat.pow_succ,Nat.mul_mod,ih]
theorem rq:∀n,4*co n+1=5 ^ n
 | 0=>rfl
 | n+1=>by
  have:=rq n
  show 4*(5*co n+1)+1=5 ^ (n+1)
  rw[Nat.pow_succ]
  omega
theorem xf{a N:Nat}(h:a % 2=1)(r:Nat):(a*N+r) % (2*N)=(N+r) % (2*N):=by
 obtain⟨c,rfl⟩:∃c,a=2*c+1:=⟨a / 2,by omega⟩
 have:(2*c+1)*N+r=(N+r)+2*N*c:=by
  rw[Nat.add_mul,Nat.one_mul,Nat.mul_assoc,Nat.mul_comm c N,←Nat.mul_assoc]
  omega
 rw[this,Nat.add_mul_mod_self_left]
theorem two{x N:Nat}(h:x<2*N)(hN:0<N):x=x % N\/x=N+x % N:=by
 rcases Nat.lt_or_ge x N with a | a
 ·exact .inl (Nat.mod_eq_of_lt a).symm
 ·refine .inr ?_
  rw[Nat.mod_eq_sub_mod a,Nat.mod_eq_of_lt (by omega)]
  omega
theorem Full.double{N:Nat}(hN:0<N)(h:Full N)(hc:co N % (2*N)=N):Full (2*N):=by
 obtain⟨h1,h2⟩:=h
 have hm:2*N-1+1=2*N:=by omega
 have hm1:N-1+1=N:=by omega
 have val:∀n i,i<=2*N-1->it (2*N-1) n i=(5 ^ n*i+co n) % (2*N):=fun n i hi=>by rw[oK hi,hm]
 have eN:it (2*N-1) N 0=N:=by rw[val N 0 (by omega),Nat.mul_zero,Nat.zero_add,hc]
 have up:∀k,it (2*N-1) (N+k) 0=(N+it (2*N-1) k 0) % (2*N):=fun k=>by
  rw[fQ,eN,val k N (by omega),val k 0 (by omega),Nat.mul_zero,Nat.zero_add,xf (xE k)]
  rw[Nat.add_mod_mod]
 refine⟨fun j hj=>?_,?_⟩
 ·obtain⟨k,hk,ek⟩:=h1 (j % N) (Nat.mod_lt _ hN)
  have e1:it (2*N-1) k 0 % N=j % N:=by
   rw[val k 0 (by omega),Nat.mul_zero,Nat.zero_add,Nat.mod_mul_left_mod,←ek,oK (Nat.zero_le _),hm1,Nat.mul_zero,Nat.zero_add]
  have e2:it (2*N-1) k 0<2*N:=by
   have:=m9 (2*N-1) k 0 (Nat.zero_le _)
   omega
  by_cases e:it (2*N-1) k 0=j
  ·exact⟨k,by omega,e⟩
  ·refine⟨N+k,by omega,?_⟩
   rw[up k]
   have t1:=two hj hN
   have t2:=two e2 hN
   rw[e1]at t2
   generalize it (2*N-1) k 0=x at *
   generalize j % N=r at *
   rcases t1 with a | a<;>rcases t2 with b | b
   ·omega
   ·have:N+x=j+2*N:=by omega
    rw[this,Nat.add_mod_right,Nat.mod_eq_of_lt hj]
   ·have:N+x=j:=by omega
    rw[this,Nat.mod_eq_of_lt hj]
   ·omega
 ·rw[show 2*N=N+N by omega,show N+N-1=2*N-1 by omega,up N,eN,show N+N=2*N by omega,Nat.mod_self]
theorem kA{N c:Nat}(h:4*c+1=5 ^ N):co N=c:=by
 have:=rq N
 omega
theorem yh:Full 8:=iq uZ
theorem zM:Full 32:=iq vj
theorem wM:Full 128:=iq uu
theorem rG:Full 512:=iq xD
theorem xm:co 512 % (2*512)=512:=by rw[kA (c:=(5 ^ 512-1) / 4) (by decide +kernel)];decide +kernel
theorem u3:co 1024 % (2*1024)=1024:=by rw[kA (c:=(5 ^ 1024-1) / 4) (by decide +kernel)];decide +kernel
theorem xn:co 2048 % (2*2048)=2048:=by rw[kA (c:=(5 ^ 2048-1) / 4) (by decide +kernel)];decide +kernel
theorem Au:co 4096 % (2*4096)=4096:=by rw[kA (c:=(5 ^ 4096-1) / 4) (by decide +kernel)];decide +kernel
theorem qI:Full 2048:=Full.double (N:=1024) (by decide) (rG.double (by decide) xm) u3
theorem yj:Full 8192:=Full.double (N:=4096) (by decide) (qI.double (by decide) xn) Au
def Mask(m:Nat):Prop:=m=7\/m=31\/m=127\/m=511\/m=2047\/m=8191
theorem Mask.full{m:Nat}(h:Mask m):Full (m+1):=by
 rcases h with rfl | rfl | rfl | rfl | rfl | rfl
 ·exact yh
 ·exact zM
 ·exact wM
 ·exact rG
 ·exact qI
 ·exact yj
theorem qt{m:Nat}(h:Mask m){j:Nat}(hj:j<=m):∃k,k<=m/\it m k 0=j:=by
 obtain⟨k,hk,e⟩:=h.full.1 j (by omega)
 exact⟨k,by omega,e⟩
theorem round0{m:Nat}(h:Mask m):it m (m+1) 0=0:=h.full.2
theorem reach{m:Nat}(h:Mask m){i j:Nat}(hi:i<=m)(hj:j<=m):∃k,k<=m/\it m k i=j:=by
 obtain⟨a,ha,ea⟩:=qt h hi
 obtain⟨b,hb,eb⟩:=qt h hj
 rcases Nat.lt_or_ge b a with hlt | hge
 ·refine⟨m+1-a+b,by omega,?_⟩
  rw[←ea,←fQ,show a+(m+1-a+b)=(m+1)+b by omega,fQ,round0 h]
  exact eb
 ·refine⟨b-a,by omega,?_⟩
  rw[←ea,←fQ,show a+(b-a)=b by omega]
  exact eb
def lp(m:Nat):Nat->Nat×Nat->Nat×Nat
 | 0,s=>s
 | n+1,s=>lp m n (SetTable.leap m s.1 s.2)
theorem lZ(m:Nat):∀n s,lp m (n+1) s=SetTable.leap m (lp m n s).1 (lp m n s).2
 | 0,s=>rfl
 | n+1,s=>by
  show lp m (n+1) (SetTable.leap m s.1 s.2)=_
  rw[lZ m n]
  rfl
theorem nv(m:Nat):∀n s,(lp m n s).2=s.2 / 32 ^ n
 | 0,s=>by simp[lp]
 | n+1,s=>by
  rw[lZ m n s]
  show(lp m n s).2 / 32=_
  rw[nv m n s,Nat.div_div_eq_div_mul,Nat.pow_succ]
theorem pS(m:Nat):∀n s,s.1<=m->(lp m n s).1<=m
 | 0,s,h=>h
 | n+1,s,h=>by
  rw[lZ m n s]
  show(_ % (m+1))<=m
  have:=Nat.mod_lt ((lp m n s).1*5+1+(lp m n s).2 / 32) (show 0<m+1 by omega)
  omega
theorem tF(m:Nat):∀n i,(lp m n (i,0)).1=it m n i
 | 0,i=>rfl
 | n+1,i=>by
  show(lp m n (SetTable.leap m i 0)).1=it m n (nx m i)
  have:SetTable.leap m i 0=(nx m i,0):=rfl
  rw[this]
  exact tF m n _
theorem n6(m:Nat):∀a b s,lp m (a+b) s=lp m b (lp m a s)
 | 0,b,s=>by rw[Nat.zero_add];rfl
 | a+1,b,s=>by rw[Nat.succ_add];exact n6 m a b _
theorem sT{m:Nat}(h:Mask m){i p j:Nat}(hi:i<=m)(hp:p<2 ^ 64)(hj:j<=m):∃n,n<=m+13/\(lp m n (i,p)).1=j:=by
 have hz:(lp m 13 (i,p)).2=0:=by
  rw[nv]
  exact Nat.div_eq_of_lt (Nat.lt_of_lt_of_le hp (by decide))
 obtain⟨k,hk,e⟩:=reach h (pS m 13 (i,p) hi) hj
 refine⟨13+k,by omega,?_⟩
 rw[n6]
 have:lp m 13 (i,p)=((lp m 13 (i,p)).1,0):=by rw[←hz]
 rw[this,tF]
 exact e
theorem sI(h:Int):SetTable.bits h<2 ^ 64:=by
 unfold SetTable.bits
 have h1:=Int.emod_lt_of_pos h (show(0:Int)<2 ^ 64 by decide)
 have h2:=Int.emod_nonneg h (show(2:Int) ^ 64≠0 by decide)
 omega
def az(t:SetTable):Nat->SetTable.Probe->SetTable.Probe
 | 0,p=>p
 | n+1,p=>az t n (t.advance p)
theorem eS(t:SetTable):∀a b p,az t (a+b) p=az t b (az t a p)
 | 0,b,p=>by rw[Nat.zero_add];rfl
 | a+1,b,p=>by rw[Nat.succ_add];exact eS t a b _
def at_(t:SetTable)(s:Nat×Nat):SetTable.Probe:={ j:=s.1,more:=SetTable.runEnd t.mask s.1-s.1,i:=s.1,perturb:=s.2,dummy:=none }
theorem kK(t:SetTable):∀(r:Nat) (p:SetTable.Probe),p.more=r->az t (r+1) p={ p with j:=(SetTable.leap t.mask p.i p.perturb).1,more:=SetTable.runEnd t.mask (SetTable.leap t.mask p.i p.perturb).1-(SetTable.leap t.mask p.i p.perturb).1,i:=(SetTable.leap t.mask p.i p.perturb).1,perturb:=(SetTable.leap t.mask p.i p.perturb).2 }
 | 0,p,h=>by
  show t.advance p=_
  unfold SetTable.advance
  rw[if_neg (by omega)]
 | r+1,p,h=>by
  show az t (r+1) (t.advance p)=_
  have e:t.advance p={ p with j:=p.j+1,more:=p.more-1 }:=by
   unfold SetTable.advance
   rw[if_pos (by omega)]
  rw[e,kK t r _ (by show p.more-1=r;omega)]
theorem y8(t:SetTable)(s:Nat×Nat):∃k,k<=10/\az t k (at_ t s)=at_ t (SetTable.leap t.mask s.1 s.2):=by
 refine⟨SetTable.runEnd t.mask s.1-s.1+1,?_,?_⟩
 ·unfold SetTable.runEnd
  split<;>omega
 ·exact(kK t (SetTable.runEnd t.mask s.1-s.1) (at_ t s) rfl).trans rfl
theorem nL(t:SetTable):∀(n:Nat) (s:Nat×Nat),∃k,k<=10*n/\az t k (at_ t s)=at_ t (lp t.mask n s)
 | 0,s=>⟨0,Nat.le_refl _,rfl⟩
 | n+1,s=>by
  obtain⟨k1,h1,e1⟩:=y8 t s
  obtain⟨k2,h2,e2⟩:=nL t n (SetTable.leap t.mask s.1 s.2)
  refine⟨k1+k2,by omega,?_⟩
  rw[eS,e1,e2]
  rfl
theorem vw(t:SetTable)(h:Int):t.probeStart h=at_ t (SetTable.bits h % (t.mask+1),SetTable.bits h):=rfl
theorem u7{t:SetTable}(hm:Mask t.mask){j:Nat}(hj:j<=t.mask)(h:Int):∃K,K<10*SetTable.turns t.mask/\(az t K (t.probeStart h)).j=j:=by
 have h1:SetTable.bits h % (t.mask+1)<=t.mask:=by
  have:=Nat.mod_lt (SetTable.bits h) (show 0<t.mask+1 by omega)
  omega
 obtain⟨n,hn,e⟩:=sT hm h1 (sI h) hj
 obtain⟨K,hK,eK⟩:=nL t n (SetTable.bits h % (t.mask+1),SetTable.bits h)
 refine⟨K,by unfold SetTable.turns;omega,?_⟩
 rw[vw,eK]
 exact e
theorem iQ{t:SetTable}{j i:Nat}(h:t.slot j=.live i):t.place[i]?=some j:=by
 unfold SetTable.slot at h
 dsimp only at h
 split at h
 ·rename_i hq
  cases h
  exact eq_of_beq hq
 ·split at h<;>cases h
theorem nu(j:Nat):SetTable.has #[] j=false:=rfl
theorem lQ{t:SetTable}(hd:t.dummies = #[])(j:Nat):t.slot j=.empty\/∃i,t.slot j=.live i:=by
 unfold SetTable.slot
 dsimp only
 split
 ·exact .inr ⟨_,rfl⟩
 ·rw[hd,nu]
  exact .inl rfl
theorem rX:∀(n:Nat) (l:List Nat),(∀j,j<n->j∈l)->n<=l.length
 | 0,l,_=>Nat.zero_le _
 | n+1,l,h=>by
  have hn:=h n (Nat.lt_succ_self n)
  have:=rX n (l.erase n) fun j hj=>(List.mem_erase_of_ne (by omega)).mpr (h j (by omega))
  rw[List.length_erase_of_mem hn]at this
  have:0<l.length:=List.length_pos_of_mem hn
  omega
theorem xP{t:SetTable}(hd:t.dummies = #[])(h:t.place.size<=t.mask):∃j,j<=t.mask/\t.slot j=.empty:=by
 rcases Classical.em (∃j,j<=t.mask/\t.slot j=.empty)with h1 | h1
 ·exact h1
 ·exfalso
  have:=rX (t.mask+1) t.place.toList fun j hj=>by
   rcases lQ hd j with h2 | ⟨i,h2⟩
   ·exact absurd ⟨j,by omega,h2⟩ h1
   ·have:=iQ h2
    rw[←Array.getElem?_toList]at this
    exact List.mem_of_getElem? this
  rw[Array.length_toList]at this
  omega
theorem ic(t:SetTable):∀n p,(az t n p).dummy=p.dummy
 | 0,p=>rfl
 | n+1,p=>by
  show(az t n (t.advance p)).dummy=_
  rw[ic t n]
  unfold SetTable.advance
  split<;>rfl
theorem oy{α:Type}:∀{l:List (Option α)} {j:Nat} {k:α},l[j]?=some none->((l.set j (some k)).filterMap id).Perm (k::l.filterMap id)
 | [],j,k,h=>by cases h
 | x::l,0,k,h=>by
  have:x=none:=by simpa using h
  subst this
  exact .refl _
 | x::l,j+1,k,h=>by
  have h':l[j]?=some none:=by simpa using h
  have ih:=oy (k:=k) h'
  cases x with
  | none=>exact ih
  | some y=>exact(List.Perm.cons y ih).trans (.swap _ _ _)
theorem tY{α:Type}(l:List (Option α)):(l.filterMap id).length+(l.filter (·.isNone)).length=l.length:=by
 induction l with
 | nil=>rfl
 | cons x l ih=>
  cases x<;>simp at ih ⊢<;>omega
theorem uV{m:Nat}(hm:Mask m)(owner:Array (Option Nat))(hz:owner.size=m+1){j:Nat}(hj:owner[j]?=some none):∀(fuel n i p:Nat),i<=m->n<fuel->(lp m n (i,p)).1=j →
  ∃j',SetTable.layClean.free m owner fuel i p=some j'/\owner[j']?=some none:=by
 intro fuel
 induction fuel with
 | zero=>intro n i p _ h;omega
 | succ fuel ih=>
  intro n i p hi hn he
  unfold SetTable.layClean.free
  split
  ·rename_i k hk
   have h1:=List.find?_some hk
   have h2:=List.mem_range.mp (List.mem_of_find?_eq_some hk)
   refine⟨i+k,rfl,?_⟩
   have hb:i+k<owner.size:=by
    rw[hz]
    unfold SetTable.runEnd at h2
    split at h2<;>omega
   rw[Array.getElem?_eq_getElem hb]
   have:owner.getD (i+k) (some 0)=owner[i+k]:=by
    rw[Array.getD_eq_getD_getElem?,Array.getElem?_eq_getElem hb]
    rfl
   rw[this]at h1
   congr 1
   cases hq:owner[i+k]with
   | none=>rfl
   | some y=>rw[hq]at h1;cases h1
  ·rename_i hk
   cases n with
   | zero=>
    exfalso
    have h0:i=j:=he
    have:=List.find?_eq_none.mp hk 0 (List.mem_range.mpr (by unfold SetTable.runEnd;split<;>omega))
    rw[Nat.add_zero,h0,Array.getD_eq_getD_getElem?,hj]at this
    simp at this
   | succ n=>
    have:=pS m 1 (i,p) hi
    exact ih n (SetTable.leap m i p).1 (SetTable.leap m i p).2 this (by omega) he
def kD(mask:Nat)(acc:Option (Array (Option Nat)×Nat))(h:Int):Option (Array (Option Nat)×Nat):=do
 let (owner,k) ←acc
 let j ←SetTable.layClean.free mask owner (SetTable.turns mask) (SetTable.bits h % (mask+1)) (SetTable.bits h)
 pure (owner.setIfInBounds j (some k),k+1)
theorem v9{l:List (Option Nat)}(h:(l.filterMap id).length<l.length):∃j:Nat,l[j]?=some none:=by
 have:=tY l
 have h1:0<(l.filter (·.isNone)).length:=by omega
 obtain⟨x,hx⟩:=List.exists_mem_of_length_pos h1
 obtain⟨hx1,hx2⟩:=List.mem_filter.mp hx
 have:x=none:=by cases x<;>simp_all
 subst this
 obtain⟨j,hj⟩:=List.getElem?_of_mem hx1
 exact⟨j,hj⟩
theorem lG{α:Type}(xs:Array α)(p:Nat)(x:α):(SetTable.insertAt xs p x).size=xs.size+1:=by
 unfold SetTable.insertAt
 simp
 omega
theorem wJ{α:Type}{xs:Array α}{p:Nat}{x e:α}(h:e∈(SetTable.insertAt xs p x).toList):e=x\/e∈xs.toList:=by
 unfold SetTable.insertAt at h
 simp only[Array.toList_append,Array.toList_push,Array.toList_extract,List.mem_append,List.mem_singleton]at h
 rcases h with(h | h) | h
 ·exact .inr (List.mem_of_mem_take (by simpa using h))
 ·exact .inl h
 ·exact .inr (List.mem_of_mem_drop (List.mem_of_mem_take h))
theorem zS:SetTable.sizeAbove 20-1=31:=by decide +kernel
theorem uB:SetTable.sizeAbove 76-1=127:=by decide +kernel
theorem AG:SetTable.sizeAbove 308-1=511:=by decide +kernel
theorem vE:SetTable.sizeAbove 1228-1=2047:=by decide +kernel
theorem AF:SetTable.sizeAbove 4916-1=8191:=by decide +kernel
end Tb
set_option linter.all false
set_option maxRecDepth 100000
namespace Tb
open PySem
theorem least{P:Nat->Prop}:∀n,P n->∃m,m<=n/\P m/\∀k,k<m->¬P k:=by
 intro n
 induction n using Nat.strongRecOn with
 | ind n ih=>
  intro h
  rcases Classical.em (∃k,k<n/\P k)with⟨k,hk,pk⟩ | hn
  ·obtain⟨m,h1,h2,h3⟩:=ih k hk pk
   exact⟨m,by omega,h2,h3⟩
  ·exact⟨n,Nat.le_refl _,h,fun k hk pk=>hn ⟨k,hk,pk⟩⟩
theorem kR{xs:Array Nat}(h:xs.toList.Pairwise (· < ·)){a b x y:Nat}(ha:xs[a]?=some x)(hb:xs[b]?=some y)(hab:a<b):x<y:=by
 obtain⟨h1,e1⟩:=Array.getElem?_eq_some_iff.mp ha
 obtain⟨h2,e2⟩:=Array.getElem?_eq_some_iff.mp hb
 have:=List.pairwise_iff_getElem.mp h a b (by simpa using h1) (by simpa using h2) hab
 simp only[Array.getElem_toList]at this
 rw[e1,e2]at this
 exact this
theorem kM(xs:Array Nat)(j:Nat)(hs:xs.toList.Pairwise (· < ·)):∀fuel lo hi,hi-lo<=fuel->lo<=hi->hi<=xs.size->(∀k x,k<lo->xs[k]?=some x->x<j)->(∀k x,hi<=k->xs[k]?=some x->j<=x) →
  SetTable.below.go xs j fuel lo hi<=xs.size/\(∀k x,k<SetTable.below.go xs j fuel lo hi->xs[k]?=some x->x<j)/\(∀k x,SetTable.below.go xs j fuel lo hi<=k->xs[k]?=some x->j<=x)
 | 0,lo,hi,h1,h2,h3,h4,h5=>by
  have:lo=hi:=by omega
  subst this
  exact⟨h3,h4,h5⟩
 | fuel+1,lo,hi,h1,h2,h3,h4,h5=>by
  unfold SetTable.below.go
  by_cases hlt:lo<hi
  ·rw[if_pos hlt]
   dsimp only
   have hm:(lo+hi) / 2<xs.size:=by omega
   have em:xs[(lo+hi) / 2]?=some xs[(lo+hi) / 2]:=getElem?_pos xs _ hm
   have eg:xs.getD ((lo+hi) / 2) j=xs[(lo+hi) / 2]:=by
    rw[Array.getD_eq_getD_getElem?,em]
    rfl
   rw[eg]
   by_cases hc:xs[(lo+hi) / 2]<j
   ·rw[if_pos hc]
    refine kM xs j hs fuel _ _ (by omega) (by omega) h3 (fun k x hk ek=>?_) h5
    rcases Nat.lt_or_ge k ((lo+hi) / 2)with a | a
    ·have:=kR hs ek em a
     omega
    ·have:k=(lo+hi) / 2:=by omega
     subst this
     rw[em]at ek
     cases ek
     exact hc
   ·rw[if_neg hc]
    refine kM xs j hs fuel _ _ (by omega) (by omega) (by omega) h4 (fun k x hk ek=>?_)
    rcases Nat.lt_or_ge ((lo+hi) / 2) k with a | a
    ·have:=kR hs em ek a
     omega
    ·have:k=(lo+hi) / 2:=by omega
     subst this
     rw[em]at ek
     cases ek
     omega
  ·rw[if_neg hlt]
   have:lo=hi:=by omega
   subst this
   exact⟨h3,h4,h5⟩
theorem lW{xs:Array Nat}(hs:xs.toList.Pairwise (· < ·))(j:Nat):SetTable.below xs j<=xs.size/\(∀k x,k<SetTable.below xs j->xs[k]?=some x->x<j)/\(∀k x,SetTable.below xs j<=k->xs[k]?=some x->j<=x):=
 kM xs j hs xs.size 0 xs.size (by omega) (Nat.zero_le _) (Nat.le_refl _) (fun k x hk=>by omega) (fun k x hk e=>by
  have:=(Array.getElem?_eq_some_iff.mp e).1
  omega)
theorem slot_mem{t:SetTable}(hs:t.place.toList.Pairwise (· < ·)){j i:Nat}(h:t.place[i]?=some j):t.slot j=.live i:=by
 obtain⟨h1,h2,h3⟩:=lW hs j
 have e:SetTable.below t.place j=i:=by
  have hi:=(Array.getElem?_eq_some_iff.mp h).1
  rcases Nat.lt_or_ge i (SetTable.below t.place j)with a | a
  ·have:=h2 i j a h
   omega
  ·rcases Nat.lt_or_ge (SetTable.below t.place j) i with b | b
   ·have eb:t.place[SetTable.below t.place j]?=some t.place[SetTable.below t.place j]:=getElem?_pos t.place _ (by omega)
    have c1:=h3 _ _ (Nat.le_refl _) eb
    have c2:=kR hs eb h b
    omega
   ·omega
 unfold SetTable.slot
 dsimp only
 rw[e,h,if_pos (beq_self_eq_true _)]
theorem fS{α:Type}(xs:Array α)(p:Nat)(x:α):(SetTable.insertAt xs p x).toList=xs.toList.take p++(x::xs.toList.drop p):=by
 unfold SetTable.insertAt
 rw[Array.toList_append,Array.toList_push,Array.toList_extract,Array.toList_extract]
 show List.take (p-0) (xs.toList.drop 0)++[x]++List.take (xs.size-p) (xs.toList.drop p)=_
 rw[List.take_of_length_le (l:=xs.toList.drop p) (by rw[List.length_drop,Array.length_toList];exact Nat.le_refl _),List.append_assoc]
 rfl
theorem oV{α:Type}(xs:Array α){p:Nat}(hp:p<=xs.size)(x:α)(i:Nat):(SetTable.insertAt xs p x)[i]?=if i<p then xs[i]? else if i=p then some x else xs[i-1]?:=by
 rw[←Array.getElem?_toList,fS,List.getElem?_append,List.length_take,Array.length_toList,show min p xs.size=p by omega]
 by_cases h:i<p
 ·rw[if_pos h,if_pos h,List.getElem?_take_of_lt h,Array.getElem?_toList]
 ·rw[if_neg h,if_neg h]
  by_cases e:i=p
  ·rw[if_pos e,e,Nat.sub_self]
   rfl
  ·rw[if_neg e]
   obtain⟨k,rfl⟩:∃k,i=p+(k+1):=⟨i-p-1,by omega⟩
   rw[show p+(k+1)-p=k+1 by omega,List.getElem?_cons_succ,List.getElem?_drop,Array.getElem?_toList]
   congr 1
theorem vb{xs:Array Nat}(hs:xs.toList.Pairwise (· < ·)){j:Nat}(hn:j∉xs.toList):(SetTable.insertAt xs (SetTable.below xs j) j).toList.Pairwise (· < ·):=by
 obtain⟨h1,h2,h3⟩:=lW hs j
 rw[fS]
 have hs':=hs
 rw[←List.take_append_drop (SetTable.below xs j) xs.toList,List.pairwise_append]at hs'
 rw[List.pairwise_append,List.pairwise_cons]
 refine⟨hs'.1,⟨fun y hy=>?_,hs'.2.1⟩,fun x hx y hy=>?_⟩
 ·obtain⟨k,hk,e⟩:=List.mem_iff_getElem.mp hy
  rw[List.length_drop,Array.length_toList]at hk
  rw[List.getElem_drop,Array.getElem_toList]at e
  have ex:xs[SetTable.below xs j+k]?=some y:=by
   rw[getElem?_pos xs _ (by omega),e]
  have:=h3 _ _ (by omega) ex
  have ne:y≠j:=fun z=>hn (by rw[←z];exact Array.mem_toList_iff.mpr (Array.mem_of_getElem? ex))
  omega
 ·have hxj:x<j:=by
   obtain⟨k,hk,e⟩:=List.mem_iff_getElem.mp hx
   rw[List.length_take,Array.length_toList]at hk
   rw[List.getElem_take,Array.getElem_toList]at e
   exact h2 k x (by omega) (by rw[getElem?_pos xs _ (by omega),e])
  rcases List.mem_cons.mp hy with rfl | hy
  ·exact hxj
  ·exact hs'.2.2 x hx y hy
abbrev tM(m:Nat):SetTable:={ mask:=m,place:=#[],dummies:=#[],finger:=0,led:=false,moves:=0,plain:=false }
def pm(m:Nat)(h:Int)(k:Nat):Nat:=(az (tM m) k ((tM m).probeStart h)).j
theorem sU(t:SetTable):∀k p,az t k p=az (tM t.mask) k p
 | 0,p=>rfl
 | k+1,p=>sU t k _
theorem tf(t:SetTable)(h:Int)(k:Nat):(az t k (t.probeStart h)).j=pm t.mask h k:=by
 rw[sU]
 rfl
structure TOk(m:Nat)(pl:Array Nat)(hs:Array Int):Prop where
 len:pl.size=hs.size
 inc:pl.toList.Pairwise (· < ·)
 rch:∀(i j:Nat) (h:Int),pl[i]?=some j->hs[i]?=some h->∃K,K<10*SetTable.turns m/\pm m h K=j/\∀k,k<K->pm m h k∈pl.toList
theorem TOk.nil(m:Nat):TOk m #[] #[]:=⟨rfl,.nil,fun i j h e=>by simp at e⟩
theorem TOk.put{m:Nat}{pl:Array Nat}{hs:Array Int}(T:TOk m pl hs){h:Int}{K:Nat}(hK:K<10*SetTable.turns m)(hn:pm m h K∉pl.toList)(hb:∀k,k<K->pm m h k∈pl.toList):
  TOk m (SetTable.insertAt pl (SetTable.below pl (pm m h K)) (pm m h K)) (SetTable.insertAt hs (SetTable.below pl (pm m h K)) h):=by
 have hle:=(lW T.inc (pm m h K)).1
 have more:∀x,x∈pl.toList->x∈(SetTable.insertAt pl (SetTable.below pl (pm m h K)) (pm m h K)).toList:=fun x hx=>by
  rw[fS]
  rw[←List.take_append_drop (SetTable.below pl (pm m h K)) pl.toList]at hx
  rcases List.mem_append.mp hx with a | a
  ·exact List.mem_append_left _ a
  ·exact List.mem_append_right _ (List.mem_cons_of_mem _ a)
 have old:∀(i j:Nat) (h':Int),pl[i]?=some j->hs[i]?=some h'->∃K',K'<10*SetTable.turns m/\pm m h' K'=j/\∀k,k<K'->pm m h' k∈(SetTable.insertAt pl (SetTable.below pl (pm m h K)) (pm m h K)).toList:=fun i j h' e1 e2=>by
  obtain⟨K',h1,h2,h3⟩:=T.rch i j h' e1 e2
  exact⟨K',h1,h2,fun k hk=>more _ (h3 k hk)⟩
 refine⟨by rw[lG,lG,T.len],vb T.inc hn,fun i j h' e1 e2=>?_⟩
 rw[oV pl hle]at e1
 rw[oV hs (by rw[←T.len];exact hle)]at e2
 by_cases c1:i<SetTable.below pl (pm m h K)
 ·rw[if_pos c1]at e1 e2
  exact old i j h' e1 e2
 ·rw[if_neg c1]at e1 e2
  by_cases c2:i=SetTable.below pl (pm m h K)
  ·rw[if_pos c2]at e1 e2
   cases e1
   cases e2
   exact⟨K,hK,rfl,fun k hk=>more _ (hb k hk)⟩
  ·rw[if_neg c2]at e1 e2
   exact old _ j h' e1 e2
theorem xZ{t:SetTable}(hd:t.dummies = #[]){j:Nat}(h:t.slot j≠.empty):j∈t.place.toList:=by
 rcases lQ hd j with e | ⟨i,e⟩
 ·exact absurd e h
 ·exact Array.mem_toList_iff.mpr (Array.mem_of_getElem? (iQ e))
theorem pz{t:SetTable}(hs:t.place.toList.Pairwise (· < ·)){j:Nat}(h:j∈t.place.toList):∃i,t.slot j=.live i/\t.place[i]?=some j:=by
 obtain⟨i,hi⟩:=List.getElem?_of_mem h
 rw[Array.getElem?_toList]at hi
 exact⟨i,slot_mem hs hi,hi⟩
theorem xr{t:SetTable}(hs:t.place.toList.Pairwise (· < ·)){j:Nat}(h:t.slot j=.empty):j∉t.place.toList:=fun hm=>by
 obtain⟨i,e,_⟩:=pz hs hm
 rw[h]at e
 cases e
theorem t9{t:SetTable}(hd:t.dummies = #[])(hm:Mask t.mask)(hp:t.place.size<=t.mask)(h:Int):∃K,K<10*SetTable.turns t.mask/\t.slot (pm t.mask h K)=.empty/\∀k,k<K->t.slot (pm t.mask h k)≠.empty:=by
 obtain⟨j0,hj0,hs0⟩:=xP hd hp
 obtain⟨N,hN,eN⟩:=u7 hm hj0 h
 rw[tf]at eN
 obtain⟨K,h1,h2,h3⟩:=least (P:=fun n=>t.slot (pm t.mask h n)=.empty) N (by show t.slot (pm t.mask h N)=_;rw[eN];exact hs0)
 exact⟨K,by omega,h2,h3⟩
theorem sN{t:SetTable}(hd:t.dummies = #[])(hash:Nat->Int)(h:Int):∀(K fuel:Nat) (p:SetTable.Probe),K<fuel->p.dummy=none->(∀k,k<K->t.slot (az t k p).j≠.empty) →
  (∃k i,k<K/\SetTable.probe.go t hash h fuel p=some (.candidate (az t k p).j i (az t (k+1) p))/\t.slot (az t k p).j=.live i)\/SetTable.probe.go t hash h fuel p=SetTable.probe.go t hash h (fuel-K) (az t K p):=by
 intro K
 induction K with
 | zero=>intro fuel p _ _ _;exact .inr rfl
 | succ K ih=>
  intro fuel p hf hp hs
  obtain⟨f,rfl⟩:∃f,fuel=f+1:=⟨fuel-1,by omega⟩
  have h0:t.slot p.j≠.empty:=hs 0 (by omega)
  rcases lQ hd p.j with h1 | ⟨i,h1⟩
  ·exact absurd h1 h0
  ·by_cases hq:(hash i == h)=true
   ·refine .inl ⟨0,i,by omega,?_,h1⟩
    conv=>lhs;unfold SetTable.probe.go
    rw[h1]
    dsimp only
    rw[if_pos hq]
    rfl
   ·have e:SetTable.probe.go t hash h (f+1) p=SetTable.probe.go t hash h f (t.advance p):=by
     conv=>lhs;unfold SetTable.probe.go
     rw[h1]
     dsimp only
     rw[if_neg hq]
    rw[e]
    have hp':(t.advance p).dummy=none:=by
     have:=ic t 1 p
     rw[hp]at this
     exact this
    rcases ih f (t.advance p) (by omega) hp' (fun k hk=>hs (k+1) (by omega))with⟨k,i',hk,e',hl⟩ | e'
    ·exact .inl ⟨k+1,i',by omega,e',hl⟩
    ·refine .inr ?_
     rw[e',show f+1-(K+1)=f-K by omega]
     rfl
theorem xy{t:SetTable}(hd:t.dummies = #[])(hash:Nat->Int)(h:Int){K fuel:Nat}{p:SetTable.Probe}(hf:K<fuel)(hp:p.dummy=none)(hs:∀k,k<K->t.slot (az t k p).j≠.empty)(he:t.slot (az t K p).j=.empty):
  (∃k i,k<K/\SetTable.probe.go t hash h fuel p=some (.candidate (az t k p).j i (az t (k+1) p))/\t.slot (az t k p).j=.live i)\/SetTable.probe.go t hash h fuel p=some (.empty (az t K p).j none):=by
 rcases sN hd hash h K fuel p hf hp hs with a | a
 ·exact .inl a
 ·refine .inr ?_
  rw[a]
  obtain⟨f,hf'⟩:∃f,fuel-K=f+1:=⟨fuel-K-1,by omega⟩
  rw[hf']
  unfold SetTable.probe.go
  rw[he]
  dsimp only
  rw[ic,hp]
theorem yL{t:SetTable}(hd:t.dummies = #[])(hash:Nat->Int)(h:Int){K fuel i0:Nat}{p:SetTable.Probe}(hf:K<fuel)(hp:p.dummy=none)(hs:∀k,k<K->t.slot (az t k p).j≠.empty)(he:t.slot (az t K p).j=.live i0)(hh:hash i0=h):
  ∃k i,k<=K/\SetTable.probe.go t hash h fuel p=some (.candidate (az t k p).j i (az t (k+1) p))/\t.slot (az t k p).j=.live i:=by
 rcases sN hd hash h K fuel p hf hp hs with⟨k,i,hk,e,hl⟩ | a
 ·exact⟨k,i,by omega,e,hl⟩
 ·refine⟨K,i0,Nat.le_refl _,?_,he⟩
  rw[a]
  obtain⟨f,hf'⟩:∃f,fuel-K=f+1:=⟨fuel-K-1,by omega⟩
  rw[hf']
  conv=>lhs;unfold SetTable.probe.go
  rw[he]
  dsimp only
  rw[if_pos (by rw[hh];exact beq_self_eq_true _)]
  rw[eS]
  rfl
theorem pe(t:SetTable):∀(k:Nat) (p:SetTable.Probe),k<=p.more->az t k p={ p with j:=p.j+k,more:=p.more-k }
 | 0,p,h=>rfl
 | k+1,p,h=>by
  show az t k (t.advance p)=_
  have e:t.advance p={ p with j:=p.j+1,more:=p.more-1 }:=by
   unfold SetTable.advance
   rw[if_pos (by omega)]
  rw[e,pe t k _ (by show k<=p.more-1;omega)]
  simp only[SetTable.Probe.mk.injEq,true_and,and_true]
  omega
theorem yk{m i:Nat}(h:i<=m):SetTable.runEnd m i<=m/\i<=SetTable.runEnd m i/\SetTable.runEnd m i<=i+9:=by
 unfold SetTable.runEnd
 split<;>omega
theorem lM{t:SetTable}{i p k:Nat}(h:k<=SetTable.runEnd t.mask i-i):(az t k (at_ t (i,p))).j=i+k:=by
 rw[pe t k _ h]
 rfl
theorem sd{owner:Array (Option Nat)}{j:Nat}(hj:j<owner.size)(h:(owner.getD j (some 0)).isNone=false):∃x,owner[j]?=some (some x):=by
 rw[Array.getD_eq_getD_getElem?,getElem?_pos owner j hj]at h
 rw[getElem?_pos owner j hj]
 cases e:owner[j]with
 | none=>rw[e]at h;cases h
 | some x=>exact⟨x,rfl⟩
theorem nj{t:SetTable}(owner:Array (Option Nat))(hz:owner.size=t.mask+1):∀(fuel i p j':Nat),i<=t.mask->SetTable.layClean.free t.mask owner fuel i p=some j' →
  ∃K,K<10*fuel/\(az t K (at_ t (i,p))).j=j'/\∀k,k<K->∃x,owner[(az t k (at_ t (i,p))).j]?=some (some x)
 | 0,i,p,j',hi,h=>by cases h
 | fuel+1,i,p,j',hi,h=>by
  obtain⟨r1,r2,r3⟩:=yk hi
  unfold SetTable.layClean.free at h
  split at h
  ·rename_i k0 hk
   cases h
   rw[List.find?_range_eq_some]at hk
   obtain⟨hk1,hk2,hk3⟩:=hk
   have hk2:=List.mem_range.mp hk2
   refine⟨k0,by omega,lM (by omega),fun k hk=>?_⟩
   rw[lM (by omega)]
   refine sd (by omega) ?_
   have:=hk3 k hk
   simpa using this
  ·rename_i hk
   rw[List.find?_range_eq_none]at hk
   have hnx:(SetTable.leap t.mask i p).1<=t.mask:=by
    show(_ % (t.mask+1))<=t.mask
    have:=Nat.mod_lt (i*5+1+p / 32) (show 0<t.mask+1 by omega)
    omega
   obtain⟨K,h1,h2,h3⟩:=nj owner hz fuel _ _ j' hnx h
   have hr:az t (SetTable.runEnd t.mask i-i+1) (at_ t (i,p))=at_ t (SetTable.leap t.mask i p):=(kK t (SetTable.runEnd t.mask i-i) (at_ t (i,p)) rfl).trans rfl
   refine⟨SetTable.runEnd t.mask i-i+1+K,by omega,?_,fun k hk'=>?_⟩
   ·rw[eS,hr]
    exact h2
   ·rcases Nat.lt_or_ge k (SetTable.runEnd t.mask i-i+1)with a | a
    ·rw[lM (by omega)]
     refine sd (by omega) ?_
     have:=hk k (by omega)
     simpa using this
    ·obtain⟨k',rfl⟩:∃k',k=SetTable.runEnd t.mask i-i+1+k':=⟨k-(SetTable.runEnd t.mask i-i+1),by omega⟩
     rw[eS,hr]
     exact h3 k' (by omega)
def lL(m:Nat)(F:Nat->Int)(owner:Array (Option Nat)):Prop:=∀j x:Nat,owner[j]?=some (some x)->∃K,K<10*SetTable.turns m/\pm m (F x) K=j/\∀k,k<K->∃y,owner[pm m (F x) k]?=some (some y)
theorem pH{m:Nat}(hm:Mask m)(F:Nat->Int):∀(hs:List Int) (owner:Array (Option Nat)) (k:Nat),owner.size=m+1->(owner.toList.filterMap id).Perm (List.range k)->k+hs.length<=m->(∀i h,hs[i]?=some h->F (k+i)=h)->lL m F owner →
  ∃owner',hs.foldl (kD m) (some (owner,k))=some (owner',k+hs.length)/\owner'.size=m+1/\(owner'.toList.filterMap id).Perm (List.range (k+hs.length))/\lL m F owner'
 | [],owner,k,h1,h2,h3,h4,h5=>⟨owner,rfl,h1,h2,h5⟩
 | h::hs,owner,k,h1,h2,h3,h4,h5=>by
  rw[List.length_cons]at h3 ⊢
  have hlt:(owner.toList.filterMap id).length<owner.toList.length:=by
   rw[h2.length_eq,List.length_range,Array.length_toList,h1]
   omega
  obtain⟨j,hj⟩:=v9 hlt
  rw[Array.getElem?_toList]at hj
  have hjm:j<=m:=by
   have:=(Array.getElem?_eq_some_iff.mp hj).1
   omega
  have hi:SetTable.bits h % (m+1)<=m:=by
   have:=Nat.mod_lt (SetTable.bits h) (show 0<m+1 by omega)
   omega
  obtain⟨n,hn,en⟩:=sT hm hi (sI h) hjm
  obtain⟨j',e',hj'⟩:=uV hm owner h1 hj (SetTable.turns m) n _ _ hi (by unfold SetTable.turns;omega) en
  obtain⟨K,K1,K2,K3⟩:=nj (t:=tM m) owner h1 (SetTable.turns m) _ _ j' hi e'
  have step:kD m (some (owner,k)) h=some (owner.setIfInBounds j' (some k),k+1):=by
   unfold kD
   simp[e']
  rw[List.foldl_cons,step]
  have hp:((owner.setIfInBounds j' (some k)).toList.filterMap id).Perm (List.range (k+1)):=by
   rw[Array.toList_setIfInBounds]
   rw[←Array.getElem?_toList]at hj'
   refine(oy hj').trans ?_
   rw[List.range_succ]
   exact(List.Perm.cons k h2).trans (List.perm_append_comm (l₁:=[k]) (l₂:=List.range k))
  have hj's:j'<owner.size:=(Array.getElem?_eq_some_iff.mp hj').1
  have keep:∀i x,owner[i]?=some (some x)->(owner.setIfInBounds j' (some k))[i]?=some (some x):=fun i x e=>by
   rw[Array.getElem?_setIfInBounds,if_neg]
   ·exact e
   ·rintro rfl
    rw[hj']at e
    cases e
  have hR:lL m F (owner.setIfInBounds j' (some k)):=fun i x e=>by
   rw[Array.getElem?_setIfInBounds]at e
   by_cases c:j'=i
   ·rw[if_pos c,if_pos hj's]at e
    cases e
    have eF:F k=h:=by
     have:=h4 0 h rfl
     rwa [Nat.add_zero]at this
    rw[eF]
    refine⟨K,K1,?_,fun k' hk'=>?_⟩
    ·rw[←c]
     exact K2
    ·obtain⟨y,hy⟩:=K3 k' hk'
     exact⟨y,keep _ _ hy⟩
   ·rw[if_neg c]at e
    obtain⟨K',q1,q2,q3⟩:=h5 i x e
    refine⟨K',q1,q2,fun k' hk'=>?_⟩
    obtain⟨y,hy⟩:=q3 k' hk'
    exact⟨y,keep _ _ hy⟩
  obtain⟨o',f1,f2,f3,f4⟩:=pH hm F hs (owner.setIfInBounds j' (some k)) (k+1) (by simpa using h1) hp (by omega) (fun i h' e=>by
   have:=h4 (i+1) h' e
   rwa [show k+(i+1)=k+1+i by omega]at this) hR
  exact⟨o',by rw[f1];congr 2;omega,f2,by rw[show k+(hs.length+1)=k+1+hs.length by omega];exact f3,f4⟩
theorem mI{α:Type}(es:Array α):∀(l:List Nat),(∀i∈l,i<es.size)->∀n:Nat,(l.filterMap (es[·]?))[n]?=(l[n]?).bind (es[·]?)
 | [],_,n=>by simp
 | x::l,h,n=>by
  have hx:=h x List.mem_cons_self
  have e:(x::l).filterMap (es[·]?)=es[x]::l.filterMap (es[·]?):=by
   rw[List.filterMap_cons]
   simp[hx]
  rw[e]
  cases n with
  | zero=>simp[hx]
  | succ n=>simpa using mI es l (fun i hi=>h i (List.mem_cons_of_mem _ hi)) n
theorem n5{f:Nat->Option (Nat×Nat)}(hf:∀j x,f j=some x->x.1=j):∀(l:List Nat),(∀x∈(l.filterMap f),f x.1=some x)/\((l.filterMap f).map (·.1))=l.filter (fun j=>(f j).isSome)
 | []=>⟨fun x hx=>(by cases hx),rfl⟩
 | a::l=>by
  obtain⟨i1,i2⟩:=n5 hf l
  cases e:f a with
  | none=>
   rw[List.filterMap_cons_none e,List.filter_cons_of_neg (by rw[e];simp)]
   exact⟨i1,i2⟩
  | some x=>
   rw[List.filterMap_cons_some e,List.filter_cons_of_pos (by rw[e];rfl),List.map_cons,i2,hf a x e]
   refine⟨fun y hy=>?_,rfl⟩
   rcases List.mem_cons.mp hy with rfl | hy
   ·rw[hf a y e]
    exact e
   ·exact i1 y hy
theorem x9(t:SetTable){es:Array (Int×Value)}{wanted m:Nat}(hm:Mask m)(hw:SetTable.sizeAbove wanted-1=m)(hn:es.size<=m):
  ∃t' order,t.relaid (es.map (·.1)) wanted=some (t',order)/\t'.place.size=es.size/\t'.dummies = #[]/\t'.mask=m/\order.toList.Perm (List.range es.size)/\t'.led=t.led/\t'.plain=t.plain/\TOk m t'.place ((order.filterMap (es[·]?)).map (·.1)):=by
 obtain⟨o',f1,f2,f3,f4⟩:=pH hm (fun i=>((es[i]?).map (·.1)).getD 0) (es.map (·.1)).toList (Array.replicate (m+1) none) 0 (by simp) (by simp) (by rw[Array.length_toList,Array.size_map];omega) (fun i h e=>by
   rw[Array.getElem?_toList,Array.getElem?_map]at e
   show((es[0+i]?).map (·.1)).getD 0=h
   rw[Nat.zero_add,e]
   rfl) (fun j x e=>by
   rw[Array.getElem?_replicate]at e
   split at e<;>cases e)
 rw[Array.length_toList,Nat.zero_add,Array.size_map]at f1 f3
 have hlay:SetTable.layClean m (es.map (·.1))=some o':=by
  show((es.map (·.1)).foldl (kD m) (some (Array.replicate (m+1) none,0))).map (·.1)=some o'
  rw[←Array.foldl_toList,f1]
  rfl
 have hsnd:((List.range (m+1)).filterMap fun j=>(o'.getD j none).map (j,·)).map (·.2)=o'.toList.filterMap id:=by
  rw[List.map_filterMap]
  have:o'.toList=(List.range (m+1)).map fun j=>o'.getD j none:=by
   apply List.ext_getElem
   ·rw[Array.length_toList,List.length_map,List.length_range,f2]
   ·intro i h1 h2
    rw[Array.length_toList]at h1
    simp[h1]
  rw[this,List.filterMap_map]
  congr 1
  funext j
  show((o'.getD j none).map (j,·)).map (·.2)=o'.getD j none
  cases o'.getD j none<;>rfl
 have hrel:t.relaid (es.map (·.1)) wanted=some (({ mask:=m,place:=(((List.range (m+1)).filterMap fun j=>(o'.getD j none).map (j,·)).map (·.1)).toArray,dummies:=#[],finger:=t.finger,led:=t.led,moves:=t.movedTo m,plain:=t.plain }:SetTable),(((List.range (m+1)).filterMap fun j=>(o'.getD j none).map (j,·)).map (·.2)).toArray):=by
  unfold SetTable.relaid
  rw[hw]
  unfold SetTable.laid
  rw[hlay]
  rfl
 obtain⟨lv1,lv2⟩:=n5 (f:=fun j=>(o'.getD j none).map (j,·)) (fun j x e=>by
  obtain⟨y,_,rfl⟩:=Option.map_eq_some_iff.mp e
  rfl) (List.range (m+1))
 have hlen:((List.range (m+1)).filterMap fun j=>(o'.getD j none).map (j,·)).length=es.size:=by
  have:=congrArg List.length hsnd
  rwa [List.length_map,f3.length_eq,List.length_range]at this
 have hall:∀i∈((List.range (m+1)).filterMap fun j=>(o'.getD j none).map (j,·)).map (·.2),i<es.size:=fun i hi=>by
  rw[hsnd]at hi
  exact List.mem_range.mp (f3.mem_iff.mp hi)
 refine⟨_,_,hrel,?_,rfl,rfl,?_,rfl,rfl,?_⟩
 ·show(((List.range (m+1)).filterMap fun j=>(o'.getD j none).map (j,·)).map (·.1)).toArray.size=_
  rw[List.size_toArray,List.length_map,hlen]
 ·show(((List.range (m+1)).filterMap fun j=>(o'.getD j none).map (j,·)).map (·.2)).toArray.toList.Perm _
  rw[List.toList_toArray,hsnd]
  exact f3
 ·generalize hlv:((List.range (m+1)).filterMap fun j=>(o'.getD j none).map (j,·))=lv at lv1 lv2 hlen hall
  show TOk m (lv.map (·.1)).toArray (((lv.map (·.2)).toArray.filterMap (es[·]?)).map (·.1))
  have mem:∀j,(∃y,o'[j]?=some (some y))->j∈(lv.map (·.1)).toArray.toList:=fun j ⟨y,hy⟩=>by
   rw[List.toList_toArray,lv2,List.mem_filter]
   have hj:=(Array.getElem?_eq_some_iff.mp hy).1
   refine⟨List.mem_range.mpr (by omega),?_⟩
   rw[Array.getD_eq_getD_getElem?,hy]
   rfl
  have hes:∀n:Nat,((((lv.map (·.2)).toArray.filterMap (es[·]?)).map (·.1)))[n]?=(((lv.map (·.2))[n]?).bind (es[·]?)).map (·.1):=fun n=>by
   rw[Array.getElem?_map,←Array.getElem?_toList,Array.toList_filterMap,List.toList_toArray,mI es _ hall]
  refine⟨?_,?_,fun i j h e1 e2=>?_⟩
  ·rw[Array.size_map,←Array.length_toList,←Array.length_toList,Array.toList_filterMap,List.toList_toArray,List.toList_toArray,List.length_map]
   have key:∀l:List Nat,(∀i∈l,i<es.size)->(l.filterMap (es[·]?)).length=l.length:=by
    intro l
    induction l with
    | nil=>intro _;rfl
    | cons x l ih=>
     intro hl
     have hx:=hl x List.mem_cons_self
     rw[List.filterMap_cons,getElem?_pos es x hx,List.length_cons,List.length_cons,ih fun i hi=>hl i (List.mem_cons_of_mem _ hi)]
   rw[key _ hall,List.length_map]
  ·rw[List.toList_toArray,lv2]
   exact List.Pairwise.filter _ List.pairwise_lt_range
  ·rw[hes]at e2
   rw[List.getElem?_toArray,List.getElem?_map]at e1
   rw[List.getElem?_map]at e2
   obtain⟨⟨j',x⟩,hx,rfl⟩:=Option.map_eq_some_iff.mp e1
   rw[hx]at e2
   have hf:=lv1 _ (List.mem_of_getElem? hx)
   have hx':o'.getD j' none=some x:=by
    obtain⟨y,hy,ey⟩:=Option.map_eq_some_iff.mp hf
    cases ey
    exact hy
   have ho:o'[j']?=some (some x):=by
    rw[Array.getD_eq_getD_getElem?]at hx'
    cases q:o'[j']? with
    | none=>rw[q]at hx';cases hx'
    | some y=>rw[q]at hx';cases hx';rfl
   obtain⟨K,q1,q2,q3⟩:=f4 j' x ho
   have eF:((es[x]?).map (·.1)).getD 0=h:=by
    have:(es[x]?).map (·.1)=some h:=e2
    rw[this]
    rfl
   dsimp only at q2 q3
   rw[eF]at q2 q3
   exact⟨K,q1,q2,fun k hk=>mem _ (q3 k hk)⟩
end Tb
set_option Elab.async false
set_option linter.all false
set_option maxRecDepth 100000
set_option maxHeartbeats 4000000
namespace L2
open PySem PySem.Spec PyProof.Rows
section
variable {P:Program} {w:World} {A:Around} {E:Value->Shared->Prop} {s:Shared} {K:Type} [DecidableEq K] {knd:KeyKind P w K}
theorem mY{ks:List K}{vs:List Value}(h:ItemsAre knd ks vs):∀v∈vs,∀b,v≠.ref b:=fun v hv b e=>by
 have:=h.byValue v hv
 subst e
 cases this
theorem ze(n:Nat){v:Value}(h:∀b,v≠.ref b):ofAClassStatement n v=pure false:=by
 cases v with
 | ref b=>exact absurd rfl (h b)
 | _=>unfold ofAClassStatement;rfl
theorem pA{ks:List K}{b:Addr}{Q:Bool->Shared->Prop}(hk:IsTupleKey knd s.heap ks b)(h:Q false s):wpAny (model P w) A (ofAClassStatement 8 (.ref b)) Q E s:=by
 have hT:=hk.typeIs
 obtain⟨o,items,n,ho,hc,hd,hi⟩:=hk
 unfold ofAClassStatement
 refine wpAny_bind (wpAny_typeOf hT ?_)
 dsimp only
 refine wpAny_bind (wpAny_pure ?_)
 simp only[Bool.not_true,Bool.false_eq_true,if_false]
 refine wpAny_bind (wpAny_seqItems ho hd ?_)
 dsimp only
 refine wpAny_bind ?_
 rw[←Array.forIn_toList]
 refine wpAny_forIn_list _ (fun rest r s'=>r.1=none/\s'=s/\∀v∈rest,∀b,v≠.ref b) _ ?_ ?_ _ _ ⟨rfl,rfl,mY hi⟩
 ·rintro v rest r s' ⟨hr,rfl,hall⟩
  rw[ze _ (hall v List.mem_cons_self)]
  refine wpAny_bind (wpAny_pure ?_)
  simp only[Bool.false_eq_true,if_false]
  exact wpAny_pure ⟨rfl,rfl,fun u hu=>hall u (List.mem_cons_of_mem _ hu)⟩
 ·rintro⟨r1,r2⟩ s' ⟨hr,rfl,_⟩
  simp only at hr
  subst hr
  exact wpAny_pure h
theorem rM{ks:List K}{b:Addr}{l:List Value}{Q:Bool->Shared->Prop}(hk:IsTupleKey knd s.heap ks b)(hl:∀y∈l,∃b' k',y=.ref b'/\IsTupleKey knd s.heap k' b')(h:Q false s):wpAny (model P w) A (searchCouldBeSeen (.ref b) l) Q E s:=by
 unfold searchCouldBeSeen
 refine wpAny_bind ?_
 refine wpAny_forIn_list _ (fun rest r s'=>r.1=none/\s'=s/\∀y∈rest,∃b' k',y=.ref b'/\IsTupleKey knd s.heap k' b') _ ?_ ?_ _ _ ⟨rfl,rfl,hl⟩
 ·rintro v rest r s' ⟨hr,rfl,hall⟩
  obtain⟨b',k',rfl,hk'⟩:=hall v List.mem_cons_self
  have next:∀y∈rest,∃b' k',y=.ref b'/\IsTupleKey knd s'.heap k' b':=fun y hy=>hall y (List.mem_cons_of_mem _ hy)
  dsimp only
  split
  ·exact wpAny_pure ⟨rfl,rfl,next⟩
  ·refine wpAny_bind (wpAny_eqIsQuiet_tuple hk ?_)
   simp only[Bool.not_true,Bool.false_eq_true,if_false]
   refine wpAny_bind (wpAny_eqIsQuiet_tuple hk' ?_)
   simp only[Bool.not_true,Bool.false_eq_true,if_false]
   refine wpAny_bind (pA hk ?_)
   simp only[Bool.false_eq_true,if_false]
   refine wpAny_bind (pA hk' ?_)
   simp only[Bool.false_eq_true,if_false]
   exact wpAny_pure ⟨rfl,rfl,next⟩
 ·rintro⟨r1,r2⟩ s' ⟨hr,rfl,_⟩
  simp only at hr
  subst hr
  exact wpAny_pure h
theorem r9{t:SetTable}(hm:Tb.Mask t.mask):t.gaveWay=false:=by
 unfold SetTable.gaveWay
 rcases hm with e | e | e | e | e | e<;>rw[e]<;>rfl
theorem yI{a b:Addr}{k:List K}{h:Int}{o:Obj}{es:Array (Int×Value)}{ep:Nat}{t:SetTable}(hu:A.units<cLine)(hk:IsTupleKey knd s.heap k b)(ho:s.heap.get? a=some o)(hd:o.data=.set es ep t)(hf:t.fits es.size=true)(hm:Tb.Mask t.mask)(hdm:t.dummies = #[])
  (hall:∀e∈es.toList,∃b' k',e.2=.ref b'/\IsTupleKey knd s.heap k' b'/\k'≠k) {Q:SetFound->Shared->Prop} :
  ∀(K fuel:Nat) (stand:Option SetTable.Probe),K<fuel->K<10*SetTable.turns t.mask->(stand.getD (t.probeStart h)).dummy=none->(∀k',k'<K->t.slot (Tb.az t k' (stand.getD (t.probeStart h))).j≠.empty)->t.slot (Tb.az t K (stand.getD (t.probeStart h))).j=.empty →
   Q (.free (Tb.az t K (stand.getD (t.probeStart h))).j false) s->wpAny (model P w) A (setSearchFrom a (.ref b) h true fuel stand) Q E s:=by
 intro K
 induction K using Nat.strongRecOn with
 | ind K ih=>
  intro fuel stand hfu hK hdu hne hs hQ
  obtain⟨f,rfl⟩:∃f,fuel=f+1:=⟨fuel-1,by omega⟩
  unfold setSearchFrom
  refine wpAny_bind (wpAny_setState_of ho hd hf ?_)
  dsimp only
  have hg:=r9 hm
  have hsz:t.place.size=es.size:=by
   simp only[SetTable.fits,Bool.and_eq_true,beq_iff_eq]at hf
   exact hf.1
  have hsm:t.sameMemory t.moves t.mask=some true:=by
   unfold SetTable.sameMemory
   rw[if_pos (beq_self_eq_true _)]
  rw[hg]
  simp only[Bool.false_eq_true,if_false]
  generalize hr:t.probe _ h (stand.getD (t.probeStart h))=r
  obtain⟨g,hr⟩:∃g,SetTable.probe.go t g h (10*SetTable.turns t.mask) (stand.getD (t.probeStart h))=r:=⟨_,hr⟩
  rcases Tb.xy hdm g h hK hdu hne hs with⟨k',i,hk',e,hl⟩ | e
  ·rw[e]at hr
   subst hr
   have hpl:=Tb.iQ hl
   have hi:i<es.size:=by
    rw[←hsz]
    exact(Array.getElem?_eq_some_iff.mp hpl).1
   have hmem:es[i]∈es.toList:=by simp
   obtain⟨b',k2,hy,hk2,hne2⟩:=hall _ hmem
   have hes:es[i]?=some (es[i].1,.ref b'):=by
    rw[Array.getElem?_eq_getElem hi,←hy]
   have hst:∀y∈((es.filter fun x=>x.1 == h).toList.map fun x=>x.2),∃b' k',y=Value.ref b'/\IsTupleKey knd s.heap k' b':=fun y hy=>by
    obtain⟨e0,he0,rfl⟩:=List.mem_map.mp hy
    have he1:e0∈es.toList:=by
     have:=Array.mem_toList_iff.mp he0
     exact Array.mem_toList_iff.mpr (Array.mem_filter.mp this).1
    obtain⟨b3,k3,h1,h2,_⟩:=hall e0 he1
    exact⟨b3,k3,h1,h2⟩
   have eK:∀x,Tb.az t (k'+1+x) (stand.getD (t.probeStart h))=Tb.az t x (Tb.az t (k'+1) (stand.getD (t.probeStart h))):=fun x=>Tb.eS t _ _ _
   have again:wpAny (model P w) A (setSearchFrom a (.ref b) h true f (some (Tb.az t (k'+1) (stand.getD (t.probeStart h))))) Q E s:=by
    refine ih (K-(k'+1)) (by omega) f _ (by omega) (by omega) ?_ (fun x hx=>?_) ?_ ?_
    ·show(Tb.az t (k'+1) _).dummy=none
     rw[Tb.ic]
     exact hdu
    ·show t.slot (Tb.az t x (Tb.az t (k'+1) _)).j≠_
     rw[←eK]
     exact hne _ (by omega)
    ·show t.slot (Tb.az t (K-(k'+1)) (Tb.az t (k'+1) _)).j=_
     rw[←eK,show k'+1+(K-(k'+1))=K by omega]
     exact hs
    ·show Q (.free (Tb.az t (K-(k'+1)) (Tb.az t (k'+1) _)).j false) s
     rw[←eK,show k'+1+(K-(k'+1))=K by omega]
     exact hQ
   have same:isSame (Value.ref b') (Value.ref b')=pure true:=by
    unfold isSame
    simp
   dsimp only
   cases hled:t.led
   ·simp only[Bool.not_false,if_true]
    refine wpAny_bind (rM hk hst ?_)
    simp only[Bool.false_eq_true,if_false]
    rw[hes]
    dsimp only
    refine wpAny_bind (wpAny_holding (wpAny_eqBool_tuple hu hk2 hk ?_))
    rw[decide_eq_false hne2]
    refine wpAny_bind (wpAny_setState_of ho hd hf ?_)
    dsimp only
    simp only[Bool.and_false,Bool.false_eq_true,if_false,hsm,if_true,hl,hes,same]
    exact wpAny_bind (wpAny_pure (wpAny_bind (wpAny_pure again)))
   ·simp only[Bool.not_true,Bool.false_eq_true,if_false]
    rw[hes]
    dsimp only
    refine wpAny_bind (wpAny_holding (wpAny_eqBool_tuple hu hk2 hk ?_))
    rw[decide_eq_false hne2]
    refine wpAny_bind (wpAny_setState_of ho hd hf ?_)
    dsimp only
    simp only[Bool.and_false,Bool.false_eq_true,if_false,hsm,if_true,hl,hes,same]
    exact wpAny_bind (wpAny_pure (wpAny_bind (wpAny_pure again)))
  ·rw[e]at hr
   subst hr
   exact wpAny_pure hQ
theorem uG{a b:Addr}{k:List K}{h:Int}{o:Obj}{es:Array (Int×Value)}{ep i0:Nat}{t:SetTable}(hu:A.units<cLine)(hk:IsTupleKey knd s.heap k b)(ho:s.heap.get? a=some o)(hd:o.data=.set es ep t)(hf:t.fits es.size=true)(hm:Tb.Mask t.mask)(hdm:t.dummies = #[])
  (hall:∀e∈es.toList,∃b' k',e.2=.ref b'/\IsTupleKey knd s.heap k' b') (hi0:∃b0,es[i0]?=some (h,.ref b0)/\IsTupleKey knd s.heap k b0) {Q:SetFound->Shared->Prop} (hQ:Q (.there none) s) :
  ∀(K fuel:Nat) (stand:Option SetTable.Probe),K<fuel->K<10*SetTable.turns t.mask->(stand.getD (t.probeStart h)).dummy=none->(∀k',k'<K->t.slot (Tb.az t k' (stand.getD (t.probeStart h))).j≠.empty)->t.slot (Tb.az t K (stand.getD (t.probeStart h))).j=.live i0 →
   wpAny (model P w) A (setSearchFrom a (.ref b) h true fuel stand) Q E s:=by
 obtain⟨b0,hb0,hkb0⟩:=hi0
 intro K
 induction K using Nat.strongRecOn with
 | ind K ih=>
  intro fuel stand hfu hK hdu hne hs
  obtain⟨f,rfl⟩:∃f,fuel=f+1:=⟨fuel-1,by omega⟩
  unfold setSearchFrom
  refine wpAny_bind (wpAny_setState_of ho hd hf ?_)
  dsimp only
  have hg:=r9 hm
  have hsz:t.place.size=es.size:=by
   simp only[SetTable.fits,Bool.and_eq_true,beq_iff_eq]at hf
   exact hf.1
  have hsm:t.sameMemory t.moves t.mask=some true:=by
   unfold SetTable.sameMemory
   rw[if_pos (beq_self_eq_true _)]
  rw[hg]
  simp only[Bool.false_eq_true,if_false]
  generalize hr:t.probe _ h (stand.getD (t.probeStart h))=r
  obtain⟨g,hgi,hr⟩:∃g:Nat->Int,g i0=h/\SetTable.probe.go t g h (10*SetTable.turns t.mask) (stand.getD (t.probeStart h))=r:=⟨_,by show((es[i0]?).map (·.1)).getD 0=h;rw[hb0];rfl,hr⟩
  obtain⟨k',i,hk',e,hl⟩:=Tb.yL hdm g h hK hdu hne hs hgi
  rw[e]at hr
  subst hr
  have hpl:=Tb.iQ hl
  have hi:i<es.size:=by
   rw[←hsz]
   exact(Array.getElem?_eq_some_iff.mp hpl).1
  have hmem:es[i]∈es.toList:=by simp
  obtain⟨b',k2,hy,hk2⟩:=hall _ hmem
  have hes:es[i]?=some (es[i].1,.ref b'):=by
   rw[Array.getElem?_eq_getElem hi,←hy]
  have hst:∀y∈((es.filter fun x=>x.1 == h).toList.map fun x=>x.2),∃b' k',y=Value.ref b'/\IsTupleKey knd s.heap k' b':=fun y hy=>by
   obtain⟨e0,he0,rfl⟩:=List.mem_map.mp hy
   have he1:e0∈es.toList:=by
    have:=Array.mem_toList_iff.mp he0
    exact Array.mem_toList_iff.mpr (Array.mem_filter.mp this).1
   obtain⟨b3,k3,h1,h2⟩:=hall e0 he1
   exact⟨b3,k3,h1,h2⟩
  have eK:∀x,Tb.az t (k'+1+x) (stand.getD (t.probeStart h))=Tb.az t x (Tb.az t (k'+1) (stand.getD (t.probeStart h))):=fun x=>Tb.eS t _ _ _
  have again:k2≠k->wpAny (model P w) A (setSearchFrom a (.ref b) h true f (some (Tb.az t (k'+1) (stand.getD (t.probeStart h))))) Q E s:=fun hne2=>by
   have hlt:k'<K:=by
    rcases Nat.lt_or_ge k' K with q | q
    ·exact q
    ·have:k'=K:=by omega
     subst this
     rw[hs]at hl
     cases hl
     rw[hb0]at hes
     cases hes
     obtain⟨o1,i1,n1,z1,_,z2,z3⟩:=hk2
     obtain⟨o2,i2,n2,y1,_,y2,y3⟩:=hkb0
     rw[z1]at y1
     cases y1
     rw[z2]at y2
     cases y2
     exact absurd (z3.inj y3) hne2
   refine ih (K-(k'+1)) (by omega) f _ (by omega) (by omega) ?_ (fun x hx=>?_) ?_
   ·show(Tb.az t (k'+1) _).dummy=none
    rw[Tb.ic]
    exact hdu
   ·show t.slot (Tb.az t x (Tb.az t (k'+1) _)).j≠_
    rw[←eK]
    exact hne _ (by omega)
   ·show t.slot (Tb.az t (K-(k'+1)) (Tb.az t (k'+1) _)).j=_
    rw[←eK,show k'+1+(K-(k'+1))=K by omega]
    exact hs
  have same:isSame (Value.ref b') (Value.ref b')=pure true:=by
   unfold isSame
   simp
  have fin:wpAny (model P w) A (do
    let equal ←holding [Value.ref b'] (eqBool (.ref b') (.ref b))
    let (es',_,t') ←setState a
    if(true && equal)=true then return SetFound.there none
    let some same:=t'.sameMemory t.moves t.mask | unsupported "set.changed-during-lookup:is-the-new-block-at-the-old-address"
    let still ←match (if same=true then t'.slot (Tb.az t k' (stand.getD (t.probeStart h))).j else .empty)with
     | .live i'=>match es'[i']? with
      | some (_,y')=>do pure (if ←isSame y' (.ref b')then some i' else none)
      | none=>pure none
     | _=>pure none
    match still with
    | none=>rule "set.search.anew";setSearchFrom a (.ref b) h true f none
    | some i'=>if equal=true then return .there (some i')else setSearchFrom a (.ref b) h true f (some (Tb.az t (k'+1) (stand.getD (t.probeStart h))))) Q E s:=by
   refine wpAny_bind (wpAny_holding (wpAny_eqBool_tuple hu hk2 hk ?_))
   refine wpAny_bind (wpAny_setState_of ho hd hf ?_)
   dsimp only
   by_cases hq:k2=k
   ·rw[decide_eq_true hq]
    simp only[Bool.and_self,if_true]
    exact wpAny_pure hQ
   ·rw[decide_eq_false hq]
    simp only[Bool.and_false,Bool.false_eq_true,if_false,hsm,if_true,hl,hes,same]
    exact wpAny_bind (wpAny_pure (wpAny_bind (wpAny_pure (again hq))))
  dsimp only
  cases hled:t.led
  ·simp only[Bool.not_false,if_true]
   refine wpAny_bind (rM hk hst ?_)
   simp only[Bool.false_eq_true,if_false]
   rw[hes]
   exact fin
  ·simp only[Bool.not_true,Bool.false_eq_true,if_false]
   rw[hes]
   exact fin
theorem gw{h h':Heap}{a b:Addr}{k:List K}{o:Obj}{es:Array (Int×Value)}{ep:Nat}{t:SetTable}(hk:IsTupleKey knd h k b)(ho:h.get? a=some o)(hd:o.data=.set es ep t)(hs:Heap.SameBut a h h'):IsTupleKey knd h' k b:=by
 obtain⟨o',items,n,ho',hc,hd',hi⟩:=hk
 have hne:b≠a:=by
  rintro rfl
  rw[ho]at ho'
  cases ho'
  rw[hd]at hd'
  cases hd'
 exact⟨o',items,n,(hs.2 b hne).trans ho',hc,hd',hi⟩
theorem qy(n:Nat){v:Value}(h:∀b,v≠.ref b):∃c,hashByValue n v=pure c:=by
 cases v with
 | ref b=>exact absurd rfl (h b)
 | _=>exact⟨_,by cases n<;>unfold hashByValue<;>rfl⟩
theorem Al{ks:List K}{b:Addr}{Q:Bool->Shared->Prop}(hk:IsTupleKey knd s.heap ks b)(h:∀c,Q c s):wpAny (model P w) A (hashByValue 8 (.ref b)) Q E s:=by
 have hT:=hk.typeIs
 obtain⟨o,items,n,ho,hc,hd,hi⟩:=hk
 unfold hashByValue
 refine wpAny_bind (wpAny_specialOf hT F.slot_tuple_hash.lookup ?_)
 dsimp only
 refine wpAny_bind (wpAny_seqItems ho hd ?_)
 dsimp only[Option.getD_some]
 refine wpAny_bind ?_
 rw[←Array.forIn_toList]
 refine wpAny_forIn_list _ (fun rest r s'=>(r.1=none\/∃c,r.1=some c)/\s'=s/\∀v∈rest,∀b,v≠.ref b) _ ?_ ?_ _ _ ⟨.inl rfl,rfl,mY hi⟩
 ·rintro v rest r s' ⟨hr,rfl,hall⟩
  obtain⟨c,hc'⟩:=qy 7 (hall v List.mem_cons_self)
  rw[hc']
  refine wpAny_bind (wpAny_pure ?_)
  cases c
  ·show wpAny _ _ (pure (ForInStep.done (some false,()))) _ _ _
   exact wpAny_pure (wpAny_pure (h false))
  ·simp only[Bool.not_true,Bool.false_eq_true,if_false]
   exact wpAny_pure ⟨.inl rfl,rfl,fun u hu=>hall u (List.mem_cons_of_mem _ hu)⟩
 ·rintro⟨r1,r2⟩ s' ⟨hr,rfl,_⟩
  simp only at hr
  rcases hr with rfl | ⟨c,rfl⟩
  ·exact wpAny_pure (h true)
  ·exact wpAny_pure (h c)
theorem yr{α:Type}{es:Array α}{order:Array Nat}(h:order.toList.Perm (List.range es.size)):(order.filterMap (es[·]?)).size=es.size/\∀e∈(order.filterMap (es[·]?)).toList,e∈es.toList:=by
 have key:∀l:List Nat,(∀i∈l,i<es.size)->(l.filterMap (es[·]?)).length=l.length/\∀e∈l.filterMap (es[·]?),e∈es.toList:=by
  intro l
  induction l with
  | nil=>intro _;exact⟨rfl,fun e he=>by cases he⟩
  | cons x l ih=>
   intro hl
   obtain⟨i1,i2⟩:=ih fun i hi=>hl i (List.mem_cons_of_mem _ hi)
   have hx:=hl x List.mem_cons_self
   have e:(x::l).filterMap (es[·]?)=es[x]::l.filterMap (es[·]?):=by
    rw[List.filterMap_cons]
    simp[hx]
   rw[e]
   refine⟨by rw[List.length_cons,List.length_cons,i1],fun y hy=>?_⟩
   rcases List.mem_cons.mp hy with rfl | hy
   ·simp
   ·exact i2 y hy
 have hlt:∀i∈order.toList,i<es.size:=fun i hi=>List.mem_range.mp (h.mem_iff.mp hi)
 obtain⟨k1,k2⟩:=key order.toList hlt
 rw[Array.toList_filterMap]
 refine⟨?_,k2⟩
 rw[←Array.length_toList,Array.toList_filterMap,k1,h.length_eq,List.length_range]
theorem Ay{α:Type}{es:Array α}{order:Array Nat}(h:order.toList.Perm (List.range es.size)):(order.filterMap (es[·]?)).toList.Perm es.toList:=by
 rw[Array.toList_filterMap]
 have e:(List.range es.size).filterMap (es[·]?)=es.toList:=by
  apply List.ext_getElem?
  intro n
  have e0:es.toList[n]?=es[n]?:=Array.getElem?_toList
  rw[e0,Tb.mI es _ (fun i hi=>List.mem_range.mp hi)]
  by_cases hn:n<es.size
  ·rw[List.getElem?_range hn]
   rfl
  ·have e1:(List.range es.size)[n]?=none:=List.getElem?_eq_none (by rw[List.length_range];omega)
   rw[e1,Array.getElem?_eq_none (by omega)]
   rfl
 rw[←e]
 exact h.filterMap _
end
section
variable {P:Program} {w:World} {A:Around} {E:Value->Shared->Prop} {s:Shared}
theorem items_str{ks:List Key}{vs:List Value}(h:ItemsAre (aK P w) ks vs){x:Str}(hx:Sum.inr x∈ks):∃t,Value.str x t∈vs:=by
 induction h with
 | nil=>cases hx
 | @cons k v ks vs hk _ ih=>
  rcases List.mem_cons.mp hx with rfl | hx
  ·rcases dI (show eR (.inr x) v=true from hk)with⟨i,t,e,_⟩ | ⟨y,t,e,rfl⟩
   ·cases e
   ·cases e
    exact⟨t,List.mem_cons_self⟩
  ·obtain⟨t,ht⟩:=ih hx
   exact⟨t,List.mem_cons_of_mem _ ht⟩
theorem Ap{ks:List Key}{b:Addr}{x:Str}{Q:Bool->Shared->Prop}(hk:IsTupleKey (aK P w) s.heap ks b)(hx:Sum.inr x∈ks)(h:Q false s):wpAny (model P w) A (hashByValue 8 (.ref b)) Q E s:=by
 have hT:=hk.typeIs
 obtain⟨o,items,n,ho,hc,hd,hi⟩:=hk
 unfold hashByValue
 refine wpAny_bind (wpAny_specialOf hT F.slot_tuple_hash.lookup ?_)
 dsimp only
 refine wpAny_bind (wpAny_seqItems ho hd ?_)
 dsimp only[Option.getD_some]
 refine wpAny_bind ?_
 rw[←Array.forIn_toList]
 refine wpAny_forIn_list _ (fun rest r s'=>r.1=none/\s'=s/\(∀v∈rest,∀b,v≠.ref b)/\∃t,Value.str x t∈rest) _ ?_ ?_ _ _ ⟨rfl,rfl,mY hi,items_str hi hx⟩
 ·rintro v rest r s' ⟨hr,rfl,hall,t,ht⟩
  obtain⟨c,hc'⟩:=qy 7 (hall v List.mem_cons_self)
  rw[hc']
  refine wpAny_bind (wpAny_pure ?_)
  cases c
  ·show wpAny _ _ (pure (ForInStep.done (some false,()))) _ _ _
   exact wpAny_pure (wpAny_pure h)
  ·simp only[Bool.not_true,Bool.false_eq_true,if_false]
   refine wpAny_pure ⟨rfl,rfl,fun u hu=>hall u (List.mem_cons_of_mem _ hu),t,?_⟩
   rcases List.mem_cons.mp ht with rfl | ht
   ·exact absurd hc' (fun z=>by
     have:hashByValue 7 (Value.str x t)=pure false:=by unfold hashByValue;rfl
     rw[this]at z
     injection z with z
     cases z)
   ·exact ht
 ·rintro⟨r1,r2⟩ s' ⟨hr,rfl,_,t,ht⟩
  cases ht
def cW(P:Program)(w:World)(B:Addr->List Key->Prop)(h:Heap)(a:Addr)(ks:List (List Key)):Prop:=ks.Nodup ∧
 ∃o es ep t,h.get? a=some o/\o.ExactSet/\o.data=.set es ep t/\t.dummies = #[]/\Tb.Mask t.mask/\es.size*5<t.mask*3/\es.size=ks.length/\Tb.TOk t.mask t.place (es.map (·.1)) ∧
  (∀e∈es.toList,∃b k,e=(tupleKeyHash (aK P w) k,.ref b)/\k∈ks/\IsTupleKey (aK P w) h k b/\B b k)/\(∀k∈ks,∃b,(tupleKeyHash (aK P w) k,.ref b)∈es.toList/\IsTupleKey (aK P w) h k b)/\((∀k∈ks,∃x,Sum.inr x∈k)->ks=[]\/t.plain=false)
theorem zC{B:Addr->List Key->Prop}{a:Addr}{o:Obj}{es es1:Array (Int×Value)}{ep n:Nat}{t t1:SetTable}{ks1:List (List Key)}{Q:Bool->Shared->Prop}(hnd:ks1.Nodup)(ho:s.heap.get? a=some o)(hex:o.ExactSet)(hd:o.data=.set es ep t)(hs1:es1.size=n+1)(hdm1:t1.dummies = #[])
  (hm1:Tb.Mask t1.mask) (hfull:n*5<t1.mask*3) (hn:n<1400) (hlen:ks1.length=n+1) (hT1:Tb.TOk t1.mask t1.place (es1.map (·.1))) (hall1:∀e∈es1.toList,∃b k,e=(tupleKeyHash (aK P w) k,.ref b)/\k∈ks1/\IsTupleKey (aK P w) s.heap k b/\B b k)
  (hin1:∀k∈ks1,∃b,(tupleKeyHash (aK P w) k,.ref b)∈es1.toList/\IsTupleKey (aK P w) s.heap k b) (hpl1:(∀k∈ks1,∃x,Sum.inr x∈k)->t1.plain=false)
  (h:∀h',Heap.SameBut a s.heap h'->cW P w B h' a ks1->Q true { s with heap:=h' }) :
  wpAny (model P w) A (do
   storeSet a es1 t1
   if(!false && t1.tooFull)=true then do
    setRelay a (SetTable.grown (n+1))
    pure true
   else pure true) Q E s:=by
 have hline:n+1<=sizeLine:=Nat.le_trans (show n+1<=10000 by omega) (by decide)
 have hp1:t1.place.size=es1.size:=by rw[hT1.len,Array.size_map]
 refine wpAny_bind (wpAny_storeSet_of ho hd ?_ (by omega))
 have ho1:(s.heap.update a (Obj.putSet es1 t1)).get? a=some { o with data:=.set es1 (ep+1) t1 }:=by
  have:=Heap.get?_update_self (Obj.putSet es1 t1) ho (by rw[putSet_of es1 t1 hd];rfl)
  rw[putSet_of es1 t1 hd]at this
  exact this
 have hsb1:=Heap.SameBut.update s.heap a (Obj.putSet es1 t1)
 generalize s.heap.update a (Obj.putSet es1 t1)=h1 at ho1 hsb1
 have hall2:∀e∈es1.toList,∃b k,e=(tupleKeyHash (aK P w) k,.ref b)/\k∈ks1/\IsTupleKey (aK P w) h1 k b/\B b k:=fun e he=>by
  obtain⟨b,k,z1,z2,z3,z4⟩:=hall1 e he
  exact⟨b,k,z1,z2,gw z3 ho hd hsb1,z4⟩
 have hin2:∀k∈ks1,∃b,(tupleKeyHash (aK P w) k,.ref b)∈es1.toList/\IsTupleKey (aK P w) h1 k b:=fun k hk=>by
  obtain⟨b,z1,z2⟩:=hin1 k hk
  exact⟨b,z1,gw z2 ho hd hsb1⟩
 have hfill:t1.fill=n+1:=by
  unfold SetTable.fill
  rw[hdm1,hp1,hs1]
  rfl
 by_cases hq:t1.tooFull=true
 ·rw[hq]
  simp only[Bool.not_false,Bool.and_self,if_true]
  have hq':t1.mask*3<=(n+1)*5:=by
   unfold SetTable.tooFull at hq
   rw[hfill]at hq
   simpa using hq
  obtain⟨m,hm,hw,hmn,hlt⟩:∃m,Tb.Mask m/\SetTable.sizeAbove (SetTable.grown (n+1))-1=m/\n+1<=m/\(n+1)*5<m*3/\SetTable.sizeAbove (SetTable.grown (n+1))<=sizeLine:=by
   have hg:SetTable.grown (n+1)=(n+1)*4:=by
    unfold SetTable.grown
    rw[if_neg (by omega)]
   rw[hg]
   rcases hm1 with e | e | e | e | e | e<;>rw[e]at hfull hq'
   ·obtain rfl:n=4:=by omega
    exact⟨31,.inr (.inl rfl),Tb.zS,by omega,by omega,by decide +kernel⟩
   ·obtain rfl:n=18:=by omega
    exact⟨127,.inr (.inr (.inl rfl)),Tb.uB,by omega,by omega,by decide +kernel⟩
   ·obtain rfl:n=76:=by omega
    exact⟨511,.inr (.inr (.inr (.inl rfl))),Tb.AG,by omega,by omega,by decide +kernel⟩
   ·obtain rfl:n=306:=by omega
    exact⟨2047,.inr (.inr (.inr (.inr (.inl rfl)))),Tb.vE,by omega,by omega,by decide +kernel⟩
   ·obtain rfl:n=1228:=by omega
    exact⟨8191,.inr (.inr (.inr (.inr (.inr rfl)))),Tb.AF,by omega,by omega,by decide +kernel⟩
   ·omega
  have hfit1:t1.fits es1.size=true:=by
   simp only[SetTable.fits,Bool.and_eq_true,beq_iff_eq,decide_eq_true_eq]
   refine⟨hp1,?_⟩
   rw[hfill]
   rcases hm1 with e | e | e | e | e | e<;>omega
  obtain⟨t2,order,hrel,hp2,hd2,hm2,hperm,_,hpl2,hT2⟩:=Tb.x9 t1 (es:=es1) hm hw (by omega)
  obtain⟨r1,r2⟩:=yr hperm
  have r3:=Ay hperm
  refine wpAny_bind ?_
  unfold setRelay
  refine wpAny_bind (wpAny_setState_of (s:={ s with heap:=h1 }) ho1 rfl hfit1 ?_)
  dsimp only
  rw[if_neg (Nat.not_lt.mpr hlt.2),hrel]
  refine wpAny_bind ?_
  show wpAny _ _ (do
   if(order.filterMap (es1[·]?)).size != es1.size then unsupported "internal:set-table-lost-an-element"
   pure (order.filterMap (es1[·]?),t2)) _ _ _
  rw[r1]
  simp only[bne_self_eq_false,Bool.false_eq_true,if_false]
  refine wpAny_pure ?_
  dsimp only
  refine wpAny_storeSet_of (s:={ s with heap:=h1 }) ho1 rfl ?_ (by rw[r1];omega)
  have ho2:(h1.update a (Obj.putSet (order.filterMap (es1[·]?)) t2)).get? a=some { o with data:=.set (order.filterMap (es1[·]?)) (ep+1+1) t2 }:=by
   have:=Heap.get?_update_self (Obj.putSet (order.filterMap (es1[·]?)) t2) ho1 (by rw[putSet_of _ _ (o:={ o with data:=.set es1 (ep+1) t1 }) rfl];rfl)
   rw[putSet_of _ _ (o:={ o with data:=.set es1 (ep+1) t1 }) rfl]at this
   exact this
  have hsb2:=Heap.SameBut.update h1 a (Obj.putSet (order.filterMap (es1[·]?)) t2)
  refine wpAny_pure (h _ (hsb1.trans hsb2) ⟨hnd,_,_,_,t2,ho2,hex,rfl,hd2,by rw[hm2];exact hm,by rw[r1,hm2,hs1];exact hlt.1,by rw[r1,hs1,hlen],by rw[hm2];exact hT2,fun e he=>?_,fun k hk=>?_,fun hx=>.inr (hpl2.trans (hpl1 hx))⟩)
  ·obtain⟨b,k,z1,z2,z3,z4⟩:=hall2 e (r2 e he)
   exact⟨b,k,z1,z2,gw z3 ho1 rfl hsb2,z4⟩
  ·obtain⟨b,z1,z2⟩:=hin2 k hk
   exact⟨b,r3.mem_iff.mpr z1,gw z2 ho1 rfl hsb2⟩
 ·have hq0:t1.tooFull=false:=by simpa using hq
  rw[hq0]
  simp only[Bool.and_false,Bool.false_eq_true,if_false]
  have hq':(n+1)*5<t1.mask*3:=by
   unfold SetTable.tooFull at hq0
   rw[hfill]at hq0
   simpa using hq0
  exact wpAny_pure (h h1 hsb1 ⟨hnd,_,es1,_,t1,ho1,hex,rfl,hdm1,hm1,by rw[hs1];exact hq',by rw[hs1,hlen],hT1,hall2,hin2,fun hx=>.inr (hpl1 hx)⟩)
theorem qk{α:Type}{xs:Array α}{p:Nat}{x e:α}(h:e=x\/e∈xs.toList):e∈(SetTable.insertAt xs p x).toList:=by
 rw[Tb.fS]
 rcases h with rfl | h
 ·exact List.mem_append_right _ List.mem_cons_self
 ·rw[←List.take_append_drop p xs.toList]at h
  rcases List.mem_append.mp h with a | a
  ·exact List.mem_append_left _ a
  ·exact List.mem_append_right _ (List.mem_cons_of_mem _ a)
theorem ins_map{α β:Type}(f:α->β)(xs:Array α)(p:Nat)(x:α):(SetTable.insertAt xs p x).map f=SetTable.insertAt (xs.map f) p (f x):=by
 apply Array.toList_inj.mp
 rw[Array.toList_map,Tb.fS,Tb.fS,Array.toList_map]
 simp
theorem uc{B:Addr->List Key->Prop}{a b:Addr}{k:List Key}{ks:List (List Key)}{Q:Bool->Shared->Prop}(hu:A.units<cLine)(hk:IsTupleKey (aK P w) s.heap k b)(hB:B b k)(hS:cW P w B s.heap a ks)(hsz:ks.length<1400)
  (h:∀h' r ks',Heap.SameBut a s.heap h'->cW P w B h' a ks'->ks'.length<=ks.length+1->(∀x,x∈ks'↔x∈ks\/x=k)->Q r { s with heap:=h' }):wpAny (model P w) A (setAddHashed a (.ref b) (tupleKeyHash (aK P w) k)) Q E s:=by
 obtain⟨hnd,o,es,ep,t,ho,hex,hd,hdm,hm,hfull,hlen,hT,hall,hin,hpl⟩:=id hS
 have hp:t.place.size=es.size:=by rw[hT.len,Array.size_map]
 have hle:es.size<=t.mask:=by omega
 have hf:t.fits es.size=true:=by
  simp only[SetTable.fits,Bool.and_eq_true,beq_iff_eq,decide_eq_true_eq]
  refine⟨hp,?_⟩
  unfold SetTable.fill
  rw[hdm,hp]
  simpa using hle
 have hturn:10*SetTable.turns t.mask<100000:=by
  unfold SetTable.turns
  rcases hm with e | e | e | e | e | e<;>rw[e]<;>decide
 have hst:∀x,(Tb.az t x (Option.getD none (t.probeStart (tupleKeyHash (aK P w) k)))).j=Tb.pm t.mask (tupleKeyHash (aK P w) k) x:=fun x=>Tb.tf t _ x
 unfold setAddHashed setAddHashedIn
 refine wpAny_holding (wpAny_bind (wpAny_setState_of ho hd hf ?_))
 dsimp only
 have hsc:byScan (.ref b) es=false:=rfl
 rw[hsc]
 simp only[Bool.false_eq_true,if_false]
 unfold setSearch
 rcases Classical.em (k∈ks)with hold | hold
 ·obtain⟨b0,hb0,hkb0⟩:=hin k hold
  obtain⟨i0,hi0⟩:=List.getElem?_of_mem hb0
  rw[Array.getElem?_toList]at hi0
  have hi0s:=(Array.getElem?_eq_some_iff.mp hi0).1
  obtain⟨j0,hj0⟩:∃j0,t.place[i0]?=some j0:=⟨_,getElem?_pos t.place i0 (by omega)⟩
  obtain⟨K,q1,q2,q3⟩:=hT.rch i0 j0 (tupleKeyHash (aK P w) k) hj0 (by rw[Array.getElem?_map,hi0];rfl)
  refine wpAny_bind (uG hu hk ho hd hf hm hdm (fun e he=>?_) ⟨b0,hi0,hkb0⟩ ?_ K 100000 none (by omega) q1 rfl (fun x hx=>?_) ?_)
  ·obtain⟨b',k',e1,_,e3,_⟩:=hall e he
   exact⟨b',k',by rw[e1],e3⟩
  ·dsimp only
   refine wpAny_pure ?_
   have e:s={ s with heap:=s.heap }:=by cases s;rfl
   rw[e]
   exact h s.heap _ ks (Heap.SameBut.refl a s.heap) hS (Nat.le_succ _) fun x=>⟨.inl,fun z=>z.elim id fun e=>e ▸ hold⟩
  ·rw[hst]
   obtain⟨i,e,_⟩:=Tb.pz hT.inc (q3 x hx)
   rw[e]
   intro z
   cases z
  ·rw[hst,q2]
   exact Tb.slot_mem hT.inc hj0
 ·obtain⟨K,q1,q2,q3⟩:=Tb.t9 hdm hm (by rw[hp];exact hle) (tupleKeyHash (aK P w) k)
  have hall':∀e∈es.toList,∃b' k',e.2=.ref b'/\IsTupleKey (aK P w) s.heap k' b'/\k'≠k:=fun e he=>by
   obtain⟨b',k',h1,h2,h3,_⟩:=hall e he
   exact⟨b',k',by rw[h1],h3,fun z=>hold (z ▸ h2)⟩
  refine wpAny_bind (yI hu hk ho hd hf hm hdm hall' K 100000 none (by omega) q1 rfl (fun x hx=>by rw[hst];exact q3 x hx) (by rw[hst];exact q2) ?_)
  rw[hst]
  dsimp only
  refine wpAny_bind (wpAny_setState_of ho hd hf ?_)
  dsimp only
  have hnm:=Tb.xr hT.inc q2
  have hTp:=hT.put q1 hnm (fun x hx=>Tb.xZ hdm (q3 x hx))
  have hput:(t.put (Tb.pm t.mask (tupleKeyHash (aK P w) k) K)).1.dummies = #[]:=by
   show(if SetTable.has t.dummies _=true then _ else t.dummies) = #[]
   rw[hdm,Tb.nu]
   rfl
  generalize Tb.pm t.mask (tupleKeyHash (aK P w) k) K=j at hTp hput
  have hT1:Tb.TOk t.mask (t.put j).1.place ((SetTable.insertAt es (t.put j).2 (tupleKeyHash (aK P w) k,Value.ref b)).map (·.1)):=by
   rw[ins_map]
   exact hTp
  have hins:∀e∈(SetTable.insertAt es (t.put j).2 (tupleKeyHash (aK P w) k,Value.ref b)).toList,∃b' k',e=(tupleKeyHash (aK P w) k',.ref b')/\k'∈k::ks/\IsTupleKey (aK P w) s.heap k' b'/\B b' k':=fun e he=>by
   rcases Tb.wJ he with rfl | he
   ·exact⟨b,k,rfl,List.mem_cons_self,hk,hB⟩
   ·obtain⟨b',k',z1,z2,z3,z4⟩:=hall e he
    exact⟨b',k',z1,List.mem_cons_of_mem _ z2,z3,z4⟩
  have hin':∀k'∈k::ks,∃b',(tupleKeyHash (aK P w) k',Value.ref b')∈(SetTable.insertAt es (t.put j).2 (tupleKeyHash (aK P w) k,Value.ref b)).toList/\IsTupleKey (aK P w) s.heap k' b':=fun k' hk'=>by
   rcases List.mem_cons.mp hk' with rfl | hk'
   ·exact⟨b,qk (.inl rfl),hk⟩
   ·obtain⟨b',z1,z2⟩:=hin k' hk'
    exact⟨b',qk (.inr z1),z2⟩
  have hnd':(k::ks).Nodup:=List.nodup_cons.mpr ⟨hold,hnd⟩
  have h':∀h',Heap.SameBut a s.heap h'->cW P w B h' a (k::ks)->Q true { s with heap:=h' }:=fun h2 sb hS'=>h h2 true _ sb hS' (Nat.le_refl _) fun x=>by rw[List.mem_cons];exact⟨fun z=>z.symm,fun z=>z.symm⟩
  have fin:∀c:Bool,((∀k'∈k::ks,∃x,Sum.inr x∈k')->(t.put j).1.plain=false\/c=false)->wpAny (model P w) A (do
    storeSet a (SetTable.insertAt es (t.put j).2 (tupleKeyHash (aK P w) k,Value.ref b)) (if c=true then(t.put j).1 else{ (t.put j).1 with plain:=false })
    if(!false && (if c=true then(t.put j).1 else{ (t.put j).1 with plain:=false }).tooFull)=true then do
     setRelay a (SetTable.grown (es.size+1))
     pure true
    else pure true) Q E s:=fun c hcp=>by
   refine zC (ks1:=k::ks) hnd' ho hex hd (Tb.lG _ _ _) ?_ ?_ ?_ (by omega) (by rw[List.length_cons,hlen]) ?_ hins hin' ?_ h'
   ·cases c<;>exact hput
   ·cases c<;>exact hm
   ·cases c<;>exact hfull
   ·cases c<;>exact hT1
   ·intro hx
    cases c
    ·rfl
    ·rcases hcp hx with z | z
     ·exact z
     ·cases z
  cases hpl':(t.put j).1.plain
  ·simp only[Bool.false_eq_true,if_false]
   exact wpAny_bind (wpAny_pure (fin true fun _=>.inl hpl'))
  ·simp only[if_true]
   rcases Classical.em (∃x,Sum.inr x∈k)with⟨x,hx⟩ | hx
   ·exact wpAny_bind (Ap hk hx (fin false fun _=>.inr rfl))
   ·exact wpAny_bind (Al hk fun c=>fin c fun hall=>absurd (hall k List.mem_cons_self) hx)
end
section
variable {P:Program} {w:World} {A:Around} {I:Addr} {fp wr:List Addr} {G:Array GenState->Array GenState->Prop} {n:Nat} {Pz:Nat->Value->Prop} {St:Nat->Shared->Prop}
theorem cW.moved{B:Addr->List Key->Prop}{h h':Heap}{a:Addr}{ks:List (List Key)}{wr:List Addr}(hS:cW P w B h a ks)(hk:∀b o,b∉wr->h.get? b=some o->h'.get? b=some o)(ha:a∉wr)(hw:∀b∈wr,∀o,h.get? b=some o->∃vs,o.data=.fields vs):cW P w B h' a ks:=by
 obtain⟨hnd,o,es,ep,t,ho,hex,hd,h1,h2,h3,h4,h5,hall,hin,hpl⟩:=hS
 have mv:∀k b,IsTupleKey (aK P w) h k b->IsTupleKey (aK P w) h' k b:=fun k b ⟨o',items,m,ho',hc,hd',hi⟩=>⟨o',items,m,hk b o' (fun hb=>by
   obtain⟨vs,hv⟩:=hw b hb o' ho'
   rw[hd']at hv
   cases hv) ho',hc,hd',hi⟩
 refine⟨hnd,o,es,ep,t,hk a o ha ho,hex,hd,h1,h2,h3,h4,h5,fun e he=>?_,fun k hk=>?_,hpl⟩
 ·obtain⟨b,k,z1,z2,z3,z4⟩:=hall e he
  exact⟨b,k,z1,z2,mv k b z3,z4⟩
 ·obtain⟨b,z1,z2⟩:=hin k hk
  exact⟨b,z1,mv k b z2⟩
theorem oI{B:Addr->List Key->Prop}(W:WalksS P w A.in1 I fp wr G n Pz St)(S:Addr)(hS:S∉fp)(hu:A.in1.units<cLine)(bs:List Addr)(kk:List (List Key))(hnk:kk.length=n)(hBk:∀(j:Nat) b k,bs[j]?=some b->kk[j]?=some k->B b k)(hsz:n<1400)
  (hval:∀i v,Pz i v->∃b,v=.ref b/\bs[i]?=some b) (hwr:∀i s,St i s->∀b∈wr,∀o,s.heap.get? b=some o->∃vs,o.data=.fields vs) {R:Result->Shared->Prop} :
  ∀(m i:Nat) (s:Shared) (D:List (List Key)),n-i=m->i<=n->St i s->cW P w B s.heap S D->D.length<=i->(∀k,k∈D↔k∈kk.take i)->(∀(j:Nat) (b:Addr) (k:List Key),bs[j]?=some b->kk[j]?=some k->IsTupleKey (aK P w) s.heap k b) →
   (∀s' D,Moved (S::wr) G s s'->cW P w B s'.heap S D->(∀k,k∈D↔k∈kk)->R (.ok (.ret .none)) s') →
   codeAny (model P w) A (.builtin "set.update.loop" ⟨[.ref S,.ref I],[]⟩) R s:=by
 have hSw:S∉wr:=fun z=>hS (W.sub _ z)
 have more:∀b∈wr,b∈S::wr:=fun b z=>List.mem_cons_of_mem _ z
 intro m
 induction m with
 | zero=>
  intro i s D hm hi hst hset _ hD hkeys hR
  obtain rfl:i=n:=by omega
  refine codeAny_builtin F.entry_set_update_loop ?_
  rw[Around.under_plainId F.plain_set_update_loop _]
  show wpAny _ A.in1 (pyNext (.ref I) >>= _) _ _ s
  refine wpAny_bind (W.done s _ _ hst fun s' mv=>?_)
  rw[←hnk,List.take_length]at hD
  exact wpAny_pure (hR s' D (mv.mono more) (hset.moved mv.heap hSw (hwr _ s hst)) hD)
 | succ m ih=>
  intro i s D hm hi hst hset hDl hD hkeys hR
  have hlt:i<n:=by omega
  refine codeAny_builtin F.entry_set_update_loop ?_
  rw[Around.under_plainId F.plain_set_update_loop _]
  show wpAny _ A.in1 (pyNext (.ref I) >>= _) _ _ s
  refine wpAny_bind (W.item i s _ _ hlt hst fun v s' hP hst' mv=>?_)
  obtain⟨b,rfl,hb⟩:=hval i v hP
  have hki:kk[i]?=some kk[i]:=List.getElem?_eq_getElem (by omega)
  have hset':=hset.moved mv.heap hSw (hwr _ s hst)
  have hkeys':∀(j:Nat) (b:Addr) (k:List Key),bs[j]?=some b->kk[j]?=some k->IsTupleKey (aK P w) s'.heap k b:=fun j b k e1 e2=>by
   obtain⟨o',items,q,ho',hc,hd',hi'⟩:=hkeys j b k e1 e2
   refine⟨o',items,q,mv.heap b o' (fun hbw=>?_) ho',hc,hd',hi'⟩
   obtain⟨vs,hv⟩:=hwr _ s hst b hbw o' ho'
   rw[hd']at hv
   cases hv
  show wpAny _ A.in1 (holding [Value.ref b] (setAdd S (.ref b)) >>= _) _ _ s'
  refine wpAny_bind (wpAny_holding ?_)
  unfold setAdd
  refine wpAny_holding (wpAny_bind (wpAny_pyHash_tuple hu (hkeys' i b _ hb hki) ?_))
  refine uc (s:={ s' with toks:=s'.toks+(kk[i].length+1) }) hu (hkeys' i b _ hb hki) (hBk i b _ hb hki) hset' (by omega) fun h' r D1 sb hset2 hD1l hD1=>?_
  have htk:∀k,k∈D1↔k∈kk.take (i+1):=fun k=>by
   rw[hD1,hD k,List.take_add_one,hki,List.mem_append]
   simp
  obtain⟨_,oS,esS,epS,tS,hoS,_,hdS,_⟩:=id hset'
  refine wpAny_pure ⟨plainId_quiet F.plain_set_update_loop _,ih (i+1) _ _ (by omega) hlt (W.frame _ s' _ _ hst' (Nat.le_add_right _ _) fun c hc o e=>?_) hset2 (by omega) htk (fun j c k e1 e2=>gw (hkeys' j c k e1 e2) hoS hdS sb) fun s'' D2 mv2 hS2=>?_⟩
  ·rw[sb.2 c (fun z:c=S=>hS (z ▸ hc))]
   exact e
  ·refine hR s'' D2 (Moved.trans W.gtrans ((mv.mono more).then_heap (Nat.le_add_right _ _) fun c o hc e=>?_) mv2) hS2
   rw[sb.2 c (fun z:c=S=>hc (by rw[z];exact List.mem_cons_self))]
   exact e
end
end L2
set_option Elab.async false
set_option linter.all false
set_option maxRecDepth 100000
set_option maxHeartbeats 4000000
namespace L2
open PySem PySem.Spec PyProof.Rows
section
variable {P:Program} {w:World} {A:Around} {E:Value->Shared->Prop} {s:Shared}
abbrev aZ(led:Bool):Obj:={ cls:=.type "set",dict:=none,data:=.set #[] 0 (.fresh 0 0 led) }
def ig(P:Program)(w:World)(s:Shared)(bs:List Addr)(kk D:List (List Key))(h':Heap):Prop:=
 cW P w (fun b k=>∃j:Nat,bs[j]?=some b/\kk[j]?=some k) h' s.heap.objs.size D/\(∀k,k∈D↔k∈kk)/\∀b o,b<s.heap.objs.size->s.heap.get? b=some o->h'.get? b=some o
theorem zr:isSubtype (.type "tuple") (.type "frozenset")=pure false:=by
 rw[isSubtype_type]
 kernel_rfl
theorem vk{t:Addr}{ys:Array Value}{bs:List Addr}{kk:List (List Key)}{Q:Value->Shared->Prop}(hA:A.handled=none)(hu:A.units+5<cLine)(gt:s.heap.IsTuple t ys)(hb:ys.toList=bs.map Value.ref)
  (hn:kk.length=ys.size) (hz:ys.size<1400) (hkey:∀(j:Nat) (b:Addr) (k:List Key),bs[j]?=some b->kk[j]?=some k->IsTupleKey (aK P w) s.heap k b)
  (h:∀(h':Heap) (tk:Nat) (D:List (List Key)),ig P w s bs kk D h'->Q (.ref s.heap.objs.size) { s with heap:=h',toks:=tk }):wpAny (model P w) A (call (.type "set") [.ref t]) Q E s:=by
 have x1:=F.called_set.notType
 have x2:=F.called_set.canCreate
 have x3:=F.typeCall_set_1 (.ref t)
 have x4:=F.called_set.made
 have x5:=F.called_set.sub
 obtain⟨c,tl,x6⟩:=F.called_set.mro
 refine wpAny_call (codeAny_of_tree ?_)
 show wpAny _ _ (callAny (.type "set") _) _ _ _
 refine wpAny_pure ⟨Code.quiet_builtin _ (by decide +kernel),codeAny_builtin F.entry_type_call ?_⟩
 rw[Around.under_plain (weight_type_call_type "set" [.ref t] []) rfl]
 repeat (any_goals (first | assumption | wp_step))
 refine codeAny_mono (code_set_new_1 (.ref t) (E:=E) (Q₁:=fun v s1=>∃led,v=.ref s.heap.objs.size/\s1={ s with heap:=s.heap.push (aZ led) }) fun led=>⟨led,rfl,rfl⟩) fun r s1 hr=>?_
 cases r with
 | error e=>exact hr
 | ok fl=>
  cases fl with
  | ret v=>
   obtain⟨led,rfl,rfl⟩:=hr
   have gS:(s.heap.push (aZ led)).get? s.heap.objs.size=some (aZ led):=Heap.get?_push_size _ rfl
   have hT:Shared.TypeIs { s with heap:=s.heap.push (aZ led) } (.ref s.heap.objs.size) "set":=⟨_,gS,rfl⟩
   have x7:=F.called_set.init.lookup
   have x8:=F.called_set.init.bind (.ref s.heap.objs.size)
   repeat (any_goals (first | assumption | wp_step))
   refine codeAny_mono (codeAny_call_builtin (R:=wants (fun r s2=>r=.none/\∃h' tk D,s2={ s with heap:=h',toks:=tk }/\ig P w s bs kk D h') E) F.called_set.init.plain F.entry_set_init (check_set_init_1 hT ?_)) fun r2 s2 hr2=>?_
   ·have g1:(s.heap.push (aZ led)).IsTuple t ys:=gt.push _
    have hlt:t<s.heap.objs.size:=by
     obtain⟨o,ho,_⟩:=gt
     exact Heap.lt_size ho
    obtain⟨ol,hol,hcl,nl,hdl⟩:=id g1
    obtain⟨c0,d0,dt,sl⟩:=ol
    simp only at hcl hdl
    subst hcl hdl
    have y1:=F.sub_tuple_set
    have y2:=zr
    have y3:(Value.type "tuple" == Value.type "dict")=false:=by decide
    unfold Builtin.«set.__init__» noKeywords Builtin.Frozenset.updateFrom
    generalize hit:pyIter=PI
    wp_walk
    subst hit
    refine wpAny_pyIter_tuple g1 ?_
    refine wpAny_bind (wpAny_runValue ?_)
    have e1:(s.heap.push (aZ led)).objs.size=s.heap.objs.size+1:=Heap.size_push _ _
    have hA3:A.in1.in1.in1.handled=none:=by simp[hA]
    have hne:t≠(s.heap.push (aZ led)).objs.size:=by
     rw[e1]
     exact Nat.ne_of_lt (Nat.lt_succ_of_lt hlt)
    have hSf:s.heap.objs.size∉[(s.heap.push (aZ led)).objs.size,t]:=by
     intro z
     rcases List.mem_cons.mp z with z | z
     ·rw[e1]at z
      exact Nat.ne_of_lt (Nat.lt_succ_self _) z
     ·exact Nat.ne_of_gt hlt (List.mem_singleton.mp z)
    have hbs:∀i:Nat,ys[i]?=(bs[i]?).map Value.ref:=fun i=>by
     rw[←Array.getElem?_toList,hb,List.getElem?_map]
    refine oI (B:=fun b k=>∃j:Nat,bs[j]?=some b/\kk[j]?=some k) ((Walks.tuple hA3 _ t hne ys).toS) s.heap.objs.size hSf (by simp only[Around.in1_units];omega) bs kk hn (fun j b k q1 q2=>⟨j,q1,q2⟩) hz (fun i v hv=>?_) (fun i s' hs b hb' o ho=>?_) (ys.size-0) 0 _ [] (by omega) (Nat.zero_le _) ⟨⟨_,Heap.get?_push_size _ rfl,rfl,rfl⟩,g1.push _⟩ ⟨List.nodup_nil,aZ led,#[],0,_,Heap.get?_push_of_some _ gS,⟨rfl,rfl,rfl⟩,rfl,rfl,.inl rfl,(show 0*5<7*3 by decide),rfl,(by rw[Array.map_empty];exact Tb.TOk.nil 7),fun e he=>(by simp at he),fun k hk=>(by cases hk),fun _=>.inl rfl⟩ (Nat.le_refl _) (fun k=>by simp) (fun j b k e1 e2=>?_) fun s' D mv hS' hD=>?_
    ·have hv':ys[i]?=some v:=hv
     rw[hbs i]at hv'
     obtain⟨b,e,rfl⟩:=Option.map_eq_some_iff.mp hv'
     exact⟨b,rfl,e⟩
    ·cases List.mem_singleton.mp hb'
     obtain⟨o',ho',_,hd'⟩:=hs.1
     rw[ho']at ho
     cases ho
     exact⟨_,hd'⟩
    ·obtain⟨o,items,q,ho,r⟩:=hkey j b k e1 e2
     exact⟨o,items,q,Heap.get?_push_of_some _ (Heap.get?_push_of_some _ ho),r⟩
    ·obtain⟨h',g',d',tk',os'⟩:=s'
     have q1:g'=s.gens:=mv.gens
     have q2:d'=s.drawn:=mv.drawn
     have q3:os'=s.os:=mv.os
     subst q1 q2 q3
     show wpAny _ _ _ _ _ _
     refine wpAny_pure ?_
     show wpAny _ _ (ret Value.none) _ _ _
     refine wpAny_pure ⟨rfl,h',tk',D,rfl,hS',hD,fun b o hb e=>mv.heap b o (fun z=>?_) (Heap.get?_push_of_some _ (Heap.get?_push_of_some _ e))⟩
     rcases List.mem_cons.mp z with z | z
     ·exact Nat.ne_of_lt hb z
     ·have z:=List.mem_singleton.mp z
      rw[e1]at z
      exact Nat.ne_of_lt (Nat.lt_succ_of_lt hb) z
   ·cases r2 with
    | error e=>exact hr2
    | ok f2=>
     cases f2 with
     | ret r=>
      obtain⟨rfl,h',tk,D,rfl,hS'⟩:=hr2
      repeat (any_goals (first | assumption | wp_step))
      exact h _ _ D hS'
     | _=>exact hr2.elim
  | _=>exact hr.elim
theorem ye{t:Addr}{ys:Array Value}{bs:List Addr}{kk:List (List Key)}{Q:Value->Shared->Prop}(hA:A.handled=none)(hu:A.units+5<cLine)(gt:s.heap.IsList t ys)(hb:ys.toList=bs.map Value.ref)
  (hn:kk.length=ys.size) (hz:ys.size<1400) (hkey:∀(j:Nat) (b:Addr) (k:List Key),bs[j]?=some b->kk[j]?=some k->IsTupleKey (aK P w) s.heap k b)
  (h:∀(h':Heap) (tk:Nat) (D:List (List Key)),ig P w s bs kk D h'->Q (.ref s.heap.objs.size) { s with heap:=h',toks:=tk }):wpAny (model P w) A (call (.type "set") [.ref t]) Q E s:=by
 have x1:=F.called_set.notType
 have x2:=F.called_set.canCreate
 have x3:=F.typeCall_set_1 (.ref t)
 have x4:=F.called_set.made
 have x5:=F.called_set.sub
 obtain⟨c,tl,x6⟩:=F.called_set.mro
 refine wpAny_call (codeAny_of_tree ?_)
 show wpAny _ _ (callAny (.type "set") _) _ _ _
 refine wpAny_pure ⟨Code.quiet_builtin _ (by decide +kernel),codeAny_builtin F.entry_type_call ?_⟩
 rw[Around.under_plain (weight_type_call_type "set" [.ref t] []) rfl]
 repeat (any_goals (first | assumption | wp_step))
 refine codeAny_mono (code_set_new_1 (.ref t) (E:=E) (Q₁:=fun v s1=>∃led,v=.ref s.heap.objs.size/\s1={ s with heap:=s.heap.push (aZ led) }) fun led=>⟨led,rfl,rfl⟩) fun r s1 hr=>?_
 cases r with
 | error e=>exact hr
 | ok fl=>
  cases fl with
  | ret v=>
   obtain⟨led,rfl,rfl⟩:=hr
   have gS:(s.heap.push (aZ led)).get? s.heap.objs.size=some (aZ led):=Heap.get?_push_size _ rfl
   have hT:Shared.TypeIs { s with heap:=s.heap.push (aZ led) } (.ref s.heap.objs.size) "set":=⟨_,gS,rfl⟩
   have x7:=F.called_set.init.lookup
   have x8:=F.called_set.init.bind (.ref s.heap.objs.size)
   repeat (any_goals (first | assumption | wp_step))
   refine codeAny_mono (codeAny_call_builtin (R:=wants (fun r s2=>r=.none/\∃h' tk D,s2={ s with heap:=h',toks:=tk }/\ig P w s bs kk D h') E) F.called_set.init.plain F.entry_set_init (check_set_init_1 hT ?_)) fun r2 s2 hr2=>?_
   ·have g1:(s.heap.push (aZ led)).IsList t ys:=gt.push _
    have hlt:t<s.heap.objs.size:=by
     obtain⟨o,ho,_⟩:=gt
     exact Heap.lt_size ho
    obtain⟨ol,hol,hcl,nl,hdl⟩:=id g1
    obtain⟨c0,d0,dt,sl⟩:=ol
    simp only at hcl hdl
    subst hcl hdl
    have y1:=F.sub_list_set
    have y2:=F.sub_list_frozenset
    have y3:(Value.type "list" == Value.type "dict")=false:=by decide
    unfold Builtin.«set.__init__» noKeywords Builtin.Frozenset.updateFrom
    generalize hit:pyIter=PI
    wp_walk
    subst hit
    refine wpAny_pyIter_list g1 ?_
    refine wpAny_bind (wpAny_runValue ?_)
    have e1:(s.heap.push (aZ led)).objs.size=s.heap.objs.size+1:=Heap.size_push _ _
    have hA3:A.in1.in1.in1.handled=none:=by simp[hA]
    have hne:t≠(s.heap.push (aZ led)).objs.size:=by
     rw[e1]
     exact Nat.ne_of_lt (Nat.lt_succ_of_lt hlt)
    have hSf:s.heap.objs.size∉[(s.heap.push (aZ led)).objs.size,t]:=by
     intro z
     rcases List.mem_cons.mp z with z | z
     ·rw[e1]at z
      exact Nat.ne_of_lt (Nat.lt_succ_self _) z
     ·exact Nat.ne_of_gt hlt (List.mem_singleton.mp z)
    have hbs:∀i:Nat,ys[i]?=(bs[i]?).map Value.ref:=fun i=>by
     rw[←Array.getElem?_toList,hb,List.getElem?_map]
    refine oI (B:=fun b k=>∃j:Nat,bs[j]?=some b/\kk[j]?=some k) ((Walks.list hA3 _ t hne ys).toS) s.heap.objs.size hSf (by simp only[Around.in1_units];omega) bs kk hn (fun j b k q1 q2=>⟨j,q1,q2⟩) hz (fun i v hv=>?_) (fun i s' hs b hb' o ho=>?_) (ys.size-0) 0 _ [] (by omega) (Nat.zero_le _) ⟨⟨_,Heap.get?_push_size _ rfl,rfl,rfl⟩,g1.push _⟩ ⟨List.nodup_nil,aZ led,#[],0,_,Heap.get?_push_of_some _ gS,⟨rfl,rfl,rfl⟩,rfl,rfl,.inl rfl,(show 0*5<7*3 by decide),rfl,(by rw[Array.map_empty];exact Tb.TOk.nil 7),fun e he=>(by simp at he),fun k hk=>(by cases hk),fun _=>.inl rfl⟩ (Nat.le_refl _) (fun k=>by simp) (fun j b k e1 e2=>?_) fun s' D mv hS' hD=>?_
    ·have hv':ys[i]?=some v:=hv
     rw[hbs i]at hv'
     obtain⟨b,e,rfl⟩:=Option.map_eq_some_iff.mp hv'
     exact⟨b,rfl,e⟩
    ·cases List.mem_singleton.mp hb'
     obtain⟨o',ho',_,hd'⟩:=hs.1
     rw[ho']at ho
     cases ho
     exact⟨_,hd'⟩
    ·obtain⟨o,items,q,ho,r⟩:=hkey j b k e1 e2
     exact⟨o,items,q,Heap.get?_push_of_some _ (Heap.get?_push_of_some _ ho),r⟩
    ·obtain⟨h',g',d',tk',os'⟩:=s'
     have q1:g'=s.gens:=mv.gens
     have q2:d'=s.drawn:=mv.drawn
     have q3:os'=s.os:=mv.os
     subst q1 q2 q3
     show wpAny _ _ _ _ _ _
     refine wpAny_pure ?_
     show wpAny _ _ (ret Value.none) _ _ _
     refine wpAny_pure ⟨rfl,h',tk',D,rfl,hS',hD,fun b o hb e=>mv.heap b o (fun z=>?_) (Heap.get?_push_of_some _ (Heap.get?_push_of_some _ e))⟩
     rcases List.mem_cons.mp z with z | z
     ·exact Nat.ne_of_lt hb z
     ·have z:=List.mem_singleton.mp z
      rw[e1]at z
      exact Nat.ne_of_lt (Nat.lt_succ_of_lt hb) z
   ·cases r2 with
    | error e=>exact hr2
    | ok f2=>
     cases f2 with
     | ret r=>
      obtain⟨rfl,h',tk,D,rfl,hS'⟩:=hr2
      repeat (any_goals (first | assumption | wp_step))
      exact h _ _ D hS'
     | _=>exact hr2.elim
  | _=>exact hr.elim
end
end L2
set_option Elab.async false
set_option linter.all false
set_option maxRecDepth 100000
set_option maxHeartbeats 4000000
namespace L2
open PySem PySem.Spec PyProof.Rows
namespace SF
theorem xb:entryFor table "set.__iter__" = some Builtin.«frozenset.__iter__»:=entryFor_alias (id':="frozenset.__iter__") (by kernel_rfl) rfl (by decide +kernel) (by kernel_rfl)
theorem vK(a:Value):argsOk "set.__iter__" ⟨[a],[]⟩:=by unfold argsOk;kernel_rfl
theorem slot_next:Slot "set_iterator" "__next__" "set_iterator.__next__":=
 .of (owner:="set_iterator") (n:="__next__") (by rw[typeLookup_type,builtinLookup_eq_fast];kernel_rfl) (by decide +kernel) (by decide +kernel) (by decide +kernel)
  (by first | exact .inl (by decide +kernel) | exact .inr (by decide +kernel)) (by rw[isSubtype_type];kernel_rfl)
theorem entry_next:entryFor table "set_iterator.__next__" = some Builtin.«set_iterator.__next__»:=entryFor_of_fast (by kernel_rfl)
theorem args_next(a:Value):argsOk "set_iterator.__next__" ⟨[a],[]⟩:=by unfold argsOk;kernel_rfl
theorem qx:Slot "set_iterator" "__iter__" "set_iterator.__iter__":=
 .of (owner:="set_iterator") (n:="__iter__") (by rw[typeLookup_type,builtinLookup_eq_fast];kernel_rfl) (by decide +kernel) (by decide +kernel) (by decide +kernel)
  (by first | exact .inl (by decide +kernel) | exact .inr (by decide +kernel)) (by rw[isSubtype_type];kernel_rfl)
theorem xc:entryFor table "set_iterator.__iter__" = some Builtin.«dict_keyiterator.__iter__»:=entryFor_alias (id':="dict_keyiterator.__iter__") (by kernel_rfl) rfl (by decide +kernel) (by kernel_rfl)
theorem tW(a:Value):argsOk "set_iterator.__iter__" ⟨[a],[]⟩:=by unfold argsOk;kernel_rfl
end SF
section
variable {P:Program} {w:World} {A:Around} {E:Value->Shared->Prop} {s:Shared}
theorem sW{α:Type}:∀{l:List α} {i:Nat} (h:i<l.length),(l[i]::l.eraseIdx i).Perm l
 | [],i,h=>by cases h
 | x::l,0,h=>.refl _
 | x::l,i+1,h=>by
  have:=sW (l:=l) (i:=i) (Nat.lt_of_succ_lt_succ h)
  exact(List.Perm.swap _ _ _).trans (this.cons x)
theorem sD{α:Type}(next:Nat->Nat):∀(fuel k:Nat) (left:List α) (out:Array α),fuel=left.length->(pickOrder.go next fuel k left out).toList.Perm (out.toList++left)
 | 0,k,left,out,h=>by
  obtain rfl:=List.length_eq_zero_iff.mp h.symm
  unfold pickOrder.go
  rw[List.append_nil]
 | fuel+1,k,left,out,h=>by
  unfold pickOrder.go
  have hlt:next k % left.length<left.length:=Nat.mod_lt _ (by omega)
  rw[List.getElem?_eq_getElem hlt]
  dsimp only
  refine(sD next fuel (k+1) _ _ (by rw[List.length_eraseIdx_of_lt hlt];omega)).trans ?_
  rw[Array.toList_push,List.append_assoc]
  exact(sW hlt).append_left _
theorem iA{α:Type}(next:Nat->Nat)(xs:Array α):(pickOrder next xs).toList.Perm xs.toList:=by
 have:=sD next xs.size 0 xs.toList #[] (by simp)
 rw[List.nil_append]at this
 exact this
end
end L2
set_option Elab.async false
set_option linter.all false
set_option maxRecDepth 100000
set_option maxHeartbeats 4000000
namespace L2
open PySem PySem.Spec PyProof.Rows
section
variable {P:Program} {w:World} {A:Around} {E:Value->Shared->Prop} {s:Shared}
abbrev bJ(a:Addr)(first:Value)(i n ep:Nat):Obj:={ cls:=.type "set_iterator",data:=.fields #[first,rawInt i,.ref a,rawInt n,rawInt ep] }
theorem pX{it:Addr}{h1:Heap}{Q:Option Value->Shared->Prop}(hh:A.handled=none)(he:Heap.ExtBut it s.heap h1)(hQ:∀h',Heap.ExtBut it s.heap h'->Q none { s with heap:=h' }):
  wpAny (model P w) A.in1 (newExc (.type "StopIteration") [] >>= raiseNew) (fun r s'=>∃v,r=Fin.done (.ret v)/\wpAny (model P w) A (pure (some v)) Q E s') (fun e s'=>wpAny (model P w) A (do if ←isInstance e (.type "StopIteration")then pure none else throw e) Q E s') { s with heap:=h1 }:=by
 refine wpAny_bind ?_
 simp only[newExc,newTuple]
 refine wpAny_bind (wpAny_newObj_type ?_ (by size_fits))
 refine wpAny_bind (m:=firstArgMember _ _) (wpAny_of_eq (a:=Value.none) (by first | rfl | (simp only[firstArgMember];rfl)) ?_)
 refine wpAny_newObj_type ?_ (by size_fits)
 simp only[raiseNew]
 refine wpAny_bind (wpAny_handled ?_)
 rw[show A.in1.handled=none from hh]
 refine wpAny_bind (wpAny_pure (wpAny_throw ?_))
 refine wpAny_bind (wpAny_isInstance (T:="StopIteration") (b:=true) ⟨_,Heap.get?_push_size _ rfl,rfl⟩ isSubtype_stop ?_)
 exact wpAny_pure (hQ _ ((he.push _).push _))
theorem iS{it a:Addr}{first x:Value}{i n ep k:Nat}{f':Array Value}{h:Heap}(ho:h.get? it=some (bJ a first i n ep))(hf:(#[first,rawInt i,.ref a,rawInt n,rawInt ep]:Array Value).setIfInBounds k x=f'):
  (h.update it (Obj.mapFields (·.setIfInBounds k x))).get? it=some { cls:=.type "set_iterator",data:=.fields f' }:=by
 have:=Heap.get?_update_self (Obj.mapFields (·.setIfInBounds k x)) ho (Obj.isFreed_of_fields (Obj.data_mapFields rfl _))
 rw[this,←hf]
 rfl
theorem ub{it a:Addr}{i ep:Nat}{o:Obj}{es:Array (Int×Value)}{t:SetTable}{Q:Option Value->Shared->Prop}(hT:w.params.followText "set-order" = true)(hit:s.heap.get? it=some (bJ a (rawInt 0) i es.size ep))(ho:s.heap.get? a=some o)(hd:o.data=.set es ep t)(hf:t.fits es.size=true)
  {x:Int×Value} (hx:(pickOrder (w.params.setOrder a ep) es)[i]?=some x) (hQ:∀h',h'.get? it=some (bJ a (rawInt 0) (i+1) es.size ep)->Heap.SameBut it s.heap h'->Q (some x.2) { s with heap:=h' }):wpAny (model P w) A (pyNext (.ref it)) Q E s:=by
 have T:s.TypeIs (.ref it) "set_iterator":=⟨_,hit,rfl⟩
 unfold pyNext
 refine wpAny_bind (wpAny_attempt (wpAny_callSpecial?_slot (name:=Str.ofString "__next__") T SF.slot_next (wpAny_call_entry SF.slot_next T SF.entry_next ?_ (SF.args_next _))))
 show wpAny _ _ (fieldsOf (.ref it) >>= _) _ _ s
 refine wpAny_bind (wpAny_fieldsOf hit rfl ?_)
 show wpAny _ _ (setEntries a >>= _) _ _ s
 unfold setEntries
 refine wpAny_bind (wpAny_bind (wpAny_setState_of ho hd hf (wpAny_pure ?_)))
 rw[if_neg (by simp)]
 show wpAny _ _ (setNext a 0 _ _ >>= _) _ _ s
 unfold setNext
 refine wpAny_bind (wpAny_bind (wpAny_setState_of ho hd hf ?_))
 dsimp only
 unfold setsByText
 refine wpAny_bind (wpAny_bind (wpAny_askSetting (wpAny_pure ?_)))
 rw[show (model P w).w.params.followText "set-order" = true from hT]
 simp only[if_true]
 rw[if_neg (by simp)]
 unfold setWalk
 refine wpAny_bind (wpAny_bind (wpAny_setState_of ho hd hf ?_))
 dsimp only
 unfold setsByText
 refine wpAny_bind (wpAny_bind (wpAny_askSetting (wpAny_pure ?_)))
 rw[show (model P w).w.params.followText "set-order" = true from hT]
 simp only[if_true]
 refine wpAny_bind (wpAny_askSetting (wpAny_pure ?_))
 rw[Int.toNat_natCast]
 have hx':(pickOrder ((model P w).w.params.setOrder a ep) es)[i]?=some x:=hx
 rw[hx']
 refine wpAny_pure ?_
 dsimp only[Option.map_some,Option.map_none]
 refine wpAny_bind (wpAny_setField hit rfl (by simp) ?_)
 have e1:=iS (k:=0) (x:=rawInt (0:Nat)) hit rfl
 have e1':(s.heap.update it (Obj.mapFields (·.setIfInBounds 0 (rawInt (0:Nat))))).get? it=some (bJ a (rawInt 0) i es.size ep):=e1
 refine wpAny_bind (wpAny_setField (s:={ s with heap:=s.heap.update it (Obj.mapFields (·.setIfInBounds 0 (rawInt (0:Nat)))) }) e1' rfl (by simp) ?_)
 have e2:=iS (k:=1) (x:=rawInt ((i:Int)+1)) e1' rfl
 refine wpAny_pure ⟨_,rfl,wpAny_pure (hQ _ ?_ ((Heap.SameBut.update ..).trans (Heap.SameBut.update ..)))⟩
 exact e2
theorem uF{it a:Addr}{i ep:Nat}{o:Obj}{es:Array (Int×Value)}{t:SetTable}{Q:Option Value->Shared->Prop}(hh:A.handled=none)(hT:w.params.followText "set-order" = true)(hit:s.heap.get? it=some (bJ a (rawInt 0) i es.size ep))(ho:s.heap.get? a=some o)(hd:o.data=.set es ep t)(hf:t.fits es.size=true)
  (hx:(pickOrder (w.params.setOrder a ep) es)[i]?=none) (hQ:∀h',Heap.ExtBut it s.heap h'->Q none { s with heap:=h' }):wpAny (model P w) A (pyNext (.ref it)) Q E s:=by
 have T:s.TypeIs (.ref it) "set_iterator":=⟨_,hit,rfl⟩
 unfold pyNext
 refine wpAny_bind (wpAny_attempt (wpAny_callSpecial?_slot (name:=Str.ofString "__next__") T SF.slot_next (wpAny_call_entry SF.slot_next T SF.entry_next ?_ (SF.args_next _))))
 show wpAny _ _ (fieldsOf (.ref it) >>= _) _ _ s
 refine wpAny_bind (wpAny_fieldsOf hit rfl ?_)
 show wpAny _ _ (setEntries a >>= _) _ _ s
 unfold setEntries
 refine wpAny_bind (wpAny_bind (wpAny_setState_of ho hd hf (wpAny_pure ?_)))
 rw[if_neg (by simp)]
 show wpAny _ _ (setNext a 0 _ _ >>= _) _ _ s
 unfold setNext
 refine wpAny_bind (wpAny_bind (wpAny_setState_of ho hd hf ?_))
 dsimp only
 unfold setsByText
 refine wpAny_bind (wpAny_bind (wpAny_askSetting (wpAny_pure ?_)))
 rw[show (model P w).w.params.followText "set-order" = true from hT]
 simp only[if_true]
 rw[if_neg (by simp)]
 unfold setWalk
 refine wpAny_bind (wpAny_bind (wpAny_setState_of ho hd hf ?_))
 dsimp only
 unfold setsByText
 refine wpAny_bind (wpAny_bind (wpAny_askSetting (wpAny_pure ?_)))
 rw[show (model P w).w.params.followText "set-order" = true from hT]
 simp only[if_true]
 refine wpAny_bind (wpAny_askSetting (wpAny_pure ?_))
 rw[Int.toNat_natCast]
 have hx':(pickOrder ((model P w).w.params.setOrder a ep) es)[i]?=none:=hx
 rw[hx']
 refine wpAny_pure ?_
 dsimp only[Option.map_some,Option.map_none]
 refine wpAny_bind (wpAny_setField hit rfl (by simp) ?_)
 exact pX (s:=s) (it:=it) hh (Heap.SameBut.update ..).extBut hQ
theorem oa{it a:Addr}{first:Value}{i n ep:Nat}{Q:Value->Shared->Prop}(hit:s.heap.get? it=some (bJ a first i n ep))(h:Q (.ref it) s):wpAny (model P w) A (pyIter (.ref it)) Q E s:=by
 have T:s.TypeIs (.ref it) "set_iterator":=⟨_,hit,rfl⟩
 refine wpAny_pyIter_slot T SF.qx (wpAny_call_entry SF.qx T SF.xc ?_ (SF.tW _))
 show wpAny _ _ (ret (.ref it)) _ _ s
 exact wpAny_pure ⟨_,rfl,"set_iterator",_,T,SF.slot_next.lookup,h⟩
theorem zd(hh:A.handled=none)(hT:w.params.followText "set-order" = true)(I a:Addr)(hne:a≠I){o:Obj}{es:Array (Int×Value)}{ep:Nat}{t:SetTable}(hd:o.data=.set es ep t)(hf:t.fits es.size=true):
  Walks P w A I [I,a] [I] es.size (fun i v=>∃x,(pickOrder (w.params.setOrder a ep) es)[i]?=some x/\v=x.2) (fun i h=>h.get? I=some (bJ a (rawInt 0) i es.size ep)/\h.get? a=some o) where
 sub:=fun b hb=>by simp at hb;simp[hb]
 frame:=fun _ _ _ st hk=>⟨hk I (by simp) _ st.1,hk a (by simp) _ st.2⟩
 item:=fun i s Q E hi st hQ=>by
  have hl:(pickOrder (w.params.setOrder a ep) es).size=es.size:=by
   rw[←Array.length_toList,(iA _ es).length_eq,Array.length_toList]
  have hx:=getElem?_pos (pickOrder (w.params.setOrder a ep) es) i (by omega)
  refine ub hT st.1 st.2 hd hf hx fun h' hit' sb=>?_
  exact hQ _ h' s.toks ⟨_,hx,rfl⟩ ⟨hit',(sb.2 a hne).trans st.2⟩ fun b o hb e=>sb.extBut b o (fun h=>hb (by simp[h])) e
 done:=fun s Q E st hQ=>by
  have hl:(pickOrder (w.params.setOrder a ep) es).size=es.size:=by
   rw[←Array.length_toList,(iA _ es).length_eq,Array.length_toList]
  exact uF hh hT st.1 st.2 hd hf (Array.getElem?_eq_none (by omega)) fun h' he'=>hQ h' s.toks fun b o hb e=>he' b o (fun h=>hb (by simp[h])) e
 self:=fun _ _ _ _ st hQ=>oa st.1 hQ
end
end L2
set_option Elab.async false
set_option linter.all false
set_option maxRecDepth 100000
set_option maxHeartbeats 4000000
namespace PyProof.Rows
open PySem
section
variable {prog:Program} {w:World} {A:Around} {E:Value->Shared->Prop} {s:Shared} {κ:SortKind} {X:Keyed->Prop}
open Classical in
end
end PyProof.Rows
set_option Elab.async false
set_option linter.all false
set_option maxRecDepth 100000
set_option maxHeartbeats 4000000
namespace L2
open PySem PySem.Spec PyProof.Rows
section
variable {P:Program} {w:World} {A:Around} {E:Value->Shared->Prop} {s:Shared}
theorem wx:Slot "set" "__len__" "set.__len__":=
 .of (owner:="set") (n:="__len__") (by rw[typeLookup_type,builtinLookup_eq_fast];kernel_rfl) (by decide +kernel) (by decide +kernel) (by decide +kernel)
  (by first | exact .inl (by decide +kernel) | exact .inr (by decide +kernel)) (by rw[isSubtype_type];kernel_rfl)
theorem sub_set_set:isSubtype (.type "set") (.type "set")=pure true:=by rw[isSubtype_type];kernel_rfl
theorem split_len:splitId "set.__len__" = some ("set","__len__"):=by kernel_rfl
theorem As{a:Addr}{Q:Bool->Shared->Prop}(T:s.TypeIs (.ref a) "set")(h:Q false s):wpAny (model P w) A (Builtin.List.listLengthHint (.ref a)) Q E s:=by
 unfold Builtin.List.listLengthHint
 refine wpAny_bind (wpAny_specialOf T wx.lookup ?_)
 dsimp only
 rw[split_len]
 dsimp only
 refine wpAny_bind (wpAny_isInstance (T:="set") (b:=true) T sub_set_set ?_)
 simp only[Bool.not_true,Bool.false_eq_true,if_false]
 rw[if_pos (by first | rfl | decide +kernel | kernel_rfl)]
 refine wpAny_bind (wpAny_typeOf T ?_)
 exact wpAny_pure h
end
end L2
set_option Elab.async false
set_option linter.all false
set_option maxRecDepth 100000
set_option maxHeartbeats 4000000
namespace L2
open PySem PySem.Spec PyProof.Rows
section
variable {P:Program} {w:World} {A:Around} {E:Value->Shared->Prop} {s:Shared}
open Classical in
theorem sM{α:Type}{D ds:List α}(hd:D.Nodup)(hs:∀k∈D,k∈ds)(hl:ds.length=D.length):ds.Perm D:=by
 induction D generalizing ds with
 | nil=>
  rw[List.length_nil,List.length_eq_zero_iff]at hl
  subst hl
  exact .refl _
 | cons d D ih=>
  have hm:=hs d List.mem_cons_self
  have p1:=List.perm_cons_erase hm
  have hd':=List.nodup_cons.mp hd
  refine p1.trans ((ih hd'.2 (fun k hk=>?_) ?_).cons d)
  ·refine(List.mem_erase_of_ne ?_).mpr (hs k (List.mem_cons_of_mem _ hk))
   rintro rfl
   exact hd'.1 hk
  ·rw[List.length_erase_of_mem hm,hl]
   rfl
theorem key_inj{h:Heap}{b:Addr}{k1 k2:List Key}(h1:IsTupleKey (aK P w) h k1 b)(h2:IsTupleKey (aK P w) h k2 b):k1=k2:=by
 obtain⟨o1,i1,n1,z1,_,z2,z3⟩:=h1
 obtain⟨o2,i2,n2,y1,_,y2,y3⟩:=h2
 rw[z1]at y1
 cases y1
 rw[z2]at y2
 cases y2
 exact z3.inj y3
end
end L2
set_option Elab.async false
set_option linter.all false
set_option maxRecDepth 100000
set_option maxHeartbeats 4000000
namespace L2
open PySem PySem.Spec PyProof.Rows
abbrev ng(P:Program)(w:World)(x:Addr×List Key):Int×Value:=(tupleKeyHash (aK P w) x.2,.ref x.1)
def j8(P:Program)(w:World)(h:Heap)(a:Addr)(L:List (Addr×List Key)):Prop:=∃o es ep t,h.get? a=some o/\o.ExactSet/\o.data=.set es ep t/\t.dummies = #[]/\Tb.Mask t.mask/\es.size*5<t.mask*3/\Tb.TOk t.mask t.place (es.map (·.1))/\es.toList=L.map (ng P w)/\((∀x∈L,∃z,Sum.inr z∈x.2)->L=[]\/t.plain=false)
def iZ(P:Program)(w:World)(a:Addr)(L:List (Addr×List Key)):HO:=.ext fun h=>j8 P w h a L
section
variable {P:Program} {w:World}
theorem qM{h:Heap}{B:Addr->List Key->Prop}{D:List (List Key)}:∀{es:List (Int×Value)},(∀e∈es,∃b k,e=(tupleKeyHash (aK P w) k,Value.ref b)/\k∈D/\IsTupleKey (aK P w) h k b/\B b k)->∃L:List (Addr×List Key),es=L.map (ng P w)/\∀x∈L,x.2∈D/\IsTupleKey (aK P w) h x.2 x.1/\B x.1 x.2
 | [],_=>⟨[],rfl,fun x hx=>by cases hx⟩
 | e::es,hall=>by
  obtain⟨L,h1,h2⟩:=qM (es:=es) fun x hx=>hall x (List.mem_cons_of_mem _ hx)
  obtain⟨b,k,rfl,hk,hkb,hBb⟩:=hall e List.mem_cons_self
  refine⟨(b,k)::L,by rw[h1];rfl,fun x hx=>?_⟩
  rcases List.mem_cons.mp hx with rfl | hx
  ·exact⟨hk,hkb,hBb⟩
  ·exact h2 x hx
theorem cW.obj{B:Addr->List Key->Prop}{h:Heap}{a:Addr}{D:List (List Key)}(hS:cW P w B h a D):∃L,j8 P w h a L/\(L.map (·.2)).Perm D/\∀x∈L,B x.1 x.2:=by
 obtain⟨hnd,o,es,ep,t,ho,hex,hd,hdm,hm,hfull,hlen,hT,hall,hin,hpl⟩:=hS
 obtain⟨L,h1,h2⟩:=qM hall
 have hl:L.length=D.length:=by
  rw[←hlen,←Array.length_toList,h1,List.length_map]
 refine⟨L,⟨o,es,ep,t,ho,hex,hd,hdm,hm,hfull,hT,h1,fun hx=>?_⟩,sM hnd (fun k hk=>?_) (by rw[List.length_map,hl]),fun x hx=>(h2 x hx).2.2⟩
 ·have hx':∀k∈D,∃z,Sum.inr z∈k:=fun k hk=>by
   obtain⟨b,hb,hkb⟩:=hin k hk
   rw[h1]at hb
   obtain⟨x,hx',e⟩:=List.mem_map.mp hb
   have e2:Value.ref x.1=Value.ref b:=congrArg Prod.snd e
   cases e2
   rw[key_inj hkb (h2 x hx').2.1]
   exact hx x hx'
  rcases hpl hx' with e | e
  ·subst e
   rw[List.length_nil,List.length_eq_zero_iff]at hl
   exact .inl hl
  ·exact .inr e
 ·obtain⟨b,hb,hkb⟩:=hin k hk
  rw[h1]at hb
  obtain⟨x,hx',e⟩:=List.mem_map.mp hb
  have e2:Value.ref x.1=Value.ref b:=congrArg Prod.snd e
  cases e2
  rw[key_inj hkb (h2 x hx').2.1]
  exact List.mem_map.mpr ⟨x,hx',rfl⟩
theorem vp{H:Hp}{h:Heap}{a:Addr}{L:List (Addr×List Key)}(S:j8 P w h a L):bH P w H h a (iZ P w a L):=by
 refine⟨S,?_,fun h1 h2 z k=>?_⟩
 ·obtain⟨o,es,ep,t,ho,_⟩:=S
  exact⟨o,ho⟩
 ·obtain⟨o',es',ep',t',ho',r⟩:=z
  exact⟨o',es',ep',t',k _ ho',r⟩
end
section
variable {X:Cx} {pins:List (Addr×Obj)} {σ:St} {H:Hp} {s:Shared}
theorem Inv.dr(I:Inv X pins σ H s)(d:Drawn):Inv X pins σ H { s with drawn:=d }:=⟨I.ok,I.os,I.bare,I.base,I.loc,I.cell,I.free,I.freeC,I.pin,I.hok,I.len⟩
theorem kO:∀{bs:List Addr} {us:List Value},Vals (bs.map V.ref) us->us=bs.map Value.ref
 | [],_,.nil=>rfl
 | b::bs,_,.cons r t=>by
  rw[List.map_cons,←kO (bs:=bs) t]
  exact congrArg (· :: _) r
theorem xo(I:Inv X pins σ H s){b:Addr}{k:List Key}(e:H b=some (.tup (k.map kV))):IsTupleKey (aK X.prog X.w) s.heap k b:=by
 obtain⟨_,is,rk,o,ho,hc,n,hd⟩:=I.hok b _ e
 exact⟨o,_,n,ho,hc,hd,pj rk⟩
def gY(H:Hp)(bs:List Addr)(kk:List (List Key)):Prop:=bs.length=kk.length/\∀(j:Nat) (b:Addr) (k:List Key),bs[j]?=some b->kk[j]?=some k->H b=some (.tup (k.map kV))
theorem gY.ext{H H':Hp}{bs:List Addr}{kk:List (List Key)}(e:Ext H H')(h:gY H bs kk):gY H' bs kk:=⟨h.1,fun j b k e1 e2=>e _ _ (h.2 j b k e1 e2)⟩
end
section
variable {X:Cx}
def wo(P:Program)(w:World):List V->Hp->VK->Prop:=fun xs H Q=>∃p bs kk,xs=[.ref p]/\(H p=some (.tup (bs.map V.ref))\/H p=some (.lst (bs.map V.ref)))/\gY H bs kk/\kk.length<1400 ∧
 ∀l L,H l=none->(L.map Prod.snd).Nodup->(∀k,k∈L.map Prod.snd↔k∈kk)->(∀x∈L,H x.1=some (.tup (x.2.map kV)))->Q (.ref l) (upd H l (iZ P w l L))
theorem uD{k:Nat}(hr:Room k X.A):bg X (.type "set") (wo X.prog X.w):=by
 intro pins s σ H xs us Q I r h
 obtain⟨p,bs,kk,rfl,hp,⟨h2,h3⟩,hz,q⟩:=h
 obtain⟨u,rfl,rx⟩:=vals1 r
 cases rx
 have hu:=hr.units
 have hA:=hr.hd
 have keys:∀(j:Nat) (b:Addr) (k:List Key),bs[j]?=some b->kk[j]?=some k->IsTupleKey (aK X.prog X.w) s.heap k b:=fun j b k e1 e2=>xo I (h3 j b k e1 e2)
 have fin:∀(h':Heap) (tk:Nat) (D:List (List Key)),ig X.prog X.w s bs kk D h'->∃v H',Inv X pins σ H' { s with heap:=h',toks:=tk }/\RelV v (.ref s.heap.objs.size)/\Q v H':=fun h' tk D hm=>by
  obtain⟨hS,hD,hk⟩:=hm
  obtain⟨L,hO,hLp,hLB⟩:=hS.obj
  have hfr:=I.hok.fresh (Nat.le_refl _)
  refine⟨.ref s.heap.objs.size,_,I.laid (t':=tk) (fun b o e=>hk b o (Heap.lt_size e) e) (Nat.le_refl _) (vp hO),rfl,q _ L hfr (hLp.nodup_iff.mpr hS.1) (fun k=>(hLp.mem_iff.trans (hD k))) fun x hx=>?_⟩
  obtain⟨j,e1,e2⟩:=hLB x hx
  exact h3 j _ _ e1 e2
 rcases hp with hp | hp
 ·obtain⟨_,its,rv,gt⟩:=I.hok p _ hp
  have ei:=kO rv
  subst ei
  refine vk (kk:=kk) (bs:=bs) hA (by omega) (show s.heap.IsTuple p _ from gt) rfl (by simp[h2]) (by simp[h2];exact hz) keys fin
 ·obtain⟨_,its,n,rv,gt⟩:=I.hok p _ hp
  have ei:=kO rv
  subst ei
  refine ye (kk:=kk) (bs:=bs) hA (by omega) (show s.heap.IsList p _ from⟨_,gt,rfl,n,rfl⟩) rfl (by simp[h2]) (by simp[h2];exact hz) keys fin
def y9(P:Program)(w:World):List V->Hp->VK->Prop:=fun xs H Q=>∃p L,xs=[.ref p]/\H p=some (iZ P w p L)/\L.length<1400/\Q (.int L.length) H
theorem zh:bg X (.builtin "len") (y9 X.prog X.w):=by
 intro pins s σ H xs us Q I r h
 obtain⟨p,L,rfl,hp,hn,q⟩:=h
 obtain⟨u,rfl,rx⟩:=vals1 r
 cases rx
 obtain⟨⟨o,es,ep,t,ho,hex,hd,hdm,hm,hfull,hT,hel,_⟩,_⟩:=I.hok p _ hp
 have hpl:t.place.size=es.size:=by rw[hT.len,Array.size_map]
 have hs:es.size=L.length:=by rw[←Array.length_toList,hel,List.length_map]
 have hf:t.fits es.size=true:=by
  simp only[SetTable.fits,Bool.and_eq_true,beq_iff_eq,decide_eq_true_eq]
  refine⟨hpl,?_⟩
  unfold SetTable.fill
  rw[hdm,hpl]
  have:es.size<=t.mask:=by omega
  simpa using this
 refine call_len_set ho hex hd hf (by omega) ⟨.int L.length,H,I.tok _,⟨s.toks+1,by rw[hs]⟩,q⟩
end
end L2
set_option Elab.async false
set_option linter.all false
set_option maxRecDepth 100000
set_option maxHeartbeats 4000000
namespace L2
open PySem PySem.Spec PyProof.Rows
section
variable {X:Cx} {pins:List (Addr×Obj)} {σ:St} {H:Hp} {s:Shared}
end
open AutoSeq1 (wpAny_loadPart')in
section
variable {K:PySem.W.Frag} {σ:St} {H:Hp} {Q:VK}
end
section
variable {X:Cx}
def lX(neg:Bool):R2:=fun x y H Q=>∃n p xs d ds,aR H n x d/\y=.ref p/\H p=some (.lst xs)/\Paired (aR H n) xs ds/\n<=50/\Q (.bl (if neg then !(ds.any fun e=>PyData.eqv e d)else ds.any fun e=>PyData.eqv e d)) H
theorem AM{k:Nat}(hr:Room k X.A):aV X (compareOp .In) (lX false):=by
 intro pins s σ H x y v u Q I rx ry h
 obtain⟨n,p,xs,d,ds,h1,rfl,h2,h3,hn,q⟩:=h
 have h4:aR H (n+1) (.ref p) (.list ds):=.inr ⟨p,xs,ds,rfl,.inr ⟨h2,rfl⟩,h3⟩
 obtain⟨as,ra⟩:=aR.reads I n h1 rx
 obtain⟨bs,rb⟩:=aR.reads I (n+1) h4 ry
 have l1:=aR.lay n h1
 have l2:=jR (fun{x d}=>aR.lay (H:=H) n) h3
 have hu:=hr.units
 have hm:min (PyData.depthAll ds) d.depth<=50:=Nat.le_trans (Nat.min_le_right _ _) (Nat.le_trans l1.2 hn)
 exact SeqAt.in_list_reads rb ra l2.1 l1.1 (by omega) ⟨.bl _,H,I,rfl,q⟩
theorem ve{k:Nat}(hr:Room k X.A):aV X (compareOp .NotIn) (lX true):=by
 intro pins s σ H x y v u Q I rx ry h
 obtain⟨n,p,xs,d,ds,h1,rfl,h2,h3,hn,q⟩:=h
 have h4:aR H (n+1) (.ref p) (.list ds):=.inr ⟨p,xs,ds,rfl,.inr ⟨h2,rfl⟩,h3⟩
 obtain⟨as,ra⟩:=aR.reads I n h1 rx
 obtain⟨bs,rb⟩:=aR.reads I (n+1) h4 ry
 have l1:=aR.lay n h1
 have l2:=jR (fun{x d}=>aR.lay (H:=H) n) h3
 have hu:=hr.units
 have hm:min (PyData.depthAll ds) d.depth<=50:=Nat.le_trans (Nat.min_le_right _ _) (Nat.le_trans l1.2 hn)
 exact SeqAt.notIn_list_reads rb ra l2.1 l1.1 (by omega) ⟨.bl _,H,I,rfl,q⟩
theorem wy{neg:Bool}{n:Nat}{x:V}{p:Addr}{xs:List V}{d:PyData}{ds:List PyData}{H:Hp}{Q:VK}(h1:aR H n x d)(h2:H p=some (.lst xs))(h3:Paired (aR H n) xs ds)(hn:n<=50)(q:Q (.bl (if neg then !(ds.any fun e=>PyData.eqv e d)else ds.any fun e=>PyData.eqv e d)) H):lX neg x (.ref p) H Q:=
 ⟨n,p,xs,d,ds,h1,rfl,h2,h3,hn,q⟩
end
end L2
set_option Elab.async false
set_option linter.all false
set_option maxRecDepth 100000
set_option maxHeartbeats 4000000
namespace L2
open PySem PySem.Spec PyProof.Rows
abbrev Row3:=Str×Tok×Value
def iW(w:World)(e:Row3):DictEntry:=⟨PyData.keyHash w.params e.1,.str e.1 e.2.1,e.2.2⟩
def fD(w:World)(l:List Row3)(ep:Nat):Obj:={ cls:=.type "dict",dict:=none,data:=.dict (l.map (iW w)).toArray ep,slots:=#[] }
structure GDict(w:World)(K:PySem.W.Frag)(a:Addr)(kvs:List (Key×V)):Prop where
 has:∃l ep,K.lookup a=some (fD w l ep)/\KV kvs (l.map fun e=>((Sum.inr e.1:Key),e.2.2))
 nd:(kvs.map (·.1)).Nodup
 sm:(a == sysModules)=false
theorem nF{P:Program}{w:World}:∀l:List Row3,Pairs (aK P w) (l.map (iW w)) (l.map fun e=>((Sum.inr e.1:Key),e.2.2))
 | []=>.nil
 | e::l=>.cons (lO P w e.1 e.2.1) rfl (nF l)
theorem yX{P:Program}{w:World}(l:List Row3):KeysOf (aK P w) (l.map (iW w)).toArray:=fun e he=>by
 have he':e∈l.map (iW w):=by simpa using he
 obtain⟨x,_,rfl⟩:=List.mem_map.mp he'
 exact⟨.inr x.1,lO P w x.1 x.2.1,rfl⟩
theorem GDict.at{X:Cx}{pins:List (Addr×Obj)}{σ:St}{H:Hp}{s:Shared}{a:Addr}{kvs:List (Key×V)}(D:GDict X.w X.K a kvs)(I:Inv X pins σ H s):∃vs,KV kvs vs/\s.heap.DictOf (aK X.prog X.w) a vs:=by
 obtain⟨l,ep,hl,r⟩:=D.has
 refine⟨_,r,fD X.w l ep,_,ep,I.kIn _ _ hl,⟨rfl,rfl,rfl⟩,rfl,yX l,nF l,?_⟩
 rw[←r.keys]
 exact D.nd
section
variable {X:Cx} {x:Str} {a:Addr} {kvs:List (Key×V)} {i:Expr} {ty:TE} {p pos:Pos}
def pq(kvs:List (Key×V))(ty:TE):TE:=fun σ H Q=>ty σ H fun y H1=>∃k v,y=kV k/\bZ kvs k=some v/\Q v H1
def sG(neg:Bool)(kvs:List (Key×V))(ty:TE):TE:=fun σ H Q=>ty σ H fun y H1=>∃k,y=kV k/\Q (.bl (if neg then !(bZ kvs k).isSome else(bZ kvs k).isSome)) H1
theorem vT(hg:Gl X x)(hm:X.mg x=some (.ref a))(D:GDict X.w X.K a kvs)(hi:PE X i ty)(hs:tR i)(hd:(x == ("__debug__":Str))=false:=by decide):PE X (.Subscript (.Name x p) i pos) (pq kvs ty):=by
 intro pins s σ H Q I h
 refine wq PySem.F.slot_dict_getitem.lookup hs (kl I hg hm (au (hi pins s σ H _ I h) fun iv s2 ⟨y,H2,I2,ry,k,v,ey,hv,q⟩=>?_) hd)
 subst ey
 obtain⟨vs,rel,dd⟩:=D.at I2
 obtain⟨w',hw,rw'⟩:=ec.some_of (v:=v) (o:=valueAt vs k) (by rw[←hv];exact rel.val k)
 exact⟨dd.typeIs,wpAny_getItem_of (mx ry) dd.mapOf hw ⟨v,H2,I2.tok _,rw',q⟩⟩
theorem ym(hg:Gl X x)(hm:X.mg x=some (.ref a))(D:GDict X.w X.K a kvs)(hi:PE X i ty)(hd:(x == ("__debug__":Str))=false:=by decide):PC X .In i (.Name x p) (sG false kvs ty):=by
 intro pins s σ H Q I h
 refine au (hi pins s σ H _ I h) fun iv s1 ⟨y,H1,I1,ry,k,ey,q⟩=>kl I1 hg hm ?_ hd
 subst ey
 obtain⟨vs,rel,dd⟩:=D.at I1
 refine wpAny_in_of (mx ry) D.sm dd.mapOf ?_
 rw[←(rel.val k).isSome_eq]
 exact⟨.bl (bZ kvs k).isSome,H1,I1.tok _,rfl,q⟩
theorem rd_gget{σ:St}{H:Hp}{Q:VK}(h:ty σ H fun y H1=>∃k v,y=kV k/\bZ kvs k=some v/\Q v H1):pq kvs ty σ H Q:=h
theorem rd_gin{neg:Bool}{σ:St}{H:Hp}{Q:VK}(h:ty σ H fun y H1=>∃k,y=kV k/\Q (.bl (if neg then !(bZ kvs k).isSome else(bZ kvs k).isSome)) H1):sG neg kvs ty σ H Q:=h
theorem vq{R:V->Prop}{z:Str}{v:V}(hv:bZ kvs (.inr z)=some v)(h:R v):∃k v,V.str z=kV k/\bZ kvs k=some v/\R v:=⟨.inr z,v,rfl,hv,h⟩
def nA:R2:=fun x y H Q=>∃a b,x=.str a/\y=.str b/\Q (.bl (!decide (b.cps.toList<a.cps.toList))) H
theorem sX:aV X (compareOp .LtE) nA:=by
 intro pins s σ H x y v u Q I rx ry h
 obtain⟨a,b,rfl,rfl,q⟩:=h
 obtain⟨t,rfl⟩:=rx
 obtain⟨t',rfl⟩:=ry
 exact PySem.P.le_str ⟨.bl _,H,I,rfl,q⟩
theorem rd_leS{a b:Str}{H:Hp}{Q:VK}(h:Q (.bl (!decide (b.cps.toList<a.cps.toList))) H):nA (.str a) (.str b) H Q:=⟨a,b,rfl,rfl,h⟩
theorem kN{α β:Type}{f g:α->Option β}:∀{l:List α},(∀x∈l,f x=g x)->l.filterMap f=l.filterMap g
 | [],_=>rfl
 | x::l,h=>by
  rw[List.filterMap_cons,List.filterMap_cons,h x List.mem_cons_self,kN fun y hy=>h y (List.mem_cons_of_mem _ hy)]
theorem wG(n:Nat)(xs:List Value)(h:xs.length=n):(List.range n).filterMap (fun i:Nat=>xs[((n:Int)-1+(i:Int)*(-1)).toNat]?)=xs.reverse:=by
 refine List.ext_getElem? fun i=>?_
 have e:(List.range n).filterMap (fun i:Nat=>xs[((n:Int)-1+(i:Int)*(-1)).toNat]?)=(List.range n).map (fun i:Nat=>xs.reverse.getD i .none):=by
  rw[←List.filterMap_eq_map]
  refine kN fun i hi=>?_
  have hi:=List.mem_range.mp hi
  have:((n:Int)-1+(i:Int)*(-1)).toNat=n-1-i:=by omega
  rw[this,Function.comp_apply,List.getD_eq_getElem?_getD,List.getElem?_reverse (by omega),h,List.getElem?_eq_getElem (show n-1-i<xs.length by omega)]
  rfl
 rw[e,List.getElem?_map]
 by_cases hi:i<n
 ·rw[List.getElem?_eq_getElem (by simpa using hi),List.getElem?_eq_getElem (by simpa[h]using hi)]
  simp[List.getD_eq_getElem?_getD,h,hi]
 ·rw[List.getElem?_eq_none (by simpa using hi),List.getElem?_eq_none (by simpa[h]using hi)]
  rfl
theorem Am(its:List Value):slicePick its.toArray none none (some (-1))=its.reverse.toArray:=by
 unfold slicePick
 have e:sliceBounds none none (some (-1)) its.toArray.size=((its.length:Int)-1,-1,-1):=by
  unfold sliceBounds
  simp
 rw[e]
 refine congrArg List.toArray ?_
 rw[←wG its.length its rfl]
 unfold sliceRange
 simp only
 rw[if_neg (by decide),List.filterMap_map]
 have el:(if(its.length:Int)-1 > -1 then((its.length:Int)-1 - -1 - -1-1) / - -1 else 0).toNat=its.length:=by
  rw[show (- -1:Int)=1 by decide,Int.ediv_one]
  split<;>omega
 rw[el]
 refine kN fun i hi=>?_
 rw[Function.comp_apply,show (its.length:Int)-1 + -1*(i:Int)=(its.length:Int)-1+(i:Int) * -1 by omega]
 simp
theorem Vals.rev{xs:List V}{us:List Value}(r:Vals xs us):Vals xs.reverse us.reverse:=by
 induction r with
 | nil=>exact .nil
 | cons h t ih=>
  rw[List.reverse_cons,List.reverse_cons]
  exact Vals.append ih (.cons h .nil)
def mK(K:PySem.W.Frag):V->Hp->VK->Prop:=fun x H Q=>∃a xs,x=.ref a/\ag K H a xs/\dJ H (.lst xs.reverse) Q
def pK(K:PySem.W.Frag)(te:TE)(ts:TO):TE:=fun σ H Q=>te σ H fun x H1=>ts σ H1 fun k H2=>k=some (-1)/\mK K x H2 Q
theorem wF{e st:Expr}{te:TE}{ts:TO}{p2:Pos}(K:PySem.W.Frag)(he:PE X e te)(hs:PO X (some st) ts)(hK:X.K=K:=by rfl):PE X (.Subscript e (.Slice none none (some st) p2) pos) (pK K te ts):=by
 subst hK
 intro pins s σ H Q I h
 refine Subscript_ (au (he pins s σ H _ I h) fun v s1 ⟨x,H1,I1,r1,q1⟩=>?_)
 refine wpAny_Slice ?_
 rw[evalPart_none]
 refine wpAny_pure (wpAny_pure ?_)
 refine au (hs pins s1 σ H1 _ I1 q1) fun vs s2 ⟨k,H2,I2,pk,q2⟩=>?_
 obtain⟨rfl,a,xs,rfl,hx,q⟩:=q2
 cases pk with
 | int i tk=>
 cases r1
 have I3:Inv X pins σ H2 { s2 with heap:=s2.heap.push { cls:=.type "slice",data:=.fields #[.none,.none,.int (-1) tk] } }:=I2.kept (t':=s2.toks) fun b ob q=>Heap.get?_push_of_some _ q
 obtain⟨its,r,ht,hz⟩:=I3.list hx
 have hlen:=r.length
 show wpAny (model X.prog X.w) X.A (subscriptTail e (.Slice none none (some st) p2) (.ref a) (.ref s2.heap.objs.size)) (EP X pins σ Q) X.xe { s2 with heap:=s2.heap.push { cls:=.type "slice",data:=.fields #[.none,.none,.int (-1) tk] } }
 refine tail_any (ops:=[.ref a,.ref s2.heap.objs.size]) ht.isList.typeIs slot_list_getitem.lookup (wpAny_getItem_list_slice ht.isList (Heap.IsSliceOf.new ..) .none .none (.int (-1) tk) (by decide) ?_ (by rw[List.size_toArray];omega)) (by with_unfolding_all rfl)
 rw[Am]
 exact⟨.ref _,_,I3.laid (t':=s2.toks) (o:=.lst xs.reverse) (fun b ob e=>Heap.get?_push_of_some _ e) (Nat.le_refl _) ⟨by rw[List.length_reverse];exact hz,_,0,r.rev,Heap.get?_push_size _ rfl⟩,rfl,q _ (I3.hok.fresh (Nat.le_refl _))⟩
theorem rd_revL{K:PySem.W.Frag}{te:TE}{ts:TO}{σ:St}{H:Hp}{Q:VK}(h:te σ H fun x H1=>ts σ H1 fun k H2=>k=some (-1)/\mK K x H2 Q):pK K te ts σ H Q:=h
theorem vZ{K:PySem.W.Frag}{H:Hp}{Q:VK}{a:Addr}{xs:List V}(e:ag K H a xs)(h:dJ H (.lst xs.reverse) Q):mK K (.ref a) H Q:=⟨a,xs,rfl,e,h⟩
end
end L2
set_option Elab.async false
set_option linter.all false
set_option maxRecDepth 100000
set_option maxHeartbeats 4000000
namespace L2
open PySem PySem.Spec PyProof.Rows
section
variable {prog:Program} {w:World} {A:Around} {E:Value->Shared->Prop} {s:Shared} {r d:Addr}
end
section
variable {X:Cx}
end
end L2
set_option Elab.async false
set_option linter.all false
set_option maxRecDepth 100000
set_option maxHeartbeats 4000000
namespace L2
open PySem PySem.Spec PyProof.Rows
section
variable {X:Cx}
end
end L2
set_option Elab.async false
set_option linter.all false
set_option maxRecDepth 100000
set_option maxHeartbeats 4000000
namespace L2
open PySem PySem.Spec PyProof.Rows
section
variable {X:Cx} {tg:Expr}
end
section
variable {prog:Program} {w:World} {A:Around} {E:Value->Shared->Prop} {s:Shared}
end
section
variable {X:Cx} {tg:Expr}
end
end L2
set_option Elab.async false
set_option linter.all false
set_option maxRecDepth 100000
set_option maxHeartbeats 4000000
namespace L2
open PySem PySem.Spec PyProof.Rows
section
variable {X:Cx}
theorem uj(K:PySem.W.Frag){o:Expr}{to:TE}{name:Str}{apos cpos:Pos}{T id:String}{r:V->List V->Hp->VK->Prop}(pa:PlainAttrs T)(slot:Slot T name id)(hty:typeOf (.builtin id)=pure (.type "method_descriptor"))(hm:jt X id r)(ho:PE X o to)(h:X.K=K:=by rfl)
  (hbase:attributeBase o name X.env (eval o X.env)=eval o X.env:=by rfl) (hline:(apos.endLine == cpos.line)=true:=by rfl):PE X (.Call (.Attribute o name apos) [] [] cpos) (kG K T r to):=by
 subst h
 exact zo pa slot hty hm ho hbase hline
end
theorem rd_bm0{K:PySem.W.Frag}{T:String}{r:V->List V->Hp->VK->Prop}{to:TE}{σ:St}{H:Hp}{Q:VK}(h:to σ H fun x H1=>fg K T x H1/\r x [] H1 Q):kG K T r to σ H Q:=h
def uP(K:PySem.W.Frag):List V->Hp->VK->Prop:=fun xs H Q=>∃(p:Addr) (bs:List Bool),xs=[.ref p]/\ag K H p (bs.map V.bl)/\Q (.bl (bs.any id)) H
theorem any_range(bs:List Bool):((List.range bs.length).any fun i=>bs.getD i false)=bs.any id:=by
 rw[Bool.eq_iff_iff,List.any_eq_true,List.any_eq_true]
 constructor
 ·rintro⟨i,hi,h⟩
  have hi':=List.mem_range.mp hi
  rw[List.getD_eq_getElem?_getD,List.getElem?_eq_getElem hi']at h
  exact⟨_,List.getElem_mem hi',h⟩
 ·rintro⟨b,hb,h⟩
  obtain⟨i,hi,e⟩:=List.mem_iff_getElem.mp hb
  refine⟨i,List.mem_range.mpr hi,?_⟩
  rw[List.getD_eq_getElem?_getD,List.getElem?_eq_getElem hi,e]
  exact h
theorem mf{X:Cx}(K:PySem.W.Frag)(hc:X.calm=true)(hK:X.K=K:=by rfl):bg X (.builtin "any") (uP K):=by
 subst hK
 intro pins s σ H xs us Q I r h
 obtain⟨p,bs,rfl,hq,q⟩:=h
 obtain⟨u,rfl,rx⟩:=vals1 r
 cases rx
 obtain⟨its,rv,pl,hz⟩:=I.list hq
 have eb:=m3 rv
 have hne:p≠s.heap.objs.size:=Nat.ne_of_lt (by obtain⟨o,n,e,_⟩:=pl;exact Heap.lt_size e)
 refine call_any_walk (wpAny_pyIter_list pl.isList ?_)
 have I1:Inv X pins σ H { s with heap:=s.heap.push { cls:=.type "list_iterator",data:=.fields #[.ref p,.int 0 0] } }:=I.kept (t':=s.toks) fun b o e=>Heap.get?_push_of_some _ e
 have hf:=I.fpOk (H':=H) (Nat.le_refl s.heap.objs.size) I.fresh
 refine⟨s.heap.objs.size,_,_,_,_,_,(fun i=>bs.getD i false),rfl,Walks.list (A:=X.A.in1) (I.ok.hd hc) _ p hne its.toArray,⟨⟨_,Heap.get?_push_size _ rfl,rfl,rfl⟩,?_⟩,?_,fun h' tk hk=>?_⟩
 ·exact pl.isList.push _
 ·intro i v s' Q' E' hv hQ
  rw[eb]at hv
  have hv':(bs.map Value.bool)[i]?=some v:=by simpa using hv
  rw[List.getElem?_map]at hv'
  cases eg:bs[i]? with
  | none=>rw[eg]at hv';cases hv'
  | some b=>
   rw[eg]at hv'
   cases hv'
   have eb':bs.getD i false=b:=by rw[List.getD_eq_getElem?_getD,eg];rfl
   have hQ':Q' (bs.getD i false) s':=hQ
   rw[eb']at hQ'
   exact wpAny_truthy_bool hQ'
 ·obtain⟨f0,f1,f2,f3,f4,f5⟩:=hf
  have hl:=rv.length
  rw[List.length_map]at hl
  refine⟨.bl (bs.any id),H,I1.turned (it:=s.heap.objs.size) (fun b o hb e=>hk b o (by simpa using hb) e) f0 f1 f3 f4 f5,?_,q⟩
  show Value.bool _=Value.bool _
  rw[List.size_toArray,←hl,any_range]
end L2
set_option Elab.async false
set_option linter.all false
set_option maxRecDepth 100000
set_option maxHeartbeats 4000000
namespace L2
open PySem PySem.Spec PyProof.Rows
section
variable {X:Cx}
end
section
variable {X:Cx}
end
end L2
set_option Elab.async false
set_option linter.all false
set_option maxRecDepth 100000
set_option maxHeartbeats 4000000
namespace L2
open PySem PySem.Spec PyProof.Rows
section
variable {X:Cx}
end
end L2
set_option Elab.async false
set_option linter.all false
set_option maxRecDepth 100000
set_option maxHeartbeats 4000000
namespace L2
open PySem PySem.Spec PyProof.Rows
section
variable {P:Program} {w:World} {K:PySem.W.Frag} {mg:Str->Option Value} {base:Heap}
end
section
variable {X:Cx}
end
end L2
set_option Elab.async false
set_option linter.all false
set_option maxRecDepth 100000
set_option maxHeartbeats 4000000
namespace L2
open PySem PySem.Spec PyProof.Rows
abbrev cn(w:World):Bool:=!w.params.followText "set-order"
theorem ui(t:SetTable)(es:Array (Int×Value))(h:Int)(x:Value):(layNew t es h x).2.1.led=t.led:=by
 unfold layNew
 split
 ·show((t.put _).1.orStandIn _).led=t.led
  unfold SetTable.orStandIn
  split<;>rfl
 ·rfl
theorem uw{mask finger moves:Nat}{led plain:Bool}{hs:Array Int}{t:SetTable}{o:Array Nat}(h:SetTable.laid mask finger moves led plain hs=some (t,o)):t.led=led/\t.plain=plain:=by
 unfold SetTable.laid at h
 cases e:SetTable.layClean mask hs with
 | none=>rw[e]at h;cases h
 | some ow=>
  rw[e]at h
  cases h
  exact⟨rfl,rfl⟩
theorem xX(t:SetTable)(es:Array (Int×Value))(n:Nat):(relayAll t es n).2.1.led=t.led/\(t.plain=false->(relayAll t es n).2.1.plain=false):=by
 unfold relayAll
 split
 ·rename_i t' o e
  have:=uw e
  dsimp only
  split
  ·exact⟨this.1,fun h=>this.2.trans h⟩
  ·exact⟨rfl,fun _=>rfl⟩
 ·exact⟨rfl,fun _=>rfl⟩
section
variable {P:Program} {w:World} {A:Around} {E:Value->Shared->Prop} {s:Shared}
end
section
variable {P:Program} {w:World} {A:Around} {E:Value->Shared->Prop} {s:Shared}
theorem AD(a:Value){Q₁:Value->Shared->Prop}(h:Q₁ (.ref s.heap.objs.size) { s with heap:=s.heap.push (aZ (cn w)) }):
  codeAny (model P w) A (.call (.builtin "set.__new__") ⟨[.type "set",a],[]⟩) (wants Q₁ E) s:=by
 refine codeAny_of_tree ?_
 show wpAny _ A.in1 (do checkBuiltinCall "set.__new__" ⟨[.type "set",a],[]⟩;again (.builtin "set.__new__" ⟨[.type "set",a],[]⟩)) _ _ s
 refine wpAny_bind (wpAny_of_eq (F.newCall_set_1 a) (wpAny_pure ⟨plainId_quiet F.plain_set_new _,codeAny_builtin F.entry_set_new ?_⟩))
 rw[Around.under_plainId F.plain_set_new _]
 unfold Builtin.«set.__new__» Builtin.Frozenset.newClass
 have hsub:=sub_set_self
 obtain⟨hp,g,d,tk,os⟩:=s
 dsimp only
 wp_walk
 refine wpAny_askSetting (wpAny_pure ?_)
 dsimp only
 simp only[newObj]
 refine wpAny_bind (wpAny_alloc (wpAny_pure ?_))
 exact wpAny_pure h
end
end L2
set_option Elab.async false
set_option linter.all false
set_option maxRecDepth 100000
set_option maxHeartbeats 4000000
namespace L2
open PySem PySem.Spec PyProof.Rows
section
variable {P:Program} {w:World} {A:Around} {E:Value->Shared->Prop} {s:Shared}
theorem uh(j:Nat):SetTable.below #[j] 0=0:=by
 unfold SetTable.below
 show SetTable.below.go #[j] 0 1 0 1=0
 unfold SetTable.below.go
 rw[if_pos (by decide)]
 show(if(#[j]:Array Nat).getD 0 0<0 then _ else _)=0
 rw[if_neg (Nat.not_lt_zero _)]
 rfl
theorem wk(j:Nat):SetTable.below #[j] (j+1)=1:=by
 unfold SetTable.below
 show SetTable.below.go #[j] (j+1) 1 0 1=1
 unfold SetTable.below.go
 rw[if_pos (by decide)]
 show(if(#[j]:Array Nat).getD 0 (j+1)<j+1 then _ else _)=1
 rw[if_pos (show(#[j]:Array Nat).getD 0 (j+1)<j+1 from Nat.lt_succ_self j)]
 rfl
theorem iG{xs:Array Nat}(h:xs.size=1):∃j,xs = #[j]:=by
 refine⟨xs[0],?_⟩
 apply Array.ext
 ·simp[h]
 ·intro i h1 h2
  have:i=0:=by simp at h2;exact h2
  subst this
  rfl
theorem wX{xs:Array Nat}(h:xs.size=1){j:Nat}(hj:xs[0]?=some j):SetTable.below xs (j+1)=1:=by
 obtain⟨k,rfl⟩:=iG h
 cases hj
 exact wk _
theorem zJ{xs:Array Nat}(h:xs.size<=1):SetTable.below xs 0=0:=by
 by_cases h0:xs.size=0
 ·rw[Array.eq_empty_of_size_eq_zero h0]
  rfl
 ·obtain⟨k,rfl⟩:=iG (show xs.size=1 by omega)
  exact uh _
theorem ue{it a:Addr}{i ep slot:Nat}{o:Obj}{es:Array (Int×Value)}{t:SetTable}{Q:Option Value->Shared->Prop}(hT:w.params.followText "set-order" = false)(hit:s.heap.get? it=some (bJ a (rawInt (slot:Int)) i es.size ep))(ho:s.heap.get? a=some o)(hd:o.data=.set es ep t)(hf:t.fits es.size=true)(h1:es.size<=1)(hl:t.led=true)
  {x:Int×Value} {j:Nat} (hx:es[SetTable.below t.place slot]?=some x) (hj:t.place[SetTable.below t.place slot]?=some j) (hQ:∀h',h'.get? it=some (bJ a (rawInt ((j+1:Nat):Int)) (i+1) es.size ep)->Heap.SameBut it s.heap h'->Q (some x.2) { s with heap:=h' }):wpAny (model P w) A (pyNext (.ref it)) Q E s:=by
 have T:s.TypeIs (.ref it) "set_iterator":=⟨_,hit,rfl⟩
 unfold pyNext
 refine wpAny_bind (wpAny_attempt (wpAny_callSpecial?_slot (name:=Str.ofString "__next__") T SF.slot_next (wpAny_call_entry SF.slot_next T SF.entry_next ?_ (SF.args_next _))))
 show wpAny _ _ (fieldsOf (.ref it) >>= _) _ _ s
 refine wpAny_bind (wpAny_fieldsOf hit rfl ?_)
 show wpAny _ _ (setEntries a >>= _) _ _ s
 unfold setEntries
 refine wpAny_bind (wpAny_bind (wpAny_setState_of ho hd hf (wpAny_pure ?_)))
 rw[if_neg (by simp)]
 show wpAny _ _ (setNext a slot _ _ >>= _) _ _ s
 unfold setNext
 refine wpAny_bind (wpAny_bind (wpAny_setState_of ho hd hf ?_))
 dsimp only
 unfold setsByText
 refine wpAny_bind (wpAny_bind (wpAny_askSetting (wpAny_pure ?_)))
 rw[show (model P w).w.params.followText "set-order" = false from hT]
 simp only[Bool.false_eq_true,if_false]
 have hdr:¬((!t.plain && decide (es.size>1))=true):=by
  rw[decide_eq_false (by omega),Bool.and_false]
  exact Bool.false_ne_true
 split
 ·rename_i hh
  exact absurd hh hdr
 ·refine wpAny_bind ?_
  show wpAny _ _ (if(!t.led && !es.isEmpty)=true then unsupported _ else pure ()) _ _ _
  rw[if_neg (by rw[hl];exact Bool.false_ne_true)]
  refine wpAny_pure (wpAny_pure ?_)
  rw[hx,hj]
  dsimp only
  refine wpAny_bind (wpAny_setField hit rfl (by simp) ?_)
  have e1':(s.heap.update it (Obj.mapFields (·.setIfInBounds 0 (rawInt ((j+1:Nat):Int))))).get? it=some (bJ a (rawInt ((j+1:Nat):Int)) i es.size ep):=iS (k:=0) (x:=rawInt ((j+1:Nat):Int)) hit rfl
  refine wpAny_bind (wpAny_setField (s:={ s with heap:=s.heap.update it (Obj.mapFields (·.setIfInBounds 0 (rawInt ((j+1:Nat):Int)))) }) e1' rfl (by simp) ?_)
  have e2:=iS (k:=1) (x:=rawInt ((i:Int)+1)) e1' rfl
  refine wpAny_pure ⟨_,rfl,wpAny_pure (hQ _ ?_ ((Heap.SameBut.update ..).trans (Heap.SameBut.update ..)))⟩
  exact e2
theorem Ah{it a:Addr}{i ep slot:Nat}{o:Obj}{es:Array (Int×Value)}{t:SetTable}{Q:Option Value->Shared->Prop}(hh:A.handled=none)(hT:w.params.followText "set-order" = false)(hit:s.heap.get? it=some (bJ a (rawInt (slot:Int)) i es.size ep))(ho:s.heap.get? a=some o)(hd:o.data=.set es ep t)(hf:t.fits es.size=true)(h1:es.size<=1)(hl:t.led=true)
  (hx:es[SetTable.below t.place slot]?=none) (hQ:∀h',Heap.ExtBut it s.heap h'->Q none { s with heap:=h' }):wpAny (model P w) A (pyNext (.ref it)) Q E s:=by
 have T:s.TypeIs (.ref it) "set_iterator":=⟨_,hit,rfl⟩
 unfold pyNext
 refine wpAny_bind (wpAny_attempt (wpAny_callSpecial?_slot (name:=Str.ofString "__next__") T SF.slot_next (wpAny_call_entry SF.slot_next T SF.entry_next ?_ (SF.args_next _))))
 show wpAny _ _ (fieldsOf (.ref it) >>= _) _ _ s
 refine wpAny_bind (wpAny_fieldsOf hit rfl ?_)
 show wpAny _ _ (setEntries a >>= _) _ _ s
 unfold setEntries
 refine wpAny_bind (wpAny_bind (wpAny_setState_of ho hd hf (wpAny_pure ?_)))
 rw[if_neg (by simp)]
 show wpAny _ _ (setNext a slot _ _ >>= _) _ _ s
 unfold setNext
 refine wpAny_bind (wpAny_bind (wpAny_setState_of ho hd hf ?_))
 dsimp only
 unfold setsByText
 refine wpAny_bind (wpAny_bind (wpAny_askSetting (wpAny_pure ?_)))
 rw[show (model P w).w.params.followText "set-order" = false from hT]
 simp only[Bool.false_eq_true,if_false]
 have hdr:¬((!t.plain && decide (es.size>1))=true):=by
  rw[decide_eq_false (by omega),Bool.and_false]
  exact Bool.false_ne_true
 split
 ·rename_i hh
  exact absurd hh hdr
 ·refine wpAny_bind ?_
  show wpAny _ _ (if(!t.led && !es.isEmpty)=true then unsupported _ else pure ()) _ _ _
  rw[if_neg (by rw[hl];exact Bool.false_ne_true)]
  refine wpAny_pure (wpAny_pure ?_)
  rw[hx]
  dsimp only
  refine wpAny_bind (wpAny_setField hit rfl (by simp) ?_)
  exact pX (s:=s) (it:=it) hh (Heap.SameBut.update ..).extBut hQ
theorem xu(hh:A.handled=none)(hT:w.params.followText "set-order" = false)(I a:Addr)(hne:a≠I){o:Obj}{es:Array (Int×Value)}{ep:Nat}{t:SetTable}(hd:o.data=.set es ep t)(hf:t.fits es.size=true)(h1:es.size<=1)(hl:t.led=true)(hp:t.place.size=es.size):
  Walks P w A I [I,a] [I] es.size (fun i v=>∃x,es[i]?=some x/\v=x.2) (fun i h=>(∃slot:Nat,h.get? I=some (bJ a (rawInt (slot:Int)) i es.size ep)/\SetTable.below t.place slot=i)/\h.get? a=some o) where
 sub:=fun b hb=>by simp at hb;simp[hb]
 frame:=fun _ _ _ st hk=>by
  obtain⟨⟨slot,h1,h2⟩,h3⟩:=st
  exact⟨⟨slot,hk I (by simp) _ h1,h2⟩,hk a (by simp) _ h3⟩
 item:=fun i s Q E hi st hQ=>by
  obtain⟨⟨slot,q1,q2⟩,q3⟩:=st
  have hi0:i=0:=by omega
  subst hi0
  have hx:=getElem?_pos es 0 hi
  have hj:=getElem?_pos t.place 0 (by omega)
  refine ue hT q1 q3 hd hf h1 hl (by rw[q2];exact hx) (by rw[q2];exact hj) fun h' hit' sb=>?_
  refine hQ _ h' s.toks ⟨_,hx,rfl⟩ ⟨⟨_,hit',?_⟩,(sb.2 a hne).trans q3⟩ fun b o hb e=>sb.extBut b o (fun h=>hb (by simp[h])) e
  exact wX (by omega) hj
 done:=fun s Q E st hQ=>by
  obtain⟨⟨slot,q1,q2⟩,q3⟩:=st
  exact Ah hh hT q1 q3 hd hf h1 hl (by rw[q2];exact Array.getElem?_eq_none (Nat.le_refl _)) fun h' he'=>hQ h' s.toks fun b o hb e=>he' b o (fun h=>hb (by simp[h])) e
 self:=fun i s Q E st hQ=>by
  obtain⟨⟨slot,q1,q2⟩,q3⟩:=st
  exact oa q1 hQ
theorem zf{a:Addr}{o:Obj}{es:Array (Int×Value)}{ep:Nat}{t:SetTable}{Q:Value->Shared->Prop}(ho:s.heap.get? a=some o)(hex:o.ExactSet)(hd:o.data=.set es ep t)(hf:t.fits es.size=true)(h1:es.size<=1)
  (hT:Q (.ref s.heap.objs.size) { s with heap:=s.heap.push (bJ a (rawInt 0) 0 es.size ep) }) :
  wpAny (model P w) A (pyIter (.ref a)) Q E s:=by
 have T:s.TypeIs (.ref a) "set":=⟨o,ho,hex.1⟩
 refine wpAny_pyIter_slot T F.slot_set_iter (wpAny_call_entry F.slot_set_iter T SF.xb ?_ (SF.vK _))
 show wpAny _ _ (Builtin.Frozenset.sizeOf a >>= _) _ _ s
 unfold Builtin.Frozenset.sizeOf setEntries
 refine wpAny_bind (wpAny_bind (wpAny_bind (wpAny_setState_of ho hd hf (wpAny_pure (wpAny_pure ?_)))))
 show wpAny _ _ (setDrawn a >>= _) _ _ s
 unfold setDrawn
 refine wpAny_bind (wpAny_bind (wpAny_setState_of ho hd hf ?_))
 dsimp only
 unfold setsByText
 refine wpAny_bind (wpAny_bind (wpAny_askSetting (wpAny_pure (wpAny_pure ?_))))
 rw[if_neg (by
  show ¬(!(w.params.followText "set-order") && (!t.plain && decide (es.size>1)))=true
  rw[decide_eq_false (by omega)]
  simp)]
 refine wpAny_bind (wpAny_pure ?_)
 unfold setEpoch
 refine wpAny_bind (wpAny_bind (wpAny_setState_of ho hd hf (wpAny_pure ?_)))
 simp only[newFields]
 refine wpAny_bind (wpAny_newObj_type (wpAny_pure ⟨_,rfl,"set_iterator",_,⟨_,Heap.get?_push_size _ rfl,rfl⟩,SF.slot_next.lookup,?_⟩) (by size_fits))
 exact hT
theorem uM{a:Addr}{o:Obj}{es:Array (Int×Value)}{ep:Nat}{t:SetTable}{Q:List Value->Shared->Prop}(hA:A.handled=none)(ho:s.heap.get? a=some o)(hex:o.ExactSet)(hd:o.data=.set es ep t)(hf:t.fits es.size=true)(h1:es.size<=1)(hled:t.led=cn w)(hp:t.place.size=es.size)
  (hQ:∀(h':Heap) (tk:Nat) d (vs:List Value),vs.Perm (es.toList.map (·.2))->s.toks<=tk->s.heap.objs.size<h'.objs.size->(∀b o,b<s.heap.objs.size->s.heap.get? b=some o->h'.get? b=some o)->Q vs { s with heap:=h',toks:=tk,drawn:=d }):wpAny (model P w) A (collect (.ref a)) Q E s:=by
 have hsz:es.size<=sizeLine:=Nat.le_trans h1 (by decide)
 have hlt:a<s.heap.objs.size:=Heap.lt_size ho
 obtain⟨Pz,St,hW,hSt,hPm⟩:∃(Pz:Nat->Value->Prop) (St:Addr->Nat->Heap->Prop),(∀I,a≠I->Walks P w A.in1.in1 I [I,a] [I] es.size Pz (St I))/\(∀I h,h.get? I=some (bJ a (rawInt 0) 0 es.size ep)->h.get? a=some o->St I 0 h)/\∀acc:Array Value,acc.size=es.size->(∀i v,acc[i]?=some v->Pz i v)->acc.toList.Perm (es.toList.map (·.2)):=by
  cases hq:w.params.followText "set-order" with
  | true=>
   refine⟨_,_,fun I hI=>zd (by simp[hA]) hq I a hI hd hf,fun I h h1 h2=>⟨h1,h2⟩,fun acc hacc1 hacc2=>?_⟩
   refine List.Perm.trans (List.Perm.of_eq ?_) ((iA (w.params.setOrder a ep) es).map (·.2))
   have hl:(pickOrder (w.params.setOrder a ep) es).size=es.size:=by
    rw[←Array.length_toList,(iA _ es).length_eq,Array.length_toList]
   apply List.ext_getElem
   ·rw[Array.length_toList,List.length_map,Array.length_toList,hacc1,hl]
   ·intro i q1 q2
    rw[Array.length_toList]at q1
    obtain⟨x,hx,hv⟩:=hacc2 i acc[i] (getElem?_pos acc i q1)
    rw[Array.getElem_toList,hv,List.getElem_map,Array.getElem_toList]
    obtain⟨_,e⟩:=Array.getElem?_eq_some_iff.mp hx
    rw[e]
  | false=>
   have hl:t.led=true:=by
    rw[hled]
    show(!w.params.followText "set-order")=true
    rw[hq]
    rfl
   refine⟨_,_,fun I hI=>xu (by simp[hA]) hq I a hI hd hf h1 hl hp,fun I h q1 q2=>⟨⟨0,q1,?_⟩,q2⟩,fun acc hacc1 hacc2=>List.Perm.of_eq ?_⟩
   ·exact zJ (by omega)
   ·apply List.ext_getElem
    ·rw[Array.length_toList,List.length_map,Array.length_toList,hacc1]
    ·intro i q1 q2
     rw[Array.length_toList]at q1
     obtain⟨x,hx,hv⟩:=hacc2 i acc[i] (getElem?_pos acc i q1)
     rw[Array.getElem_toList,hv,List.getElem_map,Array.getElem_toList]
     obtain⟨_,e⟩:=Array.getElem?_eq_some_iff.mp hx
     rw[e]
 unfold collect
 refine wpAny_bind (wpAny_runValue (codeAny_builtin F.entry_proto_collect ?_))
 rw[Around.under_plainId F.plain_proto_collect _]
 show wpAny _ A.in1 (newList [] >>= fun l=>again (.builtin "list.__iadd__" ⟨[l,.ref a],[]⟩)) _ _ s
 refine wpAny_bind (wpAny_newObj_type ?_)
 refine wpAny_pure ⟨plainId_quiet F.plain_list_iadd _,codeAny_builtin F.entry_list_iadd ?_⟩
 rw[Around.under_plainId F.plain_list_iadd _]
 show wpAny _ A.in1 (Builtin.List.listExtendWith (.ref s.heap.objs.size) (.ref a) (.ref s.heap.objs.size)) _ _ { s with heap:=s.heap.push (seqObj "list" #[] 0) }
 unfold Builtin.List.listExtendWith
 have ho1:(s.heap.push (seqObj "list" #[] 0)).get? a=some o:=Heap.get?_push_of_some _ ho
 have hs1:(s.heap.push (seqObj "list" #[] 0)).objs.size=s.heap.objs.size+1:=Heap.size_push _ _
 refine wpAny_bind (wpAny_typeOf (T:="set") ⟨o,ho1,hex.1⟩ ?_)
 have q1:Builtin.List.listSameRef (.ref s.heap.objs.size) (.ref a)=false:=by
  have:s.heap.objs.size≠a:=Nat.ne_of_gt hlt
  simp[Builtin.List.listSameRef,this]
 have q2:(Value.type "set" == Value.type "list")=false:=by decide
 have q3:(Value.type "set" == Value.type "tuple")=false:=by decide
 simp only[q1,q2,q3,Bool.or_false,Bool.false_eq_true,if_false]
 refine wpAny_bind (zf (s:={ s with heap:=s.heap.push (seqObj "list" #[] 0) }) ho1 hex hd hf h1 ?_)
 have hneI:a≠(s.heap.push (seqObj "list" #[] 0)).objs.size:=by
  rw[hs1]
  exact Nat.ne_of_lt (Nat.lt_succ_of_lt hlt)
 refine wpAny_bind (wpAny_holding (As (s:={ s with heap:=(s.heap.push (seqObj "list" #[] 0)).push (bJ a (rawInt 0) 0 es.size ep),drawn:=s.drawn }) ⟨o,Heap.get?_push_of_some _ ho1,hex.1⟩ ?_))
 rw[if_pos (by first | rfl | decide +kernel | kernel_rfl)]
 refine wpAny_bind (wpAny_rule ?_)
 have hS₁:((s.heap.push (seqObj "list" #[] 0)).push (bJ a (rawInt 0) 0 es.size ep)).get? s.heap.objs.size=some (seqObj "list" #[] 0):=Heap.get?_push_of_some _ (Heap.get?_push_size _ rfl)
 refine wpAny_bind ?_
 show wpAny _ A.in1 (updateSeq s.heap.objs.size (·.push .none) >>= fun _=>updateSeq s.heap.objs.size (·.pop)) _ _ { s with heap:=(s.heap.push (seqObj "list" #[] 0)).push (bJ a (rawInt 0) 0 es.size ep),drawn:=s.drawn }
 refine wpAny_bind (wpAny_updateSeq hS₁ rfl ?_)
 have hS₂:=Heap.get?_update_self (Obj.mapSeq (·.push Value.none)) hS₁ rfl
 refine wpAny_updateSeq (s:={ s with heap:=((s.heap.push (seqObj "list" #[] 0)).push (bJ a (rawInt 0) 0 es.size ep)).update s.heap.objs.size (Obj.mapSeq (·.push Value.none)),drawn:=s.drawn }) hS₂ rfl ?_
 have hS₃:=Heap.get?_update_self (Obj.mapSeq (·.pop)) hS₂ rfl
 have oth:∀b o,b≠s.heap.objs.size->((s.heap.push (seqObj "list" #[] 0)).push (bJ a (rawInt 0) 0 es.size ep)).get? b=some o →
   ((((s.heap.push (seqObj "list" #[] 0)).push (bJ a (rawInt 0) 0 es.size ep)).update s.heap.objs.size (Obj.mapSeq (·.push Value.none))).update s.heap.objs.size (Obj.mapSeq (·.pop))).get? b=some o:=
  fun b o hb e=>(Heap.get?_update_other _ _ (Ne.symm hb)).trans ((Heap.get?_update_other _ _ (Ne.symm hb)).trans e)
 refine wpAny_pure ⟨plainId_quiet F.plain_extend_loop _,codeAny_extend_loopS (hW _ hneI).of_in1.toS hsz _ (by rw[hs1];simp only[List.mem_cons,List.not_mem_nil,or_false,not_or];exact⟨Nat.ne_of_lt (Nat.lt_succ_self _),Nat.ne_of_gt hlt⟩) _ es.size 0 { s with heap:=(((s.heap.push (seqObj "list" #[] 0)).push (bJ a (rawInt 0) 0 es.size ep)).update s.heap.objs.size (Obj.mapSeq (·.push Value.none))).update s.heap.objs.size (Obj.mapSeq (·.pop)),drawn:=s.drawn } _ _ rfl (Nat.zero_le _)
  (hSt _ _ (oth _ _ (by rw[hs1];exact Nat.succ_ne_self _) (Heap.get?_push_size _ rfl)) (oth _ _ (Nat.ne_of_lt hlt) (Heap.get?_push_of_some _ ho1))) hS₃ (ItemsOf.nil _) fun s' acc' c' hm hS' hacc=>?_⟩
 show wpAny _ A (load s.heap.objs.size >>= _) _ _ s'
 refine wpAny_bind (wpAny_load hS' ?_)
 obtain⟨h',g',d',tk',os'⟩:=s'
 have z1:g'=s.gens:=hm.gens
 have z2:d'=s.drawn:=hm.drawn
 have z3:os'=s.os:=hm.os
 subst z1 z2 z3
 refine wpAny_pure (hQ h' tk' _ _ (hPm acc' hacc.1 hacc.2) hm.toks (Heap.lt_size hS') fun b o' hb e=>hm.heap b o' (fun z=>?_) (oth b o' (Nat.ne_of_lt hb) ?_))
 ·rcases List.mem_cons.mp z with z | z
  ·exact Nat.ne_of_lt hb z
  ·have z:=List.mem_singleton.mp z
   rw[z]at hb
   exact absurd hb (by rw[hs1];exact Nat.not_lt.mpr (by exact Nat.le_succ _))
 ·exact Heap.get?_push_of_some _ (Heap.get?_push_of_some _ e)
end
end L2
set_option Elab.async false
set_option linter.all false
set_option maxRecDepth 100000
set_option maxHeartbeats 4000000
namespace L2
open PySem PySem.Spec PyProof.Rows
section
variable {X:Cx} {pins:List (Addr×Obj)} {σ:St} {H:Hp} {s:Shared}
end
section
variable {X:Cx}
end
end L2
set_option Elab.async false
set_option linter.all false
set_option maxRecDepth 100000
set_option maxHeartbeats 4000000
namespace L2
open PySem PySem.Spec PyProof.Rows
section
variable {P:Program} {w:World} {A:Around} {E:Value->Shared->Prop} {s:Shared}
end
section
variable {X:Cx}
end
end L2
set_option Elab.async false
set_option linter.all false
set_option maxRecDepth 100000
set_option maxHeartbeats 4000000
namespace L2
open PySem PySem.Spec PyProof.Rows
section
variable {X:Cx}
end
end L2
set_option Elab.async false
set_option linter.all false
set_option maxRecDepth 100000
set_option maxHeartbeats 4000000
namespace L2
open PySem PySem.Spec PyProof.Rows
section
variable {X:Cx} {pins:List (Addr×Obj)} {σ:St} {H:Hp} {s:Shared}
end
section
variable {X:Cx}
end
end L2
set_option Elab.async false
set_option linter.all false
set_option maxRecDepth 100000
set_option maxHeartbeats 4000000
namespace L2
open PySem PySem.Spec PyProof.Rows
section
variable {X:Cx}
end
end L2
set_option Elab.async false
set_option linter.all false
set_option maxRecDepth 100000
set_option maxHeartbeats 4000000
namespace L2
open PySem PySem.Spec PyProof.Rows
end L2
set_option Elab.async false
set_option linter.all false
set_option maxRecDepth 100000
set_option maxHeartbeats 4000000
namespace L2
open PySem PySem.Spec PyProof.Rows
section
variable {X:Cx} {x:Addr} {oe:Obj}
end
end L2
set_option Elab.async false
set_option linter.all false
set_option maxRecDepth 100000
set_option maxHeartbeats 4000000
namespace L2
open PySem PySem.Spec PyProof.Rows
section
variable {prog:Program} {w:World} {A:Around} {E:Value->Shared->Prop} {s:Shared} {dd:Option Addr}
end
section
variable {X:Cx} {x:Addr} {oe:Obj}
end
end L2
namespace L2
open PySem PySem.Spec PyProof.Rows
section
variable {X:Cx}
end
end L2
set_option Elab.async false
set_option linter.all false
set_option maxRecDepth 100000
set_option maxHeartbeats 4000000
namespace L2
open PySem PySem.Spec PyProof.Rows
section
variable {prog:Program} {w:World} {A:Around} {E:Value->Shared->Prop} {K:PySem.W.Frag} {x D:Addr} {ox:Obj} {h:Heap} {g:Array GenState} {dr:Drawn} {t:Nat} {os:OsState}
variable {nm q:Str} {N:Addr} {bs bm bmB:List Value} {sn:List Str} {sub:List Value} {ab:Bool} {col:Option Bool} {dd:Option Addr} {k0 k1 k2 k3 k5:Option Value} {newId:String} {name:Str} {v:Value}
end
section
variable {prog:Program} {w:World} {A:Around} {E:Value->Shared->Prop} {h:Heap} {g:Array GenState} {d:Drawn} {t:Nat} {os:OsState}
variable {nm q:Str} {C N:Addr} {bs bm bmB:List Value} {hdct:Bool} {sn:List Str} {sub:List Value} {ab:Bool} {col:Option Bool} {dd:Option Addr} {k0 k1 k2 k3 k5:Option Value} {B newId initId:String} {K:PySem.W.Frag}
end
section
variable {P:Program} {w:World} {A:Around} {E:Value->Shared->Prop} {K:PySem.W.Frag} {s:Shared} {e C:Addr} {oe:Obj} {v:Value}
end
section
variable {M:Model} {A:Around} {E:Value->Shared->Prop} {env:Env} {nm q:Str} {C N:Addr} {bs bm bmB:List Value} {hdct:Bool} {sn:List Str} {sub:List Value} {ab:Bool} {col:Option Bool} {dd:Option Addr} {k0 k1 k2 k3 k5:Option Value} {newId:String}
end
section
variable {prog:Program} {w:World} {A:Around} {E:Value->Shared->Prop} {s:Shared} {env:Env} {K:PySem.W.Frag} {nm q:Str} {C N:Addr} {bs bm bmB:List Value} {hdct:Bool} {sn:List Str} {sub:List Value} {ab:Bool} {col:Option Bool} {dd:Option Addr} {k0 k1 k2 k3 k5:Option Value} {B newId initId:String}
end
section
variable {P:Program} {w:World} {K:PySem.W.Frag} {mg:Str->Option Value} {base:Heap} {N:List Str} {qual:Str} {scope:Scope} {f:Addr} {cd:Value} {A:Around} {outer:List Env} {s₀:Shared} {H₀:Hp} {E:XK}
end
end L2
set_option Elab.async false
set_option linter.all false
set_option maxRecDepth 100000
set_option maxHeartbeats 4000000
namespace L2
open PySem PySem.Spec PyProof.Rows
section
variable {P:Program} {w:World} {K:PySem.W.Frag} {mg:Str->Option Value} {base:Heap}
end
section
variable {Y:Cx} {x:Addr} {oe:Obj}
end
end L2
set_option Elab.async false
set_option linter.all false
set_option maxRecDepth 100000
set_option maxHeartbeats 4000000
namespace L2
open PySem PySem.Spec PyProof.Rows
section
variable {prog:Program} {w:World} {A:Around} {E:Value->Shared->Prop} {K:PySem.W.Frag} {x D:Addr} {ox:Obj} {od:Option Obj} {name:Str} {v:Value}
end
section
variable {X:Cx} {x D:Addr} {oe:Obj} {da:Option Addr}
end
end L2
set_option Elab.async false
set_option linter.all false
set_option maxRecDepth 100000
set_option maxHeartbeats 1000000
namespace L2
open PySem PySem.Spec PyProof.Rows
section
variable {P:Program} {w:World} {A:Around} {E:Value->Shared->Prop} {s:Shared}
theorem tQ(k:Int)(tk:Tok):(PySem.intKind P w).is k (.int k tk)=true:=by
 show Value.isInt k (.int k tk)=true
 simp[Value.isInt]
def cD(P:Program)(w:World)(h:Heap)(a:Addr)(S:Int->Bool)(n:Nat):Prop:=
 ∃o es ep t,h.get? a=some o/\o.ExactSet/\o.data=.set es ep t/\ElemsOf (PySem.intKind P w) es.toList/\(∀k,S k=true↔∃e∈es.toList,(PySem.intKind P w).is k e.2=true)/\es.size<scanBound/\t.fits es.size=true/\es.size=n/\t.led=cn w
theorem cD.store{h:Heap}{a:Addr}{o:Obj}{es es':Array (Int×Value)}{ep:Nat}{t t':SetTable}{S':Int->Bool}(ho:h.get? a=some o)(hex:o.ExactSet)(hd:o.data=.set es ep t)
  (hel:ElemsOf (PySem.intKind P w) es'.toList) (hmem:∀k,S' k=true↔∃e∈es'.toList,(PySem.intKind P w).is k e.2=true) (hb:es'.size<scanBound) (hf:t'.fits es'.size=true) (hl:t'.led=cn w) :
  (h.update a (Obj.putSet es' t')).get? a=some { o with data:=.set es' (ep+1) t' }/\cD P w (h.update a (Obj.putSet es' t')) a S' es'.size:=by
 have hg:(h.update a (Obj.putSet es' t')).get? a=some { o with data:=.set es' (ep+1) t' }:=by
  have:=Heap.get?_update_self (Obj.putSet es' t') ho (by rw[putSet_of es' t' hd];rfl)
  rw[putSet_of es' t' hd]at this
  exact this
 exact⟨hg,_,es',ep+1,t',hg,hex,rfl,hel,hmem,hb,hf,rfl,hl⟩
theorem qO {g : Bool → Sem Unit} (hg : ∀ (b : Bool) (s₁ : Shared) (Q' : Unit → Shared → Prop), Q' () s₁ → wpAny (model P w) A (g b) Q' E s₁)
    {a : Addr} {o : Obj} {es es1 : Array (Int × Value)} {ep : Nat} {t t2 : SetTable} {S' : Int → Bool} (ho : s.heap.get? a = some o) (hex : o.ExactSet) (hd : o.data = .set es ep t)
    (hel1 : ElemsOf (PySem.intKind P w) es1.toList) (hmem1 : ∀ k', S' k' = true ↔ ∃ e ∈ es1.toList, (PySem.intKind P w).is k' e.2 = true) (hb1 : es1.size < scanBound) (hf2 : t2.fits es1.size = true) (hl2 : t2.led = cn w) {wd : Bool} {R : Option Bool → Shared → Prop}
    (h : ∀ h', Heap.SameBut a s.heap h' → cD P w h' a S' es1.size → R (some true) { s with heap := h' }) :
    wpAny (model P w) A (do
        storeSet a es1 t2
        if (!wd && t2.tooFull) = true then do
            g (relayAll t2 es1 (SetTable.grown es1.size)).2.2
            storeSet a (relayAll t2 es1 (SetTable.grown es1.size)).1 (relayAll t2 es1 (SetTable.grown es1.size)).2.1
            pure (some true)
          else pure (some true)) R E s := by
  refine wpAny_bind (wpAny_storeSet_of ho hd ?_ (fits_of_scanBound hb1))
  obtain ⟨ho1, hS1⟩ := cD.store (P := P) ho hex hd hel1 hmem1 hb1 hf2 hl2
  have hsb1 := Heap.SameBut.update s.heap a (Obj.putSet es1 t2)
  split
  · have hp := relayAll_perm t2 es1 (SetTable.grown es1.size)
    have hfr := relayAll_fits t2 es1 (SetTable.grown es1.size)
    obtain ⟨l1, l2⟩ := xX t2 es1 (SetTable.grown es1.size)
    generalize relayAll t2 es1 (SetTable.grown es1.size) = Rl at hp hfr l1 l2 ⊢
    obtain ⟨es2, t3, gave⟩ := Rl
    dsimp only at hp hfr l1 l2 ⊢
    have hsz : es2.size = es1.size := by rw [← Array.length_toList, hp.length_eq, Array.length_toList]
    refine wpAny_bind (hg _ _ _ (wpAny_bind (wpAny_storeSet_of ho1 rfl ?_ (fits_of_scanBound (by omega)))))
    obtain ⟨_, hS2⟩ := cD.store (P := P) (w := w) (S' := S') ho1 hex rfl (hel1.perm hp) (fun k' => (hmem1 k').trans ⟨fun ⟨e, he, q⟩ => ⟨e, hp.mem_iff.mpr he, q⟩, fun ⟨e, he, q⟩ => ⟨e, hp.mem_iff.mp he, q⟩⟩) (by omega) hfr (l1.trans hl2)
    rw [hsz] at hS2
    exact wpAny_pure (h _ (hsb1.trans (Heap.SameBut.update _ a _)) hS2)
  · exact wpAny_pure (h _ hsb1 hS1)
theorem Ax{a:Addr}{S:Int->Bool}{n:Nat}{k:Int}{tk:Tok}{Q:Bool->Shared->Prop}(hS:cD P w s.heap a S n)(hroom:n+1<scanBound)
  (h:∀h' b,Heap.SameBut a s.heap h'->cD P w h' a (fun k'=>S k' || decide (k'=k)) (if S k then n else n+1)->Q b { s with heap:=h' }) :
  wpAny (model P w) A (setAddHashed a (.int k tk) ((PySem.intKind P w).hash k)) Q E s:=by
 obtain⟨o,es,ep,t,ho,hex,hd,hel,hmem,hb,hf,hn,hled⟩:=hS
 have hkey:(PySem.intKind P w).is k (.int k tk)=true:=tQ k tk
 have hsc:(Value.int k tk).scannable=true:=rfl
 unfold setAddHashed setAddHashedIn
 refine wpAny_holding (wpAny_bind (wpAny_setState_of ho hd hf ?_))
 dsimp only
 rw[byScan_of hsc hb hel]
 simp only[↓reduceIte]
 unfold setAddByScan
 refine wpAny_bind (wpAny_bind (wpAny_rule (wpAny_bind (wpAny_setScan_of hkey ho hd hf hel ?_))))
 cases hr:List.findIdx? (fun e=>(PySem.intKind P w).is k e.2) es.toList with
 | some j=>
  dsimp only
  obtain⟨hj,hpj,_⟩:=List.findIdx?_eq_some_iff_getElem.mp hr
  have hSk:S k=true:=(hmem k).mpr ⟨es.toList[j],List.getElem_mem hj,hpj⟩
  refine wpAny_pure (wpAny_pure ?_)
  have e:s={ s with heap:=s.heap }:=by cases s;rfl
  rw[e]
  refine h s.heap _ (Heap.SameBut.refl a s.heap) ⟨o,es,ep,t,ho,hex,hd,hel,fun k'=>?_,hb,hf,by rw[hSk];exact hn,hled⟩
  rw[Bool.or_eq_true,decide_eq_true_eq,←hmem k']
  exact⟨fun hk=>hk.elim id (fun e=>e ▸ hSk),.inl⟩
 | none=>
  dsimp only
  have hSk:S k=false:=by
   cases hk:S k with
   | false=>rfl
   | true=>
    obtain⟨e,he,hp⟩:=(hmem k).mp hk
    have:=List.findIdx?_eq_none_iff.mp hr e he
    rw[hp]at this
    cases this
  have hgw:∀(b:Bool) {s₁:Shared} {Q':Unit->Shared->Prop},Q' () s₁->wpAny (model P w) A (match b with | true=>rule "set.scan.the-table-gave-way" | false=>pure ()) Q' E s₁:=
   fun b s₁ Q' hq=>by cases b<;>first | exact wpAny_pure hq | exact wpAny_rule hq
  have hperm:=layNew_perm t es ((PySem.intKind P w).hash k) (.int k tk)
  have hfits:=layNew_fits t es ((PySem.intKind P w).hash k) (.int k tk)
  have hl1:=ui t es ((PySem.intKind P w).hash k) (.int k tk)
  generalize layNew t es ((PySem.intKind P w).hash k) (.int k tk)=L at hperm hfits hl1 ⊢
  obtain⟨es1,t1,wd,gave⟩:=L
  dsimp only at hperm hfits hl1 ⊢
  rw[Array.toList_push]at hperm
  have hel1:ElemsOf (PySem.intKind P w) es1.toList:=(hel.push hkey hsc).perm hperm
  have hmem1:∀k',(S k' || decide (k'=k))=true↔∃e∈es1.toList,(PySem.intKind P w).is k' e.2=true:=mem_push_iff hkey hmem hperm
  have hsz1:es1.size=n+1:=by rw[←Array.length_toList,hperm.length_eq,List.length_append,Array.length_toList,hn];rfl
  refine wpAny_bind (hgw _ ?_)
  have hend:∀h' b,Heap.SameBut a s.heap h'->cD P w h' a (fun k'=>S k' || decide (k'=k)) es1.size->Q b { s with heap:=h' }:=by
   intro h' b hsb hS'
   refine h h' b hsb ?_
   rw[hSk,if_neg Bool.false_ne_true,←hsz1]
   exact hS'
  by_cases htp:t1.plain=true
  ·rw[if_pos htp]
   refine wpAny_bind ?_
   rw[hashByValue_scannable 8 hsc]
   refine wpAny_pure ?_
   rw[show plainKind (.int k tk)=true from rfl]
   simp only[if_true]
   refine qO ?_ ho hex hd hel1 hmem1 (by omega) hfits (hl1.trans hled) ?_
   ·intro b s₁ Q' hq
    cases b<;>first | exact wpAny_pure hq | exact wpAny_rule hq
   ·intro h' hsb hS'
    dsimp only
    exact wpAny_pure (hend h' _ hsb hS')
  ·rw[if_neg htp]
   refine wpAny_bind (wpAny_pure ?_)
   simp only[if_true]
   refine qO ?_ ho hex hd hel1 hmem1 (by omega) hfits (hl1.trans hled) ?_
   ·intro b s₁ Q' hq
    cases b<;>first | exact wpAny_pure hq | exact wpAny_rule hq
   ·intro h' hsb hS'
    dsimp only
    exact wpAny_pure (hend h' _ hsb hS')
end
theorem rS:∀{vs:List Value} {zs:List Int},IntsAre vs zs->∀(i:Nat) (v:Value),vs[i]?=some v->∃z t,v=.int z t/\zs[i]?=some z
 | _,_,.nil,i,v,h=>by simp at h
 | _,_,.cons z t _,0,v,h=>by cases h;exact⟨z,t,rfl,rfl⟩
 | _,_,.cons z t r,i+1,v,h=>rS r i v h
theorem vF{D ds:List Int}(hd:D.Nodup)(hs:∀k∈D,k∈ds)(hl:ds.length=D.length):ds.Perm D:=by
 induction D generalizing ds with
 | nil=>
  rw[List.length_nil,List.length_eq_zero_iff]at hl
  subst hl
  exact .refl _
 | cons d D ih=>
  have hm:=hs d List.mem_cons_self
  have p1:=List.perm_cons_erase hm
  have hd':=List.nodup_cons.mp hd
  refine p1.trans ((ih hd'.2 (fun k hk=>?_) ?_).cons d)
  ·refine(List.mem_erase_of_ne ?_).mpr (hs k (List.mem_cons_of_mem _ hk))
   rintro rfl
   exact hd'.1 hk
  ·rw[List.length_erase_of_mem hm,hl]
   rfl
section
variable {P:Program} {w:World} {A:Around} {E:Value->Shared->Prop} {s:Shared}
def cR(P:Program)(w:World)(h:Heap)(a:Addr)(D:List Int):Prop:=D.Nodup/\cD P w h a (fun k=>decide (k∈D)) D.length
theorem nQ:∀{l:List (Int×Value)},ElemsOf (PySem.intKind P w) l->∃ds,IntsAre (l.map (·.2)) ds/\∀e∈l,∀k,(PySem.intKind P w).is k e.2=true->k∈ds
 | [],_=>⟨[],.nil,fun e he=>by cases he⟩
 | e::l,h=>by
  obtain⟨ds,h1,h2⟩:=nQ (l:=l) fun x hx=>h x (List.mem_cons_of_mem _ hx)
  obtain⟨⟨k,hk,_⟩,_⟩:=h e List.mem_cons_self
  obtain⟨t,ht⟩:=Value.isInt_shape (k:=k) hk
  refine⟨k::ds,?_,fun x hx k' hk'=>?_⟩
  ·rw[List.map_cons,ht]
   exact .cons k t h1
  ·rcases List.mem_cons.mp hx with rfl | hx
   ·rw[ht]at hk'
    obtain⟨u,hu⟩:=Value.isInt_shape (k:=k') (v:=.int k t) hk'
    cases hu
    exact List.mem_cons_self
   ·exact List.mem_cons_of_mem _ (h2 x hx k' hk')
theorem cR.elems{h:Heap}{a:Addr}{D:List Int}(hS:cR P w h a D):∃o es ep t ds,h.get? a=some o/\o.ExactSet/\o.data=.set es ep t/\t.fits es.size=true/\t.led=cn w /\es.size<scanBound/\es.size=D.length/\IntsAre (es.toList.map (·.2)) ds/\ds.Perm D:=by
 obtain⟨hnd,o,es,ep,t,ho,hex,hd,hel,hmem,hb,hf,hn,hled⟩:=hS
 obtain⟨ds,h1,h2⟩:=nQ hel
 refine⟨o,es,ep,t,ds,ho,hex,hd,hf,hled,hb,hn,h1,vF hnd (fun k hk=>?_) ?_⟩
 ·obtain⟨e,he,hke⟩:=(hmem k).mp (decide_eq_true hk)
  exact h2 e he k hke
 ·rw[←IntsAre.length h1,List.length_map,Array.length_toList,hn]
theorem cD.moved{h h':Heap}{a:Addr}{S:Int->Bool}{n:Nat}(hS:cD P w h a S n)(hk:∀o,h.get? a=some o->h'.get? a=some o):cD P w h' a S n:=by
 obtain⟨o,es,ep,t,ho,r⟩:=hS
 exact⟨o,es,ep,t,hk _ ho,r⟩
theorem zK{h:Heap}{a:Addr}{D:List Int}{k:Int}(hd:D.Nodup)(hS:cD P w h a (fun k'=>decide (k'∈D) || decide (k'=k)) (if decide (k∈D)then D.length else D.length+1)):∃D',cR P w h a D'/\D'.length<=D.length+1/\∀x,x∈D'↔x∈D\/x=k:=by
 by_cases hk:k∈D
 ·refine⟨D,⟨hd,?_⟩,Nat.le_succ _,fun x=>⟨.inl,fun z=>z.elim id fun e=>e ▸ hk⟩⟩
  rw[decide_eq_true hk,if_pos rfl]at hS
  have e:(fun k'=>decide (k'∈D) || decide (k'=k))=fun k'=>decide (k'∈D):=by
   funext k'
   by_cases e:k'=k
   ·subst e;simp[hk]
   ·simp[e]
  rw[e]at hS
  exact hS
 ·refine⟨k::D,⟨List.nodup_cons.mpr ⟨hk,hd⟩,?_⟩,Nat.le_refl _,fun x=>by rw[List.mem_cons];exact⟨fun z=>z.symm,fun z=>z.symm⟩⟩
  rw[decide_eq_false hk,if_neg Bool.false_ne_true]at hS
  have e:(fun k'=>decide (k'∈D) || decide (k'=k))=fun k'=>decide (k'∈k::D):=by
   funext k'
   simp only[List.mem_cons]
   by_cases e:k'=k<;>by_cases e2:k'∈D<;>simp[e,e2]
  rw[e]at hS
  exact hS
theorem xH{I:Addr}{fp wr:List Addr}{G:Array GenState->Array GenState->Prop}{n:Nat}{Pz:Nat->Value->Prop}{St:Nat->Shared->Prop}(W:WalksS P w A.in1 I fp wr G n Pz St)(S:Addr)(hS:S∉fp)(zs:List Int)(hnz:zs.length=n)(hsz:n+1<scanBound)
  (hval:∀i v,Pz i v->∃z t,v=.int z t/\zs[i]?=some z) {R:Result->Shared->Prop} :
  ∀(m i:Nat) (s:Shared) (D:List Int),n-i=m->i<=n->St i s->cR P w s.heap S D->D.length<=i->(∀k,k∈D↔k∈zs.take i) →
   (∀s' D,Moved (S::wr) G s s'->cR P w s'.heap S D->(∀k,k∈D↔k∈zs)->R (.ok (.ret .none)) s') →
   codeAny (model P w) A (.builtin "set.update.loop" ⟨[.ref S,.ref I],[]⟩) R s:=by
 have hSw:S∉wr:=fun z=>hS (W.sub _ z)
 have more:∀b∈wr,b∈S::wr:=fun b z=>List.mem_cons_of_mem _ z
 intro m
 induction m with
 | zero=>
  intro i s D hm hi hst hset _ hD hR
  obtain rfl:i=n:=by omega
  refine codeAny_builtin F.entry_set_update_loop ?_
  rw[Around.under_plainId F.plain_set_update_loop _]
  show wpAny _ A.in1 (pyNext (.ref I) >>= _) _ _ s
  refine wpAny_bind (W.done s _ _ hst fun s' mv=>?_)
  rw[←hnz,List.take_length]at hD
  exact wpAny_pure (hR s' D (mv.mono more) ⟨hset.1,hset.2.moved fun o=>mv.heap S o hSw⟩ hD)
 | succ m ih=>
  intro i s D hm hi hst hset hDl hD hR
  have hlt:i<n:=by omega
  refine codeAny_builtin F.entry_set_update_loop ?_
  rw[Around.under_plainId F.plain_set_update_loop _]
  show wpAny _ A.in1 (pyNext (.ref I) >>= _) _ _ s
  refine wpAny_bind (W.item i s _ _ hlt hst fun v s' hP hst' mv=>?_)
  obtain⟨z,t,rfl,hz⟩:=hval i v hP
  have hset':cD P w s'.heap S (fun k=>decide (k∈D)) D.length:=hset.2.moved fun o=>mv.heap S o hSw
  show wpAny _ A.in1 (holding [Value.int z t] (setAdd S (.int z t)) >>= _) _ _ s'
  refine wpAny_bind (wpAny_holding ?_)
  unfold setAdd
  refine wpAny_holding (wpAny_bind ((PySem.intKind P w).pyHash (k:=z) (tQ z t) ?_))
  refine Ax (s:={ s' with toks:=s'.toks+1 }) hset' (by omega) fun h' b sb hset2=>?_
  obtain⟨D',hD1,hD2,hD3⟩:=zK hset.1 hset2
  have htk:∀k,k∈D'↔k∈zs.take (i+1):=fun k=>by
   rw[hD3,hD k,List.take_add_one,hz,List.mem_append]
   simp
  refine wpAny_pure ⟨plainId_quiet F.plain_set_update_loop _,ih (i+1) _ D' (by omega) hlt (W.frame _ s' _ _ hst' (Nat.le_succ _) fun c hc o e=>?_) hD1 (by omega) htk fun s'' D2 mv2 hS2=>hR s'' D2 (Moved.trans W.gtrans ((mv.mono more).then_heap (Nat.le_succ _) fun c o hc e=>?_) mv2) hS2⟩
  ·rw[sb.2 c (fun z:c=S=>hS (z ▸ hc))]
   exact e
  ·rw[sb.2 c (fun z:c=S=>hc (by rw[z];exact List.mem_cons_self))]
   exact e
theorem xj{l:Addr}{ys:Array Value}{zs:List Int}{Q:Value->Shared->Prop}(hA:A.handled=none)(gt:s.heap.IsList l ys)(hz:IntsAre ys.toList zs)(hsz:ys.size+1<scanBound)
  (h:∀(h':Heap) (tk:Nat) (D:List Int),cR P w h' s.heap.objs.size D->(∀k,k∈D↔k∈zs)->(∀b o,b<s.heap.objs.size->s.heap.get? b=some o->h'.get? b=some o)->Q (.ref s.heap.objs.size) { s with heap:=h',toks:=tk }):wpAny (model P w) A (call (.type "set") [.ref l]) Q E s:=by
 have x1:=F.called_set.notType
 have x2:=F.called_set.canCreate
 have x3:=F.typeCall_set_1 (.ref l)
 have x4:=F.called_set.made
 have x5:=F.called_set.sub
 obtain⟨c,tl,x6⟩:=F.called_set.mro
 refine wpAny_call (codeAny_of_tree ?_)
 show wpAny _ _ (callAny (.type "set") _) _ _ _
 refine wpAny_pure ⟨Code.quiet_builtin _ (by decide +kernel),codeAny_builtin F.entry_type_call ?_⟩
 rw[Around.under_plain (weight_type_call_type "set" [.ref l] []) rfl]
 repeat (any_goals (first | assumption | wp_step))
 refine codeAny_mono (AD (.ref l) (E:=E) (Q₁:=fun v s1=>v=.ref s.heap.objs.size/\s1={ s with heap:=s.heap.push (aZ (cn w)) }) ⟨rfl,rfl⟩) fun r s1 hr=>?_
 cases r with
 | error e=>exact hr
 | ok fl=>
  cases fl with
  | ret v=>
   obtain⟨rfl,rfl⟩:=hr
   have gS:(s.heap.push (aZ (cn w))).get? s.heap.objs.size=some (aZ (cn w)):=Heap.get?_push_size _ rfl
   have hT:Shared.TypeIs { s with heap:=s.heap.push (aZ (cn w)) } (.ref s.heap.objs.size) "set":=⟨_,gS,rfl⟩
   have x7:=F.called_set.init.lookup
   have x8:=F.called_set.init.bind (.ref s.heap.objs.size)
   repeat (any_goals (first | assumption | wp_step))
   refine codeAny_mono (codeAny_call_builtin (R:=wants (fun r s2=>r=.none/\∃h' tk D,s2={ s with heap:=h',toks:=tk }/\cR P w h' s.heap.objs.size D/\(∀k,k∈D↔k∈zs)/\∀b o,b<s.heap.objs.size->s.heap.get? b=some o->h'.get? b=some o) E) F.called_set.init.plain F.entry_set_init (check_set_init_1 hT ?_)) fun r2 s2 hr2=>?_
   ·have g1:(s.heap.push (aZ (cn w))).IsList l ys:=gt.push _
    have hlt:l<s.heap.objs.size:=by
     obtain⟨o,ho,_⟩:=gt
     exact Heap.lt_size ho
    obtain⟨ol,hol,hcl,nl,hdl⟩:=id g1
    obtain⟨c0,d0,dt,sl⟩:=ol
    simp only at hcl hdl
    subst hcl hdl
    have y1:=F.sub_list_set
    have y2:=F.sub_list_frozenset
    have y3:(Value.type "list" == Value.type "dict")=false:=by decide
    unfold Builtin.«set.__init__» noKeywords Builtin.Frozenset.updateFrom
    generalize hit:pyIter=PI
    wp_walk
    subst hit
    refine wpAny_pyIter_list g1 ?_
    refine wpAny_bind (wpAny_runValue ?_)
    have e1:(s.heap.push (aZ (cn w))).objs.size=s.heap.objs.size+1:=Heap.size_push _ _
    have hA3:A.in1.in1.in1.handled=none:=by simp[hA]
    have hne:l≠(s.heap.push (aZ (cn w))).objs.size:=by
     rw[e1]
     exact Nat.ne_of_lt (Nat.lt_succ_of_lt hlt)
    have hSf:s.heap.objs.size∉[(s.heap.push (aZ (cn w))).objs.size,l]:=by
     intro z
     rcases List.mem_cons.mp z with z | z
     ·rw[e1]at z
      exact Nat.ne_of_lt (Nat.lt_succ_self _) z
     ·exact Nat.ne_of_gt hlt (List.mem_singleton.mp z)
    have hzl:zs.length=ys.size:=by rw[←IntsAre.length hz,Array.length_toList]
    refine xH ((Walks.list hA3 _ l hne ys).toS) s.heap.objs.size hSf zs hzl hsz (fun i v hv=>?_) (ys.size-0) 0 _ [] (by omega) (Nat.zero_le _) ⟨⟨_,Heap.get?_push_size _ rfl,rfl,rfl⟩,g1.push _⟩
     ⟨List.nodup_nil,aZ (cn w),#[],0,_,Heap.get?_push_of_some _ gS,⟨rfl,rfl,rfl⟩,rfl,fun e he=>by simp at he,fun k=>by simp,by decide,by rfl,rfl,rfl⟩ (Nat.le_refl _) (fun k=>by simp) fun s' D mv hS' hD=>?_
    ·exact rS hz i v (by rw[Array.getElem?_toList];exact hv)
    ·obtain⟨h',g',d',tk',os'⟩:=s'
     have q1:g'=s.gens:=mv.gens
     have q2:d'=s.drawn:=mv.drawn
     have q3:os'=s.os:=mv.os
     subst q1 q2 q3
     show wpAny _ _ _ _ _ _
     refine wpAny_pure ?_
     show wpAny _ _ (ret Value.none) _ _ _
     refine wpAny_pure ⟨rfl,h',tk',D,rfl,hS',hD,fun b o hb e=>mv.heap b o (fun z=>?_) (Heap.get?_push_of_some _ (Heap.get?_push_of_some _ e))⟩
     rcases List.mem_cons.mp z with z | z
     ·exact Nat.ne_of_lt hb z
     ·have z:=List.mem_singleton.mp z
      rw[e1]at z
      exact Nat.ne_of_lt (Nat.lt_succ_of_lt hb) z
   ·cases r2 with
    | error e=>exact hr2
    | ok f2=>
     cases f2 with
     | ret r=>
      obtain⟨rfl,h',tk,D,rfl,hS',hD,hk⟩:=hr2
      repeat (any_goals (first | assumption | wp_step))
      exact h _ _ D hS' hD hk
     | _=>exact hr2.elim
  | _=>exact hr.elim
end
end L2
set_option Elab.async false
set_option linter.all false
set_option maxRecDepth 100000
set_option maxHeartbeats 400000
namespace L2
open PySem PySem.Spec PyProof.Rows
theorem lx{α:Type}{D ds:List α}(h:ds.Perm D)(h1:D.length<=1):ds=D:=by
 match D,h,h1 with
 | [],h,_=>exact List.Perm.eq_nil h
 | [x],h,_=>exact List.perm_singleton.mp h
section
variable {P:Program} {w:World} {A:Around} {E:Value->Shared->Prop} {s:Shared}
theorem wY{a:Addr}{D:List Int}{Q:List Value->Shared->Prop}(hA:A.handled=none)(hS:cR P w s.heap a D)(h1:D.length<=1)
  (hQ:∀(h':Heap) (tk:Nat) d (vs:List Value),IntsAre vs D->s.toks<=tk->s.heap.objs.size<h'.objs.size->(∀b o,b<s.heap.objs.size->s.heap.get? b=some o->h'.get? b=some o)->Q vs { s with heap:=h',toks:=tk,drawn:=d }):wpAny (model P w) A (collect (.ref a)) Q E s:=by
 obtain⟨o,es,ep,t,ds,ho,hex,hd,hf,hled,hb,hn,hs,hpm⟩:=hS.elems
 have hp:t.place.size=es.size:=by
  simp only[SetTable.fits,Bool.and_eq_true,beq_iff_eq,decide_eq_true_eq]at hf
  exact hf.1
 refine uM hA ho hex hd hf (by omega) hled hp fun h' tk d vs hv q1 q2 q3=>hQ h' tk d vs ?_ q1 q2 q3
 have e1:ds=D:=lx hpm h1
 subst e1
 have hl:=IntsAre.length hs
 have e2:vs=es.toList.map (·.2):=lx hv (by rw[hl];exact h1)
 rw[e2]
 exact hs
theorem yA{a:Addr}{D:List Int}{Q:Value->Shared->Prop}(hA:A.handled=none)(hS:cR P w s.heap a D)(hD1:D.length<=1)
  (h:∀(h':Heap) (tk:Nat) d (l:Addr) (vs:List Value),s.heap.objs.size<=l->(∃e,h'.get? l=some (seqObj "list" vs.toArray e))->IntsAre vs D->s.toks<=tk →
   (∀b o,b<s.heap.objs.size->s.heap.get? b=some o->h'.get? b=some o)->Q (.ref l) { s with heap:=h',toks:=tk,drawn:=d }) :
  wpAny (model P w) A (call (.builtin "sorted") [.ref a]) Q E s:=by
 refine Calls.call_function_entry kind_sorted plain_sorted entry_sorted (args_sorted1 _) ?_
 unfold Builtin.«sorted»
 refine wpAny_bind (m:=checkCount "sorted" 1 1 _) (wpAny_pure ?_)
 refine wpAny_bind (wY (by simp[hA]) hS hD1 fun h1 tk d vs hst htk hsz1 hk1=>?_)
 have hvl:vs.length=D.length:=IntsAre.length hst
 refine wpAny_bind (wpAny_newList ?_ (Nat.le_trans (show vs.length<=64 by omega) (by decide)))
 have hoL:(h1.push (seqObj "list" vs.toArray 0)).get? h1.objs.size=some (seqObj "list" vs.toArray 0):=Heap.get?_push_size _ rfl
 refine wpAny_bind (wpAny_holding (wpAny_call_entry slot_list_sort ⟨_,hoL,rfl⟩ entry_list_sort (list_sort_tree (s:={ s with heap:=h1.push (seqObj "list" vs.toArray 0),toks:=tk,drawn:=d }) hoL hst (by omega) fun out ns' q1 q2 q3=>⟨_,rfl,?_⟩) (args_list_sort _)))
 refine wpAny_pure ⟨_,rfl,?_⟩
 have e1:ns'=D:=lx q2 hD1
 subst e1
 refine h _ tk d h1.objs.size out.toList (Nat.le_of_lt hsz1) ?_ q1 htk fun b o' hb e=>?_
 ·obtain⟨e1,r1⟩:∃e1,((h1.push (seqObj "list" vs.toArray 0)).update h1.objs.size (Obj.mapSeq fun _=>#[])).get? h1.objs.size=some (seqObj "list" #[] e1):=⟨_,get?_update_seq hoL (fun _=>#[])⟩
  have r2:(((((h1.push (seqObj "list" vs.toArray 0)).update h1.objs.size (Obj.mapSeq fun _=>#[])).push (seqObj "tuple" vs.toArray 0)).push (seqObj "list" #[] 0))).get? h1.objs.size=some (seqObj "list" #[] e1):=Heap.get?_push_of_some _ (Heap.get?_push_of_some _ r1)
  have r3:=get?_update_seq r2 (fun _=>out)
  exact⟨_,by rw[Array.toArray_toList];exact r3⟩
 ·have hb1:b<h1.objs.size:=Nat.lt_trans hb hsz1
  have e1:=hk1 b o' hb e
  unfold sortedHeap
  refine(Heap.get?_update_other _ _ (Nat.ne_of_gt hb1)).trans (Heap.get?_push_of_some _ (Heap.get?_push_of_some _ ((Heap.get?_update_other _ _ (Nat.ne_of_gt hb1)).trans (Heap.get?_push_of_some _ e1))))
end
def eC(P:Program)(w:World)(a:Addr)(D:List Int):HO:=.ext fun h=>cR P w h a D
theorem vy{P:Program}{w:World}{H:Hp}{h:Heap}{a:Addr}{D:List Int}(S:cR P w h a D):bH P w H h a (eC P w a D):=by
 refine⟨S,?_,fun h1 h2 z k=>?_⟩
 ·obtain⟨_,o,es,ep,t,ho,_⟩:=S
  exact⟨o,ho⟩
 ·exact⟨z.1,z.2.moved k⟩
theorem lP:∀{us:List Value} {zs:List Int},IntsAre us zs->Vals (zs.map V.int) us
 | _,_,.nil=>.nil
 | _,_,.cons z t r=>.cons ⟨t,rfl⟩ (lP r)
section
variable {X:Cx}
def vR(P:Program)(w:World):List V->Hp->VK->Prop:=fun xs H Q=>∃p zs,xs=[.ref p]/\H p=some (.lst (List.map V.int zs))/\zs.length<=4000 ∧
 ∀l D,H l=none->D.Nodup->(∀z,z∈D↔z∈zs)->Q (.ref l) (upd H l (eC P w l D))
theorem zi{k:Nat}(hr:Room k X.A):bg X (.type "set") (vR X.prog X.w):=by
 intro pins s σ H xs us Q I r h
 obtain⟨p,zs,rfl,hp,hz,q⟩:=h
 obtain⟨u,rfl,rx⟩:=vals1 r
 cases rx
 obtain⟨_,its,n,rv,gt⟩:=I.hok p _ hp
 have hst:=intsAre_of rv
 have hl:its.length=zs.length:=IntsAre.length hst
 refine xj hr.hd (ys:=its.toArray) (zs:=zs) (show s.heap.IsList p _ from⟨_,gt,rfl,n,rfl⟩) hst (by rw[List.size_toArray,hl];exact Nat.lt_of_le_of_lt (Nat.succ_le_succ hz) (by decide)) fun h' tk D hS hD hk=>?_
 have hfr:=I.hok.fresh (Nat.le_refl _)
 exact⟨.ref s.heap.objs.size,_,I.laid (t':=tk) (fun b o e=>hk b o (Heap.lt_size e) e) (Nat.le_refl _) (vy hS),rfl,q _ D hfr hS.1 hD⟩
def tE(P:Program)(w:World):List V->Hp->VK->Prop:=fun xs H Q=>∃(p:Addr) (D:List Int),xs=[.ref p]/\H p=some (eC P w p D)/\D.length<=1 ∧
 ∀l,H l=none->Q (.ref l) (upd H l (.lst (List.map V.int D)))
theorem yF{k:Nat}(hr:Room k X.A):bg X (.builtin "sorted") (tE X.prog X.w):=by
 intro pins s σ H xs us Q I r h
 obtain⟨p,D,rfl,hp,hl,q⟩:=h
 obtain⟨u,rfl,rx⟩:=vals1 r
 cases rx
 obtain⟨hO,_⟩:=I.hok p _ hp
 refine yA hr.hd (show cR X.prog X.w s.heap p D from hO) hl fun h' tk d l vs hle hlst hst htk hk=>?_
 have hfr:=I.hok.fresh hle
 obtain⟨e,he⟩:=hlst
 refine⟨.ref l,_,((I.dr d).laid (t':=tk) (o:=.lst (D.map V.int)) (fun b o e=>hk b o (Heap.lt_size e) e) hle ?_),rfl,q l hfr⟩
 exact⟨by rw[List.length_map];exact Nat.le_trans hl (by decide),vs,e,lP hst,he⟩
def uO:List V->Hp->VK->Prop:=fun xs H Q=>∃(p:Addr) (ns:List Int),xs=[.ref p]/\H p=some (.lst (List.map V.int ns))/\ns.length<64 ∧
 ∀l ms,H l=none->List.Perm ms ns->List.Pairwise (fun a b:Int=>a<=b) ms->Q (.ref l) (upd H l (.lst (List.map V.int ms)))
theorem oD:bg X (.builtin "sorted") uO:=by
 intro pins s σ H xs us Q I r h
 obtain⟨p,ns,rfl,hp,hl,q⟩:=h
 obtain⟨u,rfl,rx⟩:=vals1 r
 cases rx
 obtain⟨_,its,n,rv,gt⟩:=I.hok p _ hp
 have hst:=intsAre_of rv
 have hil:its.length=ns.length:=IntsAre.length hst
 refine sorted_ints (show s.heap.IsList p its.toArray from⟨_,gt,rfl,n,rfl⟩) hst (by omega) fun out ms q1 q2 q3=>?_
 have hle:s.heap.objs.size<=s.heap.objs.size+1:=Nat.le_succ _
 have hfr:=I.hok.fresh hle
 obtain⟨e,he⟩:=sortedAll_at s.heap its out
 have hml:ms.length=ns.length:=q2.length_eq
 refine⟨.ref (s.heap.objs.size+1),_,I.laid (t':=s.toks) (o:=.lst (ms.map V.int)) (fun b o e=>sortedAll_old e) hle ?_,rfl,q _ ms hfr q2 q3⟩
 exact⟨by rw[List.length_map];exact Nat.le_trans (show ms.length<=64 by omega) (by decide),out.toList,e,lP q1,by rw[Array.toArray_toList];exact he⟩
end
end L2
set_option Elab.async false
set_option linter.all false
set_option maxRecDepth 100000
set_option maxHeartbeats 4000000
namespace L2
open PySem PySem.Spec PyProof.Rows
section
variable {prog:Program} {w:World} {A:Around} {E:Value->Shared->Prop} {s:Shared}
end
section
variable {prog:Program} {w:World} {A:Around} {E:Value->Shared->Prop} {s:Shared}
end
section
variable {X:Cx}
end
end L2
set_option Elab.async false
set_option linter.all false
set_option maxRecDepth 100000
set_option maxHeartbeats 4000000
namespace L2
open PySem PySem.Spec PyProof.Rows
theorem jl{x:Str}{c:Addr}:∀(names:List (Str×NameKind)) (n:Nat) (acc:List (Str×Addr)),(cellsFrom n names acc).lookup x=some c->acc.lookup x=some c\/(n<=c/\(x,NameKind.cell)∈names)
 | [],_,_,h=>.inl h
 | (y,k)::r,n,acc,h=>by
  unfold cellsFrom at h
  by_cases hk:(k == NameKind.cell)=true
  ·rw[if_pos hk]at h
   have hk':k=.cell:=by simpa using hk
   subst hk'
   rcases jl r (n+1) ((y,n)::acc) h with h | ⟨h1,h2⟩
   ·rw[List.lookup_cons]at h
    cases hb:x == y with
    | true=>
     rw[hb]at h
     cases h
     rw[beq_iff_eq.mp hb]
     exact .inr ⟨Nat.le_refl _,List.mem_cons_self⟩
    | false=>rw[hb]at h;exact .inl h
   ·exact .inr ⟨Nat.le_of_succ_le h1,List.mem_cons_of_mem _ h2⟩
  ·rw[if_neg hk]at h
   rcases jl r n acc h with h | ⟨h1,h2⟩
   ·exact .inl h
   ·exact .inr ⟨h1,List.mem_cons_of_mem _ h2⟩
theorem nc{x y:Str}{c:Addr}:∀(names:List (Str×NameKind)) (n:Nat) (acc:List (Str×Addr)),(∀x c,acc.lookup x=some c->@LT.lt Nat _ c n)->(∀x y c,acc.lookup x=some c->acc.lookup y=some c->x=y)->(cellsFrom n names acc).lookup x=some c->(cellsFrom n names acc).lookup y=some c->x=y
 | [],_,_,_,hi,h1,h2=>hi _ _ _ h1 h2
 | (z,k)::r,n,acc,hb,hi,h1,h2=>by
  unfold cellsFrom at h1 h2
  by_cases hk:(k == NameKind.cell)=true
  ·rw[if_pos hk]at h1 h2
   refine nc r (n+1) ((z,n)::acc) (fun x c h=>?_) (fun x y c h1 h2=>?_) h1 h2
   ·rw[List.lookup_cons]at h
    cases e:x == z with
    | true=>rw[e]at h;cases h;exact Nat.lt_succ_self _
    | false=>rw[e]at h;exact Nat.lt_succ_of_lt (hb x c h)
   ·rw[List.lookup_cons]at h1 h2
    cases e1:x == z with
    | true=>
     rw[e1]at h1
     cases h1
     cases e2:y == z with
     | true=>rw[beq_iff_eq.mp e1,beq_iff_eq.mp e2]
     | false=>rw[e2]at h2;exact absurd (hb _ _ h2) (Nat.lt_irrefl _)
    | false=>
     rw[e1]at h1
     cases e2:y == z with
     | true=>rw[e2]at h2;cases h2;exact absurd (hb _ _ h1) (Nat.lt_irrefl _)
     | false=>rw[e2]at h2;exact hi _ _ _ h1 h2
  ·rw[if_neg hk]at h1 h2
   exact nc r n acc hb hi h1 h2
theorem mB{x:Str}{c:Addr}:∀(names:List (Str×NameKind)) (h:Heap) (acc:List (Str×Addr)),(cellsFrom h.objs.size names acc).lookup x=some c->acc.lookup x=some c\/(pushCells h names).IsCell c none
 | [],_,_,e=>.inl e
 | (y,k)::r,h,acc,e=>by
  unfold cellsFrom at e
  unfold pushCells
  by_cases hk:(k == NameKind.cell)=true
  ·rw[if_pos hk]at e ⊢
   rw[←Heap.size_push h { cls:=.type "cell",data:=.cell none }]at e
   rcases mB r (h.push { cls:=.type "cell",data:=.cell none }) ((y,h.objs.size)::acc) e with e | e
   ·rw[List.lookup_cons]at e
    cases hb:x == y with
    | true=>
     rw[hb]at e
     cases e
     exact .inr ⟨_,pushCells_keeps _ _ _ _ (Heap.get?_push_size _ rfl),rfl⟩
    | false=>rw[hb]at e;exact .inl e
   ·exact .inr e
  ·rw[if_neg hk]at e ⊢
   exact mB r h acc e
section
variable {M:Model} {A:Around} {E:Value->Shared->Prop} {s:Shared}
theorem yZ{scope:Scope}{globals:Addr}{closure:List (Str×Addr)}{qual:Str}{func:Option Addr}{code:Value}{outer:Env}{builtins:Addr}{Q:Env->Shared->Prop}
  (hQ:Q (newEnv scope s.heap.objs.size globals (cellsFrom (s.heap.objs.size+1) scope.names closure) qual func code (some outer) builtins) { s with heap:=pushCells (s.heap.push { cls:=.type "dict",data:=.dict #[] }) scope.names }) :
  wpAny M A (newFunctionEnv scope globals closure [] qual func code (some outer) builtins) Q E s:=by
 simp only[newFunctionEnv,Option.isSome_some,if_true]
 refine wpAny_bind (wpAny_alloc ?_)
 refine wpAny_bind (wpAny_layCells _ (fun name kind cells=>by cases hkc:kind == NameKind.cell<;>simp[hkc]) _ _ _ _ ?_)
 rw[show ({ s with heap:=s.heap.push { cls:=.type "dict",data:=.dict #[] } }:Shared).heap.objs.size=s.heap.objs.size+1 from Heap.size_push ..]
 refine wpAny_bind ?_
 rw[List.forIn_nil]
 exact wpAny_pure (wpAny_pure hQ)
end
def eU(X:Cx)(sc:Scope)(C:Addr):List (Str×Addr):=cellsFrom (Nat.succ C) sc.names (cI sc.names X.env.cells)
def cw(X:Cx)(sc:Scope)(own:List Str)(js:List Nat)(z:Blk):Cx where
 prog:=X.prog
 w:=X.w
 K:=X.K
 mg:=X.mg
 base:=X.base
 A:=X.A
 N:=own++js.map fun j=>X.N.getD j ""
 s₀:=z.s
 H₀:=z.H
 env:=compEnvC sc (eU X sc z.C) z.C X.env
 outer:=X.stack
 stack:=X.stack
 ex:=z.fp
 fn:=fun x=>sc.names.lookup x == some .cell
 calm:=X.calm
 pn:=[]
 xe:=fun _ _=>False
def dv(sc out:Scope):Bool:=sc.names.all fun p=>(p.2 != .cell || sc.names.lookup p.1 == some .cell) && (p.2 != .local || sc.names.lookup p.1 == some .local) && (p.2 != .free || out.names.lookup p.1 == some .cell || out.names.lookup p.1 == some .free) && (p.2 != .free || sc.names.lookup p.1 == some .free)
theorem lS{sc out:Scope}(h:dv sc out=true){p:Str×NameKind}(hp:p∈sc.names)(hf:p.2=.free):out.names.lookup p.1=some .cell\/out.names.lookup p.1=some .free:=by
 have:=List.all_eq_true.mp h p hp
 simp[hf]at this
 exact this.1
theorem yz{sc out:Scope}(h:dv sc out=true){x:Str}(hp:(x,NameKind.free)∈sc.names)(h2:sc.names.lookup x=some .cell):False:=by
 have:=List.all_eq_true.mp h _ hp
 simp[h2]at this
theorem xx{sc out:Scope}(h:dv sc out=true){p:Str×NameKind}(hp:p∈sc.names)(hf:p.2=.cell):sc.names.lookup p.1=some .cell:=by
 have:=List.all_eq_true.mp h p hp
 simp[hf]at this
 exact this
theorem tX{sc out:Scope}(h:dv sc out=true){p:Str×NameKind}(hp:p∈sc.names)(hf:p.2=.local):sc.names.lookup p.1=some .local:=by
 have:=List.all_eq_true.mp h p hp
 simp[hf]at this
 exact this
section
variable {X:Cx} {pins:List (Addr×Obj)} {σ:St} {H:Hp} {s:Shared}
theorem gW(ok:X.Ok){sc:Scope}(hb:dv sc X.env.scope=true){x:Str}{c:Addr}(h:(cI sc.names X.env.cells).lookup x=some c):X.env.cells.lookup x=some c:=by
 rcases jI X.env.cells sc.names [] x c h with⟨h1,h2⟩ | h1
 ·obtain⟨d,hd⟩:=ok.has x (lS hb h1 rfl)
  rw[hd]at h2 ⊢
  rw[h2]
  rfl
 ·simp at h1
theorem gf(ok:X.Ok){sc:Scope}(hb:dv sc X.env.scope=true){C:Addr}{x:Str}{c:Addr}(h:(eU X sc C).lookup x=some c):X.env.cells.lookup x=some c\/(@LT.lt Nat _ C c/\sc.names.lookup x=some .cell):=by
 rcases jl _ _ _ h with h | ⟨h1,h2⟩
 ·exact .inl (gW ok hb h)
 ·exact .inr ⟨h1,xx hb h2 rfl⟩
theorem ll{sc:Scope}{x:Str}{C:Addr}(h:(x,NameKind.free)∈sc.names):∃c,(eU X sc C).lookup x=some c:=by
 obtain⟨c,hc⟩:=jA (cells:=X.env.cells) h
 exact Option.isSome_iff_exists.mp (PySem.W.cellsFrom_some sc.names _ _ (.inr (by rw[hc];rfl)))
theorem AB(I:Inv X pins σ H s){sc:Scope}(hb:dv sc X.env.scope=true){x:Str}{c:Addr}(h:(cI sc.names X.env.cells).lookup x=some c):@LT.lt Nat _ c s.heap.objs.size:=I.cell_lt (gW I.ok hb h)
theorem yO(I:Inv X pins σ H s){sc:Scope}{own:List Str}{js:List Nat}{fp:List Addr}{C:Nat}(hk:sc.kind=.function)(hb:dv sc X.env.scope=true)
  (hfp:∀b∈fp,br X pins H b) (hC:s.heap.objs.size<=C) (hlt:∀b∈fp,b<s.heap.objs.size):(cw X sc own js ⟨s,H,fp,C⟩).Ok where
 mod:=I.ok.mod
 kind:=hk
 glob:=I.ok.glob
 blt:=I.ok.blt
 above:=hC
 inj:=fun x y c h1 h2=>nc sc.names _ _ (fun x c e=>Nat.lt_succ_of_le (Nat.le_trans (Nat.le_of_lt (AB I hb e)) hC)) (fun x y c e1 e2=>I.ok.inj x y c (gW I.ok hb e1) (gW I.ok hb e2)) h1 h2
 has:=fun x hx=>by
  have hx':(relabel sc X.env).names.lookup x=some .cell\/(relabel sc X.env).names.lookup x=some .free:=hx
  have go:∀k,(relabel sc X.env).names.lookup x=some k->(k=.cell\/k=.free)->∃c,(eU X sc C).lookup x=some c:=fun k h hkk=>by
   obtain⟨k',h1,h2⟩:=eQ (sc:=sc) (env:=X.env) h
   have m:=iK h1
   rcases h2 with h2 | ⟨h2,_⟩
   ·subst h2
    rcases hkk with e | e
    ·rw[e]at h1;exact Option.isSome_iff_exists.mp (PySem.W.cellsFrom_some sc.names _ _ (.inl h1))
    ·rw[e]at m;exact ll m
   ·rw[h2]at m;exact ll m
  rcases hx' with h | h
  ·exact go _ h (.inl rfl)
  ·exact go _ h (.inr rfl)
 cab:=fun x c h e=>by
  have hx:sc.names.lookup x=some .cell:=by simpa[cw]using h
  have e':(eU X sc C).lookup x=some c:=e
  rcases jl _ _ _ e' with e1 | ⟨e1,_⟩
  ·rcases jI X.env.cells sc.names [] x c e1 with⟨h1,_⟩ | h1
   ·exact(yz hb h1 hx).elim
   ·simp at h1
  ·exact Nat.le_trans hC (Nat.le_of_succ_le e1)
 hd:=I.ok.hd
 frames:=I.ok.frames
 stk:=.inl rfl
 exf:=fun b hb'=>⟨Nat.ne_of_lt (Nat.lt_of_lt_of_le (hlt b hb') hC),fun x c e=>by
  rcases gf I.ok hb (C:=C) e with e | ⟨e,_⟩
  ·exact(hfp b hb').2.2.2.2.1 x c e
  ·exact Nat.ne_of_gt (Nat.lt_trans (Nat.lt_of_lt_of_le (hlt b hb') hC) e)⟩
 bs:=I.bs
 bsz:=Nat.le_trans I.ok.bsz I.sz
 noex:=fun b o e hb'=>by
  rcases(hfp b hb').2.2.2.1 with z | z
  ·exact I.ok.noex b o e z
  ·exact absurd (Nat.lt_of_lt_of_le (Heap.lt_size e) (Nat.le_trans I.ok.bsz z)) (Nat.lt_irrefl _)
 exfs:=fun b hb' hm=>by
  rcases List.mem_cons.mp (I.stkSub b hm)with e | h
  ·exact(hfp b hb').2.1 e
  ·exact(hfp b hb').2.2.1 h
 funs:=I.stack
 frf:=I.stkFree
theorem wN(I:Inv X pins σ H s){sc:Scope}{own:List Str}{js:List Nat}{fp:List Addr}{C D:Nat}{h1:Heap}{tk:Nat}{o:Obj}{m:Str->Option Value}(hk:sc.kind=.function)(hb:dv sc X.env.scope=true)(hj:fc sc X.N js=true)
  (hfp:∀b∈fp,br X pins H b) (hlt:∀b∈fp,b<s.heap.objs.size) (hD:D=s.heap.objs.size) (hC:C=s.heap.objs.size+1) (old:∀b o,s.heap.get? b=some o->h1.get? b=some o)
  (hDo:h1.get? D=some o) (hod:∀v,o.data≠.cell v) (hm:h1.Ns C m) (hcl:∀x c,(eU X sc C).lookup x=some c->(cI sc.names X.env.cells).lookup x=some c\/h1.IsCell c none) :
  Inv (cw X sc own js ⟨s,H,fp,C⟩) [(D,o)] (bA own.length js σ) H { s with heap:=h1,toks:=tk } where
 ok:=yO I hk hb hfp (show @LE.le Nat _ s.heap.objs.size C by omega) hlt
 os:=rfl
 bare:=I.bare
 base:=Un.kept old
 loc:=by
  refine⟨m,hm,fun i x v e1 e2 e3=>?_⟩
  obtain⟨k,j,rfl,ej,es⟩:=jU e2
  have e1':(own++js.map fun j=>X.N.getD j "")[own.length+k]?=some x:=e1
  rw[List.getElem?_append_right (by omega),Nat.add_sub_cancel_left,List.getElem?_map,ej]at e1'
  have ex:X.N.getD j "" = x:=by simpa using e1'
  have hjj:=List.all_eq_true.mp hj j (List.mem_of_getElem? ej)
  simp only[Bool.and_eq_true,decide_eq_true_eq,beq_iff_eq]at hjj
  have exN:X.N[j]?=some x:=by
   rw[←ex,List.getD_eq_getElem?_getD,List.getElem?_eq_getElem hjj.1]
   rfl
  have hfree:sc.names.lookup x=some .free:=by rw[←ex];exact hjj.2
  have hmem:=iK hfree
  have hout:=lS hb hmem rfl
  obtain⟨m0,hn0,hl0⟩:=I.loc
  obtain⟨u,r,l⟩:=hl0 j x v exN es (by rcases hout with z | z;exact .inr (.inl z);exact .inr (.inr z))
  refine⟨u,r,?_⟩
  obtain⟨c,hc⟩:=ll (X:=X) (C:=C) hmem
  have hc':X.env.cells.lookup x=some c:=by
   rcases gf I.ok hb hc with e | ⟨_,e⟩
   ·exact e
   ·rw[hfree]at e;cases e
  have hcell:s.heap.IsCell c (some u):=by
   rcases l with⟨z,_⟩ | ⟨_,c',e',q⟩
   ·have z':X.env.scope.names.lookup x=some .local:=z
    rcases hout with w | w<;>(rw[z']at w;cases w)
   ·rw[hc']at e';cases e';exact q
  have hcell1:h1.IsCell c (some u):=by
   obtain⟨oc,ho,hd⟩:=hcell
   exact⟨oc,old c oc ho,hd⟩
  right
  refine⟨?_,c,hc,hcell1⟩
  have e3':(relabel sc X.env).names.lookup x=some .local\/(relabel sc X.env).names.lookup x=some .cell\/(relabel sc X.env).names.lookup x=some .free:=e3
  rcases e3' with z | z
  ·obtain⟨k',z1,z2⟩:=eQ (sc:=sc) (env:=X.env) z
   rw[hfree]at z1
   rcases z2 with z2 | ⟨_,z2⟩
   ·rw[z2]at z1;cases z1
   ·cases z2
  ·exact z
 cell:=fun x c e=>by
  rcases hcl x c e with e | e
  ·obtain⟨v,oc,ho,hd⟩:=I.cell x c (gW I.ok hb e)
   exact⟨v,oc,old c oc ho,hd⟩
  ·exact⟨none,e⟩
 free:=I.hok.fresh (show @LE.le Nat _ s.heap.objs.size C by omega)
 freeC:=fun x c e=>by
  rcases gf I.ok hb (C:=C) e with e | ⟨e,_⟩
  ·exact I.freeC x c e
  ·exact I.hok.fresh (show @LE.le Nat _ s.heap.objs.size c by omega)
 pin:=fun p hp=>by
  have e:p=(D,o):=by simpa[cw]using hp
  subst e
  refine⟨hDo,I.hok.fresh (show @LE.le Nat _ s.heap.objs.size D by omega),?_,fun z=>?_,hod⟩
  ·exact Nat.ne_of_lt (show @LT.lt Nat _ D C by omega)
  ·have h9:@LT.lt Nat _ D s.heap.objs.size:=I.stk_lt (b:=D) z
   omega
 hok:=I.hok.kept old
 len:=by
  show(bA own.length js σ).length=(own++js.map fun j=>X.N.getD j "").length
  simp[bA]
theorem yE{elt tg iter:Expr}{ifs:List Expr}{sc:Scope}{pos:Pos}{own:List Str}{js:List Nat}{g:TG}{tc:TT}{te:TE}{J:It}{it:Addr}{fp:List Addr}{tn:Nat->Heap->Prop}{RR:Value->Addr->Result->Shared->Prop}{E:Value->Shared->Prop}
  {Q:VK} {W:Nat->Nat->List V->Hp->Prop} (hk:sc.kind=.function) (hb:dv sc X.env.scope=true) (hj:fc sc X.N js=true)
  (hg:∀C,PG (cw X sc own js ⟨s,H,fp,C⟩) tg g) (ht:∀C,eP (cw X sc own js ⟨s,H,fp,C⟩) ifs tc) (he:∀C,PE (cw X sc own js ⟨s,H,fp,C⟩) elt te)
  (I:Inv X pins σ H s) (T:∀C,TurnAt (cw X sc own js ⟨s,H,fp,C⟩) tg J fp it tn) (st:tn 0 s.heap) (hfp:∀b∈fp,br X pins H b) (w0:∃m,W 0 m [] H)
  (turn:∀i m ys H',W i m ys H'->(J.stop i H'/\∀p,H' p=none->Q (.ref p) (upd H' p (.lst ys))) ∨
   (J.go i H'/\ys.length<sizeLine/\∃N:List V->Hp->Prop,(∀ys' H2,N ys' H2->∃m',m'<m/\W (i+1) m' ys' H2)/\∀x H2,J.yld i H' x H2->g x (bA own.length js σ) H2 fun σ2 H3=>tc σ2 H3 fun b H4=>
    if b=true then te σ2 H4 fun v H5=>N (ys++[v]) H5 else N ys H4))
  (fin:∀D C s' ys H',H' D=none->Inv X pins σ (upd H' D (.lst ys)) s'->br X pins (upd H' D (.lst ys)) C->(∃m,s'.heap.Ns C m)->s.heap.objs.size<=C->Q (.ref D) (upd H' D (.lst ys))->RR (.ref D) C (.ok .next) s') :
  wpAny (model X.prog X.w) X.A (newList []) (fun acc s₃=>wpAny (model X.prog X.w) X.A (newFunctionEnv sc X.env.globals (cI sc.names X.env.cells) [] X.env.qual none .none (some X.env)) (fun cenv s₄=>
   codeAny (model X.prog X.w) X.A (.compStart (.ListComp elt [⟨tg,iter,ifs,0⟩] sc pos) 0 (.ref it) acc { cenv with scope:=relabel sc X.env }) (RR acc cenv.locals) s₄) E s₃) E s:=by
 have hlt:∀b∈fp,b<s.heap.objs.size:=fun b hb'=>by
  obtain⟨o,e,_⟩:=(T 0).obj 0 s.heap st b hb'
  exact Heap.lt_size e
 refine wpAny_newObj_type (yZ ?_)
 dsimp only
 generalize hH2:s.heap.push { cls:=.type "list",dict:=none,data:=.seq ([]:List Value).toArray }=H2 at *
 have hCs:H2.objs.size=s.heap.objs.size+1:=by rw[←hH2,Heap.size_push]
 have hns₁:(pushCells (H2.push { cls:=.type "dict",data:=.dict #[] }) sc.names).Ns H2.objs.size (fun _=>none):=(Heap.Ns.new H2 (.type "dict")).keeps (pushCells_keeps _ _)
 have hcl₁:∀x c,(eU X sc H2.objs.size).lookup x=some c->(cI sc.names X.env.cells).lookup x=some c\/(pushCells (H2.push { cls:=.type "dict",data:=.dict #[] }) sc.names).IsCell c none:=fun x c e=>by
  have e':(cellsFrom (H2.objs.size+1) sc.names (cI sc.names X.env.cells)).lookup x=some c:=e
  rw[←Heap.size_push H2 { cls:=.type "dict",data:=.dict #[] }]at e'
  exact mB _ _ _ e'
 have old:∀b o,s.heap.get? b=some o->(pushCells (H2.push { cls:=.type "dict",data:=.dict #[] }) sc.names).get? b=some o:=fun b o e=>pushCells_keeps _ _ b o (Heap.get?_push_of_some _ (hH2 ▸ Heap.get?_push_of_some _ e))
 have hDo:(pushCells (H2.push { cls:=.type "dict",data:=.dict #[] }) sc.names).get? s.heap.objs.size=some (bx [] 0):=pushCells_keeps _ _ _ _ (Heap.get?_push_of_some _ (hH2 ▸ Heap.get?_push_size _ rfl))
 generalize pushCells (H2.push { cls:=.type "dict",data:=.dict #[] }) sc.names=h₁ at *
 generalize hCe:H2.objs.size=C at *
 have below:∀b:Nat,b<s.heap.objs.size->b≠C:=fun b hb'=>by omega
 generalize hDe:s.heap.objs.size=D at *
 -- the loop's word
 let Y:Cx:=cw X sc own js ⟨s,H,fp,C⟩
 have J0:Inv Y [(D,bx [] 0)] (bA own.length js σ) H { s with heap:=h₁ }:=
  wN I hk hb hj hfp (by rw[hDe];exact hlt) hDe.symm (by rw[hDe];exact hCs) old hDo (fun v z=>by cases z) hns₁ hcl₁
 have ndC:@Ne Nat D C:=by omega
 have statF:∀{P':List (Addr×Obj)} {H':Hp},(∀b∈fp,H' b=none)->(∀p∈P',p.1∉fp)->∀b∈fp,br Y P' H' b:=fun{P' H'} hn hp b hb'=>by
  obtain⟨f0,f1,f2,f3,f4,f5⟩:=hfp b hb'
  refine⟨hn b hb',fun z=>below b (hlt b hb') z,fun z=>?_,.inl hb',fun x c e=>?_,fun p hp' z=>?_⟩
  ·rcases List.mem_cons.mp (I.stkSub b z)with e | h
   ·exact f1 e
   ·exact f2 h
  ·rcases gf I.ok hb (C:=C) e with e | ⟨e,_⟩
   ·exact f4 x c e
   ·have h9:@LT.lt Nat _ b s.heap.objs.size:=by rw[hDe];exact hlt b hb'
    exact Nat.ne_of_gt (show @LT.lt Nat _ b c by omega)
  ·have:p∈P':=by simpa[Y,cw]using hp'
   exact hp p this (by rw[z];exact hb')
 have Dfp:D∉fp:=fun z=>by have h9:@LT.lt Nat _ D D:=hlt D z;omega
 have st1:tn 0 h₁:=(T 0).keep 0 s.heap h₁ st fun b _ o e=>old b o e
 have loop:∀s₃:Shared,s₃={ s with heap:=h₁ } →
   codeAny (model X.prog X.w) X.A (.compLoop (.ListComp elt [⟨tg,iter,ifs,0⟩] sc pos) 0 (.ref it) (.ref D) Y.env) (RR (.ref D) C) s₃:=by
  rintro s₃ rfl
  obtain⟨m0,w0⟩:=w0
  refine rK (fun n s'=>∃i ys its q H',Inv Y [(D,bx its q)] (bA own.length js σ) H' s'/\Vals ys its/\ys.length<=sizeLine/\tn i s'.heap/\(∀b∈fp,H' b=none)/\W i n ys H') ?_ m0
   ⟨0,[],[],0,H,J0,.nil,Nat.zero_le _,st1,fun b hb'=>(hfp b hb').1,w0⟩
  rintro n s3 ⟨i,ys,its,q,H3,I3,rv,hz,st3,fr3,w3⟩
  have pD:∀p∈[(D,bx its q)],p.1∉fp:=fun p hp=>by
   have e:p=(D,bx its q):=by simpa using hp
   rw[e];exact Dfp
  rcases turn i n ys H3 w3 with⟨stop,qn⟩ | ⟨go,hlen,N,hN,step⟩
  ·-- the end
   refine au ((T C).done i _ s3 _ H3 _ I3 (statF fr3 pD) st3 stop) fun r s4 ⟨hr,I4⟩=>?_
   subst hr
   show RR (.ref D) C (.ok .next) s4
   have hDp:=I4.pin (D,bx its q) (List.mem_append_right _ (List.mem_singleton.mpr rfl))
   have hD4:s4.heap.get? D=some (bx its q):=hDp.1
   have nD:H3 D=none:=hDp.2.1
   have U:Un (cg X.stack) fp H H3 s.heap s4.heap:=I4.base
   have neD:∀b o,s.heap.get? b=some o->b≠D:=fun b o e=>Nat.ne_of_lt (by have h9:@LT.lt Nat _ b s.heap.objs.size:=Heap.lt_size e;omega)
   have neDH:∀b o,H b=some o->b≠D:=fun b o e=>Nat.ne_of_lt (by have h9:@LT.lt Nat _ b s.heap.objs.size:=I.hok.lt e;omega)
   have U2:Un (cg X.stack) fp H (upd H3 D (.lst ys)) s.heap s4.heap:=
    ⟨U.keep,U.slot,fun b o e n hx=>by rw[aL (neD b o e)];exact U.free b o e n hx,U.there,fun b xs e=>by rw[aL (neDH b _ e)];exact U.tups b xs e,
     fun b o u e=>by rw[aL (neDH b _ e)];exact U.frzs b o u e,fun b ps e=>by rw[aL (neDH b _ e)];exact U.tbls b ps e⟩
   have hok2:bq X.prog X.w (upd H3 D (.lst ys)) s4.heap:=fun b o e=>by
    by_cases hb':b=D
    ·subst hb'
     rw[aO]at e
     cases e
     exact⟨hz,its,q,rv,hD4⟩
    ·rw[aL hb']at e
     exact(I4.hok b o e).stay (fun c u _ z=>z) (fun c z=>by rw[aL (cS z nD)];exact z) fun c xs z=>by rw[aL (cS z nD)];exact z
   have IX:Inv X pins σ (upd H3 D (.lst ys)) s4:=I.call' (ch:=fp) I4.os U2 hok2 I4.bare fun b hb'=>by
    obtain⟨f0,f1,f2,f3,f4,f5⟩:=hfp b hb'
    exact⟨f3,f1,f4,f5⟩
   obtain⟨m4,hn4,_⟩:=I4.loc
   have nC:H3 C=none:=I4.free
   refine fin D C s4 ys H3 nD IX ?_ ⟨m4,hn4⟩ (show @LE.le Nat _ D C by omega) (qn D nD)
   refine⟨by rw[aL (Ne.symm ndC)];exact nC,?_,?_,?_,?_,?_⟩
   ·have h9:@LT.lt Nat _ X.env.locals s.heap.objs.size:=I.lt
    exact Nat.ne_of_gt (show @LT.lt Nat _ X.env.locals C by omega)
   ·exact I.nofs (show @LE.le Nat _ s.heap.objs.size C by omega)
   ·right
    have h9:@LE.le Nat _ X.s₀.heap.objs.size s.heap.objs.size:=I.sz
    exact(show @LE.le Nat _ X.s₀.heap.objs.size C by omega)
   ·intro x c e
    have h9:@LT.lt Nat _ c s.heap.objs.size:=I.cell_lt e
    exact Nat.ne_of_lt (show @LT.lt Nat _ c C by omega)
   ·intro p hp
    have h9:@LT.lt Nat _ p.1 s.heap.objs.size:=I.pin_lt hp
    exact Nat.ne_of_lt (show @LT.lt Nat _ p.1 C by omega)
  ·-- a turn
   refine au ((T C).item i _ s3 _ H3 _ I3 (statF fr3 pD) st3 go) fun r s4 ⟨u,hr,h4⟩=>?_
   subst hr
   refine au h4 fun _ s5 ⟨x,H5,I5,r5,y5,st5,fr5⟩=>?_
   have I5':=I5.pinned (statF fr5 pD) ((T 0).obj _ _ st5)
   refine au (hg _ _ s5 _ H5 x u _ I5' r5 (step x H5 y5)) fun _ s6 ⟨σ6,H6,I6,q6⟩=>?_
   refine au (ht _ _ s6 σ6 H6 _ I6 q6) fun ok s7 ⟨H7,I7,q7⟩=>?_
   have back:∀{s':Shared} {σ':St} {H':Hp} {ys':List V} {its':List Value} {q':Nat},Inv Y ([(D,bx its' q')]++cX fp s5.heap) σ' H' s'->Vals ys' its'->ys'.length<=sizeLine->N ys' H' →
     ∃m,m<n/\∃i ys its q H',Inv Y [(D,bx its q)] (bA own.length js σ) H' s'/\Vals ys its/\ys.length<=sizeLine/\tn i s'.heap/\(∀b∈fp,H' b=none)/\W i m ys H':=by
    intro s' σ' H' ys' its' q' I' rv' hz' nn
    obtain⟨m',hm,w'⟩:=hN ys' H' nn
    have hpin:∀b∈fp,∀o,s5.heap.get? b=some o->s'.heap.get? b=some o/\H' b=none:=fun b hb' o e=>by
     have:=I'.pin (b,o) (List.mem_append_right _ (List.mem_append_right _ (jb hb' e)))
     exact⟨this.1,this.2.1⟩
    refine⟨m',hm,i+1,ys',its',q',H',?_,rv',hz',(T 0).keep _ _ _ st5 fun b hb' o e=>(hpin b hb' o e).1,fun b hb'=>?_,w'⟩
    ·have I'':=I'.unpinned
     obtain⟨mm,hmm,_⟩:=id I''.loc
     refine⟨I''.ok,I''.os,I''.bare,I''.base,⟨mm,hmm,fun k x v e1 e2 e3=>?_⟩,I''.cell,I''.free,I''.freeC,I''.pin,I''.hok,?_⟩
     ·-- the captured names: their cells are as they were at the block's beginning
      obtain⟨m1,hn1,hl1⟩:=J0.loc
      obtain⟨u1,r1,l1⟩:=hl1 k x v e1 e2 e3
      refine⟨u1,r1,?_⟩
      obtain⟨k',j,rfl,ej,es⟩:=jU e2
      have e1':(own++js.map fun j=>X.N.getD j "")[own.length+k']?=some x:=e1
      rw[List.getElem?_append_right (by omega),Nat.add_sub_cancel_left,List.getElem?_map,ej]at e1'
      have ex:X.N.getD j "" = x:=by simpa using e1'
      have hjj:=List.all_eq_true.mp hj j (List.mem_of_getElem? ej)
      simp only[Bool.and_eq_true,decide_eq_true_eq,beq_iff_eq]at hjj
      have hfree:sc.names.lookup x=some .free:=by rw[←ex];exact hjj.2
      rcases l1 with⟨z,zz⟩ | ⟨z,c,e,zz⟩
      ·-- a captured name is no local one
       exfalso
       obtain⟨k2,z1,z2⟩:=eQ (sc:=sc) (env:=X.env) (show(relabel sc X.env).names.lookup x=some .local from z)
       rw[hfree]at z1
       rcases z2 with z2 | ⟨_,z2⟩
       ·rw[z2]at z1;cases z1
       ·cases z2
      ·refine .inr ⟨z,c,e,?_⟩
       have hcs:X.env.cells.lookup x=some c:=by
        rcases gf I.ok hb (C:=C) e with e | ⟨_,e⟩
        ·exact e
        ·rw[hfree]at e;cases e
       obtain⟨ov,oc,hoc,hdc⟩:=I.cell x c hcs
       have hoc1:=old c oc hoc
       obtain⟨oz,hoz,hdz⟩:=zz
       have hoz':h₁.get? c=some oz:=hoz
       rw[hoc1]at hoz'
       cases hoz'
       have cnf:c∉fp:=fun z'=>(hfp c z').2.2.2.2.1 x c hcs rfl
       obtain⟨sl,hh⟩:=I''.base.any hoc (I.freeC x c hcs) cnf
       exact⟨_,hh,hdz⟩
     ·show(bA own.length js σ).length=_
      exact J0.len
    ·obtain⟨o,e,d⟩:=(T 0).obj _ _ st5 b hb'
     exact(hpin b hb' o e).2
   cases ok with
   | false=>
    rw[if_neg Bool.false_ne_true]at q7 ⊢
    exact back I7 rv hz q7
   | true=>
    rw[if_pos rfl]at q7 ⊢
    refine au (he _ _ s7 σ6 H7 _ I7 q7) fun xv s8 ⟨v,H8,I8,r8,q8⟩=>?_
    have hDp:=I8.pin (D,bx its q) (List.mem_append_right _ (List.mem_append_left _ (List.mem_singleton.mpr rfl)))
    have hD8:s8.heap.get? D=some { cls:=.type "list",data:=.seq its.toArray q }:=hDp.1
    have hl:=rv.length
    refine call_meets F.slot_list_append ⟨_,hD8,rfl⟩ F.entry_list_append (F.args_list_append_2 _ _) (PySem.list_append D its.toArray q xv (by rw[List.size_toArray];omega)) ⟨hD8,?_⟩
    have qq:=PySem.IsL.update hD8 (fun a=>a.push xv)
    have eqs:its.toArray.push xv=(its++[xv]).toArray:=by simp
    rw[eqs]at qq
    obtain⟨q2,hq2⟩:∃q2,(s8.heap.update D (Obj.mapSeq fun a=>a.push xv)).get? D=some (bx (its++[xv]) q2):=⟨_,qq⟩
    -- without the pin of D,the record turns,then it is pinned again
    have I8a:Inv Y (cX fp s5.heap) σ6 H8 s8:=I8.pins_of fun p hp=>I8.pin p (List.mem_append_right _ (List.mem_append_right _ hp))
    have nD8:H8 D=none:=hDp.2.1
    have I9:Inv Y (cX fp s5.heap) σ6 H8 { s8 with heap:=s8.heap.update D (Obj.mapSeq fun a=>a.push xv),toks:=s8.toks }:=by
     refine I8a.turned (it:=D) (fun b o hb' e=>(Heap.get?_update_other s8.heap (Obj.mapSeq fun a=>a.push xv) (Ne.symm hb')).trans e) nD8 ndC (.inr (show @LE.le Nat _ s.heap.objs.size D by omega)) (fun x c e=>?_) fun p hp=>?_
     ·rcases gf I.ok hb (C:=C) e with e | ⟨e,_⟩
      ·have h9:@LT.lt Nat _ c s.heap.objs.size:=I.cell_lt e
       exact Nat.ne_of_lt (show @LT.lt Nat _ c D by omega)
      ·exact Nat.ne_of_gt (show @LT.lt Nat _ D c by omega)
     ·have hp':p∈cX fp s5.heap:=by simpa[Y,cw]using hp
      obtain⟨h1,_⟩:=md hp'
      exact fun z=>Dfp (z ▸ h1)
    refine back (ys':=ys++[v]) (its':=its++[xv]) (q':=q2) (I9.pins_of fun p hp=>?_) (rv.append (.cons r8 .nil)) (by rw[List.length_append,List.length_singleton];omega) q8
    rcases List.mem_append.mp hp with hp | hp
    ·have e:p=(D,bx (its++[xv]) q2):=by simpa using hp
     subst e
     refine⟨hq2,nD8,ndC,fun z=>?_,fun v z=>by cases z⟩
     have h9:@LT.lt Nat _ D s.heap.objs.size:=I.stk_lt (b:=D) z
     omega
    ·exact I9.pin p (List.mem_append_right _ hp)
 exact codeAny_compStart_list (loop _ rfl) ((T 0).self X.A 0 { s with heap:=h₁ } _ _ st1 (loop _ rfl))
theorem v7{elt tg iter:Expr}{ifs:List Expr}{sc:Scope}{pos:Pos}(own:List Str)(js:List Nat){wi:TI}{g:TG}{tc:TT}{te:TE}(hi:PI X tg iter wi)(hg:∀z,PG (cw X sc own js z) tg g)(ht:∀z,eP (cw X sc own js z) ifs tc)
  (he:∀z,PE (cw X sc own js z) elt te) (hc:X.calm=true:=by rfl) (hk:sc.kind=.function:=by rfl) (hb:dv sc X.env.scope=true:=by rfl) (hj:fc sc X.N js=true:=by rfl)
  (hs:∀x,foldedSetIterable iter X.env x=pure x:=by intro _;rfl):PE X (.ListComp elt [⟨tg,iter,ifs,0⟩] sc pos) (jO own.length js wi g tc te):=by
 intro pins s σ H Q I h
 rw[eval_ListComp]
 refine wpAny_comprehension_free (use:=none) rfl hs (lH fun p hp hf=>I.ok.has p.1 (lS hb hp hf)) hk (fun p hp hl=>tX hb hp hl) (au (hi pins s σ H _ I h) fun v s1 h1=>au h1 fun itv s2 h2=>?_)
 obtain⟨it,fp,tn,J,H2,e,I2,T,st2,f2,W,w0,turn⟩:=h2
 subst e
 refine yE (RR:=fun acc C=>compPost (model X.prog X.w) X.A X.xe none (EP X pins σ Q) acc C) hk hb hj (fun _=>hg _) (fun _=>ht _) (fun _=>he _) I2 (fun C=>Turn.at_ (Y:=cw X sc own js ⟨_,_,_,C⟩) T hc) st2 f2 w0 turn ?_
 intro D C s' ys H' nD I' hC ⟨m,hm⟩ _ q
 refine⟨m,hm,fun h' hs'=>?_⟩
 obtain⟨f0,f1,f2,f3,f4,f5⟩:=hC
 exact⟨.ref D,_,I'.turned (t':=s'.toks) (it:=C) (fun b o hb' e=>(hs'.2 b hb').trans e) f0 f1 f3 f4 f5,rfl,q⟩
end
end L2
set_option linter.all false
namespace St
def cu(lo hi:Int)(xs:List Int):Prop:=xs.Pairwise (· < ·)/\∀x∈xs,lo<=x/\x<hi
structure Ok(b s:Int)(o a:List Int):Prop where
 hb:0<=b
 hs:1<=s
 ho:cu 0 b o
 ha:cu b (b+s) a
def mem(b s:Int)(o a:List Int)(x:Int):Bool:=if x<b then o.contains x else a.contains (b+(x-b) % s)
section
variable {b s:Int} {o a:List Int}
theorem fV(x:Int)(h:x<b):mem b s o a x=o.contains x:=if_pos h
theorem fh(x:Int)(h:b<=x):mem b s o a x=a.contains (b+(x-b) % s):=if_neg (by omega)
end
end St
set_option linter.all false
namespace St
def bt(f:Nat->Bool)(b d:Nat):Prop:=∀x,b<=x->f (x+d)=f x
theorem bt.mul{f:Nat->Bool}{b d:Nat}(h:bt f b d):∀k x,b<=x->f (x+k*d)=f x
 | 0,x,hx=>by simp
 | k+1,x,hx=>by
  rw[Nat.succ_mul,←Nat.add_assoc,h _ (by omega),h.mul k x hx]
theorem bt.mono{f:Nat->Bool}{b c d:Nat}(h:bt f b d)(hc:b<=c):bt f c d:=fun x hx=>h x (by omega)
theorem bt.times{f:Nat->Bool}{b d:Nat}(h:bt f b d)(k:Nat):bt f b (k*d):=fun x hx=>h.mul k x hx
def row(f:Nat->Bool)(lo n:Nat):List Int:=((List.range n).filter fun i=>f (lo+i)).map fun i=>((lo+i:Nat):Int)
end St
set_option linter.all false
namespace St
theorem jF(f:Nat->Bool)(lo n:Nat):row f lo (n+1)=row f lo n++if f (lo+n)then[((lo+n:Nat):Int)]else[]:=by
 unfold row
 rw[List.range_succ,List.filter_append,List.map_append]
 congr 1
 by_cases h:f (lo+n)=true<;>simp[h]
theorem jz(f:Nat->Bool)(lo n:Nat):(row f lo n).length<=n:=by
 unfold row
 rw[List.length_map]
 exact Nat.le_trans (List.length_filter_le _ _) (by simp)
theorem ij{f:Nat->Bool}{lo n:Nat}{x:Int}:x∈row f lo n↔(lo:Int)<=x/\x<lo+n/\f x.toNat=true:=by
 unfold row
 simp only[List.mem_map,List.mem_filter,List.mem_range]
 constructor
 ·rintro⟨i,⟨hi,hf⟩,rfl⟩
  refine⟨by omega,by omega,?_⟩
  rw[Int.toNat_natCast];exact hf
 ·rintro⟨h1,h2,h3⟩
  refine⟨x.toNat-lo,⟨by omega,?_⟩,by omega⟩
  rw[show lo+(x.toNat-lo)=x.toNat by omega];exact h3
theorem iw(f:Nat->Bool)(lo n:Nat):cu lo (lo+n) (row f lo n):=by
 refine⟨?_,fun x hx=>⟨(ij.mp hx).1,(ij.mp hx).2.1⟩⟩
 unfold row
 rw[List.pairwise_map]
 refine List.Pairwise.imp (R:=fun a b=>a<b) (fun h=>by omega) ?_
 exact List.Pairwise.filter _ List.pairwise_lt_range
theorem ny{f:Nat->Bool}{lo n:Nat}{x:Int}(h1:(lo:Int)<=x)(h2:x<lo+n):(row f lo n).contains x=f x.toNat:=by
 rw[Bool.eq_iff_iff,List.contains_iff_mem,ij]
 constructor
 ·exact fun h=>h.2.2
 ·exact fun h=>⟨h1,h2,h⟩
theorem w8(f:Nat->Bool)(b s:Nat)(hs:1<=s):Ok b s (row f 0 b) (row f b s):=
 ⟨by omega,by omega,by have:=iw f 0 b;simpa using this,iw f b s⟩
theorem vO{f:Nat->Bool}{b s:Nat}(hs:1<=s)(h:bt f b s)(x:Nat):mem b s (row f 0 b) (row f b s) x=f x:=by
 by_cases hx:x<b
 ·rw[fV _ (by omega),ny (by omega) (by omega),Int.toNat_natCast]
 ·rw[fh _ (by omega)]
  have r0:0<=((x:Int)-b) % s:=Int.emod_nonneg _ (by omega)
  have r1:((x:Int)-b) % s<s:=Int.emod_lt_of_pos _ (by omega)
  rw[ny (by omega) (by omega)]
  have e:((b:Int)+((x:Int)-b) % s).toNat=b+(x-b) % s:=by
   have:((x:Int)-b) % s=(((x-b) % s:Nat):Int):=by
    rw[show (x:Int)-b=((x-b:Nat):Int) by omega]
    rfl
   omega
  rw[e]
  have:=h.mul ((x-b) / s) (b+(x-b) % s) (by omega)
  rw[←this]
  congr 1
  have:=Nat.div_add_mod (x-b) s
  rw[Nat.mul_comm]at this
  omega
def fn(b s:Int)(o a:List Int)(n:Nat):Bool:=mem b s o a n
theorem zX{b s:Int}{o a:List Int}(S:Ok b s o a):bt (fn b s o a) b.toNat s.toNat:=fun x hx=>by
 have hb:=S.hb
 have hs:=S.hs
 unfold fn
 rw[fh _ (by omega),fh _ (by omega)]
 congr 2
 have:((x+s.toNat:Nat):Int)-b=(x:Int)-b+s*1:=by omega
 rw[this,Int.add_mul_emod_self_left]
theorem vL{b s:Int}{o a:List Int}(S:Ok b s o a){y:Int}(hy:0<=y):(o.contains y || a.any fun x=>decide (x<=y) && (y-x) % s == 0)=mem b s o a y:=by
 have hs:=S.hs
 by_cases h:y<b
 ·rw[fV _ h]
  have:(a.any fun x=>decide (x<=y) && (y-x) % s == 0)=false:=by
   rw[List.any_eq_false]
   intro x hx
   have:=S.ha.2 x hx
   simp
   omega
  rw[this,Bool.or_false]
 ·rw[fh _ (by omega)]
  have:o.contains y=false:=by
   rw[Bool.eq_false_iff]
   intro hc
   rw[List.contains_iff_mem]at hc
   have:=S.ho.2 y hc
   omega
  rw[this,Bool.false_or,Bool.eq_iff_iff,List.any_eq_true,List.contains_iff_mem]
  have r0:0<=(y-b) % s:=Int.emod_nonneg _ (by omega)
  have r1:(y-b) % s<s:=Int.emod_lt_of_pos _ (by omega)
  have hm:=Int.mul_ediv_add_emod (y-b) s
  have q0:0<=(y-b) / s:=Int.ediv_nonneg (by omega) (by omega)
  have q1:0<=s*((y-b) / s):=Int.mul_nonneg (by omega) q0
  constructor
  ·rintro⟨x,hx,hc⟩
   simp only[Bool.and_eq_true,decide_eq_true_eq,beq_iff_eq]at hc
   have hb:=S.ha.2 x hx
   have e:(y-b) % s=x-b:=by
    have e1:y-b=(x-b)+s*((y-x) / s):=by
     have:=Int.mul_ediv_add_emod (y-x) s
     rw[hc.2]at this
     omega
    rw[e1,Int.add_mul_emod_self_left,Int.emod_eq_of_lt (by omega) (by omega)]
   rw[e,show b+(x-b)=x by omega]
   exact hx
  ·intro hx
   refine⟨_,hx,?_⟩
   simp only[Bool.and_eq_true,decide_eq_true_eq,beq_iff_eq]
   refine⟨by omega,?_⟩
   rw[show y-(b+(y-b) % s)=s*((y-b) / s) by omega]
   exact Int.mul_emod_right _ _
theorem ix{xs:List Int}{x:Int}:xs.contains x=true↔x∈xs:=List.contains_iff_mem
theorem lh:∀{xs ys:List Int},xs.Pairwise (· < ·)->ys.Pairwise (· < ·)->(∀z,z∈xs↔z∈ys)->xs=ys
 | [],[],_,_,_=>rfl
 | [],y::ys,_,_,h=>by have:=(h y).mpr List.mem_cons_self;simp at this
 | x::xs,[],_,_,h=>by have:=(h x).mp List.mem_cons_self;simp at this
 | x::xs,y::ys,hx,hy,h=>by
  obtain⟨hx1,hx2⟩:=List.pairwise_cons.mp hx
  obtain⟨hy1,hy2⟩:=List.pairwise_cons.mp hy
  have e:x=y:=by
   have a1:=(h x).mp List.mem_cons_self
   have a2:=(h y).mpr List.mem_cons_self
   rcases List.mem_cons.mp a1 with e | a1
   ·exact e
   ·rcases List.mem_cons.mp a2 with e | a2
    ·exact e.symm
    ·have:=hy1 _ a1
     have:=hx1 _ a2
     omega
  subst e
  congr 1
  refine lh hx2 hy2 fun z=>⟨fun hz=>?_,fun hz=>?_⟩
  ·rcases List.mem_cons.mp ((h z).mp (List.mem_cons_of_mem _ hz))with e | hz'
   ·have:=hx1 z hz;omega
   ·exact hz'
  ·rcases List.mem_cons.mp ((h z).mpr (List.mem_cons_of_mem _ hz))with e | hz'
   ·have:=hy1 z hz;omega
   ·exact hz'
theorem uA{b s:Int}{o a:List Int}(S:Ok b s o a):row (fn b s o a) 0 b.toNat=o:=by
 have hb:=S.hb
 refine lh (iw _ _ _).1 S.ho.1 fun z=>?_
 rw[ij]
 constructor
 ·rintro⟨h1,h2,h3⟩
  unfold fn at h3
  rw[fV _ (by omega),ix]at h3
  rwa [Int.toNat_of_nonneg (by omega)]at h3
 ·intro hz
  have:=S.ho.2 z hz
  refine⟨by omega,by omega,?_⟩
  unfold fn
  rw[fV _ (by omega),ix,Int.toNat_of_nonneg (by omega)]
  exact hz
theorem xT{b s:Int}{o a:List Int}(S:Ok b s o a):row (fn b s o a) b.toNat s.toNat=a:=by
 have hb:=S.hb
 have hs:=S.hs
 refine lh (iw _ _ _).1 S.ha.1 fun z=>?_
 rw[ij]
 have key:∀z:Int,b<=z->z<b+s->mem b s o a z=a.contains z:=fun z h1 h2=>by
  rw[fh _ h1,Int.emod_eq_of_lt (by omega) (by omega),show b+(z-b)=z by omega]
 constructor
 ·rintro⟨h1,h2,h3⟩
  unfold fn at h3
  rw[Int.toNat_of_nonneg (by omega),key z (by omega) (by omega),ix]at h3
  exact h3
 ·intro hz
  have:=S.ha.2 z hz
  refine⟨by omega,by omega,?_⟩
  unfold fn
  rw[Int.toNat_of_nonneg (by omega),key z (by omega) (by omega),ix]
  exact hz
end St
set_option linter.all false
namespace St
def cm(a b:Nat):Nat:=a / Nat.gcd a b*b
theorem mh(a b:Nat):cm a b=b / Nat.gcd a b*a:=by
 unfold cm
 have ha:Nat.gcd a b*(a / Nat.gcd a b)=a:=Nat.mul_div_cancel' (Nat.gcd_dvd_left a b)
 have hb:Nat.gcd a b*(b / Nat.gcd a b)=b:=Nat.mul_div_cancel' (Nat.gcd_dvd_right a b)
 generalize hg:Nat.gcd a b=g at *
 generalize a / g=x at *
 generalize b / g=y at *
 rw[←ha,←hb,Nat.mul_comm y,Nat.mul_comm g y,Nat.mul_comm g x,Nat.mul_assoc,Nat.mul_comm g y,←Nat.mul_assoc]
theorem yl{a b:Nat}(ha:1<=a)(hb:1<=b):1<=cm a b:=by
 unfold cm
 have h1:0<a / Nat.gcd a b:=Nat.div_pos (Nat.le_of_dvd ha (Nat.gcd_dvd_left a b)) (Nat.gcd_pos_of_pos_left b ha)
 exact Nat.mul_pos h1 hb
theorem wW(a b:Nat):cm a b=cm b a:=by
 rw[mh a b]
 unfold cm
 rw[Nat.gcd_comm]
theorem jZ{a:Nat}(ha:1<=a):cm a a=a:=by
 unfold cm
 rw[Nat.gcd_self,Nat.div_self ha,Nat.one_mul]
theorem u9(x y:Nat):Nat.gcd y (x % y)=Nat.gcd x y:=by
 rw[Nat.gcd_comm x y,Nat.gcd_rec y x,Nat.gcd_comm]
end St
set_option linter.all false
namespace St
end St
set_option Elab.async false
set_option linter.all false
namespace Bfs
abbrev Pl:=Int×Int
section
variable (nx:Pl->Nat->Option Pl) (s:Pl)
variable {nx s}
end
end Bfs
set_option Elab.async false
set_option linter.all false
namespace Bfs
end Bfs
set_option Elab.async false
set_option linter.all false
namespace Bfs
end Bfs
set_option Elab.async false
set_option linter.all false
set_option maxRecDepth 100000
namespace My
open PySem L2 St
set_option maxHeartbeats 4000000
def stq (i : Nat) : Stmt := PySem.Challenge.pw_stairrooms_k35_whole_closed_built.main.body.getD i (.Pass ⟨0, 0, 0, 0⟩)
local macro_rules | `(tactic| walk_at "cond") => `(tactic| first | decide | omega | (dsimp only; omega) | (unfold hZ; omega) | (unfold rO; exact ⟨by decide, by decide, by decide⟩) | (dsimp only; exact ⟨by omega, by omega⟩) | exact .inr ⟨by decide, by decide⟩ | exact .inl ⟨by decide, by decide⟩ | (unfold fL; omega))
local macro_rules | `(tactic| walk_at "rd") => do
 let ts ← ("seq ret retN asg drop ifS next name var c op un CB cons nil ints test B exb not and or andV orV notV ifE yes I0 I U EqI NeI EqB NeB call BM tup lst sl noPart part exi chain comp iL iT i1 i2 i3 for tTru intB max2 min2 sub gcons gnil aug ipI zip rev par par2 lam calV raise fs try bseq bnext bplain bif bcall enum gget gin revL leS disp dget lrev disp1 din dnin dput min3 iS iD bm0 revS iD2 iLT thaw iD3 iDL dgt2 fs3 fs5".splitOn " ").toArray.mapM fun n =>
  let i := Lean.mkIdent (.mkSimple ("rd_" ++ n))
  if n == "var" || n == "aug" then `(tacticSeq| ((with_reducible apply $i); (exact rfl)))
  else if n == "I" then `(tacticSeq| ((with_reducible apply $i); (walk_at "cond")))
  else `(tacticSeq| with_reducible refine $i ?_)
 `(tactic| repeat (first $[| $ts]* | dsimp only))
structure Blt(mg:Str->Option Value):Prop where
 len_:mg "len" = none
 isinstance_:mg "isinstance" = none
 tuple_:mg "tuple" = none
 list_:mg "list" = none
 int_:mg "int" = none
 bool_:mg "bool" = none
 range_:mg "range" = none
 zip_:mg "zip" = none
 max_:mg "max" = none
 min_:mg "min" = none
 abs_:mg "abs" = none
 all_:mg "all" = none
 set_:mg "set" = none
 str_:mg "str" = none
 any_:mg "any" = none
 sorted_:mg "sorted" = none
def isInt:V->Bool
 | .int _=>true
 | _=>false
def isStr:V->Bool
 | .str _=>true
 | _=>false
def isTup(H:Hp):V->Bool
 | .ref p=>match H p with
  | some (.tup _)=>true
  | _=>false
 | _=>false
theorem uN{H:Hp}{v:V}{n:String}(h:bO H v n):∃b c,df n "int" = some b/\df n "bool" = some c/\(b && !c)=isInt v:=by
 cases v with
 | non=>cases(show n = "NoneType" from h);exact⟨_,_,rfl,rfl,rfl⟩
 | bl b=>cases(show n = "bool" from h);exact⟨_,_,rfl,rfl,rfl⟩
 | int i=>cases(show n = "int" from h);exact⟨_,_,rfl,rfl,rfl⟩
 | str z=>cases(show n = "str" from h);exact⟨_,_,rfl,rfl,rfl⟩
 | ref a=>rcases h with⟨rfl,xs,e⟩ | ⟨rfl,xs,e⟩<;>exact⟨_,_,rfl,rfl,rfl⟩
 | _=>exact False.elim h
theorem rf{H:Hp}{v:V}{n:String}(h:bO H v n):df n "str" = some (isStr v):=by
 cases v with
 | non=>cases(show n = "NoneType" from h);rfl
 | bl b=>cases(show n = "bool" from h);rfl
 | int i=>cases(show n = "int" from h);rfl
 | str z=>cases(show n = "str" from h);rfl
 | ref a=>rcases h with⟨rfl,xs,e⟩ | ⟨rfl,xs,e⟩<;>rfl
 | _=>exact False.elim h
theorem lY{H:Hp}{v:V}{n:String}(h:bO H v n):df n "tuple" = some (isTup H v):=by
 cases v with
 | non=>cases(show n = "NoneType" from h);rfl
 | bl b=>cases(show n = "bool" from h);rfl
 | int i=>cases(show n = "int" from h);rfl
 | str z=>cases(show n = "str" from h);rfl
 | ref a=>rcases h with⟨rfl,xs,e⟩ | ⟨rfl,xs,e⟩<;>(unfold isTup;dsimp only;rw[e];rfl)
 | _=>exact False.elim h
def bw(H:Hp):Nat->V->Prop
 | _,.non=>True
 | _,.bl _=>True
 | _,.int _=>True
 | _,.str z=>z.length<=1000
 | 0,.ref _=>False
 | n+1,.ref p=>∃xs,(H p=some (.tup xs)\/H p=some (.lst xs))/\xs.length<=2000/\∀x∈xs,bw H n x
 | _,_=>False
theorem bw.ext{H H':Hp}(e:Ext H H'):∀{n:Nat} {v:V},bw H n v->bw H' n v:=by
 intro n
 induction n with
 | zero=>intro v h;cases v<;>exact h
 | succ n ih=>
  intro v h
  cases v with
  | ref p=>
   obtain⟨xs,h1,h2,h3⟩:=h
   exact⟨xs,h1.imp (e _ _) (e _ _),h2,fun x hx=>ih (h3 x hx)⟩
  | _=>exact h
theorem bw.kind{H:Hp}{n:Nat}{v:V}(h:bw H n v):∃k,bO H v k:=by
 cases v with
 | non=>exact⟨_,rfl⟩
 | bl b=>exact⟨_,rfl⟩
 | int i=>exact⟨_,rfl⟩
 | str z=>exact⟨_,rfl⟩
 | ref p=>
  cases n with
  | zero=>exact h.elim
  | succ n=>
   obtain⟨xs,h1,_⟩:=h
   rcases h1 with h1 | h1
   ·exact⟨"tuple",.inr ⟨rfl,xs,h1⟩⟩
   ·exact⟨"list",.inl ⟨rfl,xs,h1⟩⟩
 | _=>cases n<;>exact h.elim
theorem ki{H:Hp}{v:V}(h:isTup H v=true):∃p xs,v=.ref p/\H p=some (.tup xs):=by
 cases v with
 | ref p=>
  unfold isTup at h
  dsimp only at h
  split at h
  ·rename_i xs e
   exact⟨p,xs,rfl,e⟩
  ·cases h
 | _=>cases h
theorem bw.items{H:Hp}{n:Nat}{p:Addr}{xs:List V}(h:bw H (n+1) (.ref p))(e:H p=some (.tup xs)):xs.length<=2000/\∀x∈xs,bw H n x:=by
 obtain⟨ys,h1,h2,h3⟩:=h
 rcases h1 with h1 | h1<;>rw[e]at h1<;>cases h1
 exact⟨h2,h3⟩
theorem cz{n:Nat}(h:n<=2000):n<=sizeLine:=Nat.le_trans h (by decide)
def gq(K:PySem.W.Frag):Sp:=fun vs H Q _=>∃v n,vs=[v]/\bO H v n/\Q (.bl (isInt v)) H
abbrev i6:Stmt:=stq 7
theorem sY:FnScope ["thing"] ["thing"] (aJ i6):=⟨rfl,rfl,rfl,by decide +kernel,rfl,by decide +kernel,by decide +kernel⟩
theorem zg{P:Program}{w:World}{K:PySem.W.Frag}{mg:Str->Option Value}{base:Heap}(D:Dfn K mg "is_whole" i6 ["thing"])(T:Blt mg):Cal P w K mg base "is_whole" 1 ["thing"] (gq K):=by
 have nd:=(sY).nd
 refine D.ok sY (fun vs H Q E h=>?_) (fun X hX H vs Q E h=>?_)
 ·obtain⟨v,n,rfl,_⟩:=h;rfl
 ·obtain⟨f,cdv,A,outer,s,H0,E0,rfl,hr⟩:=hX
  obtain⟨v,n,rfl,hk,q⟩:=h
  obtain⟨b,c,hb,hc,e⟩:=uN hk
  refine⟨_,(ao (ax (bQ (aP cK rfl T.isinstance_ PyProof.Rows.boot_isinstance (aa (pv 0) (aa (cJ (v:=.ty "int") rfl T.int_ PyProof.Rows.boot_int rfl) af))) (cp (fT (aP cK rfl T.isinstance_ PyProof.Rows.boot_isinstance (aa (pv 0) (aa (cJ (v:=.ty "bool") rfl T.bool_ PyProof.Rows.boot_bool rfl) af)))))))),?_⟩
  walk_at "rd"
  refine bK hk hb ?_
  walk_at "rd"
  cases b with
  | false=>refine aq ?_;rw[←e]at q;exact q
  | true=>
   refine ar ?_
   walk_at "rd"
   refine bK hk hc ?_
   walk_at "rd"
   rw[←e]at q;exact q
def bG(m:Int):V->Bool
 | .int i=>decide (0<=i) && decide (i<m)
 | _=>false
def lT:List (Key×V):=[(.inr "up",.str "down"),(.inr "down",.str "up"),(.inr "stay",.str "stay"),(.inr "zero",.str "zero")]
theorem xq{w:World}{K:PySem.W.Frag}{a:Addr}{t1 t2 t3 t4 t5 t6 t7 t8:Tok}{ep:Nat}(h:K.lookup a=some (fD w [("up",t1,.str "down" t2),("down",t3,.str "up" t4),("stay",t5,.str "stay" t6),("zero",t7,.str "zero" t8)] ep))(hs:(a == sysModules)=false):GDict w K a lT:=
 ⟨⟨_,_,h,.cons ⟨rfl,⟨_,rfl⟩⟩ (.cons ⟨rfl,⟨_,rfl⟩⟩ (.cons ⟨rfl,⟨_,rfl⟩⟩ (.cons ⟨rfl,⟨_,rfl⟩⟩ .nil)))⟩,by decide +kernel,hs⟩
def gh:V->Bool
 | .str z=>(bZ lT (.inr z)).isSome
 | _=>false
def iV(z:Str):Bool:=!decide (z.cps.toList<(Str.ofString "a").cps.toList) && !decide ((Str.ofString "z").cps.toList<z.cps.toList)
def fB:V->Bool
 | .str z=>decide (z.length=1) && iV z
 | _=>false
theorem cT{v:V}(h:isInt v=true):∃i,v=.int i:=by
 cases v<;>first | exact ⟨_,rfl⟩ | cases h
theorem isStr_of{v:V}(h:isStr v=true):∃z,v=.str z:=by
 cases v<;>first | exact ⟨_,rfl⟩ | cases h
theorem sZ{m:Int}{v:V}(h:isInt v=false):bG m v=false:=by
 cases v<;>first | rfl | cases h
theorem yC{v:V}(h:isStr v=false):gh v=false:=by
 cases v<;>first | rfl | cases h
theorem vA{v:V}(h:isStr v=false):fB v=false:=by
 cases v<;>first | rfl | cases h
def mJ(K:PySem.W.Frag):Sp:=fun vs H Q _=>∃v m n,vs=[v,.int m]/\bO H v n/\Q (.bl (bG m v)) H
abbrev ky:Stmt:=stq 22
theorem oP:FnScope ["thing","many"] ["thing","many"] (aJ ky):=⟨rfl,rfl,rfl,by decide +kernel,rfl,by decide +kernel,by decide +kernel⟩
theorem uQ{P:Program}{w:World}{K:PySem.W.Frag}{mg:Str->Option Value}{base:Heap}(D:Dfn K mg "is_room" ky ["thing","many"])(T:Blt mg)(C_is_whole:Cal P w K mg base "is_whole" 1 ["thing"] (gq K)):Cal P w K mg base "is_room" 2 ["thing","many"] (mJ K):=by
 have nd:=(oP).nd
 refine D.ok oP (fun vs H Q E h=>?_) (fun X hX H vs Q E h=>?_)
 ·obtain⟨i,m,n,rfl,_⟩:=h;rfl
 ·obtain⟨f,cdv,A,outer,s,H0,E0,rfl,hr⟩:=hX
  obtain⟨v,m,n,rfl,hk,q⟩:=h
  refine⟨_,(ao (ax (bQ (aw C_is_whole hr (aa (pv 0) af)) (cp (ko eT dD ae (pv 0) (pv 1)))))),?_⟩
  walk_at "rd"
  refine⟨v,n,rfl,hk,?_⟩
  refine rd_exb ?_
  cases hv:isInt v with
  | false=>
   refine aq ?_
   rw[sZ hv]at q
   exact q
  | true=>
   obtain⟨i,rfl⟩:=cT hv
   refine ar ?_
   walk_at "rd"
   unfold bG at q
   dsimp only at q
   cases h0:decide (0<=i)with
   | false=>
    refine aq ?_
    rw[h0]at q
    exact q
   | true=>
    refine ar ?_
    walk_at "rd"
    rw[h0,Bool.true_and]at q
    exact q
def qU(K:PySem.W.Frag):Sp:=fun vs H Q _=>∃v n,vs=[v]/\bO H v n/\Q (.bl (gh v)) H
abbrev jh:Stmt:=stq 23
theorem pC:FnScope ["thing"] ["thing"] (aJ jh):=⟨rfl,rfl,rfl,by decide +kernel,rfl,by decide +kernel,by decide +kernel⟩
theorem vv{P:Program}{w:World}{K:PySem.W.Frag}{mg:Str->Option Value}{base:Heap}(D:Dfn K mg "is_deed" jh ["thing"])(T:Blt mg)(g_TURNED:∃a,mg "TURNED" = some (.ref a)/\GDict w K a lT):Cal P w K mg base "is_deed" 1 ["thing"] (qU K):=by
 have nd:=(pC).nd
 refine D.ok pC (fun vs H Q E h=>?_) (fun X hX H vs Q E h=>?_)
 ·obtain⟨z,n,rfl,_⟩:=h;rfl
 ·obtain⟨f,cdv,A,outer,s,H0,E0,rfl,hr⟩:=hX
  obtain⟨a_TURNED,m_TURNED,d_TURNED⟩:=g_TURNED
  obtain⟨v,n,rfl,hk,q⟩:=h
  refine⟨_,(ao (ax (bQ (aP cK rfl T.isinstance_ PyProof.Rows.boot_isinstance (aa (pv 0) (aa (cJ (v:=.ty "str") rfl T.str_ PyProof.Rows.boot_str rfl) af))) (cp (Ak (ym rfl m_TURNED d_TURNED (pv 0)) (by with_unfolding_all rfl)))))),?_⟩
  walk_at "rd"
  refine bK hk (rf hk) ?_
  walk_at "rd"
  cases hv:isStr v with
  | false=>
   refine aq ?_
   rw[yC hv]at q
   exact q
  | true=>
   obtain⟨z,rfl⟩:=isStr_of hv
   refine ar ?_
   walk_at "rd"
   exact⟨.inr z,rfl,q⟩
def qu(K:PySem.W.Frag):Sp:=fun vs H Q _=>∃v n j,vs=[v]/\bO H v n/\bw H j v/\Q (.bl (fB v)) H
abbrev iR:Stmt:=stq 24
theorem oW:FnScope ["thing"] ["thing"] (aJ iR):=⟨rfl,rfl,rfl,by decide +kernel,rfl,by decide +kernel,by decide +kernel⟩
theorem uI{P:Program}{w:World}{K:PySem.W.Frag}{mg:Str->Option Value}{base:Heap}(D:Dfn K mg "is_sign" iR ["thing"])(T:Blt mg):Cal P w K mg base "is_sign" 1 ["thing"] (qu K):=by
 have nd:=(oW).nd
 refine D.ok oW (fun vs H Q E h=>?_) (fun X hX H vs Q E h=>?_)
 ·obtain⟨z,n,j,rfl,_⟩:=h;rfl
 ·obtain⟨f,cdv,A,outer,s,H0,E0,rfl,hr⟩:=hX
  obtain⟨v,n,j,rfl,hk,ht,q⟩:=h
  refine⟨_,(ao (ax (bQ (aP cK rfl T.isinstance_ PyProof.Rows.boot_isinstance (aa (pv 0) (aa (cJ (v:=.ty "str") rfl T.str_ PyProof.Rows.boot_str rfl) af))) (bQ (dh bu (aP uY rfl T.len_ PySem.boot_len (aa (pv 0) af)) ae (aC _)) (cp (ko sX sX aN (pv 0) aN)))))),?_⟩
  walk_at "rd"
  refine bK hk (rf hk) ?_
  walk_at "rd"
  cases hv:isStr v with
  | false=>
   refine aq ?_
   rw[vA hv]at q
   exact q
  | true=>
   obtain⟨z,rfl⟩:=isStr_of hv
   refine ar ?_
   walk_at "rd"
   refine⟨_,rfl,cz (Nat.le_trans (show z.length<=1000 by cases j<;>exact ht) (by decide)),?_⟩
   walk_at "rd"
   unfold fB iV at q
   dsimp only at q
   by_cases h1:z.length=1
   ·rw[decide_eq_true (show((z.length:Nat):Int)=1 by omega)]
    refine ar ?_
    walk_at "rd"
    rw[decide_eq_true h1,Bool.true_and]at q
    cases h2:!decide (z.cps.toList<(Str.ofString "a").cps.toList)with
    | false=>
     refine aq ?_
     rw[h2]at q
     exact q
    | true=>
     refine ar ?_
     walk_at "rd"
     rw[h2,Bool.true_and]at q
     exact q
   ·rw[decide_eq_false (show ¬((z.length:Nat):Int)=1 by omega)]
    refine aq ?_
    rw[decide_eq_false h1,Bool.false_and]at q
    exact q
def eV(m:Int):List V->Bool
 | [a,b,c,d]=>bG m a && (bG m c && (gh b && fB d))
 | _=>false
def bM(H:Hp)(m:Int):V->Bool
 | .ref p=>match H p with
  | some (.tup xs)=>eV m xs
  | _=>false
 | _=>false
theorem sE{H:Hp}{m:Int}{v:V}(h:isTup H v=false):bM H m v=false:=by
 cases v with
 | ref p=>
  unfold isTup at h
  unfold bM
  dsimp only at h ⊢
  split
  ·rename_i xs e
   rw[e]at h
   cases h
  ·rfl
 | _=>rfl
theorem m5{H:Hp}{m:Int}{p:Addr}{xs:List V}(h:H p=some (.tup xs)):bM H m (.ref p)=eV m xs:=by
 unfold bM
 dsimp only
 rw[h]
theorem qX{m:Int}{xs:List V}(h:xs.length≠4):eV m xs=false:=by
 unfold eV
 split
 ·exact absurd rfl h
 ·rfl
theorem four{xs:List V}(h:xs.length=4):∃a b c d,xs=[a,b,c,d]:=by
 match xs,h with
 | [a,b,c,d],_=>exact⟨a,b,c,d,rfl⟩
def rJ(K:PySem.W.Frag):Sp:=fun vs H Q _=>∃v m,vs=[v,.int m]/\bw H 2 v/\Q (.bl (bM H m v)) H
abbrev jk:Stmt:=stq 25
theorem qj:FnScope ["thing","many"] ["thing","many"] (aJ jk):=⟨rfl,rfl,rfl,by decide +kernel,rfl,by decide +kernel,by decide +kernel⟩
theorem zB{P:Program}{w:World}{K:PySem.W.Frag}{mg:Str->Option Value}{base:Heap}(D:Dfn K mg "is_way" jk ["thing","many"])(T:Blt mg)(C_is_sign:Cal P w K mg base "is_sign" 1 ["thing"] (qu K))(C_is_deed:Cal P w K mg base "is_deed" 1 ["thing"] (qU K))(C_is_room:Cal P w K mg base "is_room" 2 ["thing","many"] (mJ K)):Cal P w K mg base "is_way" 3 ["thing","many"] (rJ K):=by
 have nd:=(qj).nd
 refine D.ok qj (fun vs H Q E h=>?_) (fun X hX H vs Q E h=>?_)
 ·obtain⟨p,m,rfl,_⟩:=h;rfl
 ·obtain⟨f,cdv,A,outer,s,H0,E0,rfl,hr⟩:=hX
  obtain⟨v,m,rfl,ht,q⟩:=h
  obtain⟨n,hk⟩:=ht.kind
  refine⟨_,(ai (aT (PW.pt (bS (bI (bj (aP cK rfl T.isinstance_ PyProof.Rows.boot_isinstance (aa (pv 0) (aa (cJ (v:=.ty "tuple") rfl T.tuple_ PyProof.Rows.boot_tuple rfl) af))))) (cA (aH dP (aP (cU K) rfl T.len_ PySem.boot_len (aa (pv 0) af)) ae (aC _))))) (ao (ax aW)) aM)
    (ai (aT (PW.pt (bS (bI (bj (aw C_is_room hr (aa (ak (aG K) (pv 0) ae (fun _ _=>rfl)) (aa (pv 1) af))))) (cA (bI (bj (aw C_is_room hr (aa (ak (aG K) (pv 0) ae (fun _ _=>rfl)) (aa (pv 1) af)))))))) (ao (ax aW)) aM)
    (ao (ax (bQ (aw C_is_deed hr (aa (ak (aG K) (pv 0) ae (fun _ _=>rfl)) af)) (cp (aw C_is_sign hr (aa (ak (aG K) (pv 0) ae (fun _ _=>rfl)) af)))))))),?_⟩
  walk_at "rd"
  refine bK hk (lY hk) ?_
  walk_at "rd"
  cases hv:isTup H v with
  | false=>
   refine ar ?_
   walk_at "rd"
   rw[sE hv]at q
   exact q
  | true=>
   refine aq ?_
   obtain⟨p,xs,rfl,hp⟩:=ki hv
   obtain⟨hx1,hx2⟩:=ht.items hp
   rw[m5 hp]at q
   walk_at "rd"
   refine gm (ah.of hp) ?_
   walk_at "rd"
   by_cases h4:xs.length=4
   ·obtain⟨a,b,c,d,rfl⟩:=four h4
    have ta:=hx2 a (by simp)
    have tb:=hx2 b (by simp)
    have tc:=hx2 c (by simp)
    have td:=hx2 d (by simp)
    obtain⟨ka,hka⟩:=ta.kind
    obtain⟨kb,hkb⟩:=tb.kind
    obtain⟨kc,hkc⟩:=tc.kind
    obtain⟨kd,hkd⟩:=td.kind
    unfold eV at q
    dsimp only at q
    refine aq ?_
    walk_at "rd"
    refine aE (ah.of hp) (v:=a) rfl ?_
    walk_at "rd"
    refine⟨a,m,ka,rfl,hka,?_⟩
    walk_at "rd"
    cases ra:bG m a with
    | false=>
     refine ar ?_
     walk_at "rd"
     rw[ra]at q
     exact q
    | true=>
     refine aq ?_
     walk_at "rd"
     refine aE (ah.of hp) (v:=c) rfl ?_
     walk_at "rd"
     refine⟨c,m,kc,rfl,hkc,?_⟩
     walk_at "rd"
     rw[ra,Bool.true_and]at q
     cases rc:bG m c with
     | false=>
      refine ar ?_
      walk_at "rd"
      rw[rc]at q
      exact q
     | true=>
      refine aq ?_
      walk_at "rd"
      refine aE (ah.of hp) (v:=b) rfl ?_
      walk_at "rd"
      refine⟨b,kb,rfl,hkb,?_⟩
      walk_at "rd"
      rw[rc,Bool.true_and]at q
      cases rb:gh b with
      | false=>
       refine aq ?_
       rw[rb]at q
       exact q
      | true=>
       refine ar ?_
       walk_at "rd"
       refine aE (ah.of hp) (v:=d) rfl ?_
       walk_at "rd"
       rw[rb,Bool.true_and]at q
       exact⟨d,kd,1,rfl,hkd,td,q⟩
   ·rw[qX h4]at q
    rw[decide_eq_false (show ¬((xs.length:Nat):Int)=4 by omega)]
    refine ar ?_
    walk_at "rd"
    exact q
theorem fW{xs:List Int}{i:Nat}{v:V}(h:(xs.map V.int)[i]?=some v):∃x,v=.int x/\xs[i]?=some x:=by
 rw[List.getElem?_map]at h
 cases e:xs[i]? with
 | none=>rw[e]at h;cases h
 | some x=>rw[e]at h;exact⟨x,(Option.some.inj h).symm,rfl⟩
theorem ay{n:Nat}(h:n<=1000000):n<=sizeLine:=Nat.le_trans h (by decide)
def mC(K:PySem.W.Frag):Sp:=fun vs H Q _=>∃(a:Addr) (ns:List Int) (k:Int),vs=[.ref a,.int k]/\ag K H a (ns.map V.int)/\ns.length<=63/\0<=k/\∀z,Q (.int z) H
theorem sy{ns:List Int}{i:Int}(h0:0<=i)(h:i<ns.length):∃z,bD (ns.map V.int) i=some (.int z)/\ns[i.toNat]?=some z:=by
 have hi:i.toNat<ns.length:=by omega
 refine⟨ns[i.toNat],gC h0 ?_,List.getElem?_eq_getElem hi⟩
 rw[List.getElem?_map,List.getElem?_eq_getElem hi]
 rfl
abbrev jf:Stmt:=stq 41
theorem nr:FnScope ["_law_script","_law_k"] ["_law_script","_law_k"] (aJ jf):=⟨rfl,rfl,rfl,by decide +kernel,rfl,by decide +kernel,by decide +kernel⟩
theorem vB{P:Program}{w:World}{K:PySem.W.Frag}{mg:Str->Option Value}{base:Heap}(D:Dfn K mg "_law_cell" jf ["_law_script","_law_k"])(T:Blt mg):Cal P w K mg base "_law_cell" 1 ["_law_script","_law_k"] (mC K):=by
 have nd:=(nr).nd
 refine D.ok nr (fun vs H Q E h=>?_) (fun X hX H vs Q E h=>?_)
 ·obtain⟨a,ns,k,rfl,_⟩:=h;rfl
 ·obtain⟨f,cdv,A,outer,s,H0,E0,rfl,hr⟩:=hX
  obtain⟨a,ns,k,rfl,ha,hl,hk,q⟩:=h
  refine⟨_,(ai (aT (aH bu (aP (cU K) rfl T.len_ PySem.boot_len (aa (pv 0) af)) ae (aC _)) (ao (ax (aj cP ae (aj aF (pv 1) ae)))) aM)
    (ai (aT (aH dD (pv 1) (aP (cU K) rfl T.len_ PySem.boot_len (aa (pv 0) af)) (aC _)) (ao (ax (ak (aD K) (pv 0) (pv 1) (fun _ _=>rfl)))) aM)
    (ao (ax (aj aF (ak (aD K) (pv 0) (aj bh (pv 1) (aP (cU K) rfl T.len_ PySem.boot_len (aa (pv 0) af))) (fun _ _=>rfl)) (aj cP ae (pv 1))))))),?_⟩
  walk_at "rd"
  refine fJ ha ?_
  walk_at "rd"
  rw[List.length_map]
  by_cases h0:(ns.length:Int)=0
  ·rw[decide_eq_true h0]
   refine ar ?_
   walk_at "rd"
   exact q _
  ·rw[decide_eq_false h0]
   refine aq ?_
   walk_at "rd"
   refine fJ ha ?_
   walk_at "rd"
   rw[List.length_map]
   by_cases h1:k<ns.length
   ·rw[decide_eq_true h1]
    refine ar ?_
    obtain⟨z,hz,_⟩:=sy hk h1
    walk_at "rd"
    refine aB ha hz ?_
    exact q _
   ·rw[decide_eq_false h1]
    refine aq ?_
    walk_at "rd"
    refine fJ ha ?_
    rw[List.length_map]
    have hp:(0:Int)<ns.length:=by omega
    refine rd_I hp ?_
    obtain⟨z,hz,_⟩:=sy (ns:=ns) (Int.emod_nonneg k (by omega)) (Int.emod_lt_of_pos k hp)
    refine aB ha hz ?_
    walk_at "rd"
    exact q _
def tL(K:PySem.W.Frag):Sp:=fun vs H Q _=>∃c k p,vs=[.int c,.int k,.int p]/\0<=k/\k<100000/\0<p/\∀z,0<=z->z<p->Q (.int z) H
abbrev i9:Stmt:=stq 42
theorem rC:FnScope ["_law_cell_here","_law_k","_law_prime","_law_far"] ["_law_cell_here","_law_k","_law_prime"] (aJ i9):=⟨rfl,rfl,rfl,by decide +kernel,rfl,by decide +kernel,by decide +kernel⟩
theorem ud{P:Program}{w:World}{K:PySem.W.Frag}{mg:Str->Option Value}{base:Heap}(D:Dfn K mg "_law_mixed" i9 ["_law_cell_here","_law_k","_law_prime"])(T:Blt mg):Cal P w K mg base "_law_mixed" 1 ["_law_cell_here","_law_k","_law_prime"] (tL K):=by
 have nd:=(rC).nd
 refine D.ok rC (fun vs H Q E h=>?_) (fun X hX H vs Q E h=>?_)
 ·obtain⟨c,k,p,rfl,_⟩:=h;rfl
 ·obtain⟨f,cdv,A,outer,s,H0,E0,rfl,hr⟩:=hX
  obtain⟨c,k,p,rfl,hk,hk2,hp,q⟩:=h
  refine⟨_,(ai (aA (i:=3) nd rfl (Or.inl rfl) (aj bh (aj cP (aj aF (aj aF (aj aF (pv 0) (aj cP (aj cP ae (pv 1)) (pv 1))) (aj cP ae (pv 1))) ae) ae) ae))
    (ai (aA (i:=3) nd rfl (Or.inl rfl) (aj bh (aj cP (pv 3) (pv 3)) ae))
    (ao (ax (aj bh (aj cP (pv 3) ae) (pv 2)))))),?_⟩
  walk_at "rd"
  exact q _ (Int.emod_nonneg _ (by omega)) (Int.emod_lt_of_pos _ hp)
theorem cj{H H2:Hp}{q:Addr}{o:HO}(e:Ext H H2)(hq:H q=none):Ext H (upd H2 q o):=fun b u hb=>by
 rw[aL (cS hb hq)]
 exact e b u hb
def eX(K:PySem.W.Frag):Sp:=fun vs H Q _=>∃(c:Int) (w:Addr) (ws:List Int) (p:Int),vs=[.int c,.ref w,.int p]/\H w=some (.lst (ws.map V.int))/\(∀x∈ws,0<x/\x<2 ^ 40)/\ws.length<=10000/\0<p ∧
 ∀(q:Addr) (ds:List Int) (H':Hp),Ext H H'->H' q=some (.lst (ds.map V.int))->H q=none->ds.length=ws.length->(∀(i:Nat) d x,ds[i]?=some d->ws[i]?=some x->0<=d/\d<x)->Q (.ref q) H'
theorem fH{K:PySem.W.Frag}{H:Hp}{c:Int}{w:Addr}{p:Int}{Q:VK}{xe:XK}(ws:List Int)(h1:H w=some (.lst (ws.map V.int)))(h2:∀x∈ws,0<x/\x<2 ^ 40)(h3:ws.length<=10000)(h4:0<p)
  (k:∀(q:Addr) (ds:List Int) (H':Hp),Ext H H'->H' q=some (.lst (ds.map V.int))->H q=none->ds.length=ws.length->(∀(i:Nat) d x,ds[i]?=some d->ws[i]?=some x->0<=d/\d<x)->Q (.ref q) H'):eX K [.int c,.ref w,.int p] H Q xe:=⟨c,w,ws,p,rfl,h1,h2,h3,h4,k⟩
abbrev iY:Stmt:=stq 43
theorem oT:FnScope ["_law_cell_here","_law_widths","_law_prime","_law_left","_law_found","_law_k"] ["_law_cell_here","_law_widths","_law_prime"] (aJ iY):=⟨rfl,rfl,rfl,by decide +kernel,rfl,by decide +kernel,by decide +kernel⟩
theorem zk{P:Program}{w:World}{K:PySem.W.Frag}{mg:Str->Option Value}{base:Heap}(D:Dfn K mg "_law_draws" iY ["_law_cell_here","_law_widths","_law_prime"])(T:Blt mg)(C__law_mixed:Cal P w K mg base "_law_mixed" 1 ["_law_cell_here","_law_k","_law_prime"] (tL K)):Cal P w K mg base "_law_draws" 2 ["_law_cell_here","_law_widths","_law_prime"] (eX K):=by
 have nd:=(oT).nd
 refine D.ok oT (fun vs H Q E h=>?_) (fun X hX H vs Q E h=>?_)
 ·obtain⟨c,w,ws,p,rfl,_⟩:=h;rfl
 ·obtain⟨f,cdv,A,outer,s,H0,E0,rfl,hr⟩:=hX
  obtain⟨c,w,ws,p,rfl,hw,hpos,hlen,hp,q⟩:=h
  refine⟨_,(ai (aA (i:=3) nd rfl (Or.inl rfl) ae)
    (ai (bX (aH ia (pv 0) (aj gQ ae ae) (aC _)) (ao (aA (i:=3) nd rfl (Or.inl rfl) (aj bY (pv 0) (aj gQ ae ae)))) aM)
    (ai (aA (i:=4) nd rfl (Or.inl rfl) (bf af))
    (ai (bL PassesOwn.never rfl (dH rfl T.range_ (aa (aP (cU K) rfl T.len_ PySem.boot_len (aa (pv 1) af)) af)) (aI (i:=5) nd rfl (Or.inl rfl)) (ao (bX (aH ed (pv 3) ae (aC _)) (ai (bo (bF K PySem.F.plainAttrs_list PySem.F.slot_list_append PySem.F.type_list_append bE (pv 4) (aa (aj bh (pv 3) (ak (aD K) (pv 1) (pv 5) (fun _ _=>rfl))) af)))
    (ao (aA (i:=3) nd rfl (Or.inl rfl) (aj mS (pv 3) (ak (aD K) (pv 1) (pv 5) (fun _ _=>rfl)))))) (ao (bo (bF K PySem.F.plainAttrs_list PySem.F.slot_list_append PySem.F.type_list_append bE (pv 4) (aa (aj bh (aw C__law_mixed hr (aa (pv 0) (aa (pv 5) (aa (pv 2) af)))) (ak (aD K) (pv 1) (pv 5) (fun _ _=>rfl))) af)))))))
    (ao (ax (pv 4))))))),?_⟩
  walk_at "rd"
  refine cO (fun σ' H'=>H'=H/\∃l,σ'=[some (.int c),some (.ref w),some (.int p),some (.int l),none,none]) ?_ ?_
  ·walk_at "rd"
   refine dn (fun h=>?_) (fun h=>?_)
   ·walk_at "rd"
    exact⟨rfl,_,rfl⟩
   ·walk_at "rd"
    exact⟨rfl,_,rfl⟩
  rintro σ' H' ⟨rfl,l,rfl⟩
  walk_at "rd"
  refine⟨ay (by simp),av fun f H1 e1 hf hfn=>?_⟩
  walk_at "rd"
  refine fJ (ag.of (e1 _ _ hw)) ?_
  rw[List.length_map]
  walk_at "rd"
  refine dN (by omega) ?_
  refine forR (fun i σ H2=>Ext H' H2/\∃(l:Int) (k:Option V) (ds:List Int),σ=[some (.int c),some (.ref w),some (.int p),some (.int l),some (.ref f),k]/\H2 f=some (.lst (ds.map V.int))/\ds.length=i/\∀(i:Nat) d x,ds[i]?=some d->ws[i]?=some x->0<=d/\d<x)
   ⟨e1,l,none,[],rfl,hf,rfl,fun i d x hd=>by simp at hd⟩ ?_ ?_
  ·rintro i σ H2 hi ⟨e2,l,k,ds,rfl,hf2,hds,hb⟩
   rw[Int.toNat_natCast]at hi
   have hwi:ws[i]?=some ws[i]:=List.getElem?_eq_getElem hi
   have hx:=hpos ws[i] (List.getElem_mem hi)
   have hat:bD (ws.map V.int) (0+(i:Int))=some (.int ws[i]):=by
    rw[Int.zero_add]
    exact dR (by rw[List.getElem?_map,hwi];rfl)
   have next:∀d,0<=d->d<ws[i]->∀(j:Nat) (d' x:Int),(ds++[d])[j]?=some d'->ws[j]?=some x->0<=d'/\d'<x:=fun d h0 h1 j d' x hj hx'=>by
    rcases Nat.lt_or_ge j ds.length with h | h
    ·rw[List.getElem?_append_left h]at hj
     exact hb j d' x hj hx'
    ·rw[List.getElem?_append_right h]at hj
     have hj0:j-ds.length=0:=by
      rcases Nat.eq_zero_or_pos (j-ds.length)with h | h
      ·exact h
      ·rw[List.getElem?_eq_none (by simp;omega)]at hj;cases hj
     rw[hj0]at hj
     have hji:j=i:=by omega
     subst hji
     rw[hwi]at hx'
     cases hx'
     have:d=d':=by simpa using hj
     rw[←this]
     exact⟨h0,h1⟩
   walk_at "rd"
   refine hG ?_
   walk_at "rd"
   refine dn (fun h=>?_) (fun h=>?_)
   ·have h':1<l:=by simpa using h
    walk_at "rd"
    refine⟨cB (ag.of hf2),?_⟩
    walk_at "rd"
    refine aB (ag.of (e2 _ _ hw)) hat ?_
    refine rd_I (show 0<ws[i] by omega) ?_
    walk_at "rd"
    refine bB hf2 (by rw[List.length_map];exact Nat.lt_of_le_of_lt (show ds.length<=10000 by omega) (by decide)) ?_
    walk_at "rd"
    refine aB (ag.of (cj e2 hfn _ _ hw)) hat ?_
    refine rd_I (show 0<ws[i]/\ws[i]<2 ^ 64 by omega) ?_
    walk_at "rd"
    refine⟨cj e2 hfn,_,_,ds++[l % ws[i]],rfl,?_,by rw[List.length_append,hds];rfl,next _ (Int.emod_nonneg _ (by omega)) (Int.emod_lt_of_pos _ (by omega))⟩
    rw[aO,List.map_append]
    rfl
   ·walk_at "rd"
    refine⟨cB (ag.of hf2),?_⟩
    walk_at "rd"
    refine⟨c,0+(i:Int),p,rfl,by omega,by omega,hp,fun z hz0 hz1=>?_⟩
    walk_at "rd"
    refine aB (ag.of (e2 _ _ hw)) hat ?_
    refine rd_I (show 0<ws[i] by omega) ?_
    walk_at "rd"
    refine bB hf2 (by rw[List.length_map];exact Nat.lt_of_le_of_lt (show ds.length<=10000 by omega) (by decide)) ?_
    walk_at "rd"
    refine⟨cj e2 hfn,_,_,ds++[z % ws[i]],rfl,?_,by rw[List.length_append,hds];rfl,next _ (Int.emod_nonneg _ (by omega)) (Int.emod_lt_of_pos _ (by omega))⟩
    rw[aO,List.map_append]
    rfl
  ·rintro σ H2 ⟨e2,l,k,ds,rfl,hf2,hds,hb⟩
   walk_at "rd"
   exact q f ds H2 e2 hf2 hfn (by rw[hds,Int.toNat_natCast]) hb
def tu(K:PySem.W.Frag):Sp:=fun vs H Q _=>∃c w,vs=[.int c,.int w]/\0<w/\w<2 ^ 64/\∀z,Q (.int z) H
abbrev ku:Stmt:=stq 44
theorem pB:FnScope ["_law_cell_here","_law_width"] ["_law_cell_here","_law_width"] (aJ ku):=⟨rfl,rfl,rfl,by decide +kernel,rfl,by decide +kernel,by decide +kernel⟩
theorem xU{P:Program}{w:World}{K:PySem.W.Frag}{mg:Str->Option Value}{base:Heap}(D:Dfn K mg "_law_spare" ku ["_law_cell_here","_law_width"])(T:Blt mg):Cal P w K mg base "_law_spare" 1 ["_law_cell_here","_law_width"] (tu K):=by
 have nd:=(pB).nd
 refine D.ok pB (fun vs H Q E h=>?_) (fun X hX H vs Q E h=>?_)
 ·obtain⟨c,w,rfl,_⟩:=h;rfl
 ·obtain⟨f,cdv,A,outer,s,H0,E0,rfl,hr⟩:=hX
  obtain⟨c,w,rfl,h1,h2,q⟩:=h
  refine⟨_,(ai (aT (aH ia (pv 0) (aj gQ ae ae) (aC _)) (ao (ax (aj aF (aj mS (aj bY (pv 0) (aj gQ ae ae)) (pv 1)) (aj gQ ae ae)))) aM)
    (ao (ax (aj aF (pv 0) ae)))),?_⟩
  walk_at "rd"
  refine dn (fun h=>?_) (fun h=>?_)
  ·walk_at "rd"
   exact q _
  ·walk_at "rd"
   exact q _
def Kn(H:Hp):Nat->V->Prop
 | 0,v=>∃n,bO H v n
 | d+1,v=>(∃n,bO H v n)/\∀p xs,v=.ref p->H p=some (.tup xs)->∀x∈xs,Kn H d x
theorem fK{H:Hp}{v:V}{n:String}(h:bO H v n):(∃p xs,v=.ref p/\H p=some (.tup xs)/\n = "tuple")\/(df n "tuple" = some false/\∀p xs,v=.ref p->H p≠some (.tup xs)):=by
 cases v with
 | non=>cases(show n = "NoneType" from h);exact .inr ⟨rfl,fun p xs e=>nomatch e⟩
 | bl b=>cases(show n = "bool" from h);exact .inr ⟨rfl,fun p xs e=>nomatch e⟩
 | int i=>cases(show n = "int" from h);exact .inr ⟨rfl,fun p xs e=>nomatch e⟩
 | str z=>cases(show n = "str" from h);exact .inr ⟨rfl,fun p xs e=>nomatch e⟩
 | ref a=>
  rcases h with⟨rfl,xs,e⟩ | ⟨rfl,xs,e⟩
  ·exact .inr ⟨rfl,fun p ys q z=>by cases q;rw[e]at z;cases z⟩
  ·exact .inl ⟨a,xs,rfl,e,rfl⟩
 | _=>exact False.elim h
def dF(lo hi:Int):List V->Bool
 | []=>true
 | .int i::r=>decide (lo<=i) && decide (i<hi) && dF (i+1) hi r
 | _::_=>false
def bT(H:Hp)(lo hi:Int):V->Bool
 | .ref p=>match H p with
  | some (.tup xs)=>dF lo hi xs
  | _=>false
 | _=>false
theorem gR{H:Hp}{lo hi:Int}{p:Addr}{xs:List V}(h:H p=some (.tup xs)):bT H lo hi (.ref p)=dF lo hi xs:=by simp only[bT,h]
theorem lb{H:Hp}{lo hi:Int}{v:V}(h:∀p xs,v=.ref p->H p≠some (.tup xs)):bT H lo hi v=false:=by
 cases v with
 | ref p=>
  cases e:H p with
  | none=>simp only[bT,e]
  | some o=>
   cases o with
   | tup xs=>exact absurd e (h p xs rfl)
   | _=>simp only[bT,e]
 | _=>rfl
theorem zQ{lo hi:Int}{x:V}{r:List V}(h:isInt x=false):dF lo hi (x::r)=false:=by
 cases x<;>first | rfl | cases h
def nU(K:PySem.W.Frag):Sp:=fun vs H Q _=>∃v lo hi,vs=[v,.int lo,.int hi]/\Kn H 1 v/\Q (.bl (bT H lo hi v)) H
abbrev ke:Stmt:=stq 8
theorem rF:FnScope ["thing","low","end","lowest","number"] ["thing","low","end"] (aJ ke):=⟨rfl,rfl,rfl,by decide +kernel,rfl,by decide +kernel,by decide +kernel⟩
theorem Ae{P:Program}{w:World}{K:PySem.W.Frag}{mg:Str->Option Value}{base:Heap}(D:Dfn K mg "is_rising_row" ke ["thing","low","end"])(T:Blt mg)(C_is_whole:Cal P w K mg base "is_whole" 1 ["thing"] (gq K)):Cal P w K mg base "is_rising_row" 2 ["thing","low","end"] (nU K):=by
 have nd:=(rF).nd
 refine D.ok rF (fun vs H Q E h=>?_) (fun X hX H vs Q E h=>?_)
 ·obtain⟨v,lo,hi,rfl,_⟩:=h;rfl
 ·obtain⟨f,cdv,A,outer,s,H0,E0,rfl,hr⟩:=hX
  obtain⟨v,lo,hi,rfl,hk,q⟩:=h
  obtain⟨n,hn⟩:=hk.1
  refine⟨_,(ai (aT (bI (bj (aP cK rfl T.isinstance_ PyProof.Rows.boot_isinstance (aa (pv 0) (aa (cJ (v:=.ty "tuple") rfl T.tuple_ PyProof.Rows.boot_tuple rfl) af))))) (ao (ax aW)) aM)
    (ai (aA (i:=3) nd rfl (Or.inl rfl) (pv 1))
    (ai (bL PassesOwn.never rfl (dw K (pv 0)) (aI (i:=4) nd rfl (Or.inl rfl)) (ai (aT (PW.pt (bS (bI (bj (aw C_is_whole hr (aa (pv 4) af)))) (bS (aH dD (pv 4) (pv 3) (aC _)) (cA (aH ia (pv 4) (pv 2) (aC _)))))) (ao (ax aW)) aM)
    (ao (aA (i:=3) nd rfl (Or.inl rfl) (aj aF (pv 4) ae)))))
    (ao (ax aW))))),?_⟩
  walk_at "rd"
  rcases fK hn with⟨p,xs,rfl,hp,rfl⟩ | ⟨hf,hno⟩
  ·refine bK hn (b:=true) rfl ?_
   walk_at "rd"
   refine aq ?_
   walk_at "rd"
   refine dj (ah.of hp) ?_
   rw[gR hp]at q
   refine eY (xs:=xs) (fun i σ H'=>H'=H/\∃lw w,σ=[some (.ref p),some (.int lo),some (.int hi),some (.int lw),w]/\dF lo hi xs=dF lw hi (xs.drop i))
    ⟨rfl,lo,none,rfl,rfl⟩ (fun i σ H' _ h=>by rw[h.1];exact ah.of hp) ?_ ?_
   ·rintro i x σ H' hx ⟨rfl,lw,w,rfl,e⟩
    have hd:xs.drop i=x::xs.drop (i+1):=by
     obtain⟨hi',rfl⟩:=List.getElem?_eq_some_iff.mp hx
     exact List.drop_eq_getElem_cons hi'
    rw[hd]at e
    obtain⟨m,hm⟩:=hk.2 p xs rfl hp x (List.mem_of_getElem? hx)
    walk_at "rd"
    refine⟨x,m,rfl,hm,?_⟩
    walk_at "rd"
    cases hx':isInt x with
    | false=>
     refine ar (ar ?_)
     walk_at "rd"
     rw[e,zQ hx']at q
     exact q
    | true=>
     obtain⟨z,rfl⟩:=cT hx'
     refine aq ?_
     walk_at "rd"
     have e':dF lo hi xs=(decide (lw<=z) && decide (z<hi) && dF (z+1) hi (xs.drop (i+1))):=e
     by_cases h1:z<lw
     ·rw[decide_eq_true h1]
      refine ar (ar ?_)
      walk_at "rd"
      rw[e',decide_eq_false (show ¬lw<=z by omega)]at q
      exact q
     ·rw[decide_eq_false h1]
      refine aq ?_
      walk_at "rd"
      by_cases h2:hi<=z
      ·rw[decide_eq_true h2]
       refine ar ?_
       walk_at "rd"
       rw[e',decide_eq_false (show ¬z<hi by omega),Bool.and_false,Bool.false_and]at q
       exact q
      ·rw[decide_eq_false h2]
       refine aq ?_
       walk_at "rd"
       refine⟨rfl,z+1,_,rfl,?_⟩
       rw[e',decide_eq_true (show lw<=z by omega),decide_eq_true (show z<hi by omega)]
       rfl
   ·rintro σ H' ⟨rfl,lw,w,rfl,e⟩
    walk_at "rd"
    rw[e,List.drop_length]at q
    exact q
  ·refine bK hn hf ?_
   walk_at "rd"
   refine ar ?_
   walk_at "rd"
   rw[lb hno]at q
   exact q
def fM(H:Hp):V->V->V->V->Bool
 | .int b,.int s,o,a=>decide (0<=b) && decide (1<=s) && bT H 0 b o && bT H b (b+s) a
 | _,_,_,_=>false
theorem iL{H:Hp}{b s o a:V}(h:isInt b=false):fM H b s o a=false:=by
 cases b<;>first | rfl | cases h
theorem iC{H:Hp}{b s o a:V}(h:isInt s=false):fM H b s o a=false:=by
 cases s<;>first | (cases b<;>rfl) | cases h
def qR(K:PySem.W.Frag):Sp:=fun vs H Q _=>∃b s o a,vs=[b,s,o,a]/\Kn H 0 b/\Kn H 0 s/\Kn H 1 o/\Kn H 1 a/\Q (.bl (fM H b s o a)) H
abbrev ir:Stmt:=stq 9
theorem rW:FnScope ["base","step","once","again"] ["base","step","once","again"] (aJ ir):=⟨rfl,rfl,rfl,by decide +kernel,rfl,by decide +kernel,by decide +kernel⟩
theorem yY{P:Program}{w:World}{K:PySem.W.Frag}{mg:Str->Option Value}{base:Heap}(D:Dfn K mg "are_stair_places" ir ["base","step","once","again"])(T:Blt mg)(C_is_rising_row:Cal P w K mg base "is_rising_row" 2 ["thing","low","end"] (nU K))(C_is_whole:Cal P w K mg base "is_whole" 1 ["thing"] (gq K)):Cal P w K mg base "are_stair_places" 3 ["base","step","once","again"] (qR K):=by
 have nd:=(rW).nd
 refine D.ok rW (fun vs H Q E h=>?_) (fun X hX H vs Q E h=>?_)
 ·obtain⟨b,s,o,a,rfl,_⟩:=h;rfl
 ·obtain⟨f,cdv,A,outer,s,H0,E0,rfl,hr⟩:=hX
  obtain⟨b,s',o,a,rfl,⟨nb,hb⟩,⟨ns,hs⟩,ho,ha,q⟩:=h
  refine⟨_,(ai (aT (PW.pt (bS (bI (bj (aw C_is_whole hr (aa (pv 0) af)))) (bS (bI (bj (aw C_is_whole hr (aa (pv 1) af)))) (bS (aH dD (pv 0) ae (aC _)) (cA (aH dD (pv 1) ae (aC _))))))) (ao (ax aW)) aM)
    (ao (ax (bQ (aw C_is_rising_row hr (aa (pv 2) (aa ae (aa (pv 0) af)))) (cp (aw C_is_rising_row hr (aa (pv 3) (aa (pv 0) (aa (aj aF (pv 0) (pv 1)) af))))))))),?_⟩
  walk_at "rd"
  refine⟨b,nb,rfl,hb,?_⟩
  walk_at "rd"
  cases ib:isInt b with
  | false=>
   refine ar (ar ?_)
   walk_at "rd"
   rw[iL ib]at q
   exact q
  | true=>
   refine aq ?_
   walk_at "rd"
   refine⟨s',ns,rfl,hs,?_⟩
   walk_at "rd"
   cases is':isInt s' with
   | false=>
    refine ar (ar ?_)
    walk_at "rd"
    rw[iC is']at q
    exact q
   | true=>
    obtain⟨zb,rfl⟩:=cT ib
    obtain⟨zs,rfl⟩:=cT is'
    refine aq ?_
    walk_at "rd"
    have e:fM H (.int zb) (.int zs) o a=(decide (0<=zb) && decide (1<=zs) && bT H 0 zb o && bT H zb (zb+zs) a):=rfl
    by_cases h1:zb<0
    ·rw[decide_eq_true h1]
     refine ar (ar ?_)
     walk_at "rd"
     rw[e,decide_eq_false (show ¬0<=zb by omega)]at q
     exact q
    ·rw[decide_eq_false h1]
     refine aq ?_
     walk_at "rd"
     by_cases h2:zs<1
     ·rw[decide_eq_true h2]
      refine ar ?_
      walk_at "rd"
      rw[e,decide_eq_false (show ¬1<=zs by omega),Bool.and_false,Bool.false_and,Bool.false_and]at q
      exact q
     ·rw[decide_eq_false h2]
      refine aq ?_
      walk_at "rd"
      refine⟨o,0,zb,rfl,ho,?_⟩
      walk_at "rd"
      rw[e,decide_eq_true (show 0<=zb by omega),decide_eq_true (show 1<=zs by omega)]at q
      cases ho':bT H 0 zb o with
      | false=>
       refine aq ?_
       rw[ho']at q
       exact q
      | true=>
       refine ar ?_
       walk_at "rd"
       refine⟨a,zb,zb+zs,rfl,ha,?_⟩
       rw[ho']at q
       exact q
def cv(H:Hp):V->Bool
 | .ref p=>match H p with
  | some (.tup [b,s,o,a])=>fM H b s o a
  | _=>false
 | _=>false
theorem dS{H:Hp}{p:Addr}{b s o a:V}(h:H p=some (.tup [b,s,o,a])):cv H (.ref p)=fM H b s o a:=by simp only[cv,h]
theorem iN{H:Hp}{p:Addr}{xs:List V}(h:H p=some (.tup xs))(hl:xs.length≠4):cv H (.ref p)=false:=by
 simp only[cv,h]
 match xs,hl with
 | [],_=>rfl
 | [_],_=>rfl
 | [_,_],_=>rfl
 | [_,_,_],_=>rfl
 | [_,_,_,_],hl=>exact absurd rfl hl
 | _::_::_::_::_::_,_=>rfl
theorem lA{H:Hp}{v:V}(h:∀p xs,v=.ref p->H p≠some (.tup xs)):cv H v=false:=by
 cases v with
 | ref p=>
  cases e:H p with
  | none=>simp only[cv,e]
  | some o=>
   cases o with
   | tup xs=>exact absurd e (h p xs rfl)
   | _=>simp only[cv,e]
 | _=>rfl
def ly(K:PySem.W.Frag):Sp:=fun vs H Q _=>∃v,vs=[v]/\Kn H 2 v/\Q (.bl (cv H v)) H
theorem mw{xs:List V}(h:xs.length=4):∃b s o a,xs=[b,s,o,a]:=by
 match xs,h with
 | [b,s,o,a],_=>exact⟨b,s,o,a,rfl⟩
theorem Kn.down{H:Hp}{v:V}(h:Kn H 1 v):Kn H 0 v:=h.1
abbrev kj:Stmt:=stq 10
theorem o9:FnScope ["thing"] ["thing"] (aJ kj):=⟨rfl,rfl,rfl,by decide +kernel,rfl,by decide +kernel,by decide +kernel⟩
theorem vX{P:Program}{w:World}{K:PySem.W.Frag}{mg:Str->Option Value}{base:Heap}(D:Dfn K mg "is_stair" kj ["thing"])(T:Blt mg)(C_are_stair_places:Cal P w K mg base "are_stair_places" 3 ["base","step","once","again"] (qR K)):Cal P w K mg base "is_stair" 4 ["thing"] (ly K):=by
 have nd:=(o9).nd
 refine D.ok o9 (fun vs H Q E h=>?_) (fun X hX H vs Q E h=>?_)
 ·obtain⟨v,rfl,_⟩:=h;rfl
 ·obtain⟨f,cdv,A,outer,s,H0,E0,rfl,hr⟩:=hX
  obtain⟨v,rfl,hk,q⟩:=h
  obtain⟨n,hn⟩:=hk.1
  refine⟨_,(ai (aT (PW.pt (bS (bI (bj (aP cK rfl T.isinstance_ PyProof.Rows.boot_isinstance (aa (pv 0) (aa (cJ (v:=.ty "tuple") rfl T.tuple_ PyProof.Rows.boot_tuple rfl) af))))) (cA (aH dP (aP (cU K) rfl T.len_ PySem.boot_len (aa (pv 0) af)) ae (aC _))))) (ao (ax aW)) aM)
    (ao (ax (aw C_are_stair_places hr (aa (ak (aG K) (pv 0) ae (fun _ _=>rfl)) (aa (ak (aG K) (pv 0) ae (fun _ _=>rfl)) (aa (ak (aG K) (pv 0) ae (fun _ _=>rfl)) (aa (ak (aG K) (pv 0) ae (fun _ _=>rfl)) af)))))))),?_⟩
  walk_at "rd"
  rcases fK hn with⟨p,xs,rfl,hp,rfl⟩ | ⟨hf,hno⟩
  ·refine bK hn (b:=true) rfl ?_
   walk_at "rd"
   refine aq ?_
   walk_at "rd"
   refine gm (ah.of hp) ?_
   walk_at "rd"
   by_cases hl:xs.length=4
   ·obtain⟨b,s',o,a,rfl⟩:=mw hl
    refine aq ?_
    walk_at "rd"
    refine aE (ah.of hp) rfl ?_
    walk_at "rd"
    refine aE (ah.of hp) rfl ?_
    walk_at "rd"
    refine aE (ah.of hp) rfl ?_
    walk_at "rd"
    refine aE (ah.of hp) rfl ?_
    walk_at "rd"
    have hi:=hk.2 p _ rfl hp
    rw[dS hp]at q
    exact⟨b,s',o,a,rfl,(hi b (by simp)).down,(hi s' (by simp)).down,hi o (by simp),hi a (by simp),q⟩
   ·rw[decide_eq_false (show ¬((xs.length:Nat):Int)=4 by omega)]
    refine ar ?_
    walk_at "rd"
    rw[iN hp hl]at q
    exact q
  ·refine bK hn hf ?_
   walk_at "rd"
   refine ar (ar ?_)
   walk_at "rd"
   rw[lA hno]at q
   exact q
def bU(H:Hp)(v:V)(b s:Int)(o a:List Int):Prop:=∃p q r,v=.ref p/\H p=some (.tup [.int b,.int s,.ref q,.ref r])/\H q=some (.tup (o.map V.int))/\H r=some (.tup (a.map V.int))
structure Gd(b s:Int)(o a:List Int):Prop where
 ok:Ok b s o a
 b3:b<=3000
 s8:s<=840
theorem bU.ext{H H':Hp}{v:V}{b s:Int}{o a:List Int}(e:Ext H H')(h:bU H v b s o a):bU H' v b s o a:=by
 obtain⟨p,q,r,rfl,h1,h2,h3⟩:=h
 exact⟨p,q,r,rfl,e _ _ h1,e _ _ h2,e _ _ h3⟩
theorem zZ{lo hi x:Int}{r:List Int}:cu lo hi (x::r)↔lo<=x/\x<hi/\cu (x+1) hi r:=by
 constructor
 ·rintro⟨h1,h2⟩
  obtain⟨p1,p2⟩:=List.pairwise_cons.mp h1
  have hx:=h2 x List.mem_cons_self
  exact⟨hx.1,hx.2,p2,fun z hz=>⟨by have:=p1 z hz;omega,(h2 z (List.mem_cons_of_mem _ hz)).2⟩⟩
 ·rintro⟨h1,h2,h3,h4⟩
  refine⟨List.pairwise_cons.mpr ⟨fun z hz=>by have:=h4 z hz;omega,h3⟩,fun z hz=>?_⟩
  rcases List.mem_cons.mp hz with rfl | hz
  ·exact⟨h1,h2⟩
  ·have:=h4 z hz
   exact⟨by omega,this.2⟩
theorem mW{hi:Int}:∀{lo:Int} {xs:List Int},dF lo hi (xs.map V.int)=true↔cu lo hi xs
 | lo,[]=>⟨fun _=>⟨List.Pairwise.nil,fun x hx=>by simp at hx⟩,fun _=>rfl⟩
 | lo,x::r=>by
  rw[zZ,←mW (lo:=x+1) (xs:=r)]
  show(decide (lo<=x) && decide (x<hi) && dF (x+1) hi (r.map V.int))=true↔_
  simp[and_assoc]
theorem bU.yes{H:Hp}{v:V}{b s:Int}{o a:List Int}(h:bU H v b s o a)(k:Ok b s o a):cv H v=true:=by
 obtain⟨p,q,r,rfl,h1,h2,h3⟩:=h
 rw[dS h1]
 show(decide (0<=b) && decide (1<=s) && bT H 0 b (.ref q) && bT H b (b+s) (.ref r))=true
 rw[gR h2,gR h3,mW.mpr k.ho,mW.mpr k.ha,decide_eq_true k.hb,decide_eq_true k.hs]
 rfl
theorem nG{H:Hp}{q:Addr}{xs:List Int}(h:H q=some (.tup (xs.map V.int))):Kn H 1 (.ref q):=by
 refine⟨⟨"tuple",.inr ⟨rfl,_,h⟩⟩,fun p ys e z x hx=>?_⟩
 cases e
 rw[h]at z
 cases z
 obtain⟨i,_,rfl⟩:=List.mem_map.mp hx
 exact⟨"int",rfl⟩
theorem bU.kn{H:Hp}{v:V}{b s:Int}{o a:List Int}(h:bU H v b s o a):Kn H 2 v:=by
 obtain⟨p,q,r,rfl,h1,h2,h3⟩:=h
 refine⟨⟨"tuple",.inr ⟨rfl,_,h1⟩⟩,fun p' ys e z x hx=>?_⟩
 cases e
 rw[h1]at z
 cases z
 simp only[List.mem_cons,List.not_mem_nil,or_false]at hx
 rcases hx with rfl | rfl | rfl | rfl
 ·exact⟨⟨"int",rfl⟩,fun _ _ e=>nomatch e⟩
 ·exact⟨⟨"int",rfl⟩,fun _ _ e=>nomatch e⟩
 ·exact nG h2
 ·exact nG h3
def pf(K:PySem.W.Frag):Sp:=fun vs H Q _=>∃v,vs=[v]/\Kn H 2 v/\cv H v=true/\Q .non H
abbrev jd:Stmt:=stq 11
theorem qm:FnScope ["thing"] ["thing"] (aJ jd):=⟨rfl,rfl,rfl,by decide +kernel,rfl,by decide +kernel,by decide +kernel⟩
theorem za{P:Program}{w:World}{K:PySem.W.Frag}{mg:Str->Option Value}{base:Heap}(D:Dfn K mg "refuse_no_stair" jd ["thing"])(T:Blt mg)(C_is_stair:Cal P w K mg base "is_stair" 4 ["thing"] (ly K)):Cal P w K mg base "refuse_no_stair" 5 ["thing"] (pf K):=by
 have nd:=(qm).nd
 refine D.ok qm (fun vs H Q E h=>?_) (fun X hX H vs Q E h=>?_)
 ·obtain⟨v,rfl,_⟩:=h;rfl
 ·obtain⟨f,cdv,A,outer,s,H0,E0,rfl,hr⟩:=hX
  obtain⟨v,rfl,hk,hv,q⟩:=h
  refine⟨_,(ao (aT (bI (bj (aw C_is_stair hr (aa (pv 0) af)))) (ao kP) aM)),?_⟩
  walk_at "rd"
  refine⟨v,rfl,hk,?_⟩
  walk_at "rd"
  rw[hv]
  exact aq q
def qH(K:PySem.W.Frag):Sp:=fun vs H Q _=>∃v b s o a,vs=[v]/\bU H v b s o a/\b<=3000/\s<=840/\Q .non H
abbrev iH:Stmt:=stq 12
theorem su:FnScope ["stair"] ["stair"] (aJ iH):=⟨rfl,rfl,rfl,by decide +kernel,rfl,by decide +kernel,by decide +kernel⟩
theorem zw{P:Program}{w:World}{K:PySem.W.Frag}{mg:Str->Option Value}{base:Heap}(D:Dfn K mg "refuse_great_stair" iH ["stair"])(T:Blt mg)(g_GREATEST_STEP:∃t,mg "GREATEST_STEP" = some (.int 840 t))(g_GREATEST_BASE:∃t,mg "GREATEST_BASE" = some (.int 3000 t)):Cal P w K mg base "refuse_great_stair" 1 ["stair"] (qH K):=by
 have nd:=(su).nd
 refine D.ok su (fun vs H Q E h=>?_) (fun X hX H vs Q E h=>?_)
 ·obtain⟨v,b,s,o,a,rfl,_⟩:=h;rfl
 ·obtain⟨f,cdv,A,outer,s,H0,E0,rfl,hr⟩:=hX
  obtain⟨t_GREATEST_STEP,c_GREATEST_STEP⟩:=g_GREATEST_STEP
  obtain⟨t_GREATEST_BASE,c_GREATEST_BASE⟩:=g_GREATEST_BASE
  obtain⟨v,b,s',o,a,rfl,⟨p,q',r,rfl,h1,h2,h3⟩,hb,hs,q⟩:=h
  refine⟨_,(ai (aT (aH ed (ak (aG K) (pv 0) ae (fun _ _=>rfl)) (eO (v:=.int 3000) rfl c_GREATEST_BASE ⟨_,rfl⟩) (aC _)) (ao kP) aM)
    (ao (aT (aH ed (ak (aG K) (pv 0) ae (fun _ _=>rfl)) (eO (v:=.int 840) rfl c_GREATEST_STEP ⟨_,rfl⟩) (aC _)) (ao kP) aM))),?_⟩
  walk_at "rd"
  refine aE (ah.of h1) rfl ?_
  walk_at "rd"
  rw[decide_eq_false (show ¬3000<b by omega)]
  refine aq ?_
  walk_at "rd"
  refine aE (ah.of h1) rfl ?_
  walk_at "rd"
  rw[decide_eq_false (show ¬840<s' by omega)]
  exact aq q
def qh(K:PySem.W.Frag):Sp:=fun vs H Q _=>∃v b s o a,vs=[v]/\bU H v b s o a/\Gd b s o a/\Q .non H
abbrev kC:Stmt:=stq 13
theorem nX:FnScope ["thing"] ["thing"] (aJ kC):=⟨rfl,rfl,rfl,by decide +kernel,rfl,by decide +kernel,by decide +kernel⟩
theorem yQ{P:Program}{w:World}{K:PySem.W.Frag}{mg:Str->Option Value}{base:Heap}(D:Dfn K mg "refuse_bad_stair" kC ["thing"])(T:Blt mg)(C_refuse_great_stair:Cal P w K mg base "refuse_great_stair" 1 ["stair"] (qH K))(C_refuse_no_stair:Cal P w K mg base "refuse_no_stair" 5 ["thing"] (pf K)):Cal P w K mg base "refuse_bad_stair" 6 ["thing"] (qh K):=by
 have nd:=(nX).nd
 refine D.ok nX (fun vs H Q E h=>?_) (fun X hX H vs Q E h=>?_)
 ·obtain⟨v,b,s,o,a,rfl,_⟩:=h;rfl
 ·obtain⟨f,cdv,A,outer,s,H0,E0,rfl,hr⟩:=hX
  obtain⟨v,b,s',o,a,rfl,hv,hg,q⟩:=h
  refine⟨_,(ai (bo (aw C_refuse_no_stair hr (aa (pv 0) af)))
    (ao (bo (aw C_refuse_great_stair hr (aa (pv 0) af))))),?_⟩
  walk_at "rd"
  refine⟨v,rfl,hv.kn,hv.yes hg.ok,?_⟩
  walk_at "rd"
  exact⟨v,b,s',o,a,rfl,hv,hg.b3,hg.s8,q⟩
theorem fY(x:Int)(xs:List Int):gj (.int x) (xs.map V.int)=xs.contains x:=by
 unfold gj
 rw[List.any_map,Bool.eq_iff_iff,List.any_eq_true,List.contains_iff_mem]
 constructor
 ·rintro⟨y,hy,e⟩
  have e':(y == x)=true:=e
  rw[←(by simpa using e':y=x)]
  exact hy
 ·intro hx
  exact⟨x,hx,by show(x == x)=true;simp⟩
theorem gn(xs:List Int):(xs.map V.int).all dA=true:=by
 rw[List.all_map,List.all_eq_true]
 intro x _
 rfl
def mN(K:PySem.W.Frag):Sp:=fun vs H Q _=>∃v x b s o a,vs=[v,.int x]/\bU H v b s o a/\Gd b s o a/\Q (.bl (mem b s o a x)) H
abbrev jD:Stmt:=stq 15
theorem oY:FnScope ["stair","x","base"] ["stair","x"] (aJ jD):=⟨rfl,rfl,rfl,by decide +kernel,rfl,by decide +kernel,by decide +kernel⟩
theorem yw{P:Program}{w:World}{K:PySem.W.Frag}{mg:Str->Option Value}{base:Heap}(D:Dfn K mg "holds" jD ["stair","x"])(T:Blt mg)(C_refuse_bad_stair:Cal P w K mg base "refuse_bad_stair" 6 ["thing"] (qh K)):Cal P w K mg base "holds" 7 ["stair","x"] (mN K):=by
 have nd:=(oY).nd
 refine D.ok oY (fun vs H Q E h=>?_) (fun X hX H vs Q E h=>?_)
 ·obtain⟨v,x,b,s,o,a,rfl,_⟩:=h;rfl
 ·obtain⟨f,cdv,A,outer,s,H0,E0,rfl,hr⟩:=hX
  obtain⟨v,x,b,s',o,a,rfl,hv,hg,q⟩:=h
  have hs:=hg.ok.hs
  refine⟨_,(ai (bo (aw C_refuse_bad_stair hr (aa (pv 0) af)))
    (ai (aA (i:=2) nd rfl (Or.inl rfl) (ak (aG K) (pv 0) ae (fun _ _=>rfl)))
    (ai (aT (aH dD (pv 1) (pv 2) (aC _)) (ao (ax (dh (jS K) (pv 1) (ak (aG K) (pv 0) ae (fun _ _=>rfl)) (by with_unfolding_all rfl)))) aM)
    (ao (ax (dh (jS K) (aj aF (pv 2) (aj bh (aj bY (pv 1) (pv 2)) (ak (aG K) (pv 0) ae (fun _ _=>rfl)))) (ak (aG K) (pv 0) ae (fun _ _=>rfl)) (by with_unfolding_all rfl))))))),?_⟩
  walk_at "rd"
  refine⟨v,b,s',o,a,rfl,hv,hg,?_⟩
  obtain⟨p,q',r,rfl,h1,h2,h3⟩:=hv
  walk_at "rd"
  refine aE (ah.of h1) rfl ?_
  walk_at "rd"
  by_cases hx:x<b
  ·rw[decide_eq_true hx]
   refine ar ?_
   walk_at "rd"
   refine aE (ah.of h1) rfl ?_
   walk_at "rd"
   refine gp (.inr (ah.of h2)) rfl (gn o) ?_
   rw[fV _ hx]at q
   rw[fY]
   exact q
  ·rw[decide_eq_false hx]
   refine aq ?_
   walk_at "rd"
   refine aE (ah.of h1) rfl ?_
   walk_at "rd"
   refine aE (ah.of h1) rfl ?_
   walk_at "rd"
   refine gp (.inr (ah.of h3)) rfl (gn a) ?_
   rw[fh _ (by omega)]at q
   rw[fY]
   exact q
def tO:List V->List Key
 | [.int a,.str b,.int c,.str d]=>[.inl a,.inr b,.inl c,.inr d]
 | _=>[]
def eJ(H:Hp):V->List Key
 | .ref p=>match H p with
  | some (.tup xs)=>tO xs
  | _=>[]
 | _=>[]
theorem rl{H:Hp}{p:Addr}{xs:List V}(h:H p=some (.tup xs)):eJ H (.ref p)=tO xs:=by
 unfold eJ
 dsimp only
 rw[h]
theorem zU{H:Hp}{m:Int}{v:V}(h:bM H m v=true):∃p a b c d,v=.ref p/\H p=some (.tup [.int a,.str b,.int c,.str d])/\(0<=a/\a<m)/\(0<=c/\c<m)/\gh (.str b)=true/\fB (.str d)=true:=by
 cases ht:isTup H v with
 | false=>rw[sE ht]at h;cases h
 | true=>
  obtain⟨p,xs,rfl,hp⟩:=ki ht
  rw[m5 hp]at h
  by_cases h4:xs.length=4
  ·obtain⟨a,b,c,d,rfl⟩:=four h4
   unfold eV at h
   simp only[Bool.and_eq_true]at h
   obtain⟨h1,h2,h3,h5⟩:=h
   cases a with
   | int i=>
    cases c with
    | int j=>
     cases b with
     | str y=>
      cases d with
      | str z=>
       unfold bG at h1 h2
       simp only[Bool.and_eq_true,decide_eq_true_eq]at h1 h2
       exact⟨p,i,y,j,z,rfl,hp,h1,h2,h3,h5⟩
      | _=>cases h5
     | _=>cases h3
    | _=>cases h2
   | _=>cases h1
  ·rw[qX h4]at h
   cases h
theorem qQ{H:Hp}{m:Int}:∀{xs:List V},xs.all (bM H m)=true->∃bs:List Addr,xs=bs.map V.ref/\gY H bs (xs.map (eJ H))
 | [],_=>⟨[],rfl,rfl,fun j b k e=>by simp at e⟩
 | x::xs,h=>by
  rw[List.all_cons,Bool.and_eq_true]at h
  obtain⟨bs,e,h1,h2⟩:=qQ h.2
  obtain⟨p,a,b,c,d,rfl,hp,_⟩:=zU h.1
  refine⟨p::bs,by rw[List.map_cons,←e],by rw[List.length_cons,List.map_cons,List.length_cons,h1],fun j b' k e1 e2=>?_⟩
  cases j with
  | zero=>
   cases e1
   rw[List.map_cons,rl hp]at e2
   cases e2
   exact hp
  | succ j=>exact h2 j b' k e1 e2
theorem wH{H H':Hp}{m:Int}{n:Nat}{v:V}(e:Ext H H')(h:bw H n v):bM H' m v=bM H m v:=by
 cases v with
 | ref p=>
  cases n with
  | zero=>exact h.elim
  | succ n=>
   obtain⟨xs,h1,_⟩:=h
   unfold bM
   dsimp only
   rcases h1 with h1 | h1<;>rw[h1,e _ _ h1]
 | _=>rfl
def iO(H:Hp)(m:Int)(xs:List V):Bool:=decide (xs.length<=100) && (xs.all (bM H m) && decide (xs.map (eJ H)).Nodup)
def fX(H:Hp)(m:Int):V->Bool
 | .ref p=>match H p with
  | some (.tup xs)=>iO H m xs
  | _=>false
 | _=>false
theorem vc{H:Hp}{m:Int}{v:V}(h:isTup H v=false):fX H m v=false:=by
 cases v with
 | ref p=>
  unfold isTup at h
  unfold fX
  dsimp only at h ⊢
  split
  ·rename_i xs e
   rw[e]at h
   cases h
  ·rfl
 | _=>rfl
theorem n0{H:Hp}{m:Int}{p:Addr}{xs:List V}(h:H p=some (.tup xs)):fX H m (.ref p)=iO H m xs:=by
 unfold fX
 dsimp only
 rw[h]
open Classical in
theorem jr{α:Type}:∀{D l:List α},D.Nodup->(∀k∈D,k∈l)->D.length<=l.length
 | [],l,_,_=>Nat.zero_le _
 | d::D,l,hn,hs=>by
  have hn':=List.nodup_cons.mp hn
  have hm:=hs d List.mem_cons_self
  have:=jr (D:=D) (l:=l.erase d) hn'.2 fun k hk=>(List.mem_erase_of_ne (by rintro rfl;exact hn'.1 hk)).mpr (hs k (List.mem_cons_of_mem _ hk))
  rw[List.length_erase_of_mem hm]at this
  have h0:0<l.length:=List.length_pos_of_mem hm
  rw[List.length_cons]
  omega
theorem nodup_iff{α:Type}{D l:List α}(hn:D.Nodup)(hm:∀k,k∈D↔k∈l):D.length=l.length↔l.Nodup:=by
 constructor
 ·intro e
  exact(sM hn (fun k hk=>(hm k).mp hk) e.symm).nodup_iff.mpr hn
 ·intro hl
  have h1:=jr hn fun k hk=>(hm k).mp hk
  have h2:=jr hl fun k hk=>(hm k).mpr hk
  omega
def oq(K:PySem.W.Frag):Sp:=fun vs H Q _=>∃v m,vs=[v,.int m]/\bw H 3 v/\∀H',Ext H H'->Q (.bl (fX H m v)) H'
abbrev kh:Stmt:=stq 26
theorem pP:FnScope ["thing","many"] ["thing","many"] (aJ kh):=⟨rfl,rfl,rfl,by decide +kernel,rfl,by decide +kernel,by decide +kernel⟩
theorem zc{P:Program}{w:World}{K:PySem.W.Frag}{mg:Str->Option Value}{base:Heap}(D:Dfn K mg "are_ways" kh ["thing","many"])(T:Blt mg)(g_GREATEST_WAYS:∃t,mg "GREATEST_WAYS" = some (.int 100 t))(C_is_way:Cal P w K mg base "is_way" 3 ["thing","many"] (rJ K)):Cal P w K mg base "are_ways" 4 ["thing","many"] (oq K):=by
 have nd:=(pP).nd
 refine D.ok pP (fun vs H Q E h=>?_) (fun X hX H vs Q E h=>?_)
 ·obtain⟨p,m,rfl,_⟩:=h;rfl
 ·obtain⟨f,cdv,A,outer,s,H0,E0,rfl,hr⟩:=hX
  obtain⟨t_GREATEST_WAYS,c_GREATEST_WAYS⟩:=g_GREATEST_WAYS
  obtain⟨v,m,rfl,ht,q⟩:=h
  obtain⟨n,hk⟩:=ht.kind
  refine⟨_,(ai (aT (PW.pt (bS (bI (bj (aP cK rfl T.isinstance_ PyProof.Rows.boot_isinstance (aa (pv 0) (aa (cJ (v:=.ty "tuple") rfl T.tuple_ PyProof.Rows.boot_tuple rfl) af))))) (cA (aH ed (aP (cU K) rfl T.len_ PySem.boot_len (aa (pv 0) af)) (eO (v:=.int 100) rfl c_GREATEST_WAYS ⟨_,rfl⟩) (aC _))))) (ao (ax aW)) aM)
    (ao (ax (bQ (aP (nW K rfl) rfl T.all_ PyProof.Rows.boot_all (aa (dC ["way"] [1] (dw K (pv 0)) (fun _=>(aI (i:=0) (show(["way","many"]:List Str).Nodup from by decide +kernel) rfl (Or.inl rfl) (Or.inr rfl))) (fun _=>dz) (fun _=>(aw C_is_way hr (aa (pv 0) (aa (pv 1) af))))) af)) (cp (dh bu (aP zh rfl T.len_ PySem.boot_len (aa (de (uD hr) rfl T.set_ PyProof.Rows.boot_set (aa (pv 0) af)) af)) (aP (cU K) rfl T.len_ PySem.boot_len (aa (pv 0) af)) (aC _))))))),?_⟩
  walk_at "rd"
  refine bK hk (lY hk) ?_
  walk_at "rd"
  cases hv:isTup H v with
  | false=>
   refine ar ?_
   walk_at "rd"
   rw[vc hv]at q
   exact q H fun _ _ z=>z
  | true=>
   refine aq ?_
   obtain⟨p,xs,rfl,hp⟩:=ki hv
   obtain⟨hx1,hx2⟩:=ht.items hp
   rw[n0 hp]at q
   unfold iO at q
   walk_at "rd"
   refine gm (ah.of hp) ?_
   walk_at "rd"
   by_cases h4:xs.length<=100
   ·rw[decide_eq_false (show ¬((100:Int)<((xs.length:Nat):Int)) by omega)]
    rw[decide_eq_true h4,Bool.true_and]at q
    refine aq ?_
    walk_at "rd"
    refine dj (ah.of hp) ?_
    refine kB (xs:=xs) (fun i ys H'=>Ext H H'/\ys=((xs.take i).map (bM H m)).map V.bl) (cz hx1) ⟨fun _ _ z=>z,rfl⟩ (fun i ys H' hi h=>⟨ah.of (h.1 _ _ hp),by rw[h.2,List.length_map,List.length_map,List.length_take];omega⟩) ?_ ?_
    ·rintro i x ys H' hx ⟨e,rfl⟩
     have hxt:=hx2 x (List.mem_of_getElem? hx)
     walk_at "rd"
     refine ar ?_
     walk_at "rd"
     refine⟨x,m,rfl,hxt.ext e,e,?_⟩
     rw[wH e hxt,List.take_add_one,hx]
     simp
    ·rintro ys H' pl ⟨e,rfl⟩ hpl
     rw[List.take_length]
     walk_at "rd"
     have eN:Ext H (upd H' pl (.lst ((xs.map (bM H m)).map V.bl))):=e.trans (bC hpl)
     refine⟨pl,xs.map (bM H m),rfl,ag.of aO,?_⟩
     have ea:(xs.map (bM H m)).all id=xs.all (bM H m):=by
      rw[List.all_map]
      rfl
     rw[ea]
     walk_at "rd"
     cases hall:xs.all (bM H m)with
     | false=>
      refine aq ?_
      rw[hall,Bool.false_and]at q
      exact q _ eN
     | true=>
      refine ar ?_
      rw[hall,Bool.true_and]at q
      obtain⟨bs,ebs,hka⟩:=qQ hall
      generalize upd H' pl (.lst ((xs.map (bM H m)).map V.bl))=H2 at eN ⊢
      walk_at "rd"
      refine⟨p,bs,xs.map (eJ H),rfl,.inl (by rw[←ebs];exact eN _ _ hp),hka.ext eN,by rw[List.length_map];omega,fun l L hl hnd hmem hL=>?_⟩
      have hll:L.length<=xs.length:=by
       have:=jr hnd fun k hk=>(hmem k).mp hk
       rwa [List.length_map,List.length_map]at this
      walk_at "rd"
      refine⟨l,L,rfl,aO,by omega,?_⟩
      walk_at "rd"
      have eL:Ext H (upd H2 l (iZ P w l L)):=eN.trans (bC hl)
      refine gm (ah.of (eL _ _ hp)) ?_
      walk_at "rd"
      have hiff:=nodup_iff hnd hmem
      rw[List.length_map,List.length_map]at hiff
      have eb:decide ((((L.length:Nat):Int))=((xs.length:Nat):Int))=decide ((xs.map (eJ H)).Nodup):=by
       by_cases hq:(xs.map (eJ H)).Nodup
       ·rw[decide_eq_true (show((L.length:Nat):Int)=((xs.length:Nat):Int) by have:=hiff.mpr hq;omega)]
        exact(decide_eq_true hq).symm
       ·rw[decide_eq_false (show ¬((L.length:Nat):Int)=((xs.length:Nat):Int)from fun z=>hq (hiff.mp (by omega)))]
        exact(decide_eq_false hq).symm
      rw[eb]
      exact q _ eL
   ·rw[decide_eq_true (show((100:Int)<((xs.length:Nat):Int)) by omega)]
    rw[decide_eq_false h4,Bool.false_and]at q
    refine ar ?_
    walk_at "rd"
    exact q H fun _ _ z=>z
def ft(H:Hp):List V->Bool
 | [.int m,q]=>decide (1<=m) && (decide (m<=12) && fX H m q)
 | _=>false
def eo(H:Hp):V->Bool
 | .ref p=>match H p with
  | some (.tup xs)=>ft H xs
  | _=>false
 | _=>false
theorem zj{H:Hp}{v:V}(h:isTup H v=false):eo H v=false:=by
 cases v with
 | ref p=>
  unfold isTup at h
  unfold eo
  dsimp only at h ⊢
  split
  ·rename_i xs e
   rw[e]at h
   cases h
  ·rfl
 | _=>rfl
theorem nM{H:Hp}{p:Addr}{xs:List V}(h:H p=some (.tup xs)):eo H (.ref p)=ft H xs:=by
 unfold eo
 dsimp only
 rw[h]
theorem xM{H:Hp}{xs:List V}(h:xs.length≠2):ft H xs=false:=by
 unfold ft
 split
 ·exact absurd rfl h
 ·rfl
theorem zD{H:Hp}{a b:V}(h:isInt a=false):ft H [a,b]=false:=by
 cases a<;>first | rfl | cases h
theorem lB{xs:List V}(h:xs.length=2):∃a b,xs=[a,b]:=by
 match xs,h with
 | [a,b],_=>exact⟨a,b,rfl⟩
def sr(K:PySem.W.Frag):Sp:=fun vs H Q _=>∃v,vs=[v]/\bw H 4 v/\∀H',Ext H H'->Q (.bl (eo H v)) H'
abbrev j9:Stmt:=stq 27
theorem nH:FnScope ["thing"] ["thing"] (aJ j9):=⟨rfl,rfl,rfl,by decide +kernel,rfl,by decide +kernel,by decide +kernel⟩
theorem wZ{P:Program}{w:World}{K:PySem.W.Frag}{mg:Str->Option Value}{base:Heap}(D:Dfn K mg "is_house" j9 ["thing"])(T:Blt mg)(g_GREATEST_MANY:∃t,mg "GREATEST_MANY" = some (.int 12 t))(C_are_ways:Cal P w K mg base "are_ways" 4 ["thing","many"] (oq K))(C_is_whole:Cal P w K mg base "is_whole" 1 ["thing"] (gq K)):Cal P w K mg base "is_house" 5 ["thing"] (sr K):=by
 have nd:=(nH).nd
 refine D.ok nH (fun vs H Q E h=>?_) (fun X hX H vs Q E h=>?_)
 ·obtain⟨p,rfl,_⟩:=h;rfl
 ·obtain⟨f,cdv,A,outer,s,H0,E0,rfl,hr⟩:=hX
  obtain⟨t_GREATEST_MANY,c_GREATEST_MANY⟩:=g_GREATEST_MANY
  obtain⟨v,rfl,ht,q⟩:=h
  obtain⟨n,hk⟩:=ht.kind
  refine⟨_,(ai (aT (PW.pt (bS (bI (bj (aP cK rfl T.isinstance_ PyProof.Rows.boot_isinstance (aa (pv 0) (aa (cJ (v:=.ty "tuple") rfl T.tuple_ PyProof.Rows.boot_tuple rfl) af))))) (cA (aH dP (aP (cU K) rfl T.len_ PySem.boot_len (aa (pv 0) af)) ae (aC _))))) (ao (ax aW)) aM)
    (ao (ax (bQ (aw C_is_whole hr (aa (ak (aG K) (pv 0) ae (fun _ _=>rfl)) af)) (bQ (ko eT eT ae (ak (aG K) (pv 0) ae (fun _ _=>rfl)) (eO (v:=.int 12) rfl c_GREATEST_MANY ⟨_,rfl⟩)) (cp (aw C_are_ways hr (aa (ak (aG K) (pv 0) ae (fun _ _=>rfl)) (aa (ak (aG K) (pv 0) ae (fun _ _=>rfl)) af))))))))),?_⟩
  walk_at "rd"
  refine bK hk (lY hk) ?_
  walk_at "rd"
  cases hv:isTup H v with
  | false=>
   refine ar ?_
   walk_at "rd"
   rw[zj hv]at q
   exact q H fun _ _ z=>z
  | true=>
   refine aq ?_
   obtain⟨p,xs,rfl,hp⟩:=ki hv
   obtain⟨hx1,hx2⟩:=ht.items hp
   rw[nM hp]at q
   walk_at "rd"
   refine gm (ah.of hp) ?_
   walk_at "rd"
   by_cases h4:xs.length=2
   ·obtain⟨a,b,rfl⟩:=lB h4
    have ta:=hx2 a (by simp)
    have tb:=hx2 b (by simp)
    obtain⟨ka,hka⟩:=ta.kind
    refine aq ?_
    walk_at "rd"
    refine aE (ah.of hp) (v:=a) rfl ?_
    walk_at "rd"
    refine⟨a,ka,rfl,hka,?_⟩
    refine rd_exb ?_
    cases ha:isInt a with
    | false=>
     refine aq ?_
     rw[zD ha]at q
     exact q H fun _ _ z=>z
    | true=>
     obtain⟨m,rfl⟩:=cT ha
     refine ar ?_
     unfold ft at q
     dsimp only at q
     walk_at "rd"
     refine aE (ah.of hp) (v:=.int m) rfl ?_
     walk_at "rd"
     cases h1:decide (1<=m)with
     | false=>
      refine aq ?_
      walk_at "rd"
      refine aq ?_
      rw[h1]at q
      exact q H fun _ _ z=>z
     | true=>
      refine ar ?_
      walk_at "rd"
      rw[h1,Bool.true_and]at q
      cases h2:decide (m<=12)with
      | false=>
       refine aq ?_
       rw[h2]at q
       exact q H fun _ _ z=>z
      | true=>
       refine ar ?_
       walk_at "rd"
       refine aE (ah.of hp) (v:=b) rfl ?_
       walk_at "rd"
       refine aE (ah.of hp) (v:=.int m) rfl ?_
       walk_at "rd"
       rw[h2,Bool.true_and]at q
       exact⟨b,m,rfl,tb,q⟩
   ·rw[xM h4]at q
    rw[decide_eq_false (show ¬((xs.length:Nat):Int)=2 by omega)]
    refine ar ?_
    walk_at "rd"
    exact q H fun _ _ z=>z
def cE(H:Hp)(p:Addr)(kk:List (List Key)):Prop:=∃bs:List Addr,H p=some (.tup (bs.map V.ref))/\bs.length=kk.length/\∀(j:Nat) (b:Addr) (k:List Key),bs[j]?=some b->kk[j]?=some k->H b=some (.tup (k.map kV))
theorem cE.ext{H H':Hp}{p:Addr}{kk:List (List Key)}(e:Ext H H')(h:cE H p kk):cE H' p kk:=by
 obtain⟨bs,h1,h2,h3⟩:=h
 exact⟨bs,e _ _ h1,h2,fun j b k e1 e2=>e _ _ (h3 j b k e1 e2)⟩
structure Way where
 room:Int
 deed:Str
 other:Int
 sign:Str
 deriving DecidableEq
abbrev Way.key(w:Way):List Key:=[.inl w.room,.inr w.deed,.inl w.other,.inr w.sign]
abbrev Way.vs(w:Way):List V:=[.int w.room,.str w.deed,.int w.other,.str w.sign]
theorem Way.key_inj{w u:Way}(h:w.key=u.key):w=u:=by
 cases w;cases u
 simp only[Way.key,List.cons.injEq,Sum.inl.injEq,Sum.inr.injEq]at h
 obtain⟨rfl,rfl,rfl,rfl,_⟩:=h
 rfl
def qG(z:Str):Prop:=∃c:Nat,97<=c/\c<=122/\z=⟨#[c]⟩
def cf(z:Str):Prop:=z = "up"\/z = "down"\/z = "stay"\/z = "zero"
structure Way.Ok(m:Int)(w:Way):Prop where
 r0:0<=w.room
 r1:w.room<m
 o0:0<=w.other
 o1:w.other<m
 dd:cf w.deed
 sg:qG w.sign
structure HOuse(m:Int)(ws:List Way):Prop where
 m1:1<=m
 m12:m<=12
 few:ws.length<=100
 ok:∀w∈ws,w.Ok m
 nd:ws.Nodup
def bR(H:Hp)(v:V)(m:Int)(ws:List Way):Prop:=∃p q,v=.ref p/\H p=some (.tup [.int m,.ref q])/\cE H q (ws.map Way.key)
theorem bR.ext{H H':Hp}{v:V}{m:Int}{ws:List Way}(e:Ext H H')(h:bR H v m ws):bR H' v m ws:=by
 obtain⟨p,q,rfl,h1,h2⟩:=h
 exact⟨p,q,rfl,e _ _ h1,h2.ext e⟩
theorem cE.item{H:Hp}{ws:List Way}{bs:List Addr}(h:∀(j:Nat) (b:Addr) (k:List Key),bs[j]?=some b->(ws.map Way.key)[j]?=some k->H b=some (.tup (k.map kV))){j:Nat}{b:Addr}{w:Way}(e1:bs[j]?=some b)(e2:ws[j]?=some w):H b=some (.tup w.vs):=
 h j b w.key e1 (by rw[List.getElem?_map,e2];rfl)
def aS(H:Hp)(bs:List Addr)(ws:List Way):Prop:=bs.length=ws.length/\∀(j:Nat) (b:Addr) (w:Way),bs[j]?=some b->ws[j]?=some w->H b=some (.tup w.vs)
theorem aS.ext{H H':Hp}{bs:List Addr}{ws:List Way}(e:Ext H H')(h:aS H bs ws):aS H' bs ws:=⟨h.1,fun j b w e1 e2=>e _ _ (h.2 j b w e1 e2)⟩
theorem aS.put{H:Hp}{f:Addr}{xs ys:List V}{bs:List Addr}{ws:List Way}(hf:H f=some (.lst xs))(h:aS H bs ws):aS (upd H f (.lst ys)) bs ws:=⟨h.1,fun j b w e1 e2=>by
 have:=h.2 j b w e1 e2
 rw[aL (eu this hf (by intro z;cases z))]
 exact this⟩
theorem aS.nil(H:Hp):aS H [] []:=⟨rfl,fun j b w e=>by simp at e⟩
theorem aS.snoc{H:Hp}{bs:List Addr}{ws:List Way}{b:Addr}{w:Way}(h:aS H bs ws)(hb:H b=some (.tup w.vs)):aS H (bs++[b]) (ws++[w]):=by
 refine⟨by simp[h.1],fun j b' w' e1 e2=>?_⟩
 rcases Nat.lt_or_ge j bs.length with hj | hj
 ·rw[List.getElem?_append_left hj]at e1
  rw[List.getElem?_append_left (by rw[←h.1];exact hj)]at e2
  exact h.2 j b' w' e1 e2
 ·rw[List.getElem?_append_right hj]at e1
  rw[List.getElem?_append_right (by rw[←h.1];exact hj),←h.1]at e2
  cases hk:j-bs.length with
  | zero=>
   rw[hk]at e1 e2
   cases e1;cases e2
   exact hb
  | succ k=>rw[hk]at e1;simp at e1
theorem aS.ways{H:Hp}{p:Addr}{bs:List Addr}{ws:List Way}(h:aS H bs ws)(hp:H p=some (.tup (bs.map V.ref))):cE H p (ws.map Way.key):=
 ⟨bs,hp,by rw[List.length_map];exact h.1,fun j b k e1 e2=>by
  rw[List.getElem?_map]at e2
  obtain⟨w,hw,rfl⟩:=Option.map_eq_some_iff.mp e2
  exact h.2 j b w e1 hw⟩
theorem cE.al{H:Hp}{p:Addr}{ws:List Way}(h:cE H p (ws.map Way.key)):∃bs:List Addr,H p=some (.tup (bs.map V.ref))/\aS H bs ws:=by
 obtain⟨bs,h1,h2,h3⟩:=h
 rw[List.length_map]at h2
 exact⟨bs,h1,h2,fun j b w e1 e2=>cE.item h3 e1 e2⟩
abbrev Way.D(w:Way):PyData:=.tuple [.int w.room,.str w.deed,.int w.other,.str w.sign]
structure Way.Lay(w:Way):Prop where
 d:(PyData.str w.deed).canLay0=true
 s:(PyData.str w.sign).canLay0=true
theorem u4:∀c:Fin 123,97<=c.1->(PyData.str ⟨#[c.1]⟩).canLay0=true:=by decide +kernel
theorem Way.Ok.lay{m:Int}{w:Way}(h:w.Ok m):w.Lay:=by
 constructor
 ·rcases h.dd with e | e | e | e<;>rw[e]<;>decide +kernel
 ·obtain⟨c,h1,h2,e⟩:=h.sg
  rw[e]
  exact u4 ⟨c,Nat.lt_succ_of_le h2⟩ h1
theorem Way.rep{H:Hp}{b:Addr}{w:Way}(h:H b=some (.tup w.vs))(l:w.Lay):aR H 1 (.ref b) w.D:=
 .inr ⟨b,w.vs,_,rfl,.inl ⟨h,rfl⟩,.cons rfl (.cons ⟨rfl,l.d⟩ (.cons rfl (.cons ⟨rfl,l.s⟩ .nil)))⟩
theorem Way.eqv(w u:Way):PyData.eqv w.D u.D=decide (w=u):=by
 simp only[PyData.eqv,PyData.eqvAll]
 by_cases h:w=u
 ·subst h;simp
 ·rw[decide_eq_false h]
  obtain⟨a,b,c,d⟩:=w
  obtain⟨a',b',c',d'⟩:=u
  simp only[Way.mk.injEq,not_and]at h
  simp only[Bool.and_true,Bool.and_eq_false_iff,beq_eq_false_iff_ne]
  by_cases h1:a=a'
  ·by_cases h2:b=b'
   ·by_cases h3:c=c'
    ·exact .inr (.inr (.inr (h h1 h2 h3)))
    ·exact .inr (.inr (.inl h3))
   ·exact .inr (.inl h2)
  ·exact .inl h1
theorem aS.reps{H:Hp}:∀{bs:List Addr} {ws:List Way},aS H bs ws->(∀w∈ws,w.Lay)->Paired (aR H 1) (bs.map V.ref) (ws.map Way.D)
 | [],[],_,_=>.nil
 | [],_::_,h,_=>by cases h.1
 | _::_,[],h,_=>by cases h.1
 | b::bs,w::ws,h,l=>.cons (Way.rep (h.2 0 b w rfl rfl) (l w List.mem_cons_self)) (aS.reps ⟨Nat.succ.inj h.1,fun j b w e1 e2=>h.2 (j+1) b w e1 e2⟩ fun u hu=>l u (List.mem_cons_of_mem _ hu))
theorem xp(ws:List Way)(w:Way):((ws.map Way.D).any fun e=>PyData.eqv e w.D)=decide (w∈ws):=by
 rw[List.any_map]
 induction ws with
 | nil=>rfl
 | cons u ws ih=>
  rw[List.any_cons,ih,Function.comp_apply,Way.eqv]
  by_cases h:w∈ws
  ·simp[h]
  ·by_cases e:u=w
   ·simp[e]
   ·have:¬w=u:=fun z=>e z.symm
    simp[h,e,this]
def mG(K:PySem.W.Frag):Sp:=fun vs H Q _=>∃l bs ws,vs=[.ref l]/\H l=some (.lst (bs.map V.ref))/\aS H bs ws/\(∀w∈ws,Way.Lay w)/\ws.length<=200 ∧
 ∀q H' us,Ext H H'->cE H' q (List.map Way.key us)->us.Nodup->(∀u∈us,u∈ws)->us.length<=ws.length->Q (.ref q) H'
abbrev iM:Stmt:=stq 45
theorem nN:FnScope ["_law_ways","_law_found","_law_way"] ["_law_ways"] (aJ iM):=⟨rfl,rfl,rfl,by decide +kernel,rfl,by decide +kernel,by decide +kernel⟩
theorem u5{P:Program}{w:World}{K:PySem.W.Frag}{mg:Str->Option Value}{base:Heap}(D:Dfn K mg "_law_unlike" iM ["_law_ways"])(T:Blt mg):Cal P w K mg base "_law_unlike" 1 ["_law_ways"] (mG K):=by
 have nd:=(nN).nd
 refine D.ok nN (fun vs H Q E h=>?_) (fun X hX H vs Q E h=>?_)
 ·obtain⟨l,bs,ws,rfl,_⟩:=h;rfl
 ·obtain⟨f,cdv,A,outer,s,H0,E0,rfl,hr⟩:=hX
  obtain⟨l,bs,ws,rfl,hl,al,lay,hlen,q⟩:=h
  refine⟨_,(ai (aA (i:=1) nd rfl (Or.inl rfl) (bf af))
    (ai (bL PassesOwn.never rfl (cZ K (pv 0)) (aI (i:=2) nd rfl (Or.inl rfl)) (ao (bX (aH (ve hr) (pv 2) (pv 1) (by with_unfolding_all rfl)) (ao (bo (bF K PySem.F.plainAttrs_list PySem.F.slot_list_append PySem.F.type_list_append bE (pv 1) (aa (pv 2) af)))) aM)))
    (ao (ax (de (fF K) rfl T.tuple_ PyProof.Rows.boot_tuple (aa (pv 1) af)))))),?_⟩
  walk_at "rd"
  refine⟨ay (by simp),av fun f H1 e1 hf hfn=>?_⟩
  walk_at "rd"
  refine dy (ag.of (e1 _ _ hl)) ?_
  refine forL (xs:=bs.map V.ref) (fun i σ H2=>Ext H H2/\∃(k:Option V) (cs:List Addr) (us:List Way),σ=[some (.ref l),some (.ref f),k]/\H2 f=some (.lst (cs.map V.ref))/\aS H2 cs us/\us.Nodup/\(∀u∈us,u∈ws)/\us.length<=i)
   ⟨e1,none,[],[],rfl,hf,aS.nil _,List.nodup_nil,fun u hu=>by simp at hu,Nat.le_refl _⟩ (fun i σ H2 _ h=>ag.of (h.1 _ _ hl)) ?_ ?_
  ·rintro i x σ H2 hx ⟨e2,k,cs,us,rfl,hf2,al2,nd2,sub2,len2⟩
   rw[List.getElem?_map]at hx
   obtain⟨b,hb,rfl⟩:=Option.map_eq_some_iff.mp hx
   have hi:i<ws.length:=by
    rw[←al.1]
    exact(List.getElem?_eq_some_iff.mp hb).1
   have hwi:ws[i]?=some ws[i]:=List.getElem?_eq_getElem hi
   have hbw:=e2 _ _ (al.2 i b _ hb hwi)
   walk_at "rd"
   refine hG ?_
   walk_at "rd"
   refine wy (Way.rep hbw (lay _ (List.getElem_mem hi))) hf2 (al2.reps fun u hu=>lay u (sub2 u hu)) (by decide) ?_
   simp only[if_true,xp]
   refine rd_exb ?_
   by_cases hm:ws[i]∈us
   ·rw[decide_eq_true hm]
    refine aq ?_
    walk_at "rd"
    exact⟨e2,_,cs,us,rfl,hf2,al2,nd2,sub2,by omega⟩
   ·rw[decide_eq_false hm]
    refine ar ?_
    walk_at "rd"
    refine⟨cB (ag.of hf2),?_⟩
    walk_at "rd"
    refine bB hf2 (by rw[List.length_map,al2.1];exact Nat.lt_of_le_of_lt (show us.length<=1000 by omega) (by decide)) ?_
    walk_at "rd"
    refine⟨cj e2 hfn,_,cs++[b],us++[ws[i]],rfl,by rw[aO,List.map_append];rfl,(al2.put hf2).snoc ?_,?_,?_,by simp;omega⟩
    ·rw[aL (eu hbw hf2 (by intro z;cases z))]
     exact hbw
    ·rw[List.nodup_append]
     exact⟨nd2,by simp,fun a ha c hc=>by rw[List.mem_singleton.mp hc];exact fun z=>hm (z ▸ ha)⟩
    ·intro u hu
     rcases List.mem_append.mp hu with hu | hu
     ·exact sub2 u hu
     ·rw[List.mem_singleton.mp hu];exact List.getElem_mem hi
  ·rintro σ H2 ⟨e2,k,cs,us,rfl,hf2,al2,nd2,sub2,len2⟩
   walk_at "rd"
   refine fR (ag.of hf2) (av fun p H3 e3 hp _=>?_)
   exact q p H3 us (e2.trans e3) ((al2.ext e3).ways hp) nd2 sub2 (by rw[List.length_map,al.1]at len2;exact len2)
def ji(z:Str):Prop:=∃c:Nat,97<=c/\c<=99/\z=⟨#[c]⟩
structure Way.Ok3(m:Int)(w:Way):Prop where
 r0:0<=w.room
 r1:w.room<m
 o0:0<=w.other
 o1:w.other<m
 dd:cf w.deed
 sg:ji w.sign
structure HOuse3(m:Int)(ws:List Way):Prop where
 m1:1<=m
 m12:m<=12
 few:ws.length<=100
 ok:∀w∈ws,w.Ok3 m
 nd:ws.Nodup
theorem Way.Ok3.ok{m:Int}{w:Way}(h:w.Ok3 m):w.Ok m:=by
 obtain⟨c,h1,h2,h3⟩:=h.sg
 exact⟨h.r0,h.r1,h.o0,h.o1,h.dd,c,h1,by omega,h3⟩
theorem Way.Ok3.lay{m:Int}{w:Way}(h:w.Ok3 m):w.Lay:=h.ok.lay
theorem HOuse3.house{m:Int}{ws:List Way}(h:HOuse3 m ws):HOuse m ws:=⟨h.m1,h.m12,h.few,fun w hw=>(h.ok w hw).ok,h.nd⟩
theorem vV{ds:List Int}{i:Nat}(h:i+4<=ds.length):∃a b c d,cq (ds.map V.int) (some (i:Int)) (some ((i+4:Nat):Int))=[.int a,.int b,.int c,.int d]/\ds[i]?=some a/\ds[i+1]?=some b/\ds[i+2]?=some c/\ds[i+3]?=some d:=by
 refine⟨ds[i],ds[i+1],ds[i+2],ds[i+3],?_,List.getElem?_eq_getElem _,List.getElem?_eq_getElem _,List.getElem?_eq_getElem _,List.getElem?_eq_getElem _⟩
 unfold cq
 rw[HT.la,HT.la,List.length_map,Nat.min_eq_left (by omega),Nat.min_eq_left (by omega),show i+4-i=4 by omega,←List.map_drop,←List.map_take]
 rw[List.drop_eq_getElem_cons (show i<ds.length by omega),List.drop_eq_getElem_cons (show i+1<ds.length by omega),List.drop_eq_getElem_cons (show i+1+1<ds.length by omega),List.drop_eq_getElem_cons (show i+1+1+1<ds.length by omega)]
 rfl
def dG:List Int:=[8,12,13,31]++(List.replicate 30 ([12,6,12,3]:List Int)).flatten
theorem AI{k:Nat}(h:k<30):dG[4+4*k]?=some 12/\dG[4+4*k+1]?=some 6/\dG[4+4*k+2]?=some 12/\dG[4+4*k+3]?=some 3:=by
 have:∀k:Fin 30,dG[4+4*k.val]?=some 12/\dG[4+4*k.val+1]?=some 6/\dG[4+4*k.val+2]?=some 12/\dG[4+4*k.val+3]?=some 3:=by decide +kernel
 exact this ⟨k,h⟩
def qv(K:PySem.W.Frag):Sp:=fun vs H Q _=>∃c p,vs=[.int c,.int p]/\0<p/\∀v m ws H',Ext H H'->bR H' v m ws->HOuse3 m ws->Q v H'
theorem vY{e:Int}(h0:0<=e)(h1:e<6):∃z,bD ([.str "up",.str "down",.str "stay",.str "zero",.str "up",.str "down"]:List V) e=some (.str z)/\cf z:=by
 have:e=0\/e=1\/e=2\/e=3\/e=4\/e=5:=by omega
 rcases this with rfl | rfl | rfl | rfl | rfl | rfl
 ·exact⟨_,rfl,.inl rfl⟩
 ·exact⟨_,rfl,.inr (.inl rfl)⟩
 ·exact⟨_,rfl,.inr (.inr (.inl rfl))⟩
 ·exact⟨_,rfl,.inr (.inr (.inr rfl))⟩
 ·exact⟨_,rfl,.inl rfl⟩
 ·exact⟨_,rfl,.inr (.inl rfl)⟩
theorem Aa:(Str.ofString "abc").cps.toList=[97,98,99]:=by decide +kernel
theorem yb{e:Int}(h0:0<=e)(h1:e<3):∃c,bD (Str.ofString "abc").cps.toList e=some c/\97<=c/\c<=99:=by
 rw[Aa]
 have:e=0\/e=1\/e=2:=by omega
 rcases this with rfl | rfl | rfl
 ·exact⟨97,rfl,by decide,by decide⟩
 ·exact⟨98,rfl,by decide,by decide⟩
 ·exact⟨99,rfl,by decide,by decide⟩
theorem wI{e:Int}(h0:0<=e)(h1:e<8):∃w:Int,bD (([4,4,4,5,3,2,5,12]:List Int).map V.int) e=some (.int w)/\1<=w/\w<=12:=by
 have:e=0\/e=1\/e=2\/e=3\/e=4\/e=5\/e=6\/e=7:=by omega
 rcases this with rfl | rfl | rfl | rfl | rfl | rfl | rfl | rfl<;>exact⟨_,rfl,by decide,by decide⟩
theorem bR.mk{H:Hp}{p q:Addr}{m:Int}{ws:List Way}(h1:H p=some (.tup [.int m,.ref q]))(h2:cE H q (ws.map Way.key)):bR H (.ref p) m ws:=⟨p,q,rfl,h1,h2⟩
abbrev kE:Stmt:=stq 46
theorem qL:FnScope ["_law_cell_here","_law_prime","_law_draws_here","_law_many","_law_often","_law_ways","_law_k","_law_room","_law_deed","_law_other","_law_sign","_law_word"] ["_law_cell_here","_law_prime"] (aJ kE):=⟨rfl,rfl,rfl,by decide +kernel,rfl,by decide +kernel,by decide +kernel⟩
theorem xG{P:Program}{w:World}{K:PySem.W.Frag}{mg:Str->Option Value}{base:Heap}(D:Dfn K mg "_law_drawn_house" kE ["_law_cell_here","_law_prime"])(T:Blt mg)(C__law_unlike:Cal P w K mg base "_law_unlike" 1 ["_law_ways"] (mG K))(C__law_draws:Cal P w K mg base "_law_draws" 2 ["_law_cell_here","_law_widths","_law_prime"] (eX K)):Cal P w K mg base "_law_drawn_house" 3 ["_law_cell_here","_law_prime"] (qv K):=by
 have nd:=(qL).nd
 refine D.ok qL (fun vs H Q E h=>?_) (fun X hX H vs Q E h=>?_)
 ·obtain⟨c,p,rfl,_⟩:=h;rfl
 ·obtain⟨f,cdv,A,outer,s,H0,E0,rfl,hr⟩:=hX
  obtain⟨c,p,rfl,hp,q⟩:=h
  refine⟨_,(@ai _ _ _ _ _ (@aA _ _ 2 _ _ _ _ nd rfl (Or.inl rfl) (aw C__law_draws hr (@aa _ _ _ _ _ (pv 0) (@aa _ _ _ _ _ (aj lJ (@bf _ _ _ _ (fu (.c (.c (.c (.c .n)))))) (aj jo (@bf _ _ _ _ (fu (.c (.c (.c (.c .n)))))) ae)) (@aa _ _ _ _ _ (pv 1) af rfl) rfl) rfl)) rfl (Or.inl rfl))
    (@ai _ _ _ _ _ (@aA _ _ 3 _ _ _ _ nd rfl (Or.inl rfl) (aj aF ae (aj bh (@ak _ _ _ _ _ _ _ (aD K) (pv 2) ae (fun _ _=>rfl)) (@ak _ _ _ _ _ _ _ (aD K) (@bf _ _ _ _ (fu (.c (.c (.c (.c (.c (.c (.c (.c .n)))))))))) (@ak _ _ _ _ _ _ _ (aD K) (pv 2) ae (fun _ _=>rfl)) (fun _ _=>rfl)))) rfl (Or.inl rfl))
    (@ai _ _ _ _ _ (@aA _ _ 4 _ _ _ _ nd rfl (Or.inl rfl) (@ak _ _ _ _ _ _ _ (aD K) (pv 2) ae (fun _ _=>rfl)) rfl (Or.inl rfl))
    (@ai _ _ _ _ _ (bX (aH bu (@ak _ _ _ _ _ _ _ (aD K) (pv 2) ae (fun _ _=>rfl)) ae (aC _)) (@ao _ _ _ (@aA _ _ 4 _ _ _ _ nd rfl (Or.inl rfl) (@ak _ _ _ _ _ _ _ (aD K) (pv 2) ae (fun _ _=>rfl)) rfl (Or.inl rfl))) aM)
    (@ai _ _ _ _ _ (@aA _ _ 5 _ _ _ _ nd rfl (Or.inl rfl) (@bf _ _ _ _ af) rfl (Or.inl rfl))
    (@ai _ _ _ _ _ (bL PassesOwn.never rfl (dH rfl T.range_ (@aa _ _ _ _ _ (pv 4) af rfl)) (aI (i:=6) nd rfl (Or.inl rfl)) (@ai _ _ _ _ _ (@dY _ _ _ _ _ _ (fA (fU K) (pv 2) (eh (aj aF ae (aj cP ae (pv 6)))) (eh (aj aF ae (aj cP ae (pv 6))))) (zI (n:=4) K rfl (bp (aI (i:=7) nd rfl (Or.inl rfl)) (bp (aI (i:=8) nd rfl (Or.inl rfl)) (bp (aI (i:=9) nd rfl (Or.inl rfl)) (bp (aI (i:=10) nd rfl (Or.inl rfl)) eD))))) rfl rfl rfl)
    (@ai _ _ _ _ _ (@aA _ _ 11 _ _ _ _ nd rfl (Or.inl rfl) (@ak _ _ _ _ _ _ _ (aD K) (@bf _ _ _ _ (@aa _ _ _ _ _ aN (@aa _ _ _ _ _ aN (@aa _ _ _ _ _ aN (@aa _ _ _ _ _ aN (@aa _ _ _ _ _ aN (@aa _ _ _ _ _ aN af rfl) rfl) rfl) rfl) rfl) rfl)) (pv 8) (fun _ _=>rfl)) rfl (Or.inl rfl))
    (@ao _ _ _ (bo (bF K PySem.F.plainAttrs_list PySem.F.slot_list_append PySem.F.type_list_append bE (pv 5) (@aa _ _ _ _ _ (@aX _ _ _ _ _ (@aa _ _ _ _ _ (aj bh (pv 7) (pv 3)) (@aa _ _ _ _ _ (pv 11) (@aa _ _ _ _ _ (aj bh (pv 9) (pv 3)) (@aa _ _ _ _ _ (@ak _ _ _ _ _ _ _ tU aN (pv 10) (fun _ _=>rfl)) af rfl) rfl) rfl) rfl)) af rfl)))))))
    (@ao _ _ _ (@ax _ _ _ _ (@aX _ _ _ _ _ (@aa _ _ _ _ _ (pv 3) (@aa _ _ _ _ _ (aw C__law_unlike hr (@aa _ _ _ _ _ (pv 5) af rfl)) af rfl) rfl)))))))))),?_⟩
  walk_at "rd"
  refine⟨ay (by simp),av fun w0 G1 f1 hw0 _=>?_⟩
  walk_at "rd"
  refine⟨ay (by simp),av fun w1 G2 f2 hw1 _=>?_⟩
  walk_at "rd"
  refine kf hw1 (by omega) (ay (by decide)) (av fun w2 G3 f3 hw2 _=>?_)
  walk_at "rd"
  refine lj (f3 _ _ (f2 _ _ hw0)) hw2 (ay (by decide)) (av fun w3 G4 f4 hw3 _=>?_)
  walk_at "rd"
  refine fH dG hw3 (by decide +kernel) (by decide +kernel) (hp) fun dq ds H1 e1 hd hdn hl hb=>?_
  have eH:Ext H H1:=f1.trans (f2.trans (f3.trans (f4.trans e1)))
  have hl':ds.length=124:=hl
  have at_:∀(i:Nat) (x:Int),dG[i]?=some x->∃d,ds[i]?=some d/\0<=d/\d<x:=fun i x hx=>by
   have hi:i<ds.length:=by
    rw[hl]
    exact(List.getElem?_eq_some_iff.mp hx).1
   exact⟨ds[i],List.getElem?_eq_getElem hi,hb i _ x (List.getElem?_eq_getElem hi) hx⟩
  obtain⟨d0,g0,b00,b01⟩:=at_ 0 8 rfl
  obtain⟨d1,g1,b10,b11⟩:=at_ 1 12 rfl
  obtain⟨d2,g2,b20,b21⟩:=at_ 2 13 rfl
  obtain⟨d3,g3,b30,b31⟩:=at_ 3 31 rfl
  have pick:∀{i:Nat} {d:Int},ds[i]?=some d->bD (ds.map V.int) (i:Int)=some (.int d):=fun{i d} h=>dR (by rw[List.getElem?_map,h];rfl)
  walk_at "rd"
  refine aB (ag.of hd) (pick (i:=1) g1) ?_
  walk_at "rd"
  refine⟨ay (by simp),av fun mq H2 e2 hmq _=>?_⟩
  walk_at "rd"
  refine aB (ag.of (e2 _ _ hd)) (pick (i:=0) g0) ?_
  obtain⟨w,hw,hw1',hw2'⟩:=wI b00 b01
  refine aB (ag.of hmq) hw ?_
  try refine rd_I (show(0:Int)<w by omega) ?_
  walk_at "rd"
  have r0:0<=d1 % w:=Int.emod_nonneg _ (by omega)
  have r1:d1 % w<w:=Int.emod_lt_of_pos _ (by omega)
  obtain⟨m,hm,m1,m2⟩:∃m,1+d1 % w=m/\1<=m/\m<=12:=⟨_,rfl,by omega,by omega⟩
  rw[hm]
  refine aB (ag.of (e2 _ _ hd)) (pick (i:=2) g2) ?_
  walk_at "rd"
  have eH2:Ext H H2:=eH.trans e2
  have hd2:=e2 _ _ hd
  refine cO (fun σ' H'=>H'=H2/\∃o:Nat,o<=30/\σ'=[some (.int c),some (.int p),some (.ref dq),some (.int m),some (.int o),none,none,none,none,none,none,none]) ?_ ?_
  ·walk_at "rd"
   refine aB (ag.of hd2) (pick (i:=0) g0) ?_
   walk_at "rd"
   refine dn (fun h=>?_) (fun h=>?_)
   ·walk_at "rd"
    refine aB (ag.of hd2) (pick (i:=3) g3) ?_
    walk_at "rd"
    exact⟨rfl,d3.toNat,by omega,by rw[Int.toNat_of_nonneg b30];rfl⟩
   ·walk_at "rd"
    exact⟨rfl,d2.toNat,by omega,by rw[Int.toNat_of_nonneg b20];rfl⟩
  rintro σ' H' ⟨rfl,o,ho,rfl⟩
  clear hw hw1' hw2' r0 r1 b00 b01 b10 b11 b20 b21 b30 b31
  walk_at "rd"
  refine⟨ay (by simp),av fun f H3 e3 hf hfn=>?_⟩
  walk_at "rd"
  refine dN (by omega) ?_
  refine forR (fun i σ H4=>Ext H' H4/\∃(k1 k2 k3 k4 k5 k6:Option V) (cs:List Addr) (us:List Way),σ=[some (.int c),some (.int p),some (.ref dq),some (.int m),some (.int o),some (.ref f),k1,k2,k3,k4,k5,k6]/\H4 f=some (.lst (cs.map V.ref))/\aS H4 cs us/\(∀u∈us,u.Ok3 m)/\us.length=i)
   ⟨e3,none,none,none,none,none,none,[],[],rfl,hf,aS.nil _,fun u hu=>by simp at hu,rfl⟩ ?_ ?_
  ·rintro i σ H4 hi ⟨e4,k1,k2,k3,k4,k5,k6,cs,us,rfl,hf4,al,ok,len⟩
   rw[Int.toNat_natCast]at hi
   have hi30:i<30:=by omega
   obtain⟨a,b,c',d,hcut,ga,gb,gc,gd⟩:=vV (ds:=ds) (i:=4+4*i) (by omega)
   obtain⟨y0,y1,y2,y3⟩:=AI hi30
   have ba:=hb _ _ _ ga y0
   have bb:=hb _ _ _ gb y1
   have bc:=hb _ _ _ gc y2
   have bd:=hb _ _ _ gd y3
   have hd4:=e4 _ _ hd2
   walk_at "rd"
   refine fP (ag.of hd4) (av fun t H5 e5 ht htn=>?_)
   rw[show (4:Int)+4*(0+(i:Int))=((4+4*i:Nat):Int) by omega,show (8:Int)+4*(0+(i:Int))=((4+4*i+4:Nat):Int) by omega,hcut]at ht
   walk_at "rd"
   refine uS (ag.of ht) rfl ?_
   walk_at "rd"
   refine⟨ay (by simp),av fun u1 H6 e6 hu1 _=>?_⟩
   walk_at "rd"
   obtain⟨z,hz,okz⟩:=vY bb.1 bb.2
   refine aB (ag.of hu1) hz ?_
   walk_at "rd"
   have hf6:=e6 _ _ (e5 _ _ hf4)
   refine⟨cB (ag.of hf6),?_⟩
   walk_at "rd"
   try refine rd_I (show(0:Int)<m by omega) ?_
   walk_at "rd"
   try refine rd_I (show(0:Int)<m by omega) ?_
   walk_at "rd"
   obtain⟨s,hs,s1,s2⟩:=yb bd.1 bd.2
   refine⟨_,_,s,rfl,rfl,cz (by decide +kernel),hs,?_⟩
   walk_at "rd"
   refine⟨ay (by simp),av fun v H7 e7 hv _=>?_⟩
   have hf7:=e7 _ _ hf6
   walk_at "rd"
   refine bB hf7 (by rw[List.length_map,al.1,len];exact Nat.lt_of_le_of_lt (show i<=1000 by omega) (by decide)) ?_
   walk_at "rd"
   have al7:aS H7 cs us:=((al.ext e5).ext e6).ext e7
   have hv7:H7 v=some (.tup (Way.vs ⟨a % m,z,c' % m,⟨#[s]⟩⟩)):=hv
   refine⟨cj (e4.trans (e5.trans (e6.trans e7))) hfn,_,_,_,_,_,_,cs++[v],us++[⟨a % m,z,c' % m,⟨#[s]⟩⟩],rfl,by rw[aO,List.map_append];rfl,(al7.put hf7).snoc ?_,?_,by simp[len]⟩
   ·rw[aL (eu hv7 hf7 (by intro z;cases z))]
    exact hv7
   ·intro u hu
    rcases List.mem_append.mp hu with hu | hu
    ·exact ok u hu
    ·rw[List.mem_singleton.mp hu]
     exact⟨Int.emod_nonneg _ (by omega),Int.emod_lt_of_pos _ (by omega),Int.emod_nonneg _ (by omega),Int.emod_lt_of_pos _ (by omega),okz,s,s1,s2,rfl⟩
  ·rintro σ H4 ⟨e4,k1,k2,k3,k4,k5,k6,cs,us,rfl,hf4,al,ok,len⟩
   rw[Int.toNat_natCast]at len
   walk_at "rd"
   refine⟨f,cs,us,rfl,hf4,al,fun u hu=>(ok u hu).lay,by omega,fun r H5 ws e5 hws nd sub ln=>?_⟩
   walk_at "rd"
   refine⟨ay (by simp),av fun t H6 e6 ht _=>?_⟩
   exact q _ m ws H6 (eH2.trans (e4.trans (e5.trans e6))) (bR.mk ht (hws.ext e6)) ⟨m1,m2,by omega,fun u hu=>ok u (sub u hu),nd⟩
structure WL(H0 H:Hp)(f:Addr)(us:List Way):Prop where
 ext:Ext H0 H
 at_:∃cs:List Addr,H f=some (.lst (cs.map V.ref))/\aS H cs us
theorem WL.nil{H0 H:Hp}{f:Addr}(e:Ext H0 H)(hf:H f=some (.lst [])):WL H0 H f []:=⟨e,[],hf,aS.nil _⟩
theorem WL.push{H0 H H1:Hp}{f v:Addr}{us:List Way}{w:Way}(h:WL H0 H f us)(hfn:H0 f=none)(e:Ext H H1)(hv:H1 v=some (.tup w.vs)):
  ∃xs,H1 f=some (.lst xs)/\xs.length=us.length/\WL H0 (upd H1 f (.lst (xs++[.ref v]))) f (us++[w]):=by
 obtain⟨e0,cs,hf,al⟩:=h
 have hf1:=e _ _ hf
 refine⟨cs.map V.ref,hf1,by rw[List.length_map];exact al.1,cj (e0.trans e) hfn,cs++[v],by rw[aO,List.map_append];rfl,((al.ext e).put hf1).snoc ?_⟩
 rw[aL (eu hv hf1 (by intro z;cases z))]
 exact hv
theorem WL.ty{K:PySem.W.Frag}{H0 H H1:Hp}{f:Addr}{us:List Way}(h:WL H0 H f us)(e:Ext H H1):fg K "list" (.ref f) H1:=by
 obtain⟨_,cs,hf,al⟩:=h
 exact cB (ag.of (e _ _ hf))
theorem jy:ji "a":=⟨97,by decide,by decide,by decide +kernel⟩
theorem gH:ji "b":=⟨98,by decide,by decide,by decide +kernel⟩
theorem kQ:ji "c":=⟨99,by decide,by decide,by decide +kernel⟩
theorem jC:cf "up":=.inl rfl
theorem kX:cf "down":=.inr (.inl rfl)
theorem fw:cf "stay":=.inr (.inr (.inl rfl))
theorem lE:cf "zero":=.inr (.inr (.inr rfl))
theorem dk{n:Nat}(h:n<=1000):n<sizeLine:=Nat.lt_of_le_of_lt h (by decide)
theorem jW{a b:V}{e:Int}(h0:0<=e)(h1:e<2):∃v,bD [a,b] e=some v/\(v=a\/v=b):=by
 have:e=0\/e=1:=by omega
 rcases this with rfl | rfl
 ·exact⟨a,rfl,.inl rfl⟩
 ·exact⟨b,rfl,.inr rfl⟩
theorem cY{m:Int}{us:List Way}{w:Way}(h:∀u∈us,u.Ok3 m)(hw:w.Ok3 m):∀u∈us++[w],u.Ok3 m:=fun u hu=>by
 rcases List.mem_append.mp hu with hu | hu
 ·exact h u hu
 ·rw[List.mem_singleton.mp hu];exact hw
theorem yH:(Str.ofString "ab").cps.toList=[97,98]:=by decide +kernel
theorem wu{e:Int}(h0:0<=e)(h1:e<2):∃c,bD (Str.ofString "ab").cps.toList e=some c/\97<=c/\c<=99:=by
 rw[yH]
 have:e=0\/e=1:=by omega
 rcases this with rfl | rfl
 ·exact⟨97,rfl,by decide,by decide⟩
 ·exact⟨98,rfl,by decide,by decide⟩
theorem aY{ws ds:List Int}(hl:ds.length=ws.length)(hb:∀(i:Nat) (d x:Int),ds[i]?=some d->ws[i]?=some x->0<=d/\d<x)(i:Nat){x:Int}(hx:ws[i]?=some x):∃d,bD (ds.map V.int) (i:Int)=some (.int d)/\0<=d/\d<x:=by
 have hi:i<ds.length:=by
  rw[hl]
  exact(List.getElem?_eq_some_iff.mp hx).1
 have g:ds[i]?=some ds[i]:=List.getElem?_eq_getElem hi
 exact⟨ds[i],dR (by rw[List.getElem?_map,g];rfl),hb i _ x g hx⟩
def qE(K:PySem.W.Frag):Sp:=fun vs H Q _=>∃c p,vs=[.int c,.int p]/\0<p/\∀v m ws H',Ext H H'->bR H' v m ws->HOuse3 m ws->Q v H'
abbrev jc:Stmt:=stq 48
theorem oC:FnScope ["_law_cell_here","_law_prime","_law_draws_here","_law_up","_law_down","_law_many","_law_ways","_law_k"] ["_law_cell_here","_law_prime"] (aJ jc):=⟨rfl,rfl,rfl,by decide +kernel,rfl,by decide +kernel,by decide +kernel⟩
theorem Ao{P:Program}{w:World}{K:PySem.W.Frag}{mg:Str->Option Value}{base:Heap}(D:Dfn K mg "_law_gate_house" jc ["_law_cell_here","_law_prime"])(T:Blt mg)(C__law_unlike:Cal P w K mg base "_law_unlike" 1 ["_law_ways"] (mG K))(C__law_draws:Cal P w K mg base "_law_draws" 2 ["_law_cell_here","_law_widths","_law_prime"] (eX K)):Cal P w K mg base "_law_gate_house" 3 ["_law_cell_here","_law_prime"] (qE K):=by
 have nd:=(oC).nd
 refine D.ok oC (fun vs H Q E h=>?_) (fun X hX H vs Q E h=>?_)
 ·obtain⟨c,p,rfl,_⟩:=h;rfl
 ·obtain⟨f,cdv,A,outer,s,H0,E0,rfl,hr⟩:=hX
  obtain⟨c,p,rfl,hp,q⟩:=h
  refine⟨_,(@ai _ _ _ _ _ (@aA _ _ 2 _ _ _ _ nd rfl (Or.inl rfl) (aw C__law_draws hr (@aa _ _ _ _ _ (pv 0) (@aa _ _ _ _ _ (@bf _ _ _ _ (fu (.c (.c (.c (.c (.c (.c (.c .n))))))))) (@aa _ _ _ _ _ (pv 1) af rfl) rfl) rfl)) rfl (Or.inl rfl))
    (@ai _ _ _ _ _ (rN (i:=3) (j:=4) rfl nd rfl rfl (by decide) rfl rfl (@aa _ _ _ _ _ (aj aF ae (@ak _ _ _ _ _ _ _ (aD K) (pv 2) ae (fun _ _=>rfl))) (@aa _ _ _ _ _ (aj aF ae (@ak _ _ _ _ _ _ _ (aD K) (pv 2) ae (fun _ _=>rfl))) af rfl) rfl) rfl)
    (@ai _ _ _ _ _ (@aA _ _ 5 _ _ _ _ nd rfl (Or.inl rfl) (aj aF (aj aF (pv 3) (pv 4)) ae) rfl (Or.inl rfl))
    (@ai _ _ _ _ _ (@aA _ _ 6 _ _ _ _ nd rfl (Or.inl rfl) (@bf _ _ _ _ af) rfl (Or.inl rfl))
    (@ai _ _ _ _ _ (bL PassesOwn.never rfl (dH rfl T.range_ (@aa _ _ _ _ _ (pv 3) af rfl)) (aI (i:=7) nd rfl (Or.inl rfl)) (@ao _ _ _ (bo (bF K PySem.F.plainAttrs_list PySem.F.slot_list_append PySem.F.type_list_append bE (pv 6) (@aa _ _ _ _ _ (@aX _ _ _ _ _ (@aa _ _ _ _ _ (pv 7) (@aa _ _ _ _ _ aN (@aa _ _ _ _ _ (aj bh (aj aF (pv 7) ae) (pv 3)) (@aa _ _ _ _ _ (@ak _ _ _ _ _ _ _ tU aN (@ak _ _ _ _ _ _ _ (aD K) (pv 2) ae (fun _ _=>rfl)) (fun _ _=>rfl)) af rfl) rfl) rfl) rfl)) af rfl)))))
    (@ai _ _ _ _ _ (bo (bF K PySem.F.plainAttrs_list PySem.F.slot_list_append PySem.F.type_list_append bE (pv 6) (@aa _ _ _ _ _ (@aX _ _ _ _ _ (@aa _ _ _ _ _ (aj bh (@ak _ _ _ _ _ _ _ (aD K) (pv 2) ae (fun _ _=>rfl)) (pv 3)) (@aa _ _ _ _ _ aN (@aa _ _ _ _ _ (pv 3) (@aa _ _ _ _ _ aN af rfl) rfl) rfl) rfl)) af rfl)))
    (@ai _ _ _ _ _ (bL PassesOwn.never rfl (dH rfl T.range_ (@aa _ _ _ _ _ (pv 4) af rfl)) (aI (i:=7) nd rfl (Or.inl rfl)) (@ao _ _ _ (bo (bF K PySem.F.plainAttrs_list PySem.F.slot_list_append PySem.F.type_list_append bE (pv 6) (@aa _ _ _ _ _ (@aX _ _ _ _ _ (@aa _ _ _ _ _ (aj aF (pv 3) (pv 7)) (@aa _ _ _ _ _ aN (@aa _ _ _ _ _ (aj aF (pv 3) (aj bh (aj aF (pv 7) ae) (pv 4))) (@aa _ _ _ _ _ aN af rfl) rfl) rfl) rfl)) af rfl)))))
    (@ai _ _ _ _ _ (bo (bF K PySem.F.plainAttrs_list PySem.F.slot_list_append PySem.F.type_list_append bE (pv 6) (@aa _ _ _ _ _ (@aX _ _ _ _ _ (@aa _ _ _ _ _ (aj aF (pv 3) (aj bh (@ak _ _ _ _ _ _ _ (aD K) (pv 2) ae (fun _ _=>rfl)) (pv 4))) (@aa _ _ _ _ _ aN (@aa _ _ _ _ _ (aj bY (pv 5) ae) (@aa _ _ _ _ _ aN af rfl) rfl) rfl) rfl)) af rfl)))
    (@ai _ _ _ _ _ (bo (bF K PySem.F.plainAttrs_list PySem.F.slot_list_append PySem.F.type_list_append bE (pv 6) (@aa _ _ _ _ _ (@aX _ _ _ _ _ (@aa _ _ _ _ _ (aj bY (pv 5) ae) (@aa _ _ _ _ _ (@ak _ _ _ _ _ _ _ (aD K) (@bf _ _ _ _ (@aa _ _ _ _ _ aN (@aa _ _ _ _ _ aN af rfl) rfl)) (@ak _ _ _ _ _ _ _ (aD K) (pv 2) ae (fun _ _=>rfl)) (fun _ _=>rfl)) (@aa _ _ _ _ _ (@ak _ _ _ _ _ _ _ (aD K) (@bf _ _ _ _ (@aa _ _ _ _ _ ae (@aa _ _ _ _ _ (aj bY (pv 5) ae) af rfl) rfl)) (@ak _ _ _ _ _ _ _ (aD K) (pv 2) ae (fun _ _=>rfl)) (fun _ _=>rfl)) (@aa _ _ _ _ _ aN af rfl) rfl) rfl) rfl)) af rfl)))
    (@ao _ _ _ (@ax _ _ _ _ (@aX _ _ _ _ _ (@aa _ _ _ _ _ (pv 5) (@aa _ _ _ _ _ (aw C__law_unlike hr (@aa _ _ _ _ _ (pv 6) af rfl)) af rfl) rfl))))))))))))),?_⟩
  walk_at "rd"
  refine⟨ay (by simp),av fun w0 G1 f1 hw0 _=>?_⟩
  walk_at "rd"
  refine fH [6,5,6,5,2,2,2] hw0 (by decide) (by decide) (hp) fun dq ds H1 e1 hd hdn hl hb=>?_
  have eH:Ext H H1:=f1.trans e1
  obtain⟨d0,g0,b00,b01⟩:=aY hl hb 0 rfl
  obtain⟨d1,g1,b10,b11⟩:=aY hl hb 1 rfl
  obtain⟨d2,g2,b20,b21⟩:=aY hl hb 2 rfl
  obtain⟨d3,g3,b30,b31⟩:=aY hl hb 3 rfl
  obtain⟨d4,g4,b40,b41⟩:=aY hl hb 4 rfl
  obtain⟨d5,g5,b50,b51⟩:=aY hl hb 5 rfl
  obtain⟨d6,g6,b60,b61⟩:=aY hl hb 6 rfl
  clear hb hl
  walk_at "rd"
  refine aB (ag.of hd) g0 ?_
  walk_at "rd"
  refine aB (ag.of hd) g1 ?_
  walk_at "rd"
  obtain⟨U,hU⟩:∃U:Nat,1+d0=(U:Int):=⟨(1+d0).toNat,by omega⟩
  obtain⟨D,hD⟩:∃D:Nat,1+d1=(D:Int):=⟨(1+d1).toNat,by omega⟩
  rw[hU,hD]
  have u1:1<=U:=by omega
  have u6:U<=6:=by omega
  have v1:1<=D:=by omega
  have v5:D<=5:=by omega
  clear b00 b01 b10 b11 hU hD
  obtain⟨m,hm⟩:∃m:Int,(U:Int)+(D:Int)+1=m:=⟨_,rfl⟩
  rw[hm]
  refine⟨ay (by simp),av fun f H2 e2 hf hfn=>?_⟩
  walk_at "rd"
  refine dN (by omega) ?_
  have hfn0:H1 f=none:=hfn
  refine forR (fun i σ H3=>∃(k:Option V) (us:List Way),σ=[some (.int c),some (.int p),some (.ref dq),some (.int U),some (.int D),some (.int m),some (.ref f),k]/\WL H1 H3 f us/\(∀u∈us,u.Ok3 m)/\us.length=i)
   ⟨none,[],rfl,WL.nil e2 hf,fun u hu=>by simp at hu,rfl⟩ ?_ ?_
  ·rintro i σ H3 hi ⟨k,us,rfl,wl,ok,len⟩
   rw[Int.toNat_natCast]at hi
   walk_at "rd"
   refine⟨wl.ty (Ext.rfl' _),?_⟩
   walk_at "rd"
   try refine rd_I (show(0:Int)<(U:Int) by omega) ?_
   walk_at "rd"
   refine aB (ag.of (wl.ext _ _ hd)) g4 ?_
   obtain⟨s,hs,s1,s2⟩:=wu b40 b41
   refine⟨_,_,s,rfl,rfl,cz (by decide +kernel),hs,?_⟩
   walk_at "rd"
   refine⟨ay (by simp),av fun v H4 e4 hv _=>?_⟩
   walk_at "rd"
   obtain⟨xs,hx,hlx,wl'⟩:=wl.push (w:=⟨0+(i:Int),"up",(0+(i:Int)+1) % (U:Int),⟨#[s]⟩⟩) hfn0 e4 hv
   refine bB hx (dk (by omega)) ?_
   walk_at "rd"
   exact⟨_,_,rfl,wl',cY ok ⟨by show 0<=0+(i:Int);omega,by show 0+(i:Int)<m;omega,Int.emod_nonneg _ (by omega),Int.lt_trans (Int.emod_lt_of_pos _ (by omega)) (by omega),jC,s,s1,s2,rfl⟩,by simp[len]⟩
  rintro σ H3 ⟨k,us,rfl,wl,ok,len⟩
  rw[Int.toNat_natCast]at len
  walk_at "rd"
  refine⟨wl.ty (Ext.rfl' _),?_⟩
  walk_at "rd"
  refine aB (ag.of (wl.ext _ _ hd)) g2 ?_
  try refine rd_I (show(0:Int)<(U:Int) by omega) ?_
  walk_at "rd"
  refine⟨ay (by simp),av fun v H4 e4 hv _=>?_⟩
  walk_at "rd"
  have r0:0<=d2 % (U:Int):=Int.emod_nonneg _ (by omega)
  have r1:d2 % (U:Int)<U:=Int.emod_lt_of_pos _ (by omega)
  obtain⟨xs,hx,hlx,wl2⟩:=wl.push (w:=⟨d2 % (U:Int),"stay",(U:Int),"b"⟩) hfn0 e4 hv
  have ok2:=cY ok (w:=⟨d2 % (U:Int),"stay",(U:Int),"b"⟩) ⟨r0,by show d2 % (U:Int)<m;omega,by show 0<=(U:Int);omega,by show(U:Int)<m;omega,fw,gH⟩
  refine bB hx (dk (by omega)) ?_
  generalize upd H4 f _=H5 at wl2 ⊢
  generalize hus2:us++[_]=us2 at wl2 ok2
  have len2:us2.length=U+1:=by rw[←hus2];simp[len]
  clear hus2 hx hlx hv e4 r0 r1 wl ok len
  walk_at "rd"
  refine dN (by omega) ?_
  refine forR (fun i σ H3=>∃(k:Option V) (us:List Way),σ=[some (.int c),some (.int p),some (.ref dq),some (.int U),some (.int D),some (.int m),some (.ref f),k]/\WL H1 H3 f us/\(∀u∈us,u.Ok3 m)/\us.length=U+1+i)
   ⟨_,us2,rfl,wl2,ok2,len2⟩ ?_ ?_
  ·rintro i σ H3 hi ⟨k,us,rfl,wl,ok,len⟩
   rw[Int.toNat_natCast]at hi
   walk_at "rd"
   refine⟨wl.ty (Ext.rfl' _),?_⟩
   walk_at "rd"
   try refine rd_I (show(0:Int)<(D:Int) by omega) ?_
   walk_at "rd"
   refine⟨ay (by simp),av fun v H4 e4 hv _=>?_⟩
   walk_at "rd"
   have r0:0<=(0+(i:Int)+1) % (D:Int):=Int.emod_nonneg _ (by omega)
   have r1:(0+(i:Int)+1) % (D:Int)<D:=Int.emod_lt_of_pos _ (by omega)
   obtain⟨xs,hx,hlx,wl'⟩:=wl.push (w:=⟨(U:Int)+(0+(i:Int)),"down",(U:Int)+(0+(i:Int)+1) % (D:Int),"a"⟩) hfn0 e4 hv
   refine bB hx (dk (by omega)) ?_
   walk_at "rd"
   exact⟨_,_,rfl,wl',cY ok ⟨by show 0<=(U:Int)+(0+(i:Int));omega,by show(U:Int)+(0+(i:Int))<m;omega,by show 0<=(U:Int)+(0+(i:Int)+1) % (D:Int);omega,by show(U:Int)+(0+(i:Int)+1) % (D:Int)<m;omega,kX,jy⟩,by simp[len];omega⟩
  clear wl2 ok2 len2
  rintro σ H3 ⟨k,us,rfl,wl,ok,len⟩
  rw[Int.toNat_natCast]at len
  walk_at "rd"
  refine⟨wl.ty (Ext.rfl' _),?_⟩
  walk_at "rd"
  refine aB (ag.of (wl.ext _ _ hd)) g3 ?_
  try refine rd_I (show(0:Int)<(D:Int) by omega) ?_
  walk_at "rd"
  refine⟨ay (by simp),av fun v H4 e4 hv _=>?_⟩
  walk_at "rd"
  have r0:0<=d3 % (D:Int):=Int.emod_nonneg _ (by omega)
  have r1:d3 % (D:Int)<D:=Int.emod_lt_of_pos _ (by omega)
  obtain⟨xs,hx,hlx,wl2⟩:=wl.push (w:=⟨(U:Int)+d3 % (D:Int),"zero",m-1,"c"⟩) hfn0 e4 hv
  have ok2:=cY ok (w:=⟨(U:Int)+d3 % (D:Int),"zero",m-1,"c"⟩) ⟨by show 0<=(U:Int)+d3 % (D:Int);omega,by show(U:Int)+d3 % (D:Int)<m;omega,by show 0<=m-1;omega,by show m-1<m;omega,lE,kQ⟩
  refine bB hx (dk (by omega)) ?_
  generalize upd H4 f _=H5 at wl2 ⊢
  generalize hus2:us++[_]=us2 at wl2 ok2
  have len2:us2.length=U+D+2:=by rw[←hus2];simp[len];omega
  clear hus2 hx hlx hv e4 r0 r1 wl ok len
  walk_at "rd"
  refine⟨wl2.ty (Ext.rfl' _),?_⟩
  walk_at "rd"
  refine⟨ay (by simp),av fun t1 H6 e6 ht1 _=>?_⟩
  walk_at "rd"
  refine aB (ag.of (e6 _ _ (wl2.ext _ _ hd))) g5 ?_
  obtain⟨x5,hx5,ax5⟩:=jW (a:=V.str "up") (b:=V.str "stay") b50 b51
  refine aB (ag.of ht1) hx5 ?_
  walk_at "rd"
  refine⟨ay (by simp),av fun t2 H7 e7 ht2 _=>?_⟩
  walk_at "rd"
  refine aB (ag.of (e7 _ _ (e6 _ _ (wl2.ext _ _ hd)))) g6 ?_
  obtain⟨x6,hx6,ax6⟩:=jW (a:=V.int 0) (b:=V.int (m-1)) b60 b61
  refine aB (ag.of ht2) hx6 ?_
  walk_at "rd"
  refine⟨ay (by simp),av fun v H8 e8 hv _=>?_⟩
  walk_at "rd"
  obtain⟨z,rfl,oz⟩:∃z,x5=.str z/\cf z:=by
   rcases ax5 with rfl | rfl
   ·exact⟨_,rfl,jC⟩
   ·exact⟨_,rfl,fw⟩
  obtain⟨y,rfl,y0,y1⟩:∃y:Int,x6=.int y/\0<=y/\y<m:=by
   rcases ax6 with rfl | rfl
   ·exact⟨_,rfl,by omega,by omega⟩
   ·exact⟨_,rfl,by omega,by omega⟩
  obtain⟨xs,hx,hlx,wl3⟩:=wl2.push (w:=⟨m-1,z,y,"b"⟩) hfn0 (e6.trans (e7.trans e8)) hv
  have ok3:=cY ok2 (w:=⟨m-1,z,y,"b"⟩) ⟨by show 0<=m-1;omega,by show m-1<m;omega,y0,y1,oz,gH⟩
  refine bB hx (dk (by omega)) ?_
  generalize upd H8 f _=H9 at wl3 ⊢
  generalize hus3:us2++[_]=us3 at wl3 ok3
  have len3:us3.length=U+D+3:=by rw[←hus3];simp[len2]
  walk_at "rd"
  obtain⟨ew,cs,hcs,al⟩:=wl3
  refine⟨f,cs,us3,rfl,hcs,al,fun u hu=>(ok3 u hu).lay,by omega,fun r I1 ws e5 hws nd sub ln=>?_⟩
  walk_at "rd"
  refine⟨ay (by simp),av fun t I2 e6' ht _=>?_⟩
  exact q _ m ws I2 (eH.trans (ew.trans (e5.trans e6'))) (bR.mk ht (hws.ext e6')) ⟨by omega,by omega,by omega,fun u hu=>ok3 u (sub u hu),nd⟩
theorem aS.rev{H:Hp}{bs:List Addr}{ws:List Way}(h:aS H bs ws):aS H bs.reverse ws.reverse:=by
 refine⟨by rw[List.length_reverse,List.length_reverse];exact h.1,fun j b w e1 e2=>?_⟩
 have hj:j<bs.length:=by
  have:=(List.getElem?_eq_some_iff.mp e1).1
  simpa using this
 rw[List.getElem?_reverse hj]at e1
 rw[List.getElem?_reverse (by rw[←h.1];exact hj),←h.1]at e2
 exact h.2 _ b w e1 e2
theorem gr{us:List Way}{w:Way}(h:us.Nodup)(hw:w∉us):(us++[w]).Nodup:=by
 rw[List.nodup_append]
 exact⟨h,by simp,fun a ha c hc=>by rw[List.mem_singleton.mp hc];exact fun z=>hw (z ▸ ha)⟩
theorem hV{P:Way->Prop}{us:List Way}{w:Way}(h:∀u∈us,P u)(hw:P w):∀u∈us++[w],P u:=fun u hu=>by
 rcases List.mem_append.mp hu with hu | hu
 ·exact h u hu
 ·rw[List.mem_singleton.mp hu];exact hw
theorem sP:(Str.ofString "a")≠"b":=by decide +kernel
theorem oO:(Str.ofString "a")≠"c":=by decide +kernel
theorem mO:(Str.ofString "b")≠"c":=by decide +kernel
def qD(K:PySem.W.Frag):Sp:=fun vs H Q _=>∃c p,vs=[.int c,.int p]/\0<p/\∀v m ws H',Ext H H'->bR H' v m ws->HOuse3 m ws->Q v H'
abbrev jP:Stmt:=stq 47
theorem sS:FnScope ["_law_cell_here","_law_prime","_law_draws_here","_law_one","_law_two","_law_many","_law_ways","_law_k"] ["_law_cell_here","_law_prime"] (aJ jP):=⟨rfl,rfl,rfl,by decide +kernel,rfl,by decide +kernel,by decide +kernel⟩
theorem y4{P:Program}{w:World}{K:PySem.W.Frag}{mg:Str->Option Value}{base:Heap}(D:Dfn K mg "_law_ring_house" jP ["_law_cell_here","_law_prime"])(T:Blt mg)(C__law_draws:Cal P w K mg base "_law_draws" 2 ["_law_cell_here","_law_widths","_law_prime"] (eX K)):Cal P w K mg base "_law_ring_house" 3 ["_law_cell_here","_law_prime"] (qD K):=by
 have nd:=(sS).nd
 refine D.ok sS (fun vs H Q E h=>?_) (fun X hX H vs Q E h=>?_)
 ·obtain⟨c,p,rfl,_⟩:=h;rfl
 ·obtain⟨f,cdv,A,outer,s,H0,E0,rfl,hr⟩:=hX
  obtain⟨c,p,rfl,hp,q⟩:=h
  refine⟨_,(@ai _ _ _ _ _ (@aA _ _ 2 _ _ _ _ nd rfl (Or.inl rfl) (aw C__law_draws hr (@aa _ _ _ _ _ (pv 0) (@aa _ _ _ _ _ (@bf _ _ _ _ (fu (.c (.c (.c (.c (.c (.c (.c .n))))))))) (@aa _ _ _ _ _ (pv 1) af rfl) rfl) rfl)) rfl (Or.inl rfl))
    (@ai _ _ _ _ _ (rN (i:=3) (j:=4) rfl nd rfl rfl (by decide) rfl rfl (@aa _ _ _ _ _ (aj aF ae (@ak _ _ _ _ _ _ _ (aD K) (pv 2) ae (fun _ _=>rfl))) (@aa _ _ _ _ _ (aj aF ae (@ak _ _ _ _ _ _ _ (aD K) (pv 2) ae (fun _ _=>rfl))) af rfl) rfl) rfl)
    (@ai _ _ _ _ _ (@aA _ _ 5 _ _ _ _ nd rfl (Or.inl rfl) (aj aF (aj aF (pv 3) (pv 4)) ae) rfl (Or.inl rfl))
    (@ai _ _ _ _ _ (@aA _ _ 6 _ _ _ _ nd rfl (Or.inl rfl) (@bf _ _ _ _ (@aa _ _ _ _ _ (@aX _ _ _ _ _ (@aa _ _ _ _ _ ae (@aa _ _ _ _ _ aN (@aa _ _ _ _ _ ae (@aa _ _ _ _ _ aN af rfl) rfl) rfl) rfl)) (@aa _ _ _ _ _ (@aX _ _ _ _ _ (@aa _ _ _ _ _ ae (@aa _ _ _ _ _ (@ak _ _ _ _ _ _ _ (aD K) (@bf _ _ _ _ (@aa _ _ _ _ _ aN (@aa _ _ _ _ _ aN af rfl) rfl)) (@ak _ _ _ _ _ _ _ (aD K) (pv 2) ae (fun _ _=>rfl)) (fun _ _=>rfl)) (@aa _ _ _ _ _ (aj aF ae (pv 3)) (@aa _ _ _ _ _ aN af rfl) rfl) rfl) rfl)) af rfl) rfl)) rfl (Or.inl rfl))
    (@ai _ _ _ _ _ (bL PassesOwn.never rfl (dH rfl T.range_ (@aa _ _ _ _ _ (pv 3) af rfl)) (aI (i:=7) nd rfl (Or.inl rfl)) (@ao _ _ _ (bo (bF K PySem.F.plainAttrs_list PySem.F.slot_list_append PySem.F.type_list_append bE (pv 6) (@aa _ _ _ _ _ (@aX _ _ _ _ _ (@aa _ _ _ _ _ (aj aF ae (pv 7)) (@aa _ _ _ _ _ aN (@aa _ _ _ _ _ (aj aF ae (aj bh (aj aF (pv 7) ae) (pv 3))) (@aa _ _ _ _ _ aN af rfl) rfl) rfl) rfl)) af rfl)))))
    (@ai _ _ _ _ _ (bL PassesOwn.never rfl (dH rfl T.range_ (@aa _ _ _ _ _ (pv 4) af rfl)) (aI (i:=7) nd rfl (Or.inl rfl)) (@ao _ _ _ (bo (bF K PySem.F.plainAttrs_list PySem.F.slot_list_append PySem.F.type_list_append bE (pv 6) (@aa _ _ _ _ _ (@aX _ _ _ _ _ (@aa _ _ _ _ _ (aj aF (aj aF ae (pv 3)) (pv 7)) (@aa _ _ _ _ _ (@ak _ _ _ _ _ _ _ (aD K) (@bf _ _ _ _ (@aa _ _ _ _ _ aN (@aa _ _ _ _ _ aN af rfl) rfl)) (@ak _ _ _ _ _ _ _ (aD K) (pv 2) ae (fun _ _=>rfl)) (fun _ _=>rfl)) (@aa _ _ _ _ _ (aj aF (aj aF ae (pv 3)) (aj bh (aj aF (pv 7) ae) (pv 4))) (@aa _ _ _ _ _ aN af rfl) rfl) rfl) rfl)) af rfl)))))
    (@ai _ _ _ _ _ (bo (bF K PySem.F.plainAttrs_list PySem.F.slot_list_append PySem.F.type_list_append bE (pv 6) (@aa _ _ _ _ _ (@aX _ _ _ _ _ (@aa _ _ _ _ _ ae (@aa _ _ _ _ _ aN (@aa _ _ _ _ _ (aj bY (pv 5) ae) (@aa _ _ _ _ _ aN af rfl) rfl) rfl) rfl)) af rfl)))
    (@ai _ _ _ _ _ (bo (bF K PySem.F.plainAttrs_list PySem.F.slot_list_append PySem.F.type_list_append bE (pv 6) (@aa _ _ _ _ _ (@aX _ _ _ _ _ (@aa _ _ _ _ _ (aj aF ae (pv 3)) (@aa _ _ _ _ _ aN (@aa _ _ _ _ _ (aj bY (pv 5) ae) (@aa _ _ _ _ _ aN af rfl) rfl) rfl) rfl)) af rfl)))
    (@ai _ _ _ _ _ (bX (aH bu (@ak _ _ _ _ _ _ _ (aD K) (pv 2) ae (fun _ _=>rfl)) ae (aC _)) (@ao _ _ _ (bo (bF K PySem.F.plainAttrs_list PySem.F.slot_list_append PySem.F.type_list_append bE (pv 6) (@aa _ _ _ _ _ (@aX _ _ _ _ _ (@aa _ _ _ _ _ (aj bY (pv 5) ae) (@aa _ _ _ _ _ aN (@aa _ _ _ _ _ (aj bY (pv 5) ae) (@aa _ _ _ _ _ aN af rfl) rfl) rfl) rfl)) af rfl)))) aM)
    (@ai _ _ _ _ _ (bX (aH bu (@ak _ _ _ _ _ _ _ (aD K) (pv 2) ae (fun _ _=>rfl)) ae (aC _)) (@ao _ _ _ (bo (bF K PySem.F.plainAttrs_list PySem.F.slot_list_append PySem.F.type_list_append bE (pv 6) (@aa _ _ _ _ _ (@aX _ _ _ _ _ (@aa _ _ _ _ _ (aj bY (pv 5) ae) (@aa _ _ _ _ _ aN (@aa _ _ _ _ _ ae (@aa _ _ _ _ _ aN af rfl) rfl) rfl) rfl)) af rfl)))) aM)
    (@ai _ _ _ _ _ (bX (aH bu (@ak _ _ _ _ _ _ _ (aD K) (pv 2) ae (fun _ _=>rfl)) ae (aC _)) (@ao _ _ _ (@aA _ _ 6 _ _ _ _ nd rfl (Or.inl rfl) (wF K (pv 6) (eh (m7 mH ae))) rfl (Or.inl rfl))) aM)
    (@ao _ _ _ (@ax _ _ _ _ (@aX _ _ _ _ _ (@aa _ _ _ _ _ (pv 5) (@aa _ _ _ _ _ (de (fF K) rfl T.tuple_ PyProof.Rows.boot_tuple (@aa _ _ _ _ _ (pv 6) af rfl)) af rfl) rfl))))))))))))))),?_⟩
  walk_at "rd"
  refine⟨ay (by simp),av fun w0 G1 f1 hw0 _=>?_⟩
  walk_at "rd"
  refine fH [5,5,2,2,4,4,2] hw0 (by decide) (by decide) (hp) fun dq ds H1 e1 hd hdn hl hb=>?_
  have eH:Ext H H1:=f1.trans e1
  obtain⟨d0,g0,b00,b01⟩:=aY hl hb 0 rfl
  obtain⟨d1,g1,b10,b11⟩:=aY hl hb 1 rfl
  obtain⟨d2,g2,b20,b21⟩:=aY hl hb 2 rfl
  obtain⟨d3,g3,b30,b31⟩:=aY hl hb 3 rfl
  obtain⟨d4,g4,_⟩:=aY hl hb 4 rfl
  obtain⟨d5,g5,_⟩:=aY hl hb 5 rfl
  obtain⟨d6,g6,_⟩:=aY hl hb 6 rfl
  clear hb hl
  walk_at "rd"
  refine aB (ag.of hd) g0 ?_
  walk_at "rd"
  refine aB (ag.of hd) g1 ?_
  walk_at "rd"
  obtain⟨U,hU⟩:∃U:Nat,1+d0=(U:Int):=⟨(1+d0).toNat,by omega⟩
  obtain⟨D,hD⟩:∃D:Nat,1+d1=(D:Int):=⟨(1+d1).toNat,by omega⟩
  rw[hU,hD]
  have u1:1<=U:=by omega
  have u6:U<=5:=by omega
  have v1:1<=D:=by omega
  have v5:D<=5:=by omega
  clear b00 b01 b10 b11 hU hD
  obtain⟨m,hm⟩:∃m:Int,(U:Int)+(D:Int)+2=m:=⟨_,rfl⟩
  rw[hm]
  -- the first two ways
  refine⟨ay (by simp),av fun a1 H2 e2 ha1 _=>?_⟩
  walk_at "rd"
  refine⟨ay (by simp),av fun t1 H3 e3 ht1 _=>?_⟩
  walk_at "rd"
  refine aB (ag.of (e3 _ _ (e2 _ _ hd))) g2 ?_
  obtain⟨x2,hx2,ax2⟩:=jW (a:=V.str "stay") (b:=V.str "zero") b20 b21
  refine aB (ag.of ht1) hx2 ?_
  walk_at "rd"
  obtain⟨z2,rfl,oz2⟩:∃z,x2=.str z/\cf z:=by
   rcases ax2 with rfl | rfl
   ·exact⟨_,rfl,fw⟩
   ·exact⟨_,rfl,lE⟩
  refine⟨ay (by simp),av fun a2 H4 e4 ha2 _=>?_⟩
  walk_at "rd"
  refine⟨ay (by simp),av fun f H5 e5 hf hfn=>?_⟩
  have e15:Ext H1 H5:=e2.trans (e3.trans (e4.trans e5))
  have hfn0:H1 f=none:=(e2.trans (e3.trans e4)).none hfn
  obtain⟨y1,hy1⟩:∃y:Way,y=⟨0,"stay",1,"a"⟩:=⟨_,rfl⟩
  obtain⟨y2,hy2⟩:∃y:Way,y=⟨0,z2,1+(U:Int),"b"⟩:=⟨_,rfl⟩
  have wl0:WL H1 H5 f [y1,y2]:=by
   refine⟨e15,[a1,a2],hf,?_⟩
   have k1:H5 a1=some (.tup y1.vs):=by rw[hy1];exact e5 _ _ (e4 _ _ (e3 _ _ ha1))
   have k2:H5 a2=some (.tup y2.vs):=by rw[hy2];exact e5 _ _ ha2
   exact((aS.nil H5).snoc k1).snoc k2
  have ok0:∀u∈[y1,y2],u.Ok3 m:=by
   intro u hu
   rcases List.mem_cons.mp hu with rfl | hu
   ·subst hy1;exact⟨Int.le_refl _,by show(0:Int)<m;omega,by show(0:Int)<=1;decide,by show(1:Int)<m;omega,fw,jy⟩
   ·rw[List.mem_singleton.mp hu];subst hy2;exact⟨Int.le_refl _,by show(0:Int)<m;omega,by show(0:Int)<=1+(U:Int);omega,by show 1+(U:Int)<m;omega,oz2,gH⟩
  have nd0:[y1,y2].Nodup:=by
   subst hy1 hy2
   refine List.nodup_cons.mpr ⟨fun z=>?_,by simp⟩
   have:=congrArg Way.sign (List.mem_singleton.mp z)
   exact sP this
  have pr0:∀u∈[y1,y2],u.room<=((0:Nat):Int)/\u.sign≠"c":=by
   intro u hu
   rcases List.mem_cons.mp hu with rfl | hu
   ·subst hy1;exact⟨Int.le_refl _,oO⟩
   ·rw[List.mem_singleton.mp hu];subst hy2;exact⟨Int.le_refl _,mO⟩
  have ln0:[y1,y2].length=2:=rfl
  generalize [y1,y2]=us0 at wl0 ok0 nd0 pr0 ln0
  clear hy1 hy2 ha1 ha2 ht1 hf e2 e3 e4 e5
  walk_at "rd"
  refine dN (by omega) ?_
  refine forR (fun i σ H3=>∃(k:Option V) (us:List Way),σ=[some (.int c),some (.int p),some (.ref dq),some (.int U),some (.int D),some (.int m),some (.ref f),k]/\WL H1 H3 f us/\(∀u∈us,u.Ok3 m)/\us.Nodup/\(∀u∈us,u.room<=(i:Int)/\u.sign≠"c")/\us.length=2+i)
   ⟨none,us0,rfl,wl0,ok0,nd0,pr0,ln0⟩ ?_ ?_
  ·rintro i σ H3 hi ⟨k,us,rfl,wl,ok,nd',pr,len⟩
   rw[Int.toNat_natCast]at hi
   walk_at "rd"
   refine⟨wl.ty (Ext.rfl' _),?_⟩
   walk_at "rd"
   try refine rd_I (show(0:Int)<(U:Int) by omega) ?_
   walk_at "rd"
   refine⟨ay (by simp),av fun v H4 e4 hv _=>?_⟩
   walk_at "rd"
   have r0:0<=(0+(i:Int)+1) % (U:Int):=Int.emod_nonneg _ (by omega)
   have r1:(0+(i:Int)+1) % (U:Int)<U:=Int.emod_lt_of_pos _ (by omega)
   obtain⟨xs,hx,hlx,wl'⟩:=wl.push (w:=⟨1+(0+(i:Int)),"up",1+(0+(i:Int)+1) % (U:Int),"a"⟩) hfn0 e4 hv
   refine bB hx (dk (by omega)) ?_
   walk_at "rd"
   refine⟨_,_,rfl,wl',cY ok ⟨by show 0<=1+(0+(i:Int));omega,by show 1+(0+(i:Int))<m;omega,by show 0<=1+(0+(i:Int)+1) % (U:Int);omega,by show 1+(0+(i:Int)+1) % (U:Int)<m;omega,jC,jy⟩,gr nd' fun z=>?_,hV (fun u hu=>⟨by have:=(pr u hu).1;omega,(pr u hu).2⟩) ⟨by show 1+(0+(i:Int))<=_;omega,oO⟩,by simp[len];omega⟩
   have:=(pr _ z).1
   have:1+(0+(i:Int))<=(i:Int):=this
   omega
  clear wl0 ok0 nd0 pr0 ln0
  rintro σ H3 ⟨k,us,rfl,wl,ok,nd',pr,len⟩
  rw[Int.toNat_natCast]at pr len
  walk_at "rd"
  refine dN (by omega) ?_
  refine forR (fun i σ H3=>∃(k:Option V) (us:List Way),σ=[some (.int c),some (.int p),some (.ref dq),some (.int U),some (.int D),some (.int m),some (.ref f),k]/\WL H1 H3 f us/\(∀u∈us,u.Ok3 m)/\us.Nodup/\(∀u∈us,u.room<=(U:Int)+(i:Int)/\u.sign≠"c"/\(u.room=1+(U:Int)->u.sign = "b"))/\us.length=2+U+i)
   ⟨_,us,rfl,wl,ok,nd',fun u hu=>⟨by have:=(pr u hu).1;omega,(pr u hu).2,fun z=>by have:=(pr u hu).1;omega⟩,len⟩ ?_ ?_
  ·clear wl ok nd' pr len
   rintro i σ H3 hi ⟨k,us,rfl,wl,ok,nd',pr,len⟩
   rw[Int.toNat_natCast]at hi
   walk_at "rd"
   refine⟨wl.ty (Ext.rfl' _),?_⟩
   walk_at "rd"
   refine⟨ay (by simp),av fun t1 H6 e6 ht1 _=>?_⟩
   walk_at "rd"
   refine aB (ag.of (e6 _ _ (wl.ext _ _ hd))) g3 ?_
   obtain⟨x3,hx3,ax3⟩:=jW (a:=V.str "up") (b:=V.str "down") b30 b31
   refine aB (ag.of ht1) hx3 ?_
   walk_at "rd"
   obtain⟨z3,rfl,oz3⟩:∃z,x3=.str z/\cf z:=by
    rcases ax3 with rfl | rfl
    ·exact⟨_,rfl,jC⟩
    ·exact⟨_,rfl,kX⟩
   try refine rd_I (show(0:Int)<(D:Int) by omega) ?_
   walk_at "rd"
   refine⟨ay (by simp),av fun v H4 e4 hv _=>?_⟩
   walk_at "rd"
   have r0:0<=(0+(i:Int)+1) % (D:Int):=Int.emod_nonneg _ (by omega)
   have r1:(0+(i:Int)+1) % (D:Int)<D:=Int.emod_lt_of_pos _ (by omega)
   obtain⟨xs,hx,hlx,wl'⟩:=wl.push (w:=⟨1+(U:Int)+(0+(i:Int)),z3,1+(U:Int)+(0+(i:Int)+1) % (D:Int),"b"⟩) hfn0 (e6.trans e4) hv
   refine bB hx (dk (by omega)) ?_
   walk_at "rd"
   refine⟨_,_,rfl,wl',cY ok ⟨by show 0<=1+(U:Int)+(0+(i:Int));omega,by show 1+(U:Int)+(0+(i:Int))<m;omega,by show 0<=1+(U:Int)+(0+(i:Int)+1) % (D:Int);omega,by show 1+(U:Int)+(0+(i:Int)+1) % (D:Int)<m;omega,oz3,gH⟩,gr nd' fun z=>?_,hV (fun u hu=>⟨by have:=(pr u hu).1;omega,(pr u hu).2⟩) ⟨by show 1+(U:Int)+(0+(i:Int))<=_;omega,mO,fun _=>rfl⟩,by simp[len];omega⟩
   have:=(pr _ z).1
   have:1+(U:Int)+(0+(i:Int))<=(U:Int)+(i:Int):=this
   omega
  clear wl ok nd' pr len
  rintro σ H3 ⟨k,us,rfl,wl,ok,nd',pr,len⟩
  rw[Int.toNat_natCast]at pr len
  walk_at "rd"
  -- (1,stay,m-1,c)
  refine⟨wl.ty (Ext.rfl' _),?_⟩
  walk_at "rd"
  refine⟨ay (by simp),av fun v H4 e4 hv _=>?_⟩
  walk_at "rd"
  obtain⟨xs,hx,hlx,wl2⟩:=wl.push (w:=⟨1,"stay",m-1,"c"⟩) hfn0 e4 hv
  have ok2:=cY ok (w:=⟨1,"stay",m-1,"c"⟩) ⟨by show(0:Int)<=1;decide,by show(1:Int)<m;omega,by show 0<=m-1;omega,by show m-1<m;omega,fw,kQ⟩
  have nd2:=gr nd' (w:=⟨1,"stay",m-1,"c"⟩) fun z=>(pr _ z).2.1 rfl
  have pr2:=hV (P:=fun u=>u.room<=(U:Int)+(D:Int)/\(u.room=1+(U:Int)->u.sign = "b")) (fun u hu=>⟨(pr u hu).1,(pr u hu).2.2⟩) (w:=⟨1,"stay",m-1,"c"⟩) ⟨by show(1:Int)<=_;omega,fun z=>by have:(1:Int)=1+(U:Int):=z;omega⟩
  refine bB hx (dk (by omega)) ?_
  generalize upd H4 f _=H5 at wl2 ⊢
  generalize hus2:us++[_]=us2 at wl2 ok2 nd2 pr2
  have len2:us2.length=3+U+D:=by rw[←hus2];simp[len];omega
  clear hus2 hx hlx hv e4 wl ok nd' pr len
  walk_at "rd"
  -- (1+U,stay,m-1,a)
  refine⟨wl2.ty (Ext.rfl' _),?_⟩
  walk_at "rd"
  refine⟨ay (by simp),av fun v H4 e4 hv _=>?_⟩
  walk_at "rd"
  obtain⟨xs,hx,hlx,wl3⟩:=wl2.push (w:=⟨1+(U:Int),"stay",m-1,"a"⟩) hfn0 e4 hv
  have ok3:=cY ok2 (w:=⟨1+(U:Int),"stay",m-1,"a"⟩) ⟨by show(0:Int)<=1+(U:Int);omega,by show 1+(U:Int)<m;omega,by show 0<=m-1;omega,by show m-1<m;omega,fw,jy⟩
  have nd3:=gr nd2 (w:=⟨1+(U:Int),"stay",m-1,"a"⟩) fun z=>sP ((pr2 _ z).2 rfl)
  have pr3:=hV (P:=fun u=>u.room<=(U:Int)+(D:Int)) (fun u hu=>(pr2 u hu).1) (w:=⟨1+(U:Int),"stay",m-1,"a"⟩) (by show 1+(U:Int)<=_;omega)
  refine bB hx (dk (by omega)) ?_
  generalize upd H4 f _=H6 at wl3 ⊢
  generalize hus3:us2++[_]=us3 at wl3 ok3 nd3 pr3
  have len3:us3.length=4+U+D:=by rw[←hus3];simp[len2];omega
  clear hus3 hx hlx hv e4 wl2 ok2 nd2 pr2 len2
  walk_at "rd"
  -- the two that may be left out
  refine cO (fun σ' H'=>∃(k:Option V) (us:List Way),σ'=[some (.int c),some (.int p),some (.ref dq),some (.int U),some (.int D),some (.int m),some (.ref f),k]/\WL H1 H' f us/\(∀u∈us,u.Ok3 m)/\us.Nodup/\(∀u∈us,u.room<=(U:Int)+(D:Int)\/u.sign = "c")/\us.length<=5+U+D) ?_ ?_
  ·walk_at "rd"
   refine aB (ag.of (wl3.ext _ _ hd)) g4 ?_
   walk_at "rd"
   refine dn (fun h=>?_) (fun h=>?_)
   ·walk_at "rd"
    refine⟨wl3.ty (Ext.rfl' _),?_⟩
    walk_at "rd"
    refine⟨ay (by simp),av fun v H4 e4 hv _=>?_⟩
    walk_at "rd"
    obtain⟨xs,hx,hlx,wl4⟩:=wl3.push (w:=⟨m-1,"down",m-1,"c"⟩) hfn0 e4 hv
    refine bB hx (dk (by omega)) ?_
    walk_at "rd"
    exact⟨_,_,rfl,wl4,cY ok3 ⟨by show 0<=m-1;omega,by show m-1<m;omega,by show 0<=m-1;omega,by show m-1<m;omega,kX,kQ⟩,gr nd3 fun z=>by have:m-1<=(U:Int)+(D:Int):=pr3 _ z;omega,hV (fun u hu=>.inl (pr3 u hu)) (.inr rfl),by simp[len3];omega⟩
   ·walk_at "rd"
    exact⟨_,us3,rfl,wl3,ok3,nd3,fun u hu=>.inl (pr3 u hu),by omega⟩
  clear wl3 ok3 nd3 pr3 len3
  rintro σ' H7 ⟨k,us,rfl,wl,ok,nd',pr,len⟩
  walk_at "rd"
  refine cO (fun σ' H'=>∃(k:Option V) (us:List Way),σ'=[some (.int c),some (.int p),some (.ref dq),some (.int U),some (.int D),some (.int m),some (.ref f),k]/\WL H1 H' f us/\(∀u∈us,u.Ok3 m)/\us.Nodup/\us.length<=6+U+D) ?_ ?_
  ·walk_at "rd"
   refine aB (ag.of (wl.ext _ _ hd)) g5 ?_
   walk_at "rd"
   refine dn (fun h=>?_) (fun h=>?_)
   ·walk_at "rd"
    refine⟨wl.ty (Ext.rfl' _),?_⟩
    walk_at "rd"
    refine⟨ay (by simp),av fun v H4 e4 hv _=>?_⟩
    walk_at "rd"
    obtain⟨xs,hx,hlx,wl4⟩:=wl.push (w:=⟨m-1,"zero",0,"b"⟩) hfn0 e4 hv
    refine bB hx (dk (by omega)) ?_
    walk_at "rd"
    exact⟨_,_,rfl,wl4,cY ok ⟨by show 0<=m-1;omega,by show m-1<m;omega,by show(0:Int)<=0;decide,by show(0:Int)<m;omega,lE,gH⟩,gr nd' (fun z=>(pr _ z).elim (fun y=>by have:m-1<=(U:Int)+(D:Int):=y;omega) fun y=>mO y),by simp;omega⟩
   ·walk_at "rd"
    exact⟨_,us,rfl,wl,ok,nd',by omega⟩
  clear wl ok nd' pr len
  rintro σ' H8 ⟨k,us,rfl,wl,ok,nd',len⟩
  walk_at "rd"
  -- backward or not
  refine cO (fun σ' H'=>∃(k:Option V) (f:Addr) (cs:List Addr) (us:List Way),σ'=[some (.int c),some (.int p),some (.ref dq),some (.int U),some (.int D),some (.int m),some (.ref f),k]/\Ext H1 H'/\H' f=some (.lst (cs.map V.ref))/\aS H' cs us/\(∀u∈us,u.Ok3 m)/\us.Nodup/\us.length<=6+U+D) ?_ ?_
  ·walk_at "rd"
   refine aB (ag.of (wl.ext _ _ hd)) g6 ?_
   walk_at "rd"
   obtain⟨ew,cs,hcs,al⟩:=wl
   refine dn (fun h=>?_) (fun h=>?_)
   ·walk_at "rd"
    refine⟨rfl,vZ (ag.of hcs) (av fun r H9 e9 hr9 _=>?_)⟩
    walk_at "rd"
    exact⟨_,r,cs.reverse,us.reverse,rfl,ew.trans e9,by rw[hr9,List.map_reverse],(al.ext e9).rev,fun u hu=>ok u (List.mem_reverse.mp hu),List.pairwise_reverse.mpr (nd'.imp fun h=>Ne.symm h),by rw[List.length_reverse];omega⟩
   ·walk_at "rd"
    exact⟨_,f,cs,us,rfl,ew,hcs,al,ok,nd',by omega⟩
  clear wl ok nd' len
  rintro σ' H9 ⟨k,g,cs,us,rfl,ew,hcs,al,ok,nd',len⟩
  walk_at "rd"
  refine fR (ag.of hcs) (av fun r I1 i1 hr1 _=>?_)
  walk_at "rd"
  refine⟨ay (by simp),av fun t I2 i2 ht _=>?_⟩
  exact q _ m us I2 (eH.trans (ew.trans (i1.trans i2))) (bR.mk ht (((al.ext i1).ways hr1).ext i2)) ⟨by omega,by omega,by omega,ok,nd'⟩
def ot(K:PySem.W.Frag):Sp:=fun vs H Q _=>∃c p,vs=[.int c,.int p]/\0<p/\∀v m ws H',Ext H H'->bR H' v m ws->HOuse3 m ws->Q v H'
abbrev jm:Stmt:=stq 49
theorem sH:FnScope ["_law_cell_here","_law_prime","_law_kind","_law_left"] ["_law_cell_here","_law_prime"] (aJ jm):=⟨rfl,rfl,rfl,by decide +kernel,rfl,by decide +kernel,by decide +kernel⟩
theorem Af{P:Program}{w:World}{K:PySem.W.Frag}{mg:Str->Option Value}{base:Heap}(D:Dfn K mg "_law_house" jm ["_law_cell_here","_law_prime"])(T:Blt mg)(C__law_drawn_house:Cal P w K mg base "_law_drawn_house" 3 ["_law_cell_here","_law_prime"] (qv K))(C__law_gate_house:Cal P w K mg base "_law_gate_house" 3 ["_law_cell_here","_law_prime"] (qE K))(C__law_ring_house:Cal P w K mg base "_law_ring_house" 3 ["_law_cell_here","_law_prime"] (qD K))(C__law_spare:Cal P w K mg base "_law_spare" 1 ["_law_cell_here","_law_width"] (tu K))(C__law_draws:Cal P w K mg base "_law_draws" 2 ["_law_cell_here","_law_widths","_law_prime"] (eX K)):Cal P w K mg base "_law_house" 4 ["_law_cell_here","_law_prime"] (ot K):=by
 have nd:=(sH).nd
 refine D.ok sH (fun vs H Q E h=>?_) (fun X hX H vs Q E h=>?_)
 ·obtain⟨c,p,rfl,_⟩:=h;rfl
 ·obtain⟨f,cdv,A,outer,s,H0,E0,rfl,hr⟩:=hX
  obtain⟨c,p,rfl,hp,q⟩:=h
  refine⟨_,(ai (aA (i:=2) nd rfl (Or.inl rfl) (ak (aD K) (aw C__law_draws hr (aa (pv 0) (aa (bf (aa ae af)) (aa (pv 1) af)))) ae (fun _ _=>rfl)))
    (ai (aA (i:=3) nd rfl (Or.inl rfl) (aw C__law_spare hr (aa (pv 0) (aa ae af))))
    (ai (aT (aH bu (pv 2) ae (aC _)) (ao (ax (aw C__law_ring_house hr (aa (pv 3) (aa (pv 1) af))))) aM)
    (ai (aT (aH bu (pv 2) ae (aC _)) (ao (ax (aw C__law_gate_house hr (aa (pv 3) (aa (pv 1) af))))) aM)
    (ao (ax (aw C__law_drawn_house hr (aa (pv 3) (aa (pv 1) af))))))))),?_⟩
  walk_at "rd"
  refine⟨ay (by simp),av fun w0 G1 f1 hw0 _=>?_⟩
  walk_at "rd"
  refine fH [8] hw0 (by decide) (by decide) (hp) fun dq ds H1 e1 hd hdn hl hb=>?_
  have eH:Ext H H1:=f1.trans e1
  obtain⟨d0,g0,_⟩:=aY hl hb 0 rfl
  walk_at "rd"
  refine aB (ag.of hd) g0 ?_
  walk_at "rd"
  refine⟨c,8,rfl,by decide,by decide,fun z=>?_⟩
  walk_at "rd"
  refine dn (fun h=>?_) (fun h=>?_)
  ·walk_at "rd"
   exact⟨z,p,rfl,hp,fun v m ws H' e hv ok=>q v m ws H' (eH.trans e) hv ok⟩
  ·walk_at "rd"
   refine dn (fun h=>?_) (fun h=>?_)
   ·walk_at "rd"
    exact⟨z,p,rfl,hp,fun v m ws H' e hv ok=>q v m ws H' (eH.trans e) hv ok⟩
   ·walk_at "rd"
    exact⟨z,p,rfl,hp,fun v m ws H' e hv ok=>q v m ws H' (eH.trans e) hv ok⟩
theorem lD{H H':Hp}{v:V}{n:String}(e:Ext H H')(h:bO H v n):bO H' v n:=by
 cases v with
 | ref a=>
  rcases h with⟨h1,xs,h2⟩ | ⟨h1,xs,h2⟩
  ·exact .inl ⟨h1,xs,e _ _ h2⟩
  ·exact .inr ⟨h1,xs,e _ _ h2⟩
 | _=>exact h
theorem xB{m i:Int}(h:i<0):bG m (.int i)=false:=by
 unfold bG
 dsimp only
 rw[decide_eq_false (show ¬0<=i by omega)]
 rfl
theorem zl{m i:Int}(h:m<=i):bG m (.int i)=false:=by
 unfold bG
 dsimp only
 rw[decide_eq_false (show ¬i<m by omega)]
 exact Bool.and_false _
theorem mM{m i:Int}(h:0<=i)(h':i<m):bG m (.int i)=true:=by
 unfold bG
 dsimp only
 rw[decide_eq_true h,decide_eq_true h']
 rfl
def et(H:Hp)(n:Nat)(xs:List V):Prop:=∀x∈xs,bw H n x
theorem et.nil(H:Hp)(n:Nat):et H n []:=fun x hx=>by cases hx
theorem et.cons{H:Hp}{n:Nat}{x:V}{xs:List V}(h:bw H n x)(h':et H n xs):et H n (x::xs):=fun y hy=>by
 rcases List.mem_cons.mp hy with rfl | hy
 ·exact h
 ·exact h' y hy
theorem lI{H:Hp}{n:Nat}{p:Addr}{xs:List V}(h:H p=some (.tup xs))(hl:xs.length<=2000)(hx:et H n xs):bw H (n+1) (.ref p):=⟨xs,.inl h,hl,hx⟩
theorem bw.up{H:Hp}:∀{n:Nat} {v:V},bw H n v->bw H (n+1) v:=by
 intro n
 induction n with
 | zero=>
  intro v h
  cases v<;>first | exact h | exact h.elim
 | succ n ih=>
  intro v h
  cases v with
  | ref p=>
   obtain⟨xs,h1,h2,h3⟩:=h
   exact⟨xs,h1,h2,fun x hx=>ih (h3 x hx)⟩
  | _=>exact h
theorem lN(H:Hp)(n:Nat)(i:Int):bw H n (.int i):=by cases n<;>trivial
theorem qB(H:Hp)(n:Nat){z:Str}(h:z.length<=1000):bw H n (.str z):=by cases n<;>exact h
theorem wa{z:Str}(h:cf z):z.length<=1000:=by
 rcases h with rfl | rfl | rfl | rfl<;>decide +kernel
theorem xI{z:Str}(h:qG z):z.length<=1000:=by
 obtain⟨c,_,_,rfl⟩:=h
 show 1<=1000
 decide
theorem vd{H:Hp}{m:Int}{w:Way}(ok:w.Ok m):et H 0 w.vs:=
 .cons (lN _ _ _) (.cons (qB _ _ (wa ok.dd)) (.cons (lN _ _ _) (.cons (qB _ _ (xI ok.sg)) (.nil _ _))))
theorem ua{H:Hp}{v:V}{m:Int}{ws:List Way}(h:bR H v m ws)(ok:HOuse m ws):∃p q bs,v=.ref p/\H p=some (.tup [.int m,.ref q])/\H q=some (.tup (bs.map V.ref))/\bs.length=ws.length/\aS H bs ws/\et H 1 (bs.map V.ref):=by
 obtain⟨p,q,rfl,h1,h2⟩:=h
 obtain⟨bs,h3,h4⟩:=h2.al
 refine⟨p,q,bs,rfl,h1,h3,h4.1,h4,fun x hx=>?_⟩
 obtain⟨b,hb,rfl⟩:=List.mem_map.mp hx
 obtain⟨j,hj,e⟩:=List.mem_iff_getElem.mp hb
 have hjw:j<ws.length:=by rw[←h4.1];exact hj
 have hw:ws[j]?=some ws[j]:=List.getElem?_eq_getElem hjw
 exact lI (h4.2 j b _ (by rw[List.getElem?_eq_getElem hj,e]) hw) (by show 4<=2000;decide) (vd (ok.ok _ (List.getElem_mem _)))
theorem uv{c:Nat}(h1:97<=c)(h2:c<=122):iV ⟨#[c]⟩=true:=by
 have ea:(Str.ofString "a").cps.toList=[97]:=by decide +kernel
 have ez:(Str.ofString "z").cps.toList=[122]:=by decide +kernel
 unfold iV
 rw[ea,ez]
 show(!decide (([c]:List Nat) < [97]) && !decide (([122]:List Nat) < [c]))=true
 rw[decide_eq_false (fun z=>by rw[List.cons_lt_cons_iff]at z;simp at z;omega),decide_eq_false (fun z=>by rw[List.cons_lt_cons_iff]at z;simp at z;omega)]
 rfl
theorem yP{z:Str}(h:cf z):gh (.str z)=true:=by
 rcases h with rfl | rfl | rfl | rfl<;>decide +kernel
theorem vf{H:Hp}{b:Addr}{m:Int}{w:Way}(h:H b=some (.tup w.vs))(ok:w.Ok m):bM H m (.ref b)=true:=by
 rw[m5 h]
 obtain⟨c,h1,h2,e⟩:=ok.sg
 unfold Way.vs eV
 dsimp only
 rw[mM ok.r0 ok.r1,mM ok.o0 ok.o1,yP ok.dd,e]
 unfold fB
 dsimp only
 rw[uv h1 h2]
 rfl
theorem rn{H:Hp}:∀{bs:List Addr} {ws:List Way},aS H bs ws->(bs.map V.ref).map (eJ H)=ws.map Way.key
 | [],[],_=>rfl
 | [],_::_,h=>by cases h.1
 | _::_,[],h=>by cases h.1
 | b::bs,w::ws,h=>by
  rw[List.map_cons,List.map_cons,List.map_cons,rn (bs:=bs) (ws:=ws) ⟨Nat.succ.inj h.1,fun j b w e1 e2=>h.2 (j+1) b w e1 e2⟩,rl (h.2 0 b w rfl rfl)]
  rfl
theorem uX{H:Hp}{m:Int}{bs:List Addr}{ws:List Way}(h:aS H bs ws)(ok:∀w∈ws,w.Ok m):(bs.map V.ref).all (bM H m)=true:=by
 rw[List.all_eq_true]
 intro x hx
 obtain⟨b,hb,rfl⟩:=List.mem_map.mp hx
 obtain⟨j,hj,e⟩:=List.mem_iff_getElem.mp hb
 have hjw:j<ws.length:=by rw[←h.1];exact hj
 exact vf (h.2 j b _ (by rw[List.getElem?_eq_getElem hj,e]) (List.getElem?_eq_getElem hjw)) (ok _ (List.getElem_mem hjw))
theorem we{H:Hp}{p q:Addr}{m:Int}{bs:List Addr}{ws:List Way}(h1:H p=some (.tup [.int m,.ref q]))(h2:H q=some (.tup (bs.map V.ref)))(h3:aS H bs ws)(m1:1<=m)(m2:m<=12)(ok:∀w∈ws,w.Ok m)(nd:ws.Nodup):eo H (.ref p)=decide (ws.length<=100):=by
 rw[nM h1]
 unfold ft
 dsimp only
 rw[decide_eq_true m1,decide_eq_true m2,n0 h2]
 unfold iO
 have hk:(ws.map Way.key).Nodup:=by
  unfold List.Nodup at nd ⊢
  rw[List.pairwise_map]
  exact nd.imp fun ne e=>ne (Way.key_inj e)
 rw[uX h3 ok,rn h3,decide_eq_true hk,List.length_map,h3.1]
 simp
theorem ma{xs:List V}{k:Nat}:cq xs none (some (k:Int))=xs.take k:=by
 unfold cq
 rw[HT.iI,HT.la,List.drop_zero,Nat.sub_zero]
 by_cases h:k<=xs.length
 ·rw[Nat.min_eq_left h]
 ·rw[Nat.min_eq_right (by omega),List.take_of_length_le (Nat.le_refl _),List.take_of_length_le (by omega)]
def aQ(n:Nat)(f:Nat->Bool):List V:=(List.range n).map fun i=>V.bl (f i)
theorem bV(n:Nat)(f:Nat->Bool):(aQ n f).length=n:=by simp[aQ]
theorem dZ{n i:Nat}(f:Nat->Bool)(h:i<n):(aQ n f)[i]?=some (.bl (f i)):=by
 unfold aQ
 rw[List.getElem?_map,List.getElem?_range h]
 rfl
theorem cC{n:Nat}{f g:Nat->Bool}(h:∀i,i<n->f i=g i):aQ n f=aQ n g:=by
 unfold aQ
 apply List.map_congr_left
 intro i hi
 rw[h i (List.mem_range.mp hi)]
theorem zV(n:Nat)(f:Nat->Bool):aQ (n+1) f=aQ n f++[V.bl (f n)]:=by
 unfold aQ
 rw[List.range_succ,List.map_append]
 rfl
theorem gF{n k:Nat}(f:Nat->Bool)(c:Bool)(hk:k<n):(aQ n f).set k (.bl c)=aQ n fun i=>if i=k then c else f i:=by
 apply List.ext_getElem?
 intro i
 rcases Nat.lt_or_ge i n with hi | hi
 ·rw[List.getElem?_set,bV,dZ _ hi,dZ _ hi]
  by_cases h:k=i
  ·subst h
   simp[hi]
  ·rw[if_neg h,if_neg (Ne.symm h)]
 ·rw[List.getElem?_eq_none (by rw[List.length_set,bV];exact hi),List.getElem?_eq_none (by rw[bV];exact hi)]
theorem hJ{n:Nat}{f:Nat->Bool}{i:Int}(h0:0<=i)(h:i<n):bD (aQ n f) i=some (.bl (f i.toNat)):=gC h0 (dZ f (by omega))
theorem mn(n:Nat)(c:Bool):(List.replicate n [V.bl c]).flatten=aQ n fun _=>c:=by
 induction n with
 | zero=>rfl
 | succ n ih=>
  rw[List.replicate_succ',List.flatten_append,ih,zV]
  rfl
theorem AQ{n:Nat}{f:Nat->Bool}{i:Int}(h0:0<=i)(h:i<=n):cq (aQ n f) none (some i)=aQ i.toNat f:=by
 unfold cq
 rw[bV,HT.iI]
 have e:HT.bN n n (some i)=i.toNat:=by
  show(if i<0 then(i+(n:Int)).toNat else min i.toNat n)=i.toNat
  rw[if_neg (by omega)]
  omega
 rw[e,List.drop_zero,Nat.sub_zero]
 apply List.ext_getElem?
 intro k
 rcases Nat.lt_or_ge k i.toNat with hk | hk
 ·rw[List.getElem?_take_of_lt hk,dZ _ (by omega),dZ _ hk]
 ·rw[List.getElem?_eq_none (by rw[List.length_take,bV];omega),List.getElem?_eq_none (by rw[bV];omega)]
theorem zp{x n s:Int}(hs:1<=s){i:Nat}(h:i<cQ x n s):x+i*s<n:=by
 unfold cQ at h
 rw[if_pos (by omega)]at h
 split at h
 ·have h1:(i:Int)<=(n-x-1) / s:=by
   have:0<=(n-x-1) / s:=Int.ediv_nonneg (by omega) (by omega)
   omega
  have h2:(i:Int)*s<=(n-x-1) / s*s:=Int.mul_le_mul_of_nonneg_right h1 (by omega)
  have h3:=Int.ediv_mul_le (n-x-1) (b:=s) (by omega)
  omega
 ·omega
theorem xC{x n s y:Int}(hs:1<=s)(h1:x<=y)(h2:y<n)(h3:(y-x) % s=0):∃i:Nat,i<cQ x n s/\y=x+i*s:=by
 have hm:=Int.mul_ediv_add_emod (y-x) s
 rw[h3]at hm
 have hq:0<=(y-x) / s:=Int.ediv_nonneg (by omega) (by omega)
 refine⟨((y-x) / s).toNat,?_,?_⟩
 ·unfold cQ
  rw[if_pos (by omega),if_pos (by omega)]
  have:(y-x) / s<=(n-x-1) / s:=Int.ediv_le_ediv (by omega) (by omega)
  omega
 ·rw[Int.toNat_of_nonneg hq,Int.mul_comm]
  omega
def dm(s:Int)(o a:List Int)(y:Nat):Bool:=o.contains (y:Int) || a.any fun x=>decide (x<=(y:Int)) && ((y:Int)-x) % s == 0
theorem tN{b s:Int}{o a:List Int}(S:Ok b s o a)(y:Nat):dm s o a y=fn b s o a y:=vL S (by omega)
theorem oU{n:Nat}{f:Nat->Bool}{i:Int}(h0:0<=i)(h:i<=n):cq (aQ n f) (some i) none=aQ (n-i.toNat) fun k=>f (i.toNat+k):=by
 unfold cq
 rw[bV,HT.iI]
 have e:HT.bN n 0 (some i)=i.toNat:=by
  show(if i<0 then(i+(n:Int)).toNat else min i.toNat n)=i.toNat
  rw[if_neg (by omega)]
  omega
 rw[e]
 apply List.ext_getElem?
 intro k
 rcases Nat.lt_or_ge k (n-i.toNat)with hk | hk
 ·rw[List.getElem?_take_of_lt hk,List.getElem?_drop,dZ _ (by omega),dZ _ hk]
 ·rw[List.getElem?_eq_none (by rw[List.length_take,List.length_drop,bV];omega),List.getElem?_eq_none (by rw[bV];omega)]
def dB(n:Nat)(f:Nat->Bool):List PyData:=(List.range n).map fun i=>PyData.bool (f i)
theorem n8{α:Type}{R:V->PyData->Prop}{g:α->V}{k:α->PyData}(h:∀x,R (g x) (k x)):∀l:List α,Paired R (l.map g) (l.map k)
 | []=>.nil
 | x::l=>.cons (h x) (n8 h l)
theorem qp{α:Type}(f g:α->Bool):∀l:List α,PyData.eqvAll (l.map fun i=>PyData.bool (f i)) (l.map fun i=>PyData.bool (g i))=l.all fun i=>f i == g i
 | []=>rfl
 | x::l=>by
  show(PyData.eqv (.bool (f x)) (.bool (g x)) && PyData.eqvAll (l.map fun i=>PyData.bool (f i)) (l.map fun i=>PyData.bool (g i)))=((f x == g x) && l.all fun i=>f i == g i)
  rw[qp f g l]
  rfl
theorem AL{n:Nat}{f g:Nat->Bool}:PyData.eqv (.list (dB n f)) (.list (dB n g))=true↔∀i,i<n->f i=g i:=by
 show PyData.eqvAll (dB n f) (dB n g)=true↔_
 unfold dB
 rw[qp,List.all_eq_true]
 simp only[List.mem_range,beq_iff_eq]
def sh(K:PySem.W.Frag):Sp:=fun vs H Q _=>∃v n b s o a,vs=[v,.int n]/\bU H v b s o a/\Gd b s o a/\0<=n/\n<=20000 ∧
 ∀q H',Ext H H'->H q=none->H' q=some (.lst (aQ n.toNat (fn b s o a)))->Q (.ref q) H'
abbrev iX:Stmt:=stq 14
theorem pO:FnScope ["stair","end","marks","number","later"] ["stair","end"] (aJ iX):=⟨rfl,rfl,rfl,by decide +kernel,rfl,by decide +kernel,by decide +kernel⟩
theorem xQ{P:Program}{w:World}{K:PySem.W.Frag}{mg:Str->Option Value}{base:Heap}(D:Dfn K mg "marks_below" iX ["stair","end"])(T:Blt mg):Cal P w K mg base "marks_below" 1 ["stair","end"] (sh K):=by
 have nd:=(pO).nd
 refine D.ok pO (fun vs H Q E h=>?_) (fun X hX H vs Q E h=>?_)
 ·obtain⟨v,n,b,s,o,a,rfl,_⟩:=h;rfl
 ·obtain⟨f,cdv,A,outer,s,H0,E0,rfl,hr⟩:=hX
  obtain⟨v,n,b,s',o,a,rfl,hv,hg,hn0,hn1,q⟩:=h
  obtain⟨p,q',r,rfl,h1,h2,h3⟩:=hv
  have hs:=hg.ok.hs
  have hs8:=hg.s8
  have hb0:=hg.ok.hb
  have hb3:=hg.b3
  refine⟨_,(ai (aA (i:=2) nd rfl (Or.inl rfl) (aj jo (bf (aa aW af)) (pv 1)))
    (ai (bL PassesOwn.never rfl (dw K (ak (aG K) (pv 0) ae (fun _ _=>rfl))) (aI (i:=3) nd rfl (Or.inl rfl)) (ao (bX (aH dD (pv 3) (pv 1) (aC _)) (ao (dY aW (ie (pv 2) (pv 3) set_list))) aM)))
    (ai (bL PassesOwn.never rfl (dw K (ak (aG K) (pv 0) ae (fun _ _=>rfl))) (aI (i:=3) nd rfl (Or.inl rfl)) (ao (bL PassesOwn.never rfl (zN rfl T.range_ (aa (pv 3) (aa (pv 1) (aa (ak (aG K) (pv 0) ae (fun _ _=>rfl)) af)))) (aI (i:=4) nd rfl (Or.inl rfl)) (ao (dY aW (ie (pv 2) (pv 4) set_list))))))
    (ao (ax (pv 2)))))),?_⟩
  walk_at "rd"
  refine⟨ay (by simp),av fun m H1 e1 hm _=>?_⟩
  walk_at "rd"
  refine kf hm (by omega) (ay (by simp;omega)) (av fun m2 H2 e2 hm2 hn2=>?_)
  rw[mn]at hm2
  have e12:Ext H H2:=e1.trans e2
  have hmn:H m2=none:=e1.none hn2
  walk_at "rd"
  refine aE (ah.of (e12 _ _ h1)) rfl ?_
  walk_at "rd"
  refine dj (ah.of (e12 _ _ h2)) ?_
  refine eY (xs:=o.map V.int) (fun i σ H'=>Ext H H'/\∃x,σ=[some (.ref p),some (.int n),some (.ref m2),x,none]/\H' m2=some (.lst (aQ n.toNat fun y=>(o.take i).contains (y:Int))))
   ⟨e12,none,rfl,by simpa using hm2⟩ (fun i σ H' _ h=>ah.of (h.1 _ _ h2)) ?_ ?_
  ·rintro i v' σ H' hi ⟨e,x,rfl,hm'⟩
   obtain⟨z,rfl,hz⟩:=fW hi
   have hz0:=(hg.ok.ho.2 z (List.mem_of_getElem? hz))
   have htake:o.take (i+1)=o.take i++[z]:=by rw[List.take_add_one,hz];rfl
   walk_at "rd"
   refine cO (fun σ' H'=>Ext H H'/\∃x,σ'=[some (.ref p),some (.int n),some (.ref m2),x,none]/\H' m2=some (.lst (aQ n.toNat fun y=>(o.take (i+1)).contains (y:Int)))) ?_ (fun _ _ h=>h)
   walk_at "rd"
   by_cases hzn:z<n
   ·rw[decide_eq_true hzn]
    refine ar ?_
    walk_at "rd"
    refine gE hm' (h7 (by omega) (by rw[bV];omega)) ?_
    rw[gF _ _ (by omega)]
    refine⟨cj e hmn,_,rfl,?_⟩
    rw[aO]
    congr 2
    refine cC fun y hy=>?_
    rw[htake,List.contains_append]
    by_cases hyz:y=z.toNat
    ·rw[if_pos hyz]
     have:(y:Int)=z:=by omega
     rw[this]
     simp
    ·rw[if_neg hyz]
     have:[z].contains (y:Int)=false:=by
      rw[Bool.eq_false_iff]
      intro hc
      rw[List.contains_iff_mem,List.mem_singleton]at hc
      omega
     rw[this,Bool.or_false]
   ·rw[decide_eq_false hzn]
    refine aq ?_
    walk_at "rd"
    refine⟨e,_,rfl,?_⟩
    rw[hm']
    congr 2
    refine cC fun y hy=>?_
    rw[htake,List.contains_append]
    have:[z].contains (y:Int)=false:=by
     rw[Bool.eq_false_iff]
     intro hc
     rw[List.contains_iff_mem,List.mem_singleton]at hc
     omega
    rw[this,Bool.or_false]
  ·rintro σ H3 ⟨e3,x,rfl,hm3⟩
   rw[List.length_map,List.take_length]at hm3
   walk_at "rd"
   refine aE (ah.of (e3 _ _ h1)) rfl ?_
   walk_at "rd"
   refine dj (ah.of (e3 _ _ h3)) ?_
   refine eY (xs:=a.map V.int) (fun i σ H'=>Ext H H'/\∃x y,σ=[some (.ref p),some (.int n),some (.ref m2),x,y]/\H' m2=some (.lst (aQ n.toNat (dm s' o (a.take i)))))
    ⟨e3,_,_,rfl,by rw[hm3];congr 2;exact cC fun y _=>by simp[dm]⟩ (fun i σ H' _ h=>ah.of (h.1 _ _ h3)) ?_ ?_
   ·rintro i v' σ H' hi ⟨e,x,y,rfl,hm'⟩
    obtain⟨z,rfl,hz⟩:=fW hi
    have hz0:=(hg.ok.ha.2 z (List.mem_of_getElem? hz))
    have htake:a.take (i+1)=a.take i++[z]:=by rw[List.take_add_one,hz];rfl
    walk_at "rd"
    refine aE (ah.of (e _ _ h1)) rfl ?_
    walk_at "rd"
    refine vU (by unfold fL;omega) ?_
    refine w5 (fun j σ H'=>Ext H H'/\∃y,σ=[some (.ref p),some (.int n),some (.ref m2),some (.int z),y]/\H' m2=some (.lst (aQ n.toNat fun y=>dm s' o (a.take i) y || (List.range j).any fun k=>decide ((y:Int)=z+(k:Nat)*s'))))
     ⟨e,_,rfl,by rw[hm'];congr 2;exact cC fun y _=>by simp⟩ ?_ ?_
    ·rintro j σ H'' hj ⟨e',y',rfl,hm''⟩
     have hlt:=zp hs hj
     have hge:0<=(j:Int)*s':=Int.mul_nonneg (by omega) (by omega)
     walk_at "rd"
     refine gE hm'' (h7 (by omega) (by rw[bV];omega)) ?_
     rw[gF _ _ (by omega)]
     refine⟨cj e' hmn,_,rfl,?_⟩
     rw[aO]
     congr 2
     refine cC fun y hy=>?_
     rw[List.range_succ,List.any_append]
     by_cases hyz:y=(z+(j:Int)*s').toNat
     ·rw[if_pos hyz]
      have:(y:Int)=z+(j:Nat)*s':=by omega
      simp[this]
     ·rw[if_neg hyz]
      have:(List.any [j] fun k=>decide ((y:Int)=z+(k:Nat)*s'))=false:=by
       simp
       omega
      rw[this,Bool.or_false]
    ·rintro σ H'' ⟨e',y',rfl,hm''⟩
     refine⟨e',_,_,rfl,?_⟩
     rw[hm'']
     congr 2
     refine cC fun y hy=>?_
     rw[htake]
     unfold dm
     rw[List.any_append,Bool.or_assoc]
     congr 2
     rw[Bool.eq_iff_iff,List.any_eq_true]
     simp only[List.mem_range,decide_eq_true_eq,List.any_cons,List.any_nil,Bool.or_false,Bool.and_eq_true,beq_iff_eq]
     constructor
     ·rintro⟨k,hk,hy'⟩
      have hge:0<=(k:Int)*s':=Int.mul_nonneg (by omega) (by omega)
      refine⟨by omega,?_⟩
      rw[show (y:Int)-z=s'*(k:Int) by rw[Int.mul_comm];omega]
      exact Int.mul_emod_right _ _
     ·rintro⟨hy1,hy2⟩
      obtain⟨k,hk1,hk2⟩:=xC (n:=n) hs hy1 (by omega) hy2
      exact⟨k,hk1,hk2⟩
   ·rintro σ H4 ⟨e4,x',y',rfl,hm4⟩
    rw[List.length_map,List.take_length]at hm4
    walk_at "rd"
    refine q m2 H4 e4 hmn ?_
    rw[hm4]
    congr 2
    exact cC fun y _=>tN hg.ok y
def qP(K:PySem.W.Frag):Sp:=fun vs H Q _=>∃v x b s o a,vs=[v,.int x]/\bU H v b s o a/\Gd b s o a/\Q (.bl (mem b s o a x)) H
abbrev iF:Stmt:=stq 50
theorem nI:FnScope ["_law_stair","_law_x","_law_base","_law_step","_law_once","_law_again"] ["_law_stair","_law_x"] (aJ iF):=⟨rfl,rfl,rfl,by decide +kernel,rfl,by decide +kernel,by decide +kernel⟩
theorem Ac{P:Program}{w:World}{K:PySem.W.Frag}{mg:Str->Option Value}{base:Heap}(D:Dfn K mg "_law_holds" iF ["_law_stair","_law_x"])(T:Blt mg):Cal P w K mg base "_law_holds" 1 ["_law_stair","_law_x"] (qP K):=by
 have nd:=(nI).nd
 refine D.ok nI (fun vs H Q E h=>?_) (fun X hX H vs Q E h=>?_)
 ·obtain⟨v,x,b,s,o,a,rfl,_⟩:=h;rfl
 ·obtain⟨f,cdv,A,outer,s,H0,E0,rfl,hr⟩:=hX
  obtain⟨v,x,b,s',o,a,rfl,hv,hg,q⟩:=h
  have hs:=hg.ok.hs
  obtain⟨p,q',r,rfl,h1,h2,h3⟩:=hv
  refine⟨_,(ai (dY (pv 0) (fj (n:=4) K rfl (bp (aI (i:=2) nd rfl (Or.inl rfl)) (bp (aI (i:=3) nd rfl (Or.inl rfl)) (bp (aI (i:=4) nd rfl (Or.inl rfl)) (bp (aI (i:=5) nd rfl (Or.inl rfl)) eD))))))
    (ai (aT (aH dD (pv 1) (pv 2) (aC _)) (ao (ax (dh (jS K) (pv 1) (pv 4) (by with_unfolding_all rfl)))) aM)
    (ao (ax (dh (jS K) (aj aF (pv 2) (aj bh (aj bY (pv 1) (pv 2)) (pv 3))) (pv 5) (by with_unfolding_all rfl)))))),?_⟩
  walk_at "rd"
  refine fo (ah.of h1) rfl ?_
  walk_at "rd"
  by_cases hx:x<b
  ·rw[decide_eq_true hx]
   refine ar ?_
   walk_at "rd"
   refine gp (.inr (ah.of h2)) rfl (gn o) ?_
   rw[fV _ hx]at q
   rw[fY]
   exact q
  ·rw[decide_eq_false hx]
   refine aq ?_
   walk_at "rd"
   refine gp (.inr (ah.of h3)) rfl (gn a) ?_
   rw[fh _ (by omega)]at q
   rw[fY]
   exact q
def rB(K:PySem.W.Frag):Sp:=fun vs H Q _=>∃a b:Nat,vs=[.int a,.int b]/\Q (.int (Nat.gcd a b:Nat)) H
abbrev i5:Stmt:=stq 31
theorem sR:FnScope ["one","other","great","small","over"] ["one","other"] (aJ i5):=⟨rfl,rfl,rfl,by decide +kernel,rfl,by decide +kernel,by decide +kernel⟩
theorem Ai{P:Program}{w:World}{K:PySem.W.Frag}{mg:Str->Option Value}{base:Heap}(D:Dfn K mg "greatest_divisor" i5 ["one","other"])(T:Blt mg):Cal P w K mg base "greatest_divisor" 1 ["one","other"] (rB K):=by
 have nd:=(sR).nd
 refine D.ok sR (fun vs H Q E h=>?_) (fun X hX H vs Q E h=>?_)
 ·obtain⟨a,b,rfl,_⟩:=h;rfl
 ·obtain⟨f,cdv,A,outer,s,H0,E0,rfl,hr⟩:=hX
  obtain⟨a,b,rfl,q⟩:=h
  refine⟨_,(ai (aA (i:=2) nd rfl (Or.inl rfl) (pv 0))
    (ai (aA (i:=3) nd rfl (Or.inl rfl) (pv 1))
    (ai (gD PassesOwn.never (aH ed (pv 3) ae (aC _)) (ai (aA (i:=4) nd rfl (Or.inl rfl) (aj bh (pv 2) (pv 3)))
    (ai (aA (i:=2) nd rfl (Or.inl rfl) (pv 3))
    (ao (aA (i:=3) nd rfl (Or.inl rfl) (pv 4))))))
    (ao (ax (pv 2)))))),?_⟩
  walk_at "rd"
  refine gN (fun m σ H'=>H'=H/\∃(x y:Nat) (o:Option V),σ=[some (.int a),some (.int b),some (.int x),some (.int y),o]/\Nat.gcd x y=Nat.gcd a b/\m=y)
   (fun σ H'=>H'=H/\∃(x:Nat) (s:St),σ=some (.int a)::some (.int b)::some (.int x)::s/\x=Nat.gcd a b) b ⟨rfl,a,b,none,rfl,rfl,rfl⟩ ?_ ?_
  ·rintro m σ H' ⟨rfl,x,y,o,rfl,hg,rfl⟩
   walk_at "rd"
   by_cases h0:(0:Int)<(m:Int)
   ·rw[decide_eq_true h0]
    refine ar ⟨_,fun _ _ h=>h,?_⟩
    walk_at "rd"
    refine⟨x % m,Nat.mod_lt _ (by omega),rfl,m,x % m,_,rfl,by rw[u9,hg],rfl⟩
   ·rw[decide_eq_false h0]
    have hm:m=0:=by omega
    subst hm
    exact aq ⟨rfl,x,_,rfl,by rw[←hg,Nat.gcd_zero_right]⟩
  rintro σ H' ⟨rfl,x,s1,rfl,rfl⟩
  walk_at "rd"
  exact q
def SN(H:Hp)(v:V)(b s:Nat)(o a:List Int):Prop:=bU H v b s o a/\Gd b s o a
theorem SN.ext{H H':Hp}(e:Ext H H'){v:V}{b s:Nat}{o a:List Int}(h:SN H v b s o a):SN H' v b s o a:=⟨h.1.ext e,h.2⟩
theorem SN.s1{H:Hp}{v:V}{b s:Nat}{o a:List Int}(h:SN H v b s o a):1<=s:=by have:=h.2.ok.hs;omega
theorem SN.s8{H:Hp}{v:V}{b s:Nat}{o a:List Int}(h:SN H v b s o a):s<=840:=by have:=h.2.s8;omega
theorem SN.b3{H:Hp}{v:V}{b s:Nat}{o a:List Int}(h:SN H v b s o a):b<=3000:=by have:=h.2.b3;omega
def lV(K:PySem.W.Frag):Sp:=fun vs H Q _=>∃v1 v2 b1 s1 o1 a1 b2 s2 o2 a2,vs=[v1,v2]/\SN H v1 b1 s1 o1 a1/\SN H v2 b2 s2 o2 a2/\Q (.int (cm s1 s2:Nat)) H
abbrev jB:Stmt:=stq 32
theorem oN:FnScope ["one","other"] ["one","other"] (aJ jB):=⟨rfl,rfl,rfl,by decide +kernel,rfl,by decide +kernel,by decide +kernel⟩
theorem Ag{P:Program}{w:World}{K:PySem.W.Frag}{mg:Str->Option Value}{base:Heap}(D:Dfn K mg "common_step" jB ["one","other"])(T:Blt mg)(C_greatest_divisor:Cal P w K mg base "greatest_divisor" 1 ["one","other"] (rB K)):Cal P w K mg base "common_step" 2 ["one","other"] (lV K):=by
 have nd:=(oN).nd
 refine D.ok oN (fun vs H Q E h=>?_) (fun X hX H vs Q E h=>?_)
 ·obtain⟨v1,v2,b1,s1,o1,a1,b2,s2,o2,a2,rfl,_⟩:=h;rfl
 ·obtain⟨f,cdv,A,outer,s,H0,E0,rfl,hr⟩:=hX
  obtain⟨v1,v2,b1,s1,o1,a1,b2,s2,o2,a2,rfl,h1,h2,q⟩:=h
  have g1:=h1.s1
  have g8:=h1.s8
  have f1:=h2.s1
  have f8:=h2.s8
  obtain⟨⟨p1,q1,r1,rfl,k1,_,_⟩,_⟩:=h1
  obtain⟨⟨p2,q2,r2,rfl,k2,_,_⟩,_⟩:=h2
  refine⟨_,(ao (ax (aj cP (aj mS (ak (aG K) (pv 0) ae (fun _ _=>rfl)) (aw C_greatest_divisor hr (aa (ak (aG K) (pv 0) ae (fun _ _=>rfl)) (aa (ak (aG K) (pv 1) ae (fun _ _=>rfl)) af)))) (ak (aG K) (pv 1) ae (fun _ _=>rfl))))),?_⟩
  walk_at "rd"
  refine aE (ah.of k1) rfl ?_
  walk_at "rd"
  refine aE (ah.of k1) rfl ?_
  walk_at "rd"
  refine aE (ah.of k2) rfl ?_
  walk_at "rd"
  refine⟨s1,s2,rfl,?_⟩
  have hg:0<Nat.gcd s1 s2:=Nat.gcd_pos_of_pos_left s2 g1
  have hg2:Nat.gcd s1 s2<=s1:=Nat.le_of_dvd g1 (Nat.gcd_dvd_left s1 s2)
  refine rd_I (show(0:Int)<((Nat.gcd s1 s2:Nat):Int)/\((Nat.gcd s1 s2:Nat):Int)<2 ^ 64 by omega) ?_
  walk_at "rd"
  refine aE (ah.of k2) rfl ?_
  refine rd_I (show hZ _ _ from .inr (by omega)) ?_
  have e:((s1:Int) / ((Nat.gcd s1 s2:Nat):Int))*(s2:Int)=((cm s1 s2:Nat):Int):=by
   unfold cm
   rw[Int.natCast_mul]
   rfl
  rw[e]
  exact q
theorem yW{b s:Nat}{o a:List Int}(g:Gd b s o a):bt (fn b s o a) b s:=by
 have:=zX g.ok
 simpa using this
theorem iP{a b:Str}:decide (V.str a=V.str b)=decide (a=b):=by
 by_cases h:a=b
 ·subst h;simp
 ·rw[decide_eq_false h,decide_eq_false (fun z=>h (V.str.inj z))]
theorem eG{a b:Str}{H:Hp}{Q:VK}(h:Q (.bl (decide (a=b))) H):kx (.str a) (.str b) H Q:=⟨rfl,by rw[iP];exact h⟩
theorem cx{α β:Type}{F:α->β->Prop}{cs:List α}{ts:List β}(h:Paired F cs ts):∀{i:Nat} {c:α},cs[i]?=some c->∃t,ts[i]?=some t/\F c t:=by
 induction h with
 | nil=>intro i c e;simp at e
 | cons h t ih=>
  intro i c e
  cases i with
  | zero=>cases e;exact⟨_,rfl,h⟩
  | succ i=>exact ih e
theorem mT{α β:Type}{F:α->β->Prop}{cs:List α}{ts:List β}(h:Paired F cs ts):∀{i:Nat} {t:β},ts[i]?=some t->∃c,cs[i]?=some c/\F c t:=by
 induction h with
 | nil=>intro i c e;simp at e
 | cons h t ih=>
  intro i c e
  cases i with
  | zero=>cases e;exact⟨_,rfl,h⟩
  | succ i=>exact ih e
abbrev cM(H:Hp)(a:Addr)(x:Bfs.Pl):Prop:=H a=some (.tup [.int x.1,.int x.2])
theorem cM.put{H:Hp}{f a:Addr}{x:Bfs.Pl}{o o':HO}(hf:H f=some o)(hn:∀xs,o≠.tup xs)(h:cM H a x):cM (upd H f o') a x:=by
 show upd H f o' a=_
 rw[aL (eu h hf (fun z=>hn _ z.symm))]
 exact h
def mX:List (Key×V):=[(.inr "up",.int 1),(.inr "down",.int (-1)),(.inr "stay",.int 0),(.inr "zero",.int 0)]
theorem xR{w:World}{K:PySem.W.Frag}{a:Addr}{t1 t2 t3 t4 t5 t6 t7 t8:Tok}{ep:Nat}(h:K.lookup a=some (fD w [("up",t1,.int 1 t2),("down",t3,.int (-1) t4),("stay",t5,.int 0 t6),("zero",t7,.int 0 t8)] ep))(hs:(a == sysModules)=false):GDict w K a mX:=
 ⟨⟨_,_,h,.cons ⟨rfl,⟨_,rfl⟩⟩ (.cons ⟨rfl,⟨_,rfl⟩⟩ (.cons ⟨rfl,⟨_,rfl⟩⟩ (.cons ⟨rfl,⟨_,rfl⟩⟩ .nil)))⟩,by decide +kernel,hs⟩
def rz(z:Str):Int:=if z = "up" then 1 else if z = "down" then -1 else 0
theorem AH{z:Str}(h:cf z):bZ mX (.inr z)=some (.int (rz z)):=by
 rcases h with rfl | rfl | rfl | rfl<;>decide +kernel
def pQ(K:PySem.W.Frag):Sp:=fun vs H Q _=>∃b w,vs=[.ref b]/\H b=some (.tup (Way.vs w))/\cf w.deed/\Q (.int (rz w.deed)) H
abbrev kz:Stmt:=stq 29
theorem tT:FnScope ["way"] ["way"] (aJ kz):=⟨rfl,rfl,rfl,by decide +kernel,rfl,by decide +kernel,by decide +kernel⟩
theorem AA{P:Program}{w:World}{K:PySem.W.Frag}{mg:Str->Option Value}{base:Heap}(D:Dfn K mg "raised_by" kz ["way"])(T:Blt mg)(g_RAISED:∃a,mg "RAISED" = some (.ref a)/\GDict w K a mX):Cal P w K mg base "raised_by" 1 ["way"] (pQ K):=by
 have nd:=(tT).nd
 refine D.ok tT (fun vs H Q E h=>?_) (fun X hX H vs Q E h=>?_)
 ·obtain⟨b,w,rfl,_⟩:=h;rfl
 ·obtain⟨f,cdv,A,outer,s,H0,E0,rfl,hr⟩:=hX
  obtain⟨a_RAISED,m_RAISED,d_RAISED⟩:=g_RAISED
  obtain⟨b,w,rfl,h1,hd,q⟩:=h
  refine⟨_,(ao (ax (vT rfl m_RAISED d_RAISED (ak (aG K) (pv 0) ae (fun _ _=>rfl)) (fun _ _=>rfl)))),?_⟩
  walk_at "rd"
  refine aE (ah.of h1) (v:=.str w.deed) rfl ?_
  exact vq (AH hd) q
theorem wD(z:Str):-1<=rz z:=by
 unfold rz
 split
 ·decide
 ·split<;>decide
theorem yg(z:Str):rz z<=1:=by
 unfold rz
 split
 ·decide
 ·split<;>decide
theorem Kn.ext{H H':Hp}(e:Ext H H'):∀{d:Nat} {v:V},Kn H d v->Kn H' d v
 | 0,v,⟨n,h⟩=>⟨n,lD e h⟩
 | d+1,v,⟨⟨n,h⟩,k⟩=>⟨⟨n,lD e h⟩,fun p xs hv hp x hx=>by
  subst hv
  rcases h with⟨rfl,ys,hy⟩ | ⟨rfl,ys,hy⟩
  ·have:=e _ _ hy
   rw[hp]at this
   cases this
  ·have:=e _ _ hy
   rw[hp]at this
   cases this
   exact Kn.ext e (k p _ rfl hy x hx)⟩
def lr(H:Hp):V->Bool
 | .ref p=>match H p with
  | some (.tup [.int b,.int s,_,_])=>decide (b<=3000) && decide (s<=840)
  | _=>false
 | _=>false
theorem jx{H:Hp}{p:Addr}{b s:Int}{o a:V}(h:H p=some (.tup [.int b,.int s,o,a])):lr H (.ref p)=(decide (b<=3000) && decide (s<=840)):=by simp only[lr,h]
def bP(H:Hp)(v:V):Bool:=cv H v && lr H v
theorem wO{H:Hp}{v:V}(h:cv H v=true):∃p b s o a,v=.ref p/\H p=some (.tup [.int b,.int s,o,a]):=by
 cases v with
 | ref p=>
  cases e:H p with
  | none=>simp only[cv,e]at h;cases h
  | some w=>
   cases w with
   | tup xs=>
    by_cases hl:xs.length=4
    ·obtain⟨b,s,o,a,rfl⟩:=mw hl
     rw[dS e]at h
     cases hb:isInt b with
     | false=>rw[iL hb]at h;cases h
     | true=>
      cases hs:isInt s with
      | false=>rw[iC hs]at h;cases h
      | true=>
       obtain⟨b',rfl⟩:=cT hb
       obtain⟨s',rfl⟩:=cT hs
       exact⟨p,b',s',o,a,rfl,e⟩
    ·rw[iN e hl]at h
     cases h
   | _=>simp only[cv,e]at h;cases h
 | _=>cases h
structure StT where
 b:Nat
 s:Nat
 o:List Int
 a:List Int
abbrev StT.f(t:StT):Nat->Bool:=fn t.b t.s t.o t.a
abbrev eA(H:Hp)(v:V)(t:StT):Prop:=SN H v t.b t.s t.o t.a
abbrev bz(H:Hp)(vs:List V)(ts:List StT):Prop:=Paired (eA H) vs ts
theorem bz.ext{H H':Hp}(e:Ext H H'):∀{vs:List V} {ts:List StT},bz H vs ts->bz H' vs ts
 | _,_,.nil=>.nil
 | _,_,.cons h t=>.cons (h.ext e) (bz.ext e t)
theorem bz.len{H:Hp}:∀{vs:List V} {ts:List StT},bz H vs ts->vs.length=ts.length
 | _,_,.nil=>rfl
 | _,_,.cons _ t=>by rw[List.length_cons,List.length_cons,bz.len t]
theorem SN.near{H:Hp}{v:V}{b s:Nat}{o a:List Int}(h:SN H v b s o a):bP H v=true:=by
 have h3:=h.2.b3
 have h8:=h.2.s8
 unfold bP
 rw[h.1.yes h.2.ok]
 obtain⟨p,q,r,rfl,h1,_,_⟩:=h.1
 rw[jx h1,decide_eq_true h3,decide_eq_true h8]
 rfl
def si(K:PySem.W.Frag):Sp:=fun vs H Q _=>∃v,vs=[v]/\Kn H 2 v/\Q (.bl (bP H v)) H
abbrev jM:Stmt:=stq 34
theorem rT:FnScope ["thing"] ["thing"] (aJ jM):=⟨rfl,rfl,rfl,by decide +kernel,rfl,by decide +kernel,by decide +kernel⟩
theorem yJ{P:Program}{w:World}{K:PySem.W.Frag}{mg:Str->Option Value}{base:Heap}(D:Dfn K mg "is_near_stair" jM ["thing"])(T:Blt mg)(g_GREATEST_STEP:∃t,mg "GREATEST_STEP" = some (.int 840 t))(g_GREATEST_BASE:∃t,mg "GREATEST_BASE" = some (.int 3000 t))(C_is_stair:Cal P w K mg base "is_stair" 4 ["thing"] (ly K)):Cal P w K mg base "is_near_stair" 5 ["thing"] (si K):=by
 have nd:=(rT).nd
 refine D.ok rT (fun vs H Q E h=>?_) (fun X hX H vs Q E h=>?_)
 ·obtain⟨v,rfl,_⟩:=h;rfl
 ·obtain⟨f,cdv,A,outer,s,H0,E0,rfl,hr⟩:=hX
  obtain⟨t_GREATEST_STEP,c_GREATEST_STEP⟩:=g_GREATEST_STEP
  obtain⟨t_GREATEST_BASE,c_GREATEST_BASE⟩:=g_GREATEST_BASE
  obtain⟨v,rfl,hk,q⟩:=h
  refine⟨_,(ao (ax (bQ (aw C_is_stair hr (aa (pv 0) af)) (bQ (dh eT (ak (aG K) (pv 0) ae (fun _ _=>rfl)) (eO (v:=.int 3000) rfl c_GREATEST_BASE ⟨_,rfl⟩) (aC _)) (cp (dh eT (ak (aG K) (pv 0) ae (fun _ _=>rfl)) (eO (v:=.int 840) rfl c_GREATEST_STEP ⟨_,rfl⟩) (aC _))))))),?_⟩
  walk_at "rd"
  refine⟨v,rfl,hk,?_⟩
  refine rd_exb ?_
  unfold bP at q
  cases hv:cv H v with
  | false=>
   refine aq ?_
   rw[hv]at q
   exact q
  | true=>
   refine ar ?_
   obtain⟨p,b,s,o,a,rfl,hp⟩:=wO hv
   rw[hv,jx hp,Bool.true_and]at q
   walk_at "rd"
   refine aE (ah.of hp) (v:=.int b) rfl ?_
   walk_at "rd"
   cases hb:decide (b<=3000)with
   | false=>
    refine aq ?_
    rw[hb]at q
    exact q
   | true=>
    refine ar ?_
    rw[hb,Bool.true_and]at q
    walk_at "rd"
    refine aE (ah.of hp) (v:=.int s) rfl ?_
    walk_at "rd"
    exact q
abbrev fk(x y:StT):Bool:=decide (cm x.s y.s<=840)
def steps(ts:List StT):Bool:=ts.all fun x=>ts.all fun y=>fk x y
def rQ(K:PySem.W.Frag):Sp:=fun vs H Q _=>∃l xs ts,vs=[.ref l]/\H l=some (.lst xs)/\bz H xs ts/\xs.length<=1000/\∀H',Ext H H'->Q (.bl (steps ts)) H'
abbrev iB:Stmt:=stq 35
theorem qT:FnScope ["stairs","one"] ["stairs"] (aJ iB):=⟨rfl,rfl,rfl,by decide +kernel,rfl,by decide +kernel,by decide +kernel⟩
theorem ya{P:Program}{w:World}{K:PySem.W.Frag}{mg:Str->Option Value}{base:Heap}(D:Dfn K mg "are_near_steps" iB ["stairs"])(T:Blt mg)(g_GREATEST_STEP:∃t,mg "GREATEST_STEP" = some (.int 840 t))(C_common_step:Cal P w K mg base "common_step" 2 ["one","other"] (lV K)):Cal P w K mg base "are_near_steps" 3 ["stairs"] (rQ K):=by
 have nd:=(qT).nd
 refine D.ok qT (fun vs H Q E h=>?_) (fun X hX H vs Q E h=>?_)
 ·obtain⟨l,xs,ts,rfl,_⟩:=h;rfl
 ·obtain⟨f,cdv,A,outer,s,H0,E0,rfl,hr⟩:=hX
  obtain⟨t_GREATEST_STEP,c_GREATEST_STEP⟩:=g_GREATEST_STEP
  obtain⟨l,xs,ts,rfl,hl,hs,hn,q⟩:=h
  refine⟨_,(ai (bL PassesOwn.never rfl (cZ K (pv 0)) (aI (i:=1) nd rfl (Or.inr rfl)) (ao (aT (bj (aP (mf K rfl) rfl T.any_ PyProof.Rows.boot_any (aa (dC ["other"] [1] (cZ K (pv 0)) (fun _=>(aI (i:=0) (show(["other","one"]:List Str).Nodup from by decide +kernel) rfl (Or.inl rfl) (Or.inr rfl))) (fun _=>dz) (fun _=>(dh ed (aw C_common_step hr (aa (pv 1) (aa (pv 0) af))) (eO (v:=.int 840) rfl c_GREATEST_STEP ⟨_,rfl⟩) (aC _)))) af))) (ao (ax aW)) aM)))
    (ao (ax aW))),?_⟩
  walk_at "rd"
  refine dy (ag.of hl) ?_
  refine forL (xs:=xs) (fun i σ H'=>Ext H H'/\(∃w,σ=[some (.ref l),w])/\((ts.take i).all fun x=>ts.all fun y=>fk x y)=true) ⟨Ext.rfl' _,⟨_,rfl⟩,rfl⟩ (fun i σ H' _ h=>ag.of (h.1 _ _ hl)) ?_ ?_
  ·rintro i v σ H1 hx ⟨e1,⟨w,rfl⟩,ha⟩
   obtain⟨t,ht,hvt⟩:=cx hs hx
   walk_at "rd"
   refine dy (ag.of (e1 _ _ hl)) ?_
   refine fb (xs:=xs) (fun j ys H'=>Ext H H'/\ys=((ts.take j).map fun y=>!fk t y).map V.bl) (cz (by omega)) ⟨e1,rfl⟩ (fun j ys H' _ h=>⟨ag.of (h.1 _ _ hl),by rw[h.2,List.length_map,List.length_map,List.length_take];omega⟩) ?_ ?_
   ·rintro j v' ys H2 hx' ⟨e2,rfl⟩
    obtain⟨t',ht',hvt'⟩:=cx hs hx'
    walk_at "rd"
    refine ar ?_
    walk_at "rd"
    refine⟨v,v',t.b,t.s,t.o,t.a,t'.b,t'.s,t'.o,t'.a,rfl,hvt.ext e2,hvt'.ext e2,?_⟩
    walk_at "rd"
    refine⟨e2,?_⟩
    rw[List.take_add_one,ht',List.map_append,List.map_append]
    congr 1
    show[V.bl _]=[V.bl _]
    congr 2
    rw[Bool.eq_iff_iff]
    simp
    omega
   ·rintro ys H2 p ⟨e2,rfl⟩ hp
    have e3:Ext H (upd H2 p (.lst (((ts.take xs.length).map fun y=>!fk t y).map V.bl))):=e2.trans (bC hp)
    walk_at "rd"
    refine⟨p,_,rfl,ag.of aO,?_⟩
    refine⟨_,rfl,?_⟩
    have hany:(((ts.take xs.length).map fun y=>!fk t y).any id) = !(ts.all fun y=>fk t y):=by
     rw[hs.len,List.take_length,List.any_map,Bool.eq_iff_iff,List.any_eq_true,Bool.not_eq_true',Bool.eq_false_iff,ne_eq,List.all_eq_true]
     simp
    rw[hany]
    cases hb:(ts.all fun y=>fk t y)with
    | true=>
     refine aq ?_
     walk_at "rd"
     refine⟨e3,⟨_,rfl⟩,?_⟩
     rw[List.take_add_one,ht,List.all_append,ha]
     show(_ && (true && _))=true
     simp[hb]
    | false=>
     refine ar ?_
     walk_at "rd"
     have hst:steps ts=false:=by
      unfold steps
      rw[Bool.eq_false_iff]
      intro hc
      have:=List.all_eq_true.mp hc t (List.mem_of_getElem? ht)
      rw[hb]at this
      cases this
     have:=q _ e3
     rw[hst]at this
     exact this
  ·rintro σ H1 ⟨e1,⟨w,rfl⟩,ha⟩
   walk_at "rd"
   rw[hs.len,List.take_length]at ha
   have:=q H1 e1
   unfold steps at this
   rw[ha]at this
   exact this
def kq(K:PySem.W.Frag):Sp:=fun vs H Q _=>∃hp hq m tv,vs=[.ref hp,tv]/\H hp=some (.tup [.int m,hq]) ∧
  ((∃n,bO H tv n/\df n "list" = some false/\∀H',Ext H H'->Q (.bl false) H') ∨
   ∃l xs,tv=.ref l/\H l=some (.lst xs)/\xs.length<=1000/\(∀x∈xs,Kn H 2 x) ∧
    (((xs.length:Int)≠m/\∀H',Ext H H'->Q (.bl false) H')\/((xs.length:Int)=m/\(∃x∈xs,bP H x=false)/\∀H',Ext H H'->Q (.bl false) H')\/((xs.length:Int)=m/\∃ts,bz H xs ts/\∀H',Ext H H'->Q (.bl (steps ts)) H')))
abbrev iJ:Stmt:=stq 36
theorem oF:FnScope ["house","thing"] ["house","thing"] (aJ iJ):=⟨rfl,rfl,rfl,by decide +kernel,rfl,by decide +kernel,by decide +kernel⟩
theorem vt{P:Program}{w:World}{K:PySem.W.Frag}{mg:Str->Option Value}{base:Heap}(D:Dfn K mg "are_stairs_for" iJ ["house","thing"])(T:Blt mg)(C_are_near_steps:Cal P w K mg base "are_near_steps" 3 ["stairs"] (rQ K))(C_is_near_stair:Cal P w K mg base "is_near_stair" 5 ["thing"] (si K)):Cal P w K mg base "are_stairs_for" 6 ["house","thing"] (kq K):=by
 have nd:=(oF).nd
 refine D.ok oF (fun vs H Q E h=>?_) (fun X hX H vs Q E h=>?_)
 ·obtain⟨hp,hq,m,tv,rfl,_⟩:=h;rfl
 ·obtain⟨f,cdv,A,outer,s,H0,E0,rfl,hr⟩:=hX
  obtain⟨hp,hq,m,tv,rfl,hh,h⟩:=h
  refine⟨_,(ai (aT (PW.pt (bS (bI (bj (aP cK rfl T.isinstance_ PyProof.Rows.boot_isinstance (aa (pv 1) (aa (cJ (v:=.ty "list") rfl T.list_ PyProof.Rows.boot_list rfl) af))))) (cA (aH dP (aP (cU K) rfl T.len_ PySem.boot_len (aa (pv 1) af)) (ak (aG K) (pv 0) ae (fun _ _=>rfl)) (aC _))))) (ao (ax aW)) aM)
    (ao (ax (bQ (aP (nW K rfl) rfl T.all_ PyProof.Rows.boot_all (aa (dC ["stair"] [] (cZ K (pv 1)) (fun _=>(aI (i:=0) (show(["stair"]:List Str).Nodup from by decide +kernel) rfl (Or.inl rfl) (Or.inr rfl))) (fun _=>dz) (fun _=>(aw C_is_near_stair hr (aa (pv 0) af)))) af)) (cp (aw C_are_near_steps hr (aa (pv 1) af))))))),?_⟩
  walk_at "rd"
  rcases h with⟨n,hn,hi,q⟩ | ⟨l,xs,rfl,hl,hlen,hk,h⟩
  ·refine bK hn hi ?_
   walk_at "rd"
   refine ar ?_
   walk_at "rd"
   exact q H (Ext.rfl' _)
  ·refine bK (.inl ⟨rfl,xs,hl⟩) (b:=true) rfl ?_
   walk_at "rd"
   refine aq ?_
   walk_at "rd"
   refine fJ (ag.of hl) ?_
   walk_at "rd"
   refine aE (ah.of hh) (v:=.int m) rfl ?_
   walk_at "rd"
   by_cases hm:(xs.length:Int)=m
   ·rw[decide_eq_true hm]
    refine aq ?_
    walk_at "rd"
    refine dy (ag.of hl) ?_
    refine fb (xs:=xs) (fun j ys H'=>H'=H/\ys=((xs.take j).map (bP H)).map V.bl) (cz (by omega)) ⟨rfl,rfl⟩ (fun j ys H' _ h=>⟨by rw[h.1];exact ag.of hl,by rw[h.2,List.length_map,List.length_map,List.length_take];omega⟩) ?_ ?_
    ·rintro j v ys H2 hx ⟨rfl,rfl⟩
     walk_at "rd"
     refine ar ?_
     walk_at "rd"
     refine⟨v,rfl,hk v (List.mem_of_getElem? hx),rfl,?_⟩
     rw[List.take_add_one,hx,List.map_append,List.map_append]
     rfl
    ·rintro ys H2 p ⟨hH,rfl⟩ hpn
     subst hH
     rw[List.take_length]
     have e3:=bC (o:=.lst ((xs.map (bP H2)).map V.bl)) hpn
     walk_at "rd"
     refine⟨p,_,rfl,ag.of aO,?_⟩
     rw[List.all_map]
     rcases h with⟨h,_⟩ | ⟨_,⟨x,hx,hf⟩,q⟩ | ⟨_,ts,hs,q⟩
     ·exact absurd hm h
     ·have ha:xs.all (id∘bP H2)=false:=by
       rw[Bool.eq_false_iff]
       intro hc
       have:=List.all_eq_true.mp hc x hx
       rw[show (id∘bP H2) x=bP H2 x from rfl,hf]at this
       cases this
      rw[ha]
      refine rd_exb (aq ?_)
      exact q _ e3
     ·have ha:xs.all (id∘bP H2)=true:=by
       rw[List.all_eq_true]
       intro x hx
       obtain⟨i,hi⟩:=List.getElem?_of_mem hx
       obtain⟨t,_,ht⟩:=cx hs hi
       exact SN.near ht
      rw[ha]
      refine rd_exb (ar ?_)
      walk_at "rd"
      exact⟨l,xs,ts,rfl,e3 _ _ hl,hs.ext e3,hlen,fun H' e=>q H' (e3.trans e)⟩
   ·rw[decide_eq_false hm]
    refine ar ?_
    walk_at "rd"
    rcases h with⟨_,q⟩ | ⟨h,_⟩ | ⟨h,_⟩
    ·exact q H (Ext.rfl' _)
    ·exact absurd h hm
    ·exact absurd h hm
def gJ(m:Int):List V->Bool
 | [a,.int n]=>bG m a && (decide (0<=n) && decide (n<=1000))
 | _=>false
def cF(H:Hp)(m:Int):V->Bool
 | .ref p=>match H p with
  | some (.tup xs)=>gJ m xs
  | _=>false
 | _=>false
theorem gU{H:Hp}{m:Int}{p:Addr}{xs:List V}(h:H p=some (.tup xs)):cF H m (.ref p)=gJ m xs:=by simp only[cF,h]
theorem lu{H:Hp}{m:Int}{v:V}(h:∀p xs,v=.ref p->H p≠some (.tup xs)):cF H m v=false:=by
 cases v with
 | ref p=>
  cases e:H p with
  | none=>simp only[cF,e]
  | some o=>
   cases o with
   | tup xs=>exact absurd e (h p xs rfl)
   | _=>simp only[cF,e]
 | _=>rfl
theorem pM{m:Int}{xs:List V}(h:xs.length≠2):gJ m xs=false:=by
 match xs,h with
 | [],_=>rfl
 | [_],_=>rfl
 | [_,_],h=>exact absurd rfl h
 | _::b::_::_,_=>cases b<;>rfl
theorem iU{m:Int}{a b:V}(h:bG m a=false\/isInt b=false):gJ m [a,b]=false:=by
 rcases h with h | h
 ·cases b<;>first | rfl | (show(bG m a && _)=false;rw[h];rfl)
 ·cases b<;>first | rfl | cases h
def oZ(K:PySem.W.Frag):Sp:=fun vs H Q _=>∃v hp hq m,vs=[v,.ref hp]/\H hp=some (.tup [.int m,hq])/\Kn H 1 v/\Q (.bl (cF H m v)) H
abbrev jX:Stmt:=stq 28
theorem oj:FnScope ["thing","house"] ["thing","house"] (aJ jX):=⟨rfl,rfl,rfl,by decide +kernel,rfl,by decide +kernel,by decide +kernel⟩
theorem u0{P:Program}{w:World}{K:PySem.W.Frag}{mg:Str->Option Value}{base:Heap}(D:Dfn K mg "is_near_place" jX ["thing","house"])(T:Blt mg)(g_GREATEST_NUMBER:∃t,mg "GREATEST_NUMBER" = some (.int 1000 t))(C_is_whole:Cal P w K mg base "is_whole" 1 ["thing"] (gq K))(C_is_room:Cal P w K mg base "is_room" 2 ["thing","many"] (mJ K)):Cal P w K mg base "is_near_place" 3 ["thing","house"] (oZ K):=by
 have nd:=(oj).nd
 refine D.ok oj (fun vs H Q E h=>?_) (fun X hX H vs Q E h=>?_)
 ·obtain⟨v,hp,hq,m,rfl,_⟩:=h;rfl
 ·obtain⟨f,cdv,A,outer,s,H0,E0,rfl,hr⟩:=hX
  obtain⟨t_GREATEST_NUMBER,c_GREATEST_NUMBER⟩:=g_GREATEST_NUMBER
  obtain⟨v,hp,hq,m,rfl,hh,hk,q⟩:=h
  obtain⟨n,hn⟩:=hk.1
  refine⟨_,(ai (aT (PW.pt (bS (bI (bj (aP cK rfl T.isinstance_ PyProof.Rows.boot_isinstance (aa (pv 0) (aa (cJ (v:=.ty "tuple") rfl T.tuple_ PyProof.Rows.boot_tuple rfl) af))))) (cA (aH dP (aP (cU K) rfl T.len_ PySem.boot_len (aa (pv 0) af)) ae (aC _))))) (ao (ax aW)) aM)
    (ao (ax (bQ (aw C_is_room hr (aa (ak (aG K) (pv 0) ae (fun _ _=>rfl)) (aa (ak (aG K) (pv 1) ae (fun _ _=>rfl)) af))) (bQ (aw C_is_whole hr (aa (ak (aG K) (pv 0) ae (fun _ _=>rfl)) af)) (cp (ko eT eT ae (ak (aG K) (pv 0) ae (fun _ _=>rfl)) (eO (v:=.int 1000) rfl c_GREATEST_NUMBER ⟨_,rfl⟩)))))))),?_⟩
  walk_at "rd"
  rcases fK hn with⟨p,xs,rfl,hp',rfl⟩ | ⟨hf,hno⟩
  ·refine bK hn (b:=true) rfl ?_
   walk_at "rd"
   refine aq ?_
   walk_at "rd"
   refine gm (ah.of hp') ?_
   walk_at "rd"
   rw[gU hp']at q
   by_cases h2:xs.length=2
   ·obtain⟨a,b,rfl⟩:=lB h2
    obtain⟨ka,hka⟩:=hk.2 p _ rfl hp' a (by simp)
    obtain⟨kb,hkb⟩:=hk.2 p _ rfl hp' b (by simp)
    refine aq ?_
    walk_at "rd"
    refine aE (ah.of hp') (v:=a) rfl ?_
    walk_at "rd"
    refine aE (ah.of hh) (v:=.int m) rfl ?_
    walk_at "rd"
    refine⟨a,m,ka,rfl,hka,?_⟩
    refine rd_exb ?_
    cases ha:bG m a with
    | false=>
     refine aq ?_
     rw[iU (.inl ha)]at q
     exact q
    | true=>
     refine ar ?_
     walk_at "rd"
     refine aE (ah.of hp') (v:=b) rfl ?_
     walk_at "rd"
     refine⟨b,kb,rfl,hkb,?_⟩
     refine rd_exb ?_
     cases hb:isInt b with
     | false=>
      refine aq ?_
      rw[iU (.inr hb)]at q
      exact q
     | true=>
      refine ar ?_
      obtain⟨i,rfl⟩:=cT hb
      have e:gJ m [a,.int i]=(decide (0<=i) && decide (i<=1000)):=by
       show(bG m a && _)=_
       rw[ha,Bool.true_and]
      rw[e]at q
      walk_at "rd"
      refine aE (ah.of hp') (v:=.int i) rfl ?_
      walk_at "rd"
      cases h0:decide (0<=i)with
      | false=>
       refine aq ?_
       rw[h0]at q
       exact q
      | true=>
       refine ar ?_
       rw[h0,Bool.true_and]at q
       walk_at "rd"
       exact q
   ·rw[pM h2]at q
    rw[decide_eq_false (show ¬((xs.length:Nat):Int)=2 by omega)]
    refine ar ?_
    walk_at "rd"
    exact q
  ·refine bK hn hf ?_
   walk_at "rd"
   refine ar ?_
   walk_at "rd"
   rw[lu hno]at q
   exact q
def eB(d:Str)(f g:Nat->Bool):Prop:=
 if d = "zero" then f 0=true/\g 0=false else if d = "up" then ∃x,f x=true/\g (x+1)=false else if d = "down" then ∃x,f (x+1)=true/\g x=false else ∃x,f x=true/\g x=false
theorem jJ{f g:Nat->Bool}{b d i j:Nat}(hd:1<=d)(hf:bt f b d)(hg:bt g b d):∀(n x:Nat),x<=n->f (x+i)=true->g (x+j)=false->∃y,y<b+d/\f (y+i)=true/\g (y+j)=false:=by
 intro n
 induction n with
 | zero=>
  intro x hx h1 h2
  exact⟨x,by omega,h1,h2⟩
 | succ n ih=>
  intro x hx h1 h2
  by_cases h:x<b+d
  ·exact⟨x,h,h1,h2⟩
  ·refine ih (x-d) (by omega) ?_ ?_
   ·rw[←hf (x-d+i) (by omega),show x-d+i+d=x+i by omega]
    exact h1
   ·rw[←hg (x-d+j) (by omega),show x-d+j+d=x+j by omega]
    exact h2
theorem zR(n:Nat)(p:Nat->Bool):((List.range n).map p).any id=true↔∃x,x<n/\p x=true:=by
 rw[List.any_map,List.any_eq_true]
 simp
theorem SN.per{H:Hp}{v:V}{b s:Nat}{o a:List Int}(h:SN H v b s o a):bt (fn b s o a) b s:=yW h.2
theorem zG{f:Nat->Bool}{b c s t:Nat}(h:bt f b s)(hc:b<=c):bt f c (cm s t):=by
 rw[mh]
 exact(h.mono hc).times _
theorem uH{f:Nat->Bool}{b c s t:Nat}(h:bt f b t)(hc:b<=c):bt f c (cm s t):=by
 rw[wW,mh]
 exact(h.mono hc).times _
theorem uU{f g:Nat->Bool}{b d i j n:Nat}(hd:1<=d)(hf:bt f b d)(hg:bt g b d)(hn:b+d<=n):(∃x,x<n/\(f (i+x) && !g (j+x))=true)↔∃x,f (x+i)=true/\g (x+j)=false:=by
 constructor
 ·rintro⟨x,_,h⟩
  rw[Bool.and_eq_true,Bool.not_eq_true']at h
  exact⟨x,by rw[Nat.add_comm];exact h.1,by rw[Nat.add_comm];exact h.2⟩
 ·rintro⟨x,h1,h2⟩
  obtain⟨y,hy,h1,h2⟩:=jJ (i:=i) (j:=j) hd hf hg x x (Nat.le_refl _) h1 h2
  refine⟨y,by omega,?_⟩
  rw[Nat.add_comm i y,Nat.add_comm j y,h1,h2]
  rfl
def pU(K:PySem.W.Frag):Sp:=fun vs H Q _=>∃wb w v1 v2 t1 t2,vs=[.ref wb,v1,v2]/\H wb=some (.tup (Way.vs w))/\cf w.deed/\eA H v1 t1/\eA H v2 t2/\cm t1.s t2.s<=840/\∀r H',Ext H H'->(r=true↔eB w.deed t1.f t2.f)->Q (.bl r) H'
abbrev iD:Stmt:=stq 37
theorem qz:FnScope ["way","one","other","raised","end","starts","ends"] ["way","one","other"] (aJ iD):=⟨rfl,rfl,rfl,by decide +kernel,rfl,by decide +kernel,by decide +kernel⟩
theorem yG{P:Program}{w:World}{K:PySem.W.Frag}{mg:Str->Option Value}{base:Heap}(D:Dfn K mg "is_left_by" iD ["way","one","other"])(T:Blt mg)(C_marks_below:Cal P w K mg base "marks_below" 1 ["stair","end"] (sh K))(C_common_step:Cal P w K mg base "common_step" 2 ["one","other"] (lV K))(C_raised_by:Cal P w K mg base "raised_by" 1 ["way"] (pQ K))(C_holds:Cal P w K mg base "holds" 7 ["stair","x"] (mN K)):Cal P w K mg base "is_left_by" 8 ["way","one","other"] (pU K):=by
 have nd:=(qz).nd
 refine D.ok qz (fun vs H Q E h=>?_) (fun X hX H vs Q E h=>?_)
 ·obtain⟨wb,w,v1,v2,t1,t2,rfl,_⟩:=h;rfl
 ·obtain⟨f,cdv,A,outer,s,H0,E0,rfl,hr⟩:=hX
  obtain⟨wb,w,v1,v2,t1,t2,rfl,hw,hd,h1,h2,hc,q⟩:=h
  have x1:=h1.b3
  have x2:=h2.b3
  have c1:=yl h1.s1 h2.s1
  have p1:=zG (t:=t2.s) h1.per (Nat.le_max_left t1.b t2.b)
  have p2:=uH (s:=t1.s) h2.per (Nat.le_max_right t1.b t2.b)
  refine⟨_,(ai (aT (aH bu (ak (aG K) (pv 0) ae (fun _ _=>rfl)) aN (aC _)) (ao (ax (bQ (aw C_holds hr (aa (pv 1) (aa ae af))) (cp (fT (aw C_holds hr (aa (pv 2) (aa ae af)))))))) aM)
    (ai (aA (i:=3) nd rfl (Or.inl rfl) (aw C_raised_by hr (aa (pv 0) af)))
    (ai (aA (i:=4) nd rfl (Or.inl rfl) (aj aF (aj aF (aP (mE rfl) rfl T.max_ PyProof.Rows.boot_max (aa (ak (aG K) (pv 1) ae (fun _ _=>rfl)) (aa (ak (aG K) (pv 2) ae (fun _ _=>rfl)) af))) ae) (aw C_common_step hr (aa (pv 1) (aa (pv 2) af)))))
    (ai (aA (i:=5) nd rfl (Or.inl rfl) (fA (fU K) (aw C_marks_below hr (aa (pv 1) (aa (pv 4) af))) (eh (aP (mE rfl) rfl T.max_ PyProof.Rows.boot_max (aa ae (aa (m7 mH (pv 3)) af)))) gX))
    (ai (aA (i:=6) nd rfl (Or.inl rfl) (fA (fU K) (aw C_marks_below hr (aa (pv 2) (aa (aj aF (pv 4) ae) af))) (eh (aP (mE rfl) rfl T.max_ PyProof.Rows.boot_max (aa ae (aa (pv 3) af)))) gX))
    (ao (ax (aP (mf K rfl) rfl T.any_ PyProof.Rows.boot_any (aa (dC ["start","there"] [] (yp K rfl T.zip_ (aa (pv 5) (aa (pv 6) af))) (fun _=>(fj (n:=2) K rfl (bp (aI (i:=0) (show(["start","there"]:List Str).Nodup from by decide +kernel) rfl (Or.inl rfl) (Or.inr rfl)) (bp (aI (i:=1) (show(["start","there"]:List Str).Nodup from by decide +kernel) rfl (Or.inl rfl) (Or.inr rfl)) eD)))) (fun _=>dz) (fun _=>(bQ (pv 0) (cp (fT (pv 1)))))) af))))))))),?_⟩
  walk_at "rd"
  refine aE (ah.of hw) (v:=.str w.deed) rfl ?_
  walk_at "rd"
  refine eG (rd_exb ?_)
  by_cases hz:w.deed = "zero"
  ·rw[decide_eq_true hz]
   refine ar ?_
   walk_at "rd"
   refine⟨v1,0,_,_,_,_,rfl,h1.1,h1.2,?_⟩
   have e1:mem t1.b t1.s t1.o t1.a 0=t1.f 0:=rfl
   have e2:mem t2.b t2.s t2.o t2.a 0=t2.f 0:=rfl
   refine rd_exb ?_
   have hq:∀r,(r=true↔t1.f 0=true/\t2.f 0=false)->Q (.bl r) H:=fun r hr=>q r H (Ext.rfl' _) (by rw[hr];unfold eB;rw[if_pos hz])
   rw[e1]
   cases hf:t1.f 0 with
   | false=>
    refine aq ?_
    exact hq false (by simp[hf])
   | true=>
    refine ar ?_
    walk_at "rd"
    refine⟨v2,0,_,_,_,_,rfl,h2.1,h2.2,?_⟩
    walk_at "rd"
    rw[e2]
    exact hq _ (by simp[hf])
  ·rw[decide_eq_false hz]
   refine aq ?_
   walk_at "rd"
   refine⟨wb,w,rfl,hw,hd,?_⟩
   obtain⟨q1,_,_,rfl,k1,_,_⟩:=id h1.1
   obtain⟨q2,_,_,rfl,k2,_,_⟩:=id h2.1
   walk_at "rd"
   refine aE (ah.of k1) rfl ?_
   walk_at "rd"
   refine aE (ah.of k2) rfl ?_
   walk_at "rd"
   have em:(if(t2.b:Int)>(t1.b:Int)then(t2.b:Int)else(t1.b:Int))=((max t1.b t2.b:Nat):Int):=by split<;>omega
   rw[em]
   refine⟨_,_,t1.b,t1.s,t1.o,t1.a,t2.b,t2.s,t2.o,t2.a,rfl,h1,h2,?_⟩
   walk_at "rd"
   have r1:=wD w.deed
   have r2:=yg w.deed
   refine⟨_,((max t1.b t2.b:Nat):Int)+1+((cm t1.s t2.s:Nat):Int),t1.b,t1.s,t1.o,t1.a,rfl,h1.1,h1.2,by omega,by omega,fun m1 H1 e1 hn1 hm1=>?_⟩
   rw[show (((max t1.b t2.b:Nat):Int)+1+((cm t1.s t2.s:Nat):Int)).toNat=max t1.b t2.b+cm t1.s t2.s+1 by omega]at hm1
   walk_at "rd"
   refine fP (ag.of hm1) (av fun l1 H2 e2 hl1 _=>?_)
   generalize hdi:(if -rz w.deed>0 then -rz w.deed else 0)=di at hl1 ⊢
   have hdi0:0<=di/\di<=1:=by rw[←hdi];split<;>omega
   rw[oU hdi0.1 (by omega)]at hl1
   have e12:=e1.trans e2
   walk_at "rd"
   refine⟨_,((max t1.b t2.b:Nat):Int)+1+((cm t1.s t2.s:Nat):Int)+1,t2.b,t2.s,t2.o,t2.a,rfl,h2.1.ext e12,h2.2,by omega,by omega,fun m2 H3 e3 hn2 hm2=>?_⟩
   rw[show (((max t1.b t2.b:Nat):Int)+1+((cm t1.s t2.s:Nat):Int)+1).toNat=max t1.b t2.b+cm t1.s t2.s+2 by omega]at hm2
   walk_at "rd"
   refine fP (ag.of hm2) (av fun l2 H4 e4 hl2 _=>?_)
   generalize hdu:(if rz w.deed>0 then rz w.deed else 0)=du at hl2 ⊢
   have hdu0:0<=du/\du<=1:=by rw[←hdu];split<;>omega
   rw[oU hdu0.1 (by omega)]at hl2
   have hl1':=(e3.trans e4) _ _ hl1
   have e14:=e12.trans (e3.trans e4)
   walk_at "rd"
   refine uk (ag.of hl1') (ag.of hl2) ?_
   refine zx (fun i zs H'=>Ext H4 H'/\zs=((List.range i).map fun k=>t1.f (di.toNat+k) && !t2.f (du.toNat+k)).map V.bl) (ay (by rw[bV];omega)) ⟨Ext.rfl' _,rfl⟩ (fun i zs H' h=>⟨ag.of (h.1 _ _ hl1'),ag.of (h.1 _ _ hl2),by rw[h.2,List.length_map,List.length_map,List.length_range];exact Nat.le_refl _⟩) ?_ ?_
   ·rintro i u v zs H5 p4 H6 hu hv ⟨e,rfl⟩ e6 h6 hn6
    have hi1:=(List.getElem?_eq_some_iff.mp hu).1
    have hi2:=(List.getElem?_eq_some_iff.mp hv).1
    rw[bV]at hi1 hi2
    rw[dZ _ hi1]at hu
    rw[dZ _ hi2]at hv
    cases hu
    cases hv
    refine fo (ah.of h6) rfl ?_
    walk_at "rd"
    refine ar ?_
    walk_at "rd"
    have hz2:((List.range (i+1)).map fun k=>t1.f (di.toNat+k) && !t2.f (du.toNat+k)).map V.bl=((List.range i).map fun k=>t1.f (di.toNat+k) && !t2.f (du.toNat+k)).map V.bl++[V.bl (t1.f (di.toNat+i) && !t2.f (du.toNat+i))]:=by
     rw[List.range_succ,List.map_append,List.map_append]
     rfl
    cases hf:fn t1.b t1.s t1.o t1.a (di.toNat+i)with
    | false=>
     refine aq ?_
     refine⟨e.trans e6,?_⟩
     rw[hz2,show t1.f (di.toNat+i)=false from hf]
     rfl
    | true=>
     refine ar ?_
     walk_at "rd"
     refine⟨e.trans e6,?_⟩
     rw[hz2,show t1.f (di.toNat+i)=true from hf]
     rfl
   ·rintro zs H5 p4 ⟨e,rfl⟩ hp4
    rw[bV,bV]
    walk_at "rd"
    refine⟨p4,_,rfl,ag.of aO,?_⟩
    refine q _ _ (e14.trans (e.trans (bC hp4))) ?_
    rw[zR]
    unfold eB
    rw[if_neg hz]
    rw[uU (b:=max t1.b t2.b) (d:=cm t1.s t2.s) c1 p1 p2 (by omega)]
    rcases hd with hd | hd | hd | hd
    ·have hr:rz w.deed=1:=by rw[hd];decide +kernel
     rw[hr]at hdi hdu
     rw[if_pos hd,←hdi,←hdu]
     exact Iff.rfl
    ·have hr:rz w.deed = -1:=by rw[hd];decide +kernel
     rw[hr]at hdi hdu
     rw[if_neg (by rw[hd];decide +kernel),if_pos hd,←hdi,←hdu]
     exact Iff.rfl
    ·have hr:rz w.deed=0:=by rw[hd];decide +kernel
     rw[hr]at hdi hdu
     rw[if_neg (by rw[hd];decide +kernel),if_neg (by rw[hd];decide +kernel),←hdi,←hdu]
     exact Iff.rfl
    ·exact absurd hd hz
def se(H:Hp)(v:V):Prop:=bw H 4 v/\eo H v=false
theorem pG{H:Hp}{v:V}{m:Int}{ws:List Way}(hv:bR H v m ws)(ok:HOuse m ws):bw H 4 v/\eo H v=true:=by
 obtain⟨p,q,bs,rfl,h1,h2,h3,h4,h5⟩:=ua hv ok
 have hfew:=ok.few
 have t2:bw H 2 (.ref q):=lI h2 (by rw[List.length_map,h3];omega) h5
 exact⟨lI h1 (by simp) (.cons (lN _ _ _) (.cons t2.up (.nil _ _))),(we h1 h2 h4 ok.m1 ok.m12 ok.ok ok.nd).trans (decide_eq_true ok.few)⟩
def dM(m:Int)(x:Bfs.Pl):Prop:=0<=x.1/\x.1<m/\0<=x.2/\x.2<=1000
theorem qW{H H':Hp}(e:Ext H H'){v:V}{lo hi:Int}(h:∃n,bO H v n):bT H' lo hi v=bT H lo hi v:=by
 obtain⟨n,hn⟩:=h
 rcases fK hn with⟨p,xs,rfl,hp,_⟩ | ⟨_,hno⟩
 ·rw[gR hp,gR (e _ _ hp)]
 ·rw[lb hno,lb]
  intro p xs hv hp
  subst hv
  rcases hn with⟨_,ys,hy⟩ | ⟨_,ys,hy⟩
  ·have:=e _ _ hy
   rw[hp]at this
   cases this
  ·exact hno p _ rfl hy
theorem wz{H H':Hp}(e:Ext H H'){v:V}(h:Kn H 2 v):bP H' v=bP H v:=by
 obtain⟨n,hn⟩:=h.1
 rcases fK hn with⟨p,xs,rfl,hp,_⟩ | ⟨_,hno⟩
 ·by_cases hl:xs.length=4
  ·obtain⟨b,s,o,a,rfl⟩:=mw hl
   have ho:=(h.2 p _ rfl hp o (by simp)).1
   have ha:=(h.2 p _ rfl hp a (by simp)).1
   have hp':=e _ _ hp
   cases hb:isInt b with
   | false=>unfold bP;rw[dS hp,dS hp',iL hb,iL hb];rfl
   | true=>
    cases hs:isInt s with
    | false=>unfold bP;rw[dS hp,dS hp',iC hs,iC hs];rfl
    | true=>
     obtain⟨b',rfl⟩:=cT hb
     obtain⟨s',rfl⟩:=cT hs
     unfold bP
     rw[dS hp,dS hp',jx hp,jx hp']
     show((decide (0<=b') && decide (1<=s') && bT H' 0 b' o && bT H' b' (b'+s') a) && _)=((decide (0<=b') && decide (1<=s') && bT H 0 b' o && bT H b' (b'+s') a) && _)
     rw[qW e ho,qW e ha]
  ·unfold bP
   rw[iN hp hl,iN (e _ _ hp) hl]
   rfl
 ·have hno':∀p xs,v=.ref p->H' p≠some (.tup xs):=by
   intro p xs hv hp
   subst hv
   rcases hn with⟨_,ys,hy⟩ | ⟨_,ys,hy⟩
   ·have:=e _ _ hy
    rw[hp]at this
    cases this
   ·exact hno p _ rfl hy
  unfold bP
  rw[lA hno,lA hno']
  rfl
def gg(H:Hp)(m:Int)(tv:V):Prop:=(∃n,bO H tv n/\df n "list" = some false)\/∃l xs,tv=.ref l/\H l=some (.lst xs)/\xs.length<=1000/\(∀x∈xs,Kn H 2 x) ∧
 ((xs.length:Int)≠m\/((xs.length:Int)=m/\∃x∈xs,bP H x=false)\/((xs.length:Int)=m/\∃ts,bz H xs ts/\steps ts=false))
def eE(H:Hp)(m:Int)(tv:V)(ts:List StT):Prop:=∃l xs,tv=.ref l/\H l=some (.lst xs)/\xs.length<=1000/\(xs.length:Int)=m/\bz H xs ts/\steps ts=true
theorem gg.ext{H H':Hp}(e:Ext H H'){m:Int}{tv:V}(h:gg H m tv):gg H' m tv:=by
 rcases h with⟨n,h1,h2⟩ | ⟨l,xs,rfl,hl,hn,hk,h⟩
 ·exact .inl ⟨n,lD e h1,h2⟩
 ·refine .inr ⟨l,xs,rfl,e _ _ hl,hn,fun x hx=>(hk x hx).ext e,?_⟩
  rcases h with h | ⟨h,x,hx,hf⟩ | ⟨h,ts,hs,hf⟩
  ·exact .inl h
  ·exact .inr (.inl ⟨h,x,hx,(wz e (hk x hx)).trans hf⟩)
  ·exact .inr (.inr ⟨h,ts,hs.ext e,hf⟩)
theorem eE.ext{H H':Hp}(e:Ext H H'){m:Int}{tv:V}{ts:List StT}(h:eE H m tv ts):eE H' m tv ts:=by
 obtain⟨l,xs,rfl,hl,h⟩:=h
 exact⟨l,xs,rfl,e _ _ hl,h.1,h.2.1,h.2.2.1.ext e,h.2.2.2⟩
theorem bz.kn{H:Hp}{xs:List V}{ts:List StT}(h:bz H xs ts):∀x∈xs,Kn H 2 x:=by
 intro x hx
 obtain⟨i,hi⟩:=List.getElem?_of_mem hx
 obtain⟨t,_,ht⟩:=cx h hi
 exact ht.1.kn
theorem wg{K:PySem.W.Frag}{H:Hp}{hp:Addr}{hq tv:V}{m:Int}{Q:VK}{E:XK}(hh:H hp=some (.tup [.int m,hq]))(h:gg H m tv)(q:∀H',Ext H H'->Q (.bl false) H'):kq K [.ref hp,tv] H Q E:=by
 refine⟨hp,hq,m,tv,rfl,hh,?_⟩
 rcases h with⟨n,h1,h2⟩ | ⟨l,xs,rfl,hl,hn,hk,h⟩
 ·exact .inl ⟨n,h1,h2,q⟩
 ·refine .inr ⟨l,xs,rfl,hl,hn,hk,?_⟩
  rcases h with h | ⟨h,x⟩ | ⟨h,ts,hs,hf⟩
  ·exact .inl ⟨h,q⟩
  ·exact .inr (.inl ⟨h,x,q⟩)
  ·exact .inr (.inr ⟨h,ts,hs,fun H' e=>by rw[hf];exact q H' e⟩)
theorem zW{K:PySem.W.Frag}{H:Hp}{hp:Addr}{hq tv:V}{m:Int}{ts:List StT}{Q:VK}{E:XK}(hh:H hp=some (.tup [.int m,hq]))(h:eE H m tv ts)(q:∀H',Ext H H'->Q (.bl true) H'):kq K [.ref hp,tv] H Q E:=by
 obtain⟨l,xs,rfl,hl,hn,hm,hs,ht⟩:=h
 exact⟨hp,hq,m,_,rfl,hh,.inr ⟨l,xs,rfl,hl,hn,hs.kn,.inr (.inr ⟨hm,ts,hs,fun H' e=>by rw[ht];exact q H' e⟩)⟩⟩
def cls(ws:List Way)(ts:List StT):Prop:=∀w∈ws,∀t1 t2,ts[w.room.toNat]?=some t1->ts[w.other.toNat]?=some t2->¬eB w.deed t1.f t2.f
theorem jH{xs:List V}{i:Int}{v:V}(h0:0<=i)(h:xs[i.toNat]?=some v):bD xs i=some v:=gC h0 h
def j7(K:PySem.W.Frag):Sp:=fun vs H Q _=>∃v tv,vs=[v,tv]/\((se H v/\∀H',Ext H H'->Q (.bl false) H')\/∃m ws,bR H v m ws/\HOuse m ws ∧
 ((gg H m tv/\∀H',Ext H H'->Q (.bl false) H')\/∃ts,eE H m tv ts/\∀r H',Ext H H'->(r=true↔cls ws ts)->Q (.bl r) H'))
abbrev jY:Stmt:=stq 38
theorem sq:FnScope ["house","stairs"] ["house","stairs"] (aJ jY):=⟨rfl,rfl,rfl,by decide +kernel,rfl,by decide +kernel,by decide +kernel⟩
theorem vm{P:Program}{w:World}{K:PySem.W.Frag}{mg:Str->Option Value}{base:Heap}(D:Dfn K mg "sees_closed" jY ["house","stairs"])(T:Blt mg)(C_is_left_by:Cal P w K mg base "is_left_by" 8 ["way","one","other"] (pU K))(C_are_stairs_for:Cal P w K mg base "are_stairs_for" 6 ["house","thing"] (kq K))(C_is_house:Cal P w K mg base "is_house" 5 ["thing"] (sr K)):Cal P w K mg base "sees_closed" 9 ["house","stairs"] (j7 K):=by
 have nd:=(sq).nd
 refine D.ok sq (fun vs H Q E h=>?_) (fun X hX H vs Q E h=>?_)
 ·obtain⟨v,tv,rfl,_⟩:=h;rfl
 ·obtain⟨f,cdv,A,outer,s,H0,E0,rfl,hr⟩:=hX
  obtain⟨v,tv,rfl,h⟩:=h
  refine⟨_,(ai (aT (PW.pt (bS (bI (bj (aw C_is_house hr (aa (pv 0) af)))) (cA (bI (bj (aw C_are_stairs_for hr (aa (pv 0) (aa (pv 1) af)))))))) (ao (ax aW)) aM)
    (ao (ax (fT (aP (mf K rfl) rfl T.any_ PyProof.Rows.boot_any (aa (dC ["way"] [1] (dw K (ak (aG K) (pv 0) ae (fun _ _=>rfl))) (fun _=>(aI (i:=0) (show(["way","stairs"]:List Str).Nodup from by decide +kernel) rfl (Or.inl rfl) (Or.inr rfl))) (fun _=>dz) (fun _=>(aw C_is_left_by hr (aa (pv 0) (aa (ak (aD K) (pv 1) (ak (aG K) (pv 0) ae (fun _ _=>rfl)) (fun _ _=>rfl)) (aa (ak (aD K) (pv 1) (ak (aG K) (pv 0) ae (fun _ _=>rfl)) (fun _ _=>rfl)) af)))))) af)))))),?_⟩
  walk_at "rd"
  rcases h with⟨hno,q⟩ | ⟨m,ws,hv,ok,h⟩
  ·refine⟨v,rfl,hno.1,fun H1 e1=>?_⟩
   rw[hno.2]
   walk_at "rd"
   refine ar ?_
   walk_at "rd"
   exact q H1 e1
  ·refine⟨v,rfl,(pG hv ok).1,fun H1 e1=>?_⟩
   rw[(pG hv ok).2]
   walk_at "rd"
   refine aq ?_
   walk_at "rd"
   obtain⟨hp,hq,rfl,hh,hw⟩:=id (hv.ext e1)
   rcases h with⟨hb,q⟩ | ⟨ts,hg,q⟩
   ·refine wg hh (hb.ext e1) fun H2 e2=>?_
    walk_at "rd"
    refine ar ?_
    walk_at "rd"
    exact q H2 (e1.trans e2)
   ·refine zW hh (hg.ext e1) fun H2 e2=>?_
    have e12:=e1.trans e2
    obtain⟨bs,hbs,hal⟩:=cE.al (hw.ext e2)
    obtain⟨l,xs,rfl,hl,hn,hm,hs,ht⟩:=hg.ext e12
    have hfew:=ok.few
    have hbl:bs.length=ws.length:=hal.1
    walk_at "rd"
    refine aq ?_
    walk_at "rd"
    refine aE (ah.of (e2 _ _ hh)) (v:=.ref hq) rfl ?_
    walk_at "rd"
    refine dj (ah.of hbs) ?_
    refine kB (xs:=bs.map V.ref) (fun i ys H'=>Ext H2 H'/\∃rs:List Bool,ys=rs.map V.bl/\rs.length=i/\(rs.any id=true↔¬cls (ws.take i) ts)) (cz (by rw[List.length_map];omega)) ⟨Ext.rfl' _,[],rfl,rfl,?_⟩ ?_ ?_ ?_
    ·simp[cls]
    ·rintro i ys H' _ ⟨e,rs,rfl,hr,_⟩
     exact⟨ah.of (e _ _ hbs),by rw[List.length_map,hr];exact Nat.le_refl _⟩
    ·rintro i x ys H3 hx ⟨e3,rs,rfl,hr,hrc⟩
     rw[List.getElem?_map]at hx
     obtain⟨b,hb,rfl⟩:=Option.map_eq_some_iff.mp hx
     have hi:i<ws.length:=by
      rw[←hbl]
      exact(List.getElem?_eq_some_iff.mp hb).1
     have hwi:ws[i]?=some ws[i]:=List.getElem?_eq_getElem hi
     have hwv:=e3 _ _ (hal.2 i b _ hb hwi)
     generalize ws[i]=w at hwi hwv
     have okw:=ok.ok w (List.mem_of_getElem? hwi)
     have o1:=okw.r0
     have o2:=okw.r1
     have o3:=okw.o0
     have o4:=okw.o1
     have g1:w.room.toNat<xs.length:=by omega
     have g2:w.other.toNat<xs.length:=by omega
     obtain⟨t1,ht1,hs1⟩:=cx hs (List.getElem?_eq_getElem g1)
     obtain⟨t2,ht2,hs2⟩:=cx hs (List.getElem?_eq_getElem g2)
     walk_at "rd"
     refine ar ?_
     walk_at "rd"
     refine aE (ah.of hwv) (v:=.int w.room) rfl ?_
     walk_at "rd"
     refine aB (ag.of (e3 _ _ hl)) (jH o1 (List.getElem?_eq_getElem g1)) ?_
     walk_at "rd"
     refine aE (ah.of hwv) (v:=.int w.other) rfl ?_
     walk_at "rd"
     refine aB (ag.of (e3 _ _ hl)) (jH o3 (List.getElem?_eq_getElem g2)) ?_
     walk_at "rd"
     refine⟨b,w,_,_,t1,t2,rfl,hwv,okw.dd,hs1.ext e3,hs2.ext e3,?_,fun r H4 e4 hr4=>?_⟩
     ·unfold steps at ht
      have:=List.all_eq_true.mp (List.all_eq_true.mp ht t1 (List.mem_of_getElem? ht1)) t2 (List.mem_of_getElem? ht2)
      simpa using this
     ·refine⟨e3.trans e4,rs++[r],by rw[List.map_append];rfl,by rw[List.length_append,hr];rfl,?_⟩
      rw[List.any_append,Bool.or_eq_true,hrc,List.take_add_one,hwi]
      have:List.any [r] id=r:=by cases r<;>rfl
      rw[this,hr4]
      constructor
      ·rintro(h | h) hc
       ·exact h fun u hu=>hc u (List.mem_append.mpr (.inl hu))
       ·exact hc w (by simp) t1 t2 ht1 ht2 h
      ·intro h
       by_cases h1:cls (ws.take i) ts
       ·right
        refine Classical.byContradiction fun h2=>h fun u hu=>?_
        rcases List.mem_append.mp hu with hu | hu
        ·exact h1 u hu
        ·have:u=w:=by simpa using hu
         subst this
         intro t1' t2' h1' h2'
         rw[ht1]at h1'
         rw[ht2]at h2'
         cases h1'
         cases h2'
         exact h2
       ·exact .inl h1
    ·rintro ys H3 p ⟨e3,rs,rfl,hr,hrc⟩ hp3
     walk_at "rd"
     refine⟨p,rs,rfl,ag.of aO,?_⟩
     walk_at "rd"
     refine q _ _ (e12.trans (e3.trans (bC hp3))) ?_
     rw[List.length_map,hbl,List.take_length]at hrc
     cases hb:rs.any id with
     | true=>
      rw[hb]at hrc
      have:=hrc.mp rfl
      simp[this]
     | false=>
      rw[hb]at hrc
      have:cls ws ts:=Classical.byContradiction fun h=>by have:=hrc.mpr h;cases this
      simp[this]
def ck(H:Hp)(v:V)(x:Bfs.Pl):Prop:=∃p,v=.ref p/\cM H p x
theorem ck.ext{H H':Hp}(e:Ext H H'){v:V}{x:Bfs.Pl}(h:ck H v x):ck H' v x:=by
 obtain⟨p,rfl,h⟩:=h
 exact⟨p,rfl,e _ _ h⟩
theorem ck.kn{H:Hp}{v:V}{x:Bfs.Pl}(h:ck H v x):Kn H 1 v:=by
 obtain⟨p,rfl,h⟩:=h
 refine⟨⟨"tuple",.inr ⟨rfl,_,h⟩⟩,fun p' ys e z y hy=>?_⟩
 cases e
 rw[h]at z
 cases z
 simp only[List.mem_cons,List.not_mem_nil,or_false]at hy
 rcases hy with rfl | rfl
 ·exact⟨"int",rfl⟩
 ·exact⟨"int",rfl⟩
theorem og{H:Hp}{m:Int}{v:V}(h:cF H m v=true):∃x,ck H v x/\dM m x:=by
 cases v with
 | ref p=>
  cases e:H p with
  | none=>simp only[cF,e]at h;cases h
  | some w=>
   cases w with
   | tup xs=>
    rw[gU e]at h
    by_cases hl:xs.length=2
    ·obtain⟨a,b,rfl⟩:=lB hl
     cases hr:bG m a with
     | false=>rw[iU (.inl hr)]at h;cases h
     | true=>
      cases hb:isInt b with
      | false=>rw[iU (.inr hb)]at h;cases h
      | true=>
       obtain⟨i,rfl⟩:=cT hb
       have ha:isInt a=true:=by
        cases ha:isInt a with
        | true=>rfl
        | false=>rw[sZ ha]at hr;cases hr
       obtain⟨j,rfl⟩:=cT ha
       have hj:0<=j/\j<m:=by
        by_cases h0:j<0
        ·rw[xB h0]at hr;cases hr
        ·by_cases h1:m<=j
         ·rw[zl h1]at hr;cases hr
         ·omega
       have h':(bG m (.int j) && (decide (0<=i) && decide (i<=1000)))=true:=h
       rw[hr]at h'
       simp at h'
       exact⟨(j,i),⟨p,rfl,e⟩,hj.1,hj.2,h'.1,h'.2⟩
    ·rw[pM hl]at h
     cases h
   | _=>simp only[cF,e]at h;cases h
 | _=>cases h
theorem tj{H:Hp}{m:Int}{v:V}{x:Bfs.Pl}(h:ck H v x)(hi:dM m x):cF H m v=true:=by
 obtain⟨p,rfl,h⟩:=h
 rw[gU h]
 show(bG m (.int x.1) && (decide (0<=x.2) && decide (x.2<=1000)))=true
 rw[mM hi.1 hi.2.1,decide_eq_true hi.2.2.1,decide_eq_true hi.2.2.2]
 rfl
theorem ck.eq{H:Hp}{v:V}{x y:Bfs.Pl}(h:ck H v x)(h':ck H v y):x=y:=by
 obtain⟨p,rfl,h⟩:=h
 obtain⟨p',e,h'⟩:=h'
 cases e
 have z:some (HO.tup [V.int x.1,V.int x.2])=some (HO.tup [V.int y.1,V.int y.2]):=h.symm.trans h'
 simp at z
 exact Prod.ext z.1 z.2
theorem ou{H H':Hp}(e:Ext H H'){m:Int}{v:V}(h:Kn H 1 v):cF H' m v=cF H m v:=by
 obtain⟨n,hn⟩:=h.1
 rcases fK hn with⟨p,xs,rfl,hp,_⟩ | ⟨_,hno⟩
 ·rw[gU hp,gU (e _ _ hp)]
 ·rw[lu hno,lu]
  intro p xs hv hp
  subst hv
  rcases hn with⟨_,ys,hy⟩ | ⟨_,ys,hy⟩
  ·have:=e _ _ hy
   rw[hp]at this
   cases this
  ·exact hno p _ rfl hy
def je(H:Hp)(m:Int)(ws:List Way)(ts:List StT)(va vo:V):Prop:=cls ws ts/\∃x1 x2 t1 t2,ck H va x1/\ck H vo x2/\dM m x1/\dM m x2/\ts[x1.1.toNat]?=some t1/\ts[x2.1.toNat]?=some t2/\t1.f x1.2.toNat=true/\t2.f x2.2.toNat=false
theorem pJ{t:StT}{x:Int}(h:0<=x):mem t.b t.s t.o t.a x=t.f x.toNat:=by
 show _=mem t.b t.s t.o t.a (x.toNat:Int)
 rw[Int.toNat_of_nonneg h]
def pd(K:PySem.W.Frag):Sp:=fun vs H Q _=>∃v va vo tv,vs=[v,va,vo,tv]/\((se H v/\∀H',Ext H H'->Q (.bl false) H')\/∃m ws,bR H v m ws/\HOuse m ws ∧
 ((gg H m tv/\∀H',Ext H H'->Q (.bl false) H')\/∃ts,eE H m tv ts/\Kn H 1 va/\Kn H 1 vo/\∀r H',Ext H H'->(r=true↔je H m ws ts va vo)->Q (.bl r) H'))
abbrev ik:Stmt:=stq 39
theorem nP:FnScope ["house","place","goal","stairs"] ["house","place","goal","stairs"] (aJ ik):=⟨rfl,rfl,rfl,by decide +kernel,rfl,by decide +kernel,by decide +kernel⟩
theorem yB{P:Program}{w:World}{K:PySem.W.Frag}{mg:Str->Option Value}{base:Heap}(D:Dfn K mg "sees_never" ik ["house","place","goal","stairs"])(T:Blt mg)(C_holds:Cal P w K mg base "holds" 7 ["stair","x"] (mN K))(C_is_near_place:Cal P w K mg base "is_near_place" 3 ["thing","house"] (oZ K))(C_sees_closed:Cal P w K mg base "sees_closed" 9 ["house","stairs"] (j7 K)):Cal P w K mg base "sees_never" 10 ["house","place","goal","stairs"] (pd K):=by
 have nd:=(nP).nd
 refine D.ok nP (fun vs H Q E h=>?_) (fun X hX H vs Q E h=>?_)
 ·obtain⟨v,va,vo,tv,rfl,_⟩:=h;rfl
 ·obtain⟨f,cdv,A,outer,s,H0,E0,rfl,hr⟩:=hX
  obtain⟨v,va,vo,tv,rfl,h⟩:=h
  refine⟨_,(ai (aT (PW.pt (bS (bI (bj (aw C_sees_closed hr (aa (pv 0) (aa (pv 3) af))))) (bS (bI (bj (aw C_is_near_place hr (aa (pv 1) (aa (pv 0) af))))) (cA (bI (bj (aw C_is_near_place hr (aa (pv 2) (aa (pv 0) af))))))))) (ao (ax aW)) aM)
    (ao (ax (bQ (aw C_holds hr (aa (ak (aD K) (pv 3) (ak (aG K) (pv 1) ae (fun _ _=>rfl)) (fun _ _=>rfl)) (aa (ak (aG K) (pv 1) ae (fun _ _=>rfl)) af))) (cp (fT (aw C_holds hr (aa (ak (aD K) (pv 3) (ak (aG K) (pv 2) ae (fun _ _=>rfl)) (fun _ _=>rfl)) (aa (ak (aG K) (pv 2) ae (fun _ _=>rfl)) af))))))))),?_⟩
  walk_at "rd"
  rcases h with⟨hno,q⟩ | ⟨m,ws,hv,ok,h⟩
  ·refine⟨v,tv,rfl,.inl ⟨hno,fun H1 e1=>?_⟩⟩
   walk_at "rd"
   refine ar ?_
   walk_at "rd"
   exact q H1 e1
  rcases h with⟨hb,q⟩ | ⟨ts,hg,hkp,hkg,q⟩
  ·refine⟨v,tv,rfl,.inr ⟨m,ws,hv,ok,.inl ⟨hb,fun H1 e1=>?_⟩⟩⟩
   walk_at "rd"
   refine ar ?_
   walk_at "rd"
   exact q H1 e1
  ·refine⟨v,tv,rfl,.inr ⟨m,ws,hv,ok,.inr ⟨ts,hg,fun r H1 e1 hr=>?_⟩⟩⟩
   walk_at "rd"
   cases r with
   | false=>
    refine ar ?_
    walk_at "rd"
    refine q false H1 e1 ⟨fun h=>(nomatch h),fun h=>?_⟩
    have:=hr.mpr h.1
    cases this
   | true=>
    have hc:=hr.mp rfl
    refine aq ?_
    walk_at "rd"
    obtain⟨hp,hq,rfl,hh,hw⟩:=id (hv.ext e1)
    refine⟨va,hp,.ref hq,m,rfl,hh,hkp.ext e1,?_⟩
    rw[ou e1 hkp]
    walk_at "rd"
    cases hpv:cF H m va with
    | false=>
     refine ar ?_
     walk_at "rd"
     refine q false H1 e1 ⟨fun h=>(nomatch h),fun⟨_,x1,x2,t1,t2,h1,h2,i1,i2,_⟩=>?_⟩
     rw[tj h1 i1]at hpv
     cases hpv
    | true=>
     refine aq ?_
     walk_at "rd"
     refine⟨vo,hp,.ref hq,m,rfl,hh,hkg.ext e1,?_⟩
     rw[ou e1 hkg]
     walk_at "rd"
     cases hgv:cF H m vo with
     | false=>
      refine ar ?_
      walk_at "rd"
      refine q false H1 e1 ⟨fun h=>(nomatch h),fun⟨_,x1,x2,t1,t2,h1,h2,i1,i2,_⟩=>?_⟩
      rw[tj h2 i2]at hgv
      cases hgv
     | true=>
      refine aq ?_
      obtain⟨x1,hx1,hi1⟩:=og hpv
      obtain⟨x2,hx2,hi2⟩:=og hgv
      obtain⟨l,xs,rfl,hl,hn,hm,hs,ht⟩:=hg.ext e1
      have j1:=hi1.1
      have j2:=hi1.2.1
      have j3:=hi1.2.2.1
      have j4:=hi2.1
      have j5:=hi2.2.1
      have j6:=hi2.2.2.1
      have g1:x1.1.toNat<xs.length:=by omega
      have g2:x2.1.toNat<xs.length:=by omega
      obtain⟨t1,ht1,hs1⟩:=cx hs (List.getElem?_eq_getElem g1)
      obtain⟨t2,ht2,hs2⟩:=cx hs (List.getElem?_eq_getElem g2)
      have hN:∀r,(r=true↔t1.f x1.2.toNat=true/\t2.f x2.2.toNat=false)->(r=true↔je H m ws ts va vo):=by
       intro r hr
       rw[hr]
       constructor
       ·rintro⟨k1,k2⟩
        exact⟨hc,x1,x2,t1,t2,hx1,hx2,hi1,hi2,ht1,ht2,k1,k2⟩
       ·rintro⟨_,y1,y2,u1,u2,f1,f2,_,_,f5,f6,f7,f8⟩
        cases hx1.eq f1
        cases hx2.eq f2
        rw[ht1]at f5
        rw[ht2]at f6
        cases f5
        cases f6
        exact⟨f7,f8⟩
      obtain⟨p1,rfl,hp1⟩:=hx1.ext e1
      obtain⟨p2,rfl,hp2⟩:=hx2.ext e1
      walk_at "rd"
      refine aE (ah.of hp1) (v:=.int x1.1) rfl ?_
      walk_at "rd"
      refine aB (ag.of hl) (jH j1 (List.getElem?_eq_getElem g1)) ?_
      walk_at "rd"
      refine aE (ah.of hp1) (v:=.int x1.2) rfl ?_
      walk_at "rd"
      refine⟨_,x1.2,_,_,_,_,rfl,hs1.1,hs1.2,?_⟩
      rw[pJ j3]
      refine rd_exb ?_
      cases hf:t1.f x1.2.toNat with
      | false=>
       refine aq ?_
       exact q false H1 e1 (hN _ (by simp[hf]))
      | true=>
       refine ar ?_
       walk_at "rd"
       refine aE (ah.of hp2) (v:=.int x2.1) rfl ?_
       walk_at "rd"
       refine aB (ag.of hl) (jH j4 (List.getElem?_eq_getElem g2)) ?_
       walk_at "rd"
       refine aE (ah.of hp2) (v:=.int x2.2) rfl ?_
       walk_at "rd"
       refine⟨_,x2.2,_,_,_,_,rfl,hs2.1,hs2.2,?_⟩
       walk_at "rd"
       rw[pJ j6]
       exact q _ H1 e1 (hN _ (by simp[hf]))
def red(b s x:Nat):Nat:=if x<b then x else b+(x-b) % s
theorem fE{b s x:Nat}(h:x<b+s):red b s x=x:=by
 unfold red
 split
 ·rfl
 ·rw[Nat.mod_eq_of_lt (by omega)]
  omega
theorem pW{b s x:Nat}(h:b+s<=x):red b s (x-s)=red b s x:=by
 unfold red
 rw[if_neg (by omega),if_neg (by omega),show x-b=x-s-b+s by omega,Nat.add_mod_right]
theorem gM{b s x:Nat}(hs:1<=s):red b s x<b+s:=by
 unfold red
 split
 ·omega
 ·have:=Nat.mod_lt (x-b) hs
  omega
def Goes(d:Str)(b s x:Nat)(P:Nat->Prop):Prop:=(d = "up"->P (if x+1=b+s then b else x+1))/\(d = "down"->(0<x->P (x-1))/\(x=b->P (b+s-1)))/\(d = "stay"\/d = "zero"/\x=0->P x)
theorem Goes.imp{d:Str}{b s x:Nat}{P R:Nat->Prop}(h:Goes d b s x P)(i:∀y,P y->R y):Goes d b s x R:=
 ⟨fun e=>i _ (h.1 e),fun e=>⟨fun z=>i _ ((h.2.1 e).1 z),fun z=>i _ ((h.2.1 e).2 z)⟩,fun e=>i _ (h.2.2 e)⟩
def kY(ws:List Way)(b s:Nat)(M:Nat->Nat->Bool):Prop:=∀w∈ws,∀x,x<b+s->M w.room.toNat x=true->Goes w.deed b s x fun y=>M w.other.toNat y=true
def Rows(H:Hp)(q:Addr)(rs:List Addr)(n:Nat)(M:Nat->Nat->Bool):Prop:=H q=some (.lst (rs.map V.ref))/\∀(i:Nat) (r:Addr),rs[i]?=some r->H r=some (.lst (aQ n (M i)))
theorem Rows.ext{H H':Hp}(e:Ext H H'){q:Addr}{rs:List Addr}{n:Nat}{M:Nat->Nat->Bool}(h:Rows H q rs n M):Rows H' q rs n M:=⟨e _ _ h.1,fun i r hi=>e _ _ (h.2 i r hi)⟩
structure Fr(H:Hp)(q wl:Addr)(rs:List Addr):Prop where
 q0:H q=none
 w0:H wl=none
 r0:∀r∈rs,H r=none
 nd:rs.Nodup
 qw:q≠wl
 qr:q∉rs
 wr:wl∉rs
abbrev mZ(z:Nat×Nat):Bfs.Pl:=(((z.1:Nat):Int),((z.2:Nat):Int))
structure MI(H H':Hp)(q wl:Addr)(rs:List Addr)(n:Nat)(M:Nat->Nat->Bool)(ps:List Addr)(zs:List (Nat×Nat)):Prop where
 e:Ext H H'
 rows:Rows H' q rs n M
 wt:H' wl=some (.lst (ps.map V.ref))
 pl:Paired (fun a z=>cM H' a (mZ z)) ps zs
theorem MI.ext{H H' H2:Hp}{q wl:Addr}{rs:List Addr}{n:Nat}{M:Nat->Nat->Bool}{ps:List Addr}{zs:List (Nat×Nat)}(h:MI H H' q wl rs n M ps zs)(e:Ext H' H2):MI H H2 q wl rs n M ps zs:=
 ⟨h.e.trans e,h.rows.ext e,e _ _ h.wt,Paired.imp' (fun _ _ z=>e _ _ z) h.pl⟩
theorem mL{α β:Type}{R:α->β->Prop}:∀{xs:List α} {ys:List β} {x:α} {y:β},Paired R xs ys->R x y->Paired R (xs++[x]) (ys++[y])
 | _,_,_,_,.nil,h=>.cons h .nil
 | _,_,_,_,.cons a t,h=>.cons a (mL t h)
theorem er{α β:Type}{R:α->β->Prop}:∀{xs:List α} {ys:List β},Paired R xs ys->xs.length=ys.length
 | _,_,.nil=>rfl
 | _,_,.cons _ t=>by rw[List.length_cons,List.length_cons,er t]
theorem sL{α β:Type}{R:α->β->Prop}:∀{xs:List α} {ys:List β} {x:α} {y:β},Paired R (xs++[x]) (ys++[y])->xs.length=ys.length->Paired R xs ys/\R x y
 | [],[],_,_,.cons h _,_=>⟨.nil,h⟩
 | _::_,_::_,_,_,.cons h t,e=>by
  obtain⟨h1,h2⟩:=sL t (by simpa using e)
  exact⟨.cons h h1,h2⟩
theorem MI.push{H H':Hp}{q wl:Addr}{rs:List Addr}{n:Nat}{M:Nat->Nat->Bool}{ps:List Addr}{zs:List (Nat×Nat)}(h:MI H H' q wl rs n M ps zs)(f:Fr H q wl rs){p:Addr}{z:Nat×Nat}(hp:cM H' p (mZ z)):MI H (upd H' wl (.lst (ps.map V.ref++[.ref p]))) q wl rs n M (ps++[p]) (zs++[z]):=by
 have nt:∀ys,HO.lst (ps.map V.ref)≠.tup ys:=fun ys z=>by cases z
 refine⟨cj h.e f.w0,⟨?_,fun i r hi=>?_⟩,by rw[aO,List.map_append];rfl,mL (Paired.imp' (fun _ _ y=>y.put h.wt nt) h.pl) (hp.put h.wt nt)⟩
 ·rw[aL f.qw]
  exact h.rows.1
 ·have hm:=List.mem_of_getElem? hi
  rw[aL (show r≠wl from fun z=>f.wr (z ▸ hm))]
  exact h.rows.2 i r hi
theorem MI.pop{H H':Hp}{q wl:Addr}{rs:List Addr}{n:Nat}{M:Nat->Nat->Bool}{ps:List Addr}{zs:List (Nat×Nat)}(f:Fr H q wl rs){p:Addr}{z:Nat×Nat}(h:MI H H' q wl rs n M (ps++[p]) (zs++[z]))(hl:ps.length=zs.length):cM (upd H' wl (.lst (ps.map V.ref))) p (mZ z)/\MI H (upd H' wl (.lst (ps.map V.ref))) q wl rs n M ps zs:=by
 have nt:∀ys,HO.lst ((ps++[p]).map V.ref)≠.tup ys:=fun ys z=>by cases z
 obtain⟨h1,h2⟩:=sL h.pl hl
 refine⟨h2.put h.wt nt,cj h.e f.w0,⟨?_,fun i r hi=>?_⟩,aO,Paired.imp' (fun _ _ y=>y.put h.wt nt) h1⟩
 ·rw[aL f.qw]
  exact h.rows.1
 ·have hm:=List.mem_of_getElem? hi
  rw[aL (show r≠wl from fun z=>f.wr (z ▸ hm))]
  exact h.rows.2 i r hi
def put2(M:Nat->Nat->Bool)(i x:Nat):Nat->Nat->Bool:=fun j y=>if j=i/\y=x then true else M j y
theorem MI.mark{H H':Hp}{q wl:Addr}{rs:List Addr}{n:Nat}{M:Nat->Nat->Bool}{ps:List Addr}{zs:List (Nat×Nat)}(h:MI H H' q wl rs n M ps zs)(f:Fr H q wl rs){i x:Nat}{r:Addr}(hi:rs[i]?=some r)(hx:x<n):MI H (upd H' r (.lst ((aQ n (M i)).set x (.bl true)))) q wl rs n (put2 M i x) ps zs:=by
 have hr:=h.rows.2 i r hi
 have nt:∀ys,HO.lst (aQ n (M i))≠.tup ys:=fun ys z=>by cases z
 have hm:=List.mem_of_getElem? hi
 refine⟨cj h.e (f.r0 r hm),⟨?_,fun j r' hj=>?_⟩,?_,Paired.imp' (fun _ _ y=>y.put hr nt) h.pl⟩
 ·rw[aL (show q≠r from fun z=>f.qr (z ▸ hm))]
  exact h.rows.1
 ·by_cases hji:j=i
  ·subst hji
   rw[hi]at hj
   cases hj
   rw[aO,gF _ _ hx]
   congr 2
   refine cC fun y hy=>?_
   unfold put2
   by_cases hyx:y=x<;>simp[hyx]
  ·have hne:r'≠r:=by
    intro hc
    subst hc
    have l1:=(List.getElem?_eq_some_iff.mp hi).1
    have l2:=(List.getElem?_eq_some_iff.mp hj).1
    have e1:=(List.getElem?_eq_some_iff.mp hi).2
    have e2:=(List.getElem?_eq_some_iff.mp hj).2
    have pw:=List.pairwise_iff_getElem.mp f.nd
    rcases Nat.lt_or_gt_of_ne hji with h' | h'
    ·exact pw j i l2 l1 h' (e2.trans e1.symm)
    ·exact pw i j l1 l2 h' (e1.trans e2.symm)
   rw[aL hne,h.rows.2 j r' hj]
   congr 2
   refine cC fun y hy=>?_
   unfold put2
   rw[if_neg (fun z=>hji z.1)]
 ·rw[aL (show wl≠r from fun z=>f.wr (z ▸ hm))]
  exact h.wt
theorem rp{α:Type}{p p':α->Bool}(hi:∀y,p' y=true->p y=true){a:α}(ha:p a=true)(ha':p' a=false):∀{L:List α},a∈L->L.countP p'<L.countP p
 | y::L,h=>by
  have hm:L.countP p'<=L.countP p:=List.countP_mono_left (fun y _=>hi y)
  rcases List.mem_cons.mp h with rfl | h
  ·rw[List.countP_cons_of_neg (by rw[ha'];decide),List.countP_cons_of_pos ha]
   omega
  ·have ih:=rp hi ha ha' h
   rw[List.countP_cons,List.countP_cons]
   by_cases hp:p' y=true
   ·rw[if_pos hp,if_pos (hi y hp)]
    omega
   ·rw[if_neg hp]
    omega
def i8:List (Nat×Nat):=(List.range 12).flatMap fun i=>(List.range 110).map fun x=>(i,x)
theorem vz{i x:Nat}(hi:i<12)(hx:x<110):(i,x)∈i8:=by
 unfold i8
 rw[List.mem_flatMap]
 exact⟨i,List.mem_range.mpr hi,List.mem_map.mpr ⟨x,List.mem_range.mpr hx,rfl⟩⟩
theorem uT:i8.length=1320:=by decide +kernel
def un(M:Nat->Nat->Bool):Nat:=i8.countP fun z=>!M z.1 z.2
theorem tH(M:Nat->Nat->Bool):un M<=1320:=by
 rw[←uT]
 exact List.countP_le_length
theorem yK{M:Nat->Nat->Bool}{i x:Nat}(hi:i<12)(hx:x<110)(h:M i x=false):un (put2 M i x)<un M:=by
 refine rp (a:=(i,x)) (fun y hy=>?_) (by simp[h]) (by simp[put2]) (vz hi hx)
 unfold put2 at hy
 split at hy
 ·cases hy
 ·exact hy
def fi(ws:List Way)(b s:Nat)(M:Nat->Nat->Bool)(zs:List (Nat×Nat)):Prop:=∀(k:Nat) (w:Way),ws[k]?=some w->∀x,M w.room.toNat x=true->Goes w.deed b s x fun y=>M w.other.toNat y=true\/(w.other.toNat,y)∈zs
def HX(ws:List Way)(b s:Nat)(M:Nat->Nat->Bool)(zs:List (Nat×Nat))(i0 x0 j:Nat):Prop:=∀(k:Nat) (w:Way),ws[k]?=some w->∀x,M w.room.toNat x=true->(w.room.toNat=i0/\x=x0/\j<=k)\/Goes w.deed b s x fun y=>M w.other.toNat y=true\/(w.other.toNat,y)∈zs
theorem HX.step{ws:List Way}{b s:Nat}{M:Nat->Nat->Bool}{zs zs':List (Nat×Nat)}{i0 x0 j:Nat}(h:HX ws b s M zs i0 x0 j)(hz:∀z∈zs,z∈zs'){w:Way}(hw:ws[j]?=some w)(hg:w.room.toNat=i0->Goes w.deed b s x0 fun y=>M w.other.toNat y=true\/(w.other.toNat,y)∈zs'):HX ws b s M zs' i0 x0 (j+1):=by
 intro k u hu x hx
 rcases h k u hu x hx with⟨h1,h2,h3⟩ | h
 ·by_cases hk:j=k
  ·subst hk
   rw[hw]at hu
   cases hu
   subst h2
   exact .inr (hg h1)
  ·exact .inl ⟨h1,h2,by omega⟩
 ·exact .inr (h.imp fun y hy=>hy.imp id (hz _))
theorem HX.all{ws:List Way}{b s:Nat}{M:Nat->Nat->Bool}{zs:List (Nat×Nat)}{i0 x0:Nat}(h:HX ws b s M zs i0 x0 ws.length):fi ws b s M zs:=by
 intro k u hu x hx
 rcases h k u hu x hx with⟨_,_,h3⟩ | h
 ·have:=(List.getElem?_eq_some_iff.mp hu).1
  omega
 ·exact h
theorem fi.drop{ws:List Way}{b s:Nat}{M:Nat->Nat->Bool}{zs:List (Nat×Nat)}{z:Nat×Nat}(h:fi ws b s M (zs++[z]))(hz:M z.1 z.2=true):fi ws b s M zs:=by
 intro k u hu x hx
 refine(h k u hu x hx).imp fun y hy=>?_
 rcases hy with hy | hy
 ·exact .inl hy
 ·rcases List.mem_append.mp hy with hy | hy
  ·exact .inr hy
  ·rw[←List.mem_singleton.mp hy]at hz
   exact .inl hz
theorem fi.mark{ws:List Way}{b s:Nat}{M:Nat->Nat->Bool}{zs:List (Nat×Nat)}{i0 x0:Nat}(h:fi ws b s M (zs++[(i0,x0)])):HX ws b s (put2 M i0 x0) zs i0 x0 0:=by
 intro k u hu x hx
 by_cases hc:u.room.toNat=i0/\x=x0
 ·exact .inl ⟨hc.1,hc.2,Nat.zero_le _⟩
 ·right
  unfold put2 at hx
  rw[if_neg hc]at hx
  refine(h k u hu x hx).imp fun y hy=>?_
  rcases hy with hy | hy
  ·left
   unfold put2
   split
   ·rfl
   ·exact hy
  ·rcases List.mem_append.mp hy with hy | hy
   ·exact .inr hy
   ·have:=List.mem_singleton.mp hy
    left
    unfold put2
    rw[if_pos ⟨(Prod.mk.inj this).1,(Prod.mk.inj this).2⟩]
theorem zP{M:Nat->Nat->Bool}{i x j y:Nat}(h:M j y=true):put2 M i x j y=true:=by
 unfold put2
 split
 ·rfl
 ·exact h
theorem ur{M:Nat->Nat->Bool}{i x:Nat}:put2 M i x i x=true:=by simp[put2]
theorem gG{zs:List (Nat×Nat)}{r n:Nat}(h:∀z∈zs,z.1<r/\z.2<n){z:Nat×Nat}(hz:z.1<r/\z.2<n):∀u∈zs++[z],u.1<r/\u.2<n:=by
 intro u hu
 rcases List.mem_append.mp hu with hu | hu
 ·exact h u hu
 ·rw[List.mem_singleton.mp hu]
  exact hz
def oR(K:PySem.W.Frag):Sp:=fun vs H Q _=>∃hv m ws b s l as xs,vs=[hv,.int (b:Nat),.int (s:Nat),.ref l]/\bR H hv m ws/\HOuse m ws/\1<=s/\b+s<=110/\H l=some (.lst (List.map V.ref as))/\Paired (cM H) as xs/\xs.length<=10/\(∀x∈xs,dM m x) ∧
 ∀q rs M H',Ext H H'->H q=none->(rs.length:Int)=m->Rows H' q rs (b+s) M->kY ws b s M->(∀x∈xs,M x.1.toNat (red b s x.2.toNat)=true)->Q (.ref q) H'
abbrev jN:Stmt:=stq 55
theorem pN:FnScope ["_law_house_here","_law_base","_law_step","_law_starts","_law_marks_here","_law_waiting","_law_room","_law_number","_law_here","_law_x","_law_deed","_law_other","_law_sign"] ["_law_house_here","_law_base","_law_step","_law_starts"] (aJ jN):=⟨rfl,rfl,rfl,by decide +kernel,rfl,by decide +kernel,by decide +kernel⟩
theorem yd{P:Program}{w:World}{K:PySem.W.Frag}{mg:Str->Option Value}{base:Heap}(D:Dfn K mg "_law_marks" jN ["_law_house_here","_law_base","_law_step","_law_starts"])(T:Blt mg):Cal P w K mg base "_law_marks" 1 ["_law_house_here","_law_base","_law_step","_law_starts"] (oR K):=by
 have nd:=(pN).nd
 refine D.ok pN (fun vs H Q E h=>?_) (fun X hX H vs Q E h=>?_)
 ·obtain⟨hv,m,ws,b,s,l,as,xs,rfl,_⟩:=h;rfl
 ·obtain⟨f,cdv,A,outer,s,H0,E0,rfl,hr⟩:=hX
  obtain⟨vh,m,ws,b,s',l,as,xs,rfl,hv,ok,hs1,hbs,hl,hp,hxl,hin,q⟩:=h
  obtain⟨hp0,hq0,rfl,hh,hw⟩:=id hv
  obtain⟨bs,hbs0,hal⟩:=cE.al hw
  have m1:=ok.m1
  have m12:=ok.m12
  have hpl:=er hp
  refine⟨_,(@ai _ _ _ _ _ (jV (i:=4) ["_law_room"] [1,2] nd rfl (Or.inl rfl) (dH rfl T.range_ (@aa _ _ _ _ _ (@ak _ _ _ _ _ _ _ (aG K) (pv 0) ae (fun _ _=>rfl)) af rfl)) (fun _=>(aI (i:=0) (show(["_law_room","_law_base","_law_step"]:List Str).Nodup from by decide +kernel) rfl (Or.inl rfl) (Or.inr rfl))) (fun _=>dz) (fun _=>(aj jo (@bf _ _ _ _ (@aa _ _ _ _ _ aW af rfl)) (aj aF (pv 1) (pv 2)))))
    (@ai _ _ _ _ _ (@aA _ _ 5 _ _ _ _ nd rfl (Or.inl rfl) (@bf _ _ _ _ af) rfl (Or.inl rfl))
    (@ai _ _ _ _ _ (bL PassesOwn.never rfl (cZ K (pv 3)) (fj (n:=2) K rfl (bp (aI (i:=6) nd rfl (Or.inl rfl)) (bp (aI (i:=7) nd rfl (Or.inl rfl)) eD))) (@ai _ _ _ _ _ (gD PassesOwn.never (aH ia (pv 7) (aj aF (pv 1) (pv 2)) (aC _)) (@ao _ _ _ (@aA _ _ 7 _ _ _ _ nd rfl (Or.inl rfl) (aj bY (pv 7) (pv 2)) rfl (Or.inl rfl))))
    (@ao _ _ _ (bo (bF K PySem.F.plainAttrs_list PySem.F.slot_list_append PySem.F.type_list_append bE (pv 5) (@aa _ _ _ _ _ (@aX _ _ _ _ _ (@aa _ _ _ _ _ (pv 6) (@aa _ _ _ _ _ (pv 7) af rfl) rfl)) af rfl))))))
    (@ai _ _ _ _ _ (gD PassesOwn.never (aH ed (aP (cU K) rfl T.len_ PySem.boot_len (@aa _ _ _ _ _ (pv 5) af rfl)) ae (aC _)) (@ai _ _ _ _ _ (@dY _ _ _ _ _ _ (uj K PySem.F.plainAttrs_list PySem.F.slot_list_pop PySem.F.type_list_pop vM (pv 5)) (fj (n:=2) K rfl (bp (aI (i:=8) nd rfl (Or.inl rfl)) (bp (aI (i:=9) nd rfl (Or.inl rfl)) eD))) rfl rfl rfl)
    (@ao _ _ _ (bX (bI (bj (@ak _ _ _ _ _ _ _ (aD K) (@ak _ _ _ _ _ _ _ (aD K) (pv 4) (pv 8) (fun _ _=>rfl)) (pv 9) (fun _ _=>rfl)))) (@ai _ _ _ _ _ (@dY _ _ _ _ _ _ aW (ie (@ak _ _ _ _ _ _ _ (aD K) (pv 4) (pv 8) (fun _ _=>rfl)) (pv 9) set_list) rfl rfl rfl)
    (@ao _ _ _ (bL PassesOwn.never rfl (dw K (@ak _ _ _ _ _ _ _ (aG K) (pv 0) ae (fun _ _=>rfl))) (fj (n:=4) K rfl (bp (aI (i:=6) nd rfl (Or.inl rfl)) (bp (aI (i:=10) nd rfl (Or.inl rfl)) (bp (aI (i:=11) nd rfl (Or.inl rfl)) (bp (aI (i:=12) nd rfl (Or.inl rfl)) eD))))) (@ai _ _ _ _ _ (bX (PW.pt (fe (aH bu (pv 6) (pv 8) (aC _)) (fZ (aH bu (pv 10) aN (aC _))))) (@ao _ _ _ (bo (bF K PySem.F.plainAttrs_list PySem.F.slot_list_append PySem.F.type_list_append bE (pv 5) (@aa _ _ _ _ _ (@aX _ _ _ _ _ (@aa _ _ _ _ _ (pv 11) (@aa _ _ _ _ _ (@ak _ _ _ _ _ _ _ (aD K) (@bf _ _ _ _ (@aa _ _ _ _ _ (aj aF (pv 9) ae) (@aa _ _ _ _ _ (pv 1) af rfl) rfl)) (de vD rfl T.int_ PyProof.Rows.boot_int (@aa _ _ _ _ _ (dh bu (aj aF (pv 9) ae) (aj aF (pv 1) (pv 2)) (aC _)) af rfl)) (fun _ _=>rfl)) af rfl) rfl)) af rfl)))) aM)
    (@ai _ _ _ _ _ (bX (PW.pt (fe (aH bu (pv 6) (pv 8) (aC _)) (fZ (aH bu (pv 10) aN (aC _))))) (@ai _ _ _ _ _ (bX (aH ed (pv 9) ae (aC _)) (@ao _ _ _ (bo (bF K PySem.F.plainAttrs_list PySem.F.slot_list_append PySem.F.type_list_append bE (pv 5) (@aa _ _ _ _ _ (@aX _ _ _ _ _ (@aa _ _ _ _ _ (pv 11) (@aa _ _ _ _ _ (aj bY (pv 9) ae) af rfl) rfl)) af rfl)))) aM)
    (@ao _ _ _ (bX (aH bu (pv 9) (pv 1) (aC _)) (@ao _ _ _ (bo (bF K PySem.F.plainAttrs_list PySem.F.slot_list_append PySem.F.type_list_append bE (pv 5) (@aa _ _ _ _ _ (@aX _ _ _ _ _ (@aa _ _ _ _ _ (pv 11) (@aa _ _ _ _ _ (aj bY (aj aF (pv 1) (pv 2)) ae) af rfl) rfl)) af rfl)))) aM))) aM)
    (@ao _ _ _ (bX (PW.pt (fe (aH bu (pv 6) (pv 8) (aC _)) (fZ (PW.pt (bS (aH bu (pv 10) aN (aC _)) (cA (PW.pt (fe (aH bu (pv 10) aN (aC _)) (fZ (aH bu (pv 9) ae (aC _))))))))))) (@ao _ _ _ (bo (bF K PySem.F.plainAttrs_list PySem.F.slot_list_append PySem.F.type_list_append bE (pv 5) (@aa _ _ _ _ _ (@aX _ _ _ _ _ (@aa _ _ _ _ _ (pv 11) (@aa _ _ _ _ _ (pv 9) af rfl) rfl)) af rfl)))) aM))))))) aM))))
    (@ao _ _ _ (@ax _ _ _ _ (pv 4))))))),?_⟩
  walk_at "rd"
  refine aE (ah.of hh) (v:=.int m) rfl ?_
  walk_at "rd"
  refine dN (by omega) ?_
  refine kI (fun i ys H'=>Ext H H'/\∃rs:List Addr,ys=rs.map V.ref/\rs.length=i/\rs.Nodup/\∀r∈rs,H r=none/\H' r=some (.lst (aQ (b+s') fun _=>false))) (cz (by omega)) ⟨Ext.rfl' _,[],rfl,rfl,List.nodup_nil,fun r hr=>by cases hr⟩ (fun i ys H' _ h=>by obtain⟨_,rs,rfl,h,_⟩:=h;rw[List.length_map,h];exact Nat.le_refl _) ?_ ?_
  ·rintro i ys H1 hi ⟨e1,rs,rfl,hr,hnd,hrs⟩
   walk_at "rd"
   refine ar ?_
   walk_at "rd"
   refine⟨ay (by simp),av fun u1 H2 e2 hu1 _=>?_⟩
   walk_at "rd"
   refine kf hu1 (by omega) (ay (by simp;omega)) (av fun u2 H3 e3 hu2 hn2=>?_)
   rw[mn,show ((b:Int)+(s':Int)).toNat=b+s' by omega]at hu2
   have e23:=e2.trans e3
   have hn1:H1 u2=none:=e2.none hn2
   refine⟨e1.trans e23,rs++[u2],by rw[List.map_append];rfl,by rw[List.length_append,hr];rfl,?_,?_⟩
   ·rw[List.nodup_append]
    refine⟨hnd,by simp,fun r hr' u hu=>?_⟩
    rw[List.mem_singleton.mp hu]
    intro hc
    subst hc
    have:=(hrs r hr').2
    rw[hn1]at this
    cases this
   ·intro r hr'
    rcases List.mem_append.mp hr' with hr' | hr'
    ·exact⟨(hrs r hr').1,e23 _ _ (hrs r hr').2⟩
    ·rw[List.mem_singleton.mp hr']
     exact⟨e1.none hn1,hu2⟩
  ·rintro ys H1 qa ⟨e1,rs,rfl,hr,hnd,hrs⟩ hqn
   have e2:Ext H (upd H1 qa (.lst (rs.map V.ref))):=e1.trans (bC hqn)
   have hq2:(upd H1 qa (.lst (rs.map V.ref))) qa=some (.lst (rs.map V.ref)):=aO
   have hrs2:∀r∈rs,(upd H1 qa (.lst (rs.map V.ref))) r=some (.lst (aQ (b+s') fun _=>false)):=fun r hr'=>(bC hqn) _ _ (hrs r hr').2
   have hqr:qa∉rs:=fun hc=>by have:=(hrs qa hc).2;rw[hqn]at this;cases this
   have hqH:H qa=none:=e1.none hqn
   generalize upd H1 qa (.lst (rs.map V.ref))=H2 at e2 hq2 hrs2 ⊢
   walk_at "rd"
   refine⟨ay (by simp),av fun wl H3 e3 hwl hwn=>?_⟩
   have fr:Fr H qa wl rs:=⟨hqH,e2.none hwn,fun r hr'=>(hrs r hr').1,hnd,fun hc=>(by rw[hc,hwn]at hq2;cases hq2),hqr,fun hc=>(by have:=hrs2 wl hc;rw[hwn]at this;cases this)⟩
   have hrm:(rs.length:Int)=m:=by omega
   have mi0:MI H H3 qa wl rs (b+s') (fun _ _=>false) [] []:=⟨e2.trans e3,⟨e3 _ _ hq2,fun i r hi=>e3 _ _ (hrs2 r (List.mem_of_getElem? hi))⟩,hwl,.nil⟩
   clear hrs hrs2 hq2 hwl hwn hqn e1 e2 e3 hqH hqr hnd
   walk_at "rd"
   refine dy (ag.of (mi0.e _ _ hl)) ?_
   refine forL (xs:=List.map V.ref as) (fun i σ H'=>∃k1 k2 k3 k4 k5 k6 k7 ps,σ=[some (.ref hp0),some (.int (b:Nat)),some (.int (s':Nat)),some (.ref l),some (.ref qa),some (.ref wl),k1,k2,k3,k4,k5,k6,k7]/\MI H H' qa wl rs (b+s') (fun _ _=>false) ps ((xs.take i).map fun x=>(x.1.toNat,red b s' x.2.toNat))) ⟨_,_,_,_,_,_,_,[],rfl,mi0⟩ (fun i σ H' _ h=>by obtain⟨_,_,_,_,_,_,_,ps,_,h⟩:=h;exact ag.of (h.e _ _ hl)) ?_ ?_
   ·rintro i v σ H4 hx ⟨k1,k2,k3,k4,k5,k6,k7,ps,rfl,mi⟩
    rw[List.getElem?_map]at hx
    obtain⟨a,ha,rfl⟩:=Option.map_eq_some_iff.mp hx
    obtain⟨x,hxi,hxa⟩:=cx hp ha
    have hix:=hin x (List.mem_of_getElem? hxi)
    obtain⟨i1,i2,i3,i4⟩:=hix
    refine fo (ah.of (mi.e _ _ hxa)) rfl ?_
    walk_at "rd"
    refine gN (fun mm σ H'=>H'=H4/\∃y:Nat,σ=[some (.ref hp0),some (.int (b:Nat)),some (.int (s':Nat)),some (.ref l),some (.ref qa),some (.ref wl),some (.int x.1),some (.int (y:Nat)),k3,k4,k5,k6,k7]/\red b s' y=red b s' x.2.toNat/\mm=y)
     (fun σ H'=>H'=H4/\∃y:Nat,σ=[some (.ref hp0),some (.int (b:Nat)),some (.int (s':Nat)),some (.ref l),some (.ref qa),some (.ref wl),some (.int x.1),some (.int (y:Nat)),k3,k4,k5,k6,k7]/\y=red b s' x.2.toNat) x.2.toNat ⟨rfl,x.2.toNat,by rw[Int.toNat_of_nonneg i3];rfl,rfl,rfl⟩ ?_ ?_
    ·rintro mm σ H5 ⟨rfl,y,rfl,hy,rfl⟩
     walk_at "rd"
     by_cases hc:(b:Int)+(s':Int)<=(mm:Int)
     ·rw[decide_eq_true hc]
      refine ar ⟨_,fun _ _ h=>h,?_⟩
      walk_at "rd"
      refine⟨mm-s',by omega,rfl,mm-s',?_,?_,rfl⟩
      ·rw[show ((mm-s':Nat):Int)=(mm:Int)-(s':Int) by omega]
       rfl
      ·rw[pW (by omega)]
       exact hy
     ·rw[decide_eq_false hc]
      exact aq ⟨rfl,mm,rfl,by rw[←hy,fE (by omega)]⟩
    ·rintro σ H5 ⟨rfl,y,rfl,hy⟩
     have hpz:=er mi.pl
     rw[List.length_map,List.length_take]at hpz
     walk_at "rd"
     refine⟨cB (ag.of mi.wt),?_⟩
     walk_at "rd"
     refine⟨ay (by simp),av fun t H6 e6 ht _=>?_⟩
     walk_at "rd"
     refine bB (e6 _ _ mi.wt) (by rw[List.length_map];exact Nat.lt_of_le_of_lt (show ps.length<=1000 by omega) (by decide)) ?_
     walk_at "rd"
     refine⟨_,_,_,_,_,_,_,ps++[t],rfl,?_⟩
     rw[List.take_add_one,hxi,List.map_append]
     refine(mi.ext e6).push fr (z:=(x.1.toNat,red b s' x.2.toNat)) ?_
     show H6 t=_
     rw[ht,hy]
     show some (HO.tup [V.int x.1,V.int _])=some (HO.tup [V.int (x.1.toNat:Nat),V.int _])
     rw[Int.toNat_of_nonneg i1]
   ·rintro σ H4 ⟨k1,k2,k3,k4,k5,k6,k7,ps,rfl,mi⟩
    rw[List.length_map,hpl,List.take_length]at mi
    have hfew:=ok.few
    have hbl:bs.length=ws.length:=hal.1
    walk_at "rd"
    refine gN (fun mm σ H'=>∃k1 k2 k3 k4 k5 k6 k7 M ps zs,σ=[some (.ref hp0),some (.int (b:Nat)),some (.int (s':Nat)),some (.ref l),some (.ref qa),some (.ref wl),k1,k2,k3,k4,k5,k6,k7]/\MI H H' qa wl rs (b+s') M ps zs/\(∀z∈zs,z.1<rs.length/\z.2<b+s')/\fi ws b s' M zs/\(∀x∈xs,M x.1.toNat (red b s' x.2.toNat)=true\/(x.1.toNat,red b s' x.2.toNat)∈zs)/\mm=501*un M+zs.length/\mm<=800000)
     (fun σ H'=>∃k1 k2 k3 k4 k5 k6 k7 M,σ=[some (.ref hp0),some (.int (b:Nat)),some (.int (s':Nat)),some (.ref l),some (.ref qa),some (.ref wl),k1,k2,k3,k4,k5,k6,k7]/\Ext H H'/\Rows H' qa rs (b+s') M/\kY ws b s' M/\∀x∈xs,M x.1.toNat (red b s' x.2.toNat)=true)
     (501*un (fun _ _=>false)+(xs.map fun x=>(x.1.toNat,red b s' x.2.toNat)).length) ⟨_,_,_,_,_,_,_,_,_,_,rfl,mi,?_,?_,fun x hx=>.inr (List.mem_map.mpr ⟨x,hx,rfl⟩),rfl,?_⟩ ?_ ?_
    ·intro z hz
     obtain⟨x,hx,rfl⟩:=List.mem_map.mp hz
     obtain⟨z1,z2,_,_⟩:=hin x hx
     exact⟨by show x.1.toNat<rs.length;omega,gM hs1⟩
    ·intro k w _ x hx
     cases hx
    ·have:=tH (fun _ _=>false)
     rw[List.length_map]
     omega
    ·rintro mm σ H5 ⟨k1,k2,k3,k4,k5,k6,k7,M,ps,zs,rfl,mi,hzs,hhalf,hst,hmm,hmx⟩
     walk_at "rd"
     refine fJ (ag.of mi.wt) ?_
     walk_at "rd"
     have hpz:=er mi.pl
     rw[List.length_map]
     by_cases h0:zs.length=0
     ·rw[decide_eq_false (show ¬(0:Int)<((ps.length:Nat):Int) by omega)]
      have hz:zs=[]:=List.length_eq_zero_iff.mp h0
      subst hz
      refine aq ⟨_,_,_,_,_,_,_,M,rfl,mi.e,mi.rows,?_,?_⟩
      ·intro w hw x _ hx
       obtain⟨k,hk⟩:=List.getElem?_of_mem hw
       exact(hhalf k w hk x hx).imp fun y hy=>hy.elim id (fun hc=>by cases hc)
      ·intro x hx
       exact(hst x hx).elim id (fun hc=>by cases hc)
     ·rw[decide_eq_true (show(0:Int)<((ps.length:Nat):Int) by omega)]
      refine ar ⟨_,fun _ _ h=>h,?_⟩
      obtain⟨zs1,z,rfl⟩:∃zs1 z,zs=zs1++[z]:=⟨_,_,(List.dropLast_concat_getLast (fun hc=>h0 (by rw[hc];rfl))).symm⟩
      obtain⟨ps1,p,rfl⟩:∃ps1 p,ps=ps1++[p]:=⟨_,_,(List.dropLast_concat_getLast (fun hc=>by rw[hc]at hpz;simp at hpz)).symm⟩
      have hl':ps1.length=zs1.length:=by simpa using hpz
      obtain⟨i0,x0⟩:=z
      obtain⟨hpz2,mi2⟩:=MI.pop fr mi hl'
      have hzi:=hzs (i0,x0) (by simp)
      dsimp only at hzi
      have hzs1:∀z∈zs1,z.1<rs.length/\z.2<b+s':=fun z hz=>hzs z (List.mem_append.mpr (.inl hz))
      have hwt:=mi.wt
      obtain⟨r,hr0⟩:∃r,rs[i0]?=some r:=⟨_,List.getElem?_eq_getElem hzi.1⟩
      walk_at "rd"
      refine⟨cB (ag.of hwt),?_⟩
      refine⟨wl,_,.ref p,rfl,rfl,hwt,by simp,?_⟩
      rw[show (List.map V.ref (ps1++[p])).dropLast=List.map V.ref ps1 by simp]
      generalize upd H5 wl (.lst (List.map V.ref ps1))=H6 at hpz2 mi2 ⊢
      refine fo (ah.of hpz2) rfl ?_
      walk_at "rd"
      refine hG ?_
      walk_at "rd"
      refine aB (ag.of mi2.rows.1) (v:=.ref r) (dR (by rw[List.getElem?_map,hr0];rfl)) ?_
      walk_at "rd"
      refine aB (ag.of (mi2.rows.2 i0 r hr0)) (hJ (by omega) (by omega)) ?_
      rw[Int.toNat_natCast]
      walk_at "rd"
      cases hM:M i0 x0 with
      | true=>
       refine aq ?_
       walk_at "rd"
       rw[List.length_append,List.length_singleton]at hmm
       refine⟨501*un M+zs1.length,by omega,_,_,_,_,_,_,_,M,ps1,zs1,rfl,mi2,hzs1,hhalf.drop hM,fun x hx=>?_,rfl,by omega⟩
       rcases hst x hx with h | h
       ·exact .inl h
       ·rcases List.mem_append.mp h with h | h
        ·exact .inr h
        ·have:=List.mem_singleton.mp h
         rw[(Prod.mk.inj this).1,(Prod.mk.inj this).2]
         exact .inl hM
      | false=>
       refine ar ?_
       walk_at "rd"
       refine aB (ag.of mi2.rows.1) (v:=.ref r) (dR (by rw[List.getElem?_map,hr0];rfl)) ?_
       walk_at "rd"
       refine gE (mi2.rows.2 i0 r hr0) (h7 (by omega) (by rw[bV];omega)) ?_
       rw[Int.toNat_natCast]
       have mi3:=mi2.mark fr hr0 hzi.2
       generalize upd H6 r _=H7 at mi3 ⊢
       walk_at "rd"
       refine aE (ah.of (mi3.e _ _ hh)) (v:=.ref hq0) rfl ?_
       walk_at "rd"
       refine dj (ah.of (mi3.e _ _ hbs0)) ?_
       refine eY (xs:=bs.map V.ref) (fun j σ H'=>∃k1 k2 k5 k6 k7 ps2 zs2,σ=[some (.ref hp0),some (.int (b:Nat)),some (.int (s':Nat)),some (.ref l),some (.ref qa),some (.ref wl),k1,k2,some (.int (i0:Nat)),some (.int (x0:Nat)),k5,k6,k7]/\MI H H' qa wl rs (b+s') (put2 M i0 x0) ps2 zs2/\(∀z∈zs2,z.1<rs.length/\z.2<b+s')/\HX ws b s' (put2 M i0 x0) zs2 i0 x0 j/\(∀z∈zs1,z∈zs2)/\zs2.length<=zs1.length+4*j) ⟨_,_,_,_,_,ps1,zs1,rfl,mi3,hzs1,hhalf.mark,fun z h=>h,by omega⟩ (fun j σ H' _ h=>by obtain⟨_,_,_,_,_,_,_,_,h,_⟩:=h;exact ah.of (h.e _ _ hbs0)) ?_ ?_
       ·rintro j v σ H8 hx ⟨k1',k2',k5',k6',k7',ps2,zs2,rfl,mi4,hz4,hx4,hsub,hlen⟩
        rw[List.getElem?_map]at hx
        obtain⟨wb,hb,rfl⟩:=Option.map_eq_some_iff.mp hx
        have hj:j<ws.length:=by
         rw[←hbl]
         exact(List.getElem?_eq_some_iff.mp hb).1
        have hwi:ws[j]?=some ws[j]:=List.getElem?_eq_getElem hj
        have hwv:=mi4.e _ _ (hal.2 j wb _ hb hwi)
        generalize ws[j]=w at hwi hwv
        have okw:=ok.ok w (List.mem_of_getElem? hwi)
        obtain⟨o1,o2,o3,o4,o5,o6⟩:=okw
        have hpz4:=er mi4.pl
        have hun:=tH M
        rw[List.length_append,List.length_singleton]at hmm
        refine fo (ah.of hwv) rfl ?_
        walk_at "rd"
        have hot:w.other.toNat<rs.length:=by omega
        refine cO (fun σ' H'=>σ'=[some (.ref hp0),some (.int (b:Nat)),some (.int (s':Nat)),some (.ref l),some (.ref qa),some (.ref wl),some (.int w.room),k2',some (.int (i0:Nat)),some (.int (x0:Nat)),some (.str w.deed),some (.int w.other),some (.str w.sign)]/\∃ps3 zs3,MI H H' qa wl rs (b+s') (put2 M i0 x0) ps3 zs3/\(∀z∈zs3,z.1<rs.length/\z.2<b+s')/\(∀z∈zs2,z∈zs3)/\zs3.length<=zs2.length+1/\(w.room=i0->w.deed = "up"->(w.other.toNat,if x0+1=b+s' then b else x0+1)∈zs3)) ?_ ?_
        ·walk_at "rd"
         by_cases hr:w.room=(i0:Int)
         ·rw[decide_eq_true hr]
          refine ar ?_
          walk_at "rd"
          refine eG (rd_exb ?_)
          by_cases hd:w.deed = "up"
          ·rw[decide_eq_true hd]
           refine ar ?_
           walk_at "rd"
           refine⟨cB (ag.of mi4.wt),?_⟩
           walk_at "rd"
           refine⟨ay (by simp),av fun u1 G1 f1 hu1 _=>?_⟩
           walk_at "rd"
           refine aB (ag.of hu1) (v:=.int ((if x0+1=b+s' then b else x0+1:Nat):Int)) ?_ ?_
           ·by_cases hc:x0+1=b+s'
            ·rw[if_pos hc,decide_eq_true (show(x0:Int)+1=(b:Int)+(s':Int) by omega)]
             rfl
            ·rw[if_neg hc,decide_eq_false (show ¬(x0:Int)+1=(b:Int)+(s':Int) by omega)]
             rfl
           walk_at "rd"
           refine⟨ay (by simp),av fun t G2 f2 ht _=>?_⟩
           have f12:=f1.trans f2
           walk_at "rd"
           refine bB (f12 _ _ mi4.wt) (by rw[List.length_map];exact Nat.lt_of_le_of_lt (show ps2.length<=900000 by omega) (by decide)) ?_
           walk_at "rd"
           refine⟨rfl,ps2++[t],zs2++[(w.other.toNat,if x0+1=b+s' then b else x0+1)],(mi4.ext f12).push fr ?_,gG hz4 ⟨hot,by dsimp only;split<;>omega⟩,fun z h=>List.mem_append.mpr (.inl h),by simp,fun _ _=>by simp⟩
           show G2 t=some (.tup [.int (w.other.toNat:Nat),.int ((if x0+1=b+s' then b else x0+1:Nat):Int)])
           rw[ht,Int.toNat_of_nonneg o3]
          ·rw[decide_eq_false hd]
           refine aq ?_
           walk_at "rd"
           exact⟨rfl,ps2,zs2,mi4,hz4,fun z h=>h,by omega,fun _ h=>absurd h hd⟩
         ·rw[decide_eq_false hr]
          refine aq ?_
          walk_at "rd"
          exact⟨rfl,ps2,zs2,mi4,hz4,fun z h=>h,by omega,fun h=>absurd h hr⟩
        ·rintro σ' H9 ⟨rfl,ps3,zs3,mi5,hz5,hs5,hl5,hg5⟩
         have hpz5:=er mi5.pl
         walk_at "rd"
         refine cO (fun σ' H'=>σ'=[some (.ref hp0),some (.int (b:Nat)),some (.int (s':Nat)),some (.ref l),some (.ref qa),some (.ref wl),some (.int w.room),k2',some (.int (i0:Nat)),some (.int (x0:Nat)),some (.str w.deed),some (.int w.other),some (.str w.sign)]/\∃ps4 zs4,MI H H' qa wl rs (b+s') (put2 M i0 x0) ps4 zs4/\(∀z∈zs4,z.1<rs.length/\z.2<b+s')/\(∀z∈zs3,z∈zs4)/\zs4.length<=zs3.length+2/\(w.room=i0->w.deed = "down"->(0<x0->(w.other.toNat,x0-1)∈zs4)/\(x0=b->(w.other.toNat,b+s'-1)∈zs4))) ?_ ?_
         ·walk_at "rd"
          by_cases hr:w.room=(i0:Int)
          ·rw[decide_eq_true hr]
           refine ar ?_
           walk_at "rd"
           refine eG (rd_exb ?_)
           by_cases hd:w.deed = "down"
           ·rw[decide_eq_true hd]
            refine ar ?_
            walk_at "rd"
            refine cO (fun σ' H'=>σ'=[some (.ref hp0),some (.int (b:Nat)),some (.int (s':Nat)),some (.ref l),some (.ref qa),some (.ref wl),some (.int w.room),k2',some (.int (i0:Nat)),some (.int (x0:Nat)),some (.str w.deed),some (.int w.other),some (.str w.sign)]/\∃ps4 zs4,MI H H' qa wl rs (b+s') (put2 M i0 x0) ps4 zs4/\(∀z∈zs4,z.1<rs.length/\z.2<b+s')/\(∀z∈zs3,z∈zs4)/\zs4.length<=zs3.length+1/\(0<x0->(w.other.toNat,x0-1)∈zs4)) ?_ ?_
            ·walk_at "rd"
             by_cases hx0:0<x0
             ·rw[decide_eq_true (show(0:Int)<(x0:Int) by omega)]
              refine ar ?_
              walk_at "rd"
              refine⟨cB (ag.of mi5.wt),?_⟩
              walk_at "rd"
              refine⟨ay (by simp),av fun t G2 f2 ht _=>?_⟩
              walk_at "rd"
              refine bB (f2 _ _ mi5.wt) (by rw[List.length_map];exact Nat.lt_of_le_of_lt (show ps3.length<=900000 by omega) (by decide)) ?_
              walk_at "rd"
              refine⟨rfl,ps3++[t],zs3++[(w.other.toNat,x0-1)],(mi5.ext f2).push fr ?_,gG hz5 ⟨hot,by dsimp only;omega⟩,fun z h=>List.mem_append.mpr (.inl h),by simp,fun _=>by simp⟩
              show G2 t=some (.tup [.int (w.other.toNat:Nat),.int ((x0-1:Nat):Int)])
              rw[ht,Int.toNat_of_nonneg o3,show ((x0-1:Nat):Int)=(x0:Int)-1 by omega]
             ·rw[decide_eq_false (show ¬(0:Int)<(x0:Int) by omega)]
              refine aq ?_
              walk_at "rd"
              exact⟨rfl,ps3,zs3,mi5,hz5,fun z h=>h,by omega,fun h=>absurd h hx0⟩
            ·rintro σ' H10 ⟨rfl,ps4,zs4,mi6,hz6,hs6,hl6,hg6⟩
             have hpz6:=er mi6.pl
             walk_at "rd"
             refine hG ?_
             walk_at "rd"
             by_cases hxb:x0=b
             ·rw[decide_eq_true (show(x0:Int)=(b:Int) by omega)]
              refine ar ?_
              walk_at "rd"
              refine⟨cB (ag.of mi6.wt),?_⟩
              walk_at "rd"
              refine⟨ay (by simp),av fun t G2 f2 ht _=>?_⟩
              walk_at "rd"
              refine bB (f2 _ _ mi6.wt) (by rw[List.length_map];exact Nat.lt_of_le_of_lt (show ps4.length<=900000 by omega) (by decide)) ?_
              walk_at "rd"
              refine⟨rfl,ps4++[t],zs4++[(w.other.toNat,b+s'-1)],(mi6.ext f2).push fr ?_,gG hz6 ⟨hot,by dsimp only;omega⟩,fun z h=>List.mem_append.mpr (.inl (hs6 z h)),by rw[List.length_append,List.length_singleton];omega,fun _ _=>⟨fun h=>List.mem_append.mpr (.inl (hg6 h)),fun _=>by simp⟩⟩
              show G2 t=some (.tup [.int (w.other.toNat:Nat),.int ((b+s'-1:Nat):Int)])
              rw[ht,Int.toNat_of_nonneg o3,show ((b+s'-1:Nat):Int)=(b:Int)+(s':Int)-1 by omega]
             ·rw[decide_eq_false (show ¬(x0:Int)=(b:Int) by omega)]
              refine aq ?_
              walk_at "rd"
              exact⟨rfl,ps4,zs4,mi6,hz6,hs6,by omega,fun _ _=>⟨hg6,fun h=>absurd h hxb⟩⟩
           ·rw[decide_eq_false hd]
            refine aq ?_
            walk_at "rd"
            exact⟨rfl,ps3,zs3,mi5,hz5,fun z h=>h,by omega,fun _ h=>absurd h hd⟩
          ·rw[decide_eq_false hr]
           refine aq ?_
           walk_at "rd"
           exact⟨rfl,ps3,zs3,mi5,hz5,fun z h=>h,by omega,fun h=>absurd h hr⟩
         ·rintro σ' H10 ⟨rfl,ps4,zs4,mi6,hz6,hs6,hl6,hg6⟩
          have hpz6:=er mi6.pl
          have hdone:∀σ' H' ps5 zs5,σ'=[some (.ref hp0),some (.int (b:Nat)),some (.int (s':Nat)),some (.ref l),some (.ref qa),some (.ref wl),some (.int w.room),k2',some (.int (i0:Nat)),some (.int (x0:Nat)),some (.str w.deed),some (.int w.other),some (.str w.sign)]->MI H H' qa wl rs (b+s') (put2 M i0 x0) ps5 zs5->(∀z∈zs5,z.1<rs.length/\z.2<b+s')->(∀z∈zs4,z∈zs5)->zs5.length<=zs4.length+1->(w.room=i0->w.deed = "stay"\/w.deed = "zero"/\x0=0->(w.other.toNat,x0)∈zs5)->∃k1 k2 k5 k6 k7 ps2 zs2,σ'=[some (.ref hp0),some (.int (b:Nat)),some (.int (s':Nat)),some (.ref l),some (.ref qa),some (.ref wl),k1,k2,some (.int (i0:Nat)),some (.int (x0:Nat)),k5,k6,k7]/\MI H H' qa wl rs (b+s') (put2 M i0 x0) ps2 zs2/\(∀z∈zs2,z.1<rs.length/\z.2<b+s')/\HX ws b s' (put2 M i0 x0) zs2 i0 x0 (j+1)/\(∀z∈zs1,z∈zs2)/\zs2.length<=zs1.length+4*(j+1):=by
           intro σ' H' ps5 zs5 hσ mi7 hz7 hs7 hl7 hg7
           refine⟨_,_,_,_,_,ps5,zs5,hσ,mi7,hz7,hx4.step (fun z h=>hs7 z (hs6 z (hs5 z h))) hwi (fun hr=>?_),fun z h=>hs7 z (hs6 z (hs5 z (hsub z h))),by omega⟩
           have hr':w.room=(i0:Int):=by omega
           exact⟨fun h=>.inr (hs7 _ (hs6 _ (hg5 hr' h))),fun h=>⟨fun h'=>.inr (hs7 _ ((hg6 hr' h).1 h')),fun h'=>.inr (hs7 _ ((hg6 hr' h).2 h'))⟩,fun h=>.inr (hg7 hr' h)⟩
          walk_at "rd"
          refine hG ?_
          walk_at "rd"
          by_cases hr:w.room=(i0:Int)
          ·rw[decide_eq_true hr]
           refine ar ?_
           walk_at "rd"
           refine eG (rd_exb ?_)
           by_cases hd:w.deed = "stay"
           ·rw[decide_eq_true hd]
            refine ar (ar ?_)
            walk_at "rd"
            refine⟨cB (ag.of mi6.wt),?_⟩
            walk_at "rd"
            refine⟨ay (by simp),av fun t G2 f2 ht _=>?_⟩
            walk_at "rd"
            refine bB (f2 _ _ mi6.wt) (by rw[List.length_map];exact Nat.lt_of_le_of_lt (show ps4.length<=900000 by omega) (by decide)) ?_
            walk_at "rd"
            refine hdone _ _ (ps4++[t]) (zs4++[(w.other.toNat,x0)]) rfl ((mi6.ext f2).push fr ?_) (gG hz6 ⟨hot,hzi.2⟩) (fun z h=>List.mem_append.mpr (.inl h)) (by simp) fun _ _=>by simp
            show G2 t=some (.tup [.int (w.other.toNat:Nat),.int (x0:Int)])
            rw[ht,Int.toNat_of_nonneg o3]
           ·rw[decide_eq_false hd]
            refine aq ?_
            walk_at "rd"
            refine eG (rd_exb ?_)
            by_cases hd2:w.deed = "zero"
            ·rw[decide_eq_true hd2]
             refine ar ?_
             walk_at "rd"
             by_cases hx0:x0=0
             ·rw[decide_eq_true (show(x0:Int)=0 by omega)]
              refine ar ?_
              walk_at "rd"
              refine⟨cB (ag.of mi6.wt),?_⟩
              walk_at "rd"
              refine⟨ay (by simp),av fun t G2 f2 ht _=>?_⟩
              walk_at "rd"
              refine bB (f2 _ _ mi6.wt) (by rw[List.length_map];exact Nat.lt_of_le_of_lt (show ps4.length<=900000 by omega) (by decide)) ?_
              walk_at "rd"
              refine hdone _ _ (ps4++[t]) (zs4++[(w.other.toNat,x0)]) rfl ((mi6.ext f2).push fr ?_) (gG hz6 ⟨hot,hzi.2⟩) (fun z h=>List.mem_append.mpr (.inl h)) (by simp) fun _ _=>by simp
              show G2 t=some (.tup [.int (w.other.toNat:Nat),.int (x0:Int)])
              rw[ht,Int.toNat_of_nonneg o3]
             ·rw[decide_eq_false (show ¬(x0:Int)=0 by omega)]
              refine aq ?_
              walk_at "rd"
              exact hdone _ _ ps4 zs4 rfl mi6 hz6 (fun z h=>h) (by omega) fun _ h=>h.elim (fun h=>absurd h hd) fun h=>absurd h.2 hx0
            ·rw[decide_eq_false hd2]
             refine aq (aq ?_)
             walk_at "rd"
             exact hdone _ _ ps4 zs4 rfl mi6 hz6 (fun z h=>h) (by omega) fun _ h=>h.elim (fun h=>absurd h hd) fun h=>absurd h.1 hd2
          ·rw[decide_eq_false hr]
           refine aq ?_
           walk_at "rd"
           exact hdone _ _ ps4 zs4 rfl mi6 hz6 (fun z h=>h) (by omega) fun h=>absurd h hr
       ·rintro σ H8 ⟨k1',k2',k5',k6',k7',ps2,zs2,rfl,mi4,hz4,hx4,hsub,hlen⟩
        rw[List.length_map,hbl]at hx4 hlen
        have hu:=yK (M:=M) (i:=i0) (x:=x0) (by omega) (by omega) hM
        rw[List.length_append,List.length_singleton]at hmm
        refine⟨501*un (put2 M i0 x0)+zs2.length,by omega,_,_,_,_,_,_,_,put2 M i0 x0,ps2,zs2,rfl,mi4,hz4,hx4.all,fun x hx=>?_,rfl,by omega⟩
        rcases hst x hx with h | h
        ·exact .inl (zP h)
        ·rcases List.mem_append.mp h with h | h
         ·exact .inr (hsub _ h)
         ·have:=List.mem_singleton.mp h
          rw[(Prod.mk.inj this).1,(Prod.mk.inj this).2]
          exact .inl ur
    ·rintro σ H5 ⟨k1,k2,k3,k4,k5,k6,k7,M,rfl,e5,hR,hC,hS⟩
     walk_at "rd"
     exact q qa rs M H5 e5 fr.q0 hrm hR hC hS
theorem tw{f:Nat->Bool}{lo i:Nat}{ys:List V}(h:ys=(row f lo i).map V.int)(hf:f (lo+i)=true):ys++[V.int ((lo+i:Nat):Int)]=(row f lo (i+1)).map V.int:=by
 rw[jF,if_pos hf,List.map_append,h]
 rfl
theorem rA{f:Nat->Bool}{lo i:Nat}{ys:List V}(h:ys=(row f lo i).map V.int)(hf:f (lo+i)=false):ys=(row f lo (i+1)).map V.int:=by
 rw[jF,if_neg (by rw[hf];decide),List.append_nil,h]
theorem bU.put{H:Hp}{f:Addr}{xs ys:List V}{v:V}{b s:Int}{o a:List Int}(hf:H f=some (.lst xs))(h:bU H v b s o a):bU (upd H f (.lst ys)) v b s o a:=by
 obtain⟨p,q,r,rfl,h1,h2,h3⟩:=h
 refine⟨p,q,r,rfl,?_,?_,?_⟩
 ·rw[aL (eu h1 hf (by intro z;cases z))];exact h1
 ·rw[aL (eu h2 hf (by intro z;cases z))];exact h2
 ·rw[aL (eu h3 hf (by intro z;cases z))];exact h3
theorem bz.put{H:Hp}{f:Addr}{xs ys:List V}{vs:List V}{ts:List StT}(hf:H f=some (.lst xs))(h:bz H vs ts):bz (upd H f (.lst ys)) vs ts:=Paired.imp' (fun _ _ z=>⟨z.1.put hf,z.2⟩) h
abbrev stM(b s:Nat)(M:Nat->Nat->Bool)(i:Nat):StT:=⟨b,s,row (M i) 0 b,row (M i) b s⟩
def cH(b s:Nat)(M:Nat->Nat->Bool)(n:Nat):List StT:=(List.range n).map (stM b s M)
theorem xF{b s:Nat}{M:Nat->Nat->Bool}{n i:Nat}(h:i<n):(cH b s M n)[i]?=some (stM b s M i):=by
 unfold cH
 rw[List.getElem?_map,List.getElem?_range h]
 rfl
theorem pE{b s:Nat}{M:Nat->Nat->Bool}{n:Nat}:(cH b s M n).length=n:=by simp[cH]
def sx(K:PySem.W.Frag):Sp:=fun vs H Q _=>∃q rs M b s,vs=[.ref q,.int (b:Nat),.int (s:Nat)]/\1<=s/\b+s<=800/\Rows H q rs (b+s) M/\rs.length<=100 ∧
 ∀fq xs H',Ext H H'->H fq=none->H' fq=some (.lst xs)->bz H' xs (cH b s M rs.length)->Q (.ref fq) H'
abbrev jK:Stmt:=stq 56
theorem sQ:FnScope ["_law_marks_here","_law_base","_law_step","_law_found","_law_row","_law_once"] ["_law_marks_here","_law_base","_law_step"] (aJ jK):=⟨rfl,rfl,rfl,by decide +kernel,rfl,by decide +kernel,by decide +kernel⟩
theorem yN{P:Program}{w:World}{K:PySem.W.Frag}{mg:Str->Option Value}{base:Heap}(D:Dfn K mg "_law_stairs_of" jK ["_law_marks_here","_law_base","_law_step"])(T:Blt mg):Cal P w K mg base "_law_stairs_of" 1 ["_law_marks_here","_law_base","_law_step"] (sx K):=by
 have nd:=(sQ).nd
 refine D.ok sQ (fun vs H Q E h=>?_) (fun X hX H vs Q E h=>?_)
 ·obtain⟨q,rs,M,b,s,rfl,_⟩:=h;rfl
 ·obtain⟨f,cdv,A,outer,s,H0,E0,rfl,hr⟩:=hX
  obtain⟨qa,rs,M,b,s',rfl,hs,hbs,hR,hrl,q⟩:=h
  refine⟨_,(@ai _ _ _ _ _ (@aA _ _ 3 _ _ _ _ nd rfl (Or.inl rfl) (@bf _ _ _ _ af) rfl (Or.inl rfl))
    (@ai _ _ _ _ _ (bL PassesOwn.never rfl (cZ K (pv 0)) (aI (i:=4) nd rfl (Or.inr rfl)) (@ai _ _ _ _ _ (@aA _ _ 5 _ _ _ _ nd rfl (Or.inl rfl) (de (fF K) rfl T.tuple_ PyProof.Rows.boot_tuple (@aa _ _ _ _ _ (dC ["_law_x"] [4] (dH rfl T.range_ (@aa _ _ _ _ _ (pv 1) af rfl)) (fun _=>(aI (i:=0) (show(["_law_x","_law_row"]:List Str).Nodup from by decide +kernel) rfl (Or.inl rfl) (Or.inr rfl))) (fun _=>(ip (bj (@ak _ _ _ _ _ _ _ (aD K) (pv 1) (pv 0) (fun _ _=>rfl))))) (fun _=>(pv 0))) af rfl)) rfl (Or.inl rfl))
    (@ao _ _ _ (bo (bF K PySem.F.plainAttrs_list PySem.F.slot_list_append PySem.F.type_list_append bE (pv 3) (@aa _ _ _ _ _ (@aX _ _ _ _ _ (@aa _ _ _ _ _ (pv 1) (@aa _ _ _ _ _ (pv 2) (@aa _ _ _ _ _ (pv 5) (@aa _ _ _ _ _ (de (fF K) rfl T.tuple_ PyProof.Rows.boot_tuple (@aa _ _ _ _ _ (dC ["_law_x"] [4] (vS rfl T.range_ (@aa _ _ _ _ _ (pv 1) (@aa _ _ _ _ _ (aj aF (pv 1) (pv 2)) af rfl) rfl)) (fun _=>(aI (i:=0) (show(["_law_x","_law_row"]:List Str).Nodup from by decide +kernel) rfl (Or.inl rfl) (Or.inr rfl))) (fun _=>(ip (bj (@ak _ _ _ _ _ _ _ (aD K) (pv 1) (pv 0) (fun _ _=>rfl))))) (fun _=>(pv 0))) af rfl)) af rfl) rfl) rfl) rfl)) af rfl))))))
    (@ao _ _ _ (@ax _ _ _ _ (pv 3))))),?_⟩
  walk_at "rd"
  refine⟨ay (by simp),av fun fq H1 e1 hf hfn=>?_⟩
  walk_at "rd"
  refine dy (ag.of (e1 _ _ hR.1)) ?_
  refine forL (xs:=rs.map V.ref) (fun i σ H'=>∃k1 k2 xs,σ=[some (.ref qa),some (.int (b:Nat)),some (.int (s':Nat)),some (.ref fq),k1,k2]/\Ext H H'/\H' fq=some (.lst xs)/\bz H' xs (cH b s' M i)) ⟨_,_,[],rfl,e1,hf,.nil⟩ (fun i σ H' _ h=>by obtain⟨_,_,_,_,h,_⟩:=h;exact ag.of (h _ _ hR.1)) ?_ ?_
  ·rintro i v σ H2 hx ⟨k1,k2,xs,rfl,e2,hf2,hS⟩
   rw[List.getElem?_map]at hx
   obtain⟨r,hr,rfl⟩:=Option.map_eq_some_iff.mp hx
   have hrow:=e2 _ _ (hR.2 i r hr)
   have hi:=(List.getElem?_eq_some_iff.mp hr).1
   have hxl:=hS.len
   rw[pE]at hxl
   walk_at "rd"
   refine dN (by omega) ?_
   refine kI (fun j ys H'=>H'=H2/\ys=(row (M i) 0 j).map V.int) (ay (by omega)) ⟨rfl,rfl⟩ ?_ ?_ ?_
   ·rintro j ys H' _ ⟨_,rfl⟩
    rw[List.length_map];exact jz _ 0 j
   ·rintro j ys H' hj ⟨rfl,hy⟩
    walk_at "rd"
    refine aB (ag.of hrow) (hJ (by omega) (by omega)) ?_
    walk_at "rd"
    rw[show ((0:Int)+(j:Int)).toNat=j by omega]
    have e0:M i (0+j)=M i j:=by rw[Nat.zero_add]
    cases hg:M i j with
    | true=>
     refine ar ?_
     walk_at "rd"
     refine⟨rfl,?_⟩
     rw[←tw hy (e0.trans hg)]
     congr 3
     all_goals omega
    | false=>exact aq ⟨rfl,rA hy (e0.trans hg)⟩
   ·rintro ys H' p ⟨hH,rfl⟩ hp
    subst hH
    rw[Int.toNat_natCast]
    walk_at "rd"
    refine fR (ag.of aO) ?_
    have e3:Ext H' (upd H' p (.lst ((row (M i) 0 b).map V.int))):=bC hp
    generalize upd H' p (.lst ((row (M i) 0 b).map V.int))=H3 at e3
    refine av fun t1 H4 e4 ht1 _=>?_
    have e34:=e3.trans e4
    walk_at "rd"
    refine⟨cB (ag.of (e34 _ _ hf2)),?_⟩
    walk_at "rd"
    refine zL (by omega) ?_
    rw[show (b:Int)+(s':Int)-(b:Int)=(s':Int) by omega]
    refine kI (fun j ys H5=>H5=H4/\ys=(row (M i) b j).map V.int) (ay (by omega)) ⟨rfl,rfl⟩ ?_ ?_ ?_
    ·rintro j ys H' _ ⟨_,rfl⟩
     rw[List.length_map];exact jz _ _ j
    ·rintro j ys H5 hj ⟨rfl,hy⟩
     walk_at "rd"
     refine aB (ag.of (e34 _ _ hrow)) (hJ (by omega) (by omega)) ?_
     walk_at "rd"
     rw[show ((b:Int)+(j:Int)).toNat=b+j by omega]
     cases hg:M i (b+j)with
     | true=>
      refine ar ?_
      walk_at "rd"
      refine⟨rfl,?_⟩
      rw[←tw hy hg]
      congr 3
      all_goals omega
     | false=>exact aq ⟨rfl,rA hy hg⟩
    ·rintro ys H5 p3 ⟨hH,rfl⟩ hp3
     subst hH
     rw[Int.toNat_natCast]
     walk_at "rd"
     refine fR (ag.of aO) ?_
     have e5:Ext H5 (upd H5 p3 (.lst ((row (M i) b s').map V.int))):=bC hp3
     generalize upd H5 p3 (.lst ((row (M i) b s').map V.int))=H6 at e5
     refine av fun t2 H7 e7 ht2 _=>?_
     walk_at "rd"
     refine⟨ay (by simp),av fun t H8 e8 ht _=>?_⟩
     have e58:=e5.trans (e7.trans e8)
     have e28:=e34.trans e58
     walk_at "rd"
     refine bB (e28 _ _ hf2) (Nat.lt_of_le_of_lt (show xs.length<=1000 by omega) (by decide)) ?_
     walk_at "rd"
     have hst:bU H8 (.ref t) (b:Nat) (s':Nat) (row (M i) 0 b) (row (M i) b s'):=⟨t,t1,t2,rfl,ht,e58 _ _ ht1,e8 _ _ ht2⟩
     have hgd:Gd (b:Nat) (s':Nat) (row (M i) 0 b) (row (M i) b s'):=⟨w8 _ _ _ hs,by omega,by omega⟩
     refine⟨_,_,xs++[.ref t],rfl,cj (e2.trans e28) hfn,aO,?_⟩
     unfold cH
     rw[List.range_succ,List.map_append]
     exact mL ((hS.ext e28).put (e28 _ _ hf2)) ⟨hst.put (e28 _ _ hf2),hgd⟩
  ·rintro σ H2 ⟨k1,k2,xs,rfl,e2,hf2,hS⟩
   rw[List.length_map]at hS
   walk_at "rd"
   exact q fq xs H2 e2 hfn hf2 hS
theorem kL{f g:Nat->Bool}{lo:Nat}:∀{n:Nat},(∀y,lo<=y->y<lo+n->f y=g y)->row f lo n=row g lo n
 | 0,_=>rfl
 | n+1,h=>by rw[jF,jF,kL (n:=n) fun y h1 h2=>h y h1 (by omega),h (lo+n) (by omega) (by omega)]
theorem xg{b s:Nat}:∀x,b<=x->red b s (x+s)=red b s x:=fun x hx=>by
 have:=pW (b:=b) (s:=s) (x:=x+s) (by omega)
 rw[show x+s-s=x by omega]at this
 exact this.symm
theorem kg{b s:Nat}(hs:1<=s)(M:Nat->Nat->Bool)(i x:Nat):(stM b s M i).f x=M i (red b s x):=by
 have hp:bt (fun x=>M i (red b s x)) b s:=fun x hx=>by dsimp only;rw[xg x hx]
 have h1:=vO hs hp x
 have e1:row (fun x=>M i (red b s x)) 0 b=row (M i) 0 b:=kL fun y h1 h2=>by rw[fE (by omega)]
 have e2:row (fun x=>M i (red b s x)) b s=row (M i) b s:=kL fun y h1 h2=>by rw[fE (by omega)]
 rw[e1,e2]at h1
 exact h1
theorem oi{b s x:Nat}(hs:1<=s):red b s (x+1)=if red b s x+1=b+s then b else red b s x+1:=by
 by_cases h1:x+1<b+s
 ·rw[fE h1,fE (show x<b+s by omega),if_neg (by omega)]
 ·have e1:red b s (x+1)=b+(x+1-b) % s:=by unfold red;rw[if_neg (by omega)]
  have e2:red b s x=b+(x-b) % s:=by unfold red;rw[if_neg (by omega)]
  rw[e1,e2,show x+1-b=x-b+1 by omega]
  have hm:=Nat.mod_lt (x-b) hs
  have hd:=Nat.div_add_mod (x-b) s
  by_cases hz:(x-b) % s+1=s
  ·rw[if_pos (by omega)]
   have:x-b+1=s*((x-b) / s+1):=by rw[Nat.mul_add,Nat.mul_one];omega
   rw[this,Nat.mul_mod_right]
   rfl
  ·rw[if_neg (by omega)]
   have:x-b+1=s*((x-b) / s)+((x-b) % s+1):=by omega
   rw[this,Nat.mul_add_mod,Nat.mod_eq_of_lt (by omega)]
   have h':s*((x-b) / s)+((x-b) % s+1)=x-b+1:=by omega
   omega
theorem w9{ws:List Way}{m:Int}{b s n:Nat}{M:Nat->Nat->Bool}(ok:∀w∈ws,w.Ok m)(hn:m<=(n:Nat))(hs:1<=s)(h:kY ws b s M):cls ws (cH b s M n):=by
 intro w hw t1 t2 h1 h2 hl
 obtain⟨o1,o2,o3,o4,o5,_⟩:=ok w hw
 rw[xF (by omega)]at h1 h2
 cases h1
 cases h2
 have key:=h w hw
 unfold eB at hl
 rcases o5 with hd | hd | hd | hd
 ·rw[hd,if_neg (by decide +kernel),if_pos rfl]at hl
  obtain⟨x,k1,k2⟩:=hl
  rw[kg hs]at k1 k2
  have:=(key _ (gM hs) k1).1 hd
  rw[oi hs,this]at k2
  cases k2
 ·rw[hd,if_neg (by decide +kernel),if_neg (by decide +kernel),if_pos rfl]at hl
  obtain⟨x,k1,k2⟩:=hl
  rw[kg hs]at k1 k2
  have g:=(key _ (gM hs) k1).2.1 hd
  rw[oi hs]at g
  have hlt:=gM (b:=b) (x:=x) hs
  by_cases hc:red b s x+1=b+s
  ·rw[if_pos hc]at g
   have:=g.2 rfl
   rw[show b+s-1=red b s x by omega,k2]at this
   cases this
  ·rw[if_neg hc]at g
   have:=g.1 (by omega)
   rw[show red b s x+1-1=red b s x by omega,k2]at this
   cases this
 ·rw[hd,if_neg (by decide +kernel),if_neg (by decide +kernel),if_neg (by decide +kernel)]at hl
  obtain⟨x,k1,k2⟩:=hl
  rw[kg hs]at k1 k2
  have:=(key _ (gM hs) k1).2.2 (.inl hd)
  rw[this]at k2
  cases k2
 ·rw[hd,if_pos rfl]at hl
  obtain⟨k1,k2⟩:=hl
  rw[kg hs]at k1 k2
  have hr:red b s 0=0:=fE (by omega)
  rw[hr]at k1 k2
  have:=(key _ (by omega) k1).2.2 (.inr ⟨hd,rfl⟩)
  rw[this]at k2
  cases k2
theorem zt{z y c s:Int}(hs:1<=s)(hz:(y-z) % s=0)(h1:y<=c)(h2:c<y+s):(c-z) % s=0↔c=y:=by
 obtain⟨k,hk⟩:=Int.dvd_of_emod_eq_zero hz
 rw[show c-z=s*k+(c-y) by omega,Int.mul_add_emod_self_left,Int.emod_eq_of_lt (by omega) (by omega)]
 omega
def qZ(K:PySem.W.Frag):Sp:=fun vs H Q _=>∃v t n,vs=[v,.int (n:Nat)]/\eA H v t/\t.b<=n/\n<=20000/\∀q H',Ext H H'->H q=none->H' q=some (.lst (aQ n t.f))->Q (.ref q) H'
abbrev jL:Stmt:=stq 51
theorem nh:FnScope ["_law_stair","_law_many","_law_bits_here","_law_x"] ["_law_stair","_law_many"] (aJ jL):=⟨rfl,rfl,rfl,by decide +kernel,rfl,by decide +kernel,by decide +kernel⟩
theorem zY{P:Program}{w:World}{K:PySem.W.Frag}{mg:Str->Option Value}{base:Heap}(D:Dfn K mg "_law_bits" jL ["_law_stair","_law_many"])(T:Blt mg):Cal P w K mg base "_law_bits" 1 ["_law_stair","_law_many"] (qZ K):=by
 have nd:=(nh).nd
 refine D.ok nh (fun vs H Q E h=>?_) (fun X hX H vs Q E h=>?_)
 ·obtain⟨v,t,n,rfl,_⟩:=h;rfl
 ·obtain⟨f,cdv,A,outer,s,H0,E0,rfl,hr⟩:=hX
  obtain⟨v,⟨b,s',o,a⟩,n,rfl,⟨⟨p,q',r,rfl,h1,h2,h3⟩,hg⟩,hbn,hn1,q⟩:=h
  dsimp only at h1 h2 h3 hg hbn q
  have hs:=hg.ok.hs
  have hs8:=hg.s8
  have hb3:=hg.b3
  refine⟨_,(ai (aA (i:=2) nd rfl (Or.inl rfl) (aj jo (bf (aa aW af)) (pv 1)))
    (ai (bL PassesOwn.never rfl (dw K (ak (aG K) (pv 0) ae (fun _ _=>rfl))) (aI (i:=3) nd rfl (Or.inl rfl)) (ao (dY aW (ie (pv 2) (pv 3) set_list))))
    (ai (bL PassesOwn.never rfl (dw K (ak (aG K) (pv 0) ae (fun _ _=>rfl))) (aI (i:=3) nd rfl (Or.inl rfl)) (ao (gD PassesOwn.never (aH dD (pv 3) (pv 1) (aC _)) (ai (dY aW (ie (pv 2) (pv 3) set_list))
    (ao (aA (i:=3) nd rfl (Or.inl rfl) (aj aF (pv 3) (ak (aG K) (pv 0) ae (fun _ _=>rfl)))))))))
    (ao (ax (pv 2)))))),?_⟩
  walk_at "rd"
  refine⟨ay (by simp),av fun m H1 e1 hm _=>?_⟩
  walk_at "rd"
  refine kf hm (by omega) (ay (by simp;omega)) (av fun m2 H2 e2 hm2 hn2=>?_)
  rw[mn,Int.toNat_natCast]at hm2
  have e12:Ext H H2:=e1.trans e2
  have hmn:H m2=none:=e1.none hn2
  walk_at "rd"
  refine aE (ah.of (e12 _ _ h1)) rfl ?_
  walk_at "rd"
  refine dj (ah.of (e12 _ _ h2)) ?_
  refine eY (xs:=o.map V.int) (fun i σ H'=>Ext H H'/\∃x,σ=[some (.ref p),some (.int (n:Nat)),some (.ref m2),x]/\H' m2=some (.lst (aQ n fun y=>(o.take i).contains (y:Int))))
   ⟨e12,none,rfl,by simpa using hm2⟩ (fun i σ H' _ h=>ah.of (h.1 _ _ h2)) ?_ ?_
  ·rintro i v' σ H' hi ⟨e,x,rfl,hm'⟩
   obtain⟨z,rfl,hz⟩:=fW hi
   have hz0:=(hg.ok.ho.2 z (List.mem_of_getElem? hz))
   have htake:o.take (i+1)=o.take i++[z]:=by rw[List.take_add_one,hz];rfl
   walk_at "rd"
   refine gE hm' (h7 (by omega) (by rw[bV];omega)) ?_
   rw[gF _ _ (by omega)]
   refine⟨cj e hmn,_,rfl,?_⟩
   rw[aO]
   congr 2
   refine cC fun y hy=>?_
   rw[htake,List.contains_append]
   by_cases hyz:y=z.toNat
   ·rw[if_pos hyz]
    have:(y:Int)=z:=by omega
    rw[this]
    simp
   ·rw[if_neg hyz]
    have:[z].contains (y:Int)=false:=by
     rw[Bool.eq_false_iff]
     intro hc
     rw[List.contains_iff_mem,List.mem_singleton]at hc
     omega
    rw[this,Bool.or_false]
  ·rintro σ H3 ⟨e3,x,rfl,hm3⟩
   rw[List.length_map,List.take_length]at hm3
   walk_at "rd"
   refine aE (ah.of (e3 _ _ h1)) rfl ?_
   walk_at "rd"
   refine dj (ah.of (e3 _ _ h3)) ?_
   refine eY (xs:=a.map V.int) (fun i σ H'=>Ext H H'/\∃x,σ=[some (.ref p),some (.int (n:Nat)),some (.ref m2),x]/\H' m2=some (.lst (aQ n (dm s' o (a.take i)))))
    ⟨e3,_,rfl,by rw[hm3];congr 2;exact cC fun y _=>by simp[dm]⟩ (fun i σ H' _ h=>ah.of (h.1 _ _ h3)) ?_ ?_
   ·rintro i v' σ H' hi ⟨e,x,rfl,hm'⟩
    obtain⟨z,rfl,hz⟩:=fW hi
    have hz0:=(hg.ok.ha.2 z (List.mem_of_getElem? hz))
    have htake:a.take (i+1)=a.take i++[z]:=by rw[List.take_add_one,hz];rfl
    walk_at "rd"
    refine gN (fun mm σ H'=>Ext H H'/\∃y:Int,z<=y/\(y-z) % (s':Int)=0/\σ=[some (.ref p),some (.int (n:Nat)),some (.ref m2),some (.int y)]/\mm=((n:Int)-y).toNat/\H' m2=some (.lst (aQ n fun c=>dm s' o (a.take i) c || (decide (z<=(c:Int)) && decide ((c:Int)<y) && ((c:Int)-z) % (s':Int) == 0))))
     (fun σ H'=>Ext H H'/\∃x,σ=[some (.ref p),some (.int (n:Nat)),some (.ref m2),x]/\H' m2=some (.lst (aQ n (dm s' o (a.take (i+1)))))) ((n:Int)-z).toNat ⟨e,z,Int.le_refl _,by rw[Int.sub_self];rfl,rfl,rfl,?_⟩ ?_ ?_
    ·rw[hm']
     congr 2
     refine cC fun c _=>?_
     rw[show (decide (z<=(c:Int)) && decide ((c:Int)<z) && ((c:Int)-z) % (s':Int) == 0)=false by
      by_cases hc:z<=(c:Int)
      ·rw[decide_eq_false (show ¬(c:Int)<z by omega),Bool.and_false];rfl
      ·rw[decide_eq_false hc];rfl,Bool.or_false]
    ·rintro mm σ H4 ⟨e4,y,hy1,hy2,rfl,hmm,hm4⟩
     walk_at "rd"
     by_cases hyn:y<(n:Int)
     ·rw[decide_eq_true hyn]
      refine ar ⟨_,fun _ _ h=>h,?_⟩
      walk_at "rd"
      refine gE hm4 (h7 (by omega) (by rw[bV];omega)) ?_
      rw[gF _ _ (by omega)]
      have e5:=cj (o:=.lst (aQ n fun i_1=>if i_1=y.toNat then true else dm (↑s') o (List.take i a) i_1 || (decide (z<=(i_1:Int)) && decide ((i_1:Int)<y) && ((i_1:Int)-z) % (s':Int) == 0))) e4 hmn
      walk_at "rd"
      refine aE (ah.of (e5 _ _ h1)) rfl ?_
      walk_at "rd"
      refine⟨((n:Int)-(y+s')).toNat,by omega,e5,y+s',by omega,?_,rfl,rfl,?_⟩
      ·rw[show y+(s':Int)-z=y-z+s' by omega,Int.add_emod_right]
       exact hy2
      ·rw[aO]
       congr 2
       refine cC fun c hc=>?_
       by_cases hcy:c=y.toNat
       ·rw[if_pos hcy]
        have:(c:Int)=y:=by omega
        rw[this,hy2,decide_eq_true hy1,decide_eq_true (show y<y+(s':Int) by omega)]
        simp
       ·rw[if_neg hcy]
        congr 1
        by_cases hcz:z<=(c:Int)
        ·rw[decide_eq_true hcz,Bool.true_and,Bool.true_and]
         by_cases hlt:(c:Int)<y
         ·rw[decide_eq_true hlt,decide_eq_true (show(c:Int)<y+(s':Int) by omega)]
         ·rw[decide_eq_false hlt,Bool.false_and]
          by_cases hl2:(c:Int)<y+(s':Int)
          ·have hno:¬((c:Int)-z) % (s':Int)=0:=fun hc0=>hcy (by have:=(zt hs hy2 (by omega) hl2).mp hc0;omega)
           simp[hno]
          ·rw[decide_eq_false hl2,Bool.false_and]
        ·rw[decide_eq_false hcz]
         simp
     ·rw[decide_eq_false hyn]
      refine aq ⟨e4,_,rfl,?_⟩
      rw[hm4]
      congr 2
      refine cC fun c hc=>?_
      rw[decide_eq_true (show(c:Int)<y by omega),Bool.and_true,htake]
      unfold dm
      rw[List.any_append,Bool.or_assoc]
      simp
    ·rintro σ H4 h4
     exact h4
   ·rintro σ H4 ⟨e4,x',rfl,hm4⟩
    rw[List.length_map,List.take_length]at hm4
    walk_at "rd"
    refine q m2 H4 e4 hmn ?_
    rw[hm4]
    congr 2
    exact cC fun y _=>tN hg.ok y
def sF(K:PySem.W.Frag):Sp:=fun vs H Q _=>∃s:Nat,vs=[.int s,.int s]/\1<=s/\s<=1000/\Q (.int s) H
abbrev il:Stmt:=stq 52
theorem sC:FnScope ["_law_one","_law_two","_law_far"] ["_law_one","_law_two"] (aJ il):=⟨rfl,rfl,rfl,by decide +kernel,rfl,by decide +kernel,by decide +kernel⟩
theorem vN{P:Program}{w:World}{K:PySem.W.Frag}{mg:Str->Option Value}{base:Heap}(D:Dfn K mg "_law_multiple" il ["_law_one","_law_two"])(T:Blt mg):Cal P w K mg base "_law_multiple" 1 ["_law_one","_law_two"] (sF K):=by
 have nd:=(sC).nd
 refine D.ok sC (fun vs H Q E h=>?_) (fun X hX H vs Q E h=>?_)
 ·obtain⟨s,rfl,_⟩:=h;rfl
 ·obtain⟨f,cdv,A,outer,s,H0,E0,rfl,hr⟩:=hX
  obtain⟨s',rfl,hs,hs1,q⟩:=h
  refine⟨_,(ai (aA (i:=2) nd rfl (Or.inl rfl) (pv 0))
    (ai (gD PassesOwn.never (aH dP (aj bh (pv 2) (pv 1)) ae (aC _)) (ao (aA (i:=2) nd rfl (Or.inl rfl) (aj aF (pv 2) (pv 0)))))
    (ao (ax (pv 2))))),?_⟩
  walk_at "rd"
  refine gN (fun m σ H'=>H'=H/\σ=[some (.int (s':Nat)),some (.int (s':Nat)),some (.int (s':Nat))]) (fun σ H'=>H'=H/\σ=[some (.int (s':Nat)),some (.int (s':Nat)),some (.int (s':Nat))]) 0 ⟨rfl,rfl⟩ ?_ ?_
  ·rintro m σ H' ⟨rfl,rfl⟩
   walk_at "rd"
   try refine rd_I (show(0:Int)<(s':Int)/\(s':Int)<2 ^ 64 by omega) ?_
   walk_at "rd"
   rw[Int.emod_self]
   exact aq ⟨rfl,rfl⟩
  rintro σ H' ⟨rfl,rfl⟩
  walk_at "rd"
  exact q
def cc(d:Str)(x:Int):Int:=if d = "up" then x+1 else if d = "down" then x-1 else if d = "zero"/\0<x then -1 else x
def pb(K:PySem.W.Frag):Sp:=fun vs H Q _=>∃d x,vs=[.str d,.int x]/\Q (.int (cc d x)) H
abbrev iT:Stmt:=stq 53
theorem oH:FnScope ["_law_deed","_law_x"] ["_law_deed","_law_x"] (aJ iT):=⟨rfl,rfl,rfl,by decide +kernel,rfl,by decide +kernel,by decide +kernel⟩
theorem Aj{P:Program}{w:World}{K:PySem.W.Frag}{mg:Str->Option Value}{base:Heap}(D:Dfn K mg "_law_there" iT ["_law_deed","_law_x"])(T:Blt mg):Cal P w K mg base "_law_there" 1 ["_law_deed","_law_x"] (pb K):=by
 have nd:=(oH).nd
 refine D.ok oH (fun vs H Q E h=>?_) (fun X hX H vs Q E h=>?_)
 ·obtain⟨d,x,rfl,_⟩:=h;rfl
 ·obtain⟨f,cdv,A,outer,s,H0,E0,rfl,hr⟩:=hX
  obtain⟨d,x,rfl,q⟩:=h
  unfold cc at q
  refine⟨_,(ai (aT (aH bu (pv 0) aN (aC _)) (ao (ax (aj aF (pv 1) ae))) aM)
    (ai (aT (aH bu (pv 0) aN (aC _)) (ao (ax (aj bY (pv 1) ae))) aM)
    (ai (aT (PW.pt (fe (aH bu (pv 0) aN (aC _)) (fZ (aH ed (pv 1) ae (aC _))))) (ao (ax (m7 mH ae))) aM)
    (ao (ax (pv 1)))))),?_⟩
  walk_at "rd"
  refine eG (rd_exb ?_)
  by_cases h1:d = "up"
  ·rw[if_pos h1]at q
   rw[decide_eq_true h1]
   refine ar ?_
   walk_at "rd"
   exact q
  ·rw[if_neg h1]at q
   rw[decide_eq_false h1]
   refine aq ?_
   walk_at "rd"
   refine eG (rd_exb ?_)
   by_cases h2:d = "down"
   ·rw[if_pos h2]at q
    rw[decide_eq_true h2]
    refine ar ?_
    walk_at "rd"
    exact q
   ·rw[if_neg h2]at q
    rw[decide_eq_false h2]
    refine aq ?_
    walk_at "rd"
    refine eG (rd_exb ?_)
    by_cases h3:d = "zero"
    ·rw[decide_eq_true h3]
     refine ar ?_
     walk_at "rd"
     by_cases h4:0<x
     ·rw[if_pos ⟨h3,h4⟩]at q
      rw[decide_eq_true h4]
      refine ar ?_
      walk_at "rd"
      exact q
     ·rw[if_neg (fun h=>h4 h.2)]at q
      rw[decide_eq_false h4]
      refine aq ?_
      walk_at "rd"
      exact q
    ·rw[if_neg (fun h=>h3 h.1)]at q
     rw[decide_eq_false h3]
     refine aq (aq ?_)
     walk_at "rd"
     exact q
theorem xS{d:Str}{f g:Nat->Bool}{b s:Nat}(hd:cf d)(hs:1<=s)(hf:bt f b s)(hg:bt g b s):(∃x:Nat,x<b+s+2/\f x=true/\0<=cc d x/\g (cc d x).toNat=false)↔eB d f g:=by
 unfold eB cc
 rcases hd with rfl | rfl | rfl | rfl
 ·rw[if_neg (by decide +kernel),if_pos rfl]
  simp only[if_true]
  constructor
  ·rintro⟨x,_,h1,_,h2⟩
   exact⟨x,h1,by rw[show ((x:Int)+1).toNat=x+1 by omega]at h2;exact h2⟩
  ·rintro⟨x,h1,h2⟩
   obtain⟨y,hy,k1,k2⟩:=jJ (i:=0) (j:=1) hs hf hg x x (Nat.le_refl _) h1 h2
   exact⟨y,by omega,k1,by omega,by rw[show ((y:Int)+1).toNat=y+1 by omega];exact k2⟩
 ·rw[if_neg (by decide +kernel),if_neg (by decide +kernel),if_pos rfl]
  have hu:¬(Str.ofString "down" = Str.ofString "up"):=by decide +kernel
  simp only[if_neg hu,if_true]
  constructor
  ·rintro⟨x,_,h1,h0,h2⟩
   refine⟨x-1,by rw[show x-1+1=x by omega];exact h1,?_⟩
   rw[show ((x:Int)-1).toNat=x-1 by omega]at h2
   exact h2
  ·rintro⟨x,h1,h2⟩
   obtain⟨y,hy,k1,k2⟩:=jJ (i:=1) (j:=0) hs hf hg x x (Nat.le_refl _) h1 h2
   exact⟨y+1,by omega,k1,by omega,by rw[show (((y+1:Nat):Int)-1).toNat=y by omega];exact k2⟩
 ·have h1:¬(Str.ofString "stay" = Str.ofString "zero"):=by decide +kernel
  have h2:¬(Str.ofString "stay" = Str.ofString "up"):=by decide +kernel
  have h3:¬(Str.ofString "stay" = Str.ofString "down"):=by decide +kernel
  simp only[if_neg h1,if_neg h2,if_neg h3,h1,false_and,if_false]
  constructor
  ·rintro⟨x,_,k1,_,k2⟩
   exact⟨x,k1,by rw[Int.toNat_natCast]at k2;exact k2⟩
  ·rintro⟨x,k1,k2⟩
   obtain⟨y,hy,k1,k2⟩:=jJ (i:=0) (j:=0) hs hf hg x x (Nat.le_refl _) k1 k2
   exact⟨y,by omega,k1,by omega,by rw[Int.toNat_natCast];exact k2⟩
 ·have h2:¬(Str.ofString "zero" = Str.ofString "up"):=by decide +kernel
  have h3:¬(Str.ofString "zero" = Str.ofString "down"):=by decide +kernel
  rw[if_pos rfl]
  simp only[if_neg h2,if_neg h3,true_and]
  constructor
  ·rintro⟨x,_,k1,k0,k2⟩
   by_cases hx:(0:Int)<(x:Int)
   ·rw[if_pos hx]at k0
    omega
   ·have:x=0:=by omega
    subst this
    exact⟨k1,k2⟩
  ·rintro⟨k1,k2⟩
   exact⟨0,by omega,k1,by decide,k2⟩
theorem iG{D:List Int}{s:Int}{n:Nat}(hn:0<n)(hd:D.Nodup)(h:∀z,z∈D↔z∈List.replicate n s):D=[s]:=by
 have hs:s∈D:=(h s).mpr (List.mem_replicate.mpr ⟨by omega,rfl⟩)
 have ha:∀z∈D,z=s:=fun z hz=>List.eq_of_mem_replicate ((h z).mp hz)
 match D,hd,hs,ha with
 | [],_,hs,_=>cases hs
 | [x],_,_,ha=>rw[ha x (by simp)]
 | x::y::r,hd,_,ha=>
  have h1:=ha x (by simp)
  have h2:=ha y (by simp)
  rw[List.nodup_cons]at hd
  exact absurd (by rw[h1,h2];simp) hd.1
theorem Az{d:Str}{x:Int}:cc d x<=x+1:=by
 unfold cc
 split
 ·omega
 ·split
  ·omega
  ·split<;>omega
theorem vW{ws:List Way}{ts:List StT}{i:Nat}{w:Way}(hw:ws[i]?=some w)(h:cls (ws.take i) ts)(hn:∀t1 t2,ts[w.room.toNat]?=some t1->ts[w.other.toNat]?=some t2->¬eB w.deed t1.f t2.f):cls (ws.take (i+1)) ts:=by
 intro u hu
 rw[List.take_add_one,hw]at hu
 rcases List.mem_append.mp hu with hu | hu
 ·exact h u hu
 ·have:u=w:=by simpa using hu
  subst this
  exact hn
def p8(K:PySem.W.Frag):Sp:=fun vs H Q _=>∃hv m ws l xs ts b s,vs=[hv,.ref l]/\bR H hv m ws/\HOuse m ws/\H l=some (.lst xs)/\bz H xs ts/\(xs.length:Int)=m/\(∀t∈ts,t.b=b/\t.s=s)/\∀r H',Ext H H'->(r=true↔¬cls ws ts)->Q (.bl r) H'
abbrev jG:Stmt:=stq 54
theorem q5:FnScope ["_law_house_here","_law_stairs","_law_steps","_law_far","_law_many","_law_rows","_law_room","_law_deed","_law_other","_law_sign","_law_x","_law_there_here"] ["_law_house_here","_law_stairs"] (aJ jG):=⟨rfl,rfl,rfl,by decide +kernel,rfl,by decide +kernel,by decide +kernel⟩
theorem tV{P:Program}{w:World}{K:PySem.W.Frag}{mg:Str->Option Value}{base:Heap}(D:Dfn K mg "_law_leaves" jG ["_law_house_here","_law_stairs"])(T:Blt mg)(C__law_there:Cal P w K mg base "_law_there" 1 ["_law_deed","_law_x"] (pb K))(C__law_bits:Cal P w K mg base "_law_bits" 1 ["_law_stair","_law_many"] (qZ K))(C__law_multiple:Cal P w K mg base "_law_multiple" 1 ["_law_one","_law_two"] (sF K)):Cal P w K mg base "_law_leaves" 2 ["_law_house_here","_law_stairs"] (p8 K):=by
 have nd:=(q5).nd
 refine D.ok q5 (fun vs H Q E h=>?_) (fun X hX H vs Q E h=>?_)
 ·obtain⟨hv,m,ws,l,xs,ts,b,s,rfl,_⟩:=h;rfl
 ·obtain⟨f,cdv,A,outer,s,H0,E0,rfl,hr⟩:=hX
  obtain⟨vh,m,ws,l,xs,ts,b,s',rfl,hv,ok,hl,hS,hm,hbs,q⟩:=h
  obtain⟨hp0,hq0,rfl,hh,hw⟩:=id hv
  obtain⟨bs,hbs0,hal⟩:=cE.al hw
  have m1:=ok.m1
  have m12:=ok.m12
  have hlen:=hS.len
  have hfew:=ok.few
  have hbl:bs.length=ws.length:=hal.1
  obtain⟨t0,ht0⟩:∃t,ts[0]?=some t:=⟨_,List.getElem?_eq_getElem (show 0<ts.length by omega)⟩
  obtain⟨v0,_,hsn0⟩:=mT hS ht0
  have hb3:=hsn0.b3
  have hs8:=hsn0.s8
  have hs1:=hsn0.s1
  have hbs':=hbs t0 (List.mem_of_getElem? ht0)
  rw[hbs'.1]at hb3
  rw[hbs'.2]at hs8 hs1
  clear hsn0 hbs'
  refine⟨_,(@ai _ _ _ _ _ (@aA _ _ 2 _ _ _ _ nd rfl (Or.inr rfl) (aP (yF hr) rfl T.sorted_ PyProof.Rows.boot_sorted (@aa _ _ _ _ _ (de (zi hr) rfl T.set_ PyProof.Rows.boot_set (@aa _ _ _ _ _ (dC ["_law_stair"] [] (cZ K (pv 1)) (fun _=>(aI (i:=0) (show(["_law_stair"]:List Str).Nodup from by decide +kernel) rfl (Or.inl rfl) (Or.inr rfl))) (fun _=>dz) (fun _=>(@ak _ _ _ _ _ _ _ (aG K) (pv 0) ae (fun _ _=>rfl)))) af rfl)) af rfl)) rfl (Or.inl rfl))
    (@ai _ _ _ _ _ (@aA _ _ 3 _ _ _ _ nd rfl (Or.inl rfl) (aP (mF K rfl) rfl T.max_ PyProof.Rows.boot_max (@aa _ _ _ _ _ (v7 ["_law_one"] [2] (cZ K (pv 2)) (fun _=>(aI (i:=0) (show(["_law_one","_law_steps"]:List Str).Nodup from by decide +kernel) rfl (Or.inr rfl) (Or.inl rfl))) (fun _=>dz) (fun _=>(aP (mF K rfl) rfl T.max_ PyProof.Rows.boot_max (@aa _ _ _ _ _ (dC ["_law_two"] [0] (cZ K (pv 1)) (fun _=>(aI (i:=0) (show(["_law_two","_law_one"]:List Str).Nodup from by decide +kernel) rfl (Or.inl rfl) (Or.inr rfl))) (fun _=>dz) (fun _=>(aw C__law_multiple hr (@aa _ _ _ _ _ (pv 1) (@aa _ _ _ _ _ (pv 0) af rfl) rfl)))) af rfl)))) af rfl)) rfl (Or.inl rfl))
    (@ai _ _ _ _ _ (@aA _ _ 4 _ _ _ _ nd rfl (Or.inr rfl) (aj aF (aj aF (aP (mF K rfl) rfl T.max_ PyProof.Rows.boot_max (@aa _ _ _ _ _ (dC ["_law_stair"] [] (cZ K (pv 1)) (fun _=>(aI (i:=0) (show(["_law_stair"]:List Str).Nodup from by decide +kernel) rfl (Or.inl rfl) (Or.inr rfl))) (fun _=>dz) (fun _=>(@ak _ _ _ _ _ _ _ (aG K) (pv 0) ae (fun _ _=>rfl)))) af rfl)) (pv 3)) ae) rfl (Or.inl rfl))
    (@ai _ _ _ _ _ (jV (i:=5) ["_law_stair"] [4] nd rfl (Or.inl rfl) (cZ K (pv 1)) (fun _=>(aI (i:=0) (show(["_law_stair","_law_many"]:List Str).Nodup from by decide +kernel) rfl (Or.inl rfl) (Or.inr rfl))) (fun _=>dz) (fun _=>(aw C__law_bits hr (@aa _ _ _ _ _ (pv 0) (@aa _ _ _ _ _ (pv 1) af rfl) rfl))))
    (@ai _ _ _ _ _ (bL PassesOwn.never rfl (dw K (@ak _ _ _ _ _ _ _ (aG K) (pv 0) ae (fun _ _=>rfl))) (fj (n:=4) K rfl (bp (aI (i:=6) nd rfl (Or.inl rfl)) (bp (aI (i:=7) nd rfl (Or.inl rfl)) (bp (aI (i:=8) nd rfl (Or.inl rfl)) (bp (aI (i:=9) nd rfl (Or.inl rfl)) eD))))) (@ao _ _ _ (bL PassesOwn.never rfl (dH rfl T.range_ (@aa _ _ _ _ _ (aj bY (pv 4) ae) af rfl)) (aI (i:=10) nd rfl (Or.inl rfl)) (@ai _ _ _ _ _ (@aA _ _ 11 _ _ _ _ nd rfl (Or.inl rfl) (aw C__law_there hr (@aa _ _ _ _ _ (pv 7) (@aa _ _ _ _ _ (pv 10) af rfl) rfl)) rfl (Or.inl rfl))
    (@ao _ _ _ (@aT _ _ _ _ _ _ _ _ (PW.pt (fe (bj (@ak _ _ _ _ _ _ _ (aD K) (@ak _ _ _ _ _ _ _ (aD K) (pv 5) (pv 6) (fun _ _=>rfl)) (pv 10) (fun _ _=>rfl))) (fe (aH ia (pv 11) ae (aC _)) (fZ (bI (bj (@ak _ _ _ _ _ _ _ (aD K) (@ak _ _ _ _ _ _ _ (aD K) (pv 5) (pv 8) (fun _ _=>rfl)) (pv 11) (fun _ _=>rfl)))))))) (@ao _ _ _ (@ax _ _ _ _ aW)) aM))))))
    (@ao _ _ _ (@ax _ _ _ _ aW))))))),?_⟩
  walk_at "rd"
  refine dy (ag.of hl) ?_
  refine fb (xs:=xs) (fun i ys H'=>H'=H/\ys=(List.replicate i (s':Int)).map V.int) (cz (by omega)) ⟨rfl,rfl⟩ (fun i ys H' _ h=>⟨by rw[h.1];exact ag.of hl,by rw[h.2,List.length_map,List.length_replicate];exact Nat.le_refl _⟩) ?_ ?_
  ·rintro i v ys H1 hx ⟨rfl,rfl⟩
   obtain⟨t,ht,⟨⟨p,_,_,rfl,h1,_,_⟩,_⟩⟩:=cx hS hx
   walk_at "rd"
   refine ar ?_
   walk_at "rd"
   refine aE (ah.of h1) (v:=.int (t.s:Nat)) rfl ?_
   refine⟨rfl,?_⟩
   rw[(hbs t (List.mem_of_getElem? ht)).2,List.replicate_succ',List.map_append]
   rfl
  ·rintro ys H1 p ⟨hH,rfl⟩ hp
   subst hH
   have e1:Ext H1 (upd H1 p (.lst ((List.replicate xs.length (s':Int)).map V.int))):=bC hp
   have hp1:(upd H1 p (.lst ((List.replicate xs.length (s':Int)).map V.int))) p=_:=aO
   generalize upd H1 p (.lst ((List.replicate xs.length (s':Int)).map V.int))=H2 at e1 hp1 ⊢
   walk_at "rd"
   refine⟨p,_,rfl,hp1,by rw[List.length_replicate];omega,fun sl D hsl hnd hD=>?_⟩
   have hD1:D=[(s':Int)]:=iG (by omega) hnd hD
   subst hD1
   have e3:=e1.trans (bC (o:=eC P w sl [(s':Int)]) hsl)
   have hsl3:(upd H2 sl (eC P w sl [(s':Int)])) sl=some (eC P w sl [(s':Int)]):=aO
   walk_at "rd"
   show tE P w [.ref sl] (upd H2 sl (eC P w sl [(s':Int)])) _
   generalize upd H2 sl (eC P w sl [(s':Int)])=H3 at e3 hsl3 ⊢
   refine⟨sl,[(s':Int)],rfl,hsl3,by simp,fun st hst=>?_⟩
   have e4:=e3.trans (bC (o:=.lst (List.map V.int [(s':Int)])) hst)
   have hst4:(upd H3 st (.lst (List.map V.int [(s':Int)]))) st=some (.lst [V.int (s':Int)]):=aO
   generalize upd H3 st (.lst (List.map V.int [(s':Int)]))=H4 at e4 hst4 ⊢
   clear e3 hsl3 hsl e1 hp1
   walk_at "rd"
   refine dy (ag.of hst4) ?_
   refine fb (xs:=[V.int (s':Int)]) (fun i ys H'=>Ext H4 H'/\ys=(List.replicate i (s':Int)).map V.int) (cz (by simp)) ⟨Ext.rfl' _,rfl⟩ (fun i ys H' _ h=>⟨ag.of (h.1 _ _ hst4),by rw[h.2,List.length_map,List.length_replicate];exact Nat.le_refl _⟩) ?_ ?_
   ·rintro i v ys H5 hx ⟨e5,rfl⟩
    have hvv:v=.int (s':Int):=by simpa using List.mem_of_getElem? hx
    subst hvv
    walk_at "rd"
    refine ar ?_
    walk_at "rd"
    refine dy (ag.of (e5 _ _ hst4)) ?_
    refine fb (xs:=[V.int (s':Int)]) (fun i ys H'=>H'=H5/\ys=(List.replicate i (s':Int)).map V.int) (cz (by simp)) ⟨rfl,rfl⟩ (fun i ys H' _ h=>⟨by rw[h.1];exact ag.of (e5 _ _ hst4),by rw[h.2,List.length_map,List.length_replicate];exact Nat.le_refl _⟩) ?_ ?_
    ·rintro i' v ys H6 hx ⟨rfl,rfl⟩
     have hvv:v=.int (s':Int):=by simpa using List.mem_of_getElem? hx
     subst hvv
     walk_at "rd"
     refine ar ?_
     walk_at "rd"
     refine⟨s',rfl,hs1,by omega,rfl,?_⟩
     rw[List.replicate_succ',List.map_append]
     rfl
    ·rintro ys H6 p6 ⟨hH,rfl⟩ hp6
     subst hH
     have e6:Ext H6 (upd H6 p6 (.lst ((List.replicate [V.int (s':Int)].length (s':Int)).map V.int))):=bC hp6
     walk_at "rd"
     refine⟨p6,List.replicate [V.int (s':Int)].length (s':Int),rfl,ag.of aO,by simp,fun M hM _=>?_⟩
     rw[List.eq_of_mem_replicate hM]
     refine⟨e5.trans e6,?_⟩
     rw[List.replicate_succ',List.map_append]
     rfl
   ·rintro ys H5 p5 ⟨e5,rfl⟩ hp5
    have e6:=(e4.trans e5).trans (bC (o:=.lst ((List.replicate [V.int (s':Int)].length (s':Int)).map V.int)) hp5)
    have hp6:(upd H5 p5 (.lst ((List.replicate [V.int (s':Int)].length (s':Int)).map V.int))) p5=some (.lst ([(s':Int)].map V.int)):=aO
    generalize upd H5 p5 (.lst ((List.replicate [V.int (s':Int)].length (s':Int)).map V.int))=H6 at e6 hp6 ⊢
    walk_at "rd"
    refine⟨p5,[(s':Int)],rfl,ag.of hp6,by simp,fun M hM _=>?_⟩
    have hM':M=(s':Int):=by simpa using hM
    subst hM'
    clear e4 e5 hp5 hp6 hst4 hst
    walk_at "rd"
    refine dy (ag.of (e6 _ _ hl)) ?_
    refine fb (xs:=xs) (fun i ys H'=>H'=H6/\ys=(List.replicate i (b:Int)).map V.int) (cz (by omega)) ⟨rfl,rfl⟩ (fun i ys H' _ h=>⟨by rw[h.1];exact ag.of (e6 _ _ hl),by rw[h.2,List.length_map,List.length_replicate];exact Nat.le_refl _⟩) ?_ ?_
    ·rintro i v ys H7 hx ⟨rfl,rfl⟩
     obtain⟨t,ht,hvt⟩:=cx hS hx
     obtain⟨⟨p,_,_,rfl,h1,_,_⟩,_⟩:=id (hvt.ext e6)
     walk_at "rd"
     refine ar ?_
     walk_at "rd"
     refine aE (ah.of h1) (v:=.int (t.b:Nat)) rfl ?_
     refine⟨rfl,?_⟩
     rw[(hbs t (List.mem_of_getElem? ht)).1,List.replicate_succ',List.map_append]
     rfl
    ·rintro ys H7 p7 ⟨hH,rfl⟩ hp7
     subst hH
     have e8:=e6.trans (bC (o:=.lst ((List.replicate xs.length (b:Int)).map V.int)) hp7)
     have hp8:(upd H7 p7 (.lst ((List.replicate xs.length (b:Int)).map V.int))) p7=_:=aO
     generalize upd H7 p7 (.lst ((List.replicate xs.length (b:Int)).map V.int))=H8 at e8 hp8 ⊢
     walk_at "rd"
     refine⟨p7,_,rfl,ag.of hp8,by rw[List.length_replicate];omega,fun M hM _=>?_⟩
     rw[List.eq_of_mem_replicate hM]
     clear hM e6 hp7 hp8
     walk_at "rd"
     refine dy (ag.of (e8 _ _ hl)) ?_
     refine fb (xs:=xs) (fun i ys H'=>Ext H8 H'/\∃rs:List Addr,ys=rs.map V.ref/\rs.length=i/\∀(j:Nat) (r:Addr) (t:StT),rs[j]?=some r->ts[j]?=some t->H' r=some (.lst (aQ (b+s'+3) t.f))) (cz (by omega)) ⟨Ext.rfl' _,[],rfl,rfl,fun j r t h=>by simp at h⟩ ?_ ?_ ?_
     ·rintro i ys H' _ ⟨e,rs,rfl,hr,_⟩
      exact⟨ag.of ((e8.trans e) _ _ hl),by rw[List.length_map,hr];exact Nat.le_refl _⟩
     ·rintro i v ys H9 hx ⟨e9,rs,rfl,hrl,hrs⟩
      obtain⟨t,ht,hvt⟩:=cx hS hx
      have hb:=hbs t (List.mem_of_getElem? ht)
      walk_at "rd"
      refine ar ?_
      walk_at "rd"
      refine⟨v,t,b+s'+3,rfl,hvt.ext (e8.trans e9),by omega,by omega,fun q' H10 e10 _ hq'=>?_⟩
      refine⟨e9.trans e10,rs++[q'],?_,by rw[List.length_append,hrl];rfl,fun j r t' hj ht'=>?_⟩
      ·rw[List.map_append];rfl
      ·by_cases hji:j<rs.length
       ·rw[List.getElem?_append_left hji]at hj
        exact e10 _ _ (hrs j r t' hj ht')
       ·rw[List.getElem?_append_right (by omega)]at hj
        have hj0:j-rs.length=0:=by
         have:=(List.getElem?_eq_some_iff.mp hj).1
         simp at this
         omega
        rw[hj0]at hj
        cases hj
        have:j=i:=by omega
        subst this
        rw[ht]at ht'
        cases ht'
        exact hq'
     ·rintro ys H9 p9 ⟨e9,rs,rfl,hrl,hrs⟩ hp9
      have e10:=bC (o:=.lst (rs.map V.ref)) hp9
      have hq10:(upd H9 p9 (.lst (rs.map V.ref))) p9=_:=aO
      have eH:=(e8.trans e9).trans e10
      have hrs10:∀(j:Nat) (r:Addr) (t:StT),rs[j]?=some r->ts[j]?=some t->(upd H9 p9 (.lst (rs.map V.ref))) r=some (.lst (aQ (b+s'+3) t.f)):=fun j r t h1 h2=>e10 _ _ (hrs j r t h1 h2)
      generalize upd H9 p9 (.lst (rs.map V.ref))=H10 at e10 hq10 eH hrs10 ⊢
      clear hrs e10 e9 hp9 e8
      walk_at "rd"
      refine aE (ah.of (eH _ _ hh)) (v:=.ref hq0) rfl ?_
      walk_at "rd"
      refine dj (ah.of (eH _ _ hbs0)) ?_
      refine eY (xs:=bs.map V.ref) (fun i σ H'=>H'=H10/\cls (ws.take i) ts/\∃k1 k2 k3 k4 k5 k6,σ=[some (.ref hp0),some (.ref l),some (.ref st),some (.int (s':Int)),some (.int ((b:Int)+(s':Int)+3)),some (.ref p9),k1,k2,k3,k4,k5,k6]) ⟨rfl,by simp[cls],_,_,_,_,_,_,rfl⟩ (fun i σ H' _ h=>by rw[h.1];exact ah.of (eH _ _ hbs0)) ?_ ?_
      ·rintro i v σ H11 hx ⟨rfl,hc,k1,k2,k3,k4,k5,k6,rfl⟩
       rw[List.getElem?_map]at hx
       obtain⟨b',hb',rfl⟩:=Option.map_eq_some_iff.mp hx
       have hi:i<ws.length:=by
        rw[←hbl]
        exact(List.getElem?_eq_some_iff.mp hb').1
       have hwi:ws[i]?=some ws[i]:=List.getElem?_eq_getElem hi
       have hwv:=eH _ _ (hal.2 i b' _ hb' hwi)
       generalize ws[i]=w0 at hwi hwv
       have okw:=ok.ok w0 (List.mem_of_getElem? hwi)
       have o1:=okw.r0
       have o2:=okw.r1
       have o3:=okw.o0
       have o4:=okw.o1
       have g1:w0.room.toNat<ts.length:=by omega
       have g2:w0.other.toNat<ts.length:=by omega
       have ht1:ts[w0.room.toNat]?=some ts[w0.room.toNat]:=List.getElem?_eq_getElem g1
       have ht2:ts[w0.other.toNat]?=some ts[w0.other.toNat]:=List.getElem?_eq_getElem g2
       obtain⟨v1,_,hs1'⟩:=mT hS ht1
       obtain⟨v2,_,hs2'⟩:=mT hS ht2
       generalize ts[w0.room.toNat]=t1 at ht1 hs1'
       generalize ts[w0.other.toNat]=t2 at ht2 hs2'
       have hr1:rs[w0.room.toNat]?=some (rs[w0.room.toNat]'(by omega)):=List.getElem?_eq_getElem (by omega)
       have hr2:rs[w0.other.toNat]?=some (rs[w0.other.toNat]'(by omega)):=List.getElem?_eq_getElem (by omega)
       have hm1:=hrs10 _ _ _ hr1 ht1
       have hm2:=hrs10 _ _ _ hr2 ht2
       generalize rs[w0.room.toNat]'(by omega)=r1 at hr1 hm1
       generalize rs[w0.other.toNat]'(by omega)=r2 at hr2 hm2
       have p1:bt t1.f b s':=by
        have h:=hbs t1 (List.mem_of_getElem? ht1)
        rw[←h.1,←h.2]
        exact hs1'.per
       have p2:bt t2.f b s':=by
        have h:=hbs t2 (List.mem_of_getElem? ht2)
        rw[←h.1,←h.2]
        exact hs2'.per
       have key:=xS (f:=t1.f) (g:=t2.f) okw.dd hs1 p1 p2
       have a1:bD (rs.map V.ref) w0.room=some (.ref r1):=gC o1 (by rw[List.getElem?_map,hr1];rfl)
       have a2:bD (rs.map V.ref) w0.other=some (.ref r2):=gC o3 (by rw[List.getElem?_map,hr2];rfl)
       walk_at "rd"
       refine fo (ah.of hwv) rfl ?_
       walk_at "rd"
       refine dN (by omega) ?_
       refine forR (fun x σ H'=>H'=H11/\(∀y:Nat,y<x->¬(t1.f y=true/\0<=cc w0.deed y/\t2.f (cc w0.deed y).toNat=false))/\∃k5 k6,σ=[some (.ref hp0),some (.ref l),some (.ref st),some (.int (s':Int)),some (.int ((b:Int)+(s':Int)+3)),some (.ref p9),some (.int w0.room),some (.str w0.deed),some (.int w0.other),some (.str w0.sign),k5,k6]) ⟨rfl,fun y hy=>by omega,_,_,rfl⟩ ?_ ?_
       ·rintro x σ H12 hx ⟨rfl,hno,k5,k6,rfl⟩
        rw[show (0:Int)+(x:Int)=((x:Nat):Int) by omega]
        have hxl:x<b+s'+2:=by omega
        walk_at "rd"
        refine⟨_,_,rfl,?_⟩
        walk_at "rd"
        refine aB (ag.of hq10) a1 ?_
        walk_at "rd"
        refine aB (ag.of hm1) (hJ (by omega) (by omega)) ?_
        rw[Int.toNat_natCast]
        walk_at "rd"
        have stay:(¬(t1.f x=true/\0<=cc w0.deed x/\t2.f (cc w0.deed x).toNat=false))->∀y:Nat,y<x+1->¬(t1.f y=true/\0<=cc w0.deed y/\t2.f (cc w0.deed y).toNat=false):=fun hn y hy=>by
         by_cases hyx:y<x
         ·exact hno y hyx
         ·have:y=x:=by omega
          subst this
          exact hn
        cases hf:t1.f x with
        | false=>
         refine aq ?_
         walk_at "rd"
         exact⟨rfl,stay (fun h=>by rw[hf]at h;cases h.1),_,_,rfl⟩
        | true=>
         refine ar ?_
         walk_at "rd"
         cases hth:decide (cc w0.deed (x:Int) ≥ 0)with
         | false=>
          refine aq ?_
          walk_at "rd"
          exact⟨rfl,stay (fun h=>absurd h.2.1 (of_decide_eq_false hth)),_,_,rfl⟩
         | true=>
          have hth0:0<=cc w0.deed (x:Int):=of_decide_eq_true hth
          have hle:=Az (d:=w0.deed) (x:=(x:Int))
          refine ar ?_
          walk_at "rd"
          refine aB (ag.of hq10) a2 ?_
          walk_at "rd"
          refine aB (ag.of hm2) (hJ hth0 (by omega)) ?_
          walk_at "rd"
          cases hg:t2.f (cc w0.deed (x:Int)).toNat with
          | true=>
           refine aq ?_
           walk_at "rd"
           exact⟨rfl,stay (fun h=>by rw[hg]at h;cases h.2.2),_,_,rfl⟩
          | false=>
           refine ar ?_
           walk_at "rd"
           refine q true _ eH ⟨fun _ hcl=>?_,fun _=>rfl⟩
           exact hcl w0 (List.mem_of_getElem? hwi) t1 t2 ht1 ht2 (key.mp ⟨x,hxl,hf,hth0,hg⟩)
       ·rintro σ H12 ⟨rfl,hno,k5,k6,rfl⟩
        refine⟨rfl,vW hwi hc fun u1 u2 hu1 hu2 hlf=>?_,_,_,_,_,_,_,rfl⟩
        rw[ht1]at hu1
        rw[ht2]at hu2
        cases hu1
        cases hu2
        obtain⟨x,hx,h1,h2,h3⟩:=key.mpr hlf
        exact hno x (by omega) ⟨h1,h2,h3⟩
      ·rintro σ H11 ⟨rfl,hc,k1,k2,k3,k4,k5,k6,rfl⟩
       rw[List.length_map,hbl,List.take_length]at hc
       walk_at "rd"
       exact q false _ eH ⟨fun h=>(nomatch h),fun h=>absurd hc h⟩
theorem qc{xs:List V}{k:Nat}(h:k+1<=xs.length):cq xs (some ((k:Int)+1)) none=xs.drop (k+1):=by
 unfold cq
 rw[HT.iI]
 have e:HT.bN xs.length 0 (some ((k:Int)+1))=k+1:=by
  show(if(k:Int)+1<0 then((k:Int)+1+(xs.length:Int)).toNat else min ((k:Int)+1).toNat xs.length)=k+1
  rw[if_neg (by omega)]
  omega
 rw[e]
 exact List.take_of_length_le (by rw[List.length_drop];omega)
theorem qC{α β:Type}{R:α->β->Prop}:∀{xs:List α} {ys:List β} {x:α} {y:β} {r:Nat},Paired R xs ys->R x y->Paired R (xs.set r x) (ys.set r y)
 | _,_,_,_,_,.nil,_=>.nil
 | _,_,_,_,0,.cons _ t,h=>.cons h t
 | _,_,_,_,r+1,.cons h t,h'=>.cons h (qC (r:=r) t h')
theorem zu{α:Type}{xs:List α}{r:Nat}{x:α}(h:r<xs.length):xs.take r++[x]++xs.drop (r+1)=xs.set r x:=by
 rw[List.set_eq_take_append_cons_drop,if_pos h,List.append_assoc]
 rfl
theorem qd{lo hi x:Int}{o ns ms:List Int}(h:cu lo hi o)(h0:lo<=x)(h1:x<hi)(hn:ns.Nodup)(hm:∀z∈ns,z∈o\/z=x)(hp:List.Perm ms ns)(hs:List.Pairwise (fun a b:Int=>a<=b) ms):cu lo hi ms:=by
 refine⟨?_,fun z hz=>?_⟩
 ·have hd:ms.Nodup:=hp.nodup_iff.mpr hn
  refine(List.Pairwise.and hs hd).imp fun h=>?_
  have:=h.1
  have:=h.2
  omega
 ·rcases hm z (hp.mem_iff.mp hz)with hz | rfl
  ·exact h.2 z hz
  ·exact⟨h0,h1⟩
theorem pL{lo hi x:Int}{o:List Int}(h:cu lo hi o)(b:Bool)(hb:b=true->x∉o):(o.filter (fun y=>!decide (y=x))++if b then[x]else[]).Nodup:=by
 have hd:o.Nodup:=h.1.imp fun h=>by omega
 rw[List.nodup_append]
 refine⟨hd.filter _,by cases b<;>simp,fun a ha c hc=>?_⟩
 cases b with
 | false=>simp at hc
 | true=>
  have hc':c=x:=by simpa using hc
  subst hc'
  have:=(List.mem_filter.mp ha).2
  intro e
  subst e
  simp at this
theorem oM{x:Int}{o:List Int}(b:Bool):(o.filter (fun y=>!decide (y=x))++if b then[x]else[]).length<=o.length+1:=by
 rw[List.length_append]
 have:=List.length_filter_le (fun y=>!decide (y=x)) o
 cases b<;>simp<;>omega
theorem pF{x:Int}{o:List Int}(b:Bool):∀z∈(o.filter (fun y=>!decide (y=x))++if b then[x]else[]),z∈o\/z=x:=by
 intro z hz
 rcases List.mem_append.mp hz with hz | hz
 ·exact .inl (List.mem_filter.mp hz).1
 ·cases b with
  | false=>simp at hz
  | true=>exact .inr (by simpa using hz)
def qA(K:PySem.W.Frag):Sp:=fun vs H Q _=>∃l xs ts r x b s,vs=[.ref l,.int (r:Nat),.int (x:Nat)]/\H l=some (.lst xs)/\bz H xs ts/\xs.length<=100/\r<xs.length/\(∀t∈ts,t.b=b/\t.s=s)/\b<=60/\s<=60/\x<b+s ∧
 ∀l' xs' ts' H',Ext H H'->H' l'=some (.lst xs')->bz H' xs' ts'->xs'.length=xs.length->(∀t∈ts',t.b=b/\t.s=s)->Q (.ref l') H'
abbrev km:Stmt:=stq 57
theorem o8:FnScope ["_law_stairs","_law_room","_law_x","_law_base","_law_step","_law_once","_law_again","_law_some","_law_changed"] ["_law_stairs","_law_room","_law_x"] (aJ km):=⟨rfl,rfl,rfl,by decide +kernel,rfl,by decide +kernel,by decide +kernel⟩
theorem zE{P:Program}{w:World}{K:PySem.W.Frag}{mg:Str->Option Value}{base:Heap}(D:Dfn K mg "_law_flipped" km ["_law_stairs","_law_room","_law_x"])(T:Blt mg):Cal P w K mg base "_law_flipped" 1 ["_law_stairs","_law_room","_law_x"] (qA K):=by
 have nd:=(o8).nd
 refine D.ok o8 (fun vs H Q E h=>?_) (fun X hX H vs Q E h=>?_)
 ·obtain⟨l,xs,ts,r,x,b,s,rfl,_⟩:=h;rfl
 ·obtain⟨f,cdv,A,outer,s,H0,E0,rfl,hr⟩:=hX
  obtain⟨l,xs,ts,r,x,b,s',rfl,hl,hS,hxl,hr0,hbs,hb60,hs60,hx,q⟩:=h
  obtain⟨t,ht,hvt⟩:=cx hS (List.getElem?_eq_getElem hr0)
  have htb:=hbs t (List.mem_of_getElem? ht)
  obtain⟨⟨p,po,pa,hpe,h1,h2,h3⟩,gd⟩:=id hvt
  have hro:cu 0 (t.b:Nat) t.o:=gd.ok.ho
  have hra:cu (t.b:Nat) ((t.b:Nat)+(t.s:Nat)) t.a:=gd.ok.ha
  have hol:t.o.length<=60:=by
   have:=jz t.f 0 t.b
   have he:=uA gd.ok
   rw[Int.toNat_natCast]at he
   rw[show row t.f 0 t.b=t.o from he]at this
   omega
  have hal:t.a.length<=60:=by
   have:=jz t.f t.b t.s
   have he:=xT gd.ok
   rw[Int.toNat_natCast,Int.toNat_natCast]at he
   rw[show row t.f t.b t.s=t.a from he]at this
   omega
  refine⟨_,(@ai _ _ _ _ _ (@dY _ _ _ _ _ _ (@ak _ _ _ _ _ _ _ (aD K) (pv 0) (pv 1) (fun _ _=>rfl)) (fj (n:=4) K rfl (bp (aI (i:=3) nd rfl (Or.inl rfl)) (bp (aI (i:=4) nd rfl (Or.inl rfl)) (bp (aI (i:=5) nd rfl (Or.inl rfl)) (bp (aI (i:=6) nd rfl (Or.inl rfl)) eD))))) rfl rfl rfl)
    (@ai _ _ _ _ _ (bX (aH dD (pv 2) (pv 3) (aC _)) (@ai _ _ _ _ _ (jV (i:=7) ["_law_y"] [2] nd rfl (Or.inl rfl) (dw K (pv 5)) (fun _=>(aI (i:=0) (show(["_law_y","_law_x"]:List Str).Nodup from by decide +kernel) rfl (Or.inl rfl) (Or.inr rfl))) (fun _=>(ip (aH dP (pv 0) (pv 1) (aC _)))) (fun _=>(pv 0)))
    (@ai _ _ _ _ _ (bX (aH (nZ K) (pv 2) (pv 5) (by with_unfolding_all rfl)) (@ao _ _ _ (bo (bF K PySem.F.plainAttrs_list PySem.F.slot_list_append PySem.F.type_list_append bE (pv 7) (@aa _ _ _ _ _ (pv 2) af rfl)))) aM)
    (@ao _ _ _ (@aA _ _ 8 _ _ _ _ nd rfl (Or.inl rfl) (@aX _ _ _ _ _ (@aa _ _ _ _ _ (pv 3) (@aa _ _ _ _ _ (pv 4) (@aa _ _ _ _ _ (de (fF K) rfl T.tuple_ PyProof.Rows.boot_tuple (@aa _ _ _ _ _ (aP oD rfl T.sorted_ PyProof.Rows.boot_sorted (@aa _ _ _ _ _ (pv 7) af rfl)) af rfl)) (@aa _ _ _ _ _ (pv 6) af rfl) rfl) rfl) rfl)) rfl (Or.inl rfl))))) (@ai _ _ _ _ _ (jV (i:=7) ["_law_y"] [2] nd rfl (Or.inl rfl) (dw K (pv 6)) (fun _=>(aI (i:=0) (show(["_law_y","_law_x"]:List Str).Nodup from by decide +kernel) rfl (Or.inl rfl) (Or.inr rfl))) (fun _=>(ip (aH dP (pv 0) (pv 1) (aC _)))) (fun _=>(pv 0)))
    (@ai _ _ _ _ _ (bX (aH (nZ K) (pv 2) (pv 6) (by with_unfolding_all rfl)) (@ao _ _ _ (bo (bF K PySem.F.plainAttrs_list PySem.F.slot_list_append PySem.F.type_list_append bE (pv 7) (@aa _ _ _ _ _ (pv 2) af rfl)))) aM)
    (@ao _ _ _ (@aA _ _ 8 _ _ _ _ nd rfl (Or.inl rfl) (@aX _ _ _ _ _ (@aa _ _ _ _ _ (pv 3) (@aa _ _ _ _ _ (pv 4) (@aa _ _ _ _ _ (pv 5) (@aa _ _ _ _ _ (de (fF K) rfl T.tuple_ PyProof.Rows.boot_tuple (@aa _ _ _ _ _ (aP oD rfl T.sorted_ PyProof.Rows.boot_sorted (@aa _ _ _ _ _ (pv 7) af rfl)) af rfl)) af rfl) rfl) rfl) rfl)) rfl (Or.inl rfl))))))
    (@ao _ _ _ (@ax _ _ _ _ (aj lJ (aj lJ (fA (fU K) (pv 0) gX (eh (pv 1))) (@bf _ _ _ _ (@aa _ _ _ _ _ (pv 8) af rfl))) (fA (fU K) (pv 0) (eh (aj aF (pv 1) ae)) gX)))))),?_⟩
  walk_at "rd"
  refine aB (ag.of hl) (v:=.ref p) (by rw[←hpe];exact dR (List.getElem?_eq_getElem hr0)) ?_
  walk_at "rd"
  refine fo (ah.of h1) rfl ?_
  walk_at "rd"
  refine cO (fun σ' H'=>∃k1 nt o' a',Ext H H'/\bU H' (.ref nt) (t.b:Nat) (t.s:Nat) o' a'/\cu 0 (t.b:Nat) o'/\cu (t.b:Nat) ((t.b:Nat)+(t.s:Nat)) a'/\σ'=[some (.ref l),some (.int (r:Nat)),some (.int (x:Nat)),some (.int (t.b:Nat)),some (.int (t.s:Nat)),some (.ref po),some (.ref pa),k1,some (.ref nt)]) ?_ ?_
  ·walk_at "rd"
   refine dn (fun h=>?_) (fun h=>?_)
   ·have hxb:(x:Int)<(t.b:Int):=by simpa using h
    walk_at "rd"
    refine dj (ah.of h2) ?_
    refine kB (xs:=t.o.map V.int) (fun i ys H'=>H'=H/\ys=((t.o.take i).filter (fun y=>!decide (y=(x:Int)))).map V.int) (cz (by rw[List.length_map];omega)) ⟨rfl,rfl⟩ (fun i ys H' _ h=>⟨by rw[h.1];exact ah.of h2,by rw[h.2,List.length_map];exact Nat.le_trans (List.length_filter_le _ _) (by rw[List.length_take];omega)⟩) ?_ ?_
    ·rintro i v ys H1 hx1 ⟨rfl,rfl⟩
     obtain⟨z,rfl,hz⟩:=fW hx1
     walk_at "rd"
     cases hc:(!decide (z=(x:Int)))with
     | true=>
      refine ar ?_
      walk_at "rd"
      refine⟨rfl,?_⟩
      rw[List.take_add_one,hz,List.filter_append,List.map_append]
      congr 1
      show[V.int z]=List.map V.int (List.filter _ [z])
      rw[List.filter_cons,if_pos hc]
      rfl
     | false=>
      refine aq ⟨rfl,?_⟩
      have hn:List.filter (fun y=>!decide (y=(x:Int))) [z]=[]:=by
       rw[List.filter_cons,if_neg (by rw[hc];exact Bool.false_ne_true)]
       rfl
      rw[List.take_add_one,hz,List.filter_append]
      show _=List.map V.int (_++List.filter _ [z])
      rw[hn,List.append_nil]
    ·rintro ys H1 p1 ⟨hH,rfl⟩ hp1
     subst hH
     rw[List.length_map,List.take_length]
     have e1:=bC (o:=.lst ((t.o.filter (fun y=>!decide (y=(x:Int)))).map V.int)) hp1
     have hp2:(upd H1 p1 (.lst ((t.o.filter (fun y=>!decide (y=(x:Int)))).map V.int))) p1=_:=aO
     generalize upd H1 p1 (.lst ((t.o.filter (fun y=>!decide (y=(x:Int)))).map V.int))=H2 at e1 hp2 ⊢
     have hfl:=List.length_filter_le (fun y=>!decide (y=(x:Int))) t.o
     walk_at "rd"
     refine cO (fun σ' H'=>∃bb:Bool,(bb=true->(x:Int)∉t.o)/\Ext H1 H'/\H' p1=some (.lst (((t.o.filter (fun y=>!decide (y=(x:Int))))++if bb then[(x:Int)]else[]).map V.int))/\σ'=[some (.ref l),some (.int (r:Nat)),some (.int (x:Nat)),some (.int (t.b:Nat)),some (.int (t.s:Nat)),some (.ref po),some (.ref pa),some (.ref p1),none]) ?_ ?_
     ·walk_at "rd"
      refine gp (.inr (ah.of (e1 _ _ h2))) rfl (gn _) ?_
      rw[fY]
      cases hcn:t.o.contains (x:Int)with
      | true=>
       refine⟨_,rfl,aq ?_⟩
       walk_at "rd"
       exact⟨false,fun h=>(nomatch h),e1,by rw[hp2];simp,rfl⟩
      | false=>
       refine⟨_,rfl,ar ?_⟩
       walk_at "rd"
       refine⟨cB (ag.of hp2),?_⟩
       walk_at "rd"
       refine bB hp2 (Nat.lt_of_le_of_lt (by rw[List.length_map];exact hfl) (Nat.lt_of_le_of_lt (show t.o.length<=60 by omega) (by decide))) ?_
       walk_at "rd"
       refine⟨true,fun _ hm=>?_,cj e1 hp1,?_,rfl⟩
       ·rw[List.contains_iff_mem.mpr hm]at hcn
        cases hcn
       ·rw[aO,if_pos rfl,List.map_append]
        rfl
     ·rintro σ' H3 ⟨bb,hbb,e3,hp3,rfl⟩
      have hfn:=oM (x:=(x:Int)) (o:=t.o) bb
      walk_at "rd"
      refine⟨p1,_,rfl,hp3,by omega,fun l2 ms hl2 hpm hsm=>?_⟩
      have e4:=e3.trans (bC (o:=.lst (List.map V.int ms)) hl2)
      have hl3:(upd H3 l2 (.lst (List.map V.int ms))) l2=_:=aO
      generalize upd H3 l2 (.lst (List.map V.int ms))=H4 at e4 hl3 ⊢
      have hris:cu 0 (t.b:Nat) ms:=qd hro (x:=(x:Int)) (by omega) (by omega) (pL hro bb hbb) (pF bb) hpm hsm
      walk_at "rd"
      refine fR (ag.of hl3) (av fun t2 H5 e5 ht2 _=>?_)
      walk_at "rd"
      refine⟨ay (by simp),av fun nt H6 e6 hnt _=>?_⟩
      walk_at "rd"
      have e16:=(e4.trans e5).trans e6
      exact⟨_,nt,ms,t.a,e16,⟨nt,t2,pa,rfl,hnt,e6 _ _ ht2,e16 _ _ h3⟩,hris,hra,rfl⟩
   ·have hxb:¬(x:Int)<(t.b:Int):=by simpa using h
    walk_at "rd"
    refine dj (ah.of h3) ?_
    refine kB (xs:=t.a.map V.int) (fun i ys H'=>H'=H/\ys=((t.a.take i).filter (fun y=>!decide (y=(x:Int)))).map V.int) (cz (by rw[List.length_map];omega)) ⟨rfl,rfl⟩ (fun i ys H' _ h=>⟨by rw[h.1];exact ah.of h3,by rw[h.2,List.length_map];exact Nat.le_trans (List.length_filter_le _ _) (by rw[List.length_take];omega)⟩) ?_ ?_
    ·rintro i v ys H1 hx1 ⟨rfl,rfl⟩
     obtain⟨z,rfl,hz⟩:=fW hx1
     walk_at "rd"
     cases hc:(!decide (z=(x:Int)))with
     | true=>
      refine ar ?_
      walk_at "rd"
      refine⟨rfl,?_⟩
      rw[List.take_add_one,hz,List.filter_append,List.map_append]
      congr 1
      show[V.int z]=List.map V.int (List.filter _ [z])
      rw[List.filter_cons,if_pos hc]
      rfl
     | false=>
      refine aq ⟨rfl,?_⟩
      have hn:List.filter (fun y=>!decide (y=(x:Int))) [z]=[]:=by
       rw[List.filter_cons,if_neg (by rw[hc];exact Bool.false_ne_true)]
       rfl
      rw[List.take_add_one,hz,List.filter_append]
      show _=List.map V.int (_++List.filter _ [z])
      rw[hn,List.append_nil]
    ·rintro ys H1 p1 ⟨hH,rfl⟩ hp1
     subst hH
     rw[List.length_map,List.take_length]
     have e1:=bC (o:=.lst ((t.a.filter (fun y=>!decide (y=(x:Int)))).map V.int)) hp1
     have hp2:(upd H1 p1 (.lst ((t.a.filter (fun y=>!decide (y=(x:Int)))).map V.int))) p1=_:=aO
     generalize upd H1 p1 (.lst ((t.a.filter (fun y=>!decide (y=(x:Int)))).map V.int))=H2 at e1 hp2 ⊢
     have hfl:=List.length_filter_le (fun y=>!decide (y=(x:Int))) t.a
     walk_at "rd"
     refine cO (fun σ' H'=>∃bb:Bool,(bb=true->(x:Int)∉t.a)/\Ext H1 H'/\H' p1=some (.lst (((t.a.filter (fun y=>!decide (y=(x:Int))))++if bb then[(x:Int)]else[]).map V.int))/\σ'=[some (.ref l),some (.int (r:Nat)),some (.int (x:Nat)),some (.int (t.b:Nat)),some (.int (t.s:Nat)),some (.ref po),some (.ref pa),some (.ref p1),none]) ?_ ?_
     ·walk_at "rd"
      refine gp (.inr (ah.of (e1 _ _ h3))) rfl (gn _) ?_
      rw[fY]
      cases hcn:t.a.contains (x:Int)with
      | true=>
       refine⟨_,rfl,aq ?_⟩
       walk_at "rd"
       exact⟨false,fun h=>(nomatch h),e1,by rw[hp2];simp,rfl⟩
      | false=>
       refine⟨_,rfl,ar ?_⟩
       walk_at "rd"
       refine⟨cB (ag.of hp2),?_⟩
       walk_at "rd"
       refine bB hp2 (Nat.lt_of_le_of_lt (by rw[List.length_map];exact hfl) (Nat.lt_of_le_of_lt (show t.a.length<=60 by omega) (by decide))) ?_
       walk_at "rd"
       refine⟨true,fun _ hm=>?_,cj e1 hp1,?_,rfl⟩
       ·rw[List.contains_iff_mem.mpr hm]at hcn
        cases hcn
       ·rw[aO,if_pos rfl,List.map_append]
        rfl
     ·rintro σ' H3 ⟨bb,hbb,e3,hp3,rfl⟩
      have hfn:=oM (x:=(x:Int)) (o:=t.a) bb
      walk_at "rd"
      refine⟨p1,_,rfl,hp3,by omega,fun l2 ms hl2 hpm hsm=>?_⟩
      have e4:=e3.trans (bC (o:=.lst (List.map V.int ms)) hl2)
      have hl3:(upd H3 l2 (.lst (List.map V.int ms))) l2=_:=aO
      generalize upd H3 l2 (.lst (List.map V.int ms))=H4 at e4 hl3 ⊢
      have hris:cu (t.b:Nat) ((t.b:Nat)+(t.s:Nat)) ms:=qd hra (x:=(x:Int)) (by omega) (by omega) (pL hra bb hbb) (pF bb) hpm hsm
      walk_at "rd"
      refine fR (ag.of hl3) (av fun t2 H5 e5 ht2 _=>?_)
      walk_at "rd"
      refine⟨ay (by simp),av fun nt H6 e6 hnt _=>?_⟩
      walk_at "rd"
      have e16:=(e4.trans e5).trans e6
      exact⟨_,nt,t.o,ms,e16,⟨nt,po,t2,rfl,hnt,e16 _ _ h2,e6 _ _ ht2⟩,hro,hris,rfl⟩
  ·rintro σ' H1 ⟨k1,nt,o',a',e1,hst,ro',ra',rfl⟩
   have hl1:=e1 _ _ hl
   walk_at "rd"
   refine fP (ag.of hl1) (av fun lo H2 e2 hlo _=>?_)
   walk_at "rd"
   refine⟨ay (by simp),av fun l1 H3 e3 hl3 _=>?_⟩
   refine lj (e3 _ _ hlo) hl3 (ay (by rw[ma];simp;omega)) (av fun l2 H4 e4 hl4 _=>?_)
   have e14:=e2.trans (e3.trans e4)
   walk_at "rd"
   refine fP (ag.of (e14 _ _ hl1)) (av fun hi H5 e5 hhi _=>?_)
   walk_at "rd"
   refine lj (e5 _ _ hl4) hhi (ay (by rw[ma,qc (by omega)];simp;omega)) (av fun l' H6 e6 hl' _=>?_)
   rw[ma,qc (by omega),zu hr0]at hl'
   have e16:=e14.trans (e5.trans e6)
   have e06:=e1.trans e16
   have b3:=hvt.b3
   have s8:=hvt.s8
   have s1:=hvt.s1
   have g0:Gd (t.b:Nat) (t.s:Nat) o' a':=⟨⟨by omega,by omega,ro',ra'⟩,by omega,by omega⟩
   have hnew:eA H6 (.ref nt) ⟨t.b,t.s,o',a'⟩:=⟨hst.ext e16,g0⟩
   refine q l' (xs.set r (.ref nt)) (ts.set r ⟨t.b,t.s,o',a'⟩) H6 e06 hl' (qC (hS.ext e06) hnew) List.length_set fun u hu=>?_
   rcases List.mem_or_eq_of_mem_set hu with hu | hu
   ·exact hbs u hu
   ·rw[hu]
    exact htb
theorem kW{K:PySem.W.Frag}{H:Hp}{a:Addr}{ns:List Int}{k:Int}{Q:VK}{xe:XK}(h1:ag K H a (ns.map V.int))(h2:ns.length<=63)(h3:0<=k)(q:∀z,Q (.int z) H):mC K [.ref a,.int k] H Q xe:=⟨a,ns,k,rfl,h1,h2,h3,q⟩
theorem sf{K:PySem.W.Frag}{H:Hp}{Q:VK}{p:Addr}{ys:List V}(e:ag K H p ys)(h:dJ H (.lst ys) Q):mj K [.ref p] H Q:=⟨p,ys,rfl,.inl e,h⟩
theorem jE{ts:List StT}(h:∀x∈ts,∀y∈ts,cm x.s y.s<=840):steps ts=true:=
 List.all_eq_true.mpr fun x hx=>List.all_eq_true.mpr fun y hy=>decide_eq_true (h x hx y hy)
theorem wm{b s n:Nat}{M:Nat->Nat->Bool}{t:StT}(h:t∈cH b s M n):t.b=b/\t.s=s:=by
 unfold cH at h
 obtain⟨i,_,rfl⟩:=List.mem_map.mp h
 exact⟨rfl,rfl⟩
theorem vC{H:Hp}{m:Int}{ws:List Way}{ts:List StT}{va vo:V}{x1 x2:Bfs.Pl}{t1 t2:StT}(hc:cls ws ts)(p1:ck H va x1)(p2:ck H vo x2)(i1:dM m x1)(i2:dM m x2)(g1:ts[x1.1.toNat]?=some t1)(g2:ts[x2.1.toNat]?=some t2):je H m ws ts va vo↔(t1.f x1.2.toNat && !t2.f x2.2.toNat)=true:=by
 constructor
 ·rintro⟨_,y1,y2,u1,u2,q1,q2,_,_,k1,k2,l1,l2⟩
  have e1:=p1.eq q1
  have e2:=p2.eq q2
  subst e1
  subst e2
  rw[g1]at k1
  rw[g2]at k2
  cases k1
  cases k2
  rw[l1,l2]
  rfl
 ·intro h
  rw[Bool.and_eq_true,Bool.not_eq_true']at h
  exact⟨hc,x1,x2,t1,t2,p1,p2,i1,i2,g1,g2,h.1,h.2⟩
def fC(t:StT):PyData:=.tuple [.int t.b,.int t.s,.tuple (t.o.map PyData.int),.tuple (t.a.map PyData.int)]
theorem sA{H:Hp}{q:Addr}{xs:List Int}(h:H q=some (.tup (xs.map V.int))):aR H 1 (.ref q) (.tuple (xs.map PyData.int)):=
 .inr ⟨q,_,_,rfl,.inl ⟨h,rfl⟩,n8 (fun i=>(rfl:i=i)) _⟩
theorem eA.rep{H:Hp}{v:V}{t:StT}(h:eA H v t):aR H 2 v (fC t):=by
 obtain⟨⟨p,q,r,rfl,h1,h2,h3⟩,_⟩:=h
 exact .inr ⟨p,_,_,rfl,.inl ⟨h1,rfl⟩,.cons (.inl rfl) (.cons (.inl rfl) (.cons (sA h2) (.cons (sA h3) .nil)))⟩
theorem bz.rep{H:Hp}:∀{vs:List V} {ts:List StT},bz H vs ts->Paired (aR H 2) vs (ts.map fC)
 | _,_,.nil=>.nil
 | _,_,.cons h t=>.cons (eA.rep h) (bz.rep t)
theorem nz{K:PySem.W.Frag}{H:Hp}{vh tv:V}{m:Int}{ws:List Way}{ts:List StT}{Q:VK}{E:XK}(hv:bR H vh m ws)(ok:HOuse m ws)(hg:eE H m tv ts)(hc:cls ws ts)(q:∀H',Ext H H'->Q (.bl true) H'):j7 K [vh,tv] H Q E:=
 ⟨vh,tv,rfl,.inr ⟨m,ws,hv,ok,.inr ⟨ts,hg,fun r H' e hr=>by rw[hr.mpr hc];exact q H' e⟩⟩⟩
theorem unlike{P:Prop}{a b:Bool}(h1:a=true↔P)(h2:b=true↔¬P):(a == b)=false:=by
 by_cases h:P
 ·have ha:=h1.mpr h
  have hb:b=false:=Bool.eq_false_iff.mpr fun hb=>h2.mp hb h
  rw[ha,hb]
  rfl
 ·have hb:=h2.mpr h
  have ha:a=false:=Bool.eq_false_iff.mpr fun ha=>h (h1.mp ha)
  rw[ha,hb]
  rfl
def jw(K:PySem.W.Frag):Sp:=fun vs H Q _=>∃(a:Addr) (ns:List Int),vs=[.ref a]/\ag K H a (ns.map V.int)/\ns.length<=63/\∀H',Q (.bl true) H'
abbrev dQ:Stmt:=stq 58
theorem pZ:FnScope ["_law_script","_law_house_here","_law_draws_here","_law_base","_law_step","_law_starts","_law_stairs","_law_saved","_law_k","_law_more","_law_place","_law_goal","_law_due","_law_told","_law_spoilt"] ["_law_script"] (aJ dQ):=⟨rfl,rfl,rfl,by decide +kernel,rfl,by decide +kernel,by decide +kernel⟩
theorem yn{P:Program}{w:World}{K:PySem.W.Frag}{mg:Str->Option Value}{base:Heap}{f:Addr}{fd:FuncData}(F:Fun K "law" "law" dQ f fd)(T:Blt mg)(C__law_leaves:Cal P w K mg base "_law_leaves" 2 ["_law_house_here","_law_stairs"] (p8 K))(C_sees_closed:Cal P w K mg base "sees_closed" 9 ["house","stairs"] (j7 K))(C__law_flipped:Cal P w K mg base "_law_flipped" 1 ["_law_stairs","_law_room","_law_x"] (qA K))(C_sees_never:Cal P w K mg base "sees_never" 10 ["house","place","goal","stairs"] (pd K))(C__law_holds:Cal P w K mg base "_law_holds" 1 ["_law_stair","_law_x"] (qP K))(C__law_draws:Cal P w K mg base "_law_draws" 2 ["_law_cell_here","_law_widths","_law_prime"] (eX K))(C__law_cell:Cal P w K mg base "_law_cell" 1 ["_law_script","_law_k"] (mC K))(C__law_stairs_of:Cal P w K mg base "_law_stairs_of" 1 ["_law_marks_here","_law_base","_law_step"] (sx K))(C__law_marks:Cal P w K mg base "_law_marks" 1 ["_law_house_here","_law_base","_law_step","_law_starts"] (oR K))(C__law_house:Cal P w K mg base "_law_house" 4 ["_law_cell_here","_law_prime"] (ot K)):FnOk P w K mg base dU 11 f fd ["_law_script"] (jw K):=by
 have nd:=(pZ).nd
 refine F.ok pZ (fun vs H Q E h=>?_) (fun cdv A outer s H vs Q E hr h=>?_)
 ·obtain⟨a,ns,rfl,_⟩:=h;rfl
 ·obtain⟨a,ns,rfl,ha,hl,q⟩:=h
  refine⟨_,(@ai _ _ _ _ _ (@aA _ _ 1 _ _ _ _ nd rfl (Or.inl rfl) (aw C__law_house hr (@aa _ _ _ _ _ (aw C__law_cell hr (@aa _ _ _ _ _ (pv 0) (@aa _ _ _ _ _ ae af rfl) rfl)) (@aa _ _ _ _ _ ae af rfl) rfl)) rfl (Or.inl rfl))
    (@ai _ _ _ _ _ (@aA _ _ 2 _ _ _ _ nd rfl (Or.inl rfl) (aw C__law_draws hr (@aa _ _ _ _ _ (aw C__law_cell hr (@aa _ _ _ _ _ (pv 0) (@aa _ _ _ _ _ ae af rfl) rfl)) (@aa _ _ _ _ _ (@bf _ _ _ _ (fu (.c (.c (.c (.c (.c (.c (.c (.c (.c .n))))))))))) (@aa _ _ _ _ _ ae af rfl) rfl) rfl)) rfl (Or.inl rfl))
    (@ai _ _ _ _ _ (@aA _ _ 3 _ _ _ _ nd rfl (Or.inl rfl) (aj aF ae (@ak _ _ _ _ _ _ _ (aD K) (pv 2) ae (fun _ _=>rfl))) rfl (Or.inl rfl))
    (@ai _ _ _ _ _ (@aA _ _ 4 _ _ _ _ nd rfl (Or.inl rfl) (aj aF ae (@ak _ _ _ _ _ _ _ (aD K) (pv 2) ae (fun _ _=>rfl))) rfl (Or.inl rfl))
    (@ai _ _ _ _ _ (bX (aH bu (@ak _ _ _ _ _ _ _ (aD K) (pv 2) ae (fun _ _=>rfl)) ae (aC _)) (@ao _ _ _ (@aA _ _ 4 _ _ _ _ nd rfl (Or.inl rfl) (aj aF ae (@ak _ _ _ _ _ _ _ (aD K) (pv 2) ae (fun _ _=>rfl))) rfl (Or.inl rfl))) aM)
    (@ai _ _ _ _ _ (@aA _ _ 5 _ _ _ _ nd rfl (Or.inl rfl) (@bf _ _ _ _ (@aa _ _ _ _ _ (@aX _ _ _ _ _ (@aa _ _ _ _ _ (aj bh (@ak _ _ _ _ _ _ _ (aD K) (pv 2) ae (fun _ _=>rfl)) (@ak _ _ _ _ _ _ _ (aG K) (pv 1) ae (fun _ _=>rfl))) (@aa _ _ _ _ _ (@ak _ _ _ _ _ _ _ (aD K) (pv 2) ae (fun _ _=>rfl)) af rfl) rfl)) (@aa _ _ _ _ _ (@aX _ _ _ _ _ (@aa _ _ _ _ _ (aj bh (@ak _ _ _ _ _ _ _ (aD K) (pv 2) ae (fun _ _=>rfl)) (@ak _ _ _ _ _ _ _ (aG K) (pv 1) ae (fun _ _=>rfl))) (@aa _ _ _ _ _ (@ak _ _ _ _ _ _ _ (aD K) (pv 2) ae (fun _ _=>rfl)) af rfl) rfl)) af rfl) rfl)) rfl (Or.inl rfl))
    (@ai _ _ _ _ _ (@aA _ _ 6 _ _ _ _ nd rfl (Or.inl rfl) (aw C__law_stairs_of hr (@aa _ _ _ _ _ (aw C__law_marks hr (@aa _ _ _ _ _ (pv 1) (@aa _ _ _ _ _ (pv 3) (@aa _ _ _ _ _ (pv 4) (@aa _ _ _ _ _ (fA (fU K) (pv 5) (eh (@ak _ _ _ _ _ _ _ (aD K) (pv 2) ae (fun _ _=>rfl))) gX) af rfl) rfl) rfl) rfl)) (@aa _ _ _ _ _ (pv 3) (@aa _ _ _ _ _ (pv 4) af rfl) rfl) rfl)) rfl (Or.inl rfl))
    (@ai _ _ _ _ _ (@aA _ _ 7 _ _ _ _ nd rfl (Or.inl rfl) (de (rm K) rfl T.list_ PyProof.Rows.boot_list (@aa _ _ _ _ _ (pv 6) af rfl)) rfl (Or.inl rfl))
    (@ai _ _ _ _ _ (@aT _ _ _ _ _ _ _ _ (PW.pt (bS (aH rD (aw C_sees_closed hr (@aa _ _ _ _ _ (pv 1) (@aa _ _ _ _ _ (pv 6) af rfl) rfl)) aW (aC _)) (cA (aH rD (aw C_sees_closed hr (@aa _ _ _ _ _ (pv 1) (@aa _ _ _ _ _ (de (rm K) rfl T.list_ PyProof.Rows.boot_list (@aa _ _ _ _ _ (pv 6) af rfl)) af rfl) rfl)) aW (aC _))))) (@ao _ _ _ (@ax _ _ _ _ aW)) aM)
    (@ai _ _ _ _ _ (bL PassesOwn.never rfl (dH rfl T.range_ (@aa _ _ _ _ _ ae af rfl)) (aI (i:=8) nd rfl (Or.inl rfl)) (@ai _ _ _ _ _ (@aA _ _ 9 _ _ _ _ nd rfl (Or.inl rfl) (aw C__law_draws hr (@aa _ _ _ _ _ (aw C__law_cell hr (@aa _ _ _ _ _ (pv 0) (@aa _ _ _ _ _ (aj aF ae (pv 8)) af rfl) rfl)) (@aa _ _ _ _ _ (@bf _ _ _ _ (fu (.c (.c (.c (.c .n)))))) (@aa _ _ _ _ _ ae af rfl) rfl) rfl)) rfl (Or.inl rfl))
    (@ai _ _ _ _ _ (@aA _ _ 10 _ _ _ _ nd rfl (Or.inl rfl) (@aX _ _ _ _ _ (@aa _ _ _ _ _ (aj bh (@ak _ _ _ _ _ _ _ (aD K) (pv 9) ae (fun _ _=>rfl)) (@ak _ _ _ _ _ _ _ (aG K) (pv 1) ae (fun _ _=>rfl))) (@aa _ _ _ _ _ (aj bh (@ak _ _ _ _ _ _ _ (aD K) (pv 9) ae (fun _ _=>rfl)) (aj aF (pv 3) (aj cP ae (pv 4)))) af rfl) rfl)) rfl (Or.inl rfl))
    (@ai _ _ _ _ _ (@aA _ _ 11 _ _ _ _ nd rfl (Or.inl rfl) (@aX _ _ _ _ _ (@aa _ _ _ _ _ (aj bh (@ak _ _ _ _ _ _ _ (aD K) (pv 9) ae (fun _ _=>rfl)) (@ak _ _ _ _ _ _ _ (aG K) (pv 1) ae (fun _ _=>rfl))) (@aa _ _ _ _ _ (aj bh (@ak _ _ _ _ _ _ _ (aD K) (pv 9) ae (fun _ _=>rfl)) (aj aF (pv 3) (aj cP ae (pv 4)))) af rfl) rfl)) rfl (Or.inl rfl))
    (@ai _ _ _ _ _ (@aA _ _ 12 _ _ _ _ nd rfl (Or.inl rfl) (bQ (aw C__law_holds hr (@aa _ _ _ _ _ (@ak _ _ _ _ _ _ _ (aD K) (pv 6) (@ak _ _ _ _ _ _ _ (aG K) (pv 10) ae (fun _ _=>rfl)) (fun _ _=>rfl)) (@aa _ _ _ _ _ (@ak _ _ _ _ _ _ _ (aG K) (pv 10) ae (fun _ _=>rfl)) af rfl) rfl)) (cp (fT (aw C__law_holds hr (@aa _ _ _ _ _ (@ak _ _ _ _ _ _ _ (aD K) (pv 6) (@ak _ _ _ _ _ _ _ (aG K) (pv 11) ae (fun _ _=>rfl)) (fun _ _=>rfl)) (@aa _ _ _ _ _ (@ak _ _ _ _ _ _ _ (aG K) (pv 11) ae (fun _ _=>rfl)) af rfl) rfl))))) rfl (Or.inl rfl))
    (@ai _ _ _ _ _ (@aA _ _ 13 _ _ _ _ nd rfl (Or.inl rfl) (aw C_sees_never hr (@aa _ _ _ _ _ (pv 1) (@aa _ _ _ _ _ (pv 10) (@aa _ _ _ _ _ (pv 11) (@aa _ _ _ _ _ (pv 6) af rfl) rfl) rfl) rfl)) rfl (Or.inl rfl))
    (@ai _ _ _ _ _ (@aT _ _ _ _ _ _ _ _ (PW.pt (bS (bI (bj (aP cK rfl T.isinstance_ PyProof.Rows.boot_isinstance (@aa _ _ _ _ _ (pv 13) (@aa _ _ _ _ _ (cJ (v:=.ty "bool") rfl T.bool_ PyProof.Rows.boot_bool rfl) af rfl) rfl)))) (cA (aH dP (pv 13) (pv 12) (aC _))))) (@ao _ _ _ (@ax _ _ _ _ aW)) aM)
    (@ai _ _ _ _ _ (@aA _ _ 14 _ _ _ _ nd rfl (Or.inl rfl) (aw C__law_flipped hr (@aa _ _ _ _ _ (pv 6) (@aa _ _ _ _ _ (@ak _ _ _ _ _ _ _ (aG K) (pv 10) ae (fun _ _=>rfl)) (@aa _ _ _ _ _ (aj bh (@ak _ _ _ _ _ _ _ (aD K) (pv 9) ae (fun _ _=>rfl)) (aj aF (pv 3) (pv 4))) af rfl) rfl) rfl)) rfl (Or.inl rfl))
    (@ai _ _ _ _ _ (@aA _ _ 13 _ _ _ _ nd rfl (Or.inl rfl) (aw C_sees_closed hr (@aa _ _ _ _ _ (pv 1) (@aa _ _ _ _ _ (pv 14) af rfl) rfl)) rfl (Or.inl rfl))
    (@ao _ _ _ (@aT _ _ _ _ _ _ _ _ (PW.pt (bS (bI (bj (aP cK rfl T.isinstance_ PyProof.Rows.boot_isinstance (@aa _ _ _ _ _ (pv 13) (@aa _ _ _ _ _ (cJ (v:=.ty "bool") rfl T.bool_ PyProof.Rows.boot_bool rfl) af rfl) rfl)))) (cA (aH bu (pv 13) (aw C__law_leaves hr (@aa _ _ _ _ _ (pv 1) (@aa _ _ _ _ _ (pv 14) af rfl) rfl)) (aC _))))) (@ao _ _ _ (@ax _ _ _ _ aW)) aM)))))))))))
    (@ao _ _ _ (@ax _ _ _ _ (dh (vJ hr) (pv 6) (pv 7) (aC _)))))))))))))),?_⟩
  walk_at "rd"
  refine kW ha hl (by decide) fun z=>?_
  walk_at "rd"
  refine⟨z,_,rfl,by decide,fun v m ws H1 e1 hv ok3=>?_⟩
  have ok:=ok3.house
  clear ok3
  have m1:=ok.m1
  have m2:=ok.m12
  walk_at "rd"
  refine kW (ha.ext e1) hl (by decide) fun z2=>?_
  walk_at "rd"
  refine⟨ay (by simp),av fun w0 H2 e2 hw0 _=>?_⟩
  walk_at "rd"
  refine fH [40,12,8,60,12,13,12,61,2] hw0 (by decide) (by decide) (by decide) fun dq ds H3 e3 hd _ hdl hdb=>?_
  obtain⟨d0,g0,b0⟩:=aY hdl hdb 0 rfl
  obtain⟨d1,g1,b1⟩:=aY hdl hdb 1 rfl
  obtain⟨d2,g2,b2⟩:=aY hdl hdb 2 rfl
  obtain⟨d3,g3,b3⟩:=aY hdl hdb 3 rfl
  obtain⟨d4,g4,b4⟩:=aY hdl hdb 4 rfl
  obtain⟨d5,g5,b5⟩:=aY hdl hdb 5 rfl
  obtain⟨d6,g6,b6⟩:=aY hdl hdb 6 rfl
  obtain⟨d7,g7,b7⟩:=aY hdl hdb 7 rfl
  obtain⟨d8,g8,b8⟩:=aY hdl hdb 8 rfl
  obtain⟨d0,rfl⟩:=Int.eq_ofNat_of_zero_le b0.1
  obtain⟨d1,rfl⟩:=Int.eq_ofNat_of_zero_le b1.1
  obtain⟨d3,rfl⟩:=Int.eq_ofNat_of_zero_le b3.1
  have hv3:=hv.ext (e2.trans e3)
  have ha3:=ha.ext (e1.trans (e2.trans e3))
  clear hv ha hw0
  walk_at "rd"
  refine aB (ag.of hd) g0 ?_
  walk_at "rd"
  refine aB (ag.of hd) g1 ?_
  walk_at "rd"
  refine cO (fun σ' H'=>H'=H3/\∃s:Nat,1<=s/\s<=60/\σ'=[some (.ref a),some v,some (.ref dq),some (.int ((1+d0:Nat):Int)),some (.int (s:Nat)),none,none,none,none,none,none,none,none,none,none]) ?_ ?_
  ·walk_at "rd"
   refine aB (ag.of hd) g2 ?_
   walk_at "rd"
   refine dn (fun h=>?_) (fun h=>?_)
   ·walk_at "rd"
    refine aB (ag.of hd) g3 ?_
    walk_at "rd"
    exact⟨rfl,1+d3,by omega,by omega,rfl⟩
   ·walk_at "rd"
    exact⟨rfl,1+d1,by omega,by omega,rfl⟩
  ·rintro σ' H4 ⟨rfl,s',hs1,hs60,rfl⟩
   obtain⟨hp0,hq0,rfl,hh,_⟩:=id hv3
   obtain⟨r4,hr4⟩:=Int.eq_ofNat_of_zero_le (Int.emod_nonneg d4 (show m≠0 by omega))
   have hr4':=Int.emod_lt_of_pos d4 (show 0<m by omega)
   obtain⟨r6,hr6⟩:=Int.eq_ofNat_of_zero_le (Int.emod_nonneg d6 (show m≠0 by omega))
   have hr6':=Int.emod_lt_of_pos d6 (show 0<m by omega)
   walk_at "rd"
   refine aB (ag.of hd) g4 ?_
   walk_at "rd"
   refine aE (ah.of hh) (v:=.int m) rfl ?_
   refine rd_I (show(0:Int)<m by omega) ?_
   rw[hr4]
   walk_at "rd"
   refine aB (ag.of hd) g5 ?_
   walk_at "rd"
   refine⟨ay (by simp),av fun s1 H5 e5 hs1' _=>?_⟩
   walk_at "rd"
   refine aB (ag.of (e5 _ _ hd)) g6 ?_
   walk_at "rd"
   refine aE (ah.of (e5 _ _ hh)) (v:=.int m) rfl ?_
   refine rd_I (show(0:Int)<m by omega) ?_
   rw[hr6]
   walk_at "rd"
   refine aB (ag.of (e5 _ _ hd)) g7 ?_
   walk_at "rd"
   refine⟨ay (by simp),av fun s2 H6 e6 hs2' _=>?_⟩
   walk_at "rd"
   refine⟨ay (by simp),av fun sl H7 e7 hsl _=>?_⟩
   have e67:=e6.trans e7
   have e47:=e5.trans e67
   walk_at "rd"
   refine aB (ag.of (e47 _ _ hd)) g8 ?_
   walk_at "rd"
   refine fP (ag.of hsl) (av fun sc H8 e8 hsc _=>?_)
   have e48:=e47.trans e8
   have hpl1:cM H8 s1 ((r4:Int),d5):=(e67.trans e8) _ _ hs1'
   have hpl2:cM H8 s2 ((r6:Int),d7):=(e7.trans e8) _ _ hs2'
   have hin1:dM m ((r4:Int),d5):=⟨by show(0:Int)<=(r4:Int);omega,by show(r4:Int)<m;omega,b5.1,by show d5<=1000;omega⟩
   have hin2:dM m ((r6:Int),d7):=⟨by show(0:Int)<=(r6:Int);omega,by show(r6:Int)<m;omega,b7.1,by show d7<=1000;omega⟩
   obtain⟨as,xs0,hsc',hpp,hxl0,hin⟩:∃as xs0,H8 sc=some (.lst (List.map V.ref as))/\Paired (cM H8) as xs0/\xs0.length<=10/\∀x∈xs0,dM m x:=by
    have h8:d8=0\/d8=1:=by omega
    rcases h8 with rfl | rfl
    ·refine⟨[s1,s2],[((r4:Int),d5),((r6:Int),d7)],hsc,.cons hpl1 (.cons hpl2 .nil),by simp,fun x hx=>?_⟩
     simp only[List.mem_cons,List.not_mem_nil,or_false]at hx
     rcases hx with rfl | rfl
     ·exact hin1
     ·exact hin2
    ·refine⟨[s2],[((r6:Int),d7)],hsc,.cons hpl2 .nil,by simp,fun x hx=>?_⟩
     rw[List.mem_singleton.mp hx]
     exact hin2
   walk_at "rd"
   refine⟨.ref hp0,m,ws,1+d0,s',sc,as,xs0,rfl,hv3.ext e48,ok,hs1,by omega,hsc',hpp,hxl0,hin,fun mq rs M H9 e9 _ hrs hR hC hM=>?_⟩
   walk_at "rd"
   refine⟨mq,rs,M,1+d0,s',rfl,hs1,by omega,hR,by omega,fun fq xs H10 e10 _ hfq hSt=>?_⟩
   have e410:=e48.trans (e9.trans e10)
   have hv10:=hv3.ext e410
   have ha10:=ha3.ext e410
   have hlen:xs.length=rs.length:=by rw[hSt.len,pE]
   have hcl:cls ws (cH (1+d0) s' M rs.length):=w9 ok.ok (by omega) hs1 hC
   have hbs:∀t∈cH (1+d0) s' M rs.length,t.b=1+d0/\t.s=s':=fun t ht=>wm ht
   have hst:steps (cH (1+d0) s' M rs.length)=true:=jE fun x hx y hy=>by rw[(hbs x hx).2,(hbs y hy).2,jZ hs1];omega
   generalize cH (1+d0) s' M rs.length=ts at hSt hcl hbs hst
   clear hC hM hR hpp hsc' hsc hpl1 hpl2 hin hin1 hin2 hv3 ha3 hs1' hs2' hsl
   walk_at "rd"
   refine sf (ag.of hfq) (av fun sv H11 e11 hsv _=>?_)
   have hv11:=hv10.ext e11
   have hG11:eE H11 m (.ref fq) ts:=⟨fq,xs,rfl,e11 _ _ hfq,by omega,by omega,hSt.ext e11,hst⟩
   walk_at "rd"
   refine nz hv11 ok hG11 hcl fun H12 e12=>?_
   walk_at "rd"
   refine⟨_,_,rfl,rfl,_,rfl,aq ?_⟩
   walk_at "rd"
   refine sf (ag.of ((e11.trans e12) _ _ hfq)) (av fun sw H13 e13 hsw _=>?_)
   have e123:=e12.trans e13
   walk_at "rd"
   refine nz (hv11.ext e123) ok ⟨sw,xs,rfl,hsw,by omega,by omega,hSt.ext (e11.trans e123),hst⟩ hcl fun H14 e14=>?_
   have e114:=e123.trans e14
   walk_at "rd"
   refine⟨_,_,rfl,rfl,_,rfl,aq ?_⟩
   walk_at "rd"
   refine dN (by omega) ?_
   refine forR (fun k σ H'=>Ext H11 H'/\∃k1 k2 k3 k4 k5 k6 k7,σ=[some (.ref a),some (.ref hp0),some (.ref dq),some (.int ((1+d0:Nat):Int)),some (.int (s':Nat)),some (.ref sl),some (.ref fq),some (.ref sv),k1,k2,k3,k4,k5,k6,k7]) ⟨e114,_,_,_,_,_,_,_,rfl⟩ ?_ ?_
   ·rintro k σ H15 hk ⟨e15,k1,k2,k3,k4,k5,k6,k7,rfl⟩
    have e1015:=e11.trans e15
    walk_at "rd"
    refine kW (ha10.ext e1015) hl (by omega) fun z3=>?_
    walk_at "rd"
    refine⟨ay (by simp),av fun w1 H16 e16 hw1 _=>?_⟩
    walk_at "rd"
    refine fH [12,120,12,120] hw1 (by decide) (by decide) (by decide) fun mq2 es H17 e17 hm _ hml hmb=>?_
    obtain⟨c0,f0,a0⟩:=aY hml hmb 0 rfl
    obtain⟨c1,f1,a1⟩:=aY hml hmb 1 rfl
    obtain⟨c2,f2,a2⟩:=aY hml hmb 2 rfl
    obtain⟨c3,f3,a3⟩:=aY hml hmb 3 rfl
    have e1117:=e15.trans (e16.trans e17)
    have hv17:=hv11.ext e1117
    obtain⟨hp1,hq1,hpe,hh17,_⟩:=id hv17
    cases hpe
    obtain⟨p0,hp0'⟩:=Int.eq_ofNat_of_zero_le (Int.emod_nonneg c0 (show m≠0 by omega))
    have hp0b:=Int.emod_lt_of_pos c0 (show 0<m by omega)
    obtain⟨p2,hp2'⟩:=Int.eq_ofNat_of_zero_le (Int.emod_nonneg c2 (show m≠0 by omega))
    have hp2b:=Int.emod_lt_of_pos c2 (show 0<m by omega)
    obtain⟨x1,hx1'⟩:=Int.eq_ofNat_of_zero_le (Int.emod_nonneg c1 (show((1+d0:Nat):Int)+2*(s':Int)≠0 by omega))
    have hx1b:=Int.emod_lt_of_pos c1 (show 0<((1+d0:Nat):Int)+2*(s':Int) by omega)
    obtain⟨x3,hx3'⟩:=Int.eq_ofNat_of_zero_le (Int.emod_nonneg c3 (show((1+d0:Nat):Int)+2*(s':Int)≠0 by omega))
    have hx3b:=Int.emod_lt_of_pos c3 (show 0<((1+d0:Nat):Int)+2*(s':Int) by omega)
    obtain⟨x5,hx5'⟩:=Int.eq_ofNat_of_zero_le (Int.emod_nonneg c1 (show((1+d0:Nat):Int)+(s':Int)≠0 by omega))
    have hx5b:=Int.emod_lt_of_pos c1 (show 0<((1+d0:Nat):Int)+(s':Int) by omega)
    walk_at "rd"
    refine aB (ag.of hm) f0 ?_
    walk_at "rd"
    refine aE (ah.of hh17) (v:=.int m) rfl ?_
    refine rd_I (show(0:Int)<m by omega) ?_
    rw[hp0']
    walk_at "rd"
    refine aB (ag.of hm) f1 ?_
    walk_at "rd"
    rw[hx1']
    refine⟨ay (by simp),av fun pl H18 e18 hpl _=>?_⟩
    walk_at "rd"
    refine aB (ag.of (e18 _ _ hm)) f2 ?_
    walk_at "rd"
    refine aE (ah.of (e18 _ _ hh17)) (v:=.int m) rfl ?_
    refine rd_I (show(0:Int)<m by omega) ?_
    rw[hp2']
    walk_at "rd"
    refine aB (ag.of (e18 _ _ hm)) f3 ?_
    walk_at "rd"
    rw[hx3']
    refine⟨ay (by simp),av fun pg H19 e19 hpg _=>?_⟩
    have hm19:=(e18.trans e19) _ _ hm
    have hpl19:cM H19 pl ((p0:Int),(x1:Int)):=e19 _ _ hpl
    have hpg19:cM H19 pg ((p2:Int),(x3:Int)):=hpg
    have e1119:=e1117.trans (e18.trans e19)
    have hv19:=hv11.ext e1119
    have hG19:=hG11.ext e1119
    have hS19:=hSt.ext (e11.trans e1119)
    have hfq19:=(e11.trans e1119) _ _ hfq
    have hp0x:p0<xs.length:=by omega
    have hp2x:p2<xs.length:=by omega
    obtain⟨t1,ht1,hvt1⟩:=cx hS19 (List.getElem?_eq_getElem hp0x)
    obtain⟨t2,ht2,hvt2⟩:=cx hS19 (List.getElem?_eq_getElem hp2x)
    have hpl1:ck H19 (.ref pl) ((p0:Int),(x1:Int)):=⟨pl,rfl,hpl19⟩
    have hpl2:ck H19 (.ref pg) ((p2:Int),(x3:Int)):=⟨pg,rfl,hpg19⟩
    have key:=vC (m:=m) (t1:=t1) (t2:=t2) hcl hpl1 hpl2 ⟨by show(0:Int)<=(p0:Int);omega,by show(p0:Int)<m;omega,by show(0:Int)<=(x1:Int);omega,by show(x1:Int)<=1000;omega⟩ ⟨by show(0:Int)<=(p2:Int);omega,by show(p2:Int)<m;omega,by show(0:Int)<=(x3:Int);omega,by show(x3:Int)<=1000;omega⟩ (by show ts[((p0:Nat):Int).toNat]?=_;rw[Int.toNat_natCast];exact ht1) (by show ts[((p2:Nat):Int).toNat]?=_;rw[Int.toNat_natCast];exact ht2)
    have key':je H19 m ws ts (.ref pl) (.ref pg)↔(mem t1.b t1.s t1.o t1.a (x1:Int) && !mem t2.b t2.s t2.o t2.a (x3:Int))=true:=key
    clear key e18 e19 hpl hpg hm hh17 hv17
    walk_at "rd"
    refine aE (ah.of hpl19) (v:=.int (p0:Int)) rfl ?_
    walk_at "rd"
    refine aB (ag.of hfq19) (dR (List.getElem?_eq_getElem hp0x)) ?_
    walk_at "rd"
    refine aE (ah.of hpl19) (v:=.int (x1:Int)) rfl ?_
    walk_at "rd"
    refine⟨_,_,_,_,_,_,rfl,hvt1.1,hvt1.2,?_⟩
    refine rd_exb ?_
    cases hm1:mem t1.b t1.s t1.o t1.a (x1:Int)with
    | false=>
     refine aq ?_
     walk_at "rd"
     refine⟨.ref hp0,.ref pl,.ref pg,.ref fq,rfl,.inr ⟨m,ws,hv19,ok,.inr ⟨ts,hG19,hpl1.kn,hpl2.kn,fun r H20 e20 hr=>?_⟩⟩⟩
     have hrd:r=false:=by
      rw[Bool.eq_iff_iff]
      refine(hr.trans key').trans ?_
      rw[hm1]
      simp
     subst hrd
     walk_at "rd"
     refine bK (n:="bool") rfl (b:=true) rfl ?_
     walk_at "rd"
     refine aq ?_
     walk_at "rd"
     refine aq ?_
     walk_at "rd"
     have e1120:=e1119.trans e20
     refine aE (ah.of (e20 _ _ hpl19)) (v:=.int (p0:Int)) rfl ?_
     walk_at "rd"
     refine aB (ag.of (e20 _ _ hm19)) f1 ?_
     walk_at "rd"
     rw[hx5']
     refine⟨fq,xs,ts,p0,x5,1+d0,s',rfl,e20 _ _ hfq19,hS19.ext e20,by omega,hp0x,hbs,by omega,by omega,by omega,fun l' xs' ts' H21 e21 hl' hS' hlen' hbs'=>?_⟩
     have e1121:=e1120.trans e21
     have hst':steps ts'=true:=jE fun x hx y hy=>by rw[(hbs' x hx).2,(hbs' y hy).2,jZ hs1];omega
     walk_at "rd"
     refine⟨.ref hp0,.ref l',rfl,.inr ⟨m,ws,hv11.ext e1121,ok,.inr ⟨ts',⟨l',xs',rfl,hl',by omega,by omega,hS',hst'⟩,fun r2 H22 e22 hr2=>?_⟩⟩⟩
     have e1122:=e1121.trans e22
     walk_at "rd"
     refine bK (n:="bool") rfl (b:=true) rfl ?_
     walk_at "rd"
     refine aq ?_
     walk_at "rd"
     refine⟨.ref hp0,m,ws,l',xs',ts',1+d0,s',rfl,hv11.ext e1122,ok,e22 _ _ hl',hS'.ext e22,by omega,hbs',fun r3 H23 e23 hr3=>?_⟩
     have hb:(r2 == r3)=false:=unlike hr2 hr3
     walk_at "rd"
     rw[hb]
     refine aq ?_
     walk_at "rd"
     exact⟨e1122.trans e23,_,_,_,_,_,_,_,rfl⟩
    | true=>
     refine ar ?_
     walk_at "rd"
     refine aE (ah.of hpg19) (v:=.int (p2:Int)) rfl ?_
     walk_at "rd"
     refine aB (ag.of hfq19) (dR (List.getElem?_eq_getElem hp2x)) ?_
     walk_at "rd"
     refine aE (ah.of hpg19) (v:=.int (x3:Int)) rfl ?_
     walk_at "rd"
     refine⟨_,_,_,_,_,_,rfl,hvt2.1,hvt2.2,?_⟩
     cases hm2:mem t2.b t2.s t2.o t2.a (x3:Int)with
     | true=>
      walk_at "rd"
      refine⟨.ref hp0,.ref pl,.ref pg,.ref fq,rfl,.inr ⟨m,ws,hv19,ok,.inr ⟨ts,hG19,hpl1.kn,hpl2.kn,fun r H20 e20 hr=>?_⟩⟩⟩
      have hrd:r=false:=by
       rw[Bool.eq_iff_iff]
       refine(hr.trans key').trans ?_
       rw[hm1,hm2]
       simp
      subst hrd
      walk_at "rd"
      refine bK (n:="bool") rfl (b:=true) rfl ?_
      walk_at "rd"
      refine aq ?_
      walk_at "rd"
      refine aq ?_
      walk_at "rd"
      have e1120:=e1119.trans e20
      refine aE (ah.of (e20 _ _ hpl19)) (v:=.int (p0:Int)) rfl ?_
      walk_at "rd"
      refine aB (ag.of (e20 _ _ hm19)) f1 ?_
      walk_at "rd"
      rw[hx5']
      refine⟨fq,xs,ts,p0,x5,1+d0,s',rfl,e20 _ _ hfq19,hS19.ext e20,by omega,hp0x,hbs,by omega,by omega,by omega,fun l' xs' ts' H21 e21 hl' hS' hlen' hbs'=>?_⟩
      have e1121:=e1120.trans e21
      have hst':steps ts'=true:=jE fun x hx y hy=>by rw[(hbs' x hx).2,(hbs' y hy).2,jZ hs1];omega
      walk_at "rd"
      refine⟨.ref hp0,.ref l',rfl,.inr ⟨m,ws,hv11.ext e1121,ok,.inr ⟨ts',⟨l',xs',rfl,hl',by omega,by omega,hS',hst'⟩,fun r2 H22 e22 hr2=>?_⟩⟩⟩
      have e1122:=e1121.trans e22
      walk_at "rd"
      refine bK (n:="bool") rfl (b:=true) rfl ?_
      walk_at "rd"
      refine aq ?_
      walk_at "rd"
      refine⟨.ref hp0,m,ws,l',xs',ts',1+d0,s',rfl,hv11.ext e1122,ok,e22 _ _ hl',hS'.ext e22,by omega,hbs',fun r3 H23 e23 hr3=>?_⟩
      have hb:(r2 == r3)=false:=unlike hr2 hr3
      walk_at "rd"
      rw[hb]
      refine aq ?_
      walk_at "rd"
      exact⟨e1122.trans e23,_,_,_,_,_,_,_,rfl⟩
     | false=>
      walk_at "rd"
      refine⟨.ref hp0,.ref pl,.ref pg,.ref fq,rfl,.inr ⟨m,ws,hv19,ok,.inr ⟨ts,hG19,hpl1.kn,hpl2.kn,fun r H20 e20 hr=>?_⟩⟩⟩
      have hrd:r=true:=by
       rw[Bool.eq_iff_iff]
       refine(hr.trans key').trans ?_
       rw[hm1,hm2]
       simp
      subst hrd
      walk_at "rd"
      refine bK (n:="bool") rfl (b:=true) rfl ?_
      walk_at "rd"
      refine aq ?_
      walk_at "rd"
      refine aq ?_
      walk_at "rd"
      have e1120:=e1119.trans e20
      refine aE (ah.of (e20 _ _ hpl19)) (v:=.int (p0:Int)) rfl ?_
      walk_at "rd"
      refine aB (ag.of (e20 _ _ hm19)) f1 ?_
      walk_at "rd"
      rw[hx5']
      refine⟨fq,xs,ts,p0,x5,1+d0,s',rfl,e20 _ _ hfq19,hS19.ext e20,by omega,hp0x,hbs,by omega,by omega,by omega,fun l' xs' ts' H21 e21 hl' hS' hlen' hbs'=>?_⟩
      have e1121:=e1120.trans e21
      have hst':steps ts'=true:=jE fun x hx y hy=>by rw[(hbs' x hx).2,(hbs' y hy).2,jZ hs1];omega
      walk_at "rd"
      refine⟨.ref hp0,.ref l',rfl,.inr ⟨m,ws,hv11.ext e1121,ok,.inr ⟨ts',⟨l',xs',rfl,hl',by omega,by omega,hS',hst'⟩,fun r2 H22 e22 hr2=>?_⟩⟩⟩
      have e1122:=e1121.trans e22
      walk_at "rd"
      refine bK (n:="bool") rfl (b:=true) rfl ?_
      walk_at "rd"
      refine aq ?_
      walk_at "rd"
      refine⟨.ref hp0,m,ws,l',xs',ts',1+d0,s',rfl,hv11.ext e1122,ok,e22 _ _ hl',hS'.ext e22,by omega,hbs',fun r3 H23 e23 hr3=>?_⟩
      have hb:(r2 == r3)=false:=unlike hr2 hr3
      walk_at "rd"
      rw[hb]
      refine aq ?_
      walk_at "rd"
      exact⟨e1122.trans e23,_,_,_,_,_,_,_,rfl⟩
   ·rintro σ H15 ⟨e15,k1,k2,k3,k4,k5,k6,k7,rfl⟩
    have e1015:=e11.trans e15
    have hS15:=hSt.ext e1015
    have rep1:aR H15 3 (.ref fq) (.list (ts.map fC)):=.inr ⟨fq,xs,ts.map fC,rfl,.inr ⟨e1015 _ _ hfq,rfl⟩,hS15.rep⟩
    have rep2:aR H15 3 (.ref sv) (.list (ts.map fC)):=.inr ⟨sv,xs,ts.map fC,rfl,.inr ⟨e15 _ _ hsv,rfl⟩,hS15.rep⟩
    walk_at "rd"
    refine⟨3,3,_,_,rep1,rep2,by omega,?_⟩
    rw[SeqAt.eqv_refl _ (aR.lay 3 rep1).1]
    exact q H15
abbrev Dq(K:PySem.W.Frag)(mg:Str->Option Value)(x:Str)(st:Stmt):Prop:=∃(f:Addr) (fd:FuncData),mg x=some (.ref f)/\Fun K x x st f fd
theorem dq{K:PySem.W.Frag}{h:Heap}{mg:Str->Option Value}(X:K.In h)(G:h.Ns mainGlobals mg){x:Str}{st:Stmt}{f:Addr}{od an:Option Addr}{sl:Array (Option Value)}{oc kV dc pm cd ct:Value}(a:PySem.W.nsIn K mainGlobals x=some (some (.ref f)))(l:K.lookup f=some ⟨oc,od,.func (PySem.W.fnOf x x (fv st) (dW st) (aJ st) .none kV dc pm an cd ct),sl⟩)(c:PySem.W.codeIn K cd x=true)(k:PySem.W.keepIn K (.ref f)=true):Dq K mg x st:=⟨f,_,PySem.W.mg_of X G a,rY (st:=st) l c k⟩
theorem all_mk{l:PySem.W.OpenLaw}{w:World}{K:PySem.W.Frag}{h:Heap}{mg:Str->Option Value}{fa:Addr}(X:K.In h)(G:h.Ns mainGlobals mg)(hfa:mg "law" = some (.ref fa))
  (d0:Dq K mg "_law_there" iT)
  (d1:Dq K mg "_law_bits" jL)
  (d2:Dq K mg "_law_multiple" il)
  (d3:Dq K mg "_law_leaves" jG)
  (d4:Dq K mg "marks_below" iX)
  (d5:Dq K mg "greatest_divisor" i5)
  (d6:Dq K mg "common_step" jB)
  (d7:Dq K mg "raised_by" kz)
  (d8:Dq K mg "refuse_great_stair" iH)
  (d9:Dq K mg "is_whole" i6)
  (d10:Dq K mg "is_rising_row" ke)
  (d11:Dq K mg "are_stair_places" ir)
  (d12:Dq K mg "is_stair" kj)
  (d13:Dq K mg "refuse_no_stair" jd)
  (d14:Dq K mg "refuse_bad_stair" kC)
  (d15:Dq K mg "holds" jD)
  (d16:Dq K mg "is_left_by" iD)
  (d17:Dq K mg "are_near_steps" iB)
  (d18:Dq K mg "is_near_stair" jM)
  (d19:Dq K mg "are_stairs_for" iJ)
  (d20:Dq K mg "is_sign" iR)
  (d21:Dq K mg "is_deed" jh)
  (d22:Dq K mg "is_room" ky)
  (d23:Dq K mg "is_way" jk)
  (d24:Dq K mg "are_ways" kh)
  (d25:Dq K mg "is_house" j9)
  (d26:Dq K mg "sees_closed" jY)
  (d27:Dq K mg "_law_flipped" km)
  (d28:Dq K mg "is_near_place" jX)
  (d29:Dq K mg "sees_never" ik)
  (d30:Dq K mg "_law_holds" iF)
  (d31:Dq K mg "_law_mixed" i9)
  (d32:Dq K mg "_law_draws" iY)
  (d33:Dq K mg "_law_cell" jf)
  (d34:Dq K mg "_law_stairs_of" jK)
  (d35:Dq K mg "_law_marks" jN)
  (d36:Dq K mg "_law_unlike" iM)
  (d37:Dq K mg "_law_drawn_house" kE)
  (d38:Dq K mg "_law_gate_house" jc)
  (d39:Dq K mg "_law_ring_house" jP)
  (d40:Dq K mg "_law_spare" ku)
  (d41:Dq K mg "_law_house" jm)
  {f42:Addr} {od42 an42:Option Addr} {sl42:Array (Option Value)} {oc42 kV42 dc42 pm42 cd42 ct42:Value} (a42:PySem.W.nsIn K mainGlobals "law" = some (some (.ref f42))) (l42:K.lookup f42=some ⟨oc42,od42,.func (PySem.W.fnOf "law" "law" (fv dQ) (dW dQ) (aJ dQ) .none kV42 dc42 pm42 an42 cd42 ct42),sl42⟩) (c42:PySem.W.codeIn K cd42 "law" = true) (k42:PySem.W.keepIn K (.ref f42)=true)
  (z0:PySem.W.nsIn K mainGlobals "len" = some none)
  (z1:PySem.W.nsIn K mainGlobals "isinstance" = some none)
  (z2:PySem.W.nsIn K mainGlobals "tuple" = some none)
  (z3:PySem.W.nsIn K mainGlobals "list" = some none)
  (z4:PySem.W.nsIn K mainGlobals "int" = some none)
  (z5:PySem.W.nsIn K mainGlobals "bool" = some none)
  (z6:PySem.W.nsIn K mainGlobals "range" = some none)
  (z7:PySem.W.nsIn K mainGlobals "zip" = some none)
  (z8:PySem.W.nsIn K mainGlobals "max" = some none)
  (z9:PySem.W.nsIn K mainGlobals "min" = some none)
  (z10:PySem.W.nsIn K mainGlobals "abs" = some none)
  (z11:PySem.W.nsIn K mainGlobals "all" = some none)
  (z12:PySem.W.nsIn K mainGlobals "set" = some none)
  (z13:PySem.W.nsIn K mainGlobals "str" = some none)
  (z14:PySem.W.nsIn K mainGlobals "any" = some none)
  (z15:PySem.W.nsIn K mainGlobals "sorted" = some none)
  {t0:Tok} (v0:PySem.W.nsIn K mainGlobals "GREATEST_STEP" = some (some (.int 840 t0)))
  {t1:Tok} (v1:PySem.W.nsIn K mainGlobals "GREATEST_BASE" = some (some (.int 3000 t1)))
  {t2:Tok} (v2:PySem.W.nsIn K mainGlobals "GREATEST_WAYS" = some (some (.int 100 t2)))
  {t3:Tok} (v3:PySem.W.nsIn K mainGlobals "GREATEST_MANY" = some (some (.int 12 t3)))
  {t4:Tok} (v4:PySem.W.nsIn K mainGlobals "GREATEST_NUMBER" = some (some (.int 1000 t4)))
  {e0:Addr} {q0_0 u0_0 q0_1 u0_1 q0_2 u0_2 q0_3 u0_3:Tok} {ep0:Nat} (x0:PySem.W.nsIn K mainGlobals "RAISED" = some (some (.ref e0))) (y0:K.lookup e0=some (fD w [("up",q0_0,.int (1) u0_0),("down",q0_1,.int (-1) u0_1),("stay",q0_2,.int (0) u0_2),("zero",q0_3,.int (0) u0_3)] ep0)) (w0:(e0 == sysModules)=false)
  {e1:Addr} {q1_0 u1_0 q1_1 u1_1 q1_2 u1_2 q1_3 u1_3:Tok} {ep1:Nat} (x1:PySem.W.nsIn K mainGlobals "TURNED" = some (some (.ref e1))) (y1:K.lookup e1=some (fD w [("up",q1_0,.str "down" u1_0),("down",q1_1,.str "up" u1_1),("stay",q1_2,.str "stay" u1_2),("zero",q1_3,.str "zero" u1_3)] ep1)) (w1:(e1 == sysModules)=false)
  : ∃fd:FuncData,(∀(s:Shared) (v:Value),BindsTo s fd ⟨[v],[]⟩ [("_law_script",v)])/\∀base:Heap,K.In base->base.Ns mainGlobals mg->FnOk l.prog w K mg base dU 11 fa fd ["_law_script"] (jw K):=by
 have e:=hfa.symm.trans (PySem.W.mg_of X G a42)
 cases e
 have T:Blt mg:=⟨PySem.W.mg_none_of X G z0,PySem.W.mg_none_of X G z1,PySem.W.mg_none_of X G z2,PySem.W.mg_none_of X G z3,PySem.W.mg_none_of X G z4,PySem.W.mg_none_of X G z5,PySem.W.mg_none_of X G z6,PySem.W.mg_none_of X G z7,PySem.W.mg_none_of X G z8,PySem.W.mg_none_of X G z9,PySem.W.mg_none_of X G z10,PySem.W.mg_none_of X G z11,PySem.W.mg_none_of X G z12,PySem.W.mg_none_of X G z13,PySem.W.mg_none_of X G z14,PySem.W.mg_none_of X G z15⟩
 have D0:Dfn K mg "_law_there" iT ["_law_deed","_law_x"]:=let ⟨f,fd,a,F⟩:=d0;⟨f,fd,a,F,F.binds (ps:=["_law_deed","_law_x"]) fun _ _ _ _ _ _ us hl=>match us,hl with | [_,_],_=>rfl⟩
 have D1:Dfn K mg "_law_bits" jL ["_law_stair","_law_many"]:=let ⟨f,fd,a,F⟩:=d1;⟨f,fd,a,F,F.binds (ps:=["_law_stair","_law_many"]) fun _ _ _ _ _ _ us hl=>match us,hl with | [_,_],_=>rfl⟩
 have D2:Dfn K mg "_law_multiple" il ["_law_one","_law_two"]:=let ⟨f,fd,a,F⟩:=d2;⟨f,fd,a,F,F.binds (ps:=["_law_one","_law_two"]) fun _ _ _ _ _ _ us hl=>match us,hl with | [_,_],_=>rfl⟩
 have D3:Dfn K mg "_law_leaves" jG ["_law_house_here","_law_stairs"]:=let ⟨f,fd,a,F⟩:=d3;⟨f,fd,a,F,F.binds (ps:=["_law_house_here","_law_stairs"]) fun _ _ _ _ _ _ us hl=>match us,hl with | [_,_],_=>rfl⟩
 have D4:Dfn K mg "marks_below" iX ["stair","end"]:=let ⟨f,fd,a,F⟩:=d4;⟨f,fd,a,F,F.binds (ps:=["stair","end"]) fun _ _ _ _ _ _ us hl=>match us,hl with | [_,_],_=>rfl⟩
 have D5:Dfn K mg "greatest_divisor" i5 ["one","other"]:=let ⟨f,fd,a,F⟩:=d5;⟨f,fd,a,F,F.binds (ps:=["one","other"]) fun _ _ _ _ _ _ us hl=>match us,hl with | [_,_],_=>rfl⟩
 have D6:Dfn K mg "common_step" jB ["one","other"]:=let ⟨f,fd,a,F⟩:=d6;⟨f,fd,a,F,F.binds (ps:=["one","other"]) fun _ _ _ _ _ _ us hl=>match us,hl with | [_,_],_=>rfl⟩
 have D7:Dfn K mg "raised_by" kz ["way"]:=let ⟨f,fd,a,F⟩:=d7;⟨f,fd,a,F,F.binds (ps:=["way"]) fun _ _ _ _ _ _ us hl=>match us,hl with | [_],_=>rfl⟩
 have D8:Dfn K mg "refuse_great_stair" iH ["stair"]:=let ⟨f,fd,a,F⟩:=d8;⟨f,fd,a,F,F.binds (ps:=["stair"]) fun _ _ _ _ _ _ us hl=>match us,hl with | [_],_=>rfl⟩
 have D9:Dfn K mg "is_whole" i6 ["thing"]:=let ⟨f,fd,a,F⟩:=d9;⟨f,fd,a,F,F.binds (ps:=["thing"]) fun _ _ _ _ _ _ us hl=>match us,hl with | [_],_=>rfl⟩
 have D10:Dfn K mg "is_rising_row" ke ["thing","low","end"]:=let ⟨f,fd,a,F⟩:=d10;⟨f,fd,a,F,F.binds (ps:=["thing","low","end"]) fun _ _ _ _ _ _ us hl=>match us,hl with | [_,_,_],_=>rfl⟩
 have D11:Dfn K mg "are_stair_places" ir ["base","step","once","again"]:=let ⟨f,fd,a,F⟩:=d11;⟨f,fd,a,F,F.binds (ps:=["base","step","once","again"]) fun _ _ _ _ _ _ us hl=>match us,hl with | [_,_,_,_],_=>rfl⟩
 have D12:Dfn K mg "is_stair" kj ["thing"]:=let ⟨f,fd,a,F⟩:=d12;⟨f,fd,a,F,F.binds (ps:=["thing"]) fun _ _ _ _ _ _ us hl=>match us,hl with | [_],_=>rfl⟩
 have D13:Dfn K mg "refuse_no_stair" jd ["thing"]:=let ⟨f,fd,a,F⟩:=d13;⟨f,fd,a,F,F.binds (ps:=["thing"]) fun _ _ _ _ _ _ us hl=>match us,hl with | [_],_=>rfl⟩
 have D14:Dfn K mg "refuse_bad_stair" kC ["thing"]:=let ⟨f,fd,a,F⟩:=d14;⟨f,fd,a,F,F.binds (ps:=["thing"]) fun _ _ _ _ _ _ us hl=>match us,hl with | [_],_=>rfl⟩
 have D15:Dfn K mg "holds" jD ["stair","x"]:=let ⟨f,fd,a,F⟩:=d15;⟨f,fd,a,F,F.binds (ps:=["stair","x"]) fun _ _ _ _ _ _ us hl=>match us,hl with | [_,_],_=>rfl⟩
 have D16:Dfn K mg "is_left_by" iD ["way","one","other"]:=let ⟨f,fd,a,F⟩:=d16;⟨f,fd,a,F,F.binds (ps:=["way","one","other"]) fun _ _ _ _ _ _ us hl=>match us,hl with | [_,_,_],_=>rfl⟩
 have D17:Dfn K mg "are_near_steps" iB ["stairs"]:=let ⟨f,fd,a,F⟩:=d17;⟨f,fd,a,F,F.binds (ps:=["stairs"]) fun _ _ _ _ _ _ us hl=>match us,hl with | [_],_=>rfl⟩
 have D18:Dfn K mg "is_near_stair" jM ["thing"]:=let ⟨f,fd,a,F⟩:=d18;⟨f,fd,a,F,F.binds (ps:=["thing"]) fun _ _ _ _ _ _ us hl=>match us,hl with | [_],_=>rfl⟩
 have D19:Dfn K mg "are_stairs_for" iJ ["house","thing"]:=let ⟨f,fd,a,F⟩:=d19;⟨f,fd,a,F,F.binds (ps:=["house","thing"]) fun _ _ _ _ _ _ us hl=>match us,hl with | [_,_],_=>rfl⟩
 have D20:Dfn K mg "is_sign" iR ["thing"]:=let ⟨f,fd,a,F⟩:=d20;⟨f,fd,a,F,F.binds (ps:=["thing"]) fun _ _ _ _ _ _ us hl=>match us,hl with | [_],_=>rfl⟩
 have D21:Dfn K mg "is_deed" jh ["thing"]:=let ⟨f,fd,a,F⟩:=d21;⟨f,fd,a,F,F.binds (ps:=["thing"]) fun _ _ _ _ _ _ us hl=>match us,hl with | [_],_=>rfl⟩
 have D22:Dfn K mg "is_room" ky ["thing","many"]:=let ⟨f,fd,a,F⟩:=d22;⟨f,fd,a,F,F.binds (ps:=["thing","many"]) fun _ _ _ _ _ _ us hl=>match us,hl with | [_,_],_=>rfl⟩
 have D23:Dfn K mg "is_way" jk ["thing","many"]:=let ⟨f,fd,a,F⟩:=d23;⟨f,fd,a,F,F.binds (ps:=["thing","many"]) fun _ _ _ _ _ _ us hl=>match us,hl with | [_,_],_=>rfl⟩
 have D24:Dfn K mg "are_ways" kh ["thing","many"]:=let ⟨f,fd,a,F⟩:=d24;⟨f,fd,a,F,F.binds (ps:=["thing","many"]) fun _ _ _ _ _ _ us hl=>match us,hl with | [_,_],_=>rfl⟩
 have D25:Dfn K mg "is_house" j9 ["thing"]:=let ⟨f,fd,a,F⟩:=d25;⟨f,fd,a,F,F.binds (ps:=["thing"]) fun _ _ _ _ _ _ us hl=>match us,hl with | [_],_=>rfl⟩
 have D26:Dfn K mg "sees_closed" jY ["house","stairs"]:=let ⟨f,fd,a,F⟩:=d26;⟨f,fd,a,F,F.binds (ps:=["house","stairs"]) fun _ _ _ _ _ _ us hl=>match us,hl with | [_,_],_=>rfl⟩
 have D27:Dfn K mg "_law_flipped" km ["_law_stairs","_law_room","_law_x"]:=let ⟨f,fd,a,F⟩:=d27;⟨f,fd,a,F,F.binds (ps:=["_law_stairs","_law_room","_law_x"]) fun _ _ _ _ _ _ us hl=>match us,hl with | [_,_,_],_=>rfl⟩
 have D28:Dfn K mg "is_near_place" jX ["thing","house"]:=let ⟨f,fd,a,F⟩:=d28;⟨f,fd,a,F,F.binds (ps:=["thing","house"]) fun _ _ _ _ _ _ us hl=>match us,hl with | [_,_],_=>rfl⟩
 have D29:Dfn K mg "sees_never" ik ["house","place","goal","stairs"]:=let ⟨f,fd,a,F⟩:=d29;⟨f,fd,a,F,F.binds (ps:=["house","place","goal","stairs"]) fun _ _ _ _ _ _ us hl=>match us,hl with | [_,_,_,_],_=>rfl⟩
 have D30:Dfn K mg "_law_holds" iF ["_law_stair","_law_x"]:=let ⟨f,fd,a,F⟩:=d30;⟨f,fd,a,F,F.binds (ps:=["_law_stair","_law_x"]) fun _ _ _ _ _ _ us hl=>match us,hl with | [_,_],_=>rfl⟩
 have D31:Dfn K mg "_law_mixed" i9 ["_law_cell_here","_law_k","_law_prime"]:=let ⟨f,fd,a,F⟩:=d31;⟨f,fd,a,F,F.binds (ps:=["_law_cell_here","_law_k","_law_prime"]) fun _ _ _ _ _ _ us hl=>match us,hl with | [_,_,_],_=>rfl⟩
 have D32:Dfn K mg "_law_draws" iY ["_law_cell_here","_law_widths","_law_prime"]:=let ⟨f,fd,a,F⟩:=d32;⟨f,fd,a,F,F.binds (ps:=["_law_cell_here","_law_widths","_law_prime"]) fun _ _ _ _ _ _ us hl=>match us,hl with | [_,_,_],_=>rfl⟩
 have D33:Dfn K mg "_law_cell" jf ["_law_script","_law_k"]:=let ⟨f,fd,a,F⟩:=d33;⟨f,fd,a,F,F.binds (ps:=["_law_script","_law_k"]) fun _ _ _ _ _ _ us hl=>match us,hl with | [_,_],_=>rfl⟩
 have D34:Dfn K mg "_law_stairs_of" jK ["_law_marks_here","_law_base","_law_step"]:=let ⟨f,fd,a,F⟩:=d34;⟨f,fd,a,F,F.binds (ps:=["_law_marks_here","_law_base","_law_step"]) fun _ _ _ _ _ _ us hl=>match us,hl with | [_,_,_],_=>rfl⟩
 have D35:Dfn K mg "_law_marks" jN ["_law_house_here","_law_base","_law_step","_law_starts"]:=let ⟨f,fd,a,F⟩:=d35;⟨f,fd,a,F,F.binds (ps:=["_law_house_here","_law_base","_law_step","_law_starts"]) fun _ _ _ _ _ _ us hl=>match us,hl with | [_,_,_,_],_=>rfl⟩
 have D36:Dfn K mg "_law_unlike" iM ["_law_ways"]:=let ⟨f,fd,a,F⟩:=d36;⟨f,fd,a,F,F.binds (ps:=["_law_ways"]) fun _ _ _ _ _ _ us hl=>match us,hl with | [_],_=>rfl⟩
 have D37:Dfn K mg "_law_drawn_house" kE ["_law_cell_here","_law_prime"]:=let ⟨f,fd,a,F⟩:=d37;⟨f,fd,a,F,F.binds (ps:=["_law_cell_here","_law_prime"]) fun _ _ _ _ _ _ us hl=>match us,hl with | [_,_],_=>rfl⟩
 have D38:Dfn K mg "_law_gate_house" jc ["_law_cell_here","_law_prime"]:=let ⟨f,fd,a,F⟩:=d38;⟨f,fd,a,F,F.binds (ps:=["_law_cell_here","_law_prime"]) fun _ _ _ _ _ _ us hl=>match us,hl with | [_,_],_=>rfl⟩
 have D39:Dfn K mg "_law_ring_house" jP ["_law_cell_here","_law_prime"]:=let ⟨f,fd,a,F⟩:=d39;⟨f,fd,a,F,F.binds (ps:=["_law_cell_here","_law_prime"]) fun _ _ _ _ _ _ us hl=>match us,hl with | [_,_],_=>rfl⟩
 have D40:Dfn K mg "_law_spare" ku ["_law_cell_here","_law_width"]:=let ⟨f,fd,a,F⟩:=d40;⟨f,fd,a,F,F.binds (ps:=["_law_cell_here","_law_width"]) fun _ _ _ _ _ _ us hl=>match us,hl with | [_,_],_=>rfl⟩
 have D41:Dfn K mg "_law_house" jm ["_law_cell_here","_law_prime"]:=let ⟨f,fd,a,F⟩:=d41;⟨f,fd,a,F,F.binds (ps:=["_law_cell_here","_law_prime"]) fun _ _ _ _ _ _ us hl=>match us,hl with | [_,_],_=>rfl⟩
 refine⟨PySem.W.fnOf "law" "law" (fv dQ) (dW dQ) (aJ dQ) .none kV42 dc42 pm42 an42 cd42 ct42,fun s v=>.of_eq rfl,fun base KB GB=>?_⟩
 have C0:=@Aj l.prog w K mg base D0 T
 have C1:=@zY l.prog w K mg base D1 T
 have C2:=@vN l.prog w K mg base D2 T
 have C3:=@tV l.prog w K mg base D3 T C0 C1 C2
 have C4:=@xQ l.prog w K mg base D4 T
 have C5:=@Ai l.prog w K mg base D5 T
 have C6:=@Ag l.prog w K mg base D6 T C5
 have C7:=@AA l.prog w K mg base D7 T ⟨_,PySem.W.mg_of X G x0,xR y0 w0⟩
 have C8:=@zw l.prog w K mg base D8 T ⟨_,PySem.W.mg_of X G v0⟩ ⟨_,PySem.W.mg_of X G v1⟩
 have C9:=@zg l.prog w K mg base D9 T
 have C10:=@Ae l.prog w K mg base D10 T C9
 have C11:=@yY l.prog w K mg base D11 T C10 C9
 have C12:=@vX l.prog w K mg base D12 T C11
 have C13:=@za l.prog w K mg base D13 T C12
 have C14:=@yQ l.prog w K mg base D14 T C8 C13
 have C15:=@yw l.prog w K mg base D15 T C14
 have C16:=@yG l.prog w K mg base D16 T C4 C6 C7 C15
 have C17:=@ya l.prog w K mg base D17 T ⟨_,PySem.W.mg_of X G v0⟩ C6
 have C18:=@yJ l.prog w K mg base D18 T ⟨_,PySem.W.mg_of X G v0⟩ ⟨_,PySem.W.mg_of X G v1⟩ C12
 have C19:=@vt l.prog w K mg base D19 T C17 C18
 have C20:=@uI l.prog w K mg base D20 T
 have C21:=@vv l.prog w K mg base D21 T ⟨_,PySem.W.mg_of X G x1,xq y1 w1⟩
 have C22:=@uQ l.prog w K mg base D22 T C9
 have C23:=@zB l.prog w K mg base D23 T C20 C21 C22
 have C24:=@zc l.prog w K mg base D24 T ⟨_,PySem.W.mg_of X G v2⟩ C23
 have C25:=@wZ l.prog w K mg base D25 T ⟨_,PySem.W.mg_of X G v3⟩ C24 C9
 have C26:=@vm l.prog w K mg base D26 T C16 C19 C25
 have C27:=@zE l.prog w K mg base D27 T
 have C28:=@u0 l.prog w K mg base D28 T ⟨_,PySem.W.mg_of X G v4⟩ C9 C22
 have C29:=@yB l.prog w K mg base D29 T C15 C28 C26
 have C30:=@Ac l.prog w K mg base D30 T
 have C31:=@ud l.prog w K mg base D31 T
 have C32:=@zk l.prog w K mg base D32 T C31
 have C33:=@vB l.prog w K mg base D33 T
 have C34:=@yN l.prog w K mg base D34 T
 have C35:=@yd l.prog w K mg base D35 T
 have C36:=@u5 l.prog w K mg base D36 T
 have C37:=@xG l.prog w K mg base D37 T C36 C32
 have C38:=@Ao l.prog w K mg base D38 T C36 C32
 have C39:=@y4 l.prog w K mg base D39 T C32
 have C40:=@xU l.prog w K mg base D40 T
 have C41:=@Af l.prog w K mg base D41 T C37 C38 C39 C40 C32
 exact yn (rY (st:=dQ) l42 c42 k42) T C3 C26 C27 C29 C30 C32 C33 C34 C35 C41
theorem walk{l:PySem.W.OpenLaw}{q:Program}{loose:List Str}{XP:(Str->Option Value)->Heap->Prop}{YP:World->Heap->Prop}{d:DefRec}{K:Params->PySem.W.Frag}(hn:l.most=some 63)(hdf:d.params.defaults=[])
  (hY:∀(w:World) (h:Heap),YP w h->(K w.params).In h)
  (F:∀(w:World) (mg:Str->Option Value) (fa:Addr) (h:Heap),(K w.params).In h->h.Ns mainGlobals mg->mg d.name=some (.ref fa) →
   ∃fd:FuncData,(∀(s:Shared) (u:Value),BindsTo s fd ⟨[u],[]⟩ [("_law_script",u)])/\∀base:Heap,(K w.params).In base->base.Ns mainGlobals mg->FnOk l.prog w (K w.params) mg base dU 11 fa fd ["_law_script"] (jw (K w.params))) :
  PySem.W.WalkO q loose XP YP l.row.toRowW d [] (fun f vs=>PySem.call f vs):=
 L2.xl (n:=63) (k:=11) (x:="_law_script") (CX:=fun _=>dU) (sp:=fun w=>jw (K w.params)) hn (by decide) hdf ⟨rfl,by decide,by decide⟩ hY F (fun _ _ a ns hl _ hS=>⟨a,ns,rfl,hS,hl,fun _=>rfl⟩) fun _ _ _ _ _ z=>z
end My
end
open PySem PySem.W PyProof.Rows
set_option maxRecDepth 100000 in
set_option maxHeartbeats 0 in
theorem PySem.Challenge.cw_stairrooms_k35_whole_closed_built_holds : PySem.Challenge.rw_stairrooms_k35_whole_closed_built.Holds := by
 refine My.top ?_
 k_fill
 refine My.walk (l := PySem.Challenge.rw_stairrooms_k35_whole_closed_built) rfl rfl (fun w h Y => by first | exact PySem.W.kIn_of Y | exact PySem.W.km_in_of Y) ?F
 case F =>
  intro w mg fa h KX G hmg
  refine' My.all_mk KX G hmg (My.dq KX G ?a0 ?l0 ?c0 ?k0) (My.dq KX G ?a1 ?l1 ?c1 ?k1) (My.dq KX G ?a2 ?l2 ?c2 ?k2) (My.dq KX G ?a3 ?l3 ?c3 ?k3) (My.dq KX G ?a4 ?l4 ?c4 ?k4) (My.dq KX G ?a5 ?l5 ?c5 ?k5) (My.dq KX G ?a6 ?l6 ?c6 ?k6) (My.dq KX G ?a7 ?l7 ?c7 ?k7) (My.dq KX G ?a8 ?l8 ?c8 ?k8) (My.dq KX G ?a9 ?l9 ?c9 ?k9) (My.dq KX G ?a10 ?l10 ?c10 ?k10) (My.dq KX G ?a11 ?l11 ?c11 ?k11) (My.dq KX G ?a12 ?l12 ?c12 ?k12) (My.dq KX G ?a13 ?l13 ?c13 ?k13) (My.dq KX G ?a14 ?l14 ?c14 ?k14) (My.dq KX G ?a15 ?l15 ?c15 ?k15) (My.dq KX G ?a16 ?l16 ?c16 ?k16) (My.dq KX G ?a17 ?l17 ?c17 ?k17) (My.dq KX G ?a18 ?l18 ?c18 ?k18) (My.dq KX G ?a19 ?l19 ?c19 ?k19) (My.dq KX G ?a20 ?l20 ?c20 ?k20) (My.dq KX G ?a21 ?l21 ?c21 ?k21) (My.dq KX G ?a22 ?l22 ?c22 ?k22) (My.dq KX G ?a23 ?l23 ?c23 ?k23) (My.dq KX G ?a24 ?l24 ?c24 ?k24) (My.dq KX G ?a25 ?l25 ?c25 ?k25) (My.dq KX G ?a26 ?l26 ?c26 ?k26) (My.dq KX G ?a27 ?l27 ?c27 ?k27) (My.dq KX G ?a28 ?l28 ?c28 ?k28) (My.dq KX G ?a29 ?l29 ?c29 ?k29) (My.dq KX G ?a30 ?l30 ?c30 ?k30) (My.dq KX G ?a31 ?l31 ?c31 ?k31) (My.dq KX G ?a32 ?l32 ?c32 ?k32) (My.dq KX G ?a33 ?l33 ?c33 ?k33) (My.dq KX G ?a34 ?l34 ?c34 ?k34) (My.dq KX G ?a35 ?l35 ?c35 ?k35) (My.dq KX G ?a36 ?l36 ?c36 ?k36) (My.dq KX G ?a37 ?l37 ?c37 ?k37) (My.dq KX G ?a38 ?l38 ?c38 ?k38) (My.dq KX G ?a39 ?l39 ?c39 ?k39) (My.dq KX G ?a40 ?l40 ?c40 ?k40) (My.dq KX G ?a41 ?l41 ?c41 ?k41) ?a42 ?l42 ?c42 ?k42 ?z0 ?z1 ?z2 ?z3 ?z4 ?z5 ?z6 ?z7 ?z8 ?z9 ?z10 ?z11 ?z12 ?z13 ?z14 ?z15 ?v0 ?v1 ?v2 ?v3 ?v4 ?x0 ?y0 ?w0 ?x1 ?y1 ?w1
  (case a0 => k_is); (case l0 => k_is); (case c0 => k_is); (case k0 => k_is)
  (case a1 => k_is); (case l1 => k_is); (case c1 => k_is); (case k1 => k_is)
  (case a2 => k_is); (case l2 => k_is); (case c2 => k_is); (case k2 => k_is)
  (case a3 => k_is); (case l3 => k_is); (case c3 => k_is); (case k3 => k_is)
  (case a4 => k_is); (case l4 => k_is); (case c4 => k_is); (case k4 => k_is)
  (case a5 => k_is); (case l5 => k_is); (case c5 => k_is); (case k5 => k_is)
  (case a6 => k_is); (case l6 => k_is); (case c6 => k_is); (case k6 => k_is)
  (case a7 => k_is); (case l7 => k_is); (case c7 => k_is); (case k7 => k_is)
  (case a8 => k_is); (case l8 => k_is); (case c8 => k_is); (case k8 => k_is)
  (case a9 => k_is); (case l9 => k_is); (case c9 => k_is); (case k9 => k_is)
  (case a10 => k_is); (case l10 => k_is); (case c10 => k_is); (case k10 => k_is)
  (case a11 => k_is); (case l11 => k_is); (case c11 => k_is); (case k11 => k_is)
  (case a12 => k_is); (case l12 => k_is); (case c12 => k_is); (case k12 => k_is)
  (case a13 => k_is); (case l13 => k_is); (case c13 => k_is); (case k13 => k_is)
  (case a14 => k_is); (case l14 => k_is); (case c14 => k_is); (case k14 => k_is)
  (case a15 => k_is); (case l15 => k_is); (case c15 => k_is); (case k15 => k_is)
  (case a16 => k_is); (case l16 => k_is); (case c16 => k_is); (case k16 => k_is)
  (case a17 => k_is); (case l17 => k_is); (case c17 => k_is); (case k17 => k_is)
  (case a18 => k_is); (case l18 => k_is); (case c18 => k_is); (case k18 => k_is)
  (case a19 => k_is); (case l19 => k_is); (case c19 => k_is); (case k19 => k_is)
  (case a20 => k_is); (case l20 => k_is); (case c20 => k_is); (case k20 => k_is)
  (case a21 => k_is); (case l21 => k_is); (case c21 => k_is); (case k21 => k_is)
  (case a22 => k_is); (case l22 => k_is); (case c22 => k_is); (case k22 => k_is)
  (case a23 => k_is); (case l23 => k_is); (case c23 => k_is); (case k23 => k_is)
  (case a24 => k_is); (case l24 => k_is); (case c24 => k_is); (case k24 => k_is)
  (case a25 => k_is); (case l25 => k_is); (case c25 => k_is); (case k25 => k_is)
  (case a26 => k_is); (case l26 => k_is); (case c26 => k_is); (case k26 => k_is)
  (case a27 => k_is); (case l27 => k_is); (case c27 => k_is); (case k27 => k_is)
  (case a28 => k_is); (case l28 => k_is); (case c28 => k_is); (case k28 => k_is)
  (case a29 => k_is); (case l29 => k_is); (case c29 => k_is); (case k29 => k_is)
  (case a30 => k_is); (case l30 => k_is); (case c30 => k_is); (case k30 => k_is)
  (case a31 => k_is); (case l31 => k_is); (case c31 => k_is); (case k31 => k_is)
  (case a32 => k_is); (case l32 => k_is); (case c32 => k_is); (case k32 => k_is)
  (case a33 => k_is); (case l33 => k_is); (case c33 => k_is); (case k33 => k_is)
  (case a34 => k_is); (case l34 => k_is); (case c34 => k_is); (case k34 => k_is)
  (case a35 => k_is); (case l35 => k_is); (case c35 => k_is); (case k35 => k_is)
  (case a36 => k_is); (case l36 => k_is); (case c36 => k_is); (case k36 => k_is)
  (case a37 => k_is); (case l37 => k_is); (case c37 => k_is); (case k37 => k_is)
  (case a38 => k_is); (case l38 => k_is); (case c38 => k_is); (case k38 => k_is)
  (case a39 => k_is); (case l39 => k_is); (case c39 => k_is); (case k39 => k_is)
  (case a40 => k_is); (case l40 => k_is); (case c40 => k_is); (case k40 => k_is)
  (case a41 => k_is); (case l41 => k_is); (case c41 => k_is); (case k41 => k_is)
  (case a42 => k_is); (case l42 => k_is); (case c42 => k_is); (case k42 => k_is)
  (case z0 => k_is)
  (case z1 => k_is)
  (case z2 => k_is)
  (case z3 => k_is)
  (case z4 => k_is)
  (case z5 => k_is)
  (case z6 => k_is)
  (case z7 => k_is)
  (case z8 => k_is)
  (case z9 => k_is)
  (case z10 => k_is)
  (case z11 => k_is)
  (case z12 => k_is)
  (case z13 => k_is)
  (case z14 => k_is)
  (case z15 => k_is)
  (case v0 => k_is)
  (case v1 => k_is)
  (case v2 => k_is)
  (case v3 => k_is)
  (case v4 => k_is)
  (case x0 => k_is); (case y0 => k_is); (case w0 => first | rfl | k_is)
  (case x1 => k_is); (case y1 => k_is); (case w1 => first | rfl | k_is)
