import PyProof.Rows.All
import Wide.All
import OpenK.AllK
import Wide.FinOn
import Lean
import PyProof.EqAt
import PyProof.EqKinds
import PyProof.TupleCall
import KE.KLam
import PySem.Challenge.RW_stairrooms_k19_walked
set_option Elab.async false
namespace PySem.W.Fast
theorem tw338527469345315604 : True := trivial
theorem tw13422202085052161251 : True := trivial
theorem tw9639566180308895252 : True := trivial
theorem tw957392365608800824 : True := trivial
theorem tw3799809879927266953 : True := trivial
theorem tw9478813727029378433 : True := trivial
theorem tw8683106126233938998 : True := trivial
theorem tw9494118397650746276 : True := trivial
theorem tw11258306804293243132 : True := trivial
theorem tw317520914050522945 : True := trivial
theorem tw8325147438673079581 : True := trivial
theorem tw16040925991244642869 : True := trivial
theorem tw911810538002268367 : True := trivial
theorem tw1653573427490751900 : True := trivial
theorem tw17179734013377141832 : True := trivial
theorem tw6492568839464336172 : True := trivial
theorem tw8708482821940700748 : True := trivial
theorem tw11506949944486722818 : True := trivial
theorem tw587389271063745457 : True := trivial
theorem tw4221310431163856405 : True := trivial
theorem tw5051596291613938045 : True := trivial
theorem tw10166892954511498249 : True := trivial
theorem tw4901130387418632981 : True := trivial
theorem tw8089249423132065445 : True := trivial
theorem tw4918694162171632466 : True := trivial
theorem tw13752025206567590305 : True := trivial
theorem tw3299272117925849540 : True := trivial
theorem tw16550187109870087183 : True := trivial
theorem tw13679643304169797691 : True := trivial
theorem tw15945904282836308387 : True := trivial
theorem tw3501889831259424984 : True := trivial
theorem tw1465564398378206461 : True := trivial
theorem tw439055297870408345 : True := trivial
theorem tw11296645311156999791 : True := trivial
theorem tw3015604971527890583 : True := trivial
theorem tw13587954947775276195 : True := trivial
theorem tw2122511160286549640 : True := trivial
theorem tw18133197322224867361 : True := trivial
theorem tw17238752558760652402 : True := trivial
theorem tw17690871460500525271 : True := trivial
theorem tw11029396596865941829 : True := trivial
theorem tw2801974123689400889 : True := trivial
theorem tw17908656721387608039 : True := trivial
theorem tw10053539800044614232 : True := trivial
theorem tw621812022307901172 : True := trivial
theorem tw9779106197386186623 : True := trivial
theorem tw16622475990643145580 : True := trivial
theorem tw12390782021942118942 : True := trivial
theorem tw16835956152608702361 : True := trivial
theorem tw11655376856063916228 : True := trivial
theorem tw447717403241242290 : True := trivial
theorem tw3436359320994789115 : True := trivial
theorem tw2567624805475646970 : True := trivial
theorem tw12664327836493813462 : True := trivial
theorem tw3268437569422444630 : True := trivial
theorem tw18207201711260066481 : True := trivial
theorem tw1057306937073154610 : True := trivial
theorem tw8938549127931359579 : True := trivial
theorem tw2904058922640873309 : True := trivial
theorem tw2308842233520690658 : True := trivial
theorem tw3096949930750721708 : True := trivial
theorem tw16291882091215157828 : True := trivial
theorem tw14635225500592789833 : True := trivial
theorem tw1304240117979556626 : True := trivial
theorem tw11892039915525360660 : True := trivial
theorem tw12679859039530741841 : True := trivial
theorem tw12678953225602555564 : True := trivial
theorem tw9834661911540460081 : True := trivial
theorem tw456031100195234908 : True := trivial
theorem tw2355404199824840798 : True := trivial
theorem tw156604256827902990 : True := trivial
theorem tw12323772569751236006 : True := trivial
theorem tw8184033042858750843 : True := trivial
theorem tw7393957277229836691 : True := trivial
theorem tw6252878086273825581 : True := trivial
theorem tw14836224472968703893 : True := trivial
theorem tw9878173891806150429 : True := trivial
theorem tw4817981600543833687 : True := trivial
theorem tw4797132809794432123 : True := trivial
theorem tw1612923964453859806 : True := trivial
theorem tw15529604674929473973 : True := trivial
theorem tw13814131451427507189 : True := trivial
theorem tw11040902395418374828 : True := trivial
theorem tw7539763571100840771 : True := trivial
theorem tw3008007984704827758 : True := trivial
theorem tw17644514534155135092 : True := trivial
theorem tw11198388801270196117 : True := trivial
theorem tw10500720501580190231 : True := trivial
theorem tw9591621326534694922 : True := trivial
theorem tw931510637493425866 : True := trivial
theorem tw8770029601138628478 : True := trivial
theorem tw8568187914498332850 : True := trivial
theorem tw7627118995241731642 : True := trivial
theorem tw7341270039093922885 : True := trivial
theorem tw7134983793405793177 : True := trivial
theorem tw7115244209674446852 : True := trivial
theorem tw5140171473248983199 : True := trivial
theorem tw4869967250276580588 : True := trivial
theorem tw4337561567144917162 : True := trivial
theorem tw3941131271490555836 : True := trivial
theorem tw3866599564448483793 : True := trivial
theorem tw3104486758596841148 : True := trivial
theorem tw18032779900021213040 : True := trivial
theorem tw179189376934874584 : True := trivial
theorem tw17729564300890611173 : True := trivial
theorem tw17628590533929976792 : True := trivial
theorem tw17571631200592639834 : True := trivial
theorem tw17065142239566038489 : True := trivial
theorem tw16964212798373946863 : True := trivial
theorem tw16924412733494049589 : True := trivial
theorem tw16477329177891185698 : True := trivial
theorem tw16283258727396688951 : True := trivial
theorem tw16245695487900975421 : True := trivial
theorem tw16221219022901355867 : True := trivial
theorem tw15729792075999087868 : True := trivial
theorem tw15186367229040268510 : True := trivial
theorem tw14977234088687162302 : True := trivial
theorem tw14905269560852764671 : True := trivial
theorem tw1488474676173749703 : True := trivial
theorem tw14832175709080873599 : True := trivial
theorem tw14793259975867257014 : True := trivial
theorem tw14775263502782431712 : True := trivial
theorem tw14774234679712429206 : True := trivial
theorem tw14670137783204244808 : True := trivial
theorem tw14221475358252599964 : True := trivial
theorem tw14025392896863203041 : True := trivial
theorem tw13135487405686255751 : True := trivial
theorem tw12357872333080808881 : True := trivial
theorem tw11858878876565515630 : True := trivial
theorem tw11787554532782738252 : True := trivial
theorem tw11339562753883754242 : True := trivial
theorem tw11137535781475439334 : True := trivial
theorem tw10769681086646498438 : True := trivial
theorem tw1069010634818593453 : True := trivial
theorem tw976709547398631384 : True := trivial
theorem tw974001917477778970 : True := trivial
theorem tw9254883793231693245 : True := trivial
theorem tw8147721191793257292 : True := trivial
theorem tw8035931760809384120 : True := trivial
theorem tw762384175361060421 : True := trivial
theorem tw7175792842613744815 : True := trivial
theorem tw684117499851941213 : True := trivial
theorem tw5425565988235752197 : True := trivial
theorem tw3566807236516140644 : True := trivial
theorem tw18127141830633905074 : True := trivial
theorem tw17843839365795533554 : True := trivial
theorem tw17375602352810135561 : True := trivial
theorem tw1682181479755940848 : True := trivial
theorem tw15641575440650329080 : True := trivial
theorem tw11971130579796114034 : True := trivial
theorem tw11383850339681254435 : True := trivial
theorem tw10846541316933110243 : True := trivial
theorem tw10154314827766144001 : True := trivial
theorem tw9539095207651657643 : True := trivial
theorem tw902582806634263858 : True := trivial
theorem tw8143298780573084396 : True := trivial
theorem tw7750769465160294860 : True := trivial
theorem tw6704578965310311189 : True := trivial
theorem tw6393150591798677637 : True := trivial
theorem tw3220723017206680370 : True := trivial
theorem tw3093781508513788219 : True := trivial
theorem tw2448602276733661166 : True := trivial
theorem tw16988158499489311127 : True := trivial
theorem tw16503717402094505217 : True := trivial
theorem tw1637453852661378490 : True := trivial
theorem tw15732654264858244716 : True := trivial
theorem tw14882510809304047780 : True := trivial
theorem tw1382559312744143635 : True := trivial
theorem tw13587432420489492189 : True := trivial
theorem tw9749810874003056045 : True := trivial
theorem tw8863156965792605256 : True := trivial
theorem tw18324572440802094995 : True := trivial
theorem tw18038851775406917655 : True := trivial
theorem tw16176690743668362219 : True := trivial
theorem tw15565656631415577005 : True := trivial
theorem tw14867130098325134529 : True := trivial
theorem tw14800109303040266240 : True := trivial
theorem tw12261729195969336472 : True := trivial
theorem tw11950575282948044451 : True := trivial
theorem tw11560677996495128784 : True := trivial
theorem tw9802983821206752271 : True := trivial
theorem tw9337504207740955038 : True := trivial
theorem tw9281662355237421915 : True := trivial
theorem tw9119751986894142981 : True := trivial
theorem tw8783073200307453229 : True := trivial
theorem tw8612541938085228305 : True := trivial
theorem tw8186763794367992775 : True := trivial
theorem tw7956301941440062040 : True := trivial
theorem tw7875707854763748492 : True := trivial
theorem tw7863108119856694670 : True := trivial
theorem tw7693350481814642131 : True := trivial
theorem tw6787905781562076304 : True := trivial
theorem tw6658185936689682968 : True := trivial
theorem tw6350474685870504171 : True := trivial
theorem tw6181847661251503008 : True := trivial
theorem tw6169767553621521813 : True := trivial
theorem tw6093179522131556990 : True := trivial
theorem tw6008010531490865865 : True := trivial
theorem tw5956051100702781606 : True := trivial
theorem tw512557566824241540 : True := trivial
theorem tw4977895861229493542 : True := trivial
theorem tw477595423994022719 : True := trivial
theorem tw4769826392853288355 : True := trivial
theorem tw4169430970946328830 : True := trivial
theorem tw4090099033456441411 : True := trivial
theorem tw3725507860900426652 : True := trivial
theorem tw3711776433476670718 : True := trivial
theorem tw3465091326942903629 : True := trivial
theorem tw3427924564325372817 : True := trivial
theorem tw3415376743198261602 : True := trivial
theorem tw2800321189394573348 : True := trivial
theorem tw2780415966309772251 : True := trivial
theorem tw2696157109874119690 : True := trivial
theorem tw2313535712752964479 : True := trivial
theorem tw1980078614172103820 : True := trivial
theorem tw1923656493189036919 : True := trivial
theorem tw1921160878016633958 : True := trivial
theorem tw1897875410602398997 : True := trivial
theorem tw18438895364323578133 : True := trivial
theorem tw17994301212061070119 : True := trivial
theorem tw17925923492730016652 : True := trivial
theorem tw17438179399263098937 : True := trivial
theorem tw17423125552162021742 : True := trivial
theorem tw17415715754555401154 : True := trivial
theorem tw16743919102785911483 : True := trivial
theorem tw16661212229125270991 : True := trivial
theorem tw16575673167688372683 : True := trivial
theorem tw16288524480538194225 : True := trivial
theorem tw15860708213811878519 : True := trivial
theorem tw15831574140416324556 : True := trivial
theorem tw15291515778787918541 : True := trivial
theorem tw15269425654929456476 : True := trivial
theorem tw15104015179872336855 : True := trivial
theorem tw14585778381282314952 : True := trivial
theorem tw14397947794671477899 : True := trivial
theorem tw13817142068744991791 : True := trivial
theorem tw13769731409856085057 : True := trivial
theorem tw13573848267779960677 : True := trivial
theorem tw13021086612755893400 : True := trivial
theorem tw12340981958623863397 : True := trivial
theorem tw12249993202121903794 : True := trivial
theorem tw12170451868844119946 : True := trivial
theorem tw12150866365501820893 : True := trivial
theorem tw119775208399524090 : True := trivial
theorem tw119674054762100072 : True := trivial
theorem tw11788803944947964044 : True := trivial
theorem tw11646202046503260017 : True := trivial
theorem tw11644868132232139897 : True := trivial
theorem tw11632185349768217256 : True := trivial
theorem tw11282886037220131173 : True := trivial
theorem tw10785498421680218836 : True := trivial
theorem tw10760031201136348398 : True := trivial
theorem tw1073818698688927204 : True := trivial
theorem tw10276969695076772373 : True := trivial
theorem tw10121643642846045468 : True := trivial
theorem tw10017577030591726147 : True := trivial
theorem tw9602979466950630956 : True := trivial
theorem tw912290570786946579 : True := trivial
theorem tw8777541643666118068 : True := trivial
theorem tw8722415481117505015 : True := trivial
theorem tw8572175281459272771 : True := trivial
theorem tw8562296191053873827 : True := trivial
theorem tw8444893750286939596 : True := trivial
theorem tw8125407811402774585 : True := trivial
theorem tw7552210041123771490 : True := trivial
theorem tw684210181549580303 : True := trivial
theorem tw6744984778823417519 : True := trivial
theorem tw6340304130596135008 : True := trivial
theorem tw6158425238486604569 : True := trivial
theorem tw6130821448147606368 : True := trivial
theorem tw5920227957080817638 : True := trivial
theorem tw5861546300858528307 : True := trivial
theorem tw5190860397250508396 : True := trivial
theorem tw5096499008420852698 : True := trivial
theorem tw4138905410403352593 : True := trivial
theorem tw397431815971221653 : True := trivial
theorem tw3612554134655720397 : True := trivial
theorem tw343839832772155065 : True := trivial
theorem tw3410111710019587186 : True := trivial
theorem tw2217001567337907910 : True := trivial
theorem tw2093290091728733057 : True := trivial
theorem tw1901317781093569649 : True := trivial
theorem tw18334927389422029420 : True := trivial
theorem tw18159918767601648018 : True := trivial
theorem tw17795394019121955329 : True := trivial
theorem tw17716863462265859512 : True := trivial
theorem tw17694846207451314135 : True := trivial
theorem tw17581992280946622230 : True := trivial
theorem tw1703860651114587486 : True := trivial
theorem tw16219145617115034907 : True := trivial
theorem tw15659586693977764946 : True := trivial
theorem tw15142431143280010732 : True := trivial
theorem tw14931363111589739018 : True := trivial
theorem tw14415884991196681418 : True := trivial
theorem tw13921919005729749812 : True := trivial
theorem tw13809386149585982481 : True := trivial
theorem tw13746588304753895505 : True := trivial
theorem tw1218770742548784908 : True := trivial
theorem tw10602856759635532317 : True := trivial
theorem tw10143209758796899180 : True := trivial
theorem tw10063842601507977493 : True := trivial
theorem tw9930359092145622687 : True := trivial
theorem tw9578026534446552097 : True := trivial
theorem tw9248597171148506525 : True := trivial
theorem tw8755266905418455375 : True := trivial
theorem tw8604979696160575008 : True := trivial
theorem tw8487562230406468105 : True := trivial
theorem tw8340926499216404060 : True := trivial
theorem tw8338600121835276020 : True := trivial
theorem tw8039774922555296384 : True := trivial
theorem tw8037652997034423971 : True := trivial
theorem tw7904445426397662059 : True := trivial
theorem tw7848866751621661257 : True := trivial
theorem tw7240639191980452486 : True := trivial
theorem tw7176572640101177836 : True := trivial
theorem tw705330452703051597 : True := trivial
theorem tw6942357351460751399 : True := trivial
theorem tw6878535200312667207 : True := trivial
theorem tw6429728187070590260 : True := trivial
theorem tw6178244272827954729 : True := trivial
theorem tw5994711959094706394 : True := trivial
theorem tw5950158449063615346 : True := trivial
theorem tw590611807225418770 : True := trivial
theorem tw5821001088122574322 : True := trivial
theorem tw5819105399919881484 : True := trivial
theorem tw5717963241065829162 : True := trivial
theorem tw5581349078452510653 : True := trivial
theorem tw5533809914848052129 : True := trivial
theorem tw5442971307982108685 : True := trivial
theorem tw5430882940802126740 : True := trivial
theorem tw5350998768358884751 : True := trivial
theorem tw5295854211047901153 : True := trivial
theorem tw5019332986140449700 : True := trivial
theorem tw5010354932100547165 : True := trivial
theorem tw4801039527111802282 : True := trivial
theorem tw4672492687276399408 : True := trivial
theorem tw4566636315000093172 : True := trivial
theorem tw4532786408525356839 : True := trivial
theorem tw4307926830116509514 : True := trivial
theorem tw4256779784062091372 : True := trivial
theorem tw3975676623463710300 : True := trivial
theorem tw3855077825024126993 : True := trivial
theorem tw3797301031838899788 : True := trivial
theorem tw3258786278723069861 : True := trivial
theorem tw3121732170634265723 : True := trivial
theorem tw3017139974649574989 : True := trivial
theorem tw2904033067149887106 : True := trivial
theorem tw2520694231678862498 : True := trivial
theorem tw2248526150547823735 : True := trivial
theorem tw2187499721780371684 : True := trivial
theorem tw2045930578084102194 : True := trivial
theorem tw1818218476948158209 : True := trivial
theorem tw17990003072128590093 : True := trivial
theorem tw17843169823834903998 : True := trivial
theorem tw17831088686795452451 : True := trivial
theorem tw17744632191838401134 : True := trivial
theorem tw17652695096001567504 : True := trivial
theorem tw17645572048654386869 : True := trivial
theorem tw1754243070517289278 : True := trivial
theorem tw17405974757215459542 : True := trivial
theorem tw17405045028177135956 : True := trivial
theorem tw17357414001117552268 : True := trivial
theorem tw1735571389945239771 : True := trivial
theorem tw17218974888202052536 : True := trivial
theorem tw17104333970416622323 : True := trivial
theorem tw17002439396945247550 : True := trivial
theorem tw16980547499210933930 : True := trivial
theorem tw1691102865124860179 : True := trivial
theorem tw16840622159041910090 : True := trivial
theorem tw16826725409987885975 : True := trivial
theorem tw16821967185522334815 : True := trivial
theorem tw16669810761675009345 : True := trivial
theorem tw16507177298177948937 : True := trivial
theorem tw16408023001231065620 : True := trivial
theorem tw15856698116174445793 : True := trivial
theorem tw15786528573266890262 : True := trivial
theorem tw15660991250957307376 : True := trivial
theorem tw15438610589593914328 : True := trivial
theorem tw15414259988211055499 : True := trivial
theorem tw1536147683505774889 : True := trivial
theorem tw15319796435752655959 : True := trivial
theorem tw15003257448840769609 : True := trivial
theorem tw1492062709326496596 : True := trivial
theorem tw1488503510874697304 : True := trivial
theorem tw14849095896601040367 : True := trivial
theorem tw14650229311272632197 : True := trivial
theorem tw14560837491469231475 : True := trivial
theorem tw14322595565739780087 : True := trivial
theorem tw14292392306617517729 : True := trivial
theorem tw14109453767193502313 : True := trivial
theorem tw13841191037290658594 : True := trivial
theorem tw13820470126673855253 : True := trivial
theorem tw13788262537284159298 : True := trivial
theorem tw13611136168108132581 : True := trivial
theorem tw13501672401922333513 : True := trivial
theorem tw13385619842731796546 : True := trivial
theorem tw13298203722689827917 : True := trivial
theorem tw13140385074510843379 : True := trivial
theorem tw12993445975515111361 : True := trivial
theorem tw12632963454795662708 : True := trivial
theorem tw12296552071639831032 : True := trivial
theorem tw11985937269989024962 : True := trivial
theorem tw11701492411309977178 : True := trivial
theorem tw11687504721054253588 : True := trivial
theorem tw11665305186481523908 : True := trivial
theorem tw11605670760853518920 : True := trivial
theorem tw11365700717142005424 : True := trivial
theorem tw11364142691922409913 : True := trivial
theorem tw11362101791794971524 : True := trivial
theorem tw11166862733661299840 : True := trivial
theorem tw10698238366409207256 : True := trivial
theorem tw10424792985553544811 : True := trivial
theorem tw10263077061500514125 : True := trivial
theorem tw10150324261921262226 : True := trivial
theorem tw10118012357411222232 : True := trivial
theorem tw10095913671755900038 : True := trivial
theorem tw10035081181641441020 : True := trivial
end PySem.W.Fast
section
open PySem PySem.W PyProof.Rows
set_option maxRecDepth 100000 in
set_option maxHeartbeats 0 in
open_top My.top for PySem.Challenge.rw_stairrooms_k19_walked
end
set_option linter.all false
set_option maxRecDepth 100000
namespace L2
open PySem PySem.Spec PyProof.Rows
noncomputable abbrev Key := Sum Int Str
noncomputable def keyIs : Key → Value → Bool
  | .inl k, v => Value.isInt k v
  | .inr x, v => Value.isStrOf x v
noncomputable def keyH (w : World) : Key → Int
  | .inl k => hashInt k
  | .inr x => hashStr w x
theorem keyIs_shape : ∀ {k : Key} {v : Value}, keyIs k v = true → (∃ i t, k = Sum.inl i ∧ v = Value.int i t) ∨ (∃ x t, k = Sum.inr x ∧ v = Value.str x t)
  | .inl i, v, h => by
    obtain ⟨t, e⟩ := Value.isInt_shape (k := i) (v := v) h
    exact .inl ⟨i, t, rfl, e⟩
  | .inr x, v, h => by
    obtain ⟨t, e⟩ := Value.isStrOf_shape (x := x) (v := v) h
    exact .inr ⟨x, t, rfl, e⟩
theorem keyIs_int (i : Int) (t : Tok) : keyIs (.inl i) (.int i t) = true := by simp [keyIs, Value.isInt]
theorem keyIs_str (x : Str) (t : Tok) : keyIs (.inr x) (.str x t) = true := by simp [keyIs, Value.isStrOf]
theorem key_ll (a b : Int) : decide ((Sum.inl a : Key) = Sum.inl b) = (a == b) := by
  by_cases e : a = b
  · subst e; simp
  · have h : ¬ (Sum.inl a : Key) = Sum.inl b := fun q => e (Sum.inl.inj q)
    rw [decide_eq_false h]
    exact (beq_eq_false_iff_ne.mpr e).symm
theorem key_rr (a b : Str) : decide ((Sum.inr a : Key) = Sum.inr b) = decide (a = b) := by
  by_cases e : a = b
  · subst e; simp
  · have h : ¬ (Sum.inr a : Key) = Sum.inr b := fun q => e (Sum.inr.inj q)
    rw [decide_eq_false h, decide_eq_false e]
theorem key_lr (a : Int) (b : Str) : decide ((Sum.inl a : Key) = Sum.inr b) = false := decide_eq_false (fun q => nomatch q)
theorem key_rl (a : Str) (b : Int) : decide ((Sum.inr a : Key) = Sum.inl b) = false := decide_eq_false (fun q => nomatch q)
noncomputable def mixKind (prog : Program) (w : World) : PySem.KeyKind prog w Key where
  is := keyIs
  hash := keyH w
  inj := fun v a b ha hb => by
    rcases keyIs_shape ha with ⟨i, t, rfl, rfl⟩ | ⟨x, t, rfl, rfl⟩
    · rcases keyIs_shape hb with ⟨j, u, rfl, e⟩ | ⟨y, u, rfl, e⟩
      · injection e with e1 _; rw [e1]
      · exact nomatch e
    · rcases keyIs_shape hb with ⟨j, u, rfl, e⟩ | ⟨y, u, rfl, e⟩
      · exact nomatch e
      · injection e with e1 _; rw [e1]
  byValue := fun k v h => by
    rcases keyIs_shape h with ⟨i, t, rfl, rfl⟩ | ⟨x, t, rfl, rfl⟩ <;> rfl
  pyHash := fun hv h => by
    rcases keyIs_shape hv with ⟨i, t, rfl, rfl⟩ | ⟨x, t, rfl, rfl⟩
    · exact wpAny_pyHash_int h
    · exact wpAny_pyHash_str h
  eqBool := fun hu hv h => by
    rcases keyIs_shape hu with ⟨i, t, rfl, rfl⟩ | ⟨x, t, rfl, rfl⟩
    · rcases keyIs_shape hv with ⟨j, u, rfl, rfl⟩ | ⟨y, u, rfl, rfl⟩
      · rw [key_ll] at h; exact wpAny_eqBool_int h
      · rw [key_lr] at h; exact SeqAt.EqAt.int_str i t y u _ _ _ _ h
    · rcases keyIs_shape hv with ⟨j, u, rfl, rfl⟩ | ⟨y, u, rfl, rfl⟩
      · rw [key_rl] at h; exact SeqAt.EqAt.str_int x t j u _ _ _ _ h
      · rw [key_rr] at h; exact wpAny_eqBool_str h
  «strs» := fun k x t v h => by
    rcases keyIs_shape h with ⟨i, u, rfl, e⟩ | ⟨y, u, rfl, e⟩
    · exact nomatch e
    · injection e with e1 _
      subst e1
      cases v <;> rfl
theorem mixKind_int (prog : Program) (w : World) (i : Int) (t : Tok) : (mixKind prog w).is (.inl i) (.int i t) = true := keyIs_int i t
theorem mixKind_str (prog : Program) (w : World) (x : Str) (t : Tok) : (mixKind prog w).is (.inr x) (.str x t) = true := keyIs_str x t
end L2
namespace L2
open PySem PySem.Spec PyProof.Rows
inductive V where
  | non | bl (b : Bool) | int (i : Int) | str (x : Str) | byt (b : Array UInt8) | flt (b : UInt64) | ref (a : Addr) | ty (n : String)
  deriving DecidableEq
noncomputable def RelV : V → Value → Prop
  | .non, u => u = Value.none
  | .bl b, u => u = Value.bool b
  | .int i, u => ∃ t, u = Value.int i t
  | .str x, u => ∃ t, u = Value.str x t
  | .byt b, u => ∃ t, u = Value.bytes b t
  | .flt b, u => ∃ t, u = Value.float b t
  | .ref a, u => u = Value.ref a
  | .ty n, u => u = Value.type n
noncomputable abbrev Vals : List V → List Value → Prop := Paired RelV
theorem Vals.length {xs : List V} {us : List Value} (r : Vals xs us) : xs.length = us.length := Paired.length r
theorem Vals.get : ∀ {xs : List V} {us : List Value} {i : Nat} {x : V}, Vals xs us → xs[i]? = some x → ∃ u, us[i]? = some u ∧ RelV x u
  | _, _, _, _, .nil, e => by simp at e
  | _, _, 0, _, .cons r _, e => by simp at e; subst e; exact ⟨_, rfl, r⟩
  | _, _, i + 1, x, .cons _ t, e => by
    obtain ⟨u, h1, h2⟩ := Vals.get (i := i) (x := x) t (by simpa using e)
    exact ⟨u, by simpa using h1, h2⟩
theorem Vals.set {x : V} {u : Value} (r : RelV x u) : ∀ {xs : List V} {us : List Value} (i : Nat), Vals xs us → Vals (xs.set i x) (us.set i u)
  | _, _, _, .nil => .nil
  | _, _, 0, .cons _ t => .cons r t
  | _, _, i + 1, .cons q t => .cons q (Vals.set r i t)
theorem Vals.append : ∀ {xs ys : List V} {us ws : List Value}, Vals xs us → Vals ys ws → Vals (xs ++ ys) (us ++ ws)
  | _, _, _, _, .nil, s => s
  | _, _, _, _, .cons r t, s => .cons r (Vals.append t s)
theorem Vals.take : ∀ {xs : List V} {us : List Value} (n : Nat), Vals xs us → Vals (xs.take n) (us.take n)
  | _, _, 0, _ => .nil
  | _, _, _ + 1, .nil => .nil
  | _, _, n + 1, .cons r t => .cons r (Vals.take n t)
theorem Vals.drop : ∀ {xs : List V} {us : List Value} (n : Nat), Vals xs us → Vals (xs.drop n) (us.drop n)
  | _, _, 0, r => r
  | _, _, _ + 1, .nil => .nil
  | _, _, n + 1, .cons _ t => Vals.drop n t
noncomputable def RelO : Option V → Option Value → Prop
  | some v, some u => RelV v u
  | none, none => True
  | _, _ => False
noncomputable def KV {κ : Type} : List (κ × V) → List (κ × Value) → Prop := Paired fun (p : κ × V) (q : κ × Value) => p.1 = q.1 ∧ RelV p.2 q.2
noncomputable def kV : Key → V
  | .inl i => .int i
  | .inr x => .str x
inductive HO where
  /-- a list -/
  | lst (xs : List V)
  /-- a tuple (never changes) -/
  | tup (xs : List V)
  /-- a dict whose keys are ints and texts; one whose keys are tuples of ints and texts (the empty one is both) -/
  | dK (kvs : List (Key × V)) | dT (kvs : List (List Key × V))
  /-- a set of ints: its members, its size -/
  | set (S : Int → Bool) (n : Nat)
  /-- an instance of the class at C, its dict at dx, its attributes -/
  | ins (C dx : Addr) (fs : List (Str × V))
  /-- the dict of the instance at x -/
  | own (x : Addr)
  /-- the dict of an exception -/
  | xd (fs : List (Str × V))
  /-- a bound method, f of x -/
  | met (f x : Addr)
  /-- a range object lo, lo + 1, .. below hi -/
  | rng (lo hi : Int)
  /-- a thing that is known to the object (the script; a dict while a loop walks it): read, never written while it is so -/
  | frz (o : Obj) (u : HO)
  /-- a code object's table -/
  | tbl (ps : Array Value)
  /-- any other thing, by what is true of its one object (a def of one's own: SetO a S n := HO.ext fun h => ..) -/
  | ext (φ : Heap → Prop)
noncomputable abbrev Hp := Addr → Option HO
noncomputable def upd (H : Hp) (a : Addr) (o : HO) : Hp := fun b => if b = a then some o else H b
theorem upd_same {H : Hp} {a : Addr} {o : HO} : upd H a o a = some o := by unfold upd; rw [if_pos rfl]
theorem upd_ne {H : Hp} {a b : Addr} {o : HO} (h : b ≠ a) : upd H a o b = H b := by unfold upd; rw [if_neg h]
theorem ne_of {H : Hp} {a b : Addr} {o u : HO} (h : H a = some o) (h' : H b = some u) (d : o ≠ u) : a ≠ b := by
  intro e; subst e; rw [h] at h'; exact d (Option.some.inj h')
theorem ne_of_none {H : Hp} {a b : Addr} {o : HO} (h : H a = some o) (h' : H b = none) : a ≠ b := by
  intro e; subst e; rw [h] at h'; cases h'
section
variable (P : Program) (w : World)
noncomputable def ObjOk (H : Hp) (h : Heap) (a : Addr) : HO → Prop
  | .lst xs => xs.length ≤ sizeLine ∧ ∃ (its : List Value) (n : Nat), Vals xs its ∧ h.get? a = some { cls := .type "list", data := .seq its.toArray n }
  | .tup xs => xs.length ≤ sizeLine ∧ ∃ its : List Value, Vals xs its ∧ IsTup h a its.toArray
  | .dK kvs => kvs.length ≤ sizeLine ∧ (a == sysModules) = false ∧ ∃ vs, KV kvs vs ∧ h.DictOf (mixKind P w) a vs
  | .dT kvs => kvs.length ≤ sizeLine ∧ (a == sysModules) = false ∧ ∃ xs : List (List Key × Addr × Value),
      Paired (fun (p : List Key × V) (q : List Key × Addr × Value) => p.1 = q.1 ∧ H q.2.1 = some (.tup (p.1.map kV)) ∧ RelV p.2 q.2.2) kvs xs ∧
      ∃ o es ep, h.get? a = some o ∧ o.ExactDict ∧ o.data = .dict es ep ∧ es.toList = xs.map (entryOfKey (tupleKind (mixKind P w))) ∧ (xs.map (·.1)).Nodup
  | .set S n => h.SetOf (intKind P w) a S n
  | .ins C dx fs => H dx = some (.own a) ∧ fs.length ≤ 1000 ∧ dx ≠ a ∧ h.get? a = some (PySem.W.instObj C dx) ∧
      ∃ mA, h.Ns1 dx mA ∧ (∀ f, RelO (fs.lookup f) (mA f)) ∧ PySem.Within mA (fs.map (·.1))
  | .own _ => ∃ o, h.get? a = some o
  | .xd fs => ∃ mA, h.Ns1 a mA ∧ ∀ f, RelO (fs.lookup f) (mA f)
  | .rng lo hi => ∃ t u v, h.get? a = some { cls := .type "range", data := .fields #[.int lo t, .int hi u, .int 1 v] }
  | .frz o u => h.get? a = some o ∧ ObjOk H h a u
  | .tbl ps => h.get? a = some { cls := .none, data := .fields ps }
  | .met f x => h.get? a = some (PySem.W.methodObj (.ref f) (.ref x))
  | .ext φ => φ h ∧ (∃ o, h.get? a = some o) ∧ ∀ h1 h2 : Heap, φ h1 → (∀ o, h1.get? a = some o → h2.get? a = some o) → φ h2
noncomputable def HOk (H : Hp) (h : Heap) : Prop := ∀ a o, H a = some o → ObjOk P w H h a o
end
section
variable {P : Program} {w : World} {H H' : Hp} {h h' : Heap} {a : Addr} {o : HO}
theorem ObjOk.lt (x : ObjOk P w H h a o) : a < h.objs.size := by
  cases o with
  | lst xs => obtain ⟨_, _, _, _, e⟩ := x; exact Heap.lt_size e
  | tup xs => obtain ⟨_, _, _, p⟩ := x; exact p.lt
  | dK kvs => obtain ⟨_, _, _, _, o, _, _, e, _⟩ := x; exact Heap.lt_size e
  | dT kvs => obtain ⟨_, _, _, _, o, _, _, e, _⟩ := x; exact Heap.lt_size e
  | set S n => obtain ⟨o, _, _, _, e, _⟩ := x; exact Heap.lt_size e
  | ins C dx fs => obtain ⟨_, _, _, e, _⟩ := x; exact Heap.lt_size e
  | own y => obtain ⟨_, e⟩ := x; exact Heap.lt_size e
  | xd fs => obtain ⟨_, ⟨_, _, _, e, _⟩, _⟩ := x; exact Heap.lt_size e
  | rng lo hi => obtain ⟨_, _, _, e⟩ := x; exact Heap.lt_size e
  | frz ob u => obtain ⟨e, _⟩ := x; exact Heap.lt_size e
  | tbl ps => exact Heap.lt_size (show h.get? a = some _ from x)
  | met f y => exact Heap.lt_size (show h.get? a = some _ from x)
  | ext φ => obtain ⟨_, ⟨_, e⟩, _⟩ := x; exact Heap.lt_size e
theorem Paired.mapP {α β : Type} {F G : α → β → Prop} : ∀ {l₁ : List α} {l₂ : List β}, Paired F l₁ l₂ → (∀ a b, F a b → G a b) → Paired G l₁ l₂
  | _, _, .nil, _ => .nil
  | _, _, .cons r t, f => .cons (f _ _ r) (Paired.mapP t f)
theorem ObjOk.stay (x : ObjOk P w H h a o) (k : ∀ b u, (b = a ∨ H b = some (.own a)) → h.get? b = some u → h'.get? b = some u)
    (ho : ∀ b, H b = some (.own a) → H' b = some (.own a)) (ht : ∀ b xs, H b = some (.tup xs) → H' b = some (.tup xs)) : ObjOk P w H' h' a o := by
  induction o with
  | lst xs => obtain ⟨z, its, n, r, e⟩ := x; exact ⟨z, its, n, r, k _ _ (.inl rfl) e⟩
  | tup xs => obtain ⟨z, its, r, ob, e, c⟩ := x; exact ⟨z, its, r, ob, k _ _ (.inl rfl) e, c⟩
  | dK kvs => obtain ⟨z, y, vs, r, ob, es, ep, e, c⟩ := x; exact ⟨z, y, vs, r, ob, es, ep, k _ _ (.inl rfl) e, c⟩
  | dT kvs =>
    obtain ⟨z, y, xs, r, ob, es, ep, e, c⟩ := x
    exact ⟨z, y, xs, Paired.mapP r fun p q z => ⟨z.1, ht _ _ z.2.1, z.2.2⟩, ob, es, ep, k _ _ (.inl rfl) e, c⟩
  | set S n => obtain ⟨ob, es, ep, t, e, c⟩ := x; exact ⟨ob, es, ep, t, k _ _ (.inl rfl) e, c⟩
  | ins C dx fs =>
    obtain ⟨d, z, ne, e, mA, ⟨od, es, ep, e2, c⟩, r⟩ := x
    exact ⟨ho _ d, z, ne, k _ _ (.inl rfl) e, mA, ⟨od, es, ep, k _ _ (.inr d) e2, c⟩, r⟩
  | own y => obtain ⟨ob, e⟩ := x; exact ⟨ob, k _ _ (.inl rfl) e⟩
  | xd fs => obtain ⟨mA, ⟨od, es, ep, e, c⟩, r⟩ := x; exact ⟨mA, ⟨od, es, ep, k _ _ (.inl rfl) e, c⟩, r⟩
  | rng lo hi => obtain ⟨t, u, v, e⟩ := x; exact ⟨t, u, v, k _ _ (.inl rfl) e⟩
  | frz ob u ih => obtain ⟨e, q⟩ := x; exact ⟨k _ _ (.inl rfl) e, ih q⟩
  | tbl ps =>
    have e : h.get? a = some { cls := .none, data := .fields ps } := x
    show h'.get? a = some { cls := .none, data := .fields ps }
    exact k a _ (.inl rfl) e
  | met f y =>
    have e : h.get? a = some (PySem.W.methodObj (.ref f) (.ref y)) := x
    show h'.get? a = some (PySem.W.methodObj (.ref f) (.ref y))
    exact k a _ (.inl rfl) e
  | ext φ => obtain ⟨p, ⟨o, e⟩, st⟩ := x; exact ⟨st _ _ p fun o q => k _ _ (.inl rfl) q, ⟨o, k _ _ (.inl rfl) e⟩, st⟩
theorem HOk.lt (x : HOk P w H h) (e : H a = some o) : a < h.objs.size := (x a o e).lt
theorem HOk.fresh (x : HOk P w H h) (e : h.objs.size ≤ a) : H a = none := by
  cases q : H a with
  | none => rfl
  | some u => exact absurd (Nat.lt_of_lt_of_le (x.lt q) e) (Nat.lt_irrefl _)
theorem HOk.kept (x : HOk P w H h) (k : ∀ b u, h.get? b = some u → h'.get? b = some u) : HOk P w H h' := fun a o e =>
  (x a o e).stay (fun b u _ q => k b u q) (fun _ q => q) fun _ _ q => q
theorem HOk.laid (x : HOk P w H h) (k : ∀ b u, h.get? b = some u → h'.get? b = some u) (hp : h.objs.size ≤ a) (new : ObjOk P w (upd H a o) h' a o) : HOk P w (upd H a o) h' := fun b u e => by
  have hn := x.fresh hp
  by_cases hb : b = a
  · subst hb; rw [upd_same] at e; cases e; exact new
  · rw [upd_ne hb] at e
    exact (x b u e).stay (fun c v _ q => k c v q) (fun c q => by rw [upd_ne (ne_of_none q hn)]; exact q) fun c xs q => by rw [upd_ne (ne_of_none q hn)]; exact q
end
noncomputable def Rd (H : Hp) (a : Addr) (u : HO) : Prop := H a = some u ∨ ∃ o, H a = some (.frz o u)
theorem Rd.ok {P : Program} {w : World} {H : Hp} {h : Heap} {a : Addr} {u : HO} (r : Rd H a u) (x : HOk P w H h) : ObjOk P w H h a u := by
  rcases r with r | ⟨o, r⟩
  · exact x a u r
  · obtain ⟨_, q⟩ := x a _ r
    exact q
noncomputable def Mut : Option HO → Prop
  | some (.lst _) => True
  | some (.dK _) => True
  | some (.dT _) => True
  | some (.set _ _) => True
  | some (.ins _ _ _) => True
  | some (.ext _) => True
  | _ => False
section
variable {P : Program} {w : World} {H : Hp} {h h' : Heap} {x e : Addr} {o' : HO}
theorem HOk.write (ok : HOk P w H h) (mu : Mut (H x)) (he : e = x ∨ H e = some (.own x)) (k : ∀ b u, b ≠ e → h.get? b = some u → h'.get? b = some u) (heo : ∃ u, h'.get? e = some u)
    (new : ObjOk P w (upd H x o') h' x o') : HOk P w (upd H x o') h' := fun b u q => by
  have nown : ∀ c y, H c = some (.own y) → c ≠ x := fun c y r z => by subst z; rw [r] at mu; exact mu
  have ntup : ∀ c xs, H c = some (.tup xs) → c ≠ x := fun c xs r z => by subst z; rw [r] at mu; exact mu
  by_cases hb : b = x
  · subst hb; rw [upd_same] at q; cases q; exact new
  · rw [upd_ne hb] at q
    by_cases hbe : b = e
    · have q' : H b = some (.own x) := by
        rcases he with z | z
        · exact absurd (hbe.trans z) hb
        · rw [hbe]; exact z
      rw [q] at q'; cases q'
      obtain ⟨v, hv⟩ := heo
      exact ⟨v, by rw [hbe]; exact hv⟩
    · refine (ok b u q).stay (fun c v hc r => k c v ?_ r) (fun c r => by rw [upd_ne (nown c b r)]; exact r) fun c xs r => by rw [upd_ne (ntup c xs r)]; exact r
      rcases hc with rfl | hc
      · exact hbe
      · rintro rfl
        rcases he with z | z
        · exact nown c b hc z
        · rw [hc] at z; cases z; exact hb rfl
end
structure Un (fs ex : List Addr) (H H' : Hp) (h h' : Heap) : Prop where
  keep : ∀ b o, h.get? b = some o → H b = none → b ∉ fs → b ∉ ex → h'.get? b = some o
  slot : ∀ b o, h.get? b = some o → H b = none → b ∈ fs → b ∉ ex → ∃ sl, h'.get? b = some { o with slots := sl }
  free : ∀ b o, h.get? b = some o → H b = none → b ∉ ex → H' b = none
  there : ∀ b o, h.get? b = some o → b ∉ ex → ∃ o', h'.get? b = some o'
  tups : ∀ b xs, H b = some (.tup xs) → H' b = some (.tup xs)
  frzs : ∀ b o u, H b = some (.frz o u) → H' b = some (.frz o u)
  tbls : ∀ b ps, H b = some (.tbl ps) → ∃ more, H' b = some (.tbl (ps ++ more))
section
variable {fs fs' ex ex' : List Addr} {H H1 H2 : Hp} {h h1 h2 h' : Heap} {a x e : Addr} {o : HO}
theorem Un.any (u : Un fs ex H H1 h h1) {b : Addr} {ob : Obj} (q : h.get? b = some ob) (n : H b = none) (hx : b ∉ ex) : ∃ sl, h1.get? b = some { ob with slots := sl } := by
  by_cases hb : b ∈ fs
  · exact u.slot b ob q n hb hx
  · exact ⟨ob.slots, u.keep b ob q n hb hx⟩
theorem Un.kept (k : ∀ b u, h.get? b = some u → h'.get? b = some u) : Un fs ex H H h h' :=
  ⟨fun b ob q _ _ _ => k b ob q, fun b ob q _ _ _ => ⟨ob.slots, k b ob q⟩, fun _ _ _ n _ => n, fun b ob q _ => ⟨ob, k b ob q⟩, fun _ _ q => q, fun _ _ _ q => q, fun _ ps q => ⟨#[], by rw [q]; simp⟩⟩
theorem Un.refl : Un fs ex H H h h := Un.kept fun _ _ q => q
theorem Un.laid (k : ∀ b u, h.get? b = some u → h'.get? b = some u) (hp : h.objs.size ≤ a) (hn : H a = none) : Un fs ex H (upd H a o) h h' where
  keep := fun b u q _ _ _ => k b u q
  slot := fun b u q _ _ _ => ⟨u.slots, k b u q⟩
  free := fun b u q n _ => by rw [upd_ne (Nat.ne_of_lt (Nat.lt_of_lt_of_le (Heap.lt_size q) hp))]; exact n
  there := fun b u q _ => ⟨u, k b u q⟩
  tups := fun b xs q => by rw [upd_ne (ne_of_none q hn)]; exact q
  frzs := fun b u xs q => by rw [upd_ne (ne_of_none q hn)]; exact q
  tbls := fun b ps q => ⟨#[], by rw [upd_ne (ne_of_none q hn), q]; simp⟩
theorem Un.write (mu : Mut (H x)) (he : e = x ∨ H e = some (.own x)) (k : ∀ b u, b ≠ e → h.get? b = some u → h'.get? b = some u) (heo : ∃ u, h'.get? e = some u) : Un fs ex H (upd H x o) h h' := by
  have hx : ∀ b, H b = none → b ≠ x := fun b n z => by subst z; rw [n] at mu; exact mu
  have hb : ∀ b, H b = none → b ≠ e := fun b n z => by
    subst z
    rcases he with r | r
    · exact hx b n r
    · rw [n] at r; cases r
  have hm : ∀ b u, H b = some u → ¬ Mut (some u) → b ≠ x := fun b u q nm z => by subst z; rw [q] at mu; exact nm mu
  refine ⟨fun b u q n _ _ => k b u (hb b n) q, fun b u q n _ _ => ⟨u.slots, k b u (hb b n) q⟩, fun b u q n _ => by rw [upd_ne (hx b n)]; exact n, fun b u q _ => ?_,
    fun b xs q => by rw [upd_ne (hm b _ q fun z => z)]; exact q, fun b u xs q => by rw [upd_ne (hm b _ q fun z => z)]; exact q, fun b ps q => ⟨#[], by rw [upd_ne (hm b _ q fun z => z), q]; simp⟩⟩
  by_cases hbe : b = e
  · subst hbe; exact heo
  · exact ⟨u, k b u hbe q⟩
end
noncomputable def trk (h : Heap) (H : Hp) : List Addr := (List.range h.objs.size).filter fun a => (H a).isSome
noncomputable def hidT (h : Heap) (H : Hp) : Heap := PySem.W.hideAll h (trk h H)
theorem hidT_size (h : Heap) (H : Hp) : (hidT h H).objs.size = h.objs.size := PySem.W.hideAll_size _ _
theorem hidT_get {h : Heap} {H : Hp} {b : Addr} {o : Obj} (e : h.get? b = some o) (n : H b = none) : (hidT h H).get? b = some o :=
  PySem.W.hideAll_get _ e fun hm => by
    have q : (H b).isSome = true := (List.mem_filter.mp hm).2
    rw [n] at q; simp at q
theorem of_hidT {h : Heap} {H : Hp} {b : Addr} {o : Obj} (e : (hidT h H).get? b = some o) : h.get? b = some o ∧ H b = none := by
  have e' : h.get? b = some o := PySem.W.of_hideAll (trk h H) e
  refine ⟨e', ?_⟩
  cases q : H b with
  | none => rfl
  | some x =>
    have hm : b ∈ trk h H := List.mem_filter.mpr ⟨List.mem_range.mpr (Heap.lt_size e'), by simp [q]⟩
    have z : (hidT h H).get? b = none := PySem.W.hideAll_none (trk h H) hm
    rw [z] at e; cases e
end L2
namespace L2
open PySem PySem.Spec PyProof.Rows
structure Mod (K : PySem.W.Frag) (mg : Str → Option Value) (base : Heap) : Prop where
  kin : K.In base
  glob : base.Ns mainGlobals mg
  blt : ∃ mb, base.Ns builtinsNs mb ∧ ∀ x : Str, x ≠ "__name__" → mb x = bootBuiltins x
  nolimit : base.NoLimit
structure Cx where
  prog : Program
  w : World
  K : PySem.W.Frag
  mg : Str → Option Value
  base : Heap
  A : Around
  N : List Str
  s₀ : Shared
  H₀ : Hp
  env : Env
  outer : List Env
  stack : List Env
  ex : List Addr
  fn : Str → Bool
  calm : Bool
  pn : List (Addr × Obj)
  xe : Value → Shared → Prop
noncomputable def frs (l : List Env) : List Addr := l.filterMap (·.frame)
noncomputable abbrev Cx.fs (X : Cx) : List Addr := frs X.outer
noncomputable def Vis (sc : Scope) (x : Str) : Prop := sc.names.lookup x = some .local ∨ sc.names.lookup x = some .cell ∨ sc.names.lookup x = some .free
noncomputable def Loc (sc : Scope) (x : Str) : Prop := sc.names.lookup x = some .local ∨ sc.names.lookup x = some .cell
noncomputable def Look (env : Env) (h : Heap) (m : Str → Option Value) (x : Str) (u : Value) : Prop :=
  (env.kindOf x = some .local ∧ m x = some u) ∨ ((env.kindOf x = some .cell ∨ env.kindOf x = some .free) ∧ ∃ c, env.cells.lookup x = some c ∧ h.IsCell c (some u))
structure Cx.Ok (X : Cx) : Prop where
  mod : Mod X.K X.mg X.base
  kind : X.env.scope.kind = .function
  glob : X.env.globals = mainGlobals
  blt : X.env.builtins = builtinsNs
  above : X.s₀.heap.objs.size ≤ X.env.locals
  inj : ∀ x y c, X.env.cells.lookup x = some c → X.env.cells.lookup y = some c → x = y
  has : ∀ x, (X.env.kindOf x = some .cell ∨ X.env.kindOf x = some .free) → ∃ c, X.env.cells.lookup x = some c
  cab : ∀ x c, X.fn x = true → X.env.cells.lookup x = some c → X.s₀.heap.objs.size ≤ c
  hd : X.calm = true → X.A.handled = none
  frames : X.A.frames = some X.stack
  stk : X.stack = X.outer ∨ (X.stack = X.env :: X.outer ∧ X.env.frame = some X.env.locals)
  exf : ∀ b ∈ X.ex, b ≠ X.env.locals ∧ ∀ x c, X.env.cells.lookup x = some c → c ≠ b
  bs : ∀ b o, X.base.get? b = some o → X.s₀.heap.get? b = some o ∧ X.H₀ b = none
  bsz : X.base.objs.size ≤ X.s₀.heap.objs.size
  noex : ∀ b o, X.base.get? b = some o → b ∉ X.ex
  exfs : ∀ b ∈ X.ex, b ∉ X.fs
  funs : X.s₀.heap.FunFrames X.base X.outer
  frf : ∀ b ∈ X.fs, X.H₀ b = none
structure Inv (X : Cx) (pins : List (Addr × Obj)) (σ : List (Option V)) (H : Hp) (s : Shared) : Prop where
  ok : X.Ok
  os : s.os = X.s₀.os
  bare : AllBare s.gens
  base : Un X.fs X.ex X.H₀ H X.s₀.heap s.heap
  loc : ∃ m, s.heap.Ns X.env.locals m ∧ ∀ (i : Nat) (x : Str) (v : V), X.N[i]? = some x → σ[i]? = some (some v) → Vis X.env.scope x → ∃ u, RelV v u ∧ Look X.env s.heap m x u
  cell : ∀ x c, X.env.cells.lookup x = some c → ∃ v, s.heap.IsCell c v
  free : H X.env.locals = none
  freeC : ∀ x c, X.env.cells.lookup x = some c → H c = none
  pin : ∀ p ∈ X.pn ++ pins, s.heap.get? p.1 = some p.2 ∧ H p.1 = none ∧ p.1 ≠ X.env.locals ∧ p.1 ∉ X.fs ∧ ∀ v, p.2.data ≠ .cell v
  hok : HOk X.prog X.w H s.heap
  len : σ.length = X.N.length
section
variable {X : Cx} {pins : List (Addr × Obj)} {σ : List (Option V)} {H H' : Hp} {s : Shared} {h' : Heap}
theorem Cx.Ok.nofr (ok : X.Ok) {b : Addr} {o : Obj} (e : X.base.get? b = some o) : b ∉ X.fs := fun hb => by
  have := (ok.funs.mem hb).1
  rw [e] at this; cases this
theorem Inv.bs (I : Inv X pins σ H s) : ∀ b o, X.base.get? b = some o → s.heap.get? b = some o ∧ H b = none := fun b o e =>
  ⟨I.base.keep b o (I.ok.bs b o e).1 (I.ok.bs b o e).2 (I.ok.nofr e) (I.ok.noex b o e), I.base.free b o (I.ok.bs b o e).1 (I.ok.bs b o e).2 (I.ok.noex b o e)⟩
theorem Inv.bk (I : Inv X pins σ H s) : ∀ b o, X.base.get? b = some o → s.heap.get? b = some o := fun b o e => (I.bs b o e).1
theorem Inv.mod (I : Inv X pins σ H s) : Mod X.K X.mg X.base := I.ok.mod
theorem Inv.kIn (I : Inv X pins σ H s) : X.K.In s.heap := I.ok.mod.kin.keeps I.bk
theorem Inv.lt (I : Inv X pins σ H s) : X.env.locals < s.heap.objs.size := let ⟨_, hn, _⟩ := I.loc; hn.lt
theorem Inv.sz (I : Inv X pins σ H s) : X.s₀.heap.objs.size ≤ s.heap.objs.size := Nat.le_trans I.ok.above (Nat.le_of_lt I.lt)
theorem Inv.nofs (I : Inv X pins σ H s) {a : Addr} (h : s.heap.objs.size ≤ a) : a ∉ X.fs := fun hb => by
  obtain ⟨_, o, ho, _⟩ := I.ok.funs.mem hb
  exact absurd (Nat.lt_of_lt_of_le (Heap.lt_size ho) (Nat.le_trans I.sz h)) (Nat.lt_irrefl _)
theorem Inv.cne (I : Inv X pins σ H s) : ∀ x c, X.env.cells.lookup x = some c → c ≠ X.env.locals := fun x c e z => by
  obtain ⟨v, o, ho, hd⟩ := I.cell x c e
  obtain ⟨m, ⟨o', es, ep, ho', hd', _⟩, _⟩ := I.loc
  rw [z, ho'] at ho; cases ho; rw [hd'] at hd; cases hd
theorem Inv.funs (I : Inv X pins σ H s) : s.heap.FunFrames X.base X.outer := by
  have all : ∀ (l : List Env), (∀ b ∈ frs l, b ∈ X.fs) → X.s₀.heap.FunFrames X.base l → s.heap.FunFrames X.base l := by
    intro l
    induction l with
    | nil => intro _ _; trivial
    | cons env r ih =>
      intro hs hl
      obtain ⟨hk, ⟨L, o, hf, hn, ho, hd⟩, hr⟩ := hl
      have hL : L ∈ X.fs := hs L (by unfold frs; rw [List.filterMap_cons, hf]; exact List.mem_cons_self)
      obtain ⟨sl, e⟩ := I.base.slot L o ho (I.ok.frf L hL) hL fun z => I.ok.exfs L z hL
      exact ⟨hk, ⟨L, _, hf, hn, e, hd⟩, ih (fun b hb => hs b (by unfold frs; rw [List.filterMap_cons, hf]; exact List.mem_cons_of_mem _ hb)) hr⟩
  exact all X.outer (fun _ hb => hb) I.ok.funs
theorem Inv.stack (I : Inv X pins σ H s) : s.heap.FunFrames X.base X.stack := by
  rcases I.ok.stk with e | ⟨e, hf⟩
  · rw [e]; exact I.funs
  · rw [e]
    obtain ⟨m, hn, _⟩ := I.loc
    refine .cons (by rw [I.ok.kind]; decide) hf hn ?_ I.funs
    exact Heap.get?_none_of_le (Nat.le_trans I.ok.bsz I.ok.above)
theorem Inv.stkSub (I : Inv X pins σ H s) : ∀ b ∈ frs X.stack, b ∈ X.env.locals :: X.fs := fun b hb => by
  rcases I.ok.stk with e | ⟨e, hf⟩
  · rw [e] at hb; exact List.mem_cons_of_mem _ hb
  · rw [e] at hb
    unfold frs at hb
    rw [List.filterMap_cons, hf] at hb
    exact hb
theorem Inv.stkFree (I : Inv X pins σ H s) : ∀ b ∈ frs X.stack, H b = none := fun b hb => by
  rcases List.mem_cons.mp (I.stkSub b hb) with e | hb
  · rw [e]; exact I.free
  · obtain ⟨_, o, ho, _⟩ := I.ok.funs.mem hb
    exact I.base.free b o ho (I.ok.frf b hb) fun z => I.ok.exfs b z hb
theorem Inv.step {g' : Array GenState} {t' : Nat} {d' : Drawn} {ch : List Addr} (I : Inv X pins σ H s)
    (hch : ∀ b ∈ ch, (b ∈ X.ex ∨ X.s₀.heap.objs.size ≤ b) ∧ b ≠ X.env.locals ∧ (∀ x c, X.env.cells.lookup x = some c → c ≠ b) ∧ ∀ p ∈ X.pn ++ pins, p.1 ≠ b)
    (keep : ∀ b o, b ≠ X.env.locals → b ∉ X.fs → b ∉ ch → s.heap.get? b = some o → H b = none → h'.get? b = some o)
    (slot : ∀ b o, b ≠ X.env.locals → b ∈ X.fs → b ∉ ch → s.heap.get? b = some o → H b = none → ∃ sl, h'.get? b = some { o with slots := sl }) (free : ∀ b o, b ∉ ch → s.heap.get? b = some o → H b = none → H' b = none)
    (there : ∀ b o, b ∉ ch → s.heap.get? b = some o → ∃ o', h'.get? b = some o')
    (tups : ∀ b xs, H b = some (.tup xs) → H' b = some (.tup xs)) (frzs : ∀ b o u, H b = some (.frz o u) → H' b = some (.frz o u)) (tbls : ∀ b ps, H b = some (.tbl ps) → ∃ more, H' b = some (.tbl (ps ++ more)))
    (ns : ∀ m, s.heap.Ns X.env.locals m → h'.Ns X.env.locals m) (hok : HOk X.prog X.w H' h') (hg : AllBare g') :
    Inv X pins σ H' { s with heap := h', gens := g', drawn := d', toks := t' } := by
  have neL : ∀ b o, X.s₀.heap.get? b = some o → b ≠ X.env.locals := fun b o e => Nat.ne_of_lt (Nat.lt_of_lt_of_le (Heap.lt_size e) I.ok.above)
  have neC : ∀ b o, X.s₀.heap.get? b = some o → b ∉ X.ex → b ∉ ch := fun b o e hx hb => by
    rcases (hch b hb).1 with z | z
    · exact hx z
    · exact absurd (Nat.lt_of_lt_of_le (Heap.lt_size e) z) (Nat.lt_irrefl _)
  have cellK : ∀ x c, X.env.cells.lookup x = some c → ∀ v, s.heap.IsCell c v → h'.IsCell c v := fun x c e v ⟨o, ho, hd⟩ => by
    have nch : c ∉ ch := fun z => (hch c z).2.2.1 x c e rfl
    by_cases hc : c ∈ X.fs
    · obtain ⟨sl, q⟩ := slot c o (I.cne x c e) hc nch ho (I.freeC x c e)
      exact ⟨_, q, hd⟩
    · exact ⟨o, keep c o (I.cne x c e) hc nch ho (I.freeC x c e), hd⟩
  refine ⟨I.ok, I.os, hg, ⟨fun b o e n hb hx => ?_, fun b o e n hb hx => ?_, fun b o e n hx => ?_, fun b o e hx => ?_, fun b xs e => tups b xs (I.base.tups b xs e), fun b o xs e => frzs b o xs (I.base.frzs b o xs e), fun b ps e => ?_⟩, ?_, fun x c e => ?_, ?_, fun x c e => ?_, fun p hp => ?_, hok, I.len⟩
  · exact keep b o (neL b o e) hb (neC b o e hx) (I.base.keep b o e n hb hx) (I.base.free b o e n hx)
  · obtain ⟨sl, e1⟩ := I.base.slot b o e n hb hx
    obtain ⟨sl', e2⟩ := slot b _ (neL b o e) hb (neC b o e hx) e1 (I.base.free b o e n hx)
    exact ⟨sl', e2⟩
  · obtain ⟨o', e1⟩ := I.base.there b o e hx
    exact free b o' (neC b o e hx) e1 (I.base.free b o e n hx)
  · obtain ⟨o', e1⟩ := I.base.there b o e hx
    exact there b o' (neC b o e hx) e1
  · obtain ⟨m1, e1⟩ := I.base.tbls b ps e
    obtain ⟨m2, e2⟩ := tbls b _ e1
    exact ⟨m1 ++ m2, by rw [e2, Array.append_assoc]⟩
  · obtain ⟨m, hn, hl⟩ := I.loc
    refine ⟨m, ns m hn, fun i x v e1 e2 e3 => ?_⟩
    obtain ⟨u, r, l⟩ := hl i x v e1 e2 e3
    refine ⟨u, r, ?_⟩
    rcases l with l | ⟨k, c, e, z⟩
    · exact .inl l
    · exact .inr ⟨k, c, e, cellK x c e _ z⟩
  · obtain ⟨v, z⟩ := I.cell x c e
    exact ⟨v, cellK x c e v z⟩
  · obtain ⟨m, ⟨o, _, _, ho, _⟩, _⟩ := I.loc
    exact free _ o (fun z => (hch _ z).2.1 rfl) ho I.free
  · obtain ⟨v, o, ho, hd⟩ := I.cell x c e
    exact free c o (fun z => (hch c z).2.2.1 x c e rfl) ho (I.freeC x c e)
  · obtain ⟨e, n, ne, nf, d⟩ := I.pin p hp
    have nch : p.1 ∉ ch := fun z => (hch p.1 z).2.2.2 p hp rfl
    exact ⟨keep p.1 p.2 ne nf nch e n, free p.1 p.2 nch e n, ne, nf, d⟩
theorem Inv.un {t' : Nat} (I : Inv X pins σ H s) (u : Un X.fs [] H H' s.heap h') (hok : HOk X.prog X.w H' h') : Inv X pins σ H' { s with heap := h', toks := t' } := by
  obtain ⟨m, ⟨o, es, ep, ho, r⟩, _⟩ := id I.loc
  obtain ⟨sl, hL⟩ := u.any ho I.free (by simp)
  exact I.step (g' := s.gens) (d' := s.drawn) (ch := []) (fun _ z => nomatch z) (fun b o _ hb _ e n => u.keep b o e n hb (by simp)) (fun b o _ hb _ e n => u.slot b o e n hb (by simp)) (fun b o _ e n => u.free b o e n (by simp)) (fun b o _ e => u.there b o e (by simp)) u.tups u.frzs u.tbls (fun m' hm => by
    obtain ⟨o', es', ep', ho', r'⟩ := hm
    rw [ho] at ho'; cases ho'
    exact ⟨_, es', ep', hL, r'⟩) hok I.bare
theorem Inv.call {g' : Array GenState} {t' : Nat} {d' : Drawn} {ch : List Addr} (I : Inv X pins σ H s) (u : Un (frs X.stack) ch H H' s.heap h') (hok : HOk X.prog X.w H' h') (hg : AllBare g')
    (hch : ∀ b ∈ ch, (b ∈ X.ex ∨ X.s₀.heap.objs.size ≤ b) ∧ b ≠ X.env.locals ∧ (∀ x c, X.env.cells.lookup x = some c → c ≠ b) ∧ ∀ p ∈ X.pn ++ pins, p.1 ≠ b) :
    Inv X pins σ H' { s with heap := h', gens := g', drawn := d', toks := t' } := by
  obtain ⟨m, ⟨o, es, ep, ho, r⟩, _⟩ := id I.loc
  obtain ⟨sl, hL⟩ := u.any ho I.free fun z => (hch _ z).2.1 rfl
  exact I.step (ch := ch) hch (fun b o hL hb hc e n => u.keep b o e n (fun z => (List.mem_cons.mp (I.stkSub b z)).elim hL hb) hc) (fun b o _ _ hc e n => u.any e n hc) (fun b o hc e n => u.free b o e n hc) (fun b o hc e => u.there b o e hc) u.tups u.frzs u.tbls (fun m' hm => by
    obtain ⟨o', es', ep', ho', r'⟩ := hm
    rw [ho] at ho'; cases ho'
    exact ⟨_, es', ep', hL, r'⟩) hok hg
theorem Inv.turned {t' : Nat} {it : Addr} (I : Inv X pins σ H s) (k : ∀ b o, b ≠ it → s.heap.get? b = some o → h'.get? b = some o) (hn : H it = none) (hL : it ≠ X.env.locals)
    (h1 : it ∈ X.ex ∨ X.s₀.heap.objs.size ≤ it) (h2 : ∀ x c, X.env.cells.lookup x = some c → c ≠ it) (h3 : ∀ p ∈ X.pn ++ pins, p.1 ≠ it) : Inv X pins σ H { s with heap := h', toks := t' } := by
  have nit : ∀ b u, H b = some u → b ≠ it := fun b u e z => by rw [z, hn] at e; cases e
  refine I.step (g' := s.gens) (d' := s.drawn) (ch := [it]) (fun b hb => ?_) (fun b o _ _ hc e _ => k b o (fun z => hc (by simp [z])) e) (fun b o _ _ hc e _ => ⟨o.slots, k b o (fun z => hc (by simp [z])) e⟩) (fun _ _ _ _ n => n)
    (fun b o hc e => ⟨o, k b o (fun z => hc (by simp [z])) e⟩) (fun _ _ e => e) (fun _ _ _ e => e) (fun b ps e => ⟨#[], by rw [e]; simp⟩) (fun m hm => ?_) (fun b u e => ?_) I.bare
  · have e : b = it := by simpa using hb
    subst e
    exact ⟨h1, hL, h2, h3⟩
  · obtain ⟨o, es, ep, ho, r⟩ := hm
    exact ⟨o, es, ep, k _ o (Ne.symm hL) ho, r⟩
  · refine (I.hok b u e).stay (fun c v hc q => k c v ?_ q) (fun _ q => q) fun _ _ q => q
    rcases hc with z | z
    · rw [z]; exact nit b u e
    · exact nit c _ z
theorem Inv.tok (I : Inv X pins σ H s) (t : Nat) : Inv X pins σ H { s with toks := t } := I.un (h' := s.heap) (t' := t) Un.refl I.hok
theorem Inv.kept {t' : Nat} (I : Inv X pins σ H s) (k : ∀ b u, s.heap.get? b = some u → h'.get? b = some u) : Inv X pins σ H { s with heap := h', toks := t' } := I.un (Un.kept k) (I.hok.kept k)
theorem Inv.laid {a : Addr} {o : HO} {t' : Nat} (I : Inv X pins σ H s) (k : ∀ b u, s.heap.get? b = some u → h'.get? b = some u) (hp : s.heap.objs.size ≤ a) (new : ObjOk X.prog X.w (upd H a o) h' a o) :
    Inv X pins σ (upd H a o) { s with heap := h', toks := t' } := I.un (Un.laid k hp (I.hok.fresh hp)) (I.hok.laid k hp new)
theorem Inv.write {x e : Addr} {o : HO} {t' : Nat} (I : Inv X pins σ H s) (mu : Mut (H x)) (he : e = x ∨ H e = some (.own x)) (k : ∀ b u, b ≠ e → s.heap.get? b = some u → h'.get? b = some u) (heo : ∃ u, h'.get? e = some u)
    (new : ObjOk X.prog X.w (upd H x o) h' x o) : Inv X pins σ (upd H x o) { s with heap := h', toks := t' } := I.un (Un.write mu he k heo) (I.hok.write mu he k heo new)
theorem Inv.pins_of {pins' : List (Addr × Obj)} (I : Inv X pins σ H s) (h : ∀ p ∈ pins', s.heap.get? p.1 = some p.2 ∧ H p.1 = none ∧ p.1 ≠ X.env.locals ∧ p.1 ∉ X.fs ∧ ∀ v, p.2.data ≠ .cell v) : Inv X pins' σ H s :=
  ⟨I.ok, I.os, I.bare, I.base, I.loc, I.cell, I.free, I.freeC, fun p hp => (List.mem_append.mp hp).elim (fun z => I.pin p (List.mem_append_left _ z)) (h p), I.hok, I.len⟩
theorem nodup_ix {N : List Str} (hN : N.Nodup) {i j : Nat} {x : Str} (a : N[i]? = some x) (b : N[j]? = some x) : i = j := by
  obtain ⟨h1, e1⟩ := List.getElem?_eq_some_iff.mp a
  obtain ⟨h2, e2⟩ := List.getElem?_eq_some_iff.mp b
  exact (List.getElem_inj hN).mp (e1.trans e2.symm)
theorem store_ok2 {M : Model} {A : Around} {E : Value → Shared → Prop} {i : Nat} {x : Str} {v : V} {u : Value} {Q : Unit → Shared → Prop} (I : Inv X pins σ H s) (hN : X.N.Nodup) (hi : X.N[i]? = some x) (hx : Loc X.env.scope x) (r : RelV v u)
    (h : ∀ s', Inv X pins (σ.set i (some v)) H s' → (∃ a, Heap.SameBut a s.heap s'.heap ∧ (a = X.env.locals ∨ X.env.cells.lookup x = some a)) → Q () s') (hf : X.fn x = true ∨ X.env.scope.names.lookup x = some .local := by first | exact .inl rfl | exact .inr rfl | assumption) : wpAny M A (storeName X.env x u) Q E s := by
  obtain ⟨m, hn, hl⟩ := id I.loc
  have hcls : (X.env.scope.kind == .class || (X.env.scope.kind == .module && X.env.locals != X.env.globals)) = false := by rw [I.ok.kind]; rfl
  have hiσ : i < σ.length := by rw [I.len]; exact (List.getElem?_eq_some_iff.mp hi).1
  have cne := I.cne
  have tracked : ∀ {a : Addr} {h' : Heap}, (∃ o, s.heap.get? a = some o ∧ H a = none) → Heap.SameBut a s.heap h' → HOk X.prog X.w H h' := fun {a h'} ha hs b ob e => by
    obtain ⟨_, _, hfree⟩ := ha
    refine (I.hok b ob e).stay (fun c w' hc q => (hs.2 c ?_).trans q) (fun _ q => q) fun _ _ q => q
    rintro rfl
    rcases hc with rfl | hc
    · rw [hfree] at e; cases e
    · rw [hfree] at hc; cases hc
  rcases hx with hk | hk
  · refine wpAny_storeName_local hk hn (fun h' hn' hs => ?_) hcls
    obtain ⟨oL, _, _, hoL, _⟩ := id hn
    refine h _ ⟨I.ok, I.os, I.bare, ⟨fun b o e n hb hx => ?_, fun b o e n hb hx => ?_, I.base.free, fun b o e hx => ?_, I.base.tups, I.base.frzs, I.base.tbls⟩, ⟨_, hn', fun j y v' e1 e2 e3 => ?_⟩, fun y c e => ?_, I.free, I.freeC, fun p hp => ?_, tracked ⟨oL, hoL, I.free⟩ hs, by simpa using I.len⟩ ⟨_, hs, .inl rfl⟩
    · exact (hs.2 b (Nat.ne_of_lt (Nat.lt_of_lt_of_le (Heap.lt_size e) I.ok.above))).trans (I.base.keep b o e n hb hx)
    · obtain ⟨sl, e1⟩ := I.base.slot b o e n hb hx
      exact ⟨sl, (hs.2 b (Nat.ne_of_lt (Nat.lt_of_lt_of_le (Heap.lt_size e) I.ok.above))).trans e1⟩
    · obtain ⟨o', e1⟩ := I.base.there b o e hx
      exact ⟨o', (hs.2 b (Nat.ne_of_lt (Nat.lt_of_lt_of_le (Heap.lt_size e) I.ok.above))).trans e1⟩
    · by_cases hj : j = i
      · subst hj
        rw [hi] at e1; cases e1
        rw [List.getElem?_set_self hiσ] at e2
        cases e2
        exact ⟨u, r, .inl ⟨hk, by simp⟩⟩
      · rw [List.getElem?_set_ne (Ne.symm hj)] at e2
        obtain ⟨u', r', q⟩ := hl j y v' e1 e2 e3
        refine ⟨u', r', ?_⟩
        rcases q with ⟨k, e⟩ | ⟨k, c, e, z⟩
        · refine .inl ⟨k, ?_⟩
          have : y ≠ x := fun e => hj (nodup_ix hN e1 (e ▸ hi))
          simp [this, e]
        · exact .inr ⟨k, c, e, z.sameBut hs (cne y c e)⟩
    · obtain ⟨w', z⟩ := I.cell y c e
      exact ⟨w', z.sameBut hs (cne y c e)⟩
    · obtain ⟨e, n, ne, nf, d⟩ := I.pin p hp
      exact ⟨(hs.2 p.1 ne).trans e, n, ne, nf, d⟩
  · have hfn : X.fn x = true := by
      rcases hf with z | z
      · exact z
      · rw [z] at hk; cases hk
    obtain ⟨c, hc⟩ := I.ok.has x (.inl hk)
    obtain ⟨w', z⟩ := I.cell x c hc
    refine wpAny_storeName_cell I.ok.kind hk hc z (fun h' hc' hs => ?_)
    obtain ⟨oc, hoc, hocd⟩ := id z
    refine h { s with heap := h' } ⟨I.ok, I.os, I.bare, ⟨fun b o e n hb hx => ?_, fun b o e n hb hx => ?_, I.base.free, fun b o e hx => ?_, I.base.tups, I.base.frzs, I.base.tbls⟩, ⟨m, hn.sameBut hs (Ne.symm (cne x c hc)), fun j y v' e1 e2 e3 => ?_⟩, fun y c' e => ?_, I.free, I.freeC, fun p hp => ?_, tracked ⟨oc, hoc, I.freeC x c hc⟩ hs, by simpa using I.len⟩ ⟨c, hs, .inr hc⟩
    · exact (hs.2 b (Nat.ne_of_lt (Nat.lt_of_lt_of_le (Heap.lt_size e) (I.ok.cab x c hfn hc)))).trans (I.base.keep b o e n hb hx)
    · obtain ⟨sl, e1⟩ := I.base.slot b o e n hb hx
      exact ⟨sl, (hs.2 b (Nat.ne_of_lt (Nat.lt_of_lt_of_le (Heap.lt_size e) (I.ok.cab x c hfn hc)))).trans e1⟩
    · obtain ⟨o', e1⟩ := I.base.there b o e hx
      exact ⟨o', (hs.2 b (Nat.ne_of_lt (Nat.lt_of_lt_of_le (Heap.lt_size e) (I.ok.cab x c hfn hc)))).trans e1⟩
    · by_cases hj : j = i
      · subst hj
        rw [hi] at e1; cases e1
        rw [List.getElem?_set_self hiσ] at e2
        cases e2
        exact ⟨u, r, .inr ⟨.inl hk, c, hc, hc'⟩⟩
      · rw [List.getElem?_set_ne (Ne.symm hj)] at e2
        obtain ⟨u', r', q⟩ := hl j y v' e1 e2 e3
        refine ⟨u', r', ?_⟩
        rcases q with q | ⟨k, c', e, z'⟩
        · exact .inl q
        · refine .inr ⟨k, c', e, z'.sameBut hs ?_⟩
          rintro rfl
          exact hj (nodup_ix hN e1 (I.ok.inj _ _ _ e hc ▸ hi))
    · by_cases hcc : c' = c
      · subst hcc; exact ⟨_, hc'⟩
      · obtain ⟨w2, z2⟩ := I.cell y c' e
        exact ⟨w2, z2.sameBut hs hcc⟩
    · obtain ⟨e, n, ne, nf, d⟩ := I.pin p hp
      refine ⟨(hs.2 p.1 ?_).trans e, n, ne, nf, d⟩
      intro q
      rw [q, hoc] at e
      have q' : oc = p.2 := Option.some.inj e
      exact d w' (by rw [← q']; exact hocd)
theorem store_ok {M : Model} {A : Around} {E : Value → Shared → Prop} {i : Nat} {x : Str} {v : V} {u : Value} {Q : Unit → Shared → Prop} (I : Inv X pins σ H s) (hN : X.N.Nodup) (hi : X.N[i]? = some x) (hx : Loc X.env.scope x) (r : RelV v u)
    (h : ∀ s', Inv X pins (σ.set i (some v)) H s' → Q () s') (hf : X.fn x = true ∨ X.env.scope.names.lookup x = some .local := by first | exact .inl rfl | exact .inr rfl | assumption) : wpAny M A (storeName X.env x u) Q E s :=
  store_ok2 I hN hi hx r (fun s' I' _ => h s' I') hf
theorem Inv.call' {s' : Shared} {ch : List Addr} (I : Inv X pins σ H s) (ho : s'.os = s.os) (u : Un (frs X.stack) ch H H' s.heap s'.heap) (hok : HOk X.prog X.w H' s'.heap) (hg : AllBare s'.gens)
    (hch : ∀ b ∈ ch, (b ∈ X.ex ∨ X.s₀.heap.objs.size ≤ b) ∧ b ≠ X.env.locals ∧ (∀ x c, X.env.cells.lookup x = some c → c ≠ b) ∧ ∀ p ∈ X.pn ++ pins, p.1 ≠ b) : Inv X pins σ H' s' := by
  obtain ⟨h', g', d', t', o'⟩ := s'
  have e : o' = s.os := ho
  subst e
  exact I.call (g' := g') (t' := t') (d' := d') u hok hg hch
end
noncomputable abbrev XK := Value → Option Addr → Hp → Prop
noncomputable abbrev St := List (Option V)
noncomputable abbrev VK := V → Hp → Prop
noncomputable abbrev TE := St → Hp → VK → Prop
noncomputable abbrev TT := St → Hp → (Bool → Hp → Prop) → Prop
noncomputable abbrev TA := St → Hp → (List V → Hp → Prop) → Prop
structure Ends where
  nx : St → Hp → Prop
  rt : VK
  bk : St → Hp → Prop := fun _ _ => False
  ct : St → Hp → Prop := fun _ _ => False
noncomputable abbrev TS := Ends → St → Hp → Prop
noncomputable def EP (X : Cx) (pins : List (Addr × Obj)) (σ : St) (Q : VK) (u : Value) (s' : Shared) : Prop := ∃ v H', Inv X pins σ H' s' ∧ RelV v u ∧ Q v H'
noncomputable def TP (X : Cx) (pins : List (Addr × Obj)) (σ : St) (Q : Bool → Hp → Prop) (b : Bool) (s' : Shared) : Prop := ∃ H', Inv X pins σ H' s' ∧ Q b H'
noncomputable def AP (X : Cx) (pins : List (Addr × Obj)) (σ : St) (Q : List V → Hp → Prop) (us : List Value) (s' : Shared) : Prop := ∃ vs H', Inv X pins σ H' s' ∧ Vals vs us ∧ Q vs H'
noncomputable def SP (X : Cx) (pins : List (Addr × Obj)) (D : Ends) (f : Flow) (s' : Shared) : Prop :=
  match f with
  | .next => ∃ σ' H', Inv X pins σ' H' s' ∧ D.nx σ' H'
  | .brk => ∃ σ' H', Inv X pins σ' H' s' ∧ D.bk σ' H'
  | .cont => ∃ σ' H', Inv X pins σ' H' s' ∧ D.ct σ' H'
  | .ret u => ∃ v σ' H', Inv X pins σ' H' s' ∧ RelV v u ∧ D.rt v H'
noncomputable def PE (X : Cx) (e : Expr) (t : TE) : Prop :=
  ∀ (pins : List (Addr × Obj)) (s : Shared) (σ : St) (H : Hp) (Q : VK), Inv X pins σ H s → t σ H Q → wpAny (model X.prog X.w) X.A (eval e X.env) (EP X pins σ Q) X.xe s
noncomputable def PT (X : Cx) (e : Expr) (t : TT) : Prop :=
  ∀ (pins : List (Addr × Obj)) (s : Shared) (σ : St) (H : Hp) (Q : Bool → Hp → Prop), Inv X pins σ H s → t σ H Q → wpAny (model X.prog X.w) X.A (isTrue e X.env (eval e X.env)) (TP X pins σ Q) X.xe s
noncomputable def PW (X : Cx) (e : Expr) (t : TT) : Prop :=
  ∀ (whole : Sem Value) (pins : List (Addr × Obj)) (s : Shared) (σ : St) (H : Hp) (Q : Bool → Hp → Prop), Inv X pins σ H s → t σ H Q → wpAny (model X.prog X.w) X.A (isTrue e X.env whole) (TP X pins σ Q) X.xe s
theorem PW.pt {X : Cx} {e : Expr} {t : TT} (h : PW X e t) : PT X e t := h _
noncomputable def PA (X : Cx) (es : List Expr) (t : TA) : Prop :=
  ∀ (pos : Pos) (pins : List (Addr × Obj)) (s : Shared) (σ : St) (H : Hp) (Q : List V → Hp → Prop), Inv X pins σ H s → t σ H Q → wpAny (model X.prog X.w) X.A (spliced (backTo pos (starEach es X.env))) (AP X pins σ Q) X.xe s
noncomputable def PS (X : Cx) (st : Stmt) (t : TS) : Prop :=
  ∀ (pins : List (Addr × Obj)) (s : Shared) (σ : St) (H : Hp) (D : Ends), Inv X pins σ H s → t D σ H → wpAny (model X.prog X.w) X.A (exec st X.env) (SP X pins D) X.xe s
noncomputable def PSs (X : Cx) (st : List Stmt) (t : TS) : Prop :=
  ∀ (pins : List (Addr × Obj)) (s : Shared) (σ : St) (H : Hp) (D : Ends), Inv X pins σ H s → t D σ H → wpAny (model X.prog X.w) X.A (execs st X.env) (SP X pins D) X.xe s
theorem thn {α : Type} {t : Sem α} {Q Q' : α → Shared → Prop} {M : Model} {A : Around} {E : Value → Shared → Prop} {s : Shared} (h : wpAny M A t Q E s) (hQ : ∀ a s, Q a s → Q' a s) : wpAny M A t Q' E s := wpAny_mono h hQ fun _ _ x => x
end L2
namespace L2
open PySem PySem.Spec PyProof.Rows
section
variable {X : Cx}
theorem bin {a b : Expr} {ta tb : TE} (ha : PE X a ta) (hb : PE X b tb) {pins : List (Addr × Obj)} {s : Shared} {σ : St} {H : Hp} {R : V → V → Hp → Prop} (I : Inv X pins σ H s) (h : ta σ H fun x H1 => tb σ H1 fun y H2 => R x y H2)
    {α : Type} {Q : α → Shared → Prop} {f : Value → Value → Sem α}
    (hf : ∀ v u s2 x y H2, Inv X pins σ H2 s2 → RelV x v → RelV y u → R x y H2 → wpAny (model X.prog X.w) X.A (f v u) Q X.xe s2) :
    wpAny (model X.prog X.w) X.A (eval a X.env) (fun v s₁ => wpAny (model X.prog X.w) X.A (eval b X.env) (fun u s₂ => wpAny (model X.prog X.w) X.A (f v u) Q X.xe s₂) X.xe s₁) X.xe s := by
  refine thn (ha pins s σ H _ I h) fun v s1 ⟨x, H1, I1, r1, q1⟩ => ?_
  refine thn (hb pins s1 σ H1 _ I1 q1) fun u s2 ⟨y, H2, I2, r2, q2⟩ => ?_
  exact hf v u s2 x y H2 I2 r1 r2 q2
noncomputable def tVar (i : Nat) : TE := fun σ H Q => ∃ v, σ[i]? = some (some v) ∧ Q v H
noncomputable def tC (v : V) : TE := fun _ H Q => Q v H
theorem pe_var {i : Nat} {x : Str} {pos : Pos} (hN : X.N[i]? = some x) (hv : Vis X.env.scope x) (hd : (x == ("__debug__" : Str)) = false := by decide) (hcd : (x == ("__classdict__" : Str)) = false := by decide) : PE X (.Name x pos) (tVar i) := by
  intro pins s σ H Q I h
  obtain ⟨v, e, h⟩ := h
  obtain ⟨m, hn, hl⟩ := I.loc
  obtain ⟨u, r, l⟩ := hl i x v hN e hv
  have fin : EP X pins σ Q u s := ⟨v, H, I, r, h⟩
  rcases l with ⟨hk, hm⟩ | ⟨hk, c, hc, hcell⟩
  · exact wpAny_Name (wpAny_loadName_local I.ok.kind hk hn hm fin) hd
  · rcases hk with hk | hk
    · exact wpAny_Name (wpAny_loadName_cell I.ok.kind hk hc hcell fin) hd
    · exact wpAny_Name (wpAny_loadName_free I.ok.kind hk hc hcell fin hcd) hd
theorem pe_int {i j pos} : PE X (.Constant (.int i) j pos) (tC (.int i)) := fun _ _ _ H _ I h => wpAny_Constant_int ⟨.int i, H, I.tok _, ⟨_, rfl⟩, h⟩
theorem pe_bl {b j pos} : PE X (.Constant (.bool b) j pos) (tC (.bl b)) := fun _ _ _ H _ I h => Constant_bool ⟨.bl b, H, I, rfl, h⟩
theorem pe_non {j pos} : PE X (.Constant .none j pos) (tC .non) := fun _ _ _ H _ I h => Constant_none ⟨.non, H, I, rfl, h⟩
theorem pe_str {x j pos} : PE X (.Constant (.str x) j pos) (tC (.str x)) := fun _ _ _ H _ I h => Calls.Constant_str ⟨.str x, H, I.tok _, ⟨_, rfl⟩, h⟩
noncomputable def Gl (X : Cx) (x : Str) : Prop := X.env.kindOf x = some .globalImplicit
theorem ld_glob {E : Value → Shared → Prop} {pins : List (Addr × Obj)} {s : Shared} {σ : St} {H : Hp} {x : Str} {u : Value} {pos : Pos} {Q : Value → Shared → Prop} (I : Inv X pins σ H s) (hg : Gl X x) (hm : X.mg x = some u) (h : Q u s)
    (hd : (x == ("__debug__" : Str)) = false := by decide) : wpAny (model X.prog X.w) X.A (eval (.Name x pos) X.env) Q E s :=
  Calls.Name_function_global I.ok.kind hg (Calls.loadGlobal_global (by rw [I.ok.glob]; exact I.mod.glob.keeps I.bk) hm h) hd
theorem ld_blt {E : Value → Shared → Prop} {pins : List (Addr × Obj)} {s : Shared} {σ : St} {H : Hp} {x : Str} {u : Value} {pos : Pos} {Q : Value → Shared → Prop} (I : Inv X pins σ H s) (hg : Gl X x) (hm : X.mg x = none) (hv : bootBuiltins x = some u) (h : Q u s)
    (hn : x ≠ "__name__" := by decide) (hd : (x == ("__debug__" : Str)) = false := by decide) : wpAny (model X.prog X.w) X.A (eval (.Name x pos) X.env) Q E s := by
  obtain ⟨mb, h1, h2⟩ := I.mod.blt
  exact Calls.Name_function_global I.ok.kind hg (Calls.loadGlobal_builtin (by rw [I.ok.glob]; exact I.mod.glob.keeps I.bk) hm (by rw [I.ok.blt]; exact h1.keeps I.bk) ((h2 x hn).trans hv) h) hd
theorem pe_glob {x : Str} {v : V} {u : Value} {pos : Pos} (hg : Gl X x) (hm : X.mg x = some u) (r : RelV v u) (hd : (x == ("__debug__" : Str)) = false := by decide) : PE X (.Name x pos) (tC v) :=
  fun _ _ _ H _ I h => ld_glob I hg hm ⟨v, H, I, r, h⟩ hd
theorem pe_bltn {x : Str} {v : V} {u : Value} {pos : Pos} (hg : Gl X x) (hm : X.mg x = none) (hv : bootBuiltins x = some u) (r : RelV v u) (hn : x ≠ "__name__" := by decide) (hd : (x == ("__debug__" : Str)) = false := by decide) : PE X (.Name x pos) (tC v) :=
  fun _ _ _ H _ I h => ld_blt I hg hm hv ⟨v, H, I, r, h⟩ hn hd
variable {a b : Expr} {ta tb : TE} {pos : Pos}
noncomputable def PC (X : Cx) (op : CmpOp) (a b : Expr) (t : TE) : Prop :=
  ∀ (pins : List (Addr × Obj)) (s : Shared) (σ : St) (H : Hp) (Q : VK), Inv X pins σ H s → t σ H Q →
    wpAny (model X.prog X.w) X.A (eval a X.env) (fun v s₁ => wpAny (model X.prog X.w) X.A (eval b X.env) (fun u s₂ => wpAny (model X.prog X.w) X.A (compareOp op v u) (EP X pins σ Q) X.xe s₂) X.xe s₁) X.xe s
noncomputable def tB (t : TE) : TT := fun σ H Q => t σ H fun x H1 => ∃ c, x = .bl c ∧ Q c H1
theorem pe_cmp {op : CmpOp} {t : TE} (h : PC X op a b t) (h1 : behindInMarks op b = false := by first | exact nobehind _ (by decide) (by decide) | rfl) : PE X (.Compare a [op] [b] pos) t := fun pins s σ H Q I hw => wpAny_Compare1 (h pins s σ H Q I hw) h1
theorem pt_cmp {op : CmpOp} {t : TE} (h : PC X op a b t) (h1 : behindInMarks op b = false := by first | exact nobehind _ (by decide) (by decide) | rfl) : PT X (.Compare a [op] [b] pos) (tB t) := by
  intro pins s σ H Q I hw
  refine wpAny_isTrue_Compare1 (thn (h pins s σ H _ I hw) fun v s1 h1 => thn h1 fun u s2 h2 => thn h2 fun c s3 ⟨x, H1, I1, r1, q1⟩ => ?_) h1
  obtain ⟨d, rfl, q⟩ := q1
  cases r1
  exact wpAny_truthy_bool ⟨H1, I1, q⟩
theorem pt_val {e : Expr} {t : TE} (h : PE X e t) (he : ∀ whole, isTrue e X.env whole = (do let v ← whole; standAt e.pos; holding [v] (truthy v)) := by intro _; rfl) : PT X e (tB t) := by
  intro pins s σ H Q I hw
  refine isTrue_plain (thn (h pins s σ H _ I hw) fun v s1 ⟨x, H1, I1, r1, q1⟩ => ?_) (he _)
  obtain ⟨d, rfl, q⟩ := q1
  cases r1
  exact wpAny_truthy_bool ⟨H1, I1, q⟩
variable {tA tB' : TT} {rest : List Expr}
noncomputable def tAnd (t u : TT) : TT := fun σ H Q => t σ H fun c H1 => if c = true then u σ H1 Q else Q false H1
noncomputable def tOr (t u : TT) : TT := fun σ H Q => t σ H fun c H1 => if c = true then Q true H1 else u σ H1 Q
noncomputable def tNot (t : TT) : TT := fun σ H Q => t σ H fun c H1 => Q (!c) H1
theorem pw_and1 (ha : PT X a tA) : PW X (.BoolOp .And [a] pos) tA := by
  intro wh pins s σ H Q I h
  refine isTrue_and (thn (ha pins s σ H Q I h) fun c s1 e => ?_)
  cases c with
  | true => exact isTrue_and_nil e
  | false => exact e
theorem pw_or1 (ha : PT X a tA) : PW X (.BoolOp .Or [a] pos) tA := by
  intro wh pins s σ H Q I h
  refine isTrue_or (thn (ha pins s σ H Q I h) fun c s1 e => ?_)
  cases c with
  | false => exact isTrue_or_nil e
  | true => exact e
theorem pw_and (ha : PT X a tA) (hb : PW X (.BoolOp .And (b :: rest) pos) tB') : PW X (.BoolOp .And (a :: b :: rest) pos) (tAnd tA tB') := by
  intro wh pins s σ H Q I h
  refine isTrue_and (thn (ha pins s σ H _ I h) fun c s1 ⟨H1, I1, q1⟩ => ?_)
  cases c with
  | true => exact hb wh pins s1 σ H1 Q I1 q1
  | false => exact ⟨H1, I1, q1⟩
theorem pw_or (ha : PT X a tA) (hb : PW X (.BoolOp .Or (b :: rest) pos) tB') : PW X (.BoolOp .Or (a :: b :: rest) pos) (tOr tA tB') := by
  intro wh pins s σ H Q I h
  refine isTrue_or (thn (ha pins s σ H _ I h) fun c s1 ⟨H1, I1, q1⟩ => ?_)
  cases c with
  | true => exact ⟨H1, I1, q1⟩
  | false => exact hb wh pins s1 σ H1 Q I1 q1
theorem pt_not (ha : PT X a tA) : PT X (.UnaryOp .Not a pos) (tNot tA) := by
  intro pins s σ H Q I h
  exact isTrue_not (ha pins s σ H (fun c H1 => Q (!c) H1) I h)
noncomputable def tAndV (ta tb : TE) : TE := fun σ H Q => ta σ H fun x H1 => ∃ c, x = .bl c ∧ if c = true then tb σ H1 Q else Q (.bl false) H1
noncomputable def tOrV (ta tb : TE) : TE := fun σ H Q => ta σ H fun x H1 => ∃ c, x = .bl c ∧ if c = true then Q (.bl true) H1 else tb σ H1 Q
noncomputable def tNotV (ta : TE) : TE := fun σ H Q => ta σ H fun x H1 => ∃ c, x = .bl c ∧ Q (.bl (!c)) H1
theorem pe_one {op} {t : TE} (h : PE X a t) : PE X (.BoolOp op [a] pos) t := fun pins s σ H Q I hw => BoolOp_one (h pins s σ H Q I hw)
theorem pe_and (ha : PE X a ta) (hb : PE X (.BoolOp .And (b :: rest) pos) tb) : PE X (.BoolOp .And (a :: b :: rest) pos) (tAndV ta tb) := by
  intro pins s σ H Q I h
  refine BoolOp_and (thn (ha pins s σ H _ I h) fun v s1 ⟨x, H1, I1, r1, q1⟩ => ?_)
  obtain ⟨c, rfl, q1⟩ := q1
  cases r1
  refine wpAny_truthy_bool ?_
  cases c with
  | true => exact hb pins s1 σ H1 Q I1 q1
  | false => exact ⟨.bl false, H1, I1, rfl, q1⟩
theorem pe_or (ha : PE X a ta) (hb : PE X (.BoolOp .Or (b :: rest) pos) tb) : PE X (.BoolOp .Or (a :: b :: rest) pos) (tOrV ta tb) := by
  intro pins s σ H Q I h
  refine BoolOp_or (thn (ha pins s σ H _ I h) fun v s1 ⟨x, H1, I1, r1, q1⟩ => ?_)
  obtain ⟨c, rfl, q1⟩ := q1
  cases r1
  refine wpAny_truthy_bool ?_
  cases c with
  | false => exact hb pins s1 σ H1 Q I1 q1
  | true => exact ⟨.bl true, H1, I1, rfl, q1⟩
theorem pe_not (ha : PE X a ta) : PE X (.UnaryOp .Not a pos) (tNotV ta) := by
  intro pins s σ H Q I h
  refine UnaryOp_ (thn (ha pins s σ H _ I h) fun v s1 ⟨x, H1, I1, r1, q1⟩ => ?_)
  obtain ⟨c, rfl, q1⟩ := q1
  cases r1
  exact not_of (wpAny_truthy_bool ⟨.bl (!c), H1, I1, rfl, q1⟩)
end
end L2
namespace L2
open PySem PySem.Spec PyProof.Rows
noncomputable def SqL (K : PySem.W.Frag) (H : Hp) (a : Addr) (xs : List V) : Prop :=
  Rd H a (.lst xs) ∨
    ∃ (o : Obj) (its : Array Value) (n : Nat), K.lookup a = some o ∧ o.cls = .type "list" ∧ o.dict = none ∧ o.data = .seq its n ∧ its.size ≤ sizeLine ∧ Vals xs its.toList
noncomputable def SqT (K : PySem.W.Frag) (H : Hp) (a : Addr) (xs : List V) : Prop :=
  Rd H a (.tup xs) ∨
    ∃ (o : Obj) (its : Array Value) (n : Nat), K.lookup a = some o ∧ o.cls = .type "tuple" ∧ o.data = .seq its n ∧ its.size ≤ sizeLine ∧ Vals xs its.toList
noncomputable def absV : Value → Option V
  | .none => some .non
  | .bool b => some (.bl b)
  | .int i _ => some (.int i)
  | .str x _ => some (.str x)
  | .bytes b _ => some (.byt b)
  | .float b _ => some (.flt b)
  | .ref a => some (.ref a)
  | .type n => some (.ty n)
  | _ => none
theorem RelV.abs {x : V} {u : Value} (r : RelV x u) : absV u = some x := by
  cases x with
  | non => cases r; rfl
  | bl _ => cases r; rfl
  | int _ => obtain ⟨t, rfl⟩ := r; rfl
  | str _ => obtain ⟨t, rfl⟩ := r; rfl
  | byt _ => obtain ⟨t, rfl⟩ := r; rfl
  | flt _ => obtain ⟨t, rfl⟩ := r; rfl
  | ref _ => cases r; rfl
  | ty _ => cases r; rfl
theorem RelV.inj {x y : V} {u : Value} (r : RelV x u) (q : RelV y u) : x = y := Option.some.inj (r.abs.symm.trans q.abs)
theorem Vals.inj : ∀ {xs ys : List V} {us : List Value}, Vals xs us → Vals ys us → xs = ys
  | _, _, _, .nil, .nil => rfl
  | _, _, _, .cons r t, .cons r' t' => by rw [r.inj r', Vals.inj t t']
section
variable {X : Cx} {pins : List (Addr × Obj)} {σ : St} {H : Hp} {s : Shared} {a : Addr} {xs ys : List V}
theorem SqL.of {K : PySem.W.Frag} (h : H a = some (.lst xs)) : SqL K H a xs := .inl (.inl h)
theorem SqT.of {K : PySem.W.Frag} (h : H a = some (.tup xs)) : SqT K H a xs := .inl (.inl h)
theorem Inv.list (I : Inv X pins σ H s) (h : SqL X.K H a xs) : ∃ its : List Value, Vals xs its ∧ PlainL s.heap a its.toArray ∧ xs.length ≤ sizeLine := by
  rcases h with h | ⟨o, its, n, hk, hc, hd, hs, hz, r⟩
  · obtain ⟨z, its, n, r, e⟩ := h.ok I.hok
    exact ⟨its, r, ⟨_, n, e, rfl, rfl, rfl⟩, z⟩
  · refine ⟨its.toList, r, ⟨o, n, I.kIn a o hk, hc, hd, by simpa using hs⟩, ?_⟩
    have e := r.length
    simp only [Array.length_toList] at e
    omega
theorem Inv.tuple (I : Inv X pins σ H s) (h : SqT X.K H a xs) : ∃ its : List Value, Vals xs its ∧ IsTup s.heap a its.toArray ∧ xs.length ≤ sizeLine := by
  rcases h with h | ⟨o, its, n, hk, hc, hs, hz, r⟩
  · obtain ⟨z, its, r, p⟩ := h.ok I.hok
    exact ⟨its, r, p, z⟩
  · refine ⟨its.toList, r, ⟨o, I.kIn a o hk, hc, n, by simpa using hs⟩, ?_⟩
    have e := r.length
    simp only [Array.length_toList] at e
    omega
theorem Inv.list_inj (I : Inv X pins σ H s) (h : SqL X.K H a xs) (h' : SqL X.K H a ys) : xs = ys := by
  obtain ⟨its, r, ⟨o, n, e, _, _, d⟩, _⟩ := I.list h
  obtain ⟨its', r', ⟨o', n', e', _, _, d'⟩, _⟩ := I.list h'
  rw [e] at e'; cases e'
  rw [d] at d'
  injection d' with d1 _
  have : its = its' := by simpa using congrArg Array.toList d1
  subst this
  exact r.inj r'
theorem Inv.tuple_inj (I : Inv X pins σ H s) (h : SqT X.K H a xs) (h' : SqT X.K H a ys) : xs = ys := by
  obtain ⟨its, r, ⟨o, e, _, n, d⟩, _⟩ := I.tuple h
  obtain ⟨its', r', ⟨o', e', _, n', d'⟩, _⟩ := I.tuple h'
  rw [e] at e'; cases e'
  rw [d] at d'
  injection d' with d1 _
  have : its = its' := by simpa using congrArg Array.toList d1
  subst this
  exact r.inj r'
end
noncomputable abbrev Cx.wish (X : Cx) (E : Value → Shared → Prop) : Cx := { X with xe := E }
noncomputable abbrev Cx.nox (X : Cx) : Cx := X.wish fun _ _ => False
theorem Cx.Ok.wish {X : Cx} (ok : X.Ok) (E : Value → Shared → Prop) : (X.wish E).Ok :=
  ⟨ok.mod, ok.kind, ok.glob, ok.blt, ok.above, ok.inj, ok.has, ok.cab, ok.hd, ok.frames, ok.stk, ok.exf, ok.bs, ok.bsz, ok.noex, ok.exfs, ok.funs, ok.frf⟩
theorem Cx.Ok.unwish {X : Cx} {E : Value → Shared → Prop} (ok : (X.wish E).Ok) : X.Ok :=
  ⟨ok.mod, ok.kind, ok.glob, ok.blt, ok.above, ok.inj, ok.has, ok.cab, ok.hd, ok.frames, ok.stk, ok.exf, ok.bs, ok.bsz, ok.noex, ok.exfs, ok.funs, ok.frf⟩
section
variable {X : Cx} {pins : List (Addr × Obj)} {σ : St} {H : Hp} {s : Shared} {E : Value → Shared → Prop}
theorem Inv.wish (I : Inv X pins σ H s) (E : Value → Shared → Prop) : Inv (X.wish E) pins σ H s := ⟨I.ok.wish E, I.os, I.bare, I.base, I.loc, I.cell, I.free, I.freeC, I.pin, I.hok, I.len⟩
theorem Inv.unwish (I : Inv (X.wish E) pins σ H s) : Inv X pins σ H s := ⟨I.ok.unwish, I.os, I.bare, I.base, I.loc, I.cell, I.free, I.freeC, I.pin, I.hok, I.len⟩
theorem SP.unwish {D : Ends} {f : Flow} {s' : Shared} (h : SP (X.wish E) pins D f s') : SP X pins D f s' := by
  cases f with
  | next => obtain ⟨σ', H', I, q⟩ := h; exact ⟨σ', H', I.unwish, q⟩
  | brk => obtain ⟨σ', H', I, q⟩ := h; exact ⟨σ', H', I.unwish, q⟩
  | cont => obtain ⟨σ', H', I, q⟩ := h; exact ⟨σ', H', I.unwish, q⟩
  | ret u => obtain ⟨v, σ', H', I, r, q⟩ := h; exact ⟨v, σ', H', I.unwish, r, q⟩
theorem PSs.nox {st : List Stmt} {t : TS} (h : PSs X.nox st t) : PSs X st t := fun pins s σ H D I hw =>
  wpAny_mono (h pins s σ H D (I.wish _) hw) (fun _ _ q => q.unwish) fun _ _ z => False.elim z
end
section
variable {X : Cx} {st : Stmt} {rest : List Stmt} {t u : TS} {e : Expr} {te : TE} {pos : Pos}
noncomputable def tNext : TS := fun D σ H => D.nx σ H
noncomputable def tSeq (t u : TS) : TS := fun D σ H => t { D with nx := u D } σ H
theorem pss_nil : PSs X [] tNext := fun _ _ σ H _ I h => wpAny_execs_nil ⟨σ, H, I, h⟩
theorem pss_cons (h1 : PS X st t) (h2 : PSs X rest u) : PSs X (st :: rest) (tSeq t u) := by
  intro pins s σ H D I h
  refine wpAny_execs_cons (thn (h1 pins s σ H { D with nx := u D } I h) fun f s1 q => ?_)
  cases f with
  | next =>
    obtain ⟨σ', H', I', q⟩ := q
    exact h2 pins s1 σ' H' D I' q
  | ret v => exact q
  | brk => exact q
  | cont => exact q
theorem pss_one (h1 : PS X st t) : PSs X [st] t := by
  intro pins s σ H D I h
  refine wpAny_execs_cons (thn (h1 pins s σ H D I h) fun f s1 q => ?_)
  cases f with
  | next => exact wpAny_execs_nil q
  | ret v => exact q
  | brk => exact q
  | cont => exact q
theorem Inv.quiet {pins : List (Addr × Obj)} {σ : St} {H : Hp} {s : Shared} (I : Inv X pins σ H s) : interactive X.env = false := by simp [interactive, I.ok.kind]
noncomputable def tDrop (te : TE) : TS := fun D σ H => te σ H fun _ H1 => D.nx σ H1
theorem ps_expr (he : PE X e te) (hs : swapsWith e none pos.line X.env = pure false := by rfl) : PS X (.Expr e pos) (tDrop te) := by
  intro pins s σ H D I h
  exact wpAny_Expr_any (thn (he pins s σ H _ I h) fun v s1 ⟨x, H1, I1, r1, q1⟩ => ⟨σ, H1, I1, q1⟩) I.quiet hs
noncomputable def tRet (te : TE) : TS := fun D σ H => te σ H D.rt
theorem ps_ret (he : PE X e te) : PS X (.Return (some e) pos) (tRet te) := by
  intro pins s σ H D I h
  exact wpAny_Return_some (thn (he pins s σ H _ I h) fun v s1 ⟨x, H1, I1, r1, q1⟩ => ⟨x, σ, H1, I1, r1, q1⟩)
noncomputable def tIfS (c : TT) (t u : TS) : TS := fun D σ H => c σ H fun b H1 => if b = true then t D σ H1 else u D σ H1
theorem ps_if {c : Expr} {a b : List Stmt} {tc : TT} (hc : PT X c tc) (ha : PSs X a t) (hb : PSs X b u) : PS X (.If c a b pos) (tIfS tc t u) := by
  intro pins s σ H D I h
  refine wpAny_If (thn (hc pins s σ H _ I h) fun d s1 ⟨H1, I1, q1⟩ => ?_)
  cases d with
  | true => exact ha pins s1 σ H1 D I1 q1
  | false => exact hb pins s1 σ H1 D I1 q1
end
noncomputable abbrev TG := V → St → Hp → (St → Hp → Prop) → Prop
noncomputable abbrev TGs := List V → St → Hp → (St → Hp → Prop) → Prop
noncomputable def PG (X : Cx) (target : Expr) (t : TG) : Prop :=
  ∀ (pins : List (Addr × Obj)) (s : Shared) (σ : St) (H : Hp) (v : V) (u : Value) (Q : St → Hp → Prop), Inv X pins σ H s → RelV v u → t v σ H Q →
    wpAny (model X.prog X.w) X.A (assign target X.env u) (fun _ s' => ∃ σ' H', Inv X pins σ' H' s' ∧ Q σ' H') X.xe s
noncomputable def PGs (X : Cx) (ts : List Expr) (t : TGs) : Prop :=
  ∀ (pins : List (Addr × Obj)) (s : Shared) (σ : St) (H : Hp) (vs : List V) (us : List Value) (Q : St → Hp → Prop), Inv X pins σ H s → Vals vs us → t vs σ H Q →
    wpAny (model X.prog X.w) X.A (assignInOrder ((assignEach ts X.env).map (·.2)) us) (fun _ s' => ∃ σ' H', Inv X pins σ' H' s' ∧ Q σ' H') X.xe s
noncomputable abbrev TSet := V → V → V → Hp → (Hp → Prop) → Prop
noncomputable def PSet (X : Cx) (t : TSet) : Prop :=
  ∀ (pins : List (Addr × Obj)) (s : Shared) (σ : St) (H : Hp) (o i v : V) (ov iv u : Value) (Q : Hp → Prop), Inv X pins σ H s → RelV o ov → RelV i iv → RelV v u → t o i v H Q →
    wpAny (model X.prog X.w) X.A (setItem ov iv u) (fun _ s' => ∃ H', Inv X pins σ H' s' ∧ Q H') X.xe s
section
variable {X : Cx} {pos : Pos}
noncomputable def gName (i : Nat) : TG := fun v σ H Q => Q (σ.set i (some v)) H
theorem pg_name {i : Nat} {x : Str} (hN : X.N.Nodup) (hi : X.N[i]? = some x) (hx : Loc X.env.scope x) (hf : X.fn x = true ∨ X.env.scope.names.lookup x = some .local := by first | exact .inl rfl | exact .inr rfl | assumption) : PG X (.Name x pos) (gName i) := by
  intro pins s σ H v u Q I r h
  exact wpAny_assign_Name (store_ok I hN hi hx r (fun s' I' => ⟨_, H, I', h⟩) hf)
noncomputable def gNil : TGs := fun vs σ H Q => vs = [] ∧ Q σ H
noncomputable def gCons (t : TG) (u : TGs) : TGs := fun vs σ H Q => ∃ v r, vs = v :: r ∧ t v σ H fun σ' H' => u r σ' H' Q
theorem pgs_nil : PGs X [] gNil := by
  intro pins s σ H vs us Q I r h
  obtain ⟨e, h⟩ := h
  subst e
  cases r
  exact assignInOrder_nil ⟨σ, H, I, h⟩
theorem pgs_cons {e : Expr} {es : List Expr} {t : TG} {u : TGs} (h1 : PG X e t) (h2 : PGs X es u)
    (hs : (assignEach (e :: es) X.env).map (·.2) = assign e X.env :: (assignEach es X.env).map (·.2) := by rfl) : PGs X (e :: es) (gCons t u) := by
  intro pins s σ H vs us Q I r h
  obtain ⟨v, vr, e1, h⟩ := h
  subst e1
  cases r with
  | cons r rr =>
    rw [hs]
    refine assignInOrder_cons (thn (h1 pins s σ H _ _ _ I r h) fun _ s1 ⟨σ1, H1, I1, q1⟩ => ?_)
    exact h2 pins s1 σ1 H1 _ _ Q I1 rr q1
noncomputable def gTup (K : PySem.W.Frag) (n : Nat) (t : TGs) : TG := fun v σ H Q => ∃ a xs, v = .ref a ∧ SqT K H a xs ∧ xs.length = n ∧ t xs σ H Q
theorem pg_tup {es : List Expr} {k : Nat} {t : TGs} {n : Nat} (hc : X.calm = true) (h : PGs X es t)
    (hn : (assignEach es X.env).length = n := by rfl) (hst : (assignEach es X.env).findIdx? (·.1) = none := by rfl) : PG X (.Tuple es k pos) (gTup X.K n t) := by
  intro pins s σ H v u Q I r hw
  obtain ⟨a, xs, e1, hq, hl, hw⟩ := hw
  subst e1
  cases r
  obtain ⟨its, rv, ht, hz⟩ := I.tuple hq
  refine assign_Tuple_tuple (I.ok.hd hc) ht (by simp [hn, ← hl, rv.length]) hst fun h' hx => ?_
  have I1 : Inv X pins σ H { s with heap := h' } := I.kept (t' := s.toks) fun b o e => hx b o (Nat.ne_of_lt (Heap.lt_size e)) e
  exact h pins _ σ H xs _ Q I1 (by simpa using rv) hw
noncomputable def gSub (to ti : TE) (t : TSet) : TG := fun v σ H Q => to σ H fun o H1 => ti σ H1 fun i H2 => t o i v H2 fun H3 => Q σ H3
theorem pg_sub {o i : Expr} {to ti : TE} {t : TSet} (ho : PE X o to) (hi : PE X i ti) (hs : PSet X t)
    (ha : ∀ v, assign (.Subscript o i pos) X.env v = (do
      let ov ← holding [v] (eval o X.env)
      let iv ← holding [v, ov] (eval i X.env)
      standAt pos
      holding [v, ov, iv] (setItem ov iv v)
      release [v, ov, iv] []) := by intro _; rfl) : PG X (.Subscript o i pos) (gSub to ti t) := by
  intro pins s σ H v u Q I r h
  rw [ha]
  refine wpAny_bind (wpAny_holding (thn (ho pins s σ H _ I h) fun ov s1 ⟨x, H1, I1, r1, q1⟩ => ?_))
  refine wpAny_bind (wpAny_holding (thn (hi pins s1 σ H1 _ I1 q1) fun iv s2 ⟨y, H2, I2, r2, q2⟩ => ?_))
  refine wpAny_bind (wpAny_standAt (wpAny_bind (wpAny_holding (thn (hs pins s2 σ H2 x y v ov iv u _ I2 r1 r2 r q2) fun _ s3 ⟨H3, I3, q3⟩ => ?_))))
  exact wpAny_release ⟨σ, H3, I3, q3⟩
noncomputable def tAsg (te : TE) (g : TG) : TS := fun D σ H => te σ H fun x H1 => g x σ H1 D.nx
theorem ps_asg {tg e : Expr} {te : TE} {g : TG} (he : PE X e te) (hg : PG X tg g) (hs : swapsWithSole [tg] e pos.line X.env = pure false := by rfl) (hw : swappedStores [tg] e X.env = pure none := by rfl)
    (h1 : (assignEach [tg] X.env).map (·.2) = [assign tg X.env] := by rfl) : PS X (.Assign [tg] e pos) (tAsg te g) := by
  intro pins s σ H D I h
  refine wpAny_Assign_stores (thn (he pins s σ H _ I h) fun v s1 ⟨x, H1, I1, r1, q1⟩ => ?_) hs hw
  rw [h1]
  exact thn (hg pins s1 σ H1 x v _ I1 r1 q1) fun _ s2 q => q
theorem ps_set {i : Nat} {x : Str} {e : Expr} {te : TE} {pos' : Pos} (hN : X.N.Nodup) (hi : X.N[i]? = some x) (hx : Loc X.env.scope x) (he : PE X e te) (hs : swapsWith e (some (.Name x pos')) pos.line X.env = pure false := by rfl) (hf : X.fn x = true ∨ X.env.scope.names.lookup x = some .local := by first | exact .inl rfl | exact .inr rfl | assumption) :
    PS X (.Assign [.Name x pos'] e pos) (tAsg te (gName i)) := by
  intro pins s σ H D I h
  refine wpAny_Assign_Name (thn (he pins s σ H _ I h) fun v s1 ⟨y, H1, I1, r1, q1⟩ => ?_) hs
  exact store_ok I1 hN hi hx r1 (fun s2 I2 => ⟨_, H1, I2, q1⟩) hf
noncomputable def tPar (i j : Nat) (ta : TA) : TS := fun D σ H => ta σ H fun vs H1 => ∃ v w, vs = [v, w] ∧ D.nx ((σ.set i (some v)).set j (some w)) H1
theorem ps_par {i j : Nat} {x y : Str} {a b : Expr} {ta : TA} {px py pt : Pos} {kt k2 pt2} (hc : X.calm = true) (hN : X.N.Nodup) (hi : X.N[i]? = some x) (hj : X.N[j]? = some y) (hij : i ≠ j)
    (hx : X.env.scope.names.lookup x = some .local) (hy : X.env.scope.names.lookup y = some .local) (ha : PA X [a, b] ta)
    (hw : swappedStores [.Tuple [.Name x px, .Name y py] kt pt] (.Tuple [a, b] k2 pt2) X.env = pure (some [x, y]))
    (hs : swapsWithSole [.Tuple [.Name x px, .Name y py] kt pt] (.Tuple [a, b] k2 pt2) pos.line X.env = pure false := by rfl) :
    PS X (.Assign [.Tuple [.Name x px, .Name y py] kt pt] (.Tuple [a, b] k2 pt2) pos) (tPar i j ta) := by
  intro pins s σ H D I h
  rw [exec_Assign_arm]
  refine wpAny_bind (wpAny_standAt ?_)
  rw [hs]
  refine wpAny_bind (wpAny_pure ?_)
  rw [if_neg (by decide)]
  refine wpAny_bind (Tuple_ (thn (ha _ pins s σ H _ I h) fun us s1 ⟨vs, H1, I1, r1, q1⟩ => ?_))
  obtain ⟨v, w, e1, q1⟩ := q1
  subst e1
  obtain ⟨u1, u2, rfl, rv, rw'⟩ : ∃ u1 u2, us = [u1, u2] ∧ RelV v u1 ∧ RelV w u2 := by
    cases r1 with
    | cons p q =>
      cases q with
      | cons p' q' =>
        cases q'
        exact ⟨_, _, rfl, p, p'⟩
  refine wpAny_newObj_type ?_ (by show 2 ≤ sizeLine; decide)
  have I2 : Inv X pins σ H1 { s1 with heap := s1.heap.push { cls := .type "tuple", data := .seq [u1, u2].toArray } } := I1.kept (t' := s1.toks) fun b o e => Heap.get?_push_of_some _ e
  rw [hw]
  refine wpAny_bind (wpAny_pure ?_)
  show wpAny (model X.prog X.w) X.A (do rule "assign.swapped-stores"; let items ← unpackItems (.ref s1.heap.objs.size) 2 none; assignInOrder [fun v => bindName X.env y v, fun v => bindName X.env x v] items.reverse; pure Flow.next) _ _ _
  refine wpAny_bind (wpAny_rule (wpAny_bind (unpackItems_tuple (items := #[u1, u2]) (I.ok.hd hc) (IsTup.new s1.heap _) fun h' hx' => ?_)))
  have I3 := I2.kept (h' := h') (t' := s1.toks) fun b o e => hx' b o (Nat.ne_of_lt (Heap.lt_size e)) e
  show wpAny _ _ (assignInOrder [fun v => bindName X.env y v, fun v => bindName X.env x v] [u2, u1] >>= fun _ => pure Flow.next) _ _ _
  refine wpAny_bind (assignInOrder_cons (wpAny_bindName (store_ok I3 hN hj (.inl hy) rw' (fun s2 I4 => ?_) (.inr hy))))
  refine assignInOrder_cons (wpAny_bindName (store_ok I4 hN hi (.inl hx) rv (fun s3 I5 => assignInOrder_nil (wpAny_pure ?_)) (.inr hx)))
  rw [List.set_comm _ _ (Ne.symm hij)] at I5
  exact ⟨_, H1, I5, q1⟩
end
section
variable {X : Cx} {pos : Pos}
end
structure It where
  go : Nat → Hp → Prop
  yld : Nat → Hp → V → Hp → Prop
  stop : Nat → Hp → Prop
noncomputable def FpOk (X : Cx) (pins : List (Addr × Obj)) (H : Hp) (b : Addr) : Prop :=
  H b = none ∧ b ≠ X.env.locals ∧ b ∉ X.fs ∧ (b ∈ X.ex ∨ X.s₀.heap.objs.size ≤ b) ∧ (∀ x c, X.env.cells.lookup x = some c → c ≠ b) ∧ ∀ p ∈ X.pn ++ pins, p.1 ≠ b
theorem Inv.fpOk {X : Cx} {pins : List (Addr × Obj)} {σ : St} {H H' : Hp} {s : Shared} {b : Addr} (I : Inv X pins σ H s) (hb : s.heap.objs.size ≤ b) (hn : H' b = none) : FpOk X pins H' b := by
  refine ⟨hn, Nat.ne_of_gt (Nat.lt_of_lt_of_le I.lt hb), I.nofs hb, .inr (Nat.le_trans I.sz hb), fun x c e z => ?_, fun p hp z => ?_⟩
  · obtain ⟨v, q⟩ := I.cell x c e
    exact absurd (Nat.lt_of_lt_of_le q.lt (by rw [z]; exact hb)) (Nat.lt_irrefl _)
  · exact absurd (Nat.lt_of_lt_of_le (Heap.lt_size (I.pin p hp).1) (by rw [z]; exact hb)) (Nat.lt_irrefl _)
structure Turn (P : Program) (w : World) (K : PySem.W.Frag) (tg : Expr) (J : It) (fp : List Addr) (it : Addr) (tn : Nat → Heap → Prop) : Prop where
  mem : it ∈ fp
  obj : ∀ i h, tn i h → ∀ b ∈ fp, ∃ o, h.get? b = some o ∧ ∀ v, o.data ≠ .cell v
  keep : ∀ i h h', tn i h → (∀ b ∈ fp, ∀ o, h.get? b = some o → h'.get? b = some o) → tn i h'
  item : ∀ (X : Cx), X.prog = P → X.w = w → X.K = K → X.calm = true → ∀ (i : Nat) (pins : List (Addr × Obj)) (s : Shared) (σ : St) (H : Hp) (E : Value → Shared → Prop), Inv X pins σ H s → (∀ b ∈ fp, FpOk X pins H b) → tn i s.heap → J.go i H →
    wpAny (model P w) X.A (pyNext (.ref it)) (fun r s1 => ∃ u, r = some u ∧
      wpAny (model P w) X.A (letOwnedTupleGo tg (.ref it) u) (fun _ s2 => ∃ x H', Inv X pins σ H' s2 ∧ RelV x u ∧ J.yld i H x H' ∧ tn (i + 1) s2.heap ∧ ∀ b ∈ fp, H' b = none) E s1) E s
  done : ∀ (X : Cx), X.prog = P → X.w = w → X.K = K → X.calm = true → ∀ (i : Nat) (pins : List (Addr × Obj)) (s : Shared) (σ : St) (H : Hp) (E : Value → Shared → Prop), Inv X pins σ H s → (∀ b ∈ fp, FpOk X pins H b) → tn i s.heap → J.stop i H →
    wpAny (model P w) X.A (pyNext (.ref it)) (fun r s1 => r = none ∧ Inv X pins σ H s1) E s
  self : ∀ (A : Around) (i : Nat) (s : Shared) (Q : Value → Shared → Prop) (E : Value → Shared → Prop), tn i s.heap → Q (.ref it) s → wpAny (model P w) A (pyIter (.ref it)) Q E s
noncomputable abbrev TI := St → Hp → (It → Hp → Prop) → Prop
noncomputable def PIE (X : Cx) (pins : List (Addr × Obj)) (σ : St) (tg : Expr) (R : It → Hp → Prop) (itv : Value) (s2 : Shared) : Prop :=
  ∃ (it : Addr) (fp : List Addr) (tn : Nat → Heap → Prop) (J : It) (H' : Hp), itv = .ref it ∧ Inv X pins σ H' s2 ∧ Turn X.prog X.w X.K tg J fp it tn ∧ tn 0 s2.heap ∧ (∀ b ∈ fp, FpOk X pins H' b) ∧ R J H'
noncomputable def PI (X : Cx) (tg iter : Expr) (wi : TI) : Prop :=
  ∀ (pins : List (Addr × Obj)) (s : Shared) (σ : St) (H : Hp) (R : It → Hp → Prop), Inv X pins σ H s → wi σ H R →
    wpAny (model X.prog X.w) X.A (eval iter X.env) (fun v s1 => wpAny (model X.prog X.w) X.A (pyIter v) (PIE X pins σ tg R) X.xe s1) X.xe s
theorem go_of {M : Model} {A : Around} {E : Value → Shared → Prop} {s : Shared} {tg : Expr} {it : Addr} {u : Value} {o : Obj} {n : String} {vs : Array Value} {Q : Unit → Shared → Prop} (ho : s.heap.get? it = some o) (hc : o.cls = .type n) (hd : o.data = .fields vs)
    (hn : ["enumerate", "zip", "dict_itemiterator", "dict_reverseitemiterator", "odict_iterator", "itertools.zip_longest", "itertools.pairwise"].contains n = false) (hQ : Q () s) : wpAny M A (letOwnedTupleGo tg (.ref it) u) Q E s := by
  unfold letOwnedTupleGo
  cases tg <;> first
    | exact wpAny_pure hQ
    | (cases u <;> first
        | exact wpAny_pure hQ
        | (refine wpAny_bind (wpAny_load ho ?_)
           rw [hc, hd]
           show wpAny M A (if (["enumerate", "zip", "dict_itemiterator", "dict_reverseitemiterator", "odict_iterator", "itertools.zip_longest", "itertools.pairwise"].contains n && vs[0]? == some (rawInt _)) = true then _ else _) Q E s
           rw [if_neg (by intro h; rw [hn, Bool.false_and] at h; cases h)]
           exact wpAny_pure hQ))
noncomputable def Itl (K : PySem.W.Frag) (a : Addr) : It :=
  ⟨fun i H => ∃ xs x, SqL K H a xs ∧ xs[i]? = some x, fun i H x H' => H' = H ∧ ∀ xs, SqL K H a xs → xs[i]? = some x, fun i H => ∃ xs, SqL K H a xs ∧ xs.length ≤ i⟩
noncomputable def Itt (K : PySem.W.Frag) (a : Addr) : It :=
  ⟨fun i H => ∃ xs x, SqT K H a xs ∧ xs[i]? = some x, fun i H x H' => H' = H ∧ ∀ xs, SqT K H a xs → xs[i]? = some x, fun i H => ∃ xs, SqT K H a xs ∧ xs.length ≤ i⟩
noncomputable def Itr (lo : Int) (n : Nat) : It := ⟨fun i _ => i < n, fun i H x H' => H' = H ∧ x = .int (lo + i), fun i _ => n ≤ i⟩
theorem turn_list {P : Program} {w : World} {K : PySem.W.Frag} {tg : Expr} (a it : Addr) : Turn P w K tg (Itl K a) [it] it (fun i h => h.IsListIter it a i) where
  mem := by simp
  obj := fun i h st b hb => by
    have e : b = it := by simpa using hb
    subst e
    obtain ⟨o, e, c, d⟩ := st
    exact ⟨o, e, fun v z => by rw [d] at z; cases z⟩
  keep := fun i h h' st k => st.at fun o e => k it (by simp) o e
  item := by
    intro X hP hw hK hc i pins s σ H E I hf st hg
    subst hP hw hK
    obtain ⟨xs, x, hq, hx⟩ := hg
    obtain ⟨its, rv, p, hz⟩ := I.list hq
    obtain ⟨u, hu, ru⟩ := rv.get hx
    obtain ⟨f0, f1, f2, f3, f4, f5⟩ := hf it (by simp)
    refine wpAny_pyNext_list_item st p.isList (x := u) (by simpa using hu) fun h' st' sb => ?_
    have I1 : Inv X pins σ H { s with heap := h' } := I.turned (t' := s.toks) (fun b o hb e => (sb.2 b hb).trans e) f0 f1 f3 f4 f5
    obtain ⟨o, e, c, d⟩ := id st'
    exact ⟨u, rfl, go_of (s := { s with heap := h' }) e c d (by decide) ⟨x, H, I1, ru, ⟨rfl, fun ys hy => by rw [I.list_inj hy hq]; exact hx⟩, st', fun b hb => (hf b hb).1⟩⟩
  done := by
    intro X hP hw hK hc i pins s σ H E I hf st hg
    subst hP hw hK
    obtain ⟨xs, hq, hx⟩ := hg
    obtain ⟨its, rv, p, hz⟩ := I.list hq
    obtain ⟨f0, f1, f2, f3, f4, f5⟩ := hf it (by simp)
    have hl := rv.length
    exact wpAny_pyNext_list_end (I.ok.hd hc) st p.isList (by simp; omega) fun h' eb => ⟨rfl, I.turned (t' := s.toks) (fun b o hb e => eb b o hb e) f0 f1 f3 f4 f5⟩
  self := fun _ _ _ _ _ st h => wpAny_pyIter_listiter st h
theorem turn_tuple {P : Program} {w : World} {K : PySem.W.Frag} {tg : Expr} (a it : Addr) : Turn P w K tg (Itt K a) [it] it (fun i h => h.IsTupleIter it a i) where
  mem := by simp
  obj := fun i h st b hb => by
    have e : b = it := by simpa using hb
    subst e
    obtain ⟨o, e, c, d⟩ := st
    exact ⟨o, e, fun v z => by rw [d] at z; cases z⟩
  keep := fun i h h' st k => st.at fun o e => k it (by simp) o e
  item := by
    intro X hP hw hK hc i pins s σ H E I hf st hg
    subst hP hw hK
    obtain ⟨xs, x, hq, hx⟩ := hg
    obtain ⟨its, rv, p, hz⟩ := I.tuple hq
    obtain ⟨u, hu, ru⟩ := rv.get hx
    obtain ⟨f0, f1, f2, f3, f4, f5⟩ := hf it (by simp)
    refine wpAny_pyNext_tuple_item st (show s.heap.IsTuple a its.toArray from p) (x := u) (by simpa using hu) fun h' st' sb => ?_
    have I1 : Inv X pins σ H { s with heap := h' } := I.turned (t' := s.toks) (fun b o hb e => (sb.2 b hb).trans e) f0 f1 f3 f4 f5
    obtain ⟨o, e, c, d⟩ := id st'
    exact ⟨u, rfl, go_of (s := { s with heap := h' }) e c d (by decide) ⟨x, H, I1, ru, ⟨rfl, fun ys hy => by rw [I.tuple_inj hy hq]; exact hx⟩, st', fun b hb => (hf b hb).1⟩⟩
  done := by
    intro X hP hw hK hc i pins s σ H E I hf st hg
    subst hP hw hK
    obtain ⟨xs, hq, hx⟩ := hg
    obtain ⟨its, rv, p, hz⟩ := I.tuple hq
    obtain ⟨f0, f1, f2, f3, f4, f5⟩ := hf it (by simp)
    have hl := rv.length
    exact wpAny_pyNext_tuple_end (I.ok.hd hc) st (show s.heap.IsTuple a its.toArray from p) (by simp; omega) fun h' eb => ⟨rfl, I.turned (t' := s.toks) (fun b o hb e => eb b o hb e) f0 f1 f3 f4 f5⟩
  self := fun _ _ _ _ _ st h => wpAny_pyIter_tupleiter st h
theorem turn_range {P : Program} {w : World} {K : PySem.W.Frag} {tg : Expr} (it : Addr) (lo : Int) (n : Nat) : Turn P w K tg (Itr lo n) [it] it (fun i h => IsRangeIter h it (lo + (i : Nat) * 1) ((n : Int) - (i : Nat)) 1) where
  mem := by simp
  obj := fun i h st b hb => by
    have e : b = it := by simpa using hb
    subst e
    exact ⟨_, st, fun v z => by
      have z' : Data.fields _ = Data.cell v := z
      cases z'⟩
  keep := fun i h h' st k => k it (by simp) _ st
  item := by
    intro X hP hw hK hc i pins s σ H E I hf st hg
    subst hP hw hK
    obtain ⟨f0, f1, f2, f3, f4, f5⟩ := hf it (by simp)
    have W := Walks.range (prog := X.prog) (w := X.w) (I.ok.hd hc) it lo 1 n
    refine W.item i s _ _ hg st fun v h' tk hv st' kk => ?_
    obtain ⟨t, rfl⟩ := hv
    have I1 : Inv X pins σ H { s with heap := h', toks := tk } := I.turned (fun b o hb e => kk b o (by simpa using hb) e) f0 f1 f3 f4 f5
    refine ⟨_, rfl, go_of (s := { s with heap := h', toks := tk }) (n := "range_iterator") st' rfl rfl (by decide) ⟨.int (lo + i), H, I1, ⟨t, ?_⟩, ⟨rfl, rfl⟩, st', fun b hb => (hf b hb).1⟩⟩
    rw [Int.mul_one]
  done := by
    intro X hP hw hK hc i pins s σ H E I hf st hg
    subst hP hw hK
    obtain ⟨f0, f1, f2, f3, f4, f5⟩ := hf it (by simp)
    exact wpAny_pyNext_range_end (I.ok.hd hc) st (by have : n ≤ i := hg; omega) fun h' eb => ⟨rfl, I.turned (t' := s.toks) (fun b o hb e => eb b o hb e) f0 f1 f3 f4 f5⟩
  self := fun _ _ _ _ _ st h => wpAny_pyIter_rangeiter st h
end L2
namespace L2
open PySem PySem.Spec PyProof.Rows
section
variable {X : Cx} {tg : Expr}
noncomputable def iList (K : PySem.W.Frag) (tl : TE) : TI := fun σ H R => tl σ H fun x H1 => ∃ a, x = .ref a ∧ (∃ xs, SqL K H1 a xs) ∧ R (Itl K a) H1
noncomputable def iTup (K : PySem.W.Frag) (tl : TE) : TI := fun σ H R => tl σ H fun x H1 => ∃ a, x = .ref a ∧ (∃ xs, SqT K H1 a xs) ∧ R (Itt K a) H1
theorem pi_list {l : Expr} {tl : TE} (hl : PE X l tl) : PI X tg l (iList X.K tl) := by
  intro pins s σ H R I h
  refine thn (hl pins s σ H _ I h) fun v s1 ⟨x, H1, I1, r1, q1⟩ => ?_
  obtain ⟨a, e, ⟨xs, hq⟩, q⟩ := q1
  subst e
  cases r1
  obtain ⟨its, rv, p, hz⟩ := I1.list hq
  refine wpAny_pyIter_list p.isList ?_
  refine ⟨s1.heap.objs.size, [s1.heap.objs.size], _, _, H1, rfl, I1.kept (t' := s1.toks) fun b o e => Heap.get?_push_of_some _ e, turn_list a _, ⟨_, Heap.get?_push_size _ rfl, rfl, rfl⟩, fun b hb => ?_, q⟩
  have e : b = s1.heap.objs.size := by simpa using hb
  subst e
  exact I1.fpOk (Nat.le_refl _) (I1.hok.fresh (Nat.le_refl _))
theorem pi_tup {l : Expr} {tl : TE} (hl : PE X l tl) : PI X tg l (iTup X.K tl) := by
  intro pins s σ H R I h
  refine thn (hl pins s σ H _ I h) fun v s1 ⟨x, H1, I1, r1, q1⟩ => ?_
  obtain ⟨a, e, ⟨xs, hq⟩, q⟩ := q1
  subst e
  cases r1
  obtain ⟨its, rv, p, hz⟩ := I1.tuple hq
  refine wpAny_pyIter_tuple (show s1.heap.IsTuple a its.toArray from p) ?_
  refine ⟨s1.heap.objs.size, [s1.heap.objs.size], _, _, H1, rfl, I1.kept (t' := s1.toks) fun b o e => Heap.get?_push_of_some _ e, turn_tuple a _, ⟨_, Heap.get?_push_size _ rfl, rfl, rfl⟩, fun b hb => ?_, q⟩
  have e : b = s1.heap.objs.size := by simpa using hb
  subst e
  exact I1.fpOk (Nat.le_refl _) (I1.hok.fresh (Nat.le_refl _))
theorem range_it {pins : List (Addr × Obj)} {σ : St} {H : Hp} {s : Shared} {R : It → Hp → Prop} {E : Value → Shared → Prop} {lo hi : Int} {t u v : Tok} {tk : Nat} (I : Inv X pins σ H s) (h1 : -(2 ^ 62) ≤ lo) (h2 : lo < 2 ^ 62) (h3 : -(2 ^ 62) ≤ hi) (h4 : hi < 2 ^ 62)
    (q : R (Itr lo (hi - lo).toNat) H) : wpAny (model X.prog X.w) X.A (pyIter (.ref s.heap.objs.size)) (PIE X pins σ tg R) E { s with heap := s.heap.push { cls := .type "range", data := .fields #[.int lo t, .int hi u, .int 1 v] }, toks := tk } := by
  refine wpAny_pyIter_range (IsRange.new ..) (small_one h1 h2 h3 h4) ?_
  have I1 : Inv X pins σ H { s with heap := s.heap.push { cls := .type "range", data := .fields #[.int lo t, .int hi u, .int 1 v] }, toks := tk } := I.kept fun b o e => Heap.get?_push_of_some _ e
  refine ⟨(s.heap.push { cls := .type "range", data := .fields #[.int lo t, .int hi u, .int 1 v] }).objs.size, [(s.heap.push { cls := .type "range", data := .fields #[.int lo t, .int hi u, .int 1 v] }).objs.size], _, _, H, rfl,
    I1.kept (t' := tk) fun b o e => Heap.get?_push_of_some _ e, turn_range _ lo (hi - lo).toNat, ?_, fun b hb => ?_, q⟩
  · have e1 : lo + ((0 : Nat) : Int) * 1 = lo := by simp
    have e2 : (((hi - lo).toNat : Nat) : Int) - ((0 : Nat) : Int) = Builtin.Range.rangeSize lo hi 1 := by rw [rangeSize_one]; split <;> omega
    show IsRangeIter _ _ (lo + ((0 : Nat) : Int) * 1) ((((hi - lo).toNat : Nat) : Int) - ((0 : Nat) : Int)) 1
    rw [e1, e2]
    exact Heap.get?_push_size _ rfl
  · have e : b = (s.heap.push { cls := .type "range", data := .fields #[.int lo t, .int hi u, .int 1 v] }).objs.size := by simpa using hb
    subst e
    exact I1.fpOk (Nat.le_refl _) (I1.hok.fresh (Nat.le_refl _))
noncomputable def iRng1 (ta : TA) : TI := fun σ H R => ta σ H fun vs H1 => ∃ j : Int, vs = [.int j] ∧ -(2 ^ 62) ≤ j ∧ j < 2 ^ 62 ∧ R (Itr 0 j.toNat) H1
noncomputable def iRng2 (ta : TA) : TI := fun σ H R => ta σ H fun vs H1 => ∃ i j : Int, vs = [.int i, .int j] ∧ (-(2 ^ 62) ≤ i ∧ i < 2 ^ 62 ∧ -(2 ^ 62) ≤ j ∧ j < 2 ^ 62) ∧ R (Itr i (j - i).toNat) H1
theorem pi_range1 {a : Expr} {ta : TA} {p pos : Pos} (hg : Gl X "range") (hm : X.mg "range" = none) (ha : PA X [a] ta) (hs : starEach [a] X.env = [(false, eval a X.env)] := by rfl) : PI X tg (.Call (.Name "range" p) [a] [] pos) (iRng1 ta) := by
  intro pins s σ H R I h
  refine Call_ (ld_blt I hg hm boot_range (PyProof.Rows.callWith_type1 (thn (ha pos pins s σ H _ I h) fun us s1 ⟨vs, H1, I1, r1, q1⟩ => ?_) hs rfl))
  obtain ⟨j, e, q1, q2, q⟩ := q1
  subst e
  cases r1 with
  | cons r rr =>
    cases rr
    obtain ⟨t, rfl⟩ := r
    exact call_range_1 (range_it I1 (by omega) (by omega) q1 q2 (by simpa using q))
theorem pi_range2 {a b : Expr} {ta : TA} {p pos : Pos} (hg : Gl X "range") (hm : X.mg "range" = none) (ha : PA X [a, b] ta) (hs : starEach [a, b] X.env = [(false, eval a X.env), (false, eval b X.env)] := by rfl) (hs2 : starEach [b] X.env = [(false, eval b X.env)] := by rfl) :
    PI X tg (.Call (.Name "range" p) [a, b] [] pos) (iRng2 ta) := by
  intro pins s σ H R I h
  refine Call_ (ld_blt I hg hm boot_range (PyProof.Rows.callWith_type1 (thn (ha pos pins s σ H _ I h) fun us s1 ⟨vs, H1, I1, r1, q1⟩ => ?_) (by rw [hs, hs2]) (by rw [hs2]; rfl)))
  obtain ⟨i, j, e, ⟨q1, q2, q3, q4⟩, q⟩ := q1
  subst e
  cases r1 with
  | cons r rr =>
    cases rr with
    | cons r' rr =>
      cases rr
      obtain ⟨t, rfl⟩ := r
      obtain ⟨t', rfl⟩ := r'
      exact call_range_2 (range_it I1 q1 q2 q3 q4 q)
noncomputable def tFor (wi : TI) (g : TG) (tb : TS) : TS := fun D σ H => wi σ H fun J H1 => ∃ W : Nat → Nat → St → Hp → Prop, (∃ m, W 0 m σ H1) ∧ ∀ i m σ H, W i m σ H →
  (J.stop i H ∧ D.nx σ H) ∨ (J.go i H ∧ ∃ N : St → Hp → Prop, (∀ σ' H', N σ' H' → ∃ m', m' < m ∧ W (i + 1) m' σ' H') ∧ ∀ x H', J.yld i H x H' → g x σ H' fun σ2 H2 => tb { D with nx := N, ct := N, bk := D.nx } σ2 H2)
noncomputable def pinsAt (fp : List Addr) (h : Heap) : List (Addr × Obj) := fp.filterMap fun b => (h.get? b).map fun o => (b, o)
theorem mem_pinsAt {fp : List Addr} {h : Heap} {b : Addr} {o : Obj} (hb : b ∈ fp) (e : h.get? b = some o) : (b, o) ∈ pinsAt fp h := List.mem_filterMap.mpr ⟨b, hb, by rw [e]; rfl⟩
theorem of_pinsAt {fp : List Addr} {h : Heap} {p : Addr × Obj} (hp : p ∈ pinsAt fp h) : p.1 ∈ fp ∧ h.get? p.1 = some p.2 := by
  obtain ⟨b, hb, e⟩ := List.mem_filterMap.mp hp
  cases q : h.get? b with
  | none => rw [q] at e; cases e
  | some o =>
    rw [q] at e
    have e' : (b, o) = p := Option.some.inj e
    subst e'
    exact ⟨hb, q⟩
theorem Inv.pinned {pins : List (Addr × Obj)} {σ : St} {H : Hp} {s : Shared} {fp : List Addr} (I : Inv X pins σ H s) (hf : ∀ b ∈ fp, FpOk X pins H b) (ho : ∀ b ∈ fp, ∃ o, s.heap.get? b = some o ∧ ∀ v, o.data ≠ .cell v) : Inv X (pins ++ pinsAt fp s.heap) σ H s :=
  I.pins_of fun p hp => (List.mem_append.mp hp).elim (fun z => I.pin p (List.mem_append_right _ z)) fun z => by
    obtain ⟨hb, e⟩ := of_pinsAt z
    obtain ⟨f0, f1, f2, _⟩ := hf p.1 hb
    obtain ⟨o, e', d⟩ := ho p.1 hb
    rw [e] at e'; cases e'
    exact ⟨e, f0, f1, f2, d⟩
theorem Inv.unpinned {pins pl : List (Addr × Obj)} {σ : St} {H : Hp} {s : Shared} (I : Inv X (pins ++ pl) σ H s) : Inv X pins σ H s := I.pins_of fun p hp => I.pin p (List.mem_append_right _ (List.mem_append_left _ hp))
theorem ps_for {iter : Expr} {body : List Stmt} {wi : TI} {g : TG} {tb : TS} {pos : Pos} (hp : PassesOwn (model X.prog X.w) X.A X.env X.xe) (hc : X.calm = true) (hi : PI X tg iter wi) (hg : PG X tg g) (hb : PSs X body tb)
    (hs : ∀ x, foldedSetIterable iter X.env x = pure x := by intro _; rfl) : PS X (.For tg iter body [] pos) (tFor wi g tb) := by
  intro pins s σ H D I h
  refine wpAny_For (thn (hi pins s σ H _ I h) fun v s1 h1 => thn h1 fun itv s2 h2 => ?_) hs
  obtain ⟨it, fp, tn, J, H2, e, I2, T, st2, f2, W, ⟨m0, w0⟩, turn⟩ := h2
  subst e
  -- what stays true of the iterator's objects through the loop
  have stat : ∀ {H' : Hp}, (∀ b ∈ fp, H' b = none) → ∀ b ∈ fp, FpOk X pins H' b := fun hn b hb => ⟨hn b hb, (f2 b hb).2⟩
  refine codeAny_forLoop_any (fun n s' => ∃ i σ' H', Inv X pins σ' H' s' ∧ tn i s'.heap ∧ (∀ b ∈ fp, H' b = none) ∧ W i n σ' H') ?_ m0 ⟨0, σ, H2, I2, st2, fun b hb => (f2 b hb).1, w0⟩
  rintro n s3 ⟨i, σ3, H3, I3, st3, fr3, w3⟩
  rcases turn i n σ3 H3 w3 with ⟨stop, qn⟩ | ⟨go, N, hN, step⟩
  · refine wpAny_passesOwn hp (thn (T.done X rfl rfl rfl hc i pins s3 σ3 H3 X.xe I3 (stat fr3) st3 stop) fun r s4 ⟨hr, I4⟩ => ?_)
    subst hr
    exact wpAny_execs_nil ⟨σ3, H3, I4, qn⟩
  · refine wpAny_passesOwn hp (thn (T.item X rfl rfl rfl hc i pins s3 σ3 H3 X.xe I3 (stat fr3) st3 go) fun r s4 ⟨u, hr, h4⟩ => ?_)
    subst hr
    refine wpAny_passesOwn hp (thn h4 fun _ s5 ⟨x, H5, I5, r5, y5, st5, fr5⟩ => ?_)
    have I5' := I5.pinned (stat fr5) (T.obj _ _ st5)
    refine wpAny_passesOwn hp (thn (hg _ s5 σ3 H5 x u _ I5' r5 (step x H5 y5)) fun _ s6 ⟨σ6, H6, I6, q6⟩ => ?_)
    refine wpAny_passesOwn hp (thn (hb _ s6 σ6 H6 _ I6 q6) fun f s7 q7 => ?_)
    have again : ∀ {σ7 : St} {H7 : Hp}, Inv X (pins ++ pinsAt fp s5.heap) σ7 H7 s7 → N σ7 H7 → ∃ m, m < n ∧ ∃ i σ' H', Inv X pins σ' H' s7 ∧ tn i s7.heap ∧ (∀ b ∈ fp, H' b = none) ∧ W i m σ' H' := fun {σ7 H7} I7 n7 => by
      obtain ⟨m', hm, w7⟩ := hN σ7 H7 n7
      refine ⟨m', hm, i + 1, σ7, H7, I7.unpinned, T.keep _ _ _ st5 fun b hb o e => (I7.pin (b, o) (List.mem_append_right _ (List.mem_append_right _ (mem_pinsAt hb e)))).1, fun b hb => ?_, w7⟩
      obtain ⟨o, e, d⟩ := T.obj _ _ st5 b hb
      exact (I7.pin (b, o) (List.mem_append_right _ (List.mem_append_right _ (mem_pinsAt hb e)))).2.1
    cases f with
    | next => obtain ⟨σ7, H7, I7, n7⟩ := q7; exact again I7 n7
    | cont => obtain ⟨σ7, H7, I7, n7⟩ := q7; exact again I7 n7
    | brk => obtain ⟨σ7, H7, I7, q7⟩ := q7; exact ⟨σ7, H7, I7.unpinned, q7⟩
    | ret v => obtain ⟨x7, σ7, H7, I7, r7, q7⟩ := q7; exact ⟨x7, σ7, H7, I7.unpinned, r7, q7⟩
end
theorem for_list {K : PySem.W.Frag} {a : Addr} {xs : List V} {g : TG} {tb : TS} {D : Ends} {σ : St} {H : Hp} (Pv : Nat → St → Hp → Prop) (h0 : Pv 0 σ H) (hl : ∀ i σ H, i ≤ xs.length → Pv i σ H → SqL K H a xs)
    (hs : ∀ i x σ H, xs[i]? = some x → Pv i σ H → g x σ H fun σ2 H2 => tb { D with nx := Pv (i + 1), ct := Pv (i + 1), bk := D.nx } σ2 H2) (hd : ∀ σ H, Pv xs.length σ H → D.nx σ H) :
    ∃ W : Nat → Nat → St → Hp → Prop, (∃ m, W 0 m σ H) ∧ ∀ i m σ H, W i m σ H →
      ((Itl K a).stop i H ∧ D.nx σ H) ∨ ((Itl K a).go i H ∧ ∃ N : St → Hp → Prop, (∀ σ' H', N σ' H' → ∃ m', m' < m ∧ W (i + 1) m' σ' H') ∧ ∀ x H', (Itl K a).yld i H x H' → g x σ H' fun σ2 H2 => tb { D with nx := N, ct := N, bk := D.nx } σ2 H2) := by
  refine ⟨fun i m σ H => m = xs.length - i ∧ i ≤ xs.length ∧ Pv i σ H, ⟨xs.length, by simp, Nat.zero_le _, h0⟩, ?_⟩
  rintro i m σ H ⟨rfl, hi, p⟩
  have q := hl i σ H hi p
  by_cases hlt : i < xs.length
  · refine .inr ⟨⟨xs, xs[i], q, by simp [hlt]⟩, Pv (i + 1), fun σ' H' p' => ⟨xs.length - (i + 1), by omega, rfl, hlt, p'⟩, fun x H' y => ?_⟩
    obtain ⟨e, y⟩ := y
    subst e
    exact hs i x σ _ (y xs q) p
  · have e : i = xs.length := by omega
    subst e
    exact .inl ⟨⟨xs, q, Nat.le_refl _⟩, hd σ H p⟩
theorem for_range {lo : Int} {n : Nat} {g : TG} {tb : TS} {D : Ends} {σ : St} {H : Hp} (Pv : Nat → St → Hp → Prop) (h0 : Pv 0 σ H)
    (hs : ∀ i σ H, i < n → Pv i σ H → g (.int (lo + i)) σ H fun σ2 H2 => tb { D with nx := Pv (i + 1), ct := Pv (i + 1), bk := D.nx } σ2 H2) (hd : ∀ σ H, Pv n σ H → D.nx σ H) :
    ∃ W : Nat → Nat → St → Hp → Prop, (∃ m, W 0 m σ H) ∧ ∀ i m σ H, W i m σ H →
      ((Itr lo n).stop i H ∧ D.nx σ H) ∨ ((Itr lo n).go i H ∧ ∃ N : St → Hp → Prop, (∀ σ' H', N σ' H' → ∃ m', m' < m ∧ W (i + 1) m' σ' H') ∧ ∀ x H', (Itr lo n).yld i H x H' → g x σ H' fun σ2 H2 => tb { D with nx := N, ct := N, bk := D.nx } σ2 H2) := by
  refine ⟨fun i m σ H => m = n - i ∧ i ≤ n ∧ Pv i σ H, ⟨n, by simp, Nat.zero_le _, h0⟩, ?_⟩
  rintro i m σ H ⟨rfl, hi, p⟩
  by_cases hlt : i < n
  · refine .inr ⟨hlt, Pv (i + 1), fun σ' H' p' => ⟨n - (i + 1), by omega, rfl, hlt, p'⟩, fun x H' y => ?_⟩
    obtain ⟨e, y⟩ := y
    subst e y
    exact hs i σ _ hlt p
  · have e : i = n := by omega
    subst e
    exact .inl ⟨Nat.le_refl _, hd σ H p⟩
end L2
namespace L2
open PySem PySem.Spec PyProof.Rows
noncomputable abbrev R2 := V → V → Hp → VK → Prop
noncomputable def OpR (X : Cx) (f : Value → Value → Sem Value) (r : R2) : Prop :=
  ∀ (pins : List (Addr × Obj)) (s : Shared) (σ : St) (H : Hp) (x y : V) (v u : Value) (Q : VK), Inv X pins σ H s → RelV x v → RelV y u → r x y H Q →
    wpAny (model X.prog X.w) X.A (f v u) (EP X pins σ Q) X.xe s
noncomputable def UnR (X : Cx) (f : Value → Sem Value) (r : V → Hp → VK → Prop) : Prop :=
  ∀ (pins : List (Addr × Obj)) (s : Shared) (σ : St) (H : Hp) (x : V) (v : Value) (Q : VK), Inv X pins σ H s → RelV x v → r x H Q →
    wpAny (model X.prog X.w) X.A (f v) (EP X pins σ Q) X.xe s
noncomputable def CallR (X : Cx) (f : Value) (r : List V → Hp → VK → Prop) : Prop :=
  ∀ (pins : List (Addr × Obj)) (s : Shared) (σ : St) (H : Hp) (xs : List V) (us : List Value) (Q : VK), Inv X pins σ H s → Vals xs us → r xs H Q →
    wpAny (model X.prog X.w) X.A (call f us) (EP X pins σ Q) X.xe s
noncomputable def tOp (r : R2) (ta tb : TE) : TE := fun σ H Q => ta σ H fun x H1 => tb σ H1 fun y H2 => r x y H2 Q
noncomputable def tUn (r : V → Hp → VK → Prop) (ta : TE) : TE := fun σ H Q => ta σ H fun x H1 => r x H1 Q
noncomputable def rI (C : Int → Int → Prop) (g : Int → Int → V) : R2 := fun x y H Q => ∃ i j, x = .int i ∧ y = .int j ∧ C i j ∧ Q (g i j) H
noncomputable def rI0 (g : Int → Int → V) : R2 := fun x y H Q => ∃ i j, x = .int i ∧ y = .int j ∧ Q (g i j) H
noncomputable def rU (g : Int → V) : V → Hp → VK → Prop := fun x H Q => ∃ i, x = .int i ∧ Q (g i) H
section
variable {X : Cx} {a b c : Expr} {ta tb tc : TE} {pos : Pos}
theorem binT (ha : PE X a ta) (hb : PE X b tb) {pins : List (Addr × Obj)} {s : Shared} {σ : St} {H : Hp} {R : V → V → Hp → Prop} (I : Inv X pins σ H s)
    (h : ta σ H fun x H1 => tb σ H1 fun y H2 => R x y H2) {Q : Value → Shared → Prop} {f : Value → Value → Sem Value}
    (hf : ∀ v u s2 x y H2, Inv X pins σ H2 s2 → RelV x v → RelV y u → R x y H2 → wpAny (model X.prog X.w) X.A (f v u) Q X.xe s2) :
    wpAny (model X.prog X.w) X.A (eval a X.env) (fun v s₁ => wpAny (model X.prog X.w) X.A (eval b X.env) (fun u s₂ => wpAny (model X.prog X.w) X.A (f v u) Q X.xe s₂) X.xe s₁) X.xe s := by
  refine thn (ha pins s σ H _ I h) fun v s1 ⟨x, H1, I1, r1, q1⟩ => ?_
  refine thn (hb pins s1 σ H1 _ I1 q1) fun u s2 ⟨y, H2, I2, r2, q2⟩ => ?_
  exact hf v u s2 x y H2 I2 r1 r2 q2
theorem pe_op {op : Operator} {r : R2} (ho : OpR X (binaryOp op) r) (ha : PE X a ta) (hb : PE X b tb) : PE X (.BinOp a op b pos) (tOp r ta tb) := by
  intro pins s σ H Q I h
  exact wpAny_BinOp (binT ha hb I h fun v u s2 x y H2 I2 rx ry q => ho pins s2 σ H2 x y v u Q I2 rx ry q)
theorem pe_un {op : UnaryOp} {r : V → Hp → VK → Prop} (ho : UnR X (unaryOp op) r) (ha : PE X a ta) : PE X (.UnaryOp op a pos) (tUn r ta) := by
  intro pins s σ H Q I h
  exact UnaryOp_ (thn (ha pins s σ H _ I h) fun v s1 ⟨x, H1, I1, r1, q1⟩ => ho pins s1 σ H1 x v Q I1 r1 q1)
theorem opI {f : Value → Value → Sem Value} {C : Int → Int → Prop} {g : Int → Int → Int}
    (rule : ∀ (i j : Int) (t u : Tok) (s : Shared) (Q : Value → Shared → Prop) (E : Value → Shared → Prop), C i j → Q (.int (g i j) s.toks) { s with toks := s.toks + 1 } → wpAny (model X.prog X.w) X.A (f (.int i t) (.int j u)) Q E s) :
    OpR X f (rI C fun i j => .int (g i j)) := by
  intro pins s σ H x y v u Q I rx ry h
  obtain ⟨i, j, rfl, rfl, hc, q⟩ := h
  obtain ⟨t, rfl⟩ := rx
  obtain ⟨t', rfl⟩ := ry
  exact rule i j t t' s _ _ hc ⟨.int (g i j), H, I.tok _, ⟨_, rfl⟩, q⟩
theorem opI0 {f : Value → Value → Sem Value} {g : Int → Int → Int}
    (rule : ∀ (i j : Int) (t u : Tok) (s : Shared) (Q : Value → Shared → Prop) (E : Value → Shared → Prop), Q (.int (g i j) s.toks) { s with toks := s.toks + 1 } → wpAny (model X.prog X.w) X.A (f (.int i t) (.int j u)) Q E s) :
    OpR X f (rI0 fun i j => .int (g i j)) := by
  intro pins s σ H x y v u Q I rx ry h
  obtain ⟨i, j, rfl, rfl, q⟩ := h
  obtain ⟨t, rfl⟩ := rx
  obtain ⟨t', rfl⟩ := ry
  exact rule i j t t' s _ _ ⟨.int (g i j), H, I.tok _, ⟨_, rfl⟩, q⟩
theorem opB0 {f : Value → Value → Sem Value} {g : Int → Int → Bool}
    (rule : ∀ (i j : Int) (t u : Tok) (s : Shared) (Q : Value → Shared → Prop) (E : Value → Shared → Prop), Q (.bool (g i j)) s → wpAny (model X.prog X.w) X.A (f (.int i t) (.int j u)) Q E s) :
    OpR X f (rI0 fun i j => .bl (g i j)) := by
  intro pins s σ H x y v u Q I rx ry h
  obtain ⟨i, j, rfl, rfl, q⟩ := h
  obtain ⟨t, rfl⟩ := rx
  obtain ⟨t', rfl⟩ := ry
  exact rule i j t t' s _ _ ⟨.bl (g i j), H, I, rfl, q⟩
noncomputable def CPow (i j : Int) : Prop := 0 ≤ j ∧ j ≤ 1000000 ∧ i.natAbs < 2 ^ 64
noncomputable def CMul (i j : Int) : Prop := (-(2 ^ 64) < i ∧ i < 2 ^ 64) ∨ (-(2 ^ 64) < j ∧ j < 2 ^ 64)
theorem CMul.ok {i j : Int} (h : CMul i j) : IntMulOk i j := by
  rcases h with ⟨h1, h2⟩ | ⟨h1, h2⟩
  · exact .of_left (intBits_le_64 h1 h2)
  · exact .of_right (intBits_le_64 h1 h2)
theorem op_add : OpR X (binaryOp .Add) (rI0 fun i j => .int (i + j)) := opI0 fun _ _ _ _ _ _ _ q => add_int q
theorem op_sub : OpR X (binaryOp .Sub) (rI0 fun i j => .int (i - j)) := opI0 fun _ _ _ _ _ _ _ q => sub_int q
theorem op_mul : OpR X (binaryOp .Mult) (rI CMul fun i j => .int (i * j)) := opI fun _ _ _ _ _ _ _ hc q => mul_int q hc.ok
theorem op_mod : OpR X (binaryOp .Mod) (rI (fun _ j => 0 < j) fun i j => .int (i % j)) := opI fun i j _ _ _ _ _ hc q => by
  have h1 : (0 : Int) < j := hc
  exact mod_int' (by omega) (by rw [Int.fmod_eq_emod_of_nonneg i (by omega)]; exact q)
theorem op_pow : OpR X (binaryOp .Pow) (rI CPow fun i j => .int (i ^ j.toNat)) := opI fun _ _ _ _ _ _ _ hc q => pow_int_small hc.1 hc.2.1 hc.2.2 q
theorem unI {f : Value → Sem Value} {g : Int → Int}
    (rule : ∀ (i : Int) (t : Tok) (s : Shared) (Q : Value → Shared → Prop) (E : Value → Shared → Prop), Q (.int (g i) s.toks) { s with toks := s.toks + 1 } → wpAny (model X.prog X.w) X.A (f (.int i t)) Q E s) :
    UnR X f (rU fun i => .int (g i)) := by
  intro pins s σ H x v Q I rx h
  obtain ⟨i, rfl, q⟩ := h
  obtain ⟨t, rfl⟩ := rx
  exact rule i t s _ _ ⟨.int (g i), H, I.tok _, ⟨_, rfl⟩, q⟩
theorem un_neg : UnR X (unaryOp .USub) (rU fun i => .int (-i)) := unI fun _ _ _ _ _ q => neg_int q
end
noncomputable def scal : V → V → Bool
  | .non, .non => true | .non, .int _ => true | .int _, .non => true | .non, .bl _ => true | .bl _, .non => true | .non, .str _ => true | .str _, .non => true
  | .int _, .int _ => true | .bl _, .bl _ => true | .str _, .str _ => true | .byt _, .byt _ => true
  | .int _, .str _ => true | .str _, .int _ => true | .bl _, .str _ => true | .str _, .bl _ => true
  | _, _ => false
noncomputable def rEq : R2 := fun x y H Q => scal x y = true ∧ Q (.bl (decide (x = y))) H
noncomputable def rNe : R2 := fun x y H Q => scal x y = true ∧ Q (.bl (!decide (x = y))) H
theorem dec_int {i j : Int} : decide (V.int i = V.int j) = (i == j) := by
  rw [Bool.eq_iff_iff]
  simp
theorem dec_bl {i j : Bool} : decide (V.bl i = V.bl j) = (i == j) := by
  rw [Bool.eq_iff_iff]
  simp
theorem dec_str {i j : Str} : decide (V.str i = V.str j) = (i == j) := by
  rw [Bool.eq_iff_iff]
  simp
theorem dec_byt {i j : Array UInt8} : decide (V.byt i = V.byt j) = (i.toList == j.toList) := by
  rw [Bool.eq_iff_iff]
  cases i
  cases j
  simp
section
variable {X : Cx} {a b c : Expr} {ta tb tc : TE} {pos : Pos}
theorem fin_bl {pins : List (Addr × Obj)} {σ : St} {H : Hp} {s : Shared} {Q : VK} {k k' : Bool} (I : Inv X pins σ H s) (q : Q (.bl k) H) (e : k = k') : EP X pins σ Q (.bool k') s := by
  subst e
  exact ⟨.bl k, H, I, rfl, q⟩
theorem op_eq : OpR X (compareOp .Eq) rEq := by
  intro pins s σ H x y v u Q I rx ry h
  obtain ⟨hs, q⟩ := h
  cases x with
  | non =>
    cases rx
    cases y with
    | non => cases ry; exact PySem.EqNone.eq_none_none (fin_bl I q (by simp))
    | bl j => cases ry; exact PySem.EqNone.eq_none_bool (fin_bl I q (by simp))
    | int j => obtain ⟨t', rfl⟩ := ry; exact PySem.EqNone.eq_none_int (fin_bl I q (by simp))
    | str j => obtain ⟨t', rfl⟩ := ry; exact PySem.EqNone.eq_none_str (fin_bl I q (by simp))
    | _ => exact absurd (show false = true from hs) Bool.false_ne_true
  | bl i =>
    cases rx
    cases y with
    | non => cases ry; exact PySem.EqNone.eq_bool_none (fin_bl I q (by simp))
    | bl j => cases ry; exact eq_bool (fin_bl I q dec_bl)
    | str j => obtain ⟨t', rfl⟩ := ry; exact PySem.EqMixed.eq_bool_str (fin_bl I q (by simp))
    | _ => exact absurd (show false = true from hs) Bool.false_ne_true
  | int i =>
    obtain ⟨t, rfl⟩ := rx
    cases y with
    | non => cases ry; exact PySem.EqNone.eq_int_none (fin_bl I q (by simp))
    | int j => obtain ⟨t', rfl⟩ := ry; exact eq_int (fin_bl I q dec_int)
    | str j => obtain ⟨t', rfl⟩ := ry; exact PySem.EqMixed.eq_int_str (fin_bl I q (by simp))
    | _ => exact absurd (show false = true from hs) Bool.false_ne_true
  | str i =>
    obtain ⟨t, rfl⟩ := rx
    cases y with
    | non => cases ry; exact PySem.EqNone.eq_str_none (fin_bl I q (by simp))
    | bl j => cases ry; exact PySem.EqMixed.eq_str_bool (fin_bl I q (by simp))
    | int j => obtain ⟨t', rfl⟩ := ry; exact PySem.EqMixed.eq_str_int (fin_bl I q (by simp))
    | str j => obtain ⟨t', rfl⟩ := ry; exact eq_str (fin_bl I q dec_str)
    | _ => exact absurd (show false = true from hs) Bool.false_ne_true
  | byt i =>
    obtain ⟨t, rfl⟩ := rx
    cases y with
    | byt j => obtain ⟨t', rfl⟩ := ry; exact PySem.W.eq_bytes (fin_bl I q dec_byt)
    | _ => exact absurd (show false = true from hs) Bool.false_ne_true
  | _ => cases y <;> exact absurd (show false = true from hs) Bool.false_ne_true
theorem op_ne : OpR X (compareOp .NotEq) rNe := by
  intro pins s σ H x y v u Q I rx ry h
  obtain ⟨hs, q⟩ := h
  cases x with
  | non =>
    cases rx
    cases y with
    | non => cases ry; exact PySem.EqNone.ne_none_none (fin_bl I q (by simp))
    | bl j => cases ry; exact PySem.EqNone.ne_none_bool (fin_bl I q (by simp))
    | int j => obtain ⟨t', rfl⟩ := ry; exact PySem.EqNone.ne_none_int (fin_bl I q (by simp))
    | str j => obtain ⟨t', rfl⟩ := ry; exact PySem.EqNone.ne_none_str (fin_bl I q (by simp))
    | _ => exact absurd (show false = true from hs) Bool.false_ne_true
  | bl i =>
    cases rx
    cases y with
    | non => cases ry; exact PySem.EqNone.ne_bool_none (fin_bl I q (by simp))
    | bl j => cases ry; exact ne_bool (fin_bl I q (congrArg not dec_bl))
    | str j => obtain ⟨t', rfl⟩ := ry; exact PySem.EqMixed.ne_bool_str (fin_bl I q (by simp))
    | _ => exact absurd (show false = true from hs) Bool.false_ne_true
  | int i =>
    obtain ⟨t, rfl⟩ := rx
    cases y with
    | non => cases ry; exact PySem.EqNone.ne_int_none (fin_bl I q (by simp))
    | int j => obtain ⟨t', rfl⟩ := ry; exact ne_int (fin_bl I q (congrArg not dec_int))
    | str j => obtain ⟨t', rfl⟩ := ry; exact PySem.EqMixed.ne_int_str (fin_bl I q (by simp))
    | _ => exact absurd (show false = true from hs) Bool.false_ne_true
  | str i =>
    obtain ⟨t, rfl⟩ := rx
    cases y with
    | non => cases ry; exact PySem.EqNone.ne_str_none (fin_bl I q (by simp))
    | bl j => cases ry; exact PySem.EqMixed.ne_str_bool (fin_bl I q (by simp))
    | int j => obtain ⟨t', rfl⟩ := ry; exact PySem.EqMixed.ne_str_int (fin_bl I q (by simp))
    | str j => obtain ⟨t', rfl⟩ := ry; exact ne_str (fin_bl I q (congrArg not dec_str))
    | _ => exact absurd (show false = true from hs) Bool.false_ne_true
  | byt i =>
    obtain ⟨t, rfl⟩ := rx
    cases y with
    | byt j => obtain ⟨t', rfl⟩ := ry; exact PySem.W.ne_bytes (fin_bl I q (congrArg not dec_byt))
    | _ => exact absurd (show false = true from hs) Bool.false_ne_true
  | _ => cases y <;> exact absurd (show false = true from hs) Bool.false_ne_true
theorem op_lt : OpR X (compareOp .Lt) (rI0 fun i j => .bl (decide (i < j))) := opB0 fun _ _ _ _ _ _ _ q => lt_int q
theorem op_le : OpR X (compareOp .LtE) (rI0 fun i j => .bl (decide (i ≤ j))) := opB0 fun _ _ _ _ _ _ _ q => le_int q
theorem op_gt : OpR X (compareOp .Gt) (rI0 fun i j => .bl (decide (j < i))) := opB0 fun _ _ _ _ _ _ _ q => gt_int q
theorem op_ge : OpR X (compareOp .GtE) (rI0 fun i j => .bl (decide (j ≤ i))) := opB0 fun _ _ _ _ _ _ _ q => ge_int q
theorem nomark (b : Expr) {op : CmpOp} (h : op ≠ .In := by decide) (h2 : op ≠ .NotIn := by decide) : behindInMarks op b = false := by
  have e1 : (op == CmpOp.In) = false := by cases op <;> first | rfl | exact absurd rfl h
  have e2 : (op == CmpOp.NotIn) = false := by cases op <;> first | rfl | exact absurd rfl h2
  cases b <;> simp [behindInMarks, e1, e2]
theorem pe_cmpR {op : CmpOp} {r : R2} (ho : OpR X (compareOp op) r) (ha : PE X a ta) (hb : PE X b tb) (hm : behindInMarks op b = false) : PE X (.Compare a [op] [b] pos) (tOp r ta tb) := by
  intro pins s σ H Q I h
  exact wpAny_Compare1 (binT ha hb I h fun v u s2 x y H2 I2 rx ry q => ho pins s2 σ H2 x y v u Q I2 rx ry q) hm
noncomputable def tTest (t : TE) : TT := fun σ H Q => t σ H fun x H' => ∃ k, x = .bl k ∧ Q k H'
theorem pt_cmpR {op : CmpOp} {r : R2} (ho : OpR X (compareOp op) r) (ha : PE X a ta) (hb : PE X b tb) (hm : behindInMarks op b = false) : PT X (.Compare a [op] [b] pos) (tTest (tOp r ta tb)) := by
  intro pins s σ H Q I h
  refine wpAny_isTrue_Compare1 (thn (ha pins s σ H _ I h) fun v s1 ⟨x, H1, I1, r1, q1⟩ => thn (hb pins s1 σ H1 _ I1 q1) fun u s2 ⟨y, H2, I2, r2, q2⟩ =>
    thn (ho pins s2 σ H2 x y v u _ I2 r1 r2 q2) fun c s3 ⟨z, H3, I3, r3, k, e, q3⟩ => ?_) hm
  subst e
  cases r3
  exact wpAny_truthy_bool ⟨H3, I3, q3⟩
noncomputable def tChain (r r' : R2) (ta tb tc : TE) : TE := fun σ H Q => ta σ H fun x H1 => tb σ H1 fun y H2 => r x y H2 fun z H3 => ∃ k, z = .bl k ∧
  (if k = true then tc σ H3 fun w' H4 => r' y w' H4 Q else Q (.bl false) H3)
theorem pe_chain {op op' : CmpOp} {r r' : R2} (ho : OpR X (compareOp op) r) (ho' : OpR X (compareOp op') r') (ha : PE X a ta) (hb : PE X b tb) (hc : PE X c tc)
    (hm : lastMarks [op, op'] [b, c] = false := by with_unfolding_all rfl) : PE X (.Compare a [op, op'] [b, c] pos) (tChain r r' ta tb tc) := by
  intro pins s σ H Q I h
  refine Compare_chain (thn (ha pins s σ H _ I h) fun v s1 ⟨x, H1, I1, r1, q1⟩ => chain_link (thn (hb pins s1 σ H1 _ I1 q1) fun u s2 ⟨y, H2, I2, r2, q2⟩ =>
    thn (ho pins s2 σ H2 x y v u _ I2 r1 r2 q2) fun d s3 ⟨z, H3, I3, r3, k, e, q3⟩ => ?_)) hm
  subst e
  cases r3
  refine wpAny_truthy_bool ?_
  cases k with
  | false => exact ite_ff ⟨.bl false, H3, I3, rfl, q3⟩
  | true => exact ite_tt (chain_last (thn (hc pins s3 σ H3 _ I3 q3) fun w' s4 ⟨z', H4, I4, r4, q4⟩ => ho' pins s4 σ H4 y z' u w' Q I4 r2 r4 q4))
theorem line63 : (sizeLine : Nat) < 2 ^ 63 := by rw [sizeLine_eq]; decide
theorem vals1 {x : V} {us : List Value} (r : Vals [x] us) : ∃ u, us = [u] ∧ RelV x u := by
  cases r with
  | cons r1 r2 => cases r2; exact ⟨_, rfl, r1⟩
theorem vals2 {x y : V} {us : List Value} (r : Vals [x, y] us) : ∃ u w', us = [u, w'] ∧ RelV x u ∧ RelV y w' := by
  cases r with
  | cons r1 r2 =>
    cases r2 with
    | cons r3 r4 => cases r4; exact ⟨_, _, rfl, r1, r3⟩
theorem call_max2 (hc : X.calm = true) : CallR X (.builtin "max") (fun xs H Q => ∃ i j, xs = [.int i, .int j] ∧ Q (.int (if j > i then j else i)) H) := by
  intro pins s σ H xs us Q I r h
  obtain ⟨i, j, rfl, q⟩ := h
  obtain ⟨u, w', rfl, ⟨t, rfl⟩, ⟨t', rfl⟩⟩ := vals2 r
  refine max_two_ints (I.ok.hd hc) fun h' tk k => ⟨_, H, I.kept k, ?_, q⟩
  by_cases hj : j > i
  · rw [if_pos hj, if_pos hj]; exact ⟨_, rfl⟩
  · rw [if_neg hj, if_neg hj]; exact ⟨_, rfl⟩
theorem call_min2 (hc : X.calm = true) : CallR X (.builtin "min") (fun xs H Q => ∃ i j, xs = [.int i, .int j] ∧ Q (.int (if j < i then j else i)) H) := by
  intro pins s σ H xs us Q I r h
  obtain ⟨i, j, rfl, q⟩ := h
  obtain ⟨u, w', rfl, ⟨t, rfl⟩, ⟨t', rfl⟩⟩ := vals2 r
  refine min_two_ints (I.ok.hd hc) fun h' tk k => ⟨_, H, I.kept k, ?_, q⟩
  by_cases hj : j < i
  · rw [if_pos hj, if_pos hj]; exact ⟨_, rfl⟩
  · rw [if_neg hj, if_neg hj]; exact ⟨_, rfl⟩
end
end L2
namespace L2
open PySem PySem.Spec PyProof.Rows
structure ObjM (h : Heap) (x dx C : Addr) (mA : Str → Option Value) : Prop where
  obj : h.get? x = some (PySem.W.instObj C dx)
  ns : h.Ns1 dx mA
  ne : dx ≠ x
theorem lookIn_ns {h : Heap} {dx : Addr} {mA : Str → Option Value} (n : h.Ns1 dx mA) : ∃ od, h.get? dx = some od ∧ ∀ name, PySem.W.lookIn name od = some (mA name) := by
  obtain ⟨o, es, ep, ho, hd, hk, _, hm⟩ := n
  refine ⟨o, ho, fun name => ?_⟩
  have e := hm name
  unfold nsFind findBy at e
  rw [← Array.find?_toList] at e
  unfold PySem.W.lookIn
  rw [hd]
  dsimp only
  split
  · rename_i y q
    rw [q] at e
    exact congrArg some e
  · rename_i q
    rw [q] at e
    have a : es.toList.any (·.refKey) = false := by
      rw [List.any_eq_false]
      intro y hy
      obtain ⟨z, t, hkey⟩ := hk y (Array.mem_toList_iff.mp hy)
      simp [DictEntry.refKey, hkey]
    have a' : ¬ es.toList.any (·.refKey) = true := by rw [a]; exact Bool.false_ne_true
    rw [if_neg a']
    exact congrArg some e
theorem ObjM.look {h : Heap} {x dx C : Addr} {mA : Str → Option Value} (I : ObjM h x dx C mA) : ∃ od, PySem.W.InstAt h x (PySem.W.instObj C dx) C (some od) ∧ ∀ name, PySem.W.lookIn name od = some (mA name) :=
  let ⟨od, ho, hl⟩ := lookIn_ns I.ns
  ⟨od, ⟨I.obj, rfl, rfl, ho⟩, hl⟩
section
variable {prog : Program} {w : World} {A : Around} {E : Value → Shared → Prop} {s : Shared} {K : PySem.W.Frag} {x dx C f : Addr} {mA : Str → Option Value} {name : Str} {v : Value}
end
theorem RelO.some_of {v : V} {o : Option Value} (r : RelO (some v) o) : ∃ u, o = some u ∧ RelV v u := by
  cases o with
  | none => exact (show False from r).elim
  | some u => exact ⟨u, rfl, r⟩
theorem handed_of {v : V} {u : Value} (r : RelV v u) : PySem.W.handedIn u = true := by
  cases v with
  | non => cases (show u = Value.none from r); rfl
  | bl b => cases (show u = Value.bool b from r); rfl
  | int i => obtain ⟨t, e⟩ := (show ∃ t, u = Value.int i t from r); cases e; rfl
  | str x => obtain ⟨t, e⟩ := (show ∃ t, u = Value.str x t from r); cases e; rfl
  | byt b => obtain ⟨t, e⟩ := (show ∃ t, u = Value.bytes b t from r); cases e; rfl
  | flt b => obtain ⟨t, e⟩ := (show ∃ t, u = Value.float b t from r); cases e; rfl
  | ref a => cases (show u = Value.ref a from r); rfl
  | ty n => cases (show u = Value.type n from r); rfl
section
variable {P : Program} {w : World} {H H' : Hp} {h h' : Heap} {a C dx : Addr} {fs fs' : List (Str × V)}
theorem ins_get (hok : HOk P w H h) (e : H a = some (.ins C dx fs)) : ∃ mA, ObjM h a dx C mA ∧ (∀ f, RelO (fs.lookup f) (mA f)) ∧ PySem.Within mA (fs.map (·.1)) ∧ fs.length ≤ 1000 ∧ H dx = some (.own a) := by
  obtain ⟨d, z, ne, ob, mA, n, r, q⟩ := (show ObjOk P w H h a (.ins C dx fs) from hok a _ e)
  exact ⟨mA, ⟨ob, n, ne⟩, r, q, z, d⟩
end
structure Cls (K : PySem.W.Frag) (C : Addr) : Prop where
  pg : PySem.W.plainGet K C Str.empty = true
  hd : PySem.W.hasDictIn K C = true
  po : PySem.W.plainOver K C = true
  sa : PySem.W.findIn K (.ref C) "__setattr__" = some (some (.builtin "object.__setattr__"))
theorem Cls.get {K : PySem.W.Frag} {C : Addr} (c : Cls K C) (f : Str) : PySem.W.plainGet K C f = true := c.pg
section
variable {X : Cx} {pins : List (Addr × Obj)} {σ : St} {H : Hp} {s : Shared} {a C dx : Addr} {fs : List (Str × V)} {f : Str} {v : V} {A : Around} {E : Value → Shared → Prop}
theorem attr_of {prog : Program} {w : World} {env : Env} {e : Expr} {f : Str} {pos : Pos} {s : Shared} {Q : Value → Shared → Prop} (hb : attributeBase e f env (eval e env) = eval e env)
    (h : wpAny (model prog w) A (eval e env) (fun o s₁ => wpAny (model prog w) A (getAttr o f true) Q E s₁) E s) : wpAny (model prog w) A (eval (.Attribute e f pos) env) Q E s :=
  Attribute_any_ h (by rw [arm_eval_Attribute, hb])
end
section
variable {X : Cx} {o e value : Expr} {f : Str} {pos pos' tpos : Pos} {ta tv : TE}
end
section
variable {X : Cx} {pins : List (Addr × Obj)} {σ : St} {H : Hp} {s : Shared} {A : Around} {E : Value → Shared → Prop} {Q : Value → Shared → Prop} {c : Value} {b : Bool}
inductive TyOf (K : PySem.W.Frag) (H : Hp) : V → Value → Prop where
  | non : TyOf K H .non (.type "NoneType")
  | bl (x : Bool) : TyOf K H (.bl x) (.type "bool")
  | int (i : Int) : TyOf K H (.int i) (.type "int")
  | str (x : Str) : TyOf K H (.str x) (.type "str")
  | flt (x : UInt64) : TyOf K H (.flt x) (.type "float")
  | lst {a : Addr} {xs : List V} (e : H a = some (.lst xs)) : TyOf K H (.ref a) (.type "list")
  | frz {a : Addr} {o : Obj} {xs : List V} (e : H a = some (.frz o (.lst xs))) : TyOf K H (.ref a) (.type "list")
  | tup {a : Addr} {xs : List V} (e : H a = some (.tup xs)) : TyOf K H (.ref a) (.type "tuple")
  | dK {a : Addr} {kvs : List (Key × V)} (e : H a = some (.dK kvs)) : TyOf K H (.ref a) (.type "dict")
  | dT {a : Addr} {kvs : List (List Key × V)} (e : H a = some (.dT kvs)) : TyOf K H (.ref a) (.type "dict")
  | ins {a C dx : Addr} {fs : List (Str × V)} (e : H a = some (.ins C dx fs)) (cl : Cls K C) (ha : PySem.W.findIn K (.ref C) "__class__" = some (some (.builtin "object.__class__")))
      (hn : PySem.W.specialIn K (.builtin "object.__class__") "__get__" = some (some (.builtin "getset_descriptor.__get__"))) (htk : PySem.W.takesIn K (.builtin "object.__class__") = some true)
      (hm : PySem.W.mroIn K C (.type "object") = some true) : TyOf K H (.ref a) (.ref C)
theorem isinst_ok {x : V} {u t : Value} (I : Inv X pins σ H s) (rx : RelV x u) (ty : TyOf X.K H x t) (e : PySem.W.kitOne X.K t c = some b) (h : ∀ tk, Q (.bool b) { s with toks := tk }) :
    wpAny (model X.prog X.w) A (call (.builtin "isinstance") [u, c]) Q E s := by
  cases ty with
  | non => cases (show u = Value.none from rx); exact PySem.W.kia_one PySem.W.kitx_none I.kIn True.intro e (fun z => nomatch z) h
  | bl y => cases (show u = Value.bool y from rx); exact PySem.W.kia_one PySem.W.kitx_bool I.kIn True.intro e (fun z => nomatch z) h
  | int i => obtain ⟨t, q⟩ := (show ∃ t, u = Value.int i t from rx); cases q; exact PySem.W.kia_one PySem.W.kitx_int I.kIn True.intro e (fun z => nomatch z) h
  | str y => obtain ⟨t, q⟩ := (show ∃ t, u = Value.str y t from rx); cases q; exact PySem.W.kia_one PySem.W.kitx_str I.kIn True.intro e (fun z => nomatch z) h
  | flt y => obtain ⟨t, q⟩ := (show ∃ t, u = Value.float y t from rx); cases q; exact PySem.W.kia_one PySem.W.kitx_float I.kIn True.intro e (fun z => nomatch z) h
  | @lst a xs ea =>
    cases (show u = Value.ref a from rx)
    obtain ⟨_, _, n, _, h1⟩ := (show ObjOk X.prog X.w H s.heap a (.lst xs) from I.hok a _ ea)
    exact PySem.W.kia_one PySem.W.kitx_list I.kIn ⟨_, h1, rfl⟩ e (fun z => nomatch z) h
  | @frz a ob xs ea =>
    cases (show u = Value.ref a from rx)
    obtain ⟨_, _, _, n, _, h1⟩ := (show ObjOk X.prog X.w H s.heap a (.frz ob (.lst xs)) from I.hok a _ ea)
    exact PySem.W.kia_one PySem.W.kitx_list I.kIn ⟨_, h1, rfl⟩ e (fun z => nomatch z) h
  | @tup a xs ea =>
    cases (show u = Value.ref a from rx)
    obtain ⟨_, _, _, p⟩ := (show ObjOk X.prog X.w H s.heap a (.tup xs) from I.hok a _ ea)
    obtain ⟨o, h1, h2, _⟩ := p
    exact PySem.W.kia_one PySem.W.kitx_tuple I.kIn ⟨o, h1, h2⟩ e (fun z => nomatch z) h
  | @dK a kvs ea =>
    cases (show u = Value.ref a from rx)
    obtain ⟨_, _, vs, _, p⟩ := (show ObjOk X.prog X.w H s.heap a (.dK kvs) from I.hok a _ ea)
    obtain ⟨o, es, ep, h1, h2, _⟩ := p
    exact PySem.W.kia_one PySem.W.kitx_dict I.kIn ⟨o, h1, h2.1⟩ e (fun z => nomatch z) h
  | @dT a kvs ea =>
    cases (show u = Value.ref a from rx)
    obtain ⟨_, _, xs, _, o, es, ep, h1, h2, _⟩ := (show ObjOk X.prog X.w H s.heap a (.dT kvs) from I.hok a _ ea)
    exact PySem.W.kia_one PySem.W.kitx_dict I.kIn ⟨o, h1, h2.1⟩ e (fun z => nomatch z) h
  | @ins a C dx fs ea cl ha hn htk hm =>
    cases (show u = Value.ref a from rx)
    obtain ⟨mA, O, _⟩ := ins_get I.hok ea
    obtain ⟨od, J, _⟩ := O.look
    exact PySem.W.kia_one (PySem.W.kitx_own (cl.get _) cl.hd ha hn htk hm) I.kIn J e (fun z => nomatch z) h
end
end L2
namespace L2
open PySem PySem.Spec PyProof.Rows
structure Room (k : Nat) (A : Around) : Prop where
  hd : A.handled = none
  dp : A.depth + 3 * k + 5 < recursionLimit
  un : A.units + 16 * k + 200 < cLine
theorem Room.mono {j k : Nat} {A : Around} (r : Room k A) (h : j ≤ k) : Room j A := ⟨r.hd, by have := r.dp; omega, by have := r.un; omega⟩
theorem Room.deeper {k : Nat} {A : Around} (r : Room (k + 1) A) (env : Env) : Room k (A.deeper env) :=
  ⟨r.hd, by have := r.dp; show A.depth + 1 + 3 * k + 5 < _; omega, by have := r.un; show A.units + 3 + 16 * k + 200 < _; omega⟩
theorem make_depth {A : Around} {C : Addr} {us : List Value} {kw : List (Str × Value)} : (A.under (.builtin "type.__call__" ⟨.ref C :: us, kw⟩)).depth = A.depth + 1 := by
  first | rfl | simp [Around.under, Code.weight, Code.isCreation, Code.isGuard, Code.isCaller, Code.frames, Code.isFrame, guardIds]
theorem make_units {A : Around} {C : Addr} {us : List Value} {kw : List (Str × Value)} : (A.under (.builtin "type.__call__" ⟨.ref C :: us, kw⟩)).units = A.units + 1 := by
  first | rfl | simp [Around.under, Code.cUnits, Code.frames, Code.isFrame]
theorem Room.make {k : Nat} {A : Around} (r : Room (k + 1) A) (C : Addr) (us : List Value) (kw : List (Str × Value)) : Room k (A.under (.builtin "type.__call__" ⟨.ref C :: us, kw⟩)) :=
  ⟨r.hd, by have := r.dp; rw [make_depth]; omega, by have := r.un; rw [make_units]; omega⟩
theorem Room.depth {k : Nat} {A : Around} (r : Room k A) : A.depth < recursionLimit := by have := r.dp; omega
theorem Room.units {k : Nat} {A : Around} (r : Room k A) : A.units + 64 < cLine := by have := r.un; omega
noncomputable def tNil : TA := fun _ H Q => Q [] H
noncomputable def tCons (ta : TE) (tr : TA) : TA := fun σ H Q => ta σ H fun x H1 => tr σ H1 fun xs H2 => Q (x :: xs) H2
section
variable {X : Cx} {e : Expr} {es : List Expr} {te : TE} {t : TA} {pos : Pos}
theorem pa_nil : PA X [] tNil := fun _ _ _ _ H Q I h => Calls.spliced_nil ⟨[], H, I, .nil, h⟩
theorem pa_cons (ha : PE X e te) (hr : PA X es t) (hs : starEach (e :: es) X.env = (false, eval e X.env) :: starEach es X.env := by rfl) : PA X (e :: es) (tCons te t) := by
  intro pos pins s σ H Q I h
  rw [hs]
  show wpAny _ _ (spliced ((false, eval e X.env) :: backTo pos (starEach es X.env))) _ _ s
  refine Calls.spliced_cons (thn (ha pins s σ H _ I h) fun u s1 ⟨x, H1, I1, r1, q1⟩ => ?_)
  exact thn (hr pos pins s1 σ H1 _ I1 q1) fun us s2 ⟨xs, H2, I2, r2, q2⟩ => ⟨x :: xs, H2, I2, .cons r1 r2, q2⟩
noncomputable def tTup (t : TA) : TE := fun σ H Q => t σ H fun xs H1 => xs.length ≤ sizeLine ∧ ∀ p, H1 p = none → Q (.ref p) (upd H1 p (.tup xs))
noncomputable def tLst (t : TA) : TE := fun σ H Q => t σ H fun xs H1 => xs.length ≤ sizeLine ∧ ∀ p, H1 p = none → Q (.ref p) (upd H1 p (.lst xs))
theorem pe_tup {x1} (h : PA X es t) : PE X (.Tuple es x1 pos) (tTup t) := by
  intro pins s σ H Q I hq
  refine wpAny_Tuple_spliced (thn (h pos pins s σ H _ I hq) fun us s1 ⟨xs, H1, I1, r, z, q⟩ => ⟨by rw [← r.length]; exact z, ?_⟩)
  have hf : H1 s1.heap.objs.size = none := I1.hok.fresh (Nat.le_refl _)
  refine ⟨.ref s1.heap.objs.size, upd H1 s1.heap.objs.size (.tup xs), I1.laid (t' := s1.toks) (fun b u e => Heap.get?_push_of_some _ e) (Nat.le_refl _) ?_, rfl, q _ hf⟩
  exact ⟨z, us, r, ⟨_, Heap.get?_push_size _ rfl, rfl, _, rfl⟩⟩
theorem pe_lst (h : PA X es t) : PE X (.List es pos) (tLst t) := by
  intro pins s σ H Q I hq
  refine wpAny_List_spliced (thn (h pos pins s σ H _ I hq) fun us s1 ⟨xs, H1, I1, r, z, q⟩ => ⟨by rw [← r.length]; exact z, ?_⟩)
  have hf : H1 s1.heap.objs.size = none := I1.hok.fresh (Nat.le_refl _)
  refine ⟨.ref s1.heap.objs.size, upd H1 s1.heap.objs.size (.lst xs), I1.laid (t' := s1.toks) (fun b u e => Heap.get?_push_of_some _ e) (Nat.le_refl _) ?_, rfl, q _ hf⟩
  exact ⟨z, us, 0, r, Heap.get?_push_size _ rfl⟩
end
noncomputable abbrev Sp := List V → Hp → VK → XK → Prop
noncomputable abbrev CXT := List Env → Hp → Shared → XK → Value → Shared → Prop
structure Env0 (P : Program) (w : World) (K : PySem.W.Frag) (mg : Str → Option Value) (base : Heap) (A : Around) (outer : List Env) (s : Shared) (H : Hp) : Prop where
  frames : A.frames = some outer
  mod : Mod K mg base
  bs : ∀ b o, base.get? b = some o → s.heap.get? b = some o ∧ H b = none
  bsz : base.objs.size ≤ s.heap.objs.size
  funs : s.heap.FunFrames base outer
  frf : ∀ b ∈ frs outer, H b = none
  hok : HOk P w H s.heap
  bare : AllBare s.gens
noncomputable def CE (outer : List Env) (P : Program) (w : World) (H : Hp) (s : Shared) (Q : VK) (u : Value) (s' : Shared) : Prop :=
  ∃ v H', s'.os = s.os ∧ AllBare s'.gens ∧ Un (frs outer) [] H H' s.heap s'.heap ∧ HOk P w H' s'.heap ∧ RelV v u ∧ Q v H'
noncomputable def CR (CX : CXT) (outer : List Env) (P : Program) (w : World) (H : Hp) (s : Shared) (Q : VK) (E : XK) (r : Result) (s' : Shared) : Prop :=
  match r with
  | .ok (.ret u) => CE outer P w H s Q u s'
  | .ok _ => False
  | .error e => CX outer H s E e s'
structure FnOk (P : Program) (w : World) (K : PySem.W.Frag) (mg : Str → Option Value) (base : Heap) (CX : CXT) (k : Nat) (f : Addr) (fd : FuncData) (ps : List Str) (sp : Sp) : Prop where
  len : ∀ vs H Q E, sp vs H Q E → vs.length = ps.length
  run : ∀ (A : Around) (outer : List Env) (s : Shared) (H : Hp) (args : Args) (us : List Value) (vs : List V) (Q : VK) (E : XK), Room k A → Env0 P w K mg base A outer s H → BindsTo s fd args (ps.zip us) → Vals vs us → sp vs H Q E →
    codeAny (model P w) A (.call (.ref f) args) (CR CX outer P w H s Q E) s
section
variable {X : Cx} {pins : List (Addr × Obj)} {σ : St} {H : Hp} {s s' : Shared}
theorem Inv.env0 (I : Inv X pins σ H s) : Env0 X.prog X.w X.K X.mg X.base X.A X.stack s H :=
  ⟨I.ok.frames, I.ok.mod, I.bs, Nat.le_trans I.ok.bsz I.sz, I.stack, I.stkFree, I.hok, I.bare⟩
theorem Inv.after {Q : VK} {u : Value} (I : Inv X pins σ H s) (h : CE X.stack X.prog X.w H s Q u s') : EP X pins σ Q u s' := by
  obtain ⟨v, H', os, bare, un, hok, r, q⟩ := h
  obtain ⟨hh, g, d, t, os'⟩ := s'
  obtain rfl : os' = s.os := os
  exact ⟨v, H', I.call (h' := hh) (g' := g) (d' := d) (t' := t) (ch := []) un hok bare (fun b z => absurd z (by simp)), r, q⟩
end
noncomputable def tCall (sp : Sp) (dvs : List V) (E : XK) (t : TA) : TE := fun σ H Q => t σ H fun vs H1 => sp (vs ++ dvs) H1 Q E
noncomputable def Binds (K : PySem.W.Frag) (fd : FuncData) (ps : List Str) (ds : List Value) : Prop :=
  ∀ (s : Shared) (us : List Value), K.In s.heap → (us ++ ds).length = ps.length → BindsTo s fd ⟨us, []⟩ (ps.zip (us ++ ds))
theorem Binds.all {K : PySem.W.Frag} {fd : FuncData} {ps : List Str} (h : ∀ us : List Value, us.length = ps.length → bindArgs fd ⟨us, []⟩ = pure (ps.zip us)) : Binds K fd ps [] := fun s us _ hl => by
  rw [List.append_nil] at hl ⊢
  exact .of_eq (h us hl)
noncomputable def Passes (CX : CXT) (X : Cx) (E : XK) : Prop := ∀ (pins : List (Addr × Obj)) (σ : St) (H : Hp) (s : Shared) (e : Value) (s' : Shared), Inv X pins σ H s → CX X.stack H s E e s' → X.xe e s'
section
variable {X : Cx} {CX : CXT} {k : Nat} {f C : Addr} {fd : FuncData} {ps : List Str} {sp : Sp} {dvs : List V} {ds : List Value} {E : XK} {x m : Str} {p pos apos : Pos} {e o : Expr} {es : List Expr} {ta : TE} {t : TA}
theorem run_fn {pins : List (Addr × Obj)} {σ : St} {H : Hp} {s : Shared} {Q : VK} {us : List Value} {vs : List V} (F : FnOk X.prog X.w X.K X.mg X.base CX k f fd ps sp) (hr : Room k X.A) (hb : Binds X.K fd ps ds) (hd : Vals dvs ds) (hx : Passes CX X E)
    (I : Inv X pins σ H s) (r : Vals vs us) (h : sp (vs ++ dvs) H Q E) : wpAny (model X.prog X.w) X.A (call (.ref f) us) (EP X pins σ Q) X.xe s := by
  have r2 : Vals (vs ++ dvs) (us ++ ds) := r.append hd
  have hl : (us ++ ds).length = ps.length := by rw [← r2.length]; exact F.len _ _ _ _ h
  refine wpAny_call (codeAny_mono (F.run X.A X.stack s H ⟨us, []⟩ (us ++ ds) (vs ++ dvs) Q E hr I.env0 (hb s us I.kIn hl) r2 h) fun r s' hq => ?_)
  cases r with
  | error e => exact hx pins σ H s e s' I hq
  | ok fl =>
    cases fl with
    | ret u => exact I.after hq
    | next => exact False.elim hq
    | brk => exact False.elim hq
    | cont => exact False.elim hq
theorem pe_call (F : FnOk X.prog X.w X.K X.mg X.base CX k f fd ps sp) (hr : Room k X.A) (hg : Gl X x) (hm : X.mg x = some (.ref f)) (hk : PySem.W.keepIn X.K (.ref f) = true) (hb : Binds X.K fd ps ds) (hd : Vals dvs ds) (hx : Passes CX X E)
    (ha : PA X (e :: es) t) (hdb : (x == ("__debug__" : Str)) = false := by decide) (he : starEach (e :: es) X.env = (false, eval e X.env) :: starEach es X.env := by rfl) (hpl : (backTo pos (starEach es X.env)).any (·.1) = false := by rfl) :
    PE X (.Call (.Name x p) (e :: es) [] pos) (tCall sp dvs E t) := by
  intro pins s σ H Q I h
  refine wpAny_Call_Name_kw (ld_glob I hg hm ?_ hdb)
  refine PySem.W.callWith_K (h₀ := X.base) I.ok.mod.kin hk (thn (ha pos pins s σ H _ I h) fun us s1 ⟨vs, H1, I1, r, q⟩ => ⟨I1.kIn, ?_⟩) he hpl
  exact run_fn F hr hb hd hx I1 r q
end
section
variable {X : Cx} {CX : CXT} {k : Nat} {f C : Addr} {fd : FuncData} {ps ks : List Str} {sp : Sp} {E : XK} {x m : Str} {p pos apos kpos : Pos} {e o : Expr} {es : List Expr} {kws : List Keyword} {te ta : TE} {t tk : TA} {nm : Option Str}
variable {g : List Value → List Value → List Value} {gV : List V → List V → List V}
end
structure FnScope (N P : List Str) (sc : Scope) : Prop where
  kind : sc.kind = .function
  co : sc.isCoroutine = false
  gen : sc.isGenerator = false
  nd : N.Nodup
  pre : N.take P.length = P
  par : ∀ x ∈ P, sc.names.lookup x = some .local ∨ sc.names.lookup x = some .cell
  nofree : ∀ y ∈ sc.names, y.2 ≠ .free
theorem bindL_out {kindOf : Str → Option NameKind} {x : Str} : ∀ {binds : List (Str × Value)} {m : Str → Option Value}, (∀ v, (x, v) ∉ binds) → bindL kindOf binds m x = m x
  | [], _, _ => rfl
  | (n, v) :: r, m, h => by
    unfold bindL
    rw [bindL_out fun w hw => h w (List.mem_cons_of_mem _ hw)]
    split
    · have : x ≠ n := by rintro rfl; exact h v List.mem_cons_self
      simp [this]
    · rfl
theorem bindC_out {kindOf : Str → Option NameKind} {x : Str} : ∀ {binds : List (Str × Value)} {m : Str → Option Value}, (∀ v, (x, v) ∉ binds) → bindC kindOf binds m x = m x
  | [], _, _ => rfl
  | (n, v) :: r, m, h => by
    unfold bindC
    rw [bindC_out fun w hw => h w (List.mem_cons_of_mem _ hw)]
    split
    · rfl
    · have : x ≠ n := by rintro rfl; exact h v List.mem_cons_self
      simp [this]
theorem bindL_get {kindOf : Str → Option NameKind} {x : Str} {v : Value} : ∀ {P : List Str} {vs : List Value} {i : Nat} {m : Str → Option Value}, P.Nodup → P[i]? = some x → vs[i]? = some v → kindOf x = some .local →
    bindL kindOf (P.zip vs) m x = some v
  | [], _, _, _, _, h, _, _ => by simp at h
  | _ :: _, [], _, _, _, _, h, _ => by simp at h
  | p :: P, w :: vs, 0, m, nd, h1, h2, hk => by
    simp at h1 h2; subst h1; subst h2
    show bindL kindOf ((p, w) :: P.zip vs) m p = _
    unfold bindL
    rw [bindL_out fun v hv => (List.nodup_cons.mp nd).1 (List.of_mem_zip hv).1, if_pos hk]
    simp
  | p :: P, w :: vs, i + 1, m, nd, h1, h2, hk => by
    show bindL kindOf ((p, w) :: P.zip vs) m x = _
    unfold bindL
    exact bindL_get (i := i) (List.nodup_cons.mp nd).2 (by simpa using h1) (by simpa using h2) hk
theorem bindC_get {kindOf : Str → Option NameKind} {x : Str} {v : Value} : ∀ {P : List Str} {vs : List Value} {i : Nat} {m : Str → Option Value}, P.Nodup → P[i]? = some x → vs[i]? = some v → kindOf x ≠ some .local →
    bindC kindOf (P.zip vs) m x = some v
  | [], _, _, _, _, h, _, _ => by simp at h
  | _ :: _, [], _, _, _, _, h, _ => by simp at h
  | p :: P, w :: vs, 0, m, nd, h1, h2, hk => by
    simp at h1 h2; subst h1; subst h2
    show bindC kindOf ((p, w) :: P.zip vs) m p = _
    unfold bindC
    rw [bindC_out fun v hv => (List.nodup_cons.mp nd).1 (List.of_mem_zip hv).1, if_neg hk]
    simp
  | p :: P, w :: vs, i + 1, m, nd, h1, h2, hk => by
    show bindC kindOf ((p, w) :: P.zip vs) m x = _
    unfold bindC
    exact bindC_get (i := i) (List.nodup_cons.mp nd).2 (by simpa using h1) (by simpa using h2) hk
noncomputable def start (N : List Str) (vs : List V) : St := vs.map some ++ List.replicate (N.length - vs.length) none
noncomputable def cxOf (CX : CXT) (P : Program) (w : World) (K : PySem.W.Frag) (mg : Str → Option Value) (base : Heap) (N : List Str) (qual : Str) (scope : Scope) (f : Addr) (cd : Value) (A : Around) (outer : List Env) (s : Shared) (H : Hp) (E : XK) : Cx where
  prog := P
  w := w
  K := K
  mg := mg
  base := base
  A := A.deeper (envOfC qual scope s.heap.objs.size f cd)
  N := N
  s₀ := s
  H₀ := H
  env := envOfC qual scope s.heap.objs.size f cd
  outer := outer
  stack := envOfC qual scope s.heap.objs.size f cd :: outer
  ex := []
  calm := true
  fn := fun _ => true
  pn := []
  xe := fun e s' => wpAny (model P w) (A.deeper (envOfC qual scope s.heap.objs.size f cd)) (leaving (envOfC qual scope s.heap.objs.size f cd) e) (fun _ s'' => CX outer H s E e s'') (fun e' s'' => CX outer H s E e' s'') s'
theorem cell_has {sc : Scope} {n : Nat} {x : Str} (h : sc.names.lookup x = some .cell) : ∃ c, (cellsFrom n sc.names []).lookup x = some c := by
  have q := PySem.W.cellsFrom_some sc.names n [] (.inl h)
  exact Option.isSome_iff_exists.mp q
theorem inv_start {CX : CXT} {P : Program} {w : World} {K : PySem.W.Frag} {mg : Str → Option Value} {base : Heap} {N ps : List Str} {qual : Str} {scope : Scope} {f : Addr} {cd : Value} {A : Around} {outer : List Env} {s s1 : Shared} {H : Hp} {E : XK} {us : List Value} {vs : List V}
    (S : FnScope N ps scope) (hd : A.handled = none) (e0 : Env0 P w K mg base A outer s H) (hl : vs.length = ps.length) (r : Vals vs us)
    (x : InCallC s s.heap.objs.size (bindL (envOfC qual scope s.heap.objs.size f cd).kindOf (ps.zip us) fun _ => none) (cellsFrom (s.heap.objs.size + 1) scope.names []) (bindC (envOfC qual scope s.heap.objs.size f cd).kindOf (ps.zip us) fun _ => none) s1) :
    Inv (cxOf CX P w K mg base N qual scope f cd A outer s H E) [] (start N vs) H s1 := by
  have hpl : ps.length ≤ N.length := by have := congrArg List.length S.pre; rw [List.length_take] at this; omega
  obtain ⟨h1, tk, rfl, hk⟩ := x.done
  have noA : ∀ b : Addr, b ∉ (cxOf CX P w K mg base N qual scope f cd A outer s H E).ex := fun b z => absurd (show b ∈ ([] : List Addr) from z) (by simp)
  refine ⟨⟨e0.mod, S.kind, rfl, rfl, Nat.le_refl _, fun y z c h1 h2 => ?_, fun y hy => ?_, fun y c _ h => ?_, fun _ => hd, Around.frames_deeper e0.frames, .inr ⟨rfl, rfl⟩, fun b z => absurd z (noA b), e0.bs, e0.bsz, fun b _ _ => noA b, fun b z => absurd z (noA b), e0.funs, e0.frf⟩,
    rfl, e0.bare, Un.kept hk, ⟨_, x.toInCall.ns, fun i y v h1 h2 h3 => ?_⟩, fun y c h => ⟨_, x.cell y c h⟩, e0.hok.fresh (Nat.le_refl _), fun y c h => ?_, fun p hp => absurd (show p ∈ ([] : List (Addr × Obj)) from hp) (by simp), e0.hok.kept hk, ?_⟩
  · exact name_of_addr x.apart (PySem.mem_of_lookup h1) (PySem.mem_of_lookup h2)
  · have hy : scope.names.lookup y = some .cell ∨ scope.names.lookup y = some .free := hy
    rcases hy with hy | hy
    · exact cell_has hy
    · exact absurd rfl (S.nofree _ (PySem.mem_of_lookup hy))
  · exact Nat.le_of_lt (x.above y c (PySem.mem_of_lookup h))
  · have hi : i < vs.length := by
      unfold start at h2
      by_cases hi : i < vs.length
      · exact hi
      · rw [List.getElem?_append_right (by simpa using hi)] at h2
        rw [List.getElem?_replicate] at h2
        split at h2 <;> cases h2
    have ha : vs[i]? = some v := by
      unfold start at h2
      rw [List.getElem?_append_left (by simpa using hi), List.getElem?_map] at h2
      cases e : vs[i]? with
      | none => rw [e] at h2; cases h2
      | some a => rw [e] at h2; cases h2; rfl
    obtain ⟨u, hu, rv⟩ := r.get ha
    have hp : ps[i]? = some y := by
      rw [← S.pre, List.getElem?_take_of_lt (by omega)]; exact h1
    have ndP : ps.Nodup := by rw [← S.pre]; exact S.nd.sublist (List.take_sublist _ _)
    refine ⟨u, rv, ?_⟩
    rcases S.par y (List.mem_of_getElem? hp) with k | k
    · exact .inl ⟨k, bindL_get ndP hp hu k⟩
    · obtain ⟨c, e⟩ := cell_has (n := s.heap.objs.size + 1) k
      refine .inr ⟨.inl k, c, e, ?_⟩
      have q := x.cell y c e
      rw [bindC_get ndP hp hu (by show scope.names.lookup y ≠ _; rw [k]; decide)] at q
      exact q
  · exact e0.hok.fresh (Nat.le_of_lt (x.above y c (PySem.mem_of_lookup h)))
  · unfold start
    show _ = N.length
    rw [List.length_append, List.length_map, List.length_replicate]
    omega
theorem fn_of {CX : CXT} {P : Program} {w : World} {K : PySem.W.Frag} {mg : Str → Option Value} {base : Heap} {k : Nat} {f : Addr} {name qual : Str} {params : Arguments} {body : List Stmt} {scope : Scope} {dV kV doc pm cdv ct oc : Value} {an od : Option Addr}
    {osl : Array (Option Value)} {N ps : List Str} {sp : Sp} (lk : K.lookup f = some ⟨oc, od, .func (PySem.W.fnOf name qual params body scope dV kV doc pm an cdv ct), osl⟩) (hcd : PySem.W.codeIn K cdv qual = true) (S : FnScope N ps scope)
    (len : ∀ vs H Q E, sp vs H Q E → vs.length = ps.length)
    (hbody : ∀ (A : Around) (outer : List Env) (s : Shared) (H : Hp) (vs : List V) (Q : VK) (E : XK), Room k (A.deeper (envOfC qual scope s.heap.objs.size f cdv)) → sp vs H Q E →
      ∃ t, PSs (cxOf CX P w K mg base N qual scope f cdv A outer s H E) body t ∧ t { nx := fun _ H' => Q .non H', rt := Q } (start N vs) H) :
    FnOk P w K mg base CX (k + 1) f (PySem.W.fnOf name qual params body scope dV kV doc pm an cdv ct) ps sp := by
  refine ⟨len, fun A outer s H args us vs Q E hr e0 hb r hsp => ?_⟩
  have hl := len _ _ _ _ hsp
  have KX : K.In s.heap := e0.mod.kin.keeps fun b o e => (e0.bs b o e).1
  have lim : s.heap.NoLimit := e0.mod.nolimit.keeps fun b o e => (e0.bs b o e).1
  have hkind : ∀ y ∈ ps.zip us, scope.names.lookup y.1 = some .local ∨ (scope.names.lookup y.1 = some .cell ∧ ((cellsFrom (s.heap.objs.size + 1) scope.names []).lookup y.1).isSome = true) := fun ⟨n, v⟩ hy => by
    rcases S.par n (List.of_mem_zip hy).1 with q | q
    · exact .inl q
    · exact .inr ⟨q, PySem.W.cellsFrom_some _ _ _ (.inl q)⟩
  refine codeAny_call_function hr.depth (KX _ _ lk) rfl S.co S.gen rfl (PySem.W.codeRec_of KX hcd) (hb _ _ _ _ ?_)
  refine wpAny_newFunctionEnv_cells S.kind hkind fun env he s1 x => ?_
  subst he
  refine ⟨lim.keeps x.toInCall.keep, codeAny_func ?_⟩
  obtain ⟨t, ht, hq⟩ := hbody A outer s H vs Q E (hr.deeper _) hsp
  have I : Inv (cxOf CX P w K mg base N qual scope f cdv A outer s H E) [] (start N vs) H s1 := inv_start S hr.hd e0 hl r x
  refine wpAny_mono (ht [] s1 (start N vs) H _ I hq) (fun fl s' hs => ?_) fun e s' hs => hs
  have fin : ∀ {σ' : St} {H' : Hp} {v : V} {u : Value}, Inv (cxOf CX P w K mg base N qual scope f cdv A outer s H E) [] σ' H' s' → RelV v u → Q v H' → CE outer P w H s Q u s' :=
    fun {σ' H' v u} J rv q => ⟨v, H', J.os, J.bare, J.base, J.hok, rv, q⟩
  cases fl with
  | ret u =>
    obtain ⟨v, σ', H', J, rv, q⟩ := hs
    exact fin J rv q
  | next =>
    obtain ⟨σ', H', J, q⟩ := hs
    exact fin (v := V.non) (u := Value.none) J rfl q
  | brk =>
    obtain ⟨_, _, _, q⟩ := hs
    exact False.elim q
  | cont =>
    obtain ⟨_, _, _, q⟩ := hs
    exact False.elim q
end L2
namespace L2
open PySem PySem.Spec PyProof.Rows
section
variable {X : Cx} {x : Str} {p pos : Pos} {e : Expr} {es : List Expr} {t : TA} {id T : String} {r : List V → Hp → VK → Prop}
noncomputable def tCB (r : List V → Hp → VK → Prop) (t : TA) : TE := fun σ H Q => t σ H fun vs H1 => r vs H1 Q
theorem pe_callB (hc : CallR X (.builtin id) r) (hg : Gl X x) (hm : X.mg x = none) (hv : bootBuiltins x = some (.builtin id)) (ha : PA X (e :: es) t) (hn : x ≠ "__name__" := by decide) (hdb : (x == ("__debug__" : Str)) = false := by decide)
    (he : starEach (e :: es) X.env = (false, eval e X.env) :: starEach es X.env := by rfl) (hpl : (backTo pos (starEach es X.env)).any (·.1) = false := by rfl) : PE X (.Call (.Name x p) (e :: es) [] pos) (tCB r t) := by
  intro pins s σ H Q I h
  refine wpAny_Call_Name_kw (ld_blt I hg hm hv ?_ hn hdb)
  exact PyProof.Rows.callWith_builtin1 (thn (ha pos pins s σ H _ I h) fun us s1 ⟨vs, H1, I1, r1, q1⟩ => hc pins s1 σ H1 vs us Q I1 r1 q1) he hpl
theorem pe_callTy (hc : CallR X (.type T) r) (hg : Gl X x) (hm : X.mg x = none) (hv : bootBuiltins x = some (.type T)) (ha : PA X (e :: es) t) (hn : x ≠ "__name__" := by decide) (hdb : (x == ("__debug__" : Str)) = false := by decide)
    (he : starEach (e :: es) X.env = (false, eval e X.env) :: starEach es X.env := by rfl) (hpl : (backTo pos (starEach es X.env)).any (·.1) = false := by rfl) : PE X (.Call (.Name x p) (e :: es) [] pos) (tCB r t) := by
  intro pins s σ H Q I h
  refine wpAny_Call_Name_kw (ld_blt I hg hm hv ?_ hn hdb)
  exact PyProof.Rows.callWith_type1 (thn (ha pos pins s σ H _ I h) fun us s1 ⟨vs, H1, I1, r1, q1⟩ => hc pins s1 σ H1 vs us Q I1 r1 q1) he hpl
end
end L2
namespace HT
open PySem PyProof.Rows
section
open PySem.SeqAt
open PySem.AutoSeq1 (wpAny_loadPart')
open PySem.MeetsSeq PySem.MeetsSeq2 PySem.MeetsSeq3
end
section
variable {prog : Program} {w : World} {A : Around} {E : Value → Shared → Prop} {s : Shared}
noncomputable def sIx (n d : Nat) : Option Int → Nat
  | none => d
  | some v => if v < 0 then (v + (n : Int)).toNat else min v.toNat n
theorem sIx_nat (n d k : Nat) : sIx n d (some (k : Int)) = min k n := by
  show (if (k : Int) < 0 then ((k : Int) + (n : Int)).toNat else min (k : Int).toNat n) = min k n
  rw [if_neg (by omega), Int.toNat_natCast]
end
end HT
namespace L2
open PySem PySem.Spec PyProof.Rows
noncomputable abbrev TO := St → Hp → (Option Int → Hp → Prop) → Prop
noncomputable def PO (X : Cx) (e : Option Expr) (t : TO) : Prop :=
  ∀ (pins : List (Addr × Obj)) (s : Shared) (σ : St) (H : Hp) (Q : Option Int → Hp → Prop), Inv X pins σ H s → t σ H Q →
    wpAny (model X.prog X.w) X.A (evalPart e X.env) (fun u s' => ∃ o H', Inv X pins σ H' s' ∧ IsPart u o ∧ Q o H') X.xe s
noncomputable def tPart (t : TE) : TO := fun σ H Q => t σ H fun x H1 => ∃ i, x = .int i ∧ Q (some i) H1
section
variable {X : Cx} {e : Expr} {te : TE} {lo hi : Option Expr} {tl th : TO} {pos p2 : Pos}
theorem po_some (h : PE X e te) : PO X (some e) (tPart te) := by
  intro pins s σ H Q I hw
  rw [evalPart_some]
  refine thn (h pins s σ H _ I hw) fun u s1 ⟨x, H1, I1, r1, q1⟩ => ?_
  obtain ⟨i, rfl, q⟩ := q1
  obtain ⟨t, rfl⟩ := r1
  exact ⟨some i, H1, I1, .int i t, q⟩
noncomputable def SlR (X : Cx) (r : V → Option Int → Option Int → Hp → VK → Prop) : Prop :=
  ∀ (pins : List (Addr × Obj)) (s : Shared) (σ : St) (H : Hp) (x : V) (v vl vu : Value) (lo hi : Option Int) (sl : Addr) (Q : VK), Inv X pins σ H s → RelV x v → s.heap.IsSliceOf sl vl vu .none → IsPart vl lo → IsPart vu hi → r x lo hi H Q →
    ∃ T id, typeLookup (.type T) "__getitem__" = pure (some (.builtin id)) ∧ s.TypeIs v T ∧ wpAny (model X.prog X.w) X.A (getItem v (.ref sl)) (EP X pins σ Q) X.xe s
noncomputable def tSl (r : V → Option Int → Option Int → Hp → VK → Prop) (te : TE) (tl th : TO) : TE := fun σ H Q => te σ H fun x H1 => tl σ H1 fun l H2 => th σ H2 fun u H3 => r x l u H3 Q
theorem pe_slice {r : V → Option Int → Option Int → Hp → VK → Prop} (hr : SlR X r) (he : PE X e te) (hl : PO X lo tl) (hu : PO X hi th) : PE X (.Subscript e (.Slice lo hi none p2) pos) (tSl r te tl th) := by
  intro pins s σ H Q I h
  refine Subscript_ (thn (he pins s σ H _ I h) fun v s1 ⟨x, H1, I1, r1, q1⟩ => ?_)
  refine wpAny_Slice (thn (hl pins s1 σ H1 _ I1 q1) fun vl s2 ⟨l, H2, I2, pl, q2⟩ => thn (hu pins s2 σ H2 _ I2 q2) fun vu s3 ⟨u, H3, I3, pu, q3⟩ => ?_)
  rw [evalPart_none]
  refine wpAny_pure ?_
  have I4 : Inv X pins σ H3 { s3 with heap := s3.heap.push { cls := .type "slice", data := .fields #[vl, vu, .none] } } := I3.kept (t' := s3.toks) fun b ob q => Heap.get?_push_of_some _ q
  obtain ⟨T, id, hT, ht, hg⟩ := hr pins { s3 with heap := s3.heap.push { cls := .type "slice", data := .fields #[vl, vu, .none] } } σ H3 x v vl vu l u s3.heap.objs.size Q I4 r1 (Heap.IsSliceOf.new ..) pl pu q3
  show wpAny (model X.prog X.w) X.A (subscriptTail e (.Slice lo hi none p2) v (.ref s3.heap.objs.size)) (EP X pins σ Q) X.xe { s3 with heap := s3.heap.push { cls := .type "slice", data := .fields #[vl, vu, .none] } }
  exact tail_any (ops := [.ref s3.heap.objs.size, v]) ht hT hg (by with_unfolding_all rfl)
noncomputable def cutV (xs : List V) (lo hi : Option Int) : List V := (xs.drop (HT.sIx xs.length 0 lo)).take (HT.sIx xs.length xs.length hi - HT.sIx xs.length 0 lo)
theorem cutV_length (xs : List V) (lo hi : Option Int) : (cutV xs lo hi).length ≤ xs.length := by
  unfold cutV
  rw [List.length_take, List.length_drop]
  omega
end
end L2
namespace L2
open PySem PySem.Spec PyProof.Rows
noncomputable def ixN (n : Nat) (i : Int) : Option Nat := if 0 ≤ i then (if i < n then some i.toNat else none) else if -(n : Int) ≤ i then some (i + n).toNat else none
noncomputable def atI {α : Type} (xs : List α) (i : Int) : Option α := (ixN xs.length i).bind fun j => xs[j]?
theorem ixN_seq {n : Nat} {i : Int} {j : Nat} (h : ixN n i = some j) : seqIndex? i n = some j ∧ j < n ∧ -(n : Int) ≤ i ∧ i < n := by
  unfold ixN at h
  by_cases h0 : 0 ≤ i
  · rw [if_pos h0] at h
    by_cases h1 : i < n
    · rw [if_pos h1] at h
      have e : i.toNat = j := Option.some.inj h
      exact ⟨by rw [seqIndex_of h0 h1, e], by omega, by omega, h1⟩
    · rw [if_neg h1] at h; cases h
  · rw [if_neg h0] at h
    by_cases h1 : -(n : Int) ≤ i
    · rw [if_pos h1] at h
      have e : (i + n).toNat = j := Option.some.inj h
      exact ⟨by rw [seqIndex_neg (by omega) h1, e], by omega, h1, by omega⟩
    · rw [if_neg h1] at h; cases h
theorem atI_get {α : Type} {xs : List α} {i : Int} {v : α} (h : atI xs i = some v) : ∃ j, seqIndex? i xs.length = some j ∧ xs[j]? = some v ∧ j < xs.length ∧ -(xs.length : Int) ≤ i ∧ i < xs.length := by
  unfold atI at h
  cases e : ixN xs.length i with
  | none => rw [e] at h; cases h
  | some j =>
    rw [e] at h
    obtain ⟨h1, h2, h3, h4⟩ := ixN_seq e
    exact ⟨j, h1, h, h2, h3, h4⟩
theorem atI_nat {α : Type} {xs : List α} {j : Nat} {v : α} (h : xs[j]? = some v) : atI xs (j : Int) = some v := by
  have hj : j < xs.length := (List.getElem?_eq_some_iff.mp h).1
  have e : ixN xs.length (j : Int) = some j := by
    unfold ixN
    rw [if_pos (by omega), if_pos (by omega)]; simp
  unfold atI; rw [e]; exact h
theorem atI_last {α : Type} (xs : List α) (v : α) : atI (xs ++ [v]) (-1) = some v := by
  have hl : (xs ++ [v]).length = xs.length + 1 := by simp
  have e : ixN (xs ++ [v]).length (-1) = some xs.length := by
    unfold ixN
    rw [hl, if_neg (by decide), if_pos (by omega)]
    congr 1
    omega
  unfold atI
  rw [e]
  show (xs ++ [v])[xs.length]? = some v
  simp
noncomputable def PlainIx (b : Expr) : Prop := ∀ o i, subscripted b false o i = operate [o, i] (getItem o i)
noncomputable def IxR (X : Cx) (r : R2) : Prop :=
  ∀ (value slice : Expr) (pins : List (Addr × Obj)) (s : Shared) (σ : St) (H : Hp) (x y : V) (v u : Value) (Q : VK), Inv X pins σ H s → RelV x v → RelV y u → r x y H Q →
    subscripted slice false v u = operate [v, u] (getItem v u) → wpAny (model X.prog X.w) X.A (subscriptTail value slice v u) (EP X pins σ Q) X.xe s
noncomputable def MtR (X : Cx) (id : String) (r : V → List V → Hp → VK → Prop) : Prop :=
  ∀ (pins : List (Addr × Obj)) (s : Shared) (σ : St) (H : Hp) (x : V) (xs : List V) (v : Value) (us : List Value) (Q : VK), Inv X pins σ H s → RelV x v → Vals xs us → r x xs H Q →
    wpAny (model X.prog X.w) X.A (call (.builtin id) (v :: us)) (EP X pins σ Q) X.xe s
section
variable {X : Cx} {a b : Expr} {ta tb : TE} {pos : Pos}
theorem pe_ix {r : R2} (hr : IxR X r) (ha : PE X a ta) (hb : PE X b tb) (hs : PlainIx b) : PE X (.Subscript a b pos) (tOp r ta tb) := by
  intro pins s σ H Q I h
  exact Subscript_ (binT ha hb I h fun v u s2 x y H2 I2 rx ry q => hr a b pins s2 σ H2 x y v u Q I2 rx ry q (hs _ _))
noncomputable def rIxL (K : PySem.W.Frag) : R2 := fun x y H Q => ∃ p xs i v, x = .ref p ∧ y = .int i ∧ SqL K H p xs ∧ atI xs i = some v ∧ Q v H
noncomputable def rIxT (K : PySem.W.Frag) : R2 := fun x y H Q => ∃ p xs i v, x = .ref p ∧ y = .int i ∧ SqT K H p xs ∧ atI xs i = some v ∧ Q v H
noncomputable def rIxS : R2 := fun x y H Q => ∃ z i c, x = .str z ∧ y = .int i ∧ z.length ≤ sizeLine ∧ atI z.cps.toList i = some c ∧ Q (.str ⟨#[c]⟩) H
theorem ix_list : IxR X (rIxL X.K) := by
  intro value slice pins s σ H x y v u Q I rx ry h hs
  obtain ⟨p, xs, i, z, rfl, rfl, hq, he, q⟩ := h
  cases rx
  obtain ⟨t, rfl⟩ := ry
  obtain ⟨its, r, pl, hz⟩ := I.list hq
  obtain ⟨j, h1, h2, h3, h4, h5⟩ := atI_get he
  obtain ⟨w, ew, rw'⟩ := r.get h2
  have hl := r.length
  have hn := line63
  have fin : EP X pins σ Q w s := ⟨z, H, I, rw', q⟩
  by_cases h0 : 0 ≤ i
  · have hj : i.toNat = j := by
      rw [seqIndex_of h0 h5] at h1
      exact Option.some.inj h1
    exact item_listR pl.isList h0 (by omega) (by rw [hj]; simpa using ew) fin hs
  · have hj : (i + (its.toArray.size : Int)).toNat = j := by
      rw [seqIndex_neg (by omega) h4] at h1
      rw [List.size_toArray, ← hl]
      exact Option.some.inj h1
    exact subscriptTail_builtinR (x := w) pl.isList.typeIs slot_list_getitem.lookup
      (wpAny_getItem_list_neg (Q := fun r s' => r = w ∧ EP X pins σ Q r s') pl.isList (by omega) (by rw [List.size_toArray] <;> omega) (by omega) (by rw [hj]; simpa using ew) ⟨rfl, fin⟩) hs
theorem ix_tup : IxR X (rIxT X.K) := by
  intro value slice pins s σ H x y v u Q I rx ry h hs
  obtain ⟨p, xs, i, z, rfl, rfl, hq, he, q⟩ := h
  cases rx
  obtain ⟨t, rfl⟩ := ry
  obtain ⟨its, r, pl, hz⟩ := I.tuple hq
  obtain ⟨j, h1, h2, h3, h4, h5⟩ := atI_get he
  obtain ⟨w, ew, rw'⟩ := r.get h2
  have hl := r.length
  have hn := line63
  have fin : EP X pins σ Q w s := ⟨z, H, I, rw', q⟩
  exact subscriptTail_builtinR (x := w) pl.typeIs slot_tuple_getitem.lookup
    (getItem_tuple (j := j) (Q := fun r s' => r = w ∧ EP X pins σ Q r s') pl (by omega) (by omega) (by rw [List.size_toArray, ← hl]; exact h1) (by simpa using ew) ⟨rfl, fin⟩) hs
theorem ix_str : IxR X rIxS := by
  intro value slice pins s σ H x y v u Q I rx ry h hs
  obtain ⟨z, i, c, rfl, rfl, hz, he, q⟩ := h
  obtain ⟨t, rfl⟩ := rx
  obtain ⟨t', rfl⟩ := ry
  obtain ⟨j, h1, h2, h3, h4, h5⟩ := atI_get he
  have hl : z.cps.toList.length = z.length := by simp [Str.length]
  rw [hl] at h1 h4 h5
  have hn := line63
  exact tail_any (typeIs_str s z t) slot_str_getitem.lookup (getItem_str (c := c) (by
    have e1 : decide (i < -(2 ^ 63 : Int)) = false := decide_eq_false (by omega)
    have e2 : decide (i ≥ 2 ^ 63) = false := decide_eq_false (by omega)
    rw [e1, e2, Bool.or_false]) (by rw [h1]; simpa using h2) ⟨.str ⟨#[c]⟩, H, I.tok _, ⟨_, rfl⟩, q⟩) hs
theorem mapSeq_set (its : List Value) (n j : Nat) (u : Value) : Obj.mapSeq (·.setIfInBounds j u) { cls := .type "list", data := .seq its.toArray n } = { cls := .type "list", data := .seq (its.set j u).toArray n } := by
  simp [Obj.mapSeq]
theorem Inv.lst {pins : List (Addr × Obj)} {σ : St} {H : Hp} {s : Shared} {p : Addr} {xs : List V} (I : Inv X pins σ H s) (h : H p = some (.lst xs)) :
    ∃ (its : List Value) (n : Nat), Vals xs its ∧ s.heap.get? p = some { cls := .type "list", data := .seq its.toArray n } ∧ xs.length ≤ sizeLine := by
  obtain ⟨z, its, n, r, e⟩ := I.hok p _ h
  exact ⟨its, n, r, e, z⟩
theorem Inv.lstUpd {pins : List (Addr × Obj)} {σ : St} {H : Hp} {s : Shared} {p : Addr} {xs ys : List V} {its its' : List Value} {n n' : Nat} {f : Obj → Obj} (I : Inv X pins σ H s) (h : H p = some (.lst xs))
    (ho : s.heap.get? p = some { cls := .type "list", data := .seq its.toArray n }) (hf : f { cls := .type "list", data := .seq its.toArray n } = { cls := .type "list", data := .seq its'.toArray n' }) (r : Vals ys its') (hz : ys.length ≤ sizeLine) (t : Nat) :
    Inv X pins σ (upd H p (.lst ys)) { s with heap := s.heap.update p f, toks := t } := by
  have e : (s.heap.update p f).get? p = some { cls := .type "list", data := .seq its'.toArray n' } := by
    rw [Heap.get?_update_self f ho (by rw [hf] <;> rfl), hf]
  refine I.write (x := p) (e := p) (by rw [h]; trivial) (.inl rfl) (fun b u hb q => (Heap.get?_update_other _ _ (Ne.symm hb)).trans q) ⟨_, e⟩ ?_
  exact ⟨hz, its', n', r, e⟩
noncomputable def rSetL : V → V → V → Hp → (Hp → Prop) → Prop := fun o i v H Q => ∃ p xs k j, o = .ref p ∧ i = .int k ∧ H p = some (.lst xs) ∧ ixN xs.length k = some j ∧ Q (upd H p (.lst (xs.set j v)))
theorem set_list : PSet X rSetL := by
  intro pins s σ H o i v ov iv u Q I ro ri rv h
  obtain ⟨p, xs, k, j, rfl, rfl, hp, hj, q⟩ := h
  cases ro
  obtain ⟨t, rfl⟩ := ri
  obtain ⟨its, n, r, ho, hz⟩ := I.lst hp
  obtain ⟨h1, h2, h3, h4⟩ := ixN_seq hj
  have hl := r.length
  have hn := line63
  have I' : Inv X pins σ (upd H p (.lst (xs.set j v))) { s with heap := s.heap.update p (Obj.mapSeq (·.setIfInBounds j u)) } :=
    I.lstUpd hp ho (mapSeq_set its n j u) (r.set rv j) (by rw [List.length_set]; exact hz) s.toks
  by_cases h0 : 0 ≤ k
  · have hk : k.toNat = j := by
      rw [seqIndex_of h0 h4] at h1
      exact Option.some.inj h1
    exact PySem.W.ki_setAt ho h0 (by omega) (by rw [List.size_toArray, ← hl]; exact h4) (by rw [hk]; exact ⟨_, I', q⟩)
  · have hk : (k + (its.toArray.size : Int)).toNat = j := by
      rw [seqIndex_neg (by omega) h3] at h1
      rw [List.size_toArray, ← hl]
      exact Option.some.inj h1
    exact PySem.W.ki_setBack ho (by omega) (by rw [List.size_toArray, ← hl]; exact h3) (by omega) (by rw [hk]; exact ⟨_, I', q⟩)
theorem slice_bounds (lo hi : Option Int) (n : Nat) : (sliceBounds lo hi none n).1 = ((HT.sIx n 0 lo : Nat) : Int) ∧ (sliceBounds lo hi none n).2.1 = ((HT.sIx n n hi : Nat) : Int) ∧ (sliceBounds lo hi none n).2.2 = 1 := by
  refine ⟨?_, ?_, rfl⟩
  · cases lo with
    | none => simp [sliceBounds, HT.sIx]
    | some i =>
      simp only [sliceBounds, HT.sIx, Option.getD_none, show (1 : Int) > 0 by decide, if_true]
      by_cases h : i < 0
      · simp only [h, if_true] <;> omega
      · simp only [h, if_false] <;> omega
  · cases hi with
    | none => simp [sliceBounds, HT.sIx]
    | some i =>
      simp only [sliceBounds, HT.sIx, Option.getD_none, show (1 : Int) > 0 by decide, if_true]
      by_cases h : i < 0
      · simp only [h, if_true] <;> omega
      · simp only [h, if_false] <;> omega
theorem slicePick_cut (its : List Value) (lo hi : Option Int) : slicePick its.toArray lo hi none = ((its.drop (HT.sIx its.length 0 lo)).take (HT.sIx its.length its.length hi - HT.sIx its.length 0 lo)).toArray := by
  obtain ⟨h1, h2, h3⟩ := slice_bounds lo hi its.toArray.size
  unfold slicePick
  rw [h1, h2, h3]
  simp only [sliceRange_one, pick_run, List.size_toArray] <;> rfl
noncomputable def rSlL (K : PySem.W.Frag) : V → Option Int → Option Int → Hp → VK → Prop := fun x lo hi H Q => ∃ a xs, x = .ref a ∧ SqL K H a xs ∧ ∀ p, H p = none → Q (.ref p) (upd H p (.lst (cutV xs lo hi)))
theorem sl_list : SlR X (rSlL X.K) := by
  intro pins s σ H x v vl vu lo hi sl Q I rx hs pl pu h
  obtain ⟨a, xs, rfl, hx, q⟩ := h
  cases rx
  obtain ⟨its, r, ht, hz⟩ := I.list hx
  have hlen := r.length
  refine ⟨"list", _, slot_list_getitem.lookup, ht.isList.typeIs, ?_⟩
  refine wpAny_getItem_list_slice ht.isList hs pl pu .none (by simp) ?_ (by rw [List.size_toArray] <;> omega)
  rw [slicePick_cut, ← hlen]
  refine ⟨.ref s.heap.objs.size, _, I.laid (t' := s.toks) (o := .lst (cutV xs lo hi)) (fun b ob q => Heap.get?_push_of_some _ q) (Nat.le_refl _) ?_, rfl, q _ (I.hok.fresh (Nat.le_refl _))⟩
  exact ⟨Nat.le_trans (cutV_length xs lo hi) hz, _, 0, (r.drop (HT.sIx xs.length 0 lo)).take (HT.sIx xs.length xs.length hi - HT.sIx xs.length 0 lo), Heap.get?_push_size _ rfl⟩
theorem call_len_seq : CallR X (.builtin "len") (fun xs H Q => ∃ p ys, xs = [.ref p] ∧ (SqL X.K H p ys ∨ SqT X.K H p ys) ∧ Q (.int ys.length) H) := by
  intro pins s σ H xs us Q I r h
  obtain ⟨p, ys, rfl, hq, q⟩ := h
  obtain ⟨u, rfl, rx⟩ := vals1 r
  cases rx
  have hn := line63
  rcases hq with hq | hq
  · obtain ⟨its, r', pl, hz⟩ := I.list hq
    have hlen := r'.length
    exact Calls.call_len_list pl.isList (by simp only [List.size_toArray] <;> omega) ⟨.int ys.length, H, I.tok _, ⟨s.toks + 1, by rw [List.size_toArray, hlen]⟩, q⟩
  · obtain ⟨its, r', pl, hz⟩ := I.tuple hq
    have hlen := r'.length
    exact len_tuple pl (by simp only [List.size_toArray] <;> omega) ⟨.int ys.length, H, I.tok _, ⟨s.toks + 1, by rw [List.size_toArray, hlen]⟩, q⟩
theorem call_len_str : CallR X (.builtin "len") (fun xs H Q => ∃ z, xs = [.str z] ∧ z.length ≤ sizeLine ∧ Q (.int z.length) H) := by
  intro pins s σ H xs us Q I r h
  obtain ⟨z, rfl, hz, q⟩ := h
  obtain ⟨u, rfl, t, rfl⟩ := vals1 r
  have hn := line63
  exact len_str (by omega) ⟨.int z.length, H, I.tok _, ⟨_, rfl⟩, q⟩
theorem call_list_of : CallR X (.type "list") (fun xs H Q => ∃ p ys, xs = [.ref p] ∧ (SqL X.K H p ys ∨ SqT X.K H p ys) ∧ ∀ l, H l = none → Q (.ref l) (upd H l (.lst ys))) := by
  intro pins s σ H xs us Q I r h
  obtain ⟨p, ys, rfl, hq, q⟩ := h
  obtain ⟨u, rfl, rx⟩ := vals1 r
  cases rx
  have fin : ∀ (its : List Value), Vals ys its → ys.length ≤ sizeLine → ∀ (h' : Heap) (c' : Nat), (∀ b o', s.heap.get? b = some o' → h'.get? b = some o') →
      h'.get? s.heap.objs.size = some { cls := .type "list", dict := none, data := .seq its.toArray c', slots := #[] } → EP X pins σ Q (.ref s.heap.objs.size) { s with heap := h' } := fun its r' hz h' c' kp e =>
    ⟨.ref s.heap.objs.size, _, I.laid (t' := s.toks) kp (Nat.le_refl _) (show ObjOk X.prog X.w _ h' _ (.lst ys) from ⟨hz, its, c', r', e⟩), rfl, q _ (I.hok.fresh (Nat.le_refl _))⟩
  rcases hq with hq | hq
  · obtain ⟨its, r', pl, hz⟩ := I.list hq
    have hlen := r'.length
    obtain ⟨o, ho, hc, n, hd⟩ := pl.isList
    exact call_list_seq p (.inl rfl) ho hc hd (fun h' c' kp e => fin its r' hz h' c' kp e) (by simp only [List.size_toArray] <;> omega)
  · obtain ⟨its, r', pl, hz⟩ := I.tuple hq
    have hlen := r'.length
    obtain ⟨o, ho, hc, n, hd⟩ := pl
    exact call_list_seq p (.inr rfl) ho hc hd (fun h' c' kp e => fin its r' hz h' c' kp e) (by simp only [List.size_toArray] <;> omega)
theorem call_tuple_of : CallR X (.type "tuple") (fun xs H Q => ∃ p ys, xs = [.ref p] ∧ ((SqL X.K H p ys ∧ ∀ l, H l = none → Q (.ref l) (upd H l (.tup ys))) ∨ (SqT X.K H p ys ∧ Q (.ref p) H))) := by
  intro pins s σ H xs us Q I r h
  obtain ⟨p, ys, rfl, h⟩ := h
  obtain ⟨u, rfl, rx⟩ := vals1 r
  cases rx
  rcases h with ⟨hq, q⟩ | ⟨hq, q⟩
  · obtain ⟨its, r', pl, hz⟩ := I.list hq
    have hlen := r'.length
    refine call_tuple_list pl.isList (fun h' kp => ?_) (by simp only [List.size_toArray] <;> omega)
    have I1 : Inv X pins σ H { s with heap := h' } := I.kept (t' := s.toks) kp
    have I2 : Inv X pins σ (upd H h'.objs.size (.tup ys)) { s with heap := h'.push { cls := .type "tuple", data := .seq its.toArray } } :=
      I1.laid (t' := s.toks) (fun b o e => Heap.get?_push_of_some _ e) (Nat.le_refl _) (show ObjOk X.prog X.w _ _ _ (.tup ys) from ⟨hz, its, r', IsTup.new _ _⟩)
    exact ⟨.ref h'.objs.size, _, I2, rfl, q _ (I1.hok.fresh (Nat.le_refl _))⟩
  · obtain ⟨its, r', pl, hz⟩ := I.tuple hq
    exact call_tuple_same pl ⟨.ref p, H, I, rfl, q⟩
noncomputable def tyV (K : PySem.W.Frag) (T : String) (x : V) (H : Hp) : Prop := match x with
  | .str _ => T = "str"
  | .int _ => T = "int"
  | .ref p => (T = "list" ∧ ∃ xs, SqL K H p xs) ∨ (T = "tuple" ∧ ∃ o, K.lookup p = some o ∧ o.cls = .type "tuple" ∧ o.dict = none) ∨
      (T = "dict" ∧ ((∃ kvs, H p = some (.dK kvs)) ∨ ∃ kvs, H p = some (.dT kvs))) ∨ (T = "set" ∧ ∃ S n, H p = some (.set S n))
  | _ => False
theorem tyV_is {pins : List (Addr × Obj)} {σ : St} {H : Hp} {s : Shared} {T : String} {x : V} {v : Value} (I : Inv X pins σ H s) (r : RelV x v) (ty : tyV X.K T x H) :
    s.TypeIs v T ∧ ∀ a, v = .ref a → ∃ ob, s.heap.get? a = some ob ∧ ob.dict = none := by
  cases x with
  | str z =>
    obtain ⟨t, rfl⟩ := r
    cases (show T = "str" from ty)
    exact ⟨typeIs_str s z t, fun _ e => nomatch e⟩
  | int i =>
    obtain ⟨t, rfl⟩ := r
    cases (show T = "int" from ty)
    exact ⟨typeIs_int s i t, fun _ e => nomatch e⟩
  | ref p =>
    cases r
    rcases ty with ⟨rfl, xs, hq⟩ | ⟨rfl, o, hk, hc, hd⟩ | ⟨rfl, hk⟩ | ⟨rfl, S, n, hk⟩
    · obtain ⟨its, _, pl, _⟩ := I.list hq
      refine ⟨pl.isList.typeIs, fun a e => ?_⟩
      cases e
      obtain ⟨o, n, e, c, hd, _⟩ := pl
      exact ⟨o, e, hd⟩
    · refine ⟨⟨o, I.kIn p o hk, hc⟩, fun a e => ?_⟩
      cases e
      exact ⟨o, I.kIn _ o hk, hd⟩
    · have z : ∃ o, s.heap.get? p = some o ∧ o.ExactDict := by
        rcases hk with ⟨kvs, hk⟩ | ⟨kvs, hk⟩
        · obtain ⟨_, _, _, _, o, _, _, e, ex, _⟩ := I.hok p _ hk
          exact ⟨o, e, ex⟩
        · obtain ⟨_, _, _, _, o, _, _, e, ex, _⟩ := I.hok p _ hk
          exact ⟨o, e, ex⟩
      obtain ⟨o, e, ex⟩ := z
      refine ⟨⟨o, e, ex.1⟩, fun a e2 => ?_⟩
      cases e2
      exact ⟨o, e, ex.2.1⟩
    · obtain ⟨o, _, _, _, e, ex, _⟩ := I.hok p _ hk
      refine ⟨⟨o, e, ex.1⟩, fun a e2 => ?_⟩
      cases e2
      exact ⟨o, e, ex.2.1⟩
  | _ => exact False.elim ty
noncomputable def tBM (K : PySem.W.Frag) (T : String) (r : V → List V → Hp → VK → Prop) (to : TE) (t : TA) : TE := fun σ H Q => to σ H fun x H1 => tyV K T x H1 ∧ t σ H1 fun xs H2 => r x xs H2 Q
variable {o e : Expr} {es : List Expr} {to : TE} {t : TA} {name : Str} {apos cpos : Pos} {T id : String} {r : V → List V → Hp → VK → Prop}
theorem pe_bm (pa : PlainAttrs T) (slot : Slot T name id) (hty : typeOf (.builtin id) = pure (.type "method_descriptor")) (hm : MtR X id r) (ho : PE X o to) (ha : PA X (e :: es) t)
    (hbase : attributeBase o name X.env (eval o X.env) = eval o X.env := by rfl)
    (hfew : ((backTo cpos (starEach (e :: es) X.env)).all (fun x => !x.1) && (backToKw cpos (keywordEach [] X.env)).all (fun x => x.1.isSome)
      && decide ((e :: es).length + ([] : List Keyword).length + (if ([] : List Keyword).isEmpty then 0 else 1) < 30)) = true := by rfl)
    (hline : (apos.endLine == cpos.line) = true := by rfl) (hs : starEach (e :: es) X.env = (false, eval e X.env) :: starEach es X.env := by rfl) (hplain : (backTo cpos (starEach es X.env)).any (·.1) = false := by rfl) :
    PE X (.Call (.Attribute o name apos) (e :: es) [] cpos) (tBM X.K T r to t) := by
  intro pins s σ H Q I h
  refine wpAny_Call_method_late hbase hfew hline rfl (thn (ho pins s σ H _ I h) fun v s1 ⟨x, H1, I1, r1, ty, q1⟩ => ?_)
  obtain ⟨h1, h2⟩ := tyV_is I1 r1 ty
  refine ⟨T, id, pa, slot, hty, h1, h2, ?_⟩
  have hA := ha cpos pins s1 σ H1 _ I1 q1
  rw [hs] at hA ⊢
  refine Calls.callWith_builtin (by show (false || (backTo cpos (starEach es X.env)).any (·.1)) = false; rw [hplain] <;> rfl) (Calls.evalArgs_plain ?_)
  exact thn hA fun us s2 ⟨vs, H2, I2, r2, q2⟩ => hm pins s2 σ H2 x vs v us Q I2 r1 r2 q2
end
end L2
namespace L2
open PySem PySem.Spec PyProof.Rows
noncomputable def MtM (X : Cx) (id : String) (r : V → List V → Hp → VK → Prop) : Prop :=
  ∀ (pins : List (Addr × Obj)) (s : Shared) (σ : St) (H : Hp) (x : V) (xs : List V) (v : Value) (us : List Value) (Q : VK), Inv X pins σ H s → RelV x v → Vals xs us → r x xs H Q →
    wpAny (model X.prog X.w) X.A (call (.builtin id) (v :: us)) (EP X pins σ Q) X.xe s
theorem Vals.one : ∀ {x : V} {us : List Value}, Vals [x] us → ∃ u, us = [u] ∧ RelV x u
  | _, _, .cons r .nil => ⟨_, rfl, r⟩
theorem Vals.rep {xs : List V} {us : List Value} (h : Vals xs us) : ∀ k : Nat, Vals (List.replicate k xs).flatten (List.replicate k us).flatten
  | 0 => .nil
  | k + 1 => by
    rw [List.replicate_succ, List.replicate_succ, List.flatten_cons, List.flatten_cons]
    exact Vals.append h (Vals.rep h k)
theorem foldl_rep (its : List Value) : ∀ (k : Nat) (acc : List Value),
    List.foldl (fun x1 x2 => x1 ++ x2) acc.toArray (List.replicate k its.toArray) = (acc ++ (List.replicate k its).flatten).toArray
  | 0, acc => by simp
  | k + 1, acc => by
    have e : acc.toArray ++ its.toArray = (acc ++ its).toArray := by simp
    have e2 : (acc ++ its) ++ (List.replicate k its).flatten = acc ++ (List.replicate (k + 1) its).flatten := by
      rw [List.replicate_succ, List.flatten_cons, List.append_assoc]
    rw [← e2, ← foldl_rep its k (acc ++ its), ← e, List.replicate_succ, List.foldl_cons]
section
variable {X : Cx} {pins : List (Addr × Obj)} {σ : St} {H : Hp} {s : Shared} {l b : Addr} {xs ys zs : List V}
theorem Inv.lset {its its' : List Value} {n : Nat} {f : Array Value → Array Value} {t' : Nat} (I : Inv X pins σ H s) (hH : H l = some (.lst xs))
    (e : s.heap.get? l = some { cls := .type "list", data := .seq its.toArray n }) (hf : f its.toArray = its'.toArray) (hv : Vals ys its') (hz : ys.length ≤ sizeLine) :
    Inv X pins σ (upd H l (.lst ys)) { s with heap := s.heap.update l (Obj.mapSeq f), toks := t' } := by
  have q := PySem.IsL.update e f
  rw [hf] at q
  refine I.write (x := l) (e := l) (by rw [hH]; exact trivial) (.inl rfl) (fun b' u hb hu => (Heap.get?_update_other s.heap (Obj.mapSeq f) (Ne.symm hb)).trans hu) ⟨_, q⟩ ?_
  exact ⟨hz, its', _, hv, q⟩
theorem Inv.lnew {its : List Value} {t' : Nat} (I : Inv X pins σ H s) (hv : Vals ys its) (hz : ys.length ≤ sizeLine) :
    Inv X pins σ (upd H s.heap.objs.size (.lst ys)) { s with heap := s.heap.push { cls := .type "list", data := .seq its.toArray }, toks := t' } :=
  I.laid (fun _ _ q => Heap.get?_push_of_some _ q) (Nat.le_refl _) ⟨hz, its, 0, hv, Heap.get?_push_size _ rfl⟩
theorem Inv.fresh (I : Inv X pins σ H s) : H s.heap.objs.size = none := I.hok.fresh (Nat.le_refl _)
theorem Inv.lstM (I : Inv X pins σ H s) (hH : H l = some (.lst xs)) : xs.length ≤ sizeLine ∧ ∃ (its : List Value) (n : Nat), Vals xs its ∧ xs.length = its.length ∧ s.heap.get? l = some { cls := .type "list", data := .seq its.toArray n } := by
  obtain ⟨z, its, n, r, e⟩ := I.hok l _ hH
  exact ⟨z, its, n, r, r.length, e⟩
theorem notLongL {n : Nat} (h : n ≤ sizeLine) : Builtin.List.listTooLong n = false := by
  unfold Builtin.List.listTooLong
  exact decide_eq_false (by omega)
end
section
variable {X : Cx}
noncomputable def rAppend : V → List V → Hp → VK → Prop := fun x vs H Q => ∃ l xs y, x = .ref l ∧ vs = [y] ∧ H l = some (.lst xs) ∧ xs.length < sizeLine ∧ Q .non (upd H l (.lst (xs ++ [y])))
theorem mt_append : MtM X "list.append" rAppend := by
  intro pins s σ H x vs v us Q I rx rv h
  obtain ⟨l, xs, y, rfl, rfl, hH, hz, q⟩ := h
  cases rx
  obtain ⟨u, rfl, ru⟩ := rv.one
  obtain ⟨z, its, n, r, hl, e⟩ := I.lstM hH
  refine call_meets F.slot_list_append ⟨_, e, rfl⟩ F.entry_list_append (F.args_list_append_2 _ _) (PySem.list_append l its.toArray n u (by rw [List.size_toArray]; omega)) ⟨e, ?_⟩
  refine ⟨.non, _, I.lset (its' := its ++ [u]) hH e (by simp) (r.append (.cons ru .nil)) ?_, rfl, q⟩
  rw [List.length_append, List.length_singleton]
  omega
noncomputable def rExtend : V → List V → Hp → VK → Prop := fun x vs H Q => ∃ l b xs zs, x = .ref l ∧ vs = [.ref b] ∧ H l = some (.lst xs) ∧ H b = some (.lst zs) ∧ xs.length + zs.length ≤ sizeLine ∧ Q .non (upd H l (.lst (xs ++ zs)))
theorem mt_extend : MtM X "list.extend" rExtend := by
  intro pins s σ H x vs v us Q I rx rv h
  obtain ⟨l, b, xs, zs, rfl, rfl, hH, hB, hz, q⟩ := h
  cases rx
  obtain ⟨u, rfl, ru⟩ := rv.one
  cases ru
  obtain ⟨z, its, n, r, hl, e⟩ := I.lstM hH
  obtain ⟨z2, its2, n2, r2, hl2, e2⟩ := I.lstM hB
  have hsz : its.toArray.size + its2.toArray.size ≤ sizeLine := by rw [List.size_toArray, List.size_toArray]; omega
  have hlong : ¬ (!its.toArray.isEmpty && Builtin.List.listTooLong (its.toArray.size + its2.toArray.size)) = true := by
    rw [notLongL hsz, Bool.and_false]
    exact Bool.false_ne_true
  refine call_meets F.slot_list_extend ⟨_, e, rfl⟩ F.entry_list_extend (F.args_list_extend_2 _ _)
    (AutoSeq1.list_extend_list_list_0 l its.toArray n b its2.toArray n2 hlong (by rw [List.size_toArray]; omega) (by omega)) ⟨e, e2, ?_⟩
  refine ⟨.non, _, I.lset (its' := its ++ its2) hH e (by simp) (r.append r2) ?_, rfl, q⟩
  rw [List.length_append]
  omega
noncomputable def rCat : R2 := fun x y H Q => ∃ l b xs zs, x = .ref l ∧ y = .ref b ∧ H l = some (.lst xs) ∧ H b = some (.lst zs) ∧ xs.length + zs.length ≤ sizeLine ∧ ∀ p, H p = none → Q (.ref p) (upd H p (.lst (xs ++ zs)))
theorem op_cat : OpR X (binaryOp .Add) rCat := by
  intro pins s σ H x y v u Q I rx ry h
  obtain ⟨l, b, xs, zs, rfl, rfl, hH, hB, hz, q⟩ := h
  cases rx
  cases ry
  obtain ⟨z, its, n, r, hl, e⟩ := I.lstM hH
  obtain ⟨z2, its2, n2, r2, hl2, e2⟩ := I.lstM hB
  refine PySem.P.add_list e e2 ?_ (by rw [List.size_toArray, List.size_toArray]; omega)
  have ea : its.toArray ++ its2.toArray = (its ++ its2).toArray := by simp
  rw [ea]
  exact ⟨.ref _, _, I.lnew (t' := s.toks) (r.append r2) (by rw [List.length_append]; omega), rfl, q _ I.fresh⟩
noncomputable def rRep : R2 := fun x y H Q => ∃ l k xs, x = .ref l ∧ y = .int k ∧ H l = some (.lst xs) ∧ -(2 ^ 63) ≤ k ∧ k < 2 ^ 63 ∧ xs.length * k.toNat ≤ sizeLine ∧
  ∀ p, H p = none → Q (.ref p) (upd H p (.lst (List.replicate k.toNat xs).flatten))
theorem len_rep {α : Type} (xs : List α) (k : Nat) : (List.replicate k xs).flatten.length = k * xs.length := by
  induction k with
  | zero => simp
  | succ k ih => rw [List.replicate_succ, List.flatten_cons, List.length_append, ih, Nat.succ_mul, Nat.add_comm]
theorem op_rep : OpR X (binaryOp .Mult) rRep := by
  intro pins s σ H x y v u Q I rx ry h
  obtain ⟨l, k, xs, rfl, rfl, hH, h1, h2, hz, q⟩ := h
  cases rx
  obtain ⟨t, rfl⟩ := ry
  obtain ⟨z, its, n, r, hl, e⟩ := I.lstM hH
  have hlen : its.toArray.size * k.toNat ≤ sizeLine := by rw [List.size_toArray, ← hl]; exact hz
  have hcap : ¬ its.toArray.size * k.toNat > (2 ^ 63 - 1) / 8 := by
    have : (sizeLine : Nat) ≤ (2 ^ 63 - 1) / 8 := by decide
    omega
  have hfit : ¬ (!Builtin.List.listFitsIndex k) = true := by
    rw [fitsIndex_both h1 h2]
    exact Bool.false_ne_true
  have hlong : ¬ Builtin.List.listTooLong (its.toArray.size * k.toNat) = true := by
    rw [notLongL hlen]
    exact Bool.false_ne_true
  have hnew : List.foldl (fun x1 x2 => x1 ++ x2) #[] (List.replicate (if its.toArray.isEmpty = true then 0 else k.toNat) its.toArray) = (List.replicate k.toNat its).flatten.toArray := by
    have f0 : ∀ m : Nat, List.foldl (fun x1 x2 => x1 ++ x2) #[] (List.replicate m its.toArray) = (List.replicate m its).flatten.toArray := fun m => by
      have := foldl_rep its m []
      rw [List.nil_append] at this
      exact this
    rw [f0]
    cases its with
    | nil => simp
    | cons a r' => rw [if_neg (by simp)]
  refine wpAny_binaryOp_repeat_ref (T := "list") (U := "int") (by decide) ⟨_, e, rfl⟩ (fun s' => typeIs_int s' k t) noFill_list_mul F.fills_int_mul F.slot_int_rmul repeat_list F.slot_int_index.lookup
    (call_meets F.slot_int_rmul (typeIs_int s k t) F.entry_int_rmul (F.args_int_rmul_2 _ _) (int___rmul___int_list k t l its.toArray n)
      ⟨e, rfl, ⟨_, e, rfl⟩, call_meets F.slot_list_mul ⟨_, e, rfl⟩ F.entry_list_mul (F.args_list_mul_2 _ _) (AutoListH.list___mul___list_int_3 l its.toArray n k t hfit hcap hlong) ⟨e, ?_⟩⟩)
  rw [hnew]
  exact ⟨.ref _, _, I.lnew (t' := s.toks) (r.rep k.toNat) (by rw [len_rep, Nat.mul_comm]; exact hz), rfl, q _ I.fresh⟩
end
section
variable {prog : Program} {w : World} {A : Around} {E : Value → Shared → Prop} {s : Shared}
end
section
variable {X : Cx}
end
end L2
namespace Att
open PySem PySem.W PySem.Calls PyProof.Rows
theorem ints_of_wellAll {P : Params} {h : Heap} : ∀ (ns : List Int) (vs : List Value), WellAll P h vs (ns.map WData.int) → IntsAre vs ns := by
  intro ns
  induction ns with
  | nil =>
    intro vs w
    rw [List.map_nil] at w
    cases w
    exact .nil
  | cons n ns ih =>
    intro vs w
    rw [List.map_cons] at w
    cases w with
    | cons a b =>
      cases a
      exact .cons _ _ (ih _ b)
theorem script_of {l : OpenLaw} {n : Nat} (hn : l.most = some n) {P : Params} {h : Heap} {args : List WData} {vals : List Value}
    (hpre : l.row.toRowW.claim.pre args = true) (hwl : WellAll P h vals args) :
    ∃ a vs ns, vals = [Value.ref a] ∧ args = [WData.list (ns.map WData.int)] ∧ h.get? a = some { cls := .type "list", data := .seq vs.toArray } ∧ IntsAre vs ns ∧ ns.length ≤ n := by
  have hsh : WShape.hasAll [] args [.list .int] = true := (pre_splitW hpre).1
  have hc : l.pre.holds [] { args := args } = true := (pre_splitW hpre).2
  obtain ⟨d, r, rfl, h1, h2⟩ := hasAllW_cons hsh
  obtain rfl := hasAllW_nil h2
  obtain ⟨xs, rfl, h3⟩ := hasW_list h1
  obtain ⟨ns, rfl⟩ := items_int h3
  have hlen : ns.length ≤ n := by
    unfold OpenLaw.pre at hc
    have h4 : (WTm.not (.lt (.lit (.int (n : Int))) (.len (.arg 0)))).holds [] { args := [.list (ns.map .int)] } = true := by
      have h4 := (holds_andW hc).1
      rw [hn] at h4
      exact h4
    have h5 := condW_of h4 (w_not (w_lt w_lit (w_len_list (w_arg rfl))))
    rw [List.length_map] at h5
    refine Nat.le_of_not_lt fun q => ?_
    have q' : (n : Int) < ((ns.length : Nat) : Int) := by omega
    first
      | (rw [decide_eq_true q'] at h5; exact absurd h5 (by decide))
      | (simp at h5; omega)
  cases hwl with
  | cons w1 w2 =>
    cases w2
    cases w1 with
    | list ho hall => exact ⟨_, _, ns, rfl, rfl, ho, ints_of_wellAll ns _ hall, hlen⟩
theorem post_true (l : OpenLaw) (args : List WData) : l.row.toRowW.claim.post args (.bool true) args = true :=
  postW_of (r := l.row.toRowW) (X := (true == true))
    (show WShape.has [] (.bool true) .bool = true by first | rfl | decide | simp [WShape.has, WShape.arms, WShape.armsAll])
    (show (WTm.eq .res (.lit (.bool true))).value [] { args := args, res := some (.bool true), after := args } = some (.bool (true == true)) from w_eq_bool (w_res rfl) w_lit) rfl
theorem attach_call {l : OpenLaw} {n : Nat} {q : Program} {loose : List Str} {XP : (Str → Option Value) → Heap → Prop} {YP : World → Heap → Prop} {d : DefRec}
    (hn : l.most = some n) (hdf : d.params.defaults = [])
    (call : ∀ (w : World) (s₀ s₁ : Shared) (mg mb : Str → Option Value) (fa : Addr) (o : Obj) (pm cd doc : Value) (a : Addr) (vs : List Value) (ns : List Int),
      Ground q loose [] XP w s₀ mg mb s₁.heap → YP w s₁.heap →
      s₁.heap.get? fa = some o → o.data = .func (docDef d.name d.params d.body d.scope pm cd doc) → s₁.heap.CodeRec cd d.name → mg d.name = some (.ref fa) →
      s₁.heap.get? a = some { cls := .type "list", data := .seq vs.toArray } → IntsAre vs ns → ns.length ≤ n → s₁.gens = #[] →
      codeAny (model l.prog w) callerA (.call (.ref fa) ⟨[.ref a], []⟩) (fun r s' => r = .ok (.ret (.bool true)) ∧ OldK s₁.heap s'.heap ∧ s'.os = s₁.os ∧ AllBare s'.gens) s₁) :
    WalkO q loose XP YP l.row.toRowW d [] (fun f vs => PySem.call f vs) := by
  intro w s₀ s₁ mg mb G Y fa o pm cd doc dV kV ho hd hcd hD hmg hg args vals as hpre hlay hrd hwl hlo
  obtain rfl : dV = .none := Dflts.none hD hdf
  obtain rfl : kV = .none := Dflts.noKw hD
  obtain ⟨a, vs, ns, rfl, rfl, hobj, hints, hlen⟩ := script_of hn hpre hwl
  refine enter_call (codeAny_mono (call w s₀ s₁ mg mb fa o pm cd doc a vs ns G Y ho (fd_plain hd) hcd hmg hobj hints hlen hg) fun r s' hq => ?_)
  obtain ⟨rfl, h2, h3, h4⟩ := hq
  exact ⟨.inl ⟨.bool true, .bool true, [], rfl, fun _ => rfl, .bool true, post_true l _, fun _ => ⟨List.Pairwise.nil, fun _ hm => (nomatch hm)⟩⟩, h2, h3, h4⟩
section
variable {prog : Program} {w : World} {A : Around} {E : Value → Shared → Prop} {s : Shared} {K : Frag}
end
end Att
namespace L2
open PySem PySem.Spec PyProof.Rows
theorem vals_ints : ∀ {vs : List Value} {ns : List Int}, IntsAre vs ns → Vals (ns.map V.int) vs
  | _, _, .nil => .nil
  | _, _, .cons n t h => .cons ⟨t, rfl⟩ (vals_ints h)
noncomputable def Only (H : Hp) : Prop := ∀ b, H b = none ∨ ∃ o xs, H b = some (.frz o (.lst xs))
theorem law_call {P : Program} {w : World} {K : PySem.W.Frag} {mg mb : Str → Option Value} {CX : CXT} {k : Nat} {fa a : Addr} {fd : FuncData} {x : Str} {sp : Sp} {s₁ : Shared} {vs : List Value} {ns : List Int}
    (KX : K.In s₁.heap) (hns : s₁.heap.Ns mainGlobals mg) (hb : s₁.heap.Ns builtinsNs mb) (hbb : ∀ x : Str, x ≠ "__name__" → mb x = bootBuiltins x) (hlim : s₁.heap.NoLimit) (hg : s₁.gens = #[])
    (ha : s₁.heap.get? a = some { cls := .type "list", data := .seq vs.toArray }) (hi : IntsAre vs ns) (hl : ns.length ≤ sizeLine) (hr : Room k callerA)
    (F : ∀ base : Heap, K.In base → base.Ns mainGlobals mg → FnOk P w K mg base CX k fa fd [x] sp) (hbind : ∀ (s : Shared) (u : Value), BindsTo s fd ⟨[u], []⟩ [(x, u)])
    (hsp : ∀ H : Hp, Only H → SqL K H a (ns.map V.int) → sp [.ref a] H (fun v _ => v = .bl true) fun _ _ _ => False)
    (hCX : ∀ H e s', CX [] H s₁ (fun _ _ _ => False) e s' → False) :
    codeAny (model P w) callerA (.call (.ref fa) ⟨[.ref a], []⟩) (fun r s' => r = .ok (.ret (.bool true)) ∧ OldK s₁.heap s'.heap ∧ s'.os = s₁.os ∧ AllBare s'.gens) s₁ := by
  have rv := vals_ints hi
  have lenV := hi.length
  -- from an abstract heap in which nothing but the script may be tracked
  have core : ∀ H : Hp, Only H → SqL K H a (ns.map V.int) → HOk P w H s₁.heap → (∀ b, H b ≠ none → b = a) → (H a ≠ none → K.lookup a = none) →
      codeAny (model P w) callerA (.call (.ref fa) ⟨[.ref a], []⟩) (fun r s' => r = .ok (.ret (.bool true)) ∧ OldK s₁.heap s'.heap ∧ s'.os = s₁.os ∧ AllBare s'.gens) s₁ := by
    intro H hO hS hok hA hK
    have base_of : ∀ {b : Addr} {o : Obj}, s₁.heap.get? b = some o → H b = none → (hidT s₁.heap H).get? b = some o := fun e n => hidT_get e n
    have noA : ∀ {b : Addr} {o : Obj} {es : Array DictEntry} {ep : Nat}, s₁.heap.get? b = some o → o.data = .dict es ep → H b = none := fun {b o es ep} e d => by
      cases q : H b with
      | none => rfl
      | some u =>
        have e' : b = a := hA b (by rw [q]; simp)
        subst e'
        rw [ha] at e; cases e
        have d' : Data.seq vs.toArray _ = Data.dict es ep := d
        cases d'
    have nsK : ∀ {b : Addr} {m : Str → Option Value}, s₁.heap.Ns b m → (hidT s₁.heap H).Ns b m := fun {b m} ⟨o, es, ep, e, d, r⟩ => ⟨o, es, ep, base_of e (noA e d), d, r⟩
    have hKb : K.In (hidT s₁.heap H) := fun b o e => base_of (KX b o e) (by
      cases q : H b with
      | none => rfl
      | some u =>
        have e' : b = a := hA b (by rw [q]; simp)
        subst e'
        rw [hK (by rw [q]; simp)] at e; cases e)
    have hM : Mod K mg (hidT s₁.heap H) := ⟨hKb, nsK hns, ⟨mb, nsK hb, hbb⟩, let ⟨mc, h1, h2⟩ := hlim; ⟨mc, nsK h1, h2⟩⟩
    have e0 : Env0 P w K mg (hidT s₁.heap H) callerA [] s₁ H := ⟨rfl, hM, fun b o e => of_hidT e, Nat.le_of_eq (hidT_size _ _), trivial, fun b hb => absurd (show b ∈ ([] : List Addr) from hb) (by simp), hok, .of_eq hg⟩
    refine codeAny_mono ((F _ hKb (nsK hns)).run callerA [] s₁ H ⟨[.ref a], []⟩ [.ref a] [.ref a] _ _ hr e0 (hbind s₁ (.ref a)) (.cons rfl .nil) (hsp H hO hS)) fun r s' h => ?_
    cases r with
    | error e => exact (hCX H e s' h).elim
    | ok fl =>
      cases fl with
      | next => exact False.elim h
      | brk => exact False.elim h
      | cont => exact False.elim h
      | ret u =>
        obtain ⟨v, H', os, bare, un, hok', r', q⟩ := h
        have q' : v = .bl true := q
        subst q'
        obtain rfl : u = Value.bool true := r'
        refine ⟨rfl, OldK.of_keep fun b o e => ?_, os, bare⟩
        cases q : H b with
        | none => exact un.keep b o e q (by intro z; exact absurd (show b ∈ ([] : List Addr) from z) (by simp)) (by simp)
        | some u =>
          rcases hO b with z | ⟨ob, xs, z⟩
          · rw [q] at z; cases z
          · have z2 := un.frzs b ob _ z
            obtain ⟨e1, _⟩ := hok b _ z
            obtain ⟨e2, _⟩ := hok' b _ z2
            rw [e] at e1; cases e1
            exact e2
  cases hk : K.lookup a with
  | some o =>
    -- the script is one of the module's own objects
    have e := KX a o hk
    rw [ha] at e
    cases e
    refine core (fun _ => none) (fun _ => .inl rfl) (.inr ⟨_, vs.toArray, _, hk, rfl, rfl, rfl, by rw [List.size_toArray, lenV]; exact hl, by simpa using rv⟩) (fun b u z => by have z' : (none : Option HO) = some u := z; cases z') (fun b z => absurd rfl z) fun z => absurd rfl z
  | none =>
    refine core (fun b => if b = a then some (.frz { cls := .type "list", data := .seq vs.toArray } (.lst (ns.map V.int))) else none) (fun b => ?_) (.inl (.inr ⟨{ cls := .type "list", data := .seq vs.toArray }, if_pos rfl⟩)) (fun b u z => ?_) (fun b z => ?_) fun _ => hk
    · by_cases hb : b = a
      · exact .inr ⟨_, _, if_pos hb⟩
      · exact .inl (if_neg hb)
    · by_cases hb : b = a
      · have z' := (if_pos hb).symm.trans z
        cases z'
        subst hb
        exact ⟨ha, by rw [List.length_map]; exact hl, vs, _, rv, ha⟩
      · have z' := (if_neg hb).symm.trans z
        cases z'
    · by_cases hb : b = a
      · exact hb
      · exact absurd (if_neg hb) z
end L2
namespace L2
open PySem PySem.Spec PyProof.Rows
theorem walk_of {l : PySem.W.OpenLaw} {n k : Nat} {q : Program} {loose : List Str} {XP : (Str → Option Value) → Heap → Prop} {YP : World → Heap → Prop} {d : DefRec} {K : Params → PySem.W.Frag} {CX : World → CXT} {sp : World → Sp} {x : Str}
    (hn : l.most = some n) (hn2 : n ≤ sizeLine) (hdf : d.params.defaults = []) (hr : Room k callerA)
    (hY : ∀ (w : World) (h : Heap), YP w h → (K w.params).In h)
    (F : ∀ (w : World) (mg : Str → Option Value) (fa : Addr) (h : Heap), (K w.params).In h → h.Ns mainGlobals mg → mg d.name = some (.ref fa) →
      ∃ fd : FuncData, (∀ (s : Shared) (u : Value), BindsTo s fd ⟨[u], []⟩ [(x, u)]) ∧
        ∀ base : Heap, (K w.params).In base → base.Ns mainGlobals mg → FnOk l.prog w (K w.params) mg base (CX w) k fa fd [x] (sp w))
    (hsp : ∀ (w : World) (H : Hp) (a : Addr) (ns : List Int), ns.length ≤ n → Only H → SqL (K w.params) H a (ns.map V.int) → sp w [.ref a] H (fun v _ => v = .bl true) fun _ _ _ => False)
    (hCX : ∀ (w : World) (H : Hp) (s : Shared) (e : Value) (s' : Shared), CX w [] H s (fun _ _ _ => False) e s' → False) :
    PySem.W.WalkO q loose XP YP l.row.toRowW d [] (fun f vs => PySem.call f vs) := by
  refine Att.attach_call hn hdf fun w s₀ s₁ mg mb fa o pm cd doc a vs ns G Y ho hd hcd hmg hobj hints hlen hg => ?_
  have KX := hY w _ Y
  obtain ⟨fd, hb, hF⟩ := F w mg fa _ KX G.T.g hmg
  exact law_call KX G.T.g G.T.b G.T.builtins G.T.nolimit hg hobj hints (Nat.le_trans hlen hn2) hr hF hb (fun H hO hS => hsp w H a ns hlen hO hS) fun H e s' => hCX w H s₁ e s'
end L2
namespace L2
open PySem PySem.Spec PyProof.Rows
noncomputable def defArgs (s : Stmt) : Arguments := match s with
  | .FunctionDef _ a _ _ _ _ _ _ _ _ => a
  | _ => { posonlyargs := [], args := [], vararg := none, kwonlyargs := [], kw_defaults := [], kwarg := none, defaults := [] }
noncomputable def defBody (s : Stmt) : List Stmt := match s with
  | .FunctionDef _ _ b _ _ _ _ _ _ _ => b
  | _ => []
noncomputable def defScope (s : Stmt) : Scope := match s with
  | .FunctionDef _ _ _ _ _ _ sc _ _ _ => sc
  | _ => { kind := .function, names := [], isGenerator := false, isCoroutine := false }
noncomputable abbrev CX0 : CXT := fun _ _ _ _ _ _ => False
noncomputable abbrev E0 : XK := fun _ _ _ => False
theorem pass0 {X : Cx} : Passes CX0 X E0 := fun _ _ _ _ _ _ _ h => h.elim
structure Fun (K : PySem.W.Frag) (x qual : Str) (st : Stmt) (f : Addr) (fd : FuncData) : Prop where
  ex : ∃ (oc : Value) (od : Option Addr) (kV doc pm : Value) (an : Option Addr) (cdv ct : Value) (osl : Array (Option Value)),
    fd = PySem.W.fnOf x qual (defArgs st) (defBody st) (defScope st) .none kV doc pm an cdv ct ∧ K.lookup f = some ⟨oc, od, .func fd, osl⟩ ∧ PySem.W.codeIn K cdv qual = true
  kp : PySem.W.keepIn K (.ref f) = true
section
variable {P : Program} {w : World} {K : PySem.W.Frag} {mg : Str → Option Value} {base : Heap}
theorem Fun.ok {x qual : Str} {st : Stmt} {f : Addr} {fd : FuncData} {N ps : List Str} {k : Nat} {sp : Sp} (F : Fun K x qual st f fd) (S : FnScope N ps (defScope st)) (len : ∀ vs H Q E, sp vs H Q E → vs.length = ps.length)
    (hbody : ∀ (cdv : Value) (A : Around) (outer : List Env) (s : Shared) (H : Hp) (vs : List V) (Q : VK) (E : XK), Room k (A.deeper (envOfC qual (defScope st) s.heap.objs.size f cdv)) → sp vs H Q E →
      ∃ t, PSs (cxOf CX0 P w K mg base N qual (defScope st) f cdv A outer s H E).nox (defBody st) t ∧ t { nx := fun _ H' => Q .non H', rt := Q } (start N vs) H) : FnOk P w K mg base CX0 (k + 1) f fd ps sp := by
  obtain ⟨oc, od, kV, doc, pm, an, cdv, ct, osl, rfl, lk, hcd⟩ := F.ex
  refine fn_of lk hcd S len fun A outer s H vs Q E hr hsp => ?_
  obtain ⟨t, h, q⟩ := hbody cdv A outer s H vs Q E hr hsp
  exact ⟨t, h.nox, q⟩
theorem Fun.binds {x qual : Str} {st : Stmt} {f : Addr} {fd : FuncData} {ps : List Str} (F : Fun K x qual st f fd)
    (h : ∀ (kV doc pm : Value) (an : Option Addr) (cdv ct : Value) (us : List Value), us.length = ps.length → bindArgs (PySem.W.fnOf x qual (defArgs st) (defBody st) (defScope st) .none kV doc pm an cdv ct) ⟨us, []⟩ = pure (ps.zip us)) : Binds K fd ps [] := by
  obtain ⟨oc, od, kV, doc, pm, an, cdv, ct, osl, rfl, lk, hcd⟩ := F.ex
  exact .all (h kV doc pm an cdv ct)
theorem fun_mk {x qual : Str} {st : Stmt} {f : Addr} {oc : Value} {od an : Option Addr} {osl : Array (Option Value)} {kV doc pm cdv ct : Value} (l : K.lookup f = some ⟨oc, od, .func (PySem.W.fnOf x qual (defArgs st) (defBody st) (defScope st) .none kV doc pm an cdv ct), osl⟩)
    (c : PySem.W.codeIn K cdv qual = true) (k : PySem.W.keepIn K (.ref f) = true) : Fun K x qual st f (PySem.W.fnOf x qual (defArgs st) (defBody st) (defScope st) .none kV doc pm an cdv ct) := ⟨⟨oc, od, kV, doc, pm, an, cdv, ct, osl, rfl, l, c⟩, k⟩
end
section
variable {X : Cx}
theorem pv (i : Nat) {x : Str} {pos : Pos} (hN : X.N[i]? = some x := by rfl) (hv : Vis X.env.scope x := by first | exact Or.inl rfl | exact Or.inr (Or.inl rfl) | exact Or.inr (Or.inr rfl)) (hd : (x == ("__debug__" : Str)) = false := by decide)
    (hcd : (x == ("__classdict__" : Str)) = false := by decide) : PE X (.Name x pos) (tVar i) := pe_var hN hv hd hcd
end
theorem iteF {A B : Prop} (h : B) : if false = true then A else B := by
  rw [if_neg Bool.false_ne_true]
  exact h
theorem iteT {A B : Prop} (h : A) : if true = true then A else B := by
  rw [if_pos rfl]
  exact h
theorem ite2 {c A B : Prop} [Decidable c] (h1 : c → A) (h2 : ¬ c → B) : if c then A else B := by
  by_cases h : c
  · rw [if_pos h]
    exact h1 h
  · rw [if_neg h]
    exact h2 h
end L2
set_option Elab.async false
set_option linter.all false
set_option maxRecDepth 100000
set_option maxHeartbeats 4000000
namespace L2
open PySem PySem.Spec PyProof.Rows
structure Blk where
  s : Shared
  H : Hp
  fp : List Addr
  C : Addr
noncomputable def clOf (names : List (Str × NameKind)) (cells : List (Str × Addr)) : List (Str × Addr) :=
  names.foldl (fun acc p => if p.2 == .free then (p.1, (cells.lookup p.1).getD 0) :: acc else acc) []
noncomputable def blk (X : Cx) (sc : Scope) (own : List Str) (js : List Nat) (z : Blk) : Cx where
  prog := X.prog
  w := X.w
  K := X.K
  mg := X.mg
  base := X.base
  A := X.A
  N := own ++ js.map fun j => X.N.getD j ""
  s₀ := z.s
  H₀ := z.H
  env := compEnvC sc (clOf sc.names X.env.cells) z.C X.env
  outer := X.stack
  stack := X.stack
  ex := z.fp
  fn := fun _ => false
  calm := X.calm
  pn := []
  xe := fun _ _ => False
noncomputable def okBlk (sc out : Scope) : Bool := sc.names.all fun p => p.2 != .cell && (p.2 != .local || sc.names.lookup p.1 == some .local) && (p.2 != .free || out.names.lookup p.1 == some .cell || out.names.lookup p.1 == some .free)
noncomputable def okCap (sc : Scope) (N : List Str) (js : List Nat) : Bool := js.all fun j => decide (j < N.length) && (sc.names.lookup (N.getD j "") == some .free)
noncomputable def capt (n : Nat) (js : List Nat) (σ : St) : St := List.replicate n none ++ js.map fun j => (σ[j]?).join
theorem clOf_gen (cells : List (Str × Addr)) : ∀ (names : List (Str × NameKind)) (acc : List (Str × Addr)) (x : Str) (c : Addr),
    (names.foldl (fun acc p => if p.2 == .free then (p.1, (cells.lookup p.1).getD 0) :: acc else acc) acc).lookup x = some c →
    ((x, NameKind.free) ∈ names ∧ c = (cells.lookup x).getD 0) ∨ acc.lookup x = some c
  | [], acc, x, c, h => .inr h
  | (n, k) :: r, acc, x, c, h => by
    rw [List.foldl_cons] at h
    rcases clOf_gen cells r _ x c h with ⟨h1, h2⟩ | h1
    · exact .inl ⟨List.mem_cons_of_mem _ h1, h2⟩
    · cases hk : (k == NameKind.free) with
      | false => 
        simp only [hk] at h1
        exact .inr h1
      | true =>
        simp only [hk, if_true] at h1
        rw [List.lookup_cons] at h1
        cases hx : (x == n) with
        | false => rw [hx] at h1; exact .inr h1
        | true =>
          rw [hx] at h1
          have e1 : x = n := by simpa using hx
          have e2 : k = .free := by simpa using hk
          subst e1 e2
          exact .inl ⟨List.mem_cons_self, (Option.some.inj h1).symm⟩
theorem clOf_has (cells : List (Str × Addr)) : ∀ (names : List (Str × NameKind)) (acc : List (Str × Addr)) (x : Str),
    ((x, NameKind.free) ∈ names ∨ (acc.lookup x).isSome = true) → ((names.foldl (fun acc p => if p.2 == .free then (p.1, (cells.lookup p.1).getD 0) :: acc else acc) acc).lookup x).isSome = true
  | [], acc, x, h => by
    rcases h with h | h
    · simp at h
    · exact h
  | (n, k) :: r, acc, x, h => by
    rw [List.foldl_cons]
    apply clOf_has cells r
    rcases h with h | h
    · rcases List.mem_cons.mp h with e | h
      · right
        cases e
        simp [List.lookup_cons]
      · exact .inl h
    · right
      cases hk : (k == NameKind.free) with
      | false => simpa [hk] using h
      | true =>
        simp only [hk, if_true, List.lookup_cons]
        cases hx : (x == n) with
        | true => rfl
        | false => exact h
theorem closure_eq {env : Env} {sc : Scope} (h : ∀ p ∈ sc.names, p.2 = .free → ∃ c, env.cells.lookup p.1 = some c) : closureFor sc env = pure (clOf sc.names env.cells) := by
  have go : ∀ (names : List (Str × NameKind)) (acc : List (Str × Addr)), (∀ p ∈ names, p.2 = NameKind.free → ∃ c, env.cells.lookup p.1 = some c) →
      (forIn names acc fun (p : Str × NameKind) (r : List (Str × Addr)) => (match p with | (name, kind) => if (kind == NameKind.free) = true then do let c ← cellOf env name; pure (ForInStep.yield ((name, c) :: r)) else pure (ForInStep.yield r) : Sem _)) =
      pure (names.foldl (fun acc p => if p.2 == .free then (p.1, (env.cells.lookup p.1).getD 0) :: acc else acc) acc) := by
    intro names
    induction names with
    | nil => intro acc _; rfl
    | cons p r ih =>
      intro acc hp
      obtain ⟨n, k⟩ := p
      rw [List.forIn_cons, List.foldl_cons]
      cases hk : (k == NameKind.free) with
      | false =>
        simp only [hk, Bool.false_eq_true, if_false]
        exact ih acc fun q hq => hp q (List.mem_cons_of_mem _ hq)
      | true =>
        obtain ⟨c, hc⟩ := hp (n, k) List.mem_cons_self (by simpa using hk)
        have e : cellOf env n = pure c := by
          unfold cellOf
          rw [show env.cells.lookup n = some c from hc]
        simp only [hk, if_true, e]
        have hc' : env.cells.lookup n = some c := hc
        rw [hc']
        exact ih _ fun q hq => hp q (List.mem_cons_of_mem _ hq)
  unfold closureFor clOf
  have := go sc.names [] h
  simp only [this]
  rfl
noncomputable def PCs (X : Cx) (ifs : List Expr) (t : TT) : Prop :=
  ∀ (pins : List (Addr × Obj)) (s : Shared) (σ : St) (H : Hp) (Q : Bool → Hp → Prop), Inv X pins σ H s → t σ H Q →
    wpAny (model X.prog X.w) X.A (forIn ifs true fun c r => if r = true then do let ok ← isTrue c X.env (eval c X.env); pure (ForInStep.yield ok) else pure (ForInStep.yield r)) (TP X pins σ Q) X.xe s
noncomputable def tYes : TT := fun _ H Q => Q true H
theorem pcs_nil {X : Cx} : PCs X [] tYes := fun _ _ _ H _ I h => wpAny_tests_nil ⟨H, I, h⟩
theorem pcs_one {X : Cx} {c : Expr} {t : TT} (h : PT X c t) : PCs X [c] t := fun pins s σ H Q I hq => wpAny_tests_one (h pins s σ H Q I hq)
theorem compLoop_own {prog : Program} {w : World} {A : Around} {R : Result → Shared → Prop} {t0 : Shared} {elt tgt iter : Expr} {ifs : List Expr} {sc : Scope} {ps : Pos} {itv acc : Value} {ce : Env} (Wd : Nat → Shared → Prop)
    (step : ∀ k t, Wd k t → wpAny (model prog w) A (pyNext itv) (fun got t1 =>
      match got with
      | none => R (.ok .next) t1
      | some u => wpAny (model prog w) A (letOwnedTupleGo tgt itv u) (fun _ t2 => wpAny (model prog w) A (assign tgt ce u) (fun _ t3 =>
          wpAny (model prog w) A (forIn ifs true fun c r => if r = true then do let ok ← isTrue c ce (eval c ce); pure (ForInStep.yield ok) else pure (ForInStep.yield r)) (fun yes t4 =>
            if yes = true then wpAny (model prog w) A (eval elt ce) (fun val t5 => wpAny (model prog w) A (call (.builtin "list.append") [acc, val]) (fun _ t6 => ∃ m, m < k ∧ Wd m t6) (fun _ _ => False) t5) (fun _ _ => False) t4
            else ∃ m, m < k ∧ Wd m t4) (fun _ _ => False) t3) (fun _ _ => False) t2) (fun _ _ => False) t1) (fun _ _ => False) t)
    (k0 : Nat) (start : Wd k0 t0) : codeAny (model prog w) A (.compLoop (.ListComp elt [⟨tgt, iter, ifs, 0⟩] sc ps) 0 itv acc ce) R t0 := by
  refine codeAny_loop rfl Wd (fun k t hW => ?turn) k0 start
  case turn =>
    have nox : ∀ {α : Type} {m : Sem α} {Q : α → Shared → Prop} {E : Value → Shared → Prop} {z : Shared}, wpAny (model prog w) A m Q (fun _ _ => False) z → wpAny (model prog w) A m Q E z := fun h => wpAny_mono h (fun _ _ q => q) fun _ _ f => f.elim
    show wpAny _ A ((compTurn (.ListComp elt [⟨tgt, iter, ifs, 0⟩] sc ps) 0 itv acc ce).onRaise (fun x => do noteFrame x ce; theTreesLotGoes x)) _ _ t
    apply wpAny_noted
    rw [compTurn_list]
    refine wpAny_bind (wpAny_standAt (wpAny_bind (nox (wpAny_mono (step k t hW) (fun got t1 h1 => ?_) fun _ _ f => f))))
    cases got with
    | none => exact wpAny_pure h1
    | some u =>
      refine wpAny_bind (nox (wpAny_mono h1 (fun _ t2 h2 => ?_) fun _ _ f => f))
      refine wpAny_bind (nox (wpAny_mono h2 (fun _ t3 h3 => ?_) fun _ _ f => f))
      refine wpAny_bind (nox (wpAny_mono h3 (fun yes t4 h4 => ?_) fun _ _ f => f))
      cases yes with
      | false =>
        rw [if_neg Bool.false_ne_true] at h4
        exact wpAny_pure ⟨rfl, h4⟩
      | true =>
        rw [if_pos rfl] at h4
        refine wpAny_bind (wpAny_bind (nox (wpAny_mono h4 (fun val t5 h5 => ?_) fun _ _ f => f)))
        exact wpAny_bind (nox (wpAny_mono h5 (fun _ t6 h6 => wpAny_pure (wpAny_pure ⟨rfl, h6⟩)) fun _ _ f => f))
section
variable {X : Cx} {pins : List (Addr × Obj)} {σ : St} {H : Hp} {s : Shared}
noncomputable def listObj (its : List Value) (n : Nat) : Obj := { cls := .type "list", data := .seq its.toArray n }
theorem okBlk_free {sc out : Scope} (h : okBlk sc out = true) {p : Str × NameKind} (hp : p ∈ sc.names) (hf : p.2 = .free) : out.names.lookup p.1 = some .cell ∨ out.names.lookup p.1 = some .free := by
  have := List.all_eq_true.mp h p hp
  simp only [hf, Bool.and_eq_true, Bool.or_eq_true, beq_iff_eq, bne_iff_ne, ne_eq, not_true, false_or] at this
  exact this.2
theorem okBlk_cell {sc out : Scope} (h : okBlk sc out = true) {p : Str × NameKind} (hp : p ∈ sc.names) : p.2 ≠ .cell := by
  have := List.all_eq_true.mp h p hp
  simp only [Bool.and_eq_true, bne_iff_ne, ne_eq] at this
  exact this.1.1
theorem okBlk_local {sc out : Scope} (h : okBlk sc out = true) {p : Str × NameKind} (hp : p ∈ sc.names) (hf : p.2 = .local) : sc.names.lookup p.1 = some .local := by
  have := List.all_eq_true.mp h p hp
  simp only [hf, Bool.and_eq_true, Bool.or_eq_true, beq_iff_eq, bne_iff_ne, ne_eq, not_true, false_or] at this
  exact this.1.2
theorem relabel_lookup {sc : Scope} {env : Env} {x : Str} : ∀ {names : List (Str × NameKind)} {k : NameKind}, (names.map fun (p : Str × NameKind) => match p with | (n, k) => if (k == NameKind.free && env.scope.kind == .function && env.kindOf n == some .cell) then (n, NameKind.cell) else (n, k)).lookup x = some k →
    ∃ k', names.lookup x = some k' ∧ (k' = k ∨ (k' = .free ∧ k = .cell))
  | [], _, h => by simp at h
  | (n, q) :: r, k, h => by
    rw [List.map_cons] at h
    rw [List.lookup_cons]
    cases hx : (x == n) with
    | true =>
      refine ⟨q, rfl, ?_⟩
      by_cases hc : (q == NameKind.free && env.scope.kind == .function && env.kindOf n == some .cell) = true
      · simp only [hc, if_true, List.lookup_cons, hx] at h
        right
        simp only [Bool.and_eq_true, beq_iff_eq] at hc
        exact ⟨hc.1.1, (Option.some.inj h).symm⟩
      · left
        have h2 : List.lookup x ((n, q) :: (r.map fun (p : Str × NameKind) => match p with | (n, k) => if (k == NameKind.free && env.scope.kind == .function && env.kindOf n == some .cell) then (n, NameKind.cell) else (n, k))) = some k := by
          have h3 := h
          dsimp only at h3
          rw [if_neg hc] at h3
          exact h3
        rw [List.lookup_cons, hx] at h2
        exact Option.some.inj h2
    | false =>
      have : List.lookup x (r.map fun (p : Str × NameKind) => match p with | (n, k) => if (k == NameKind.free && env.scope.kind == .function && env.kindOf n == some .cell) then (n, NameKind.cell) else (n, k)) = some k := by
        by_cases hc : (q == NameKind.free && env.scope.kind == .function && env.kindOf n == some .cell) = true
        · simpa only [hc, if_true, List.lookup_cons, hx] using h
        · dsimp only at h
          rw [if_neg hc, List.lookup_cons, hx] at h
          exact h
      exact relabel_lookup (sc := sc) this
theorem mem_of_lookup' {names : List (Str × NameKind)} {x : Str} {k : NameKind} (h : names.lookup x = some k) : (x, k) ∈ names := PySem.mem_of_lookup h
theorem cl_sub (ok : X.Ok) {sc : Scope} (hb : okBlk sc X.env.scope = true) {x : Str} {c : Addr} (h : (clOf sc.names X.env.cells).lookup x = some c) : X.env.cells.lookup x = some c := by
  rcases clOf_gen X.env.cells sc.names [] x c h with ⟨h1, h2⟩ | h1
  · obtain ⟨d, hd⟩ := ok.has x (okBlk_free hb h1 rfl)
    rw [hd] at h2 ⊢
    rw [h2]
    rfl
  · simp at h1
theorem cl_has {sc : Scope} {x : Str} {cells : List (Str × Addr)} (h : (x, NameKind.free) ∈ sc.names) : ∃ c, (clOf sc.names cells).lookup x = some c :=
  Option.isSome_iff_exists.mp (clOf_has cells sc.names [] x (.inl h))
theorem Inv.stk_lt (I : Inv X pins σ H s) {b : Addr} (hb : b ∈ frs X.stack) : b < s.heap.objs.size := by
  rcases List.mem_cons.mp (I.stkSub b hb) with e | h
  · rw [e]; exact I.lt
  · obtain ⟨_, o, ho, _⟩ := I.ok.funs.mem h
    exact Nat.lt_of_lt_of_le (Heap.lt_size ho) I.sz
theorem Inv.cell_lt (I : Inv X pins σ H s) {x : Str} {c : Addr} (h : X.env.cells.lookup x = some c) : c < s.heap.objs.size := by
  obtain ⟨v, q⟩ := I.cell x c h
  exact q.lt
theorem Inv.pin_lt (I : Inv X pins σ H s) {p : Addr × Obj} (h : p ∈ X.pn ++ pins) : p.1 < s.heap.objs.size := Heap.lt_size (I.pin p h).1
theorem blk_ok (I : Inv X pins σ H s) {sc : Scope} {own : List Str} {js : List Nat} {fp : List Addr} {C : Nat} (hk : sc.kind = .function) (hb : okBlk sc X.env.scope = true)
    (hfp : ∀ b ∈ fp, FpOk X pins H b) (hC : s.heap.objs.size ≤ C) (hlt : ∀ b ∈ fp, b < s.heap.objs.size) : (blk X sc own js ⟨s, H, fp, C⟩).Ok where
  mod := I.ok.mod
  kind := hk
  glob := I.ok.glob
  blt := I.ok.blt
  above := hC
  inj := fun x y c h1 h2 => I.ok.inj x y c (cl_sub I.ok hb h1) (cl_sub I.ok hb h2)
  has := fun x hx => by
    have hx' : (relabel sc X.env).names.lookup x = some .cell ∨ (relabel sc X.env).names.lookup x = some .free := hx
    have go : ∀ k, (relabel sc X.env).names.lookup x = some k → (k = .cell ∨ k = .free) → ∃ c, (clOf sc.names X.env.cells).lookup x = some c := fun k h hkk => by
      obtain ⟨k', h1, h2⟩ := relabel_lookup (sc := sc) (env := X.env) h
      have m := mem_of_lookup' h1
      rcases h2 with h2 | ⟨h2, _⟩
      · subst h2
        rcases hkk with e | e
        · exact absurd e (okBlk_cell hb m)
        · rw [e] at m; exact cl_has m
      · rw [h2] at m; exact cl_has m
    rcases hx' with h | h
    · exact go _ h (.inl rfl)
    · exact go _ h (.inr rfl)
  cab := fun x c h _ => by cases h
  hd := I.ok.hd
  frames := I.ok.frames
  stk := .inl rfl
  exf := fun b hb' => ⟨Nat.ne_of_lt (Nat.lt_of_lt_of_le (hlt b hb') hC), fun x c e => (hfp b hb').2.2.2.2.1 x c (cl_sub I.ok hb e)⟩
  bs := I.bs
  bsz := Nat.le_trans I.ok.bsz I.sz
  noex := fun b o e hb' => by
    rcases (hfp b hb').2.2.2.1 with z | z
    · exact I.ok.noex b o e z
    · exact absurd (Nat.lt_of_lt_of_le (Heap.lt_size e) (Nat.le_trans I.ok.bsz z)) (Nat.lt_irrefl _)
  exfs := fun b hb' hm => by
    rcases List.mem_cons.mp (I.stkSub b hm) with e | h
    · exact (hfp b hb').2.1 e
    · exact (hfp b hb').2.2.1 h
  funs := I.stack
  frf := I.stkFree
theorem capt_get {n : Nat} {js : List Nat} {i : Nat} {v : V} (h : (capt n js σ)[i]? = some (some v)) : ∃ k j, i = n + k ∧ js[k]? = some j ∧ σ[j]? = some (some v) := by
  unfold capt at h
  by_cases hi : i < n
  · rw [List.getElem?_append_left (by simpa using hi), List.getElem?_replicate] at h
    split at h <;> cases h
  · rw [List.getElem?_append_right (by simpa using Nat.le_of_not_lt hi), List.length_replicate, List.getElem?_map] at h
    cases e : js[i - n]? with
    | none => rw [e] at h; cases h
    | some j =>
      rw [e] at h
      refine ⟨i - n, j, by omega, e, ?_⟩
      have h' : (σ[j]?).join = some v := by simpa using h
      cases q : σ[j]? with
      | none => rw [q] at h'; cases h'
      | some o =>
        rw [q] at h'
        have : o = some v := h'
        rw [this]
theorem blk_inv (I : Inv X pins σ H s) {sc : Scope} {own : List Str} {js : List Nat} {fp : List Addr} {C D : Nat} {h1 : Heap} {tk : Nat} {o : Obj} {m : Str → Option Value} (hk : sc.kind = .function) (hb : okBlk sc X.env.scope = true) (hj : okCap sc X.N js = true)
    (hfp : ∀ b ∈ fp, FpOk X pins H b) (hlt : ∀ b ∈ fp, b < s.heap.objs.size) (hD : D = s.heap.objs.size) (hC : C = s.heap.objs.size + 1) (old : ∀ b o, s.heap.get? b = some o → h1.get? b = some o)
    (hDo : h1.get? D = some o) (hod : ∀ v, o.data ≠ .cell v) (hm : h1.Ns C m) :
    Inv (blk X sc own js ⟨s, H, fp, C⟩) [(D, o)] (capt own.length js σ) H { s with heap := h1, toks := tk } where
  ok := blk_ok I hk hb hfp (show @LE.le Nat _ s.heap.objs.size C by omega) hlt
  os := rfl
  bare := I.bare
  base := Un.kept old
  loc := by
    refine ⟨m, hm, fun i x v e1 e2 e3 => ?_⟩
    obtain ⟨k, j, rfl, ej, es⟩ := capt_get e2
    have e1' : (own ++ js.map fun j => X.N.getD j "")[own.length + k]? = some x := e1
    rw [List.getElem?_append_right (by omega), Nat.add_sub_cancel_left, List.getElem?_map, ej] at e1'
    have ex : X.N.getD j "" = x := by simpa using e1'
    have hjj := List.all_eq_true.mp hj j (List.mem_of_getElem? ej)
    simp only [Bool.and_eq_true, decide_eq_true_eq, beq_iff_eq] at hjj
    have exN : X.N[j]? = some x := by
      rw [← ex, List.getD_eq_getElem?_getD, List.getElem?_eq_getElem hjj.1]
      rfl
    have hfree : sc.names.lookup x = some .free := by rw [← ex]; exact hjj.2
    have hmem := mem_of_lookup' hfree
    have hout := okBlk_free hb hmem rfl
    obtain ⟨m0, hn0, hl0⟩ := I.loc
    obtain ⟨u, r, l⟩ := hl0 j x v exN es (by rcases hout with z | z; exact .inr (.inl z); exact .inr (.inr z))
    refine ⟨u, r, ?_⟩
    obtain ⟨c, hc⟩ := cl_has (cells := X.env.cells) hmem
    have hc' := cl_sub I.ok hb hc
    have hcell : s.heap.IsCell c (some u) := by
      rcases l with ⟨z, _⟩ | ⟨_, c', e', q⟩
      · have z' : X.env.scope.names.lookup x = some .local := z
        rcases hout with w | w <;> (rw [z'] at w; cases w)
      · rw [hc'] at e'; cases e'; exact q
    have hcell1 : h1.IsCell c (some u) := by
      obtain ⟨oc, ho, hd⟩ := hcell
      exact ⟨oc, old c oc ho, hd⟩
    right
    refine ⟨?_, c, hc, hcell1⟩
    have e3' : (relabel sc X.env).names.lookup x = some .local ∨ (relabel sc X.env).names.lookup x = some .cell ∨ (relabel sc X.env).names.lookup x = some .free := e3
    rcases e3' with z | z
    · obtain ⟨k', z1, z2⟩ := relabel_lookup (sc := sc) (env := X.env) z
      rw [hfree] at z1
      rcases z2 with z2 | ⟨_, z2⟩
      · rw [z2] at z1; cases z1
      · cases z2
    · exact z
  cell := fun x c e => by
    obtain ⟨v, oc, ho, hd⟩ := I.cell x c (cl_sub I.ok hb e)
    exact ⟨v, oc, old c oc ho, hd⟩
  free := I.hok.fresh (show @LE.le Nat _ s.heap.objs.size C by omega)
  freeC := fun x c e => I.freeC x c (cl_sub I.ok hb e)
  pin := fun p hp => by
    have e : p = (D, o) := by simpa [blk] using hp
    subst e
    refine ⟨hDo, I.hok.fresh (show @LE.le Nat _ s.heap.objs.size D by omega), ?_, fun z => ?_, hod⟩
    · exact Nat.ne_of_lt (show @LT.lt Nat _ D C by omega)
    · have h9 : @LT.lt Nat _ D s.heap.objs.size := I.stk_lt (b := D) z
      omega
  hok := I.hok.kept old
  len := by
    show (capt own.length js σ).length = (own ++ js.map fun j => X.N.getD j "").length
    simp [capt]
noncomputable def CompBody (J : It) (n : Nat) (js : List Nat) (g : TG) (tc : TT) (te : TE) (σ : St) (H : Hp) (Q : VK) : Prop :=
  ∃ W : Nat → Nat → List V → Hp → Prop, (∃ m, W 0 m [] H) ∧ ∀ i m ys H', W i m ys H' →
    (J.stop i H' ∧ ∀ p, H' p = none → Q (.ref p) (upd H' p (.lst ys))) ∨
    (J.go i H' ∧ ys.length < sizeLine ∧ ∃ N : List V → Hp → Prop, (∀ ys' H2, N ys' H2 → ∃ m', m' < m ∧ W (i + 1) m' ys' H2) ∧ ∀ x H2, J.yld i H' x H2 → g x (capt n js σ) H2 fun σ2 H3 => tc σ2 H3 fun b H4 =>
      if b = true then te σ2 H4 fun v H5 => N (ys ++ [v]) H5 else N ys H4)
noncomputable def tComp (n : Nat) (js : List Nat) (wi : TI) (g : TG) (tc : TT) (te : TE) : TE := fun σ H Q => wi σ H fun J H1 => CompBody J n js g tc te σ H1 Q
structure TurnAt (X : Cx) (tg : Expr) (J : It) (fp : List Addr) (it : Addr) (tn : Nat → Heap → Prop) : Prop where
  obj : ∀ i h, tn i h → ∀ b ∈ fp, ∃ o, h.get? b = some o ∧ ∀ v, o.data ≠ .cell v
  keep : ∀ i h h', tn i h → (∀ b ∈ fp, ∀ o, h.get? b = some o → h'.get? b = some o) → tn i h'
  item : ∀ (i : Nat) (pins : List (Addr × Obj)) (s : Shared) (σ : St) (H : Hp) (E : Value → Shared → Prop), Inv X pins σ H s → (∀ b ∈ fp, FpOk X pins H b) → tn i s.heap → J.go i H →
    wpAny (model X.prog X.w) X.A (pyNext (.ref it)) (fun r s1 => ∃ u, r = some u ∧
      wpAny (model X.prog X.w) X.A (letOwnedTupleGo tg (.ref it) u) (fun _ s2 => ∃ x H', Inv X pins σ H' s2 ∧ RelV x u ∧ J.yld i H x H' ∧ tn (i + 1) s2.heap ∧ ∀ b ∈ fp, H' b = none) E s1) E s
  done : ∀ (i : Nat) (pins : List (Addr × Obj)) (s : Shared) (σ : St) (H : Hp) (E : Value → Shared → Prop), Inv X pins σ H s → (∀ b ∈ fp, FpOk X pins H b) → tn i s.heap → J.stop i H →
    wpAny (model X.prog X.w) X.A (pyNext (.ref it)) (fun r s1 => r = none ∧ Inv X pins σ H s1) E s
  self : ∀ (A : Around) (i : Nat) (s : Shared) (Q : Value → Shared → Prop) (E : Value → Shared → Prop), tn i s.heap → Q (.ref it) s → wpAny (model X.prog X.w) A (pyIter (.ref it)) Q E s
theorem Turn.at_ {Y : Cx} {tg : Expr} {J : It} {fp : List Addr} {it : Addr} {tn : Nat → Heap → Prop} (T : Turn Y.prog Y.w Y.K tg J fp it tn) (hc : Y.calm = true) : TurnAt Y tg J fp it tn := ⟨T.obj, T.keep, T.item Y rfl rfl rfl hc, T.done Y rfl rfl rfl hc, T.self⟩
theorem comp_core {elt tg iter : Expr} {ifs : List Expr} {sc : Scope} {pos : Pos} {own : List Str} {js : List Nat} {g : TG} {tc : TT} {te : TE} {J : It} {it : Addr} {fp : List Addr} {tn : Nat → Heap → Prop} {RR : Value → Addr → Result → Shared → Prop} {E : Value → Shared → Prop}
    {Q : VK} {W : Nat → Nat → List V → Hp → Prop} (hk : sc.kind = .function) (hb : okBlk sc X.env.scope = true) (hj : okCap sc X.N js = true)
    (hg : ∀ C, PG (blk X sc own js ⟨s, H, fp, C⟩) tg g) (ht : ∀ C, PCs (blk X sc own js ⟨s, H, fp, C⟩) ifs tc) (he : ∀ C, PE (blk X sc own js ⟨s, H, fp, C⟩) elt te)
    (I : Inv X pins σ H s) (T : ∀ C, TurnAt (blk X sc own js ⟨s, H, fp, C⟩) tg J fp it tn) (st : tn 0 s.heap) (hfp : ∀ b ∈ fp, FpOk X pins H b) (w0 : ∃ m, W 0 m [] H)
    (turn : ∀ i m ys H', W i m ys H' → (J.stop i H' ∧ ∀ p, H' p = none → Q (.ref p) (upd H' p (.lst ys))) ∨
      (J.go i H' ∧ ys.length < sizeLine ∧ ∃ N : List V → Hp → Prop, (∀ ys' H2, N ys' H2 → ∃ m', m' < m ∧ W (i + 1) m' ys' H2) ∧ ∀ x H2, J.yld i H' x H2 → g x (capt own.length js σ) H2 fun σ2 H3 => tc σ2 H3 fun b H4 =>
        if b = true then te σ2 H4 fun v H5 => N (ys ++ [v]) H5 else N ys H4))
    (fin : ∀ D C s' ys H', H' D = none → Inv X pins σ (upd H' D (.lst ys)) s' → FpOk X pins (upd H' D (.lst ys)) C → (∃ m, s'.heap.Ns C m) → s.heap.objs.size ≤ C → Q (.ref D) (upd H' D (.lst ys)) → RR (.ref D) C (.ok .next) s') :
    wpAny (model X.prog X.w) X.A (newList []) (fun acc s₃ => wpAny (model X.prog X.w) X.A (newFunctionEnv sc X.env.globals (clOf sc.names X.env.cells) [] X.env.qual none .none (some X.env)) (fun cenv s₄ =>
      codeAny (model X.prog X.w) X.A (.compStart (.ListComp elt [⟨tg, iter, ifs, 0⟩] sc pos) 0 (.ref it) acc { cenv with scope := relabel sc X.env }) (RR acc cenv.locals) s₄) E s₃) E s := by
  have hlt : ∀ b ∈ fp, b < s.heap.objs.size := fun b hb' => by
    obtain ⟨o, e, _⟩ := (T 0).obj 0 s.heap st b hb'
    exact Heap.lt_size e
  refine wpAny_newObj_type (wpAny_newFunctionEnv (fun y hy => okBlk_cell hb hy) (by intro y hy; simp at hy) (fun h₁ hns₁ hsb₁ => ?_) hk)
  dsimp only at hns₁ hsb₁ ⊢
  generalize hH2 : s.heap.push { cls := .type "list", dict := none, data := .seq ([] : List Value).toArray } = H2 at hns₁ hsb₁ ⊢
  have hCs : H2.objs.size = s.heap.objs.size + 1 := by rw [← hH2, Heap.size_push]
  generalize hCe : H2.objs.size = C at *
  have below : ∀ b : Nat, b < s.heap.objs.size → b ≠ C := fun b hb' => by omega
  have old : ∀ b o, s.heap.get? b = some o → h₁.get? b = some o := fun b o e => hsb₁.extBut b o (below b (Heap.lt_size e)) (Heap.get?_push_of_some _ (hH2 ▸ Heap.get?_push_of_some _ e))
  have hDo : h₁.get? s.heap.objs.size = some (listObj [] 0) := hsb₁.extBut _ _ (show @Ne Nat s.heap.objs.size C by omega) (Heap.get?_push_of_some _ (hH2 ▸ Heap.get?_push_size _ rfl))
  generalize hDe : s.heap.objs.size = D at *
  -- the loop's word
  let Y : Cx := blk X sc own js ⟨s, H, fp, C⟩
  have J0 : Inv Y [(D, listObj [] 0)] (capt own.length js σ) H { s with heap := h₁, toks := s.toks + ([] : List (Str × Value)).length } :=
    blk_inv I hk hb hj hfp (by rw [hDe]; exact hlt) hDe.symm (by rw [hDe]; exact hCs) old hDo (fun v z => by cases z) hns₁
  have ndC : @Ne Nat D C := by omega
  have statF : ∀ {P' : List (Addr × Obj)} {H' : Hp}, (∀ b ∈ fp, H' b = none) → (∀ p ∈ P', p.1 ∉ fp) → ∀ b ∈ fp, FpOk Y P' H' b := fun {P' H'} hn hp b hb' => by
    obtain ⟨f0, f1, f2, f3, f4, f5⟩ := hfp b hb'
    refine ⟨hn b hb', fun z => below b (hlt b hb') z, fun z => ?_, .inl hb', fun x c e => f4 x c (cl_sub I.ok hb e), fun p hp' z => ?_⟩
    · rcases List.mem_cons.mp (I.stkSub b z) with e | h
      · exact f1 e
      · exact f2 h
    · have : p ∈ P' := by simpa [Y, blk] using hp'
      exact hp p this (by rw [z]; exact hb')
  have Dfp : D ∉ fp := fun z => by have h9 : @LT.lt Nat _ D D := hlt D z; omega
  have st1 : tn 0 h₁ := (T 0).keep 0 s.heap h₁ st fun b _ o e => old b o e
  have loop : ∀ s₃ : Shared, s₃ = { s with heap := h₁, toks := s.toks + ([] : List (Str × Value)).length } →
      codeAny (model X.prog X.w) X.A (.compLoop (.ListComp elt [⟨tg, iter, ifs, 0⟩] sc pos) 0 (.ref it) (.ref D) Y.env) (RR (.ref D) C) s₃ := by
    rintro s₃ rfl
    obtain ⟨m0, w0⟩ := w0
    refine compLoop_own (fun n s' => ∃ i ys its q H', Inv Y [(D, listObj its q)] (capt own.length js σ) H' s' ∧ Vals ys its ∧ ys.length ≤ sizeLine ∧ tn i s'.heap ∧ (∀ b ∈ fp, H' b = none) ∧ W i n ys H') ?_ m0
      ⟨0, [], [], 0, H, J0, .nil, Nat.zero_le _, st1, fun b hb' => (hfp b hb').1, w0⟩
    rintro n s3 ⟨i, ys, its, q, H3, I3, rv, hz, st3, fr3, w3⟩
    have pD : ∀ p ∈ [(D, listObj its q)], p.1 ∉ fp := fun p hp => by
      have e : p = (D, listObj its q) := by simpa using hp
      rw [e]; exact Dfp
    rcases turn i n ys H3 w3 with ⟨stop, qn⟩ | ⟨go, hlen, N, hN, step⟩
    · -- the end
      refine thn ((T C).done i _ s3 _ H3 _ I3 (statF fr3 pD) st3 stop) fun r s4 ⟨hr, I4⟩ => ?_
      subst hr
      show RR (.ref D) C (.ok .next) s4
      have hDp := I4.pin (D, listObj its q) (List.mem_append_right _ (List.mem_singleton.mpr rfl))
      have hD4 : s4.heap.get? D = some (listObj its q) := hDp.1
      have nD : H3 D = none := hDp.2.1
      have U : Un (frs X.stack) fp H H3 s.heap s4.heap := I4.base
      have neD : ∀ b o, s.heap.get? b = some o → b ≠ D := fun b o e => Nat.ne_of_lt (by have h9 : @LT.lt Nat _ b s.heap.objs.size := Heap.lt_size e; omega)
      have neDH : ∀ b o, H b = some o → b ≠ D := fun b o e => Nat.ne_of_lt (by have h9 : @LT.lt Nat _ b s.heap.objs.size := I.hok.lt e; omega)
      have U2 : Un (frs X.stack) fp H (upd H3 D (.lst ys)) s.heap s4.heap :=
        ⟨U.keep, U.slot, fun b o e n hx => by rw [upd_ne (neD b o e)]; exact U.free b o e n hx, U.there, fun b xs e => by rw [upd_ne (neDH b _ e)]; exact U.tups b xs e,
          fun b o u e => by rw [upd_ne (neDH b _ e)]; exact U.frzs b o u e, fun b ps e => by rw [upd_ne (neDH b _ e)]; exact U.tbls b ps e⟩
      have hok2 : HOk X.prog X.w (upd H3 D (.lst ys)) s4.heap := fun b o e => by
        by_cases hb' : b = D
        · subst hb'
          rw [upd_same] at e
          cases e
          exact ⟨hz, its, q, rv, hD4⟩
        · rw [upd_ne hb'] at e
          exact (I4.hok b o e).stay (fun c u _ z => z) (fun c z => by rw [upd_ne (ne_of_none z nD)]; exact z) fun c xs z => by rw [upd_ne (ne_of_none z nD)]; exact z
      have IX : Inv X pins σ (upd H3 D (.lst ys)) s4 := I.call' (ch := fp) I4.os U2 hok2 I4.bare fun b hb' => by
        obtain ⟨f0, f1, f2, f3, f4, f5⟩ := hfp b hb'
        exact ⟨f3, f1, f4, f5⟩
      obtain ⟨m4, hn4, _⟩ := I4.loc
      have nC : H3 C = none := I4.free
      refine fin D C s4 ys H3 nD IX ?_ ⟨m4, hn4⟩ (show @LE.le Nat _ D C by omega) (qn D nD)
      refine ⟨by rw [upd_ne (Ne.symm ndC)]; exact nC, ?_, ?_, ?_, ?_, ?_⟩
      · have h9 : @LT.lt Nat _ X.env.locals s.heap.objs.size := I.lt
        exact Nat.ne_of_gt (show @LT.lt Nat _ X.env.locals C by omega)
      · exact I.nofs (show @LE.le Nat _ s.heap.objs.size C by omega)
      · right
        have h9 : @LE.le Nat _ X.s₀.heap.objs.size s.heap.objs.size := I.sz
        exact (show @LE.le Nat _ X.s₀.heap.objs.size C by omega)
      · intro x c e
        have h9 : @LT.lt Nat _ c s.heap.objs.size := I.cell_lt e
        exact Nat.ne_of_lt (show @LT.lt Nat _ c C by omega)
      · intro p hp
        have h9 : @LT.lt Nat _ p.1 s.heap.objs.size := I.pin_lt hp
        exact Nat.ne_of_lt (show @LT.lt Nat _ p.1 C by omega)
    · -- a turn
      refine thn ((T C).item i _ s3 _ H3 _ I3 (statF fr3 pD) st3 go) fun r s4 ⟨u, hr, h4⟩ => ?_
      subst hr
      refine thn h4 fun _ s5 ⟨x, H5, I5, r5, y5, st5, fr5⟩ => ?_
      have I5' := I5.pinned (statF fr5 pD) ((T 0).obj _ _ st5)
      refine thn (hg _ _ s5 _ H5 x u _ I5' r5 (step x H5 y5)) fun _ s6 ⟨σ6, H6, I6, q6⟩ => ?_
      refine thn (ht _ _ s6 σ6 H6 _ I6 q6) fun ok s7 ⟨H7, I7, q7⟩ => ?_
      have back : ∀ {s' : Shared} {σ' : St} {H' : Hp} {ys' : List V} {its' : List Value} {q' : Nat}, Inv Y ([(D, listObj its' q')] ++ pinsAt fp s5.heap) σ' H' s' → Vals ys' its' → ys'.length ≤ sizeLine → N ys' H' →
          ∃ m, m < n ∧ ∃ i ys its q H', Inv Y [(D, listObj its q)] (capt own.length js σ) H' s' ∧ Vals ys its ∧ ys.length ≤ sizeLine ∧ tn i s'.heap ∧ (∀ b ∈ fp, H' b = none) ∧ W i m ys H' := by
        intro s' σ' H' ys' its' q' I' rv' hz' nn
        obtain ⟨m', hm, w'⟩ := hN ys' H' nn
        have hpin : ∀ b ∈ fp, ∀ o, s5.heap.get? b = some o → s'.heap.get? b = some o ∧ H' b = none := fun b hb' o e => by
          have := I'.pin (b, o) (List.mem_append_right _ (List.mem_append_right _ (mem_pinsAt hb' e)))
          exact ⟨this.1, this.2.1⟩
        refine ⟨m', hm, i + 1, ys', its', q', H', ?_, rv', hz', (T 0).keep _ _ _ st5 fun b hb' o e => (hpin b hb' o e).1, fun b hb' => ?_, w'⟩
        · have I'' := I'.unpinned
          obtain ⟨mm, hmm, _⟩ := id I''.loc
          refine ⟨I''.ok, I''.os, I''.bare, I''.base, ⟨mm, hmm, fun k x v e1 e2 e3 => ?_⟩, I''.cell, I''.free, I''.freeC, I''.pin, I''.hok, ?_⟩
          · -- the captured names: their cells are as they were at the block's beginning
            obtain ⟨m1, hn1, hl1⟩ := J0.loc
            obtain ⟨u1, r1, l1⟩ := hl1 k x v e1 e2 e3
            refine ⟨u1, r1, ?_⟩
            rcases l1 with ⟨z, zz⟩ | ⟨z, c, e, zz⟩
            · -- a captured name is no local one
              exfalso
              obtain ⟨k', j, rfl, ej, es⟩ := capt_get e2
              have e1' : (own ++ js.map fun j => X.N.getD j "")[own.length + k']? = some x := e1
              rw [List.getElem?_append_right (by omega), Nat.add_sub_cancel_left, List.getElem?_map, ej] at e1'
              have ex : X.N.getD j "" = x := by simpa using e1'
              have hjj := List.all_eq_true.mp hj j (List.mem_of_getElem? ej)
              simp only [Bool.and_eq_true, decide_eq_true_eq, beq_iff_eq] at hjj
              have hfree : sc.names.lookup x = some .free := by rw [← ex]; exact hjj.2
              obtain ⟨k2, z1, z2⟩ := relabel_lookup (sc := sc) (env := X.env) (show (relabel sc X.env).names.lookup x = some .local from z)
              rw [hfree] at z1
              rcases z2 with z2 | ⟨_, z2⟩
              · rw [z2] at z1; cases z1
              · cases z2
            · refine .inr ⟨z, c, e, ?_⟩
              have hcs : X.env.cells.lookup x = some c := cl_sub I.ok hb e
              obtain ⟨ov, oc, hoc, hdc⟩ := I.cell x c hcs
              have hoc1 := old c oc hoc
              obtain ⟨oz, hoz, hdz⟩ := zz
              have hoz' : h₁.get? c = some oz := hoz
              rw [hoc1] at hoz'
              cases hoz'
              have cnf : c ∉ fp := fun z' => (hfp c z').2.2.2.2.1 x c hcs rfl
              obtain ⟨sl, hh⟩ := I''.base.any hoc (I.freeC x c hcs) cnf
              exact ⟨_, hh, hdz⟩
          · show (capt own.length js σ).length = _
            exact J0.len
        · obtain ⟨o, e, d⟩ := (T 0).obj _ _ st5 b hb'
          exact (hpin b hb' o e).2
      cases ok with
      | false =>
        rw [if_neg Bool.false_ne_true] at q7 ⊢
        exact back I7 rv hz q7
      | true =>
        rw [if_pos rfl] at q7 ⊢
        refine thn (he _ _ s7 σ6 H7 _ I7 q7) fun xv s8 ⟨v, H8, I8, r8, q8⟩ => ?_
        have hDp := I8.pin (D, listObj its q) (List.mem_append_right _ (List.mem_append_left _ (List.mem_singleton.mpr rfl)))
        have hD8 : s8.heap.get? D = some { cls := .type "list", data := .seq its.toArray q } := hDp.1
        have hl := rv.length
        refine call_meets F.slot_list_append ⟨_, hD8, rfl⟩ F.entry_list_append (F.args_list_append_2 _ _) (PySem.list_append D its.toArray q xv (by rw [List.size_toArray]; omega)) ⟨hD8, ?_⟩
        have qq := PySem.IsL.update hD8 (fun a => a.push xv)
        have eqs : its.toArray.push xv = (its ++ [xv]).toArray := by simp
        rw [eqs] at qq
        obtain ⟨q2, hq2⟩ : ∃ q2, (s8.heap.update D (Obj.mapSeq fun a => a.push xv)).get? D = some (listObj (its ++ [xv]) q2) := ⟨_, qq⟩
        -- without the pin of D, the record turns, then it is pinned again
        have I8a : Inv Y (pinsAt fp s5.heap) σ6 H8 s8 := I8.pins_of fun p hp => I8.pin p (List.mem_append_right _ (List.mem_append_right _ hp))
        have nD8 : H8 D = none := hDp.2.1
        have I9 : Inv Y (pinsAt fp s5.heap) σ6 H8 { s8 with heap := s8.heap.update D (Obj.mapSeq fun a => a.push xv), toks := s8.toks } := by
          refine I8a.turned (it := D) (fun b o hb' e => (Heap.get?_update_other s8.heap (Obj.mapSeq fun a => a.push xv) (Ne.symm hb')).trans e) nD8 ndC (.inr (show @LE.le Nat _ s.heap.objs.size D by omega)) (fun x c e => ?_) fun p hp => ?_
          · have h9 : @LT.lt Nat _ c s.heap.objs.size := I.cell_lt (cl_sub I.ok hb e)
            exact Nat.ne_of_lt (show @LT.lt Nat _ c D by omega)
          · have hp' : p ∈ pinsAt fp s5.heap := by simpa [Y, blk] using hp
            obtain ⟨h1, _⟩ := of_pinsAt hp'
            exact fun z => Dfp (z ▸ h1)
        refine back (ys' := ys ++ [v]) (its' := its ++ [xv]) (q' := q2) (I9.pins_of fun p hp => ?_) (rv.append (.cons r8 .nil)) (by rw [List.length_append, List.length_singleton]; omega) q8
        rcases List.mem_append.mp hp with hp | hp
        · have e : p = (D, listObj (its ++ [xv]) q2) := by simpa using hp
          subst e
          refine ⟨hq2, nD8, ndC, fun z => ?_, fun v z => by cases z⟩
          have h9 : @LT.lt Nat _ D s.heap.objs.size := I.stk_lt (b := D) z
          omega
        · exact I9.pin p (List.mem_append_right _ hp)
  exact codeAny_compStart_list (loop _ rfl) ((T 0).self X.A 0 { s with heap := h₁, toks := s.toks + ([] : List (Str × Value)).length } _ _ st1 (loop _ rfl))
theorem pe_comp {elt tg iter : Expr} {ifs : List Expr} {sc : Scope} {pos : Pos} (own : List Str) (js : List Nat) {wi : TI} {g : TG} {tc : TT} {te : TE} (hi : PI X tg iter wi) (hg : ∀ z, PG (blk X sc own js z) tg g) (ht : ∀ z, PCs (blk X sc own js z) ifs tc)
    (he : ∀ z, PE (blk X sc own js z) elt te) (hc : X.calm = true := by rfl) (hk : sc.kind = .function := by rfl) (hb : okBlk sc X.env.scope = true := by rfl) (hj : okCap sc X.N js = true := by rfl)
    (hs : ∀ x, foldedSetIterable iter X.env x = pure x := by intro _; rfl) : PE X (.ListComp elt [⟨tg, iter, ifs, 0⟩] sc pos) (tComp own.length js wi g tc te) := by
  intro pins s σ H Q I h
  rw [eval_ListComp]
  refine wpAny_comprehension_free (use := none) rfl hs (closure_eq fun p hp hf => I.ok.has p.1 (okBlk_free hb hp hf)) hk (fun p hp hl => okBlk_local hb hp hl) (thn (hi pins s σ H _ I h) fun v s1 h1 => thn h1 fun itv s2 h2 => ?_)
  obtain ⟨it, fp, tn, J, H2, e, I2, T, st2, f2, W, w0, turn⟩ := h2
  subst e
  refine comp_core (RR := fun acc C => compPost (model X.prog X.w) X.A X.xe none (EP X pins σ Q) acc C) hk hb hj (fun _ => hg _) (fun _ => ht _) (fun _ => he _) I2 (fun C => Turn.at_ (Y := blk X sc own js ⟨_, _, _, C⟩) T hc) st2 f2 w0 turn ?_
  intro D C s' ys H' nD I' hC ⟨m, hm⟩ _ q
  refine ⟨m, hm, fun h' hs' => ?_⟩
  obtain ⟨f0, f1, f2, f3, f4, f5⟩ := hC
  exact ⟨.ref D, _, I'.turned (t' := s'.toks) (it := C) (fun b o hb' e => (hs'.2 b hb').trans e) f0 f1 f3 f4 f5, rfl, q⟩
theorem ps_setComp {i : Nat} {y : Str} {py : Pos} {elt tg iter : Expr} {ifs : List Expr} {sc : Scope} {pos spos : Pos} (own : List Str) (js : List Nat) {wi : TI} {g : TG} {tc : TT} {te : TE} (hN : X.N.Nodup) (hi' : X.N[i]? = some y) (hx : Loc X.env.scope y)
    (hi : PI X tg iter wi) (hg : ∀ z, PG (blk X sc own js z) tg g) (ht : ∀ z, PCs (blk X sc own js z) ifs tc)
    (he : ∀ z, PE (blk X sc own js z) elt te) (hsw : swapsWith (.ListComp elt [⟨tg, iter, ifs, 0⟩] sc pos) (some (.Name y py)) spos.line X.env = pure true := by rfl) (hc : X.calm = true := by rfl) (hk : sc.kind = .function := by rfl) (hb : okBlk sc X.env.scope = true := by rfl) (hj : okCap sc X.N js = true := by rfl)
    (hs : ∀ x, foldedSetIterable iter X.env x = pure x := by intro _; rfl) (hf : X.fn y = true ∨ X.env.scope.names.lookup y = some .local := by first | exact .inl rfl | exact .inr rfl | assumption) :
    PS X (.Assign [.Name y py] (.ListComp elt [⟨tg, iter, ifs, 0⟩] sc pos) spos) (tAsg (tComp own.length js wi g tc te) (gName i)) := by
  intro pins s σ H D' I h
  rw [exec_Assign_Name_used _ _ _ _ hsw]
  refine wpAny_bind (wpAny_standAt (wpAny_bind ?_))
  show wpAny _ X.A (do let _ ← comprehension (.ListComp elt [⟨tg, iter, ifs, 0⟩] sc pos) sc X.env _ (newList []) false (eval iter X.env) (some (assign (.Name y py) X.env))) _ _ s
  refine wpAny_bind (wpAny_mono (wpAny_comprehension_free (use := some (assign (.Name y py) X.env)) (Q := fun _ s' => SP X pins D' .next s') rfl hs (closure_eq fun p hp hf => I.ok.has p.1 (okBlk_free hb hp hf)) hk (fun p hp hl => okBlk_local hb hp hl)
    (thn (hi pins s σ H _ I h) fun v s1 h1 => thn h1 fun itv s2 h2 => ?_)) (fun _ s' hq => wpAny_pure (wpAny_pure hq)) fun _ _ e => e)
  obtain ⟨it, fp, tn, J, H2, e, I2, T, st2, f2, W, w0, turn⟩ := h2
  subst e
  refine comp_core (Q := fun x H1 => gName i x σ H1 D'.nx) (RR := fun acc C => compPost (model X.prog X.w) X.A X.xe (some (assign (.Name y py) X.env)) (fun _ s' => SP X pins D' .next s') acc C) hk hb hj (fun _ => hg _) (fun _ => ht _) (fun _ => he _) I2 (fun C => Turn.at_ (Y := blk X sc own js ⟨_, _, _, C⟩) T hc) st2 f2 w0 turn ?_
  intro D C s' ys H' nD I' hC ⟨m, hm⟩ hCs q
  show wpAny _ X.A (assign (.Name y py) X.env (.ref D)) _ _ _
  refine wpAny_assign_Name (store_ok2 I' hN hi' hx (v := .ref D) rfl (fun s'' I'' ⟨a, hsb, ha⟩ => ?_) hf)
  obtain ⟨f0, f1, f2, f3, f4, f5⟩ := hC
  have hac : a ≠ C := by
    rcases ha with rfl | ha
    · exact Ne.symm f1
    · exact f4 y a ha
  refine ⟨m, hm.sameBut hsb (Ne.symm hac), fun h' hs' => ?_⟩
  exact ⟨_, _, I''.turned (t' := s''.toks) (it := C) (fun b o hb' e => (hs'.2 b hb').trans e) f0 f1 f3 f4 f5, q⟩
end
theorem comp_list {K : PySem.W.Frag} {a : Addr} {xs : List V} {n : Nat} {js : List Nat} {g : TG} {tc : TT} {te : TE} {Q : VK} {σ : St} {H : Hp} (Pv : Nat → List V → Hp → Prop) (hz : xs.length ≤ sizeLine) (h0 : Pv 0 [] H) (hl : ∀ i ys H, i ≤ xs.length → Pv i ys H → SqL K H a xs ∧ ys.length ≤ i)
    (hs : ∀ i x ys H, xs[i]? = some x → Pv i ys H → g x (capt n js σ) H fun σ2 H3 => tc σ2 H3 fun b H4 => if b = true then te σ2 H4 fun v H5 => Pv (i + 1) (ys ++ [v]) H5 else Pv (i + 1) ys H4)
    (hd : ∀ ys H p, Pv xs.length ys H → H p = none → Q (.ref p) (upd H p (.lst ys))) : CompBody (Itl K a) n js g tc te σ H Q := by
  refine ⟨fun i m ys H => m = xs.length - i ∧ i ≤ xs.length ∧ Pv i ys H, ⟨xs.length, by simp, Nat.zero_le _, h0⟩, ?_⟩
  rintro i m ys H ⟨rfl, hi, p⟩
  have q := hl i ys H hi p
  by_cases hlt : i < xs.length
  · refine .inr ⟨⟨xs, xs[i], q.1, by simp [hlt]⟩, by have := q.2; omega, Pv (i + 1), fun ys' H' p' => ⟨xs.length - (i + 1), by omega, rfl, hlt, p'⟩, fun x H' y => ?_⟩
    obtain ⟨e, y⟩ := y
    subst e
    exact hs i x ys _ (y xs q.1) p
  · have e : i = xs.length := by omega
    subst e
    exact .inl ⟨⟨xs, q.1, Nat.le_refl _⟩, fun p' hp => hd ys H p' p hp⟩
theorem comp_tup {K : PySem.W.Frag} {a : Addr} {xs : List V} {n : Nat} {js : List Nat} {g : TG} {tc : TT} {te : TE} {Q : VK} {σ : St} {H : Hp} (Pv : Nat → List V → Hp → Prop) (hz : xs.length ≤ sizeLine) (h0 : Pv 0 [] H) (hl : ∀ i ys H, i ≤ xs.length → Pv i ys H → SqT K H a xs ∧ ys.length ≤ i)
    (hs : ∀ i x ys H, xs[i]? = some x → Pv i ys H → g x (capt n js σ) H fun σ2 H3 => tc σ2 H3 fun b H4 => if b = true then te σ2 H4 fun v H5 => Pv (i + 1) (ys ++ [v]) H5 else Pv (i + 1) ys H4)
    (hd : ∀ ys H p, Pv xs.length ys H → H p = none → Q (.ref p) (upd H p (.lst ys))) : CompBody (Itt K a) n js g tc te σ H Q := by
  refine ⟨fun i m ys H => m = xs.length - i ∧ i ≤ xs.length ∧ Pv i ys H, ⟨xs.length, by simp, Nat.zero_le _, h0⟩, ?_⟩
  rintro i m ys H ⟨rfl, hi, p⟩
  have q := hl i ys H hi p
  by_cases hlt : i < xs.length
  · refine .inr ⟨⟨xs, xs[i], q.1, by simp [hlt]⟩, by have := q.2; omega, Pv (i + 1), fun ys' H' p' => ⟨xs.length - (i + 1), by omega, rfl, hlt, p'⟩, fun x H' y => ?_⟩
    obtain ⟨e, y⟩ := y
    subst e
    exact hs i x ys _ (y xs q.1) p
  · have e : i = xs.length := by omega
    subst e
    exact .inl ⟨⟨xs, q.1, Nat.le_refl _⟩, fun p' hp => hd ys H p' p hp⟩
end L2
set_option Elab.async false
set_option linter.all false
set_option maxRecDepth 100000
set_option maxHeartbeats 4000000
namespace L2
open PySem PySem.Spec PyProof.Rows
structure Cal (P : Program) (w : World) (K : PySem.W.Frag) (mg : Str → Option Value) (base : Heap) (x : Str) (k : Nat) (ps : List Str) (sp : Sp) : Prop where
  ex : ∃ (f : Addr) (fd : FuncData), mg x = some (.ref f) ∧ PySem.W.keepIn K (.ref f) = true ∧ Binds K fd ps [] ∧ FnOk P w K mg base CX0 k f fd ps sp
structure Dfn (K : PySem.W.Frag) (mg : Str → Option Value) (x : Str) (st : Stmt) (ps : List Str) : Prop where
  ex : ∃ (f : Addr) (fd : FuncData), mg x = some (.ref f) ∧ Fun K x x st f fd ∧ Binds K fd ps []
section
variable {P : Program} {w : World} {K : PySem.W.Frag} {mg : Str → Option Value} {base : Heap}
theorem Dfn.ok {x : Str} {st : Stmt} {N ps : List Str} {k : Nat} {sp : Sp} (D : Dfn K mg x st ps) (S : FnScope N ps (defScope st)) (len : ∀ vs H Q E, sp vs H Q E → vs.length = ps.length)
    (hbody : ∀ (X : Cx) (hX : ∃ f cdv A outer s H E, X = (cxOf CX0 P w K mg base N x (defScope st) f cdv A outer s H E).nox ∧ Room k X.A) (H : Hp) (vs : List V) (Q : VK) (E : XK), sp vs H Q E →
      ∃ t, PSs X (defBody st) t ∧ t { nx := fun _ H' => Q .non H', rt := Q } (start N vs) H) : Cal P w K mg base x (k + 1) ps sp := by
  obtain ⟨f, fd, hm, F, hb⟩ := D.ex
  exact ⟨f, fd, hm, F.kp, hb, F.ok S len fun cdv A outer s H vs Q E hr h => hbody _ ⟨f, cdv, A, outer, s, H, E, rfl, hr⟩ H vs Q E h⟩
end
section
variable {X : Cx}
theorem pe_cal {x : Str} {k j : Nat} {ps : List Str} {sp : Sp} {e : Expr} {es : List Expr} {t : TA} {p pos : Pos} (C : Cal X.prog X.w X.K X.mg X.base x j ps sp) (hr : Room k X.A) (ha : PA X (e :: es) t) (hjk : j ≤ k := by decide) (hg : Gl X x := by rfl) (hdb : (x == ("__debug__" : Str)) = false := by decide)
    (he : starEach (e :: es) X.env = (false, eval e X.env) :: starEach es X.env := by rfl) (hpl : (backTo pos (starEach es X.env)).any (·.1) = false := by rfl) :
    PE X (.Call (.Name x p) (e :: es) [] pos) (tCall sp [] E0 t) := by
  obtain ⟨f, fd, hm, hk, hb, F⟩ := C.ex
  exact pe_call F (hr.mono hjk) hg hm hk hb .nil pass0 ha hdb he hpl
theorem op_fdivL : OpR X (binaryOp .FloorDiv) (rI (fun _ j => 0 < j ∧ j < 2 ^ 64) fun i j => .int (i / j)) := opI fun i j _ _ _ _ _ hc q => by
  have h1 : (0 : Int) < j := hc.1
  have h2 : j < 2 ^ 64 := hc.2
  refine floordiv_int (by omega) (by rw [Int.fdiv_eq_ediv_of_nonneg i (by omega)]; exact q) (.inl (PyProof.noPylong_of_log2 ?_))
  have h0 : j.natAbs ≠ 0 := by omega
  have h64 : j.natAbs < 2 ^ 64 := by omega
  have := (Nat.log2_lt h0).mpr h64
  omega
noncomputable def kindV (H : Hp) : V → String → Prop
  | .non, n => n = "NoneType"
  | .bl _, n => n = "bool"
  | .int _, n => n = "int"
  | .str _, n => n = "str"
  | .ref a, n => (n = "list" ∧ ∃ xs, H a = some (.lst xs)) ∨ (n = "tuple" ∧ ∃ xs, H a = some (.tup xs))
  | _, _ => False
theorem kindV.ty {K : PySem.W.Frag} {H : Hp} {x : V} {n : String} (h : kindV H x n) : TyOf K H x (.type n) := by
  cases x with
  | non => cases (show n = "NoneType" from h); exact .non
  | bl b => cases (show n = "bool" from h); exact .bl b
  | int i => cases (show n = "int" from h); exact .int i
  | str z => cases (show n = "str" from h); exact .str z
  | ref a =>
    rcases h with ⟨rfl, xs, e⟩ | ⟨rfl, xs, e⟩
    · exact .lst e
    · exact .tup e
  | _ => exact False.elim h
noncomputable def isiB : String → String → Option Bool
  | "NoneType", "tuple" => some false | "NoneType", "int" => some false | "NoneType", "bool" => some false | "NoneType", "list" => some false | "NoneType", "str" => some false
  | "bool", "tuple" => some false | "bool", "int" => some true | "bool", "bool" => some true | "bool", "list" => some false | "bool", "str" => some false
  | "int", "tuple" => some false | "int", "int" => some true | "int", "bool" => some false | "int", "list" => some false | "int", "str" => some false
  | "str", "tuple" => some false | "str", "int" => some false | "str", "bool" => some false | "str", "list" => some false | "str", "str" => some true
  | "list", "tuple" => some false | "list", "int" => some false | "list", "bool" => some false | "list", "list" => some true | "list", "str" => some false
  | "tuple", "tuple" => some true | "tuple", "int" => some false | "tuple", "bool" => some false | "tuple", "list" => some false | "tuple", "str" => some false
  | _, _ => none
theorem isiB_kit {K : PySem.W.Frag} {n T : String} {b : Bool} (h : isiB n T = some b) : PySem.W.kitOne K (.type n) (.type T) = some b := by
  unfold isiB at h
  split at h <;> first
    | (cases h; kernel_rfl)
    | cases h
noncomputable def rIsi : List V → Hp → VK → Prop := fun xs H Q => ∃ x n T b, xs = [x, .ty T] ∧ kindV H x n ∧ isiB n T = some b ∧ Q (.bl b) H
theorem call_isi : CallR X (.builtin "isinstance") rIsi := by
  intro pins s σ H xs us Q I r h
  obtain ⟨x, n, T, b, rfl, hk, hb, q⟩ := h
  obtain ⟨u, w', rfl, r1, r2⟩ := vals2 r
  cases (show w' = Value.type T from r2)
  exact isinst_ok I r1 hk.ty (isiB_kit hb) fun tk => ⟨.bl b, H, I.tok tk, rfl, q⟩
noncomputable def rLen (K : PySem.W.Frag) : List V → Hp → VK → Prop := fun xs H Q => ∃ p ys, xs = [.ref p] ∧ (SqL K H p ys ∨ SqT K H p ys) ∧ Q (.int ys.length) H
theorem call_lenN : CallR X (.builtin "len") (rLen X.K) := call_len_seq
noncomputable def rTupOf (K : PySem.W.Frag) : List V → Hp → VK → Prop := fun xs H Q => ∃ p ys, xs = [.ref p] ∧ ((SqL K H p ys ∧ ∀ l, H l = none → Q (.ref l) (upd H l (.tup ys))) ∨ (SqT K H p ys ∧ Q (.ref p) H))
theorem call_tupN : CallR X (.type "tuple") (rTupOf X.K) := call_tuple_of
noncomputable def rListOf (K : PySem.W.Frag) : List V → Hp → VK → Prop := fun xs H Q => ∃ p ys, xs = [.ref p] ∧ (SqL K H p ys ∨ SqT K H p ys) ∧ ∀ l, H l = none → Q (.ref l) (upd H l (.lst ys))
theorem call_listN : CallR X (.type "list") (rListOf X.K) := call_list_of
noncomputable def rMax2 : List V → Hp → VK → Prop := fun xs H Q => ∃ i j, xs = [.int i, .int j] ∧ Q (.int (if j > i then j else i)) H
theorem call_max2N (hc : X.calm = true) : CallR X (.builtin "max") rMax2 := call_max2 hc
noncomputable def rMin2 : List V → Hp → VK → Prop := fun xs H Q => ∃ i j, xs = [.int i, .int j] ∧ Q (.int (if j < i then j else i)) H
theorem call_min2N (hc : X.calm = true) : CallR X (.builtin "min") rMin2 := call_min2 hc
end
end L2
set_option Elab.async false
set_option linter.all false
set_option maxRecDepth 100000
set_option maxHeartbeats 4000000
namespace L2
open PySem PySem.Spec PyProof.Rows
noncomputable def Ext (H H' : Hp) : Prop := ∀ b o, H b = some o → H' b = some o
theorem Ext.rfl' (H : Hp) : Ext H H := fun _ _ h => h
theorem Ext.trans {H H1 H2 : Hp} (a : Ext H H1) (b : Ext H1 H2) : Ext H H2 := fun x o h => b x o (a x o h)
theorem Ext.none {H H' : Hp} (e : Ext H H') {l : Addr} (h : H' l = Option.none) : H l = Option.none := by
  cases q : H l with
  | none => rfl
  | some o => rw [e l o q] at h; cases h
section
variable {X : Cx} (K : PySem.W.Frag)
theorem ix_listK (h : X.K = K := by rfl) : IxR X (rIxL K) := by subst h; exact ix_list
theorem ix_tupK (h : X.K = K := by rfl) : IxR X (rIxT K) := by subst h; exact ix_tup
theorem sl_listK (h : X.K = K := by rfl) : SlR X (rSlL K) := by subst h; exact sl_list
theorem call_lenK (h : X.K = K := by rfl) : CallR X (.builtin "len") (rLen K) := by subst h; exact call_lenN
theorem call_tupK (h : X.K = K := by rfl) : CallR X (.type "tuple") (rTupOf K) := by subst h; exact call_tupN
theorem call_listK (h : X.K = K := by rfl) : CallR X (.type "list") (rListOf K) := by subst h; exact call_listN
theorem pi_listK {tg l : Expr} {tl : TE} (hl : PE X l tl) (h : X.K = K := by rfl) : PI X tg l (iList K tl) := by subst h; exact pi_list hl
theorem pi_tupK {tg l : Expr} {tl : TE} (hl : PE X l tl) (h : X.K = K := by rfl) : PI X tg l (iTup K tl) := by subst h; exact pi_tup hl
theorem pg_tupK {es : List Expr} {k : Nat} {t : TGs} {n : Nat} {pos : Pos} (hc : X.calm = true) (hg : PGs X es t) (h : X.K = K := by rfl)
    (hn : (assignEach es X.env).length = n := by rfl) (hst : (assignEach es X.env).findIdx? (·.1) = none := by rfl) : PG X (.Tuple es k pos) (gTup K n t) := by subst h; exact pg_tup hc hg hn hst
theorem pe_bmK {o e : Expr} {es : List Expr} {to : TE} {t : TA} {name : Str} {apos cpos : Pos} {T id : String} {r : V → List V → Hp → VK → Prop} (pa : PlainAttrs T) (slot : Slot T name id) (hty : typeOf (.builtin id) = pure (.type "method_descriptor")) (hm : MtR X id r) (ho : PE X o to) (ha : PA X (e :: es) t) (h : X.K = K := by rfl)
    (hbase : attributeBase o name X.env (eval o X.env) = eval o X.env := by rfl)
    (hfew : ((backTo cpos (starEach (e :: es) X.env)).all (fun x => !x.1) && (backToKw cpos (keywordEach [] X.env)).all (fun x => x.1.isSome)
      && decide ((e :: es).length + ([] : List Keyword).length + (if ([] : List Keyword).isEmpty then 0 else 1) < 30)) = true := by rfl)
    (hline : (apos.endLine == cpos.line) = true := by rfl) (hs : starEach (e :: es) X.env = (false, eval e X.env) :: starEach es X.env := by rfl) (hplain : (backTo cpos (starEach es X.env)).any (·.1) = false := by rfl) :
    PE X (.Call (.Attribute o name apos) (e :: es) [] cpos) (tBM K T r to t) := by subst h; exact pe_bm pa slot hty hm ho ha hbase hfew hline hs hplain
end
noncomputable def tInts (ns : List Int) : TA := fun _ H Q => Q (ns.map V.int) H
inductive IntsE : List Expr → List Int → Prop
  | n : IntsE [] []
  | c {i j pos es ns} : IntsE es ns → IntsE (.Constant (.int i) j pos :: es) (i :: ns)
theorem pa_ints {X : Cx} {es : List Expr} {ns : List Int} (h : IntsE es ns) : PA X es (tInts ns) := by
  induction h with
  | n => exact pa_nil
  | @c i j pos es ns _ ih =>
    intro p pins s σ H Q I hq
    exact pa_cons (e := .Constant (.int i) j pos) pe_int ih rfl p pins s σ H Q I hq
theorem rd_ints {σ : St} {H : Hp} {ns : List Int} {R : List V → Hp → Prop} (h : R (ns.map V.int) H) : tInts ns σ H R := h
noncomputable def tIfJ (c : TT) (t u : TS) : TS := fun D σ H => ∃ R : St → Hp → Prop, (c σ H fun b H1 => if b = true then t { D with nx := R } σ H1 else u { D with nx := R } σ H1) ∧ ∀ σ' H', R σ' H' → D.nx σ' H'
theorem ps_ifJ {X : Cx} {c : Expr} {a b : List Stmt} {tc : TT} {t u : TS} {pos : Pos} (hc : PT X c tc) (ha : PSs X a t) (hb : PSs X b u) : PS X (.If c a b pos) (tIfJ tc t u) := by
  intro pins s σ H D I h
  obtain ⟨R, h, hR⟩ := h
  refine thn (ps_if hc ha hb pins s σ H { D with nx := R } I h) fun f s1 q => ?_
  cases f with
  | next =>
    obtain ⟨σ', H', I', q⟩ := q
    exact ⟨σ', H', I', hR σ' H' q⟩
  | ret v => exact q
  | brk => exact q
  | cont => exact q
noncomputable def rItL (K : PySem.W.Frag) : V → Hp → (It → Hp → Prop) → Prop := fun x H R => ∃ a, x = .ref a ∧ (∃ xs, SqL K H a xs) ∧ R (Itl K a) H
noncomputable def rItT (K : PySem.W.Frag) : V → Hp → (It → Hp → Prop) → Prop := fun x H R => ∃ a, x = .ref a ∧ (∃ xs, SqT K H a xs) ∧ R (Itt K a) H
noncomputable def rIt1 : List V → Hp → (It → Hp → Prop) → Prop := fun vs H R => ∃ j : Int, vs = [.int j] ∧ -(2 ^ 62) ≤ j ∧ j < 2 ^ 62 ∧ R (Itr 0 j.toNat) H
noncomputable def rIt2 : List V → Hp → (It → Hp → Prop) → Prop := fun vs H R => ∃ i j : Int, vs = [.int i, .int j] ∧ (-(2 ^ 62) ≤ i ∧ i < 2 ^ 62 ∧ -(2 ^ 62) ≤ j ∧ j < 2 ^ 62) ∧ R (Itr i (j - i).toNat) H
noncomputable def ForBody (J : It) (g : TG) (tb : TS) (D : Ends) (σ : St) (H : Hp) : Prop := ∃ W : Nat → Nat → St → Hp → Prop, (∃ m, W 0 m σ H) ∧ ∀ i m σ H, W i m σ H →
  (J.stop i H ∧ D.nx σ H) ∨ (J.go i H ∧ ∃ N : St → Hp → Prop, (∀ σ' H', N σ' H' → ∃ m', m' < m ∧ W (i + 1) m' σ' H') ∧ ∀ x H', J.yld i H x H' → g x σ H' fun σ2 H2 => tb { D with nx := N, ct := N, bk := D.nx } σ2 H2)
theorem forL {K : PySem.W.Frag} {a : Addr} {xs : List V} {g : TG} {tb : TS} {D : Ends} {σ : St} {H : Hp} (Pv : Nat → St → Hp → Prop) (h0 : Pv 0 σ H) (hl : ∀ i σ H, i ≤ xs.length → Pv i σ H → SqL K H a xs)
    (hs : ∀ i x σ H, xs[i]? = some x → Pv i σ H → g x σ H fun σ2 H2 => tb ⟨Pv (i + 1), D.rt, D.nx, Pv (i + 1)⟩ σ2 H2) (hd : ∀ σ H, Pv xs.length σ H → D.nx σ H) : ForBody (Itl K a) g tb D σ H := for_list Pv h0 hl hs hd
theorem forR {lo : Int} {n : Nat} {g : TG} {tb : TS} {D : Ends} {σ : St} {H : Hp} (Pv : Nat → St → Hp → Prop) (h0 : Pv 0 σ H)
    (hs : ∀ i σ H, i < n → Pv i σ H → g (.int (lo + i)) σ H fun σ2 H2 => tb ⟨Pv (i + 1), D.rt, D.nx, Pv (i + 1)⟩ σ2 H2) (hd : ∀ σ H, Pv n σ H → D.nx σ H) : ForBody (Itr lo n) g tb D σ H := for_range Pv h0 hs hd
noncomputable def New (H : Hp) (o : HO) (R : VK) : Prop := ∀ p, H p = none → R (.ref p) (upd H p o)
section
variable {K : PySem.W.Frag} {D : Ends} {σ : St} {H : Hp} {Q : VK} {ta tb tc te : TE} {t u : TS} {c c' : TT}
theorem rd_seq (h : t ⟨u D, D.rt, D.bk, D.ct⟩ σ H) : tSeq t u D σ H := h
theorem rd_next (h : D.nx σ H) : tNext D σ H := h
theorem rd_ret (h : te σ H D.rt) : tRet te D σ H := h
theorem rd_asg {g : TG} (h : te σ H fun x H1 => g x σ H1 D.nx) : tAsg te g D σ H := h
theorem rd_drop (h : te σ H fun _ H1 => D.nx σ H1) : tDrop te D σ H := h
theorem rd_ifS (h : c σ H fun b H1 => if b = true then t D σ H1 else u D σ H1) : tIfS c t u D σ H := h
theorem rd_ifJ (R : St → Hp → Prop) (h : c σ H fun b H1 => if b = true then t ⟨R, D.rt, D.bk, D.ct⟩ σ H1 else u ⟨R, D.rt, D.bk, D.ct⟩ σ H1) (k : ∀ σ' H', R σ' H' → D.nx σ' H') : tIfJ c t u D σ H := ⟨R, h, k⟩
theorem rd_ifN (h : c σ H fun b H1 => if b = true then t D σ H1 else u D σ H1) : tIfJ c t u D σ H := ⟨D.nx, h, fun _ _ h => h⟩
theorem rd_name {i : Nat} {v : V} {R : St → Hp → Prop} (h : R (σ.set i (some v)) H) : gName i v σ H R := h
theorem rd_var {i : Nat} {v : V} (e : σ[i]? = some (some v)) (h : Q v H) : tVar i σ H Q := ⟨v, e, h⟩
theorem rd_c {v : V} (h : Q v H) : tC v σ H Q := h
theorem rd_op {r : R2} (h : ta σ H fun x H1 => tb σ H1 fun y H2 => r x y H2 Q) : tOp r ta tb σ H Q := h
theorem rd_un {r : V → Hp → VK → Prop} (h : ta σ H fun x H1 => r x H1 Q) : tUn r ta σ H Q := h
theorem rd_CB {r : List V → Hp → VK → Prop} {a : TA} (h : a σ H fun vs H1 => r vs H1 Q) : tCB r a σ H Q := h
theorem rd_cons {a : TA} {R : List V → Hp → Prop} (h : ta σ H fun x H1 => a σ H1 fun xs H2 => R (x :: xs) H2) : tCons ta a σ H R := h
theorem rd_nil {R : List V → Hp → Prop} (h : R [] H) : tNil σ H R := h
theorem rd_test {R : Bool → Hp → Prop} (h : te σ H fun x H' => ∃ k, x = .bl k ∧ R k H') : tTest te σ H R := h
theorem rd_B {R : Bool → Hp → Prop} (h : te σ H fun x H' => ∃ k, x = .bl k ∧ R k H') : tB te σ H R := h
theorem rd_exb {b : Bool} {R : Bool → Prop} (h : R b) : ∃ k, V.bl b = V.bl k ∧ R k := ⟨b, rfl, h⟩
theorem rd_not {R : Bool → Hp → Prop} (h : c σ H fun b H1 => R (!b) H1) : tNot c σ H R := h
theorem rd_and {R : Bool → Hp → Prop} (h : c σ H fun b H1 => if b = true then c' σ H1 R else R false H1) : tAnd c c' σ H R := h
theorem rd_or {R : Bool → Hp → Prop} (h : c σ H fun b H1 => if b = true then R true H1 else c' σ H1 R) : tOr c c' σ H R := h
theorem rd_andV (h : ta σ H fun x H1 => ∃ k, x = .bl k ∧ if k = true then tb σ H1 Q else Q (.bl false) H1) : tAndV ta tb σ H Q := h
theorem rd_orV (h : ta σ H fun x H1 => ∃ k, x = .bl k ∧ if k = true then Q (.bl true) H1 else tb σ H1 Q) : tOrV ta tb σ H Q := h
theorem rd_notV (h : ta σ H fun x H1 => ∃ k, x = .bl k ∧ Q (.bl (!k)) H1) : tNotV ta σ H Q := h
theorem rd_yes {R : Bool → Hp → Prop} (h : R true H) : tYes σ H R := h
theorem rd_I0 {g : Int → Int → V} {i j : Int} (h : Q (g i j) H) : rI0 g (.int i) (.int j) H Q := ⟨i, j, rfl, rfl, h⟩
theorem rd_I {C : Int → Int → Prop} {g : Int → Int → V} {i j : Int} (hc : C i j) (h : Q (g i j) H) : rI C g (.int i) (.int j) H Q := ⟨i, j, rfl, rfl, hc, h⟩
theorem rd_U {g : Int → V} {i : Int} (h : Q (g i) H) : rU g (.int i) H Q := ⟨i, rfl, h⟩
theorem rd_EqI {i j : Int} (h : Q (.bl (decide (i = j))) H) : rEq (.int i) (.int j) H Q := ⟨rfl, by
  have e : decide (V.int i = V.int j) = decide (i = j) := by rw [Bool.eq_iff_iff]; simp
  rw [e]; exact h⟩
theorem rd_NeI {i j : Int} (h : Q (.bl (!decide (i = j))) H) : rNe (.int i) (.int j) H Q := ⟨rfl, by
  have e : decide (V.int i = V.int j) = decide (i = j) := by rw [Bool.eq_iff_iff]; simp
  rw [e]; exact h⟩
theorem rd_ixL {p : Addr} {xs : List V} {i : Int} {v : V} (e : SqL K H p xs) (a : atI xs i = some v) (h : Q v H) : rIxL K (.ref p) (.int i) H Q := ⟨p, xs, i, v, rfl, rfl, e, a, h⟩
theorem rd_ixT {p : Addr} {xs : List V} {i : Int} {v : V} (e : SqT K H p xs) (a : atI xs i = some v) (h : Q v H) : rIxT K (.ref p) (.int i) H Q := ⟨p, xs, i, v, rfl, rfl, e, a, h⟩
theorem rd_lenL {p : Addr} {xs : List V} (e : SqL K H p xs) (h : Q (.int xs.length) H) : rLen K [.ref p] H Q := ⟨p, xs, rfl, .inl e, h⟩
theorem rd_lenT {p : Addr} {xs : List V} (e : SqT K H p xs) (h : Q (.int xs.length) H) : rLen K [.ref p] H Q := ⟨p, xs, rfl, .inr e, h⟩
theorem rd_tupL {p : Addr} {xs : List V} (e : SqL K H p xs) (h : New H (.tup xs) Q) : rTupOf K [.ref p] H Q := ⟨p, xs, rfl, .inl ⟨e, h⟩⟩
theorem rd_isi {x : V} {n T : String} {b : Bool} (hk : kindV H x n) (hb : isiB n T = some b) (h : Q (.bl b) H) : rIsi [x, .ty T] H Q := ⟨x, n, T, b, rfl, hk, hb, h⟩
theorem rd_max2 {i j : Int} (h : Q (.int (if j > i then j else i)) H) : rMax2 [.int i, .int j] H Q := ⟨i, j, rfl, h⟩
theorem rd_min2 {i j : Int} (h : Q (.int (if j < i then j else i)) H) : rMin2 [.int i, .int j] H Q := ⟨i, j, rfl, h⟩
theorem rd_call {sp : Sp} {a : TA} {E : XK} (h : a σ H fun vs H1 => sp (vs ++ []) H1 Q E) : tCall sp [] E a σ H Q := h
theorem rd_BM {T : String} {r : V → List V → Hp → VK → Prop} {a : TA} (h : te σ H fun x H1 => tyV K T x H1 ∧ a σ H1 fun xs H2 => r x xs H2 Q) : tBM K T r te a σ H Q := h
theorem rd_tup {a : TA} (h : a σ H fun xs H1 => xs.length ≤ sizeLine ∧ New H1 (.tup xs) Q) : tTup a σ H Q := h
theorem rd_lst {a : TA} (h : a σ H fun xs H1 => xs.length ≤ sizeLine ∧ New H1 (.lst xs) Q) : tLst a σ H Q := h
theorem rd_sl {r : V → Option Int → Option Int → Hp → VK → Prop} {tl th : TO} (h : te σ H fun x H1 => tl σ H1 fun l H2 => th σ H2 fun v H3 => r x l v H3 Q) : tSl r te tl th σ H Q := h
theorem rd_part {R : Option Int → Hp → Prop} (h : te σ H fun x H1 => ∃ i, x = .int i ∧ R (some i) H1) : tPart te σ H R := h
theorem rd_exi {i : Int} {R : Int → Prop} (h : R i) : ∃ k, V.int i = V.int k ∧ R k := ⟨i, rfl, h⟩
theorem rd_chain {r r' : R2} (h : ta σ H fun x H1 => tb σ H1 fun y H2 => r x y H2 fun z H3 => ∃ k, z = .bl k ∧ (if k = true then tc σ H3 fun w' H4 => r' y w' H4 Q else Q (.bl false) H3)) : tChain r r' ta tb tc σ H Q := h
theorem rd_comp {n : Nat} {js : List Nat} {wi : TI} {g : TG} (h : wi σ H fun J H1 => CompBody J n js g c te σ H1 Q) : tComp n js wi g c te σ H Q := h
theorem rd_iL {R : It → Hp → Prop} (h : te σ H fun x H1 => rItL K x H1 R) : iList K te σ H R := h
theorem rd_iT {R : It → Hp → Prop} (h : te σ H fun x H1 => rItT K x H1 R) : iTup K te σ H R := h
theorem rd_iLx {p : Addr} {xs : List V} {R : It → Hp → Prop} (e : SqL K H p xs) (h : R (Itl K p) H) : rItL K (.ref p) H R := ⟨p, rfl, ⟨xs, e⟩, h⟩
theorem rd_iTx {p : Addr} {xs : List V} {R : It → Hp → Prop} (e : SqT K H p xs) (h : R (Itt K p) H) : rItT K (.ref p) H R := ⟨p, rfl, ⟨xs, e⟩, h⟩
theorem rd_i1 {a : TA} {R : It → Hp → Prop} (h : a σ H fun vs H1 => rIt1 vs H1 R) : iRng1 a σ H R := h
theorem rd_i1x {j : Int} {R : It → Hp → Prop} (h1 : -(2 ^ 62) ≤ j ∧ j < 2 ^ 62) (h : R (Itr 0 j.toNat) H) : rIt1 [.int j] H R := ⟨j, rfl, h1.1, h1.2, h⟩
theorem rd_i2 {a : TA} {R : It → Hp → Prop} (h : a σ H fun vs H1 => rIt2 vs H1 R) : iRng2 a σ H R := h
theorem rd_i2x {i j : Int} {R : It → Hp → Prop} (h1 : -(2 ^ 62) ≤ i ∧ i < 2 ^ 62 ∧ -(2 ^ 62) ≤ j ∧ j < 2 ^ 62) (h : R (Itr i (j - i).toNat) H) : rIt2 [.int i, .int j] H R := ⟨i, j, rfl, h1, h⟩
theorem rd_for {wi : TI} {g : TG} (h : wi σ H fun J H1 => ForBody J g t D σ H1) : tFor wi g t D σ H := h
theorem rd_append {l : Addr} {xs : List V} {y : V} (e : H l = some (.lst xs)) (hz : xs.length < sizeLine) (h : Q .non (upd H l (.lst (xs ++ [y])))) : rAppend (.ref l) [y] H Q := ⟨l, xs, y, rfl, rfl, e, hz, h⟩
theorem rd_tyL {p : Addr} {xs : List V} (e : SqL K H p xs) : tyV K "list" (.ref p) H := .inl ⟨rfl, xs, e⟩
theorem rd_sub {to ti : TE} {w : TSet} {v : V} {R : St → Hp → Prop} (h : to σ H fun o H1 => ti σ H1 fun i H2 => w o i v H2 fun H3 => R σ H3) : gSub to ti w v σ H R := h
theorem rd_setL {p : Addr} {xs : List V} {k : Int} {j : Nat} {v : V} {R : Hp → Prop} (e : H p = some (.lst xs)) (a : ixN xs.length k = some j) (h : R (upd H p (.lst (xs.set j v)))) : rSetL (.ref p) (.int k) v H R := ⟨p, xs, k, j, rfl, rfl, e, a, h⟩
theorem rd_gtup {n : Nat} {g : TGs} {a : Addr} {xs : List V} {R : St → Hp → Prop} (e : SqT K H a xs) (hl : xs.length = n) (h : g xs σ H R) : gTup K n g (.ref a) σ H R := ⟨a, xs, rfl, e, hl, h⟩
theorem rd_gcons {g : TG} {gs : TGs} {v : V} {r : List V} {R : St → Hp → Prop} (h : g v σ H fun σ' H' => gs r σ' H' R) : gCons g gs (v :: r) σ H R := ⟨v, r, rfl, h⟩
theorem rd_gnil {R : St → Hp → Prop} (h : R σ H) : gNil [] σ H R := ⟨rfl, h⟩
theorem rd_cat {l b : Addr} {xs zs : List V} (e1 : H l = some (.lst xs)) (e2 : H b = some (.lst zs)) (hz : xs.length + zs.length ≤ sizeLine) (h : New H (.lst (xs ++ zs)) Q) : rCat (.ref l) (.ref b) H Q := ⟨l, b, xs, zs, rfl, rfl, e1, e2, hz, h⟩
theorem rd_rep {l : Addr} {k : Int} {xs : List V} (e : H l = some (.lst xs)) (hk : 0 ≤ k ∧ k < 10 ^ 6) (hz : xs.length * k.toNat ≤ sizeLine) (h : New H (.lst (List.replicate k.toNat xs).flatten) Q) : rRep (.ref l) (.int k) H Q :=
  ⟨l, k, xs, rfl, rfl, e, by omega, by omega, hz, h⟩
theorem rd_slL {a : Addr} {xs : List V} {lo hi : Option Int} (e : SqL K H a xs) (h : New H (.lst (cutV xs lo hi)) Q) : rSlL K (.ref a) lo hi H Q := ⟨a, xs, rfl, e, h⟩
theorem rd_new {o : HO} {R : VK} (h : ∀ p H', Ext H H' → H' p = some o → H p = none → R (.ref p) H') : New H o R := fun p hp =>
  h p _ (fun b u e => by rw [upd_ne (ne_of_none e hp)]; exact e) upd_same hp
theorem ext_upd {p : Addr} {o : HO} (hp : H p = none) : Ext H (upd H p o) := fun b u e => by rw [upd_ne (ne_of_none e hp)]; exact e
theorem SqL.ext {H' : Hp} {p : Addr} {xs : List V} (e : Ext H H') (h : SqL K H p xs) : SqL K H' p xs := by
  rcases h with (h | ⟨o, h⟩) | h
  · exact .inl (.inl (e _ _ h))
  · exact .inl (.inr ⟨o, e _ _ h⟩)
  · exact .inr h
end
theorem atI_of {α : Type} {xs : List α} {i : Int} {v : α} (h0 : 0 ≤ i) (h : xs[i.toNat]? = some v) : atI xs i = some v := by
  have := atI_nat h
  rwa [Int.toNat_of_nonneg h0] at this
end L2
set_option Elab.async false
set_option linter.all false
set_option maxRecDepth 100000
set_option maxHeartbeats 4000000
namespace L2
open PySem PySem.Spec PyProof.Rows
noncomputable def flatD : V → PyData → Prop
  | .non, .none => True
  | .bl b, .bool c => b = c
  | .int i, .int j => i = j
  | .str x, .str y => x = y ∧ (PyData.str y).canLay0 = true
  | _, _ => False
noncomputable def RepD (H : Hp) : Nat → V → PyData → Prop
  | 0, x, d => flatD x d
  | n + 1, x, d => flatD x d ∨ ∃ a xs ds, x = .ref a ∧ ((H a = some (.tup xs) ∧ d = .tuple ds) ∨ (H a = some (.lst xs) ∧ d = .list ds)) ∧ Paired (RepD H n) xs ds
section
variable {X : Cx} {pins : List (Addr × Obj)} {σ : St} {H : Hp} {s : Shared}
theorem flatD.reads {x : V} {d : PyData} {u : Value} (h : flatD x d) (r : RelV x u) : ∃ as, Reads s.heap u d as := by
  cases x with
  | non => cases d <;> first | exact False.elim h | (cases r; exact ⟨_, .none⟩)
  | bl b => cases d <;> first | exact False.elim h | (cases (show b = _ from h); cases r; exact ⟨_, .bool _⟩)
  | int i => cases d <;> first | exact False.elim h | (cases (show i = _ from h); obtain ⟨t, rfl⟩ := r; exact ⟨_, .int _ t⟩)
  | str z => cases d <;> first | exact False.elim h | (cases (show z = _ ∧ _ from h).1; obtain ⟨t, rfl⟩ := r; exact ⟨_, .str _ t⟩)
  | _ => cases d <;> exact False.elim h
theorem flatD.lay {x : V} {d : PyData} (h : flatD x d) : d.canLay0 = true ∧ d.depth = 0 := by
  cases x <;> cases d <;> first | exact False.elim h | exact ⟨rfl, rfl⟩ | exact ⟨h.2, rfl⟩
theorem reads_all {R : V → PyData → Prop} (ih : ∀ {x : V} {d : PyData} {u : Value}, R x d → RelV x u → ∃ as, Reads s.heap u d as) : ∀ {xs : List V} {ds : List PyData} {us : List Value}, Paired R xs ds → Vals xs us → ∃ as, ReadsAll s.heap us ds as
  | _, _, _, .nil, .nil => ⟨_, .nil⟩
  | _, _, _, .cons h t, .cons r rt => by
    obtain ⟨as, ha⟩ := ih h r
    obtain ⟨bs, hb⟩ := reads_all ih t rt
    exact ⟨_, .cons ha hb⟩
theorem RepD.reads (I : Inv X pins σ H s) : ∀ (n : Nat) {x : V} {d : PyData} {u : Value}, RepD H n x d → RelV x u → ∃ as, Reads s.heap u d as
  | 0, _, _, _, h, r => flatD.reads h r
  | n + 1, x, d, u, h, r => by
    rcases h with h | ⟨a, xs, ds, rfl, hh, hp⟩
    · exact flatD.reads h r
    · cases r
      rcases hh with ⟨e, rfl⟩ | ⟨e, rfl⟩
      · obtain ⟨its, rv, ⟨o, ho, hc, k, hd⟩, _⟩ := I.tuple (SqT.of e)
        obtain ⟨as, ha⟩ := reads_all (fun {x d u} => RepD.reads I n) hp rv
        exact ⟨_, .tuple ho hc hd (by simpa using ha)⟩
      · obtain ⟨its, k, rv, ho, _⟩ := I.lst e
        obtain ⟨as, ha⟩ := reads_all (fun {x d u} => RepD.reads I n) hp rv
        exact ⟨_, .list ho rfl rfl (by simpa using ha)⟩
theorem lay_all {R : V → PyData → Prop} {m : Nat} (ih : ∀ {x : V} {d : PyData}, R x d → d.canLay0 = true ∧ d.depth ≤ m) : ∀ {xs : List V} {ds : List PyData}, Paired R xs ds → PyData.canLayAll0 ds = true ∧ PyData.depthAll ds ≤ m
  | _, _, .nil => ⟨rfl, Nat.zero_le _⟩
  | _, _, .cons h t => by
    obtain ⟨h1, h2⟩ := ih h
    obtain ⟨h3, h4⟩ := lay_all ih t
    refine ⟨?_, ?_⟩
    · simp only [PyData.canLayAll0, h1, h3, Bool.and_self]
    · simp only [PyData.depthAll]
      exact Nat.max_le.mpr ⟨h2, h4⟩
theorem RepD.lay : ∀ (n : Nat) {x : V} {d : PyData}, RepD H n x d → d.canLay0 = true ∧ d.depth ≤ n
  | 0, _, _, h => ⟨(flatD.lay h).1, Nat.le_of_eq (flatD.lay h).2⟩
  | n + 1, x, d, h => by
    rcases h with h | ⟨a, xs, ds, rfl, hh, hp⟩
    · exact ⟨(flatD.lay h).1, by rw [(flatD.lay h).2]; exact Nat.zero_le _⟩
    · obtain ⟨h1, h2⟩ := lay_all (fun {x d} => RepD.lay n) hp
      rcases hh with ⟨e, rfl⟩ | ⟨e, rfl⟩
      · exact ⟨h1, Nat.succ_le_succ h2⟩
      · exact ⟨h1, Nat.succ_le_succ h2⟩
noncomputable def rEqD (neg : Bool) : R2 := fun x y H Q => ∃ n m d e, RepD H n x d ∧ RepD H m y e ∧ n ≤ 50 ∧ Q (.bl (if neg then !PyData.eqv d e else PyData.eqv d e)) H
theorem op_eqD {k : Nat} (hr : Room k X.A) : OpR X (compareOp .Eq) (rEqD false) := by
  intro pins s σ H x y v u Q I rx ry h
  obtain ⟨n, m, d, e, h1, h2, hn, q⟩ := h
  obtain ⟨as, ra⟩ := RepD.reads I n h1 rx
  obtain ⟨bs, rb⟩ := RepD.reads I m h2 ry
  have l1 := RepD.lay n h1
  have l2 := RepD.lay m h2
  have hu := hr.units
  have hm : min d.depth e.depth ≤ 50 := Nat.le_trans (Nat.min_le_left _ _) (Nat.le_trans l1.2 hn)
  exact SeqAt.compareEq_reads ra rb l1.1 l2.1 (by omega) ⟨.bl _, H, I, rfl, q⟩
theorem op_neD {k : Nat} (hr : Room k X.A) : OpR X (compareOp .NotEq) (rEqD true) := by
  intro pins s σ H x y v u Q I rx ry h
  obtain ⟨n, m, d, e, h1, h2, hn, q⟩ := h
  obtain ⟨as, ra⟩ := RepD.reads I n h1 rx
  obtain ⟨bs, rb⟩ := RepD.reads I m h2 ry
  have l1 := RepD.lay n h1
  have l2 := RepD.lay m h2
  have hu := hr.units
  have hm : min d.depth e.depth ≤ 50 := Nat.le_trans (Nat.min_le_left _ _) (Nat.le_trans l1.2 hn)
  exact SeqAt.compareNe_reads ra rb l1.1 l2.1 (by omega) ⟨.bl _, H, I, rfl, q⟩
end
end L2
set_option Elab.async false
set_option linter.all false
set_option maxRecDepth 100000
set_option maxHeartbeats 4000000
namespace L2
open PySem PySem.Spec PyProof.Rows
noncomputable def rAllL (K : PySem.W.Frag) : List V → Hp → VK → Prop := fun xs H Q => ∃ (p : Addr) (bs : List Bool), xs = [.ref p] ∧ SqL K H p (bs.map V.bl) ∧ Q (.bl (bs.all id)) H
theorem vals_bools : ∀ {bs : List Bool} {us : List Value}, Vals (bs.map V.bl) us → us = bs.map Value.bool
  | [], _, r => by cases r; rfl
  | b :: bs, _, r => by
    cases r with
    | cons r t => cases r; rw [vals_bools t]; rfl
theorem all_range (bs : List Bool) : ((List.range bs.length).all fun i => bs.getD i false) = bs.all id := by
  rw [Bool.eq_iff_iff, List.all_eq_true, List.all_eq_true]
  constructor
  · intro h b hb
    obtain ⟨i, hi, e⟩ := List.mem_iff_getElem.mp hb
    have := h i (List.mem_range.mpr hi)
    rw [List.getD_eq_getElem?_getD, List.getElem?_eq_getElem hi] at this
    rw [← e]
    exact this
  · intro h i hi
    have hi' := List.mem_range.mp hi
    rw [List.getD_eq_getElem?_getD, List.getElem?_eq_getElem hi']
    exact h _ (List.getElem_mem hi')
theorem call_allL {X : Cx} (K : PySem.W.Frag) (hc : X.calm = true) (hK : X.K = K := by rfl) : CallR X (.builtin "all") (rAllL K) := by
  subst hK
  intro pins s σ H xs us Q I r h
  obtain ⟨p, bs, rfl, hq, q⟩ := h
  obtain ⟨u, rfl, rx⟩ := vals1 r
  cases rx
  obtain ⟨its, rv, pl, hz⟩ := I.list hq
  have eb := vals_bools rv
  have hne : p ≠ s.heap.objs.size := Nat.ne_of_lt (by obtain ⟨o, n, e, _⟩ := pl; exact Heap.lt_size e)
  refine call_all_walk (wpAny_pyIter_list pl.isList ?_)
  have I1 : Inv X pins σ H { s with heap := s.heap.push { cls := .type "list_iterator", data := .fields #[.ref p, .int 0 0] } } := I.kept (t' := s.toks) fun b o e => Heap.get?_push_of_some _ e
  have hf := I.fpOk (H' := H) (Nat.le_refl s.heap.objs.size) I.fresh
  refine ⟨s.heap.objs.size, _, _, _, _, _, (fun i => bs.getD i false), rfl, Walks.list (A := X.A.in1) (I.ok.hd hc) _ p hne its.toArray, ⟨⟨_, Heap.get?_push_size _ rfl, rfl, rfl⟩, ?_⟩, ?_, fun h' tk hk => ?_⟩
  · exact pl.isList.push _
  · intro i v s' Q' E' hv hQ
    rw [eb] at hv
    have hv' : (bs.map Value.bool)[i]? = some v := by simpa using hv
    rw [List.getElem?_map] at hv'
    cases eg : bs[i]? with
    | none => rw [eg] at hv'; cases hv'
    | some b =>
      rw [eg] at hv'
      cases hv'
      have eb' : bs.getD i false = b := by rw [List.getD_eq_getElem?_getD, eg]; rfl
      have hQ' : Q' (bs.getD i false) s' := hQ
      rw [eb'] at hQ'
      exact wpAny_truthy_bool hQ'
  · obtain ⟨f0, f1, f2, f3, f4, f5⟩ := hf
    have hl := rv.length
    rw [List.length_map] at hl
    refine ⟨.bl (bs.all id), H, I1.turned (it := s.heap.objs.size) (fun b o hb e => hk b o (by simpa using hb) e) f0 f1 f3 f4 f5, ?_, q⟩
    show Value.bool _ = Value.bool _
    rw [List.size_toArray, ← hl, all_range]
end L2
set_option Elab.async false
set_option linter.all false
set_option maxRecDepth 100000
set_option maxHeartbeats 4000000
namespace L2
open PySem PySem.Spec PyProof.Rows
section
variable {D : Ends} {σ : St} {H : Hp} {Q : VK} {te : TE} {t : TS} {c : TT}
end
section
variable {prog : Program} {w : World} {A : Around} {E : Value → Shared → Prop} {s : Shared}
theorem next_tup {it t : Addr} {i : Nat} {ys : Array Value} {x : Value} {Q : Value → Shared → Prop} (gi : s.heap.IsTupleIter it t i) (gt : s.heap.IsTuple t ys) (gx : ys[i]? = some x)
    (q : ∀ h', h'.IsTupleIter it t (i + 1) → Heap.SameBut it s.heap h' → Q x { s with heap := h' }) : wpAny (model prog w) A (Builtin.SmallTypes.nextOf (.ref it)) Q E s := by
  obtain ⟨u, gu, gc, gd⟩ := id gi
  obtain ⟨v, gv, _, k, gk⟩ := gt
  unfold Builtin.SmallTypes.nextOf
  refine wpAny_bind (wpAny_callSpecial?_slot (name := Str.ofString "__next__") gi.typeIs F.slot_tuple_iterator_next (wpAny_call_entry F.slot_tuple_iterator_next gi.typeIs F.entry_tuple_iterator_next ?_ (F.args_tuple_iterator_next_1 _)))
  show wpAny _ _ (field (Value.ref it) 0 >>= _) _ _ s
  refine wpAny_bind (wpAny_field gu gd (x := Value.ref t) rfl ?_)
  show wpAny _ _ (if (Value.ref t == Value.none) = true then _ else _) _ _ s
  rw [if_neg (show ¬ (Value.ref t == Value.none) = true from Bool.false_ne_true)]
  show wpAny _ _ (field (Value.ref it) 1 >>= _) _ _ s
  refine wpAny_bind (wpAny_field gu gd (x := Value.int i 0) rfl ?_)
  show wpAny _ _ (seqItems? (Value.ref t) >>= _) _ _ s
  refine wpAny_bind (wpAny_seqItems gv gk ?_)
  simp only [Int.toNat_natCast, gx]
  refine wpAny_bind (wpAny_setField gu gd (by simp) (wpAny_pure ⟨x, rfl, wpAny_pure (q _ ?_ (Heap.SameBut.update ..))⟩))
  exact ⟨_, Heap.get?_update_self _ gu (Obj.isFreed_of_fields (Obj.data_mapFields gd _)), (Obj.cls_mapFields ..).trans gc, by rw [Obj.data_mapFields gd]; simp [rawInt]⟩
theorem stop_tup {it t : Addr} {i : Nat} {ys : Array Value} {Q : Value → Shared → Prop} (hA : A.handled = none) (gi : s.heap.IsTupleIter it t i) (gt : s.heap.IsTuple t ys) (gx : ys[i]? = none)
    (q : ∀ h' e, Heap.ExtBut it s.heap h' → (∃ o, h'.get? e = some o ∧ o.cls = .type "StopIteration") → E (.ref e) { s with heap := h' }) : wpAny (model prog w) A (Builtin.SmallTypes.nextOf (.ref it)) Q E s := by
  obtain ⟨u, gu, gc, gd⟩ := id gi
  obtain ⟨v, gv, _, k, gk⟩ := gt
  unfold Builtin.SmallTypes.nextOf
  refine wpAny_bind (wpAny_callSpecial?_slot (name := Str.ofString "__next__") gi.typeIs F.slot_tuple_iterator_next (wpAny_call_entry F.slot_tuple_iterator_next gi.typeIs F.entry_tuple_iterator_next ?_ (F.args_tuple_iterator_next_1 _)))
  show wpAny _ _ (field (Value.ref it) 0 >>= _) _ _ s
  refine wpAny_bind (wpAny_field gu gd (x := Value.ref t) rfl ?_)
  show wpAny _ _ (if (Value.ref t == Value.none) = true then _ else _) _ _ s
  rw [if_neg (show ¬ (Value.ref t == Value.none) = true from Bool.false_ne_true)]
  show wpAny _ _ (field (Value.ref it) 1 >>= _) _ _ s
  refine wpAny_bind (wpAny_field gu gd (x := Value.int i 0) rfl ?_)
  show wpAny _ _ (seqItems? (Value.ref t) >>= _) _ _ s
  refine wpAny_bind (wpAny_seqItems gv gk ?_)
  simp only [Int.toNat_natCast, gx]
  refine wpAny_bind (wpAny_rule (wpAny_bind (wpAny_setField gu gd (by simp) ?_)))
  show wpAny _ _ (newExc (Value.type "StopIteration") [] >>= _) _ _ _
  refine wpAny_bind ?_
  simp only [newExc, newTuple]
  refine wpAny_bind (wpAny_newObj_type (hd := by size_fits) ?_)
  refine wpAny_bind (m := firstArgMember _ _) (wpAny_of_eq (a := Value.none) (by first | rfl | (unfold firstArgMember; rfl)) ?_)
  refine wpAny_newObj_type (hd := by size_fits) ?_
  simp only [raiseNew]
  refine wpAny_bind (wpAny_handled ?_)
  first | rw [show Around.handled A.in1 = none from hA] | rw [hA]
  refine wpAny_bind (wpAny_pure (wpAny_throw ?_))
  exact q _ _ (((Heap.SameBut.update ..).extBut.push _).push _) ⟨_, Heap.get?_push_size _ rfl, rfl⟩
end
section
variable {X : Cx} {pins : List (Addr × Obj)} {σ : St} {H : Hp} {s : Shared}
theorem Inv.same {it : Addr} {k h' : Heap} (I : Inv X pins σ H { s with heap := k }) (f : FpOk X pins H it) (b : Heap.ExtBut it k h') : Inv X pins σ H { s with heap := h' } := by
  obtain ⟨f0, f1, f2, f3, f4, f5⟩ := f
  exact Inv.turned (s := { s with heap := k }) (t' := s.toks) (it := it) I (fun c o hb e => b c o hb e) f0 f1 f3 f4 f5
end
section
variable {K : PySem.W.Frag} {σ : St} {H : Hp} {Q : VK}
end
end L2
set_option Elab.async false
set_option linter.all false
set_option maxRecDepth 100000
set_option maxHeartbeats 4000000
namespace L2
open PySem PySem.Spec PyProof.Rows
mutual
inductive LitE : Expr → TE → Prop
  | non {j pos} : LitE (.Constant .none j pos) (tC .non)
  | bl {b j pos} : LitE (.Constant (.bool b) j pos) (tC (.bl b))
  | int {i j pos} : LitE (.Constant (.int i) j pos) (tC (.int i))
  | str {x j pos} : LitE (.Constant (.str x) j pos) (tC (.str x))
  | tup {es ta k pos} : LitsE es ta → LitE (.Tuple es k pos) (tTup ta)
inductive LitsE : List Expr → TA → Prop
  | nil : LitsE [] tNil
  | cons {e te es ta} : LitE e te → LitsE es ta → LitsE (e :: es) (tCons te ta)
end
end L2
set_option Elab.async false
set_option linter.all false
set_option maxRecDepth 100000
set_option maxHeartbeats 4000000
namespace L2
open PySem PySem.Spec PyProof.Rows
section
variable {X : Cx} {pins : List (Addr × Obj)} {σ : St} {H : Hp} {s : Shared}
end
section
variable {X : Cx} {pins : List (Addr × Obj)} {σ : St} {H : Hp} {s : Shared}
end
end L2
set_option Elab.async false
set_option linter.all false
set_option maxRecDepth 100000
set_option maxHeartbeats 4000000
namespace L2
open PySem PySem.Spec PyProof.Rows
section
variable {P : Program} {w : World} {K : PySem.W.Frag} {mg : Str → Option Value} {base : Heap}
end
end L2
set_option Elab.async false
set_option linter.all false
set_option maxRecDepth 100000
set_option maxHeartbeats 4000000
namespace L2
open PySem PySem.Spec PyProof.Rows
section
variable {prog : Program} {w : World} {A : Around} {E : Value → Shared → Prop}
theorem draw_lst {it l : Addr} {ys : Array Value} (ne : l ≠ it) : ∀ (n i : Nat) (s : Shared) (Q : List Value → Shared → Prop), s.heap.IsListIter it l i → s.heap.IsList l ys → i + n ≤ ys.size →
    (∀ h', h'.IsListIter it l (i + n) → Heap.SameBut it s.heap h' → Q ((ys.toList.drop i).take n) { s with heap := h' }) → wpAny (model prog w) A (draw (.ref it) n) Q E s
  | 0, i, s, Q, gi, _, _, q => by
    show wpAny _ _ (pure []) Q E s
    exact wpAny_pure (by simpa using q s.heap gi (Heap.SameBut.refl ..))
  | n + 1, i, s, Q, gi, gl, le, q => by
    have lt : i < ys.size := by omega
    show wpAny _ _ (pyNext (Value.ref it) >>= _) Q E s
    refine wpAny_bind (wpAny_pyNext_list_item gi gl (x := ys[i]) (by simp [lt]) fun k1 g1 b1 => ?_)
    refine wpAny_bind (wpAny_holding (draw_lst ne n (i + 1) _ _ g1 (gl.extBut b1.extBut ne) (by omega) fun k2 g2 b2 => wpAny_pure ?_))
    have e : ys.toList.drop i = ys[i] :: ys.toList.drop (i + 1) := by simp [List.drop_eq_getElem_cons, lt]
    have := q k2 (by rw [show i + (n + 1) = i + 1 + n by omega]; exact g2) (b1.trans b2)
    rw [e, List.take_succ_cons] at this
    exact this
theorem unpack_lst {s : Shared} {l : Addr} {ys : Array Value} {Q : List Value → Shared → Prop} (hA : A.handled = none) (gl : s.heap.IsList l ys)
    (q : ∀ h', Heap.ExtBut s.heap.objs.size s.heap h' → Q ys.toList { s with heap := h' }) : wpAny (model prog w) A (unpackItems (.ref l) ys.size none) Q E s := by
  have lt : l ≠ s.heap.objs.size := by obtain ⟨o, e, _⟩ := gl; exact Nat.ne_of_lt (Heap.lt_size e)
  unfold unpackItems
  refine wpAny_bind ?_
  unfold notIterableAtAll
  refine wpAny_bind (wpAny_specialOf gl.typeIs slot_list_iter.lookup ?_)
  refine wpAny_pure ?_
  simp only [Bool.false_eq_true, if_false]
  refine wpAny_bind (wpAny_holding (wpAny_pyIter_list gl ?_))
  refine wpAny_bind (wpAny_holding (draw_lst lt ys.size 0 _ _ ⟨_, Heap.get?_push_size _ rfl, rfl, rfl⟩ (gl.push _) (by omega) fun k1 g1 b1 => ?_))
  rw [show List.take ys.size (List.drop 0 ys.toList) = ys.toList by rw [List.drop_zero]; exact List.take_of_length_le (by simp), if_neg (by simp)]
  refine wpAny_bind (wpAny_holding (wpAny_pyNext_list_end hA g1 ((gl.push _).extBut b1.extBut lt) (by simp) fun k2 b2 => ?_))
  simp only [Option.isSome_none, Bool.false_eq_true, if_false]
  exact wpAny_pure (q k2 fun b o nb e => b2 b o nb (b1.extBut b o nb (Heap.get?_push_of_some _ e)))
theorem assign_lst {s : Shared} {env : Env} {es : List Expr} {k : Nat} {pos : Pos} {l : Addr} {ys : Array Value} {Q : Unit → Shared → Prop} (hA : A.handled = none) (gl : s.heap.IsList l ys) (hn : (assignEach es env).length = ys.size) (hst : (assignEach es env).findIdx? (·.1) = none)
    (h : ∀ h', Heap.ExtBut s.heap.objs.size s.heap h' → wpAny (model prog w) A (assignInOrder ((assignEach es env).map (·.2)) ys.toList) Q E { s with heap := h' }) : wpAny (model prog w) A (assign (.Tuple es k pos) env (.ref l)) Q E s := by
  rw [arm_assign_Tuple]
  refine wpAny_bind (wpAny_standAt ?_)
  unfold unpack
  rw [hn, hst]
  exact wpAny_bind (wpAny_holding (unpack_lst hA gl h))
end
section
variable {X : Cx} {pos : Pos}
noncomputable def gLst (K : PySem.W.Frag) (n : Nat) (t : TGs) : TG := fun v σ H Q => ∃ a xs, v = .ref a ∧ SqL K H a xs ∧ xs.length = n ∧ t xs σ H Q
theorem pg_lstK {es : List Expr} {k : Nat} {t : TGs} {n : Nat} (K : PySem.W.Frag) (hc : X.calm = true) (h : PGs X es t) (hK : X.K = K := by rfl)
    (hn : (assignEach es X.env).length = n := by rfl) (hst : (assignEach es X.env).findIdx? (·.1) = none := by rfl) : PG X (.Tuple es k pos) (gLst K n t) := by
  subst hK
  intro pins s σ H v u Q I r hw
  obtain ⟨a, xs, e1, hq, hl, hw⟩ := hw
  subst e1
  cases r
  obtain ⟨its, rv, ht, hz⟩ := I.list hq
  refine assign_lst (I.ok.hd hc) ht.isList (by simp [hn, ← hl, rv.length]) hst fun h' hx => ?_
  have I1 : Inv X pins σ H { s with heap := h' } := I.kept (t' := s.toks) fun b o e => hx b o (Nat.ne_of_lt (Heap.lt_size e)) e
  exact h pins _ σ H xs _ Q I1 (by simpa using rv) hw
end
theorem rd_glst {K : PySem.W.Frag} {σ : St} {H : Hp} {n : Nat} {g : TGs} {a : Addr} {xs : List V} {R : St → Hp → Prop} (e : SqL K H a xs) (hl : xs.length = n) (h : g xs σ H R) : gLst K n g (.ref a) σ H R := ⟨a, xs, rfl, e, hl, h⟩
theorem rd_par {i j : Nat} {ta : TA} {D : Ends} {σ : St} {H : Hp} (h : ta σ H fun vs H1 => ∃ v w, vs = [v, w] ∧ D.nx ((σ.set i (some v)).set j (some w)) H1) : tPar i j ta D σ H := h
theorem rd_par2 {v w : V} {R : V → V → Prop} (h : R v w) : ∃ a b, [v, w] = [a, b] ∧ R a b := ⟨v, w, rfl, h⟩
end L2
set_option Elab.async false
set_option linter.all false
set_option maxRecDepth 100000
set_option maxHeartbeats 4000000
namespace L2
open PySem PySem.Spec PyProof.Rows
section
variable {κ : Type} [DecidableEq κ]
noncomputable def valV (kvs : List (κ × V)) (k : κ) : Option V := (kvs.find? fun kv => decide (kv.1 = k)).map (·.2)
theorem valV_pos {p : κ × V} {r : List (κ × V)} {k : κ} (e : p.1 = k) : valV (p :: r) k = some p.2 := by simp [valV, List.find?_cons, e]
theorem valV_neg {p : κ × V} {r : List (κ × V)} {k : κ} (e : ¬ p.1 = k) : valV (p :: r) k = valV r k := by simp [valV, List.find?_cons, e]
theorem RelO.isSome_eq {o : Option V} {u : Option Value} (r : RelO o u) : o.isSome = u.isSome := by
  cases o with
  | none => cases u with
    | none => rfl
    | some _ => exact (show False from r).elim
  | some _ => cases u with
    | none => exact (show False from r).elim
    | some _ => rfl
theorem KV.val {kvs : List (κ × V)} {vs : List (κ × Value)} (r : KV kvs vs) (k : κ) : RelO (valV kvs k) (valueAt vs k) := by
  unfold KV at r
  induction r with
  | nil => exact True.intro
  | @cons p q ps qs h t ih =>
    obtain ⟨h1, h2⟩ := h
    by_cases e : p.1 = k
    · have e' : q.1 = k := h1.symm.trans e
      have b : valueAt (q :: qs) k = some q.2 := by simp [valueAt, List.find?_cons, e']
      rw [valV_pos e, b]; exact h2
    · have e' : ¬ q.1 = k := fun z => e (h1.trans z)
      have b : valueAt (q :: qs) k = valueAt qs k := by simp [valueAt, List.find?_cons, e']
      rw [valV_neg e, b]; exact ih
theorem KV.keys {kvs : List (κ × V)} {vs : List (κ × Value)} (r : KV kvs vs) : kvs.map (·.1) = vs.map (·.1) := by
  unfold KV at r
  induction r with
  | nil => rfl
  | cons h t ih => rw [List.map_cons, List.map_cons, ih, h.1]
end
theorem kV_is {P : Program} {w : World} {k : Key} {u : Value} (r : RelV (kV k) u) : (mixKind P w).is k u = true := by
  cases k with
  | inl i => obtain ⟨t, e⟩ := (show ∃ t, u = Value.int i t from r); subst e; exact mixKind_int P w i t
  | inr x => obtain ⟨t, e⟩ := (show ∃ t, u = Value.str x t from r); subst e; exact mixKind_str P w x t
theorem items_are {P : Program} {w : World} : ∀ {ks : List Key} {us : List Value}, Vals (ks.map kV) us → ItemsAre (mixKind P w) ks us
  | [], _, r => by rw [List.map_nil] at r; cases r; exact .nil
  | k :: ks, _, r => by
    rw [List.map_cons] at r
    cases r with
    | cons h t => exact .cons (kV_is h) (items_are t)
section
variable {P : Program} {w : World} {H : Hp} {h : Heap} {a : Addr}
end
section
variable {X : Cx} {pins : List (Addr × Obj)} {σ : St} {H : Hp} {s : Shared} {a : Addr} {y v : V} {u r : Value} {o : Option V} {A : Around} {E : Value → Shared → Prop}
end
section
variable {X : Cx} {pins : List (Addr × Obj)} {σ : St} {H : Hp} {s : Shared} {a : Addr} {kvs : List (Key × V)} {k : Key} {u : Value} {A : Around} {E : Value → Shared → Prop}
end
noncomputable def NoSl (i : Expr) : Prop := ∀ ov iv, subscripted i false ov iv = operate [ov, iv] (getItem ov iv)
theorem subD_of {prog : Program} {w : World} {A : Around} {E : Value → Shared → Prop} {s : Shared} {env : Env} {value slice : Expr} {pos : Pos} {T id : String} {Q : Value → Shared → Prop}
    (hl : typeLookup (.type T) "__getitem__" = pure (some (.builtin id))) (hs : NoSl slice)
    (h : wpAny (model prog w) A (eval value env) (fun o s₁ => wpAny (model prog w) A (eval slice env) (fun i s₂ => s₂.TypeIs o T ∧ wpAny (model prog w) A (getItem o i) Q E s₂) E s₁) E s) :
    wpAny (model prog w) A (eval (.Subscript value slice pos) env) Q E s := by
  refine Subscript_ (wpAny_mono h (fun o s₁ h₁ => wpAny_mono h₁ (fun i s₂ h₂ => ?_) fun _ _ x => x) fun _ _ x => x)
  obtain ⟨hT, h₂⟩ := h₂
  unfold subscriptTail
  refine wpAny_bind ?_
  rw [getitemInPython_of_ne hT.not_modules]
  refine wpAny_bind (wpAny_specialOf hT hl ?_)
  have fin : wpAny (model prog w) A (subscripted slice false o i) (fun r s₃ => wpAny (model prog w) A (letTemporaryGo value o r >>= fun _ => pure r) Q E s₃) E s₂ := by
    rw [hs o i]
    exact wpAny_operating (wpAny_mono h₂ (fun r s₃ h₃ => wpAny_bind (wpAny_letTemporaryGo (wpAny_pure h₃))) fun _ _ x => x)
  first
    | exact wpAny_pure (wpAny_bind fin)
    | exact wpAny_bind (wpAny_pure (wpAny_bind fin))
    | exact wpAny_bind fin
section
variable {X : Cx} {o i e value : Expr} {pos pos' tpos : Pos} {td ty tv : TE}
end
section
variable {X : Cx} {pos : Pos}
end
section
variable {X : Cx} {pins : List (Addr × Obj)} {σ : St} {H : Hp} {s : Shared} {a : Addr} {y d : V} {u r : Value} {o : Option V} {A : Around} {E : Value → Shared → Prop}
end
section
variable {X : Cx} {o e f : Expr} {apos cpos : Pos} {td ty tx : TE}
end
section
variable {X : Cx} {pins : List (Addr × Obj)} {σ : St} {H : Hp} {s : Shared} {a : Addr} {kvs : List (Key × V)} {A : Around} {E : Value → Shared → Prop}
end
section
variable {X : Cx} {pins : List (Addr × Obj)} {σ : St} {H : Hp} {s : Shared} {a : Addr} {y : V} {u : Value} {A : Around} {E : Value → Shared → Prop}
end
end L2
namespace L2
open PySem PySem.Spec PyProof.Rows
section
variable {X : Cx}
end
section
variable {κ : Type} [DecidableEq κ]
end
end L2
set_option Elab.async false
set_option linter.all false
set_option maxRecDepth 100000
set_option maxHeartbeats 4000000
namespace L2
open PySem PySem.Spec PyProof.Rows
theorem dict_mapFields (o : Obj) (f : Array Value → Array Value) : (o.mapFields f).dict = o.dict := by
  unfold Obj.mapFields
  split <;> rfl
noncomputable def Alone (h : Heap) (x : Addr) (dd : Option Addr) : Prop := ∃ o vs, h.get? x = some o ∧ o.data = .fields vs ∧ vs[2]? = some .none ∧ ∀ d, dd = some d → o.dict = some d
section
variable {prog : Program} {w : World} {A : Around} {E : Value → Shared → Prop} {s : Shared} {dd : Option Addr}
theorem Alone.keeps {h h' : Heap} {x : Addr} (a : Alone h x dd) (k : ∀ b o, h.get? b = some o → h'.get? b = some o) : Alone h' x dd := let ⟨o, vs, e, r⟩ := a; ⟨o, vs, k _ _ e, r⟩
end
section
variable {M : Model} {A : Around} {E : Value → Shared → Prop} {s : Shared} {dd : Option Addr}
theorem Alone.eq {h h' : Heap} {x : Addr} (a : Alone h x dd) (k : h'.get? x = h.get? x) : Alone h' x dd := let ⟨o, vs, e, r⟩ := a; ⟨o, vs, k.trans e, r⟩
theorem flight_alone {B : Heap} {l : List Env} {e : Addr} {cls a0 fl : Value} {Q : Unit → Shared → Prop} (k : B.StaysIn s.heap) (hl : s.heap.FunFrames B l) (ht : s.heap.TracedAtW B e cls a0 fl) (al : Alone s.heap e dd)
    (q : ∀ h', B.StaysIn h' → h'.FunFrames B l → h'.TracedW B e cls a0 → s.heap.UpToSlots h' → Alone h' e dd → Q () { s with heap := h' }) : wpAny M A (setFlight (.ref e) none) Q E s := by
  obtain ⟨oe, vs, T, oT, ts, g1, g2, g3, g4, g5, g6, g7, g8, g9⟩ := ht
  have z : 3 < ts.size := (Array.getElem?_eq_some_iff.mp g9).1
  have S := Heap.SameBut.update s.heap T (Obj.mapFields (·.setIfInBounds 3 ((none : Option Addr).elim Value.none fun f => rawInt f)))
  have nT : ∀ b o, s.heap.get? b = some o → (∀ us, o.data ≠ .fields us) → b ≠ T := by
    rintro b o hb hn rfl
    rw [g7] at hb
    cases hb
    exact hn ts g8
  have n1 : (Value.ref T != Value.none) = true := by simp
  unfold setFlight
  refine wpAny_bind (wpAny_field g1 g3 g4 ?_)
  rw [if_pos n1]
  refine wpAny_setField g7 g8 z (q _ (fun b o hb => (S.2 b ?_).trans (k b o hb)) (hl.of_keeps fun b o hb hn => ⟨o, (S.2 b (nT b o hb hn)).trans hb, rfl⟩) ?_ (fun b o hb hn => ⟨o.slots, (S.2 b (nT b o hb hn)).trans hb⟩) (al.eq (S.2 e (Ne.symm g6))))
  · rintro rfl
    rw [g5] at hb
    cases hb
  · exact ⟨oe, vs, T, _, _, (S.2 e (Ne.symm g6)).trans g1, g2, g3, g4, g5, g6, Heap.get?_update_self _ g7 (Obj.isFreed_of_fields (Obj.data_mapFields g8 _)), Obj.data_mapFields g8 _, by simp [z]⟩
theorem entry_alone {B : Heap} {env : Env} {outer : List Env} {L e : Addr} {oe : Obj} {vs : Array Value} {head a0 : Value} {more : Bool} {Q : Unit → Shared → Prop} (hfr : A.frames = some (env :: outer)) (hl : s.heap.FunFrames B (env :: outer)) (hf : env.frame = some L)
    (g1 : s.heap.get? e = some oe) (k : B.StaysIn s.heap) (hen : B.get? e = none) (g3 : oe.data = .fields vs) (z : 1 < vs.size) (h0 : vs[0]? = some a0) (h2 : vs[2]? = some .none) (hdd : ∀ d, dd = some d → oe.dict = some d)
    (q : ∀ h', Heap.NotedW B (env :: outer) e oe.cls a0 (rawInt L) s.heap h' → Alone h' e dd → Q () { s with heap := h' }) :
    wpAny M A (frameOf env >>= fun a => entryPlaceOf L more >>= fun pl => EntryCells.newEntry head a .none (rawInt L) .none pl >>= fun b => setField (.ref e) 1 b) Q E s := by
  have ne : e ∉ (env :: outer).filterMap (·.frame) := fun hm => by
    obtain ⟨_, o, ho, hn⟩ := hl.mem hm
    rw [g1] at ho
    cases ho
    exact hn vs g3
  refine wpAny_bind (wpAny_frameOf_fun hfr hl hf fun h1 S1 => wpAny_bind (wpAny_entryPlaceOf fun pl hpl => wpAny_bind ?_))
  unfold EntryCells.newEntry newFields
  refine wpAny_newObj_type ?_ (hpl.sizeOk5 _ _ _ _ _)
  have t3 : (([head, .ref L, .none, rawInt L, .none] ++ (if pl.isEmpty then List.replicate 6 Value.none else pl)).toArray)[3]? = some (rawInt L) := by simp
  generalize ([head, .ref L, .none, rawInt L, .none] ++ (if pl.isEmpty then List.replicate 6 Value.none else pl)).toArray = ts at t3 ⊢
  have e1 : h1.get? e = some oe := (S1.2.1 e ne).trans g1
  have k1 : B.StaysIn h1 := fun b o hb => (S1.2.1 b fun hm => by rw [(hl.mem hm).1] at hb; cases hb).trans (k b o hb)
  have nT : h1.objs.size ≠ e := Nat.ne_of_gt (Heap.lt_size e1)
  have e2 := Heap.get?_push_of_some (h := h1) { cls := .type "traceback", dict := none, data := .fields ts } e1
  have eT := Heap.get?_push_size h1 (o := { cls := .type "traceback", dict := none, data := .fields ts }) rfl
  refine wpAny_setField e2 g3 z (q _ ?_ ?_)
  all_goals
    have S2 := Heap.SameBut.update (h1.push { cls := .type "traceback", dict := none, data := .fields ts }) e (Obj.mapFields (·.setIfInBounds 1 (Value.ref h1.objs.size)))
    have e3 := Heap.get?_update_self (Obj.mapFields (·.setIfInBounds 1 (Value.ref h1.objs.size))) e2 (Obj.isFreed_of_fields (Obj.data_mapFields g3 _))
    have d3 := Obj.data_mapFields g3 (·.setIfInBounds 1 (Value.ref h1.objs.size))
  · have up : ∀ b o, s.heap.get? b = some o → (∀ us, o.data ≠ .fields us) → ∃ sl, ((h1.push { cls := .type "traceback", dict := none, data := .fields ts }).update e (Obj.mapFields (·.setIfInBounds 1 (Value.ref h1.objs.size)))).get? b = some { o with slots := sl } := fun b o hb hn => by
      obtain ⟨sl, hs⟩ := S1.2.2 b o hb
      have nb : b ≠ e := by
        rintro rfl
        rw [g1] at hb
        cases hb
        exact hn vs g3
      exact ⟨sl, (S2.2 b nb).trans (Heap.get?_push_of_some _ hs)⟩
    refine ⟨fun b o hb => ?_, hl.of_keeps fun b o hb hn => ?_, ⟨_, _, h1.objs.size, _, ts, e3, ⟨Obj.cls_mapFields .., ?_⟩, d3, ?_, k1.fresh, nT, (S2.2 _ nT).trans eT, rfl, t3⟩, up⟩
    · have nb : b ≠ e := by
        rintro rfl
        rw [hen] at hb
        cases hb
      exact (S2.2 b nb).trans (Heap.get?_push_of_some _ (k1 b o hb))
    · obtain ⟨sl, z⟩ := up b o hb hn
      exact ⟨_, z, rfl⟩
    · rw [Array.getElem?_setIfInBounds_ne (by decide)]; exact h0
    · simp [z]
  · refine ⟨_, _, e3, d3, by rw [Array.getElem?_setIfInBounds_ne (by decide)]; exact h2, fun d z => ?_⟩
    rw [← hdd d z]
    exact dict_mapFields ..
theorem note_alone {B : Heap} {env : Env} {outer : List Env} {L e : Addr} {cls a0 : Value} {Q : Unit → Shared → Prop} (hfr : A.frames = some (env :: outer)) (hf : env.frame = some L) (fl : Heap.FlyingW B (env :: outer) e cls a0 s.heap) (al : Alone s.heap e dd)
    (q : ∀ h', Heap.HeldW B (env :: outer) e cls a0 L h' → s.heap.UpToSlots h' → Alone h' e dd → Q () { s with heap := h' }) : wpAny M A (noteFrame (.ref e) env) Q E s := by
  obtain ⟨k, hen, hl, oe, vs, T, oT, ts, g1, ⟨rfl, h0⟩, g3, g4, g5, g6, g7, g8, g9⟩ := fl
  have h2 : vs[2]? = some .none ∧ ∀ d, dd = some d → oe.dict = some d := by
    obtain ⟨o', vs', x1, x2, x3⟩ := al
    rw [g1] at x1
    cases x1
    rw [g3] at x2
    cases x2
    exact x3
  have z : 3 < ts.size := (Array.getElem?_eq_some_iff.mp g9).1
  have S := Heap.SameBut.update s.heap T (Obj.mapFields (·.setIfInBounds 3 Value.none))
  have nT : ∀ b o, s.heap.get? b = some o → (∀ us, o.data ≠ .fields us) → b ≠ T := by
    rintro b o hb hn rfl
    rw [g7] at hb
    cases hb
    exact hn ts g8
  have n1 : (Value.ref T != Value.none) = true := by simp
  have n2 : ¬ ((Value.none == rawInt L) = true) := by simp [rawInt]
  unfold noteFrame
  simp only [hf]
  refine wpAny_bind (wpAny_field g1 g3 g4 ?_)
  rw [if_pos n1]
  refine wpAny_bind (wpAny_field g7 g8 g9 ?_)
  rw [if_neg n2]
  refine wpAny_bind (wpAny_setField g7 g8 z ?_)
  refine entry_alone hfr (hl.of_keeps fun b o hb hn => ⟨o, (S.2 b (nT b o hb hn)).trans hb, rfl⟩) hf ((S.2 e (Ne.symm g6)).trans g1) (fun b o hb => (S.2 b ?_).trans (k b o hb)) hen g3 (Array.getElem?_eq_some_iff.mp g4).1 h0 h2.1 h2.2 fun h' N al' => ?_
  · rintro rfl
    rw [g5] at hb
    cases hb
  · obtain ⟨x1, x2, x3, x4⟩ := N
    exact q h' ⟨x1, hen, x2, x3⟩ (fun b o hb hn => x4 b o ((S.2 b (nT b o hb hn)).trans hb) hn) al'
theorem lands_alone {B : Heap} {l : List Env} {e : Addr} {cls a0 : Value} {Q : Unit → Shared → Prop} {L : Addr} (fl : Heap.HeldW B l e cls a0 L s.heap) (al : Alone s.heap e dd)
    (q : ∀ h', Heap.FlyingW B l e cls a0 h' → s.heap.UpToSlots h' → Alone h' e dd → Q () { s with heap := h' }) : wpAny M A (setFlight (.ref e) none) Q E s :=
  flight_alone fl.1 fl.2.2.1 fl.2.2.2 al fun h' a b c d f => q h' ⟨a, fl.2.1, b, c⟩ d f
theorem again_alone {B : Heap} {l : List Env} {e : Addr} {cls a0 : Value} {Q : Unit → Shared → Prop} (fl : Heap.FlyingW B l e cls a0 s.heap) (al : Alone s.heap e dd)
    (q : ∀ h', Heap.FlyingW B l e cls a0 h' → s.heap.UpToSlots h' → Alone h' e dd → Q () { s with heap := h' }) : wpAny M A (setFlight (.ref e) none) Q E s :=
  flight_alone fl.1 fl.2.2.1 fl.2.2.2.at al fun h' a b c d f => q h' ⟨a, fl.2.1, b, c⟩ d f
theorem leaves_alone {B : Heap} {env : Env} {outer : List Env} {L e : Addr} {cls a0 : Value} {Q : Unit → Shared → Prop} (hfr : A.frames = some (env :: outer)) (hf : env.frame = some L) (fl : Heap.FlyingW B (env :: outer) e cls a0 s.heap) (al : Alone s.heap e dd)
    (q : ∀ h', Heap.FlyingW B outer e cls a0 h' → s.heap.UpToSlots h' → Alone h' e dd → Q () { s with heap := h' }) : wpAny M A (leaving env (.ref e)) Q E s := by
  unfold leaving
  refine wpAny_bind (note_alone hfr hf fl al fun h1 H1 u1 a1 => lands_alone (s := { s with heap := h1 }) H1 a1 fun h2 F2 u2 a2 => ?_)
  obtain ⟨x1, x2, ⟨_, _, x3⟩, x4⟩ := F2
  exact q h2 ⟨x1, x2, x3, x4⟩ (u1.trans u2) a2
structure MadeX (h h' : Heap) (e : Addr) (cls : Value) (dd : Option Addr) : Prop where
  keeps : ∀ b o, h.get? b = some o → h'.get? b = some o
  new : h.get? e = none
  there : ∃ oe vs t, h'.get? e = some oe ∧ oe.cls = cls ∧ oe.data = .fields vs ∧ vs[0]? = some (.ref t) ∧ vs[1]? = some .none ∧ vs[2]? = some .none ∧ 1 < vs.size ∧ ∀ d, dd = some d → oe.dict = some d
theorem MadeX.of {h h' : Heap} {e : Addr} {cls : Value} {args : List Value} (hx : Heap.MadeExcOf h h' e cls args) : MadeX h h' e cls none := by
  obtain ⟨t, he, _, _⟩ := hx.there
  exact ⟨hx.keeps, hx.new, _, _, t, he, rfl, rfl, rfl, rfl, rfl, by simp, fun _ z => by cases z⟩
theorem made_alone {B h : Heap} {env : Env} {outer : List Env} {L e : Addr} {cls : Value} {Q : Unit → Shared → Prop} (hfr : A.frames = some (env :: outer)) (hf : env.frame = some L) (k : B.StaysIn h) (hl : h.FunFrames B (env :: outer)) (hx : MadeX h s.heap e cls dd)
    (q : ∀ h' a0, Heap.FlyingW B outer e cls a0 h' → s.heap.UpToSlots h' → Alone h' e dd → Q () { s with heap := h' }) : wpAny M A (leaving env (.ref e)) Q E s := by
  obtain ⟨oe, vs, t, he, rfl, hd, h0, h1, h2, hz, hdd⟩ := hx.there
  have fresh : ∀ b, h.get? b = none → B.get? b = none := fun b hb => by
    cases hq : B.get? b with
    | none => rfl
    | some o' => exact absurd (k b o' hq) (by rw [hb]; intro z; cases z)
  unfold leaving noteFrame
  simp only [hf]
  refine wpAny_bind (wpAny_bind (wpAny_field (x := .none) he hd h1 ?_))
  rw [if_neg (by decide)]
  refine entry_alone (a0 := .ref t) hfr (hl.of_keeps fun b o hb _ => ⟨o, hx.keeps b o hb, rfl⟩) hf he (fun b o hb => hx.keeps b o (k b o hb)) (fresh e hx.new) hd hz h0 h2 hdd fun h1 N a1 => ?_
  obtain ⟨x1, x2, x3, x4⟩ := N
  refine flight_alone (s := { s with heap := h1 }) x1 x2 x3 a1 fun h2 y1 y2 y3 y4 y5 => ?_
  obtain ⟨_, _, y2'⟩ := y2
  exact q h2 _ ⟨y1, fresh e hx.new, y2', y3⟩ (Heap.UpToSlots.trans x4 y4) y5
end
end L2
set_option Elab.async false
set_option linter.all false
set_option maxRecDepth 100000
set_option maxHeartbeats 4000000
namespace L2
open PySem PySem.Spec PyProof.Rows
theorem ObjOk.obj {P : Program} {w : World} {H : Hp} {h : Heap} {a : Addr} {o : HO} (x : ObjOk P w H h a o) : ∃ ob, h.get? a = some ob := by
  cases o with
  | lst xs => obtain ⟨_, _, _, _, e⟩ := x; exact ⟨_, e⟩
  | tup xs => obtain ⟨_, _, _, ob, e, _⟩ := x; exact ⟨_, e⟩
  | dK kvs => obtain ⟨_, _, _, _, ob, es, ep, e, _⟩ := x; exact ⟨_, e⟩
  | dT kvs => obtain ⟨_, _, _, _, ob, es, ep, e, _⟩ := x; exact ⟨_, e⟩
  | set S n => obtain ⟨ob, es, ep, t, e, _⟩ := x; exact ⟨_, e⟩
  | ins C dx fs => obtain ⟨_, _, _, e, _⟩ := x; exact ⟨_, e⟩
  | own y => exact x
  | xd fs => obtain ⟨mA, hn, _⟩ := x; obtain ⟨ob, es, ep, e, _⟩ := hn; exact ⟨_, e⟩
  | rng lo hi => obtain ⟨_, _, _, e⟩ := x; exact ⟨_, e⟩
  | frz ob u => exact ⟨_, x.1⟩
  | tbl ps => exact ⟨_, x⟩
  | met f y => exact ⟨_, x⟩
  | ext φ => exact x.2.1
structure Fly (P : Program) (w : World) (outer : List Env) (H : Hp) (s : Shared) (x : Addr) (cls : Value) (da : Option Addr) (H' : Hp) (s' : Shared) : Prop where
  os : s'.os = s.os
  bare : AllBare s'.gens
  un : Un (frs outer) [] H H' s.heap s'.heap
  hok : HOk P w H' s'.heap
  new : H' x = none
  alone : Alone s'.heap x da
  fly : ∃ B a0, Heap.FlyingW B outer x cls a0 s'.heap ∧ (∀ b o, s'.heap.get? b = some o → H' b ≠ none → B.get? b = some o) ∧
    ∀ b o o', s.heap.get? b = some o → b ∉ frs outer → s'.heap.get? b = some o' → B.get? b = some o'
noncomputable def CXE (P : Program) (w : World) : CXT := fun outer H s E e s' => ∃ x cls da H', e = .ref x ∧ E cls da H' ∧ Fly P w outer H s x cls da H' s'
section
variable {P : Program} {w : World} {K : PySem.W.Frag} {mg : Str → Option Value} {base : Heap} {N : List Str} {qual : Str} {scope : Scope} {f : Addr} {cd : Value} {A : Around} {outer : List Env} {s₀ : Shared} {H₀ : Hp} {E : XK}
theorem frs_mem {l : List Env} {env : Env} {a : Addr} (h : env ∈ l) (e : env.frame = some a) : a ∈ frs l := List.mem_filterMap.mpr ⟨env, h, e⟩
theorem fly_made {pins : List (Addr × Obj)} {σ : St} {H : Hp} {s : Shared} {h1 : Heap} {tk : Nat} {e : Addr} {cls : Value} {da : Option Addr} (I : Inv (cxOf (CXE P w) P w K mg base N qual scope f cd A outer s₀ H₀ E) pins σ H s)
    (hx : MadeX s.heap h1 e cls da) (hE : E cls da H) : (cxOf (CXE P w) P w K mg base N qual scope f cd A outer s₀ H₀ E).xe (.ref e) { s with heap := h1, toks := tk } := by
  have stk : (cxOf (CXE P w) P w K mg base N qual scope f cd A outer s₀ H₀ E).stack = envOfC qual scope s₀.heap.objs.size f cd :: outer := rfl
  have hL : ∀ b ∈ frs (envOfC qual scope s₀.heap.objs.size f cd :: outer), b ∈ frs outer ∨ b = s₀.heap.objs.size := fun b hb => by
    have := I.stkSub b hb
    rcases List.mem_cons.mp this with z | z
    · exact .inr z
    · exact .inl z
  have hfr : ∀ env ∈ (envOfC qual scope s₀.heap.objs.size f cd :: outer), ∀ a, env.frame = some a → a ∈ frs (envOfC qual scope s₀.heap.objs.size f cd :: outer) := fun env he a ha => frs_mem he ha
  have hff := PySem.W.funFrames_hide I.stack hfr
  have low : ∀ b o, s₀.heap.get? b = some o → b ∉ frs outer → b ∉ frs (envOfC qual scope s₀.heap.objs.size f cd :: outer) := fun b o hb hn hm => by
    rcases hL b hm with z | z
    · exact hn z
    · exact absurd (Heap.lt_size hb) (by rw [z]; exact Nat.lt_irrefl _)
  refine made_alone (B := PySem.W.hideAll s.heap (frs (envOfC qual scope s₀.heap.objs.size f cd :: outer))) (h := s.heap) I.ok.frames rfl (fun b o q => PySem.W.of_hideAll _ q) hff hx fun h' t x1 x4 x5 => ?_
  have up : ∀ b ∈ frs (envOfC qual scope s₀.heap.objs.size f cd :: outer), ∀ o, s.heap.get? b = some o → ∃ sl, h'.get? b = some { o with slots := sl } := fun b hb o ho => by
    obtain ⟨_, o', ho', hd⟩ := hff.mem hb
    rw [ho] at ho'
    cases ho'
    exact x4 b o (hx.keeps b o ho) hd
  have stay : ∀ b o, b ∉ frs (envOfC qual scope s₀.heap.objs.size f cd :: outer) → s.heap.get? b = some o → h'.get? b = some o := fun b o hn ho => x1.1 b o (PySem.W.hideAll_get _ ho hn)
  have trk : ∀ b, H b ≠ none → b ∉ frs (envOfC qual scope s₀.heap.objs.size f cd :: outer) := fun b hb hm => hb (I.stkFree b hm)
  have U := I.base
  have hnew : H e = none := by
    cases hq : H e with
    | none => rfl
    | some u =>
      obtain ⟨ob, z⟩ := (I.hok e u hq).obj
      rw [hx.new] at z
      cases z
  refine ⟨e, cls, da, H, rfl, hE, I.os, I.bare, ⟨fun b o q n hb _ => stay b o (low b o q hb) (U.keep b o q n hb (by intro z; cases z)), fun b o q n hb _ => ?_, fun b o q n _ => U.free b o q n (by intro z; cases z), fun b o q _ => ?_, U.tups, U.frzs, U.tbls⟩, fun a o q => ?_, hnew, x5, _, _, x1, fun b o q hb => ?_, fun b o o' q hb q' => ?_⟩
  · obtain ⟨sl, e1⟩ := U.slot b o q n hb (by intro z; cases z)
    obtain ⟨sl', e2⟩ := up b (by show b ∈ List.filterMap _ (_ :: _); exact List.mem_cons_of_mem _ hb) _ e1
    exact ⟨sl', e2⟩
  · obtain ⟨o1, e1⟩ := U.there b o q (by intro z; cases z)
    by_cases hb : b ∈ frs (envOfC qual scope s₀.heap.objs.size f cd :: outer)
    · obtain ⟨sl, e2⟩ := up b hb _ e1
      exact ⟨_, e2⟩
    · exact ⟨_, stay b _ hb e1⟩
  · refine (I.hok a o q).stay (fun b u hb z => stay b u (trk b ?_) z) (fun _ z => z) fun _ _ z => z
    rcases hb with rfl | hb
    · rw [q]; intro z; cases z
    · rw [hb]; intro z; cases z
  · obtain ⟨o1, e1⟩ : ∃ o1, s.heap.get? b = some o1 := by
      cases hq : H b with
      | none => exact absurd hq hb
      | some u => exact (I.hok b u hq).obj
    have := stay b o1 (trk b hb) e1
    rw [q] at this
    cases this
    exact PySem.W.hideAll_get _ e1 (trk b hb)
  · obtain ⟨o1, e1⟩ := U.there b o q (by intro z; cases z)
    have hn := low b o q hb
    have := stay b o1 hn e1
    rw [q'] at this
    cases this
    exact PySem.W.hideAll_get _ e1 hn
theorem fly_on {E' : XK} (hEE : ∀ cls da H, E' cls da H → E cls da H) : Passes (CXE P w) (cxOf (CXE P w) P w K mg base N qual scope f cd A outer s₀ H₀ E) E' := by
  intro pins σ H s e s' I h
  obtain ⟨x, cls, da, H', rfl, hE, F⟩ := h
  obtain ⟨B, a0, fl, f1, f2⟩ := F.fly
  have hL : ∀ b ∈ frs (envOfC qual scope s₀.heap.objs.size f cd :: outer), b ∈ frs outer ∨ b = s₀.heap.objs.size := fun b hb => by
    rcases List.mem_cons.mp (I.stkSub b hb) with z | z
    · exact .inr z
    · exact .inl z
  have low : ∀ b o, s₀.heap.get? b = some o → b ∉ frs outer → b ∉ frs (envOfC qual scope s₀.heap.objs.size f cd :: outer) := fun b o hb hn hm => by
    rcases hL b hm with z | z
    · exact hn z
    · exact absurd (Heap.lt_size hb) (by rw [z]; exact Nat.lt_irrefl _)
  have U := I.base
  have no : ∀ b : Addr, b ∉ ([] : List Addr) := fun b z => by cases z
  refine leaves_alone I.ok.frames rfl fl F.alone fun h' x1 x2 x3 => ?_
  have two : ∀ b o, s₀.heap.get? b = some o → ∃ o1 o2, s.heap.get? b = some o1 ∧ s'.heap.get? b = some o2 := fun b o q => by
    obtain ⟨o1, e1⟩ := U.there b o q (no b)
    obtain ⟨o2, e2⟩ := F.un.there b o1 e1 (no b)
    exact ⟨o1, o2, e1, e2⟩
  have stay : ∀ b o o2, s₀.heap.get? b = some o → b ∉ frs outer → s'.heap.get? b = some o2 → B.get? b = some o2 := fun b o o2 q hb q2 => by
    obtain ⟨o1, o2', e1, e2⟩ := two b o q
    exact f2 b o1 o2 e1 (low b o q hb) q2
  have hff := fl.2.2.1
  refine ⟨x, cls, da, H', rfl, hEE _ _ _ hE, F.os.trans I.os, F.bare, ⟨fun b o q n hb _ => ?_, fun b o q n hb _ => ?_, fun b o q n _ => ?_, fun b o q _ => ?_, fun b xs q => F.un.tups b xs (U.tups b xs q), fun b o u q => F.un.frzs b o u (U.frzs b o u q), fun b ps q => ?_⟩, fun a o q => ?_, F.new, x3, B, a0, x1, fun b o q hb => ?_, fun b o o' q hb q' => ?_⟩
  · have e1 := U.keep b o q n hb (no b)
    have e2 := F.un.keep b o e1 (U.free b o q n (no b)) (low b o q hb) (no b)
    exact x1.1 b o (stay b o o q hb e2)
  · obtain ⟨sl, e1⟩ := U.slot b o q n hb (no b)
    have hb' : b ∈ frs (envOfC qual scope s₀.heap.objs.size f cd :: outer) := by show b ∈ List.filterMap _ (_ :: _); exact List.mem_cons_of_mem _ hb
    obtain ⟨sl2, e2⟩ := F.un.slot b _ e1 (U.free b o q n (no b)) hb' (no b)
    obtain ⟨_, o', ho', hd⟩ := hff.mem hb'
    rw [e2] at ho'
    cases ho'
    obtain ⟨sl3, e3⟩ := x2 b _ e2 hd
    exact ⟨sl3, e3⟩
  · obtain ⟨o1, e1⟩ := U.there b o q (no b)
    exact F.un.free b o1 e1 (U.free b o q n (no b)) (no b)
  · obtain ⟨o1, o2, e1, e2⟩ := two b o q
    by_cases hb : b ∈ frs outer
    · have hb' : b ∈ frs (envOfC qual scope s₀.heap.objs.size f cd :: outer) := by show b ∈ List.filterMap _ (_ :: _); exact List.mem_cons_of_mem _ hb
      obtain ⟨_, o', ho', hd⟩ := hff.mem hb'
      obtain ⟨sl3, e3⟩ := x2 b _ ho' hd
      exact ⟨_, e3⟩
    · exact ⟨_, x1.1 b o2 (stay b o o2 q hb e2)⟩
  · obtain ⟨m1, e1⟩ := U.tbls b ps q
    obtain ⟨m2, e2⟩ := F.un.tbls b _ e1
    exact ⟨m1 ++ m2, by rw [e2, Array.append_assoc]⟩
  · refine (F.hok a o q).stay (fun b u hb z => x1.1 b u (f1 b u z ?_)) (fun _ z => z) fun _ _ z => z
    rcases hb with rfl | hb
    · rw [q]; intro z; cases z
    · rw [hb]; intro z; cases z
  · obtain ⟨o1, e1⟩ : ∃ o1, s'.heap.get? b = some o1 := by
      cases hq : H' b with
      | none => exact absurd hq hb
      | some u => exact (F.hok b u hq).obj
    have e2 := f1 b o1 e1 hb
    have := x1.1 b o1 e2
    rw [q] at this
    cases this
    exact e2
  · obtain ⟨o1, o2, e1, e2⟩ := two b o q
    have e3 := stay b o o2 q hb e2
    have := x1.1 b o2 e3
    rw [q'] at this
    cases this
    exact e3
end
end L2
set_option Elab.async false
set_option linter.all false
set_option maxRecDepth 100000
set_option maxHeartbeats 4000000
namespace L2
open PySem PySem.Spec PyProof.Rows
section
variable {prog : Program} {w : World} {A : Around} {E : Value → Shared → Prop} {K : PySem.W.Frag} {x D : Addr} {ox : Obj} {s : Shared}
structure InstC (h : Heap) (x : Addr) (ox : Obj) (D : Addr) : Prop where
  at_ : h.get? x = some ox
  cls : ox.cls = .ref D
theorem InstC.type {M : Model} {h : Heap} {y C : Addr} {oy : Obj} (I : InstC h y oy C) : PySem.W.Looks M h (typeOf (.ref y)) (.ref C) := by
  have z : PySem.W.Looks M h (typeOf (.ref y)) oy.cls := (PySem.W.Looks.ld I.at_).andThen .now
  rwa [I.cls] at z
theorem xc_find {M : Model} {h : Heap} (X : K.In h) (ha : PySem.W.findIn K (.ref D) "__class__" = some (some (.builtin "object.__class__"))) (hg : PySem.W.specialIn K (.builtin "object.__class__") "__get__" = some (some (.builtin "getset_descriptor.__get__")))
    (ht : PySem.W.takesIn K (.builtin "object.__class__") = some true) : PySem.W.Looks M h (Builtin.ObjectAttr.find (.ref x) (.ref D) "__class__") (.bind (.builtin "getset_descriptor.__get__") (.builtin "object.__class__")) := by
  have L1 := PySem.W.looks_findIn (M := M) X ha
  have L2 : PySem.W.Looks M h (Builtin.ObjectAttr.getOf (some (.builtin "object.__class__"))) (some (.builtin "getset_descriptor.__get__")) := PySem.W.looks_specialIn X hg
  have L3 := PySem.W.looks_takesIn (M := M) X ht
  refine L1.andThen (L2.andThen ?_)
  refine PySem.W.Looks.andThen (a := some (.builtin "getset_descriptor.__get__", .builtin "object.__class__")) (L3.andThen ?_) (PySem.W.Looks.tag .now)
  rw [if_pos rfl]
  exact .now
theorem xc_get {tp : Value} {R : Result → Shared → Prop} (X : K.In s.heap) (I : InstC s.heap x ox D) (hm : PySem.W.mroIn K D (.type "object") = some true) (hq : R (.ok (.ret (.ref D))) s) :
    codeAny (model prog w) A (.call (.builtin "getset_descriptor.__get__") ⟨[.builtin "object.__class__", .ref x, tp], []⟩) R s := by
  obtain ⟨hh, g, d, t, os⟩ := s
  have T0 := I.type (M := model prog w)
  have T1 := PySem.W.looks_mroIn (M := model prog w) X hm
  refine codeAny_call_builtin PySem.W.KF.slot_gs.plain PySem.W.KF.entry_gs (PySem.W.KF.slot_gs.check _ _ _ _ _ _ _ _ PySem.W.KF.type_class (PySem.W.KF.args_gs _ _ _) ?_)
  unfold Builtin.«getset_descriptor.__get__» Builtin.Getset_descriptor.descrGet; rw [PySem.W.dga_obj]
  refine wpAny_bind (wpAny_pure ?_); unfold Builtin.Getset_descriptor.descrGetter Builtin.Getset_descriptor.descrCheckInstance Builtin.Getset_descriptor.descrNameAndClass isInstance
  simp only [PySem.W.KF.owner_class]; repeat lk
  refine ⟨Code.quiet_builtin _ (by decide +kernel), codeAny_builtin PySem.W.KF.entry_class ?_⟩
  unfold Builtin.«object.__class__» shownTypeOf; repeat lk
  exact hq
theorem xc_entry {tk : Tok} {Q : Fin → Shared → Prop} (X : K.In s.heap) (I : InstC s.heap x ox D) (ha : PySem.W.findIn K (.ref D) "__class__" = some (some (.builtin "object.__class__"))) (hg : PySem.W.specialIn K (.builtin "object.__class__") "__get__" = some (some (.builtin "getset_descriptor.__get__")))
    (ht : PySem.W.takesIn K (.builtin "object.__class__") = some true) (hm : PySem.W.mroIn K D (.type "object") = some true)
    (hq : Q (.done (.ret (.ref D))) s) : wpAny (model prog w) A (Builtin.«object.__getattribute__» ⟨[.ref x, .str "__class__" tk], []⟩) Q E s := by
  obtain ⟨hh, g, d, t, os⟩ := s
  have L0 := I.type (M := model prog w)
  have L1 := xc_find (M := model prog w) (x := x) X ha hg ht
  unfold Builtin.«object.__getattribute__»
  refine wpAny_bind (wpAny_pure (wpAny_bind (wpAny_pure (wpAny_bind (L0.at (wpAny_bind (L1.at ?_)))))))
  show wpAny _ _ (holding [Value.builtin "object.__class__"] (call (Value.builtin "getset_descriptor.__get__") [.builtin "object.__class__", .ref x, .ref D]) >>= ret) _ _ _
  exact wpAny_bind (wpAny_holding (wpAny_call (xc_get (s := ⟨hh, g, d, t, os⟩) X I hm (wpAny_pure hq))))
theorem xc_check {nameV : Value} {M : Model} {Q : Unit → Shared → Prop} (X : K.In s.heap) (I : InstC s.heap x ox D) (hs : PySem.W.subIn K (.ref D) (.type "BaseException") = some true) (hq : Q () s) :
    wpAny M A (checkBuiltinCall "BaseException.__getattribute__" ⟨[.ref x, nameV], []⟩) Q E s := by
  have k1 : builtinKind "BaseException.__getattribute__" = some .slot := by decide +kernel
  have k2 : splitId "BaseException.__getattribute__" = some ("BaseException", "__getattribute__") := by decide +kernel
  have k3 := PySem.F.args_bexc_ga (.ref x) nameV
  have LI : PySem.W.Looks M s.heap (isInstance (.ref x) (.type "BaseException")) true := (I.type (M := M)).andThen (PySem.W.looks_subIn X hs)
  obtain ⟨hh, g, d, t, os⟩ := s
  simp only [checkBuiltinCall, k1, k2]
  refine wpAny_bind (LI.at ?_)
  repeat (any_goals (first | assumption | wp_step))
structure ExcK (K : PySem.W.Frag) (D : Addr) : Prop where
  lk : ∃ c d cd sl, K.lookup D = some ⟨c, d, .cls cd, sl⟩
  ga : PySem.W.findIn K (.ref D) "__getattribute__" = some (some (.builtin "BaseException.__getattribute__"))
  gt : PySem.W.findIn K (.ref D) "__getattr__" = some none
  sb : PySem.W.subIn K (.ref D) (.type "BaseException") = some true
  cf : PySem.W.findIn K (.ref D) "__class__" = some (some (.builtin "object.__class__"))
  cg : PySem.W.specialIn K (.builtin "object.__class__") "__get__" = some (some (.builtin "getset_descriptor.__get__"))
  ct : PySem.W.takesIn K (.builtin "object.__class__") = some true
  mo : PySem.W.mroIn K D (.type "object") = some true
theorem xc_attr {Q : Option Value → Shared → Prop} (X : K.In s.heap) (I : InstC s.heap x ox D) (F : ExcK K D)
    (h : Q (some (.ref D)) { s with toks := s.toks + 1 }) : wpAny (model prog w) A (getAttr? (.ref x) "__class__") Q E s := by
  obtain ⟨hh, g, d, t, os⟩ := s
  have L0 := I.type (M := model prog w)
  have L1 := PySem.W.looks_findIn (M := model prog w) X F.ga
  have L2 := PySem.W.looks_findIn (M := model prog w) X F.gt
  unfold getAttr? getAttrBy? getAttrBy
  refine wpAny_bind (wpAny_mkText (wpAny_bind (wpAny_attempt (wpAny_holding (wpAny_bind (L0.at (wpAny_bind (L1.at ?_))))))))
  repeat (any_goals (first | assumption | wp_step | lk))
  refine codeAny_call_builtin (PySem.F.excAttr_ValueError).ga.plain PySem.F.entry_bexc_ga (xc_check (s := ⟨hh, g, d, t + 1, os⟩) X I F.sb (xc_entry (s := ⟨hh, g, d, t + 1, os⟩) X I F.cf F.cg F.ct F.mo ?_))
  repeat (any_goals (first | assumption | wp_step | lk))
theorem kitx_exc (F : ExcK K D) : PySem.W.KitX K (.ref x) (.ref D) (fun h => InstC h x ox D) where
  ty := fun _ _ _ I => I.type
  it := fun M h X _ => by
    obtain ⟨c, d, cd, sl, ho⟩ := F.lk
    intro A' Q' E' s' k q
    unfold isType loadHead
    exact wpAny_bind (wpAny_loadPart (k _ _ (X _ _ ho)) (wpAny_pure q))
  ne := fun h tp dd its n sl X htp => by
    obtain ⟨c, d, cd, sl', ho⟩ := F.lk
    rw [Bool.eq_false_iff]
    intro q
    cases (show D = tp from Value.ref.inj (eq_of_beq q))
    have z := X _ _ ho
    rw [htp] at z
    cases z
  ca := fun X I k => xc_attr X I F k
end
noncomputable abbrev inH (X : Cx) (x : Addr) (oe : Obj) : Cx := { X with A := X.A.mark (some (.ref x)), calm := false, pn := (x, oe) :: X.pn, xe := fun _ _ => False }
noncomputable abbrev inM (X : Cx) (x : Addr) : Cx := { X with A := X.A.mark (some (.ref x)), calm := false, xe := fun _ _ => False }
section
variable {X : Cx} {pins : List (Addr × Obj)} {σ : St} {H : Hp} {s : Shared} {x : Addr} {oe : Obj}
theorem Cx.Ok.marked (ok : X.Ok) (x : Addr) : (inM X x).Ok :=
  ⟨ok.mod, ok.kind, ok.glob, ok.blt, ok.above, ok.inj, ok.has, ok.cab, (fun z => Bool.noConfusion z), ok.frames, ok.stk, ok.exf, ok.bs, ok.bsz, ok.noex, ok.exfs, ok.funs, ok.frf⟩
theorem Inv.marked (I : Inv X pins σ H s) (x : Addr) : Inv (inM X x) pins σ H s := ⟨I.ok.marked x, I.os, I.bare, I.base, I.loc, I.cell, I.free, I.freeC, I.pin, I.hok, I.len⟩
theorem Inv.pinH (I : Inv X pins σ H s) (h1 : s.heap.get? x = some oe) (h2 : H x = none) (h3 : x ≠ X.env.locals) (h4 : x ∉ X.fs) (h5 : ∀ v, oe.data ≠ .cell v) : Inv (inH X x oe) pins σ H s :=
  ⟨⟨I.ok.mod, I.ok.kind, I.ok.glob, I.ok.blt, I.ok.above, I.ok.inj, I.ok.has, I.ok.cab, (fun z => Bool.noConfusion z), I.ok.frames, I.ok.stk, I.ok.exf, I.ok.bs, I.ok.bsz, I.ok.noex, I.ok.exfs, I.ok.funs, I.ok.frf⟩, I.os, I.bare, I.base, I.loc, I.cell, I.free, I.freeC,
    fun p hp => by
      rcases List.mem_cons.mp hp with rfl | hp
      · exact ⟨h1, h2, h3, h4, h5⟩
      · exact I.pin p hp, I.hok, I.len⟩
theorem Inv.unpinH (ok : X.Ok) (I : Inv (inH X x oe) pins σ H s) : Inv X pins σ H s := ⟨ok, I.os, I.bare, I.base, I.loc, I.cell, I.free, I.freeC, fun p hp => I.pin p (List.mem_cons_of_mem _ hp), I.hok, I.len⟩
noncomputable def rIsiX (K : PySem.W.Frag) (x D : Addr) : List V → Hp → VK → Prop := fun xs H Q => ∃ b : Bool, ((∃ C, xs = [.ref x, .ref C] ∧ PySem.W.kitOne K (.ref D) (.ref C) = some b) ∨ (∃ T, xs = [.ref x, .ty T] ∧ PySem.W.kitOne K (.ref D) (.type T) = some b) ∨
  ∃ (p : Addr) (Cs : List Addr), xs = [.ref x, .ref p] ∧ H p = some (.tup (Cs.map V.ref)) ∧ PySem.W.kitAny K (.ref D) (Cs.map Value.ref) = some b) ∧ Q (.bl b) H
theorem vals_refs : ∀ {Cs : List Addr} {us : List Value}, Vals (Cs.map V.ref) us → us = Cs.map Value.ref
  | [], _, r => by cases r; rfl
  | _ :: _, _, r => by
    cases r with
    | cons r t => cases r; rw [vals_refs t]; rfl
theorem call_isiX {D : Addr} (F : ExcK X.K D) (hc : oe.cls = .ref D) : CallR (inH X x oe) (.builtin "isinstance") (rIsiX X.K x D) := by
  intro pins s σ H xs us Q I r h
  obtain ⟨b, h, q⟩ := h
  have p := (I.pin (x, oe) (List.mem_append_left _ List.mem_cons_self)).1
  have J : InstC s.heap x oe D := ⟨p, hc⟩
  rcases h with ⟨C, rfl, hk⟩ | ⟨T, rfl, hk⟩ | ⟨tp, Cs, rfl, ht, hk⟩
  · obtain ⟨u, w', rfl, r1, r2⟩ := vals2 r
    cases (show u = Value.ref x from r1)
    cases (show w' = Value.ref C from r2)
    exact PySem.W.kia_one (kitx_exc F) I.kIn J hk (fun z => nomatch z) fun tk => ⟨.bl b, H, I.tok tk, rfl, q⟩
  · obtain ⟨u, w', rfl, r1, r2⟩ := vals2 r
    cases (show u = Value.ref x from r1)
    cases (show w' = Value.type T from r2)
    exact PySem.W.kia_one (kitx_exc F) I.kIn J hk (fun z => nomatch z) fun tk => ⟨.bl b, H, I.tok tk, rfl, q⟩
  · obtain ⟨u, w', rfl, r1, r2⟩ := vals2 r
    cases (show u = Value.ref x from r1)
    cases (show w' = Value.ref tp from r2)
    obtain ⟨its, rv, ⟨⟨cls, dd, data, sl⟩, ho, hcl, n, hdt⟩, _⟩ := I.tuple (SqT.of ht)
    simp only at hcl hdt
    subst hcl hdt
    rw [vals_refs rv] at ho
    exact PySem.W.kia_tup (kitx_exc F) I.kIn J ho hk (fun z => nomatch z) fun tk => ⟨.bl b, H, I.tok tk, rfl, q⟩
end
noncomputable def tRaise (cls : Value) (E : XK) (t : TA) : TS := fun _ σ H => t σ H fun vs H1 => vs.length ≤ sizeLine ∧ E cls none H1
theorem own_mk {K : PySem.W.Frag} {h : Heap} {mg : Str → Option Value} {x : Str} {C : Addr} {bm : List Value} {nid : String} (X : K.In h) (G : h.Ns mainGlobals mg) (e : PySem.W.nsIn K mainGlobals x = some (some (.ref C))) (q : PySem.W.excIn K C bm nid = true) : OwnCls x C bm nid mg h := by
  constructor
  · exact PySem.W.mg_of X G e
  · unfold PySem.W.excIn at q
    cases hl : K.lookup C with
    | none => rw [hl] at q; cases q
    | some o =>
      rw [hl] at q
      obtain ⟨cl, dd, data, sl⟩ := o
      split at q
      · rename_i hh
        cases hh
        split at q
        · rename_i _ cd _ _ C' bm' k0 k1 k2 k3 n k5 hm hs
          simp only [Bool.and_eq_true, beq_iff_eq, Bool.not_eq_true'] at q
          obtain ⟨⟨⟨⟨⟨rfl, rfl⟩, d0⟩, t0⟩, o0⟩, i0⟩ := q
          obtain ⟨nm, bs, mro, ns, qn, hd, sn, sub, ab, col, del⟩ := cd
          try dsimp only at hm d0 o0 i0
          subst hm d0
          obtain ⟨l⟩ := sl
          simp only at hs
          subst hs
          exact ⟨_, _, _, _, _, _, _, _, _, _, _, _, _, _, _, _, _, X _ _ hl, .of_isNs (PySem.W.isNs_of_in X o0), PySem.W.nsMap_none_of_in X o0 i0, PySem.W.tail_of_in X t0⟩
        · cases q
      · cases q
section
variable {P : Program} {w : World} {K : PySem.W.Frag} {mg : Str → Option Value} {base : Heap} {N : List Str} {qual : Str} {scope : Scope} {f : Addr} {cd : Value} {A : Around} {outer : List Env} {s₀ : Shared} {H₀ : Hp} {E : XK}
theorem ps_raise {x : Str} {C : Addr} {B nid iid : String} {bm : List Value} {np cpos pos : Pos} {e : Expr} {es : List Expr} {t : TA} (O : OwnCls x C bm nid mg base) (FB : ExcBaseFacts B nid iid bm)
    (ha : PA (cxOf (CXE P w) P w K mg base N qual scope f cd A outer s₀ H₀ E) (e :: es) t) (hg : Gl (cxOf (CXE P w) P w K mg base N qual scope f cd A outer s₀ H₀ E) x := by rfl) (hd : (x == ("__debug__" : Str)) = false := by decide)
    (he : starEach (e :: es) (cxOf (CXE P w) P w K mg base N qual scope f cd A outer s₀ H₀ E).env = (false, eval e (cxOf (CXE P w) P w K mg base N qual scope f cd A outer s₀ H₀ E).env) :: starEach es (cxOf (CXE P w) P w K mg base N qual scope f cd A outer s₀ H₀ E).env := by rfl)
    (hpl : (backTo cpos (starEach es (cxOf (CXE P w) P w K mg base N qual scope f cd A outer s₀ H₀ E).env)).any (·.1) = false := by rfl) :
    PS (cxOf (CXE P w) P w K mg base N qual scope f cd A outer s₀ H₀ E) (.Raise (some (.Call (.Name x np) (e :: es) [] cpos)) none pos) (tRaise (.ref C) E t) := by
  intro pins s σ H D I h
  obtain ⟨tl, Nn, nm, q, bs, hdct, sn, sub, ab, col, dd, k0, k1, k2, k3, k5, mN, hC, hN, hni, T⟩ := O.obj
  refine wpAny_Raise_call_subT (newId := nid) (k5 := k5) (k3 := k3) (k2 := k2) (k1 := k1) (k0 := k0) (dd := dd) (col := col) (ab := ab) (sub := sub) (sn := sn) (hdct := hdct) (bs := bs) (q := q) (nm := nm) (C := C) (N := Nn) (bm := tl) FB (mN := mN) (T.hasType FB.hasBase) (I.ok.hd rfl) (by rw [he]; show (false || (backTo cpos (starEach es _)).any (·.1)) = false; rw [hpl]; rfl) hni (ld_glob I hg O.bound ⟨rfl, ?_⟩ hd)
  rw [he]
  have ha' := ha cpos pins s σ H _ I h
  rw [he] at ha'
  exact Calls.evalArgs_plain (thn ha' fun us s1 ⟨vs, H1, I1, r, z, q⟩ => ⟨rfl, by rw [← r.length]; exact z, I1.bk _ _ hC, hN.keeps I1.bk, T.keeps I1.bk, fun h' e hx => fly_made (tk := s1.toks) I1 (MadeX.of hx) q⟩)
end
noncomputable def tFs (a : Str) (te : TE) : TE := fun σ H Q => te σ H fun v H1 => ∃ i : Int, v = .int i ∧ i.natAbs.log2 < 1920 ∧ (Str.empty ++ a ++ (toString i : Str)).length ≤ sizeLine ∧ ∀ z, Q (.str z) H1
theorem pe_fstr {X : Cx} {a : Str} {j : Nat} {e : Expr} {te : TE} {p1 p2 pos : Pos} (he : PE X e te) (hz : (Str.empty ++ a).length ≤ sizeLine := by decide +kernel) : PE X (.JoinedStr [.Constant (.str a) j p1, .FormattedValue e (-1) none p2] pos) (tFs a te) := by
  intro pins s σ H Q I h
  refine JoinedStr_many (joinParts_cons (thn ((pe_str : PE X (.Constant (.str a) j p1) (tC (.str a))) pins s σ H (fun v H1 => v = V.str a ∧ H1 = H) I ⟨rfl, rfl⟩) fun v s1 ⟨x, H1, I1, r1, q1, q2⟩ => ?_))
  subst q1 q2
  obtain ⟨t, rfl⟩ := r1
  refine ⟨hz, joinParts_cons (FormattedValue_plain (thn (he pins s1 σ H1 _ I1 h) fun v s2 ⟨y, H2, I2, r2, i, e2, hl, hz2, q⟩ => ?_))⟩
  subst e2
  obtain ⟨t2, rfl⟩ := r2
  refine formatField_int_small hl ⟨hz2, joinParts_nil ⟨.str _, H2, I2.tok _, ⟨_, rfl⟩, q _⟩ hz2⟩
theorem goes_ok {X : Cx} {pins : List (Addr × Obj)} {σ : St} {H : Hp} {s : Shared} {M : Model} {A : Around} {E : Value → Shared → Prop} {i : Nat} {x : Str} {pos : Pos} {Q : Unit → Shared → Prop} (I : Inv X pins σ H s) (hN : X.N.Nodup) (hi : X.N[i]? = some x) (hk : X.env.kindOf x = some .local)
    (h : ∀ s', Inv X pins (σ.set i none) H s' → Q () s') : wpAny M A (do bindName X.env x .none; unbindBehindTheSuite X.env x pos) Q E s := by
  obtain ⟨m, hn, hl⟩ := id I.loc
  have hiσ : i < σ.length := by rw [I.len]; exact (List.getElem?_eq_some_iff.mp hi).1
  have cne := I.cne
  refine wpAny_nameGoes_keeps hk hn (by rw [I.ok.kind]; rfl) fun h' v hn' hs => ?_
  obtain ⟨oL, _, _, hoL, _⟩ := id hn
  have low : ∀ {b : Addr} {o : Obj}, X.s₀.heap.get? b = some o → b ≠ X.env.locals := fun e => Nat.ne_of_lt (Nat.lt_of_lt_of_le (Heap.lt_size e) I.ok.above)
  refine h _ ⟨I.ok, I.os, I.bare, ⟨fun b o e n hb hx => (hs.2 b (low e)).trans (I.base.keep b o e n hb hx), fun b o e n hb hx => ?_, I.base.free, fun b o e hx => ?_, I.base.tups, I.base.frzs, I.base.tbls⟩, ⟨_, hn', fun j y v' e1 e2 e3 => ?_⟩, fun y c e => ?_, I.free, I.freeC, fun p hp => ?_, fun b ob e => ?_, by simpa using I.len⟩
  · obtain ⟨sl, e1⟩ := I.base.slot b o e n hb hx
    exact ⟨sl, (hs.2 b (low e)).trans e1⟩
  · obtain ⟨o', e1⟩ := I.base.there b o e hx
    exact ⟨o', (hs.2 b (low e)).trans e1⟩
  · by_cases hj : j = i
    · subst hj
      rw [List.getElem?_set_self hiσ] at e2
      cases e2
    · rw [List.getElem?_set_ne (Ne.symm hj)] at e2
      obtain ⟨u', r', q⟩ := hl j y v' e1 e2 e3
      refine ⟨u', r', ?_⟩
      rcases q with ⟨k, e⟩ | ⟨k, c, e, z⟩
      · refine .inl ⟨k, ?_⟩
        have : y ≠ x := fun e => hj (nodup_ix hN e1 (e ▸ hi))
        simp [this, e]
      · exact .inr ⟨k, c, e, z.sameBut hs (cne y c e)⟩
  · obtain ⟨w', z⟩ := I.cell y c e
    exact ⟨w', z.sameBut hs (cne y c e)⟩
  · obtain ⟨e, n, ne, nf, d⟩ := I.pin p hp
    exact ⟨(hs.2 p.1 ne).trans e, n, ne, nf, d⟩
  · refine (I.hok b ob e).stay (fun c w' hc q => (hs.2 c ?_).trans q) (fun _ q => q) fun _ _ q => q
    rintro rfl
    rcases hc with rfl | hc
    · rw [I.free] at e; cases e
    · rw [I.free] at hc; cases hc
section
noncomputable def PB (Y : Cx) (st : Stmt) (t : Ends → (St → XK) → St → Hp → Prop) : Prop :=
  ∀ (pins : List (Addr × Obj)) (s : Shared) (σ : St) (H : Hp) (D : Ends) (E : St → XK), Inv Y.nox pins σ H s → t D E σ H →
    wpAny (model Y.prog Y.w) Y.A (exec st Y.env) (SP Y.nox pins D) (fun e s' => ∃ σ1 H1 s1, Inv Y.nox pins σ1 H1 s1 ∧ CXE Y.prog Y.w Y.stack H1 s1 (E σ1) e s') s
noncomputable def PBs (Y : Cx) (st : List Stmt) (t : Ends → (St → XK) → St → Hp → Prop) : Prop :=
  ∀ (pins : List (Addr × Obj)) (s : Shared) (σ : St) (H : Hp) (D : Ends) (E : St → XK), Inv Y.nox pins σ H s → t D E σ H →
    wpAny (model Y.prog Y.w) Y.A (execs st Y.env) (SP Y.nox pins D) (fun e s' => ∃ σ1 H1 s1, Inv Y.nox pins σ1 H1 s1 ∧ CXE Y.prog Y.w Y.stack H1 s1 (E σ1) e s') s
noncomputable def bNext : Ends → (St → XK) → St → Hp → Prop := fun D _ σ H => D.nx σ H
theorem pbs_nil {Y : Cx} : PBs Y [] bNext := fun _ _ σ H _ _ I h => wpAny_execs_nil ⟨σ, H, I, h⟩
noncomputable def bSeq (t u : Ends → (St → XK) → St → Hp → Prop) : Ends → (St → XK) → St → Hp → Prop := fun D E σ H => t ⟨u D E, D.rt, D.bk, D.ct⟩ E σ H
theorem pbs_cons {Y : Cx} {st : Stmt} {rest : List Stmt} {t u : Ends → (St → XK) → St → Hp → Prop} (h1 : PB Y st t) (h2 : PBs Y rest u) : PBs Y (st :: rest) (bSeq t u) := by
  intro pins s σ H D E I h
  refine wpAny_execs_cons (thn (h1 pins s σ H ⟨u D E, D.rt, D.bk, D.ct⟩ E I h) fun f s1 q => ?_)
  cases f with
  | next =>
    obtain ⟨σ', H', I', q⟩ := q
    exact h2 pins s1 σ' H' D E I' q
  | brk => exact q
  | cont => exact q
  | ret v => exact q
end
structure CalX (P : Program) (w : World) (K : PySem.W.Frag) (mg : Str → Option Value) (base : Heap) (x : Str) (k : Nat) (ps : List Str) (sp : Sp) : Prop where
  ex : ∃ (f : Addr) (fd : FuncData), mg x = some (.ref f) ∧ PySem.W.keepIn K (.ref f) = true ∧ Binds K fd ps [] ∧ FnOk P w K mg base (CXE P w) k f fd ps sp
theorem Fly.lands {P : Program} {w : World} {l : List Env} {H : Hp} {s : Shared} {x : Addr} {cls a0 : Value} {H' : Hp} {s' : Shared} {B h5 : Heap} {da : Option Addr} (F : Fly P w l H s x cls da H' s') (fl : Heap.FlyingW B l x cls a0 s'.heap) (f1 : ∀ b o, s'.heap.get? b = some o → H' b ≠ none → B.get? b = some o)
    (f2 : ∀ b o o', s.heap.get? b = some o → b ∉ frs l → s'.heap.get? b = some o' → B.get? b = some o') (fl5 : Heap.FlyingW B l x cls a0 h5) (sm : s'.heap.UpToSlots h5) : Un (frs l) [] H H' s.heap h5 ∧ HOk P w H' h5 := by
  have no : ∀ b : Addr, b ∉ ([] : List Addr) := fun b z => by cases z
  have hff := fl.2.2.1
  have up : ∀ b ∈ frs l, ∀ o, s'.heap.get? b = some o → ∃ sl, h5.get? b = some { o with slots := sl } := fun b hb o ho => by
    obtain ⟨_, o', ho', hd⟩ := hff.mem hb
    rw [ho] at ho'
    cases ho'
    exact sm b o ho hd
  refine ⟨⟨fun b o q n hb _ => fl5.1 b o (f2 b o o q hb (F.un.keep b o q n hb (no b))), fun b o q n hb _ => ?_, F.un.free, fun b o q _ => ?_, F.un.tups, F.un.frzs, F.un.tbls⟩, fun a o q => ?_⟩
  · obtain ⟨sl, e1⟩ := F.un.slot b o q n hb (no b)
    obtain ⟨sl', e2⟩ := up b hb _ e1
    exact ⟨sl', e2⟩
  · obtain ⟨o2, e2⟩ := F.un.there b o q (no b)
    by_cases hb : b ∈ frs l
    · obtain ⟨sl, e3⟩ := up b hb _ e2
      exact ⟨_, e3⟩
    · exact ⟨_, fl5.1 b o2 (f2 b o o2 q hb e2)⟩
  · refine (F.hok a o q).stay (fun b u hb z => fl5.1 b u (f1 b u z ?_)) (fun _ z => z) fun _ _ z => z
    rcases hb with rfl | hb
    · rw [q]; intro z; cases z
    · rw [hb]; intro z; cases z
noncomputable def tTry (K : PySem.W.Frag) (C : Addr) (i : Nat) (tb : Ends → (St → XK) → St → Hp → Prop) (ts : Addr → Addr → Option Addr → TS) : TS := fun D σ H =>
  tb D (fun σ1 cls da H1 => ∃ Dx, cls = .ref Dx ∧ PySem.W.exmOne K (.ref Dx) (.ref C) = some true ∧ ExcK K Dx ∧ ∀ x, H1 x = none →
    ts x Dx da ⟨fun σ' H' => D.nx (σ'.set i none) H', D.rt, fun σ' H' => D.bk (σ'.set i none) H', fun σ' H' => D.ct (σ'.set i none) H'⟩ (σ1.set i (some (.ref x))) H1) σ H
theorem ps_try {Y : Cx} {i : Nat} {c n : Str} {C : Addr} {body : List Stmt} {b0 : Stmt} {suite : List Stmt} {np hpos pos : Pos} {tb : Ends → (St → XK) → St → Hp → Prop} {ts : Addr → Addr → Option Addr → TS}
    (hstk : Y.stack = Y.env :: Y.outer) (hfrm : Y.env.frame = some Y.env.locals) (hN : Y.N.Nodup) (hi : Y.N[i]? = some n) (hk : Y.env.kindOf n = some .local) (hx : Y.env.scope.names.lookup n = some .local) (hm : Y.mg c = some (.ref C)) (hg : Gl Y c) (hd : (c == ("__debug__" : Str)) = false)
    (hb : PBs Y body tb) (hs : ∀ (x : Addr) (oe : Obj) (Dx : Addr) (da : Option Addr), ExcK Y.K Dx → oe.cls = .ref Dx → (∃ vs, oe.data = .fields vs ∧ vs[2]? = some .none) → (∀ d, da = some d → oe.dict = some d) → PSs (inH Y x oe) (b0 :: suite) (ts x Dx da)) :
    PS Y.nox (.Try body [.ExceptHandler (some (.Name c np)) (some n) (b0 :: suite) hpos] [] [] pos) (tTry Y.K C i tb ts) := by
  intro pins s σ H D I h
  refine wpAny_Try_except (wpAny_mono (hb pins s σ H _ _ I h) (fun f s1 q => ?_) fun e s1 q => ?_)
  · cases f with
    | next => exact wpAny_execs_nil q
    | brk => exact q
    | cont => exact q
    | ret v => exact q
  obtain ⟨σ1, H1, s2, I1, x, cls, da, H', rfl, ⟨Dx, rfl, hex, hK, hts⟩, F⟩ := q
  obtain ⟨B, a0, fl, f1, f2⟩ := F.fly
  have ok : Y.nox.Ok := I1.ok
  have hfr : Y.A.frames = some (Y.env :: Y.outer) := by rw [← hstk]; exact ok.frames
  have fl' : Heap.FlyingW B (Y.env :: Y.outer) x (.ref Dx) a0 s1.heap := by rw [← hstk]; exact fl
  refine note_alone hfr hfrm fl' F.alone fun h4 hd4 sm4 al4 => lands_alone (s := { s1 with heap := h4 }) hd4 al4 fun h5 fl5 sm5 al5 => ?_
  have sm45 : s1.heap.UpToSlots h5 := sm4.trans sm5
  have lnd : ∀ h6, Heap.FlyingW B (Y.env :: Y.outer) x (.ref Dx) a0 h6 → s1.heap.UpToSlots h6 → ∀ g tk dr, g = s1.gens → Inv Y.nox pins σ1 H' ⟨h6, g, dr, tk, s1.os⟩ := fun h6 fl6 sm6 g tk dr eg => by
    obtain ⟨un, hok⟩ := F.lands fl f1 f2 (by rw [hstk]; exact fl6) sm6
    exact I1.call' (s' := ⟨h6, g, dr, tk, s1.os⟩) F.os un hok (by rw [eg]; exact F.bare) (fun b z => by cases z)
  have I5 := lnd h5 fl5 sm45 s1.gens s1.toks s1.drawn rfl
  have ty5 : PySem.W.Looks (model Y.prog Y.w) h5 (typeOf (.ref x)) (.ref Dx) := by
    obtain ⟨ob, hob, hc⟩ := fl5.there
    exact InstC.type ⟨hob, hc⟩
  refine wpAny_handleBy_cons (codeAny_handlers_test ?_) (by intro q; cases q)
  refine ld_glob (X := inM Y.nox x) (I5.marked x) hg hm ?_ hd
  refine (PySem.W.exm_one (M := model Y.prog Y.w) I5.kIn ty5 hex).here ?_
  dsimp only
  rw [if_pos rfl]
  refine codeAny_handlers_suite_as (again_alone (s := { s1 with heap := h5 }) fl5 al5 fun h6 fl6 sm6 al6 => ?_)
  have I6 := lnd h6 fl6 (sm45.trans sm6) s1.gens s1.toks s1.drawn rfl
  obtain ⟨oe, vs, he, hc, hdt, _⟩ := fl6.first
  have nfr : x ∉ frs (Y.env :: Y.outer) := fun hm' => by
    obtain ⟨_, o, ho, hnf⟩ := fl6.2.2.1.mem hm'
    rw [he] at ho
    cases ho
    exact hnf vs hdt
  have I7 := I6.pinH (x := x) he F.new (fun z => nfr (frs_mem (env := Y.env) List.mem_cons_self (by rw [hfrm, z]))) (fun z => nfr (by show x ∈ List.filterMap _ _; rw [List.filterMap_cons, hfrm]; exact List.mem_cons_of_mem _ z)) (fun v z => by rw [hdt] at z; cases z)
  refine store_ok (X := inH Y.nox x oe) (v := .ref x) I7 hN hi (.inl hx) rfl (fun s8 I8 => ?_) (.inr hx)
  refine wpAny_mono (hs x oe Dx da hK hc (by obtain ⟨o', vs', x1, x2, x3, _⟩ := al6; rw [he] at x1; cases x1; exact ⟨vs', x2, x3⟩) (by obtain ⟨o', vs', x1, _, _, x4⟩ := al6; rw [he] at x1; cases x1; exact x4) pins s8 _ H' _ I8 (hts x F.new)) (fun f s9 q => ?_) fun _ _ z => z.elim
  cases f with
  | next =>
    obtain ⟨σ', H9, I9, q⟩ := q
    exact goes_ok (X := Y.nox) (Inv.unpinH ok I9) hN hi hk fun s10 I10 => ⟨_, H9, I10, q⟩
  | brk =>
    obtain ⟨σ', H9, I9, q⟩ := q
    exact goes_ok (X := Y.nox) (Inv.unpinH ok I9) hN hi hk fun s10 I10 => ⟨_, H9, I10, q⟩
  | cont =>
    obtain ⟨σ', H9, I9, q⟩ := q
    exact goes_ok (X := Y.nox) (Inv.unpinH ok I9) hN hi hk fun s10 I10 => ⟨_, H9, I10, q⟩
  | ret u =>
    obtain ⟨v, σ', H9, I9, rv, q⟩ := q
    exact goes_ok (X := Y.nox) (Inv.unpinH ok I9) hN hi hk fun s10 I10 => ⟨v, _, H9, I10, rv, q⟩
theorem Dfn.okX {P : Program} {w : World} {K : PySem.W.Frag} {mg : Str → Option Value} {base : Heap} {x : Str} {st : Stmt} {N ps : List Str} {k : Nat} {sp : Sp} (D : Dfn K mg x st ps) (S : FnScope N ps (defScope st)) (len : ∀ vs H Q E, sp vs H Q E → vs.length = ps.length)
    (hbody : ∀ (f : Addr) (cdv : Value) (A : Around) (outer : List Env) (s : Shared) (H : Hp) (vs : List V) (Q : VK) (E : XK), Room k (A.deeper (envOfC x (defScope st) s.heap.objs.size f cdv)) → sp vs H Q E →
      ∃ t, PSs (cxOf (CXE P w) P w K mg base N x (defScope st) f cdv A outer s H E) (defBody st) t ∧ t { nx := fun _ H' => Q .non H', rt := Q } (start N vs) H) : CalX P w K mg base x (k + 1) ps sp := by
  obtain ⟨f, fd, hm, F, hb⟩ := D.ex
  obtain ⟨oc, od, kV, doc, pm, an, cdv, ct, osl, rfl, lk, hcd⟩ := F.ex
  exact ⟨f, _, hm, F.kp, hb, fn_of lk hcd S len fun A outer s H vs Q E hr h => hbody f cdv A outer s H vs Q E hr h⟩
section
variable {P : Program} {w : World} {K : PySem.W.Frag} {mg : Str → Option Value} {base : Heap} {N : List Str} {qual : Str} {scope : Scope} {f : Addr} {cd : Value} {A : Around} {outer : List Env} {s₀ : Shared} {H₀ : Hp} {E : XK}
theorem pe_calX {x : Str} {k j : Nat} {ps : List Str} {sp : Sp} {e : Expr} {es : List Expr} {t : TA} {p pos : Pos} (C : CalX P w K mg base x j ps sp) (hr : Room k (cxOf (CXE P w) P w K mg base N qual scope f cd A outer s₀ H₀ E).A)
    (ha : PA (cxOf (CXE P w) P w K mg base N qual scope f cd A outer s₀ H₀ E) (e :: es) t) (hjk : j ≤ k := by decide) (hg : Gl (cxOf (CXE P w) P w K mg base N qual scope f cd A outer s₀ H₀ E) x := by rfl) (hdb : (x == ("__debug__" : Str)) = false := by decide)
    (he : starEach (e :: es) (cxOf (CXE P w) P w K mg base N qual scope f cd A outer s₀ H₀ E).env = (false, eval e (cxOf (CXE P w) P w K mg base N qual scope f cd A outer s₀ H₀ E).env) :: starEach es (cxOf (CXE P w) P w K mg base N qual scope f cd A outer s₀ H₀ E).env := by rfl)
    (hpl : (backTo pos (starEach es (cxOf (CXE P w) P w K mg base N qual scope f cd A outer s₀ H₀ E).env)).any (·.1) = false := by rfl) :
    PE (cxOf (CXE P w) P w K mg base N qual scope f cd A outer s₀ H₀ E) (.Call (.Name x p) (e :: es) [] pos) (tCall sp [] E t) := by
  obtain ⟨f', fd, hm, hk, hb, F⟩ := C.ex
  exact pe_call F (hr.mono hjk) hg hm hk hb .nil (fly_on fun _ _ _ h => h) ha hdb he hpl
end
noncomputable abbrev bmV : List Value := [.type "ValueError", .type "Exception", .type "BaseException", .type "object"]
noncomputable def cA (K : PySem.W.Frag) (x : Str) : Addr := match PySem.W.nsIn K mainGlobals x with
  | some (some (.ref C)) => C
  | _ => 0
noncomputable def excB (K : PySem.W.Frag) (x : Str) : Bool :=
  PySem.W.excIn K (cA K x) bmV "ValueError.__new__" && (match K.lookup (cA K x) with | some ⟨_, _, .cls _, _⟩ => true | _ => false) && PySem.W.findIn K (.ref (cA K x)) "__getattribute__" == some (some (.builtin "BaseException.__getattribute__")) &&
  PySem.W.findIn K (.ref (cA K x)) "__getattr__" == some none && PySem.W.subIn K (.ref (cA K x)) (.type "BaseException") == some true && PySem.W.findIn K (.ref (cA K x)) "__class__" == some (some (.builtin "object.__class__")) &&
  PySem.W.specialIn K (.builtin "object.__class__") "__get__" == some (some (.builtin "getset_descriptor.__get__")) && PySem.W.takesIn K (.builtin "object.__class__") == some true && PySem.W.mroIn K (cA K x) (.type "object") == some true
structure Xf (K : PySem.W.Frag) (mg : Str → Option Value) (base : Heap) (all raised : List Str) : Prop where
  cl : ∀ x ∈ all, mg x = some (.ref (cA K x))
  own : ∀ x ∈ raised, OwnCls x (cA K x) bmV "ValueError.__new__" mg base
  exk : ∀ x ∈ raised, ExcK K (cA K x)
  up : ∀ x ∈ raised, PySem.W.exmOne K (.ref (cA K x)) (.ref (cA K "StairError")) = some true
  kv : ∀ x ∈ raised, PySem.W.kitOne K (.ref (cA K x)) (.type "ValueError") = some true
  kc : ∀ x ∈ raised, ∀ y ∈ all, PySem.W.kitOne K (.ref (cA K x)) (.ref (cA K y)) = some (x == y || y == ("StairError" : Str))
noncomputable def xfB (K : PySem.W.Frag) (all raised : List Str) : Bool :=
  all.all (fun x => PySem.W.nsIn K mainGlobals x == some (some (.ref (cA K x)))) && raised.all (fun x => all.contains x && excB K x && PySem.W.exmOne K (.ref (cA K x)) (.ref (cA K "StairError")) == some true && PySem.W.kitOne K (.ref (cA K x)) (.type "ValueError") == some true &&
    all.all fun y => PySem.W.kitOne K (.ref (cA K x)) (.ref (cA K y)) == some (x == y || y == ("StairError" : Str)))
theorem xf_mk {K : PySem.W.Frag} {mg : Str → Option Value} {base : Heap} {all raised : List Str} (X : K.In base) (G : base.Ns mainGlobals mg) (h : xfB K all raised = true) : Xf K mg base all raised := by
  unfold xfB at h
  rw [Bool.and_eq_true, List.all_eq_true, List.all_eq_true] at h
  obtain ⟨h1, h2⟩ := h
  have n1 : ∀ x ∈ all, PySem.W.nsIn K mainGlobals x = some (some (.ref (cA K x))) := fun x hx => eq_of_beq (h1 x hx)
  have h3 : ∀ x ∈ raised, ((((x ∈ all ∧ excB K x = true) ∧ PySem.W.exmOne K (.ref (cA K x)) (.ref (cA K "StairError")) = some true) ∧ PySem.W.kitOne K (.ref (cA K x)) (.type "ValueError") = some true) ∧ ∀ y ∈ all, PySem.W.kitOne K (.ref (cA K x)) (.ref (cA K y)) = some (x == y || y == ("StairError" : Str))) := fun x hx => by
    have := h2 x hx
    simp only [Bool.and_eq_true, beq_iff_eq, List.contains_iff_mem, List.all_eq_true] at this
    exact this
  have e1 : ∀ x ∈ raised, PySem.W.excIn K (cA K x) bmV "ValueError.__new__" = true ∧ ExcK K (cA K x) := fun x hx => by
    have := (h3 x hx).1.1.1.2
    unfold excB at this
    simp only [Bool.and_eq_true, beq_iff_eq] at this
    obtain ⟨⟨⟨⟨⟨⟨⟨⟨a1, a2⟩, a3⟩, a4⟩, a5⟩, a6⟩, a7⟩, a8⟩, a9⟩ := this
    refine ⟨a1, ?_, a3, a4, a5, a6, a7, a8, a9⟩
    cases hl : K.lookup (cA K x) with
    | none => rw [hl] at a2; cases a2
    | some o =>
      rw [hl] at a2
      obtain ⟨c, d, data, sl⟩ := o
      cases data <;> first | exact ⟨_, _, _, _, rfl⟩ | cases a2
  exact ⟨fun x hx => PySem.W.mg_of X G (n1 x hx), fun x hx => own_mk X G (n1 x (h3 x hx).1.1.1.1) (e1 x hx).1, fun x hx => (e1 x hx).2, fun x hx => (h3 x hx).1.1.2, fun x hx => (h3 x hx).1.2, fun x hx => (h3 x hx).2⟩
theorem kitAny_no {K : PySem.W.Frag} {t : Value} : ∀ {Cs : List Addr}, (∀ C ∈ Cs, PySem.W.kitOne K t (.ref C) = some false) → PySem.W.kitAny K t (Cs.map Value.ref) = some false
  | [], _ => rfl
  | C :: Cs, h => by
    show (match PySem.W.kitOne K t (.ref C) with | some true => some true | some false => PySem.W.kitAny K t (Cs.map Value.ref) | none => none) = some false
    rw [h C List.mem_cons_self]
    exact kitAny_no fun D hD => h D (List.mem_cons_of_mem _ hD)
section
variable {K : PySem.W.Frag} {D : Ends} {σ : St} {H : Hp} {Q : VK} {E : XK} {C x : Addr}
theorem rd_raise {t : TA} {cls : Value} (h : t σ H fun vs H1 => vs.length ≤ sizeLine ∧ E cls none H1) : tRaise cls E t D σ H := h
theorem rd_fs {a : Str} {te : TE} (h : te σ H fun v H1 => ∃ i : Int, v = .int i ∧ i.natAbs.log2 < 1920 ∧ (Str.empty ++ a ++ (toString i : Str)).length ≤ sizeLine ∧ ∀ z, Q (.str z) H1) : tFs a te σ H Q := h
theorem rd_isiC {C' : Addr} {b : Bool} (hk : PySem.W.kitOne K (.ref C) (.ref C') = some b) (h : Q (.bl b) H) : rIsiX K x C [.ref x, .ref C'] H Q := ⟨b, .inl ⟨C', rfl, hk⟩, h⟩
theorem rd_isiT {T : String} {b : Bool} (hk : PySem.W.kitOne K (.ref C) (.type T) = some b) (h : Q (.bl b) H) : rIsiX K x C [.ref x, .ty T] H Q := ⟨b, .inr (.inl ⟨T, rfl, hk⟩), h⟩
theorem rd_isiP {p : Addr} {Cs : List Addr} {b : Bool} (ht : H p = some (.tup (Cs.map V.ref))) (hk : PySem.W.kitAny K (.ref C) (Cs.map Value.ref) = some b) (h : Q (.bl b) H) : rIsiX K x C [.ref x, .ref p] H Q := ⟨b, .inr (.inr ⟨p, Cs, rfl, ht, hk⟩), h⟩
end
theorem CalX.cal {P : Program} {w : World} {K : PySem.W.Frag} {mg : Str → Option Value} {base : Heap} {x : Str} {k : Nat} {ps : List Str} {sp : Sp} (C : CalX P w K mg base x k ps sp) : Cal P w K mg base x k ps (fun vs H Q _ => sp vs H Q E0) := by
  obtain ⟨f, fd, hm, hk, hb, F⟩ := C.ex
  refine ⟨f, fd, hm, hk, hb, fun vs H Q E h => F.len vs H Q E0 h, fun A outer s H args us vs Q E hr he hbt hv hs => codeAny_mono (F.run A outer s H args us vs Q E0 hr he hbt hv hs) fun r s' hq => ?_⟩
  cases r with
  | error e =>
    obtain ⟨_, _, _, _, _, hE, _⟩ := hq
    exact hE.elim
  | ok fl => cases fl <;> exact hq
section
variable {K : PySem.W.Frag} {D : Ends} {σ : St} {H : Hp} {E : St → XK} {C : Addr} {i : Nat} {t u tb : Ends → (St → XK) → St → Hp → Prop} {ts : Addr → Addr → Option Addr → TS} {c : TT}
theorem rd_bseq (h : t ⟨u D E, D.rt, D.bk, D.ct⟩ E σ H) : bSeq t u D E σ H := h
theorem rd_bnext (h : D.nx σ H) : bNext D E σ H := h
end
end L2
set_option linter.all false
set_option maxRecDepth 100000
namespace Tb
open PySem
noncomputable def nx (m i : Nat) : Nat := (i * 5 + 1) % (m + 1)
noncomputable def it (m : Nat) : Nat → Nat → Nat
  | 0, i => i
  | n + 1, i => it m n (nx m i)
theorem it_add (m : Nat) : ∀ a b i, it m (a + b) i = it m b (it m a i)
  | 0, b, i => by rw [Nat.zero_add]; rfl
  | a + 1, b, i => by rw [Nat.succ_add]; exact it_add m a b (nx m i)
theorem it_succ' (m n i : Nat) : it m (n + 1) i = nx m (it m n i) := by rw [it_add m n 1 i]; rfl
noncomputable def orb (m : Nat) : Nat → Nat → List Nat
  | 0, _ => []
  | n + 1, i => i :: orb m n (nx m i)
theorem orb_mem {m : Nat} : ∀ {n i j : Nat}, j ∈ orb m n i → ∃ k, k < n ∧ it m k i = j
  | 0, _, _, h => by cases h
  | n + 1, i, j, h => by
    rcases List.mem_cons.mp h with rfl | h
    · exact ⟨0, Nat.succ_pos _, rfl⟩
    · obtain ⟨k, hk, e⟩ := orb_mem h
      exact ⟨k + 1, Nat.succ_lt_succ hk, e⟩
noncomputable def good (m : Nat) : Bool := (List.range (m + 1)).all (fun j => (orb m (m + 1) 0).contains j) && it m (m + 1) 0 == 0
theorem good7 : good 7 = true := by decide +kernel
theorem good31 : good 31 = true := by decide +kernel
theorem good127 : good 127 = true := by decide +kernel
theorem good511 : good 511 = true := by decide +kernel
noncomputable def Full (N : Nat) : Prop := (∀ j, j < N → ∃ k, k < N ∧ it (N - 1) k 0 = j) ∧ it (N - 1) N 0 = 0
theorem full_of {m : Nat} (h : good m = true) : Full (m + 1) := by
  unfold Tb.good at h
  rw [Bool.and_eq_true, List.all_eq_true] at h
  refine ⟨fun j hj => ?_, eq_of_beq h.2⟩
  have h1 := h.1 j (List.mem_range.mpr hj)
  rw [List.contains_iff_mem] at h1
  exact orb_mem h1
noncomputable def co : Nat → Nat
  | 0 => 0
  | n + 1 => 5 * co n + 1
theorem it_closed (m : Nat) : ∀ n i, it m n i % (m + 1) = (5 ^ n * i + co n) % (m + 1)
  | 0, i => by simp [it, co]
  | n + 1, i => by
    rw [it_succ']
    unfold nx
    rw [Nat.mod_mod, Nat.add_mod, Nat.mul_mod, it_closed m n i, ← Nat.mul_mod, ← Nat.add_mod]
    congr 1
    show (5 ^ n * i + co n) * 5 + 1 = 5 ^ (n + 1) * i + (5 * co n + 1)
    rw [Nat.pow_succ, Nat.add_mul]
    have : 5 ^ n * i * 5 = 5 ^ n * 5 * i := by rw [Nat.mul_assoc, Nat.mul_comm i 5, Nat.mul_assoc]
    omega
theorem it_lt (m : Nat) : ∀ n i, i ≤ m → it m n i ≤ m
  | 0, i, h => h
  | n + 1, i, h => by
    refine it_lt m n _ ?_
    unfold nx
    have := Nat.mod_lt (i * 5 + 1) (show 0 < m + 1 by omega)
    omega
theorem it_val {m n i : Nat} (h : i ≤ m) : it m n i = (5 ^ n * i + co n) % (m + 1) := by
  rw [← it_closed, Nat.mod_eq_of_lt (Nat.lt_succ_of_le (it_lt m n i h))]
theorem odd5 (n : Nat) : 5 ^ n % 2 = 1 := by
  induction n with
  | zero => rfl
  | succ n ih => rw [Nat.pow_succ, Nat.mul_mod, ih]
theorem co_val : ∀ n, 4 * co n + 1 = 5 ^ n
  | 0 => rfl
  | n + 1 => by
    have := co_val n
    show 4 * (5 * co n + 1) + 1 = 5 ^ (n + 1)
    rw [Nat.pow_succ]
    omega
theorem half_mul {a N : Nat} (h : a % 2 = 1) (r : Nat) : (a * N + r) % (2 * N) = (N + r) % (2 * N) := by
  obtain ⟨c, rfl⟩ : ∃ c, a = 2 * c + 1 := ⟨a / 2, by omega⟩
  have : (2 * c + 1) * N + r = (N + r) + 2 * N * c := by
    rw [Nat.add_mul, Nat.one_mul, Nat.mul_assoc, Nat.mul_comm c N, ← Nat.mul_assoc]
    omega
  rw [this, Nat.add_mul_mod_self_left]
theorem two {x N : Nat} (h : x < 2 * N) (hN : 0 < N) : x = x % N ∨ x = N + x % N := by
  rcases Nat.lt_or_ge x N with a | a
  · exact .inl (Nat.mod_eq_of_lt a).symm
  · refine .inr ?_
    rw [Nat.mod_eq_sub_mod a, Nat.mod_eq_of_lt (by omega)]
    omega
theorem Full.double {N : Nat} (hN : 0 < N) (h : Full N) (hc : co N % (2 * N) = N) : Full (2 * N) := by
  obtain ⟨h1, h2⟩ := h
  have hm : 2 * N - 1 + 1 = 2 * N := by omega
  have hm1 : N - 1 + 1 = N := by omega
  have val : ∀ n i, i ≤ 2 * N - 1 → it (2 * N - 1) n i = (5 ^ n * i + co n) % (2 * N) := fun n i hi => by rw [it_val hi, hm]
  have eN : it (2 * N - 1) N 0 = N := by rw [val N 0 (by omega), Nat.mul_zero, Nat.zero_add, hc]
  have up : ∀ k, it (2 * N - 1) (N + k) 0 = (N + it (2 * N - 1) k 0) % (2 * N) := fun k => by
    rw [it_add, eN, val k N (by omega), val k 0 (by omega), Nat.mul_zero, Nat.zero_add, half_mul (odd5 k)]
    rw [Nat.add_mod_mod]
  refine ⟨fun j hj => ?_, ?_⟩
  · obtain ⟨k, hk, ek⟩ := h1 (j % N) (Nat.mod_lt _ hN)
    have e1 : it (2 * N - 1) k 0 % N = j % N := by
      rw [val k 0 (by omega), Nat.mul_zero, Nat.zero_add, Nat.mod_mul_left_mod, ← ek, it_val (Nat.zero_le _), hm1, Nat.mul_zero, Nat.zero_add]
    have e2 : it (2 * N - 1) k 0 < 2 * N := by
      have := it_lt (2 * N - 1) k 0 (Nat.zero_le _)
      omega
    by_cases e : it (2 * N - 1) k 0 = j
    · exact ⟨k, by omega, e⟩
    · refine ⟨N + k, by omega, ?_⟩
      rw [up k]
      have t1 := two hj hN
      have t2 := two e2 hN
      rw [e1] at t2
      generalize it (2 * N - 1) k 0 = x at *
      generalize j % N = r at *
      rcases t1 with a | a <;> rcases t2 with b | b
      · omega
      · have : N + x = j + 2 * N := by omega
        rw [this, Nat.add_mod_right, Nat.mod_eq_of_lt hj]
      · have : N + x = j := by omega
        rw [this, Nat.mod_eq_of_lt hj]
      · omega
  · rw [show 2 * N = N + N by omega, show N + N - 1 = 2 * N - 1 by omega, up N, eN, show N + N = 2 * N by omega, Nat.mod_self]
theorem co_is {N c : Nat} (h : 4 * c + 1 = 5 ^ N) : co N = c := by
  have := co_val N
  omega
theorem full8 : Full 8 := full_of good7
theorem full32 : Full 32 := full_of good31
theorem full128 : Full 128 := full_of good127
theorem full512 : Full 512 := full_of good511
theorem co512 : co 512 % (2 * 512) = 512 := by rw [co_is (c := (5 ^ 512 - 1) / 4) (by decide +kernel)]; decide +kernel
theorem co1024 : co 1024 % (2 * 1024) = 1024 := by rw [co_is (c := (5 ^ 1024 - 1) / 4) (by decide +kernel)]; decide +kernel
theorem co2048 : co 2048 % (2 * 2048) = 2048 := by rw [co_is (c := (5 ^ 2048 - 1) / 4) (by decide +kernel)]; decide +kernel
theorem co4096 : co 4096 % (2 * 4096) = 4096 := by rw [co_is (c := (5 ^ 4096 - 1) / 4) (by decide +kernel)]; decide +kernel
theorem full2048 : Full 2048 := Full.double (N := 1024) (by decide) (full512.double (by decide) co512) co1024
theorem full8192 : Full 8192 := Full.double (N := 4096) (by decide) (full2048.double (by decide) co2048) co4096
noncomputable def Mask (m : Nat) : Prop := m = 7 ∨ m = 31 ∨ m = 127 ∨ m = 511 ∨ m = 2047 ∨ m = 8191
theorem Mask.full {m : Nat} (h : Mask m) : Full (m + 1) := by
  rcases h with rfl | rfl | rfl | rfl | rfl | rfl
  · exact full8
  · exact full32
  · exact full128
  · exact full512
  · exact full2048
  · exact full8192
theorem reach0 {m : Nat} (h : Mask m) {j : Nat} (hj : j ≤ m) : ∃ k, k ≤ m ∧ it m k 0 = j := by
  obtain ⟨k, hk, e⟩ := h.full.1 j (by omega)
  exact ⟨k, by omega, e⟩
theorem round0 {m : Nat} (h : Mask m) : it m (m + 1) 0 = 0 := h.full.2
theorem reach {m : Nat} (h : Mask m) {i j : Nat} (hi : i ≤ m) (hj : j ≤ m) : ∃ k, k ≤ m ∧ it m k i = j := by
  obtain ⟨a, ha, ea⟩ := reach0 h hi
  obtain ⟨b, hb, eb⟩ := reach0 h hj
  rcases Nat.lt_or_ge b a with hlt | hge
  · refine ⟨m + 1 - a + b, by omega, ?_⟩
    rw [← ea, ← it_add, show a + (m + 1 - a + b) = (m + 1) + b by omega, it_add, round0 h]
    exact eb
  · refine ⟨b - a, by omega, ?_⟩
    rw [← ea, ← it_add, show a + (b - a) = b by omega]
    exact eb
noncomputable def lp (m : Nat) : Nat → Nat × Nat → Nat × Nat
  | 0, s => s
  | n + 1, s => lp m n (SetTable.leap m s.1 s.2)
theorem lp_succ' (m : Nat) : ∀ n s, lp m (n + 1) s = SetTable.leap m (lp m n s).1 (lp m n s).2
  | 0, s => rfl
  | n + 1, s => by
    show lp m (n + 1) (SetTable.leap m s.1 s.2) = _
    rw [lp_succ' m n]
    rfl
theorem lp_pert (m : Nat) : ∀ n s, (lp m n s).2 = s.2 / 32 ^ n
  | 0, s => by simp [lp]
  | n + 1, s => by
    rw [lp_succ' m n s]
    show (lp m n s).2 / 32 = _
    rw [lp_pert m n s, Nat.div_div_eq_div_mul, Nat.pow_succ]
theorem lp_le (m : Nat) : ∀ n s, s.1 ≤ m → (lp m n s).1 ≤ m
  | 0, s, h => h
  | n + 1, s, h => by
    rw [lp_succ' m n s]
    show (_ % (m + 1)) ≤ m
    have := Nat.mod_lt ((lp m n s).1 * 5 + 1 + (lp m n s).2 / 32) (show 0 < m + 1 by omega)
    omega
theorem lp_zero (m : Nat) : ∀ n i, (lp m n (i, 0)).1 = it m n i
  | 0, i => rfl
  | n + 1, i => by
    show (lp m n (SetTable.leap m i 0)).1 = it m n (nx m i)
    have : SetTable.leap m i 0 = (nx m i, 0) := rfl
    rw [this]
    exact lp_zero m n _
theorem lp_add (m : Nat) : ∀ a b s, lp m (a + b) s = lp m b (lp m a s)
  | 0, b, s => by rw [Nat.zero_add]; rfl
  | a + 1, b, s => by rw [Nat.succ_add]; exact lp_add m a b _
theorem lp_reach {m : Nat} (h : Mask m) {i p j : Nat} (hi : i ≤ m) (hp : p < 2 ^ 64) (hj : j ≤ m) : ∃ n, n ≤ m + 13 ∧ (lp m n (i, p)).1 = j := by
  have hz : (lp m 13 (i, p)).2 = 0 := by
    rw [lp_pert]
    exact Nat.div_eq_of_lt (Nat.lt_of_lt_of_le hp (by decide))
  obtain ⟨k, hk, e⟩ := reach h (lp_le m 13 (i, p) hi) hj
  refine ⟨13 + k, by omega, ?_⟩
  rw [lp_add]
  have : lp m 13 (i, p) = ((lp m 13 (i, p)).1, 0) := by rw [← hz]
  rw [this, lp_zero]
  exact e
theorem bits_lt (h : Int) : SetTable.bits h < 2 ^ 64 := by
  unfold SetTable.bits
  have h1 := Int.emod_lt_of_pos h (show (0 : Int) < 2 ^ 64 by decide)
  have h2 := Int.emod_nonneg h (show (2 : Int) ^ 64 ≠ 0 by decide)
  omega
noncomputable def adv (t : SetTable) : Nat → SetTable.Probe → SetTable.Probe
  | 0, p => p
  | n + 1, p => adv t n (t.advance p)
theorem adv_add (t : SetTable) : ∀ a b p, adv t (a + b) p = adv t b (adv t a p)
  | 0, b, p => by rw [Nat.zero_add]; rfl
  | a + 1, b, p => by rw [Nat.succ_add]; exact adv_add t a b _
noncomputable def at_ (t : SetTable) (s : Nat × Nat) : SetTable.Probe := { j := s.1, more := SetTable.runEnd t.mask s.1 - s.1, i := s.1, perturb := s.2, dummy := none }
theorem adv_run (t : SetTable) : ∀ (r : Nat) (p : SetTable.Probe), p.more = r → adv t (r + 1) p = { p with j := (SetTable.leap t.mask p.i p.perturb).1, more := SetTable.runEnd t.mask (SetTable.leap t.mask p.i p.perturb).1 - (SetTable.leap t.mask p.i p.perturb).1, i := (SetTable.leap t.mask p.i p.perturb).1, perturb := (SetTable.leap t.mask p.i p.perturb).2 }
  | 0, p, h => by
    show t.advance p = _
    unfold SetTable.advance
    rw [if_neg (by omega)]
  | r + 1, p, h => by
    show adv t (r + 1) (t.advance p) = _
    have e : t.advance p = { p with j := p.j + 1, more := p.more - 1 } := by
      unfold SetTable.advance
      rw [if_pos (by omega)]
    rw [e, adv_run t r _ (by show p.more - 1 = r; omega)]
theorem adv_leap (t : SetTable) (s : Nat × Nat) : ∃ k, k ≤ 10 ∧ adv t k (at_ t s) = at_ t (SetTable.leap t.mask s.1 s.2) := by
  refine ⟨SetTable.runEnd t.mask s.1 - s.1 + 1, ?_, ?_⟩
  · unfold SetTable.runEnd
    split <;> omega
  · exact (adv_run t (SetTable.runEnd t.mask s.1 - s.1) (at_ t s) rfl).trans rfl
theorem adv_leaps (t : SetTable) : ∀ (n : Nat) (s : Nat × Nat), ∃ k, k ≤ 10 * n ∧ adv t k (at_ t s) = at_ t (lp t.mask n s)
  | 0, s => ⟨0, Nat.le_refl _, rfl⟩
  | n + 1, s => by
    obtain ⟨k1, h1, e1⟩ := adv_leap t s
    obtain ⟨k2, h2, e2⟩ := adv_leaps t n (SetTable.leap t.mask s.1 s.2)
    refine ⟨k1 + k2, by omega, ?_⟩
    rw [adv_add, e1, e2]
    rfl
theorem start_at (t : SetTable) (h : Int) : t.probeStart h = at_ t (SetTable.bits h % (t.mask + 1), SetTable.bits h) := rfl
theorem probe_meets {t : SetTable} (hm : Mask t.mask) {j : Nat} (hj : j ≤ t.mask) (h : Int) : ∃ K, K < 10 * SetTable.turns t.mask ∧ (adv t K (t.probeStart h)).j = j := by
  have h1 : SetTable.bits h % (t.mask + 1) ≤ t.mask := by
    have := Nat.mod_lt (SetTable.bits h) (show 0 < t.mask + 1 by omega)
    omega
  obtain ⟨n, hn, e⟩ := lp_reach hm h1 (bits_lt h) hj
  obtain ⟨K, hK, eK⟩ := adv_leaps t n (SetTable.bits h % (t.mask + 1), SetTable.bits h)
  refine ⟨K, by unfold SetTable.turns; omega, ?_⟩
  rw [start_at, eK]
  exact e
theorem slot_live {t : SetTable} {j i : Nat} (h : t.slot j = .live i) : t.place[i]? = some j := by
  unfold SetTable.slot at h
  dsimp only at h
  split at h
  · rename_i hq
    cases h
    exact eq_of_beq hq
  · split at h <;> cases h
theorem has_nil (j : Nat) : SetTable.has #[] j = false := rfl
theorem slot_cases {t : SetTable} (hd : t.dummies = #[]) (j : Nat) : t.slot j = .empty ∨ ∃ i, t.slot j = .live i := by
  unfold SetTable.slot
  dsimp only
  split
  · exact .inr ⟨_, rfl⟩
  · rw [hd, has_nil]
    exact .inl rfl
theorem range_sub : ∀ (n : Nat) (l : List Nat), (∀ j, j < n → j ∈ l) → n ≤ l.length
  | 0, l, _ => Nat.zero_le _
  | n + 1, l, h => by
    have hn := h n (Nat.lt_succ_self n)
    have := range_sub n (l.erase n) fun j hj => (List.mem_erase_of_ne (by omega)).mpr (h j (by omega))
    rw [List.length_erase_of_mem hn] at this
    have : 0 < l.length := List.length_pos_of_mem hn
    omega
theorem free_slot {t : SetTable} (hd : t.dummies = #[]) (h : t.place.size ≤ t.mask) : ∃ j, j ≤ t.mask ∧ t.slot j = .empty := by
  rcases Classical.em (∃ j, j ≤ t.mask ∧ t.slot j = .empty) with h1 | h1
  · exact h1
  · exfalso
    have := range_sub (t.mask + 1) t.place.toList fun j hj => by
      rcases slot_cases hd j with h2 | ⟨i, h2⟩
      · exact absurd ⟨j, by omega, h2⟩ h1
      · have := slot_live h2
        rw [← Array.getElem?_toList] at this
        exact List.mem_of_getElem? this
    rw [Array.length_toList] at this
    omega
theorem adv_dummy (t : SetTable) : ∀ n p, (adv t n p).dummy = p.dummy
  | 0, p => rfl
  | n + 1, p => by
    show (adv t n (t.advance p)).dummy = _
    rw [adv_dummy t n]
    unfold SetTable.advance
    split <;> rfl
theorem set_none_perm {α : Type} : ∀ {l : List (Option α)} {j : Nat} {k : α}, l[j]? = some none → ((l.set j (some k)).filterMap id).Perm (k :: l.filterMap id)
  | [], j, k, h => by cases h
  | x :: l, 0, k, h => by
    have : x = none := by simpa using h
    subst this
    exact .refl _
  | x :: l, j + 1, k, h => by
    have h' : l[j]? = some none := by simpa using h
    have ih := set_none_perm (k := k) h'
    cases x with
    | none => exact ih
    | some y => exact (List.Perm.cons y ih).trans (.swap _ _ _)
theorem set_none_len {α : Type} (l : List (Option α)) : (l.filterMap id).length + (l.filter (·.isNone)).length = l.length := by
  induction l with
  | nil => rfl
  | cons x l ih =>
    cases x <;> simp at ih ⊢ <;> omega
theorem free_some {m : Nat} (hm : Mask m) (owner : Array (Option Nat)) (hz : owner.size = m + 1) {j : Nat} (hj : owner[j]? = some none) : ∀ (fuel n i p : Nat), i ≤ m → n < fuel → (lp m n (i, p)).1 = j →
    ∃ j', SetTable.layClean.free m owner fuel i p = some j' ∧ owner[j']? = some none := by
  intro fuel
  induction fuel with
  | zero => intro n i p _ h; omega
  | succ fuel ih =>
    intro n i p hi hn he
    unfold SetTable.layClean.free
    split
    · rename_i k hk
      have h1 := List.find?_some hk
      have h2 := List.mem_range.mp (List.mem_of_find?_eq_some hk)
      refine ⟨i + k, rfl, ?_⟩
      have hb : i + k < owner.size := by
        rw [hz]
        unfold SetTable.runEnd at h2
        split at h2 <;> omega
      rw [Array.getElem?_eq_getElem hb]
      have : owner.getD (i + k) (some 0) = owner[i + k] := by
        rw [Array.getD_eq_getD_getElem?, Array.getElem?_eq_getElem hb]
        rfl
      rw [this] at h1
      congr 1
      cases hq : owner[i + k] with
      | none => rfl
      | some y => rw [hq] at h1; cases h1
    · rename_i hk
      cases n with
      | zero =>
        exfalso
        have h0 : i = j := he
        have := List.find?_eq_none.mp hk 0 (List.mem_range.mpr (by unfold SetTable.runEnd; split <;> omega))
        rw [Nat.add_zero, h0, Array.getD_eq_getD_getElem?, hj] at this
        simp at this
      | succ n =>
        have := lp_le m 1 (i, p) hi
        exact ih n (SetTable.leap m i p).1 (SetTable.leap m i p).2 this (by omega) he
noncomputable def layStep (mask : Nat) (acc : Option (Array (Option Nat) × Nat)) (h : Int) : Option (Array (Option Nat) × Nat) := do
  let (owner, k) ← acc
  let j ← SetTable.layClean.free mask owner (SetTable.turns mask) (SetTable.bits h % (mask + 1)) (SetTable.bits h)
  pure (owner.setIfInBounds j (some k), k + 1)
theorem some_none {l : List (Option Nat)} (h : (l.filterMap id).length < l.length) : ∃ j : Nat, l[j]? = some none := by
  have := set_none_len l
  have h1 : 0 < (l.filter (·.isNone)).length := by omega
  obtain ⟨x, hx⟩ := List.exists_mem_of_length_pos h1
  obtain ⟨hx1, hx2⟩ := List.mem_filter.mp hx
  have : x = none := by cases x <;> simp_all
  subst this
  obtain ⟨j, hj⟩ := List.getElem?_of_mem hx1
  exact ⟨j, hj⟩
theorem insertAt_size {α : Type} (xs : Array α) (p : Nat) (x : α) : (SetTable.insertAt xs p x).size = xs.size + 1 := by
  unfold SetTable.insertAt
  simp
  omega
theorem insertAt_mem {α : Type} {xs : Array α} {p : Nat} {x e : α} (h : e ∈ (SetTable.insertAt xs p x).toList) : e = x ∨ e ∈ xs.toList := by
  unfold SetTable.insertAt at h
  simp only [Array.toList_append, Array.toList_push, Array.toList_extract, List.mem_append, List.mem_singleton] at h
  rcases h with (h | h) | h
  · exact .inr (List.mem_of_mem_take (by simpa using h))
  · exact .inl h
  · exact .inr (List.mem_of_mem_drop (List.mem_of_mem_take h))
theorem above20 : SetTable.sizeAbove 20 - 1 = 31 := by decide +kernel
theorem above76 : SetTable.sizeAbove 76 - 1 = 127 := by decide +kernel
theorem above308 : SetTable.sizeAbove 308 - 1 = 511 := by decide +kernel
theorem above1228 : SetTable.sizeAbove 1228 - 1 = 2047 := by decide +kernel
theorem above4916 : SetTable.sizeAbove 4916 - 1 = 8191 := by decide +kernel
end Tb
set_option linter.all false
set_option maxRecDepth 100000
namespace Tb
open PySem
theorem least {P : Nat → Prop} : ∀ n, P n → ∃ m, m ≤ n ∧ P m ∧ ∀ k, k < m → ¬ P k := by
  intro n
  induction n using Nat.strongRecOn with
  | ind n ih =>
    intro h
    rcases Classical.em (∃ k, k < n ∧ P k) with ⟨k, hk, pk⟩ | hn
    · obtain ⟨m, h1, h2, h3⟩ := ih k hk pk
      exact ⟨m, by omega, h2, h3⟩
    · exact ⟨n, Nat.le_refl _, h, fun k hk pk => hn ⟨k, hk, pk⟩⟩
theorem inc_lt {xs : Array Nat} (h : xs.toList.Pairwise (· < ·)) {a b x y : Nat} (ha : xs[a]? = some x) (hb : xs[b]? = some y) (hab : a < b) : x < y := by
  obtain ⟨h1, e1⟩ := Array.getElem?_eq_some_iff.mp ha
  obtain ⟨h2, e2⟩ := Array.getElem?_eq_some_iff.mp hb
  have := List.pairwise_iff_getElem.mp h a b (by simpa using h1) (by simpa using h2) hab
  simp only [Array.getElem_toList] at this
  rw [e1, e2] at this
  exact this
theorem below_go (xs : Array Nat) (j : Nat) (hs : xs.toList.Pairwise (· < ·)) : ∀ fuel lo hi, hi - lo ≤ fuel → lo ≤ hi → hi ≤ xs.size → (∀ k x, k < lo → xs[k]? = some x → x < j) → (∀ k x, hi ≤ k → xs[k]? = some x → j ≤ x) →
    SetTable.below.go xs j fuel lo hi ≤ xs.size ∧ (∀ k x, k < SetTable.below.go xs j fuel lo hi → xs[k]? = some x → x < j) ∧ (∀ k x, SetTable.below.go xs j fuel lo hi ≤ k → xs[k]? = some x → j ≤ x)
  | 0, lo, hi, h1, h2, h3, h4, h5 => by
    have : lo = hi := by omega
    subst this
    exact ⟨h3, h4, h5⟩
  | fuel + 1, lo, hi, h1, h2, h3, h4, h5 => by
    unfold SetTable.below.go
    by_cases hlt : lo < hi
    · rw [if_pos hlt]
      dsimp only
      have hm : (lo + hi) / 2 < xs.size := by omega
      have em : xs[(lo + hi) / 2]? = some xs[(lo + hi) / 2] := getElem?_pos xs _ hm
      have eg : xs.getD ((lo + hi) / 2) j = xs[(lo + hi) / 2] := by
        rw [Array.getD_eq_getD_getElem?, em]
        rfl
      rw [eg]
      by_cases hc : xs[(lo + hi) / 2] < j
      · rw [if_pos hc]
        refine below_go xs j hs fuel _ _ (by omega) (by omega) h3 (fun k x hk ek => ?_) h5
        rcases Nat.lt_or_ge k ((lo + hi) / 2) with a | a
        · have := inc_lt hs ek em a
          omega
        · have : k = (lo + hi) / 2 := by omega
          subst this
          rw [em] at ek
          cases ek
          exact hc
      · rw [if_neg hc]
        refine below_go xs j hs fuel _ _ (by omega) (by omega) (by omega) h4 (fun k x hk ek => ?_)
        rcases Nat.lt_or_ge ((lo + hi) / 2) k with a | a
        · have := inc_lt hs em ek a
          omega
        · have : k = (lo + hi) / 2 := by omega
          subst this
          rw [em] at ek
          cases ek
          omega
    · rw [if_neg hlt]
      have : lo = hi := by omega
      subst this
      exact ⟨h3, h4, h5⟩
theorem below_spec {xs : Array Nat} (hs : xs.toList.Pairwise (· < ·)) (j : Nat) : SetTable.below xs j ≤ xs.size ∧ (∀ k x, k < SetTable.below xs j → xs[k]? = some x → x < j) ∧ (∀ k x, SetTable.below xs j ≤ k → xs[k]? = some x → j ≤ x) :=
  below_go xs j hs xs.size 0 xs.size (by omega) (Nat.zero_le _) (Nat.le_refl _) (fun k x hk => by omega) (fun k x hk e => by
    have := (Array.getElem?_eq_some_iff.mp e).1
    omega)
theorem slot_mem {t : SetTable} (hs : t.place.toList.Pairwise (· < ·)) {j i : Nat} (h : t.place[i]? = some j) : t.slot j = .live i := by
  obtain ⟨h1, h2, h3⟩ := below_spec hs j
  have e : SetTable.below t.place j = i := by
    have hi := (Array.getElem?_eq_some_iff.mp h).1
    rcases Nat.lt_or_ge i (SetTable.below t.place j) with a | a
    · have := h2 i j a h
      omega
    · rcases Nat.lt_or_ge (SetTable.below t.place j) i with b | b
      · have eb : t.place[SetTable.below t.place j]? = some t.place[SetTable.below t.place j] := getElem?_pos t.place _ (by omega)
        have c1 := h3 _ _ (Nat.le_refl _) eb
        have c2 := inc_lt hs eb h b
        omega
      · omega
  unfold SetTable.slot
  dsimp only
  rw [e, h, if_pos (beq_self_eq_true _)]
theorem insertAt_list {α : Type} (xs : Array α) (p : Nat) (x : α) : (SetTable.insertAt xs p x).toList = xs.toList.take p ++ (x :: xs.toList.drop p) := by
  unfold SetTable.insertAt
  rw [Array.toList_append, Array.toList_push, Array.toList_extract, Array.toList_extract]
  show List.take (p - 0) (xs.toList.drop 0) ++ [x] ++ List.take (xs.size - p) (xs.toList.drop p) = _
  rw [List.take_of_length_le (l := xs.toList.drop p) (by rw [List.length_drop, Array.length_toList]; exact Nat.le_refl _), List.append_assoc]
  rfl
theorem insertAt_get {α : Type} (xs : Array α) {p : Nat} (hp : p ≤ xs.size) (x : α) (i : Nat) : (SetTable.insertAt xs p x)[i]? = if i < p then xs[i]? else if i = p then some x else xs[i - 1]? := by
  rw [← Array.getElem?_toList, insertAt_list, List.getElem?_append, List.length_take, Array.length_toList, show min p xs.size = p by omega]
  by_cases h : i < p
  · rw [if_pos h, if_pos h, List.getElem?_take_of_lt h, Array.getElem?_toList]
  · rw [if_neg h, if_neg h]
    by_cases e : i = p
    · rw [if_pos e, e, Nat.sub_self]
      rfl
    · rw [if_neg e]
      obtain ⟨k, rfl⟩ : ∃ k, i = p + (k + 1) := ⟨i - p - 1, by omega⟩
      rw [show p + (k + 1) - p = k + 1 by omega, List.getElem?_cons_succ, List.getElem?_drop, Array.getElem?_toList]
      congr 1
theorem insertAt_inc {xs : Array Nat} (hs : xs.toList.Pairwise (· < ·)) {j : Nat} (hn : j ∉ xs.toList) : (SetTable.insertAt xs (SetTable.below xs j) j).toList.Pairwise (· < ·) := by
  obtain ⟨h1, h2, h3⟩ := below_spec hs j
  rw [insertAt_list]
  have hs' := hs
  rw [← List.take_append_drop (SetTable.below xs j) xs.toList, List.pairwise_append] at hs'
  rw [List.pairwise_append, List.pairwise_cons]
  refine ⟨hs'.1, ⟨fun y hy => ?_, hs'.2.1⟩, fun x hx y hy => ?_⟩
  · obtain ⟨k, hk, e⟩ := List.mem_iff_getElem.mp hy
    rw [List.length_drop, Array.length_toList] at hk
    rw [List.getElem_drop, Array.getElem_toList] at e
    have ex : xs[SetTable.below xs j + k]? = some y := by
      rw [getElem?_pos xs _ (by omega), e]
    have := h3 _ _ (by omega) ex
    have ne : y ≠ j := fun z => hn (by rw [← z]; exact Array.mem_toList_iff.mpr (Array.mem_of_getElem? ex))
    omega
  · have hxj : x < j := by
      obtain ⟨k, hk, e⟩ := List.mem_iff_getElem.mp hx
      rw [List.length_take, Array.length_toList] at hk
      rw [List.getElem_take, Array.getElem_toList] at e
      exact h2 k x (by omega) (by rw [getElem?_pos xs _ (by omega), e])
    rcases List.mem_cons.mp hy with rfl | hy
    · exact hxj
    · exact hs'.2.2 x hx y hy
noncomputable abbrev tM (m : Nat) : SetTable := { mask := m, place := #[], dummies := #[], finger := 0, led := false, moves := 0, plain := false }
noncomputable def pm (m : Nat) (h : Int) (k : Nat) : Nat := (adv (tM m) k ((tM m).probeStart h)).j
theorem adv_tM (t : SetTable) : ∀ k p, adv t k p = adv (tM t.mask) k p
  | 0, p => rfl
  | k + 1, p => adv_tM t k _
theorem pm_of (t : SetTable) (h : Int) (k : Nat) : (adv t k (t.probeStart h)).j = pm t.mask h k := by
  rw [adv_tM]
  rfl
structure TOk (m : Nat) (pl : Array Nat) (hs : Array Int) : Prop where
  len : pl.size = hs.size
  inc : pl.toList.Pairwise (· < ·)
  rch : ∀ (i j : Nat) (h : Int), pl[i]? = some j → hs[i]? = some h → ∃ K, K < 10 * SetTable.turns m ∧ pm m h K = j ∧ ∀ k, k < K → pm m h k ∈ pl.toList
theorem TOk.nil (m : Nat) : TOk m #[] #[] := ⟨rfl, .nil, fun i j h e => by simp at e⟩
theorem TOk.put {m : Nat} {pl : Array Nat} {hs : Array Int} (T : TOk m pl hs) {h : Int} {K : Nat} (hK : K < 10 * SetTable.turns m) (hn : pm m h K ∉ pl.toList) (hb : ∀ k, k < K → pm m h k ∈ pl.toList) :
    TOk m (SetTable.insertAt pl (SetTable.below pl (pm m h K)) (pm m h K)) (SetTable.insertAt hs (SetTable.below pl (pm m h K)) h) := by
  have hle := (below_spec T.inc (pm m h K)).1
  have more : ∀ x, x ∈ pl.toList → x ∈ (SetTable.insertAt pl (SetTable.below pl (pm m h K)) (pm m h K)).toList := fun x hx => by
    rw [insertAt_list]
    rw [← List.take_append_drop (SetTable.below pl (pm m h K)) pl.toList] at hx
    rcases List.mem_append.mp hx with a | a
    · exact List.mem_append_left _ a
    · exact List.mem_append_right _ (List.mem_cons_of_mem _ a)
  have old : ∀ (i j : Nat) (h' : Int), pl[i]? = some j → hs[i]? = some h' → ∃ K', K' < 10 * SetTable.turns m ∧ pm m h' K' = j ∧ ∀ k, k < K' → pm m h' k ∈ (SetTable.insertAt pl (SetTable.below pl (pm m h K)) (pm m h K)).toList := fun i j h' e1 e2 => by
    obtain ⟨K', h1, h2, h3⟩ := T.rch i j h' e1 e2
    exact ⟨K', h1, h2, fun k hk => more _ (h3 k hk)⟩
  refine ⟨by rw [insertAt_size, insertAt_size, T.len], insertAt_inc T.inc hn, fun i j h' e1 e2 => ?_⟩
  rw [insertAt_get pl hle] at e1
  rw [insertAt_get hs (by rw [← T.len]; exact hle)] at e2
  by_cases c1 : i < SetTable.below pl (pm m h K)
  · rw [if_pos c1] at e1 e2
    exact old i j h' e1 e2
  · rw [if_neg c1] at e1 e2
    by_cases c2 : i = SetTable.below pl (pm m h K)
    · rw [if_pos c2] at e1 e2
      cases e1
      cases e2
      exact ⟨K, hK, rfl, fun k hk => more _ (hb k hk)⟩
    · rw [if_neg c2] at e1 e2
      exact old _ j h' e1 e2
theorem nonempty_mem {t : SetTable} (hd : t.dummies = #[]) {j : Nat} (h : t.slot j ≠ .empty) : j ∈ t.place.toList := by
  rcases slot_cases hd j with e | ⟨i, e⟩
  · exact absurd e h
  · exact Array.mem_toList_iff.mpr (Array.mem_of_getElem? (slot_live e))
theorem mem_live {t : SetTable} (hs : t.place.toList.Pairwise (· < ·)) {j : Nat} (h : j ∈ t.place.toList) : ∃ i, t.slot j = .live i ∧ t.place[i]? = some j := by
  obtain ⟨i, hi⟩ := List.getElem?_of_mem h
  rw [Array.getElem?_toList] at hi
  exact ⟨i, slot_mem hs hi, hi⟩
theorem empty_not_mem {t : SetTable} (hs : t.place.toList.Pairwise (· < ·)) {j : Nat} (h : t.slot j = .empty) : j ∉ t.place.toList := fun hm => by
  obtain ⟨i, e, _⟩ := mem_live hs hm
  rw [h] at e
  cases e
theorem first_free {t : SetTable} (hd : t.dummies = #[]) (hm : Mask t.mask) (hp : t.place.size ≤ t.mask) (h : Int) : ∃ K, K < 10 * SetTable.turns t.mask ∧ t.slot (pm t.mask h K) = .empty ∧ ∀ k, k < K → t.slot (pm t.mask h k) ≠ .empty := by
  obtain ⟨j0, hj0, hs0⟩ := free_slot hd hp
  obtain ⟨N, hN, eN⟩ := probe_meets hm hj0 h
  rw [pm_of] at eN
  obtain ⟨K, h1, h2, h3⟩ := least (P := fun n => t.slot (pm t.mask h n) = .empty) N (by show t.slot (pm t.mask h N) = _; rw [eN]; exact hs0)
  exact ⟨K, by omega, h2, h3⟩
theorem go_at {t : SetTable} (hd : t.dummies = #[]) (hash : Nat → Int) (h : Int) : ∀ (K fuel : Nat) (p : SetTable.Probe), K < fuel → p.dummy = none → (∀ k, k < K → t.slot (adv t k p).j ≠ .empty) →
    (∃ k i, k < K ∧ SetTable.probe.go t hash h fuel p = some (.candidate (adv t k p).j i (adv t (k + 1) p)) ∧ t.slot (adv t k p).j = .live i) ∨ SetTable.probe.go t hash h fuel p = SetTable.probe.go t hash h (fuel - K) (adv t K p) := by
  intro K
  induction K with
  | zero => intro fuel p _ _ _; exact .inr rfl
  | succ K ih =>
    intro fuel p hf hp hs
    obtain ⟨f, rfl⟩ : ∃ f, fuel = f + 1 := ⟨fuel - 1, by omega⟩
    have h0 : t.slot p.j ≠ .empty := hs 0 (by omega)
    rcases slot_cases hd p.j with h1 | ⟨i, h1⟩
    · exact absurd h1 h0
    · by_cases hq : (hash i == h) = true
      · refine .inl ⟨0, i, by omega, ?_, h1⟩
        conv => lhs; unfold SetTable.probe.go
        rw [h1]
        dsimp only
        rw [if_pos hq]
        rfl
      · have e : SetTable.probe.go t hash h (f + 1) p = SetTable.probe.go t hash h f (t.advance p) := by
          conv => lhs; unfold SetTable.probe.go
          rw [h1]
          dsimp only
          rw [if_neg hq]
        rw [e]
        have hp' : (t.advance p).dummy = none := by
          have := adv_dummy t 1 p
          rw [hp] at this
          exact this
        rcases ih f (t.advance p) (by omega) hp' (fun k hk => hs (k + 1) (by omega)) with ⟨k, i', hk, e', hl⟩ | e'
        · exact .inl ⟨k + 1, i', by omega, e', hl⟩
        · refine .inr ?_
          rw [e', show f + 1 - (K + 1) = f - K by omega]
          rfl
theorem go_new {t : SetTable} (hd : t.dummies = #[]) (hash : Nat → Int) (h : Int) {K fuel : Nat} {p : SetTable.Probe} (hf : K < fuel) (hp : p.dummy = none) (hs : ∀ k, k < K → t.slot (adv t k p).j ≠ .empty) (he : t.slot (adv t K p).j = .empty) :
    (∃ k i, k < K ∧ SetTable.probe.go t hash h fuel p = some (.candidate (adv t k p).j i (adv t (k + 1) p)) ∧ t.slot (adv t k p).j = .live i) ∨ SetTable.probe.go t hash h fuel p = some (.empty (adv t K p).j none) := by
  rcases go_at hd hash h K fuel p hf hp hs with a | a
  · exact .inl a
  · refine .inr ?_
    rw [a]
    obtain ⟨f, hf'⟩ : ∃ f, fuel - K = f + 1 := ⟨fuel - K - 1, by omega⟩
    rw [hf']
    unfold SetTable.probe.go
    rw [he]
    dsimp only
    rw [adv_dummy, hp]
theorem go_old {t : SetTable} (hd : t.dummies = #[]) (hash : Nat → Int) (h : Int) {K fuel i0 : Nat} {p : SetTable.Probe} (hf : K < fuel) (hp : p.dummy = none) (hs : ∀ k, k < K → t.slot (adv t k p).j ≠ .empty) (he : t.slot (adv t K p).j = .live i0) (hh : hash i0 = h) :
    ∃ k i, k ≤ K ∧ SetTable.probe.go t hash h fuel p = some (.candidate (adv t k p).j i (adv t (k + 1) p)) ∧ t.slot (adv t k p).j = .live i := by
  rcases go_at hd hash h K fuel p hf hp hs with ⟨k, i, hk, e, hl⟩ | a
  · exact ⟨k, i, by omega, e, hl⟩
  · refine ⟨K, i0, Nat.le_refl _, ?_, he⟩
    rw [a]
    obtain ⟨f, hf'⟩ : ∃ f, fuel - K = f + 1 := ⟨fuel - K - 1, by omega⟩
    rw [hf']
    conv => lhs; unfold SetTable.probe.go
    rw [he]
    dsimp only
    rw [if_pos (by rw [hh]; exact beq_self_eq_true _)]
    rw [adv_add]
    rfl
theorem adv_in (t : SetTable) : ∀ (k : Nat) (p : SetTable.Probe), k ≤ p.more → adv t k p = { p with j := p.j + k, more := p.more - k }
  | 0, p, h => rfl
  | k + 1, p, h => by
    show adv t k (t.advance p) = _
    have e : t.advance p = { p with j := p.j + 1, more := p.more - 1 } := by
      unfold SetTable.advance
      rw [if_pos (by omega)]
    rw [e, adv_in t k _ (by show k ≤ p.more - 1; omega)]
    simp only [SetTable.Probe.mk.injEq, true_and, and_true]
    omega
theorem end_le {m i : Nat} (h : i ≤ m) : SetTable.runEnd m i ≤ m ∧ i ≤ SetTable.runEnd m i ∧ SetTable.runEnd m i ≤ i + 9 := by
  unfold SetTable.runEnd
  split <;> omega
theorem in_run {t : SetTable} {i p k : Nat} (h : k ≤ SetTable.runEnd t.mask i - i) : (adv t k (at_ t (i, p))).j = i + k := by
  rw [adv_in t k _ h]
  rfl
theorem not_none {owner : Array (Option Nat)} {j : Nat} (hj : j < owner.size) (h : (owner.getD j (some 0)).isNone = false) : ∃ x, owner[j]? = some (some x) := by
  rw [Array.getD_eq_getD_getElem?, getElem?_pos owner j hj] at h
  rw [getElem?_pos owner j hj]
  cases e : owner[j] with
  | none => rw [e] at h; cases h
  | some x => exact ⟨x, rfl⟩
theorem free_path {t : SetTable} (owner : Array (Option Nat)) (hz : owner.size = t.mask + 1) : ∀ (fuel i p j' : Nat), i ≤ t.mask → SetTable.layClean.free t.mask owner fuel i p = some j' →
    ∃ K, K < 10 * fuel ∧ (adv t K (at_ t (i, p))).j = j' ∧ ∀ k, k < K → ∃ x, owner[(adv t k (at_ t (i, p))).j]? = some (some x)
  | 0, i, p, j', hi, h => by cases h
  | fuel + 1, i, p, j', hi, h => by
    obtain ⟨r1, r2, r3⟩ := end_le hi
    unfold SetTable.layClean.free at h
    split at h
    · rename_i k0 hk
      cases h
      rw [List.find?_range_eq_some] at hk
      obtain ⟨hk1, hk2, hk3⟩ := hk
      have hk2 := List.mem_range.mp hk2
      refine ⟨k0, by omega, in_run (by omega), fun k hk => ?_⟩
      rw [in_run (by omega)]
      refine not_none (by omega) ?_
      have := hk3 k hk
      simpa using this
    · rename_i hk
      rw [List.find?_range_eq_none] at hk
      have hnx : (SetTable.leap t.mask i p).1 ≤ t.mask := by
        show (_ % (t.mask + 1)) ≤ t.mask
        have := Nat.mod_lt (i * 5 + 1 + p / 32) (show 0 < t.mask + 1 by omega)
        omega
      obtain ⟨K, h1, h2, h3⟩ := free_path owner hz fuel _ _ j' hnx h
      have hr : adv t (SetTable.runEnd t.mask i - i + 1) (at_ t (i, p)) = at_ t (SetTable.leap t.mask i p) := (adv_run t (SetTable.runEnd t.mask i - i) (at_ t (i, p)) rfl).trans rfl
      refine ⟨SetTable.runEnd t.mask i - i + 1 + K, by omega, ?_, fun k hk' => ?_⟩
      · rw [adv_add, hr]
        exact h2
      · rcases Nat.lt_or_ge k (SetTable.runEnd t.mask i - i + 1) with a | a
        · rw [in_run (by omega)]
          refine not_none (by omega) ?_
          have := hk k (by omega)
          simpa using this
        · obtain ⟨k', rfl⟩ : ∃ k', k = SetTable.runEnd t.mask i - i + 1 + k' := ⟨k - (SetTable.runEnd t.mask i - i + 1), by omega⟩
          rw [adv_add, hr]
          exact h3 k' (by omega)
noncomputable def RchO (m : Nat) (F : Nat → Int) (owner : Array (Option Nat)) : Prop := ∀ j x : Nat, owner[j]? = some (some x) → ∃ K, K < 10 * SetTable.turns m ∧ pm m (F x) K = j ∧ ∀ k, k < K → ∃ y, owner[pm m (F x) k]? = some (some y)
theorem lay_fold2 {m : Nat} (hm : Mask m) (F : Nat → Int) : ∀ (hs : List Int) (owner : Array (Option Nat)) (k : Nat), owner.size = m + 1 → (owner.toList.filterMap id).Perm (List.range k) → k + hs.length ≤ m → (∀ i h, hs[i]? = some h → F (k + i) = h) → RchO m F owner →
    ∃ owner', hs.foldl (layStep m) (some (owner, k)) = some (owner', k + hs.length) ∧ owner'.size = m + 1 ∧ (owner'.toList.filterMap id).Perm (List.range (k + hs.length)) ∧ RchO m F owner'
  | [], owner, k, h1, h2, h3, h4, h5 => ⟨owner, rfl, h1, h2, h5⟩
  | h :: hs, owner, k, h1, h2, h3, h4, h5 => by
    rw [List.length_cons] at h3 ⊢
    have hlt : (owner.toList.filterMap id).length < owner.toList.length := by
      rw [h2.length_eq, List.length_range, Array.length_toList, h1]
      omega
    obtain ⟨j, hj⟩ := some_none hlt
    rw [Array.getElem?_toList] at hj
    have hjm : j ≤ m := by
      have := (Array.getElem?_eq_some_iff.mp hj).1
      omega
    have hi : SetTable.bits h % (m + 1) ≤ m := by
      have := Nat.mod_lt (SetTable.bits h) (show 0 < m + 1 by omega)
      omega
    obtain ⟨n, hn, en⟩ := lp_reach hm hi (bits_lt h) hjm
    obtain ⟨j', e', hj'⟩ := free_some hm owner h1 hj (SetTable.turns m) n _ _ hi (by unfold SetTable.turns; omega) en
    obtain ⟨K, K1, K2, K3⟩ := free_path (t := tM m) owner h1 (SetTable.turns m) _ _ j' hi e'
    have step : layStep m (some (owner, k)) h = some (owner.setIfInBounds j' (some k), k + 1) := by
      unfold layStep
      simp [e']
    rw [List.foldl_cons, step]
    have hp : ((owner.setIfInBounds j' (some k)).toList.filterMap id).Perm (List.range (k + 1)) := by
      rw [Array.toList_setIfInBounds]
      rw [← Array.getElem?_toList] at hj'
      refine (set_none_perm hj').trans ?_
      rw [List.range_succ]
      exact (List.Perm.cons k h2).trans (List.perm_append_comm (l₁ := [k]) (l₂ := List.range k))
    have hj's : j' < owner.size := (Array.getElem?_eq_some_iff.mp hj').1
    have keep : ∀ i x, owner[i]? = some (some x) → (owner.setIfInBounds j' (some k))[i]? = some (some x) := fun i x e => by
      rw [Array.getElem?_setIfInBounds, if_neg]
      · exact e
      · rintro rfl
        rw [hj'] at e
        cases e
    have hR : RchO m F (owner.setIfInBounds j' (some k)) := fun i x e => by
      rw [Array.getElem?_setIfInBounds] at e
      by_cases c : j' = i
      · rw [if_pos c, if_pos hj's] at e
        cases e
        have eF : F k = h := by
          have := h4 0 h rfl
          rwa [Nat.add_zero] at this
        rw [eF]
        refine ⟨K, K1, ?_, fun k' hk' => ?_⟩
        · rw [← c]
          exact K2
        · obtain ⟨y, hy⟩ := K3 k' hk'
          exact ⟨y, keep _ _ hy⟩
      · rw [if_neg c] at e
        obtain ⟨K', q1, q2, q3⟩ := h5 i x e
        refine ⟨K', q1, q2, fun k' hk' => ?_⟩
        obtain ⟨y, hy⟩ := q3 k' hk'
        exact ⟨y, keep _ _ hy⟩
    obtain ⟨o', f1, f2, f3, f4⟩ := lay_fold2 hm F hs (owner.setIfInBounds j' (some k)) (k + 1) (by simpa using h1) hp (by omega) (fun i h' e => by
      have := h4 (i + 1) h' e
      rwa [show k + (i + 1) = k + 1 + i by omega] at this) hR
    exact ⟨o', by rw [f1]; congr 2; omega, f2, by rw [show k + (hs.length + 1) = k + 1 + hs.length by omega]; exact f3, f4⟩
theorem fm_get {α : Type} (es : Array α) : ∀ (l : List Nat), (∀ i ∈ l, i < es.size) → ∀ n : Nat, (l.filterMap (es[·]?))[n]? = (l[n]?).bind (es[·]?)
  | [], _, n => by simp
  | x :: l, h, n => by
    have hx := h x List.mem_cons_self
    have e : (x :: l).filterMap (es[·]?) = es[x] :: l.filterMap (es[·]?) := by
      rw [List.filterMap_cons]
      simp [hx]
    rw [e]
    cases n with
    | zero => simp [hx]
    | succ n => simpa using fm_get es l (fun i hi => h i (List.mem_cons_of_mem _ hi)) n
theorem live_get {f : Nat → Option (Nat × Nat)} (hf : ∀ j x, f j = some x → x.1 = j) : ∀ (l : List Nat), (∀ x ∈ (l.filterMap f), f x.1 = some x) ∧ ((l.filterMap f).map (·.1)) = l.filter (fun j => (f j).isSome)
  | [] => ⟨fun x hx => (by cases hx), rfl⟩
  | a :: l => by
    obtain ⟨i1, i2⟩ := live_get hf l
    cases e : f a with
    | none =>
      rw [List.filterMap_cons_none e, List.filter_cons_of_neg (by rw [e]; simp)]
      exact ⟨i1, i2⟩
    | some x =>
      rw [List.filterMap_cons_some e, List.filter_cons_of_pos (by rw [e]; rfl), List.map_cons, i2, hf a x e]
      refine ⟨fun y hy => ?_, rfl⟩
      rcases List.mem_cons.mp hy with rfl | hy
      · rw [hf a y e]
        exact e
      · exact i1 y hy
theorem relaid_ok2 (t : SetTable) {es : Array (Int × Value)} {wanted m : Nat} (hm : Mask m) (hw : SetTable.sizeAbove wanted - 1 = m) (hn : es.size ≤ m) :
    ∃ t' order, t.relaid (es.map (·.1)) wanted = some (t', order) ∧ t'.place.size = es.size ∧ t'.dummies = #[] ∧ t'.mask = m ∧ order.toList.Perm (List.range es.size) ∧ t'.led = t.led ∧ t'.plain = t.plain ∧ TOk m t'.place ((order.filterMap (es[·]?)).map (·.1)) := by
  obtain ⟨o', f1, f2, f3, f4⟩ := lay_fold2 hm (fun i => ((es[i]?).map (·.1)).getD 0) (es.map (·.1)).toList (Array.replicate (m + 1) none) 0 (by simp) (by simp) (by rw [Array.length_toList, Array.size_map]; omega) (fun i h e => by
      rw [Array.getElem?_toList, Array.getElem?_map] at e
      show ((es[0 + i]?).map (·.1)).getD 0 = h
      rw [Nat.zero_add, e]
      rfl) (fun j x e => by
      rw [Array.getElem?_replicate] at e
      split at e <;> cases e)
  rw [Array.length_toList, Nat.zero_add, Array.size_map] at f1 f3
  have hlay : SetTable.layClean m (es.map (·.1)) = some o' := by
    show ((es.map (·.1)).foldl (layStep m) (some (Array.replicate (m + 1) none, 0))).map (·.1) = some o'
    rw [← Array.foldl_toList, f1]
    rfl
  have hsnd : ((List.range (m + 1)).filterMap fun j => (o'.getD j none).map (j, ·)).map (·.2) = o'.toList.filterMap id := by
    rw [List.map_filterMap]
    have : o'.toList = (List.range (m + 1)).map fun j => o'.getD j none := by
      apply List.ext_getElem
      · rw [Array.length_toList, List.length_map, List.length_range, f2]
      · intro i h1 h2
        rw [Array.length_toList] at h1
        simp [h1]
    rw [this, List.filterMap_map]
    congr 1
    funext j
    show ((o'.getD j none).map (j, ·)).map (·.2) = o'.getD j none
    cases o'.getD j none <;> rfl
  have hrel : t.relaid (es.map (·.1)) wanted = some (({ mask := m, place := (((List.range (m + 1)).filterMap fun j => (o'.getD j none).map (j, ·)).map (·.1)).toArray, dummies := #[], finger := t.finger, led := t.led, moves := t.movedTo m, plain := t.plain } : SetTable), (((List.range (m + 1)).filterMap fun j => (o'.getD j none).map (j, ·)).map (·.2)).toArray) := by
    unfold SetTable.relaid
    rw [hw]
    unfold SetTable.laid
    rw [hlay]
    rfl
  obtain ⟨lv1, lv2⟩ := live_get (f := fun j => (o'.getD j none).map (j, ·)) (fun j x e => by
    obtain ⟨y, _, rfl⟩ := Option.map_eq_some_iff.mp e
    rfl) (List.range (m + 1))
  have hlen : ((List.range (m + 1)).filterMap fun j => (o'.getD j none).map (j, ·)).length = es.size := by
    have := congrArg List.length hsnd
    rwa [List.length_map, f3.length_eq, List.length_range] at this
  have hall : ∀ i ∈ ((List.range (m + 1)).filterMap fun j => (o'.getD j none).map (j, ·)).map (·.2), i < es.size := fun i hi => by
    rw [hsnd] at hi
    exact List.mem_range.mp (f3.mem_iff.mp hi)
  refine ⟨_, _, hrel, ?_, rfl, rfl, ?_, rfl, rfl, ?_⟩
  · show (((List.range (m + 1)).filterMap fun j => (o'.getD j none).map (j, ·)).map (·.1)).toArray.size = _
    rw [List.size_toArray, List.length_map, hlen]
  · show (((List.range (m + 1)).filterMap fun j => (o'.getD j none).map (j, ·)).map (·.2)).toArray.toList.Perm _
    rw [List.toList_toArray, hsnd]
    exact f3
  · generalize hlv : ((List.range (m + 1)).filterMap fun j => (o'.getD j none).map (j, ·)) = lv at lv1 lv2 hlen hall
    show TOk m (lv.map (·.1)).toArray (((lv.map (·.2)).toArray.filterMap (es[·]?)).map (·.1))
    have mem : ∀ j, (∃ y, o'[j]? = some (some y)) → j ∈ (lv.map (·.1)).toArray.toList := fun j ⟨y, hy⟩ => by
      rw [List.toList_toArray, lv2, List.mem_filter]
      have hj := (Array.getElem?_eq_some_iff.mp hy).1
      refine ⟨List.mem_range.mpr (by omega), ?_⟩
      rw [Array.getD_eq_getD_getElem?, hy]
      rfl
    have hes : ∀ n : Nat, ((((lv.map (·.2)).toArray.filterMap (es[·]?)).map (·.1)))[n]? = (((lv.map (·.2))[n]?).bind (es[·]?)).map (·.1) := fun n => by
      rw [Array.getElem?_map, ← Array.getElem?_toList, Array.toList_filterMap, List.toList_toArray, fm_get es _ hall]
    refine ⟨?_, ?_, fun i j h e1 e2 => ?_⟩
    · rw [Array.size_map, ← Array.length_toList, ← Array.length_toList, Array.toList_filterMap, List.toList_toArray, List.toList_toArray, List.length_map]
      have key : ∀ l : List Nat, (∀ i ∈ l, i < es.size) → (l.filterMap (es[·]?)).length = l.length := by
        intro l
        induction l with
        | nil => intro _; rfl
        | cons x l ih =>
          intro hl
          have hx := hl x List.mem_cons_self
          rw [List.filterMap_cons, getElem?_pos es x hx, List.length_cons, List.length_cons, ih fun i hi => hl i (List.mem_cons_of_mem _ hi)]
      rw [key _ hall, List.length_map]
    · rw [List.toList_toArray, lv2]
      exact List.Pairwise.filter _ List.pairwise_lt_range
    · rw [hes] at e2
      rw [List.getElem?_toArray, List.getElem?_map] at e1
      rw [List.getElem?_map] at e2
      obtain ⟨⟨j', x⟩, hx, rfl⟩ := Option.map_eq_some_iff.mp e1
      rw [hx] at e2
      have hf := lv1 _ (List.mem_of_getElem? hx)
      have hx' : o'.getD j' none = some x := by
        obtain ⟨y, hy, ey⟩ := Option.map_eq_some_iff.mp hf
        cases ey
        exact hy
      have ho : o'[j']? = some (some x) := by
        rw [Array.getD_eq_getD_getElem?] at hx'
        cases q : o'[j']? with
        | none => rw [q] at hx'; cases hx'
        | some y => rw [q] at hx'; cases hx'; rfl
      obtain ⟨K, q1, q2, q3⟩ := f4 j' x ho
      have eF : ((es[x]?).map (·.1)).getD 0 = h := by
        have : (es[x]?).map (·.1) = some h := e2
        rw [this]
        rfl
      dsimp only at q2 q3
      rw [eF] at q2 q3
      exact ⟨K, q1, q2, fun k hk => mem _ (q3 k hk)⟩
end Tb
set_option Elab.async false
set_option linter.all false
set_option maxRecDepth 100000
set_option maxHeartbeats 4000000
namespace L2
open PySem PySem.Spec PyProof.Rows
section
variable {P : Program} {w : World} {A : Around} {E : Value → Shared → Prop} {s : Shared} {K : Type} [DecidableEq K] {knd : KeyKind P w K}
theorem items_plain {ks : List K} {vs : List Value} (h : ItemsAre knd ks vs) : ∀ v ∈ vs, ∀ b, v ≠ .ref b := fun v hv b e => by
  have := h.byValue v hv
  subst e
  cases this
theorem notClass_plain (n : Nat) {v : Value} (h : ∀ b, v ≠ .ref b) : ofAClassStatement n v = pure false := by
  cases v with
  | ref b => exact absurd rfl (h b)
  | _ => unfold ofAClassStatement; rfl
theorem notClass_tuple {ks : List K} {b : Addr} {Q : Bool → Shared → Prop} (hk : IsTupleKey knd s.heap ks b) (h : Q false s) : wpAny (model P w) A (ofAClassStatement 8 (.ref b)) Q E s := by
  have hT := hk.typeIs
  obtain ⟨o, items, n, ho, hc, hd, hi⟩ := hk
  unfold ofAClassStatement
  refine wpAny_bind (wpAny_typeOf hT ?_)
  dsimp only
  refine wpAny_bind (wpAny_pure ?_)
  simp only [Bool.not_true, Bool.false_eq_true, if_false]
  refine wpAny_bind (wpAny_seqItems ho hd ?_)
  dsimp only
  refine wpAny_bind ?_
  rw [← Array.forIn_toList]
  refine wpAny_forIn_list _ (fun rest r s' => r.1 = none ∧ s' = s ∧ ∀ v ∈ rest, ∀ b, v ≠ .ref b) _ ?_ ?_ _ _ ⟨rfl, rfl, items_plain hi⟩
  · rintro v rest r s' ⟨hr, rfl, hall⟩
    rw [notClass_plain _ (hall v List.mem_cons_self)]
    refine wpAny_bind (wpAny_pure ?_)
    simp only [Bool.false_eq_true, if_false]
    exact wpAny_pure ⟨rfl, rfl, fun u hu => hall u (List.mem_cons_of_mem _ hu)⟩
  · rintro ⟨r1, r2⟩ s' ⟨hr, rfl, _⟩
    simp only at hr
    subst hr
    exact wpAny_pure h
theorem unseen {ks : List K} {b : Addr} {l : List Value} {Q : Bool → Shared → Prop} (hk : IsTupleKey knd s.heap ks b) (hl : ∀ y ∈ l, ∃ b' k', y = .ref b' ∧ IsTupleKey knd s.heap k' b') (h : Q false s) : wpAny (model P w) A (searchCouldBeSeen (.ref b) l) Q E s := by
  unfold searchCouldBeSeen
  refine wpAny_bind ?_
  refine wpAny_forIn_list _ (fun rest r s' => r.1 = none ∧ s' = s ∧ ∀ y ∈ rest, ∃ b' k', y = .ref b' ∧ IsTupleKey knd s.heap k' b') _ ?_ ?_ _ _ ⟨rfl, rfl, hl⟩
  · rintro v rest r s' ⟨hr, rfl, hall⟩
    obtain ⟨b', k', rfl, hk'⟩ := hall v List.mem_cons_self
    have next : ∀ y ∈ rest, ∃ b' k', y = .ref b' ∧ IsTupleKey knd s'.heap k' b' := fun y hy => hall y (List.mem_cons_of_mem _ hy)
    dsimp only
    split
    · exact wpAny_pure ⟨rfl, rfl, next⟩
    · refine wpAny_bind (wpAny_eqIsQuiet_tuple hk ?_)
      simp only [Bool.not_true, Bool.false_eq_true, if_false]
      refine wpAny_bind (wpAny_eqIsQuiet_tuple hk' ?_)
      simp only [Bool.not_true, Bool.false_eq_true, if_false]
      refine wpAny_bind (notClass_tuple hk ?_)
      simp only [Bool.false_eq_true, if_false]
      refine wpAny_bind (notClass_tuple hk' ?_)
      simp only [Bool.false_eq_true, if_false]
      exact wpAny_pure ⟨rfl, rfl, next⟩
  · rintro ⟨r1, r2⟩ s' ⟨hr, rfl, _⟩
    simp only at hr
    subst hr
    exact wpAny_pure h
theorem gave_no {t : SetTable} (hm : Tb.Mask t.mask) : t.gaveWay = false := by
  unfold SetTable.gaveWay
  rcases hm with e | e | e | e | e | e <;> rw [e] <;> rfl
theorem search_new {a b : Addr} {k : List K} {h : Int} {o : Obj} {es : Array (Int × Value)} {ep : Nat} {t : SetTable} (hu : A.units < cLine) (hk : IsTupleKey knd s.heap k b) (ho : s.heap.get? a = some o) (hd : o.data = .set es ep t) (hf : t.fits es.size = true) (hm : Tb.Mask t.mask) (hdm : t.dummies = #[])
    (hall : ∀ e ∈ es.toList, ∃ b' k', e.2 = .ref b' ∧ IsTupleKey knd s.heap k' b' ∧ k' ≠ k) {Q : SetFound → Shared → Prop} :
    ∀ (K fuel : Nat) (stand : Option SetTable.Probe), K < fuel → K < 10 * SetTable.turns t.mask → (stand.getD (t.probeStart h)).dummy = none → (∀ k', k' < K → t.slot (Tb.adv t k' (stand.getD (t.probeStart h))).j ≠ .empty) → t.slot (Tb.adv t K (stand.getD (t.probeStart h))).j = .empty →
      Q (.free (Tb.adv t K (stand.getD (t.probeStart h))).j false) s → wpAny (model P w) A (setSearchFrom a (.ref b) h true fuel stand) Q E s := by
  intro K
  induction K using Nat.strongRecOn with
  | ind K ih =>
    intro fuel stand hfu hK hdu hne hs hQ
    obtain ⟨f, rfl⟩ : ∃ f, fuel = f + 1 := ⟨fuel - 1, by omega⟩
    unfold setSearchFrom
    refine wpAny_bind (wpAny_setState_of ho hd hf ?_)
    dsimp only
    have hg := gave_no hm
    have hsz : t.place.size = es.size := by
      simp only [SetTable.fits, Bool.and_eq_true, beq_iff_eq] at hf
      exact hf.1
    have hsm : t.sameMemory t.moves t.mask = some true := by
      unfold SetTable.sameMemory
      rw [if_pos (beq_self_eq_true _)]
    rw [hg]
    simp only [Bool.false_eq_true, if_false]
    generalize hr : t.probe _ h (stand.getD (t.probeStart h)) = r
    obtain ⟨g, hr⟩ : ∃ g, SetTable.probe.go t g h (10 * SetTable.turns t.mask) (stand.getD (t.probeStart h)) = r := ⟨_, hr⟩
    rcases Tb.go_new hdm g h hK hdu hne hs with ⟨k', i, hk', e, hl⟩ | e
    · rw [e] at hr
      subst hr
      have hpl := Tb.slot_live hl
      have hi : i < es.size := by
        rw [← hsz]
        exact (Array.getElem?_eq_some_iff.mp hpl).1
      have hmem : es[i] ∈ es.toList := by simp
      obtain ⟨b', k2, hy, hk2, hne2⟩ := hall _ hmem
      have hes : es[i]? = some (es[i].1, .ref b') := by
        rw [Array.getElem?_eq_getElem hi, ← hy]
      have hst : ∀ y ∈ ((es.filter fun x => x.1 == h).toList.map fun x => x.2), ∃ b' k', y = Value.ref b' ∧ IsTupleKey knd s.heap k' b' := fun y hy => by
        obtain ⟨e0, he0, rfl⟩ := List.mem_map.mp hy
        have he1 : e0 ∈ es.toList := by
          have := Array.mem_toList_iff.mp he0
          exact Array.mem_toList_iff.mpr (Array.mem_filter.mp this).1
        obtain ⟨b3, k3, h1, h2, _⟩ := hall e0 he1
        exact ⟨b3, k3, h1, h2⟩
      have eK : ∀ x, Tb.adv t (k' + 1 + x) (stand.getD (t.probeStart h)) = Tb.adv t x (Tb.adv t (k' + 1) (stand.getD (t.probeStart h))) := fun x => Tb.adv_add t _ _ _
      have again : wpAny (model P w) A (setSearchFrom a (.ref b) h true f (some (Tb.adv t (k' + 1) (stand.getD (t.probeStart h))))) Q E s := by
        refine ih (K - (k' + 1)) (by omega) f _ (by omega) (by omega) ?_ (fun x hx => ?_) ?_ ?_
        · show (Tb.adv t (k' + 1) _).dummy = none
          rw [Tb.adv_dummy]
          exact hdu
        · show t.slot (Tb.adv t x (Tb.adv t (k' + 1) _)).j ≠ _
          rw [← eK]
          exact hne _ (by omega)
        · show t.slot (Tb.adv t (K - (k' + 1)) (Tb.adv t (k' + 1) _)).j = _
          rw [← eK, show k' + 1 + (K - (k' + 1)) = K by omega]
          exact hs
        · show Q (.free (Tb.adv t (K - (k' + 1)) (Tb.adv t (k' + 1) _)).j false) s
          rw [← eK, show k' + 1 + (K - (k' + 1)) = K by omega]
          exact hQ
      have same : isSame (Value.ref b') (Value.ref b') = pure true := by
        unfold isSame
        simp
      dsimp only
      cases hled : t.led
      · simp only [Bool.not_false, if_true]
        refine wpAny_bind (unseen hk hst ?_)
        simp only [Bool.false_eq_true, if_false]
        rw [hes]
        dsimp only
        refine wpAny_bind (wpAny_holding (wpAny_eqBool_tuple hu hk2 hk ?_))
        rw [decide_eq_false hne2]
        refine wpAny_bind (wpAny_setState_of ho hd hf ?_)
        dsimp only
        simp only [Bool.and_false, Bool.false_eq_true, if_false, hsm, if_true, hl, hes, same]
        exact wpAny_bind (wpAny_pure (wpAny_bind (wpAny_pure again)))
      · simp only [Bool.not_true, Bool.false_eq_true, if_false]
        rw [hes]
        dsimp only
        refine wpAny_bind (wpAny_holding (wpAny_eqBool_tuple hu hk2 hk ?_))
        rw [decide_eq_false hne2]
        refine wpAny_bind (wpAny_setState_of ho hd hf ?_)
        dsimp only
        simp only [Bool.and_false, Bool.false_eq_true, if_false, hsm, if_true, hl, hes, same]
        exact wpAny_bind (wpAny_pure (wpAny_bind (wpAny_pure again)))
    · rw [e] at hr
      subst hr
      exact wpAny_pure hQ
theorem search_old {a b : Addr} {k : List K} {h : Int} {o : Obj} {es : Array (Int × Value)} {ep i0 : Nat} {t : SetTable} (hu : A.units < cLine) (hk : IsTupleKey knd s.heap k b) (ho : s.heap.get? a = some o) (hd : o.data = .set es ep t) (hf : t.fits es.size = true) (hm : Tb.Mask t.mask) (hdm : t.dummies = #[])
    (hall : ∀ e ∈ es.toList, ∃ b' k', e.2 = .ref b' ∧ IsTupleKey knd s.heap k' b') (hi0 : ∃ b0, es[i0]? = some (h, .ref b0) ∧ IsTupleKey knd s.heap k b0) {Q : SetFound → Shared → Prop} (hQ : Q (.there none) s) :
    ∀ (K fuel : Nat) (stand : Option SetTable.Probe), K < fuel → K < 10 * SetTable.turns t.mask → (stand.getD (t.probeStart h)).dummy = none → (∀ k', k' < K → t.slot (Tb.adv t k' (stand.getD (t.probeStart h))).j ≠ .empty) → t.slot (Tb.adv t K (stand.getD (t.probeStart h))).j = .live i0 →
      wpAny (model P w) A (setSearchFrom a (.ref b) h true fuel stand) Q E s := by
  obtain ⟨b0, hb0, hkb0⟩ := hi0
  intro K
  induction K using Nat.strongRecOn with
  | ind K ih =>
    intro fuel stand hfu hK hdu hne hs
    obtain ⟨f, rfl⟩ : ∃ f, fuel = f + 1 := ⟨fuel - 1, by omega⟩
    unfold setSearchFrom
    refine wpAny_bind (wpAny_setState_of ho hd hf ?_)
    dsimp only
    have hg := gave_no hm
    have hsz : t.place.size = es.size := by
      simp only [SetTable.fits, Bool.and_eq_true, beq_iff_eq] at hf
      exact hf.1
    have hsm : t.sameMemory t.moves t.mask = some true := by
      unfold SetTable.sameMemory
      rw [if_pos (beq_self_eq_true _)]
    rw [hg]
    simp only [Bool.false_eq_true, if_false]
    generalize hr : t.probe _ h (stand.getD (t.probeStart h)) = r
    obtain ⟨g, hgi, hr⟩ : ∃ g : Nat → Int, g i0 = h ∧ SetTable.probe.go t g h (10 * SetTable.turns t.mask) (stand.getD (t.probeStart h)) = r := ⟨_, by show ((es[i0]?).map (·.1)).getD 0 = h; rw [hb0]; rfl, hr⟩
    obtain ⟨k', i, hk', e, hl⟩ := Tb.go_old hdm g h hK hdu hne hs hgi
    rw [e] at hr
    subst hr
    have hpl := Tb.slot_live hl
    have hi : i < es.size := by
      rw [← hsz]
      exact (Array.getElem?_eq_some_iff.mp hpl).1
    have hmem : es[i] ∈ es.toList := by simp
    obtain ⟨b', k2, hy, hk2⟩ := hall _ hmem
    have hes : es[i]? = some (es[i].1, .ref b') := by
      rw [Array.getElem?_eq_getElem hi, ← hy]
    have hst : ∀ y ∈ ((es.filter fun x => x.1 == h).toList.map fun x => x.2), ∃ b' k', y = Value.ref b' ∧ IsTupleKey knd s.heap k' b' := fun y hy => by
      obtain ⟨e0, he0, rfl⟩ := List.mem_map.mp hy
      have he1 : e0 ∈ es.toList := by
        have := Array.mem_toList_iff.mp he0
        exact Array.mem_toList_iff.mpr (Array.mem_filter.mp this).1
      obtain ⟨b3, k3, h1, h2⟩ := hall e0 he1
      exact ⟨b3, k3, h1, h2⟩
    have eK : ∀ x, Tb.adv t (k' + 1 + x) (stand.getD (t.probeStart h)) = Tb.adv t x (Tb.adv t (k' + 1) (stand.getD (t.probeStart h))) := fun x => Tb.adv_add t _ _ _
    have again : k2 ≠ k → wpAny (model P w) A (setSearchFrom a (.ref b) h true f (some (Tb.adv t (k' + 1) (stand.getD (t.probeStart h))))) Q E s := fun hne2 => by
      have hlt : k' < K := by
        rcases Nat.lt_or_ge k' K with q | q
        · exact q
        · have : k' = K := by omega
          subst this
          rw [hs] at hl
          cases hl
          rw [hb0] at hes
          cases hes
          obtain ⟨o1, i1, n1, z1, _, z2, z3⟩ := hk2
          obtain ⟨o2, i2, n2, y1, _, y2, y3⟩ := hkb0
          rw [z1] at y1
          cases y1
          rw [z2] at y2
          cases y2
          exact absurd (z3.inj y3) hne2
      refine ih (K - (k' + 1)) (by omega) f _ (by omega) (by omega) ?_ (fun x hx => ?_) ?_
      · show (Tb.adv t (k' + 1) _).dummy = none
        rw [Tb.adv_dummy]
        exact hdu
      · show t.slot (Tb.adv t x (Tb.adv t (k' + 1) _)).j ≠ _
        rw [← eK]
        exact hne _ (by omega)
      · show t.slot (Tb.adv t (K - (k' + 1)) (Tb.adv t (k' + 1) _)).j = _
        rw [← eK, show k' + 1 + (K - (k' + 1)) = K by omega]
        exact hs
    have same : isSame (Value.ref b') (Value.ref b') = pure true := by
      unfold isSame
      simp
    have fin : wpAny (model P w) A (do
        let equal ← holding [Value.ref b'] (eqBool (.ref b') (.ref b))
        let (es', _, t') ← setState a
        if (true && equal) = true then return SetFound.there none
        let some same := t'.sameMemory t.moves t.mask | unsupported "set.changed-during-lookup:is-the-new-block-at-the-old-address"
        let still ← match (if same = true then t'.slot (Tb.adv t k' (stand.getD (t.probeStart h))).j else .empty) with
          | .live i' => match es'[i']? with
            | some (_, y') => do pure (if ← isSame y' (.ref b') then some i' else none)
            | none => pure none
          | _ => pure none
        match still with
        | none => rule "set.search.anew"; setSearchFrom a (.ref b) h true f none
        | some i' => if equal = true then return .there (some i') else setSearchFrom a (.ref b) h true f (some (Tb.adv t (k' + 1) (stand.getD (t.probeStart h))))) Q E s := by
      refine wpAny_bind (wpAny_holding (wpAny_eqBool_tuple hu hk2 hk ?_))
      refine wpAny_bind (wpAny_setState_of ho hd hf ?_)
      dsimp only
      by_cases hq : k2 = k
      · rw [decide_eq_true hq]
        simp only [Bool.and_self, if_true]
        exact wpAny_pure hQ
      · rw [decide_eq_false hq]
        simp only [Bool.and_false, Bool.false_eq_true, if_false, hsm, if_true, hl, hes, same]
        exact wpAny_bind (wpAny_pure (wpAny_bind (wpAny_pure (again hq))))
    dsimp only
    cases hled : t.led
    · simp only [Bool.not_false, if_true]
      refine wpAny_bind (unseen hk hst ?_)
      simp only [Bool.false_eq_true, if_false]
      rw [hes]
      exact fin
    · simp only [Bool.not_true, Bool.false_eq_true, if_false]
      rw [hes]
      exact fin
theorem key_stay {h h' : Heap} {a b : Addr} {k : List K} {o : Obj} {es : Array (Int × Value)} {ep : Nat} {t : SetTable} (hk : IsTupleKey knd h k b) (ho : h.get? a = some o) (hd : o.data = .set es ep t) (hs : Heap.SameBut a h h') : IsTupleKey knd h' k b := by
  obtain ⟨o', items, n, ho', hc, hd', hi⟩ := hk
  have hne : b ≠ a := by
    rintro rfl
    rw [ho] at ho'
    cases ho'
    rw [hd] at hd'
    cases hd'
  exact ⟨o', items, n, (hs.2 b hne).trans ho', hc, hd', hi⟩
theorem hashBy_plain (n : Nat) {v : Value} (h : ∀ b, v ≠ .ref b) : ∃ c, hashByValue n v = pure c := by
  cases v with
  | ref b => exact absurd rfl (h b)
  | _ => exact ⟨_, by cases n <;> unfold hashByValue <;> rfl⟩
theorem hashBy_tuple {ks : List K} {b : Addr} {Q : Bool → Shared → Prop} (hk : IsTupleKey knd s.heap ks b) (h : ∀ c, Q c s) : wpAny (model P w) A (hashByValue 8 (.ref b)) Q E s := by
  have hT := hk.typeIs
  obtain ⟨o, items, n, ho, hc, hd, hi⟩ := hk
  unfold hashByValue
  refine wpAny_bind (wpAny_specialOf hT F.slot_tuple_hash.lookup ?_)
  dsimp only
  refine wpAny_bind (wpAny_seqItems ho hd ?_)
  dsimp only [Option.getD_some]
  refine wpAny_bind ?_
  rw [← Array.forIn_toList]
  refine wpAny_forIn_list _ (fun rest r s' => (r.1 = none ∨ ∃ c, r.1 = some c) ∧ s' = s ∧ ∀ v ∈ rest, ∀ b, v ≠ .ref b) _ ?_ ?_ _ _ ⟨.inl rfl, rfl, items_plain hi⟩
  · rintro v rest r s' ⟨hr, rfl, hall⟩
    obtain ⟨c, hc'⟩ := hashBy_plain 7 (hall v List.mem_cons_self)
    rw [hc']
    refine wpAny_bind (wpAny_pure ?_)
    cases c
    · show wpAny _ _ (pure (ForInStep.done (some false, ()))) _ _ _
      exact wpAny_pure (wpAny_pure (h false))
    · simp only [Bool.not_true, Bool.false_eq_true, if_false]
      exact wpAny_pure ⟨.inl rfl, rfl, fun u hu => hall u (List.mem_cons_of_mem _ hu)⟩
  · rintro ⟨r1, r2⟩ s' ⟨hr, rfl, _⟩
    simp only at hr
    rcases hr with rfl | ⟨c, rfl⟩
    · exact wpAny_pure (h true)
    · exact wpAny_pure (h c)
theorem reorder_ok {α : Type} {es : Array α} {order : Array Nat} (h : order.toList.Perm (List.range es.size)) : (order.filterMap (es[·]?)).size = es.size ∧ ∀ e ∈ (order.filterMap (es[·]?)).toList, e ∈ es.toList := by
  have key : ∀ l : List Nat, (∀ i ∈ l, i < es.size) → (l.filterMap (es[·]?)).length = l.length ∧ ∀ e ∈ l.filterMap (es[·]?), e ∈ es.toList := by
    intro l
    induction l with
    | nil => intro _; exact ⟨rfl, fun e he => by cases he⟩
    | cons x l ih =>
      intro hl
      obtain ⟨i1, i2⟩ := ih fun i hi => hl i (List.mem_cons_of_mem _ hi)
      have hx := hl x List.mem_cons_self
      have e : (x :: l).filterMap (es[·]?) = es[x] :: l.filterMap (es[·]?) := by
        rw [List.filterMap_cons]
        simp [hx]
      rw [e]
      refine ⟨by rw [List.length_cons, List.length_cons, i1], fun y hy => ?_⟩
      rcases List.mem_cons.mp hy with rfl | hy
      · simp
      · exact i2 y hy
  have hlt : ∀ i ∈ order.toList, i < es.size := fun i hi => List.mem_range.mp (h.mem_iff.mp hi)
  obtain ⟨k1, k2⟩ := key order.toList hlt
  rw [Array.toList_filterMap]
  refine ⟨?_, k2⟩
  rw [← Array.length_toList, Array.toList_filterMap, k1, h.length_eq, List.length_range]
theorem reorder_perm {α : Type} {es : Array α} {order : Array Nat} (h : order.toList.Perm (List.range es.size)) : (order.filterMap (es[·]?)).toList.Perm es.toList := by
  rw [Array.toList_filterMap]
  have e : (List.range es.size).filterMap (es[·]?) = es.toList := by
    apply List.ext_getElem?
    intro n
    have e0 : es.toList[n]? = es[n]? := Array.getElem?_toList
    rw [e0, Tb.fm_get es _ (fun i hi => List.mem_range.mp hi)]
    by_cases hn : n < es.size
    · rw [List.getElem?_range hn]
      rfl
    · have e1 : (List.range es.size)[n]? = none := List.getElem?_eq_none (by rw [List.length_range]; omega)
      rw [e1, Array.getElem?_eq_none (by omega)]
      rfl
  rw [← e]
  exact h.filterMap _
end
section
variable {P : Program} {w : World} {A : Around} {E : Value → Shared → Prop} {s : Shared}
theorem items_str {ks : List Key} {vs : List Value} (h : ItemsAre (mixKind P w) ks vs) {x : Str} (hx : Sum.inr x ∈ ks) : ∃ t, Value.str x t ∈ vs := by
  induction h with
  | nil => cases hx
  | @cons k v ks vs hk _ ih =>
    rcases List.mem_cons.mp hx with rfl | hx
    · rcases keyIs_shape (show keyIs (.inr x) v = true from hk) with ⟨i, t, e, _⟩ | ⟨y, t, e, rfl⟩
      · cases e
      · cases e
        exact ⟨t, List.mem_cons_self⟩
    · obtain ⟨t, ht⟩ := ih hx
      exact ⟨t, List.mem_cons_of_mem _ ht⟩
theorem hashBy_str {ks : List Key} {b : Addr} {x : Str} {Q : Bool → Shared → Prop} (hk : IsTupleKey (mixKind P w) s.heap ks b) (hx : Sum.inr x ∈ ks) (h : Q false s) : wpAny (model P w) A (hashByValue 8 (.ref b)) Q E s := by
  have hT := hk.typeIs
  obtain ⟨o, items, n, ho, hc, hd, hi⟩ := hk
  unfold hashByValue
  refine wpAny_bind (wpAny_specialOf hT F.slot_tuple_hash.lookup ?_)
  dsimp only
  refine wpAny_bind (wpAny_seqItems ho hd ?_)
  dsimp only [Option.getD_some]
  refine wpAny_bind ?_
  rw [← Array.forIn_toList]
  refine wpAny_forIn_list _ (fun rest r s' => r.1 = none ∧ s' = s ∧ (∀ v ∈ rest, ∀ b, v ≠ .ref b) ∧ ∃ t, Value.str x t ∈ rest) _ ?_ ?_ _ _ ⟨rfl, rfl, items_plain hi, items_str hi hx⟩
  · rintro v rest r s' ⟨hr, rfl, hall, t, ht⟩
    obtain ⟨c, hc'⟩ := hashBy_plain 7 (hall v List.mem_cons_self)
    rw [hc']
    refine wpAny_bind (wpAny_pure ?_)
    cases c
    · show wpAny _ _ (pure (ForInStep.done (some false, ()))) _ _ _
      exact wpAny_pure (wpAny_pure h)
    · simp only [Bool.not_true, Bool.false_eq_true, if_false]
      refine wpAny_pure ⟨rfl, rfl, fun u hu => hall u (List.mem_cons_of_mem _ hu), t, ?_⟩
      rcases List.mem_cons.mp ht with rfl | ht
      · exact absurd hc' (fun z => by
          have : hashByValue 7 (Value.str x t) = pure false := by unfold hashByValue; rfl
          rw [this] at z
          injection z with z
          cases z)
      · exact ht
  · rintro ⟨r1, r2⟩ s' ⟨hr, rfl, _, t, ht⟩
    cases ht
noncomputable def SetT (P : Program) (w : World) (B : Addr → List Key → Prop) (h : Heap) (a : Addr) (ks : List (List Key)) : Prop := ks.Nodup ∧
  ∃ o es ep t, h.get? a = some o ∧ o.ExactSet ∧ o.data = .set es ep t ∧ t.dummies = #[] ∧ Tb.Mask t.mask ∧ es.size * 5 < t.mask * 3 ∧ es.size = ks.length ∧ Tb.TOk t.mask t.place (es.map (·.1)) ∧
    (∀ e ∈ es.toList, ∃ b k, e = (tupleKeyHash (mixKind P w) k, .ref b) ∧ k ∈ ks ∧ IsTupleKey (mixKind P w) h k b ∧ B b k) ∧ (∀ k ∈ ks, ∃ b, (tupleKeyHash (mixKind P w) k, .ref b) ∈ es.toList ∧ IsTupleKey (mixKind P w) h k b) ∧ ((∀ k ∈ ks, ∃ x, Sum.inr x ∈ k) → ks = [] ∨ t.plain = false)
theorem add_tail {B : Addr → List Key → Prop} {a : Addr} {o : Obj} {es es1 : Array (Int × Value)} {ep n : Nat} {t t1 : SetTable} {ks1 : List (List Key)} {Q : Bool → Shared → Prop} (hnd : ks1.Nodup) (ho : s.heap.get? a = some o) (hex : o.ExactSet) (hd : o.data = .set es ep t) (hs1 : es1.size = n + 1) (hdm1 : t1.dummies = #[])
    (hm1 : Tb.Mask t1.mask) (hfull : n * 5 < t1.mask * 3) (hn : n < 1400) (hlen : ks1.length = n + 1) (hT1 : Tb.TOk t1.mask t1.place (es1.map (·.1))) (hall1 : ∀ e ∈ es1.toList, ∃ b k, e = (tupleKeyHash (mixKind P w) k, .ref b) ∧ k ∈ ks1 ∧ IsTupleKey (mixKind P w) s.heap k b ∧ B b k)
    (hin1 : ∀ k ∈ ks1, ∃ b, (tupleKeyHash (mixKind P w) k, .ref b) ∈ es1.toList ∧ IsTupleKey (mixKind P w) s.heap k b) (hpl1 : (∀ k ∈ ks1, ∃ x, Sum.inr x ∈ k) → t1.plain = false)
    (h : ∀ h', Heap.SameBut a s.heap h' → SetT P w B h' a ks1 → Q true { s with heap := h' }) :
    wpAny (model P w) A (do
      storeSet a es1 t1
      if (!false && t1.tooFull) = true then do
        setRelay a (SetTable.grown (n + 1))
        pure true
      else pure true) Q E s := by
  have hline : n + 1 ≤ sizeLine := Nat.le_trans (show n + 1 ≤ 10000 by omega) (by decide)
  have hp1 : t1.place.size = es1.size := by rw [hT1.len, Array.size_map]
  refine wpAny_bind (wpAny_storeSet_of ho hd ?_ (by omega))
  have ho1 : (s.heap.update a (Obj.putSet es1 t1)).get? a = some { o with data := .set es1 (ep + 1) t1 } := by
    have := Heap.get?_update_self (Obj.putSet es1 t1) ho (by rw [putSet_of es1 t1 hd]; rfl)
    rw [putSet_of es1 t1 hd] at this
    exact this
  have hsb1 := Heap.SameBut.update s.heap a (Obj.putSet es1 t1)
  generalize s.heap.update a (Obj.putSet es1 t1) = h1 at ho1 hsb1
  have hall2 : ∀ e ∈ es1.toList, ∃ b k, e = (tupleKeyHash (mixKind P w) k, .ref b) ∧ k ∈ ks1 ∧ IsTupleKey (mixKind P w) h1 k b ∧ B b k := fun e he => by
    obtain ⟨b, k, z1, z2, z3, z4⟩ := hall1 e he
    exact ⟨b, k, z1, z2, key_stay z3 ho hd hsb1, z4⟩
  have hin2 : ∀ k ∈ ks1, ∃ b, (tupleKeyHash (mixKind P w) k, .ref b) ∈ es1.toList ∧ IsTupleKey (mixKind P w) h1 k b := fun k hk => by
    obtain ⟨b, z1, z2⟩ := hin1 k hk
    exact ⟨b, z1, key_stay z2 ho hd hsb1⟩
  have hfill : t1.fill = n + 1 := by
    unfold SetTable.fill
    rw [hdm1, hp1, hs1]
    rfl
  by_cases hq : t1.tooFull = true
  · rw [hq]
    simp only [Bool.not_false, Bool.and_self, if_true]
    have hq' : t1.mask * 3 ≤ (n + 1) * 5 := by
      unfold SetTable.tooFull at hq
      rw [hfill] at hq
      simpa using hq
    obtain ⟨m, hm, hw, hmn, hlt⟩ : ∃ m, Tb.Mask m ∧ SetTable.sizeAbove (SetTable.grown (n + 1)) - 1 = m ∧ n + 1 ≤ m ∧ (n + 1) * 5 < m * 3 ∧ SetTable.sizeAbove (SetTable.grown (n + 1)) ≤ sizeLine := by
      have hg : SetTable.grown (n + 1) = (n + 1) * 4 := by
        unfold SetTable.grown
        rw [if_neg (by omega)]
      rw [hg]
      rcases hm1 with e | e | e | e | e | e <;> rw [e] at hfull hq'
      · obtain rfl : n = 4 := by omega
        exact ⟨31, .inr (.inl rfl), Tb.above20, by omega, by omega, by decide +kernel⟩
      · obtain rfl : n = 18 := by omega
        exact ⟨127, .inr (.inr (.inl rfl)), Tb.above76, by omega, by omega, by decide +kernel⟩
      · obtain rfl : n = 76 := by omega
        exact ⟨511, .inr (.inr (.inr (.inl rfl))), Tb.above308, by omega, by omega, by decide +kernel⟩
      · obtain rfl : n = 306 := by omega
        exact ⟨2047, .inr (.inr (.inr (.inr (.inl rfl)))), Tb.above1228, by omega, by omega, by decide +kernel⟩
      · obtain rfl : n = 1228 := by omega
        exact ⟨8191, .inr (.inr (.inr (.inr (.inr rfl)))), Tb.above4916, by omega, by omega, by decide +kernel⟩
      · omega
    have hfit1 : t1.fits es1.size = true := by
      simp only [SetTable.fits, Bool.and_eq_true, beq_iff_eq, decide_eq_true_eq]
      refine ⟨hp1, ?_⟩
      rw [hfill]
      rcases hm1 with e | e | e | e | e | e <;> omega
    obtain ⟨t2, order, hrel, hp2, hd2, hm2, hperm, _, hpl2, hT2⟩ := Tb.relaid_ok2 t1 (es := es1) hm hw (by omega)
    obtain ⟨r1, r2⟩ := reorder_ok hperm
    have r3 := reorder_perm hperm
    refine wpAny_bind ?_
    unfold setRelay
    refine wpAny_bind (wpAny_setState_of (s := { s with heap := h1 }) ho1 rfl hfit1 ?_)
    dsimp only
    rw [if_neg (Nat.not_lt.mpr hlt.2), hrel]
    refine wpAny_bind ?_
    show wpAny _ _ (do
      if (order.filterMap (es1[·]?)).size != es1.size then unsupported "internal:set-table-lost-an-element"
      pure (order.filterMap (es1[·]?), t2)) _ _ _
    rw [r1]
    simp only [bne_self_eq_false, Bool.false_eq_true, if_false]
    refine wpAny_pure ?_
    dsimp only
    refine wpAny_storeSet_of (s := { s with heap := h1 }) ho1 rfl ?_ (by rw [r1]; omega)
    have ho2 : (h1.update a (Obj.putSet (order.filterMap (es1[·]?)) t2)).get? a = some { o with data := .set (order.filterMap (es1[·]?)) (ep + 1 + 1) t2 } := by
      have := Heap.get?_update_self (Obj.putSet (order.filterMap (es1[·]?)) t2) ho1 (by rw [putSet_of _ _ (o := { o with data := .set es1 (ep + 1) t1 }) rfl]; rfl)
      rw [putSet_of _ _ (o := { o with data := .set es1 (ep + 1) t1 }) rfl] at this
      exact this
    have hsb2 := Heap.SameBut.update h1 a (Obj.putSet (order.filterMap (es1[·]?)) t2)
    refine wpAny_pure (h _ (hsb1.trans hsb2) ⟨hnd, _, _, _, t2, ho2, hex, rfl, hd2, by rw [hm2]; exact hm, by rw [r1, hm2, hs1]; exact hlt.1, by rw [r1, hs1, hlen], by rw [hm2]; exact hT2, fun e he => ?_, fun k hk => ?_, fun hx => .inr (hpl2.trans (hpl1 hx))⟩)
    · obtain ⟨b, k, z1, z2, z3, z4⟩ := hall2 e (r2 e he)
      exact ⟨b, k, z1, z2, key_stay z3 ho1 rfl hsb2, z4⟩
    · obtain ⟨b, z1, z2⟩ := hin2 k hk
      exact ⟨b, r3.mem_iff.mpr z1, key_stay z2 ho1 rfl hsb2⟩
  · have hq0 : t1.tooFull = false := by simpa using hq
    rw [hq0]
    simp only [Bool.and_false, Bool.false_eq_true, if_false]
    have hq' : (n + 1) * 5 < t1.mask * 3 := by
      unfold SetTable.tooFull at hq0
      rw [hfill] at hq0
      simpa using hq0
    exact wpAny_pure (h h1 hsb1 ⟨hnd, _, es1, _, t1, ho1, hex, rfl, hdm1, hm1, by rw [hs1]; exact hq', by rw [hs1, hlen], hT1, hall2, hin2, fun hx => .inr (hpl1 hx)⟩)
theorem ins_mem {α : Type} {xs : Array α} {p : Nat} {x e : α} (h : e = x ∨ e ∈ xs.toList) : e ∈ (SetTable.insertAt xs p x).toList := by
  rw [Tb.insertAt_list]
  rcases h with rfl | h
  · exact List.mem_append_right _ List.mem_cons_self
  · rw [← List.take_append_drop p xs.toList] at h
    rcases List.mem_append.mp h with a | a
    · exact List.mem_append_left _ a
    · exact List.mem_append_right _ (List.mem_cons_of_mem _ a)
theorem ins_map {α β : Type} (f : α → β) (xs : Array α) (p : Nat) (x : α) : (SetTable.insertAt xs p x).map f = SetTable.insertAt (xs.map f) p (f x) := by
  apply Array.toList_inj.mp
  rw [Array.toList_map, Tb.insertAt_list, Tb.insertAt_list, Array.toList_map]
  simp
theorem add_ok {B : Addr → List Key → Prop} {a b : Addr} {k : List Key} {ks : List (List Key)} {Q : Bool → Shared → Prop} (hu : A.units < cLine) (hk : IsTupleKey (mixKind P w) s.heap k b) (hB : B b k) (hS : SetT P w B s.heap a ks) (hsz : ks.length < 1400)
    (h : ∀ h' r ks', Heap.SameBut a s.heap h' → SetT P w B h' a ks' → ks'.length ≤ ks.length + 1 → (∀ x, x ∈ ks' ↔ x ∈ ks ∨ x = k) → Q r { s with heap := h' }) : wpAny (model P w) A (setAddHashed a (.ref b) (tupleKeyHash (mixKind P w) k)) Q E s := by
  obtain ⟨hnd, o, es, ep, t, ho, hex, hd, hdm, hm, hfull, hlen, hT, hall, hin, hpl⟩ := id hS
  have hp : t.place.size = es.size := by rw [hT.len, Array.size_map]
  have hle : es.size ≤ t.mask := by omega
  have hf : t.fits es.size = true := by
    simp only [SetTable.fits, Bool.and_eq_true, beq_iff_eq, decide_eq_true_eq]
    refine ⟨hp, ?_⟩
    unfold SetTable.fill
    rw [hdm, hp]
    simpa using hle
  have hturn : 10 * SetTable.turns t.mask < 100000 := by
    unfold SetTable.turns
    rcases hm with e | e | e | e | e | e <;> rw [e] <;> decide
  have hst : ∀ x, (Tb.adv t x (Option.getD none (t.probeStart (tupleKeyHash (mixKind P w) k)))).j = Tb.pm t.mask (tupleKeyHash (mixKind P w) k) x := fun x => Tb.pm_of t _ x
  unfold setAddHashed setAddHashedIn
  refine wpAny_holding (wpAny_bind (wpAny_setState_of ho hd hf ?_))
  dsimp only
  have hsc : byScan (.ref b) es = false := rfl
  rw [hsc]
  simp only [Bool.false_eq_true, if_false]
  unfold setSearch
  rcases Classical.em (k ∈ ks) with hold | hold
  · obtain ⟨b0, hb0, hkb0⟩ := hin k hold
    obtain ⟨i0, hi0⟩ := List.getElem?_of_mem hb0
    rw [Array.getElem?_toList] at hi0
    have hi0s := (Array.getElem?_eq_some_iff.mp hi0).1
    obtain ⟨j0, hj0⟩ : ∃ j0, t.place[i0]? = some j0 := ⟨_, getElem?_pos t.place i0 (by omega)⟩
    obtain ⟨K, q1, q2, q3⟩ := hT.rch i0 j0 (tupleKeyHash (mixKind P w) k) hj0 (by rw [Array.getElem?_map, hi0]; rfl)
    refine wpAny_bind (search_old hu hk ho hd hf hm hdm (fun e he => ?_) ⟨b0, hi0, hkb0⟩ ?_ K 100000 none (by omega) q1 rfl (fun x hx => ?_) ?_)
    · obtain ⟨b', k', e1, _, e3, _⟩ := hall e he
      exact ⟨b', k', by rw [e1], e3⟩
    · dsimp only
      refine wpAny_pure ?_
      have e : s = { s with heap := s.heap } := by cases s; rfl
      rw [e]
      exact h s.heap _ ks (Heap.SameBut.refl a s.heap) hS (Nat.le_succ _) fun x => ⟨.inl, fun z => z.elim id fun e => e ▸ hold⟩
    · rw [hst]
      obtain ⟨i, e, _⟩ := Tb.mem_live hT.inc (q3 x hx)
      rw [e]
      intro z
      cases z
    · rw [hst, q2]
      exact Tb.slot_mem hT.inc hj0
  · obtain ⟨K, q1, q2, q3⟩ := Tb.first_free hdm hm (by rw [hp]; exact hle) (tupleKeyHash (mixKind P w) k)
    have hall' : ∀ e ∈ es.toList, ∃ b' k', e.2 = .ref b' ∧ IsTupleKey (mixKind P w) s.heap k' b' ∧ k' ≠ k := fun e he => by
      obtain ⟨b', k', h1, h2, h3, _⟩ := hall e he
      exact ⟨b', k', by rw [h1], h3, fun z => hold (z ▸ h2)⟩
    refine wpAny_bind (search_new hu hk ho hd hf hm hdm hall' K 100000 none (by omega) q1 rfl (fun x hx => by rw [hst]; exact q3 x hx) (by rw [hst]; exact q2) ?_)
    rw [hst]
    dsimp only
    refine wpAny_bind (wpAny_setState_of ho hd hf ?_)
    dsimp only
    have hnm := Tb.empty_not_mem hT.inc q2
    have hTp := hT.put q1 hnm (fun x hx => Tb.nonempty_mem hdm (q3 x hx))
    have hput : (t.put (Tb.pm t.mask (tupleKeyHash (mixKind P w) k) K)).1.dummies = #[] := by
      show (if SetTable.has t.dummies _ = true then _ else t.dummies) = #[]
      rw [hdm, Tb.has_nil]
      rfl
    generalize Tb.pm t.mask (tupleKeyHash (mixKind P w) k) K = j at hTp hput
    have hT1 : Tb.TOk t.mask (t.put j).1.place ((SetTable.insertAt es (t.put j).2 (tupleKeyHash (mixKind P w) k, Value.ref b)).map (·.1)) := by
      rw [ins_map]
      exact hTp
    have hins : ∀ e ∈ (SetTable.insertAt es (t.put j).2 (tupleKeyHash (mixKind P w) k, Value.ref b)).toList, ∃ b' k', e = (tupleKeyHash (mixKind P w) k', .ref b') ∧ k' ∈ k :: ks ∧ IsTupleKey (mixKind P w) s.heap k' b' ∧ B b' k' := fun e he => by
      rcases Tb.insertAt_mem he with rfl | he
      · exact ⟨b, k, rfl, List.mem_cons_self, hk, hB⟩
      · obtain ⟨b', k', z1, z2, z3, z4⟩ := hall e he
        exact ⟨b', k', z1, List.mem_cons_of_mem _ z2, z3, z4⟩
    have hin' : ∀ k' ∈ k :: ks, ∃ b', (tupleKeyHash (mixKind P w) k', Value.ref b') ∈ (SetTable.insertAt es (t.put j).2 (tupleKeyHash (mixKind P w) k, Value.ref b)).toList ∧ IsTupleKey (mixKind P w) s.heap k' b' := fun k' hk' => by
      rcases List.mem_cons.mp hk' with rfl | hk'
      · exact ⟨b, ins_mem (.inl rfl), hk⟩
      · obtain ⟨b', z1, z2⟩ := hin k' hk'
        exact ⟨b', ins_mem (.inr z1), z2⟩
    have hnd' : (k :: ks).Nodup := List.nodup_cons.mpr ⟨hold, hnd⟩
    have h' : ∀ h', Heap.SameBut a s.heap h' → SetT P w B h' a (k :: ks) → Q true { s with heap := h' } := fun h2 sb hS' => h h2 true _ sb hS' (Nat.le_refl _) fun x => by rw [List.mem_cons]; exact ⟨fun z => z.symm, fun z => z.symm⟩
    have fin : ∀ c : Bool, ((∀ k' ∈ k :: ks, ∃ x, Sum.inr x ∈ k') → (t.put j).1.plain = false ∨ c = false) → wpAny (model P w) A (do
        storeSet a (SetTable.insertAt es (t.put j).2 (tupleKeyHash (mixKind P w) k, Value.ref b)) (if c = true then (t.put j).1 else { (t.put j).1 with plain := false })
        if (!false && (if c = true then (t.put j).1 else { (t.put j).1 with plain := false }).tooFull) = true then do
          setRelay a (SetTable.grown (es.size + 1))
          pure true
        else pure true) Q E s := fun c hcp => by
      refine add_tail (ks1 := k :: ks) hnd' ho hex hd (Tb.insertAt_size _ _ _) ?_ ?_ ?_ (by omega) (by rw [List.length_cons, hlen]) ?_ hins hin' ?_ h'
      · cases c <;> exact hput
      · cases c <;> exact hm
      · cases c <;> exact hfull
      · cases c <;> exact hT1
      · intro hx
        cases c
        · rfl
        · rcases hcp hx with z | z
          · exact z
          · cases z
    cases hpl' : (t.put j).1.plain
    · simp only [Bool.false_eq_true, if_false]
      exact wpAny_bind (wpAny_pure (fin true fun _ => .inl hpl'))
    · simp only [if_true]
      rcases Classical.em (∃ x, Sum.inr x ∈ k) with ⟨x, hx⟩ | hx
      · exact wpAny_bind (hashBy_str hk hx (fin false fun _ => .inr rfl))
      · exact wpAny_bind (hashBy_tuple hk fun c => fin c fun hall => absurd (hall k List.mem_cons_self) hx)
end
section
variable {P : Program} {w : World} {A : Around} {I : Addr} {fp wr : List Addr} {G : Array GenState → Array GenState → Prop} {n : Nat} {Pz : Nat → Value → Prop} {St : Nat → Shared → Prop}
theorem SetT.moved {B : Addr → List Key → Prop} {h h' : Heap} {a : Addr} {ks : List (List Key)} {wr : List Addr} (hS : SetT P w B h a ks) (hk : ∀ b o, b ∉ wr → h.get? b = some o → h'.get? b = some o) (ha : a ∉ wr) (hw : ∀ b ∈ wr, ∀ o, h.get? b = some o → ∃ vs, o.data = .fields vs) : SetT P w B h' a ks := by
  obtain ⟨hnd, o, es, ep, t, ho, hex, hd, h1, h2, h3, h4, h5, hall, hin, hpl⟩ := hS
  have mv : ∀ k b, IsTupleKey (mixKind P w) h k b → IsTupleKey (mixKind P w) h' k b := fun k b ⟨o', items, m, ho', hc, hd', hi⟩ => ⟨o', items, m, hk b o' (fun hb => by
      obtain ⟨vs, hv⟩ := hw b hb o' ho'
      rw [hd'] at hv
      cases hv) ho', hc, hd', hi⟩
  refine ⟨hnd, o, es, ep, t, hk a o ha ho, hex, hd, h1, h2, h3, h4, h5, fun e he => ?_, fun k hk => ?_, hpl⟩
  · obtain ⟨b, k, z1, z2, z3, z4⟩ := hall e he
    exact ⟨b, k, z1, z2, mv k b z3, z4⟩
  · obtain ⟨b, z1, z2⟩ := hin k hk
    exact ⟨b, z1, mv k b z2⟩
theorem set_loop {B : Addr → List Key → Prop} (W : WalksS P w A.in1 I fp wr G n Pz St) (S : Addr) (hS : S ∉ fp) (hu : A.in1.units < cLine) (bs : List Addr) (kk : List (List Key)) (hnk : kk.length = n) (hBk : ∀ (j : Nat) b k, bs[j]? = some b → kk[j]? = some k → B b k) (hsz : n < 1400)
    (hval : ∀ i v, Pz i v → ∃ b, v = .ref b ∧ bs[i]? = some b) (hwr : ∀ i s, St i s → ∀ b ∈ wr, ∀ o, s.heap.get? b = some o → ∃ vs, o.data = .fields vs) {R : Result → Shared → Prop} :
    ∀ (m i : Nat) (s : Shared) (D : List (List Key)), n - i = m → i ≤ n → St i s → SetT P w B s.heap S D → D.length ≤ i → (∀ k, k ∈ D ↔ k ∈ kk.take i) → (∀ (j : Nat) (b : Addr) (k : List Key), bs[j]? = some b → kk[j]? = some k → IsTupleKey (mixKind P w) s.heap k b) →
      (∀ s' D, Moved (S :: wr) G s s' → SetT P w B s'.heap S D → (∀ k, k ∈ D ↔ k ∈ kk) → R (.ok (.ret .none)) s') →
      codeAny (model P w) A (.builtin "set.update.loop" ⟨[.ref S, .ref I], []⟩) R s := by
  have hSw : S ∉ wr := fun z => hS (W.sub _ z)
  have more : ∀ b ∈ wr, b ∈ S :: wr := fun b z => List.mem_cons_of_mem _ z
  intro m
  induction m with
  | zero =>
    intro i s D hm hi hst hset _ hD hkeys hR
    obtain rfl : i = n := by omega
    refine codeAny_builtin F.entry_set_update_loop ?_
    rw [Around.under_plainId F.plain_set_update_loop _]
    show wpAny _ A.in1 (pyNext (.ref I) >>= _) _ _ s
    refine wpAny_bind (W.done s _ _ hst fun s' mv => ?_)
    rw [← hnk, List.take_length] at hD
    exact wpAny_pure (hR s' D (mv.mono more) (hset.moved mv.heap hSw (hwr _ s hst)) hD)
  | succ m ih =>
    intro i s D hm hi hst hset hDl hD hkeys hR
    have hlt : i < n := by omega
    refine codeAny_builtin F.entry_set_update_loop ?_
    rw [Around.under_plainId F.plain_set_update_loop _]
    show wpAny _ A.in1 (pyNext (.ref I) >>= _) _ _ s
    refine wpAny_bind (W.item i s _ _ hlt hst fun v s' hP hst' mv => ?_)
    obtain ⟨b, rfl, hb⟩ := hval i v hP
    have hki : kk[i]? = some kk[i] := List.getElem?_eq_getElem (by omega)
    have hset' := hset.moved mv.heap hSw (hwr _ s hst)
    have hkeys' : ∀ (j : Nat) (b : Addr) (k : List Key), bs[j]? = some b → kk[j]? = some k → IsTupleKey (mixKind P w) s'.heap k b := fun j b k e1 e2 => by
      obtain ⟨o', items, q, ho', hc, hd', hi'⟩ := hkeys j b k e1 e2
      refine ⟨o', items, q, mv.heap b o' (fun hbw => ?_) ho', hc, hd', hi'⟩
      obtain ⟨vs, hv⟩ := hwr _ s hst b hbw o' ho'
      rw [hd'] at hv
      cases hv
    show wpAny _ A.in1 (holding [Value.ref b] (setAdd S (.ref b)) >>= _) _ _ s'
    refine wpAny_bind (wpAny_holding ?_)
    unfold setAdd
    refine wpAny_holding (wpAny_bind (wpAny_pyHash_tuple hu (hkeys' i b _ hb hki) ?_))
    refine add_ok (s := { s' with toks := s'.toks + (kk[i].length + 1) }) hu (hkeys' i b _ hb hki) (hBk i b _ hb hki) hset' (by omega) fun h' r D1 sb hset2 hD1l hD1 => ?_
    have htk : ∀ k, k ∈ D1 ↔ k ∈ kk.take (i + 1) := fun k => by
      rw [hD1, hD k, List.take_add_one, hki, List.mem_append]
      simp
    obtain ⟨_, oS, esS, epS, tS, hoS, _, hdS, _⟩ := id hset'
    refine wpAny_pure ⟨plainId_quiet F.plain_set_update_loop _, ih (i + 1) _ _ (by omega) hlt (W.frame _ s' _ _ hst' (Nat.le_add_right _ _) fun c hc o e => ?_) hset2 (by omega) htk (fun j c k e1 e2 => key_stay (hkeys' j c k e1 e2) hoS hdS sb) fun s'' D2 mv2 hS2 => ?_⟩
    · rw [sb.2 c (fun z : c = S => hS (z ▸ hc))]
      exact e
    · refine hR s'' D2 (Moved.trans W.gtrans ((mv.mono more).then_heap (Nat.le_add_right _ _) fun c o hc e => ?_) mv2) hS2
      rw [sb.2 c (fun z : c = S => hc (by rw [z]; exact List.mem_cons_self))]
      exact e
end
end L2
set_option Elab.async false
set_option linter.all false
set_option maxRecDepth 100000
set_option maxHeartbeats 4000000
namespace L2
open PySem PySem.Spec PyProof.Rows
section
variable {P : Program} {w : World} {A : Around} {E : Value → Shared → Prop} {s : Shared}
noncomputable abbrev setO (led : Bool) : Obj := { cls := .type "set", dict := none, data := .set #[] 0 (.fresh 0 0 led) }
noncomputable def SetMade (P : Program) (w : World) (s : Shared) (bs : List Addr) (kk D : List (List Key)) (h' : Heap) : Prop :=
  SetT P w (fun b k => ∃ j : Nat, bs[j]? = some b ∧ kk[j]? = some k) h' s.heap.objs.size D ∧ (∀ k, k ∈ D ↔ k ∈ kk) ∧ ∀ b o, b < s.heap.objs.size → s.heap.get? b = some o → h'.get? b = some o
theorem sub_tup_fz : isSubtype (.type "tuple") (.type "frozenset") = pure false := by
  rw [isSubtype_type]
  kernel_rfl
theorem set_of_tuple {t : Addr} {ys : Array Value} {bs : List Addr} {kk : List (List Key)} {Q : Value → Shared → Prop} (hA : A.handled = none) (hu : A.units + 5 < cLine) (gt : s.heap.IsTuple t ys) (hb : ys.toList = bs.map Value.ref)
    (hn : kk.length = ys.size) (hz : ys.size < 1400) (hkey : ∀ (j : Nat) (b : Addr) (k : List Key), bs[j]? = some b → kk[j]? = some k → IsTupleKey (mixKind P w) s.heap k b)
    (h : ∀ (h' : Heap) (tk : Nat) (D : List (List Key)), SetMade P w s bs kk D h' → Q (.ref s.heap.objs.size) { s with heap := h', toks := tk }) : wpAny (model P w) A (call (.type "set") [.ref t]) Q E s := by
  have x1 := F.called_set.notType
  have x2 := F.called_set.canCreate
  have x3 := F.typeCall_set_1 (.ref t)
  have x4 := F.called_set.made
  have x5 := F.called_set.sub
  obtain ⟨c, tl, x6⟩ := F.called_set.mro
  refine wpAny_call (codeAny_of_tree ?_)
  show wpAny _ _ (callAny (.type "set") _) _ _ _
  refine wpAny_pure ⟨Code.quiet_builtin _ (by decide +kernel), codeAny_builtin F.entry_type_call ?_⟩
  rw [Around.under_plain (weight_type_call_type "set" [.ref t] []) rfl]
  repeat (any_goals (first | assumption | wp_step))
  refine codeAny_mono (code_set_new_1 (.ref t) (E := E) (Q₁ := fun v s1 => ∃ led, v = .ref s.heap.objs.size ∧ s1 = { s with heap := s.heap.push (setO led) }) fun led => ⟨led, rfl, rfl⟩) fun r s1 hr => ?_
  cases r with
  | error e => exact hr
  | ok fl =>
    cases fl with
    | ret v =>
      obtain ⟨led, rfl, rfl⟩ := hr
      have gS : (s.heap.push (setO led)).get? s.heap.objs.size = some (setO led) := Heap.get?_push_size _ rfl
      have hT : Shared.TypeIs { s with heap := s.heap.push (setO led) } (.ref s.heap.objs.size) "set" := ⟨_, gS, rfl⟩
      have x7 := F.called_set.init.lookup
      have x8 := F.called_set.init.bind (.ref s.heap.objs.size)
      repeat (any_goals (first | assumption | wp_step))
      refine codeAny_mono (codeAny_call_builtin (R := wants (fun r s2 => r = .none ∧ ∃ h' tk D, s2 = { s with heap := h', toks := tk } ∧ SetMade P w s bs kk D h') E) F.called_set.init.plain F.entry_set_init (check_set_init_1 hT ?_)) fun r2 s2 hr2 => ?_
      · have g1 : (s.heap.push (setO led)).IsTuple t ys := gt.push _
        have hlt : t < s.heap.objs.size := by
          obtain ⟨o, ho, _⟩ := gt
          exact Heap.lt_size ho
        obtain ⟨ol, hol, hcl, nl, hdl⟩ := id g1
        obtain ⟨c0, d0, dt, sl⟩ := ol
        simp only at hcl hdl
        subst hcl hdl
        have y1 := F.sub_tuple_set
        have y2 := sub_tup_fz
        have y3 : (Value.type "tuple" == Value.type "dict") = false := by decide
        unfold Builtin.«set.__init__» noKeywords Builtin.Frozenset.updateFrom
        generalize hit : pyIter = PI
        wp_walk
        subst hit
        refine wpAny_pyIter_tuple g1 ?_
        refine wpAny_bind (wpAny_runValue ?_)
        have e1 : (s.heap.push (setO led)).objs.size = s.heap.objs.size + 1 := Heap.size_push _ _
        have hA3 : A.in1.in1.in1.handled = none := by simp [hA]
        have hne : t ≠ (s.heap.push (setO led)).objs.size := by
          rw [e1]
          exact Nat.ne_of_lt (Nat.lt_succ_of_lt hlt)
        have hSf : s.heap.objs.size ∉ [(s.heap.push (setO led)).objs.size, t] := by
          intro z
          rcases List.mem_cons.mp z with z | z
          · rw [e1] at z
            exact Nat.ne_of_lt (Nat.lt_succ_self _) z
          · exact Nat.ne_of_gt hlt (List.mem_singleton.mp z)
        have hbs : ∀ i : Nat, ys[i]? = (bs[i]?).map Value.ref := fun i => by
          rw [← Array.getElem?_toList, hb, List.getElem?_map]
        refine set_loop (B := fun b k => ∃ j : Nat, bs[j]? = some b ∧ kk[j]? = some k) ((Walks.tuple hA3 _ t hne ys).toS) s.heap.objs.size hSf (by simp only [Around.in1_units]; omega) bs kk hn (fun j b k q1 q2 => ⟨j, q1, q2⟩) hz (fun i v hv => ?_) (fun i s' hs b hb' o ho => ?_) (ys.size - 0) 0 _ [] (by omega) (Nat.zero_le _) ⟨⟨_, Heap.get?_push_size _ rfl, rfl, rfl⟩, g1.push _⟩ ⟨List.nodup_nil, setO led, #[], 0, _, Heap.get?_push_of_some _ gS, ⟨rfl, rfl, rfl⟩, rfl, rfl, .inl rfl, (show 0 * 5 < 7 * 3 by decide), rfl, (by rw [Array.map_empty]; exact Tb.TOk.nil 7), fun e he => (by simp at he), fun k hk => (by cases hk), fun _ => .inl rfl⟩ (Nat.le_refl _) (fun k => by simp) (fun j b k e1 e2 => ?_) fun s' D mv hS' hD => ?_
        · have hv' : ys[i]? = some v := hv
          rw [hbs i] at hv'
          obtain ⟨b, e, rfl⟩ := Option.map_eq_some_iff.mp hv'
          exact ⟨b, rfl, e⟩
        · cases List.mem_singleton.mp hb'
          obtain ⟨o', ho', _, hd'⟩ := hs.1
          rw [ho'] at ho
          cases ho
          exact ⟨_, hd'⟩
        · obtain ⟨o, items, q, ho, r⟩ := hkey j b k e1 e2
          exact ⟨o, items, q, Heap.get?_push_of_some _ (Heap.get?_push_of_some _ ho), r⟩
        · obtain ⟨h', g', d', tk', os'⟩ := s'
          have q1 : g' = s.gens := mv.gens
          have q2 : d' = s.drawn := mv.drawn
          have q3 : os' = s.os := mv.os
          subst q1 q2 q3
          show wpAny _ _ _ _ _ _
          refine wpAny_pure ?_
          show wpAny _ _ (ret Value.none) _ _ _
          refine wpAny_pure ⟨rfl, h', tk', D, rfl, hS', hD, fun b o hb e => mv.heap b o (fun z => ?_) (Heap.get?_push_of_some _ (Heap.get?_push_of_some _ e))⟩
          rcases List.mem_cons.mp z with z | z
          · exact Nat.ne_of_lt hb z
          · have z := List.mem_singleton.mp z
            rw [e1] at z
            exact Nat.ne_of_lt (Nat.lt_succ_of_lt hb) z
      · cases r2 with
        | error e => exact hr2
        | ok f2 =>
          cases f2 with
          | ret r =>
            obtain ⟨rfl, h', tk, D, rfl, hS'⟩ := hr2
            repeat (any_goals (first | assumption | wp_step))
            exact h _ _ D hS'
          | _ => exact hr2.elim
    | _ => exact hr.elim
theorem set_of_list {t : Addr} {ys : Array Value} {bs : List Addr} {kk : List (List Key)} {Q : Value → Shared → Prop} (hA : A.handled = none) (hu : A.units + 5 < cLine) (gt : s.heap.IsList t ys) (hb : ys.toList = bs.map Value.ref)
    (hn : kk.length = ys.size) (hz : ys.size < 1400) (hkey : ∀ (j : Nat) (b : Addr) (k : List Key), bs[j]? = some b → kk[j]? = some k → IsTupleKey (mixKind P w) s.heap k b)
    (h : ∀ (h' : Heap) (tk : Nat) (D : List (List Key)), SetMade P w s bs kk D h' → Q (.ref s.heap.objs.size) { s with heap := h', toks := tk }) : wpAny (model P w) A (call (.type "set") [.ref t]) Q E s := by
  have x1 := F.called_set.notType
  have x2 := F.called_set.canCreate
  have x3 := F.typeCall_set_1 (.ref t)
  have x4 := F.called_set.made
  have x5 := F.called_set.sub
  obtain ⟨c, tl, x6⟩ := F.called_set.mro
  refine wpAny_call (codeAny_of_tree ?_)
  show wpAny _ _ (callAny (.type "set") _) _ _ _
  refine wpAny_pure ⟨Code.quiet_builtin _ (by decide +kernel), codeAny_builtin F.entry_type_call ?_⟩
  rw [Around.under_plain (weight_type_call_type "set" [.ref t] []) rfl]
  repeat (any_goals (first | assumption | wp_step))
  refine codeAny_mono (code_set_new_1 (.ref t) (E := E) (Q₁ := fun v s1 => ∃ led, v = .ref s.heap.objs.size ∧ s1 = { s with heap := s.heap.push (setO led) }) fun led => ⟨led, rfl, rfl⟩) fun r s1 hr => ?_
  cases r with
  | error e => exact hr
  | ok fl =>
    cases fl with
    | ret v =>
      obtain ⟨led, rfl, rfl⟩ := hr
      have gS : (s.heap.push (setO led)).get? s.heap.objs.size = some (setO led) := Heap.get?_push_size _ rfl
      have hT : Shared.TypeIs { s with heap := s.heap.push (setO led) } (.ref s.heap.objs.size) "set" := ⟨_, gS, rfl⟩
      have x7 := F.called_set.init.lookup
      have x8 := F.called_set.init.bind (.ref s.heap.objs.size)
      repeat (any_goals (first | assumption | wp_step))
      refine codeAny_mono (codeAny_call_builtin (R := wants (fun r s2 => r = .none ∧ ∃ h' tk D, s2 = { s with heap := h', toks := tk } ∧ SetMade P w s bs kk D h') E) F.called_set.init.plain F.entry_set_init (check_set_init_1 hT ?_)) fun r2 s2 hr2 => ?_
      · have g1 : (s.heap.push (setO led)).IsList t ys := gt.push _
        have hlt : t < s.heap.objs.size := by
          obtain ⟨o, ho, _⟩ := gt
          exact Heap.lt_size ho
        obtain ⟨ol, hol, hcl, nl, hdl⟩ := id g1
        obtain ⟨c0, d0, dt, sl⟩ := ol
        simp only at hcl hdl
        subst hcl hdl
        have y1 := F.sub_list_set
        have y2 := F.sub_list_frozenset
        have y3 : (Value.type "list" == Value.type "dict") = false := by decide
        unfold Builtin.«set.__init__» noKeywords Builtin.Frozenset.updateFrom
        generalize hit : pyIter = PI
        wp_walk
        subst hit
        refine wpAny_pyIter_list g1 ?_
        refine wpAny_bind (wpAny_runValue ?_)
        have e1 : (s.heap.push (setO led)).objs.size = s.heap.objs.size + 1 := Heap.size_push _ _
        have hA3 : A.in1.in1.in1.handled = none := by simp [hA]
        have hne : t ≠ (s.heap.push (setO led)).objs.size := by
          rw [e1]
          exact Nat.ne_of_lt (Nat.lt_succ_of_lt hlt)
        have hSf : s.heap.objs.size ∉ [(s.heap.push (setO led)).objs.size, t] := by
          intro z
          rcases List.mem_cons.mp z with z | z
          · rw [e1] at z
            exact Nat.ne_of_lt (Nat.lt_succ_self _) z
          · exact Nat.ne_of_gt hlt (List.mem_singleton.mp z)
        have hbs : ∀ i : Nat, ys[i]? = (bs[i]?).map Value.ref := fun i => by
          rw [← Array.getElem?_toList, hb, List.getElem?_map]
        refine set_loop (B := fun b k => ∃ j : Nat, bs[j]? = some b ∧ kk[j]? = some k) ((Walks.list hA3 _ t hne ys).toS) s.heap.objs.size hSf (by simp only [Around.in1_units]; omega) bs kk hn (fun j b k q1 q2 => ⟨j, q1, q2⟩) hz (fun i v hv => ?_) (fun i s' hs b hb' o ho => ?_) (ys.size - 0) 0 _ [] (by omega) (Nat.zero_le _) ⟨⟨_, Heap.get?_push_size _ rfl, rfl, rfl⟩, g1.push _⟩ ⟨List.nodup_nil, setO led, #[], 0, _, Heap.get?_push_of_some _ gS, ⟨rfl, rfl, rfl⟩, rfl, rfl, .inl rfl, (show 0 * 5 < 7 * 3 by decide), rfl, (by rw [Array.map_empty]; exact Tb.TOk.nil 7), fun e he => (by simp at he), fun k hk => (by cases hk), fun _ => .inl rfl⟩ (Nat.le_refl _) (fun k => by simp) (fun j b k e1 e2 => ?_) fun s' D mv hS' hD => ?_
        · have hv' : ys[i]? = some v := hv
          rw [hbs i] at hv'
          obtain ⟨b, e, rfl⟩ := Option.map_eq_some_iff.mp hv'
          exact ⟨b, rfl, e⟩
        · cases List.mem_singleton.mp hb'
          obtain ⟨o', ho', _, hd'⟩ := hs.1
          rw [ho'] at ho
          cases ho
          exact ⟨_, hd'⟩
        · obtain ⟨o, items, q, ho, r⟩ := hkey j b k e1 e2
          exact ⟨o, items, q, Heap.get?_push_of_some _ (Heap.get?_push_of_some _ ho), r⟩
        · obtain ⟨h', g', d', tk', os'⟩ := s'
          have q1 : g' = s.gens := mv.gens
          have q2 : d' = s.drawn := mv.drawn
          have q3 : os' = s.os := mv.os
          subst q1 q2 q3
          show wpAny _ _ _ _ _ _
          refine wpAny_pure ?_
          show wpAny _ _ (ret Value.none) _ _ _
          refine wpAny_pure ⟨rfl, h', tk', D, rfl, hS', hD, fun b o hb e => mv.heap b o (fun z => ?_) (Heap.get?_push_of_some _ (Heap.get?_push_of_some _ e))⟩
          rcases List.mem_cons.mp z with z | z
          · exact Nat.ne_of_lt hb z
          · have z := List.mem_singleton.mp z
            rw [e1] at z
            exact Nat.ne_of_lt (Nat.lt_succ_of_lt hb) z
      · cases r2 with
        | error e => exact hr2
        | ok f2 =>
          cases f2 with
          | ret r =>
            obtain ⟨rfl, h', tk, D, rfl, hS'⟩ := hr2
            repeat (any_goals (first | assumption | wp_step))
            exact h _ _ D hS'
          | _ => exact hr2.elim
    | _ => exact hr.elim
end
end L2
set_option Elab.async false
set_option linter.all false
set_option maxRecDepth 100000
set_option maxHeartbeats 4000000
namespace L2
open PySem PySem.Spec PyProof.Rows
namespace SF
end SF
section
variable {P : Program} {w : World} {A : Around} {E : Value → Shared → Prop} {s : Shared}
end
end L2
set_option Elab.async false
set_option linter.all false
set_option maxRecDepth 100000
set_option maxHeartbeats 4000000
namespace L2
open PySem PySem.Spec PyProof.Rows
section
variable {P : Program} {w : World} {A : Around} {E : Value → Shared → Prop} {s : Shared}
end
end L2
set_option Elab.async false
set_option linter.all false
set_option maxRecDepth 100000
set_option maxHeartbeats 4000000
namespace PyProof.Rows
open PySem
section
variable {prog : Program} {w : World} {A : Around} {E : Value → Shared → Prop} {s : Shared} {κ : SortKind} {X : Keyed → Prop}
open Classical in
end
end PyProof.Rows
set_option Elab.async false
set_option linter.all false
set_option maxRecDepth 100000
set_option maxHeartbeats 4000000
namespace L2
open PySem PySem.Spec PyProof.Rows
section
variable {P : Program} {w : World} {A : Around} {E : Value → Shared → Prop} {s : Shared}
end
end L2
set_option Elab.async false
set_option linter.all false
set_option maxRecDepth 100000
set_option maxHeartbeats 4000000
namespace L2
open PySem PySem.Spec PyProof.Rows
section
variable {P : Program} {w : World} {A : Around} {E : Value → Shared → Prop} {s : Shared}
open Classical in
theorem perm_by {α : Type} {D ds : List α} (hd : D.Nodup) (hs : ∀ k ∈ D, k ∈ ds) (hl : ds.length = D.length) : ds.Perm D := by
  induction D generalizing ds with
  | nil =>
    rw [List.length_nil, List.length_eq_zero_iff] at hl
    subst hl
    exact .refl _
  | cons d D ih =>
    have hm := hs d List.mem_cons_self
    have p1 := List.perm_cons_erase hm
    have hd' := List.nodup_cons.mp hd
    refine p1.trans ((ih hd'.2 (fun k hk => ?_) ?_).cons d)
    · refine (List.mem_erase_of_ne ?_).mpr (hs k (List.mem_cons_of_mem _ hk))
      rintro rfl
      exact hd'.1 hk
    · rw [List.length_erase_of_mem hm, hl]
      rfl
theorem key_inj {h : Heap} {b : Addr} {k1 k2 : List Key} (h1 : IsTupleKey (mixKind P w) h k1 b) (h2 : IsTupleKey (mixKind P w) h k2 b) : k1 = k2 := by
  obtain ⟨o1, i1, n1, z1, _, z2, z3⟩ := h1
  obtain ⟨o2, i2, n2, y1, _, y2, y3⟩ := h2
  rw [z1] at y1
  cases y1
  rw [z2] at y2
  cases y2
  exact z3.inj y3
end
end L2
set_option Elab.async false
set_option linter.all false
set_option maxRecDepth 100000
set_option maxHeartbeats 4000000
namespace L2
open PySem PySem.Spec PyProof.Rows
noncomputable abbrev enS (P : Program) (w : World) (x : Addr × List Key) : Int × Value := (tupleKeyHash (mixKind P w) x.2, .ref x.1)
noncomputable def SetO (P : Program) (w : World) (h : Heap) (a : Addr) (L : List (Addr × List Key)) : Prop := ∃ o es ep t, h.get? a = some o ∧ o.ExactSet ∧ o.data = .set es ep t ∧ t.dummies = #[] ∧ Tb.Mask t.mask ∧ es.size * 5 < t.mask * 3 ∧ Tb.TOk t.mask t.place (es.map (·.1)) ∧ es.toList = L.map (enS P w) ∧ ((∀ x ∈ L, ∃ z, Sum.inr z ∈ x.2) → L = [] ∨ t.plain = false)
noncomputable def setK (P : Program) (w : World) (a : Addr) (L : List (Addr × List Key)) : HO := .ext fun h => SetO P w h a L
section
variable {P : Program} {w : World}
theorem part_zip {h : Heap} {B : Addr → List Key → Prop} {D : List (List Key)} : ∀ {es : List (Int × Value)}, (∀ e ∈ es, ∃ b k, e = (tupleKeyHash (mixKind P w) k, Value.ref b) ∧ k ∈ D ∧ IsTupleKey (mixKind P w) h k b ∧ B b k) → ∃ L : List (Addr × List Key), es = L.map (enS P w) ∧ ∀ x ∈ L, x.2 ∈ D ∧ IsTupleKey (mixKind P w) h x.2 x.1 ∧ B x.1 x.2
  | [], _ => ⟨[], rfl, fun x hx => by cases hx⟩
  | e :: es, hall => by
    obtain ⟨L, h1, h2⟩ := part_zip (es := es) fun x hx => hall x (List.mem_cons_of_mem _ hx)
    obtain ⟨b, k, rfl, hk, hkb, hBb⟩ := hall e List.mem_cons_self
    refine ⟨(b, k) :: L, by rw [h1]; rfl, fun x hx => ?_⟩
    rcases List.mem_cons.mp hx with rfl | hx
    · exact ⟨hk, hkb, hBb⟩
    · exact h2 x hx
theorem SetT.obj {B : Addr → List Key → Prop} {h : Heap} {a : Addr} {D : List (List Key)} (hS : SetT P w B h a D) : ∃ L, SetO P w h a L ∧ (L.map (·.2)).Perm D ∧ ∀ x ∈ L, B x.1 x.2 := by
  obtain ⟨hnd, o, es, ep, t, ho, hex, hd, hdm, hm, hfull, hlen, hT, hall, hin, hpl⟩ := hS
  obtain ⟨L, h1, h2⟩ := part_zip hall
  have hl : L.length = D.length := by
    rw [← hlen, ← Array.length_toList, h1, List.length_map]
  refine ⟨L, ⟨o, es, ep, t, ho, hex, hd, hdm, hm, hfull, hT, h1, fun hx => ?_⟩, perm_by hnd (fun k hk => ?_) (by rw [List.length_map, hl]), fun x hx => (h2 x hx).2.2⟩
  · have hx' : ∀ k ∈ D, ∃ z, Sum.inr z ∈ k := fun k hk => by
      obtain ⟨b, hb, hkb⟩ := hin k hk
      rw [h1] at hb
      obtain ⟨x, hx', e⟩ := List.mem_map.mp hb
      have e2 : Value.ref x.1 = Value.ref b := congrArg Prod.snd e
      cases e2
      rw [key_inj hkb (h2 x hx').2.1]
      exact hx x hx'
    rcases hpl hx' with e | e
    · subst e
      rw [List.length_nil, List.length_eq_zero_iff] at hl
      exact .inl hl
    · exact .inr e
  · obtain ⟨b, hb, hkb⟩ := hin k hk
    rw [h1] at hb
    obtain ⟨x, hx', e⟩ := List.mem_map.mp hb
    have e2 : Value.ref x.1 = Value.ref b := congrArg Prod.snd e
    cases e2
    rw [key_inj hkb (h2 x hx').2.1]
    exact List.mem_map.mpr ⟨x, hx', rfl⟩
theorem setK_ok {H : Hp} {h : Heap} {a : Addr} {L : List (Addr × List Key)} (S : SetO P w h a L) : ObjOk P w H h a (setK P w a L) := by
  refine ⟨S, ?_, fun h1 h2 z k => ?_⟩
  · obtain ⟨o, es, ep, t, ho, _⟩ := S
    exact ⟨o, ho⟩
  · obtain ⟨o', es', ep', t', ho', r⟩ := z
    exact ⟨o', es', ep', t', k _ ho', r⟩
end
section
variable {X : Cx} {pins : List (Addr × Obj)} {σ : St} {H : Hp} {s : Shared}
theorem vals_refK : ∀ {bs : List Addr} {us : List Value}, Vals (bs.map V.ref) us → us = bs.map Value.ref
  | [], _, .nil => rfl
  | b :: bs, _, .cons r t => by
    rw [List.map_cons, ← vals_refK (bs := bs) t]
    exact congrArg (· :: _) r
theorem tup_key (I : Inv X pins σ H s) {b : Addr} {k : List Key} (e : H b = some (.tup (k.map kV))) : IsTupleKey (mixKind X.prog X.w) s.heap k b := by
  obtain ⟨_, is, rk, o, ho, hc, n, hd⟩ := I.hok b _ e
  exact ⟨o, _, n, ho, hc, hd, items_are rk⟩
noncomputable def KeysAt (H : Hp) (bs : List Addr) (kk : List (List Key)) : Prop := bs.length = kk.length ∧ ∀ (j : Nat) (b : Addr) (k : List Key), bs[j]? = some b → kk[j]? = some k → H b = some (.tup (k.map kV))
theorem KeysAt.ext {H H' : Hp} {bs : List Addr} {kk : List (List Key)} (e : Ext H H') (h : KeysAt H bs kk) : KeysAt H' bs kk := ⟨h.1, fun j b k e1 e2 => e _ _ (h.2 j b k e1 e2)⟩
end
section
variable {X : Cx}
noncomputable def rSetD (P : Program) (w : World) : List V → Hp → VK → Prop := fun xs H Q => ∃ p bs kk, xs = [.ref p] ∧ (H p = some (.tup (bs.map V.ref)) ∨ H p = some (.lst (bs.map V.ref))) ∧ KeysAt H bs kk ∧ kk.length < 1400 ∧
  ∀ l L, H l = none → (L.map Prod.snd).Nodup → (∀ k, k ∈ L.map Prod.snd ↔ k ∈ kk) → (∀ x ∈ L, H x.1 = some (.tup (x.2.map kV))) → Q (.ref l) (upd H l (setK P w l L))
theorem call_setD {k : Nat} (hr : Room k X.A) : CallR X (.type "set") (rSetD X.prog X.w) := by
  intro pins s σ H xs us Q I r h
  obtain ⟨p, bs, kk, rfl, hp, ⟨h2, h3⟩, hz, q⟩ := h
  obtain ⟨u, rfl, rx⟩ := vals1 r
  cases rx
  have hu := hr.units
  have hA := hr.hd
  have keys : ∀ (j : Nat) (b : Addr) (k : List Key), bs[j]? = some b → kk[j]? = some k → IsTupleKey (mixKind X.prog X.w) s.heap k b := fun j b k e1 e2 => tup_key I (h3 j b k e1 e2)
  have fin : ∀ (h' : Heap) (tk : Nat) (D : List (List Key)), SetMade X.prog X.w s bs kk D h' → ∃ v H', Inv X pins σ H' { s with heap := h', toks := tk } ∧ RelV v (.ref s.heap.objs.size) ∧ Q v H' := fun h' tk D hm => by
    obtain ⟨hS, hD, hk⟩ := hm
    obtain ⟨L, hO, hLp, hLB⟩ := hS.obj
    have hfr := I.hok.fresh (Nat.le_refl _)
    refine ⟨.ref s.heap.objs.size, _, I.laid (t' := tk) (fun b o e => hk b o (Heap.lt_size e) e) (Nat.le_refl _) (setK_ok hO), rfl, q _ L hfr (hLp.nodup_iff.mpr hS.1) (fun k => (hLp.mem_iff.trans (hD k))) fun x hx => ?_⟩
    obtain ⟨j, e1, e2⟩ := hLB x hx
    exact h3 j _ _ e1 e2
  rcases hp with hp | hp
  · obtain ⟨_, its, rv, gt⟩ := I.hok p _ hp
    have ei := vals_refK rv
    subst ei
    refine set_of_tuple (kk := kk) (bs := bs) hA (by omega) (show s.heap.IsTuple p _ from gt) rfl (by simp [h2]) (by simp [h2]; exact hz) keys fin
  · obtain ⟨_, its, n, rv, gt⟩ := I.hok p _ hp
    have ei := vals_refK rv
    subst ei
    refine set_of_list (kk := kk) (bs := bs) hA (by omega) (show s.heap.IsList p _ from ⟨_, gt, rfl, n, rfl⟩) rfl (by simp [h2]) (by simp [h2]; exact hz) keys fin
noncomputable def rLenSD (P : Program) (w : World) : List V → Hp → VK → Prop := fun xs H Q => ∃ p L, xs = [.ref p] ∧ H p = some (setK P w p L) ∧ L.length < 1400 ∧ Q (.int L.length) H
theorem call_lenSD : CallR X (.builtin "len") (rLenSD X.prog X.w) := by
  intro pins s σ H xs us Q I r h
  obtain ⟨p, L, rfl, hp, hn, q⟩ := h
  obtain ⟨u, rfl, rx⟩ := vals1 r
  cases rx
  obtain ⟨⟨o, es, ep, t, ho, hex, hd, hdm, hm, hfull, hT, hel, _⟩, _⟩ := I.hok p _ hp
  have hpl : t.place.size = es.size := by rw [hT.len, Array.size_map]
  have hs : es.size = L.length := by rw [← Array.length_toList, hel, List.length_map]
  have hf : t.fits es.size = true := by
    simp only [SetTable.fits, Bool.and_eq_true, beq_iff_eq, decide_eq_true_eq]
    refine ⟨hpl, ?_⟩
    unfold SetTable.fill
    rw [hdm, hpl]
    have : es.size ≤ t.mask := by omega
    simpa using this
  refine call_len_set ho hex hd hf (by omega) ⟨.int L.length, H, I.tok _, ⟨s.toks + 1, by rw [hs]⟩, q⟩
end
end L2
set_option Elab.async false
set_option linter.all false
set_option maxRecDepth 100000
set_option maxHeartbeats 4000000
namespace L2
open PySem PySem.Spec PyProof.Rows
section
variable {X : Cx} {pins : List (Addr × Obj)} {σ : St} {H : Hp} {s : Shared}
theorem Inv.turnedNew {h' : Heap} {L : List Addr} {o : HO} {t' : Nat} (I : Inv X pins σ H s) (k : ∀ b u, b ∉ L → s.heap.get? b = some u → h'.get? b = some u) (f : ∀ b ∈ L, FpOk X pins H b)
    (new : ObjOk X.prog X.w (upd H s.heap.objs.size o) h' s.heap.objs.size o) : Inv X pins σ (upd H s.heap.objs.size o) { s with heap := h', toks := t' } := by
  have hn : H s.heap.objs.size = none := I.hok.fresh (Nat.le_refl _)
  have nin : ∀ b u, H b = some u → b ∉ L := fun b u e z => by
    rw [(f b z).1] at e
    cases e
  have up : ∀ b u, H b = some u → upd H s.heap.objs.size o b = some u := fun b u e => by
    rw [upd_ne (ne_of_none e hn)]
    exact e
  refine I.step (g' := s.gens) (d' := s.drawn) (ch := L) (fun b hb => ?_) (fun b u _ _ hc e _ => k b u hc e) (fun b u _ _ hc e _ => ⟨u.slots, k b u hc e⟩) (fun b u _ e n => ?_) (fun b u hc e => ⟨u, k b u hc e⟩) (fun b xs e => up b _ e) (fun b u v e => up b _ e) (fun b ps e => ⟨#[], by rw [up b _ e]; simp⟩) (fun m hm => ?_) (fun b u e => ?_) I.bare
  · obtain ⟨f0, f1, f2, f3, f4, f5⟩ := f b hb
    exact ⟨f3, f1, f4, f5⟩
  · rw [upd_ne (Nat.ne_of_lt (Heap.lt_size e))]
    exact n
  · obtain ⟨u, es, ep, hu, r⟩ := hm
    exact ⟨u, es, ep, k _ u (fun z => (f _ z).2.1 rfl) hu, r⟩
  · by_cases hb : b = s.heap.objs.size
    · subst hb
      rw [upd_same] at e
      cases e
      exact new
    · rw [upd_ne hb] at e
      refine (I.hok b u e).stay (fun c v hc q => k c v ?_ q) (fun c q => up c _ q) fun c xs q => up c _ q
      rcases hc with z | z
      · rw [z]; exact nin b u e
      · exact nin c _ z
end
theorem draws_tup {P : Program} {w : World} {A : Around} (hA : A.handled = none) (it t : Addr) (ne : t ≠ it) (ys : Array Value) : Draws P w A it [it, t] ys.size (fun i v => ys[i]? = some v) (fun i h => h.IsTupleIter it t i ∧ h.IsTuple t ys) where
  live := fun i h st => by
    obtain ⟨⟨o, ho, _⟩, _⟩ := st
    exact ⟨o, ho⟩
  frame := fun i h h' st k => by
    obtain ⟨⟨o, ho, r⟩, ⟨u, hu, q⟩⟩ := st
    exact ⟨⟨o, k it (by simp) o ho, r⟩, ⟨u, k t (by simp) u hu, q⟩⟩
  item := fun i s Q E hi st hQ => next_tup st.1 st.2 (x := ys[i]) (by simp [hi]) fun h' gi sb => hQ _ h' s.toks (by simp [hi]) ⟨gi, by
    obtain ⟨u, hu, q⟩ := st.2
    exact ⟨u, (sb.2 t ne).trans hu, q⟩⟩ sb
  done := fun s Q E st hE => stop_tup hA st.1 st.2 (by simp) hE
noncomputable abbrev eT1 (h : Heap) (a : Addr) : Heap := h.push { cls := .type "tuple_iterator", data := .fields #[.ref a, .int 0 0] }
noncomputable abbrev eT2 (h : Heap) (a : Addr) : Heap := (eT1 h a).push { cls := .type "enumerate", data := .fields #[.none, .bool false, .ref h.objs.size, rawInt 0, .none, .none] }
open AutoSeq1 (wpAny_loadPart') in
theorem enumT_new (a : Addr) (ys : Array Value) (ob : Obj) : Meets (Builtin.«enumerate.__new__» ⟨[.type "enumerate", .ref a], []⟩) (fun _ R s => s.heap.get? a = some ob ∧ s.heap.IsTuple a ys ∧ R (.ok (.ret (.ref (eT1 s.heap a).objs.size))) { s with heap := eT2 s.heap a }) :=
  .of_wp fun prog w A R s q => by
    obtain ⟨hp, g, d, tk, os⟩ := s
    obtain ⟨ga, gt, q⟩ := q
    have hsub := sub_enumerate
    obtain ⟨o, go, gc, n, gd⟩ := id gt
    obtain ⟨c0, d0, dt, sl⟩ := o
    simp only at gc gd
    subst gc gd
    have gT : Heap.IsTuple (Shared.heap ⟨hp, g, d, tk, os⟩) a ys := gt
    wp_walk using wpAny_loadPart' go
    refine wpAny_stack_any fun st => wpAny_pure ?_
    split
    · rename_i c _ _ _ _ _
      cases (c == Value.type "enumerate") <;> (wp_walk using wpAny_loadPart' go, wpAny_pyIter_tuple gT; exact ⟨_, rfl, q⟩)
    · wp_walk using wpAny_loadPart' go, wpAny_pyIter_tuple gT
      exact ⟨_, rfl, q⟩
theorem call_enumT {prog : Program} {w : World} {A : Around} {E : Value → Shared → Prop} {s : Shared} {a : Addr} {ys : Array Value} {Q : Value → Shared → Prop} (gt : s.heap.IsTuple a ys)
    (q : ∀ h', IsEnum h' (s.heap.objs.size + 1) s.heap.objs.size 0 .none → h'.IsTupleIter s.heap.objs.size a 0 → (∀ c o, s.heap.get? c = some o → h'.get? c = some o) → Q (.ref (s.heap.objs.size + 1)) { s with heap := h' }) :
    wpAny (model prog w) A (call (.type "enumerate") [.ref a]) Q E s := by
  obtain ⟨o, go, r⟩ := id gt
  refine callType_new F.called_enumerate (by decide) (F.typeCall_enumerate_1 _) (F.newCall_enumerate_1 _) (fun ob => F.args_object_init_2 ob _) F.entry_enumerate_new (enumT_new a ys o) ⟨go, gt, ?_⟩
  have n1 : (eT1 s.heap a).objs.size = s.heap.objs.size + 1 := Heap.size_push ..
  have k2 : (eT2 s.heap a).get? (eT1 s.heap a).objs.size = some _ := Heap.get?_push_size _ rfl
  have k1 : (eT2 s.heap a).get? s.heap.objs.size = some _ := Heap.get?_push_of_some _ (Heap.get?_push_size _ rfl)
  show _ ∧ _
  rw [n1] at k2 ⊢
  exact ⟨⟨_, k2, rfl⟩, q _ k2 ⟨_, k1, rfl, rfl⟩ fun c o x => Heap.get?_push_of_some _ (Heap.get?_push_of_some _ x)⟩
noncomputable def Ite (K : PySem.W.Frag) (a : Addr) : It := ⟨(Itt K a).go, fun i H x H' => ∃ p v, x = .ref p ∧ H p = none ∧ H' = upd H p (.tup [.int i, v]) ∧ (Itt K a).yld i H v H, (Itt K a).stop⟩
theorem turn_enum {P : Program} {w : World} {K : PySem.W.Frag} {elts : List Expr} {kk : Nat} {ps : Pos} (a e it : Addr) (ne : e ≠ it) : Turn P w K (.Tuple elts kk ps) (Ite K a) [e, it] e (fun i h => (∃ old, IsEnum h e it i old) ∧ h.IsTupleIter it a i) where
  mem := by simp
  obj := fun i h st b hb => by
    obtain ⟨⟨old, ge⟩, o, go, gc, gd⟩ := st
    rcases List.mem_cons.mp hb with rfl | hb
    · exact ⟨_, ge, fun v z => by cases (show Data.fields _ = Data.cell v from z)⟩
    · cases List.mem_singleton.mp hb
      exact ⟨o, go, fun v z => by rw [gd] at z; cases z⟩
  keep := fun i h h' st k => by
    obtain ⟨⟨old, ge⟩, gi⟩ := st
    exact ⟨⟨old, k e (by simp) _ ge⟩, gi.at fun o z => k it (by simp) o z⟩
  item := by
    intro X hP hw hK hc i pins s σ H E I hf st hg
    subst hP hw hK
    obtain ⟨⟨old, ge⟩, gi⟩ := st
    obtain ⟨xs, x, hq, hx⟩ := hg
    obtain ⟨its, rv, p, hz⟩ := I.tuple hq
    obtain ⟨u, hu, ru⟩ := rv.get hx
    have hi : i < its.toArray.size := by
      have := (List.getElem?_eq_some_iff.mp hu).1
      simpa using this
    have hA : X.A.in1.handled = none := I.ok.hd hc
    have hta : a ≠ it := fun z => by
      obtain ⟨o, ho, hcl, _⟩ := p
      obtain ⟨o', ho', hcl', _⟩ := gi
      rw [z, ho'] at ho
      cases ho
      rw [hcl] at hcl'
      exact absurd (Value.type.inj hcl') (by decide)
    have hea : e ∉ [it, a] := fun z => by
      rcases List.mem_cons.mp z with z | z
      · exact ne z
      · cases List.mem_singleton.mp z
        obtain ⟨o, ho, hcl, _⟩ := p
        rw [ge] at ho
        cases ho
        exact absurd (Value.type.inj hcl) (by decide)
    refine wpAny_pyNext_enum_itemD (draws_tup hA it a hta its.toArray) ge ⟨gi, show s.heap.IsTuple a its.toArray from p⟩ hi ne hea fun y h' tk hy geo gs gT gz gk => ⟨_, rfl, ?_⟩
    have ey : y = u := by
      have : its[i]? = some y := by simpa using hy
      rw [hu] at this
      exact (Option.some.inj this).symm
    subst ey
    have lt : ∀ b ∈ [e, it], b ≠ s.heap.objs.size := fun b hb => by
      rcases List.mem_cons.mp hb with rfl | hb
      · exact Nat.ne_of_lt (Heap.lt_size ge)
      · cases List.mem_singleton.mp hb
        obtain ⟨o, ho, _⟩ := gi
        exact Nat.ne_of_lt (Heap.lt_size ho)
    have I1 : Inv X pins σ (upd H s.heap.objs.size (.tup [.int i, x])) { s with heap := h', toks := tk + 1 } :=
      Inv.turnedNew (L := [e, it]) I (fun b o hb z => gk b o (fun q => hb (by simp [q])) (fun q => hb (by simp [q])) z) hf ⟨by show 2 ≤ sizeLine; decide, [.int i tk, y], .cons ⟨tk, rfl⟩ (.cons ru .nil), ⟨_, gT, rfl, _, rfl⟩⟩
    have fe : FpOk X pins (upd H s.heap.objs.size (.tup [.int i, x])) e := by
      obtain ⟨c0, c1, c2, c3, c4, c5⟩ := hf e (by simp)
      exact ⟨by rw [upd_ne (lt e (by simp))]; exact c0, c1, c2, c3, c4, c5⟩
    refine wpAny_letOwnedTupleGo_enum (s := { s with heap := h', toks := tk + 1 }) geo fun k gk' bk => ?_
    refine ⟨.ref s.heap.objs.size, upd H s.heap.objs.size (.tup [.int i, x]), Inv.same (s := { s with heap := h', toks := tk + 1 }) (k := h') I1 fe bk.extBut, rfl, ⟨_, x, rfl, I.hok.fresh (Nat.le_refl _), rfl, rfl, fun zs hzs => by rw [I.tuple_inj hzs hq]; exact hx⟩, ⟨⟨y, by simpa using gk'⟩, gs.1.at fun o z => bk.extBut it o (Ne.symm ne) z⟩, fun b hb => ?_⟩
    rw [upd_ne (lt b hb)]
    exact (hf b hb).1
  done := by
    intro X hP hw hK hc i pins s σ H E I hf st hg
    subst hP hw hK
    obtain ⟨⟨old, ge⟩, gi⟩ := st
    obtain ⟨xs, hq, hx⟩ := hg
    obtain ⟨its, rv, p, hz⟩ := I.tuple hq
    have hA : X.A.in1.handled = none := I.ok.hd hc
    have gT : s.TypeIs (.ref e) "enumerate" := ⟨_, ge, rfl⟩
    have hl := rv.length
    unfold pyNext
    refine wpAny_bind (wpAny_attempt (wpAny_callSpecial?_slot (name := Str.ofString "__next__") gT F.slot_enumerate_next (wpAny_call_entry F.slot_enumerate_next gT F.entry_enumerate_next ?_ (F.args_enumerate_next_1 _))))
    show wpAny _ _ (field (Value.ref e) 2 >>= _) _ _ _
    refine wpAny_bind (wpAny_field ge rfl (x := Value.ref it) rfl ?_)
    refine wpAny_bind (stop_tup hA gi (show s.heap.IsTuple a its.toArray from p) (by simp; omega) fun h' x he hx' => ?_)
    obtain ⟨o, ho, hc'⟩ := hx'
    refine wpAny_bind (wpAny_isInstance (s := { s with heap := h' }) (T := "StopIteration") (b := true) ⟨o, ho, hc'⟩ isSubtype_stop ?_)
    exact wpAny_pure ⟨rfl, Inv.same (k := s.heap) I (hf it (by simp)) he⟩
  self := fun _ _ _ _ _ st h => by
    obtain ⟨⟨old, ge⟩, _⟩ := st
    exact wpAny_pyIter_enum ge h
section
variable {K : PySem.W.Frag} {σ : St} {H : Hp} {Q : VK}
noncomputable def rEnum (K : PySem.W.Frag) : List V → Hp → (It → Hp → Prop) → Prop := fun vs H R => ∃ a xs, vs = [.ref a] ∧ SqT K H a xs ∧ R (Ite K a) H
noncomputable def iEnum (K : PySem.W.Frag) (ta : TA) : TI := fun σ H R => ta σ H fun vs H1 => rEnum K vs H1 R
theorem pi_enum {X : Cx} {elts : List Expr} {kk : Nat} {ps : Pos} (K : PySem.W.Frag) {a : Expr} {ta : TA} {p pos : Pos} (hg : Gl X "enumerate") (hm : X.mg "enumerate" = none) (ha : PA X [a] ta) (hK : X.K = K := by rfl) (hs : starEach [a] X.env = [(false, eval a X.env)] := by rfl) :
    PI X (.Tuple elts kk ps) (.Call (.Name "enumerate" p) [a] [] pos) (iEnum K ta) := by
  subst hK
  intro pins s σ H R I h
  refine Call_ (ld_blt I hg hm PyProof.Rows.boot_enumerate (PyProof.Rows.callWith_type1 (thn (ha pos pins s σ H _ I h) fun us s1 ⟨vs, H1, I1, r1, q1⟩ => ?_) (by rw [hs]; rfl) rfl))
  obtain ⟨l, xs, e, hq, q⟩ := q1
  subst e
  obtain ⟨u, rfl, rx⟩ := vals1 r1
  cases rx
  obtain ⟨its, _, p1, _⟩ := I1.tuple hq
  refine call_enumT (show s1.heap.IsTuple l its.toArray from p1) fun h' ge gi k => ?_
  refine wpAny_pyIter_enum (s := { s1 with heap := h' }) ge ?_
  refine ⟨s1.heap.objs.size + 1, [s1.heap.objs.size + 1, s1.heap.objs.size], _, _, H1, rfl, I1.kept (t' := s1.toks) k, turn_enum l (s1.heap.objs.size + 1) s1.heap.objs.size (fun z => by have z' : @Eq Nat _ _ := z; omega), ⟨⟨_, ge⟩, gi⟩, fun b hb => ?_, q⟩
  have le : @LE.le Nat _ s1.heap.objs.size b := by
    rcases List.mem_cons.mp hb with rfl | hb
    · exact Nat.le_add_right _ _
    · cases List.mem_singleton.mp hb
      exact Nat.le_refl _
  exact I1.fpOk le (I1.hok.fresh le)
theorem rd_enum {a : TA} {R : It → Hp → Prop} (h : a σ H fun vs H1 => rEnum K vs H1 R) : iEnum K a σ H R := h
theorem rd_enumT {a : Addr} {xs : List V} {R : It → Hp → Prop} (ha : SqT K H a xs) (h : R (Ite K a) H) : rEnum K [.ref a] H R := ⟨a, xs, rfl, ha, h⟩
theorem for_enum {a : Addr} {xs : List V} {g : TG} {tb : TS} {D : Ends} (Pv : Nat → St → Hp → Prop) (h0 : Pv 0 σ H) (hl : ∀ i σ H, i ≤ xs.length → Pv i σ H → SqT K H a xs)
    (hs : ∀ i u σ H p H', xs[i]? = some u → Pv i σ H → Ext H H' → H' p = some (.tup [.int i, u]) → H p = none → g (.ref p) σ H' fun σ2 H2 => tb { D with nx := Pv (i + 1), ct := Pv (i + 1), bk := D.nx } σ2 H2) (hd : ∀ σ H, Pv xs.length σ H → D.nx σ H) :
    ∃ W : Nat → Nat → St → Hp → Prop, (∃ m, W 0 m σ H) ∧ ∀ i m σ H, W i m σ H →
      ((Ite K a).stop i H ∧ D.nx σ H) ∨ ((Ite K a).go i H ∧ ∃ N : St → Hp → Prop, (∀ σ' H', N σ' H' → ∃ m', m' < m ∧ W (i + 1) m' σ' H') ∧ ∀ x H', (Ite K a).yld i H x H' → g x σ H' fun σ2 H2 => tb { D with nx := N, ct := N, bk := D.nx } σ2 H2) := by
  refine ⟨fun i m σ H => m = xs.length - i ∧ i ≤ xs.length ∧ Pv i σ H, ⟨xs.length, by simp, Nat.zero_le _, h0⟩, ?_⟩
  rintro i m σ H ⟨rfl, hi, p⟩
  have qa := hl i σ H hi p
  by_cases hlt : i < xs.length
  · refine .inr ⟨⟨xs, xs[i], qa, by simp [hlt]⟩, Pv (i + 1), fun σ' H' p' => ⟨xs.length - (i + 1), by omega, rfl, hlt, p'⟩, fun x H' y => ?_⟩
    obtain ⟨pp, u, rfl, hn, rfl, yu⟩ := y
    exact hs i u σ H pp _ (yu.2 xs qa) p (ext_upd hn) upd_same hn
  · have e : i = xs.length := by omega
    subst e
    exact .inl ⟨⟨xs, qa, Nat.le_refl _⟩, hd σ H p⟩
end
section
variable {X : Cx}
noncomputable def rInD (neg : Bool) : R2 := fun x y H Q => ∃ n p xs d ds, RepD H n x d ∧ y = .ref p ∧ H p = some (.lst xs) ∧ Paired (RepD H n) xs ds ∧ n ≤ 50 ∧ Q (.bl (if neg then !(ds.any fun e => PyData.eqv e d) else ds.any fun e => PyData.eqv e d)) H
theorem op_inD {k : Nat} (hr : Room k X.A) : OpR X (compareOp .In) (rInD false) := by
  intro pins s σ H x y v u Q I rx ry h
  obtain ⟨n, p, xs, d, ds, h1, rfl, h2, h3, hn, q⟩ := h
  have h4 : RepD H (n + 1) (.ref p) (.list ds) := .inr ⟨p, xs, ds, rfl, .inr ⟨h2, rfl⟩, h3⟩
  obtain ⟨as, ra⟩ := RepD.reads I n h1 rx
  obtain ⟨bs, rb⟩ := RepD.reads I (n + 1) h4 ry
  have l1 := RepD.lay n h1
  have l2 := lay_all (fun {x d} => RepD.lay (H := H) n) h3
  have hu := hr.units
  have hm : min (PyData.depthAll ds) d.depth ≤ 50 := Nat.le_trans (Nat.min_le_right _ _) (Nat.le_trans l1.2 hn)
  exact SeqAt.in_list_reads rb ra l2.1 l1.1 (by omega) ⟨.bl _, H, I, rfl, q⟩
theorem op_notInD {k : Nat} (hr : Room k X.A) : OpR X (compareOp .NotIn) (rInD true) := by
  intro pins s σ H x y v u Q I rx ry h
  obtain ⟨n, p, xs, d, ds, h1, rfl, h2, h3, hn, q⟩ := h
  have h4 : RepD H (n + 1) (.ref p) (.list ds) := .inr ⟨p, xs, ds, rfl, .inr ⟨h2, rfl⟩, h3⟩
  obtain ⟨as, ra⟩ := RepD.reads I n h1 rx
  obtain ⟨bs, rb⟩ := RepD.reads I (n + 1) h4 ry
  have l1 := RepD.lay n h1
  have l2 := lay_all (fun {x d} => RepD.lay (H := H) n) h3
  have hu := hr.units
  have hm : min (PyData.depthAll ds) d.depth ≤ 50 := Nat.le_trans (Nat.min_le_right _ _) (Nat.le_trans l1.2 hn)
  exact SeqAt.notIn_list_reads rb ra l2.1 l1.1 (by omega) ⟨.bl _, H, I, rfl, q⟩
theorem rd_inD {neg : Bool} {n : Nat} {x : V} {p : Addr} {xs : List V} {d : PyData} {ds : List PyData} {H : Hp} {Q : VK} (h1 : RepD H n x d) (h2 : H p = some (.lst xs)) (h3 : Paired (RepD H n) xs ds) (hn : n ≤ 50) (q : Q (.bl (if neg then !(ds.any fun e => PyData.eqv e d) else ds.any fun e => PyData.eqv e d)) H) : rInD neg x (.ref p) H Q :=
  ⟨n, p, xs, d, ds, h1, rfl, h2, h3, hn, q⟩
end
end L2
set_option Elab.async false
set_option linter.all false
set_option maxRecDepth 100000
set_option maxHeartbeats 4000000
namespace L2
open PySem PySem.Spec PyProof.Rows
noncomputable abbrev Row3 := Str × Tok × Value
noncomputable def gdE (w : World) (e : Row3) : DictEntry := ⟨PyData.keyHash w.params e.1, .str e.1 e.2.1, e.2.2⟩
noncomputable def gdO (w : World) (l : List Row3) (ep : Nat) : Obj := { cls := .type "dict", dict := none, data := .dict (l.map (gdE w)).toArray ep, slots := #[] }
structure GDict (w : World) (K : PySem.W.Frag) (a : Addr) (kvs : List (Key × V)) : Prop where
  has : ∃ l ep, K.lookup a = some (gdO w l ep) ∧ KV kvs (l.map fun e => ((Sum.inr e.1 : Key), e.2.2))
  nd : (kvs.map (·.1)).Nodup
  sm : (a == sysModules) = false
theorem gd_pairs {P : Program} {w : World} : ∀ l : List Row3, Pairs (mixKind P w) (l.map (gdE w)) (l.map fun e => ((Sum.inr e.1 : Key), e.2.2))
  | [] => .nil
  | e :: l => .cons (mixKind_str P w e.1 e.2.1) rfl (gd_pairs l)
theorem gd_keys {P : Program} {w : World} (l : List Row3) : KeysOf (mixKind P w) (l.map (gdE w)).toArray := fun e he => by
  have he' : e ∈ l.map (gdE w) := by simpa using he
  obtain ⟨x, _, rfl⟩ := List.mem_map.mp he'
  exact ⟨.inr x.1, mixKind_str P w x.1 x.2.1, rfl⟩
theorem GDict.at {X : Cx} {pins : List (Addr × Obj)} {σ : St} {H : Hp} {s : Shared} {a : Addr} {kvs : List (Key × V)} (D : GDict X.w X.K a kvs) (I : Inv X pins σ H s) : ∃ vs, KV kvs vs ∧ s.heap.DictOf (mixKind X.prog X.w) a vs := by
  obtain ⟨l, ep, hl, r⟩ := D.has
  refine ⟨_, r, gdO X.w l ep, _, ep, I.kIn _ _ hl, ⟨rfl, rfl, rfl⟩, rfl, gd_keys l, gd_pairs l, ?_⟩
  rw [← r.keys]
  exact D.nd
section
variable {X : Cx} {x : Str} {a : Addr} {kvs : List (Key × V)} {i : Expr} {ty : TE} {p pos : Pos}
noncomputable def tGGet (kvs : List (Key × V)) (ty : TE) : TE := fun σ H Q => ty σ H fun y H1 => ∃ k v, y = kV k ∧ valV kvs k = some v ∧ Q v H1
noncomputable def tGIn (neg : Bool) (kvs : List (Key × V)) (ty : TE) : TE := fun σ H Q => ty σ H fun y H1 => ∃ k, y = kV k ∧ Q (.bl (if neg then !(valV kvs k).isSome else (valV kvs k).isSome)) H1
theorem pe_gget (hg : Gl X x) (hm : X.mg x = some (.ref a)) (D : GDict X.w X.K a kvs) (hi : PE X i ty) (hs : NoSl i) (hd : (x == ("__debug__" : Str)) = false := by decide) : PE X (.Subscript (.Name x p) i pos) (tGGet kvs ty) := by
  intro pins s σ H Q I h
  refine subD_of PySem.F.slot_dict_getitem.lookup hs (ld_glob I hg hm (thn (hi pins s σ H _ I h) fun iv s2 ⟨y, H2, I2, ry, k, v, ey, hv, q⟩ => ?_) hd)
  subst ey
  obtain ⟨vs, rel, dd⟩ := D.at I2
  obtain ⟨w', hw, rw'⟩ := RelO.some_of (v := v) (o := valueAt vs k) (by rw [← hv]; exact rel.val k)
  exact ⟨dd.typeIs, wpAny_getItem_of (kV_is ry) dd.mapOf hw ⟨v, H2, I2.tok _, rw', q⟩⟩
theorem pc_gin (hg : Gl X x) (hm : X.mg x = some (.ref a)) (D : GDict X.w X.K a kvs) (hi : PE X i ty) (hd : (x == ("__debug__" : Str)) = false := by decide) : PC X .In i (.Name x p) (tGIn false kvs ty) := by
  intro pins s σ H Q I h
  refine thn (hi pins s σ H _ I h) fun iv s1 ⟨y, H1, I1, ry, k, ey, q⟩ => ld_glob I1 hg hm ?_ hd
  subst ey
  obtain ⟨vs, rel, dd⟩ := D.at I1
  refine wpAny_in_of (kV_is ry) D.sm dd.mapOf ?_
  rw [← (rel.val k).isSome_eq]
  exact ⟨.bl (valV kvs k).isSome, H1, I1.tok _, rfl, q⟩
theorem rd_gget {σ : St} {H : Hp} {Q : VK} (h : ty σ H fun y H1 => ∃ k v, y = kV k ∧ valV kvs k = some v ∧ Q v H1) : tGGet kvs ty σ H Q := h
theorem rd_gin {neg : Bool} {σ : St} {H : Hp} {Q : VK} (h : ty σ H fun y H1 => ∃ k, y = kV k ∧ Q (.bl (if neg then !(valV kvs k).isSome else (valV kvs k).isSome)) H1) : tGIn neg kvs ty σ H Q := h
theorem rd_keyS {R : V → Prop} {z : Str} {v : V} (hv : valV kvs (.inr z) = some v) (h : R v) : ∃ k v, V.str z = kV k ∧ valV kvs k = some v ∧ R v := ⟨.inr z, v, rfl, hv, h⟩
noncomputable def rLeS : R2 := fun x y H Q => ∃ a b, x = .str a ∧ y = .str b ∧ Q (.bl (!decide (b.cps.toList < a.cps.toList))) H
theorem op_leS : OpR X (compareOp .LtE) rLeS := by
  intro pins s σ H x y v u Q I rx ry h
  obtain ⟨a, b, rfl, rfl, q⟩ := h
  obtain ⟨t, rfl⟩ := rx
  obtain ⟨t', rfl⟩ := ry
  exact PySem.P.le_str ⟨.bl _, H, I, rfl, q⟩
theorem rd_leS {a b : Str} {H : Hp} {Q : VK} (h : Q (.bl (!decide (b.cps.toList < a.cps.toList))) H) : rLeS (.str a) (.str b) H Q := ⟨a, b, rfl, rfl, h⟩
theorem fm_congr {α β : Type} {f g : α → Option β} : ∀ {l : List α}, (∀ x ∈ l, f x = g x) → l.filterMap f = l.filterMap g
  | [], _ => rfl
  | x :: l, h => by
    rw [List.filterMap_cons, List.filterMap_cons, h x List.mem_cons_self, fm_congr fun y hy => h y (List.mem_cons_of_mem _ hy)]
theorem pick_back (n : Nat) (xs : List Value) (h : xs.length = n) : (List.range n).filterMap (fun i : Nat => xs[((n : Int) - 1 + (i : Int) * (-1)).toNat]?) = xs.reverse := by
  refine List.ext_getElem? fun i => ?_
  have e : (List.range n).filterMap (fun i : Nat => xs[((n : Int) - 1 + (i : Int) * (-1)).toNat]?) = (List.range n).map (fun i : Nat => xs.reverse.getD i .none) := by
    rw [← List.filterMap_eq_map]
    refine fm_congr fun i hi => ?_
    have hi := List.mem_range.mp hi
    have : ((n : Int) - 1 + (i : Int) * (-1)).toNat = n - 1 - i := by omega
    rw [this, Function.comp_apply, List.getD_eq_getElem?_getD, List.getElem?_reverse (by omega), h, List.getElem?_eq_getElem (show n - 1 - i < xs.length by omega)]
    rfl
  rw [e, List.getElem?_map]
  by_cases hi : i < n
  · rw [List.getElem?_eq_getElem (by simpa using hi), List.getElem?_eq_getElem (by simpa [h] using hi)]
    simp [List.getD_eq_getElem?_getD, h, hi]
  · rw [List.getElem?_eq_none (by simpa using hi), List.getElem?_eq_none (by simpa [h] using hi)]
    rfl
theorem slicePick_back (its : List Value) : slicePick its.toArray none none (some (-1)) = its.reverse.toArray := by
  unfold slicePick
  have e : sliceBounds none none (some (-1)) its.toArray.size = ((its.length : Int) - 1, -1, -1) := by
    unfold sliceBounds
    simp
  rw [e]
  refine congrArg List.toArray ?_
  rw [← pick_back its.length its rfl]
  unfold sliceRange
  simp only
  rw [if_neg (by decide), List.filterMap_map]
  have el : (if (its.length : Int) - 1 > -1 then ((its.length : Int) - 1 - -1 - -1 - 1) / - -1 else 0).toNat = its.length := by
    rw [show (- -1 : Int) = 1 by decide, Int.ediv_one]
    split <;> omega
  rw [el]
  refine fm_congr fun i hi => ?_
  rw [Function.comp_apply, show (its.length : Int) - 1 + -1 * (i : Int) = (its.length : Int) - 1 + (i : Int) * -1 by omega]
  simp
theorem Vals.rev {xs : List V} {us : List Value} (r : Vals xs us) : Vals xs.reverse us.reverse := by
  induction r with
  | nil => exact .nil
  | cons h t ih =>
    rw [List.reverse_cons, List.reverse_cons]
    exact Vals.append ih (.cons h .nil)
noncomputable def rRevL (K : PySem.W.Frag) : V → Hp → VK → Prop := fun x H Q => ∃ a xs, x = .ref a ∧ SqL K H a xs ∧ New H (.lst xs.reverse) Q
noncomputable def tRevL (K : PySem.W.Frag) (te : TE) (ts : TO) : TE := fun σ H Q => te σ H fun x H1 => ts σ H1 fun k H2 => k = some (-1) ∧ rRevL K x H2 Q
theorem pe_revL {e st : Expr} {te : TE} {ts : TO} {p2 : Pos} (K : PySem.W.Frag) (he : PE X e te) (hs : PO X (some st) ts) (hK : X.K = K := by rfl) : PE X (.Subscript e (.Slice none none (some st) p2) pos) (tRevL K te ts) := by
  subst hK
  intro pins s σ H Q I h
  refine Subscript_ (thn (he pins s σ H _ I h) fun v s1 ⟨x, H1, I1, r1, q1⟩ => ?_)
  refine wpAny_Slice ?_
  rw [evalPart_none]
  refine wpAny_pure (wpAny_pure ?_)
  refine thn (hs pins s1 σ H1 _ I1 q1) fun vs s2 ⟨k, H2, I2, pk, q2⟩ => ?_
  obtain ⟨rfl, a, xs, rfl, hx, q⟩ := q2
  cases pk with
  | int i tk =>
  cases r1
  have I3 : Inv X pins σ H2 { s2 with heap := s2.heap.push { cls := .type "slice", data := .fields #[.none, .none, .int (-1) tk] } } := I2.kept (t' := s2.toks) fun b ob q => Heap.get?_push_of_some _ q
  obtain ⟨its, r, ht, hz⟩ := I3.list hx
  have hlen := r.length
  show wpAny (model X.prog X.w) X.A (subscriptTail e (.Slice none none (some st) p2) (.ref a) (.ref s2.heap.objs.size)) (EP X pins σ Q) X.xe { s2 with heap := s2.heap.push { cls := .type "slice", data := .fields #[.none, .none, .int (-1) tk] } }
  refine tail_any (ops := [.ref a, .ref s2.heap.objs.size]) ht.isList.typeIs slot_list_getitem.lookup (wpAny_getItem_list_slice ht.isList (Heap.IsSliceOf.new ..) .none .none (.int (-1) tk) (by decide) ?_ (by rw [List.size_toArray]; omega)) (by with_unfolding_all rfl)
  rw [slicePick_back]
  exact ⟨.ref _, _, I3.laid (t' := s2.toks) (o := .lst xs.reverse) (fun b ob e => Heap.get?_push_of_some _ e) (Nat.le_refl _) ⟨by rw [List.length_reverse]; exact hz, _, 0, r.rev, Heap.get?_push_size _ rfl⟩, rfl, q _ (I3.hok.fresh (Nat.le_refl _))⟩
theorem rd_revL {K : PySem.W.Frag} {te : TE} {ts : TO} {σ : St} {H : Hp} {Q : VK} (h : te σ H fun x H1 => ts σ H1 fun k H2 => k = some (-1) ∧ rRevL K x H2 Q) : tRevL K te ts σ H Q := h
theorem rd_revLL {K : PySem.W.Frag} {H : Hp} {Q : VK} {a : Addr} {xs : List V} (e : SqL K H a xs) (h : New H (.lst xs.reverse) Q) : rRevL K (.ref a) H Q := ⟨a, xs, rfl, e, h⟩
end
end L2
set_option Elab.async false
set_option linter.all false
set_option maxRecDepth 100000
set_option maxHeartbeats 4000000
namespace L2
open PySem PySem.Spec PyProof.Rows
section
variable {prog : Program} {w : World} {A : Around} {E : Value → Shared → Prop} {s : Shared} {r d : Addr}
end
section
variable {X : Cx}
end
end L2
set_option Elab.async false
set_option linter.all false
set_option maxRecDepth 100000
set_option maxHeartbeats 4000000
namespace L2
open PySem PySem.Spec PyProof.Rows
section
variable {X : Cx}
end
end L2
set_option Elab.async false
set_option linter.all false
set_option maxRecDepth 100000
set_option maxHeartbeats 4000000
namespace L2
open PySem PySem.Spec PyProof.Rows
section
variable {X : Cx} {tg : Expr}
end
section
variable {prog : Program} {w : World} {A : Around} {E : Value → Shared → Prop} {s : Shared}
end
section
variable {X : Cx} {tg : Expr}
end
end L2
set_option Elab.async false
set_option linter.all false
set_option maxRecDepth 100000
set_option maxHeartbeats 4000000
namespace L2
open PySem PySem.Spec PyProof.Rows
section
variable {X : Cx}
theorem strs_of : ∀ {zs : List Str} {us : List Value}, Vals (zs.map V.str) us → StrsAre us zs
  | [], _, r => by cases r; exact .nil
  | z :: zs, _, r => by
    cases r with
    | cons h t =>
      obtain ⟨t', rfl⟩ := h
      exact .cons z t' (strs_of t)
end
end L2
set_option Elab.async false
set_option linter.all false
set_option maxRecDepth 100000
set_option maxHeartbeats 4000000
namespace L2
open PySem PySem.Spec PyProof.Rows
section
variable {X : Cx}
end
section
variable {X : Cx}
end
end L2
set_option Elab.async false
set_option linter.all false
set_option maxRecDepth 100000
set_option maxHeartbeats 4000000
namespace L2
open PySem PySem.Spec PyProof.Rows
section
variable {X : Cx}
end
end L2
set_option Elab.async false
set_option linter.all false
set_option maxRecDepth 100000
set_option maxHeartbeats 4000000
namespace L2
open PySem PySem.Spec PyProof.Rows
section
variable {P : Program} {w : World} {K : PySem.W.Frag} {mg : Str → Option Value} {base : Heap}
end
section
variable {X : Cx}
end
end L2
set_option Elab.async false
set_option linter.all false
set_option maxRecDepth 100000
set_option maxHeartbeats 4000000
namespace L2
open PySem PySem.Spec PyProof.Rows
section
variable {P : Program} {w : World} {A : Around} {E : Value → Shared → Prop} {s : Shared}
end
section
variable {P : Program} {w : World} {A : Around} {E : Value → Shared → Prop} {s : Shared}
end
end L2
set_option Elab.async false
set_option linter.all false
set_option maxRecDepth 100000
set_option maxHeartbeats 4000000
namespace L2
open PySem PySem.Spec PyProof.Rows
section
variable {P : Program} {w : World} {A : Around} {E : Value → Shared → Prop} {s : Shared}
end
end L2
set_option Elab.async false
set_option linter.all false
set_option maxRecDepth 100000
set_option maxHeartbeats 4000000
namespace L2
open PySem PySem.Spec PyProof.Rows
section
variable {X : Cx} {pins : List (Addr × Obj)} {σ : St} {H : Hp} {s : Shared}
end
section
variable {X : Cx}
end
end L2
set_option Elab.async false
set_option linter.all false
set_option maxRecDepth 100000
set_option maxHeartbeats 4000000
namespace L2
open PySem PySem.Spec PyProof.Rows
section
variable {P : Program} {w : World} {A : Around} {E : Value → Shared → Prop} {s : Shared}
end
section
variable {X : Cx}
end
end L2
set_option Elab.async false
set_option linter.all false
set_option maxRecDepth 100000
set_option maxHeartbeats 4000000
namespace L2
open PySem PySem.Spec PyProof.Rows
section
variable {X : Cx}
end
end L2
set_option Elab.async false
set_option linter.all false
set_option maxRecDepth 100000
set_option maxHeartbeats 4000000
namespace L2
open PySem PySem.Spec PyProof.Rows
section
variable {X : Cx} {pins : List (Addr × Obj)} {σ : St} {H : Hp} {s : Shared}
end
section
variable {X : Cx}
end
end L2
set_option Elab.async false
set_option linter.all false
set_option maxRecDepth 100000
set_option maxHeartbeats 4000000
namespace L2
open PySem PySem.Spec PyProof.Rows
section
variable {X : Cx}
end
end L2
set_option Elab.async false
set_option linter.all false
set_option maxRecDepth 100000
set_option maxHeartbeats 4000000
namespace L2
open PySem PySem.Spec PyProof.Rows
noncomputable def tFs3 (a b : Str) (te : TE) : TE := fun σ H Q => te σ H fun v H1 => ∃ i : Int, v = .int i ∧ i.natAbs.log2 < 1920 ∧ (Str.empty ++ a ++ (toString i : Str)).length ≤ sizeLine ∧ (Str.empty ++ a ++ (toString i : Str) ++ b).length ≤ sizeLine ∧ ∀ z, Q (.str z) H1
theorem pe_fs3 {X : Cx} {a b : Str} {j j2 : Nat} {e : Expr} {te : TE} {p1 p2 p3 pos : Pos} (he : PE X e te) (hz : (Str.empty ++ a).length ≤ sizeLine := by decide +kernel) : PE X (.JoinedStr [.Constant (.str a) j p1, .FormattedValue e (-1) none p2, .Constant (.str b) j2 p3] pos) (tFs3 a b te) := by
  intro pins s σ H Q I h
  refine JoinedStr_many (joinParts_cons (thn ((pe_str : PE X (.Constant (.str a) j p1) (tC (.str a))) pins s σ H (fun v H1 => v = V.str a ∧ H1 = H) I ⟨rfl, rfl⟩) fun v s1 ⟨x, H1, I1, r1, q1, q2⟩ => ?_))
  subst q1 q2
  obtain ⟨t, rfl⟩ := r1
  refine ⟨hz, joinParts_cons (FormattedValue_plain (thn (he pins s1 σ H1 _ I1 h) fun v s2 ⟨y, H2, I2, r2, i, e2, hl, hz2, hz3, q⟩ => ?_))⟩
  subst e2
  obtain ⟨t2, rfl⟩ := r2
  refine formatField_int_small hl ⟨hz2, joinParts_cons (thn ((pe_str : PE X (.Constant (.str b) j2 p3) (tC (.str b))) pins _ σ H2 (fun v H3 => v = V.str b ∧ H3 = H2) (I2.tok _) ⟨rfl, rfl⟩) fun v s3 ⟨x, H3, I3, r3, q1, q2⟩ => ?_)⟩
  subst q1 q2
  obtain ⟨t3, rfl⟩ := r3
  exact ⟨hz3, joinParts_nil ⟨.str _, H3, I3.tok _, ⟨_, rfl⟩, q _⟩ hz3⟩
theorem rd_fs3 {a b : Str} {te : TE} {σ : St} {H : Hp} {Q : VK} (h : te σ H fun v H1 => ∃ i : Int, v = .int i ∧ i.natAbs.log2 < 1920 ∧ (Str.empty ++ a ++ (toString i : Str)).length ≤ sizeLine ∧ (Str.empty ++ a ++ (toString i : Str) ++ b).length ≤ sizeLine ∧ ∀ z, Q (.str z) H1) : tFs3 a b te σ H Q := h
theorem try_asD {K : PySem.W.Frag} {C : Addr} {i : Nat} {tb : Ends → (St → XK) → St → Hp → Prop} {ts : Addr → Addr → Option Addr → TS} {D : Ends} {σ : St} {H : Hp} (P : Addr → Option Addr → St → Hp → Prop) (h1 : ∀ E : St → XK, (∀ σ1 Dx da H1, P Dx da σ1 H1 → E σ1 (.ref Dx) da H1) → tb D E σ H)
    (h2 : ∀ σ1 Dx da H1, P Dx da σ1 H1 → PySem.W.exmOne K (.ref Dx) (.ref C) = some true ∧ ExcK K Dx ∧ ∀ x, H1 x = none → ts x Dx da ⟨fun σ' H' => D.nx (σ'.set i none) H', D.rt, fun σ' H' => D.bk (σ'.set i none) H', fun σ' H' => D.ct (σ'.set i none) H'⟩ (σ1.set i (some (.ref x))) H1) : tTry K C i tb ts D σ H :=
  h1 _ fun σ1 Dx da H1 p => ⟨Dx, rfl, h2 σ1 Dx da H1 p⟩
end L2
set_option Elab.async false
set_option linter.all false
set_option maxRecDepth 100000
set_option maxHeartbeats 4000000
namespace L2
open PySem PySem.Spec PyProof.Rows
section
variable {X : Cx} {x : Addr} {oe : Obj}
end
end L2
set_option Elab.async false
set_option linter.all false
set_option maxRecDepth 100000
set_option maxHeartbeats 4000000
namespace L2
open PySem PySem.Spec PyProof.Rows
section
variable {prog : Program} {w : World} {A : Around} {E : Value → Shared → Prop} {s : Shared} {dd : Option Addr}
end
section
variable {X : Cx} {x : Addr} {oe : Obj}
end
end L2
namespace L2
open PySem PySem.Spec PyProof.Rows
section
variable {X : Cx}
noncomputable def rJoinX (K : PySem.W.Frag) : V → List V → Hp → VK → Prop := fun x vs H Q => ∃ sep l zs, x = .str sep ∧ vs = [.ref l] ∧ SqL K H l (List.map V.str zs) ∧ (zs.map (·.length)).sum + zs.length * sep.length ≤ 1000000 ∧ Q (.str (Txt.join sep zs)) H
theorem mt_joinX (K : PySem.W.Frag) (hK : X.K = K := by rfl) : MtR X "str.join" (rJoinX K) := by
  subst hK
  intro pins s σ H x vs v us Q I rx rv h
  obtain ⟨sep, l, zs, rfl, rfl, hl, hz, q⟩ := h
  obtain ⟨t, rfl⟩ := rx
  obtain ⟨u, rfl, ru⟩ := vals1 rv
  cases ru
  obtain ⟨its, r, pl, hsz⟩ := I.list hl
  exact PyProof.Rows.join_list pl.isList (by simpa using strs_of r) (Nat.le_trans hz (by decide)) fun t' k => ⟨.str _, H, I.tok _, ⟨_, rfl⟩, q⟩
end
end L2
set_option Elab.async false
set_option linter.all false
set_option maxRecDepth 100000
set_option maxHeartbeats 4000000
namespace L2
open PySem PySem.Spec PyProof.Rows
theorem refuse_tail {h : Heap} {bmB bm : List Value} (T : OwnTail h bmB bm) {self : Value} {what : Str} (hp : refuseLoop self what bmB = pure ()) : refuseLoop self what bm = pure () := by
  induction T with
  | base => exact hp
  | own _ _ _ _ ih => rw [refuseLoop_ref]; exact ih
section
variable {prog : Program} {w : World} {A : Around} {E : Value → Shared → Prop} {K : PySem.W.Frag} {x D : Addr} {ox : Obj} {h : Heap} {g : Array GenState} {dr : Drawn} {t : Nat} {os : OsState}
variable {nm q : Str} {N : Addr} {bs bm bmB : List Value} {sn : List Str} {sub : List Value} {ab : Bool} {col : Option Bool} {dd : Option Addr} {k0 k1 k2 k3 k5 : Option Value} {newId : String} {name : Str} {v : Value}
theorem set_entry {tk : Tok} {Q : Fin → Shared → Prop} (X : K.In h) (I : InstC h x ox D) (hC : h.get? D = some (excClassObj nm q D N bs bm true sn sub ab col dd k0 k1 k2 k3 k5 newId)) (hm : refuseLoop (.ref x) "__setattr__" bm = pure ())
    (fa : PySem.W.findIn K (.ref D) name = some none) (hdn : ox.dict = none) (hnc : ∀ c, ox.data ≠ .cls c)
    (hq : ∀ h' tk', h'.get? x = some { ox with dict := some h.objs.size } → h'.Ns1 h.objs.size (fun y => if y = name then some v else none) → (∀ b o, b ≠ x → h.get? b = some o → h'.get? b = some o) → Q (.done (.ret .none)) ⟨h', g, dr, tk', os⟩) :
    wpAny (model prog w) A (Builtin.«object.__setattr__» ⟨[.ref x, .str name tk, v], []⟩) Q E ⟨h, g, dr, t, os⟩ := by
  obtain ⟨hx, hc⟩ := I
  have L1 := PySem.W.looks_findIn (M := model prog w) X fa
  unfold Builtin.«object.__setattr__»
  repeat (first | rw [refuse_eq] | (rw [refuseLoop_ref, hm]) | (with_reducible refine wpAny_loadPart_at hx ?_; rw [hc]) | with_reducible refine wpAny_mroOf_exc hC ?_ | (with_reducible refine L1.at ?_) | wp_step)
  rw [hdn, if_neg (by simp [typeHasDict])]
  split
  · rename_i hcd
    cases hcd
  split
  · rename_i c hcd
    exact absurd hcd (hnc c)
  · have hx1 : (h.push { cls := .type "dict", data := .dict #[] }).get? x = some ox := Heap.get?_push_of_some _ hx
    have hxs : x ≠ h.objs.size := Nat.ne_of_lt (Heap.lt_size hx)
    refine wpAny_bind (wpAny_alloc' ?_)
    refine wpAny_bind (wpAny_update' hx1 ?_)
    refine wpAny_pure ?_
    have hgd : ((h.push { cls := .type "dict", data := .dict #[] }).update x fun o => { cls := o.cls, dict := some h.objs.size, data := o.data, slots := o.slots }).get? h.objs.size
        = some { cls := .type "dict", data := .dict #[] } :=
      (Heap.get?_update_ne _ _ _ _ hxs.symm).trans (Heap.get?_push_at rfl rfl)
    have hnd : ((h.push { cls := .type "dict", data := .dict #[] }).update x fun o => { cls := o.cls, dict := some h.objs.size, data := o.data, slots := o.slots }).Ns h.objs.size (fun _ => none) :=
      ⟨_, #[], _, hgd, rfl, fun e he => absurd he (by simp), fun _ => rfl⟩
    show wpAny _ _ (Builtin.ObjectAttr.storeInDict h.objs.size (.str name tk) name v) _ _ _
    unfold Builtin.ObjectAttr.storeInDict Builtin.ObjectAttr.newKeyGuard
    refine wpAny_bind (wpAny_pure (wpAny_bind (wpAny_nsSet1 (Heap.Ns1.of_empty hnd) fun h' hn' hs => ?_)))
    obtain ⟨oD, esD, epD, hoD, hdD, hcD⟩ := hn'.count (Within.cons name v Within.nil)
    refine wpAny_bind (wpAny_lookBehind hoD (by rw [hdD]; exact pastItsLine_dict (Nat.le_trans hcD (by rw [List.length_cons, List.length_nil, sizeLine_eq]; omega))) ?_)
    wp_walk
    refine hq h' _ ?_ hn' fun b ob hbx hb => ?_
    · refine (hs.2 x hxs).trans (Heap.get?_update_self _ hx1 ?_)
      have hfr := (Heap.get?_some_iff.mp hx).2
      obtain ⟨oc, od, odt, osl⟩ := ox
      cases odt <;> first | rfl | exact hfr
    · exact (hs.2 b (Nat.ne_of_lt (Heap.lt_size hb))).trans ((Heap.get?_update_ne _ _ _ _ hbx).trans (Heap.get?_push_of_some _ hb))
theorem set_check {nameV : Value} {M : Model} {Q : Unit → Shared → Prop} (X : K.In h) (I : InstC h x ox D) (hs : PySem.W.mroIn K D (.type "object") = some true) (hq : Q () ⟨h, g, dr, t, os⟩) :
    wpAny M A (checkBuiltinCall "object.__setattr__" ⟨[.ref x, nameV, v], []⟩) Q E ⟨h, g, dr, t, os⟩ := by
  have SF := PySem.F.store_object
  have ha := SF.args (.ref x) nameV v
  have LI : PySem.W.Looks M h (isInstance (.ref x) (.type "object")) true := (I.type (M := M)).andThen (PySem.W.looks_mroIn X hs)
  simp only [checkBuiltinCall, SF.kind, SF.split]
  refine wpAny_bind (LI.at ?_)
  repeat (any_goals (first | assumption | wp_step))
theorem set_attr {Q : Unit → Shared → Prop} (X : K.In h) (I : InstC h x ox D) (F : ExcK K D) (hC : h.get? D = some (excClassObj nm q D N bs bm true sn sub ab col dd k0 k1 k2 k3 k5 newId)) (hm : refuseLoop (.ref x) "__setattr__" bm = pure ())
    (fs : PySem.W.findIn K (.ref D) "__setattr__" = some (some (.builtin "object.__setattr__"))) (fa : PySem.W.findIn K (.ref D) name = some none) (hdn : ox.dict = none) (hnc : ∀ c, ox.data ≠ .cls c)
    (hq : ∀ h' tk', h'.get? x = some { ox with dict := some h.objs.size } → h'.Ns1 h.objs.size (fun y => if y = name then some v else none) → (∀ b o, b ≠ x → h.get? b = some o → h'.get? b = some o) → Q () ⟨h', g, dr, tk', os⟩) :
    wpAny (model prog w) A (setAttr (.ref x) name v) Q E ⟨h, g, dr, t, os⟩ := by
  have f3 := PySem.F.store_object.slot.bind (.ref x)
  obtain ⟨hx, hc⟩ := id I
  have L1 := PySem.W.looks_findIn (M := model prog w) X fs
  unfold setAttr callSpecial? specialOf
  repeat (any_goals (first | assumption | (with_reducible refine wpAny_loadPart_at hx ?_; rw [hc]) | (with_reducible refine L1.at ?_) | wp_step))
  refine codeAny_call_builtin PySem.F.store_object.slot.plain PySem.F.store_object.entry (set_check X I F.mo (set_entry X I hC hm fa hdn hnc fun h' tk' a b c => ?_))
  repeat (any_goals (first | assumption | wp_step))
  exact hq h' tk' a b c
end
section
variable {prog : Program} {w : World} {A : Around} {E : Value → Shared → Prop} {h : Heap} {g : Array GenState} {d : Drawn} {t : Nat} {os : OsState}
variable {nm q : Str} {C N : Addr} {bs bm bmB : List Value} {hdct : Bool} {sn : List Str} {sub : List Value} {ab : Bool} {col : Option Bool} {dd : Option Addr} {k0 k1 k2 k3 k5 : Option Value} {B newId initId : String} {K : PySem.W.Frag}
theorem typeCallI (F : ExcBaseFacts B newId initId bmB) (T : OwnTail h bmB bm) {rest : List Value} {fI : Addr} {oI : Obj} {Q : Fin → Shared → Prop} (X : K.In h)
    (hC : h.get? C = some (excClassObj nm q C N bs bm hdct sn sub ab col dd k0 k1 k2 k3 k5 newId)) (hi : PySem.W.findIn K (.ref C) "__init__" = some (some (.ref fI))) (hfI : h.get? fI = some oI) (hfc : oI.cls = .type "function")
    (hq : ∀ h' e, Heap.MadeExcOf h h' e (.ref C) rest → wpAny (model prog w) A (call (.ref fI) (.ref e :: rest)) (fun r s' => r = .none ∧ Q (.done (.ret (.ref e))) s') E ⟨h', g, d, t, os⟩) (hrest : rest.length ≤ sizeLine) :
    wpAny (model prog w) A (Builtin.«type.__call__» ⟨.ref C :: rest, []⟩) Q E ⟨h, g, d, t, os⟩ := by
  repeat (first | with_reducible refine wpAny_loadPart_at hC ?_ | with_reducible refine wpAny_madeBy_exc hC ?_ | wp_step)
  refine codeAny_call_builtin_code (Code.quiet_builtin _ F.quiet) (wpAny_check_new_subU F F.hasB T hC ?_)
  refine codeAny_exc_new_subU F F.hasB F T hC ?_ hrest
  show wpAny _ _ _ _ _ _
  have hC1 := Heap.get?_push_of_some { cls := .ref C, data := .fields #[.ref h.objs.size, .none, .none, .none, .bool false, .none] } (Heap.get?_push_of_some { cls := .type "tuple", data := .seq rest.toArray } hC)
  have hfI1 := Heap.get?_push_of_some { cls := .ref C, data := .fields #[.ref h.objs.size, .none, .none, .none, .bool false, .none] } (Heap.get?_push_of_some { cls := .type "tuple", data := .seq rest.toArray } hfI)
  have hget : ((h.push { cls := .type "tuple", data := .seq rest.toArray }).push { cls := .ref C, data := .fields #[.ref h.objs.size, .none, .none, .none, .bool false, .none] }).get? (h.objs.size + 1) = some { cls := .ref C, data := .fields #[.ref h.objs.size, .none, .none, .none, .bool false, .none] } := by heap_get
  have hcC : (Value.ref C :: bm).contains (.ref C) = true := by simp
  have X1 : K.In ((h.push { cls := .type "tuple", data := .seq rest.toArray }).push { cls := .ref C, data := .fields #[.ref h.objs.size, .none, .none, .none, .bool false, .none] }) := X.keeps fun b o e => Heap.get?_push_of_some _ (Heap.get?_push_of_some _ e)
  have L1 := PySem.W.looks_findIn (M := model prog w) X1 hi
  unfold isInstance
  repeat (first | with_reducible refine wpAny_loadPart_at hget ?_ | (with_reducible refine wpAny_isSubtype_exc hC1 ?_; rw [hcC]) | wp_step)
  show wpAny _ _ (typeLookup (.ref C) _) _ _ _
  refine L1.at ?_
  refine wpAny_holding (wpAny_bind ?_)
  unfold bindSpecial
  refine wpAny_bind (wpAny_typeOf (T := "function") ⟨_, hfI1, hfc⟩ ?_)
  rw [if_pos (by decide)]
  refine wpAny_pure (wpAny_bind (wpAny_mono (hq _ (h.objs.size + 1) ⟨fun b o hb => Heap.get?_push_of_some _ (Heap.get?_push_of_some _ hb), Heap.get?_none_of_le (Nat.le_succ _), h.objs.size, hget, Heap.get?_none_of_le (Nat.le_refl _), ?_⟩) (fun r s' hr => ?_) fun _ _ x => x))
  · exact Heap.get?_push_of_some _ (Heap.get?_push_at rfl rfl)
  · obtain ⟨rfl, hQ⟩ := hr
    wp_walk
    exact hQ
theorem callI (F : ExcBaseFacts B newId initId bmB) (T : OwnTail h bmB bm) {rest : List Value} {fI : Addr} {oI : Obj} {Q : Value → Shared → Prop} (X : K.In h)
    (hC : h.get? C = some (excClassObj nm q C N bs bm hdct sn sub ab col dd k0 k1 k2 k3 k5 newId)) (hi : PySem.W.findIn K (.ref C) "__init__" = some (some (.ref fI))) (hfI : h.get? fI = some oI) (hfc : oI.cls = .type "function")
    (hq : ∀ h' e, Heap.MadeExcOf h h' e (.ref C) rest → wpAny (model prog w) (A.under (.builtin "type.__call__" ⟨.ref C :: rest, []⟩)) (call (.ref fI) (.ref e :: rest)) (fun r s' => r = .none ∧ Q (.ref e) s') E ⟨h', g, d, t, os⟩) (hrest : rest.length ≤ sizeLine) :
    wpAny (model prog w) A (call (.ref C) rest) Q E ⟨h, g, d, t, os⟩ := by
  have f1 := tc_lookup
  have f2 := tc_bind (.ref C)
  have hT : (⟨h, g, d, t, os⟩ : Shared).TypeIs (.ref C) "type" := ⟨_, hC, rfl⟩
  refine wpAny_call (codeAny_of_tree ?_)
  show wpAny _ _ (callAny (.ref C) _) _ _ _
  repeat (any_goals (first | assumption | with_reducible refine wpAny_loadPart_at hC ?_ | wp_step))
  refine ⟨rfl, ?_⟩
  refine codeAny_call_builtin_at (Code.quiet_builtin _ (by decide +kernel)) entry_typeCall (wpAny_check_type_call_sub hC (typeCallI (hrest := hrest) F T X hC hi hfI hfc fun h' e hm => ?_))
  exact hq h' e hm
end
noncomputable def InitB (body : List Stmt) : Prop := ∃ p1 p2 p3 p4, body = [.Assign [.Attribute (.Name "self" p1) "at" p2] (.Name "at" p3) p4]
structure ExcI (K : PySem.W.Frag) (C : Addr) : Prop where
  exk : ExcK K C
  st : PySem.W.findIn K (.ref C) "__setattr__" = some (some (.builtin "object.__setattr__"))
  at_ : PySem.W.findIn K (.ref C) "at" = some none
  obj : ∃ bm N nm q bs sn sub ab col dd k0 k1 k2 k3 k5, K.lookup C = some (excClassObj nm q C N bs bm true sn sub ab col dd k0 k1 k2 k3 k5 "ValueError.__new__") ∧ PySem.W.tailIn K bmV bm = true
  fn : ∃ (fI : Addr) (oc : Value) (od : Option Addr) (name qual : Str) (params : Arguments) (body : List Stmt) (scope : Scope) (dV kV doc pm cdv ct : Value) (an : Option Addr) (osl : Array (Option Value)),
    PySem.W.findIn K (.ref C) "__init__" = some (some (.ref fI)) ∧ K.lookup fI = some ⟨.type "function", od, .func (PySem.W.fnOf name qual params body scope dV kV doc pm an cdv ct), osl⟩ ∧ PySem.W.codeIn K cdv qual = true ∧ InitB body ∧
    FnScope (["self", "at"] : List Str) (["self", "at"] : List Str) scope ∧ scope.names.lookup ("self" : Str) = some .local ∧ scope.names.lookup ("at" : Str) = some .local ∧
    ∀ (s : Shared) (u v : Value), BindsTo s (PySem.W.fnOf name qual params body scope dV kV doc pm an cdv ct) ⟨[u, v], []⟩ [(("self" : Str), u), (("at" : Str), v)]
section
variable {P : Program} {w : World} {A : Around} {E : Value → Shared → Prop} {K : PySem.W.Frag} {s : Shared} {e C : Addr} {oe : Obj} {v : Value}
theorem run_init {Q : Value → Shared → Prop} {fI : Addr} (I : ExcI K C) (hfi : PySem.W.findIn K (.ref C) "__init__" = some (some (.ref fI))) (KX : K.In s.heap) (lim : s.heap.NoLimit) (hdep : A.depth < recursionLimit) (he : s.heap.get? e = some oe) (hec : oe.cls = .ref C) (hdn : oe.dict = none) (hnc : ∀ c, oe.data ≠ .cls c)
    (hq : ∀ h' d tk', s.heap.objs.size ≤ d → h'.get? e = some { oe with dict := some d } → h'.Ns1 d (fun y => if y = ("at" : Str) then some v else none) → (∀ b o, b ≠ e → s.heap.get? b = some o → h'.get? b = some o) → Q .none { s with heap := h', toks := tk' }) :
    wpAny (model P w) A (call (.ref fI) [.ref e, v]) Q E s := by
  obtain ⟨fI', oc, od, name, qual, params, body, scope, dV, kV, doc, pm, cdv, ct, an, osl, hfi', lk, hcd, ⟨p1, p2, p3, p4, rfl⟩, S, v1, v2, hb⟩ := I.fn
  obtain ⟨bm, N, nm, q, bs, sn, sub, ab, col, dd, k0, k1, k2, k3, k5, hC, ht⟩ := I.obj
  rw [hfi] at hfi'
  cases hfi'
  refine wpAny_call (codeAny_mono (R := fun r s' => r = .ok (.ret .none) ∧ Q .none s') ?_ fun r s' hr => ?_)
  rotate_left
  · obtain ⟨rfl, hr⟩ := hr
    exact hr
  refine codeAny_call_function hdep (KX _ _ lk) rfl S.co S.gen rfl (PySem.W.codeRec_of KX hcd) (hb s (.ref e) v _ _ _ _ ?_)
  refine wpAny_newFunctionEnv_cells S.kind (fun y hy => ?_) fun env he' s1 x => ?_
  · simp only [List.mem_cons, List.not_mem_nil, or_false] at hy
    rcases hy with rfl | rfl
    · exact .inl v1
    · exact .inl v2
  subst he'
  refine ⟨lim.keeps x.toInCall.keep, codeAny_func ?_⟩
  obtain ⟨h1, tk, rfl, hk⟩ := x.done
  have ns := x.toInCall.ns
  have KX1 : K.In h1 := KX.keeps hk
  have nd : (["self", "at"] : List Str).Nodup := S.nd
  have m1 := bindL_get (m := fun _ => none) (kindOf := (envOfC qual scope s.heap.objs.size fI cdv).kindOf) (P := (["self", "at"] : List Str)) (vs := [Value.ref e, v]) (i := 0) nd rfl rfl v1
  have m2 := bindL_get (m := fun _ => none) (kindOf := (envOfC qual scope s.heap.objs.size fI cdv).kindOf) (P := (["self", "at"] : List Str)) (vs := [Value.ref e, v]) (i := 1) nd rfl rfl v2
  refine wpAny_execs_cons (plainObj_wpAny_Assign_Attribute (wpAny_Name (wpAny_loadName_local S.kind v2 ns m2 (wpAny_Name (wpAny_loadName_local S.kind v1 ns m1 ?_) (by decide))) (by decide)))
  refine set_attr KX1 ⟨hk _ _ he, hec⟩ I.exk (KX1 _ _ hC) (refuse_tail (PySem.W.tail_of_in KX1 ht) (PySem.F.store_ValueError.passes _)) I.st I.at_ hdn hnc fun h' tk' a b c => ?_
  refine wpAny_execs_nil ⟨rfl, hq h' _ tk' ?_ a b fun b' o hne hb' => c b' o hne (hk b' o hb')⟩
  have := x.toInCall.fresh
  obtain ⟨_, _, _, e1, _⟩ := ns
  have l1 : s.heap.objs.size < h1.objs.size := Heap.lt_size e1
  exact Nat.le_of_lt l1
end
section
variable {M : Model} {A : Around} {E : Value → Shared → Prop} {env : Env} {nm q : Str} {C N : Addr} {bs bm bmB : List Value} {hdct : Bool} {sn : List Str} {sub : List Value} {ab : Bool} {col : Option Bool} {dd : Option Addr} {k0 k1 k2 k3 k5 : Option Value} {newId : String}
theorem raise_made {s : Shared} {x : Sem Value} {Q : Flow → Shared → Prop} (hbase : bm.contains (.type "BaseException") = true) (hh : A.handled = none)
    (h : wpAny M A x (fun v s1 => ∃ e dc t sl, v = .ref e ∧ s1.heap.get? C = some (excClassObj nm q C N bs bm hdct sn sub ab col dd k0 k1 k2 k3 k5 newId) ∧ s1.heap.get? e = some { cls := .ref C, dict := dc, data := .fields #[.ref t, .none, .none, .none, .bool false, .none], slots := sl } ∧ E (.ref e) s1) E s) :
    wpAny M A (raiseStmt env (some x) none) Q E s := by
  have hcB : (Value.ref C :: bm).contains (.type "BaseException") = true := by rw [List.contains_cons, hbase, Bool.or_true]
  unfold raiseStmt
  refine wpAny_bind (wpAny_mono h (fun v s1 h1 => ?_) fun _ _ x => x)
  obtain ⟨e, dc, t, sl, rfl, hC, he, hE⟩ := h1
  obtain ⟨hp, g, d, tk, os⟩ := s1
  repeat (first | with_reducible refine wpAny_loadPart_at he ?_ | with_reducible refine wpAny_loadPart_at hC ?_ | (with_reducible refine wpAny_isSubtype_exc hC ?_; rw [hcB]) | wp_step)
  exact wpAny_raiseNew_none hh hE
end
section
variable {prog : Program} {w : World} {A : Around} {E : Value → Shared → Prop} {s : Shared} {env : Env} {K : PySem.W.Frag} {nm q : Str} {C N : Addr} {bs bm bmB : List Value} {hdct : Bool} {sn : List Str} {sub : List Value} {ab : Bool} {col : Option Bool} {dd : Option Addr} {k0 k1 k2 k3 k5 : Option Value} {B newId initId : String}
theorem raise_init (F : ExcBaseFacts B newId initId bmB) {x : Str} {np cpos pos : Pos} {args : List Expr} {Q : Flow → Shared → Prop} {fI : Addr} {oI : Obj} (hfi : PySem.W.findIn K (.ref C) "__init__" = some (some (.ref fI))) (lkI : K.lookup fI = some oI) (hfc : oI.cls = .type "function")
    (hbase : bm.contains (.type "BaseException") = true) (hh : A.handled = none) (hplain : (backTo cpos (starEach args env)).any (·.1) = false)
    (h : wpAny (model prog w) A (eval (.Name x np) env) (fun f s1 => f = .ref C ∧ wpAny (model prog w) A (evalArgs (.ref C) true (backTo cpos (starEach args env)) [])
      (fun a s2 => a.kw = [] ∧ a.pos.length ≤ sizeLine ∧ s2.heap.get? C = some (excClassObj nm q C N bs bm hdct sn sub ab col dd k0 k1 k2 k3 k5 newId) ∧ K.In s2.heap ∧ OwnTail s2.heap bmB bm ∧
        ∀ h' e, Heap.MadeExcOf s2.heap h' e (.ref C) a.pos → wpAny (model prog w) (A.under (.builtin "type.__call__" ⟨.ref C :: a.pos, []⟩)) (call (.ref fI) (.ref e :: a.pos))
          (fun r s3 => r = .none ∧ s3.heap.get? C = some (excClassObj nm q C N bs bm hdct sn sub ab col dd k0 k1 k2 k3 k5 newId) ∧ (∃ dc t sl, s3.heap.get? e = some { cls := .ref C, dict := dc, data := .fields #[.ref t, .none, .none, .none, .bool false, .none], slots := sl }) ∧ E (.ref e) s3) E { s2 with heap := h' }) E s1) E s) :
    wpAny (model prog w) A (exec (.Raise (some (.Call (.Name x np) args [] cpos)) none pos) env) Q E s := by
  rw [arm_exec_Raise]
  first
    | refine wpAny_bind (wpAny_standAt (raise_made (C := C) (nm := nm) (q := q) (N := N) (bs := bs) (bm := bm) (hdct := hdct) (sn := sn) (sub := sub) (ab := ab) (col := col) (dd := dd) (k0 := k0) (k1 := k1) (k2 := k2) (k3 := k3) (k5 := k5) (newId := newId) hbase hh (wpAny_bind (wpAny_mono (wpAny_Call_ofName (wpAny_mono h (fun f s1 h1 => ?_) fun _ _ x => x)) (fun v s3 h3 => wpAny_bind (wpAny_standAt (wpAny_pure h3))) fun _ _ x => x))))
    | (simp only [evalOpt, Option.map]; refine wpAny_bind (wpAny_standAt (raise_made (C := C) (nm := nm) (q := q) (N := N) (bs := bs) (bm := bm) (hdct := hdct) (sn := sn) (sub := sub) (ab := ab) (col := col) (dd := dd) (k0 := k0) (k1 := k1) (k2 := k2) (k3 := k3) (k5 := k5) (newId := newId) hbase hh (wpAny_bind (wpAny_mono (wpAny_Call_ofName (wpAny_mono h (fun f s1 h1 => ?_) fun _ _ x => x)) (fun v s3 h3 => wpAny_bind (wpAny_standAt (wpAny_pure h3))) fun _ _ x => x)))))
  obtain ⟨rfl, h1⟩ := h1
  unfold callWith
  refine wpAny_bind (wpAny_holding (wpAny_mono h1 (fun a s2 h2 => wpAny_bind (wpAny_standAt ?_)) fun _ _ x => x))
  obtain ⟨apos, akw⟩ := a
  obtain ⟨hkw, hlen, hC, hK, T, h2⟩ := h2
  obtain rfl : akw = [] := hkw
  obtain ⟨hp, g, d, tk, os⟩ := s2
  simp only [hplain]
  refine wpAny_bind (wpAny_keeperOf_exc hC ?_)
  refine wpAny_bind (callI (hrest := hlen) F T hK hC hfi (hK _ _ lkI) hfc fun h' e hm => ?_)
  refine wpAny_mono (h2 h' e hm) (fun r s3 h3 => ?_) fun _ _ x => x
  obtain ⟨hr, hC3, ⟨dc, t, sl, he⟩, hE⟩ := h3
  exact ⟨hr, wpAny_bind (wpAny_holding (wpAny_point (wpAny_pure ⟨e, dc, t, sl, rfl, hC3, he, hE⟩)))⟩
end
noncomputable def tRaiseI (cls : Value) (E : XK) (t : TA) : TS := fun _ σ H => t σ H fun vs H1 => ∃ y, vs = [y] ∧ ∀ d, H1 d = none → E cls (some d) (upd H1 d (.xd [("at", y)]))
section
variable {P : Program} {w : World} {K : PySem.W.Frag} {mg : Str → Option Value} {base : Heap} {N : List Str} {qual : Str} {scope : Scope} {f : Addr} {cd : Value} {A : Around} {outer : List Env} {s₀ : Shared} {H₀ : Hp} {E : XK}
theorem ps_raiseI {k : Nat} {x : Str} {C : Addr} {iid : String} {np cpos pos : Pos} {e : Expr} {t : TA} (hm : mg x = some (.ref C)) (XI : ExcI K C) (FB : ExcBaseFacts "ValueError" "ValueError.__new__" iid bmV) (hr : Room (k + 1) (cxOf (CXE P w) P w K mg base N qual scope f cd A outer s₀ H₀ E).A)
    (ha : PA (cxOf (CXE P w) P w K mg base N qual scope f cd A outer s₀ H₀ E) [e] t) (hg : Gl (cxOf (CXE P w) P w K mg base N qual scope f cd A outer s₀ H₀ E) x := by rfl) (hd : (x == ("__debug__" : Str)) = false := by decide)
    (he : starEach [e] (cxOf (CXE P w) P w K mg base N qual scope f cd A outer s₀ H₀ E).env = (false, eval e (cxOf (CXE P w) P w K mg base N qual scope f cd A outer s₀ H₀ E).env) :: starEach [] (cxOf (CXE P w) P w K mg base N qual scope f cd A outer s₀ H₀ E).env := by rfl)
    (hpl : (backTo cpos (starEach [] (cxOf (CXE P w) P w K mg base N qual scope f cd A outer s₀ H₀ E).env)).any (·.1) = false := by rfl) :
    PS (cxOf (CXE P w) P w K mg base N qual scope f cd A outer s₀ H₀ E) (.Raise (some (.Call (.Name x np) [e] [] cpos)) none pos) (tRaiseI (.ref C) E t) := by
  intro pins s σ H D I h
  obtain ⟨bm, Nn, nm, q, bs, sn, sub, ab, col, dd, k0, k1, k2, k3, k5, hC, ht⟩ := XI.obj
  obtain ⟨fI, oc, od, name, qual', params, body, scope', dV, kV, doc, pm, cdv, ct, an, osl, hfi, lk, _⟩ := XI.fn
  have T0 : OwnTail base bmV bm := PySem.W.tail_of_in I.ok.mod.kin ht
  refine raise_init (newId := "ValueError.__new__") (k5 := k5) (k3 := k3) (k2 := k2) (k1 := k1) (k0 := k0) (dd := dd) (col := col) (ab := ab) (sub := sub) (sn := sn) (hdct := true) (bs := bs) (q := q) (nm := nm) (C := C) (N := Nn) (bm := bm) FB hfi lk rfl (T0.hasType FB.hasBase) (I.ok.hd rfl) (by rw [he]; show (false || (backTo cpos (starEach [] _)).any (·.1)) = false; rw [hpl]; rfl) (ld_glob I hg hm ⟨rfl, ?_⟩ hd)
  rw [he]
  have ha' := ha cpos pins s σ H _ I h
  rw [he] at ha'
  refine Calls.evalArgs_plain (thn ha' fun us s1 ⟨vs, H1, I1, r, y, ey, q⟩ => ?_)
  subst ey
  obtain ⟨u, rfl, ru⟩ := vals1 r
  have lim : s1.heap.NoLimit := I1.env0.mod.nolimit.keeps fun b o e => (I1.env0.bs b o e).1
  refine ⟨rfl, by show 1 ≤ sizeLine; decide, I1.kIn _ _ hC, I1.kIn, PySem.W.tail_of_in I1.kIn ht, fun h' e hx => ?_⟩
  obtain ⟨tt, het, _, _⟩ := hx.there
  have KX : K.In h' := I1.kIn.keeps hx.keeps
  refine run_init (s := { s1 with heap := h' }) XI hfi KX (lim.keeps hx.keeps) (hr.make C [u] []).depth het rfl rfl (fun c z => by cases z) fun h2 d tk' hd2 he2 hn2 keep => ?_
  have e_d : @LT.lt Nat _ e d := Nat.lt_of_lt_of_le (Heap.lt_size het) hd2
  have ne : ∀ b o, s1.heap.get? b = some o → b ≠ e := fun b o hb z => by rw [z, hx.new] at hb; cases hb
  have k2' : ∀ b o, s1.heap.get? b = some o → h2.get? b = some o := fun b o hb => keep b o (ne b o hb) (hx.keeps b o hb)
  refine ⟨rfl, k2' _ _ (I1.kIn _ _ hC), ⟨some d, tt, _, he2⟩, ?_⟩
  have inE : ∀ b, b ≠ e → b ∉ [e] := fun b n z => n (List.mem_singleton.mp z)
  have he_in : ∀ (hh : Heap) b o, (PySem.W.hideAll hh [e]).get? b = some o → b ≠ e := fun hh b o hb z => by
    rw [z, PySem.W.hideAll_none _ (List.mem_singleton.mpr rfl)] at hb
    cases hb
  have nd : H1 d = none := by
    cases hq : H1 d with
    | none => rfl
    | some o =>
      obtain ⟨ob, z⟩ := (I1.hok d o hq).obj
      exact absurd (Heap.lt_size (hx.keeps _ _ z)) (Nat.not_lt.mpr hd2)
  have I1a : Inv (cxOf (CXE P w) P w K mg base N qual scope f cd A outer s₀ H₀ E) pins σ H1 { s1 with heap := PySem.W.hideAll h' [e] } := I1.kept (t' := s1.toks) fun b o hb => PySem.W.hideAll_get _ (hx.keeps b o hb) (inE b (ne b o hb))
  have I2 := I1a.laid (t' := s1.toks) (a := d) (o := .xd [("at", y)]) (h' := PySem.W.hideAll h2 [e]) (fun b o hb => PySem.W.hideAll_get _ (keep b o (he_in _ b o hb) (PySem.W.of_hideAll _ hb)) (inE b (he_in _ b o hb))) (by show (PySem.W.hideAll h' [e]).objs.size ≤ d; rw [PySem.W.hideAll_size]; exact hd2) (by
    obtain ⟨o, es, ep, e1, e2⟩ := hn2
    refine ⟨_, ⟨o, es, ep, PySem.W.hideAll_get _ e1 (inE d (Nat.ne_of_gt e_d)), e2⟩, fun g => ?_⟩
    show RelO (List.lookup g [(("at" : Str), y)]) (if g = ("at" : Str) then some u else none)
    by_cases hg' : g = ("at" : Str)
    · subst hg'
      rw [if_pos rfl]
      exact ru
    · rw [if_neg hg', List.lookup_cons, show (g == ("at" : Str)) = false from by simpa using hg']
      exact trivial)
  exact fly_made (s := { s1 with heap := PySem.W.hideAll h2 [e] }) (h1 := h2) (tk := tk') (da := some d) I2 ⟨fun b o hb => PySem.W.of_hideAll _ hb, PySem.W.hideAll_none _ (List.mem_singleton.mpr rfl), ⟨_, _, tt, he2, rfl, rfl, rfl, rfl, rfl, by simp, fun d' z => by cases z; rfl⟩⟩ (q d nd)
end
theorem rd_raiseI {cls : Value} {E : XK} {t : TA} {D : Ends} {σ : St} {H : Hp} (h : t σ H fun vs H1 => ∃ y, vs = [y] ∧ ∀ d, H1 d = none → E cls (some d) (upd H1 d (.xd [("at", y)]))) : tRaiseI cls E t D σ H := h
end L2
set_option Elab.async false
set_option linter.all false
set_option maxRecDepth 100000
set_option maxHeartbeats 4000000
namespace L2
open PySem PySem.Spec PyProof.Rows
structure CalH (P : Program) (w : World) (K : PySem.W.Frag) (mg : Str → Option Value) (base : Heap) (fn : Str) (k : Nat) (ps : List Str) (x : Addr) (oe : Obj) (sp : Sp) : Prop where
  ex : ∃ (f : Addr) (fd : FuncData), mg fn = some (.ref f) ∧ PySem.W.keepIn K (.ref f) = true ∧ Binds K fd ps [] ∧ (∀ vs H Q E, sp vs H Q E → vs.length = ps.length) ∧
    ∀ (A : Around) (outer : List Env) (s : Shared) (H : Hp) (args : Args) (us : List Value) (vs : List V) (Q : VK), Room k A → Env0 P w K mg base A outer s H → s.heap.get? x = some oe → H x = none → x ∉ frs outer → BindsTo s fd args (ps.zip us) → Vals vs us → sp vs H Q E0 →
      codeAny (model P w) (A.mark (some (.ref x))) (.call (.ref f) args) (CR CX0 outer P w H s Q E0) s
section
variable {P : Program} {w : World} {K : PySem.W.Frag} {mg : Str → Option Value} {base : Heap}
theorem Dfn.okH {fn : Str} {st : Stmt} {N ps : List Str} {k : Nat} {sp : Sp} {x : Addr} {oe : Obj} (D : Dfn K mg fn st ps) (S : FnScope N ps (defScope st)) (hal : ∃ vs, oe.data = .fields vs ∧ vs[2]? = some .none) (len : ∀ vs H Q E, sp vs H Q E → vs.length = ps.length)
    (hbody : ∀ (X : Cx) (hX : ∃ f cdv A outer s H, X = cxOf CX0 P w K mg base N fn (defScope st) f cdv A outer s H E0 ∧ Room k X.A) (H : Hp) (vs : List V) (Q : VK), sp vs H Q E0 →
      ∃ t, PSs (inH X x oe) (defBody st) t ∧ t { nx := fun _ H' => Q .non H', rt := Q } (start N vs) H) : CalH P w K mg base fn (k + 1) ps x oe sp := by
  obtain ⟨f, fd, hm, F, hb⟩ := D.ex
  refine ⟨f, fd, hm, F.kp, hb, len, ?_⟩
  obtain ⟨oc, od, kV, doc, pm, an, cdv, ct, osl, rfl, lk, hcd⟩ := F.ex
  intro A outer s H args us vs Q hr e0 hx1 hx2 hx3 hb r hsp
  have hl := len _ _ _ _ hsp
  have KX : K.In s.heap := e0.mod.kin.keeps fun b o e => (e0.bs b o e).1
  have lim : s.heap.NoLimit := e0.mod.nolimit.keeps fun b o e => (e0.bs b o e).1
  have hkind : ∀ y ∈ ps.zip us, (defScope st).names.lookup y.1 = some .local ∨ ((defScope st).names.lookup y.1 = some .cell ∧ ((cellsFrom (s.heap.objs.size + 1) (defScope st).names []).lookup y.1).isSome = true) := fun ⟨n, v⟩ hy => by
    rcases S.par n (List.of_mem_zip hy).1 with q | q
    · exact .inl q
    · exact .inr ⟨q, PySem.W.cellsFrom_some _ _ _ (.inl q)⟩
  refine codeAny_call_function (A := A.mark (some (.ref x))) hr.depth (KX _ _ lk) rfl S.co S.gen rfl (PySem.W.codeRec_of KX hcd) (hb _ _ _ _ ?_)
  refine wpAny_newFunctionEnv_cells S.kind hkind fun env he s1 z => ?_
  subst he
  refine ⟨lim.keeps z.toInCall.keep, codeAny_func ?_⟩
  obtain ⟨t, ht, hq⟩ := hbody (cxOf CX0 P w K mg base N fn (defScope st) f cdv A outer s H E0) ⟨f, cdv, A, outer, s, H, rfl, hr.deeper _⟩ H vs Q hsp
  have I0 : Inv (cxOf CX0 P w K mg base N fn (defScope st) f cdv A outer s H E0) [] (start N vs) H s1 := inv_start S hr.hd e0 hl r z
  obtain ⟨us', hd, _⟩ := hal
  have I : Inv (inH (cxOf CX0 P w K mg base N fn (defScope st) f cdv A outer s H E0) x oe) [] (start N vs) H s1 := I0.pinH (z.toInCall.keep _ _ hx1) hx2 (Nat.ne_of_lt (Heap.lt_size hx1)) hx3 (fun v z => by rw [hd] at z; cases z)
  refine wpAny_mono (ht [] s1 (start N vs) H _ I hq) (fun fl s' hs => ?_) fun e s' hs => False.elim hs
  have fin : ∀ {σ' : St} {H' : Hp} {v : V} {u : Value}, Inv (inH (cxOf CX0 P w K mg base N fn (defScope st) f cdv A outer s H E0) x oe) [] σ' H' s' → RelV v u → Q v H' → CE outer P w H s Q u s' :=
    fun {σ' H' v u} J rv q => ⟨v, H', J.os, J.bare, J.base, J.hok, rv, q⟩
  cases fl with
  | ret u =>
    obtain ⟨v, σ', H', J, rv, q⟩ := hs
    exact fin J rv q
  | next =>
    obtain ⟨σ', H', J, q⟩ := hs
    exact fin (v := V.non) (u := Value.none) J rfl q
  | brk =>
    obtain ⟨_, _, _, q⟩ := hs
    exact False.elim q
  | cont =>
    obtain ⟨_, _, _, q⟩ := hs
    exact False.elim q
end
section
variable {Y : Cx} {x : Addr} {oe : Obj}
theorem pe_calH {fn : Str} {k j : Nat} {ps : List Str} {sp : Sp} {e : Expr} {es : List Expr} {t : TA} {p pos : Pos} (C : CalH Y.prog Y.w Y.K Y.mg Y.base fn j ps x oe sp) (hr : Room k Y.A) (ha : PA (inH Y x oe) (e :: es) t) (hjk : j ≤ k := by decide) (hg : Gl (inH Y x oe) fn := by rfl) (hdb : (fn == ("__debug__" : Str)) = false := by decide)
    (he : starEach (e :: es) (inH Y x oe).env = (false, eval e (inH Y x oe).env) :: starEach es (inH Y x oe).env := by rfl) (hpl : (backTo pos (starEach es (inH Y x oe).env)).any (·.1) = false := by rfl) :
    PE (inH Y x oe) (.Call (.Name fn p) (e :: es) [] pos) (tCall sp [] E0 t) := by
  obtain ⟨f, fd, hm, hk, hb, len, run⟩ := C.ex
  intro pins s σ H Q I h
  refine wpAny_Call_Name_kw (ld_glob I hg hm ?_ hdb)
  refine PySem.W.callWith_K (h₀ := Y.base) I.ok.mod.kin hk (thn (ha pos pins s σ H _ I h) fun us s1 ⟨vs, H1, I1, r, q⟩ => ⟨I1.kIn, ?_⟩) he hpl
  have q : sp vs H1 Q E0 := by simpa using q
  have hl : us.length = ps.length := by rw [← r.length]; exact len _ _ _ _ q
  have hb' := hb s1 us I1.kIn (by rw [List.append_nil]; exact hl)
  rw [List.append_nil] at hb'
  have hp := I1.pin (x, oe) (List.mem_append_left _ List.mem_cons_self)
  have e1 := I1.env0
  have e0 : Env0 Y.prog Y.w Y.K Y.mg Y.base Y.A Y.stack s1 H1 := ⟨e1.frames, e1.mod, e1.bs, e1.bsz, e1.funs, e1.frf, e1.hok, e1.bare⟩
  have nx : x ∉ frs Y.stack := fun z => by
    rcases List.mem_cons.mp (I1.stkSub x z) with e | e
    · exact hp.2.2.1 e
    · exact hp.2.2.2.1 e
  refine wpAny_call (codeAny_mono (run Y.A Y.stack s1 H1 ⟨us, []⟩ us vs Q (hr.mono hjk) e0 hp.1 hp.2.1 nx hb' r q) fun r s' hq => ?_)
  cases r with
  | error e => exact False.elim hq
  | ok fl =>
    cases fl with
    | ret u => exact I1.after hq
    | next => exact False.elim hq
    | brk => exact False.elim hq
    | cont => exact False.elim hq
end
noncomputable def exkB (K : PySem.W.Frag) (C : Addr) : Bool :=
  (match K.lookup C with | some ⟨_, _, .cls _, _⟩ => true | _ => false) && PySem.W.findIn K (.ref C) "__getattribute__" == some (some (.builtin "BaseException.__getattribute__")) &&
  PySem.W.findIn K (.ref C) "__getattr__" == some none && PySem.W.subIn K (.ref C) (.type "BaseException") == some true && PySem.W.findIn K (.ref C) "__class__" == some (some (.builtin "object.__class__")) &&
  PySem.W.specialIn K (.builtin "object.__class__") "__get__" == some (some (.builtin "getset_descriptor.__get__")) && PySem.W.takesIn K (.builtin "object.__class__") == some true && PySem.W.mroIn K C (.type "object") == some true
theorem exk_of {K : PySem.W.Frag} {C : Addr} (h : exkB K C = true) : ExcK K C := by
  unfold exkB at h
  simp only [Bool.and_eq_true, beq_iff_eq] at h
  obtain ⟨⟨⟨⟨⟨⟨⟨a2, a3⟩, a4⟩, a5⟩, a6⟩, a7⟩, a8⟩, a9⟩ := h
  refine ⟨?_, a3, a4, a5, a6, a7, a8, a9⟩
  cases hl : K.lookup C with
  | none => rw [hl] at a2; cases a2
  | some o =>
    rw [hl] at a2
    obtain ⟨c, d, data, sl⟩ := o
    cases data <;> first | exact ⟨_, _, _, _, rfl⟩ | cases a2
noncomputable def xiB (K : PySem.W.Frag) (C : Addr) : Bool := match K.lookup C with
  | some ⟨.type "type", _, .cls cd, sl⟩ => (match cd.mro, sl.toList with
    | .ref C' :: bm, [_, _, _, _, some (.builtin n), _] => C' == C && n == "ValueError.__new__" && cd.hasDict && !cd.hasDel && PySem.W.tailIn K bmV bm
    | _, _ => false)
  | _ => false
theorem xi_obj {K : PySem.W.Frag} {C : Addr} (q : xiB K C = true) : ∃ bm N nm q bs sn sub ab col dd k0 k1 k2 k3 k5, K.lookup C = some (excClassObj nm q C N bs bm true sn sub ab col dd k0 k1 k2 k3 k5 "ValueError.__new__") ∧ PySem.W.tailIn K bmV bm = true := by
  unfold xiB at q
  cases hl : K.lookup C with
  | none => rw [hl] at q; cases q
  | some o =>
    rw [hl] at q
    obtain ⟨cl, dd, data, sl⟩ := o
    split at q
    · rename_i hh
      cases hh
      split at q
      · rename_i _ cd _ _ C' bm' k0 k1 k2 k3 n k5 hm hs
        simp only [Bool.and_eq_true, beq_iff_eq, Bool.not_eq_true'] at q
        obtain ⟨⟨⟨⟨rfl, rfl⟩, d0⟩, d1⟩, t0⟩ := q
        obtain ⟨nm, bs, mro, ns, qn, hd, sn, sub, ab, col, del⟩ := cd
        try dsimp only at hm d0 d1
        subst hm d0 d1
        obtain ⟨l⟩ := sl
        simp only at hs
        subst hs
        exact ⟨_, _, _, _, _, _, _, _, _, _, _, _, _, _, _, rfl, t0⟩
      · cases q
    · cases q
structure XfI (K : PySem.W.Frag) (mg : Str → Option Value) (all : List Str) (x : Str) : Prop where
  cl : mg x = some (.ref (cA K x))
  ei : ExcI K (cA K x)
  up : PySem.W.exmOne K (.ref (cA K x)) (.ref (cA K "StairError")) = some true
  kv : PySem.W.kitOne K (.ref (cA K x)) (.type "ValueError") = some true
  kc : ∀ y ∈ all, PySem.W.kitOne K (.ref (cA K x)) (.ref (cA K y)) = some (x == y || y == ("StairError" : Str))
noncomputable def xwB (K : PySem.W.Frag) (all : List Str) (x : Str) : Bool :=
  PySem.W.nsIn K mainGlobals x == some (some (.ref (cA K x))) && xiB K (cA K x) && exkB K (cA K x) && PySem.W.findIn K (.ref (cA K x)) "__setattr__" == some (some (.builtin "object.__setattr__")) && PySem.W.findIn K (.ref (cA K x)) "at" == some none &&
  PySem.W.exmOne K (.ref (cA K x)) (.ref (cA K "StairError")) == some true && PySem.W.kitOne K (.ref (cA K x)) (.type "ValueError") == some true && all.all fun y => PySem.W.kitOne K (.ref (cA K x)) (.ref (cA K y)) == some (x == y || y == ("StairError" : Str))
theorem xw_mk {K : PySem.W.Frag} {mg : Str → Option Value} {h : Heap} {all : List Str} {x : Str} {fI : Addr} {od an : Option Addr} {sl : Array (Option Value)} {name qual : Str} {params : Arguments} {body : List Stmt} {scope : Scope} {kV dc pm cd ct : Value} (X : K.In h) (G : h.Ns mainGlobals mg) (hw : xwB K all x = true)
    (aI : PySem.W.findIn K (.ref (cA K x)) "__init__" = some (some (.ref fI))) (lI : K.lookup fI = some ⟨.type "function", od, .func (PySem.W.fnOf name qual params body scope .none kV dc pm an cd ct), sl⟩) (cI : PySem.W.codeIn K cd qual = true)
    (hb : InitB body) (S : FnScope (["self", "at"] : List Str) (["self", "at"] : List Str) scope) (v1 : scope.names.lookup ("self" : Str) = some .local) (v2 : scope.names.lookup ("at" : Str) = some .local)
    (hbind : ∀ (s : Shared) (u v : Value), BindsTo s (PySem.W.fnOf name qual params body scope .none kV dc pm an cd ct) ⟨[u, v], []⟩ [(("self" : Str), u), (("at" : Str), v)]) : XfI K mg all x := by
  unfold xwB at hw
  simp only [Bool.and_eq_true, beq_iff_eq, List.all_eq_true] at hw
  obtain ⟨⟨⟨⟨⟨⟨⟨h1, h2⟩, h3⟩, h4⟩, h5⟩, h6⟩, h7⟩, h8⟩ := hw
  exact ⟨PySem.W.mg_of X G h1, ⟨exk_of h3, h4, h5, xi_obj h2, fI, .none, od, name, qual, params, body, scope, .none, kV, dc, pm, cd, ct, an, sl, aI, lI, cI, hb, S, v1, v2, hbind⟩, h6, h7, h8⟩
end L2
set_option Elab.async false
set_option linter.all false
set_option maxRecDepth 100000
set_option maxHeartbeats 4000000
namespace L2
open PySem PySem.Spec PyProof.Rows
section
variable {prog : Program} {w : World} {A : Around} {E : Value → Shared → Prop} {K : PySem.W.Frag} {x D : Addr} {ox : Obj} {od : Option Obj} {name : Str} {v : Value}
theorem att_entry {h : Heap} {g : Array GenState} {dr : Drawn} {t : Nat} {os : OsState} {tk : Tok} {Q : Fin → Shared → Prop} (X : K.In h) (I : PySem.W.InstAt h x ox D od) (hf : PySem.W.findObj K D od name = some (.value v)) (hq : Q (.done (.ret v)) ⟨h, g, dr, t, os⟩) :
    wpAny (model prog w) A (Builtin.«object.__getattribute__» ⟨[.ref x, .str name tk], []⟩) Q E ⟨h, g, dr, t, os⟩ := by
  have L0 := I.type (M := model prog w)
  have L1 := PySem.W.looks_find (M := model prog w) X I hf
  unfold Builtin.«object.__getattribute__»
  refine wpAny_bind (wpAny_pure (wpAny_bind (wpAny_pure (wpAny_bind (L0.at (wpAny_bind (L1.at ?_)))))))
  exact wpAny_pure hq
theorem att_get {s : Shared} {expr : Bool} {Q : Value → Shared → Prop} (X : K.In s.heap) (I : PySem.W.InstAt s.heap x ox D od) (F : ExcK K D) (hf : PySem.W.findObj K D od name = some (.value v)) (hh : PySem.W.handedIn v = true) (h : Q v { s with toks := s.toks + 1 }) :
    wpAny (model prog w) A (getAttr (.ref x) name expr) Q E s := by
  obtain ⟨hp, g, dr, t, os⟩ := s
  have L0 := I.type (M := model prog w)
  have L1 := PySem.W.looks_findIn (M := model prog w) X F.ga
  have L2 := PySem.W.looks_findIn (M := model prog w) X F.gt
  have hho := PySem.W.handedOut_of hh
  unfold getAttr getAttrBy
  refine wpAny_bind (wpAny_mkText (wpAny_holding (wpAny_bind (L0.at (wpAny_bind (L1.at ?_))))))
  repeat (any_goals (first | assumption | wp_step | lk))
  rw [if_neg (by rw [show onTheHeap (Value.builtin "BaseException.__getattribute__") = false from rfl, Bool.and_false]; exact Bool.false_ne_true)]
  unfold boundAndCalled
  repeat (any_goals (first | assumption | wp_step | lk))
  refine codeAny_call_builtin (PySem.F.excAttr_ValueError).ga.plain PySem.F.entry_bexc_ga (xc_check (s := ⟨hp, g, dr, t + 1, os⟩) X ⟨I.at_, I.cls⟩ F.sb (att_entry (t := t + 1) X I hf ?_))
  repeat (any_goals (first | assumption | wp_step | lk))
end
noncomputable def tAttX (K : PySem.W.Frag) (x D : Addr) (da : Option Addr) (te : TE) : TE := fun σ H Q => te σ H fun v H1 => v = .ref x ∧ PySem.W.findIn K (.ref D) "at" = some none ∧ PySem.W.hasDictIn K D = true ∧ ∃ d fs y, da = some d ∧ H1 d = some (.xd fs) ∧ fs.lookup ("at" : Str) = some y ∧ Q y H1
section
variable {X : Cx} {x D : Addr} {oe : Obj} {da : Option Addr}
theorem pe_attrX (K : PySem.W.Frag) {o : Expr} {te : TE} {pos : Pos} (F : ExcK X.K D) (hc : oe.cls = .ref D) (hal : ∃ vs, oe.data = .fields vs ∧ vs[2]? = some .none) (hdd : ∀ d, da = some d → oe.dict = some d) (he : PE (inH X x oe) o te) (hK : X.K = K := by rfl) (hb : attributeBase o "at" (inH X x oe).env (eval o (inH X x oe).env) = eval o (inH X x oe).env := by rfl) :
    PE (inH X x oe) (.Attribute o "at" pos) (tAttX K x D da te) := by
  subst hK
  intro pins s σ H Q I h
  refine attr_of hb (thn (he pins s σ H _ I h) fun u s1 ⟨v, H1, I1, rx, ev, hfa, hhd, d, fs, y, ed, hd, hy, q⟩ => ?_)
  subst ev
  obtain rfl : u = Value.ref x := rx
  have hp := (I1.pin (x, oe) (List.mem_append_left _ List.mem_cons_self)).1
  obtain ⟨mA, hn, hr⟩ := (show ObjOk X.prog X.w H1 s1.heap d (.xd fs) from I1.hok d _ hd)
  obtain ⟨od, ho, hl⟩ := lookIn_ns hn
  obtain ⟨u', hu, ru⟩ := RelO.some_of (v := y) (o := mA "at") (by rw [← hy]; exact hr "at")
  obtain ⟨vs, hdt, _⟩ := hal
  have J : PySem.W.InstAt s1.heap x oe D (some od) := by
    refine ⟨hp, hc, ?_, ?_⟩
    · obtain ⟨a1, a2, a3, a4⟩ := oe
      simp only at hdt
      subst hdt
      rfl
    · rw [hdd d ed]; exact ho
  exact att_get I1.kIn J F (PySem.W.findObj_own hhd hfa rfl (by rw [hl, hu])) (handed_of ru) ⟨y, H1, I1.tok _, ru, q⟩
end
noncomputable def bAsgC (i : Nat) (sp : Sp) (t : TA) : Ends → (St → XK) → St → Hp → Prop := fun D E σ H => t σ H fun vs H1 => sp vs H1 (fun v H2 => D.nx (σ.set i (some v)) H2) (E σ)
theorem pb_asgC {Y : Cx} {x y : Str} {i k j : Nat} {ps : List Str} {sp : Sp} {e : Expr} {es : List Expr} {t : TA} {p pos pos2 pos3 : Pos} (C : CalX Y.prog Y.w Y.K Y.mg Y.base x j ps sp) (hr : Room k Y.A) (hN : Y.N.Nodup) (hi : Y.N[i]? = some y) (hx : Loc Y.env.scope y) (ha : PA Y.nox (e :: es) t) (hjk : j ≤ k := by decide) (hg : Gl Y x := by rfl) (hdb : (x == ("__debug__" : Str)) = false := by decide)
    (he : starEach (e :: es) Y.env = (false, eval e Y.env) :: starEach es Y.env := by rfl) (hpl : (backTo pos (starEach es Y.env)).any (·.1) = false := by rfl) (hs : swapsWith (.Call (.Name x p) (e :: es) [] pos) (some (.Name y pos3)) pos2.line Y.env = pure false := by rfl)
    (hf : Y.fn y = true ∨ Y.env.scope.names.lookup y = some .local := by first | exact .inl rfl | exact .inr rfl | assumption) :
    PB Y (.Assign [.Name y pos3] (.Call (.Name x p) (e :: es) [] pos) pos2) (bAsgC i sp t) := by
  intro pins s σ H D E I h
  obtain ⟨f, fd, hm, hk, hb, F⟩ := C.ex
  refine wpAny_Assign_Name (wpAny_Call_Name_kw (ld_glob (X := Y.nox) I hg hm ?_ hdb)) hs
  refine PySem.W.callWith_K (h₀ := Y.base) I.ok.mod.kin hk (wpAny_mono (ha pos pins s σ H _ I h) (fun us s1 ⟨vs, H1, I1, r, q⟩ => ⟨I1.kIn, ?_⟩) fun _ _ z => z.elim) he hpl
  have hl : us.length = ps.length := by rw [← r.length]; exact F.len _ _ _ _ q
  have hb' := hb s1 us I1.kIn (by rw [List.append_nil]; exact hl)
  rw [List.append_nil] at hb'
  refine wpAny_call (codeAny_mono (F.run Y.A Y.stack s1 H1 ⟨us, []⟩ us vs _ (E σ) (hr.mono hjk) I1.env0 hb' r q) fun r s' hq => ?_)
  cases r with
  | error e => exact ⟨σ, H1, s1, I1, hq⟩
  | ok fl =>
    cases fl with
    | ret u =>
      obtain ⟨v, H2, I2, r2, q2⟩ := I1.after hq
      exact wpAny_mono (store_ok (X := Y.nox) (Q := fun _ s3 => SP Y.nox pins D .next s3) (E := fun _ _ => False) I2 hN hi hx r2 (fun s3 I3 => ⟨_, H2, I3, q2⟩) hf) (fun _ _ z => z) fun _ _ z => z.elim
    | next => exact False.elim hq
    | brk => exact False.elim hq
    | cont => exact False.elim hq
theorem rd_basgC {i : Nat} {sp : Sp} {a : TA} {D : Ends} {E : St → XK} {σ : St} {H : Hp} (h : a σ H fun vs H1 => sp vs H1 (fun v H2 => D.nx (σ.set i (some v)) H2) (E σ)) : bAsgC i sp a D E σ H := h
theorem rd_attX {K : PySem.W.Frag} {x D : Addr} {da : Option Addr} {te : TE} {σ : St} {H : Hp} {Q : VK} (h : te σ H fun v H1 => v = .ref x ∧ PySem.W.findIn K (.ref D) "at" = some none ∧ PySem.W.hasDictIn K D = true ∧ ∃ d fs y, da = some d ∧ H1 d = some (.xd fs) ∧ fs.lookup ("at" : Str) = some y ∧ Q y H1) : tAttX K x D da te σ H Q := h
noncomputable def xvB (K : PySem.W.Frag) (x : Str) : Bool := PySem.W.exmOne K (.ref (cA K x)) (.ref (cA K x)) == some true && PySem.W.hasDictIn K (cA K x)
end L2
set_option linter.all false
namespace St
section
variable {b s : Int} {o a : List Int}
end
end St
set_option linter.all false
namespace St
end St
set_option linter.all false
namespace St
end St
set_option linter.all false
namespace St
end St
set_option linter.all false
namespace St
end St
set_option Elab.async false
set_option linter.all false
namespace Bfs
noncomputable abbrev Pl := Int × Int
section
variable (nx : Pl → Nat → Option Pl) (s : Pl)
variable {nx s}
end
end Bfs
set_option Elab.async false
set_option linter.all false
namespace Bfs
end Bfs
set_option Elab.async false
set_option linter.all false
namespace Bfs
end Bfs
set_option Elab.async false
set_option linter.all false
set_option maxRecDepth 100000
namespace My
open PySem L2 St
set_option maxHeartbeats 4000000
noncomputable def stq (i : Nat) : Stmt := PySem.Challenge.pw_stairrooms_k19_walked.main.body.getD i (.Pass ⟨0, 0, 0, 0⟩)
local macro_rules | `(tactic| walk_at "cond") => `(tactic| first | decide | omega | (dsimp only; omega) | (unfold CMul; omega) | (unfold CPow; exact ⟨by decide, by decide, by decide⟩) | (dsimp only; exact ⟨by omega, by omega⟩) | exact .inr ⟨by decide, by decide⟩ | exact .inl ⟨by decide, by decide⟩ | (unfold SmallR; omega))
local macro_rules | `(tactic| walk_at "rd") => do
  let ts ← ("seq ret retN asg drop ifS next name var c op un CB cons nil ints test B exb not and or andV orV notV ifE yes I0 I U EqI NeI EqB NeB call BM tup lst sl noPart part exi chain comp iL iT i1 i2 i3 for tTru intB max2 min2 sub gcons gnil aug ipI zip rev par par2 lam calV raise fs try bseq bnext bplain bif bcall enum gget gin revL leS disp dget lrev disp1 din dnin dput min3 iS iD bm0 revS iD2 iLT thaw iD3 iDL dgt2 fs3 fs5".splitOn " ").toArray.mapM fun n =>
    let i := Lean.mkIdent (.mkSimple ("rd_" ++ n))
    if n == "var" || n == "aug" then `(tacticSeq| ((with_reducible apply $i); (exact rfl)))
    else if n == "I" then `(tacticSeq| ((with_reducible apply $i); (walk_at "cond")))
    else `(tacticSeq| with_reducible refine $i ?_)
  `(tactic| repeat (first $[| $ts]* | dsimp only))
structure Blt (mg : Str → Option Value) : Prop where
  len_ : mg "len" = none
  isinstance_ : mg "isinstance" = none
  tuple_ : mg "tuple" = none
  list_ : mg "list" = none
  int_ : mg "int" = none
  bool_ : mg "bool" = none
  range_ : mg "range" = none
  zip_ : mg "zip" = none
  max_ : mg "max" = none
  min_ : mg "min" = none
  abs_ : mg "abs" = none
  all_ : mg "all" = none
  ValueError_ : mg "ValueError" = none
  enumerate_ : mg "enumerate" = none
  set_ : mg "set" = none
  str_ : mg "str" = none
noncomputable abbrev allC : List Str := ["Endless", "NoDeed", "NoHouse", "NoLine", "NoPlace", "NoStair", "NoText", "NoWalk", "NoWay", "NotBare", "StairError", "TooGreat"]
noncomputable abbrev raisedC : List Str := ["NoHouse", "NoPlace", "TooGreat"]
noncomputable def clsDef (s : Stmt) : Stmt := match s with
  | .ClassDef _ _ _ body _ _ _ _ _ _ _ => body.getD 0 (.Pass ⟨0, 0, 0, 0⟩)
  | s => s
noncomputable abbrev si_NoWalk : Stmt := clsDef (stq 6)
theorem sci_NoWalk : FnScope (["self", "at"] : List Str) (["self", "at"] : List Str) (defScope si_NoWalk) := ⟨rfl, rfl, rfl, by decide +kernel, rfl, by decide +kernel, by decide +kernel⟩
noncomputable def isInt : V → Bool
  | .int _ => true
  | _ => false
noncomputable def isStr : V → Bool
  | .str _ => true
  | _ => false
noncomputable def isTup (H : Hp) : V → Bool
  | .ref p => match H p with
    | some (.tup _) => true
    | _ => false
  | _ => false
theorem kind_whole {H : Hp} {v : V} {n : String} (h : kindV H v n) : ∃ b c, isiB n "int" = some b ∧ isiB n "bool" = some c ∧ (b && !c) = isInt v := by
  cases v with
  | non => cases (show n = "NoneType" from h); exact ⟨_, _, rfl, rfl, rfl⟩
  | bl b => cases (show n = "bool" from h); exact ⟨_, _, rfl, rfl, rfl⟩
  | int i => cases (show n = "int" from h); exact ⟨_, _, rfl, rfl, rfl⟩
  | str z => cases (show n = "str" from h); exact ⟨_, _, rfl, rfl, rfl⟩
  | ref a => rcases h with ⟨rfl, xs, e⟩ | ⟨rfl, xs, e⟩ <;> exact ⟨_, _, rfl, rfl, rfl⟩
  | _ => exact False.elim h
theorem kind_str {H : Hp} {v : V} {n : String} (h : kindV H v n) : isiB n "str" = some (isStr v) := by
  cases v with
  | non => cases (show n = "NoneType" from h); rfl
  | bl b => cases (show n = "bool" from h); rfl
  | int i => cases (show n = "int" from h); rfl
  | str z => cases (show n = "str" from h); rfl
  | ref a => rcases h with ⟨rfl, xs, e⟩ | ⟨rfl, xs, e⟩ <;> rfl
  | _ => exact False.elim h
theorem kind_tuple {H : Hp} {v : V} {n : String} (h : kindV H v n) : isiB n "tuple" = some (isTup H v) := by
  cases v with
  | non => cases (show n = "NoneType" from h); rfl
  | bl b => cases (show n = "bool" from h); rfl
  | int i => cases (show n = "int" from h); rfl
  | str z => cases (show n = "str" from h); rfl
  | ref a => rcases h with ⟨rfl, xs, e⟩ | ⟨rfl, xs, e⟩ <;> (unfold isTup; dsimp only; rw [e]; rfl)
  | _ => exact False.elim h
noncomputable def Thg (H : Hp) : Nat → V → Prop
  | _, .non => True
  | _, .bl _ => True
  | _, .int _ => True
  | _, .str z => z.length ≤ 1000
  | 0, .ref _ => False
  | n + 1, .ref p => ∃ xs, (H p = some (.tup xs) ∨ H p = some (.lst xs)) ∧ xs.length ≤ 2000 ∧ ∀ x ∈ xs, Thg H n x
  | _, _ => False
theorem Thg.ext {H H' : Hp} (e : Ext H H') : ∀ {n : Nat} {v : V}, Thg H n v → Thg H' n v := by
  intro n
  induction n with
  | zero => intro v h; cases v <;> exact h
  | succ n ih =>
    intro v h
    cases v with
    | ref p =>
      obtain ⟨xs, h1, h2, h3⟩ := h
      exact ⟨xs, h1.imp (e _ _) (e _ _), h2, fun x hx => ih (h3 x hx)⟩
    | _ => exact h
theorem Thg.kind {H : Hp} {n : Nat} {v : V} (h : Thg H n v) : ∃ k, kindV H v k := by
  cases v with
  | non => exact ⟨_, rfl⟩
  | bl b => exact ⟨_, rfl⟩
  | int i => exact ⟨_, rfl⟩
  | str z => exact ⟨_, rfl⟩
  | ref p =>
    cases n with
    | zero => exact h.elim
    | succ n =>
      obtain ⟨xs, h1, _⟩ := h
      rcases h1 with h1 | h1
      · exact ⟨"tuple", .inr ⟨rfl, xs, h1⟩⟩
      · exact ⟨"list", .inl ⟨rfl, xs, h1⟩⟩
  | _ => cases n <;> exact h.elim
theorem isTup_of {H : Hp} {v : V} (h : isTup H v = true) : ∃ p xs, v = .ref p ∧ H p = some (.tup xs) := by
  cases v with
  | ref p =>
    unfold isTup at h
    dsimp only at h
    split at h
    · rename_i xs e
      exact ⟨p, xs, rfl, e⟩
    · cases h
  | _ => cases h
theorem Thg.items {H : Hp} {n : Nat} {p : Addr} {xs : List V} (h : Thg H (n + 1) (.ref p)) (e : H p = some (.tup xs)) : xs.length ≤ 2000 ∧ ∀ x ∈ xs, Thg H n x := by
  obtain ⟨ys, h1, h2, h3⟩ := h
  rcases h1 with h1 | h1 <;> rw [e] at h1 <;> cases h1
  exact ⟨h2, h3⟩
theorem small9 {n : Nat} (h : n ≤ 2000) : n ≤ sizeLine := Nat.le_trans h (by decide)
noncomputable def sp_is_whole (K : PySem.W.Frag) : Sp := fun vs H Q _ => ∃ v n, vs = [v] ∧ kindV H v n ∧ Q (.bl (isInt v)) H
noncomputable abbrev s_is_whole : Stmt := stq 14
theorem sc_is_whole : FnScope ["thing"] ["thing"] (defScope s_is_whole) := ⟨rfl, rfl, rfl, by decide +kernel, rfl, by decide +kernel, by decide +kernel⟩
theorem ok_is_whole {P : Program} {w : World} {K : PySem.W.Frag} {mg : Str → Option Value} {base : Heap} (D : Dfn K mg "is_whole" s_is_whole ["thing"]) (T : Blt mg) : Cal P w K mg base "is_whole" 1 ["thing"] (sp_is_whole K) := by
  have nd := (sc_is_whole).nd
  refine D.ok sc_is_whole (fun vs H Q E h => ?_) (fun X hX H vs Q E h => ?_)
  · obtain ⟨v, n, rfl, _⟩ := h; rfl
  · obtain ⟨f, cdv, A, outer, s, H0, E0, rfl, hr⟩ := hX
    obtain ⟨v, n, rfl, hk, q⟩ := h
    obtain ⟨b, c, hb, hc, e⟩ := kind_whole hk
    refine ⟨_, (no_implicit_lambda% (pss_one (no_implicit_lambda% (ps_ret (no_implicit_lambda% (pe_and (no_implicit_lambda% (pe_callB call_isi rfl T.isinstance_ PyProof.Rows.boot_isinstance (no_implicit_lambda% (pa_cons (no_implicit_lambda% (pv 0)) (no_implicit_lambda% (pa_cons (no_implicit_lambda% (pe_bltn (v := .ty "int") rfl T.int_ PyProof.Rows.boot_int rfl)) pa_nil)))))) (pe_one (no_implicit_lambda% (pe_not (no_implicit_lambda% (pe_callB call_isi rfl T.isinstance_ PyProof.Rows.boot_isinstance (no_implicit_lambda% (pa_cons (no_implicit_lambda% (pv 0)) (no_implicit_lambda% (pa_cons (no_implicit_lambda% (pe_bltn (v := .ty "bool") rfl T.bool_ PyProof.Rows.boot_bool rfl)) pa_nil))))))))))))))), ?_⟩
    walk_at "rd"
    refine rd_isi hk hb ?_
    walk_at "rd"
    cases b with
    | false => refine iteF ?_; rw [← e] at q; exact q
    | true =>
      refine iteT ?_
      walk_at "rd"
      refine rd_isi hk hc ?_
      walk_at "rd"
      rw [← e] at q; exact q
noncomputable def roomV (m : Int) : V → Bool
  | .int i => decide (0 ≤ i) && decide (i < m)
  | _ => false
noncomputable def gd_TURNED : List (Key × V) := [(.inr "up", .str "down"), (.inr "down", .str "up"), (.inr "stay", .str "stay"), (.inr "zero", .str "zero")]
theorem gdk_TURNED {w : World} {K : PySem.W.Frag} {a : Addr} {t1 t2 t3 t4 t5 t6 t7 t8 : Tok} {ep : Nat} (h : K.lookup a = some (gdO w [("up", t1, .str "down" t2), ("down", t3, .str "up" t4), ("stay", t5, .str "stay" t6), ("zero", t7, .str "zero" t8)] ep)) (hs : (a == sysModules) = false) : GDict w K a gd_TURNED :=
  ⟨⟨_, _, h, .cons ⟨rfl, ⟨_, rfl⟩⟩ (.cons ⟨rfl, ⟨_, rfl⟩⟩ (.cons ⟨rfl, ⟨_, rfl⟩⟩ (.cons ⟨rfl, ⟨_, rfl⟩⟩ .nil)))⟩, by decide +kernel, hs⟩
noncomputable def deedV : V → Bool
  | .str z => (valV gd_TURNED (.inr z)).isSome
  | _ => false
noncomputable def sign1 (z : Str) : Bool := !decide (z.cps.toList < (Str.ofString "a").cps.toList) && !decide ((Str.ofString "z").cps.toList < z.cps.toList)
noncomputable def signV : V → Bool
  | .str z => decide (z.length = 1) && sign1 z
  | _ => false
theorem isInt_of {v : V} (h : isInt v = true) : ∃ i, v = .int i := by
  cases v <;> first | exact ⟨_, rfl⟩ | cases h
theorem isStr_of {v : V} (h : isStr v = true) : ∃ z, v = .str z := by
  cases v <;> first | exact ⟨_, rfl⟩ | cases h
theorem room_no {m : Int} {v : V} (h : isInt v = false) : roomV m v = false := by
  cases v <;> first | rfl | cases h
theorem deed_no {v : V} (h : isStr v = false) : deedV v = false := by
  cases v <;> first | rfl | cases h
theorem sign_no {v : V} (h : isStr v = false) : signV v = false := by
  cases v <;> first | rfl | cases h
noncomputable def sp_is_room (K : PySem.W.Frag) : Sp := fun vs H Q _ => ∃ v m n, vs = [v, .int m] ∧ kindV H v n ∧ Q (.bl (roomV m v)) H
noncomputable abbrev s_is_room : Stmt := stq 21
theorem sc_is_room : FnScope ["thing", "many"] ["thing", "many"] (defScope s_is_room) := ⟨rfl, rfl, rfl, by decide +kernel, rfl, by decide +kernel, by decide +kernel⟩
theorem ok_is_room {P : Program} {w : World} {K : PySem.W.Frag} {mg : Str → Option Value} {base : Heap} (D : Dfn K mg "is_room" s_is_room ["thing", "many"]) (T : Blt mg) (C_is_whole : Cal P w K mg base "is_whole" 1 ["thing"] (sp_is_whole K)) : Cal P w K mg base "is_room" 2 ["thing", "many"] (sp_is_room K) := by
  have nd := (sc_is_room).nd
  refine D.ok sc_is_room (fun vs H Q E h => ?_) (fun X hX H vs Q E h => ?_)
  · obtain ⟨i, m, n, rfl, _⟩ := h; rfl
  · obtain ⟨f, cdv, A, outer, s, H0, E0, rfl, hr⟩ := hX
    obtain ⟨v, m, n, rfl, hk, q⟩ := h
    refine ⟨_, (no_implicit_lambda% (pss_one (no_implicit_lambda% (ps_ret (no_implicit_lambda% (pe_and (no_implicit_lambda% (pe_cal C_is_whole hr (no_implicit_lambda% (pa_cons (no_implicit_lambda% (pv 0)) pa_nil)))) (pe_one (no_implicit_lambda% (pe_chain op_le op_lt pe_int (no_implicit_lambda% (pv 0)) (no_implicit_lambda% (pv 1))))))))))), ?_⟩
    walk_at "rd"
    refine ⟨v, n, rfl, hk, ?_⟩
    refine rd_exb ?_
    cases hv : isInt v with
    | false =>
      refine iteF ?_
      rw [room_no hv] at q
      exact q
    | true =>
      obtain ⟨i, rfl⟩ := isInt_of hv
      refine iteT ?_
      walk_at "rd"
      unfold roomV at q
      dsimp only at q
      cases h0 : decide (0 ≤ i) with
      | false =>
        refine iteF ?_
        rw [h0] at q
        exact q
      | true =>
        refine iteT ?_
        walk_at "rd"
        rw [h0, Bool.true_and] at q
        exact q
noncomputable def sp_is_deed (K : PySem.W.Frag) : Sp := fun vs H Q _ => ∃ v n, vs = [v] ∧ kindV H v n ∧ Q (.bl (deedV v)) H
noncomputable abbrev s_is_deed : Stmt := stq 22
theorem sc_is_deed : FnScope ["thing"] ["thing"] (defScope s_is_deed) := ⟨rfl, rfl, rfl, by decide +kernel, rfl, by decide +kernel, by decide +kernel⟩
theorem ok_is_deed {P : Program} {w : World} {K : PySem.W.Frag} {mg : Str → Option Value} {base : Heap} (D : Dfn K mg "is_deed" s_is_deed ["thing"]) (T : Blt mg) (g_TURNED : ∃ a, mg "TURNED" = some (.ref a) ∧ GDict w K a gd_TURNED) : Cal P w K mg base "is_deed" 1 ["thing"] (sp_is_deed K) := by
  have nd := (sc_is_deed).nd
  refine D.ok sc_is_deed (fun vs H Q E h => ?_) (fun X hX H vs Q E h => ?_)
  · obtain ⟨z, n, rfl, _⟩ := h; rfl
  · obtain ⟨f, cdv, A, outer, s, H0, E0, rfl, hr⟩ := hX
    obtain ⟨a_TURNED, m_TURNED, d_TURNED⟩ := g_TURNED
    obtain ⟨v, n, rfl, hk, q⟩ := h
    refine ⟨_, (no_implicit_lambda% (pss_one (no_implicit_lambda% (ps_ret (no_implicit_lambda% (pe_and (no_implicit_lambda% (pe_callB call_isi rfl T.isinstance_ PyProof.Rows.boot_isinstance (no_implicit_lambda% (pa_cons (no_implicit_lambda% (pv 0)) (no_implicit_lambda% (pa_cons (no_implicit_lambda% (pe_bltn (v := .ty "str") rfl T.str_ PyProof.Rows.boot_str rfl)) pa_nil)))))) (pe_one (no_implicit_lambda% (pe_cmp (pc_gin rfl m_TURNED d_TURNED (no_implicit_lambda% (pv 0))) (by with_unfolding_all rfl)))))))))), ?_⟩
    walk_at "rd"
    refine rd_isi hk (kind_str hk) ?_
    walk_at "rd"
    cases hv : isStr v with
    | false =>
      refine iteF ?_
      rw [deed_no hv] at q
      exact q
    | true =>
      obtain ⟨z, rfl⟩ := isStr_of hv
      refine iteT ?_
      walk_at "rd"
      exact ⟨.inr z, rfl, q⟩
noncomputable def sp_is_sign (K : PySem.W.Frag) : Sp := fun vs H Q _ => ∃ v n j, vs = [v] ∧ kindV H v n ∧ Thg H j v ∧ Q (.bl (signV v)) H
noncomputable abbrev s_is_sign : Stmt := stq 23
theorem sc_is_sign : FnScope ["thing"] ["thing"] (defScope s_is_sign) := ⟨rfl, rfl, rfl, by decide +kernel, rfl, by decide +kernel, by decide +kernel⟩
theorem ok_is_sign {P : Program} {w : World} {K : PySem.W.Frag} {mg : Str → Option Value} {base : Heap} (D : Dfn K mg "is_sign" s_is_sign ["thing"]) (T : Blt mg) : Cal P w K mg base "is_sign" 1 ["thing"] (sp_is_sign K) := by
  have nd := (sc_is_sign).nd
  refine D.ok sc_is_sign (fun vs H Q E h => ?_) (fun X hX H vs Q E h => ?_)
  · obtain ⟨z, n, j, rfl, _⟩ := h; rfl
  · obtain ⟨f, cdv, A, outer, s, H0, E0, rfl, hr⟩ := hX
    obtain ⟨v, n, j, rfl, hk, ht, q⟩ := h
    refine ⟨_, (no_implicit_lambda% (pss_one (no_implicit_lambda% (ps_ret (no_implicit_lambda% (pe_and (no_implicit_lambda% (pe_callB call_isi rfl T.isinstance_ PyProof.Rows.boot_isinstance (no_implicit_lambda% (pa_cons (no_implicit_lambda% (pv 0)) (no_implicit_lambda% (pa_cons (no_implicit_lambda% (pe_bltn (v := .ty "str") rfl T.str_ PyProof.Rows.boot_str rfl)) pa_nil)))))) (pe_and (no_implicit_lambda% (pe_cmpR op_eq (no_implicit_lambda% (pe_callB call_len_str rfl T.len_ PySem.boot_len (no_implicit_lambda% (pa_cons (no_implicit_lambda% (pv 0)) pa_nil)))) pe_int (nomark _))) (pe_one (no_implicit_lambda% (pe_chain op_leS op_leS pe_str (no_implicit_lambda% (pv 0)) pe_str)))))))))), ?_⟩
    walk_at "rd"
    refine rd_isi hk (kind_str hk) ?_
    walk_at "rd"
    cases hv : isStr v with
    | false =>
      refine iteF ?_
      rw [sign_no hv] at q
      exact q
    | true =>
      obtain ⟨z, rfl⟩ := isStr_of hv
      refine iteT ?_
      walk_at "rd"
      refine ⟨_, rfl, small9 (Nat.le_trans (show z.length ≤ 1000 by cases j <;> exact ht) (by decide)), ?_⟩
      walk_at "rd"
      unfold signV sign1 at q
      dsimp only at q
      by_cases h1 : z.length = 1
      · rw [decide_eq_true (show ((z.length : Nat) : Int) = 1 by omega)]
        refine iteT ?_
        walk_at "rd"
        rw [decide_eq_true h1, Bool.true_and] at q
        cases h2 : !decide (z.cps.toList < (Str.ofString "a").cps.toList) with
        | false =>
          refine iteF ?_
          rw [h2] at q
          exact q
        | true =>
          refine iteT ?_
          walk_at "rd"
          rw [h2, Bool.true_and] at q
          exact q
      · rw [decide_eq_false (show ¬ ((z.length : Nat) : Int) = 1 by omega)]
        refine iteF ?_
        rw [decide_eq_false h1, Bool.false_and] at q
        exact q
noncomputable def wayL (m : Int) : List V → Bool
  | [a, b, c, d] => roomV m a && (roomV m c && (deedV b && signV d))
  | _ => false
noncomputable def wayV (H : Hp) (m : Int) : V → Bool
  | .ref p => match H p with
    | some (.tup xs) => wayL m xs
    | _ => false
  | _ => false
theorem way_no {H : Hp} {m : Int} {v : V} (h : isTup H v = false) : wayV H m v = false := by
  cases v with
  | ref p =>
    unfold isTup at h
    unfold wayV
    dsimp only at h ⊢
    split
    · rename_i xs e
      rw [e] at h
      cases h
    · rfl
  | _ => rfl
theorem way_tup {H : Hp} {m : Int} {p : Addr} {xs : List V} (h : H p = some (.tup xs)) : wayV H m (.ref p) = wayL m xs := by
  unfold wayV
  dsimp only
  rw [h]
theorem wayL_len {m : Int} {xs : List V} (h : xs.length ≠ 4) : wayL m xs = false := by
  unfold wayL
  split
  · exact absurd rfl h
  · rfl
theorem four {xs : List V} (h : xs.length = 4) : ∃ a b c d, xs = [a, b, c, d] := by
  match xs, h with
  | [a, b, c, d], _ => exact ⟨a, b, c, d, rfl⟩
noncomputable def sp_is_way (K : PySem.W.Frag) : Sp := fun vs H Q _ => ∃ v m, vs = [v, .int m] ∧ Thg H 2 v ∧ Q (.bl (wayV H m v)) H
noncomputable abbrev s_is_way : Stmt := stq 24
theorem sc_is_way : FnScope ["thing", "many"] ["thing", "many"] (defScope s_is_way) := ⟨rfl, rfl, rfl, by decide +kernel, rfl, by decide +kernel, by decide +kernel⟩
theorem ok_is_way {P : Program} {w : World} {K : PySem.W.Frag} {mg : Str → Option Value} {base : Heap} (D : Dfn K mg "is_way" s_is_way ["thing", "many"]) (T : Blt mg) (C_is_sign : Cal P w K mg base "is_sign" 1 ["thing"] (sp_is_sign K)) (C_is_deed : Cal P w K mg base "is_deed" 1 ["thing"] (sp_is_deed K)) (C_is_room : Cal P w K mg base "is_room" 2 ["thing", "many"] (sp_is_room K)) : Cal P w K mg base "is_way" 3 ["thing", "many"] (sp_is_way K) := by
  have nd := (sc_is_way).nd
  refine D.ok sc_is_way (fun vs H Q E h => ?_) (fun X hX H vs Q E h => ?_)
  · obtain ⟨p, m, rfl, _⟩ := h; rfl
  · obtain ⟨f, cdv, A, outer, s, H0, E0, rfl, hr⟩ := hX
    obtain ⟨v, m, rfl, ht, q⟩ := h
    obtain ⟨n, hk⟩ := ht.kind
    refine ⟨_, (no_implicit_lambda% (pss_cons (no_implicit_lambda% (ps_if (no_implicit_lambda% (PW.pt (pw_or (no_implicit_lambda% (pt_not (no_implicit_lambda% (pt_val (no_implicit_lambda% (pe_callB call_isi rfl T.isinstance_ PyProof.Rows.boot_isinstance (no_implicit_lambda% (pa_cons (no_implicit_lambda% (pv 0)) (no_implicit_lambda% (pa_cons (no_implicit_lambda% (pe_bltn (v := .ty "tuple") rfl T.tuple_ PyProof.Rows.boot_tuple rfl)) pa_nil)))))))))) (pw_or1 (no_implicit_lambda% (pt_cmpR op_ne (no_implicit_lambda% (pe_callB (call_lenK K) rfl T.len_ PySem.boot_len (no_implicit_lambda% (pa_cons (no_implicit_lambda% (pv 0)) pa_nil)))) pe_int (nomark _))))))) (no_implicit_lambda% (pss_one (no_implicit_lambda% (ps_ret pe_bl)))) pss_nil))
        (no_implicit_lambda% (pss_cons (no_implicit_lambda% (ps_if (no_implicit_lambda% (PW.pt (pw_or (no_implicit_lambda% (pt_not (no_implicit_lambda% (pt_val (no_implicit_lambda% (pe_cal C_is_room hr (no_implicit_lambda% (pa_cons (no_implicit_lambda% (pe_ix (ix_tupK K) (no_implicit_lambda% (pv 0)) pe_int (fun _ _ => rfl))) (no_implicit_lambda% (pa_cons (no_implicit_lambda% (pv 1)) pa_nil)))))))))) (pw_or1 (no_implicit_lambda% (pt_not (no_implicit_lambda% (pt_val (no_implicit_lambda% (pe_cal C_is_room hr (no_implicit_lambda% (pa_cons (no_implicit_lambda% (pe_ix (ix_tupK K) (no_implicit_lambda% (pv 0)) pe_int (fun _ _ => rfl))) (no_implicit_lambda% (pa_cons (no_implicit_lambda% (pv 1)) pa_nil)))))))))))))) (no_implicit_lambda% (pss_one (no_implicit_lambda% (ps_ret pe_bl)))) pss_nil))
        (no_implicit_lambda% (pss_one (no_implicit_lambda% (ps_ret (no_implicit_lambda% (pe_and (no_implicit_lambda% (pe_cal C_is_deed hr (no_implicit_lambda% (pa_cons (no_implicit_lambda% (pe_ix (ix_tupK K) (no_implicit_lambda% (pv 0)) pe_int (fun _ _ => rfl))) pa_nil)))) (pe_one (no_implicit_lambda% (pe_cal C_is_sign hr (no_implicit_lambda% (pa_cons (no_implicit_lambda% (pe_ix (ix_tupK K) (no_implicit_lambda% (pv 0)) pe_int (fun _ _ => rfl))) pa_nil))))))))))))))), ?_⟩
    walk_at "rd"
    refine rd_isi hk (kind_tuple hk) ?_
    walk_at "rd"
    cases hv : isTup H v with
    | false =>
      refine iteT ?_
      walk_at "rd"
      rw [way_no hv] at q
      exact q
    | true =>
      refine iteF ?_
      obtain ⟨p, xs, rfl, hp⟩ := isTup_of hv
      obtain ⟨hx1, hx2⟩ := ht.items hp
      rw [way_tup hp] at q
      walk_at "rd"
      refine rd_lenT (SqT.of hp) ?_
      walk_at "rd"
      by_cases h4 : xs.length = 4
      · obtain ⟨a, b, c, d, rfl⟩ := four h4
        have ta := hx2 a (by simp)
        have tb := hx2 b (by simp)
        have tc := hx2 c (by simp)
        have td := hx2 d (by simp)
        obtain ⟨ka, hka⟩ := ta.kind
        obtain ⟨kb, hkb⟩ := tb.kind
        obtain ⟨kc, hkc⟩ := tc.kind
        obtain ⟨kd, hkd⟩ := td.kind
        unfold wayL at q
        dsimp only at q
        refine iteF ?_
        walk_at "rd"
        refine rd_ixT (SqT.of hp) (v := a) rfl ?_
        walk_at "rd"
        refine ⟨a, m, ka, rfl, hka, ?_⟩
        walk_at "rd"
        cases ra : roomV m a with
        | false =>
          refine iteT ?_
          walk_at "rd"
          rw [ra] at q
          exact q
        | true =>
          refine iteF ?_
          walk_at "rd"
          refine rd_ixT (SqT.of hp) (v := c) rfl ?_
          walk_at "rd"
          refine ⟨c, m, kc, rfl, hkc, ?_⟩
          walk_at "rd"
          rw [ra, Bool.true_and] at q
          cases rc : roomV m c with
          | false =>
            refine iteT ?_
            walk_at "rd"
            rw [rc] at q
            exact q
          | true =>
            refine iteF ?_
            walk_at "rd"
            refine rd_ixT (SqT.of hp) (v := b) rfl ?_
            walk_at "rd"
            refine ⟨b, kb, rfl, hkb, ?_⟩
            walk_at "rd"
            rw [rc, Bool.true_and] at q
            cases rb : deedV b with
            | false =>
              refine iteF ?_
              rw [rb] at q
              exact q
            | true =>
              refine iteT ?_
              walk_at "rd"
              refine rd_ixT (SqT.of hp) (v := d) rfl ?_
              walk_at "rd"
              rw [rb, Bool.true_and] at q
              exact ⟨d, kd, 1, rfl, hkd, td, q⟩
      · rw [wayL_len h4] at q
        rw [decide_eq_false (show ¬ ((xs.length : Nat) : Int) = 4 by omega)]
        refine iteT ?_
        walk_at "rd"
        exact q
theorem small_line {n : Nat} (h : n ≤ 1000000) : n ≤ sizeLine := Nat.le_trans h (by decide)
noncomputable def sp__law_cell (K : PySem.W.Frag) : Sp := fun vs H Q _ => ∃ (a : Addr) (ns : List Int) (k : Int), vs = [.ref a, .int k] ∧ SqL K H a (ns.map V.int) ∧ ns.length ≤ 63 ∧ 0 ≤ k ∧ ∀ z, Q (.int z) H
theorem atI_ints {ns : List Int} {i : Int} (h0 : 0 ≤ i) (h : i < ns.length) : ∃ z, atI (ns.map V.int) i = some (.int z) ∧ ns[i.toNat]? = some z := by
  have hi : i.toNat < ns.length := by omega
  refine ⟨ns[i.toNat], atI_of h0 ?_, List.getElem?_eq_getElem hi⟩
  rw [List.getElem?_map, List.getElem?_eq_getElem hi]
  rfl
noncomputable abbrev s__law_cell : Stmt := stq 41
theorem sc__law_cell : FnScope ["_law_script", "_law_k"] ["_law_script", "_law_k"] (defScope s__law_cell) := ⟨rfl, rfl, rfl, by decide +kernel, rfl, by decide +kernel, by decide +kernel⟩
theorem ok__law_cell {P : Program} {w : World} {K : PySem.W.Frag} {mg : Str → Option Value} {base : Heap} (D : Dfn K mg "_law_cell" s__law_cell ["_law_script", "_law_k"]) (T : Blt mg) : Cal P w K mg base "_law_cell" 1 ["_law_script", "_law_k"] (sp__law_cell K) := by
  have nd := (sc__law_cell).nd
  refine D.ok sc__law_cell (fun vs H Q E h => ?_) (fun X hX H vs Q E h => ?_)
  · obtain ⟨a, ns, k, rfl, _⟩ := h; rfl
  · obtain ⟨f, cdv, A, outer, s, H0, E0, rfl, hr⟩ := hX
    obtain ⟨a, ns, k, rfl, ha, hl, hk, q⟩ := h
    refine ⟨_, (no_implicit_lambda% (pss_cons (no_implicit_lambda% (ps_if (no_implicit_lambda% (pt_cmpR op_eq (no_implicit_lambda% (pe_callB (call_lenK K) rfl T.len_ PySem.boot_len (no_implicit_lambda% (pa_cons (no_implicit_lambda% (pv 0)) pa_nil)))) pe_int (nomark _))) (no_implicit_lambda% (pss_one (no_implicit_lambda% (ps_ret (no_implicit_lambda% (pe_op op_mul pe_int (no_implicit_lambda% (pe_op op_add (no_implicit_lambda% (pv 1)) pe_int)))))))) pss_nil))
        (no_implicit_lambda% (pss_cons (no_implicit_lambda% (ps_if (no_implicit_lambda% (pt_cmpR op_lt (no_implicit_lambda% (pv 1)) (no_implicit_lambda% (pe_callB (call_lenK K) rfl T.len_ PySem.boot_len (no_implicit_lambda% (pa_cons (no_implicit_lambda% (pv 0)) pa_nil)))) (nomark _))) (no_implicit_lambda% (pss_one (no_implicit_lambda% (ps_ret (no_implicit_lambda% (pe_ix (ix_listK K) (no_implicit_lambda% (pv 0)) (no_implicit_lambda% (pv 1)) (fun _ _ => rfl))))))) pss_nil))
        (no_implicit_lambda% (pss_one (no_implicit_lambda% (ps_ret (no_implicit_lambda% (pe_op op_add (no_implicit_lambda% (pe_ix (ix_listK K) (no_implicit_lambda% (pv 0)) (no_implicit_lambda% (pe_op op_mod (no_implicit_lambda% (pv 1)) (no_implicit_lambda% (pe_callB (call_lenK K) rfl T.len_ PySem.boot_len (no_implicit_lambda% (pa_cons (no_implicit_lambda% (pv 0)) pa_nil)))))) (fun _ _ => rfl))) (no_implicit_lambda% (pe_op op_mul pe_int (no_implicit_lambda% (pv 1)))))))))))))), ?_⟩
    walk_at "rd"
    refine rd_lenL ha ?_
    walk_at "rd"
    rw [List.length_map]
    by_cases h0 : (ns.length : Int) = 0
    · rw [decide_eq_true h0]
      refine iteT ?_
      walk_at "rd"
      exact q _
    · rw [decide_eq_false h0]
      refine iteF ?_
      walk_at "rd"
      refine rd_lenL ha ?_
      walk_at "rd"
      rw [List.length_map]
      by_cases h1 : k < ns.length
      · rw [decide_eq_true h1]
        refine iteT ?_
        obtain ⟨z, hz, _⟩ := atI_ints hk h1
        walk_at "rd"
        refine rd_ixL ha hz ?_
        exact q _
      · rw [decide_eq_false h1]
        refine iteF ?_
        walk_at "rd"
        refine rd_lenL ha ?_
        rw [List.length_map]
        have hp : (0 : Int) < ns.length := by omega
        refine rd_I hp ?_
        obtain ⟨z, hz, _⟩ := atI_ints (ns := ns) (Int.emod_nonneg k (by omega)) (Int.emod_lt_of_pos k hp)
        refine rd_ixL ha hz ?_
        walk_at "rd"
        exact q _
noncomputable def sp__law_mixed (K : PySem.W.Frag) : Sp := fun vs H Q _ => ∃ c k p, vs = [.int c, .int k, .int p] ∧ 0 ≤ k ∧ k < 100000 ∧ 0 < p ∧ ∀ z, 0 ≤ z → z < p → Q (.int z) H
noncomputable abbrev s__law_mixed : Stmt := stq 39
theorem sc__law_mixed : FnScope ["_law_cell_here", "_law_k", "_law_prime", "_law_far"] ["_law_cell_here", "_law_k", "_law_prime"] (defScope s__law_mixed) := ⟨rfl, rfl, rfl, by decide +kernel, rfl, by decide +kernel, by decide +kernel⟩
theorem ok__law_mixed {P : Program} {w : World} {K : PySem.W.Frag} {mg : Str → Option Value} {base : Heap} (D : Dfn K mg "_law_mixed" s__law_mixed ["_law_cell_here", "_law_k", "_law_prime"]) (T : Blt mg) : Cal P w K mg base "_law_mixed" 1 ["_law_cell_here", "_law_k", "_law_prime"] (sp__law_mixed K) := by
  have nd := (sc__law_mixed).nd
  refine D.ok sc__law_mixed (fun vs H Q E h => ?_) (fun X hX H vs Q E h => ?_)
  · obtain ⟨c, k, p, rfl, _⟩ := h; rfl
  · obtain ⟨f, cdv, A, outer, s, H0, E0, rfl, hr⟩ := hX
    obtain ⟨c, k, p, rfl, hk, hk2, hp, q⟩ := h
    refine ⟨_, (no_implicit_lambda% (pss_cons (no_implicit_lambda% (ps_set (i := 3) nd rfl (Or.inl rfl) (no_implicit_lambda% (pe_op op_mod (no_implicit_lambda% (pe_op op_mul (no_implicit_lambda% (pe_op op_add (no_implicit_lambda% (pe_op op_add (no_implicit_lambda% (pe_op op_add (no_implicit_lambda% (pv 0)) (no_implicit_lambda% (pe_op op_mul (no_implicit_lambda% (pe_op op_mul pe_int (no_implicit_lambda% (pv 1)))) (no_implicit_lambda% (pv 1)))))) (no_implicit_lambda% (pe_op op_mul pe_int (no_implicit_lambda% (pv 1)))))) pe_int)) pe_int)) pe_int))))
        (no_implicit_lambda% (pss_cons (no_implicit_lambda% (ps_set (i := 3) nd rfl (Or.inl rfl) (no_implicit_lambda% (pe_op op_mod (no_implicit_lambda% (pe_op op_mul (no_implicit_lambda% (pv 3)) (no_implicit_lambda% (pv 3)))) pe_int))))
        (no_implicit_lambda% (pss_one (no_implicit_lambda% (ps_ret (no_implicit_lambda% (pe_op op_mod (no_implicit_lambda% (pe_op op_mul (no_implicit_lambda% (pv 3)) pe_int)) (no_implicit_lambda% (pv 2)))))))))))), ?_⟩
    walk_at "rd"
    exact q _ (Int.emod_nonneg _ (by omega)) (Int.emod_lt_of_pos _ hp)
theorem ext_write {H H2 : Hp} {q : Addr} {o : HO} (e : Ext H H2) (hq : H q = none) : Ext H (upd H2 q o) := fun b u hb => by
  rw [upd_ne (ne_of_none hb hq)]
  exact e b u hb
noncomputable def sp__law_draws (K : PySem.W.Frag) : Sp := fun vs H Q _ => ∃ (c : Int) (w : Addr) (ws : List Int) (p : Int), vs = [.int c, .ref w, .int p] ∧ H w = some (.lst (ws.map V.int)) ∧ (∀ x ∈ ws, 0 < x ∧ x < 2 ^ 40) ∧ ws.length ≤ 10000 ∧ 0 < p ∧
  ∀ (q : Addr) (ds : List Int) (H' : Hp), Ext H H' → H' q = some (.lst (ds.map V.int)) → H q = none → ds.length = ws.length → (∀ (i : Nat) d x, ds[i]? = some d → ws[i]? = some x → 0 ≤ d ∧ d < x) → Q (.ref q) H'
theorem mk_draws {K : PySem.W.Frag} {H : Hp} {c : Int} {w : Addr} {p : Int} {Q : VK} {xe : XK} (ws : List Int) (h1 : H w = some (.lst (ws.map V.int))) (h2 : ∀ x ∈ ws, 0 < x ∧ x < 2 ^ 40) (h3 : ws.length ≤ 10000) (h4 : 0 < p)
    (k : ∀ (q : Addr) (ds : List Int) (H' : Hp), Ext H H' → H' q = some (.lst (ds.map V.int)) → H q = none → ds.length = ws.length → (∀ (i : Nat) d x, ds[i]? = some d → ws[i]? = some x → 0 ≤ d ∧ d < x) → Q (.ref q) H') : sp__law_draws K [.int c, .ref w, .int p] H Q xe := ⟨c, w, ws, p, rfl, h1, h2, h3, h4, k⟩
noncomputable abbrev s__law_draws : Stmt := stq 40
theorem sc__law_draws : FnScope ["_law_cell_here", "_law_widths", "_law_prime", "_law_left", "_law_found", "_law_k"] ["_law_cell_here", "_law_widths", "_law_prime"] (defScope s__law_draws) := ⟨rfl, rfl, rfl, by decide +kernel, rfl, by decide +kernel, by decide +kernel⟩
theorem ok__law_draws {P : Program} {w : World} {K : PySem.W.Frag} {mg : Str → Option Value} {base : Heap} (D : Dfn K mg "_law_draws" s__law_draws ["_law_cell_here", "_law_widths", "_law_prime"]) (T : Blt mg) (C__law_mixed : Cal P w K mg base "_law_mixed" 1 ["_law_cell_here", "_law_k", "_law_prime"] (sp__law_mixed K)) : Cal P w K mg base "_law_draws" 2 ["_law_cell_here", "_law_widths", "_law_prime"] (sp__law_draws K) := by
  have nd := (sc__law_draws).nd
  refine D.ok sc__law_draws (fun vs H Q E h => ?_) (fun X hX H vs Q E h => ?_)
  · obtain ⟨c, w, ws, p, rfl, _⟩ := h; rfl
  · obtain ⟨f, cdv, A, outer, s, H0, E0, rfl, hr⟩ := hX
    obtain ⟨c, w, ws, p, rfl, hw, hpos, hlen, hp, q⟩ := h
    refine ⟨_, (no_implicit_lambda% (pss_cons (no_implicit_lambda% (ps_set (i := 3) nd rfl (Or.inl rfl) pe_int))
        (no_implicit_lambda% (pss_cons (no_implicit_lambda% (ps_ifJ (no_implicit_lambda% (pt_cmpR op_ge (no_implicit_lambda% (pv 0)) (no_implicit_lambda% (pe_op op_pow pe_int pe_int)) (nomark _))) (no_implicit_lambda% (pss_one (no_implicit_lambda% (ps_set (i := 3) nd rfl (Or.inl rfl) (no_implicit_lambda% (pe_op op_sub (no_implicit_lambda% (pv 0)) (no_implicit_lambda% (pe_op op_pow pe_int pe_int)))))))) pss_nil))
        (no_implicit_lambda% (pss_cons (no_implicit_lambda% (ps_set (i := 4) nd rfl (Or.inl rfl) (no_implicit_lambda% (pe_lst pa_nil))))
        (no_implicit_lambda% (pss_cons (no_implicit_lambda% (ps_for PassesOwn.never rfl (no_implicit_lambda% (pi_range1 rfl T.range_ (no_implicit_lambda% (pa_cons (no_implicit_lambda% (pe_callB (call_lenK K) rfl T.len_ PySem.boot_len (no_implicit_lambda% (pa_cons (no_implicit_lambda% (pv 1)) pa_nil)))) pa_nil)))) (no_implicit_lambda% (pg_name (i := 5) nd rfl (Or.inl rfl))) (no_implicit_lambda% (pss_one (no_implicit_lambda% (ps_ifJ (no_implicit_lambda% (pt_cmpR op_gt (no_implicit_lambda% (pv 3)) pe_int (nomark _))) (no_implicit_lambda% (pss_cons (no_implicit_lambda% (ps_expr (no_implicit_lambda% (pe_bmK K PySem.F.plainAttrs_list PySem.F.slot_list_append PySem.F.type_list_append mt_append (no_implicit_lambda% (pv 4)) (no_implicit_lambda% (pa_cons (no_implicit_lambda% (pe_op op_mod (no_implicit_lambda% (pv 3)) (no_implicit_lambda% (pe_ix (ix_listK K) (no_implicit_lambda% (pv 1)) (no_implicit_lambda% (pv 5)) (fun _ _ => rfl))))) pa_nil))))))
        (no_implicit_lambda% (pss_one (no_implicit_lambda% (ps_set (i := 3) nd rfl (Or.inl rfl) (no_implicit_lambda% (pe_op op_fdivL (no_implicit_lambda% (pv 3)) (no_implicit_lambda% (pe_ix (ix_listK K) (no_implicit_lambda% (pv 1)) (no_implicit_lambda% (pv 5)) (fun _ _ => rfl))))))))))) (no_implicit_lambda% (pss_one (no_implicit_lambda% (ps_expr (no_implicit_lambda% (pe_bmK K PySem.F.plainAttrs_list PySem.F.slot_list_append PySem.F.type_list_append mt_append (no_implicit_lambda% (pv 4)) (no_implicit_lambda% (pa_cons (no_implicit_lambda% (pe_op op_mod (no_implicit_lambda% (pe_cal C__law_mixed hr (no_implicit_lambda% (pa_cons (no_implicit_lambda% (pv 0)) (no_implicit_lambda% (pa_cons (no_implicit_lambda% (pv 5)) (no_implicit_lambda% (pa_cons (no_implicit_lambda% (pv 2)) pa_nil)))))))) (no_implicit_lambda% (pe_ix (ix_listK K) (no_implicit_lambda% (pv 1)) (no_implicit_lambda% (pv 5)) (fun _ _ => rfl))))) pa_nil))))))))))))))
        (no_implicit_lambda% (pss_one (no_implicit_lambda% (ps_ret (no_implicit_lambda% (pv 4)))))))))))))), ?_⟩
    walk_at "rd"
    refine rd_ifJ (fun σ' H' => H' = H ∧ ∃ l, σ' = [some (.int c), some (.ref w), some (.int p), some (.int l), none, none]) ?_ ?_
    · walk_at "rd"
      refine ite2 (fun h => ?_) (fun h => ?_)
      · walk_at "rd"
        exact ⟨rfl, _, rfl⟩
      · walk_at "rd"
        exact ⟨rfl, _, rfl⟩
    rintro σ' H' ⟨rfl, l, rfl⟩
    walk_at "rd"
    refine ⟨small_line (by simp), rd_new fun f H1 e1 hf hfn => ?_⟩
    walk_at "rd"
    refine rd_lenL (SqL.of (e1 _ _ hw)) ?_
    rw [List.length_map]
    walk_at "rd"
    refine rd_i1x (by omega) ?_
    refine forR (fun i σ H2 => Ext H' H2 ∧ ∃ (l : Int) (k : Option V) (ds : List Int), σ = [some (.int c), some (.ref w), some (.int p), some (.int l), some (.ref f), k] ∧ H2 f = some (.lst (ds.map V.int)) ∧ ds.length = i ∧ ∀ (i : Nat) d x, ds[i]? = some d → ws[i]? = some x → 0 ≤ d ∧ d < x)
      ⟨e1, l, none, [], rfl, hf, rfl, fun i d x hd => by simp at hd⟩ ?_ ?_
    · rintro i σ H2 hi ⟨e2, l, k, ds, rfl, hf2, hds, hb⟩
      rw [Int.toNat_natCast] at hi
      have hwi : ws[i]? = some ws[i] := List.getElem?_eq_getElem hi
      have hx := hpos ws[i] (List.getElem_mem hi)
      have hat : atI (ws.map V.int) (0 + (i : Int)) = some (.int ws[i]) := by
        rw [Int.zero_add]
        exact atI_nat (by rw [List.getElem?_map, hwi]; rfl)
      have next : ∀ d, 0 ≤ d → d < ws[i] → ∀ (j : Nat) (d' x : Int), (ds ++ [d])[j]? = some d' → ws[j]? = some x → 0 ≤ d' ∧ d' < x := fun d h0 h1 j d' x hj hx' => by
        rcases Nat.lt_or_ge j ds.length with h | h
        · rw [List.getElem?_append_left h] at hj
          exact hb j d' x hj hx'
        · rw [List.getElem?_append_right h] at hj
          have hj0 : j - ds.length = 0 := by
            rcases Nat.eq_zero_or_pos (j - ds.length) with h | h
            · exact h
            · rw [List.getElem?_eq_none (by simp; omega)] at hj; cases hj
          rw [hj0] at hj
          have hji : j = i := by omega
          subst hji
          rw [hwi] at hx'
          cases hx'
          have : d = d' := by simpa using hj
          rw [← this]
          exact ⟨h0, h1⟩
      walk_at "rd"
      refine rd_ifN ?_
      walk_at "rd"
      refine ite2 (fun h => ?_) (fun h => ?_)
      · have h' : 1 < l := by simpa using h
        walk_at "rd"
        refine ⟨rd_tyL (SqL.of hf2), ?_⟩
        walk_at "rd"
        refine rd_ixL (SqL.of (e2 _ _ hw)) hat ?_
        refine rd_I (show 0 < ws[i] by omega) ?_
        walk_at "rd"
        refine rd_append hf2 (by rw [List.length_map]; exact Nat.lt_of_le_of_lt (show ds.length ≤ 10000 by omega) (by decide)) ?_
        walk_at "rd"
        refine rd_ixL (SqL.of (ext_write e2 hfn _ _ hw)) hat ?_
        refine rd_I (show 0 < ws[i] ∧ ws[i] < 2 ^ 64 by omega) ?_
        walk_at "rd"
        refine ⟨ext_write e2 hfn, _, _, ds ++ [l % ws[i]], rfl, ?_, by rw [List.length_append, hds]; rfl, next _ (Int.emod_nonneg _ (by omega)) (Int.emod_lt_of_pos _ (by omega))⟩
        rw [upd_same, List.map_append]
        rfl
      · walk_at "rd"
        refine ⟨rd_tyL (SqL.of hf2), ?_⟩
        walk_at "rd"
        refine ⟨c, 0 + (i : Int), p, rfl, by omega, by omega, hp, fun z hz0 hz1 => ?_⟩
        walk_at "rd"
        refine rd_ixL (SqL.of (e2 _ _ hw)) hat ?_
        refine rd_I (show 0 < ws[i] by omega) ?_
        walk_at "rd"
        refine rd_append hf2 (by rw [List.length_map]; exact Nat.lt_of_le_of_lt (show ds.length ≤ 10000 by omega) (by decide)) ?_
        walk_at "rd"
        refine ⟨ext_write e2 hfn, _, _, ds ++ [z % ws[i]], rfl, ?_, by rw [List.length_append, hds]; rfl, next _ (Int.emod_nonneg _ (by omega)) (Int.emod_lt_of_pos _ (by omega))⟩
        rw [upd_same, List.map_append]
        rfl
    · rintro σ H2 ⟨e2, l, k, ds, rfl, hf2, hds, hb⟩
      walk_at "rd"
      exact q f ds H2 e2 hf2 hfn (by rw [hds, Int.toNat_natCast]) hb
noncomputable def sp__law_spare (K : PySem.W.Frag) : Sp := fun vs H Q _ => ∃ c w, vs = [.int c, .int w] ∧ 0 < w ∧ w < 2 ^ 64 ∧ ∀ z, Q (.int z) H
noncomputable abbrev s__law_spare : Stmt := stq 43
theorem sc__law_spare : FnScope ["_law_cell_here", "_law_width"] ["_law_cell_here", "_law_width"] (defScope s__law_spare) := ⟨rfl, rfl, rfl, by decide +kernel, rfl, by decide +kernel, by decide +kernel⟩
theorem ok__law_spare {P : Program} {w : World} {K : PySem.W.Frag} {mg : Str → Option Value} {base : Heap} (D : Dfn K mg "_law_spare" s__law_spare ["_law_cell_here", "_law_width"]) (T : Blt mg) : Cal P w K mg base "_law_spare" 1 ["_law_cell_here", "_law_width"] (sp__law_spare K) := by
  have nd := (sc__law_spare).nd
  refine D.ok sc__law_spare (fun vs H Q E h => ?_) (fun X hX H vs Q E h => ?_)
  · obtain ⟨c, w, rfl, _⟩ := h; rfl
  · obtain ⟨f, cdv, A, outer, s, H0, E0, rfl, hr⟩ := hX
    obtain ⟨c, w, rfl, h1, h2, q⟩ := h
    refine ⟨_, (no_implicit_lambda% (pss_cons (no_implicit_lambda% (ps_if (no_implicit_lambda% (pt_cmpR op_ge (no_implicit_lambda% (pv 0)) (no_implicit_lambda% (pe_op op_pow pe_int pe_int)) (nomark _))) (no_implicit_lambda% (pss_one (no_implicit_lambda% (ps_ret (no_implicit_lambda% (pe_op op_add (no_implicit_lambda% (pe_op op_fdivL (no_implicit_lambda% (pe_op op_sub (no_implicit_lambda% (pv 0)) (no_implicit_lambda% (pe_op op_pow pe_int pe_int)))) (no_implicit_lambda% (pv 1)))) (no_implicit_lambda% (pe_op op_pow pe_int pe_int)))))))) pss_nil))
        (no_implicit_lambda% (pss_one (no_implicit_lambda% (ps_ret (no_implicit_lambda% (pe_op op_add (no_implicit_lambda% (pv 0)) pe_int)))))))), ?_⟩
    walk_at "rd"
    refine ite2 (fun h => ?_) (fun h => ?_)
    · walk_at "rd"
      exact q _
    · walk_at "rd"
      exact q _
noncomputable def keyL : List V → List Key
  | [.int a, .str b, .int c, .str d] => [.inl a, .inr b, .inl c, .inr d]
  | _ => []
noncomputable def keyV (H : Hp) : V → List Key
  | .ref p => match H p with
    | some (.tup xs) => keyL xs
    | _ => []
  | _ => []
theorem key_tup {H : Hp} {p : Addr} {xs : List V} (h : H p = some (.tup xs)) : keyV H (.ref p) = keyL xs := by
  unfold keyV
  dsimp only
  rw [h]
theorem way_of {H : Hp} {m : Int} {v : V} (h : wayV H m v = true) : ∃ p a b c d, v = .ref p ∧ H p = some (.tup [.int a, .str b, .int c, .str d]) ∧ (0 ≤ a ∧ a < m) ∧ (0 ≤ c ∧ c < m) ∧ deedV (.str b) = true ∧ signV (.str d) = true := by
  cases ht : isTup H v with
  | false => rw [way_no ht] at h; cases h
  | true =>
    obtain ⟨p, xs, rfl, hp⟩ := isTup_of ht
    rw [way_tup hp] at h
    by_cases h4 : xs.length = 4
    · obtain ⟨a, b, c, d, rfl⟩ := four h4
      unfold wayL at h
      simp only [Bool.and_eq_true] at h
      obtain ⟨h1, h2, h3, h5⟩ := h
      cases a with
      | int i =>
        cases c with
        | int j =>
          cases b with
          | str y =>
            cases d with
            | str z =>
              unfold roomV at h1 h2
              simp only [Bool.and_eq_true, decide_eq_true_eq] at h1 h2
              exact ⟨p, i, y, j, z, rfl, hp, h1, h2, h3, h5⟩
            | _ => cases h5
          | _ => cases h3
        | _ => cases h2
      | _ => cases h1
    · rw [wayL_len h4] at h
      cases h
theorem ways_keys {H : Hp} {m : Int} : ∀ {xs : List V}, xs.all (wayV H m) = true → ∃ bs : List Addr, xs = bs.map V.ref ∧ KeysAt H bs (xs.map (keyV H))
  | [], _ => ⟨[], rfl, rfl, fun j b k e => by simp at e⟩
  | x :: xs, h => by
    rw [List.all_cons, Bool.and_eq_true] at h
    obtain ⟨bs, e, h1, h2⟩ := ways_keys h.2
    obtain ⟨p, a, b, c, d, rfl, hp, _⟩ := way_of h.1
    refine ⟨p :: bs, by rw [List.map_cons, ← e], by rw [List.length_cons, List.map_cons, List.length_cons, h1], fun j b' k e1 e2 => ?_⟩
    cases j with
    | zero =>
      cases e1
      rw [List.map_cons, key_tup hp] at e2
      cases e2
      exact hp
    | succ j => exact h2 j b' k e1 e2
theorem wayV_ext {H H' : Hp} {m : Int} {n : Nat} {v : V} (e : Ext H H') (h : Thg H n v) : wayV H' m v = wayV H m v := by
  cases v with
  | ref p =>
    cases n with
    | zero => exact h.elim
    | succ n =>
      obtain ⟨xs, h1, _⟩ := h
      unfold wayV
      dsimp only
      rcases h1 with h1 | h1 <;> rw [h1, e _ _ h1]
  | _ => rfl
noncomputable def waysL (H : Hp) (m : Int) (xs : List V) : Bool := decide (xs.length ≤ 100) && (xs.all (wayV H m) && decide (xs.map (keyV H)).Nodup)
noncomputable def waysV (H : Hp) (m : Int) : V → Bool
  | .ref p => match H p with
    | some (.tup xs) => waysL H m xs
    | _ => false
  | _ => false
theorem ways_no {H : Hp} {m : Int} {v : V} (h : isTup H v = false) : waysV H m v = false := by
  cases v with
  | ref p =>
    unfold isTup at h
    unfold waysV
    dsimp only at h ⊢
    split
    · rename_i xs e
      rw [e] at h
      cases h
    · rfl
  | _ => rfl
theorem ways_tup {H : Hp} {m : Int} {p : Addr} {xs : List V} (h : H p = some (.tup xs)) : waysV H m (.ref p) = waysL H m xs := by
  unfold waysV
  dsimp only
  rw [h]
open Classical in
theorem len_le {α : Type} : ∀ {D l : List α}, D.Nodup → (∀ k ∈ D, k ∈ l) → D.length ≤ l.length
  | [], l, _, _ => Nat.zero_le _
  | d :: D, l, hn, hs => by
    have hn' := List.nodup_cons.mp hn
    have hm := hs d List.mem_cons_self
    have := len_le (D := D) (l := l.erase d) hn'.2 fun k hk => (List.mem_erase_of_ne (by rintro rfl; exact hn'.1 hk)).mpr (hs k (List.mem_cons_of_mem _ hk))
    rw [List.length_erase_of_mem hm] at this
    have h0 : 0 < l.length := List.length_pos_of_mem hm
    rw [List.length_cons]
    omega
theorem nodup_iff {α : Type} {D l : List α} (hn : D.Nodup) (hm : ∀ k, k ∈ D ↔ k ∈ l) : D.length = l.length ↔ l.Nodup := by
  constructor
  · intro e
    exact (perm_by hn (fun k hk => (hm k).mp hk) e.symm).nodup_iff.mpr hn
  · intro hl
    have h1 := len_le hn fun k hk => (hm k).mp hk
    have h2 := len_le hl fun k hk => (hm k).mpr hk
    omega
noncomputable def sp_are_ways (K : PySem.W.Frag) : Sp := fun vs H Q _ => ∃ v m, vs = [v, .int m] ∧ Thg H 3 v ∧ ∀ H', Ext H H' → Q (.bl (waysV H m v)) H'
noncomputable abbrev s_are_ways : Stmt := stq 25
theorem sc_are_ways : FnScope ["thing", "many"] ["thing", "many"] (defScope s_are_ways) := ⟨rfl, rfl, rfl, by decide +kernel, rfl, by decide +kernel, by decide +kernel⟩
theorem ok_are_ways {P : Program} {w : World} {K : PySem.W.Frag} {mg : Str → Option Value} {base : Heap} (D : Dfn K mg "are_ways" s_are_ways ["thing", "many"]) (T : Blt mg) (g_GREATEST_WAYS : ∃ t, mg "GREATEST_WAYS" = some (.int 100 t)) (C_is_way : Cal P w K mg base "is_way" 3 ["thing", "many"] (sp_is_way K)) : Cal P w K mg base "are_ways" 4 ["thing", "many"] (sp_are_ways K) := by
  have nd := (sc_are_ways).nd
  refine D.ok sc_are_ways (fun vs H Q E h => ?_) (fun X hX H vs Q E h => ?_)
  · obtain ⟨p, m, rfl, _⟩ := h; rfl
  · obtain ⟨f, cdv, A, outer, s, H0, E0, rfl, hr⟩ := hX
    obtain ⟨t_GREATEST_WAYS, c_GREATEST_WAYS⟩ := g_GREATEST_WAYS
    obtain ⟨v, m, rfl, ht, q⟩ := h
    obtain ⟨n, hk⟩ := ht.kind
    refine ⟨_, (no_implicit_lambda% (pss_cons (no_implicit_lambda% (ps_if (no_implicit_lambda% (PW.pt (pw_or (no_implicit_lambda% (pt_not (no_implicit_lambda% (pt_val (no_implicit_lambda% (pe_callB call_isi rfl T.isinstance_ PyProof.Rows.boot_isinstance (no_implicit_lambda% (pa_cons (no_implicit_lambda% (pv 0)) (no_implicit_lambda% (pa_cons (no_implicit_lambda% (pe_bltn (v := .ty "tuple") rfl T.tuple_ PyProof.Rows.boot_tuple rfl)) pa_nil)))))))))) (pw_or1 (no_implicit_lambda% (pt_cmpR op_gt (no_implicit_lambda% (pe_callB (call_lenK K) rfl T.len_ PySem.boot_len (no_implicit_lambda% (pa_cons (no_implicit_lambda% (pv 0)) pa_nil)))) (no_implicit_lambda% (pe_glob (v := .int 100) rfl c_GREATEST_WAYS ⟨_, rfl⟩)) (nomark _))))))) (no_implicit_lambda% (pss_one (no_implicit_lambda% (ps_ret pe_bl)))) pss_nil))
        (no_implicit_lambda% (pss_one (no_implicit_lambda% (ps_ret (no_implicit_lambda% (pe_and (no_implicit_lambda% (pe_callB (call_allL K rfl) rfl T.all_ PyProof.Rows.boot_all (no_implicit_lambda% (pa_cons (no_implicit_lambda% (pe_comp ["way"] [1] (no_implicit_lambda% (pi_tupK K (no_implicit_lambda% (pv 0)))) (fun _ => (no_implicit_lambda% (pg_name (i := 0) (show (["way", "many"] : List Str).Nodup from by decide +kernel) rfl (Or.inl rfl) (Or.inr rfl)))) (fun _ => pcs_nil) (fun _ => (no_implicit_lambda% (pe_cal C_is_way hr (no_implicit_lambda% (pa_cons (no_implicit_lambda% (pv 0)) (no_implicit_lambda% (pa_cons (no_implicit_lambda% (pv 1)) pa_nil))))))))) pa_nil)))) (pe_one (no_implicit_lambda% (pe_cmpR op_eq (no_implicit_lambda% (pe_callB call_lenSD rfl T.len_ PySem.boot_len (no_implicit_lambda% (pa_cons (no_implicit_lambda% (pe_callTy (call_setD hr) rfl T.set_ PyProof.Rows.boot_set (no_implicit_lambda% (pa_cons (no_implicit_lambda% (pv 0)) pa_nil)))) pa_nil)))) (no_implicit_lambda% (pe_callB (call_lenK K) rfl T.len_ PySem.boot_len (no_implicit_lambda% (pa_cons (no_implicit_lambda% (pv 0)) pa_nil)))) (nomark _)))))))))))), ?_⟩
    walk_at "rd"
    refine rd_isi hk (kind_tuple hk) ?_
    walk_at "rd"
    cases hv : isTup H v with
    | false =>
      refine iteT ?_
      walk_at "rd"
      rw [ways_no hv] at q
      exact q H fun _ _ z => z
    | true =>
      refine iteF ?_
      obtain ⟨p, xs, rfl, hp⟩ := isTup_of hv
      obtain ⟨hx1, hx2⟩ := ht.items hp
      rw [ways_tup hp] at q
      unfold waysL at q
      walk_at "rd"
      refine rd_lenT (SqT.of hp) ?_
      walk_at "rd"
      by_cases h4 : xs.length ≤ 100
      · rw [decide_eq_false (show ¬ ((100 : Int) < ((xs.length : Nat) : Int)) by omega)]
        rw [decide_eq_true h4, Bool.true_and] at q
        refine iteF ?_
        walk_at "rd"
        refine rd_iTx (SqT.of hp) ?_
        refine comp_tup (xs := xs) (fun i ys H' => Ext H H' ∧ ys = ((xs.take i).map (wayV H m)).map V.bl) (small9 hx1) ⟨fun _ _ z => z, rfl⟩ (fun i ys H' hi h => ⟨SqT.of (h.1 _ _ hp), by rw [h.2, List.length_map, List.length_map, List.length_take]; omega⟩) ?_ ?_
        · rintro i x ys H' hx ⟨e, rfl⟩
          have hxt := hx2 x (List.mem_of_getElem? hx)
          walk_at "rd"
          refine iteT ?_
          walk_at "rd"
          refine ⟨x, m, rfl, hxt.ext e, e, ?_⟩
          rw [wayV_ext e hxt, List.take_add_one, hx]
          simp
        · rintro ys H' pl ⟨e, rfl⟩ hpl
          rw [List.take_length]
          walk_at "rd"
          have eN : Ext H (upd H' pl (.lst ((xs.map (wayV H m)).map V.bl))) := e.trans (ext_upd hpl)
          refine ⟨pl, xs.map (wayV H m), rfl, SqL.of upd_same, ?_⟩
          have ea : (xs.map (wayV H m)).all id = xs.all (wayV H m) := by
            rw [List.all_map]
            rfl
          rw [ea]
          walk_at "rd"
          cases hall : xs.all (wayV H m) with
          | false =>
            refine iteF ?_
            rw [hall, Bool.false_and] at q
            exact q _ eN
          | true =>
            refine iteT ?_
            rw [hall, Bool.true_and] at q
            obtain ⟨bs, ebs, hka⟩ := ways_keys hall
            generalize upd H' pl (.lst ((xs.map (wayV H m)).map V.bl)) = H2 at eN ⊢
            walk_at "rd"
            refine ⟨p, bs, xs.map (keyV H), rfl, .inl (by rw [← ebs]; exact eN _ _ hp), hka.ext eN, by rw [List.length_map]; omega, fun l L hl hnd hmem hL => ?_⟩
            have hll : L.length ≤ xs.length := by
              have := len_le hnd fun k hk => (hmem k).mp hk
              rwa [List.length_map, List.length_map] at this
            walk_at "rd"
            refine ⟨l, L, rfl, upd_same, by omega, ?_⟩
            walk_at "rd"
            have eL : Ext H (upd H2 l (setK P w l L)) := eN.trans (ext_upd hl)
            refine rd_lenT (SqT.of (eL _ _ hp)) ?_
            walk_at "rd"
            have hiff := nodup_iff hnd hmem
            rw [List.length_map, List.length_map] at hiff
            have eb : decide ((((L.length : Nat) : Int)) = ((xs.length : Nat) : Int)) = decide ((xs.map (keyV H)).Nodup) := by
              by_cases hq : (xs.map (keyV H)).Nodup
              · rw [decide_eq_true (show ((L.length : Nat) : Int) = ((xs.length : Nat) : Int) by have := hiff.mpr hq; omega)]
                exact (decide_eq_true hq).symm
              · rw [decide_eq_false (show ¬ ((L.length : Nat) : Int) = ((xs.length : Nat) : Int) from fun z => hq (hiff.mp (by omega)))]
                exact (decide_eq_false hq).symm
            rw [eb]
            exact q _ eL
      · rw [decide_eq_true (show ((100 : Int) < ((xs.length : Nat) : Int)) by omega)]
        rw [decide_eq_false h4, Bool.false_and] at q
        refine iteT ?_
        walk_at "rd"
        exact q H fun _ _ z => z
noncomputable def houseL (H : Hp) : List V → Bool
  | [.int m, q] => decide (1 ≤ m) && (decide (m ≤ 12) && waysV H m q)
  | _ => false
noncomputable def houseV (H : Hp) : V → Bool
  | .ref p => match H p with
    | some (.tup xs) => houseL H xs
    | _ => false
  | _ => false
theorem house_no {H : Hp} {v : V} (h : isTup H v = false) : houseV H v = false := by
  cases v with
  | ref p =>
    unfold isTup at h
    unfold houseV
    dsimp only at h ⊢
    split
    · rename_i xs e
      rw [e] at h
      cases h
    · rfl
  | _ => rfl
theorem house_tup {H : Hp} {p : Addr} {xs : List V} (h : H p = some (.tup xs)) : houseV H (.ref p) = houseL H xs := by
  unfold houseV
  dsimp only
  rw [h]
theorem houseL_len {H : Hp} {xs : List V} (h : xs.length ≠ 2) : houseL H xs = false := by
  unfold houseL
  split
  · exact absurd rfl h
  · rfl
theorem houseL_int {H : Hp} {a b : V} (h : isInt a = false) : houseL H [a, b] = false := by
  cases a <;> first | rfl | cases h
theorem two_of {xs : List V} (h : xs.length = 2) : ∃ a b, xs = [a, b] := by
  match xs, h with
  | [a, b], _ => exact ⟨a, b, rfl⟩
noncomputable def sp_is_house (K : PySem.W.Frag) : Sp := fun vs H Q _ => ∃ v, vs = [v] ∧ Thg H 4 v ∧ ∀ H', Ext H H' → Q (.bl (houseV H v)) H'
noncomputable abbrev s_is_house : Stmt := stq 26
theorem sc_is_house : FnScope ["thing"] ["thing"] (defScope s_is_house) := ⟨rfl, rfl, rfl, by decide +kernel, rfl, by decide +kernel, by decide +kernel⟩
theorem ok_is_house {P : Program} {w : World} {K : PySem.W.Frag} {mg : Str → Option Value} {base : Heap} (D : Dfn K mg "is_house" s_is_house ["thing"]) (T : Blt mg) (g_GREATEST_MANY : ∃ t, mg "GREATEST_MANY" = some (.int 12 t)) (C_are_ways : Cal P w K mg base "are_ways" 4 ["thing", "many"] (sp_are_ways K)) (C_is_whole : Cal P w K mg base "is_whole" 1 ["thing"] (sp_is_whole K)) : Cal P w K mg base "is_house" 5 ["thing"] (sp_is_house K) := by
  have nd := (sc_is_house).nd
  refine D.ok sc_is_house (fun vs H Q E h => ?_) (fun X hX H vs Q E h => ?_)
  · obtain ⟨p, rfl, _⟩ := h; rfl
  · obtain ⟨f, cdv, A, outer, s, H0, E0, rfl, hr⟩ := hX
    obtain ⟨t_GREATEST_MANY, c_GREATEST_MANY⟩ := g_GREATEST_MANY
    obtain ⟨v, rfl, ht, q⟩ := h
    obtain ⟨n, hk⟩ := ht.kind
    refine ⟨_, (no_implicit_lambda% (pss_cons (no_implicit_lambda% (ps_if (no_implicit_lambda% (PW.pt (pw_or (no_implicit_lambda% (pt_not (no_implicit_lambda% (pt_val (no_implicit_lambda% (pe_callB call_isi rfl T.isinstance_ PyProof.Rows.boot_isinstance (no_implicit_lambda% (pa_cons (no_implicit_lambda% (pv 0)) (no_implicit_lambda% (pa_cons (no_implicit_lambda% (pe_bltn (v := .ty "tuple") rfl T.tuple_ PyProof.Rows.boot_tuple rfl)) pa_nil)))))))))) (pw_or1 (no_implicit_lambda% (pt_cmpR op_ne (no_implicit_lambda% (pe_callB (call_lenK K) rfl T.len_ PySem.boot_len (no_implicit_lambda% (pa_cons (no_implicit_lambda% (pv 0)) pa_nil)))) pe_int (nomark _))))))) (no_implicit_lambda% (pss_one (no_implicit_lambda% (ps_ret pe_bl)))) pss_nil))
        (no_implicit_lambda% (pss_one (no_implicit_lambda% (ps_ret (no_implicit_lambda% (pe_and (no_implicit_lambda% (pe_cal C_is_whole hr (no_implicit_lambda% (pa_cons (no_implicit_lambda% (pe_ix (ix_tupK K) (no_implicit_lambda% (pv 0)) pe_int (fun _ _ => rfl))) pa_nil)))) (pe_and (no_implicit_lambda% (pe_chain op_le op_le pe_int (no_implicit_lambda% (pe_ix (ix_tupK K) (no_implicit_lambda% (pv 0)) pe_int (fun _ _ => rfl))) (no_implicit_lambda% (pe_glob (v := .int 12) rfl c_GREATEST_MANY ⟨_, rfl⟩)))) (pe_one (no_implicit_lambda% (pe_cal C_are_ways hr (no_implicit_lambda% (pa_cons (no_implicit_lambda% (pe_ix (ix_tupK K) (no_implicit_lambda% (pv 0)) pe_int (fun _ _ => rfl))) (no_implicit_lambda% (pa_cons (no_implicit_lambda% (pe_ix (ix_tupK K) (no_implicit_lambda% (pv 0)) pe_int (fun _ _ => rfl))) pa_nil)))))))))))))))), ?_⟩
    walk_at "rd"
    refine rd_isi hk (kind_tuple hk) ?_
    walk_at "rd"
    cases hv : isTup H v with
    | false =>
      refine iteT ?_
      walk_at "rd"
      rw [house_no hv] at q
      exact q H fun _ _ z => z
    | true =>
      refine iteF ?_
      obtain ⟨p, xs, rfl, hp⟩ := isTup_of hv
      obtain ⟨hx1, hx2⟩ := ht.items hp
      rw [house_tup hp] at q
      walk_at "rd"
      refine rd_lenT (SqT.of hp) ?_
      walk_at "rd"
      by_cases h4 : xs.length = 2
      · obtain ⟨a, b, rfl⟩ := two_of h4
        have ta := hx2 a (by simp)
        have tb := hx2 b (by simp)
        obtain ⟨ka, hka⟩ := ta.kind
        refine iteF ?_
        walk_at "rd"
        refine rd_ixT (SqT.of hp) (v := a) rfl ?_
        walk_at "rd"
        refine ⟨a, ka, rfl, hka, ?_⟩
        refine rd_exb ?_
        cases ha : isInt a with
        | false =>
          refine iteF ?_
          rw [houseL_int ha] at q
          exact q H fun _ _ z => z
        | true =>
          obtain ⟨m, rfl⟩ := isInt_of ha
          refine iteT ?_
          unfold houseL at q
          dsimp only at q
          walk_at "rd"
          refine rd_ixT (SqT.of hp) (v := .int m) rfl ?_
          walk_at "rd"
          cases h1 : decide (1 ≤ m) with
          | false =>
            refine iteF ?_
            walk_at "rd"
            refine iteF ?_
            rw [h1] at q
            exact q H fun _ _ z => z
          | true =>
            refine iteT ?_
            walk_at "rd"
            rw [h1, Bool.true_and] at q
            cases h2 : decide (m ≤ 12) with
            | false =>
              refine iteF ?_
              rw [h2] at q
              exact q H fun _ _ z => z
            | true =>
              refine iteT ?_
              walk_at "rd"
              refine rd_ixT (SqT.of hp) (v := b) rfl ?_
              walk_at "rd"
              refine rd_ixT (SqT.of hp) (v := .int m) rfl ?_
              walk_at "rd"
              rw [h2, Bool.true_and] at q
              exact ⟨b, m, rfl, tb, q⟩
      · rw [houseL_len h4] at q
        rw [decide_eq_false (show ¬ ((xs.length : Nat) : Int) = 2 by omega)]
        refine iteT ?_
        walk_at "rd"
        exact q H fun _ _ z => z
noncomputable def WaysAt (H : Hp) (p : Addr) (kk : List (List Key)) : Prop := ∃ bs : List Addr, H p = some (.tup (bs.map V.ref)) ∧ bs.length = kk.length ∧ ∀ (j : Nat) (b : Addr) (k : List Key), bs[j]? = some b → kk[j]? = some k → H b = some (.tup (k.map kV))
theorem WaysAt.ext {H H' : Hp} {p : Addr} {kk : List (List Key)} (e : Ext H H') (h : WaysAt H p kk) : WaysAt H' p kk := by
  obtain ⟨bs, h1, h2, h3⟩ := h
  exact ⟨bs, e _ _ h1, h2, fun j b k e1 e2 => e _ _ (h3 j b k e1 e2)⟩
structure Way where
  room : Int
  deed : Str
  other : Int
  sign : Str
  deriving DecidableEq
noncomputable abbrev Way.key (w : Way) : List Key := [.inl w.room, .inr w.deed, .inl w.other, .inr w.sign]
noncomputable abbrev Way.vs (w : Way) : List V := [.int w.room, .str w.deed, .int w.other, .str w.sign]
theorem Way.key_inj {w u : Way} (h : w.key = u.key) : w = u := by
  cases w; cases u
  simp only [Way.key, List.cons.injEq, Sum.inl.injEq, Sum.inr.injEq] at h
  obtain ⟨rfl, rfl, rfl, rfl, _⟩ := h
  rfl
noncomputable def okSign (z : Str) : Prop := ∃ c : Nat, 97 ≤ c ∧ c ≤ 122 ∧ z = ⟨#[c]⟩
noncomputable def okDeed (z : Str) : Prop := z = "up" ∨ z = "down" ∨ z = "stay" ∨ z = "zero"
structure Way.Ok (m : Int) (w : Way) : Prop where
  r0 : 0 ≤ w.room
  r1 : w.room < m
  o0 : 0 ≤ w.other
  o1 : w.other < m
  dd : okDeed w.deed
  sg : okSign w.sign
structure HOuse (m : Int) (ws : List Way) : Prop where
  m1 : 1 ≤ m
  m12 : m ≤ 12
  few : ws.length ≤ 100
  ok : ∀ w ∈ ws, w.Ok m
  nd : ws.Nodup
noncomputable def HouseAt (H : Hp) (v : V) (m : Int) (ws : List Way) : Prop := ∃ p q, v = .ref p ∧ H p = some (.tup [.int m, .ref q]) ∧ WaysAt H q (ws.map Way.key)
theorem HouseAt.ext {H H' : Hp} {v : V} {m : Int} {ws : List Way} (e : Ext H H') (h : HouseAt H v m ws) : HouseAt H' v m ws := by
  obtain ⟨p, q, rfl, h1, h2⟩ := h
  exact ⟨p, q, rfl, e _ _ h1, h2.ext e⟩
theorem kind_tup {H : Hp} {p : Addr} {xs : List V} (h : H p = some (.tup xs)) : kindV H (.ref p) "tuple" := .inr ⟨rfl, xs, h⟩
theorem WaysAt.item {H : Hp} {ws : List Way} {bs : List Addr} (h : ∀ (j : Nat) (b : Addr) (k : List Key), bs[j]? = some b → (ws.map Way.key)[j]? = some k → H b = some (.tup (k.map kV))) {j : Nat} {b : Addr} {w : Way} (e1 : bs[j]? = some b) (e2 : ws[j]? = some w) : H b = some (.tup w.vs) :=
  h j b w.key e1 (by rw [List.getElem?_map, e2]; rfl)
noncomputable def AlW (H : Hp) (bs : List Addr) (ws : List Way) : Prop := bs.length = ws.length ∧ ∀ (j : Nat) (b : Addr) (w : Way), bs[j]? = some b → ws[j]? = some w → H b = some (.tup w.vs)
theorem AlW.ext {H H' : Hp} {bs : List Addr} {ws : List Way} (e : Ext H H') (h : AlW H bs ws) : AlW H' bs ws := ⟨h.1, fun j b w e1 e2 => e _ _ (h.2 j b w e1 e2)⟩
theorem AlW.put {H : Hp} {f : Addr} {xs ys : List V} {bs : List Addr} {ws : List Way} (hf : H f = some (.lst xs)) (h : AlW H bs ws) : AlW (upd H f (.lst ys)) bs ws := ⟨h.1, fun j b w e1 e2 => by
  have := h.2 j b w e1 e2
  rw [upd_ne (ne_of this hf (by intro z; cases z))]
  exact this⟩
theorem AlW.nil (H : Hp) : AlW H [] [] := ⟨rfl, fun j b w e => by simp at e⟩
theorem AlW.snoc {H : Hp} {bs : List Addr} {ws : List Way} {b : Addr} {w : Way} (h : AlW H bs ws) (hb : H b = some (.tup w.vs)) : AlW H (bs ++ [b]) (ws ++ [w]) := by
  refine ⟨by simp [h.1], fun j b' w' e1 e2 => ?_⟩
  rcases Nat.lt_or_ge j bs.length with hj | hj
  · rw [List.getElem?_append_left hj] at e1
    rw [List.getElem?_append_left (by rw [← h.1]; exact hj)] at e2
    exact h.2 j b' w' e1 e2
  · rw [List.getElem?_append_right hj] at e1
    rw [List.getElem?_append_right (by rw [← h.1]; exact hj), ← h.1] at e2
    cases hk : j - bs.length with
    | zero =>
      rw [hk] at e1 e2
      cases e1; cases e2
      exact hb
    | succ k => rw [hk] at e1; simp at e1
theorem AlW.ways {H : Hp} {p : Addr} {bs : List Addr} {ws : List Way} (h : AlW H bs ws) (hp : H p = some (.tup (bs.map V.ref))) : WaysAt H p (ws.map Way.key) :=
  ⟨bs, hp, by rw [List.length_map]; exact h.1, fun j b k e1 e2 => by
    rw [List.getElem?_map] at e2
    obtain ⟨w, hw, rfl⟩ := Option.map_eq_some_iff.mp e2
    exact h.2 j b w e1 hw⟩
theorem WaysAt.al {H : Hp} {p : Addr} {ws : List Way} (h : WaysAt H p (ws.map Way.key)) : ∃ bs : List Addr, H p = some (.tup (bs.map V.ref)) ∧ AlW H bs ws := by
  obtain ⟨bs, h1, h2, h3⟩ := h
  rw [List.length_map] at h2
  exact ⟨bs, h1, h2, fun j b w e1 e2 => WaysAt.item h3 e1 e2⟩
noncomputable abbrev Way.D (w : Way) : PyData := .tuple [.int w.room, .str w.deed, .int w.other, .str w.sign]
structure Way.Lay (w : Way) : Prop where
  d : (PyData.str w.deed).canLay0 = true
  s : (PyData.str w.sign).canLay0 = true
theorem sign_lay : ∀ c : Fin 123, 97 ≤ c.1 → (PyData.str ⟨#[c.1]⟩).canLay0 = true := by decide +kernel
theorem Way.Ok.lay {m : Int} {w : Way} (h : w.Ok m) : w.Lay := by
  constructor
  · rcases h.dd with e | e | e | e <;> rw [e] <;> decide +kernel
  · obtain ⟨c, h1, h2, e⟩ := h.sg
    rw [e]
    exact sign_lay ⟨c, Nat.lt_succ_of_le h2⟩ h1
theorem Way.rep {H : Hp} {b : Addr} {w : Way} (h : H b = some (.tup w.vs)) (l : w.Lay) : RepD H 1 (.ref b) w.D :=
  .inr ⟨b, w.vs, _, rfl, .inl ⟨h, rfl⟩, .cons rfl (.cons ⟨rfl, l.d⟩ (.cons rfl (.cons ⟨rfl, l.s⟩ .nil)))⟩
theorem Way.eqv (w u : Way) : PyData.eqv w.D u.D = decide (w = u) := by
  simp only [PyData.eqv, PyData.eqvAll]
  by_cases h : w = u
  · subst h; simp
  · rw [decide_eq_false h]
    obtain ⟨a, b, c, d⟩ := w
    obtain ⟨a', b', c', d'⟩ := u
    simp only [Way.mk.injEq, not_and] at h
    simp only [Bool.and_true, Bool.and_eq_false_iff, beq_eq_false_iff_ne]
    by_cases h1 : a = a'
    · by_cases h2 : b = b'
      · by_cases h3 : c = c'
        · exact .inr (.inr (.inr (h h1 h2 h3)))
        · exact .inr (.inr (.inl h3))
      · exact .inr (.inl h2)
    · exact .inl h1
theorem AlW.reps {H : Hp} : ∀ {bs : List Addr} {ws : List Way}, AlW H bs ws → (∀ w ∈ ws, w.Lay) → Paired (RepD H 1) (bs.map V.ref) (ws.map Way.D)
  | [], [], _, _ => .nil
  | [], _ :: _, h, _ => by cases h.1
  | _ :: _, [], h, _ => by cases h.1
  | b :: bs, w :: ws, h, l => .cons (Way.rep (h.2 0 b w rfl rfl) (l w List.mem_cons_self)) (AlW.reps ⟨Nat.succ.inj h.1, fun j b w e1 e2 => h.2 (j + 1) b w e1 e2⟩ fun u hu => l u (List.mem_cons_of_mem _ hu))
theorem any_mem (ws : List Way) (w : Way) : ((ws.map Way.D).any fun e => PyData.eqv e w.D) = decide (w ∈ ws) := by
  rw [List.any_map]
  induction ws with
  | nil => rfl
  | cons u ws ih =>
    rw [List.any_cons, ih, Function.comp_apply, Way.eqv]
    by_cases h : w ∈ ws
    · simp [h]
    · by_cases e : u = w
      · simp [e]
      · have : ¬ w = u := fun z => e z.symm
        simp [h, e, this]
noncomputable def sp__law_unlike (K : PySem.W.Frag) : Sp := fun vs H Q _ => ∃ l bs ws, vs = [.ref l] ∧ H l = some (.lst (bs.map V.ref)) ∧ AlW H bs ws ∧ (∀ w ∈ ws, Way.Lay w) ∧ ws.length ≤ 200 ∧
  ∀ q H' us, Ext H H' → WaysAt H' q (List.map Way.key us) → us.Nodup → (∀ u ∈ us, u ∈ ws) → us.length ≤ ws.length → Q (.ref q) H'
noncomputable abbrev s__law_unlike : Stmt := stq 45
theorem sc__law_unlike : FnScope ["_law_ways", "_law_found", "_law_way"] ["_law_ways"] (defScope s__law_unlike) := ⟨rfl, rfl, rfl, by decide +kernel, rfl, by decide +kernel, by decide +kernel⟩
theorem ok__law_unlike {P : Program} {w : World} {K : PySem.W.Frag} {mg : Str → Option Value} {base : Heap} (D : Dfn K mg "_law_unlike" s__law_unlike ["_law_ways"]) (T : Blt mg) : Cal P w K mg base "_law_unlike" 1 ["_law_ways"] (sp__law_unlike K) := by
  have nd := (sc__law_unlike).nd
  refine D.ok sc__law_unlike (fun vs H Q E h => ?_) (fun X hX H vs Q E h => ?_)
  · obtain ⟨l, bs, ws, rfl, _⟩ := h; rfl
  · obtain ⟨f, cdv, A, outer, s, H0, E0, rfl, hr⟩ := hX
    obtain ⟨l, bs, ws, rfl, hl, al, lay, hlen, q⟩ := h
    refine ⟨_, (no_implicit_lambda% (pss_cons (no_implicit_lambda% (ps_set (i := 1) nd rfl (Or.inl rfl) (no_implicit_lambda% (pe_lst pa_nil))))
        (no_implicit_lambda% (pss_cons (no_implicit_lambda% (ps_for PassesOwn.never rfl (no_implicit_lambda% (pi_listK K (no_implicit_lambda% (pv 0)))) (no_implicit_lambda% (pg_name (i := 2) nd rfl (Or.inl rfl))) (no_implicit_lambda% (pss_one (no_implicit_lambda% (ps_ifJ (no_implicit_lambda% (pt_cmpR (op_notInD hr) (no_implicit_lambda% (pv 2)) (no_implicit_lambda% (pv 1)) (by with_unfolding_all rfl))) (no_implicit_lambda% (pss_one (no_implicit_lambda% (ps_expr (no_implicit_lambda% (pe_bmK K PySem.F.plainAttrs_list PySem.F.slot_list_append PySem.F.type_list_append mt_append (no_implicit_lambda% (pv 1)) (no_implicit_lambda% (pa_cons (no_implicit_lambda% (pv 2)) pa_nil)))))))) pss_nil))))))
        (no_implicit_lambda% (pss_one (no_implicit_lambda% (ps_ret (no_implicit_lambda% (pe_callTy (call_tupK K) rfl T.tuple_ PyProof.Rows.boot_tuple (no_implicit_lambda% (pa_cons (no_implicit_lambda% (pv 1)) pa_nil)))))))))))), ?_⟩
    walk_at "rd"
    refine ⟨small_line (by simp), rd_new fun f H1 e1 hf hfn => ?_⟩
    walk_at "rd"
    refine rd_iLx (SqL.of (e1 _ _ hl)) ?_
    refine forL (xs := bs.map V.ref) (fun i σ H2 => Ext H H2 ∧ ∃ (k : Option V) (cs : List Addr) (us : List Way), σ = [some (.ref l), some (.ref f), k] ∧ H2 f = some (.lst (cs.map V.ref)) ∧ AlW H2 cs us ∧ us.Nodup ∧ (∀ u ∈ us, u ∈ ws) ∧ us.length ≤ i)
      ⟨e1, none, [], [], rfl, hf, AlW.nil _, List.nodup_nil, fun u hu => by simp at hu, Nat.le_refl _⟩ (fun i σ H2 _ h => SqL.of (h.1 _ _ hl)) ?_ ?_
    · rintro i x σ H2 hx ⟨e2, k, cs, us, rfl, hf2, al2, nd2, sub2, len2⟩
      rw [List.getElem?_map] at hx
      obtain ⟨b, hb, rfl⟩ := Option.map_eq_some_iff.mp hx
      have hi : i < ws.length := by
        rw [← al.1]
        exact (List.getElem?_eq_some_iff.mp hb).1
      have hwi : ws[i]? = some ws[i] := List.getElem?_eq_getElem hi
      have hbw := e2 _ _ (al.2 i b _ hb hwi)
      walk_at "rd"
      refine rd_ifN ?_
      walk_at "rd"
      refine rd_inD (Way.rep hbw (lay _ (List.getElem_mem hi))) hf2 (al2.reps fun u hu => lay u (sub2 u hu)) (by decide) ?_
      simp only [if_true, any_mem]
      refine rd_exb ?_
      by_cases hm : ws[i] ∈ us
      · rw [decide_eq_true hm]
        refine iteF ?_
        walk_at "rd"
        exact ⟨e2, _, cs, us, rfl, hf2, al2, nd2, sub2, by omega⟩
      · rw [decide_eq_false hm]
        refine iteT ?_
        walk_at "rd"
        refine ⟨rd_tyL (SqL.of hf2), ?_⟩
        walk_at "rd"
        refine rd_append hf2 (by rw [List.length_map, al2.1]; exact Nat.lt_of_le_of_lt (show us.length ≤ 1000 by omega) (by decide)) ?_
        walk_at "rd"
        refine ⟨ext_write e2 hfn, _, cs ++ [b], us ++ [ws[i]], rfl, by rw [upd_same, List.map_append]; rfl, (al2.put hf2).snoc ?_, ?_, ?_, by simp; omega⟩
        · rw [upd_ne (ne_of hbw hf2 (by intro z; cases z))]
          exact hbw
        · rw [List.nodup_append]
          exact ⟨nd2, by simp, fun a ha c hc => by rw [List.mem_singleton.mp hc]; exact fun z => hm (z ▸ ha)⟩
        · intro u hu
          rcases List.mem_append.mp hu with hu | hu
          · exact sub2 u hu
          · rw [List.mem_singleton.mp hu]; exact List.getElem_mem hi
    · rintro σ H2 ⟨e2, k, cs, us, rfl, hf2, al2, nd2, sub2, len2⟩
      walk_at "rd"
      refine rd_tupL (SqL.of hf2) (rd_new fun p H3 e3 hp _ => ?_)
      exact q p H3 us (e2.trans e3) ((al2.ext e3).ways hp) nd2 sub2 (by rw [List.length_map, al.1] at len2; exact len2)
noncomputable def okSign3 (z : Str) : Prop := ∃ c : Nat, 97 ≤ c ∧ c ≤ 99 ∧ z = ⟨#[c]⟩
structure Way.Ok3 (m : Int) (w : Way) : Prop where
  r0 : 0 ≤ w.room
  r1 : w.room < m
  o0 : 0 ≤ w.other
  o1 : w.other < m
  dd : okDeed w.deed
  sg : okSign3 w.sign
structure HOuse3 (m : Int) (ws : List Way) : Prop where
  m1 : 1 ≤ m
  m12 : m ≤ 12
  few : ws.length ≤ 100
  ok : ∀ w ∈ ws, w.Ok3 m
  nd : ws.Nodup
theorem Way.Ok3.ok {m : Int} {w : Way} (h : w.Ok3 m) : w.Ok m := by
  obtain ⟨c, h1, h2, h3⟩ := h.sg
  exact ⟨h.r0, h.r1, h.o0, h.o1, h.dd, c, h1, by omega, h3⟩
theorem Way.Ok3.lay {m : Int} {w : Way} (h : w.Ok3 m) : w.Lay := h.ok.lay
theorem HOuse3.house {m : Int} {ws : List Way} (h : HOuse3 m ws) : HOuse m ws := ⟨h.m1, h.m12, h.few, fun w hw => (h.ok w hw).ok, h.nd⟩
theorem cut4 {ds : List Int} {i : Nat} (h : i + 4 ≤ ds.length) : ∃ a b c d, cutV (ds.map V.int) (some (i : Int)) (some ((i + 4 : Nat) : Int)) = [.int a, .int b, .int c, .int d] ∧ ds[i]? = some a ∧ ds[i + 1]? = some b ∧ ds[i + 2]? = some c ∧ ds[i + 3]? = some d := by
  refine ⟨ds[i], ds[i + 1], ds[i + 2], ds[i + 3], ?_, List.getElem?_eq_getElem _, List.getElem?_eq_getElem _, List.getElem?_eq_getElem _, List.getElem?_eq_getElem _⟩
  unfold cutV
  rw [HT.sIx_nat, HT.sIx_nat, List.length_map, Nat.min_eq_left (by omega), Nat.min_eq_left (by omega), show i + 4 - i = 4 by omega, ← List.map_drop, ← List.map_take]
  rw [List.drop_eq_getElem_cons (show i < ds.length by omega), List.drop_eq_getElem_cons (show i + 1 < ds.length by omega), List.drop_eq_getElem_cons (show i + 1 + 1 < ds.length by omega), List.drop_eq_getElem_cons (show i + 1 + 1 + 1 < ds.length by omega)]
  rfl
noncomputable def drawW : List Int := [8, 12, 13, 31] ++ (List.replicate 30 ([12, 6, 12, 3] : List Int)).flatten
theorem drawW_at {k : Nat} (h : k < 30) : drawW[4 + 4 * k]? = some 12 ∧ drawW[4 + 4 * k + 1]? = some 6 ∧ drawW[4 + 4 * k + 2]? = some 12 ∧ drawW[4 + 4 * k + 3]? = some 3 := by
  have : ∀ k : Fin 30, drawW[4 + 4 * k.val]? = some 12 ∧ drawW[4 + 4 * k.val + 1]? = some 6 ∧ drawW[4 + 4 * k.val + 2]? = some 12 ∧ drawW[4 + 4 * k.val + 3]? = some 3 := by decide +kernel
  exact this ⟨k, h⟩
noncomputable def sp__law_drawn_house (K : PySem.W.Frag) : Sp := fun vs H Q _ => ∃ c p, vs = [.int c, .int p] ∧ 0 < p ∧ ∀ v m ws H', Ext H H' → HouseAt H' v m ws → HOuse3 m ws → Q v H'
theorem pick_deed {e : Int} (h0 : 0 ≤ e) (h1 : e < 6) : ∃ z, atI ([.str "up", .str "down", .str "stay", .str "zero", .str "up", .str "down"] : List V) e = some (.str z) ∧ okDeed z := by
  have : e = 0 ∨ e = 1 ∨ e = 2 ∨ e = 3 ∨ e = 4 ∨ e = 5 := by omega
  rcases this with rfl | rfl | rfl | rfl | rfl | rfl
  · exact ⟨_, rfl, .inl rfl⟩
  · exact ⟨_, rfl, .inr (.inl rfl)⟩
  · exact ⟨_, rfl, .inr (.inr (.inl rfl))⟩
  · exact ⟨_, rfl, .inr (.inr (.inr rfl))⟩
  · exact ⟨_, rfl, .inl rfl⟩
  · exact ⟨_, rfl, .inr (.inl rfl)⟩
theorem abc_list : (Str.ofString "abc").cps.toList = [97, 98, 99] := by decide +kernel
theorem pick_abc {e : Int} (h0 : 0 ≤ e) (h1 : e < 3) : ∃ c, atI (Str.ofString "abc").cps.toList e = some c ∧ 97 ≤ c ∧ c ≤ 99 := by
  rw [abc_list]
  have : e = 0 ∨ e = 1 ∨ e = 2 := by omega
  rcases this with rfl | rfl | rfl
  · exact ⟨97, rfl, by decide, by decide⟩
  · exact ⟨98, rfl, by decide, by decide⟩
  · exact ⟨99, rfl, by decide, by decide⟩
theorem pick_many {e : Int} (h0 : 0 ≤ e) (h1 : e < 8) : ∃ w : Int, atI (([4, 4, 4, 5, 3, 2, 5, 12] : List Int).map V.int) e = some (.int w) ∧ 1 ≤ w ∧ w ≤ 12 := by
  have : e = 0 ∨ e = 1 ∨ e = 2 ∨ e = 3 ∨ e = 4 ∨ e = 5 ∨ e = 6 ∨ e = 7 := by omega
  rcases this with rfl | rfl | rfl | rfl | rfl | rfl | rfl | rfl <;> exact ⟨_, rfl, by decide, by decide⟩
theorem HouseAt.mk {H : Hp} {p q : Addr} {m : Int} {ws : List Way} (h1 : H p = some (.tup [.int m, .ref q])) (h2 : WaysAt H q (ws.map Way.key)) : HouseAt H (.ref p) m ws := ⟨p, q, rfl, h1, h2⟩
noncomputable abbrev s__law_drawn_house : Stmt := stq 47
theorem sc__law_drawn_house : FnScope ["_law_cell_here", "_law_prime", "_law_draws_here", "_law_many", "_law_often", "_law_ways", "_law_k", "_law_room", "_law_deed", "_law_other", "_law_sign", "_law_word"] ["_law_cell_here", "_law_prime"] (defScope s__law_drawn_house) := ⟨rfl, rfl, rfl, by decide +kernel, rfl, by decide +kernel, by decide +kernel⟩
theorem ok__law_drawn_house {P : Program} {w : World} {K : PySem.W.Frag} {mg : Str → Option Value} {base : Heap} (D : Dfn K mg "_law_drawn_house" s__law_drawn_house ["_law_cell_here", "_law_prime"]) (T : Blt mg) (C__law_unlike : Cal P w K mg base "_law_unlike" 1 ["_law_ways"] (sp__law_unlike K)) (C__law_draws : Cal P w K mg base "_law_draws" 2 ["_law_cell_here", "_law_widths", "_law_prime"] (sp__law_draws K)) : Cal P w K mg base "_law_drawn_house" 3 ["_law_cell_here", "_law_prime"] (sp__law_drawn_house K) := by
  have nd := (sc__law_drawn_house).nd
  refine D.ok sc__law_drawn_house (fun vs H Q E h => ?_) (fun X hX H vs Q E h => ?_)
  · obtain ⟨c, p, rfl, _⟩ := h; rfl
  · obtain ⟨f, cdv, A, outer, s, H0, E0, rfl, hr⟩ := hX
    obtain ⟨c, p, rfl, hp, q⟩ := h
    refine ⟨_, (no_implicit_lambda% (@pss_cons _ _ _ _ _ (no_implicit_lambda% (@ps_set _ _ 2 _ _ _ _ nd rfl (Or.inl rfl) (no_implicit_lambda% (pe_cal C__law_draws hr (no_implicit_lambda% (@pa_cons _ _ _ _ _ (no_implicit_lambda% (pv 0)) (no_implicit_lambda% (@pa_cons _ _ _ _ _ (no_implicit_lambda% (pe_op op_cat (no_implicit_lambda% (@pe_lst _ _ _ _ (no_implicit_lambda% (pa_ints (.c (.c (.c (.c .n)))))))) (no_implicit_lambda% (pe_op op_rep (no_implicit_lambda% (@pe_lst _ _ _ _ (no_implicit_lambda% (pa_ints (.c (.c (.c (.c .n)))))))) pe_int)))) (no_implicit_lambda% (@pa_cons _ _ _ _ _ (no_implicit_lambda% (pv 1)) pa_nil rfl)) rfl)) rfl)))) rfl (Or.inl rfl)))
        (no_implicit_lambda% (@pss_cons _ _ _ _ _ (no_implicit_lambda% (@ps_set _ _ 3 _ _ _ _ nd rfl (Or.inl rfl) (no_implicit_lambda% (pe_op op_add pe_int (no_implicit_lambda% (pe_op op_mod (no_implicit_lambda% (@pe_ix _ _ _ _ _ _ _ (ix_listK K) (no_implicit_lambda% (pv 2)) pe_int (fun _ _ => rfl))) (no_implicit_lambda% (@pe_ix _ _ _ _ _ _ _ (ix_listK K) (no_implicit_lambda% (@pe_lst _ _ _ _ (no_implicit_lambda% (pa_ints (.c (.c (.c (.c (.c (.c (.c (.c .n)))))))))))) (no_implicit_lambda% (@pe_ix _ _ _ _ _ _ _ (ix_listK K) (no_implicit_lambda% (pv 2)) pe_int (fun _ _ => rfl))) (fun _ _ => rfl))))))) rfl (Or.inl rfl)))
        (no_implicit_lambda% (@pss_cons _ _ _ _ _ (no_implicit_lambda% (@ps_set _ _ 4 _ _ _ _ nd rfl (Or.inl rfl) (no_implicit_lambda% (@pe_ix _ _ _ _ _ _ _ (ix_listK K) (no_implicit_lambda% (pv 2)) pe_int (fun _ _ => rfl))) rfl (Or.inl rfl)))
        (no_implicit_lambda% (@pss_cons _ _ _ _ _ (no_implicit_lambda% (ps_ifJ (no_implicit_lambda% (pt_cmpR op_eq (no_implicit_lambda% (@pe_ix _ _ _ _ _ _ _ (ix_listK K) (no_implicit_lambda% (pv 2)) pe_int (fun _ _ => rfl))) pe_int (nomark _))) (no_implicit_lambda% (@pss_one _ _ _ (no_implicit_lambda% (@ps_set _ _ 4 _ _ _ _ nd rfl (Or.inl rfl) (no_implicit_lambda% (@pe_ix _ _ _ _ _ _ _ (ix_listK K) (no_implicit_lambda% (pv 2)) pe_int (fun _ _ => rfl))) rfl (Or.inl rfl))))) pss_nil))
        (no_implicit_lambda% (@pss_cons _ _ _ _ _ (no_implicit_lambda% (@ps_set _ _ 5 _ _ _ _ nd rfl (Or.inl rfl) (no_implicit_lambda% (@pe_lst _ _ _ _ pa_nil)) rfl (Or.inl rfl)))
        (no_implicit_lambda% (@pss_cons _ _ _ _ _ (no_implicit_lambda% (ps_for PassesOwn.never rfl (no_implicit_lambda% (pi_range1 rfl T.range_ (no_implicit_lambda% (@pa_cons _ _ _ _ _ (no_implicit_lambda% (pv 4)) pa_nil rfl)))) (no_implicit_lambda% (pg_name (i := 6) nd rfl (Or.inl rfl))) (no_implicit_lambda% (@pss_cons _ _ _ _ _ (no_implicit_lambda% (@ps_asg _ _ _ _ _ _ (no_implicit_lambda% (pe_slice (sl_listK K) (no_implicit_lambda% (pv 2)) (po_some (no_implicit_lambda% (pe_op op_add pe_int (no_implicit_lambda% (pe_op op_mul pe_int (no_implicit_lambda% (pv 6))))))) (po_some (no_implicit_lambda% (pe_op op_add pe_int (no_implicit_lambda% (pe_op op_mul pe_int (no_implicit_lambda% (pv 6))))))))) (no_implicit_lambda% (pg_lstK (n := 4) K rfl (pgs_cons (no_implicit_lambda% (pg_name (i := 7) nd rfl (Or.inl rfl))) (pgs_cons (no_implicit_lambda% (pg_name (i := 8) nd rfl (Or.inl rfl))) (pgs_cons (no_implicit_lambda% (pg_name (i := 9) nd rfl (Or.inl rfl))) (pgs_cons (no_implicit_lambda% (pg_name (i := 10) nd rfl (Or.inl rfl))) pgs_nil)))))) rfl rfl rfl))
        (no_implicit_lambda% (@pss_cons _ _ _ _ _ (no_implicit_lambda% (@ps_set _ _ 11 _ _ _ _ nd rfl (Or.inl rfl) (no_implicit_lambda% (@pe_ix _ _ _ _ _ _ _ (ix_listK K) (no_implicit_lambda% (@pe_lst _ _ _ _ (no_implicit_lambda% (@pa_cons _ _ _ _ _ pe_str (no_implicit_lambda% (@pa_cons _ _ _ _ _ pe_str (no_implicit_lambda% (@pa_cons _ _ _ _ _ pe_str (no_implicit_lambda% (@pa_cons _ _ _ _ _ pe_str (no_implicit_lambda% (@pa_cons _ _ _ _ _ pe_str (no_implicit_lambda% (@pa_cons _ _ _ _ _ pe_str pa_nil rfl)) rfl)) rfl)) rfl)) rfl)) rfl)))) (no_implicit_lambda% (pv 8)) (fun _ _ => rfl))) rfl (Or.inl rfl)))
        (no_implicit_lambda% (@pss_one _ _ _ (no_implicit_lambda% (ps_expr (no_implicit_lambda% (pe_bmK K PySem.F.plainAttrs_list PySem.F.slot_list_append PySem.F.type_list_append mt_append (no_implicit_lambda% (pv 5)) (no_implicit_lambda% (@pa_cons _ _ _ _ _ (no_implicit_lambda% (@pe_tup _ _ _ _ _ (no_implicit_lambda% (@pa_cons _ _ _ _ _ (no_implicit_lambda% (pe_op op_mod (no_implicit_lambda% (pv 7)) (no_implicit_lambda% (pv 3)))) (no_implicit_lambda% (@pa_cons _ _ _ _ _ (no_implicit_lambda% (pv 11)) (no_implicit_lambda% (@pa_cons _ _ _ _ _ (no_implicit_lambda% (pe_op op_mod (no_implicit_lambda% (pv 9)) (no_implicit_lambda% (pv 3)))) (no_implicit_lambda% (@pa_cons _ _ _ _ _ (no_implicit_lambda% (@pe_ix _ _ _ _ _ _ _ ix_str pe_str (no_implicit_lambda% (pv 10)) (fun _ _ => rfl))) pa_nil rfl)) rfl)) rfl)) rfl)))) pa_nil rfl))))))))))))))
        (no_implicit_lambda% (@pss_one _ _ _ (no_implicit_lambda% (@ps_ret _ _ _ _ (no_implicit_lambda% (@pe_tup _ _ _ _ _ (no_implicit_lambda% (@pa_cons _ _ _ _ _ (no_implicit_lambda% (pv 3)) (no_implicit_lambda% (@pa_cons _ _ _ _ _ (no_implicit_lambda% (pe_cal C__law_unlike hr (no_implicit_lambda% (@pa_cons _ _ _ _ _ (no_implicit_lambda% (pv 5)) pa_nil rfl)))) pa_nil rfl)) rfl)))))))))))))))))))), ?_⟩
    walk_at "rd"
    refine ⟨small_line (by simp), rd_new fun w0 G1 f1 hw0 _ => ?_⟩
    walk_at "rd"
    refine ⟨small_line (by simp), rd_new fun w1 G2 f2 hw1 _ => ?_⟩
    walk_at "rd"
    refine rd_rep hw1 (by omega) (small_line (by decide)) (rd_new fun w2 G3 f3 hw2 _ => ?_)
    walk_at "rd"
    refine rd_cat (f3 _ _ (f2 _ _ hw0)) hw2 (small_line (by decide)) (rd_new fun w3 G4 f4 hw3 _ => ?_)
    walk_at "rd"
    refine mk_draws drawW hw3 (by decide +kernel) (by decide +kernel) (hp) fun dq ds H1 e1 hd hdn hl hb => ?_
    have eH : Ext H H1 := f1.trans (f2.trans (f3.trans (f4.trans e1)))
    have hl' : ds.length = 124 := hl
    have at_ : ∀ (i : Nat) (x : Int), drawW[i]? = some x → ∃ d, ds[i]? = some d ∧ 0 ≤ d ∧ d < x := fun i x hx => by
      have hi : i < ds.length := by
        rw [hl]
        exact (List.getElem?_eq_some_iff.mp hx).1
      exact ⟨ds[i], List.getElem?_eq_getElem hi, hb i _ x (List.getElem?_eq_getElem hi) hx⟩
    obtain ⟨d0, g0, b00, b01⟩ := at_ 0 8 rfl
    obtain ⟨d1, g1, b10, b11⟩ := at_ 1 12 rfl
    obtain ⟨d2, g2, b20, b21⟩ := at_ 2 13 rfl
    obtain ⟨d3, g3, b30, b31⟩ := at_ 3 31 rfl
    have pick : ∀ {i : Nat} {d : Int}, ds[i]? = some d → atI (ds.map V.int) (i : Int) = some (.int d) := fun {i d} h => atI_nat (by rw [List.getElem?_map, h]; rfl)
    walk_at "rd"
    refine rd_ixL (SqL.of hd) (pick (i := 1) g1) ?_
    walk_at "rd"
    refine ⟨small_line (by simp), rd_new fun mq H2 e2 hmq _ => ?_⟩
    walk_at "rd"
    refine rd_ixL (SqL.of (e2 _ _ hd)) (pick (i := 0) g0) ?_
    obtain ⟨w, hw, hw1', hw2'⟩ := pick_many b00 b01
    refine rd_ixL (SqL.of hmq) hw ?_
    try refine rd_I (show (0 : Int) < w by omega) ?_
    walk_at "rd"
    have r0 : 0 ≤ d1 % w := Int.emod_nonneg _ (by omega)
    have r1 : d1 % w < w := Int.emod_lt_of_pos _ (by omega)
    obtain ⟨m, hm, m1, m2⟩ : ∃ m, 1 + d1 % w = m ∧ 1 ≤ m ∧ m ≤ 12 := ⟨_, rfl, by omega, by omega⟩
    rw [hm]
    refine rd_ixL (SqL.of (e2 _ _ hd)) (pick (i := 2) g2) ?_
    walk_at "rd"
    have eH2 : Ext H H2 := eH.trans e2
    have hd2 := e2 _ _ hd
    refine rd_ifJ (fun σ' H' => H' = H2 ∧ ∃ o : Nat, o ≤ 30 ∧ σ' = [some (.int c), some (.int p), some (.ref dq), some (.int m), some (.int o), none, none, none, none, none, none, none]) ?_ ?_
    · walk_at "rd"
      refine rd_ixL (SqL.of hd2) (pick (i := 0) g0) ?_
      walk_at "rd"
      refine ite2 (fun h => ?_) (fun h => ?_)
      · walk_at "rd"
        refine rd_ixL (SqL.of hd2) (pick (i := 3) g3) ?_
        walk_at "rd"
        exact ⟨rfl, d3.toNat, by omega, by rw [Int.toNat_of_nonneg b30]; rfl⟩
      · walk_at "rd"
        exact ⟨rfl, d2.toNat, by omega, by rw [Int.toNat_of_nonneg b20]; rfl⟩
    rintro σ' H' ⟨rfl, o, ho, rfl⟩
    clear hw hw1' hw2' r0 r1 b00 b01 b10 b11 b20 b21 b30 b31
    walk_at "rd"
    refine ⟨small_line (by simp), rd_new fun f H3 e3 hf hfn => ?_⟩
    walk_at "rd"
    refine rd_i1x (by omega) ?_
    refine forR (fun i σ H4 => Ext H' H4 ∧ ∃ (k1 k2 k3 k4 k5 k6 : Option V) (cs : List Addr) (us : List Way), σ = [some (.int c), some (.int p), some (.ref dq), some (.int m), some (.int o), some (.ref f), k1, k2, k3, k4, k5, k6] ∧ H4 f = some (.lst (cs.map V.ref)) ∧ AlW H4 cs us ∧ (∀ u ∈ us, u.Ok3 m) ∧ us.length = i)
      ⟨e3, none, none, none, none, none, none, [], [], rfl, hf, AlW.nil _, fun u hu => by simp at hu, rfl⟩ ?_ ?_
    · rintro i σ H4 hi ⟨e4, k1, k2, k3, k4, k5, k6, cs, us, rfl, hf4, al, ok, len⟩
      rw [Int.toNat_natCast] at hi
      have hi30 : i < 30 := by omega
      obtain ⟨a, b, c', d, hcut, ga, gb, gc, gd⟩ := cut4 (ds := ds) (i := 4 + 4 * i) (by omega)
      obtain ⟨y0, y1, y2, y3⟩ := drawW_at hi30
      have ba := hb _ _ _ ga y0
      have bb := hb _ _ _ gb y1
      have bc := hb _ _ _ gc y2
      have bd := hb _ _ _ gd y3
      have hd4 := e4 _ _ hd2
      walk_at "rd"
      refine rd_slL (SqL.of hd4) (rd_new fun t H5 e5 ht htn => ?_)
      rw [show (4 : Int) + 4 * (0 + (i : Int)) = ((4 + 4 * i : Nat) : Int) by omega, show (8 : Int) + 4 * (0 + (i : Int)) = ((4 + 4 * i + 4 : Nat) : Int) by omega, hcut] at ht
      walk_at "rd"
      refine rd_glst (SqL.of ht) rfl ?_
      walk_at "rd"
      refine ⟨small_line (by simp), rd_new fun u1 H6 e6 hu1 _ => ?_⟩
      walk_at "rd"
      obtain ⟨z, hz, okz⟩ := pick_deed bb.1 bb.2
      refine rd_ixL (SqL.of hu1) hz ?_
      walk_at "rd"
      have hf6 := e6 _ _ (e5 _ _ hf4)
      refine ⟨rd_tyL (SqL.of hf6), ?_⟩
      walk_at "rd"
      try refine rd_I (show (0 : Int) < m by omega) ?_
      walk_at "rd"
      try refine rd_I (show (0 : Int) < m by omega) ?_
      walk_at "rd"
      obtain ⟨s, hs, s1, s2⟩ := pick_abc bd.1 bd.2
      refine ⟨_, _, s, rfl, rfl, small9 (by decide +kernel), hs, ?_⟩
      walk_at "rd"
      refine ⟨small_line (by simp), rd_new fun v H7 e7 hv _ => ?_⟩
      have hf7 := e7 _ _ hf6
      walk_at "rd"
      refine rd_append hf7 (by rw [List.length_map, al.1, len]; exact Nat.lt_of_le_of_lt (show i ≤ 1000 by omega) (by decide)) ?_
      walk_at "rd"
      have al7 : AlW H7 cs us := ((al.ext e5).ext e6).ext e7
      have hv7 : H7 v = some (.tup (Way.vs ⟨a % m, z, c' % m, ⟨#[s]⟩⟩)) := hv
      refine ⟨ext_write (e4.trans (e5.trans (e6.trans e7))) hfn, _, _, _, _, _, _, cs ++ [v], us ++ [⟨a % m, z, c' % m, ⟨#[s]⟩⟩], rfl, by rw [upd_same, List.map_append]; rfl, (al7.put hf7).snoc ?_, ?_, by simp [len]⟩
      · rw [upd_ne (ne_of hv7 hf7 (by intro z; cases z))]
        exact hv7
      · intro u hu
        rcases List.mem_append.mp hu with hu | hu
        · exact ok u hu
        · rw [List.mem_singleton.mp hu]
          exact ⟨Int.emod_nonneg _ (by omega), Int.emod_lt_of_pos _ (by omega), Int.emod_nonneg _ (by omega), Int.emod_lt_of_pos _ (by omega), okz, s, s1, s2, rfl⟩
    · rintro σ H4 ⟨e4, k1, k2, k3, k4, k5, k6, cs, us, rfl, hf4, al, ok, len⟩
      rw [Int.toNat_natCast] at len
      walk_at "rd"
      refine ⟨f, cs, us, rfl, hf4, al, fun u hu => (ok u hu).lay, by omega, fun r H5 ws e5 hws nd sub ln => ?_⟩
      walk_at "rd"
      refine ⟨small_line (by simp), rd_new fun t H6 e6 ht _ => ?_⟩
      exact q _ m ws H6 (eH2.trans (e4.trans (e5.trans e6))) (HouseAt.mk ht (hws.ext e6)) ⟨m1, m2, by omega, fun u hu => ok u (sub u hu), nd⟩
structure WL (H0 H : Hp) (f : Addr) (us : List Way) : Prop where
  ext : Ext H0 H
  at_ : ∃ cs : List Addr, H f = some (.lst (cs.map V.ref)) ∧ AlW H cs us
theorem WL.nil {H0 H : Hp} {f : Addr} (e : Ext H0 H) (hf : H f = some (.lst [])) : WL H0 H f [] := ⟨e, [], hf, AlW.nil _⟩
theorem WL.push {H0 H H1 : Hp} {f v : Addr} {us : List Way} {w : Way} (h : WL H0 H f us) (hfn : H0 f = none) (e : Ext H H1) (hv : H1 v = some (.tup w.vs)) :
    ∃ xs, H1 f = some (.lst xs) ∧ xs.length = us.length ∧ WL H0 (upd H1 f (.lst (xs ++ [.ref v]))) f (us ++ [w]) := by
  obtain ⟨e0, cs, hf, al⟩ := h
  have hf1 := e _ _ hf
  refine ⟨cs.map V.ref, hf1, by rw [List.length_map]; exact al.1, ext_write (e0.trans e) hfn, cs ++ [v], by rw [upd_same, List.map_append]; rfl, ((al.ext e).put hf1).snoc ?_⟩
  rw [upd_ne (ne_of hv hf1 (by intro z; cases z))]
  exact hv
theorem WL.ty {K : PySem.W.Frag} {H0 H H1 : Hp} {f : Addr} {us : List Way} (h : WL H0 H f us) (e : Ext H H1) : tyV K "list" (.ref f) H1 := by
  obtain ⟨_, cs, hf, al⟩ := h
  exact rd_tyL (SqL.of (e _ _ hf))
theorem sgA : okSign3 "a" := ⟨97, by decide, by decide, by decide +kernel⟩
theorem sgB : okSign3 "b" := ⟨98, by decide, by decide, by decide +kernel⟩
theorem sgC : okSign3 "c" := ⟨99, by decide, by decide, by decide +kernel⟩
theorem okU : okDeed "up" := .inl rfl
theorem okDn : okDeed "down" := .inr (.inl rfl)
theorem okS : okDeed "stay" := .inr (.inr (.inl rfl))
theorem okZ : okDeed "zero" := .inr (.inr (.inr rfl))
theorem line16 {n : Nat} (h : n ≤ 1000) : n < sizeLine := Nat.lt_of_le_of_lt h (by decide)
theorem two_at {a b : V} {e : Int} (h0 : 0 ≤ e) (h1 : e < 2) : ∃ v, atI [a, b] e = some v ∧ (v = a ∨ v = b) := by
  have : e = 0 ∨ e = 1 := by omega
  rcases this with rfl | rfl
  · exact ⟨a, rfl, .inl rfl⟩
  · exact ⟨b, rfl, .inr rfl⟩
theorem all_snoc {m : Int} {us : List Way} {w : Way} (h : ∀ u ∈ us, u.Ok3 m) (hw : w.Ok3 m) : ∀ u ∈ us ++ [w], u.Ok3 m := fun u hu => by
  rcases List.mem_append.mp hu with hu | hu
  · exact h u hu
  · rw [List.mem_singleton.mp hu]; exact hw
theorem ab_list : (Str.ofString "ab").cps.toList = [97, 98] := by decide +kernel
theorem pick_ab {e : Int} (h0 : 0 ≤ e) (h1 : e < 2) : ∃ c, atI (Str.ofString "ab").cps.toList e = some c ∧ 97 ≤ c ∧ c ≤ 99 := by
  rw [ab_list]
  have : e = 0 ∨ e = 1 := by omega
  rcases this with rfl | rfl
  · exact ⟨97, rfl, by decide, by decide⟩
  · exact ⟨98, rfl, by decide, by decide⟩
theorem draws_at {ws ds : List Int} (hl : ds.length = ws.length) (hb : ∀ (i : Nat) (d x : Int), ds[i]? = some d → ws[i]? = some x → 0 ≤ d ∧ d < x) (i : Nat) {x : Int} (hx : ws[i]? = some x) : ∃ d, atI (ds.map V.int) (i : Int) = some (.int d) ∧ 0 ≤ d ∧ d < x := by
  have hi : i < ds.length := by
    rw [hl]
    exact (List.getElem?_eq_some_iff.mp hx).1
  have g : ds[i]? = some ds[i] := List.getElem?_eq_getElem hi
  exact ⟨ds[i], atI_nat (by rw [List.getElem?_map, g]; rfl), hb i _ x g hx⟩
noncomputable def sp__law_gate_house (K : PySem.W.Frag) : Sp := fun vs H Q _ => ∃ c p, vs = [.int c, .int p] ∧ 0 < p ∧ ∀ v m ws H', Ext H H' → HouseAt H' v m ws → HOuse3 m ws → Q v H'
noncomputable abbrev s__law_gate_house : Stmt := stq 46
theorem sc__law_gate_house : FnScope ["_law_cell_here", "_law_prime", "_law_draws_here", "_law_up", "_law_down", "_law_many", "_law_ways", "_law_k"] ["_law_cell_here", "_law_prime"] (defScope s__law_gate_house) := ⟨rfl, rfl, rfl, by decide +kernel, rfl, by decide +kernel, by decide +kernel⟩
theorem ok__law_gate_house {P : Program} {w : World} {K : PySem.W.Frag} {mg : Str → Option Value} {base : Heap} (D : Dfn K mg "_law_gate_house" s__law_gate_house ["_law_cell_here", "_law_prime"]) (T : Blt mg) (C__law_unlike : Cal P w K mg base "_law_unlike" 1 ["_law_ways"] (sp__law_unlike K)) (C__law_draws : Cal P w K mg base "_law_draws" 2 ["_law_cell_here", "_law_widths", "_law_prime"] (sp__law_draws K)) : Cal P w K mg base "_law_gate_house" 3 ["_law_cell_here", "_law_prime"] (sp__law_gate_house K) := by
  have nd := (sc__law_gate_house).nd
  refine D.ok sc__law_gate_house (fun vs H Q E h => ?_) (fun X hX H vs Q E h => ?_)
  · obtain ⟨c, p, rfl, _⟩ := h; rfl
  · obtain ⟨f, cdv, A, outer, s, H0, E0, rfl, hr⟩ := hX
    obtain ⟨c, p, rfl, hp, q⟩ := h
    refine ⟨_, (no_implicit_lambda% (@pss_cons _ _ _ _ _ (no_implicit_lambda% (@ps_set _ _ 2 _ _ _ _ nd rfl (Or.inl rfl) (no_implicit_lambda% (pe_cal C__law_draws hr (no_implicit_lambda% (@pa_cons _ _ _ _ _ (no_implicit_lambda% (pv 0)) (no_implicit_lambda% (@pa_cons _ _ _ _ _ (no_implicit_lambda% (@pe_lst _ _ _ _ (no_implicit_lambda% (pa_ints (.c (.c (.c (.c (.c (.c (.c .n))))))))))) (no_implicit_lambda% (@pa_cons _ _ _ _ _ (no_implicit_lambda% (pv 1)) pa_nil rfl)) rfl)) rfl)))) rfl (Or.inl rfl)))
        (no_implicit_lambda% (@pss_cons _ _ _ _ _ (no_implicit_lambda% (ps_par (i := 3) (j := 4) rfl nd rfl rfl (by decide) rfl rfl (no_implicit_lambda% (@pa_cons _ _ _ _ _ (no_implicit_lambda% (pe_op op_add pe_int (no_implicit_lambda% (@pe_ix _ _ _ _ _ _ _ (ix_listK K) (no_implicit_lambda% (pv 2)) pe_int (fun _ _ => rfl))))) (no_implicit_lambda% (@pa_cons _ _ _ _ _ (no_implicit_lambda% (pe_op op_add pe_int (no_implicit_lambda% (@pe_ix _ _ _ _ _ _ _ (ix_listK K) (no_implicit_lambda% (pv 2)) pe_int (fun _ _ => rfl))))) pa_nil rfl)) rfl)) rfl))
        (no_implicit_lambda% (@pss_cons _ _ _ _ _ (no_implicit_lambda% (@ps_set _ _ 5 _ _ _ _ nd rfl (Or.inl rfl) (no_implicit_lambda% (pe_op op_add (no_implicit_lambda% (pe_op op_add (no_implicit_lambda% (pv 3)) (no_implicit_lambda% (pv 4)))) pe_int)) rfl (Or.inl rfl)))
        (no_implicit_lambda% (@pss_cons _ _ _ _ _ (no_implicit_lambda% (@ps_set _ _ 6 _ _ _ _ nd rfl (Or.inl rfl) (no_implicit_lambda% (@pe_lst _ _ _ _ pa_nil)) rfl (Or.inl rfl)))
        (no_implicit_lambda% (@pss_cons _ _ _ _ _ (no_implicit_lambda% (ps_for PassesOwn.never rfl (no_implicit_lambda% (pi_range1 rfl T.range_ (no_implicit_lambda% (@pa_cons _ _ _ _ _ (no_implicit_lambda% (pv 3)) pa_nil rfl)))) (no_implicit_lambda% (pg_name (i := 7) nd rfl (Or.inl rfl))) (no_implicit_lambda% (@pss_one _ _ _ (no_implicit_lambda% (ps_expr (no_implicit_lambda% (pe_bmK K PySem.F.plainAttrs_list PySem.F.slot_list_append PySem.F.type_list_append mt_append (no_implicit_lambda% (pv 6)) (no_implicit_lambda% (@pa_cons _ _ _ _ _ (no_implicit_lambda% (@pe_tup _ _ _ _ _ (no_implicit_lambda% (@pa_cons _ _ _ _ _ (no_implicit_lambda% (pv 7)) (no_implicit_lambda% (@pa_cons _ _ _ _ _ pe_str (no_implicit_lambda% (@pa_cons _ _ _ _ _ (no_implicit_lambda% (pe_op op_mod (no_implicit_lambda% (pe_op op_add (no_implicit_lambda% (pv 7)) pe_int)) (no_implicit_lambda% (pv 3)))) (no_implicit_lambda% (@pa_cons _ _ _ _ _ (no_implicit_lambda% (@pe_ix _ _ _ _ _ _ _ ix_str pe_str (no_implicit_lambda% (@pe_ix _ _ _ _ _ _ _ (ix_listK K) (no_implicit_lambda% (pv 2)) pe_int (fun _ _ => rfl))) (fun _ _ => rfl))) pa_nil rfl)) rfl)) rfl)) rfl)))) pa_nil rfl))))))))))
        (no_implicit_lambda% (@pss_cons _ _ _ _ _ (no_implicit_lambda% (ps_expr (no_implicit_lambda% (pe_bmK K PySem.F.plainAttrs_list PySem.F.slot_list_append PySem.F.type_list_append mt_append (no_implicit_lambda% (pv 6)) (no_implicit_lambda% (@pa_cons _ _ _ _ _ (no_implicit_lambda% (@pe_tup _ _ _ _ _ (no_implicit_lambda% (@pa_cons _ _ _ _ _ (no_implicit_lambda% (pe_op op_mod (no_implicit_lambda% (@pe_ix _ _ _ _ _ _ _ (ix_listK K) (no_implicit_lambda% (pv 2)) pe_int (fun _ _ => rfl))) (no_implicit_lambda% (pv 3)))) (no_implicit_lambda% (@pa_cons _ _ _ _ _ pe_str (no_implicit_lambda% (@pa_cons _ _ _ _ _ (no_implicit_lambda% (pv 3)) (no_implicit_lambda% (@pa_cons _ _ _ _ _ pe_str pa_nil rfl)) rfl)) rfl)) rfl)))) pa_nil rfl))))))
        (no_implicit_lambda% (@pss_cons _ _ _ _ _ (no_implicit_lambda% (ps_for PassesOwn.never rfl (no_implicit_lambda% (pi_range1 rfl T.range_ (no_implicit_lambda% (@pa_cons _ _ _ _ _ (no_implicit_lambda% (pv 4)) pa_nil rfl)))) (no_implicit_lambda% (pg_name (i := 7) nd rfl (Or.inl rfl))) (no_implicit_lambda% (@pss_one _ _ _ (no_implicit_lambda% (ps_expr (no_implicit_lambda% (pe_bmK K PySem.F.plainAttrs_list PySem.F.slot_list_append PySem.F.type_list_append mt_append (no_implicit_lambda% (pv 6)) (no_implicit_lambda% (@pa_cons _ _ _ _ _ (no_implicit_lambda% (@pe_tup _ _ _ _ _ (no_implicit_lambda% (@pa_cons _ _ _ _ _ (no_implicit_lambda% (pe_op op_add (no_implicit_lambda% (pv 3)) (no_implicit_lambda% (pv 7)))) (no_implicit_lambda% (@pa_cons _ _ _ _ _ pe_str (no_implicit_lambda% (@pa_cons _ _ _ _ _ (no_implicit_lambda% (pe_op op_add (no_implicit_lambda% (pv 3)) (no_implicit_lambda% (pe_op op_mod (no_implicit_lambda% (pe_op op_add (no_implicit_lambda% (pv 7)) pe_int)) (no_implicit_lambda% (pv 4)))))) (no_implicit_lambda% (@pa_cons _ _ _ _ _ pe_str pa_nil rfl)) rfl)) rfl)) rfl)))) pa_nil rfl))))))))))
        (no_implicit_lambda% (@pss_cons _ _ _ _ _ (no_implicit_lambda% (ps_expr (no_implicit_lambda% (pe_bmK K PySem.F.plainAttrs_list PySem.F.slot_list_append PySem.F.type_list_append mt_append (no_implicit_lambda% (pv 6)) (no_implicit_lambda% (@pa_cons _ _ _ _ _ (no_implicit_lambda% (@pe_tup _ _ _ _ _ (no_implicit_lambda% (@pa_cons _ _ _ _ _ (no_implicit_lambda% (pe_op op_add (no_implicit_lambda% (pv 3)) (no_implicit_lambda% (pe_op op_mod (no_implicit_lambda% (@pe_ix _ _ _ _ _ _ _ (ix_listK K) (no_implicit_lambda% (pv 2)) pe_int (fun _ _ => rfl))) (no_implicit_lambda% (pv 4)))))) (no_implicit_lambda% (@pa_cons _ _ _ _ _ pe_str (no_implicit_lambda% (@pa_cons _ _ _ _ _ (no_implicit_lambda% (pe_op op_sub (no_implicit_lambda% (pv 5)) pe_int)) (no_implicit_lambda% (@pa_cons _ _ _ _ _ pe_str pa_nil rfl)) rfl)) rfl)) rfl)))) pa_nil rfl))))))
        (no_implicit_lambda% (@pss_cons _ _ _ _ _ (no_implicit_lambda% (ps_expr (no_implicit_lambda% (pe_bmK K PySem.F.plainAttrs_list PySem.F.slot_list_append PySem.F.type_list_append mt_append (no_implicit_lambda% (pv 6)) (no_implicit_lambda% (@pa_cons _ _ _ _ _ (no_implicit_lambda% (@pe_tup _ _ _ _ _ (no_implicit_lambda% (@pa_cons _ _ _ _ _ (no_implicit_lambda% (pe_op op_sub (no_implicit_lambda% (pv 5)) pe_int)) (no_implicit_lambda% (@pa_cons _ _ _ _ _ (no_implicit_lambda% (@pe_ix _ _ _ _ _ _ _ (ix_listK K) (no_implicit_lambda% (@pe_lst _ _ _ _ (no_implicit_lambda% (@pa_cons _ _ _ _ _ pe_str (no_implicit_lambda% (@pa_cons _ _ _ _ _ pe_str pa_nil rfl)) rfl)))) (no_implicit_lambda% (@pe_ix _ _ _ _ _ _ _ (ix_listK K) (no_implicit_lambda% (pv 2)) pe_int (fun _ _ => rfl))) (fun _ _ => rfl))) (no_implicit_lambda% (@pa_cons _ _ _ _ _ (no_implicit_lambda% (@pe_ix _ _ _ _ _ _ _ (ix_listK K) (no_implicit_lambda% (@pe_lst _ _ _ _ (no_implicit_lambda% (@pa_cons _ _ _ _ _ pe_int (no_implicit_lambda% (@pa_cons _ _ _ _ _ (no_implicit_lambda% (pe_op op_sub (no_implicit_lambda% (pv 5)) pe_int)) pa_nil rfl)) rfl)))) (no_implicit_lambda% (@pe_ix _ _ _ _ _ _ _ (ix_listK K) (no_implicit_lambda% (pv 2)) pe_int (fun _ _ => rfl))) (fun _ _ => rfl))) (no_implicit_lambda% (@pa_cons _ _ _ _ _ pe_str pa_nil rfl)) rfl)) rfl)) rfl)))) pa_nil rfl))))))
        (no_implicit_lambda% (@pss_one _ _ _ (no_implicit_lambda% (@ps_ret _ _ _ _ (no_implicit_lambda% (@pe_tup _ _ _ _ _ (no_implicit_lambda% (@pa_cons _ _ _ _ _ (no_implicit_lambda% (pv 5)) (no_implicit_lambda% (@pa_cons _ _ _ _ _ (no_implicit_lambda% (pe_cal C__law_unlike hr (no_implicit_lambda% (@pa_cons _ _ _ _ _ (no_implicit_lambda% (pv 6)) pa_nil rfl)))) pa_nil rfl)) rfl)))))))))))))))))))))))))), ?_⟩
    walk_at "rd"
    refine ⟨small_line (by simp), rd_new fun w0 G1 f1 hw0 _ => ?_⟩
    walk_at "rd"
    refine mk_draws [6, 5, 6, 5, 2, 2, 2] hw0 (by decide) (by decide) (hp) fun dq ds H1 e1 hd hdn hl hb => ?_
    have eH : Ext H H1 := f1.trans e1
    obtain ⟨d0, g0, b00, b01⟩ := draws_at hl hb 0 rfl
    obtain ⟨d1, g1, b10, b11⟩ := draws_at hl hb 1 rfl
    obtain ⟨d2, g2, b20, b21⟩ := draws_at hl hb 2 rfl
    obtain ⟨d3, g3, b30, b31⟩ := draws_at hl hb 3 rfl
    obtain ⟨d4, g4, b40, b41⟩ := draws_at hl hb 4 rfl
    obtain ⟨d5, g5, b50, b51⟩ := draws_at hl hb 5 rfl
    obtain ⟨d6, g6, b60, b61⟩ := draws_at hl hb 6 rfl
    clear hb hl
    walk_at "rd"
    refine rd_ixL (SqL.of hd) g0 ?_
    walk_at "rd"
    refine rd_ixL (SqL.of hd) g1 ?_
    walk_at "rd"
    obtain ⟨U, hU⟩ : ∃ U : Nat, 1 + d0 = (U : Int) := ⟨(1 + d0).toNat, by omega⟩
    obtain ⟨D, hD⟩ : ∃ D : Nat, 1 + d1 = (D : Int) := ⟨(1 + d1).toNat, by omega⟩
    rw [hU, hD]
    have u1 : 1 ≤ U := by omega
    have u6 : U ≤ 6 := by omega
    have v1 : 1 ≤ D := by omega
    have v5 : D ≤ 5 := by omega
    clear b00 b01 b10 b11 hU hD
    obtain ⟨m, hm⟩ : ∃ m : Int, (U : Int) + (D : Int) + 1 = m := ⟨_, rfl⟩
    rw [hm]
    refine ⟨small_line (by simp), rd_new fun f H2 e2 hf hfn => ?_⟩
    walk_at "rd"
    refine rd_i1x (by omega) ?_
    have hfn0 : H1 f = none := hfn
    refine forR (fun i σ H3 => ∃ (k : Option V) (us : List Way), σ = [some (.int c), some (.int p), some (.ref dq), some (.int U), some (.int D), some (.int m), some (.ref f), k] ∧ WL H1 H3 f us ∧ (∀ u ∈ us, u.Ok3 m) ∧ us.length = i)
      ⟨none, [], rfl, WL.nil e2 hf, fun u hu => by simp at hu, rfl⟩ ?_ ?_
    · rintro i σ H3 hi ⟨k, us, rfl, wl, ok, len⟩
      rw [Int.toNat_natCast] at hi
      walk_at "rd"
      refine ⟨wl.ty (Ext.rfl' _), ?_⟩
      walk_at "rd"
      try refine rd_I (show (0 : Int) < (U : Int) by omega) ?_
      walk_at "rd"
      refine rd_ixL (SqL.of (wl.ext _ _ hd)) g4 ?_
      obtain ⟨s, hs, s1, s2⟩ := pick_ab b40 b41
      refine ⟨_, _, s, rfl, rfl, small9 (by decide +kernel), hs, ?_⟩
      walk_at "rd"
      refine ⟨small_line (by simp), rd_new fun v H4 e4 hv _ => ?_⟩
      walk_at "rd"
      obtain ⟨xs, hx, hlx, wl'⟩ := wl.push (w := ⟨0 + (i : Int), "up", (0 + (i : Int) + 1) % (U : Int), ⟨#[s]⟩⟩) hfn0 e4 hv
      refine rd_append hx (line16 (by omega)) ?_
      walk_at "rd"
      exact ⟨_, _, rfl, wl', all_snoc ok ⟨by show 0 ≤ 0 + (i : Int); omega, by show 0 + (i : Int) < m; omega, Int.emod_nonneg _ (by omega), Int.lt_trans (Int.emod_lt_of_pos _ (by omega)) (by omega), okU, s, s1, s2, rfl⟩, by simp [len]⟩
    rintro σ H3 ⟨k, us, rfl, wl, ok, len⟩
    rw [Int.toNat_natCast] at len
    walk_at "rd"
    refine ⟨wl.ty (Ext.rfl' _), ?_⟩
    walk_at "rd"
    refine rd_ixL (SqL.of (wl.ext _ _ hd)) g2 ?_
    try refine rd_I (show (0 : Int) < (U : Int) by omega) ?_
    walk_at "rd"
    refine ⟨small_line (by simp), rd_new fun v H4 e4 hv _ => ?_⟩
    walk_at "rd"
    have r0 : 0 ≤ d2 % (U : Int) := Int.emod_nonneg _ (by omega)
    have r1 : d2 % (U : Int) < U := Int.emod_lt_of_pos _ (by omega)
    obtain ⟨xs, hx, hlx, wl2⟩ := wl.push (w := ⟨d2 % (U : Int), "stay", (U : Int), "b"⟩) hfn0 e4 hv
    have ok2 := all_snoc ok (w := ⟨d2 % (U : Int), "stay", (U : Int), "b"⟩) ⟨r0, by show d2 % (U : Int) < m; omega, by show 0 ≤ (U : Int); omega, by show (U : Int) < m; omega, okS, sgB⟩
    refine rd_append hx (line16 (by omega)) ?_
    generalize upd H4 f _ = H5 at wl2 ⊢
    generalize hus2 : us ++ [_] = us2 at wl2 ok2
    have len2 : us2.length = U + 1 := by rw [← hus2]; simp [len]
    clear hus2 hx hlx hv e4 r0 r1 wl ok len
    walk_at "rd"
    refine rd_i1x (by omega) ?_
    refine forR (fun i σ H3 => ∃ (k : Option V) (us : List Way), σ = [some (.int c), some (.int p), some (.ref dq), some (.int U), some (.int D), some (.int m), some (.ref f), k] ∧ WL H1 H3 f us ∧ (∀ u ∈ us, u.Ok3 m) ∧ us.length = U + 1 + i)
      ⟨_, us2, rfl, wl2, ok2, len2⟩ ?_ ?_
    · rintro i σ H3 hi ⟨k, us, rfl, wl, ok, len⟩
      rw [Int.toNat_natCast] at hi
      walk_at "rd"
      refine ⟨wl.ty (Ext.rfl' _), ?_⟩
      walk_at "rd"
      try refine rd_I (show (0 : Int) < (D : Int) by omega) ?_
      walk_at "rd"
      refine ⟨small_line (by simp), rd_new fun v H4 e4 hv _ => ?_⟩
      walk_at "rd"
      have r0 : 0 ≤ (0 + (i : Int) + 1) % (D : Int) := Int.emod_nonneg _ (by omega)
      have r1 : (0 + (i : Int) + 1) % (D : Int) < D := Int.emod_lt_of_pos _ (by omega)
      obtain ⟨xs, hx, hlx, wl'⟩ := wl.push (w := ⟨(U : Int) + (0 + (i : Int)), "down", (U : Int) + (0 + (i : Int) + 1) % (D : Int), "a"⟩) hfn0 e4 hv
      refine rd_append hx (line16 (by omega)) ?_
      walk_at "rd"
      exact ⟨_, _, rfl, wl', all_snoc ok ⟨by show 0 ≤ (U : Int) + (0 + (i : Int)); omega, by show (U : Int) + (0 + (i : Int)) < m; omega, by show 0 ≤ (U : Int) + (0 + (i : Int) + 1) % (D : Int); omega, by show (U : Int) + (0 + (i : Int) + 1) % (D : Int) < m; omega, okDn, sgA⟩, by simp [len]; omega⟩
    clear wl2 ok2 len2
    rintro σ H3 ⟨k, us, rfl, wl, ok, len⟩
    rw [Int.toNat_natCast] at len
    walk_at "rd"
    refine ⟨wl.ty (Ext.rfl' _), ?_⟩
    walk_at "rd"
    refine rd_ixL (SqL.of (wl.ext _ _ hd)) g3 ?_
    try refine rd_I (show (0 : Int) < (D : Int) by omega) ?_
    walk_at "rd"
    refine ⟨small_line (by simp), rd_new fun v H4 e4 hv _ => ?_⟩
    walk_at "rd"
    have r0 : 0 ≤ d3 % (D : Int) := Int.emod_nonneg _ (by omega)
    have r1 : d3 % (D : Int) < D := Int.emod_lt_of_pos _ (by omega)
    obtain ⟨xs, hx, hlx, wl2⟩ := wl.push (w := ⟨(U : Int) + d3 % (D : Int), "zero", m - 1, "c"⟩) hfn0 e4 hv
    have ok2 := all_snoc ok (w := ⟨(U : Int) + d3 % (D : Int), "zero", m - 1, "c"⟩) ⟨by show 0 ≤ (U : Int) + d3 % (D : Int); omega, by show (U : Int) + d3 % (D : Int) < m; omega, by show 0 ≤ m - 1; omega, by show m - 1 < m; omega, okZ, sgC⟩
    refine rd_append hx (line16 (by omega)) ?_
    generalize upd H4 f _ = H5 at wl2 ⊢
    generalize hus2 : us ++ [_] = us2 at wl2 ok2
    have len2 : us2.length = U + D + 2 := by rw [← hus2]; simp [len]; omega
    clear hus2 hx hlx hv e4 r0 r1 wl ok len
    walk_at "rd"
    refine ⟨wl2.ty (Ext.rfl' _), ?_⟩
    walk_at "rd"
    refine ⟨small_line (by simp), rd_new fun t1 H6 e6 ht1 _ => ?_⟩
    walk_at "rd"
    refine rd_ixL (SqL.of (e6 _ _ (wl2.ext _ _ hd))) g5 ?_
    obtain ⟨x5, hx5, ax5⟩ := two_at (a := V.str "up") (b := V.str "stay") b50 b51
    refine rd_ixL (SqL.of ht1) hx5 ?_
    walk_at "rd"
    refine ⟨small_line (by simp), rd_new fun t2 H7 e7 ht2 _ => ?_⟩
    walk_at "rd"
    refine rd_ixL (SqL.of (e7 _ _ (e6 _ _ (wl2.ext _ _ hd)))) g6 ?_
    obtain ⟨x6, hx6, ax6⟩ := two_at (a := V.int 0) (b := V.int (m - 1)) b60 b61
    refine rd_ixL (SqL.of ht2) hx6 ?_
    walk_at "rd"
    refine ⟨small_line (by simp), rd_new fun v H8 e8 hv _ => ?_⟩
    walk_at "rd"
    obtain ⟨z, rfl, oz⟩ : ∃ z, x5 = .str z ∧ okDeed z := by
      rcases ax5 with rfl | rfl
      · exact ⟨_, rfl, okU⟩
      · exact ⟨_, rfl, okS⟩
    obtain ⟨y, rfl, y0, y1⟩ : ∃ y : Int, x6 = .int y ∧ 0 ≤ y ∧ y < m := by
      rcases ax6 with rfl | rfl
      · exact ⟨_, rfl, by omega, by omega⟩
      · exact ⟨_, rfl, by omega, by omega⟩
    obtain ⟨xs, hx, hlx, wl3⟩ := wl2.push (w := ⟨m - 1, z, y, "b"⟩) hfn0 (e6.trans (e7.trans e8)) hv
    have ok3 := all_snoc ok2 (w := ⟨m - 1, z, y, "b"⟩) ⟨by show 0 ≤ m - 1; omega, by show m - 1 < m; omega, y0, y1, oz, sgB⟩
    refine rd_append hx (line16 (by omega)) ?_
    generalize upd H8 f _ = H9 at wl3 ⊢
    generalize hus3 : us2 ++ [_] = us3 at wl3 ok3
    have len3 : us3.length = U + D + 3 := by rw [← hus3]; simp [len2]
    walk_at "rd"
    obtain ⟨ew, cs, hcs, al⟩ := wl3
    refine ⟨f, cs, us3, rfl, hcs, al, fun u hu => (ok3 u hu).lay, by omega, fun r I1 ws e5 hws nd sub ln => ?_⟩
    walk_at "rd"
    refine ⟨small_line (by simp), rd_new fun t I2 e6' ht _ => ?_⟩
    exact q _ m ws I2 (eH.trans (ew.trans (e5.trans e6'))) (HouseAt.mk ht (hws.ext e6')) ⟨by omega, by omega, by omega, fun u hu => ok3 u (sub u hu), nd⟩
theorem AlW.rev {H : Hp} {bs : List Addr} {ws : List Way} (h : AlW H bs ws) : AlW H bs.reverse ws.reverse := by
  refine ⟨by rw [List.length_reverse, List.length_reverse]; exact h.1, fun j b w e1 e2 => ?_⟩
  have hj : j < bs.length := by
    have := (List.getElem?_eq_some_iff.mp e1).1
    simpa using this
  rw [List.getElem?_reverse hj] at e1
  rw [List.getElem?_reverse (by rw [← h.1]; exact hj), ← h.1] at e2
  exact h.2 _ b w e1 e2
theorem nodup_snoc {us : List Way} {w : Way} (h : us.Nodup) (hw : w ∉ us) : (us ++ [w]).Nodup := by
  rw [List.nodup_append]
  exact ⟨h, by simp, fun a ha c hc => by rw [List.mem_singleton.mp hc]; exact fun z => hw (z ▸ ha)⟩
theorem all_snocP {P : Way → Prop} {us : List Way} {w : Way} (h : ∀ u ∈ us, P u) (hw : P w) : ∀ u ∈ us ++ [w], P u := fun u hu => by
  rcases List.mem_append.mp hu with hu | hu
  · exact h u hu
  · rw [List.mem_singleton.mp hu]; exact hw
theorem ne_ab : (Str.ofString "a") ≠ "b" := by decide +kernel
theorem ne_ac : (Str.ofString "a") ≠ "c" := by decide +kernel
theorem ne_bc : (Str.ofString "b") ≠ "c" := by decide +kernel
noncomputable def sp__law_ring_house (K : PySem.W.Frag) : Sp := fun vs H Q _ => ∃ c p, vs = [.int c, .int p] ∧ 0 < p ∧ ∀ v m ws H', Ext H H' → HouseAt H' v m ws → HOuse3 m ws → Q v H'
noncomputable abbrev s__law_ring_house : Stmt := stq 44
theorem sc__law_ring_house : FnScope ["_law_cell_here", "_law_prime", "_law_draws_here", "_law_one", "_law_two", "_law_many", "_law_ways", "_law_k"] ["_law_cell_here", "_law_prime"] (defScope s__law_ring_house) := ⟨rfl, rfl, rfl, by decide +kernel, rfl, by decide +kernel, by decide +kernel⟩
theorem ok__law_ring_house {P : Program} {w : World} {K : PySem.W.Frag} {mg : Str → Option Value} {base : Heap} (D : Dfn K mg "_law_ring_house" s__law_ring_house ["_law_cell_here", "_law_prime"]) (T : Blt mg) (C__law_draws : Cal P w K mg base "_law_draws" 2 ["_law_cell_here", "_law_widths", "_law_prime"] (sp__law_draws K)) : Cal P w K mg base "_law_ring_house" 3 ["_law_cell_here", "_law_prime"] (sp__law_ring_house K) := by
  have nd := (sc__law_ring_house).nd
  refine D.ok sc__law_ring_house (fun vs H Q E h => ?_) (fun X hX H vs Q E h => ?_)
  · obtain ⟨c, p, rfl, _⟩ := h; rfl
  · obtain ⟨f, cdv, A, outer, s, H0, E0, rfl, hr⟩ := hX
    obtain ⟨c, p, rfl, hp, q⟩ := h
    refine ⟨_, (no_implicit_lambda% (@pss_cons _ _ _ _ _ (no_implicit_lambda% (@ps_set _ _ 2 _ _ _ _ nd rfl (Or.inl rfl) (no_implicit_lambda% (pe_cal C__law_draws hr (no_implicit_lambda% (@pa_cons _ _ _ _ _ (no_implicit_lambda% (pv 0)) (no_implicit_lambda% (@pa_cons _ _ _ _ _ (no_implicit_lambda% (@pe_lst _ _ _ _ (no_implicit_lambda% (pa_ints (.c (.c (.c (.c (.c (.c (.c .n))))))))))) (no_implicit_lambda% (@pa_cons _ _ _ _ _ (no_implicit_lambda% (pv 1)) pa_nil rfl)) rfl)) rfl)))) rfl (Or.inl rfl)))
        (no_implicit_lambda% (@pss_cons _ _ _ _ _ (no_implicit_lambda% (ps_par (i := 3) (j := 4) rfl nd rfl rfl (by decide) rfl rfl (no_implicit_lambda% (@pa_cons _ _ _ _ _ (no_implicit_lambda% (pe_op op_add pe_int (no_implicit_lambda% (@pe_ix _ _ _ _ _ _ _ (ix_listK K) (no_implicit_lambda% (pv 2)) pe_int (fun _ _ => rfl))))) (no_implicit_lambda% (@pa_cons _ _ _ _ _ (no_implicit_lambda% (pe_op op_add pe_int (no_implicit_lambda% (@pe_ix _ _ _ _ _ _ _ (ix_listK K) (no_implicit_lambda% (pv 2)) pe_int (fun _ _ => rfl))))) pa_nil rfl)) rfl)) rfl))
        (no_implicit_lambda% (@pss_cons _ _ _ _ _ (no_implicit_lambda% (@ps_set _ _ 5 _ _ _ _ nd rfl (Or.inl rfl) (no_implicit_lambda% (pe_op op_add (no_implicit_lambda% (pe_op op_add (no_implicit_lambda% (pv 3)) (no_implicit_lambda% (pv 4)))) pe_int)) rfl (Or.inl rfl)))
        (no_implicit_lambda% (@pss_cons _ _ _ _ _ (no_implicit_lambda% (@ps_set _ _ 6 _ _ _ _ nd rfl (Or.inl rfl) (no_implicit_lambda% (@pe_lst _ _ _ _ (no_implicit_lambda% (@pa_cons _ _ _ _ _ (no_implicit_lambda% (@pe_tup _ _ _ _ _ (no_implicit_lambda% (@pa_cons _ _ _ _ _ pe_int (no_implicit_lambda% (@pa_cons _ _ _ _ _ pe_str (no_implicit_lambda% (@pa_cons _ _ _ _ _ pe_int (no_implicit_lambda% (@pa_cons _ _ _ _ _ pe_str pa_nil rfl)) rfl)) rfl)) rfl)))) (no_implicit_lambda% (@pa_cons _ _ _ _ _ (no_implicit_lambda% (@pe_tup _ _ _ _ _ (no_implicit_lambda% (@pa_cons _ _ _ _ _ pe_int (no_implicit_lambda% (@pa_cons _ _ _ _ _ (no_implicit_lambda% (@pe_ix _ _ _ _ _ _ _ (ix_listK K) (no_implicit_lambda% (@pe_lst _ _ _ _ (no_implicit_lambda% (@pa_cons _ _ _ _ _ pe_str (no_implicit_lambda% (@pa_cons _ _ _ _ _ pe_str pa_nil rfl)) rfl)))) (no_implicit_lambda% (@pe_ix _ _ _ _ _ _ _ (ix_listK K) (no_implicit_lambda% (pv 2)) pe_int (fun _ _ => rfl))) (fun _ _ => rfl))) (no_implicit_lambda% (@pa_cons _ _ _ _ _ (no_implicit_lambda% (pe_op op_add pe_int (no_implicit_lambda% (pv 3)))) (no_implicit_lambda% (@pa_cons _ _ _ _ _ pe_str pa_nil rfl)) rfl)) rfl)) rfl)))) pa_nil rfl)) rfl)))) rfl (Or.inl rfl)))
        (no_implicit_lambda% (@pss_cons _ _ _ _ _ (no_implicit_lambda% (ps_for PassesOwn.never rfl (no_implicit_lambda% (pi_range1 rfl T.range_ (no_implicit_lambda% (@pa_cons _ _ _ _ _ (no_implicit_lambda% (pv 3)) pa_nil rfl)))) (no_implicit_lambda% (pg_name (i := 7) nd rfl (Or.inl rfl))) (no_implicit_lambda% (@pss_one _ _ _ (no_implicit_lambda% (ps_expr (no_implicit_lambda% (pe_bmK K PySem.F.plainAttrs_list PySem.F.slot_list_append PySem.F.type_list_append mt_append (no_implicit_lambda% (pv 6)) (no_implicit_lambda% (@pa_cons _ _ _ _ _ (no_implicit_lambda% (@pe_tup _ _ _ _ _ (no_implicit_lambda% (@pa_cons _ _ _ _ _ (no_implicit_lambda% (pe_op op_add pe_int (no_implicit_lambda% (pv 7)))) (no_implicit_lambda% (@pa_cons _ _ _ _ _ pe_str (no_implicit_lambda% (@pa_cons _ _ _ _ _ (no_implicit_lambda% (pe_op op_add pe_int (no_implicit_lambda% (pe_op op_mod (no_implicit_lambda% (pe_op op_add (no_implicit_lambda% (pv 7)) pe_int)) (no_implicit_lambda% (pv 3)))))) (no_implicit_lambda% (@pa_cons _ _ _ _ _ pe_str pa_nil rfl)) rfl)) rfl)) rfl)))) pa_nil rfl))))))))))
        (no_implicit_lambda% (@pss_cons _ _ _ _ _ (no_implicit_lambda% (ps_for PassesOwn.never rfl (no_implicit_lambda% (pi_range1 rfl T.range_ (no_implicit_lambda% (@pa_cons _ _ _ _ _ (no_implicit_lambda% (pv 4)) pa_nil rfl)))) (no_implicit_lambda% (pg_name (i := 7) nd rfl (Or.inl rfl))) (no_implicit_lambda% (@pss_one _ _ _ (no_implicit_lambda% (ps_expr (no_implicit_lambda% (pe_bmK K PySem.F.plainAttrs_list PySem.F.slot_list_append PySem.F.type_list_append mt_append (no_implicit_lambda% (pv 6)) (no_implicit_lambda% (@pa_cons _ _ _ _ _ (no_implicit_lambda% (@pe_tup _ _ _ _ _ (no_implicit_lambda% (@pa_cons _ _ _ _ _ (no_implicit_lambda% (pe_op op_add (no_implicit_lambda% (pe_op op_add pe_int (no_implicit_lambda% (pv 3)))) (no_implicit_lambda% (pv 7)))) (no_implicit_lambda% (@pa_cons _ _ _ _ _ (no_implicit_lambda% (@pe_ix _ _ _ _ _ _ _ (ix_listK K) (no_implicit_lambda% (@pe_lst _ _ _ _ (no_implicit_lambda% (@pa_cons _ _ _ _ _ pe_str (no_implicit_lambda% (@pa_cons _ _ _ _ _ pe_str pa_nil rfl)) rfl)))) (no_implicit_lambda% (@pe_ix _ _ _ _ _ _ _ (ix_listK K) (no_implicit_lambda% (pv 2)) pe_int (fun _ _ => rfl))) (fun _ _ => rfl))) (no_implicit_lambda% (@pa_cons _ _ _ _ _ (no_implicit_lambda% (pe_op op_add (no_implicit_lambda% (pe_op op_add pe_int (no_implicit_lambda% (pv 3)))) (no_implicit_lambda% (pe_op op_mod (no_implicit_lambda% (pe_op op_add (no_implicit_lambda% (pv 7)) pe_int)) (no_implicit_lambda% (pv 4)))))) (no_implicit_lambda% (@pa_cons _ _ _ _ _ pe_str pa_nil rfl)) rfl)) rfl)) rfl)))) pa_nil rfl))))))))))
        (no_implicit_lambda% (@pss_cons _ _ _ _ _ (no_implicit_lambda% (ps_expr (no_implicit_lambda% (pe_bmK K PySem.F.plainAttrs_list PySem.F.slot_list_append PySem.F.type_list_append mt_append (no_implicit_lambda% (pv 6)) (no_implicit_lambda% (@pa_cons _ _ _ _ _ (no_implicit_lambda% (@pe_tup _ _ _ _ _ (no_implicit_lambda% (@pa_cons _ _ _ _ _ pe_int (no_implicit_lambda% (@pa_cons _ _ _ _ _ pe_str (no_implicit_lambda% (@pa_cons _ _ _ _ _ (no_implicit_lambda% (pe_op op_sub (no_implicit_lambda% (pv 5)) pe_int)) (no_implicit_lambda% (@pa_cons _ _ _ _ _ pe_str pa_nil rfl)) rfl)) rfl)) rfl)))) pa_nil rfl))))))
        (no_implicit_lambda% (@pss_cons _ _ _ _ _ (no_implicit_lambda% (ps_expr (no_implicit_lambda% (pe_bmK K PySem.F.plainAttrs_list PySem.F.slot_list_append PySem.F.type_list_append mt_append (no_implicit_lambda% (pv 6)) (no_implicit_lambda% (@pa_cons _ _ _ _ _ (no_implicit_lambda% (@pe_tup _ _ _ _ _ (no_implicit_lambda% (@pa_cons _ _ _ _ _ (no_implicit_lambda% (pe_op op_add pe_int (no_implicit_lambda% (pv 3)))) (no_implicit_lambda% (@pa_cons _ _ _ _ _ pe_str (no_implicit_lambda% (@pa_cons _ _ _ _ _ (no_implicit_lambda% (pe_op op_sub (no_implicit_lambda% (pv 5)) pe_int)) (no_implicit_lambda% (@pa_cons _ _ _ _ _ pe_str pa_nil rfl)) rfl)) rfl)) rfl)))) pa_nil rfl))))))
        (no_implicit_lambda% (@pss_cons _ _ _ _ _ (no_implicit_lambda% (ps_ifJ (no_implicit_lambda% (pt_cmpR op_eq (no_implicit_lambda% (@pe_ix _ _ _ _ _ _ _ (ix_listK K) (no_implicit_lambda% (pv 2)) pe_int (fun _ _ => rfl))) pe_int (nomark _))) (no_implicit_lambda% (@pss_one _ _ _ (no_implicit_lambda% (ps_expr (no_implicit_lambda% (pe_bmK K PySem.F.plainAttrs_list PySem.F.slot_list_append PySem.F.type_list_append mt_append (no_implicit_lambda% (pv 6)) (no_implicit_lambda% (@pa_cons _ _ _ _ _ (no_implicit_lambda% (@pe_tup _ _ _ _ _ (no_implicit_lambda% (@pa_cons _ _ _ _ _ (no_implicit_lambda% (pe_op op_sub (no_implicit_lambda% (pv 5)) pe_int)) (no_implicit_lambda% (@pa_cons _ _ _ _ _ pe_str (no_implicit_lambda% (@pa_cons _ _ _ _ _ (no_implicit_lambda% (pe_op op_sub (no_implicit_lambda% (pv 5)) pe_int)) (no_implicit_lambda% (@pa_cons _ _ _ _ _ pe_str pa_nil rfl)) rfl)) rfl)) rfl)))) pa_nil rfl)))))))) pss_nil))
        (no_implicit_lambda% (@pss_cons _ _ _ _ _ (no_implicit_lambda% (ps_ifJ (no_implicit_lambda% (pt_cmpR op_eq (no_implicit_lambda% (@pe_ix _ _ _ _ _ _ _ (ix_listK K) (no_implicit_lambda% (pv 2)) pe_int (fun _ _ => rfl))) pe_int (nomark _))) (no_implicit_lambda% (@pss_one _ _ _ (no_implicit_lambda% (ps_expr (no_implicit_lambda% (pe_bmK K PySem.F.plainAttrs_list PySem.F.slot_list_append PySem.F.type_list_append mt_append (no_implicit_lambda% (pv 6)) (no_implicit_lambda% (@pa_cons _ _ _ _ _ (no_implicit_lambda% (@pe_tup _ _ _ _ _ (no_implicit_lambda% (@pa_cons _ _ _ _ _ (no_implicit_lambda% (pe_op op_sub (no_implicit_lambda% (pv 5)) pe_int)) (no_implicit_lambda% (@pa_cons _ _ _ _ _ pe_str (no_implicit_lambda% (@pa_cons _ _ _ _ _ pe_int (no_implicit_lambda% (@pa_cons _ _ _ _ _ pe_str pa_nil rfl)) rfl)) rfl)) rfl)))) pa_nil rfl)))))))) pss_nil))
        (no_implicit_lambda% (@pss_cons _ _ _ _ _ (no_implicit_lambda% (ps_ifJ (no_implicit_lambda% (pt_cmpR op_eq (no_implicit_lambda% (@pe_ix _ _ _ _ _ _ _ (ix_listK K) (no_implicit_lambda% (pv 2)) pe_int (fun _ _ => rfl))) pe_int (nomark _))) (no_implicit_lambda% (@pss_one _ _ _ (no_implicit_lambda% (@ps_set _ _ 6 _ _ _ _ nd rfl (Or.inl rfl) (no_implicit_lambda% (pe_revL K (no_implicit_lambda% (pv 6)) (po_some (no_implicit_lambda% (pe_un un_neg pe_int))))) rfl (Or.inl rfl))))) pss_nil))
        (no_implicit_lambda% (@pss_one _ _ _ (no_implicit_lambda% (@ps_ret _ _ _ _ (no_implicit_lambda% (@pe_tup _ _ _ _ _ (no_implicit_lambda% (@pa_cons _ _ _ _ _ (no_implicit_lambda% (pv 5)) (no_implicit_lambda% (@pa_cons _ _ _ _ _ (no_implicit_lambda% (pe_callTy (call_tupK K) rfl T.tuple_ PyProof.Rows.boot_tuple (no_implicit_lambda% (@pa_cons _ _ _ _ _ (no_implicit_lambda% (pv 6)) pa_nil rfl)))) pa_nil rfl)) rfl)))))))))))))))))))))))))))))), ?_⟩
    walk_at "rd"
    refine ⟨small_line (by simp), rd_new fun w0 G1 f1 hw0 _ => ?_⟩
    walk_at "rd"
    refine mk_draws [5, 5, 2, 2, 4, 4, 2] hw0 (by decide) (by decide) (hp) fun dq ds H1 e1 hd hdn hl hb => ?_
    have eH : Ext H H1 := f1.trans e1
    obtain ⟨d0, g0, b00, b01⟩ := draws_at hl hb 0 rfl
    obtain ⟨d1, g1, b10, b11⟩ := draws_at hl hb 1 rfl
    obtain ⟨d2, g2, b20, b21⟩ := draws_at hl hb 2 rfl
    obtain ⟨d3, g3, b30, b31⟩ := draws_at hl hb 3 rfl
    obtain ⟨d4, g4, _⟩ := draws_at hl hb 4 rfl
    obtain ⟨d5, g5, _⟩ := draws_at hl hb 5 rfl
    obtain ⟨d6, g6, _⟩ := draws_at hl hb 6 rfl
    clear hb hl
    walk_at "rd"
    refine rd_ixL (SqL.of hd) g0 ?_
    walk_at "rd"
    refine rd_ixL (SqL.of hd) g1 ?_
    walk_at "rd"
    obtain ⟨U, hU⟩ : ∃ U : Nat, 1 + d0 = (U : Int) := ⟨(1 + d0).toNat, by omega⟩
    obtain ⟨D, hD⟩ : ∃ D : Nat, 1 + d1 = (D : Int) := ⟨(1 + d1).toNat, by omega⟩
    rw [hU, hD]
    have u1 : 1 ≤ U := by omega
    have u6 : U ≤ 5 := by omega
    have v1 : 1 ≤ D := by omega
    have v5 : D ≤ 5 := by omega
    clear b00 b01 b10 b11 hU hD
    obtain ⟨m, hm⟩ : ∃ m : Int, (U : Int) + (D : Int) + 2 = m := ⟨_, rfl⟩
    rw [hm]
    -- the first two ways
    refine ⟨small_line (by simp), rd_new fun a1 H2 e2 ha1 _ => ?_⟩
    walk_at "rd"
    refine ⟨small_line (by simp), rd_new fun t1 H3 e3 ht1 _ => ?_⟩
    walk_at "rd"
    refine rd_ixL (SqL.of (e3 _ _ (e2 _ _ hd))) g2 ?_
    obtain ⟨x2, hx2, ax2⟩ := two_at (a := V.str "stay") (b := V.str "zero") b20 b21
    refine rd_ixL (SqL.of ht1) hx2 ?_
    walk_at "rd"
    obtain ⟨z2, rfl, oz2⟩ : ∃ z, x2 = .str z ∧ okDeed z := by
      rcases ax2 with rfl | rfl
      · exact ⟨_, rfl, okS⟩
      · exact ⟨_, rfl, okZ⟩
    refine ⟨small_line (by simp), rd_new fun a2 H4 e4 ha2 _ => ?_⟩
    walk_at "rd"
    refine ⟨small_line (by simp), rd_new fun f H5 e5 hf hfn => ?_⟩
    have e15 : Ext H1 H5 := e2.trans (e3.trans (e4.trans e5))
    have hfn0 : H1 f = none := (e2.trans (e3.trans e4)).none hfn
    obtain ⟨y1, hy1⟩ : ∃ y : Way, y = ⟨0, "stay", 1, "a"⟩ := ⟨_, rfl⟩
    obtain ⟨y2, hy2⟩ : ∃ y : Way, y = ⟨0, z2, 1 + (U : Int), "b"⟩ := ⟨_, rfl⟩
    have wl0 : WL H1 H5 f [y1, y2] := by
      refine ⟨e15, [a1, a2], hf, ?_⟩
      have k1 : H5 a1 = some (.tup y1.vs) := by rw [hy1]; exact e5 _ _ (e4 _ _ (e3 _ _ ha1))
      have k2 : H5 a2 = some (.tup y2.vs) := by rw [hy2]; exact e5 _ _ ha2
      exact ((AlW.nil H5).snoc k1).snoc k2
    have ok0 : ∀ u ∈ [y1, y2], u.Ok3 m := by
      intro u hu
      rcases List.mem_cons.mp hu with rfl | hu
      · subst hy1; exact ⟨Int.le_refl _, by show (0 : Int) < m; omega, by show (0 : Int) ≤ 1; decide, by show (1 : Int) < m; omega, okS, sgA⟩
      · rw [List.mem_singleton.mp hu]; subst hy2; exact ⟨Int.le_refl _, by show (0 : Int) < m; omega, by show (0 : Int) ≤ 1 + (U : Int); omega, by show 1 + (U : Int) < m; omega, oz2, sgB⟩
    have nd0 : [y1, y2].Nodup := by
      subst hy1 hy2
      refine List.nodup_cons.mpr ⟨fun z => ?_, by simp⟩
      have := congrArg Way.sign (List.mem_singleton.mp z)
      exact ne_ab this
    have pr0 : ∀ u ∈ [y1, y2], u.room ≤ ((0 : Nat) : Int) ∧ u.sign ≠ "c" := by
      intro u hu
      rcases List.mem_cons.mp hu with rfl | hu
      · subst hy1; exact ⟨Int.le_refl _, ne_ac⟩
      · rw [List.mem_singleton.mp hu]; subst hy2; exact ⟨Int.le_refl _, ne_bc⟩
    have ln0 : [y1, y2].length = 2 := rfl
    generalize [y1, y2] = us0 at wl0 ok0 nd0 pr0 ln0
    clear hy1 hy2 ha1 ha2 ht1 hf e2 e3 e4 e5
    walk_at "rd"
    refine rd_i1x (by omega) ?_
    refine forR (fun i σ H3 => ∃ (k : Option V) (us : List Way), σ = [some (.int c), some (.int p), some (.ref dq), some (.int U), some (.int D), some (.int m), some (.ref f), k] ∧ WL H1 H3 f us ∧ (∀ u ∈ us, u.Ok3 m) ∧ us.Nodup ∧ (∀ u ∈ us, u.room ≤ (i : Int) ∧ u.sign ≠ "c") ∧ us.length = 2 + i)
      ⟨none, us0, rfl, wl0, ok0, nd0, pr0, ln0⟩ ?_ ?_
    · rintro i σ H3 hi ⟨k, us, rfl, wl, ok, nd', pr, len⟩
      rw [Int.toNat_natCast] at hi
      walk_at "rd"
      refine ⟨wl.ty (Ext.rfl' _), ?_⟩
      walk_at "rd"
      try refine rd_I (show (0 : Int) < (U : Int) by omega) ?_
      walk_at "rd"
      refine ⟨small_line (by simp), rd_new fun v H4 e4 hv _ => ?_⟩
      walk_at "rd"
      have r0 : 0 ≤ (0 + (i : Int) + 1) % (U : Int) := Int.emod_nonneg _ (by omega)
      have r1 : (0 + (i : Int) + 1) % (U : Int) < U := Int.emod_lt_of_pos _ (by omega)
      obtain ⟨xs, hx, hlx, wl'⟩ := wl.push (w := ⟨1 + (0 + (i : Int)), "up", 1 + (0 + (i : Int) + 1) % (U : Int), "a"⟩) hfn0 e4 hv
      refine rd_append hx (line16 (by omega)) ?_
      walk_at "rd"
      refine ⟨_, _, rfl, wl', all_snoc ok ⟨by show 0 ≤ 1 + (0 + (i : Int)); omega, by show 1 + (0 + (i : Int)) < m; omega, by show 0 ≤ 1 + (0 + (i : Int) + 1) % (U : Int); omega, by show 1 + (0 + (i : Int) + 1) % (U : Int) < m; omega, okU, sgA⟩, nodup_snoc nd' fun z => ?_, all_snocP (fun u hu => ⟨by have := (pr u hu).1; omega, (pr u hu).2⟩) ⟨by show 1 + (0 + (i : Int)) ≤ _; omega, ne_ac⟩, by simp [len]; omega⟩
      have := (pr _ z).1
      have : 1 + (0 + (i : Int)) ≤ (i : Int) := this
      omega
    clear wl0 ok0 nd0 pr0 ln0
    rintro σ H3 ⟨k, us, rfl, wl, ok, nd', pr, len⟩
    rw [Int.toNat_natCast] at pr len
    walk_at "rd"
    refine rd_i1x (by omega) ?_
    refine forR (fun i σ H3 => ∃ (k : Option V) (us : List Way), σ = [some (.int c), some (.int p), some (.ref dq), some (.int U), some (.int D), some (.int m), some (.ref f), k] ∧ WL H1 H3 f us ∧ (∀ u ∈ us, u.Ok3 m) ∧ us.Nodup ∧ (∀ u ∈ us, u.room ≤ (U : Int) + (i : Int) ∧ u.sign ≠ "c" ∧ (u.room = 1 + (U : Int) → u.sign = "b")) ∧ us.length = 2 + U + i)
      ⟨_, us, rfl, wl, ok, nd', fun u hu => ⟨by have := (pr u hu).1; omega, (pr u hu).2, fun z => by have := (pr u hu).1; omega⟩, len⟩ ?_ ?_
    · clear wl ok nd' pr len
      rintro i σ H3 hi ⟨k, us, rfl, wl, ok, nd', pr, len⟩
      rw [Int.toNat_natCast] at hi
      walk_at "rd"
      refine ⟨wl.ty (Ext.rfl' _), ?_⟩
      walk_at "rd"
      refine ⟨small_line (by simp), rd_new fun t1 H6 e6 ht1 _ => ?_⟩
      walk_at "rd"
      refine rd_ixL (SqL.of (e6 _ _ (wl.ext _ _ hd))) g3 ?_
      obtain ⟨x3, hx3, ax3⟩ := two_at (a := V.str "up") (b := V.str "down") b30 b31
      refine rd_ixL (SqL.of ht1) hx3 ?_
      walk_at "rd"
      obtain ⟨z3, rfl, oz3⟩ : ∃ z, x3 = .str z ∧ okDeed z := by
        rcases ax3 with rfl | rfl
        · exact ⟨_, rfl, okU⟩
        · exact ⟨_, rfl, okDn⟩
      try refine rd_I (show (0 : Int) < (D : Int) by omega) ?_
      walk_at "rd"
      refine ⟨small_line (by simp), rd_new fun v H4 e4 hv _ => ?_⟩
      walk_at "rd"
      have r0 : 0 ≤ (0 + (i : Int) + 1) % (D : Int) := Int.emod_nonneg _ (by omega)
      have r1 : (0 + (i : Int) + 1) % (D : Int) < D := Int.emod_lt_of_pos _ (by omega)
      obtain ⟨xs, hx, hlx, wl'⟩ := wl.push (w := ⟨1 + (U : Int) + (0 + (i : Int)), z3, 1 + (U : Int) + (0 + (i : Int) + 1) % (D : Int), "b"⟩) hfn0 (e6.trans e4) hv
      refine rd_append hx (line16 (by omega)) ?_
      walk_at "rd"
      refine ⟨_, _, rfl, wl', all_snoc ok ⟨by show 0 ≤ 1 + (U : Int) + (0 + (i : Int)); omega, by show 1 + (U : Int) + (0 + (i : Int)) < m; omega, by show 0 ≤ 1 + (U : Int) + (0 + (i : Int) + 1) % (D : Int); omega, by show 1 + (U : Int) + (0 + (i : Int) + 1) % (D : Int) < m; omega, oz3, sgB⟩, nodup_snoc nd' fun z => ?_, all_snocP (fun u hu => ⟨by have := (pr u hu).1; omega, (pr u hu).2⟩) ⟨by show 1 + (U : Int) + (0 + (i : Int)) ≤ _; omega, ne_bc, fun _ => rfl⟩, by simp [len]; omega⟩
      have := (pr _ z).1
      have : 1 + (U : Int) + (0 + (i : Int)) ≤ (U : Int) + (i : Int) := this
      omega
    clear wl ok nd' pr len
    rintro σ H3 ⟨k, us, rfl, wl, ok, nd', pr, len⟩
    rw [Int.toNat_natCast] at pr len
    walk_at "rd"
    -- (1, stay, m - 1, c)
    refine ⟨wl.ty (Ext.rfl' _), ?_⟩
    walk_at "rd"
    refine ⟨small_line (by simp), rd_new fun v H4 e4 hv _ => ?_⟩
    walk_at "rd"
    obtain ⟨xs, hx, hlx, wl2⟩ := wl.push (w := ⟨1, "stay", m - 1, "c"⟩) hfn0 e4 hv
    have ok2 := all_snoc ok (w := ⟨1, "stay", m - 1, "c"⟩) ⟨by show (0 : Int) ≤ 1; decide, by show (1 : Int) < m; omega, by show 0 ≤ m - 1; omega, by show m - 1 < m; omega, okS, sgC⟩
    have nd2 := nodup_snoc nd' (w := ⟨1, "stay", m - 1, "c"⟩) fun z => (pr _ z).2.1 rfl
    have pr2 := all_snocP (P := fun u => u.room ≤ (U : Int) + (D : Int) ∧ (u.room = 1 + (U : Int) → u.sign = "b")) (fun u hu => ⟨(pr u hu).1, (pr u hu).2.2⟩) (w := ⟨1, "stay", m - 1, "c"⟩) ⟨by show (1 : Int) ≤ _; omega, fun z => by have : (1 : Int) = 1 + (U : Int) := z; omega⟩
    refine rd_append hx (line16 (by omega)) ?_
    generalize upd H4 f _ = H5 at wl2 ⊢
    generalize hus2 : us ++ [_] = us2 at wl2 ok2 nd2 pr2
    have len2 : us2.length = 3 + U + D := by rw [← hus2]; simp [len]; omega
    clear hus2 hx hlx hv e4 wl ok nd' pr len
    walk_at "rd"
    -- (1 + U, stay, m - 1, a)
    refine ⟨wl2.ty (Ext.rfl' _), ?_⟩
    walk_at "rd"
    refine ⟨small_line (by simp), rd_new fun v H4 e4 hv _ => ?_⟩
    walk_at "rd"
    obtain ⟨xs, hx, hlx, wl3⟩ := wl2.push (w := ⟨1 + (U : Int), "stay", m - 1, "a"⟩) hfn0 e4 hv
    have ok3 := all_snoc ok2 (w := ⟨1 + (U : Int), "stay", m - 1, "a"⟩) ⟨by show (0 : Int) ≤ 1 + (U : Int); omega, by show 1 + (U : Int) < m; omega, by show 0 ≤ m - 1; omega, by show m - 1 < m; omega, okS, sgA⟩
    have nd3 := nodup_snoc nd2 (w := ⟨1 + (U : Int), "stay", m - 1, "a"⟩) fun z => ne_ab ((pr2 _ z).2 rfl)
    have pr3 := all_snocP (P := fun u => u.room ≤ (U : Int) + (D : Int)) (fun u hu => (pr2 u hu).1) (w := ⟨1 + (U : Int), "stay", m - 1, "a"⟩) (by show 1 + (U : Int) ≤ _; omega)
    refine rd_append hx (line16 (by omega)) ?_
    generalize upd H4 f _ = H6 at wl3 ⊢
    generalize hus3 : us2 ++ [_] = us3 at wl3 ok3 nd3 pr3
    have len3 : us3.length = 4 + U + D := by rw [← hus3]; simp [len2]; omega
    clear hus3 hx hlx hv e4 wl2 ok2 nd2 pr2 len2
    walk_at "rd"
    -- the two that may be left out
    refine rd_ifJ (fun σ' H' => ∃ (k : Option V) (us : List Way), σ' = [some (.int c), some (.int p), some (.ref dq), some (.int U), some (.int D), some (.int m), some (.ref f), k] ∧ WL H1 H' f us ∧ (∀ u ∈ us, u.Ok3 m) ∧ us.Nodup ∧ (∀ u ∈ us, u.room ≤ (U : Int) + (D : Int) ∨ u.sign = "c") ∧ us.length ≤ 5 + U + D) ?_ ?_
    · walk_at "rd"
      refine rd_ixL (SqL.of (wl3.ext _ _ hd)) g4 ?_
      walk_at "rd"
      refine ite2 (fun h => ?_) (fun h => ?_)
      · walk_at "rd"
        refine ⟨wl3.ty (Ext.rfl' _), ?_⟩
        walk_at "rd"
        refine ⟨small_line (by simp), rd_new fun v H4 e4 hv _ => ?_⟩
        walk_at "rd"
        obtain ⟨xs, hx, hlx, wl4⟩ := wl3.push (w := ⟨m - 1, "down", m - 1, "c"⟩) hfn0 e4 hv
        refine rd_append hx (line16 (by omega)) ?_
        walk_at "rd"
        exact ⟨_, _, rfl, wl4, all_snoc ok3 ⟨by show 0 ≤ m - 1; omega, by show m - 1 < m; omega, by show 0 ≤ m - 1; omega, by show m - 1 < m; omega, okDn, sgC⟩, nodup_snoc nd3 fun z => by have : m - 1 ≤ (U : Int) + (D : Int) := pr3 _ z; omega, all_snocP (fun u hu => .inl (pr3 u hu)) (.inr rfl), by simp [len3]; omega⟩
      · walk_at "rd"
        exact ⟨_, us3, rfl, wl3, ok3, nd3, fun u hu => .inl (pr3 u hu), by omega⟩
    clear wl3 ok3 nd3 pr3 len3
    rintro σ' H7 ⟨k, us, rfl, wl, ok, nd', pr, len⟩
    walk_at "rd"
    refine rd_ifJ (fun σ' H' => ∃ (k : Option V) (us : List Way), σ' = [some (.int c), some (.int p), some (.ref dq), some (.int U), some (.int D), some (.int m), some (.ref f), k] ∧ WL H1 H' f us ∧ (∀ u ∈ us, u.Ok3 m) ∧ us.Nodup ∧ us.length ≤ 6 + U + D) ?_ ?_
    · walk_at "rd"
      refine rd_ixL (SqL.of (wl.ext _ _ hd)) g5 ?_
      walk_at "rd"
      refine ite2 (fun h => ?_) (fun h => ?_)
      · walk_at "rd"
        refine ⟨wl.ty (Ext.rfl' _), ?_⟩
        walk_at "rd"
        refine ⟨small_line (by simp), rd_new fun v H4 e4 hv _ => ?_⟩
        walk_at "rd"
        obtain ⟨xs, hx, hlx, wl4⟩ := wl.push (w := ⟨m - 1, "zero", 0, "b"⟩) hfn0 e4 hv
        refine rd_append hx (line16 (by omega)) ?_
        walk_at "rd"
        exact ⟨_, _, rfl, wl4, all_snoc ok ⟨by show 0 ≤ m - 1; omega, by show m - 1 < m; omega, by show (0 : Int) ≤ 0; decide, by show (0 : Int) < m; omega, okZ, sgB⟩, nodup_snoc nd' (fun z => (pr _ z).elim (fun y => by have : m - 1 ≤ (U : Int) + (D : Int) := y; omega) fun y => ne_bc y), by simp; omega⟩
      · walk_at "rd"
        exact ⟨_, us, rfl, wl, ok, nd', by omega⟩
    clear wl ok nd' pr len
    rintro σ' H8 ⟨k, us, rfl, wl, ok, nd', len⟩
    walk_at "rd"
    -- backward or not
    refine rd_ifJ (fun σ' H' => ∃ (k : Option V) (f : Addr) (cs : List Addr) (us : List Way), σ' = [some (.int c), some (.int p), some (.ref dq), some (.int U), some (.int D), some (.int m), some (.ref f), k] ∧ Ext H1 H' ∧ H' f = some (.lst (cs.map V.ref)) ∧ AlW H' cs us ∧ (∀ u ∈ us, u.Ok3 m) ∧ us.Nodup ∧ us.length ≤ 6 + U + D) ?_ ?_
    · walk_at "rd"
      refine rd_ixL (SqL.of (wl.ext _ _ hd)) g6 ?_
      walk_at "rd"
      obtain ⟨ew, cs, hcs, al⟩ := wl
      refine ite2 (fun h => ?_) (fun h => ?_)
      · walk_at "rd"
        refine ⟨rfl, rd_revLL (SqL.of hcs) (rd_new fun r H9 e9 hr9 _ => ?_)⟩
        walk_at "rd"
        exact ⟨_, r, cs.reverse, us.reverse, rfl, ew.trans e9, by rw [hr9, List.map_reverse], (al.ext e9).rev, fun u hu => ok u (List.mem_reverse.mp hu), List.pairwise_reverse.mpr (nd'.imp fun h => Ne.symm h), by rw [List.length_reverse]; omega⟩
      · walk_at "rd"
        exact ⟨_, f, cs, us, rfl, ew, hcs, al, ok, nd', by omega⟩
    clear wl ok nd' len
    rintro σ' H9 ⟨k, g, cs, us, rfl, ew, hcs, al, ok, nd', len⟩
    walk_at "rd"
    refine rd_tupL (SqL.of hcs) (rd_new fun r I1 i1 hr1 _ => ?_)
    walk_at "rd"
    refine ⟨small_line (by simp), rd_new fun t I2 i2 ht _ => ?_⟩
    exact q _ m us I2 (eH.trans (ew.trans (i1.trans i2))) (HouseAt.mk ht (((al.ext i1).ways hr1).ext i2)) ⟨by omega, by omega, by omega, ok, nd'⟩
noncomputable def sp__law_house (K : PySem.W.Frag) : Sp := fun vs H Q _ => ∃ c p, vs = [.int c, .int p] ∧ 0 < p ∧ ∀ v m ws H', Ext H H' → HouseAt H' v m ws → HOuse3 m ws → Q v H'
noncomputable abbrev s__law_house : Stmt := stq 48
theorem sc__law_house : FnScope ["_law_cell_here", "_law_prime", "_law_kind_here", "_law_left"] ["_law_cell_here", "_law_prime"] (defScope s__law_house) := ⟨rfl, rfl, rfl, by decide +kernel, rfl, by decide +kernel, by decide +kernel⟩
theorem ok__law_house {P : Program} {w : World} {K : PySem.W.Frag} {mg : Str → Option Value} {base : Heap} (D : Dfn K mg "_law_house" s__law_house ["_law_cell_here", "_law_prime"]) (T : Blt mg) (C__law_drawn_house : Cal P w K mg base "_law_drawn_house" 3 ["_law_cell_here", "_law_prime"] (sp__law_drawn_house K)) (C__law_gate_house : Cal P w K mg base "_law_gate_house" 3 ["_law_cell_here", "_law_prime"] (sp__law_gate_house K)) (C__law_ring_house : Cal P w K mg base "_law_ring_house" 3 ["_law_cell_here", "_law_prime"] (sp__law_ring_house K)) (C__law_spare : Cal P w K mg base "_law_spare" 1 ["_law_cell_here", "_law_width"] (sp__law_spare K)) (C__law_draws : Cal P w K mg base "_law_draws" 2 ["_law_cell_here", "_law_widths", "_law_prime"] (sp__law_draws K)) : Cal P w K mg base "_law_house" 4 ["_law_cell_here", "_law_prime"] (sp__law_house K) := by
  have nd := (sc__law_house).nd
  refine D.ok sc__law_house (fun vs H Q E h => ?_) (fun X hX H vs Q E h => ?_)
  · obtain ⟨c, p, rfl, _⟩ := h; rfl
  · obtain ⟨f, cdv, A, outer, s, H0, E0, rfl, hr⟩ := hX
    obtain ⟨c, p, rfl, hp, q⟩ := h
    refine ⟨_, (no_implicit_lambda% (pss_cons (no_implicit_lambda% (ps_set (i := 2) nd rfl (Or.inl rfl) (no_implicit_lambda% (pe_ix (ix_listK K) (no_implicit_lambda% (pe_cal C__law_draws hr (no_implicit_lambda% (pa_cons (no_implicit_lambda% (pv 0)) (no_implicit_lambda% (pa_cons (no_implicit_lambda% (pe_lst (no_implicit_lambda% (pa_cons pe_int pa_nil)))) (no_implicit_lambda% (pa_cons (no_implicit_lambda% (pv 1)) pa_nil)))))))) pe_int (fun _ _ => rfl)))))
        (no_implicit_lambda% (pss_cons (no_implicit_lambda% (ps_set (i := 3) nd rfl (Or.inl rfl) (no_implicit_lambda% (pe_cal C__law_spare hr (no_implicit_lambda% (pa_cons (no_implicit_lambda% (pv 0)) (no_implicit_lambda% (pa_cons pe_int pa_nil))))))))
        (no_implicit_lambda% (pss_cons (no_implicit_lambda% (ps_if (no_implicit_lambda% (pt_cmpR op_eq (no_implicit_lambda% (pv 2)) pe_int (nomark _))) (no_implicit_lambda% (pss_one (no_implicit_lambda% (ps_ret (no_implicit_lambda% (pe_cal C__law_ring_house hr (no_implicit_lambda% (pa_cons (no_implicit_lambda% (pv 3)) (no_implicit_lambda% (pa_cons (no_implicit_lambda% (pv 1)) pa_nil)))))))))) pss_nil))
        (no_implicit_lambda% (pss_cons (no_implicit_lambda% (ps_if (no_implicit_lambda% (pt_cmpR op_eq (no_implicit_lambda% (pv 2)) pe_int (nomark _))) (no_implicit_lambda% (pss_one (no_implicit_lambda% (ps_ret (no_implicit_lambda% (pe_cal C__law_gate_house hr (no_implicit_lambda% (pa_cons (no_implicit_lambda% (pv 3)) (no_implicit_lambda% (pa_cons (no_implicit_lambda% (pv 1)) pa_nil)))))))))) pss_nil))
        (no_implicit_lambda% (pss_one (no_implicit_lambda% (ps_ret (no_implicit_lambda% (pe_cal C__law_drawn_house hr (no_implicit_lambda% (pa_cons (no_implicit_lambda% (pv 3)) (no_implicit_lambda% (pa_cons (no_implicit_lambda% (pv 1)) pa_nil)))))))))))))))))), ?_⟩
    walk_at "rd"
    refine ⟨small_line (by simp), rd_new fun w0 G1 f1 hw0 _ => ?_⟩
    walk_at "rd"
    refine mk_draws [8] hw0 (by decide) (by decide) (hp) fun dq ds H1 e1 hd hdn hl hb => ?_
    have eH : Ext H H1 := f1.trans e1
    obtain ⟨d0, g0, _⟩ := draws_at hl hb 0 rfl
    walk_at "rd"
    refine rd_ixL (SqL.of hd) g0 ?_
    walk_at "rd"
    refine ⟨c, 8, rfl, by decide, by decide, fun z => ?_⟩
    walk_at "rd"
    refine ite2 (fun h => ?_) (fun h => ?_)
    · walk_at "rd"
      exact ⟨z, p, rfl, hp, fun v m ws H' e hv ok => q v m ws H' (eH.trans e) hv ok⟩
    · walk_at "rd"
      refine ite2 (fun h => ?_) (fun h => ?_)
      · walk_at "rd"
        exact ⟨z, p, rfl, hp, fun v m ws H' e hv ok => q v m ws H' (eH.trans e) hv ok⟩
      · walk_at "rd"
        exact ⟨z, p, rfl, hp, fun v m ws H' e hv ok => q v m ws H' (eH.trans e) hv ok⟩
noncomputable def sp__law_number (K : PySem.W.Frag) : Sp := fun vs H Q _ => ∃ c p, vs = [.int c, .int p] ∧ 0 < p ∧ ∀ n H', Ext H H' → 0 ≤ n → n ≤ 1000 → Q (.int n) H'
noncomputable abbrev s__law_number : Stmt := stq 50
theorem sc__law_number : FnScope ["_law_cell_here", "_law_prime", "_law_draws_here"] ["_law_cell_here", "_law_prime"] (defScope s__law_number) := ⟨rfl, rfl, rfl, by decide +kernel, rfl, by decide +kernel, by decide +kernel⟩
theorem ok__law_number {P : Program} {w : World} {K : PySem.W.Frag} {mg : Str → Option Value} {base : Heap} (D : Dfn K mg "_law_number" s__law_number ["_law_cell_here", "_law_prime"]) (T : Blt mg) (C__law_draws : Cal P w K mg base "_law_draws" 2 ["_law_cell_here", "_law_widths", "_law_prime"] (sp__law_draws K)) : Cal P w K mg base "_law_number" 3 ["_law_cell_here", "_law_prime"] (sp__law_number K) := by
  have nd := (sc__law_number).nd
  refine D.ok sc__law_number (fun vs H Q E h => ?_) (fun X hX H vs Q E h => ?_)
  · obtain ⟨c, p, rfl, _⟩ := h; rfl
  · obtain ⟨f, cdv, A, outer, s, H0, E0, rfl, hr⟩ := hX
    obtain ⟨c, p, rfl, hp, q⟩ := h
    refine ⟨_, (no_implicit_lambda% (pss_cons (no_implicit_lambda% (ps_set (i := 2) nd rfl (Or.inl rfl) (no_implicit_lambda% (pe_cal C__law_draws hr (no_implicit_lambda% (pa_cons (no_implicit_lambda% (pv 0)) (no_implicit_lambda% (pa_cons (no_implicit_lambda% (pe_lst (no_implicit_lambda% (pa_ints (.c (.c (.c (.c .n)))))))) (no_implicit_lambda% (pa_cons (no_implicit_lambda% (pv 1)) pa_nil))))))))))
        (no_implicit_lambda% (pss_cons (no_implicit_lambda% (ps_if (no_implicit_lambda% (pt_cmpR op_eq (no_implicit_lambda% (pe_ix (ix_listK K) (no_implicit_lambda% (pv 2)) pe_int (fun _ _ => rfl))) pe_int (nomark _))) (no_implicit_lambda% (pss_one (no_implicit_lambda% (ps_ret (no_implicit_lambda% (pe_ix (ix_listK K) (no_implicit_lambda% (pv 2)) pe_int (fun _ _ => rfl))))))) pss_nil))
        (no_implicit_lambda% (pss_cons (no_implicit_lambda% (ps_if (no_implicit_lambda% (pt_cmpR op_eq (no_implicit_lambda% (pe_ix (ix_listK K) (no_implicit_lambda% (pv 2)) pe_int (fun _ _ => rfl))) pe_int (nomark _))) (no_implicit_lambda% (pss_one (no_implicit_lambda% (ps_ret (no_implicit_lambda% (pe_ix (ix_listK K) (no_implicit_lambda% (pv 2)) pe_int (fun _ _ => rfl))))))) pss_nil))
        (no_implicit_lambda% (pss_one (no_implicit_lambda% (ps_ret (no_implicit_lambda% (pe_ix (ix_listK K) (no_implicit_lambda% (pv 2)) pe_int (fun _ _ => rfl))))))))))))), ?_⟩
    walk_at "rd"
    refine ⟨small_line (by simp), rd_new fun w0 G1 f1 hw0 _ => ?_⟩
    walk_at "rd"
    refine mk_draws [8, 13, 201, 1001] hw0 (by decide) (by decide) (hp) fun dq ds H1 e1 hd hdn hl hb => ?_
    have eH : Ext H H1 := f1.trans e1
    obtain ⟨d0, g0, _⟩ := draws_at hl hb 0 rfl
    obtain ⟨d1, g1, b10, b11⟩ := draws_at hl hb 1 rfl
    obtain ⟨d2, g2, b20, b21⟩ := draws_at hl hb 2 rfl
    obtain ⟨d3, g3, b30, b31⟩ := draws_at hl hb 3 rfl
    walk_at "rd"
    refine rd_ixL (SqL.of hd) g0 ?_
    walk_at "rd"
    refine ite2 (fun h => ?_) (fun h => ?_)
    · walk_at "rd"
      refine rd_ixL (SqL.of hd) g3 ?_
      exact q _ _ eH (by omega) (by omega)
    · walk_at "rd"
      refine rd_ixL (SqL.of hd) g0 ?_
      walk_at "rd"
      refine ite2 (fun h => ?_) (fun h => ?_)
      · walk_at "rd"
        refine rd_ixL (SqL.of hd) g2 ?_
        exact q _ _ eH (by omega) (by omega)
      · walk_at "rd"
        refine rd_ixL (SqL.of hd) g1 ?_
        exact q _ _ eH (by omega) (by omega)
theorem room_yes {m i : Int} (h : 0 ≤ i) (h' : i < m) : roomV m (.int i) = true := by
  unfold roomV
  dsimp only
  rw [decide_eq_true h, decide_eq_true h']
  rfl
noncomputable def Ths (H : Hp) (n : Nat) (xs : List V) : Prop := ∀ x ∈ xs, Thg H n x
theorem Ths.nil (H : Hp) (n : Nat) : Ths H n [] := fun x hx => by cases hx
theorem Ths.cons {H : Hp} {n : Nat} {x : V} {xs : List V} (h : Thg H n x) (h' : Ths H n xs) : Ths H n (x :: xs) := fun y hy => by
  rcases List.mem_cons.mp hy with rfl | hy
  · exact h
  · exact h' y hy
theorem thg_tup {H : Hp} {n : Nat} {p : Addr} {xs : List V} (h : H p = some (.tup xs)) (hl : xs.length ≤ 2000) (hx : Ths H n xs) : Thg H (n + 1) (.ref p) := ⟨xs, .inl h, hl, hx⟩
theorem Thg.up {H : Hp} : ∀ {n : Nat} {v : V}, Thg H n v → Thg H (n + 1) v := by
  intro n
  induction n with
  | zero =>
    intro v h
    cases v <;> first | exact h | exact h.elim
  | succ n ih =>
    intro v h
    cases v with
    | ref p =>
      obtain ⟨xs, h1, h2, h3⟩ := h
      exact ⟨xs, h1, h2, fun x hx => ih (h3 x hx)⟩
    | _ => exact h
theorem thg_int (H : Hp) (n : Nat) (i : Int) : Thg H n (.int i) := by cases n <;> trivial
theorem thg_str (H : Hp) (n : Nat) {z : Str} (h : z.length ≤ 1000) : Thg H n (.str z) := by cases n <;> exact h
theorem deed_len {z : Str} (h : okDeed z) : z.length ≤ 1000 := by
  rcases h with rfl | rfl | rfl | rfl <;> decide +kernel
theorem sign_len {z : Str} (h : okSign z) : z.length ≤ 1000 := by
  obtain ⟨c, _, _, rfl⟩ := h
  show 1 ≤ 1000
  decide
theorem way_ths {H : Hp} {m : Int} {w : Way} (ok : w.Ok m) : Ths H 0 w.vs :=
  .cons (thg_int _ _ _) (.cons (thg_str _ _ (deed_len ok.dd)) (.cons (thg_int _ _ _) (.cons (thg_str _ _ (sign_len ok.sg)) (.nil _ _))))
theorem house_ths {H : Hp} {v : V} {m : Int} {ws : List Way} (h : HouseAt H v m ws) (ok : HOuse m ws) : ∃ p q bs, v = .ref p ∧ H p = some (.tup [.int m, .ref q]) ∧ H q = some (.tup (bs.map V.ref)) ∧ bs.length = ws.length ∧ AlW H bs ws ∧ Ths H 1 (bs.map V.ref) := by
  obtain ⟨p, q, rfl, h1, h2⟩ := h
  obtain ⟨bs, h3, h4⟩ := h2.al
  refine ⟨p, q, bs, rfl, h1, h3, h4.1, h4, fun x hx => ?_⟩
  obtain ⟨b, hb, rfl⟩ := List.mem_map.mp hx
  obtain ⟨j, hj, e⟩ := List.mem_iff_getElem.mp hb
  have hjw : j < ws.length := by rw [← h4.1]; exact hj
  have hw : ws[j]? = some ws[j] := List.getElem?_eq_getElem hjw
  exact thg_tup (h4.2 j b _ (by rw [List.getElem?_eq_getElem hj, e]) hw) (by show 4 ≤ 2000; decide) (way_ths (ok.ok _ (List.getElem_mem _)))
theorem sign1_ok {c : Nat} (h1 : 97 ≤ c) (h2 : c ≤ 122) : sign1 ⟨#[c]⟩ = true := by
  have ea : (Str.ofString "a").cps.toList = [97] := by decide +kernel
  have ez : (Str.ofString "z").cps.toList = [122] := by decide +kernel
  unfold sign1
  rw [ea, ez]
  show (!decide (([c] : List Nat) < [97]) && !decide (([122] : List Nat) < [c])) = true
  rw [decide_eq_false (fun z => by rw [List.cons_lt_cons_iff] at z; simp at z; omega), decide_eq_false (fun z => by rw [List.cons_lt_cons_iff] at z; simp at z; omega)]
  rfl
theorem deedV_ok {z : Str} (h : okDeed z) : deedV (.str z) = true := by
  rcases h with rfl | rfl | rfl | rfl <;> decide +kernel
theorem wayV_ok {H : Hp} {b : Addr} {m : Int} {w : Way} (h : H b = some (.tup w.vs)) (ok : w.Ok m) : wayV H m (.ref b) = true := by
  rw [way_tup h]
  obtain ⟨c, h1, h2, e⟩ := ok.sg
  unfold Way.vs wayL
  dsimp only
  rw [room_yes ok.r0 ok.r1, room_yes ok.o0 ok.o1, deedV_ok ok.dd, e]
  unfold signV
  dsimp only
  rw [sign1_ok h1 h2]
  rfl
theorem al_keys {H : Hp} : ∀ {bs : List Addr} {ws : List Way}, AlW H bs ws → (bs.map V.ref).map (keyV H) = ws.map Way.key
  | [], [], _ => rfl
  | [], _ :: _, h => by cases h.1
  | _ :: _, [], h => by cases h.1
  | b :: bs, w :: ws, h => by
    rw [List.map_cons, List.map_cons, List.map_cons, al_keys (bs := bs) (ws := ws) ⟨Nat.succ.inj h.1, fun j b w e1 e2 => h.2 (j + 1) b w e1 e2⟩, key_tup (h.2 0 b w rfl rfl)]
    rfl
theorem al_all {H : Hp} {m : Int} {bs : List Addr} {ws : List Way} (h : AlW H bs ws) (ok : ∀ w ∈ ws, w.Ok m) : (bs.map V.ref).all (wayV H m) = true := by
  rw [List.all_eq_true]
  intro x hx
  obtain ⟨b, hb, rfl⟩ := List.mem_map.mp hx
  obtain ⟨j, hj, e⟩ := List.mem_iff_getElem.mp hb
  have hjw : j < ws.length := by rw [← h.1]; exact hj
  exact wayV_ok (h.2 j b _ (by rw [List.getElem?_eq_getElem hj, e]) (List.getElem?_eq_getElem hjw)) (ok _ (List.getElem_mem hjw))
theorem house_is {H : Hp} {p q : Addr} {m : Int} {bs : List Addr} {ws : List Way} (h1 : H p = some (.tup [.int m, .ref q])) (h2 : H q = some (.tup (bs.map V.ref))) (h3 : AlW H bs ws) (m1 : 1 ≤ m) (m2 : m ≤ 12) (ok : ∀ w ∈ ws, w.Ok m) (nd : ws.Nodup) : houseV H (.ref p) = decide (ws.length ≤ 100) := by
  rw [house_tup h1]
  unfold houseL
  dsimp only
  rw [decide_eq_true m1, decide_eq_true m2, ways_tup h2]
  unfold waysL
  have hk : (ws.map Way.key).Nodup := by
    unfold List.Nodup at nd ⊢
    rw [List.pairwise_map]
    exact nd.imp fun ne e => ne (Way.key_inj e)
  rw [al_all h3 ok, al_keys h3, decide_eq_true hk, List.length_map, h3.1]
  simp
noncomputable def NoH (H : Hp) (v : V) : Prop := Thg H 4 v ∧ houseV H v = false
noncomputable def Ref (K : PySem.W.Frag) (H : Hp) (E : XK) : Prop := ∀ H', Ext H H' → E (.ref (cA K "NoHouse")) none H'
noncomputable def sp_refuse_no_house (K : PySem.W.Frag) : Sp := fun vs H Q E => ∃ v, vs = [v] ∧ Thg H 4 v ∧ ∀ H', Ext H H' → if houseV H v = true then Q .non H' else E (.ref (cA K "NoHouse")) none H'
noncomputable abbrev s_refuse_no_house : Stmt := stq 27
theorem sc_refuse_no_house : FnScope ["thing"] ["thing"] (defScope s_refuse_no_house) := ⟨rfl, rfl, rfl, by decide +kernel, rfl, by decide +kernel, by decide +kernel⟩
theorem ok_refuse_no_house {P : Program} {w : World} {K : PySem.W.Frag} {mg : Str → Option Value} {base : Heap} (D : Dfn K mg "refuse_no_house" s_refuse_no_house ["thing"]) (T : Blt mg) (XF : Xf K mg base allC raisedC) (C_is_house : Cal P w K mg base "is_house" 5 ["thing"] (sp_is_house K)) : CalX P w K mg base "refuse_no_house" 6 ["thing"] (sp_refuse_no_house K) := by
  have nd := (sc_refuse_no_house).nd
  refine D.okX sc_refuse_no_house (fun vs H Q E h => ?_) (fun f cdv A outer s H vs Q E hr h => ?_)
  · obtain ⟨v, rfl, _⟩ := h; rfl
  · obtain ⟨v, rfl, ht, q⟩ := h
    refine ⟨_, (no_implicit_lambda% (pss_one (no_implicit_lambda% (ps_if (no_implicit_lambda% (pt_not (no_implicit_lambda% (pt_val (no_implicit_lambda% (pe_cal C_is_house hr (no_implicit_lambda% (pa_cons (no_implicit_lambda% (pv 0)) pa_nil)))))))) (no_implicit_lambda% (pss_one (no_implicit_lambda% (ps_raise (XF.own "NoHouse" (by decide +kernel)) PySem.F.excBase_ValueError (no_implicit_lambda% (pa_cons pe_str pa_nil)))))) pss_nil)))), ?_⟩
    walk_at "rd"
    refine ⟨v, rfl, ht, fun H1 e1 => ?_⟩
    have q1 := q H1 e1
    walk_at "rd"
    cases hv : houseV H v with
    | true =>
      rw [hv, if_pos rfl] at q1
      refine iteF ?_
      walk_at "rd"
      exact q1
    | false =>
      rw [hv, if_neg Bool.false_ne_true] at q1
      refine iteT ?_
      walk_at "rd"
      exact ⟨small_line (by simp), q1⟩
theorem refuses {K : PySem.W.Frag} {H : Hp} {v : V} {Q : VK} {E : XK} (hv : NoH H v) (q : Ref K H E) : sp_refuse_no_house K [v] H Q E :=
  ⟨v, rfl, hv.1, fun H1 e1 => by rw [hv.2]; exact iteF (q H1 e1)⟩
theorem house_thg {H : Hp} {v : V} {m : Int} {ws : List Way} (hv : HouseAt H v m ws) (ok : HOuse m ws) : Thg H 4 v ∧ houseV H v = true := by
  obtain ⟨p, q, bs, rfl, h1, h2, h3, h4, h5⟩ := house_ths hv ok
  have hfew := ok.few
  have t2 : Thg H 2 (.ref q) := thg_tup h2 (by rw [List.length_map, h3]; omega) h5
  exact ⟨thg_tup h1 (by simp) (.cons (thg_int _ _ _) (.cons t2.up (.nil _ _))), (house_is h1 h2 h4 ok.m1 ok.m12 ok.ok ok.nd).trans (decide_eq_true ok.few)⟩
theorem accepts {K : PySem.W.Frag} {H : Hp} {v : V} {m : Int} {ws : List Way} {Q : VK} {E : XK} (hv : HouseAt H v m ws) (ok : HOuse m ws) (q : ∀ H', Ext H H' → Q .non H') : sp_refuse_no_house K [v] H Q E :=
  ⟨v, rfl, (house_thg hv ok).1, fun H1 e1 => by rw [(house_thg hv ok).2]; exact iteT (q H1 e1)⟩
noncomputable def RefC (K : PySem.W.Frag) (H : Hp) (E : XK) (c : Str) : Prop := ∀ H', Ext H H' → E (.ref (cA K c)) none H'
theorem RefC.ext {K : PySem.W.Frag} {H H' : Hp} {E : XK} {c : Str} (e : Ext H H') (h : RefC K H E c) : RefC K H' E c := fun J eJ => h J (e.trans eJ)
theorem room_dec (m p : Int) : roomV m (.int p) = true ↔ 0 ≤ p ∧ p < m := by
  unfold roomV
  simp
theorem dec_str {a b : Str} : decide (V.str a = V.str b) = decide (a = b) := by
  by_cases h : a = b
  · subst h; simp
  · rw [decide_eq_false h, decide_eq_false (fun z => h (V.str.inj z))]
theorem rd_EqS {a b : Str} {H : Hp} {Q : VK} (h : Q (.bl (decide (a = b))) H) : rEq (.str a) (.str b) H Q := ⟨rfl, by rw [dec_str]; exact h⟩
theorem rd_NeS {a b : Str} {H : Hp} {Q : VK} (h : Q (.bl (!decide (a = b))) H) : rNe (.str a) (.str b) H Q := ⟨rfl, by rw [dec_str]; exact h⟩
theorem paired_at {α β : Type} {F : α → β → Prop} {cs : List α} {ts : List β} (h : Paired F cs ts) : ∀ {i : Nat} {c : α}, cs[i]? = some c → ∃ t, ts[i]? = some t ∧ F c t := by
  induction h with
  | nil => intro i c e; simp at e
  | cons h t ih =>
    intro i c e
    cases i with
    | zero => cases e; exact ⟨_, rfl, h⟩
    | succ i => exact ih e
noncomputable abbrev PlAt (H : Hp) (a : Addr) (x : Bfs.Pl) : Prop := H a = some (.tup [.int x.1, .int x.2])
theorem PlAt.put {H : Hp} {f a : Addr} {x : Bfs.Pl} {o o' : HO} (hf : H f = some o) (hn : ∀ xs, o ≠ .tup xs) (h : PlAt H a x) : PlAt (upd H f o') a x := by
  show upd H f o' a = _
  rw [upd_ne (ne_of h hf (fun z => hn _ z.symm))]
  exact h
noncomputable def inHs (m : Int) (x : Bfs.Pl) : Prop := 0 ≤ x.1 ∧ x.1 < m ∧ 0 ≤ x.2 ∧ x.2 ≤ 1000
noncomputable def okPl (m : Int) (x : Bfs.Pl) : Prop := 0 ≤ x.1 ∧ x.1 < m ∧ 0 ≤ x.2
noncomputable def PlsW (K : PySem.W.Frag) (m : Int) (xs : List Bfs.Pl) (H : Hp) (Q : Hp → Prop) (E : XK) : Prop :=
  ((∃ x ∈ xs, ¬ okPl m x) ∧ RefC K H E "NoPlace") ∨ ((∀ x ∈ xs, okPl m x) ∧ (∃ x ∈ xs, 1000 < x.2) ∧ RefC K H E "TooGreat") ∨ ((∀ x ∈ xs, inHs m x) ∧ Q H)
noncomputable def sp_refuse_bad_places (K : PySem.W.Frag) : Sp := fun vs H Q E => ∃ hp hq m l as xs, vs = [.ref hp, .ref l] ∧ H hp = some (.tup [.int m, hq]) ∧ H l = some (.lst (List.map V.ref as)) ∧ Paired (PlAt H) as xs ∧ PlsW K m xs H (Q .non) E
noncomputable abbrev s_refuse_bad_places : Stmt := stq 28
theorem sc_refuse_bad_places : FnScope ["house", "places", "place"] ["house", "places"] (defScope s_refuse_bad_places) := ⟨rfl, rfl, rfl, by decide +kernel, rfl, by decide +kernel, by decide +kernel⟩
theorem ok_refuse_bad_places {P : Program} {w : World} {K : PySem.W.Frag} {mg : Str → Option Value} {base : Heap} (D : Dfn K mg "refuse_bad_places" s_refuse_bad_places ["house", "places"]) (T : Blt mg) (g_GREATEST_NUMBER : ∃ t, mg "GREATEST_NUMBER" = some (.int 1000 t)) (XF : Xf K mg base allC raisedC) (C_is_room : Cal P w K mg base "is_room" 2 ["thing", "many"] (sp_is_room K)) : CalX P w K mg base "refuse_bad_places" 3 ["house", "places"] (sp_refuse_bad_places K) := by
  have nd := (sc_refuse_bad_places).nd
  refine D.okX sc_refuse_bad_places (fun vs H Q E h => ?_) (fun f cdv A outer s H vs Q E hr h => ?_)
  · obtain ⟨hp, hq, m, l, as, xs, rfl, _⟩ := h; rfl
  · obtain ⟨t_GREATEST_NUMBER, c_GREATEST_NUMBER⟩ := g_GREATEST_NUMBER
    obtain ⟨hp, hq, m, l, as, xs, rfl, h1, h2, h3, q⟩ := h
    have hln := Paired.length h3
    refine ⟨_, (no_implicit_lambda% (pss_cons (no_implicit_lambda% (ps_for PassesOwn.leaving rfl (no_implicit_lambda% (pi_listK K (no_implicit_lambda% (pv 1)))) (no_implicit_lambda% (pg_name (i := 2) nd rfl (Or.inl rfl))) (no_implicit_lambda% (pss_one (no_implicit_lambda% (ps_if (no_implicit_lambda% (PW.pt (pw_or (no_implicit_lambda% (pt_not (no_implicit_lambda% (pt_val (no_implicit_lambda% (pe_cal C_is_room hr (no_implicit_lambda% (pa_cons (no_implicit_lambda% (pe_ix (ix_tupK K) (no_implicit_lambda% (pv 2)) pe_int (fun _ _ => rfl))) (no_implicit_lambda% (pa_cons (no_implicit_lambda% (pe_ix (ix_tupK K) (no_implicit_lambda% (pv 0)) pe_int (fun _ _ => rfl))) pa_nil)))))))))) (pw_or1 (no_implicit_lambda% (pt_cmpR op_lt (no_implicit_lambda% (pe_ix (ix_tupK K) (no_implicit_lambda% (pv 2)) pe_int (fun _ _ => rfl))) pe_int (nomark _))))))) (no_implicit_lambda% (pss_one (no_implicit_lambda% (ps_raise (XF.own "NoPlace" (by decide +kernel)) PySem.F.excBase_ValueError (no_implicit_lambda% (pa_cons pe_str pa_nil)))))) pss_nil))))))
        (no_implicit_lambda% (pss_one (no_implicit_lambda% (ps_for PassesOwn.leaving rfl (no_implicit_lambda% (pi_listK K (no_implicit_lambda% (pv 1)))) (no_implicit_lambda% (pg_name (i := 2) nd rfl (Or.inl rfl))) (no_implicit_lambda% (pss_one (no_implicit_lambda% (ps_if (no_implicit_lambda% (pt_cmpR op_gt (no_implicit_lambda% (pe_ix (ix_tupK K) (no_implicit_lambda% (pv 2)) pe_int (fun _ _ => rfl))) (no_implicit_lambda% (pe_glob (v := .int 1000) rfl c_GREATEST_NUMBER ⟨_, rfl⟩)) (nomark _))) (no_implicit_lambda% (pss_one (no_implicit_lambda% (ps_raise (XF.own "TooGreat" (by decide +kernel)) PySem.F.excBase_ValueError (no_implicit_lambda% (pa_cons (no_implicit_lambda% (pe_fstr (no_implicit_lambda% (pe_glob (v := .int 1000) rfl c_GREATEST_NUMBER ⟨_, rfl⟩)))) pa_nil)))))) pss_nil)))))))))), ?_⟩
    walk_at "rd"
    refine rd_iLx (SqL.of h2) ?_
    refine forL (xs := List.map V.ref as) (fun i σ H' => H' = H ∧ (∃ k, σ = [some (.ref hp), some (.ref l), k]) ∧ ∀ j y, j < i → xs[j]? = some y → okPl m y) ⟨rfl, ⟨none, rfl⟩, fun j y h => by omega⟩ (fun i σ H' _ h => by rw [h.1]; exact SqL.of h2) ?_ ?_
    · rintro i x σ H' hx ⟨rfl, ⟨k, rfl⟩, hok⟩
      rw [List.getElem?_map] at hx
      obtain ⟨b, hb, rfl⟩ := Option.map_eq_some_iff.mp hx
      obtain ⟨t, ht, hp3⟩ := paired_at h3 hb
      walk_at "rd"
      refine rd_ixT (SqT.of hp3) (v := .int t.1) rfl ?_
      walk_at "rd"
      refine rd_ixT (SqT.of h1) (v := .int m) rfl ?_
      walk_at "rd"
      refine ⟨_, _, "int", rfl, rfl, ?_⟩
      have bad : ¬ okPl m t → E (.ref (cA K "NoPlace")) none H' := fun hn => by
        rcases q with ⟨_, q⟩ | ⟨q, _⟩ | ⟨q, _⟩
        · exact q _ (Ext.rfl' _)
        · exact absurd (q t (List.mem_of_getElem? ht)) hn
        · obtain ⟨a, b, c, _⟩ := q t (List.mem_of_getElem? ht)
          exact absurd ⟨a, b, c⟩ hn
      cases hr : roomV m (.int t.1) with
      | false =>
        walk_at "rd"
        refine iteT ?_
        walk_at "rd"
        refine ⟨small_line (by simp), bad fun z => ?_⟩
        rw [(room_dec m t.1).mpr ⟨z.1, z.2.1⟩] at hr
        cases hr
      | true =>
        obtain ⟨r0, r1⟩ := (room_dec m t.1).mp hr
        walk_at "rd"
        refine iteF ?_
        walk_at "rd"
        refine rd_ixT (SqT.of hp3) (v := .int t.2) rfl ?_
        walk_at "rd"
        by_cases hn : t.2 < 0
        · rw [decide_eq_true hn]
          refine iteT ?_
          walk_at "rd"
          refine ⟨small_line (by simp), bad fun z => ?_⟩
          have := z.2.2
          omega
        rw [decide_eq_false hn]
        refine iteF ?_
        walk_at "rd"
        refine ⟨rfl, ⟨_, rfl⟩, fun j y hj hy => ?_⟩
        by_cases hji : j = i
        · subst hji
          rw [ht] at hy
          cases hy
          exact ⟨r0, r1, by omega⟩
        · exact hok j y (by omega) hy
    · rintro σ H' ⟨rfl, ⟨k, rfl⟩, hok⟩
      rw [List.length_map] at hok
      have all : ∀ x ∈ xs, okPl m x := fun x hx => by
        obtain ⟨j, hj, e⟩ := List.mem_iff_getElem.mp hx
        exact hok j x (by omega) (by rw [List.getElem?_eq_getElem hj, e])
      have q2 : ((∃ x ∈ xs, 1000 < x.2) ∧ RefC K H' E "TooGreat") ∨ ((∀ x ∈ xs, inHs m x) ∧ Q .non H') := by
        rcases q with ⟨⟨x, hx, hn⟩, _⟩ | ⟨_, q⟩ | q
        · exact absurd (all x hx) hn
        · exact .inl q
        · exact .inr q
      clear q hok
      walk_at "rd"
      refine rd_iLx (SqL.of h2) ?_
      refine forL (xs := List.map V.ref as) (fun i σ H2 => H2 = H' ∧ (∃ k, σ = [some (.ref hp), some (.ref l), k]) ∧ ∀ j y, j < i → xs[j]? = some y → ¬ 1000 < y.2) ⟨rfl, ⟨_, rfl⟩, fun j y h => by omega⟩ (fun i σ H2 _ h => by rw [h.1]; exact SqL.of h2) ?_ ?_
      · rintro i x σ H2 hx ⟨rfl, ⟨k, rfl⟩, hle⟩
        rw [List.getElem?_map] at hx
        obtain ⟨b, hb, rfl⟩ := Option.map_eq_some_iff.mp hx
        obtain ⟨t, ht, hp3⟩ := paired_at h3 hb
        walk_at "rd"
        refine rd_ixT (SqT.of hp3) (v := .int t.2) rfl ?_
        walk_at "rd"
        by_cases hn : (1000 : Int) < t.2
        · rw [decide_eq_true hn]
          refine iteT ?_
          walk_at "rd"
          refine ⟨by decide, by decide +kernel, fun z => ?_⟩
          walk_at "rd"
          refine ⟨small_line (by simp), ?_⟩
          rcases q2 with ⟨_, q⟩ | ⟨q, _⟩
          · exact q _ (Ext.rfl' _)
          · have := (q t (List.mem_of_getElem? ht)).2.2.2
            omega
        rw [decide_eq_false hn]
        refine iteF ?_
        walk_at "rd"
        refine ⟨rfl, ⟨_, rfl⟩, fun j y hj hy => ?_⟩
        by_cases hji : j = i
        · subst hji
          rw [ht] at hy
          cases hy
          exact hn
        · exact hle j y (by omega) hy
      · rintro σ H2 ⟨rfl, ⟨k, rfl⟩, hle⟩
        rw [List.length_map] at hle
        walk_at "rd"
        rcases q2 with ⟨⟨x, hx, hn⟩, _⟩ | ⟨_, q⟩
        · obtain ⟨j, hj, e⟩ := List.mem_iff_getElem.mp hx
          exact absurd hn (hle j x (by omega) (by rw [List.getElem?_eq_getElem hj, e]))
        · exact q
noncomputable def opn (w : Way) (r n : Int) : Bool := decide (w.room = r) && (if decide (w.deed = "down") = true then decide (0 < n) else (!decide (w.deed = "zero") || decide (n = 0)))
noncomputable def sp_is_open (K : PySem.W.Frag) : Sp := fun vs H Q _ => ∃ b w p x, vs = [.ref b, .ref p] ∧ H b = some (.tup (Way.vs w)) ∧ PlAt H p x ∧ Q (.bl (opn w x.1 x.2)) H
noncomputable abbrev s_is_open : Stmt := stq 29
theorem sc_is_open : FnScope ["way", "place"] ["way", "place"] (defScope s_is_open) := ⟨rfl, rfl, rfl, by decide +kernel, rfl, by decide +kernel, by decide +kernel⟩
theorem ok_is_open {P : Program} {w : World} {K : PySem.W.Frag} {mg : Str → Option Value} {base : Heap} (D : Dfn K mg "is_open" s_is_open ["way", "place"]) (T : Blt mg) : Cal P w K mg base "is_open" 1 ["way", "place"] (sp_is_open K) := by
  have nd := (sc_is_open).nd
  refine D.ok sc_is_open (fun vs H Q E h => ?_) (fun X hX H vs Q E h => ?_)
  · obtain ⟨b, w, p, x, rfl, _⟩ := h; rfl
  · obtain ⟨f, cdv, A, outer, s, H0, E0, rfl, hr⟩ := hX
    obtain ⟨b, w, p, ⟨r, n⟩, rfl, h1, h2, q⟩ := h
    refine ⟨_, (no_implicit_lambda% (pss_cons (no_implicit_lambda% (ps_if (no_implicit_lambda% (pt_cmpR op_ne (no_implicit_lambda% (pe_ix (ix_tupK K) (no_implicit_lambda% (pv 0)) pe_int (fun _ _ => rfl))) (no_implicit_lambda% (pe_ix (ix_tupK K) (no_implicit_lambda% (pv 1)) pe_int (fun _ _ => rfl))) (nomark _))) (no_implicit_lambda% (pss_one (no_implicit_lambda% (ps_ret pe_bl)))) pss_nil))
        (no_implicit_lambda% (pss_cons (no_implicit_lambda% (ps_if (no_implicit_lambda% (pt_cmpR op_eq (no_implicit_lambda% (pe_ix (ix_tupK K) (no_implicit_lambda% (pv 0)) pe_int (fun _ _ => rfl))) pe_str (nomark _))) (no_implicit_lambda% (pss_one (no_implicit_lambda% (ps_ret (no_implicit_lambda% (pe_cmpR op_gt (no_implicit_lambda% (pe_ix (ix_tupK K) (no_implicit_lambda% (pv 1)) pe_int (fun _ _ => rfl))) pe_int (nomark _))))))) pss_nil))
        (no_implicit_lambda% (pss_one (no_implicit_lambda% (ps_ret (no_implicit_lambda% (pe_or (no_implicit_lambda% (pe_cmpR op_ne (no_implicit_lambda% (pe_ix (ix_tupK K) (no_implicit_lambda% (pv 0)) pe_int (fun _ _ => rfl))) pe_str (nomark _))) (pe_one (no_implicit_lambda% (pe_cmpR op_eq (no_implicit_lambda% (pe_ix (ix_tupK K) (no_implicit_lambda% (pv 1)) pe_int (fun _ _ => rfl))) pe_int (nomark _)))))))))))))), ?_⟩
    walk_at "rd"
    refine rd_ixT (SqT.of h1) (v := .int w.room) rfl ?_
    walk_at "rd"
    refine rd_ixT (SqT.of h2) (v := .int r) rfl ?_
    walk_at "rd"
    unfold opn at q
    dsimp only at q
    by_cases e : w.room = r
    · rw [decide_eq_true e]
      refine iteF ?_
      walk_at "rd"
      rw [decide_eq_true e, Bool.true_and] at q
      refine rd_ixT (SqT.of h1) (v := .str w.deed) rfl ?_
      walk_at "rd"
      refine rd_EqS ?_
      refine rd_exb ?_
      cases ed : decide (w.deed = "down") with
      | true =>
        rw [ed] at q
        refine iteT ?_
        walk_at "rd"
        refine rd_ixT (SqT.of h2) (v := .int n) rfl ?_
        walk_at "rd"
        exact q
      | false =>
        rw [ed] at q
        refine iteF ?_
        walk_at "rd"
        refine rd_ixT (SqT.of h1) (v := .str w.deed) rfl ?_
        walk_at "rd"
        refine rd_NeS ?_
        refine rd_exb ?_
        cases ez : decide (w.deed = "zero") with
        | true =>
          rw [ez] at q
          refine iteF ?_
          walk_at "rd"
          refine rd_ixT (SqT.of h2) (v := .int n) rfl ?_
          walk_at "rd"
          exact q
        | false =>
          rw [ez] at q
          exact iteT q
    · rw [decide_eq_false e]
      refine iteT ?_
      walk_at "rd"
      rw [decide_eq_false e, Bool.false_and] at q
      exact q
noncomputable def gd_RAISED : List (Key × V) := [(.inr "up", .int 1), (.inr "down", .int (-1)), (.inr "stay", .int 0), (.inr "zero", .int 0)]
theorem gdk_RAISED {w : World} {K : PySem.W.Frag} {a : Addr} {t1 t2 t3 t4 t5 t6 t7 t8 : Tok} {ep : Nat} (h : K.lookup a = some (gdO w [("up", t1, .int 1 t2), ("down", t3, .int (-1) t4), ("stay", t5, .int 0 t6), ("zero", t7, .int 0 t8)] ep)) (hs : (a == sysModules) = false) : GDict w K a gd_RAISED :=
  ⟨⟨_, _, h, .cons ⟨rfl, ⟨_, rfl⟩⟩ (.cons ⟨rfl, ⟨_, rfl⟩⟩ (.cons ⟨rfl, ⟨_, rfl⟩⟩ (.cons ⟨rfl, ⟨_, rfl⟩⟩ .nil)))⟩, by decide +kernel, hs⟩
noncomputable def rz (z : Str) : Int := if z = "up" then 1 else if z = "down" then -1 else 0
theorem gr_has {z : Str} (h : okDeed z) : valV gd_RAISED (.inr z) = some (.int (rz z)) := by
  rcases h with rfl | rfl | rfl | rfl <;> decide +kernel
noncomputable def sp_raised_by (K : PySem.W.Frag) : Sp := fun vs H Q _ => ∃ b w, vs = [.ref b] ∧ H b = some (.tup (Way.vs w)) ∧ okDeed w.deed ∧ Q (.int (rz w.deed)) H
noncomputable abbrev s_raised_by : Stmt := stq 30
theorem sc_raised_by : FnScope ["way"] ["way"] (defScope s_raised_by) := ⟨rfl, rfl, rfl, by decide +kernel, rfl, by decide +kernel, by decide +kernel⟩
theorem ok_raised_by {P : Program} {w : World} {K : PySem.W.Frag} {mg : Str → Option Value} {base : Heap} (D : Dfn K mg "raised_by" s_raised_by ["way"]) (T : Blt mg) (g_RAISED : ∃ a, mg "RAISED" = some (.ref a) ∧ GDict w K a gd_RAISED) : Cal P w K mg base "raised_by" 1 ["way"] (sp_raised_by K) := by
  have nd := (sc_raised_by).nd
  refine D.ok sc_raised_by (fun vs H Q E h => ?_) (fun X hX H vs Q E h => ?_)
  · obtain ⟨b, w, rfl, _⟩ := h; rfl
  · obtain ⟨f, cdv, A, outer, s, H0, E0, rfl, hr⟩ := hX
    obtain ⟨a_RAISED, m_RAISED, d_RAISED⟩ := g_RAISED
    obtain ⟨b, w, rfl, h1, hd, q⟩ := h
    refine ⟨_, (no_implicit_lambda% (pss_one (no_implicit_lambda% (ps_ret (no_implicit_lambda% (pe_gget rfl m_RAISED d_RAISED (no_implicit_lambda% (pe_ix (ix_tupK K) (no_implicit_lambda% (pv 0)) pe_int (fun _ _ => rfl))) (fun _ _ => rfl))))))), ?_⟩
    walk_at "rd"
    refine rd_ixT (SqT.of h1) (v := .str w.deed) rfl ?_
    exact rd_keyS (gr_has hd) q
noncomputable def sp_led_to (K : PySem.W.Frag) : Sp := fun vs H Q _ => ∃ b w p x, vs = [.ref b, .ref p] ∧ H b = some (.tup (Way.vs w)) ∧ okDeed w.deed ∧ PlAt H p x ∧ ∀ t H', Ext H H' → PlAt H' t (w.other, x.2 + rz w.deed) → H t = none → Q (.ref t) H'
noncomputable abbrev s_led_to : Stmt := stq 31
theorem sc_led_to : FnScope ["way", "place"] ["way", "place"] (defScope s_led_to) := ⟨rfl, rfl, rfl, by decide +kernel, rfl, by decide +kernel, by decide +kernel⟩
theorem ok_led_to {P : Program} {w : World} {K : PySem.W.Frag} {mg : Str → Option Value} {base : Heap} (D : Dfn K mg "led_to" s_led_to ["way", "place"]) (T : Blt mg) (C_raised_by : Cal P w K mg base "raised_by" 1 ["way"] (sp_raised_by K)) : Cal P w K mg base "led_to" 2 ["way", "place"] (sp_led_to K) := by
  have nd := (sc_led_to).nd
  refine D.ok sc_led_to (fun vs H Q E h => ?_) (fun X hX H vs Q E h => ?_)
  · obtain ⟨b, w, p, x, rfl, _⟩ := h; rfl
  · obtain ⟨f, cdv, A, outer, s, H0, E0, rfl, hr⟩ := hX
    obtain ⟨b, w, p, ⟨r, n⟩, rfl, h1, hd, h2, q⟩ := h
    refine ⟨_, (no_implicit_lambda% (pss_one (no_implicit_lambda% (ps_ret (no_implicit_lambda% (pe_tup (no_implicit_lambda% (pa_cons (no_implicit_lambda% (pe_ix (ix_tupK K) (no_implicit_lambda% (pv 0)) pe_int (fun _ _ => rfl))) (no_implicit_lambda% (pa_cons (no_implicit_lambda% (pe_op op_add (no_implicit_lambda% (pe_ix (ix_tupK K) (no_implicit_lambda% (pv 1)) pe_int (fun _ _ => rfl))) (no_implicit_lambda% (pe_cal C_raised_by hr (no_implicit_lambda% (pa_cons (no_implicit_lambda% (pv 0)) pa_nil)))))) pa_nil)))))))))), ?_⟩
    walk_at "rd"
    refine rd_ixT (SqT.of h1) (v := .int w.other) rfl ?_
    walk_at "rd"
    refine rd_ixT (SqT.of h2) (v := .int n) rfl ?_
    walk_at "rd"
    refine ⟨b, w, rfl, h1, hd, ?_⟩
    walk_at "rd"
    refine ⟨small_line (by simp), rd_new fun t H1 e1 ht htn => ?_⟩
    exact q t H1 e1 ht htn
theorem line17 {n : Nat} (h : n ≤ 24100) : n < sizeLine := Nat.lt_of_le_of_lt h (by decide)
theorem RefC.at {K : PySem.W.Frag} {H : Hp} {E : XK} {c : Str} (h : RefC K H E c) : E (.ref (cA K c)) none H := h H (Ext.rfl' _)
noncomputable def BadP (K : PySem.W.Frag) (m : Int) (xs : List Bfs.Pl) (H : Hp) (E : XK) : Prop :=
  ((∃ x ∈ xs, ¬ okPl m x) ∧ RefC K H E "NoPlace") ∨ ((∀ x ∈ xs, okPl m x) ∧ (∃ x ∈ xs, 1000 < x.2) ∧ RefC K H E "TooGreat")
theorem BadP.ext {K : PySem.W.Frag} {m : Int} {xs : List Bfs.Pl} {H H' : Hp} {E : XK} (e : Ext H H') (h : BadP K m xs H E) : BadP K m xs H' E := by
  rcases h with ⟨a, b⟩ | ⟨a, b, c⟩
  · exact .inl ⟨a, b.ext e⟩
  · exact .inr ⟨a, b, c.ext e⟩
theorem BadP.w {K : PySem.W.Frag} {m : Int} {xs : List Bfs.Pl} {H : Hp} {E : XK} {Q : Hp → Prop} (h : BadP K m xs H E) : PlsW K m xs H Q E := by
  rcases h with h | h
  · exact .inl h
  · exact .inr (.inl h)
noncomputable def stepI (ws : List Way) (x : Bfs.Pl) (k : Int) : Option Bfs.Pl := if 0 ≤ k ∧ k < ws.length then (ws[k.toNat]?).bind fun w => if opn w x.1 x.2 = true then some (w.other, x.2 + rz w.deed) else none else none
noncomputable def goI (ws : List Way) : Bfs.Pl → List Int → List Bfs.Pl
  | x, [] => [x]
  | x, k :: r => x :: match stepI ws x k with
    | none => []
    | some y => goI ws y r
theorem goI_stop {ws : List Way} {x : Bfs.Pl} {k : Int} {r : List Int} (h : stepI ws x k = none) : goI ws x (k :: r) = [x] := by
  show (x :: match stepI ws x k with | none => [] | some y => goI ws y r) = [x]
  rw [h]
theorem goI_go {ws : List Way} {x y : Bfs.Pl} {k : Int} {r : List Int} (h : stepI ws x k = some y) : goI ws x (k :: r) = x :: goI ws y r := by
  show (x :: match stepI ws x k with | none => [] | some y => goI ws y r) = _
  rw [h]
theorem goI_len (ws : List Way) : ∀ (ks : List Int) (x : Bfs.Pl), 1 ≤ (goI ws x ks).length ∧ (goI ws x ks).length ≤ ks.length + 1
  | [], x => ⟨Nat.le_refl _, Nat.le_refl _⟩
  | k :: r, x => by
    cases h : stepI ws x k with
    | none => rw [goI_stop h]; simp
    | some y =>
      rw [goI_go h]
      have := goI_len ws r y
      simp only [List.length_cons]
      omega
theorem stepI_yes {ws : List Way} {x : Bfs.Pl} {k : Nat} {w : Way} (hw : ws[k]? = some w) : stepI ws x (k : Int) = if opn w x.1 x.2 = true then some (w.other, x.2 + rz w.deed) else none := by
  have hk := (List.getElem?_eq_some_iff.mp hw).1
  unfold stepI
  rw [if_pos ⟨by omega, by omega⟩, Int.toNat_natCast, hw]
  rfl
theorem stepI_no {ws : List Way} {x : Bfs.Pl} {k : Int} (h : ¬ (0 ≤ k ∧ k < ws.length)) : stepI ws x k = none := if_neg h
noncomputable def sp_refuse_long_walk (K : PySem.W.Frag) : Sp := fun vs H Q E => ∃ l xs, vs = [.ref l] ∧ H l = some (.lst xs) ∧ ((20000 < xs.length ∧ RefC K H E "TooGreat") ∨ (xs.length ≤ 20000 ∧ Q .non H))
noncomputable abbrev s_refuse_long_walk : Stmt := stq 34
theorem sc_refuse_long_walk : FnScope ["walk"] ["walk"] (defScope s_refuse_long_walk) := ⟨rfl, rfl, rfl, by decide +kernel, rfl, by decide +kernel, by decide +kernel⟩
theorem ok_refuse_long_walk {P : Program} {w : World} {K : PySem.W.Frag} {mg : Str → Option Value} {base : Heap} (D : Dfn K mg "refuse_long_walk" s_refuse_long_walk ["walk"]) (T : Blt mg) (g_LONGEST_WALK : ∃ t, mg "LONGEST_WALK" = some (.int 20000 t)) (XF : Xf K mg base allC raisedC) : CalX P w K mg base "refuse_long_walk" 1 ["walk"] (sp_refuse_long_walk K) := by
  have nd := (sc_refuse_long_walk).nd
  refine D.okX sc_refuse_long_walk (fun vs H Q E h => ?_) (fun f cdv A outer s H vs Q E hr h => ?_)
  · obtain ⟨l, xs, rfl, _⟩ := h; rfl
  · obtain ⟨t_LONGEST_WALK, c_LONGEST_WALK⟩ := g_LONGEST_WALK
    obtain ⟨l, xs, rfl, hl, q⟩ := h
    refine ⟨_, (no_implicit_lambda% (pss_one (no_implicit_lambda% (ps_if (no_implicit_lambda% (pt_cmpR op_gt (no_implicit_lambda% (pe_callB (call_lenK K) rfl T.len_ PySem.boot_len (no_implicit_lambda% (pa_cons (no_implicit_lambda% (pv 0)) pa_nil)))) (no_implicit_lambda% (pe_glob (v := .int 20000) rfl c_LONGEST_WALK ⟨_, rfl⟩)) (nomark _))) (no_implicit_lambda% (pss_one (no_implicit_lambda% (ps_raise (XF.own "TooGreat" (by decide +kernel)) PySem.F.excBase_ValueError (no_implicit_lambda% (pa_cons (no_implicit_lambda% (pe_fs3 (no_implicit_lambda% (pe_glob (v := .int 20000) rfl c_LONGEST_WALK ⟨_, rfl⟩)))) pa_nil)))))) pss_nil)))), ?_⟩
    walk_at "rd"
    refine rd_lenL (SqL.of hl) ?_
    walk_at "rd"
    rcases q with ⟨hn, q⟩ | ⟨hn, q⟩
    · rw [decide_eq_true (show (20000 : Int) < ((xs.length : Nat) : Int) by omega)]
      refine iteT ?_
      walk_at "rd"
      refine ⟨by decide, by decide +kernel, by decide +kernel, fun z => ?_⟩
      walk_at "rd"
      exact ⟨small_line (by simp), q.at⟩
    · rw [decide_eq_false (show ¬ (20000 : Int) < ((xs.length : Nat) : Int) by omega)]
      refine iteF ?_
      walk_at "rd"
      exact q
noncomputable def sp_can_go (K : PySem.W.Frag) : Sp := fun vs H Q _ => ∃ v m ws b x k, vs = [v, .ref b, .int k] ∧ HouseAt H v m ws ∧ PlAt H b x ∧ Q (.bl (stepI ws x k).isSome) H
noncomputable abbrev s_can_go : Stmt := stq 35
theorem sc_can_go : FnScope ["house", "place", "count"] ["house", "place", "count"] (defScope s_can_go) := ⟨rfl, rfl, rfl, by decide +kernel, rfl, by decide +kernel, by decide +kernel⟩
theorem ok_can_go {P : Program} {w : World} {K : PySem.W.Frag} {mg : Str → Option Value} {base : Heap} (D : Dfn K mg "can_go" s_can_go ["house", "place", "count"]) (T : Blt mg) (C_is_open : Cal P w K mg base "is_open" 1 ["way", "place"] (sp_is_open K)) : Cal P w K mg base "can_go" 2 ["house", "place", "count"] (sp_can_go K) := by
  have nd := (sc_can_go).nd
  refine D.ok sc_can_go (fun vs H Q E h => ?_) (fun X hX H vs Q E h => ?_)
  · obtain ⟨v, m, ws, b, x, k, rfl, _⟩ := h; rfl
  · obtain ⟨f, cdv, A, outer, s, H0, E0, rfl, hr⟩ := hX
    obtain ⟨v, m, ws, b, x, k, rfl, ⟨hh, t, rfl, g1, g2⟩, hb, q⟩ := h
    obtain ⟨bs, g3, al⟩ := WaysAt.al g2
    refine ⟨_, (no_implicit_lambda% (pss_one (no_implicit_lambda% (ps_ret (no_implicit_lambda% (pe_and (no_implicit_lambda% (pe_chain op_le op_lt pe_int (no_implicit_lambda% (pv 2)) (no_implicit_lambda% (pe_callB (call_lenK K) rfl T.len_ PySem.boot_len (no_implicit_lambda% (pa_cons (no_implicit_lambda% (pe_ix (ix_tupK K) (no_implicit_lambda% (pv 0)) pe_int (fun _ _ => rfl))) pa_nil)))))) (pe_one (no_implicit_lambda% (pe_cal C_is_open hr (no_implicit_lambda% (pa_cons (no_implicit_lambda% (pe_ix (ix_tupK K) (no_implicit_lambda% (pe_ix (ix_tupK K) (no_implicit_lambda% (pv 0)) pe_int (fun _ _ => rfl))) (no_implicit_lambda% (pv 2)) (fun _ _ => rfl))) (no_implicit_lambda% (pa_cons (no_implicit_lambda% (pv 1)) pa_nil))))))))))))), ?_⟩
    walk_at "rd"
    by_cases k0 : 0 ≤ k
    rotate_left
    · rw [stepI_no fun z => k0 z.1] at q
      rw [decide_eq_false k0]
      refine iteF ?_
      walk_at "rd"
      exact q
    rw [decide_eq_true k0]
    refine iteT ?_
    walk_at "rd"
    refine rd_ixT (SqT.of g1) (v := .ref t) rfl ?_
    walk_at "rd"
    refine rd_lenT (SqT.of g3) ?_
    walk_at "rd"
    by_cases k1 : k < ws.length
    rotate_left
    · rw [stepI_no fun z => k1 z.2] at q
      rw [decide_eq_false (show ¬ k < (((bs.map V.ref).length : Nat) : Int) by rw [List.length_map, al.1]; exact k1)]
      refine iteF ?_
      walk_at "rd"
      exact q
    rw [decide_eq_true (show k < (((bs.map V.ref).length : Nat) : Int) by rw [List.length_map, al.1]; exact k1)]
    refine iteT ?_
    obtain ⟨n, rfl⟩ : ∃ n : Nat, k = n := ⟨k.toNat, by omega⟩
    have hn : n < ws.length := by omega
    have hw : ws[n]? = some ws[n] := List.getElem?_eq_getElem hn
    have hkb : n < bs.length := by rw [al.1]; exact hn
    have hbk := List.getElem?_eq_getElem hkb
    generalize bs[n] = bk at hbk
    have hwt := al.2 n bk _ hbk hw
    walk_at "rd"
    refine rd_ixT (SqT.of g1) (v := .ref t) rfl ?_
    walk_at "rd"
    refine rd_ixT (SqT.of g3) (v := .ref bk) (atI_nat (by rw [List.getElem?_map, hbk]; rfl)) ?_
    walk_at "rd"
    refine ⟨bk, ws[n], b, x, rfl, hwt, hb, ?_⟩
    rw [stepI_yes hw] at q
    cases ho : opn ws[n] x.1 x.2 with
    | true => rw [ho] at q; exact q
    | false => rw [ho] at q; exact q
noncomputable def sp_places_gone (K : PySem.W.Frag) : Sp := fun vs H Q _ => ∃ v m ws pa l x ks, vs = [v, .ref pa, .ref l] ∧ HouseAt H v m ws ∧ HOuse m ws ∧ PlAt H pa x ∧ H l = some (.lst (List.map V.int ks)) ∧ ks.length ≤ 20000 ∧
  ∀ r H' as, Ext H H' → H r = none → H' r = some (.lst (List.map V.ref as)) → Paired (PlAt H') as (goI ws x ks) → Q (.ref r) H'
theorem snocP {H : Hp} {as : List Addr} {xs : List Bfs.Pl} {a : Addr} {x : Bfs.Pl} (h : Paired (PlAt H) as xs) (ha : PlAt H a x) : Paired (PlAt H) (as ++ [a]) (xs ++ [x]) := by
  induction h with
  | nil => exact .cons ha .nil
  | cons h _ ih => exact .cons h ih
theorem mapP {H H' : Hp} (f : ∀ a x, PlAt H a x → PlAt H' a x) {as : List Addr} {xs : List Bfs.Pl} (h : Paired (PlAt H) as xs) : Paired (PlAt H') as xs := by
  induction h with
  | nil => exact .nil
  | cons h _ ih => exact .cons (f _ _ h) ih
noncomputable abbrev s_places_gone : Stmt := stq 36
theorem sc_places_gone : FnScope ["house", "place", "walk", "places", "count"] ["house", "place", "walk"] (defScope s_places_gone) := ⟨rfl, rfl, rfl, by decide +kernel, rfl, by decide +kernel, by decide +kernel⟩
theorem ok_places_gone {P : Program} {w : World} {K : PySem.W.Frag} {mg : Str → Option Value} {base : Heap} (D : Dfn K mg "places_gone" s_places_gone ["house", "place", "walk"]) (T : Blt mg) (C_led_to : Cal P w K mg base "led_to" 2 ["way", "place"] (sp_led_to K)) (C_can_go : Cal P w K mg base "can_go" 2 ["house", "place", "count"] (sp_can_go K)) : Cal P w K mg base "places_gone" 3 ["house", "place", "walk"] (sp_places_gone K) := by
  have nd := (sc_places_gone).nd
  refine D.ok sc_places_gone (fun vs H Q E h => ?_) (fun X hX H vs Q E h => ?_)
  · obtain ⟨v, m, ws, pa, l, x, ks, rfl, _⟩ := h; rfl
  · obtain ⟨f, cdv, A, outer, s, H0, E0, rfl, hr⟩ := hX
    obtain ⟨v, m, ws, pa, l, x, ks, rfl, hv, ok, hx, hl, hks, q⟩ := h
    refine ⟨_, (no_implicit_lambda% (pss_cons (no_implicit_lambda% (ps_set (i := 3) nd rfl (Or.inl rfl) (no_implicit_lambda% (pe_lst (no_implicit_lambda% (pa_cons (no_implicit_lambda% (pv 1)) pa_nil))))))
        (no_implicit_lambda% (pss_cons (no_implicit_lambda% (ps_for PassesOwn.never rfl (no_implicit_lambda% (pi_listK K (no_implicit_lambda% (pv 2)))) (no_implicit_lambda% (pg_name (i := 4) nd rfl (Or.inl rfl))) (no_implicit_lambda% (pss_cons (no_implicit_lambda% (ps_if (no_implicit_lambda% (pt_not (no_implicit_lambda% (pt_val (no_implicit_lambda% (pe_cal C_can_go hr (no_implicit_lambda% (pa_cons (no_implicit_lambda% (pv 0)) (no_implicit_lambda% (pa_cons (no_implicit_lambda% (pe_ix (ix_listK K) (no_implicit_lambda% (pv 3)) (no_implicit_lambda% (pe_un un_neg pe_int)) (fun _ _ => rfl))) (no_implicit_lambda% (pa_cons (no_implicit_lambda% (pv 4)) pa_nil)))))))))))) (no_implicit_lambda% (pss_one (no_implicit_lambda% (ps_ret (no_implicit_lambda% (pv 3)))))) pss_nil))
        (no_implicit_lambda% (pss_one (no_implicit_lambda% (ps_expr (no_implicit_lambda% (pe_bmK K PySem.F.plainAttrs_list PySem.F.slot_list_append PySem.F.type_list_append mt_append (no_implicit_lambda% (pv 3)) (no_implicit_lambda% (pa_cons (no_implicit_lambda% (pe_cal C_led_to hr (no_implicit_lambda% (pa_cons (no_implicit_lambda% (pe_ix (ix_tupK K) (no_implicit_lambda% (pe_ix (ix_tupK K) (no_implicit_lambda% (pv 0)) pe_int (fun _ _ => rfl))) (no_implicit_lambda% (pv 4)) (fun _ _ => rfl))) (no_implicit_lambda% (pa_cons (no_implicit_lambda% (pe_ix (ix_listK K) (no_implicit_lambda% (pv 3)) (no_implicit_lambda% (pe_un un_neg pe_int)) (fun _ _ => rfl))) pa_nil)))))) pa_nil))))))))))))
        (no_implicit_lambda% (pss_one (no_implicit_lambda% (ps_ret (no_implicit_lambda% (pv 3)))))))))), ?_⟩
    walk_at "rd"
    refine ⟨small_line (by simp), rd_new fun f H1 e1 hf hfn => ?_⟩
    walk_at "rd"
    refine rd_iLx (SqL.of (e1 _ _ hl)) ?_
    refine forL (xs := List.map V.int ks) (fun j σ H' => ∃ k1 y as a pre, σ = [some v, some (.ref pa), some (.ref l), some (.ref f), k1] ∧ Ext H H' ∧ H' f = some (.lst (List.map V.ref (as ++ [a]))) ∧ Paired (PlAt H') (as ++ [a]) (pre ++ [y]) ∧ PlAt H' a y ∧ pre.length = j ∧ goI ws x ks = pre ++ goI ws y (ks.drop j))
      ⟨none, x, [], pa, [], rfl, e1, (show H1 f = some (.lst (List.map V.ref ([] ++ [pa]))) from hf), (show Paired (PlAt H1) [pa] [x] from .cons (show PlAt H1 pa x from e1 _ _ hx) .nil), e1 _ _ hx, rfl, rfl⟩ (fun j σ H' _ h => by obtain ⟨_, _, _, _, _, _, e, _⟩ := h; exact SqL.of (e _ _ hl)) ?_ ?_
    · rintro j u σ H2 hu ⟨k1, y, as, a, pre, rfl, e2, hf2, hpa, ha, hpl, hgo⟩
      rw [List.getElem?_map] at hu
      obtain ⟨k, hk, rfl⟩ := Option.map_eq_some_iff.mp hu
      have hjl := (List.getElem?_eq_some_iff.mp hk).1
      have hdr : ks.drop j = k :: ks.drop (j + 1) := by
        rw [List.drop_eq_getElem_cons hjl]
        rw [List.getElem?_eq_getElem hjl] at hk
        cases hk
        rfl
      rw [hdr] at hgo
      have hal := Paired.length hpa
      rw [List.length_append, List.length_append, hpl] at hal
      obtain ⟨hh, t, rfl, g1, g2⟩ := hv.ext e2
      walk_at "rd"
      refine rd_ixL (SqL.of hf2) (v := .ref a) (by rw [List.map_append]; exact atI_last _ _) ?_
      walk_at "rd"
      refine ⟨_, m, ws, a, y, k, rfl, ⟨hh, t, rfl, g1, g2⟩, ha, ?_⟩
      cases hst : stepI ws y k with
      | none =>
        refine rd_exb (iteT ?_)
        walk_at "rd"
        refine q f H2 (as ++ [a]) e2 hfn hf2 ?_
        rw [hgo, goI_stop hst]
        exact hpa
      | some z =>
        refine rd_exb (iteF ?_)
        rw [goI_go hst] at hgo
        have hk0 : 0 ≤ k ∧ k < ws.length := by
          by_cases h : 0 ≤ k ∧ k < ws.length
          · exact h
          · rw [stepI_no h] at hst; cases hst
        obtain ⟨n, rfl⟩ : ∃ n : Nat, k = n := ⟨k.toNat, by omega⟩
        have hn : n < ws.length := by omega
        have hw : ws[n]? = some ws[n] := List.getElem?_eq_getElem hn
        have okw := ok.ok _ (List.getElem_mem hn)
        rw [stepI_yes hw] at hst
        generalize ws[n] = w at hw okw hst
        obtain ⟨bs, g3, al⟩ := WaysAt.al g2
        have hkb : n < bs.length := by rw [al.1]; exact hn
        have hbk := List.getElem?_eq_getElem hkb
        generalize bs[n] = bk at hbk
        have hwt := al.2 n bk w hbk hw
        have hzz : z = (w.other, y.2 + rz w.deed) := by
          split at hst
          · exact (Option.some.inj hst).symm
          · cases hst
        walk_at "rd"
        refine ⟨rd_tyL (SqL.of hf2), ?_⟩
        walk_at "rd"
        refine rd_ixT (SqT.of g1) (v := .ref t) rfl ?_
        walk_at "rd"
        refine rd_ixT (SqT.of g3) (v := .ref bk) (atI_nat (by rw [List.getElem?_map, hbk]; rfl)) ?_
        walk_at "rd"
        refine rd_ixL (SqL.of hf2) (v := .ref a) (by rw [List.map_append]; exact atI_last _ _) ?_
        walk_at "rd"
        refine ⟨bk, w, a, y, rfl, hwt, okw.dd, ha, fun th H3 e3 hth hthn => ?_⟩
        rw [← hzz] at hth
        have hf3 := e3 _ _ hf2
        walk_at "rd"
        refine rd_append hf3 (line17 (by rw [List.length_map, List.length_append]; simp only [List.length_singleton] at hal ⊢; omega)) ?_
        walk_at "rd"
        have nl : ∀ xs, (HO.lst (List.map V.ref (as ++ [a]))) ≠ .tup xs := fun xs z => by cases z
        refine ⟨_, z, as ++ [a], th, pre ++ [y], rfl, ext_write (e2.trans e3) hfn, by rw [upd_same, List.map_append (l₁ := as ++ [a])]; rfl, ?_, PlAt.put hf3 nl hth, by simp [hpl], ?_⟩
        · exact snocP (mapP (fun _ _ w => PlAt.put hf3 nl (e3 _ _ w)) hpa) (PlAt.put hf3 nl hth)
        · rw [hgo, List.append_assoc]
          rfl
    · rintro σ H2 ⟨k1, y, as, a, pre, rfl, e2, hf2, hpa, ha, hpl, hgo⟩
      rw [List.length_map, List.drop_length] at hgo
      walk_at "rd"
      refine q f H2 (as ++ [a]) e2 hfn hf2 ?_
      rw [hgo]
      exact hpa
noncomputable def RefW (K : PySem.W.Frag) (H : Hp) (E : XK) (n : Int) : Prop := ∀ d H', Ext H H' → H' d = some (.xd [("at", .int n)]) → E (.ref (cA K "NoWalk")) (some d) H'
noncomputable def sp_walked (K : PySem.W.Frag) : Sp := fun vs H Q E => ∃ v pa l, vs = [v, .ref pa, .ref l] ∧ ((NoH H v ∧ Ref K H E) ∨ ∃ m ws x ks, HouseAt H v m ws ∧ HOuse m ws ∧ PlAt H pa x ∧ H l = some (.lst (List.map V.int ks)) ∧
  (BadP K m [x] H E ∨ (inHs m x ∧ ((20000 < ks.length ∧ RefC K H E "TooGreat") ∨ (ks.length ≤ 20000 ∧ (((goI ws x ks).length ≤ ks.length ∧ RefW K H E ((goI ws x ks).length - 1)) ∨
    (ks.length < (goI ws x ks).length ∧ ∀ r H' as, Ext H H' → H r = none → H' r = some (.lst (List.map V.ref as)) → Paired (PlAt H') as (goI ws x ks) → Q (.ref r) H')))))))
noncomputable abbrev s_walked : Stmt := stq 37
theorem sc_walked : FnScope ["house", "place", "walk", "places"] ["house", "place", "walk"] (defScope s_walked) := ⟨rfl, rfl, rfl, by decide +kernel, rfl, by decide +kernel, by decide +kernel⟩
theorem ok_walked {P : Program} {w : World} {K : PySem.W.Frag} {mg : Str → Option Value} {base : Heap} (D : Dfn K mg "walked" s_walked ["house", "place", "walk"]) (T : Blt mg) (XW_NoWalk : XfI K mg allC "NoWalk") (C_places_gone : Cal P w K mg base "places_gone" 3 ["house", "place", "walk"] (sp_places_gone K)) (CX_refuse_long_walk : CalX P w K mg base "refuse_long_walk" 1 ["walk"] (sp_refuse_long_walk K)) (CX_refuse_bad_places : CalX P w K mg base "refuse_bad_places" 3 ["house", "places"] (sp_refuse_bad_places K)) (CX_refuse_no_house : CalX P w K mg base "refuse_no_house" 6 ["thing"] (sp_refuse_no_house K)) : CalX P w K mg base "walked" 7 ["house", "place", "walk"] (sp_walked K) := by
  have nd := (sc_walked).nd
  refine D.okX sc_walked (fun vs H Q E h => ?_) (fun f cdv A outer s H vs Q E hr h => ?_)
  · obtain ⟨v, pa, l, rfl, _⟩ := h; rfl
  · obtain ⟨v, pa, l, rfl, h⟩ := h
    refine ⟨_, (no_implicit_lambda% (pss_cons (no_implicit_lambda% (ps_expr (no_implicit_lambda% (pe_calX CX_refuse_no_house hr (no_implicit_lambda% (pa_cons (no_implicit_lambda% (pv 0)) pa_nil))))))
        (no_implicit_lambda% (pss_cons (no_implicit_lambda% (ps_expr (no_implicit_lambda% (pe_calX CX_refuse_bad_places hr (no_implicit_lambda% (pa_cons (no_implicit_lambda% (pv 0)) (no_implicit_lambda% (pa_cons (no_implicit_lambda% (pe_lst (no_implicit_lambda% (pa_cons (no_implicit_lambda% (pv 1)) pa_nil)))) pa_nil))))))))
        (no_implicit_lambda% (pss_cons (no_implicit_lambda% (ps_expr (no_implicit_lambda% (pe_calX CX_refuse_long_walk hr (no_implicit_lambda% (pa_cons (no_implicit_lambda% (pv 2)) pa_nil))))))
        (no_implicit_lambda% (pss_cons (no_implicit_lambda% (ps_set (i := 3) nd rfl (Or.inl rfl) (no_implicit_lambda% (pe_cal C_places_gone hr (no_implicit_lambda% (pa_cons (no_implicit_lambda% (pv 0)) (no_implicit_lambda% (pa_cons (no_implicit_lambda% (pv 1)) (no_implicit_lambda% (pa_cons (no_implicit_lambda% (pv 2)) pa_nil))))))))))
        (no_implicit_lambda% (pss_cons (no_implicit_lambda% (ps_if (no_implicit_lambda% (pt_cmpR op_le (no_implicit_lambda% (pe_callB (call_lenK K) rfl T.len_ PySem.boot_len (no_implicit_lambda% (pa_cons (no_implicit_lambda% (pv 3)) pa_nil)))) (no_implicit_lambda% (pe_callB (call_lenK K) rfl T.len_ PySem.boot_len (no_implicit_lambda% (pa_cons (no_implicit_lambda% (pv 2)) pa_nil)))) (nomark _))) (no_implicit_lambda% (pss_one (no_implicit_lambda% (ps_raiseI XW_NoWalk.cl XW_NoWalk.ei PySem.F.excBase_ValueError hr (no_implicit_lambda% (pa_cons (no_implicit_lambda% (pe_op op_sub (no_implicit_lambda% (pe_callB (call_lenK K) rfl T.len_ PySem.boot_len (no_implicit_lambda% (pa_cons (no_implicit_lambda% (pv 3)) pa_nil)))) pe_int)) pa_nil)))))) pss_nil))
        (no_implicit_lambda% (pss_one (no_implicit_lambda% (ps_ret (no_implicit_lambda% (pv 3)))))))))))))))), ?_⟩
    walk_at "rd"
    rcases h with ⟨hn, q⟩ | ⟨m, ws, x, ks, hv, ok, hp, hl, q⟩
    · exact refuses hn q
    refine accepts hv ok fun H1 e1 => ?_
    walk_at "rd"
    refine ⟨small_line (by simp), rd_new fun l2 H2 e2 hl2 _ => ?_⟩
    walk_at "rd"
    have e12 := e1.trans e2
    obtain ⟨hh, t, rfl, g1, g2⟩ := hv.ext e12
    refine ⟨hh, _, m, l2, [pa], [x], rfl, g1, hl2, .cons (e12 _ _ hp) .nil, ?_⟩
    rcases q with q | ⟨hin, q⟩
    · exact (q.ext e12).w
    refine .inr (.inr ⟨fun y hy => by rw [List.mem_singleton.mp hy]; exact hin, ?_⟩)
    walk_at "rd"
    refine ⟨l, _, rfl, e12 _ _ hl, ?_⟩
    rw [List.length_map]
    rcases q with ⟨hn, q⟩ | ⟨hn, q⟩
    · exact .inl ⟨hn, q.ext e12⟩
    refine .inr ⟨hn, ?_⟩
    walk_at "rd"
    refine ⟨_, m, ws, pa, l, x, ks, rfl, ⟨hh, t, rfl, g1, g2⟩, ok, e12 _ _ hp, e12 _ _ hl, hn, fun r H3 as e3 hrn hr has => ?_⟩
    have hlen := Paired.length has
    walk_at "rd"
    refine rd_lenL (SqL.of hr) ?_
    walk_at "rd"
    refine rd_lenL (SqL.of (e3 _ _ (e12 _ _ hl))) ?_
    walk_at "rd"
    rcases q with ⟨hg, q⟩ | ⟨hg, q⟩
    · rw [decide_eq_true (show (((List.map V.ref as).length : Nat) : Int) ≤ (((List.map V.int ks).length : Nat) : Int) by rw [List.length_map, List.length_map]; omega)]
      refine iteT ?_
      walk_at "rd"
      refine rd_raiseI ?_
      walk_at "rd"
      refine rd_lenL (SqL.of hr) ?_
      walk_at "rd"
      refine ⟨_, rfl, fun d hd => ?_⟩
      have := q d (upd H3 d (.xd [("at", .int (((List.map V.ref as).length : Nat) - 1))])) ((e12.trans e3).trans (ext_upd hd)) (by rw [upd_same, List.length_map, hlen])
      exact this
    · rw [decide_eq_false (show ¬ (((List.map V.ref as).length : Nat) : Int) ≤ (((List.map V.int ks).length : Nat) : Int) by rw [List.length_map, List.length_map]; omega)]
      refine iteF ?_
      walk_at "rd"
      exact q r H3 as (e12.trans e3) (e12.none hrn) hr has
theorem forE {K : PySem.W.Frag} {a : Addr} {xs : List V} {g : TG} {tb : TS} {D : Ends} {σ : St} {H : Hp} (Pv : Nat → St → Hp → Prop) (h0 : Pv 0 σ H) (hl : ∀ i σ H, i ≤ xs.length → Pv i σ H → SqT K H a xs)
    (hs : ∀ i u σ H p H', xs[i]? = some u → Pv i σ H → Ext H H' → H' p = some (.tup [.int i, u]) → H p = none → g (.ref p) σ H' fun σ2 H2 => tb { D with nx := Pv (i + 1), ct := Pv (i + 1), bk := D.nx } σ2 H2) (hd : ∀ σ H, Pv xs.length σ H → D.nx σ H) :
    ForBody (Ite K a) g tb D σ H := for_enum Pv h0 hl hs hd
noncomputable def stp (z : Str) (n : Int) : Option Int :=
  if decide (z = "up") = true then some (n + 1) else if decide (z = "down") = true then (if decide (0 < n) = true then some (n - 1) else none) else if decide (z = "stay") = true then some n else if decide (z = "zero") = true then (if decide (n = 0) = true then some n else none) else none
noncomputable def bstep (w : Way) (r n : Int) (j : Nat) : List (Int × Int × Int) := if decide (w.room = r) = true then ((stp w.deed n).map fun n' => ((j : Int), w.other, n')).toList else []
noncomputable def behL (ws : List Way) (r n : Int) : Nat → List (Int × Int × Int)
  | 0 => []
  | k + 1 => behL ws r n k ++ ((ws[k]?).map fun w => bstep w r n k).getD []
theorem behL_succ {ws : List Way} {r n : Int} {i : Nat} {w : Way} (h : ws[i]? = some w) : behL ws r n (i + 1) = behL ws r n i ++ bstep w r n i := by
  show _ ++ ((ws[i]?).map fun w => bstep w r n i).getD [] = _
  rw [h]
  rfl
theorem bstep_len (w : Way) (r n : Int) (j : Nat) : (bstep w r n j).length ≤ 1 := by
  unfold bstep
  split
  · cases stp w.deed n <;> simp
  · simp
theorem behL_len (ws : List Way) (r n : Int) : ∀ k, (behL ws r n k).length ≤ k
  | 0 => Nat.le_refl _
  | k + 1 => by
    have := behL_len ws r n k
    show (behL ws r n k ++ ((ws[k]?).map fun w => bstep w r n k).getD []).length ≤ k + 1
    rw [List.length_append]
    cases h : ws[k]? with
    | none => simp; omega
    | some w =>
      have := bstep_len w r n k
      simp; omega
theorem bstep_no {w : Way} {r n : Int} {j : Nat} (h : w.room ≠ r) : bstep w r n j = [] := by
  unfold bstep
  rw [decide_eq_false h]
  rfl
theorem bstep_yes {w : Way} {r n : Int} {j : Nat} {o : Option Int} (h : w.room = r) (hs : stp w.deed n = o) : bstep w r n j = (o.map fun n' => ((j : Int), w.other, n')).toList := by
  unfold bstep
  rw [decide_eq_true h, hs]
  rfl
noncomputable def BehP (H : Hp) (c : Addr) (t : Int × Int × Int) : Prop := ∃ d, H c = some (.tup [.int t.1, .ref d]) ∧ H d = some (.tup [.int t.2.1, .int t.2.2])
theorem beh_mono {H H' : Hp} (f : ∀ c t, BehP H c t → BehP H' c t) {cs : List Addr} {ts : List (Int × Int × Int)} (h : Paired (BehP H) cs ts) : Paired (BehP H') cs ts := by
  induction h with
  | nil => exact .nil
  | cons h t ih => exact .cons (f _ _ h) ih
theorem beh_snoc {H : Hp} {cs : List Addr} {ts : List (Int × Int × Int)} {c : Addr} {t : Int × Int × Int} (h : Paired (BehP H) cs ts) (ht : BehP H c t) : Paired (BehP H) (cs ++ [c]) (ts ++ [t]) := by
  induction h with
  | nil => exact .cons ht .nil
  | cons h _ ih => exact .cons h ih
theorem BehP.ext {H H' : Hp} (e : Ext H H') {c : Addr} {t : Int × Int × Int} (h : BehP H c t) : BehP H' c t := by
  obtain ⟨d, h1, h2⟩ := h
  exact ⟨d, e _ _ h1, e _ _ h2⟩
theorem BehP.put {H : Hp} {f : Addr} {xs ys : List V} (hf : H f = some (.lst xs)) {c : Addr} {t : Int × Int × Int} (h : BehP H c t) : BehP (upd H f (.lst ys)) c t := by
  obtain ⟨d, h1, h2⟩ := h
  exact ⟨d, by rw [upd_ne (ne_of h1 hf (by intro z; cases z))]; exact h1, by rw [upd_ne (ne_of h2 hf (by intro z; cases z))]; exact h2⟩
structure BL (H0 H : Hp) (f : Addr) (ts : List (Int × Int × Int)) : Prop where
  ext : Ext H0 H
  at_ : ∃ cs : List Addr, H f = some (.lst (cs.map V.ref)) ∧ Paired (BehP H) cs ts
theorem BL.push {H0 H H1 : Hp} {f c d : Addr} {ts : List (Int × Int × Int)} {j o n : Int} (h : BL H0 H f ts) (hfn : H0 f = none) (e : Ext H H1) (hd : H1 d = some (.tup [.int o, .int n])) (hc : H1 c = some (.tup [.int j, .ref d])) :
    ∃ xs, H1 f = some (.lst xs) ∧ xs.length = ts.length ∧ BL H0 (upd H1 f (.lst (xs ++ [.ref c]))) f (ts ++ [(j, o, n)]) := by
  obtain ⟨e0, cs, hf, al⟩ := h
  have hf1 := e _ _ hf
  have hp : BehP H1 c (j, o, n) := ⟨d, hc, hd⟩
  refine ⟨cs.map V.ref, hf1, by rw [List.length_map]; exact Paired.length al, ext_write (e0.trans e) hfn, cs ++ [c], by rw [upd_same, List.map_append]; rfl, beh_snoc (beh_mono (fun _ _ z => (z.ext e).put hf1) al) (hp.put hf1)⟩
theorem BL.ty {K : PySem.W.Frag} {H0 H H1 : Hp} {f : Addr} {ts : List (Int × Int × Int)} (h : BL H0 H f ts) (e : Ext H H1) : tyV K "list" (.ref f) H1 := by
  obtain ⟨_, cs, hf, al⟩ := h
  exact rd_tyL (SqL.of (e _ _ hf))
theorem BL.step {H0 H H1 : Hp} {f : Addr} {ts : List (Int × Int × Int)} (h : BL H0 H f ts) (e : Ext H H1) : BL H0 H1 f ts := by
  obtain ⟨e0, cs, hf, al⟩ := h
  exact ⟨e0.trans e, cs, e _ _ hf, beh_mono (fun _ _ z => z.ext e) al⟩
theorem sUD : decide ((Str.ofString "up") = Str.ofString "down") = false := by decide +kernel
theorem sUS : decide ((Str.ofString "up") = Str.ofString "stay") = false := by decide +kernel
theorem sUZ : decide ((Str.ofString "up") = Str.ofString "zero") = false := by decide +kernel
theorem sDU : decide ((Str.ofString "down") = Str.ofString "up") = false := by decide +kernel
theorem sDS : decide ((Str.ofString "down") = Str.ofString "stay") = false := by decide +kernel
theorem sDZ : decide ((Str.ofString "down") = Str.ofString "zero") = false := by decide +kernel
theorem sSU : decide ((Str.ofString "stay") = Str.ofString "up") = false := by decide +kernel
theorem sSD : decide ((Str.ofString "stay") = Str.ofString "down") = false := by decide +kernel
theorem sZU : decide ((Str.ofString "zero") = Str.ofString "up") = false := by decide +kernel
theorem sZD : decide ((Str.ofString "zero") = Str.ofString "down") = false := by decide +kernel
theorem sZS : decide ((Str.ofString "zero") = Str.ofString "stay") = false := by decide +kernel
theorem sEE (z : Str) : decide (z = z) = true := decide_eq_true rfl
theorem stp_up (n : Int) : stp "up" n = some (n + 1) := by unfold stp; rw [sEE]; rfl
theorem stp_down (n : Int) : stp "down" n = if decide (0 < n) = true then some (n - 1) else none := by unfold stp; rw [sDU, sEE]; rfl
theorem stp_stay (n : Int) : stp "stay" n = some n := by unfold stp; rw [sSU, sSD, sEE]; rfl
theorem stp_zero (n : Int) : stp "zero" n = if decide (n = 0) = true then some n else none := by unfold stp; rw [sZU, sZD, sZS, sEE]; rfl
noncomputable def sp__law_behind (K : PySem.W.Frag) : Sp := fun vs H Q _ => ∃ v m ws p r n, vs = [v, .ref p] ∧ HouseAt H v m ws ∧ HOuse m ws ∧ H p = some (.tup [.int r, .int n]) ∧
  ∀ l H' cs, Ext H H' → H l = none → H' l = some (.lst (List.map V.ref cs)) → Paired (BehP H') cs (behL ws r n ws.length) → Q (.ref l) H'
noncomputable abbrev s__law_behind : Stmt := stq 42
theorem sc__law_behind : FnScope ["_law_house_here", "_law_place_here", "_law_found", "_law_k", "_law_room", "_law_deed", "_law_other", "_law_sign"] ["_law_house_here", "_law_place_here"] (defScope s__law_behind) := ⟨rfl, rfl, rfl, by decide +kernel, rfl, by decide +kernel, by decide +kernel⟩
theorem ok__law_behind {P : Program} {w : World} {K : PySem.W.Frag} {mg : Str → Option Value} {base : Heap} (D : Dfn K mg "_law_behind" s__law_behind ["_law_house_here", "_law_place_here"]) (T : Blt mg) : Cal P w K mg base "_law_behind" 1 ["_law_house_here", "_law_place_here"] (sp__law_behind K) := by
  have nd := (sc__law_behind).nd
  refine D.ok sc__law_behind (fun vs H Q E h => ?_) (fun X hX H vs Q E h => ?_)
  · obtain ⟨v, m, ws, p, r, n, rfl, _⟩ := h; rfl
  · obtain ⟨f, cdv, A, outer, s, H0, E0, rfl, hr⟩ := hX
    obtain ⟨v, m, ws, p, r, n, rfl, ⟨hh, t, rfl, g1, g2⟩, ok, hp, q⟩ := h
    obtain ⟨bs, g3, al⟩ := WaysAt.al g2
    have hfew := ok.few
    refine ⟨_, (no_implicit_lambda% (pss_cons (no_implicit_lambda% (ps_set (i := 2) nd rfl (Or.inl rfl) (no_implicit_lambda% (pe_lst pa_nil))))
        (no_implicit_lambda% (pss_cons (no_implicit_lambda% (ps_for PassesOwn.never rfl (no_implicit_lambda% (pi_enum K rfl T.enumerate_ (no_implicit_lambda% (pa_cons (no_implicit_lambda% (pe_ix (ix_tupK K) (no_implicit_lambda% (pv 0)) pe_int (fun _ _ => rfl))) pa_nil)))) (no_implicit_lambda% (pg_tupK (n := 2) K rfl (pgs_cons (no_implicit_lambda% (pg_name (i := 3) nd rfl (Or.inl rfl))) (pgs_cons (no_implicit_lambda% (pg_tupK (n := 4) K rfl (pgs_cons (no_implicit_lambda% (pg_name (i := 4) nd rfl (Or.inl rfl))) (pgs_cons (no_implicit_lambda% (pg_name (i := 5) nd rfl (Or.inl rfl))) (pgs_cons (no_implicit_lambda% (pg_name (i := 6) nd rfl (Or.inl rfl))) (pgs_cons (no_implicit_lambda% (pg_name (i := 7) nd rfl (Or.inl rfl))) pgs_nil)))))) pgs_nil)))) (no_implicit_lambda% (pss_one (no_implicit_lambda% (ps_ifJ (no_implicit_lambda% (pt_cmpR op_eq (no_implicit_lambda% (pv 4)) (no_implicit_lambda% (pe_ix (ix_tupK K) (no_implicit_lambda% (pv 1)) pe_int (fun _ _ => rfl))) (nomark _))) (no_implicit_lambda% (pss_cons (no_implicit_lambda% (ps_ifJ (no_implicit_lambda% (pt_cmpR op_eq (no_implicit_lambda% (pv 5)) pe_str (nomark _))) (no_implicit_lambda% (pss_one (no_implicit_lambda% (ps_expr (no_implicit_lambda% (pe_bmK K PySem.F.plainAttrs_list PySem.F.slot_list_append PySem.F.type_list_append mt_append (no_implicit_lambda% (pv 2)) (no_implicit_lambda% (pa_cons (no_implicit_lambda% (pe_tup (no_implicit_lambda% (pa_cons (no_implicit_lambda% (pv 3)) (no_implicit_lambda% (pa_cons (no_implicit_lambda% (pe_tup (no_implicit_lambda% (pa_cons (no_implicit_lambda% (pv 6)) (no_implicit_lambda% (pa_cons (no_implicit_lambda% (pe_op op_add (no_implicit_lambda% (pe_ix (ix_tupK K) (no_implicit_lambda% (pv 1)) pe_int (fun _ _ => rfl))) pe_int)) pa_nil)))))) pa_nil)))))) pa_nil)))))))) pss_nil))
        (no_implicit_lambda% (pss_cons (no_implicit_lambda% (ps_ifJ (no_implicit_lambda% (PW.pt (pw_and (no_implicit_lambda% (pt_cmpR op_eq (no_implicit_lambda% (pv 5)) pe_str (nomark _))) (pw_and1 (no_implicit_lambda% (pt_cmpR op_gt (no_implicit_lambda% (pe_ix (ix_tupK K) (no_implicit_lambda% (pv 1)) pe_int (fun _ _ => rfl))) pe_int (nomark _))))))) (no_implicit_lambda% (pss_one (no_implicit_lambda% (ps_expr (no_implicit_lambda% (pe_bmK K PySem.F.plainAttrs_list PySem.F.slot_list_append PySem.F.type_list_append mt_append (no_implicit_lambda% (pv 2)) (no_implicit_lambda% (pa_cons (no_implicit_lambda% (pe_tup (no_implicit_lambda% (pa_cons (no_implicit_lambda% (pv 3)) (no_implicit_lambda% (pa_cons (no_implicit_lambda% (pe_tup (no_implicit_lambda% (pa_cons (no_implicit_lambda% (pv 6)) (no_implicit_lambda% (pa_cons (no_implicit_lambda% (pe_op op_sub (no_implicit_lambda% (pe_ix (ix_tupK K) (no_implicit_lambda% (pv 1)) pe_int (fun _ _ => rfl))) pe_int)) pa_nil)))))) pa_nil)))))) pa_nil)))))))) pss_nil))
        (no_implicit_lambda% (pss_one (no_implicit_lambda% (ps_ifJ (no_implicit_lambda% (PW.pt (pw_or (no_implicit_lambda% (pt_cmpR op_eq (no_implicit_lambda% (pv 5)) pe_str (nomark _))) (pw_or1 (no_implicit_lambda% (PW.pt (pw_and (no_implicit_lambda% (pt_cmpR op_eq (no_implicit_lambda% (pv 5)) pe_str (nomark _))) (pw_and1 (no_implicit_lambda% (pt_cmpR op_eq (no_implicit_lambda% (pe_ix (ix_tupK K) (no_implicit_lambda% (pv 1)) pe_int (fun _ _ => rfl))) pe_int (nomark _))))))))))) (no_implicit_lambda% (pss_one (no_implicit_lambda% (ps_expr (no_implicit_lambda% (pe_bmK K PySem.F.plainAttrs_list PySem.F.slot_list_append PySem.F.type_list_append mt_append (no_implicit_lambda% (pv 2)) (no_implicit_lambda% (pa_cons (no_implicit_lambda% (pe_tup (no_implicit_lambda% (pa_cons (no_implicit_lambda% (pv 3)) (no_implicit_lambda% (pa_cons (no_implicit_lambda% (pe_tup (no_implicit_lambda% (pa_cons (no_implicit_lambda% (pv 6)) (no_implicit_lambda% (pa_cons (no_implicit_lambda% (pe_ix (ix_tupK K) (no_implicit_lambda% (pv 1)) pe_int (fun _ _ => rfl))) pa_nil)))))) pa_nil)))))) pa_nil)))))))) pss_nil)))))))) pss_nil))))))
        (no_implicit_lambda% (pss_one (no_implicit_lambda% (ps_ret (no_implicit_lambda% (pv 2)))))))))), ?_⟩
    walk_at "rd"
    refine ⟨small_line (by simp), rd_new fun f H1 e1 hf hfn => ?_⟩
    walk_at "rd"
    refine rd_ixT (SqT.of (e1 _ _ g1)) (v := .ref t) rfl ?_
    walk_at "rd"
    refine rd_enumT (SqT.of (e1 _ _ g3)) ?_
    refine forE (xs := bs.map V.ref) (fun i σ H' => ∃ k1 k2 k3 k4 k5, σ = [some (.ref hh), some (.ref p), some (.ref f), k1, k2, k3, k4, k5] ∧ BL H H' f (behL ws r n i)) ⟨none, none, none, none, none, rfl, e1, [], hf, .nil⟩ (fun i σ H' _ h => by obtain ⟨_, _, _, _, _, _, bl⟩ := h; exact SqT.of (bl.ext _ _ g3)) ?_ ?_
    · rintro i u σ H2 pp H3 hu ⟨k1, k2, k3, k4, k5, rfl, bl0⟩ e3 hpp _
      rw [List.getElem?_map] at hu
      obtain ⟨b, hb, rfl⟩ := Option.map_eq_some_iff.mp hu
      have hi : i < ws.length := by
        rw [← al.1]
        exact (List.getElem?_eq_some_iff.mp hb).1
      have hwi : ws[i]? = some ws[i] := List.getElem?_eq_getElem hi
      have bl := bl0.step e3
      have hw := bl.ext _ _ (al.2 i b _ hb hwi)
      have hp3 := bl.ext _ _ hp
      have okw := (ok.ok _ (List.getElem_mem hi)).dd
      rw [behL_succ hwi]
      have hlen := behL_len ws r n i
      generalize behL ws r n i = ts at bl hlen
      clear bl0 hwi
      generalize ws[i] = w at hw okw ⊢
      obtain ⟨room, deed, other, sign⟩ := w
      refine rd_gtup (SqT.of hpp) rfl ?_
      walk_at "rd"
      refine rd_gtup (SqT.of hw) rfl ?_
      walk_at "rd"
      refine rd_ifN ?_
      walk_at "rd"
      refine rd_ixT (SqT.of hp3) (v := .int r) rfl ?_
      walk_at "rd"
      by_cases er : room = r
      rotate_left
      · rw [decide_eq_false er]
        refine iteF ?_
        walk_at "rd"
        refine ⟨_, _, _, _, _, rfl, ?_⟩
        rw [bstep_no er, List.append_nil]
        exact bl
      · rw [decide_eq_true er]
        refine iteT ?_
        rcases okw with e | e | e | e <;> (simp only at e; subst e)
        · rw [bstep_yes er (stp_up n)]
          walk_at "rd"
          refine rd_ifN ?_
          walk_at "rd"
          refine rd_EqS ?_
          rw [sEE]
          refine rd_exb (iteT ?_)
          walk_at "rd"
          refine ⟨bl.ty (Ext.rfl' _), ?_⟩
          walk_at "rd"
          refine rd_ixT (SqT.of hp3) (v := .int n) rfl ?_
          walk_at "rd"
          refine ⟨small_line (by simp), rd_new fun d H4 e4 hd _ => ?_⟩
          walk_at "rd"
          refine ⟨small_line (by simp), rd_new fun c H5 e5 hc _ => ?_⟩
          walk_at "rd"
          obtain ⟨xs, hx, hlx, bl'⟩ := bl.push hfn (e4.trans e5) (e5 _ _ hd) hc
          refine rd_append hx (line16 (by omega)) ?_
          generalize upd H5 f _ = H6 at bl' ⊢
          walk_at "rd"
          refine rd_ifN ?_
          walk_at "rd"
          refine rd_EqS ?_
          rw [sUD]
          refine rd_exb (iteF ?_)
          refine iteF ?_
          walk_at "rd"
          refine rd_ifN ?_
          walk_at "rd"
          refine rd_EqS ?_
          rw [sUS]
          refine rd_exb (iteF ?_)
          walk_at "rd"
          refine rd_EqS ?_
          rw [sUZ]
          refine rd_exb (iteF ?_)
          refine iteF ?_
          walk_at "rd"
          exact ⟨_, _, _, _, _, rfl, bl'⟩
        · -- down
          walk_at "rd"
          refine rd_ifN ?_
          walk_at "rd"
          refine rd_EqS ?_
          rw [sDU]
          refine rd_exb (iteF ?_)
          walk_at "rd"
          refine rd_ifN ?_
          walk_at "rd"
          refine rd_EqS ?_
          rw [sEE]
          refine rd_exb (iteT ?_)
          walk_at "rd"
          refine rd_ixT (SqT.of hp3) (v := .int n) rfl ?_
          walk_at "rd"
          by_cases hn : 0 < n
          · rw [decide_eq_true hn]
            refine iteT ?_
            walk_at "rd"
            refine ⟨bl.ty (Ext.rfl' _), ?_⟩
            walk_at "rd"
            refine rd_ixT (SqT.of hp3) (v := .int n) rfl ?_
            walk_at "rd"
            refine ⟨small_line (by simp), rd_new fun d H4 e4 hd _ => ?_⟩
            walk_at "rd"
            refine ⟨small_line (by simp), rd_new fun c H5 e5 hc _ => ?_⟩
            walk_at "rd"
            obtain ⟨xs, hx, hlx, bl'⟩ := bl.push hfn (e4.trans e5) (e5 _ _ hd) hc
            refine rd_append hx (line16 (by omega)) ?_
            generalize upd H5 f _ = H6 at bl' ⊢
            walk_at "rd"
            refine rd_ifN ?_
            walk_at "rd"
            refine rd_EqS ?_
            rw [sDS]
            refine rd_exb (iteF ?_)
            walk_at "rd"
            refine rd_EqS ?_
            rw [sDZ]
            refine rd_exb (iteF ?_)
            refine iteF ?_
            walk_at "rd"
            refine ⟨_, _, _, _, _, rfl, ?_⟩
            rw [bstep_yes er (stp_down n), decide_eq_true hn]
            exact bl'
          · rw [decide_eq_false hn]
            refine iteF ?_
            walk_at "rd"
            refine rd_ifN ?_
            walk_at "rd"
            refine rd_EqS ?_
            rw [sDS]
            refine rd_exb (iteF ?_)
            walk_at "rd"
            refine rd_EqS ?_
            rw [sDZ]
            refine rd_exb (iteF ?_)
            refine iteF ?_
            walk_at "rd"
            refine ⟨_, _, _, _, _, rfl, ?_⟩
            rw [bstep_yes er (stp_down n), decide_eq_false hn]
            simpa using bl
        · -- stay
          walk_at "rd"
          refine rd_ifN ?_
          walk_at "rd"
          refine rd_EqS ?_
          rw [sSU]
          refine rd_exb (iteF ?_)
          walk_at "rd"
          refine rd_ifN ?_
          walk_at "rd"
          refine rd_EqS ?_
          rw [sSD]
          refine rd_exb (iteF ?_)
          refine iteF ?_
          walk_at "rd"
          refine rd_ifN ?_
          walk_at "rd"
          refine rd_EqS ?_
          rw [sEE]
          refine rd_exb (iteT ?_)
          refine iteT ?_
          walk_at "rd"
          refine ⟨bl.ty (Ext.rfl' _), ?_⟩
          walk_at "rd"
          refine rd_ixT (SqT.of hp3) (v := .int n) rfl ?_
          walk_at "rd"
          refine ⟨small_line (by simp), rd_new fun d H4 e4 hd _ => ?_⟩
          walk_at "rd"
          refine ⟨small_line (by simp), rd_new fun c H5 e5 hc _ => ?_⟩
          walk_at "rd"
          obtain ⟨xs, hx, hlx, bl'⟩ := bl.push hfn (e4.trans e5) (e5 _ _ hd) hc
          refine rd_append hx (line16 (by omega)) ?_
          generalize upd H5 f _ = H6 at bl' ⊢
          walk_at "rd"
          refine ⟨_, _, _, _, _, rfl, ?_⟩
          rw [bstep_yes er (stp_stay n)]
          exact bl'
        · -- zero
          walk_at "rd"
          refine rd_ifN ?_
          walk_at "rd"
          refine rd_EqS ?_
          rw [sZU]
          refine rd_exb (iteF ?_)
          walk_at "rd"
          refine rd_ifN ?_
          walk_at "rd"
          refine rd_EqS ?_
          rw [sZD]
          refine rd_exb (iteF ?_)
          refine iteF ?_
          walk_at "rd"
          refine rd_ifN ?_
          walk_at "rd"
          refine rd_EqS ?_
          rw [sZS]
          refine rd_exb (iteF ?_)
          walk_at "rd"
          refine rd_EqS ?_
          rw [sEE]
          refine rd_exb (iteT ?_)
          walk_at "rd"
          refine rd_ixT (SqT.of hp3) (v := .int n) rfl ?_
          walk_at "rd"
          by_cases hn : n = 0
          · rw [decide_eq_true hn]
            refine iteT ?_
            walk_at "rd"
            refine ⟨bl.ty (Ext.rfl' _), ?_⟩
            walk_at "rd"
            refine rd_ixT (SqT.of hp3) (v := .int n) rfl ?_
            walk_at "rd"
            refine ⟨small_line (by simp), rd_new fun d H4 e4 hd _ => ?_⟩
            walk_at "rd"
            refine ⟨small_line (by simp), rd_new fun c H5 e5 hc _ => ?_⟩
            walk_at "rd"
            obtain ⟨xs, hx, hlx, bl'⟩ := bl.push hfn (e4.trans e5) (e5 _ _ hd) hc
            refine rd_append hx (line16 (by omega)) ?_
            generalize upd H5 f _ = H6 at bl' ⊢
            walk_at "rd"
            refine ⟨_, _, _, _, _, rfl, ?_⟩
            rw [bstep_yes er (stp_zero n), decide_eq_true hn]
            exact bl'
          · rw [decide_eq_false hn]
            refine iteF ?_
            walk_at "rd"
            refine ⟨_, _, _, _, _, rfl, ?_⟩
            rw [bstep_yes er (stp_zero n), decide_eq_false hn]
            simpa using bl
    · rintro σ H' ⟨k1, k2, k3, k4, k5, rfl, bl⟩
      rw [List.length_map, al.1] at bl
      obtain ⟨ew, cs, hcs, hpd⟩ := bl
      walk_at "rd"
      exact q f H' cs ew hfn hcs hpd
local macro_rules | `(tactic| walk_at "ra") => do
  let ts ← ("seq asg c name".splitOn " ").toArray.mapM fun n =>
    let i := Lean.mkIdent (.mkSimple ("rd_" ++ n))
    `(tacticSeq| with_reducible refine $i ?_)
  `(tactic| repeat (first $[| $ts]* | dsimp only))
structure Knd (K : PySem.W.Frag) (D : Addr) (b1 b3 b4 b5 : Bool) : Prop where
  k1 : PySem.W.kitOne K (.ref D) (.ref (cA K "NoHouse")) = some b1
  k2 : PySem.W.kitOne K (.ref D) (.ref (cA K "NoStair")) = some false
  k3 : PySem.W.kitOne K (.ref D) (.ref (cA K "NoPlace")) = some b3
  k4 : PySem.W.kitOne K (.ref D) (.ref (cA K "TooGreat")) = some b4
  k5 : PySem.W.kitOne K (.ref D) (.ref (cA K "NoWalk")) = some b5
  ko : ∀ C ∈ (["Endless", "NotBare", "NoText", "NoLine", "NoWay", "NoDeed"] : List Str).map (cA K), PySem.W.kitOne K (.ref D) (.ref C) = some false
  kv : PySem.W.kitOne K (.ref D) (.type "ValueError") = some true
theorem knd_of {K : PySem.W.Frag} {c : Str} (kc : ∀ y ∈ allC, PySem.W.kitOne K (.ref (cA K c)) (.ref (cA K y)) = some (c == y || y == ("StairError" : Str))) (kv : PySem.W.kitOne K (.ref (cA K c)) (.type "ValueError") = some true) (hn : (["NoStair", "Endless", "NotBare", "NoText", "NoLine", "NoWay", "NoDeed"] : List Str).contains c = false) :
    Knd K (cA K c) (c == "NoHouse") (c == "NoPlace") (c == "TooGreat") (c == "NoWalk") := by
  have no : ∀ y ∈ (["NoStair", "Endless", "NotBare", "NoText", "NoLine", "NoWay", "NoDeed"] : List Str), (c == y) = false := fun y hy => by
    cases h : c == y with
    | false => rfl
    | true =>
      have e : c = y := by simpa using h
      rw [e, List.contains_iff_mem.mpr hy] at hn
      cases hn
  refine ⟨(kc "NoHouse" (by decide +kernel)).trans ?_, (kc "NoStair" (by decide +kernel)).trans ?_, (kc "NoPlace" (by decide +kernel)).trans ?_, (kc "TooGreat" (by decide +kernel)).trans ?_, (kc "NoWalk" (by decide +kernel)).trans ?_, fun C hC => ?_, kv⟩
  · rw [show (("NoHouse" : Str) == ("StairError" : Str)) = false by decide +kernel, Bool.or_false]
  · rw [no "NoStair" (by decide +kernel)]; decide +kernel
  · rw [show (("NoPlace" : Str) == ("StairError" : Str)) = false by decide +kernel, Bool.or_false]
  · rw [show (("TooGreat" : Str) == ("StairError" : Str)) = false by decide +kernel, Bool.or_false]
  · rw [show (("NoWalk" : Str) == ("StairError" : Str)) = false by decide +kernel, Bool.or_false]
  · obtain ⟨y, hy, rfl⟩ := List.mem_map.mp hC
    have hy2 : y ∈ allC := by
      simp only [List.mem_cons, List.not_mem_nil, or_false] at hy
      rcases hy with rfl | rfl | rfl | rfl | rfl | rfl <;> decide +kernel
    rw [kc y hy2, no y (List.mem_cons_of_mem _ hy)]
    simp only [List.mem_cons, List.not_mem_nil, or_false] at hy
    rcases hy with rfl | rfl | rfl | rfl | rfl | rfl <;> decide +kernel
noncomputable def sp__law_kind (K : PySem.W.Frag) (x D : Addr) : Sp := fun vs H Q _ => ∃ b1 b3 b4 b5 z, vs = [.ref x] ∧ Knd K D b1 b3 b4 b5 ∧ ((b1 = true ∧ b3 = false ∧ b4 = false ∧ b5 = false ∧ z = Str.ofString "house") ∨ (b1 = false ∧ b3 = true ∧ b4 = false ∧ b5 = false ∧ z = Str.ofString "place") ∨
  (b1 = false ∧ b3 = false ∧ b4 = true ∧ b5 = false ∧ z = Str.ofString "great") ∨ (b1 = false ∧ b3 = false ∧ b4 = false ∧ b5 = true ∧ z = Str.ofString "walk")) ∧ ∀ H', Ext H H' → Q (.str z) H'
noncomputable abbrev s__law_kind : Stmt := stq 51
theorem sc__law_kind : FnScope ["_law_e", "_law_words"] ["_law_e"] (defScope s__law_kind) := ⟨rfl, rfl, rfl, by decide +kernel, rfl, by decide +kernel, by decide +kernel⟩
theorem ok__law_kind {P : Program} {w : World} {K : PySem.W.Frag} {mg : Str → Option Value} {base : Heap} (D : Dfn K mg "_law_kind" s__law_kind ["_law_e"]) (T : Blt mg) (XF : Xf K mg base allC raisedC) {x Dx : Addr} {oe : Obj} (hK : ExcK K Dx) (hc : oe.cls = .ref Dx) (hal : ∃ vs, oe.data = .fields vs ∧ vs[2]? = some .none) : CalH P w K mg base "_law_kind" 1 ["_law_e"] x oe (sp__law_kind K x Dx) := by
  have nd := (sc__law_kind).nd
  refine D.okH sc__law_kind hal (fun vs H Q E h => ?_) (fun X hX H vs Q h => ?_)
  · obtain ⟨_, _, _, _, _, rfl, _⟩ := h; rfl
  · obtain ⟨f, cdv, A, outer, s, H0, rfl, hr⟩ := hX
    obtain ⟨b1, b3, b4, b5, z, rfl, k, hz, q⟩ := h
    refine ⟨_, (no_implicit_lambda% (pss_cons (no_implicit_lambda% (ps_set (i := 1) nd rfl (Or.inl rfl) (no_implicit_lambda% (pe_lst pa_nil))))
        (no_implicit_lambda% (pss_cons (no_implicit_lambda% (ps_ifJ (no_implicit_lambda% (pt_val (no_implicit_lambda% (pe_callB (call_isiX hK hc) rfl T.isinstance_ PyProof.Rows.boot_isinstance (no_implicit_lambda% (pa_cons (no_implicit_lambda% (pv 0)) (no_implicit_lambda% (pa_cons (no_implicit_lambda% (pe_glob (v := .ref (cA K "NoHouse")) rfl (XF.cl "NoHouse" (by decide +kernel)) rfl)) pa_nil)))))))) (no_implicit_lambda% (pss_one (no_implicit_lambda% (ps_expr (no_implicit_lambda% (pe_bmK K PySem.F.plainAttrs_list PySem.F.slot_list_append PySem.F.type_list_append mt_append (no_implicit_lambda% (pv 1)) (no_implicit_lambda% (pa_cons pe_str pa_nil)))))))) pss_nil))
        (no_implicit_lambda% (pss_cons (no_implicit_lambda% (ps_ifJ (no_implicit_lambda% (pt_val (no_implicit_lambda% (pe_callB (call_isiX hK hc) rfl T.isinstance_ PyProof.Rows.boot_isinstance (no_implicit_lambda% (pa_cons (no_implicit_lambda% (pv 0)) (no_implicit_lambda% (pa_cons (no_implicit_lambda% (pe_glob (v := .ref (cA K "NoStair")) rfl (XF.cl "NoStair" (by decide +kernel)) rfl)) pa_nil)))))))) (no_implicit_lambda% (pss_one (no_implicit_lambda% (ps_expr (no_implicit_lambda% (pe_bmK K PySem.F.plainAttrs_list PySem.F.slot_list_append PySem.F.type_list_append mt_append (no_implicit_lambda% (pv 1)) (no_implicit_lambda% (pa_cons pe_str pa_nil)))))))) pss_nil))
        (no_implicit_lambda% (pss_cons (no_implicit_lambda% (ps_ifJ (no_implicit_lambda% (pt_val (no_implicit_lambda% (pe_callB (call_isiX hK hc) rfl T.isinstance_ PyProof.Rows.boot_isinstance (no_implicit_lambda% (pa_cons (no_implicit_lambda% (pv 0)) (no_implicit_lambda% (pa_cons (no_implicit_lambda% (pe_glob (v := .ref (cA K "NoPlace")) rfl (XF.cl "NoPlace" (by decide +kernel)) rfl)) pa_nil)))))))) (no_implicit_lambda% (pss_one (no_implicit_lambda% (ps_expr (no_implicit_lambda% (pe_bmK K PySem.F.plainAttrs_list PySem.F.slot_list_append PySem.F.type_list_append mt_append (no_implicit_lambda% (pv 1)) (no_implicit_lambda% (pa_cons pe_str pa_nil)))))))) pss_nil))
        (no_implicit_lambda% (pss_cons (no_implicit_lambda% (ps_ifJ (no_implicit_lambda% (pt_val (no_implicit_lambda% (pe_callB (call_isiX hK hc) rfl T.isinstance_ PyProof.Rows.boot_isinstance (no_implicit_lambda% (pa_cons (no_implicit_lambda% (pv 0)) (no_implicit_lambda% (pa_cons (no_implicit_lambda% (pe_glob (v := .ref (cA K "TooGreat")) rfl (XF.cl "TooGreat" (by decide +kernel)) rfl)) pa_nil)))))))) (no_implicit_lambda% (pss_one (no_implicit_lambda% (ps_expr (no_implicit_lambda% (pe_bmK K PySem.F.plainAttrs_list PySem.F.slot_list_append PySem.F.type_list_append mt_append (no_implicit_lambda% (pv 1)) (no_implicit_lambda% (pa_cons pe_str pa_nil)))))))) pss_nil))
        (no_implicit_lambda% (pss_cons (no_implicit_lambda% (ps_ifJ (no_implicit_lambda% (pt_val (no_implicit_lambda% (pe_callB (call_isiX hK hc) rfl T.isinstance_ PyProof.Rows.boot_isinstance (no_implicit_lambda% (pa_cons (no_implicit_lambda% (pv 0)) (no_implicit_lambda% (pa_cons (no_implicit_lambda% (pe_glob (v := .ref (cA K "NoWalk")) rfl (XF.cl "NoWalk" (by decide +kernel)) rfl)) pa_nil)))))))) (no_implicit_lambda% (pss_one (no_implicit_lambda% (ps_expr (no_implicit_lambda% (pe_bmK K PySem.F.plainAttrs_list PySem.F.slot_list_append PySem.F.type_list_append mt_append (no_implicit_lambda% (pv 1)) (no_implicit_lambda% (pa_cons pe_str pa_nil)))))))) pss_nil))
        (no_implicit_lambda% (pss_cons (no_implicit_lambda% (ps_ifJ (no_implicit_lambda% (pt_val (no_implicit_lambda% (pe_callB (call_isiX hK hc) rfl T.isinstance_ PyProof.Rows.boot_isinstance (no_implicit_lambda% (pa_cons (no_implicit_lambda% (pv 0)) (no_implicit_lambda% (pa_cons (no_implicit_lambda% (pe_tup (no_implicit_lambda% (pa_cons (no_implicit_lambda% (pe_glob (v := .ref (cA K "Endless")) rfl (XF.cl "Endless" (by decide +kernel)) rfl)) (no_implicit_lambda% (pa_cons (no_implicit_lambda% (pe_glob (v := .ref (cA K "NotBare")) rfl (XF.cl "NotBare" (by decide +kernel)) rfl)) (no_implicit_lambda% (pa_cons (no_implicit_lambda% (pe_glob (v := .ref (cA K "NoText")) rfl (XF.cl "NoText" (by decide +kernel)) rfl)) (no_implicit_lambda% (pa_cons (no_implicit_lambda% (pe_glob (v := .ref (cA K "NoLine")) rfl (XF.cl "NoLine" (by decide +kernel)) rfl)) (no_implicit_lambda% (pa_cons (no_implicit_lambda% (pe_glob (v := .ref (cA K "NoWay")) rfl (XF.cl "NoWay" (by decide +kernel)) rfl)) (no_implicit_lambda% (pa_cons (no_implicit_lambda% (pe_glob (v := .ref (cA K "NoDeed")) rfl (XF.cl "NoDeed" (by decide +kernel)) rfl)) pa_nil)))))))))))))) pa_nil)))))))) (no_implicit_lambda% (pss_one (no_implicit_lambda% (ps_expr (no_implicit_lambda% (pe_bmK K PySem.F.plainAttrs_list PySem.F.slot_list_append PySem.F.type_list_append mt_append (no_implicit_lambda% (pv 1)) (no_implicit_lambda% (pa_cons pe_str pa_nil)))))))) pss_nil))
        (no_implicit_lambda% (pss_cons (no_implicit_lambda% (ps_ifJ (no_implicit_lambda% (pt_not (no_implicit_lambda% (pt_val (no_implicit_lambda% (pe_callB (call_isiX hK hc) rfl T.isinstance_ PyProof.Rows.boot_isinstance (no_implicit_lambda% (pa_cons (no_implicit_lambda% (pv 0)) (no_implicit_lambda% (pa_cons (no_implicit_lambda% (pe_bltn (v := .ty "ValueError") rfl T.ValueError_ PyProof.Rows.Boot.«ValueError» rfl)) pa_nil)))))))))) (no_implicit_lambda% (pss_one (no_implicit_lambda% (ps_expr (no_implicit_lambda% (pe_bmK K PySem.F.plainAttrs_list PySem.F.slot_list_append PySem.F.type_list_append mt_append (no_implicit_lambda% (pv 1)) (no_implicit_lambda% (pa_cons pe_str pa_nil)))))))) pss_nil))
        (no_implicit_lambda% (pss_one (no_implicit_lambda% (ps_ret (no_implicit_lambda% (pe_bmK K PySem.F.plainAttrs_str PySem.F.slot_str_join PySem.F.type_str_join (mt_joinX K) pe_str (no_implicit_lambda% (pa_cons (no_implicit_lambda% (pv 1)) pa_nil)))))))))))))))))))))))), ?_⟩
    walk_at "rd"
    refine ⟨small_line (by simp), rd_new fun f H1 e1 hf hfn => ?_⟩
    walk_at "rd"
    rcases hz with ⟨rfl, rfl, rfl, rfl, rfl⟩ | ⟨rfl, rfl, rfl, rfl, rfl⟩ | ⟨rfl, rfl, rfl, rfl, rfl⟩ | ⟨rfl, rfl, rfl, rfl, rfl⟩
    · refine rd_ifN ?_
      walk_at "rd"
      refine rd_isiC k.k1 ?_
      walk_at "rd"
      refine iteT ?_
      walk_at "rd"
      refine ⟨rd_tyL (SqL.of hf), ?_⟩
      walk_at "rd"
      refine rd_append hf (line16 (by simp)) ?_
      have e2 : Ext H (upd H1 f (.lst ([] ++ [.str (Str.ofString "house")]))) := ext_write e1 hfn
      have hf2 : upd H1 f (.lst ([] ++ [.str (Str.ofString "house")])) f = some (.lst (List.map V.str [Str.ofString "house"])) := upd_same
      generalize upd H1 f (.lst ([] ++ [.str (Str.ofString "house")])) = H2 at e2 hf2 ⊢
      walk_at "rd"
      refine rd_ifN ?_
      walk_at "rd"
      refine rd_isiC k.k2 ?_
      walk_at "rd"
      refine iteF ?_
      walk_at "rd"
      refine rd_ifN ?_
      walk_at "rd"
      refine rd_isiC k.k3 ?_
      walk_at "rd"
      refine iteF ?_
      walk_at "rd"
      refine rd_ifN ?_
      walk_at "rd"
      refine rd_isiC k.k4 ?_
      walk_at "rd"
      refine iteF ?_
      walk_at "rd"
      refine rd_ifN ?_
      walk_at "rd"
      refine rd_isiC k.k5 ?_
      walk_at "rd"
      refine iteF ?_
      walk_at "rd"
      refine rd_ifN ?_
      walk_at "rd"
      refine ⟨small_line (by simp), rd_new fun ta H3 e3 hta _ => ?_⟩
      walk_at "rd"
      refine rd_isiP (Cs := (["Endless", "NotBare", "NoText", "NoLine", "NoWay", "NoDeed"] : List Str).map (cA K)) hta (kitAny_no k.ko) ?_
      walk_at "rd"
      refine iteF ?_
      walk_at "rd"
      refine rd_ifN ?_
      walk_at "rd"
      refine rd_isiT k.kv ?_
      walk_at "rd"
      refine iteF ?_
      walk_at "rd"
      refine ⟨rfl, ?_⟩
      walk_at "rd"
      refine ⟨_, f, [Str.ofString "house"], rfl, rfl, SqL.of (e3 _ _ hf2), by decide +kernel, ?_⟩
      rw [show Txt.join (Str.ofString " ") [Str.ofString "house"] = Str.ofString "house" by decide +kernel]
      exact q _ (e2.trans e3)
    · refine rd_ifN ?_
      walk_at "rd"
      refine rd_isiC k.k1 ?_
      walk_at "rd"
      refine iteF ?_
      walk_at "rd"
      refine rd_ifN ?_
      walk_at "rd"
      refine rd_isiC k.k2 ?_
      walk_at "rd"
      refine iteF ?_
      walk_at "rd"
      refine rd_ifN ?_
      walk_at "rd"
      refine rd_isiC k.k3 ?_
      walk_at "rd"
      refine iteT ?_
      walk_at "rd"
      refine ⟨rd_tyL (SqL.of hf), ?_⟩
      walk_at "rd"
      refine rd_append hf (line16 (by simp)) ?_
      have e2 : Ext H (upd H1 f (.lst ([] ++ [.str (Str.ofString "place")]))) := ext_write e1 hfn
      have hf2 : upd H1 f (.lst ([] ++ [.str (Str.ofString "place")])) f = some (.lst (List.map V.str [Str.ofString "place"])) := upd_same
      generalize upd H1 f (.lst ([] ++ [.str (Str.ofString "place")])) = H2 at e2 hf2 ⊢
      walk_at "rd"
      refine rd_ifN ?_
      walk_at "rd"
      refine rd_isiC k.k4 ?_
      walk_at "rd"
      refine iteF ?_
      walk_at "rd"
      refine rd_ifN ?_
      walk_at "rd"
      refine rd_isiC k.k5 ?_
      walk_at "rd"
      refine iteF ?_
      walk_at "rd"
      refine rd_ifN ?_
      walk_at "rd"
      refine ⟨small_line (by simp), rd_new fun ta H3 e3 hta _ => ?_⟩
      walk_at "rd"
      refine rd_isiP (Cs := (["Endless", "NotBare", "NoText", "NoLine", "NoWay", "NoDeed"] : List Str).map (cA K)) hta (kitAny_no k.ko) ?_
      walk_at "rd"
      refine iteF ?_
      walk_at "rd"
      refine rd_ifN ?_
      walk_at "rd"
      refine rd_isiT k.kv ?_
      walk_at "rd"
      refine iteF ?_
      walk_at "rd"
      refine ⟨rfl, ?_⟩
      walk_at "rd"
      refine ⟨_, f, [Str.ofString "place"], rfl, rfl, SqL.of (e3 _ _ hf2), by decide +kernel, ?_⟩
      rw [show Txt.join (Str.ofString " ") [Str.ofString "place"] = Str.ofString "place" by decide +kernel]
      exact q _ (e2.trans e3)
    · refine rd_ifN ?_
      walk_at "rd"
      refine rd_isiC k.k1 ?_
      walk_at "rd"
      refine iteF ?_
      walk_at "rd"
      refine rd_ifN ?_
      walk_at "rd"
      refine rd_isiC k.k2 ?_
      walk_at "rd"
      refine iteF ?_
      walk_at "rd"
      refine rd_ifN ?_
      walk_at "rd"
      refine rd_isiC k.k3 ?_
      walk_at "rd"
      refine iteF ?_
      walk_at "rd"
      refine rd_ifN ?_
      walk_at "rd"
      refine rd_isiC k.k4 ?_
      walk_at "rd"
      refine iteT ?_
      walk_at "rd"
      refine ⟨rd_tyL (SqL.of hf), ?_⟩
      walk_at "rd"
      refine rd_append hf (line16 (by simp)) ?_
      have e2 : Ext H (upd H1 f (.lst ([] ++ [.str (Str.ofString "great")]))) := ext_write e1 hfn
      have hf2 : upd H1 f (.lst ([] ++ [.str (Str.ofString "great")])) f = some (.lst (List.map V.str [Str.ofString "great"])) := upd_same
      generalize upd H1 f (.lst ([] ++ [.str (Str.ofString "great")])) = H2 at e2 hf2 ⊢
      walk_at "rd"
      refine rd_ifN ?_
      walk_at "rd"
      refine rd_isiC k.k5 ?_
      walk_at "rd"
      refine iteF ?_
      walk_at "rd"
      refine rd_ifN ?_
      walk_at "rd"
      refine ⟨small_line (by simp), rd_new fun ta H3 e3 hta _ => ?_⟩
      walk_at "rd"
      refine rd_isiP (Cs := (["Endless", "NotBare", "NoText", "NoLine", "NoWay", "NoDeed"] : List Str).map (cA K)) hta (kitAny_no k.ko) ?_
      walk_at "rd"
      refine iteF ?_
      walk_at "rd"
      refine rd_ifN ?_
      walk_at "rd"
      refine rd_isiT k.kv ?_
      walk_at "rd"
      refine iteF ?_
      walk_at "rd"
      refine ⟨rfl, ?_⟩
      walk_at "rd"
      refine ⟨_, f, [Str.ofString "great"], rfl, rfl, SqL.of (e3 _ _ hf2), by decide +kernel, ?_⟩
      rw [show Txt.join (Str.ofString " ") [Str.ofString "great"] = Str.ofString "great" by decide +kernel]
      exact q _ (e2.trans e3)
    · refine rd_ifN ?_
      walk_at "rd"
      refine rd_isiC k.k1 ?_
      walk_at "rd"
      refine iteF ?_
      walk_at "rd"
      refine rd_ifN ?_
      walk_at "rd"
      refine rd_isiC k.k2 ?_
      walk_at "rd"
      refine iteF ?_
      walk_at "rd"
      refine rd_ifN ?_
      walk_at "rd"
      refine rd_isiC k.k3 ?_
      walk_at "rd"
      refine iteF ?_
      walk_at "rd"
      refine rd_ifN ?_
      walk_at "rd"
      refine rd_isiC k.k4 ?_
      walk_at "rd"
      refine iteF ?_
      walk_at "rd"
      refine rd_ifN ?_
      walk_at "rd"
      refine rd_isiC k.k5 ?_
      walk_at "rd"
      refine iteT ?_
      walk_at "rd"
      refine ⟨rd_tyL (SqL.of hf), ?_⟩
      walk_at "rd"
      refine rd_append hf (line16 (by simp)) ?_
      have e2 : Ext H (upd H1 f (.lst ([] ++ [.str (Str.ofString "walk")]))) := ext_write e1 hfn
      have hf2 : upd H1 f (.lst ([] ++ [.str (Str.ofString "walk")])) f = some (.lst (List.map V.str [Str.ofString "walk"])) := upd_same
      generalize upd H1 f (.lst ([] ++ [.str (Str.ofString "walk")])) = H2 at e2 hf2 ⊢
      walk_at "rd"
      refine rd_ifN ?_
      walk_at "rd"
      refine ⟨small_line (by simp), rd_new fun ta H3 e3 hta _ => ?_⟩
      walk_at "rd"
      refine rd_isiP (Cs := (["Endless", "NotBare", "NoText", "NoLine", "NoWay", "NoDeed"] : List Str).map (cA K)) hta (kitAny_no k.ko) ?_
      walk_at "rd"
      refine iteF ?_
      walk_at "rd"
      refine rd_ifN ?_
      walk_at "rd"
      refine rd_isiT k.kv ?_
      walk_at "rd"
      refine iteF ?_
      walk_at "rd"
      refine ⟨rfl, ?_⟩
      walk_at "rd"
      refine ⟨_, f, [Str.ofString "walk"], rfl, rfl, SqL.of (e3 _ _ hf2), by decide +kernel, ?_⟩
      rw [show Txt.join (Str.ofString " ") [Str.ofString "walk"] = Str.ofString "walk" by decide +kernel]
      exact q _ (e2.trans e3)
noncomputable def sp__law_place (K : PySem.W.Frag) : Sp := fun vs H Q _ => ∃ v m ws c p, vs = [v, .int c, .int p] ∧ HouseAt H v m ws ∧ HOuse m ws ∧ 0 < p ∧ ∀ a r n H', Ext H H' → PlAt H' a (r, n) → 0 ≤ r → r < m → 0 ≤ n → n ≤ 12 → Q (.ref a) H'
noncomputable abbrev s__law_place : Stmt := stq 49
theorem sc__law_place : FnScope ["_law_house_here", "_law_cell_here", "_law_prime", "_law_draws_here"] ["_law_house_here", "_law_cell_here", "_law_prime"] (defScope s__law_place) := ⟨rfl, rfl, rfl, by decide +kernel, rfl, by decide +kernel, by decide +kernel⟩
theorem ok__law_place {P : Program} {w : World} {K : PySem.W.Frag} {mg : Str → Option Value} {base : Heap} (D : Dfn K mg "_law_place" s__law_place ["_law_house_here", "_law_cell_here", "_law_prime"]) (T : Blt mg) (C__law_draws : Cal P w K mg base "_law_draws" 2 ["_law_cell_here", "_law_widths", "_law_prime"] (sp__law_draws K)) : Cal P w K mg base "_law_place" 3 ["_law_house_here", "_law_cell_here", "_law_prime"] (sp__law_place K) := by
  have nd := (sc__law_place).nd
  refine D.ok sc__law_place (fun vs H Q E h => ?_) (fun X hX H vs Q E h => ?_)
  · obtain ⟨v, m, ws, c, p, rfl, _⟩ := h; rfl
  · obtain ⟨f, cdv, A, outer, s, H0, E0, rfl, hr⟩ := hX
    obtain ⟨v, m, ws, c, p, rfl, hv, ok, hp, q⟩ := h
    have m1 := ok.m1
    refine ⟨_, (no_implicit_lambda% (pss_cons (no_implicit_lambda% (ps_set (i := 3) nd rfl (Or.inl rfl) (no_implicit_lambda% (pe_cal C__law_draws hr (no_implicit_lambda% (pa_cons (no_implicit_lambda% (pv 1)) (no_implicit_lambda% (pa_cons (no_implicit_lambda% (pe_lst (no_implicit_lambda% (pa_cons pe_int (no_implicit_lambda% (pa_cons pe_int pa_nil)))))) (no_implicit_lambda% (pa_cons (no_implicit_lambda% (pv 2)) pa_nil))))))))))
        (no_implicit_lambda% (pss_one (no_implicit_lambda% (ps_ret (no_implicit_lambda% (pe_tup (no_implicit_lambda% (pa_cons (no_implicit_lambda% (pe_op op_mod (no_implicit_lambda% (pe_ix (ix_listK K) (no_implicit_lambda% (pv 3)) pe_int (fun _ _ => rfl))) (no_implicit_lambda% (pe_ix (ix_tupK K) (no_implicit_lambda% (pv 0)) pe_int (fun _ _ => rfl))))) (no_implicit_lambda% (pa_cons (no_implicit_lambda% (pe_ix (ix_listK K) (no_implicit_lambda% (pv 3)) pe_int (fun _ _ => rfl))) pa_nil)))))))))))), ?_⟩
    walk_at "rd"
    refine ⟨small_line (by simp), rd_new fun w0 G1 f1 hw0 _ => ?_⟩
    walk_at "rd"
    refine mk_draws [12, 13] hw0 (by decide) (by decide) hp fun dq ds H1 e1 hd hdn hl hb => ?_
    have eH : Ext H H1 := f1.trans e1
    obtain ⟨d0, g0, _⟩ := draws_at hl hb 0 rfl
    obtain ⟨d1, g1, b10, b11⟩ := draws_at hl hb 1 rfl
    obtain ⟨hh, t, rfl, k1, k2⟩ := hv.ext eH
    walk_at "rd"
    refine rd_ixL (SqL.of hd) g0 ?_
    walk_at "rd"
    refine rd_ixT (SqT.of k1) (v := .int m) rfl ?_
    try refine rd_I (show (0 : Int) < m by omega) ?_
    walk_at "rd"
    refine rd_ixL (SqL.of hd) g1 ?_
    walk_at "rd"
    refine ⟨small_line (by simp), rd_new fun a H2 e2 ha _ => ?_⟩
    exact q a _ _ H2 (eH.trans e2) ha (Int.emod_nonneg _ (by omega)) (Int.emod_lt_of_pos _ (by omega)) (by omega) (by omega)
noncomputable def sp__law_whole (K : PySem.W.Frag) : Sp := fun vs H Q _ => ∃ v n, vs = [v] ∧ kindV H v n ∧ Q (.bl (isInt v)) H
noncomputable abbrev s__law_whole : Stmt := stq 52
theorem sc__law_whole : FnScope ["_law_found"] ["_law_found"] (defScope s__law_whole) := ⟨rfl, rfl, rfl, by decide +kernel, rfl, by decide +kernel, by decide +kernel⟩
theorem ok__law_whole {P : Program} {w : World} {K : PySem.W.Frag} {mg : Str → Option Value} {base : Heap} (D : Dfn K mg "_law_whole" s__law_whole ["_law_found"]) (T : Blt mg) : Cal P w K mg base "_law_whole" 1 ["_law_found"] (sp__law_whole K) := by
  have nd := (sc__law_whole).nd
  refine D.ok sc__law_whole (fun vs H Q E h => ?_) (fun X hX H vs Q E h => ?_)
  · obtain ⟨v, n, rfl, _⟩ := h; rfl
  · obtain ⟨f, cdv, A, outer, s, H0, E0, rfl, hr⟩ := hX
    obtain ⟨v, n, rfl, hk, q⟩ := h
    obtain ⟨b, c, hb, hc, e⟩ := kind_whole hk
    refine ⟨_, (no_implicit_lambda% (pss_one (no_implicit_lambda% (ps_ret (no_implicit_lambda% (pe_and (no_implicit_lambda% (pe_callB call_isi rfl T.isinstance_ PyProof.Rows.boot_isinstance (no_implicit_lambda% (pa_cons (no_implicit_lambda% (pv 0)) (no_implicit_lambda% (pa_cons (no_implicit_lambda% (pe_bltn (v := .ty "int") rfl T.int_ PyProof.Rows.boot_int rfl)) pa_nil)))))) (pe_one (no_implicit_lambda% (pe_not (no_implicit_lambda% (pe_callB call_isi rfl T.isinstance_ PyProof.Rows.boot_isinstance (no_implicit_lambda% (pa_cons (no_implicit_lambda% (pv 0)) (no_implicit_lambda% (pa_cons (no_implicit_lambda% (pe_bltn (v := .ty "bool") rfl T.bool_ PyProof.Rows.boot_bool rfl)) pa_nil))))))))))))))), ?_⟩
    walk_at "rd"
    refine rd_isi hk hb ?_
    walk_at "rd"
    cases b with
    | false => refine iteF ?_; rw [← e] at q; exact q
    | true =>
      refine iteT ?_
      walk_at "rd"
      refine rd_isi hk hc ?_
      walk_at "rd"
      rw [← e] at q; exact q
theorem kind_lst {H : Hp} {p : Addr} {xs : List V} (h : H p = some (.lst xs)) : kindV H (.ref p) "list" := .inl ⟨rfl, xs, h⟩
noncomputable def sp__law_is (K : PySem.W.Frag) : Sp := fun vs H Q _ => ∃ a b : Int, vs = [.int a, .int b] ∧ Q (.bl (decide (a = b))) H
noncomputable abbrev s__law_is : Stmt := stq 53
theorem sc__law_is : FnScope ["_law_found", "_law_due"] ["_law_found", "_law_due"] (defScope s__law_is) := ⟨rfl, rfl, rfl, by decide +kernel, rfl, by decide +kernel, by decide +kernel⟩
theorem ok__law_is {P : Program} {w : World} {K : PySem.W.Frag} {mg : Str → Option Value} {base : Heap} (D : Dfn K mg "_law_is" s__law_is ["_law_found", "_law_due"]) (T : Blt mg) (C__law_whole : Cal P w K mg base "_law_whole" 1 ["_law_found"] (sp__law_whole K)) : Cal P w K mg base "_law_is" 2 ["_law_found", "_law_due"] (sp__law_is K) := by
  have nd := (sc__law_is).nd
  refine D.ok sc__law_is (fun vs H Q E h => ?_) (fun X hX H vs Q E h => ?_)
  · obtain ⟨a, b, rfl, _⟩ := h; rfl
  · obtain ⟨f, cdv, A, outer, s, H0, E0, rfl, hr⟩ := hX
    obtain ⟨a, b, rfl, q⟩ := h
    refine ⟨_, (no_implicit_lambda% (pss_one (no_implicit_lambda% (ps_ret (no_implicit_lambda% (pe_and (no_implicit_lambda% (pe_cal C__law_whole hr (no_implicit_lambda% (pa_cons (no_implicit_lambda% (pv 0)) pa_nil)))) (pe_one (no_implicit_lambda% (pe_cmpR op_eq (no_implicit_lambda% (pv 0)) (no_implicit_lambda% (pv 1)) (nomark _)))))))))), ?_⟩
    walk_at "rd"
    refine ⟨_, "int", rfl, rfl, ?_⟩
    refine rd_exb (iteT ?_)
    walk_at "rd"
    exact q
noncomputable def sp__law_row (K : PySem.W.Frag) : Sp := fun vs H Q _ => ∃ p x, vs = [.ref p, .int 2] ∧ PlAt H p x ∧ ∀ H', Ext H H' → Q (.bl true) H'
noncomputable abbrev s__law_row : Stmt := stq 55
theorem sc__law_row : FnScope ["_law_found", "_law_many"] ["_law_found", "_law_many"] (defScope s__law_row) := ⟨rfl, rfl, rfl, by decide +kernel, rfl, by decide +kernel, by decide +kernel⟩
theorem ok__law_row {P : Program} {w : World} {K : PySem.W.Frag} {mg : Str → Option Value} {base : Heap} (D : Dfn K mg "_law_row" s__law_row ["_law_found", "_law_many"]) (T : Blt mg) (C__law_whole : Cal P w K mg base "_law_whole" 1 ["_law_found"] (sp__law_whole K)) : Cal P w K mg base "_law_row" 2 ["_law_found", "_law_many"] (sp__law_row K) := by
  have nd := (sc__law_row).nd
  refine D.ok sc__law_row (fun vs H Q E h => ?_) (fun X hX H vs Q E h => ?_)
  · obtain ⟨p, x, rfl, _⟩ := h; rfl
  · obtain ⟨f, cdv, A, outer, s, H0, E0, rfl, hr⟩ := hX
    obtain ⟨p, x, rfl, hp, q⟩ := h
    refine ⟨_, (no_implicit_lambda% (pss_cons (no_implicit_lambda% (ps_if (no_implicit_lambda% (PW.pt (pw_or (no_implicit_lambda% (pt_not (no_implicit_lambda% (pt_val (no_implicit_lambda% (pe_callB call_isi rfl T.isinstance_ PyProof.Rows.boot_isinstance (no_implicit_lambda% (pa_cons (no_implicit_lambda% (pv 0)) (no_implicit_lambda% (pa_cons (no_implicit_lambda% (pe_bltn (v := .ty "tuple") rfl T.tuple_ PyProof.Rows.boot_tuple rfl)) pa_nil)))))))))) (pw_or1 (no_implicit_lambda% (pt_cmpR op_ne (no_implicit_lambda% (pe_callB (call_lenK K) rfl T.len_ PySem.boot_len (no_implicit_lambda% (pa_cons (no_implicit_lambda% (pv 0)) pa_nil)))) (no_implicit_lambda% (pv 1)) (nomark _))))))) (no_implicit_lambda% (pss_one (no_implicit_lambda% (ps_ret pe_bl)))) pss_nil))
        (no_implicit_lambda% (pss_one (no_implicit_lambda% (ps_ret (no_implicit_lambda% (pe_callB (call_allL K rfl) rfl T.all_ PyProof.Rows.boot_all (no_implicit_lambda% (pa_cons (no_implicit_lambda% (pe_comp ["_law_part"] [] (no_implicit_lambda% (pi_tupK K (no_implicit_lambda% (pv 0)))) (fun _ => (no_implicit_lambda% (pg_name (i := 0) (show (["_law_part"] : List Str).Nodup from by decide +kernel) rfl (Or.inl rfl) (Or.inr rfl)))) (fun _ => pcs_nil) (fun _ => (no_implicit_lambda% (pe_cal C__law_whole hr (no_implicit_lambda% (pa_cons (no_implicit_lambda% (pv 0)) pa_nil))))))) pa_nil)))))))))), ?_⟩
    walk_at "rd"
    refine rd_isi (kind_tup hp) (b := true) rfl ?_
    walk_at "rd"
    refine iteF ?_
    walk_at "rd"
    refine rd_lenT (SqT.of hp) ?_
    walk_at "rd"
    refine iteF ?_
    walk_at "rd"
    refine rd_iTx (SqT.of hp) ?_
    refine comp_tup (xs := [.int x.1, .int x.2]) (fun i ys H' => Ext H H' ∧ ys = (List.replicate i true).map V.bl) (small_line (by simp)) ⟨Ext.rfl' _, rfl⟩ (fun i ys H' hi h => ⟨SqT.of (h.1 _ _ hp), by rw [h.2]; simp⟩) ?_ ?_
    · rintro i y ys H' hy ⟨e, rfl⟩
      have : ∃ k, y = .int k := by
        have hm := List.mem_of_getElem? hy
        simp only [List.mem_cons, List.not_mem_nil, or_false] at hm
        rcases hm with rfl | rfl <;> exact ⟨_, rfl⟩
      obtain ⟨k, rfl⟩ := this
      walk_at "rd"
      refine iteT ?_
      walk_at "rd"
      refine ⟨_, "int", rfl, rfl, e, ?_⟩
      rw [List.replicate_succ', List.map_append]
      rfl
    · rintro ys H' l ⟨e, rfl⟩ hl
      walk_at "rd"
      refine ⟨l, List.replicate 2 true, rfl, SqL.of upd_same, ?_⟩
      exact q _ (e.trans (ext_upd hl))
theorem rz_up : rz (Str.ofString "up") = 1 := by decide +kernel
theorem rz_down : rz (Str.ofString "down") = -1 := by decide +kernel
theorem rz_stay : rz (Str.ofString "stay") = 0 := by decide +kernel
theorem rz_zero : rz (Str.ofString "zero") = 0 := by decide +kernel
theorem bstep_pl {w : Way} {r n : Int} {j : Nat} (h : okDeed w.deed) : (bstep w r n j).map (·.2) = (if opn w r n = true then some (w.other, n + rz w.deed) else none).toList := by
  obtain ⟨room, deed, other, sign⟩ := w
  unfold opn
  by_cases er : room = r
  rotate_left
  · rw [bstep_no er, decide_eq_false (show ¬ (⟨room, deed, other, sign⟩ : Way).room = r from er)]
    rfl
  rw [decide_eq_true (show (⟨room, deed, other, sign⟩ : Way).room = r from er)]
  simp only at h ⊢
  rcases h with rfl | rfl | rfl | rfl
  · rw [bstep_yes er (stp_up n), sUD, sUZ, rz_up]
    rfl
  · rw [bstep_yes er (stp_down n), sEE, rz_down]
    by_cases hn : 0 < n
    · rw [decide_eq_true hn]; rfl
    · rw [decide_eq_false hn]; rfl
  · rw [bstep_yes er (stp_stay n), sSD, show decide ((Str.ofString "stay") = Str.ofString "zero") = false by decide +kernel, rz_stay, Int.add_zero]
    rfl
  · rw [bstep_yes er (stp_zero n), sZD, sEE, rz_zero, Int.add_zero]
    by_cases hn : n = 0
    · rw [decide_eq_true hn]; rfl
    · rw [decide_eq_false hn]; rfl
theorem bstep_ix {w : Way} {r n : Int} {j : Nat} {t : Int × Int × Int} (h : t ∈ bstep w r n j) : t.1 = (j : Int) := by
  unfold bstep at h
  split at h
  · cases hs : stp w.deed n with
    | none => rw [hs] at h; cases h
    | some n' =>
      rw [hs] at h
      rw [List.mem_singleton.mp (show t ∈ [((j : Int), w.other, n')] from h)]
  · cases h
noncomputable def thereL (ws : List Way) (y : Bfs.Pl) (k : Int) (j : Nat) : List Bfs.Pl := ((behL ws y.1 y.2 j).filter fun t => decide (t.1 = k)).map (·.2)
theorem there_some {ws : List Way} {y : Bfs.Pl} {k : Int} {m : Int} (ok : HOuse m ws) : ∀ j, j ≤ ws.length → thereL ws y k j = if 0 ≤ k ∧ k < (j : Int) then (stepI ws y k).toList else []
  | 0, _ => by rw [if_neg (by omega)]; rfl
  | j + 1, hj => by
    have hw : ws[j]? = some ws[j] := List.getElem?_eq_getElem (by omega)
    have ih := there_some (y := y) (k := k) ok j (by omega)
    unfold thereL at ih ⊢
    rw [behL_succ hw, List.filter_append, List.map_append, ih]
    by_cases hk : k = (j : Int)
    · subst hk
      rw [if_neg (by omega), if_pos (by omega), List.nil_append, stepI_yes hw, ← bstep_pl (j := j) (ok.ok _ (List.getElem_mem _)).dd]
      congr 1
      rw [List.filter_eq_self]
      exact fun t ht => decide_eq_true (bstep_ix ht)
    · have : (bstep ws[j] y.1 y.2 j).filter (fun t => decide (t.1 = k)) = [] := by
        rw [List.filter_eq_nil_iff]
        intro t ht h
        exact hk ((of_decide_eq_true h).symm.trans (bstep_ix ht))
      rw [this, List.map_nil, List.append_nil]
      by_cases h2 : 0 ≤ k ∧ k < (j : Int)
      · rw [if_pos h2, if_pos (by omega)]
      · rw [if_neg h2, if_neg (by omega)]
theorem there_is {ws : List Way} {y : Bfs.Pl} {k : Int} {m : Int} (ok : HOuse m ws) : thereL ws y k ws.length = (stepI ws y k).toList := by
  rw [there_some ok ws.length (Nat.le_refl _)]
  by_cases h : 0 ≤ k ∧ k < (ws.length : Int)
  · rw [if_pos h]
  · rw [if_neg h, stepI_no h]; rfl
noncomputable def ThAt (H : Hp) (ws : List Way) (y : Bfs.Pl) (k : Int) (j : Nat) (vs : List V) : Prop := ∃ ds : List Addr, vs = ds.map V.ref ∧ Paired (PlAt H) ds ((((behL ws y.1 y.2 ws.length).take j).filter fun t => decide (t.1 = k)).map (·.2))
theorem th_step {H : Hp} {ws : List Way} {y : Bfs.Pl} {k : Int} {j : Nat} {vs : List V} {t : Int × Int × Int} {d : Addr} (h : ThAt H ws y k j vs) (ht : (behL ws y.1 y.2 ws.length)[j]? = some t) (hd : PlAt H d t.2) : ThAt H ws y k (j + 1) (if decide (t.1 = k) = true then vs ++ [.ref d] else vs) := by
  obtain ⟨ds, rfl, hp⟩ := h
  unfold ThAt
  rw [List.take_succ, ht]
  simp only [Option.toList_some, List.filter_append, List.map_append]
  cases hk : decide (t.1 = k) with
  | true =>
    refine ⟨ds ++ [d], by simp, ?_⟩
    rw [show ([t].filter fun t => decide (t.1 = k)) = [t] by simp [hk]]
    exact snocP hp hd
  | false =>
    refine ⟨ds, by simp, ?_⟩
    rw [show ([t].filter fun t => decide (t.1 = k)) = [] by simp [hk], List.map_nil, List.append_nil]
    exact hp
theorem one_of {H : Hp} {as : List Addr} {x : Bfs.Pl} (h : Paired (PlAt H) as [x]) : ∃ a, as = [a] ∧ PlAt H a x := by
  cases h with
  | cons h t => cases t; exact ⟨_, rfl, h⟩
theorem th_end {H : Hp} {ws : List Way} {y : Bfs.Pl} {k : Int} {m : Int} {vs : List V} {j : Nat} (ok : HOuse m ws) (hj : (behL ws y.1 y.2 ws.length).length = j) (h : ThAt H ws y k j vs) : (stepI ws y k = none ∧ vs = []) ∨ ∃ z d, stepI ws y k = some z ∧ vs = [.ref d] ∧ PlAt H d z := by
  obtain ⟨ds, rfl, hp⟩ := h
  rw [← hj, List.take_length] at hp
  have he := there_is (y := y) (k := k) ok
  unfold thereL at he
  rw [he] at hp
  cases hs : stepI ws y k with
  | none =>
    rw [hs] at hp
    cases hp
    exact .inl ⟨rfl, rfl⟩
  | some z =>
    rw [hs] at hp
    obtain ⟨d, rfl, hd⟩ := one_of (show Paired (PlAt H) ds [z] from hp)
    exact .inr ⟨z, d, rfl, rfl, hd⟩
noncomputable def sp__law_gone (K : PySem.W.Frag) : Sp := fun vs H Q _ => ∃ v m ws pa l x ks, vs = [v, .ref pa, .ref l] ∧ HouseAt H v m ws ∧ HOuse m ws ∧ PlAt H pa x ∧ H l = some (.lst (List.map V.int ks)) ∧ ks.length ≤ 63 ∧ ks.length < (goI ws x ks).length ∧
  ∀ r H' as, Ext H H' → H r = none → H' r = some (.lst (List.map V.ref as)) → Paired (PlAt H') as (goI ws x ks) → Q (.ref r) H'
noncomputable abbrev s__law_gone : Stmt := stq 54
theorem sc__law_gone : FnScope ["_law_house_here", "_law_place_here", "_law_walk", "_law_found", "_law_k", "_law_there"] ["_law_house_here", "_law_place_here", "_law_walk"] (defScope s__law_gone) := ⟨rfl, rfl, rfl, by decide +kernel, rfl, by decide +kernel, by decide +kernel⟩
theorem ok__law_gone {P : Program} {w : World} {K : PySem.W.Frag} {mg : Str → Option Value} {base : Heap} (D : Dfn K mg "_law_gone" s__law_gone ["_law_house_here", "_law_place_here", "_law_walk"]) (T : Blt mg) (C__law_behind : Cal P w K mg base "_law_behind" 1 ["_law_house_here", "_law_place_here"] (sp__law_behind K)) : Cal P w K mg base "_law_gone" 2 ["_law_house_here", "_law_place_here", "_law_walk"] (sp__law_gone K) := by
  have nd := (sc__law_gone).nd
  refine D.ok sc__law_gone (fun vs H Q E h => ?_) (fun X hX H vs Q E h => ?_)
  · obtain ⟨v, m, ws, pa, l, x, ks, rfl, _⟩ := h; rfl
  · obtain ⟨f, cdv, A, outer, s, H0, E0, rfl, hr⟩ := hX
    obtain ⟨v, m, ws, pa, l, x, ks, rfl, hv, ok, hx, hl, hks, hlt, q⟩ := h
    have hfew := ok.few
    refine ⟨_, (no_implicit_lambda% (pss_cons (no_implicit_lambda% (ps_set (i := 3) nd rfl (Or.inl rfl) (no_implicit_lambda% (pe_lst (no_implicit_lambda% (pa_cons (no_implicit_lambda% (pv 1)) pa_nil))))))
        (no_implicit_lambda% (pss_cons (no_implicit_lambda% (ps_for PassesOwn.never rfl (no_implicit_lambda% (pi_listK K (no_implicit_lambda% (pv 2)))) (no_implicit_lambda% (pg_name (i := 4) nd rfl (Or.inr rfl))) (no_implicit_lambda% (pss_cons (no_implicit_lambda% (ps_setComp (i := 5) ["_law_way", "_law_far"] [4] nd rfl (Or.inl rfl) (no_implicit_lambda% (pi_listK K (no_implicit_lambda% (pe_cal C__law_behind hr (no_implicit_lambda% (pa_cons (no_implicit_lambda% (pv 0)) (no_implicit_lambda% (pa_cons (no_implicit_lambda% (pe_ix (ix_listK K) (no_implicit_lambda% (pv 3)) (no_implicit_lambda% (pe_un un_neg pe_int)) (fun _ _ => rfl))) pa_nil)))))))) (fun _ => (no_implicit_lambda% (pg_tupK (n := 2) K rfl (pgs_cons (no_implicit_lambda% (pg_name (i := 0) (show (["_law_way", "_law_far", "_law_k"] : List Str).Nodup from by decide +kernel) rfl (Or.inl rfl) (Or.inr rfl))) (pgs_cons (no_implicit_lambda% (pg_name (i := 1) (show (["_law_way", "_law_far", "_law_k"] : List Str).Nodup from by decide +kernel) rfl (Or.inl rfl) (Or.inr rfl))) pgs_nil))))) (fun _ => (pcs_one (no_implicit_lambda% (pt_cmpR op_eq (no_implicit_lambda% (pv 0)) (no_implicit_lambda% (pv 2)) (nomark _))))) (fun _ => (no_implicit_lambda% (pv 1)))))
        (no_implicit_lambda% (pss_cons (no_implicit_lambda% (ps_if (no_implicit_lambda% (pt_cmpR op_eq (no_implicit_lambda% (pe_callB (call_lenK K) rfl T.len_ PySem.boot_len (no_implicit_lambda% (pa_cons (no_implicit_lambda% (pv 5)) pa_nil)))) pe_int (nomark _))) (no_implicit_lambda% (pss_one (no_implicit_lambda% (ps_ret pe_non)))) pss_nil))
        (no_implicit_lambda% (pss_one (no_implicit_lambda% (ps_expr (no_implicit_lambda% (pe_bmK K PySem.F.plainAttrs_list PySem.F.slot_list_append PySem.F.type_list_append mt_append (no_implicit_lambda% (pv 3)) (no_implicit_lambda% (pa_cons (no_implicit_lambda% (pe_ix (ix_listK K) (no_implicit_lambda% (pv 5)) pe_int (fun _ _ => rfl))) pa_nil))))))))))))))
        (no_implicit_lambda% (pss_one (no_implicit_lambda% (ps_ret (no_implicit_lambda% (pv 3)))))))))), ?_⟩
    walk_at "rd"
    refine ⟨small_line (by simp), rd_new fun f H1 e1 hf hfn => ?_⟩
    walk_at "rd"
    refine rd_iLx (SqL.of (e1 _ _ hl)) ?_
    refine forL (xs := List.map V.int ks) (fun j σ H' => ∃ k1 k2 y as a pre, σ = [some v, some (.ref pa), some (.ref l), some (.ref f), k1, k2] ∧ Ext H H' ∧ H' f = some (.lst (List.map V.ref (as ++ [a]))) ∧ Paired (PlAt H') (as ++ [a]) (pre ++ [y]) ∧ PlAt H' a y ∧ pre.length = j ∧ goI ws x ks = pre ++ goI ws y (ks.drop j))
      ⟨none, none, x, [], pa, [], rfl, e1, (show H1 f = some (.lst (List.map V.ref ([] ++ [pa]))) from hf), (show Paired (PlAt H1) [pa] [x] from .cons (show PlAt H1 pa x from e1 _ _ hx) .nil), e1 _ _ hx, rfl, rfl⟩ (fun j σ H' _ h => by obtain ⟨_, _, _, _, _, _, _, e, _⟩ := h; exact SqL.of (e _ _ hl)) ?_ ?_
    · rintro j u σ H2 hu ⟨k1, k2, y, as, a, pre, rfl, e2, hf2, hpa, ha, hpl, hgo⟩
      rw [List.getElem?_map] at hu
      obtain ⟨k, hk, rfl⟩ := Option.map_eq_some_iff.mp hu
      have hjl := (List.getElem?_eq_some_iff.mp hk).1
      have hdr : ks.drop j = k :: ks.drop (j + 1) := by
        rw [List.drop_eq_getElem_cons hjl]
        rw [List.getElem?_eq_getElem hjl] at hk
        cases hk
        rfl
      rw [hdr] at hgo
      have hal := Paired.length hpa
      rw [List.length_append, List.length_append, hpl] at hal
      simp only [List.length_singleton] at hal
      walk_at "rd"
      refine rd_ixL (SqL.of hf2) (v := .ref a) (by rw [List.map_append]; exact atI_last _ _) ?_
      walk_at "rd"
      refine ⟨_, m, ws, a, y.1, y.2, rfl, hv.ext e2, ok, ha, fun lb H3 cs e3 _ hlb hcs => ?_⟩
      refine rd_iLx (SqL.of hlb) ?_
      have hbl : (behL ws y.1 y.2 ws.length).length = cs.length := (Paired.length hcs).symm
      have hbn := behL_len ws y.1 y.2 ws.length
      refine comp_list (xs := List.map V.ref cs) (fun i ys H' => H' = H3 ∧ ThAt H3 ws y k i ys ∧ ys.length ≤ i) (small9 (by rw [List.length_map]; omega)) ⟨rfl, ⟨[], rfl, .nil⟩, Nat.le_refl _⟩ (fun i ys H' hi h => ⟨by rw [h.1]; exact SqL.of hlb, h.2.2⟩) ?_ ?_
      · rintro i u ys H' hu ⟨rfl, hth, hyl⟩
        rw [List.getElem?_map] at hu
        obtain ⟨c, hc, rfl⟩ := Option.map_eq_some_iff.mp hu
        obtain ⟨t, ht, d, hkk, hd⟩ := paired_at hcs hc
        have st := th_step hth ht hd
        refine rd_gtup (SqT.of hkk) rfl ?_
        walk_at "rd"
        cases hq : decide (t.1 = k) with
        | true =>
          rw [hq] at st
          refine iteT ?_
          walk_at "rd"
          exact ⟨rfl, by simpa using st, by simp; omega⟩
        | false =>
          rw [hq] at st
          refine iteF ?_
          exact ⟨rfl, by simpa using st, by omega⟩
      rintro ys H' lt ⟨rfl, hth, _⟩ hlt4
      rw [List.length_map] at hth
      have e4 : Ext H' (upd H' lt (.lst ys)) := ext_upd hlt4
      have hlt5 : upd H' lt (.lst ys) lt = some (.lst ys) := upd_same
      have hth2 := th_end ok hbl hth
      generalize upd H' lt (.lst ys) = H4 at e4 hlt5 ⊢
      have hlt1 := goI_len ws (ks.drop (j + 1))
      rcases hth2 with ⟨hs, rfl⟩ | ⟨z, d, hs, rfl, hdz⟩
      · exfalso
        rw [goI_stop hs] at hgo
        rw [hgo, List.length_append, hpl] at hlt
        simp only [List.length_singleton] at hlt
        omega
      walk_at "rd"
      refine rd_lenL (SqL.of hlt5) ?_
      walk_at "rd"
      refine iteF ?_
      rw [goI_go hs] at hgo
      have e34 := e3.trans e4
      have hf4 := e34 _ _ hf2
      walk_at "rd"
      refine ⟨rd_tyL (SqL.of hf4), ?_⟩
      walk_at "rd"
      refine rd_ixL (SqL.of hlt5) (v := .ref d) rfl ?_
      walk_at "rd"
      refine rd_append hf4 (line17 (by rw [List.length_map, List.length_append]; simp only [List.length_singleton]; omega)) ?_
      walk_at "rd"
      have nl : ∀ xs, (HO.lst (List.map V.ref (as ++ [a]))) ≠ .tup xs := fun xs z => by cases z
      refine ⟨_, _, z, as ++ [a], d, pre ++ [y], rfl, ext_write (e2.trans e34) hfn, by rw [upd_same, List.map_append (l₁ := as ++ [a])]; rfl, ?_, PlAt.put hf4 nl (e4 _ _ hdz), by simp [hpl], ?_⟩
      · exact snocP (mapP (fun _ _ w => PlAt.put hf4 nl (e34 _ _ w)) hpa) (PlAt.put hf4 nl (e4 _ _ hdz))
      · rw [hgo, List.append_assoc]
        rfl
    · rintro σ H2 ⟨k1, k2, y, as, a, pre, rfl, e2, hf2, hpa, ha, hpl, hgo⟩
      rw [List.length_map, List.drop_length] at hgo
      walk_at "rd"
      refine q f H2 (as ++ [a]) e2 hfn hf2 ?_
      rw [hgo]
      exact hpa
noncomputable def fbad (ws : List Way) (x : Bfs.Pl) (ks : List Int) : Int := if (goI ws x ks).length ≤ ks.length then ((goI ws x ks).length : Int) - 1 else -1
noncomputable def sp__law_first_bad (K : PySem.W.Frag) : Sp := fun vs H Q _ => ∃ v m ws pa l x ks, vs = [v, .ref pa, .ref l] ∧ HouseAt H v m ws ∧ HOuse m ws ∧ PlAt H pa x ∧ H l = some (.lst (List.map V.int ks)) ∧ ks.length ≤ 63 ∧ ∀ H', Ext H H' → Q (.int (fbad ws x ks)) H'
noncomputable abbrev s__law_first_bad : Stmt := stq 57
theorem sc__law_first_bad : FnScope ["_law_house_here", "_law_place_here", "_law_walk", "_law_here", "_law_at", "_law_there"] ["_law_house_here", "_law_place_here", "_law_walk"] (defScope s__law_first_bad) := ⟨rfl, rfl, rfl, by decide +kernel, rfl, by decide +kernel, by decide +kernel⟩
theorem ok__law_first_bad {P : Program} {w : World} {K : PySem.W.Frag} {mg : Str → Option Value} {base : Heap} (D : Dfn K mg "_law_first_bad" s__law_first_bad ["_law_house_here", "_law_place_here", "_law_walk"]) (T : Blt mg) (C__law_behind : Cal P w K mg base "_law_behind" 1 ["_law_house_here", "_law_place_here"] (sp__law_behind K)) : Cal P w K mg base "_law_first_bad" 2 ["_law_house_here", "_law_place_here", "_law_walk"] (sp__law_first_bad K) := by
  have nd := (sc__law_first_bad).nd
  refine D.ok sc__law_first_bad (fun vs H Q E h => ?_) (fun X hX H vs Q E h => ?_)
  · obtain ⟨v, m, ws, pa, l, x, ks, rfl, _⟩ := h; rfl
  · obtain ⟨f, cdv, A, outer, s, H0, E0, rfl, hr⟩ := hX
    obtain ⟨v, m, ws, pa, l, x, ks, rfl, hv, ok, hx, hl, hks, q⟩ := h
    have hfew := ok.few
    refine ⟨_, (no_implicit_lambda% (pss_cons (no_implicit_lambda% (ps_set (i := 3) nd rfl (Or.inl rfl) (no_implicit_lambda% (pv 1))))
        (no_implicit_lambda% (pss_cons (no_implicit_lambda% (ps_for PassesOwn.never rfl (no_implicit_lambda% (pi_range1 rfl T.range_ (no_implicit_lambda% (pa_cons (no_implicit_lambda% (pe_callB (call_lenK K) rfl T.len_ PySem.boot_len (no_implicit_lambda% (pa_cons (no_implicit_lambda% (pv 2)) pa_nil)))) pa_nil)))) (no_implicit_lambda% (pg_name (i := 4) nd rfl (Or.inr rfl))) (no_implicit_lambda% (pss_cons (no_implicit_lambda% (ps_setComp (i := 5) ["_law_way", "_law_far"] [2, 4] nd rfl (Or.inl rfl) (no_implicit_lambda% (pi_listK K (no_implicit_lambda% (pe_cal C__law_behind hr (no_implicit_lambda% (pa_cons (no_implicit_lambda% (pv 0)) (no_implicit_lambda% (pa_cons (no_implicit_lambda% (pv 3)) pa_nil)))))))) (fun _ => (no_implicit_lambda% (pg_tupK (n := 2) K rfl (pgs_cons (no_implicit_lambda% (pg_name (i := 0) (show (["_law_way", "_law_far", "_law_walk", "_law_at"] : List Str).Nodup from by decide +kernel) rfl (Or.inl rfl) (Or.inr rfl))) (pgs_cons (no_implicit_lambda% (pg_name (i := 1) (show (["_law_way", "_law_far", "_law_walk", "_law_at"] : List Str).Nodup from by decide +kernel) rfl (Or.inl rfl) (Or.inr rfl))) pgs_nil))))) (fun _ => (pcs_one (no_implicit_lambda% (pt_cmpR op_eq (no_implicit_lambda% (pv 0)) (no_implicit_lambda% (pe_ix (ix_listK K) (no_implicit_lambda% (pv 2)) (no_implicit_lambda% (pv 3)) (fun _ _ => rfl))) (nomark _))))) (fun _ => (no_implicit_lambda% (pv 1)))))
        (no_implicit_lambda% (pss_cons (no_implicit_lambda% (ps_if (no_implicit_lambda% (pt_cmpR op_eq (no_implicit_lambda% (pe_callB (call_lenK K) rfl T.len_ PySem.boot_len (no_implicit_lambda% (pa_cons (no_implicit_lambda% (pv 5)) pa_nil)))) pe_int (nomark _))) (no_implicit_lambda% (pss_one (no_implicit_lambda% (ps_ret (no_implicit_lambda% (pv 4)))))) pss_nil))
        (no_implicit_lambda% (pss_one (no_implicit_lambda% (ps_set (i := 3) nd rfl (Or.inl rfl) (no_implicit_lambda% (pe_ix (ix_listK K) (no_implicit_lambda% (pv 5)) pe_int (fun _ _ => rfl)))))))))))))
        (no_implicit_lambda% (pss_one (no_implicit_lambda% (ps_ret (no_implicit_lambda% (pe_un un_neg pe_int)))))))))), ?_⟩
    walk_at "rd"
    refine rd_lenL (SqL.of hl) ?_
    walk_at "rd"
    refine rd_i1x (by rw [List.length_map]; omega) ?_
    rw [Int.toNat_natCast, List.length_map]
    refine forR (fun j σ H' => ∃ k1 k2 y a pre, σ = [some v, some (.ref pa), some (.ref l), some (.ref a), k1, k2] ∧ Ext H H' ∧ PlAt H' a y ∧ pre = j ∧ (goI ws x ks).length = pre + (goI ws y (ks.drop j)).length) ⟨none, none, x, pa, 0, rfl, Ext.rfl' _, hx, rfl, by simp⟩ ?_ ?_
    · rintro j σ H2 hj ⟨k1, k2, y, a, pre, rfl, e2, ha, rfl, hgo⟩
      have hk : ks[pre]? = some ks[pre] := List.getElem?_eq_getElem hj
      have hdr : ks.drop pre = ks[pre] :: ks.drop (pre + 1) := List.drop_eq_getElem_cons hj
      rw [hdr] at hgo
      generalize ks[pre] = k at hk hgo hdr
      walk_at "rd"
      refine ⟨_, m, ws, a, y.1, y.2, rfl, hv.ext e2, ok, ha, fun lb H3 cs e3 _ hlb hcs => ?_⟩
      refine rd_iLx (SqL.of hlb) ?_
      have hbl : (behL ws y.1 y.2 ws.length).length = cs.length := (Paired.length hcs).symm
      have hbn := behL_len ws y.1 y.2 ws.length
      refine comp_list (xs := List.map V.ref cs) (fun i ys H' => H' = H3 ∧ ThAt H3 ws y k i ys ∧ ys.length ≤ i) (small9 (by rw [List.length_map]; omega)) ⟨rfl, ⟨[], rfl, .nil⟩, Nat.le_refl _⟩ (fun i ys H' hi h => ⟨by rw [h.1]; exact SqL.of hlb, h.2.2⟩) ?_ ?_
      · rintro i u ys H' hu ⟨rfl, hth, hyl⟩
        rw [List.getElem?_map] at hu
        obtain ⟨c, hc, rfl⟩ := Option.map_eq_some_iff.mp hu
        obtain ⟨t, ht, d, hkk, hd⟩ := paired_at hcs hc
        have st := th_step hth ht hd
        refine rd_gtup (SqT.of hkk) rfl ?_
        walk_at "rd"
        refine rd_ixL (SqL.of ((e2.trans e3) _ _ hl)) (v := .int k) (by rw [Int.zero_add]; exact atI_nat (by rw [List.getElem?_map, hk]; rfl)) ?_
        walk_at "rd"
        cases hq : decide (t.1 = k) with
        | true =>
          rw [hq] at st
          refine iteT ?_
          walk_at "rd"
          exact ⟨rfl, by simpa using st, by simp; omega⟩
        | false =>
          rw [hq] at st
          refine iteF ?_
          exact ⟨rfl, by simpa using st, by omega⟩
      rintro ys H' lt ⟨rfl, hth, _⟩ hlt4
      rw [List.length_map] at hth
      have e4 : Ext H' (upd H' lt (.lst ys)) := ext_upd hlt4
      have hlt5 : upd H' lt (.lst ys) lt = some (.lst ys) := upd_same
      have hth2 := th_end ok hbl hth
      generalize upd H' lt (.lst ys) = H4 at e4 hlt5 ⊢
      rcases hth2 with ⟨hs, rfl⟩ | ⟨z, d, hs, rfl, hdz⟩
      · walk_at "rd"
        refine rd_lenL (SqL.of hlt5) ?_
        walk_at "rd"
        refine iteT ?_
        walk_at "rd"
        rw [goI_stop hs, List.length_singleton] at hgo
        have := q H4 (e2.trans (e3.trans e4))
        unfold fbad at this
        rw [hgo, if_pos (by omega)] at this
        rw [show (0 : Int) + (pre : Int) = ((pre + 1 : Nat) : Int) - 1 by omega]
        exact this
      · walk_at "rd"
        refine rd_lenL (SqL.of hlt5) ?_
        walk_at "rd"
        refine iteF ?_
        walk_at "rd"
        refine rd_ixL (SqL.of hlt5) (v := .ref d) rfl ?_
        walk_at "rd"
        rw [goI_go hs, List.length_cons] at hgo
        exact ⟨_, _, z, d, pre + 1, rfl, e2.trans (e3.trans e4), e4 _ _ hdz, rfl, by omega⟩
    · rintro σ H2 ⟨k1, k2, y, a, pre, rfl, e2, ha, rfl, hgo⟩
      rw [List.drop_length] at hgo
      have hgo : (goI ws x ks).length = ks.length + 1 := hgo
      walk_at "rd"
      have := q H2 e2
      unfold fbad at this
      rw [if_neg (by omega)] at this
      exact this
noncomputable def sp__law_drawn_walk (K : PySem.W.Frag) : Sp := fun vs H Q _ => ∃ v m ws pa x a ns, vs = [v, .ref pa, .ref a] ∧ HouseAt H v m ws ∧ HOuse m ws ∧ PlAt H pa x ∧ SqL K H a (List.map V.int ns) ∧ ns.length ≤ 63 ∧ ∀ l ks H', Ext H H' → H l = none → H' l = some (.lst (List.map V.int ks)) → ks.length ≤ 62 → Q (.ref l) H'
theorem mk_cell {K : PySem.W.Frag} {H : Hp} {a : Addr} {ns : List Int} {k : Int} {Q : VK} {xe : XK} (h1 : SqL K H a (ns.map V.int)) (h2 : ns.length ≤ 63) (h3 : 0 ≤ k) (q : ∀ z, Q (.int z) H) : sp__law_cell K [.ref a, .int k] H Q xe := ⟨a, ns, k, rfl, h1, h2, h3, q⟩
noncomputable abbrev s__law_drawn_walk : Stmt := stq 56
theorem sc__law_drawn_walk : FnScope ["_law_house_here", "_law_place_here", "_law_script", "_law_walk", "_law_here", "_law_k", "_law_draws_here", "_law_ways", "_law_count"] ["_law_house_here", "_law_place_here", "_law_script"] (defScope s__law_drawn_walk) := ⟨rfl, rfl, rfl, by decide +kernel, rfl, by decide +kernel, by decide +kernel⟩
theorem ok__law_drawn_walk {P : Program} {w : World} {K : PySem.W.Frag} {mg : Str → Option Value} {base : Heap} (D : Dfn K mg "_law_drawn_walk" s__law_drawn_walk ["_law_house_here", "_law_place_here", "_law_script"]) (T : Blt mg) (C__law_behind : Cal P w K mg base "_law_behind" 1 ["_law_house_here", "_law_place_here"] (sp__law_behind K)) (C__law_draws : Cal P w K mg base "_law_draws" 2 ["_law_cell_here", "_law_widths", "_law_prime"] (sp__law_draws K)) (C__law_cell : Cal P w K mg base "_law_cell" 1 ["_law_script", "_law_k"] (sp__law_cell K)) : Cal P w K mg base "_law_drawn_walk" 3 ["_law_house_here", "_law_place_here", "_law_script"] (sp__law_drawn_walk K) := by
  have nd := (sc__law_drawn_walk).nd
  refine D.ok sc__law_drawn_walk (fun vs H Q E h => ?_) (fun X hX H vs Q E h => ?_)
  · obtain ⟨v, m, ws, pa, x, a, ns, rfl, _⟩ := h; rfl
  · obtain ⟨f, cdv, A, outer, s, H0, E0, rfl, hr⟩ := hX
    obtain ⟨v, m, ws, pa, x, a, ns, rfl, hv, ok, hx, ha, hl, q⟩ := h
    have hfew := ok.few
    refine ⟨_, (no_implicit_lambda% (@pss_cons _ _ _ _ _ (no_implicit_lambda% (@ps_set _ _ 3 _ _ _ _ nd rfl (Or.inl rfl) (no_implicit_lambda% (@pe_lst _ _ _ _ pa_nil)) rfl (Or.inl rfl)))
        (no_implicit_lambda% (@pss_cons _ _ _ _ _ (no_implicit_lambda% (@ps_set _ _ 4 _ _ _ _ nd rfl (Or.inl rfl) (no_implicit_lambda% (pv 1)) rfl (Or.inl rfl)))
        (no_implicit_lambda% (@pss_cons _ _ _ _ _ (no_implicit_lambda% (ps_for PassesOwn.never rfl (no_implicit_lambda% (pi_range2 rfl T.range_ (no_implicit_lambda% (@pa_cons _ _ _ _ _ pe_int (no_implicit_lambda% (@pa_cons _ _ _ _ _ (no_implicit_lambda% (pe_callB (call_max2N rfl) rfl T.max_ PyProof.Rows.boot_max (no_implicit_lambda% (@pa_cons _ _ _ _ _ pe_int (no_implicit_lambda% (@pa_cons _ _ _ _ _ (no_implicit_lambda% (pe_callB (call_min2N rfl) rfl T.min_ PyProof.Rows.boot_min (no_implicit_lambda% (@pa_cons _ _ _ _ _ (no_implicit_lambda% (pe_callB (call_lenK K) rfl T.len_ PySem.boot_len (no_implicit_lambda% (@pa_cons _ _ _ _ _ (no_implicit_lambda% (pv 2)) pa_nil rfl)))) (no_implicit_lambda% (@pa_cons _ _ _ _ _ pe_int pa_nil rfl)) rfl)))) pa_nil rfl)) rfl)))) pa_nil rfl)) rfl)))) (no_implicit_lambda% (pg_name (i := 5) nd rfl (Or.inl rfl))) (no_implicit_lambda% (@pss_cons _ _ _ _ _ (no_implicit_lambda% (@ps_set _ _ 6 _ _ _ _ nd rfl (Or.inl rfl) (no_implicit_lambda% (pe_cal C__law_draws hr (no_implicit_lambda% (@pa_cons _ _ _ _ _ (no_implicit_lambda% (pe_cal C__law_cell hr (no_implicit_lambda% (@pa_cons _ _ _ _ _ (no_implicit_lambda% (pv 2)) (no_implicit_lambda% (@pa_cons _ _ _ _ _ (no_implicit_lambda% (pv 5)) pa_nil rfl)) rfl)))) (no_implicit_lambda% (@pa_cons _ _ _ _ _ (no_implicit_lambda% (@pe_lst _ _ _ _ (no_implicit_lambda% (@pa_cons _ _ _ _ _ pe_int (no_implicit_lambda% (@pa_cons _ _ _ _ _ pe_int (no_implicit_lambda% (@pa_cons _ _ _ _ _ pe_int pa_nil rfl)) rfl)) rfl)))) (no_implicit_lambda% (@pa_cons _ _ _ _ _ pe_int pa_nil rfl)) rfl)) rfl)))) rfl (Or.inl rfl)))
        (no_implicit_lambda% (@pss_cons _ _ _ _ _ (no_implicit_lambda% (@ps_set _ _ 7 _ _ _ _ nd rfl (Or.inl rfl) (no_implicit_lambda% (pe_cal C__law_behind hr (no_implicit_lambda% (@pa_cons _ _ _ _ _ (no_implicit_lambda% (pv 0)) (no_implicit_lambda% (@pa_cons _ _ _ _ _ (no_implicit_lambda% (pv 4)) pa_nil rfl)) rfl)))) rfl (Or.inl rfl)))
        (no_implicit_lambda% (@pss_cons _ _ _ _ _ (no_implicit_lambda% (@ps_set _ _ 8 _ _ _ _ nd rfl (Or.inl rfl) (no_implicit_lambda% (@pe_ix _ _ _ _ _ _ _ (ix_listK K) (no_implicit_lambda% (@pe_lst _ _ _ _ (no_implicit_lambda% (@pa_cons _ _ _ _ _ (no_implicit_lambda% (pe_op op_sub (no_implicit_lambda% (@pe_ix _ _ _ _ _ _ _ (ix_listK K) (no_implicit_lambda% (pv 6)) pe_int (fun _ _ => rfl))) pe_int)) (no_implicit_lambda% (@pa_cons _ _ _ _ _ (no_implicit_lambda% (pe_op op_pow pe_int pe_int)) (no_implicit_lambda% (@pa_cons _ _ _ _ _ (no_implicit_lambda% (pe_op op_sub pe_int (no_implicit_lambda% (pe_op op_pow pe_int pe_int)))) pa_nil rfl)) rfl)) rfl)))) (no_implicit_lambda% (pe_op op_mod (no_implicit_lambda% (@pe_ix _ _ _ _ _ _ _ (ix_listK K) (no_implicit_lambda% (pv 6)) pe_int (fun _ _ => rfl))) pe_int)) (fun _ _ => rfl))) rfl (Or.inl rfl)))
        (no_implicit_lambda% (@pss_cons _ _ _ _ _ (no_implicit_lambda% (ps_ifJ (no_implicit_lambda% (PW.pt (pw_and (no_implicit_lambda% (pt_cmpR op_gt (no_implicit_lambda% (@pe_ix _ _ _ _ _ _ _ (ix_listK K) (no_implicit_lambda% (pv 6)) pe_int (fun _ _ => rfl))) pe_int (nomark _))) (pw_and1 (no_implicit_lambda% (pt_cmpR op_gt (no_implicit_lambda% (pe_callB (call_lenK K) rfl T.len_ PySem.boot_len (no_implicit_lambda% (@pa_cons _ _ _ _ _ (no_implicit_lambda% (pv 7)) pa_nil rfl)))) pe_int (nomark _))))))) (no_implicit_lambda% (@pss_one _ _ _ (no_implicit_lambda% (@ps_asg _ _ _ _ _ _ (no_implicit_lambda% (@pe_ix _ _ _ _ _ _ _ (ix_listK K) (no_implicit_lambda% (pv 7)) (no_implicit_lambda% (pe_op op_mod (no_implicit_lambda% (@pe_ix _ _ _ _ _ _ _ (ix_listK K) (no_implicit_lambda% (pv 6)) pe_int (fun _ _ => rfl))) (no_implicit_lambda% (pe_callB (call_lenK K) rfl T.len_ PySem.boot_len (no_implicit_lambda% (@pa_cons _ _ _ _ _ (no_implicit_lambda% (pv 7)) pa_nil rfl)))))) (fun _ _ => rfl))) (no_implicit_lambda% (pg_tupK (n := 2) K rfl (pgs_cons (no_implicit_lambda% (pg_name (i := 8) nd rfl (Or.inl rfl))) (pgs_cons (no_implicit_lambda% (pg_name (i := 4) nd rfl (Or.inl rfl))) pgs_nil)))) rfl rfl rfl)))) (no_implicit_lambda% (@pss_one _ _ _ (no_implicit_lambda% (@ps_if _ _ _ _ _ _ _ _ (no_implicit_lambda% (pt_cmpR op_gt (no_implicit_lambda% (@pe_ix _ _ _ _ _ _ _ (ix_listK K) (no_implicit_lambda% (pv 6)) pe_int (fun _ _ => rfl))) pe_int (nomark _))) (no_implicit_lambda% (@pss_one _ _ _ (no_implicit_lambda% (@ps_ret _ _ _ _ (no_implicit_lambda% (pv 3)))))) pss_nil))))))
        (no_implicit_lambda% (@pss_one _ _ _ (no_implicit_lambda% (ps_expr (no_implicit_lambda% (pe_bmK K PySem.F.plainAttrs_list PySem.F.slot_list_append PySem.F.type_list_append mt_append (no_implicit_lambda% (pv 3)) (no_implicit_lambda% (@pa_cons _ _ _ _ _ (no_implicit_lambda% (pv 8)) pa_nil rfl))))))))))))))))))
        (no_implicit_lambda% (@pss_one _ _ _ (no_implicit_lambda% (@ps_ret _ _ _ _ (no_implicit_lambda% (pv 3)))))))))))), ?_⟩
    walk_at "rd"
    refine ⟨small_line (by simp), rd_new fun f H1 e1 hf hfn => ?_⟩
    walk_at "rd"
    refine rd_lenL (ha.ext e1) ?_
    walk_at "rd"
    have hb1 : (if (if (62 : Int) < ((List.map V.int ns).length : Nat) then (62 : Int) else ((List.map V.int ns).length : Nat)) > 8 then (if (62 : Int) < ((List.map V.int ns).length : Nat) then (62 : Int) else ((List.map V.int ns).length : Nat)) else (8 : Int)) ≤ 62 := by split <;> (try split) <;> omega
    have hb0 : (8 : Int) ≤ (if (if (62 : Int) < ((List.map V.int ns).length : Nat) then (62 : Int) else ((List.map V.int ns).length : Nat)) > 8 then (if (62 : Int) < ((List.map V.int ns).length : Nat) then (62 : Int) else ((List.map V.int ns).length : Nat)) else (8 : Int)) := by split <;> (try split) <;> omega
    generalize (if (if (62 : Int) < ((List.map V.int ns).length : Nat) then (62 : Int) else ((List.map V.int ns).length : Nat)) > 8 then (if (62 : Int) < ((List.map V.int ns).length : Nat) then (62 : Int) else ((List.map V.int ns).length : Nat)) else (8 : Int)) = B at hb0 hb1 ⊢
    refine rd_i2x ⟨by decide, by decide, by omega, by omega⟩ ?_
    have hBn : (B - 2).toNat ≤ 60 := by omega
    generalize (B - 2).toNat = nB at hBn ⊢
    refine forR (fun i σ H' => ∃ k1 k2 k3 k4 b y ks, σ = [some v, some (.ref pa), some (.ref a), some (.ref f), some (.ref b), k1, k2, k3, k4] ∧ Ext H H' ∧ H' f = some (.lst (List.map V.int ks)) ∧ PlAt H' b y ∧ ks.length = i) ⟨none, none, none, none, pa, x, [], rfl, e1, hf, e1 _ _ hx, rfl⟩ ?_ ?_
    · rintro i σ H2 hi ⟨k1, k2, k3, k4, b, y, ks, rfl, e2, hf2, hb, rfl⟩
      walk_at "rd"
      refine mk_cell (ha.ext e2) hl (by omega) fun z => ?_
      walk_at "rd"
      refine ⟨small_line (by simp), rd_new fun w0 G1 f1 hw0 _ => ?_⟩
      walk_at "rd"
      refine mk_draws [16, 104, 100] hw0 (by decide) (by decide) (by decide) fun dq ds H3 e3 hd _ hdl hdb => ?_
      have hdl3 : ds.length = 3 := hdl
      match ds, hdl3 with
      | [d0, d1, d2], _ =>
      have b0 := hdb 0 d0 16 rfl rfl
      have b2 := hdb 2 d2 100 rfl rfl
      clear hdb hdl
      have e23 := f1.trans e3
      walk_at "rd"
      refine ⟨_, m, ws, b, y.1, y.2, rfl, (hv.ext e2).ext e23, ok, e23 _ _ hb, fun lb H4 cs e4 _ hlb hcs => ?_⟩
      have hbl := Paired.length hcs
      have hbn := behL_len ws y.1 y.2 ws.length
      walk_at "rd"
      refine rd_ixL (SqL.of (e4 _ _ hd)) (v := .int d1) rfl ?_
      walk_at "rd"
      refine ⟨small_line (by simp), rd_new fun l3 H5 e5 hl3 _ => ?_⟩
      walk_at "rd"
      refine rd_ixL (SqL.of ((e4.trans e5) _ _ hd)) (v := .int d2) rfl ?_
      walk_at "rd"
      obtain ⟨cn, hcn⟩ : ∃ cn : Int, atI [V.int (d1 - 2), V.int (10 ^ (59 : Int).toNat), V.int (0 - 10 ^ (59 : Int).toNat)] (d2 % 3) = some (.int cn) := by
        have : d2 % 3 = 0 ∨ d2 % 3 = 1 ∨ d2 % 3 = 2 := by omega
        rcases this with h | h | h <;> rw [h]
        · exact ⟨_, rfl⟩
        · exact ⟨_, rfl⟩
        · exact ⟨_, rfl⟩
      refine rd_ixL (SqL.of hl3) hcn ?_
      have e25 : Ext H2 H5 := e23.trans (e4.trans e5)
      have hd5 := (e4.trans e5) _ _ hd
      have hlb5 := e5 _ _ hlb
      have hcs5 := beh_mono (fun _ _ z => z.ext e5) hcs
      have hf5 := e25 _ _ hf2
      have hb5 := e25 _ _ hb
      have e05 := e2.trans e25
      clear e23 e4 e5 hd hlb hcs f1 e3 hw0 hl3 hcn e2 hf2 hb
      walk_at "rd"
      refine rd_ifN ?_
      walk_at "rd"
      refine rd_ixL (SqL.of hd5) (v := .int d0) rfl ?_
      walk_at "rd"
      have nl : ∀ xs, (HO.lst (List.map V.int ks)) ≠ .tup xs := fun xs z => by cases z
      by_cases hd0 : 0 < d0
      · rw [decide_eq_true hd0]
        refine iteT ?_
        walk_at "rd"
        refine rd_lenL (SqL.of hlb5) ?_
        walk_at "rd"
        rw [List.length_map]
        by_cases hc0 : 0 < cs.length
        · rw [decide_eq_true (show (0 : Int) < ((cs.length : Nat) : Int) by omega)]
          refine iteT ?_
          walk_at "rd"
          refine rd_ixL (SqL.of hd5) (v := .int d2) rfl ?_
          walk_at "rd"
          refine rd_lenL (SqL.of hlb5) ?_
          rw [List.length_map]
          try refine rd_I (show (0 : Int) < ((cs.length : Nat) : Int) by omega) ?_
          walk_at "rd"
          have j0 : 0 ≤ d2 % ((cs.length : Nat) : Int) := Int.emod_nonneg _ (by omega)
          have j1 : d2 % ((cs.length : Nat) : Int) < cs.length := Int.emod_lt_of_pos _ (by omega)
          obtain ⟨jn, hjn⟩ : ∃ jn : Nat, d2 % ((cs.length : Nat) : Int) = jn := ⟨(d2 % ((cs.length : Nat) : Int)).toNat, by omega⟩
          rw [hjn] at j0 j1 ⊢
          have hjl : jn < cs.length := by omega
          have hcj := List.getElem?_eq_getElem hjl
          generalize cs[jn] = c at hcj
          obtain ⟨tt, htt, d, hcd, hdd⟩ := paired_at hcs5 hcj
          refine rd_ixL (SqL.of hlb5) (v := .ref c) (atI_nat (by rw [List.getElem?_map, hcj]; rfl)) ?_
          refine rd_gtup (SqT.of hcd) rfl ?_
          walk_at "rd"
          refine ⟨rd_tyL (SqL.of hf5), ?_⟩
          walk_at "rd"
          refine rd_append hf5 (line17 (by rw [List.length_map]; omega)) ?_
          walk_at "rd"
          exact ⟨_, _, _, _, d, tt.2, ks ++ [tt.1], rfl, ext_write e05 hfn, by rw [upd_same, List.map_append]; rfl, PlAt.put hf5 nl hdd, by simp⟩
        · rw [decide_eq_false (show ¬ (0 : Int) < ((cs.length : Nat) : Int) by omega)]
          refine iteF ?_
          walk_at "rd"
          refine rd_ixL (SqL.of hd5) (v := .int d0) rfl ?_
          walk_at "rd"
          rw [decide_eq_true hd0]
          refine iteT ?_
          walk_at "rd"
          exact q f ks H5 e05 hfn hf5 (by omega)
      · rw [decide_eq_false hd0]
        refine iteF ?_
        refine iteF ?_
        walk_at "rd"
        refine rd_ixL (SqL.of hd5) (v := .int d0) rfl ?_
        walk_at "rd"
        rw [decide_eq_false hd0]
        refine iteF ?_
        walk_at "rd"
        refine ⟨rd_tyL (SqL.of hf5), ?_⟩
        walk_at "rd"
        refine rd_append hf5 (line17 (by rw [List.length_map]; omega)) ?_
        walk_at "rd"
        exact ⟨_, _, _, _, b, y, ks ++ [cn], rfl, ext_write e05 hfn, by rw [upd_same, List.map_append]; rfl, PlAt.put hf5 nl hb5, by simp⟩
    · rintro σ H2 ⟨k1, k2, k3, k4, b, y, ks, rfl, e2, hf2, hb, rfl⟩
      walk_at "rd"
      exact q f ks H2 e2 hfn hf2 (by omega)
theorem il_rep {H : Hp} {p : Addr} {xs : List Int} (h : H p = some (.lst (xs.map V.int))) : RepD H 1 (.ref p) (.list (xs.map PyData.int)) := by
  refine .inr ⟨p, _, _, rfl, .inr ⟨h, rfl⟩, ?_⟩
  clear h
  induction xs with
  | nil => exact .nil
  | cons x xs ih => exact .cons rfl ih
theorem il_all : ∀ xs : List Int, PyData.eqvAll (xs.map PyData.int) (xs.map PyData.int) = true
  | [] => rfl
  | x :: xs => by
    show ((x == x) && PyData.eqvAll (xs.map PyData.int) (xs.map PyData.int)) = true
    rw [il_all xs]
    simp
theorem il_same (xs : List Int) : PyData.eqv (.list (xs.map PyData.int)) (.list (xs.map PyData.int)) = true := il_all xs
noncomputable abbrev plD (x : Bfs.Pl) : PyData := .tuple [.int x.1, .int x.2]
theorem pl_rep {H : Hp} {b : Addr} {x : Bfs.Pl} (h : PlAt H b x) : RepD H 1 (.ref b) (plD x) :=
  .inr ⟨b, _, _, rfl, .inl ⟨h, rfl⟩, .cons rfl (.cons rfl .nil)⟩
theorem pl_eqv (x : Bfs.Pl) : PyData.eqv (plD x) (plD x) = true := by
  simp [PyData.eqv, PyData.eqvAll]
theorem pls_rep {H : Hp} {r : Addr} {as : List Addr} {xs : List Bfs.Pl} (h : H r = some (.lst (List.map V.ref as))) (hp : Paired (PlAt H) as xs) : RepD H 2 (.ref r) (.list (xs.map plD)) := by
  refine .inr ⟨r, _, _, rfl, .inr ⟨h, rfl⟩, ?_⟩
  clear h
  induction hp with
  | nil => exact .nil
  | cons h _ ih => exact .cons (pl_rep h) ih
theorem plsAll_eqv : ∀ xs : List Bfs.Pl, PyData.eqvAll (xs.map plD) (xs.map plD) = true
  | [] => rfl
  | x :: xs => by
    rw [List.map_cons]
    show (PyData.eqv (plD x) (plD x) && PyData.eqvAll (xs.map plD) (xs.map plD)) = true
    rw [pl_eqv, plsAll_eqv xs]
    rfl
theorem pls_eqv (xs : List Bfs.Pl) : PyData.eqv (.list (xs.map plD)) (.list (xs.map plD)) = true := plsAll_eqv xs
local macro_rules | `(tactic| walk_at "ra") => do
  let ts ← ("seq asg c name un U".splitOn " ").toArray.mapM fun n =>
    let i := Lean.mkIdent (.mkSimple ("rd_" ++ n))
    `(tacticSeq| with_reducible refine $i ?_)
  `(tactic| repeat (first $[| $ts]* | dsimp only))
noncomputable def sp_law (K : PySem.W.Frag) : Sp := fun vs H Q _ => ∃ (a : Addr) (ns : List Int), vs = [.ref a] ∧ SqL K H a (ns.map V.int) ∧ ns.length ≤ 63 ∧ ∀ H', Q (.bl true) H'
noncomputable abbrev s_law : Stmt := stq 58
theorem sc_law : FnScope ["_law_script", "_law_house_here", "_law_place_here", "_law_walk", "_law_bad", "_law_handed", "_law_at", "_law_kind_here", "_law_found", "_law_e", "_law_due"] ["_law_script"] (defScope s_law) := ⟨rfl, rfl, rfl, by decide +kernel, rfl, by decide +kernel, by decide +kernel⟩
theorem ok_law {P : Program} {w : World} {K : PySem.W.Frag} {mg : Str → Option Value} {base : Heap} {f : Addr} {fd : FuncData} (F : Fun K "law" "law" s_law f fd) (T : Blt mg) (XF : Xf K mg base allC raisedC) (XW_NoWalk : XfI K mg allC "NoWalk") (XV_NoWalk : xvB K "NoWalk" = true) (C__law_row : Cal P w K mg base "_law_row" 2 ["_law_found", "_law_many"] (sp__law_row K)) (C__law_gone : Cal P w K mg base "_law_gone" 2 ["_law_house_here", "_law_place_here", "_law_walk"] (sp__law_gone K)) (C__law_is : Cal P w K mg base "_law_is" 2 ["_law_found", "_law_due"] (sp__law_is K)) (C__law_first_bad : Cal P w K mg base "_law_first_bad" 2 ["_law_house_here", "_law_place_here", "_law_walk"] (sp__law_first_bad K)) (C__law_drawn_walk : Cal P w K mg base "_law_drawn_walk" 3 ["_law_house_here", "_law_place_here", "_law_script"] (sp__law_drawn_walk K)) (C__law_draws : Cal P w K mg base "_law_draws" 2 ["_law_cell_here", "_law_widths", "_law_prime"] (sp__law_draws K)) (C__law_cell : Cal P w K mg base "_law_cell" 1 ["_law_script", "_law_k"] (sp__law_cell K)) (C__law_number : Cal P w K mg base "_law_number" 3 ["_law_cell_here", "_law_prime"] (sp__law_number K)) (C__law_spare : Cal P w K mg base "_law_spare" 1 ["_law_cell_here", "_law_width"] (sp__law_spare K)) (C__law_place : Cal P w K mg base "_law_place" 3 ["_law_house_here", "_law_cell_here", "_law_prime"] (sp__law_place K)) (C__law_house : Cal P w K mg base "_law_house" 4 ["_law_cell_here", "_law_prime"] (sp__law_house K)) (C0_walked : Cal P w K mg base "walked" 7 ["house", "place", "walk"] (fun vs H Q _ => sp_walked K vs H Q E0)) (CX_walked : CalX P w K mg base "walked" 7 ["house", "place", "walk"] (sp_walked K)) (CH__law_kind : ∀ (x : Addr) (oe : Obj) (Dx : Addr), ExcK K Dx → oe.cls = .ref Dx → (∃ vs, oe.data = .fields vs ∧ vs[2]? = some .none) → CalH P w K mg base "_law_kind" 1 ["_law_e"] x oe (sp__law_kind K x Dx)) : FnOk P w K mg base CX0 8 f fd ["_law_script"] (sp_law K) := by
  have nd := (sc_law).nd
  refine F.ok sc_law (fun vs H Q E h => ?_) (fun cdv A outer s H vs Q E hr h => ?_)
  · obtain ⟨a, ns, rfl, _⟩ := h; rfl
  · obtain ⟨a, ns, rfl, ha, hl, q⟩ := h
    refine ⟨_, (no_implicit_lambda% (@pss_cons _ _ _ _ _ (no_implicit_lambda% (@ps_set _ _ 1 _ _ _ _ nd rfl (Or.inl rfl) (no_implicit_lambda% (pe_cal C__law_house hr (no_implicit_lambda% (@pa_cons _ _ _ _ _ (no_implicit_lambda% (pe_cal C__law_cell hr (no_implicit_lambda% (@pa_cons _ _ _ _ _ (no_implicit_lambda% (pv 0)) (no_implicit_lambda% (@pa_cons _ _ _ _ _ pe_int pa_nil rfl)) rfl)))) (no_implicit_lambda% (@pa_cons _ _ _ _ _ pe_int pa_nil rfl)) rfl)))) rfl (Or.inl rfl)))
        (no_implicit_lambda% (@pss_cons _ _ _ _ _ (no_implicit_lambda% (@ps_set _ _ 2 _ _ _ _ nd rfl (Or.inl rfl) (no_implicit_lambda% (pe_cal C__law_place hr (no_implicit_lambda% (@pa_cons _ _ _ _ _ (no_implicit_lambda% (pv 1)) (no_implicit_lambda% (@pa_cons _ _ _ _ _ (no_implicit_lambda% (pe_cal C__law_cell hr (no_implicit_lambda% (@pa_cons _ _ _ _ _ (no_implicit_lambda% (pv 0)) (no_implicit_lambda% (@pa_cons _ _ _ _ _ pe_int pa_nil rfl)) rfl)))) (no_implicit_lambda% (@pa_cons _ _ _ _ _ pe_int pa_nil rfl)) rfl)) rfl)))) rfl (Or.inl rfl)))
        (no_implicit_lambda% (@pss_cons _ _ _ _ _ (no_implicit_lambda% (ps_ifJ (no_implicit_lambda% (pt_cmpR op_eq (no_implicit_lambda% (@pe_ix _ _ _ _ _ _ _ (ix_listK K) (no_implicit_lambda% (pe_cal C__law_draws hr (no_implicit_lambda% (@pa_cons _ _ _ _ _ (no_implicit_lambda% (pe_cal C__law_cell hr (no_implicit_lambda% (@pa_cons _ _ _ _ _ (no_implicit_lambda% (pv 0)) (no_implicit_lambda% (@pa_cons _ _ _ _ _ pe_int pa_nil rfl)) rfl)))) (no_implicit_lambda% (@pa_cons _ _ _ _ _ (no_implicit_lambda% (@pe_lst _ _ _ _ (no_implicit_lambda% (@pa_cons _ _ _ _ _ pe_int (no_implicit_lambda% (@pa_cons _ _ _ _ _ pe_int (no_implicit_lambda% (@pa_cons _ _ _ _ _ pe_int pa_nil rfl)) rfl)) rfl)))) (no_implicit_lambda% (@pa_cons _ _ _ _ _ pe_int pa_nil rfl)) rfl)) rfl)))) pe_int (fun _ _ => rfl))) pe_int (nomark _))) (no_implicit_lambda% (@pss_one _ _ _ (no_implicit_lambda% (@ps_set _ _ 2 _ _ _ _ nd rfl (Or.inl rfl) (no_implicit_lambda% (@pe_tup _ _ _ _ _ (no_implicit_lambda% (@pa_cons _ _ _ _ _ (no_implicit_lambda% (@pe_ix _ _ _ _ _ _ _ (ix_tupK K) (no_implicit_lambda% (pv 2)) pe_int (fun _ _ => rfl))) (no_implicit_lambda% (@pa_cons _ _ _ _ _ (no_implicit_lambda% (pe_cal C__law_number hr (no_implicit_lambda% (@pa_cons _ _ _ _ _ (no_implicit_lambda% (pe_cal C__law_spare hr (no_implicit_lambda% (@pa_cons _ _ _ _ _ (no_implicit_lambda% (pe_cal C__law_cell hr (no_implicit_lambda% (@pa_cons _ _ _ _ _ (no_implicit_lambda% (pv 0)) (no_implicit_lambda% (@pa_cons _ _ _ _ _ pe_int pa_nil rfl)) rfl)))) (no_implicit_lambda% (@pa_cons _ _ _ _ _ pe_int pa_nil rfl)) rfl)))) (no_implicit_lambda% (@pa_cons _ _ _ _ _ pe_int pa_nil rfl)) rfl)))) pa_nil rfl)) rfl)))) rfl (Or.inl rfl))))) pss_nil))
        (no_implicit_lambda% (@pss_cons _ _ _ _ _ (no_implicit_lambda% (@ps_set _ _ 3 _ _ _ _ nd rfl (Or.inl rfl) (no_implicit_lambda% (pe_cal C__law_drawn_walk hr (no_implicit_lambda% (@pa_cons _ _ _ _ _ (no_implicit_lambda% (pv 1)) (no_implicit_lambda% (@pa_cons _ _ _ _ _ (no_implicit_lambda% (pv 2)) (no_implicit_lambda% (@pa_cons _ _ _ _ _ (no_implicit_lambda% (pv 0)) pa_nil rfl)) rfl)) rfl)))) rfl (Or.inl rfl)))
        (no_implicit_lambda% (@pss_cons _ _ _ _ _ (no_implicit_lambda% (@ps_set _ _ 4 _ _ _ _ nd rfl (Or.inl rfl) (no_implicit_lambda% (pe_cal C__law_first_bad hr (no_implicit_lambda% (@pa_cons _ _ _ _ _ (no_implicit_lambda% (pv 1)) (no_implicit_lambda% (@pa_cons _ _ _ _ _ (no_implicit_lambda% (pv 2)) (no_implicit_lambda% (@pa_cons _ _ _ _ _ (no_implicit_lambda% (pv 3)) pa_nil rfl)) rfl)) rfl)))) rfl (Or.inl rfl)))
        (no_implicit_lambda% (@pss_cons _ _ _ _ _ (no_implicit_lambda% (@ps_set _ _ 5 _ _ _ _ nd rfl (Or.inl rfl) (no_implicit_lambda% (pe_callTy (call_listK K) rfl T.list_ PyProof.Rows.boot_list (no_implicit_lambda% (@pa_cons _ _ _ _ _ (no_implicit_lambda% (pv 3)) pa_nil rfl)))) rfl (Or.inl rfl)))
        (no_implicit_lambda% (@pss_cons _ _ _ _ _ (no_implicit_lambda% (@ps_set _ _ 6 _ _ _ _ nd rfl (Or.inl rfl) (no_implicit_lambda% (pe_un un_neg pe_int)) rfl (Or.inl rfl)))
        (no_implicit_lambda% (@pss_cons _ _ _ _ _ (no_implicit_lambda% (@ps_set _ _ 7 _ _ _ _ nd rfl (Or.inl rfl) pe_str rfl (Or.inl rfl)))
        (no_implicit_lambda% (@pss_cons _ _ _ _ _ (no_implicit_lambda% (@ps_set _ _ 8 _ _ _ _ nd rfl (Or.inl rfl) pe_non rfl (Or.inl rfl)))
        (no_implicit_lambda% (@pss_cons _ _ _ _ _ (no_implicit_lambda% (ps_try (i := 9) rfl rfl nd rfl rfl rfl (XF.cl "NoWalk" (by decide +kernel)) rfl (by decide) (pbs_cons (pb_asgC (i := 8) CX_walked hr nd rfl (Or.inl rfl) (no_implicit_lambda% (@pa_cons _ _ _ _ _ (no_implicit_lambda% (pv 1)) (no_implicit_lambda% (@pa_cons _ _ _ _ _ (no_implicit_lambda% (pv 2)) (no_implicit_lambda% (@pa_cons _ _ _ _ _ (no_implicit_lambda% (pv 5)) pa_nil rfl)) rfl)) rfl))) pbs_nil) (fun x oe Dx da hK hc hal hdd => (no_implicit_lambda% (@pss_cons _ _ _ _ _ (no_implicit_lambda% (@ps_set _ _ 6 _ _ _ _ nd rfl (Or.inl rfl) (no_implicit_lambda% (pe_attrX K hK hc hal hdd (no_implicit_lambda% (pv 9)))) rfl (Or.inl rfl)))
        (no_implicit_lambda% (@pss_one _ _ _ (no_implicit_lambda% (@ps_set _ _ 7 _ _ _ _ nd rfl (Or.inl rfl) (no_implicit_lambda% (pe_calH (CH__law_kind x oe Dx hK hc hal) hr (no_implicit_lambda% (@pa_cons _ _ _ _ _ (no_implicit_lambda% (pv 9)) pa_nil rfl)))) rfl (Or.inl rfl))))))))))
        (no_implicit_lambda% (@pss_cons _ _ _ _ _ (no_implicit_lambda% (@ps_if _ _ _ _ _ _ _ _ (no_implicit_lambda% (PW.pt (pw_or (no_implicit_lambda% (pt_cmpR (op_neD hr) (no_implicit_lambda% (pv 5)) (no_implicit_lambda% (pv 3)) (nomark _))) (pw_or1 (no_implicit_lambda% (pt_not (no_implicit_lambda% (pt_val (no_implicit_lambda% (pe_cal C__law_is hr (no_implicit_lambda% (@pa_cons _ _ _ _ _ (no_implicit_lambda% (pv 6)) (no_implicit_lambda% (@pa_cons _ _ _ _ _ (no_implicit_lambda% (pv 4)) pa_nil rfl)) rfl)))))))))))) (no_implicit_lambda% (@pss_one _ _ _ (no_implicit_lambda% (@ps_ret _ _ _ _ pe_bl)))) pss_nil))
        (no_implicit_lambda% (@pss_cons _ _ _ _ _ (no_implicit_lambda% (@ps_if _ _ _ _ _ _ _ _ (no_implicit_lambda% (pt_cmpR op_ge (no_implicit_lambda% (pv 4)) pe_int (nomark _))) (no_implicit_lambda% (@pss_one _ _ _ (no_implicit_lambda% (@ps_ret _ _ _ _ (no_implicit_lambda% (pe_cmpR op_eq (no_implicit_lambda% (pv 7)) pe_str (nomark _))))))) pss_nil))
        (no_implicit_lambda% (@pss_cons _ _ _ _ _ (no_implicit_lambda% (@ps_set _ _ 10 _ _ _ _ nd rfl (Or.inl rfl) (no_implicit_lambda% (pe_cal C__law_gone hr (no_implicit_lambda% (@pa_cons _ _ _ _ _ (no_implicit_lambda% (pv 1)) (no_implicit_lambda% (@pa_cons _ _ _ _ _ (no_implicit_lambda% (pv 2)) (no_implicit_lambda% (@pa_cons _ _ _ _ _ (no_implicit_lambda% (pv 3)) pa_nil rfl)) rfl)) rfl)))) rfl (Or.inl rfl)))
        (no_implicit_lambda% (@pss_cons _ _ _ _ _ (no_implicit_lambda% (@ps_if _ _ _ _ _ _ _ _ (no_implicit_lambda% (PW.pt (pw_or (no_implicit_lambda% (pt_not (no_implicit_lambda% (pt_val (no_implicit_lambda% (pe_callB call_isi rfl T.isinstance_ PyProof.Rows.boot_isinstance (no_implicit_lambda% (@pa_cons _ _ _ _ _ (no_implicit_lambda% (pv 8)) (no_implicit_lambda% (@pa_cons _ _ _ _ _ (no_implicit_lambda% (pe_bltn (v := .ty "list") rfl T.list_ PyProof.Rows.boot_list rfl)) pa_nil rfl)) rfl)))))))) (pw_or (no_implicit_lambda% (pt_not (no_implicit_lambda% (pt_val (no_implicit_lambda% (pe_callB (call_allL K rfl) rfl T.all_ PyProof.Rows.boot_all (no_implicit_lambda% (@pa_cons _ _ _ _ _ (no_implicit_lambda% (pe_comp ["_law_here"] [] (no_implicit_lambda% (pi_listK K (no_implicit_lambda% (pv 8)))) (fun _ => (no_implicit_lambda% (pg_name (i := 0) (show (["_law_here"] : List Str).Nodup from by decide +kernel) rfl (Or.inl rfl) (Or.inr rfl)))) (fun _ => pcs_nil) (fun _ => (no_implicit_lambda% (pe_cal C__law_row hr (no_implicit_lambda% (@pa_cons _ _ _ _ _ (no_implicit_lambda% (pv 0)) (no_implicit_lambda% (@pa_cons _ _ _ _ _ pe_int pa_nil rfl)) rfl))))))) pa_nil rfl)))))))) (pw_or1 (no_implicit_lambda% (pt_cmpR (op_neD hr) (no_implicit_lambda% (pv 8)) (no_implicit_lambda% (pv 10)) (nomark _)))))))) (no_implicit_lambda% (@pss_one _ _ _ (no_implicit_lambda% (@ps_ret _ _ _ _ pe_bl)))) pss_nil))
        (no_implicit_lambda% (@pss_cons _ _ _ _ _ (no_implicit_lambda% (@ps_asg _ _ _ _ _ _ (no_implicit_lambda% (@pe_tup _ _ _ _ _ (no_implicit_lambda% (@pa_cons _ _ _ _ _ pe_int (no_implicit_lambda% (@pa_cons _ _ _ _ _ pe_int pa_nil rfl)) rfl)))) (no_implicit_lambda% (pg_sub (no_implicit_lambda% (pv 8)) pe_int set_list)) rfl rfl rfl))
        (no_implicit_lambda% (@pss_cons _ _ _ _ _ (no_implicit_lambda% (ps_expr (no_implicit_lambda% (pe_bmK K PySem.F.plainAttrs_list PySem.F.slot_list_append PySem.F.type_list_append mt_append (no_implicit_lambda% (pv 8)) (no_implicit_lambda% (@pa_cons _ _ _ _ _ (no_implicit_lambda% (@pe_tup _ _ _ _ _ (no_implicit_lambda% (@pa_cons _ _ _ _ _ pe_int (no_implicit_lambda% (@pa_cons _ _ _ _ _ pe_int pa_nil rfl)) rfl)))) pa_nil rfl))))))
        (no_implicit_lambda% (@pss_one _ _ _ (no_implicit_lambda% (@ps_ret _ _ _ _ (no_implicit_lambda% (pe_cmpR (op_eqD hr) (no_implicit_lambda% (pe_cal C0_walked hr (no_implicit_lambda% (@pa_cons _ _ _ _ _ (no_implicit_lambda% (pv 1)) (no_implicit_lambda% (@pa_cons _ _ _ _ _ (no_implicit_lambda% (pv 2)) (no_implicit_lambda% (@pa_cons _ _ _ _ _ (no_implicit_lambda% (pv 3)) pa_nil rfl)) rfl)) rfl)))) (no_implicit_lambda% (pv 10)) (nomark _))))))))))))))))))))))))))))))))))))))), ?_⟩
    walk_at "rd"
    refine mk_cell ha hl (by decide) fun z => ?_
    walk_at "rd"
    refine ⟨z, _, rfl, by decide, fun v m ws H1 e1 hv ok3 => ?_⟩
    have ok := ok3.house
    clear ok3
    have m1 := ok.m1
    have m2 := ok.m12
    walk_at "rd"
    refine mk_cell (ha.ext e1) hl (by decide) fun z2 => ?_
    walk_at "rd"
    refine ⟨v, m, ws, z2, _, rfl, hv, ok, by decide, fun pa0 r n H2 e2 hpa0 r0 r1 n0 n1 => ?_⟩
    have ha2 := ha.ext (e1.trans e2)
    have hv2 := hv.ext e2
    clear ha hv e1 e2
    walk_at "rd"
    refine rd_ifJ (fun σ' H' => Ext H2 H' ∧ ∃ pa n', PlAt H' pa (r, n') ∧ 0 ≤ n' ∧ n' ≤ 1000 ∧ σ' = [some (.ref a), some v, some (.ref pa), none, none, none, none, none, none, none, none]) ?_ ?_
    · walk_at "rd"
      refine mk_cell ha2 hl (by decide) fun z3 => ?_
      walk_at "rd"
      refine ⟨small_line (by simp), rd_new fun w0 G1 f1 hw0 _ => ?_⟩
      walk_at "rd"
      refine mk_draws [12, 13, 4] hw0 (by decide) (by decide) (by decide) fun dq ds H3 e3 hd _ hdl hdb => ?_
      obtain ⟨d2, g2, _⟩ := draws_at hdl hdb 2 rfl
      walk_at "rd"
      refine rd_ixL (SqL.of hd) g2 ?_
      have e23 := f1.trans e3
      walk_at "rd"
      refine ite2 (fun h => ?_) (fun h => ?_)
      · walk_at "rd"
        refine rd_ixT (SqT.of (e23 _ _ hpa0)) (v := .int r) rfl ?_
        walk_at "rd"
        refine mk_cell (ha2.ext e23) hl (by decide) fun z4 => ?_
        walk_at "rd"
        refine ⟨_, _, rfl, by decide, by decide, fun z5 => ?_⟩
        walk_at "rd"
        refine ⟨z5, _, rfl, by decide, fun n' H4 e4 h0 h1 => ?_⟩
        walk_at "rd"
        refine ⟨small_line (by simp), rd_new fun pa H5 e5 hpa _ => ?_⟩
        walk_at "rd"
        exact ⟨e23.trans (e4.trans e5), pa, n', hpa, h0, h1, rfl⟩
      · walk_at "rd"
        exact ⟨e23, pa0, n, e23 _ _ hpa0, n0, by omega, rfl⟩
    rintro σ' H3 ⟨e3, pa, n', hpa, n0', n1', rfl⟩
    have ha3 := ha2.ext e3
    have hv3 := hv2.ext e3
    clear ha2 hv2 hpa0 n0 n1 e3
    generalize hxx : ((r, n') : Bfs.Pl) = x at hpa
    have hin : inHs m x := by rw [← hxx]; exact ⟨r0, r1, n0', n1'⟩
    walk_at "rd"
    refine ⟨v, m, ws, pa, x, a, ns, rfl, hv3, ok, hpa, ha3, hl, fun lw ks H4 e4 _ hlw hks => ?_⟩
    walk_at "rd"
    refine ⟨v, m, ws, pa, lw, x, ks, rfl, hv3.ext e4, ok, e4 _ _ hpa, hlw, by omega, fun H5 e5 => ?_⟩
    walk_at "rd"
    refine ⟨lw, _, rfl, .inl (SqL.of (e5 _ _ hlw)), fun lh hlhn => ?_⟩
    have e6 : Ext H5 (upd H5 lh (.lst (List.map V.int ks))) := ext_upd hlhn
    have hlh : upd H5 lh (.lst (List.map V.int ks)) lh = some (.lst (List.map V.int ks)) := upd_same
    generalize upd H5 lh (.lst (List.map V.int ks)) = H6 at e6 hlh ⊢
    have e46 := e5.trans e6
    have hv6 := (hv3.ext e4).ext e46
    have hpa6 := e46 _ _ (e4 _ _ hpa)
    have hlw6 := e46 _ _ hlw
    clear hv3 hpa ha3 e4 e5 e6 e46 hlw
    walk_at "ra"
    have hglen := goI_len ws ks x
    refine try_asD (fun Dx da σ1 J => Ext H6 J ∧ Dx = cA K "NoWalk" ∧ (∃ d, da = some d ∧ J d = some (.xd [("at", .int (((goI ws x ks).length : Nat) - 1))])) ∧ (goI ws x ks).length ≤ ks.length ∧ σ1 = [some (.ref a), some v, some (.ref pa), some (.ref lw), some (.int (fbad ws x ks)), some (.ref lh), some (.int (-1)), some (.str (Str.ofString "")), some .non, none, none]) (fun E9 hE => ?_) ?_
    · walk_at "rd"
      refine rd_basgC ?_
      walk_at "rd"
      refine ⟨v, pa, lh, rfl, .inr ⟨m, ws, x, ks, hv6, ok, hpa6, hlh, .inr ⟨hin, .inr ⟨by omega, ?_⟩⟩⟩⟩
      by_cases hgl : (goI ws x ks).length ≤ ks.length
      · exact .inl ⟨hgl, fun d J eJ hd => hE _ _ _ _ ⟨eJ, rfl, ⟨d, rfl, hd⟩, hgl, rfl⟩⟩
      refine .inr ⟨by omega, fun rr J1 as j1 hrn hrr has => ?_⟩
      have hfb : fbad ws x ks = -1 := if_neg hgl
      rw [hfb]
      walk_at "rd"
      refine ⟨1, 1, _, _, il_rep (j1 _ _ hlh), il_rep (j1 _ _ hlw6), by decide, ?_⟩
      simp only [if_true, il_same]
      refine rd_exb (iteF ?_)
      walk_at "rd"
      refine ⟨_, _, rfl, ?_⟩
      rw [decide_eq_true rfl]
      walk_at "rd"
      refine iteF ?_
      walk_at "rd"
      refine iteF ?_
      walk_at "rd"
      refine ⟨v, m, ws, pa, lw, x, ks, rfl, hv6.ext j1, ok, j1 _ _ hpa6, j1 _ _ hlw6, by omega, by omega, fun ld J2 as2 j2 hldn hld has2 => ?_⟩
      have hrr2 := j2 _ _ hrr
      have hasr := mapP (fun _ _ w => j2 _ _ w) has
      walk_at "rd"
      refine rd_isi (kind_lst hrr2) (b := true) rfl ?_
      walk_at "rd"
      refine iteF ?_
      walk_at "rd"
      refine rd_iLx (SqL.of hrr2) ?_
      have hal := Paired.length hasr
      refine comp_list (xs := List.map V.ref as) (fun i ys H' => Ext J2 H' ∧ ys = (List.replicate i true).map V.bl) (small9 (by rw [List.length_map]; omega)) ⟨Ext.rfl' _, rfl⟩ (fun i ys H' hi h => ⟨SqL.of (h.1 _ _ hrr2), by rw [h.2]; simp⟩) ?_ ?_
      · rintro i u ys H' hu ⟨e, rfl⟩
        rw [List.getElem?_map] at hu
        obtain ⟨b, hb, rfl⟩ := Option.map_eq_some_iff.mp hu
        obtain ⟨y, hy, hby⟩ := paired_at hasr hb
        walk_at "rd"
        refine iteT ?_
        walk_at "rd"
        refine ⟨b, y, rfl, e _ _ hby, fun H'' e2 => ⟨e.trans e2, ?_⟩⟩
        rw [List.replicate_succ', List.map_append]
        rfl
      rintro ys J3 lc ⟨e3, rfl⟩ hlc
      walk_at "rd"
      refine ⟨lc, List.replicate (List.map V.ref as).length true, rfl, SqL.of upd_same, ?_⟩
      rw [show (List.replicate (List.map V.ref as).length true).all id = true by simp]
      have e24 : Ext J2 (upd J3 lc (.lst ((List.replicate (List.map V.ref as).length true).map V.bl))) := e3.trans (ext_upd hlc)
      generalize upd J3 lc (.lst ((List.replicate (List.map V.ref as).length true).map V.bl)) = J4 at e24 ⊢
      walk_at "rd"
      refine iteF ?_
      walk_at "rd"
      have hrr4 := e24 _ _ hrr2
      have has4 := mapP (fun _ _ w => e24 _ _ w) hasr
      have hld4 := e24 _ _ hld
      have has24 := mapP (fun _ _ w => e24 _ _ w) has2
      refine ⟨2, 2, _, _, pls_rep hrr4 has4, pls_rep hld4 has24, by decide, ?_⟩
      simp only [if_true, pls_eqv]
      refine rd_exb (iteF ?_)
      walk_at "rd"
      refine ⟨small_line (by simp), rd_new fun t0 J5 j5 ht0 _ => ?_⟩
      walk_at "rd"
      have hrr5 := j5 _ _ hrr4
      refine rd_setL hrr5 (j := 0) (by rw [List.length_map]; unfold ixN; rw [if_pos (by decide), if_pos (by omega)]; rfl) ?_
      have nl5 : ∀ xs, (HO.lst (List.map V.ref as)) ≠ .tup xs := fun xs z => by cases z
      have e65 : Ext H6 J5 := j1.trans (j2.trans (e24.trans j5))
      have x6 : Ext H6 (upd J5 rr (.lst ((List.map V.ref as).set 0 (.ref t0)))) := ext_write e65 hrn
      have hrr6 : upd J5 rr (.lst ((List.map V.ref as).set 0 (.ref t0))) rr = some (.lst ((List.map V.ref as).set 0 (.ref t0))) := upd_same
      have ldr : ld ≠ rr := fun z => by rw [z, hrr] at hldn; cases hldn
      have hld6 : upd J5 rr (.lst ((List.map V.ref as).set 0 (.ref t0))) ld = some (.lst (List.map V.ref as2)) := by rw [upd_ne ldr]; exact j5 _ _ hld4
      have has6 : Paired (PlAt (upd J5 rr (.lst ((List.map V.ref as).set 0 (.ref t0))))) as2 (goI ws x ks) := mapP (fun _ _ w => PlAt.put hrr5 nl5 (j5 _ _ w)) has24
      generalize upd J5 rr (.lst ((List.map V.ref as).set 0 (.ref t0))) = J6 at x6 hrr6 hld6 has6 ⊢
      walk_at "rd"
      refine ⟨rd_tyL (SqL.of hrr6), ?_⟩
      walk_at "rd"
      refine ⟨small_line (by simp), rd_new fun t1 J7 j7 ht1 _ => ?_⟩
      walk_at "rd"
      have hrr7 := j7 _ _ hrr6
      refine rd_append hrr7 (line17 (by rw [List.length_set, List.length_map]; omega)) ?_
      have nl7 : ∀ xs, (HO.lst ((List.map V.ref as).set 0 (.ref t0))) ≠ .tup xs := fun xs z => by cases z
      have x8 : Ext H6 (upd J7 rr (.lst ((List.map V.ref as).set 0 (.ref t0) ++ [.ref t1]))) := ext_write (x6.trans j7) hrn
      have hld8 : upd J7 rr (.lst ((List.map V.ref as).set 0 (.ref t0) ++ [.ref t1])) ld = some (.lst (List.map V.ref as2)) := by rw [upd_ne ldr]; exact j7 _ _ hld6
      have has8 : Paired (PlAt (upd J7 rr (.lst ((List.map V.ref as).set 0 (.ref t0) ++ [.ref t1])))) as2 (goI ws x ks) := mapP (fun _ _ w => PlAt.put hrr7 nl7 (j7 _ _ w)) has6
      generalize upd J7 rr (.lst ((List.map V.ref as).set 0 (.ref t0) ++ [.ref t1])) = J8 at x8 hld8 has8 ⊢
      walk_at "rd"
      refine ⟨v, pa, lw, rfl, .inr ⟨m, ws, x, ks, hv6.ext x8, ok, x8 _ _ hpa6, x8 _ _ hlw6, .inr ⟨hin, .inr ⟨by omega, .inr ⟨by omega, fun r2 J9 as9 j9 _ hr2 has9 => ?_⟩⟩⟩⟩⟩
      walk_at "rd"
      refine ⟨2, 2, _, _, pls_rep hr2 has9, pls_rep (j9 _ _ hld8) (mapP (fun _ _ w => j9 _ _ w) has8), by decide, ?_⟩
      simp only [pls_eqv]
      exact q _
    · rintro σ1 Dx da J ⟨eJ, rfl, ⟨d, rfl, hd⟩, hgl, rfl⟩
      have hfb : fbad ws x ks = ((goI ws x ks).length : Int) - 1 := if_pos hgl
      have XV1 : PySem.W.exmOne K (.ref (cA K "NoWalk")) (.ref (cA K "NoWalk")) = some true ∧ PySem.W.hasDictIn K (cA K "NoWalk") = true := by
        have := XV_NoWalk
        unfold xvB at this
        simpa using this
      refine ⟨XV1.1, XW_NoWalk.ei.exk, fun ex hex => ?_⟩
      walk_at "rd"
      refine rd_attX ?_
      walk_at "rd"
      refine ⟨rfl, XW_NoWalk.ei.at_, XV1.2, d, _, _, rfl, hd, rfl, ?_⟩
      walk_at "rd"
      refine ⟨_, _, _, _, Str.ofString "walk", rfl, knd_of (c := "NoWalk") XW_NoWalk.kc XW_NoWalk.kv (by decide +kernel), .inr (.inr (.inr ⟨by decide +kernel, by decide +kernel, by decide +kernel, by decide +kernel, rfl⟩)), fun J2 j2 => ?_⟩
      walk_at "rd"
      have y2 := eJ.trans j2
      refine ⟨1, 1, _, _, il_rep (y2 _ _ hlh), il_rep (y2 _ _ hlw6), by decide, ?_⟩
      simp only [if_true, il_same]
      refine rd_exb (iteF ?_)
      walk_at "rd"
      refine ⟨_, _, rfl, ?_⟩
      rw [hfb, decide_eq_true rfl]
      walk_at "rd"
      refine iteF ?_
      walk_at "rd"
      rw [decide_eq_true (show (0 : Int) ≤ ((goI ws x ks).length : Int) - 1 by omega)]
      refine iteT ?_
      walk_at "rd"
      refine rd_EqS ?_
      rw [decide_eq_true rfl]
      exact q _
noncomputable abbrev Dq (K : PySem.W.Frag) (mg : Str → Option Value) (x : Str) (st : Stmt) : Prop := ∃ (f : Addr) (fd : FuncData), mg x = some (.ref f) ∧ Fun K x x st f fd
theorem dq {K : PySem.W.Frag} {h : Heap} {mg : Str → Option Value} (X : K.In h) (G : h.Ns mainGlobals mg) {x : Str} {st : Stmt} {f : Addr} {od an : Option Addr} {sl : Array (Option Value)} {oc kV dc pm cd ct : Value} (a : PySem.W.nsIn K mainGlobals x = some (some (.ref f))) (l : K.lookup f = some ⟨oc, od, .func (PySem.W.fnOf x x (defArgs st) (defBody st) (defScope st) .none kV dc pm an cd ct), sl⟩) (c : PySem.W.codeIn K cd x = true) (k : PySem.W.keepIn K (.ref f) = true) : Dq K mg x st := ⟨f, _, PySem.W.mg_of X G a, fun_mk (st := st) l c k⟩
theorem cA_of {K : PySem.W.Frag} {x : Str} {C : Addr} (h : PySem.W.nsIn K mainGlobals x = some (some (.ref C))) : cA K x = C := by
  unfold cA
  rw [h]
theorem all_mk {l : PySem.W.OpenLaw} {w : World} {K : PySem.W.Frag} {h : Heap} {mg : Str → Option Value} {fa : Addr} (X : K.In h) (G : h.Ns mainGlobals mg) (hfa : mg "law" = some (.ref fa))
    (d0 : Dq K mg "raised_by" s_raised_by)
    (d1 : Dq K mg "led_to" s_led_to)
    (d2 : Dq K mg "is_open" s_is_open)
    (d3 : Dq K mg "can_go" s_can_go)
    (d4 : Dq K mg "places_gone" s_places_gone)
    (d5 : Dq K mg "refuse_long_walk" s_refuse_long_walk)
    (d6 : Dq K mg "is_whole" s_is_whole)
    (d7 : Dq K mg "is_room" s_is_room)
    (d8 : Dq K mg "refuse_bad_places" s_refuse_bad_places)
    (d9 : Dq K mg "is_sign" s_is_sign)
    (d10 : Dq K mg "is_deed" s_is_deed)
    (d11 : Dq K mg "is_way" s_is_way)
    (d12 : Dq K mg "are_ways" s_are_ways)
    (d13 : Dq K mg "is_house" s_is_house)
    (d14 : Dq K mg "refuse_no_house" s_refuse_no_house)
    (d15 : Dq K mg "walked" s_walked)
    (d16 : Dq K mg "_law_whole" s__law_whole)
    (d17 : Dq K mg "_law_row" s__law_row)
    (d18 : Dq K mg "_law_behind" s__law_behind)
    (d19 : Dq K mg "_law_gone" s__law_gone)
    (d20 : Dq K mg "_law_is" s__law_is)
    (d21 : Dq K mg "_law_kind" s__law_kind)
    (d22 : Dq K mg "_law_first_bad" s__law_first_bad)
    (d23 : Dq K mg "_law_mixed" s__law_mixed)
    (d24 : Dq K mg "_law_draws" s__law_draws)
    (d25 : Dq K mg "_law_cell" s__law_cell)
    (d26 : Dq K mg "_law_drawn_walk" s__law_drawn_walk)
    (d27 : Dq K mg "_law_number" s__law_number)
    (d28 : Dq K mg "_law_spare" s__law_spare)
    (d29 : Dq K mg "_law_place" s__law_place)
    (d30 : Dq K mg "_law_unlike" s__law_unlike)
    (d31 : Dq K mg "_law_drawn_house" s__law_drawn_house)
    (d32 : Dq K mg "_law_gate_house" s__law_gate_house)
    (d33 : Dq K mg "_law_ring_house" s__law_ring_house)
    (d34 : Dq K mg "_law_house" s__law_house)
    {f35 : Addr} {od35 an35 : Option Addr} {sl35 : Array (Option Value)} {oc35 kV35 dc35 pm35 cd35 ct35 : Value} (a35 : PySem.W.nsIn K mainGlobals "law" = some (some (.ref f35))) (l35 : K.lookup f35 = some ⟨oc35, od35, .func (PySem.W.fnOf "law" "law" (defArgs s_law) (defBody s_law) (defScope s_law) .none kV35 dc35 pm35 an35 cd35 ct35), sl35⟩) (c35 : PySem.W.codeIn K cd35 "law" = true) (k35 : PySem.W.keepIn K (.ref f35) = true)
    (z0 : PySem.W.nsIn K mainGlobals "len" = some none)
    (z1 : PySem.W.nsIn K mainGlobals "isinstance" = some none)
    (z2 : PySem.W.nsIn K mainGlobals "tuple" = some none)
    (z3 : PySem.W.nsIn K mainGlobals "list" = some none)
    (z4 : PySem.W.nsIn K mainGlobals "int" = some none)
    (z5 : PySem.W.nsIn K mainGlobals "bool" = some none)
    (z6 : PySem.W.nsIn K mainGlobals "range" = some none)
    (z7 : PySem.W.nsIn K mainGlobals "zip" = some none)
    (z8 : PySem.W.nsIn K mainGlobals "max" = some none)
    (z9 : PySem.W.nsIn K mainGlobals "min" = some none)
    (z10 : PySem.W.nsIn K mainGlobals "abs" = some none)
    (z11 : PySem.W.nsIn K mainGlobals "all" = some none)
    (z12 : PySem.W.nsIn K mainGlobals "ValueError" = some none)
    (z13 : PySem.W.nsIn K mainGlobals "enumerate" = some none)
    (z14 : PySem.W.nsIn K mainGlobals "set" = some none)
    (z15 : PySem.W.nsIn K mainGlobals "str" = some none)
    {t0 : Tok} (v0 : PySem.W.nsIn K mainGlobals "LONGEST_WALK" = some (some (.int 20000 t0)))
    {t1 : Tok} (v1 : PySem.W.nsIn K mainGlobals "GREATEST_NUMBER" = some (some (.int 1000 t1)))
    {t2 : Tok} (v2 : PySem.W.nsIn K mainGlobals "GREATEST_WAYS" = some (some (.int 100 t2)))
    {t3 : Tok} (v3 : PySem.W.nsIn K mainGlobals "GREATEST_MANY" = some (some (.int 12 t3)))
    {e0 : Addr} {q0_0 u0_0 q0_1 u0_1 q0_2 u0_2 q0_3 u0_3 : Tok} {ep0 : Nat} (x0 : PySem.W.nsIn K mainGlobals "RAISED" = some (some (.ref e0))) (y0 : K.lookup e0 = some (gdO w [("up", q0_0, .int (1) u0_0), ("down", q0_1, .int (-1) u0_1), ("stay", q0_2, .int (0) u0_2), ("zero", q0_3, .int (0) u0_3)] ep0)) (w0 : (e0 == sysModules) = false)
    {e1 : Addr} {q1_0 u1_0 q1_1 u1_1 q1_2 u1_2 q1_3 u1_3 : Tok} {ep1 : Nat} (x1 : PySem.W.nsIn K mainGlobals "TURNED" = some (some (.ref e1))) (y1 : K.lookup e1 = some (gdO w [("up", q1_0, .str "down" u1_0), ("down", q1_1, .str "up" u1_1), ("stay", q1_2, .str "stay" u1_2), ("zero", q1_3, .str "zero" u1_3)] ep1)) (w1 : (e1 == sysModules) = false)
    (hxf : xfB K allC raisedC = true)
    (hxw0 : xwB K allC "NoWalk" = true) (XV_NoWalk : xvB K "NoWalk" = true) {CJ0 fJ0 : Addr} {odJ0 anJ0 : Option Addr} {slJ0 : Array (Option Value)} {kVJ0 dcJ0 pmJ0 cdJ0 ctJ0 : Value} (nJ0 : PySem.W.nsIn K mainGlobals "NoWalk" = some (some (.ref CJ0))) (aJ0 : PySem.W.findIn K (.ref CJ0) "__init__" = some (some (.ref fJ0))) (lJ0 : K.lookup fJ0 = some ⟨.type "function", odJ0, .func (PySem.W.fnOf "__init__" "NoWalk.__init__" (defArgs si_NoWalk) (defBody si_NoWalk) (defScope si_NoWalk) .none kVJ0 dcJ0 pmJ0 anJ0 cdJ0 ctJ0), slJ0⟩) (cJ0 : PySem.W.codeIn K cdJ0 "NoWalk.__init__" = true)
    : ∃ fd : FuncData, (∀ (s : Shared) (v : Value), BindsTo s fd ⟨[v], []⟩ [("_law_script", v)]) ∧ ∀ base : Heap, K.In base → base.Ns mainGlobals mg → FnOk l.prog w K mg base CX0 8 fa fd ["_law_script"] (sp_law K) := by
  have e := hfa.symm.trans (PySem.W.mg_of X G a35)
  cases e
  have T : Blt mg := ⟨PySem.W.mg_none_of X G z0, PySem.W.mg_none_of X G z1, PySem.W.mg_none_of X G z2, PySem.W.mg_none_of X G z3, PySem.W.mg_none_of X G z4, PySem.W.mg_none_of X G z5, PySem.W.mg_none_of X G z6, PySem.W.mg_none_of X G z7, PySem.W.mg_none_of X G z8, PySem.W.mg_none_of X G z9, PySem.W.mg_none_of X G z10, PySem.W.mg_none_of X G z11, PySem.W.mg_none_of X G z12, PySem.W.mg_none_of X G z13, PySem.W.mg_none_of X G z14, PySem.W.mg_none_of X G z15⟩
  have D0 : Dfn K mg "raised_by" s_raised_by ["way"] := let ⟨f, fd, a, F⟩ := d0; ⟨f, fd, a, F, F.binds (ps := ["way"]) fun _ _ _ _ _ _ us hl => match us, hl with | [_], _ => rfl⟩
  have D1 : Dfn K mg "led_to" s_led_to ["way", "place"] := let ⟨f, fd, a, F⟩ := d1; ⟨f, fd, a, F, F.binds (ps := ["way", "place"]) fun _ _ _ _ _ _ us hl => match us, hl with | [_, _], _ => rfl⟩
  have D2 : Dfn K mg "is_open" s_is_open ["way", "place"] := let ⟨f, fd, a, F⟩ := d2; ⟨f, fd, a, F, F.binds (ps := ["way", "place"]) fun _ _ _ _ _ _ us hl => match us, hl with | [_, _], _ => rfl⟩
  have D3 : Dfn K mg "can_go" s_can_go ["house", "place", "count"] := let ⟨f, fd, a, F⟩ := d3; ⟨f, fd, a, F, F.binds (ps := ["house", "place", "count"]) fun _ _ _ _ _ _ us hl => match us, hl with | [_, _, _], _ => rfl⟩
  have D4 : Dfn K mg "places_gone" s_places_gone ["house", "place", "walk"] := let ⟨f, fd, a, F⟩ := d4; ⟨f, fd, a, F, F.binds (ps := ["house", "place", "walk"]) fun _ _ _ _ _ _ us hl => match us, hl with | [_, _, _], _ => rfl⟩
  have D5 : Dfn K mg "refuse_long_walk" s_refuse_long_walk ["walk"] := let ⟨f, fd, a, F⟩ := d5; ⟨f, fd, a, F, F.binds (ps := ["walk"]) fun _ _ _ _ _ _ us hl => match us, hl with | [_], _ => rfl⟩
  have D6 : Dfn K mg "is_whole" s_is_whole ["thing"] := let ⟨f, fd, a, F⟩ := d6; ⟨f, fd, a, F, F.binds (ps := ["thing"]) fun _ _ _ _ _ _ us hl => match us, hl with | [_], _ => rfl⟩
  have D7 : Dfn K mg "is_room" s_is_room ["thing", "many"] := let ⟨f, fd, a, F⟩ := d7; ⟨f, fd, a, F, F.binds (ps := ["thing", "many"]) fun _ _ _ _ _ _ us hl => match us, hl with | [_, _], _ => rfl⟩
  have D8 : Dfn K mg "refuse_bad_places" s_refuse_bad_places ["house", "places"] := let ⟨f, fd, a, F⟩ := d8; ⟨f, fd, a, F, F.binds (ps := ["house", "places"]) fun _ _ _ _ _ _ us hl => match us, hl with | [_, _], _ => rfl⟩
  have D9 : Dfn K mg "is_sign" s_is_sign ["thing"] := let ⟨f, fd, a, F⟩ := d9; ⟨f, fd, a, F, F.binds (ps := ["thing"]) fun _ _ _ _ _ _ us hl => match us, hl with | [_], _ => rfl⟩
  have D10 : Dfn K mg "is_deed" s_is_deed ["thing"] := let ⟨f, fd, a, F⟩ := d10; ⟨f, fd, a, F, F.binds (ps := ["thing"]) fun _ _ _ _ _ _ us hl => match us, hl with | [_], _ => rfl⟩
  have D11 : Dfn K mg "is_way" s_is_way ["thing", "many"] := let ⟨f, fd, a, F⟩ := d11; ⟨f, fd, a, F, F.binds (ps := ["thing", "many"]) fun _ _ _ _ _ _ us hl => match us, hl with | [_, _], _ => rfl⟩
  have D12 : Dfn K mg "are_ways" s_are_ways ["thing", "many"] := let ⟨f, fd, a, F⟩ := d12; ⟨f, fd, a, F, F.binds (ps := ["thing", "many"]) fun _ _ _ _ _ _ us hl => match us, hl with | [_, _], _ => rfl⟩
  have D13 : Dfn K mg "is_house" s_is_house ["thing"] := let ⟨f, fd, a, F⟩ := d13; ⟨f, fd, a, F, F.binds (ps := ["thing"]) fun _ _ _ _ _ _ us hl => match us, hl with | [_], _ => rfl⟩
  have D14 : Dfn K mg "refuse_no_house" s_refuse_no_house ["thing"] := let ⟨f, fd, a, F⟩ := d14; ⟨f, fd, a, F, F.binds (ps := ["thing"]) fun _ _ _ _ _ _ us hl => match us, hl with | [_], _ => rfl⟩
  have D15 : Dfn K mg "walked" s_walked ["house", "place", "walk"] := let ⟨f, fd, a, F⟩ := d15; ⟨f, fd, a, F, F.binds (ps := ["house", "place", "walk"]) fun _ _ _ _ _ _ us hl => match us, hl with | [_, _, _], _ => rfl⟩
  have D16 : Dfn K mg "_law_whole" s__law_whole ["_law_found"] := let ⟨f, fd, a, F⟩ := d16; ⟨f, fd, a, F, F.binds (ps := ["_law_found"]) fun _ _ _ _ _ _ us hl => match us, hl with | [_], _ => rfl⟩
  have D17 : Dfn K mg "_law_row" s__law_row ["_law_found", "_law_many"] := let ⟨f, fd, a, F⟩ := d17; ⟨f, fd, a, F, F.binds (ps := ["_law_found", "_law_many"]) fun _ _ _ _ _ _ us hl => match us, hl with | [_, _], _ => rfl⟩
  have D18 : Dfn K mg "_law_behind" s__law_behind ["_law_house_here", "_law_place_here"] := let ⟨f, fd, a, F⟩ := d18; ⟨f, fd, a, F, F.binds (ps := ["_law_house_here", "_law_place_here"]) fun _ _ _ _ _ _ us hl => match us, hl with | [_, _], _ => rfl⟩
  have D19 : Dfn K mg "_law_gone" s__law_gone ["_law_house_here", "_law_place_here", "_law_walk"] := let ⟨f, fd, a, F⟩ := d19; ⟨f, fd, a, F, F.binds (ps := ["_law_house_here", "_law_place_here", "_law_walk"]) fun _ _ _ _ _ _ us hl => match us, hl with | [_, _, _], _ => rfl⟩
  have D20 : Dfn K mg "_law_is" s__law_is ["_law_found", "_law_due"] := let ⟨f, fd, a, F⟩ := d20; ⟨f, fd, a, F, F.binds (ps := ["_law_found", "_law_due"]) fun _ _ _ _ _ _ us hl => match us, hl with | [_, _], _ => rfl⟩
  have D21 : Dfn K mg "_law_kind" s__law_kind ["_law_e"] := let ⟨f, fd, a, F⟩ := d21; ⟨f, fd, a, F, F.binds (ps := ["_law_e"]) fun _ _ _ _ _ _ us hl => match us, hl with | [_], _ => rfl⟩
  have D22 : Dfn K mg "_law_first_bad" s__law_first_bad ["_law_house_here", "_law_place_here", "_law_walk"] := let ⟨f, fd, a, F⟩ := d22; ⟨f, fd, a, F, F.binds (ps := ["_law_house_here", "_law_place_here", "_law_walk"]) fun _ _ _ _ _ _ us hl => match us, hl with | [_, _, _], _ => rfl⟩
  have D23 : Dfn K mg "_law_mixed" s__law_mixed ["_law_cell_here", "_law_k", "_law_prime"] := let ⟨f, fd, a, F⟩ := d23; ⟨f, fd, a, F, F.binds (ps := ["_law_cell_here", "_law_k", "_law_prime"]) fun _ _ _ _ _ _ us hl => match us, hl with | [_, _, _], _ => rfl⟩
  have D24 : Dfn K mg "_law_draws" s__law_draws ["_law_cell_here", "_law_widths", "_law_prime"] := let ⟨f, fd, a, F⟩ := d24; ⟨f, fd, a, F, F.binds (ps := ["_law_cell_here", "_law_widths", "_law_prime"]) fun _ _ _ _ _ _ us hl => match us, hl with | [_, _, _], _ => rfl⟩
  have D25 : Dfn K mg "_law_cell" s__law_cell ["_law_script", "_law_k"] := let ⟨f, fd, a, F⟩ := d25; ⟨f, fd, a, F, F.binds (ps := ["_law_script", "_law_k"]) fun _ _ _ _ _ _ us hl => match us, hl with | [_, _], _ => rfl⟩
  have D26 : Dfn K mg "_law_drawn_walk" s__law_drawn_walk ["_law_house_here", "_law_place_here", "_law_script"] := let ⟨f, fd, a, F⟩ := d26; ⟨f, fd, a, F, F.binds (ps := ["_law_house_here", "_law_place_here", "_law_script"]) fun _ _ _ _ _ _ us hl => match us, hl with | [_, _, _], _ => rfl⟩
  have D27 : Dfn K mg "_law_number" s__law_number ["_law_cell_here", "_law_prime"] := let ⟨f, fd, a, F⟩ := d27; ⟨f, fd, a, F, F.binds (ps := ["_law_cell_here", "_law_prime"]) fun _ _ _ _ _ _ us hl => match us, hl with | [_, _], _ => rfl⟩
  have D28 : Dfn K mg "_law_spare" s__law_spare ["_law_cell_here", "_law_width"] := let ⟨f, fd, a, F⟩ := d28; ⟨f, fd, a, F, F.binds (ps := ["_law_cell_here", "_law_width"]) fun _ _ _ _ _ _ us hl => match us, hl with | [_, _], _ => rfl⟩
  have D29 : Dfn K mg "_law_place" s__law_place ["_law_house_here", "_law_cell_here", "_law_prime"] := let ⟨f, fd, a, F⟩ := d29; ⟨f, fd, a, F, F.binds (ps := ["_law_house_here", "_law_cell_here", "_law_prime"]) fun _ _ _ _ _ _ us hl => match us, hl with | [_, _, _], _ => rfl⟩
  have D30 : Dfn K mg "_law_unlike" s__law_unlike ["_law_ways"] := let ⟨f, fd, a, F⟩ := d30; ⟨f, fd, a, F, F.binds (ps := ["_law_ways"]) fun _ _ _ _ _ _ us hl => match us, hl with | [_], _ => rfl⟩
  have D31 : Dfn K mg "_law_drawn_house" s__law_drawn_house ["_law_cell_here", "_law_prime"] := let ⟨f, fd, a, F⟩ := d31; ⟨f, fd, a, F, F.binds (ps := ["_law_cell_here", "_law_prime"]) fun _ _ _ _ _ _ us hl => match us, hl with | [_, _], _ => rfl⟩
  have D32 : Dfn K mg "_law_gate_house" s__law_gate_house ["_law_cell_here", "_law_prime"] := let ⟨f, fd, a, F⟩ := d32; ⟨f, fd, a, F, F.binds (ps := ["_law_cell_here", "_law_prime"]) fun _ _ _ _ _ _ us hl => match us, hl with | [_, _], _ => rfl⟩
  have D33 : Dfn K mg "_law_ring_house" s__law_ring_house ["_law_cell_here", "_law_prime"] := let ⟨f, fd, a, F⟩ := d33; ⟨f, fd, a, F, F.binds (ps := ["_law_cell_here", "_law_prime"]) fun _ _ _ _ _ _ us hl => match us, hl with | [_, _], _ => rfl⟩
  have D34 : Dfn K mg "_law_house" s__law_house ["_law_cell_here", "_law_prime"] := let ⟨f, fd, a, F⟩ := d34; ⟨f, fd, a, F, F.binds (ps := ["_law_cell_here", "_law_prime"]) fun _ _ _ _ _ _ us hl => match us, hl with | [_, _], _ => rfl⟩
  refine ⟨PySem.W.fnOf "law" "law" (defArgs s_law) (defBody s_law) (defScope s_law) .none kV35 dc35 pm35 an35 cd35 ct35, fun s v => .of_eq rfl, fun base KB GB => ?_⟩
  have XF : Xf K mg base allC raisedC := xf_mk KB GB hxf
  have XW_NoWalk : XfI K mg allC "NoWalk" := xw_mk X G hxw0 (by rw [cA_of nJ0]; exact aJ0) lJ0 cJ0 ⟨_, _, _, _, rfl⟩ sci_NoWalk rfl rfl (fun s u v => .of_eq rfl)
  have C0 := @ok_raised_by l.prog w K mg base D0 T ⟨_, PySem.W.mg_of X G x0, gdk_RAISED y0 w0⟩
  have C1 := @ok_led_to l.prog w K mg base D1 T C0
  have C2 := @ok_is_open l.prog w K mg base D2 T
  have C3 := @ok_can_go l.prog w K mg base D3 T C2
  have C4 := @ok_places_gone l.prog w K mg base D4 T C1 C3
  have C5 : CalX l.prog w K mg base "refuse_long_walk" 1 ["walk"] (sp_refuse_long_walk K) := ok_refuse_long_walk D5 T ⟨_, PySem.W.mg_of X G v0⟩ XF
  have C6 := @ok_is_whole l.prog w K mg base D6 T
  have C7 := @ok_is_room l.prog w K mg base D7 T C6
  have C8 : CalX l.prog w K mg base "refuse_bad_places" 3 ["house", "places"] (sp_refuse_bad_places K) := ok_refuse_bad_places D8 T ⟨_, PySem.W.mg_of X G v1⟩ XF C7
  have C9 := @ok_is_sign l.prog w K mg base D9 T
  have C10 := @ok_is_deed l.prog w K mg base D10 T ⟨_, PySem.W.mg_of X G x1, gdk_TURNED y1 w1⟩
  have C11 := @ok_is_way l.prog w K mg base D11 T C9 C10 C7
  have C12 := @ok_are_ways l.prog w K mg base D12 T ⟨_, PySem.W.mg_of X G v2⟩ C11
  have C13 := @ok_is_house l.prog w K mg base D13 T ⟨_, PySem.W.mg_of X G v3⟩ C12 C6
  have C14 : CalX l.prog w K mg base "refuse_no_house" 6 ["thing"] (sp_refuse_no_house K) := ok_refuse_no_house D14 T XF C13
  have C15 : CalX l.prog w K mg base "walked" 7 ["house", "place", "walk"] (sp_walked K) := ok_walked D15 T XW_NoWalk C4 C5 C8 C14
  have C16 := @ok__law_whole l.prog w K mg base D16 T
  have C17 := @ok__law_row l.prog w K mg base D17 T C16
  have C18 := @ok__law_behind l.prog w K mg base D18 T
  have C19 := @ok__law_gone l.prog w K mg base D19 T C18
  have C20 := @ok__law_is l.prog w K mg base D20 T C16
  have C21 : ∀ (x : Addr) (oe : Obj) (Dx : Addr), ExcK K Dx → oe.cls = .ref Dx → (∃ vs, oe.data = .fields vs ∧ vs[2]? = some .none) → CalH l.prog w K mg base "_law_kind" 1 ["_law_e"] x oe (sp__law_kind K x Dx) := fun x oe Dx hK hc hal => ok__law_kind D21 T XF hK hc hal
  have C22 := @ok__law_first_bad l.prog w K mg base D22 T C18
  have C23 := @ok__law_mixed l.prog w K mg base D23 T
  have C24 := @ok__law_draws l.prog w K mg base D24 T C23
  have C25 := @ok__law_cell l.prog w K mg base D25 T
  have C26 := @ok__law_drawn_walk l.prog w K mg base D26 T C18 C24 C25
  have C27 := @ok__law_number l.prog w K mg base D27 T C24
  have C28 := @ok__law_spare l.prog w K mg base D28 T
  have C29 := @ok__law_place l.prog w K mg base D29 T C24
  have C30 := @ok__law_unlike l.prog w K mg base D30 T
  have C31 := @ok__law_drawn_house l.prog w K mg base D31 T C30 C24
  have C32 := @ok__law_gate_house l.prog w K mg base D32 T C30 C24
  have C33 := @ok__law_ring_house l.prog w K mg base D33 T C24
  have C34 := @ok__law_house l.prog w K mg base D34 T C31 C32 C33 C28 C24
  exact ok_law (fun_mk (st := s_law) l35 c35 k35) T XF XW_NoWalk XV_NoWalk C17 C19 C20 C22 C26 C24 C25 C27 C28 C29 C34 C15.cal C15 C21
theorem walk {l : PySem.W.OpenLaw} {q : Program} {loose : List Str} {XP : (Str → Option Value) → Heap → Prop} {YP : World → Heap → Prop} {d : DefRec} {K : Params → PySem.W.Frag} (hn : l.most = some 63) (hdf : d.params.defaults = [])
    (hY : ∀ (w : World) (h : Heap), YP w h → (K w.params).In h)
    (F : ∀ (w : World) (mg : Str → Option Value) (fa : Addr) (h : Heap), (K w.params).In h → h.Ns mainGlobals mg → mg d.name = some (.ref fa) →
      ∃ fd : FuncData, (∀ (s : Shared) (u : Value), BindsTo s fd ⟨[u], []⟩ [("_law_script", u)]) ∧ ∀ base : Heap, (K w.params).In base → base.Ns mainGlobals mg → FnOk l.prog w (K w.params) mg base CX0 8 fa fd ["_law_script"] (sp_law (K w.params))) :
    PySem.W.WalkO q loose XP YP l.row.toRowW d [] (fun f vs => PySem.call f vs) :=
  L2.walk_of (n := 63) (k := 8) (x := "_law_script") (CX := fun _ => CX0) (sp := fun w => sp_law (K w.params)) hn (by decide) hdf ⟨rfl, by decide, by decide⟩ hY F (fun _ _ a ns hl _ hS => ⟨a, ns, rfl, hS, hl, fun _ => rfl⟩) fun _ _ _ _ _ z => z
end My
open PySem PySem.W PyProof.Rows
set_option maxRecDepth 100000 in
set_option maxHeartbeats 0 in
theorem PySem.Challenge.cw_stairrooms_k19_walked_holds : PySem.Challenge.rw_stairrooms_k19_walked.Holds := by
  refine My.top ?_
  k_fill
  refine My.walk (l := PySem.Challenge.rw_stairrooms_k19_walked) rfl rfl (fun w h Y => by first | exact PySem.W.kIn_of Y | exact PySem.W.km_in_of Y) ?F
  case F =>
    intro w mg fa h KX G hmg
    refine' My.all_mk KX G hmg (My.dq KX G ?a0 ?l0 ?c0 ?k0) (My.dq KX G ?a1 ?l1 ?c1 ?k1) (My.dq KX G ?a2 ?l2 ?c2 ?k2) (My.dq KX G ?a3 ?l3 ?c3 ?k3) (My.dq KX G ?a4 ?l4 ?c4 ?k4) (My.dq KX G ?a5 ?l5 ?c5 ?k5) (My.dq KX G ?a6 ?l6 ?c6 ?k6) (My.dq KX G ?a7 ?l7 ?c7 ?k7) (My.dq KX G ?a8 ?l8 ?c8 ?k8) (My.dq KX G ?a9 ?l9 ?c9 ?k9) (My.dq KX G ?a10 ?l10 ?c10 ?k10) (My.dq KX G ?a11 ?l11 ?c11 ?k11) (My.dq KX G ?a12 ?l12 ?c12 ?k12) (My.dq KX G ?a13 ?l13 ?c13 ?k13) (My.dq KX G ?a14 ?l14 ?c14 ?k14) (My.dq KX G ?a15 ?l15 ?c15 ?k15) (My.dq KX G ?a16 ?l16 ?c16 ?k16) (My.dq KX G ?a17 ?l17 ?c17 ?k17) (My.dq KX G ?a18 ?l18 ?c18 ?k18) (My.dq KX G ?a19 ?l19 ?c19 ?k19) (My.dq KX G ?a20 ?l20 ?c20 ?k20) (My.dq KX G ?a21 ?l21 ?c21 ?k21) (My.dq KX G ?a22 ?l22 ?c22 ?k22) (My.dq KX G ?a23 ?l23 ?c23 ?k23) (My.dq KX G ?a24 ?l24 ?c24 ?k24) (My.dq KX G ?a25 ?l25 ?c25 ?k25) (My.dq KX G ?a26 ?l26 ?c26 ?k26) (My.dq KX G ?a27 ?l27 ?c27 ?k27) (My.dq KX G ?a28 ?l28 ?c28 ?k28) (My.dq KX G ?a29 ?l29 ?c29 ?k29) (My.dq KX G ?a30 ?l30 ?c30 ?k30) (My.dq KX G ?a31 ?l31 ?c31 ?k31) (My.dq KX G ?a32 ?l32 ?c32 ?k32) (My.dq KX G ?a33 ?l33 ?c33 ?k33) (My.dq KX G ?a34 ?l34 ?c34 ?k34) ?a35 ?l35 ?c35 ?k35 ?z0 ?z1 ?z2 ?z3 ?z4 ?z5 ?z6 ?z7 ?z8 ?z9 ?z10 ?z11 ?z12 ?z13 ?z14 ?z15 ?v0 ?v1 ?v2 ?v3 ?x0 ?y0 ?w0 ?x1 ?y1 ?w1 ?hxf ?hxw0 ?hxv0 ?nJ0 ?aJ0 ?lJ0 ?cJ0
    (case a0 => k_is); (case l0 => k_is); (case c0 => k_is); (case k0 => k_is)
    (case a1 => k_is); (case l1 => k_is); (case c1 => k_is); (case k1 => k_is)
    (case a2 => k_is); (case l2 => k_is); (case c2 => k_is); (case k2 => k_is)
    (case a3 => k_is); (case l3 => k_is); (case c3 => k_is); (case k3 => k_is)
    (case a4 => k_is); (case l4 => k_is); (case c4 => k_is); (case k4 => k_is)
    (case a5 => k_is); (case l5 => k_is); (case c5 => k_is); (case k5 => k_is)
    (case a6 => k_is); (case l6 => k_is); (case c6 => k_is); (case k6 => k_is)
    (case a7 => k_is); (case l7 => k_is); (case c7 => k_is); (case k7 => k_is)
    (case a8 => k_is); (case l8 => k_is); (case c8 => k_is); (case k8 => k_is)
    (case a9 => k_is); (case l9 => k_is); (case c9 => k_is); (case k9 => k_is)
    (case a10 => k_is); (case l10 => k_is); (case c10 => k_is); (case k10 => k_is)
    (case a11 => k_is); (case l11 => k_is); (case c11 => k_is); (case k11 => k_is)
    (case a12 => k_is); (case l12 => k_is); (case c12 => k_is); (case k12 => k_is)
    (case a13 => k_is); (case l13 => k_is); (case c13 => k_is); (case k13 => k_is)
    (case a14 => k_is); (case l14 => k_is); (case c14 => k_is); (case k14 => k_is)
    (case a15 => k_is); (case l15 => k_is); (case c15 => k_is); (case k15 => k_is)
    (case a16 => k_is); (case l16 => k_is); (case c16 => k_is); (case k16 => k_is)
    (case a17 => k_is); (case l17 => k_is); (case c17 => k_is); (case k17 => k_is)
    (case a18 => k_is); (case l18 => k_is); (case c18 => k_is); (case k18 => k_is)
    (case a19 => k_is); (case l19 => k_is); (case c19 => k_is); (case k19 => k_is)
    (case a20 => k_is); (case l20 => k_is); (case c20 => k_is); (case k20 => k_is)
    (case a21 => k_is); (case l21 => k_is); (case c21 => k_is); (case k21 => k_is)
    (case a22 => k_is); (case l22 => k_is); (case c22 => k_is); (case k22 => k_is)
    (case a23 => k_is); (case l23 => k_is); (case c23 => k_is); (case k23 => k_is)
    (case a24 => k_is); (case l24 => k_is); (case c24 => k_is); (case k24 => k_is)
    (case a25 => k_is); (case l25 => k_is); (case c25 => k_is); (case k25 => k_is)
    (case a26 => k_is); (case l26 => k_is); (case c26 => k_is); (case k26 => k_is)
    (case a27 => k_is); (case l27 => k_is); (case c27 => k_is); (case k27 => k_is)
    (case a28 => k_is); (case l28 => k_is); (case c28 => k_is); (case k28 => k_is)
    (case a29 => k_is); (case l29 => k_is); (case c29 => k_is); (case k29 => k_is)
    (case a30 => k_is); (case l30 => k_is); (case c30 => k_is); (case k30 => k_is)
    (case a31 => k_is); (case l31 => k_is); (case c31 => k_is); (case k31 => k_is)
    (case a32 => k_is); (case l32 => k_is); (case c32 => k_is); (case k32 => k_is)
    (case a33 => k_is); (case l33 => k_is); (case c33 => k_is); (case k33 => k_is)
    (case a34 => k_is); (case l34 => k_is); (case c34 => k_is); (case k34 => k_is)
    (case a35 => k_is); (case l35 => k_is); (case c35 => k_is); (case k35 => k_is)
    (case z0 => k_is)
    (case z1 => k_is)
    (case z2 => k_is)
    (case z3 => k_is)
    (case z4 => k_is)
    (case z5 => k_is)
    (case z6 => k_is)
    (case z7 => k_is)
    (case z8 => k_is)
    (case z9 => k_is)
    (case z10 => k_is)
    (case z11 => k_is)
    (case z12 => k_is)
    (case z13 => k_is)
    (case z14 => k_is)
    (case z15 => k_is)
    (case v0 => k_is)
    (case v1 => k_is)
    (case v2 => k_is)
    (case v3 => k_is)
    (case x0 => k_is); (case y0 => k_is); (case w0 => first | rfl | k_is)
    (case x1 => k_is); (case y1 => k_is); (case w1 => first | rfl | k_is)
    (case hxf => first | kernel_rfl | k_is)
    (case hxv0 => first | kernel_rfl | k_is)
    (case hxw0 => first | kernel_rfl | k_is); (case nJ0 => k_is); (case aJ0 => k_is); (case lJ0 => k_is); (case cJ0 => k_is)
