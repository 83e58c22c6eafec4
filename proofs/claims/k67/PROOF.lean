import PyProof.Rows.All
import Wide.All
import OpenK.AllK
import Wide.FinOn
import Lean
import PyProof.EqAt
import PyProof.EqKinds
import PyProof.TupleCall
import KE.KLam
import PySem.Challenge.RW_stairrooms_k67_what_is_a_line
set_option Elab.async false
namespace PySem.W.Fast
def tw4913948639741486535:=0
def tw4372063863064256449:=0
def tw2199959158694611284:=0
def tw17255055402382703068:=0
def tw16725872844886285762:=0
def tw897556049694929739:=0
def tw4878039616555099582:=0
def tw16398102544092031521:=0
def tw9478813727029378433:=0
def tw16386913830018001124:=0
def tw3227948333407837532:=0
def tw11258306804293243132:=0
def tw253724354142678732:=0
def tw11774656981024081848:=0
def tw4373642396805675364:=0
def tw14757225000569427560:=0
def tw1051583392116282988:=0
def tw4708572616275660465:=0
def tw317520914050522945:=0
def tw17733047304165068773:=0
def tw15738021625795601203:=0
def tw12604261892636925892:=0
def tw8325147438673079581:=0
def tw2973379562459248654:=0
def tw16040925991244642869:=0
def tw17260584022165661726:=0
def tw911810538002268367:=0
def tw5824247625822886979:=0
def tw17179734013377141832:=0
def tw11721133333301373747:=0
def tw14185583342123384908:=0
def tw10760031201136348398:=0
def tw6492568839464336172:=0
def tw14309114003992510232:=0
def tw11040902395418374828:=0
def tw3634083293858476255:=0
def tw3809979766996421824:=0
def tw4221310431163856405:=0
def tw15415030129712708594:=0
def tw6592538181826838868:=0
def tw6460737211137875664:=0
def tw10166892954511498249:=0
def tw12909053014537255453:=0
def tw11855722608778128229:=0
def tw14702557882293241901:=0
def tw9002392303285804385:=0
def tw4918694162171632466:=0
def tw10350288868709284642:=0
def tw16681148162138885154:=0
def tw14526562022302103730:=0
def tw6502013626171302762:=0
def tw13679643304169797691:=0
def tw8878512636737413035:=0
def tw9779106197386186623:=0
def tw3501889831259424984:=0
def tw16673904708825642869:=0
def tw11930047750849440119:=0
def tw1692235544166657602:=0
def tw11296645311156999791:=0
def tw3015604971527890583:=0
def tw2122511160286549640:=0
def tw11672800155852956706:=0
def tw8201457069280204918:=0
def tw7387496920539170626:=0
def tw11029396596865941829:=0
def tw7091575474642696731:=0
def tw6034192224097964318:=0
def tw2801974123689400889:=0
def tw13261574445939288711:=0
def tw621812022307901172:=0
def tw3855638733940352994:=0
def tw14999770152523916156:=0
def tw4264358708234735246:=0
def tw3924725502804413793:=0
def tw14836224472968703893:=0
def tw12390782021942118942:=0
def tw11408623696531555632:=0
def tw3773624442522805073:=0
def tw3093781508513788219:=0
def tw1322433467843712534:=0
def tw11655376856063916228:=0
def tw9867131338692390694:=0
def tw447717403241242290:=0
def tw3023512204820289533:=0
def tw1536147683505774889:=0
def tw13959506387132580666:=0
def tw12664327836493813462:=0
def tw8562296191053873827:=0
def tw7575712259109976473:=0
def tw6463597329013779217:=0
def tw6406724726538629663:=0
def tw5279998573280466062:=0
def tw16176690743668362219:=0
def tw14988306749868862141:=0
def tw11971130579796114034:=0
def tw1057306937073154610:=0
def tw9834661911540460081:=0
def tw8385567426930851361:=0
def tw6584469308530667732:=0
def tw439055297870408345:=0
def tw3299272117925849540:=0
def tw2904058922640873309:=0
def tw1930558828605614237:=0
def tw18174231678347352628:=0
def tw16949064816178058999:=0
def tw15881911615934975264:=0
def tw14075074499185348901:=0
def tw10932722520931459696:=0
def tw6690677384477064843:=0
def tw6403897618177400563:=0
def tw6089560412477784131:=0
def tw4801039527111802282:=0
def tw17109937557647268800:=0
def tw17002439396945247550:=0
def tw1697718313761481620:=0
def tw15732654264858244716:=0
def tw15250516977012177893:=0
def tw14646051411932343840:=0
def tw13956058649364723422:=0
def tw12801111013253028214:=0
def tw10548826715568245312:=0
def tw8744267035563872481:=0
def tw7393957277229836691:=0
def tw6878535200312667207:=0
def tw5619098228389421230:=0
def tw3457502311278330140:=0
def tw2308842233520690658:=0
def tw2168224380260717174:=0
def tw1875788394568091543:=0
def tw18147453742554186446:=0
def tw18133197322224867361:=0
def tw17405974757215459542:=0
def tw15968237232650601322:=0
def tw14832175709080873599:=0
def tw13580389790971816817:=0
def tw13114515122707653793:=0
def tw1296409530997820298:=0
def tw11872690636868124001:=0
def tw8863156965792605256:=0
def tw8576866337993464856:=0
def tw4102359912796715673:=0
def tw3625882601150649006:=0
def tw3319072228906548485:=0
def tw3121732170634265723:=0
def tw2762985067018713519:=0
def tw18416646843746589632:=0
def tw16178294753266878621:=0
def tw15699315692412800413:=0
def tw15269425654929456476:=0
def tw1059446635175154315:=0
def tw10154314827766144001:=0
def tw902582806634263858:=0
def tw8856496367326549158:=0
def tw8125729627420895708:=0
def tw7889161881964539818:=0
def tw7202327286928840429:=0
def tw705330452703051597:=0
def tw6093179522131556990:=0
def tw55107133691585252:=0
def tw4992925186480290751:=0
def tw3975676623463710300:=0
def tw1898551579183717137:=0
def tw17651429341429293936:=0
def tw1754243070517289278:=0
def tw15524740491475941218:=0
def tw1539576199135281160:=0
def tw14882510809304047780:=0
def tw1465564398378206461:=0
def tw14566858309784005721:=0
def tw13587954947775276195:=0
def tw10607476577711411036:=0
def tw9308319285386913480:=0
def tw9028414481108622758:=0
def tw8938549127931359579:=0
def tw8835519533490355076:=0
def tw8185630143887121337:=0
def tw8128315874942280492:=0
def tw6620348973694338139:=0
def tw6056548384089880543:=0
def tw18066811921283522515:=0
def tw17949153669898374660:=0
def tw15856698116174445793:=0
def tw14800109303040266240:=0
def tw1304240117979556626:=0
def tw11909862417612479929:=0
def tw11858878876565515630:=0
def tw11735653163353574974:=0
def tw11383850339681254435:=0
def tw10150324261921262226:=0
def tw9281662355237421915:=0
def tw9248597171148506525:=0
def tw6588169051226274246:=0
def tw6266016949813577251:=0
def tw5725444066816760673:=0
def tw5136782093820589260:=0
def tw477595423994022719:=0
def tw4746302684295054048:=0
def tw4137366243734310183:=0
def tw2648121624305032702:=0
def tw16967094079153205249:=0
def tw16865412676593439493:=0
def tw16080655234471338842:=0
def tw15414259988211055499:=0
def tw15313990622018235984:=0
def tw14560837491469231475:=0
def tw13838018814042065490:=0
def tw12969595849073868859:=0
def tw12170451868844119946:=0
def tw12124443520851957044:=0
def tw11469663846147530161:=0
def tw10576813361638309727:=0
def tw10500720501580190231:=0
def tw9916047131747534395:=0
def tw931510637493425866:=0
def tw8708482821940700748:=0
def tw8568187914498332850:=0
def tw82748431570670151:=0
def tw8186763794367992775:=0
def tw7750769465160294860:=0
def tw7627118995241731642:=0
def tw7383744862196479187:=0
def tw7341270039093922885:=0
def tw7134983793405793177:=0
def tw7115244209674446852:=0
def tw6583481740336291847:=0
def tw6393150591798677637:=0
def tw6178244272827954729:=0
def tw6121026886529796221:=0
def tw5472344985826550877:=0
def tw5140171473248983199:=0
def tw4337561567144917162:=0
def tw3941131271490555836:=0
def tw3866599564448483793:=0
def tw3841998164913821987:=0
def tw3797301031838899788:=0
def tw3104486758596841148:=0
def tw1901317781093569649:=0
def tw18032779900021213040:=0
def tw17990003072128590093:=0
def tw17729564300890611173:=0
def tw17652695096001567504:=0
def tw17628590533929976792:=0
def tw17571631200592639834:=0
def tw17438179399263098937:=0
def tw17329969520162680104:=0
def tw17258839070269863901:=0
def tw17065142239566038489:=0
def tw16964212798373946863:=0
def tw16924412733494049589:=0
def tw16503717402094505217:=0
def tw16477329177891185698:=0
def tw16283258727396688951:=0
def tw16245695487900975421:=0
def tw16221219022901355867:=0
def tw15801317192440724364:=0
def tw15729792075999087868:=0
def tw15565656631415577005:=0
def tw15186367229040268510:=0
def tw15170883547044141151:=0
def tw1488474676173749703:=0
def tw14793259975867257014:=0
def tw14775263502782431712:=0
def tw14670137783204244808:=0
def tw14221475358252599964:=0
def tw14221084762423404224:=0
def tw14025392896863203041:=0
def tw13135487405686255751:=0
def tw12951820434879171755:=0
def tw12357872333080808881:=0
def tw12065540673060277790:=0
def tw11787554532782738252:=0
def tw11364142691922409913:=0
def tw11339562753883754242:=0
def tw11137535781475439334:=0
def tw10769681086646498438:=0
def tw1069010634818593453:=0
def tw1004593339420490729:=0
def tw976709547398631384:=0
def tw974001917477778970:=0
def tw9145153853609440834:=0
def tw8247069255634196442:=0
def tw8111691339550187361:=0
def tw8035931760809384120:=0
def tw762384175361060421:=0
def tw7620779201999659187:=0
def tw7247887190665584843:=0
def tw7175792842613744815:=0
def tw684117499851941213:=0
def tw5425565988235752197:=0
def tw4933930183700603765:=0
def tw4930073243635710979:=0
def tw3566807236516140644:=0
def tw3008007984704827758:=0
def tw2800321189394573348:=0
def tw18189657841938801392:=0
def tw18127141830633905074:=0
def tw17939888687896264705:=0
def tw17843839365795533554:=0
def tw178370783828623596:=0
def tw1682181479755940848:=0
def tw16306601271817509428:=0
def tw16291823179772653766:=0
def tw16204094875209007955:=0
def tw16118308844857193260:=0
def tw16029895960380650870:=0
def tw15831574140416324556:=0
def tw15660991250957307376:=0
def tw14876317631354250296:=0
def tw14750251384015127882:=0
def tw13392218115919352882:=0
def tw12865433501954476891:=0
def tw12289990805704456368:=0
def tw11788803944947964044:=0
def tw9539095207651657643:=0
def tw8487562230406468105:=0
def tw8057538161448419100:=0
def tw7937346951877118417:=0
def tw7258929849126983957:=0
def tw6704578965310311189:=0
def tw6169767553621521813:=0
def tw6130821448147606368:=0
def tw5950158449063615346:=0
def tw5708804837514111757:=0
def tw4088347019790499076:=0
def tw2792723481025802335:=0
def tw2780415966309772251:=0
def tw2696157109874119690:=0
def tw17915051066750267265:=0
def tw1751447207448873119:=0
def tw17259577006381911698:=0
def tw16821967185522334815:=0
def tw15073084007737812838:=0
def tw14109453767193502313:=0
def tw14044808164122211230:=0
def tw1382559312744143635:=0
def tw10276969695076772373:=0
def tw10118012357411222232:=0
def tw10035081181641441020:=0
def tw9642658117253805749:=0
def tw9556445936838501458:=0
def tw837507559583589549:=0
def tw6976374140160972476:=0
def tw6619962110570900069:=0
def tw6617364818316592001:=0
def tw5612490812926955764:=0
def tw5102186755607942603:=0
def tw501385587569502014:=0
def tw4732811752034325442:=0
def tw4248219703154640514:=0
def tw404968458719316295:=0
def tw3608133595379548684:=0
def tw1921160878016633958:=0
def tw1906729888136766467:=0
def tw18324572440802094995:=0
def tw17790687332947784817:=0
def tw167336832753583806:=0
def tw15769360928889565510:=0
def tw14931363111589739018:=0
def tw14585778381282314952:=0
def tw14451425568386719407:=0
def tw14424131277925039975:=0
def tw14318957944991924802:=0
def tw14292392306617517729:=0
def tw1311390456105013778:=0
def tw12261729195969336472:=0
def tw12078363514133923244:=0
def tw119775208399524090:=0
def tw11950575282948044451:=0
def tw11883736081812832149:=0
def tw10602856759635532317:=0
def tw10574732147149305561:=0
def tw1024123932853393264:=0
def tw9578026534446552097:=0
def tw9467629813166748578:=0
def tw940465597526089649:=0
def tw9404376500200941770:=0
def tw9337504207740955038:=0
def tw92919152876705750:=0
def tw9085195453500331236:=0
def tw8783073200307453229:=0
def tw8677169583234457159:=0
def tw8539956084285006220:=0
def tw8521597775319928436:=0
def tw8340926499216404060:=0
def tw8338600121835276020:=0
def tw8229460734390689525:=0
def tw8147721191793257292:=0
def tw8143298780573084396:=0
def tw8039774922555296384:=0
def tw800831887125934919:=0
def tw7863108119856694670:=0
def tw7796508728722278515:=0
def tw7693350481814642131:=0
def tw7316228966491291649:=0
def tw720755081136891062:=0
def tw7176572640101177836:=0
def tw7174068339476759842:=0
def tw6680830925899447215:=0
def tw6658185936689682968:=0
def tw6008010531490865865:=0
def tw5956051100702781606:=0
def tw590611807225418770:=0
def tw5766181095882713430:=0
def tw5643517080389645038:=0
def tw5442971307982108685:=0
def tw5168400519034163868:=0
def tw5060445219760521703:=0
def tw4997450903056089975:=0
def tw4959773886489378410:=0
def tw4939278323791658419:=0
def tw4769826392853288355:=0
def tw4672492687276399408:=0
def tw4599613092869839139:=0
def tw4540096454399951189:=0
def tw4532786408525356839:=0
def tw4307926830116509514:=0
def tw4237640369940289380:=0
def tw4202673366249849491:=0
def tw4169430970946328830:=0
def tw3823650005643028596:=0
def tw3771735061838007563:=0
def tw3711776433476670718:=0
def tw3606794102148988539:=0
def tw3415376743198261602:=0
def tw3255010964159781038:=0
def tw3220723017206680370:=0
def tw3196363977017356276:=0
def tw3161077796674850459:=0
def tw3154977719449785152:=0
def tw3027349785267461129:=0
def tw2651210568008831048:=0
def tw2642144764089699081:=0
def tw2470030994460905622:=0
def tw2365589340776583484:=0
def tw2342838551658309370:=0
def tw2212462317411977730:=0
def tw2064118905727727203:=0
def tw2057708657320182929:=0
def tw1980078614172103820:=0
def tw1976669565243702794:=0
def tw18438895364323578133:=0
def tw18406689318668271181:=0
def tw18353754962900487674:=0
def tw18341061495759717185:=0
def tw18131939131286866181:=0
def tw18027970315504703877:=0
def tw17994301212061070119:=0
def tw17963879024589997906:=0
def tw17925923492730016652:=0
def tw17584191335013195612:=0
def tw17238752558760652402:=0
def tw17234483976792478675:=0
def tw17186049221098573887:=0
def tw17104333970416622323:=0
def tw16980547499210933930:=0
def tw16844485081735603738:=0
def tw16840622159041910090:=0
def tw16835956152608702361:=0
def tw16743919102785911483:=0
def tw16701388476486077624:=0
def tw16661212229125270991:=0
def tw16575673167688372683:=0
def tw16469943266984779137:=0
def tw16288524480538194225:=0
def tw16194716560986651551:=0
def tw16010564223820826558:=0
def tw1599608497217551579:=0
def tw15829181571673270705:=0
def tw15676261240554180864:=0
def tw15641575440650329080:=0
def tw15593639298716513902:=0
def tw15438610589593914328:=0
def tw15415129679944277146:=0
def tw15291515778787918541:=0
def tw15268917627751355144:=0
def tw1523954634173995102:=0
def tw15104015179872336855:=0
def tw14905269560852764671:=0
def tw14598121482242819015:=0
def tw14550693921475344484:=0
def tw14429984225472846677:=0
def tw14397947794671477899:=0
def tw14330286943426774435:=0
def tw14324394720252608761:=0
def tw13817142068744991791:=0
def tw13814131451427507189:=0
def tw13786455662358949411:=0
def tw13769731409856085057:=0
def tw13732165248360646341:=0
def tw13573848267779960677:=0
def tw13501672401922333513:=0
def tw1348930903838789814:=0
def tw13298203722689827917:=0
def tw12996499756298277263:=0
def tw12993445975515111361:=0
def tw12661369023874259431:=0
def tw12585790354688115527:=0
def tw12441502783428931068:=0
def tw12340981958623863397:=0
def tw12083225706203450762:=0
def tw12038977606169228428:=0
def tw11860059332995364445:=0
def tw11801650391622900179:=0
def tw1166147933733307185:=0
def tw11646202046503260017:=0
def tw11644868132232139897:=0
def tw11583934061965207798:=0
def tw1147197816589727344:=0
def tw11304072722765767021:=0
def tw10897373541712964772:=0
def tw10846541316933110243:=0
def tw10805502978675567416:=0
def tw10787819557663234410:=0
def tw10785498421680218836:=0
def tw1073818698688927204:=0
def tw10698238366409207256:=0
def tw10388815045332656835:=0
def tw10307936806763208701:=0
def tw10178320482404669705:=0
def tw10121643642846045468:=0
def tw10017577030591726147:=0
def tw999255627539997526:=0
def tw9602979466950630956:=0
def tw912290570786946579:=0
def tw8777541643666118068:=0
def tw8722415481117505015:=0
def tw8572175281459272771:=0
def tw8444893750286939596:=0
def tw8125407811402774585:=0
def tw7956301941440062040:=0
def tw7687211529486759510:=0
def tw7552210041123771490:=0
def tw7239762555138251476:=0
def tw684210181549580303:=0
def tw6744984778823417519:=0
def tw6340304130596135008:=0
def tw6158425238486604569:=0
def tw6112935292994349818:=0
def tw5920227957080817638:=0
def tw5861546300858528307:=0
def tw5533809914848052129:=0
def tw5096499008420852698:=0
def tw4802236077587990626:=0
def tw4688525537532491644:=0
def tw4138905410403352593:=0
def tw397431815971221653:=0
def tw3830783680494933951:=0
def tw3612554134655720397:=0
def tw343839832772155065:=0
def tw3410111710019587186:=0
def tw2904033067149887106:=0
def tw2433480451663381876:=0
def tw2217001567337907910:=0
def tw2135739184021596844:=0
def tw2093290091728733057:=0
def tw1882481057627660943:=0
def tw18334927389422029420:=0
def tw18159918767601648018:=0
def tw17831088686795452451:=0
def tw17795394019121955329:=0
def tw17716863462265859512:=0
def tw17694846207451314135:=0
def tw17581992280946622230:=0
def tw17423125552162021742:=0
def tw17405045028177135956:=0
def tw17235446214152045:=0
def tw1703860651114587486:=0
def tw17018876735161736770:=0
def tw16669810761675009345:=0
def tw16219145617115034907:=0
def tw15877547465285291163:=0
def tw15860708213811878519:=0
def tw15659586693977764946:=0
def tw15227536787642769132:=0
def tw1488503510874697304:=0
def tw14849095896601040367:=0
def tw14415884991196681418:=0
def tw13921919005729749812:=0
def tw13809386149585982481:=0
def tw13746588304753895505:=0
def tw13170554741523819223:=0
def tw12898871719091480922:=0
def tw1283506980011859969:=0
def tw1218770742548784908:=0
def tw11282886037220131173:=0
def tw11166862733661299840:=0
def tw10240230265299486439:=0
def tw10143209758796899180:=0
def tw10063842601507977493:=0
def tw9936902662144560194:=0
def tw9930359092145622687:=0
def tw9892624805917520583:=0
def tw9842035976387663078:=0
def tw9802983821206752271:=0
def tw9623524494010043433:=0
def tw9591621326534694922:=0
def tw9590536906216307355:=0
def tw9583254098639418403:=0
def tw9456409991113330330:=0
def tw9119751986894142981:=0
def tw8755266905418455375:=0
def tw8612541938085228305:=0
def tw8604979696160575008:=0
def tw8462929888207567711:=0
def tw8377945894465552080:=0
def tw8282170167223215797:=0
def tw8089249423132065445:=0
def tw8047032804361144261:=0
def tw8037652997034423971:=0
def tw7980446502605500991:=0
def tw790865764145957086:=0
def tw7904445426397662059:=0
def tw7897135418779063302:=0
def tw7875707854763748492:=0
def tw7848866751621661257:=0
def tw7720199258136328419:=0
def tw7616961570073629773:=0
def tw7574902415414485744:=0
def tw7260967713776090138:=0
def tw7259079589770855615:=0
def tw7240639191980452486:=0
def tw7074213860272172147:=0
def tw7036346233635388438:=0
def tw698542696526539648:=0
def tw6967400520518718212:=0
def tw6942357351460751399:=0
def tw6919964502871595589:=0
def tw689209177001064519:=0
def tw6862412981468502264:=0
def tw6787905781562076304:=0
def tw6743822951217308217:=0
def tw6690671887076279761:=0
def tw6520993039526896910:=0
def tw6451087710923075982:=0
def tw6429728187070590260:=0
def tw6329672369177362234:=0
def tw6181847661251503008:=0
def tw5994711959094706394:=0
def tw5830895008884556760:=0
def tw5821001088122574322:=0
def tw5819105399919881484:=0
def tw5717963241065829162:=0
def tw5689819888249312427:=0
def tw5669588431854456260:=0
def tw5581984692328104656:=0
def tw5581349078452510653:=0
def tw5430882940802126740:=0
def tw5350998768358884751:=0
def tw5295854211047901153:=0
def tw5215882272569172211:=0
def tw5213485622955226937:=0
def tw512557566824241540:=0
def tw5051596291613938045:=0
def tw5019332986140449700:=0
def tw5010354932100547165:=0
def tw4855646995411632120:=0
def tw4841996503232482665:=0
def tw4721787911493776067:=0
def tw4664008279301310266:=0
def tw4566636315000093172:=0
def tw4512399344915413118:=0
def tw4417070962139673907:=0
def tw4396202689630218944:=0
def tw4355615645706949100:=0
def tw4256779784062091372:=0
def tw4090099033456441411:=0
def tw405987165440772289:=0
def tw4058686603036108463:=0
def tw3855077825024126993:=0
def tw3816595399192403062:=0
def tw3760063030202703356:=0
def tw3725507860900426652:=0
def tw3711315289400063114:=0
def tw3624387153200950280:=0
def tw3497212847013558094:=0
def tw3465091326942903629:=0
def tw3427924564325372817:=0
def tw3348767965124786929:=0
def tw3268437569422444630:=0
def tw3258786278723069861:=0
def tw3182821167057557991:=0
def tw3096949930750721708:=0
def tw3017139974649574989:=0
def tw2980206271122236284:=0
def tw2773274263299585572:=0
def tw2520694231678862498:=0
def tw2448602276733661166:=0
def tw2391854224791940314:=0
def tw2355404199824840798:=0
def tw2323472592885037881:=0
def tw2313535712752964479:=0
def tw2248526150547823735:=0
def tw2187499721780371684:=0
def tw2084367668108250050:=0
def tw2045930578084102194:=0
def tw2027406687892281398:=0
def tw1923656493189036919:=0
def tw18420665075302107787:=0
def tw18243320616058850534:=0
def tw1818218476948158209:=0
def tw18109355491918435820:=0
def tw18038851775406917655:=0
def tw17923257353744980054:=0
def tw17908656721387608039:=0
def tw17887424493272649068:=0
def tw17843169823834903998:=0
def tw17744632191838401134:=0
def tw17723765623042550390:=0
def tw176977295656723065:=0
def tw17690871460500525271:=0
def tw17645572048654386869:=0
def tw17644514534155135092:=0
def tw17415715754555401154:=0
def tw17389396115470475288:=0
def tw17375602352810135561:=0
def tw17357414001117552268:=0
def tw17263339626445266389:=0
def tw17218974888202052536:=0
def tw16988158499489311127:=0
def tw16982485362242456822:=0
def tw1691102865124860179:=0
def tw16855797853226630161:=0
def tw16826725409987885975:=0
def tw16801269517542960672:=0
def tw16761591470956491853:=0
def tw16702496124019576060:=0
def tw16661892316655955262:=0
def tw16632375998614247822:=0
def tw16526325248041854055:=0
def tw16507177298177948937:=0
def tw16408023001231065620:=0
def tw1629198167979442983:=0
def tw16291882091215157828:=0
def tw16235577574615639896:=0
def tw15853727897521883275:=0
def tw15834326765199268030:=0
def tw15786528573266890262:=0
def tw156604256827902990:=0
def tw15641155157065175805:=0
def tw15615506901333172577:=0
def tw15319796435752655959:=0
def tw15313973635310571597:=0
def tw15266785391687444539:=0
def tw15197701262192620583:=0
def tw15003257448840769609:=0
def tw14977234088687162302:=0
def tw1492062709326496596:=0
def tw14785510111872020634:=0
def tw14736829792906978706:=0
def tw14650229311272632197:=0
def tw1460478622569836974:=0
def tw14538086128319557123:=0
def tw1443262904182790944:=0
def tw14322595565739780087:=0
def tw14321144422957734134:=0
def tw1428814744893504695:=0
def tw13996213523464280658:=0
def tw13894333538876106382:=0
def tw13888251672469135178:=0
def tw13853986760110017063:=0
def tw13847991401066540787:=0
def tw13841191037290658594:=0
def tw13820470126673855253:=0
def tw13788262537284159298:=0
def tw1372833672288217791:=0
def tw13611136168108132581:=0
def tw1358744676988583611:=0
def tw13385619842731796546:=0
def tw1333033107083303026:=0
def tw1324101839160434027:=0
def tw13185835248587936794:=0
def tw13140385074510843379:=0
def tw13055914441102849027:=0
def tw13040376429104872777:=0
def tw13021086612755893400:=0
def tw12992001612654045271:=0
def tw12878273097781070547:=0
def tw12840604464936152123:=0
def tw12820798865115190907:=0
def tw12770933533733738652:=0
def tw12725217407329787103:=0
def tw12685030140052518048:=0
def tw12679859039530741841:=0
def tw12650994420537281789:=0
def tw12626095124700806591:=0
def tw12296552071639831032:=0
def tw12150866365501820893:=0
def tw12141280797297536670:=0
def tw11985937269989024962:=0
def tw11892039915525360660:=0
def tw11846370373574997029:=0
def tw11733558587685641503:=0
def tw11711933507911999672:=0
def tw11701492411309977178:=0
def tw11687504721054253588:=0
def tw11665305186481523908:=0
def tw11612187849094769778:=0
def tw11609425286787412919:=0
def tw11605670760853518920:=0
def tw11365700717142005424:=0
def tw11362101791794971524:=0
def tw11344577156118076396:=0
end PySem.W.Fast
section
open PySem PySem.W PyProof.Rows
set_option maxRecDepth 100000 in
set_option maxHeartbeats 0 in
open_top My.top for PySem.Challenge.rw_stairrooms_k67_what_is_a_line
end
set_option linter.all false
set_option maxRecDepth 100000
set_option maxHeartbeats 4000000
open PySem renaming Value->Va,Addr->Vb,Shared->Vc,Program->Vd,World->Ve,wpAny->Vf,model->Vg,Heap->Vh,Around->Vi,mainGlobals->Vj,Expr->Vk,Stmt->Vl,FuncData->Vm,Str->Vn
open Option renaming some->Vo,none->Vp
open PySem renaming wpAny_bind->L6,wpAny_pure->L7,wpAny_setState_of->MW,wpAny_callSpecial?_slot->MX
open PySem.W renaming Frag->L8
open PySem.Heap renaming get?_push_of_some->L9,get?_push_size->Ma,lt_size->Mb
open List renaming length_map->Mc,getElem?_eq_getElem->Me,getElem?_map->Mf,mem_cons_of_mem->Mg,size_toArray->Mi,mem_cons_self->Mj,getElem?_eq_some_iff->Mm,mem_of_getElem?->Mn,mem_singleton->Mo,mem_cons->Mr,map_append->Mt,length_append->Mu,mem_append->MA,getElem?_append_right->MB,getElem?_append_left->MC,getElem_mem->MD,length_cons->ME,take_length->MF,not_mem_nil->MI,all_eq_true->MJ,any_eq_true->MK,mem_append_right->MP,mem_append_left->MQ,replicate->MR,lookup_cons->MU,length_take->MV,range->MY
open Array renaming length_toList->Mh
open PySem.F renaming plainAttrs_list->Ml,slot_list_append->Mx,type_list_append->Mz
open Option renaming map_eq_some_iff->Mp
open Int renaming toNat_natCast->Mq
open Bool renaming false_ne_true->Ms,eq_iff_iff->ML,and_eq_true->MM,false_eq_true->MS
open Nat renaming ne_of_lt->Mv,le_refl->Mw,lt_of_lt_of_le->MG,le_trans->MH,lt_or_ge->MT
open PySem.Str renaming ofString->MN
open Option.some renaming inj->MO
open PySem.W renaming nsIn->A0,findIn->L1,mg_none_of->M6,mg_of->NG,keepIn->NJ,fnOf->NQ,kia_one->NV,kitOne->NX,tabIn->Na,cellsFrom_some->Nc,emptyDict->Nr,codeIn->Nt,instObj->OF,isFn->OW,callWith_K->Ol,WalkO->Ov,methodCall_KW->Ox,specialIn->O1,looks_findIn->O7,plainGet->PH,hideAll_get->PL,Looks->PV,takesIn->PX,hasDictIn->Pg,CodeHd->Pn,tabObj->Po,exmOne->Pq,mroIn->P9,makesIn->QH,kla_obj->QO,plainGet_of->QR,callWith_K0->QS,lookIn->Qe,kitAny->Qj,plainOver->Qp,excIn->Qz,takerIn->RN,noTabs->Ri,subIn->Rq,of_hideAll->Rw,methodObj->R9,kitx_list->SA,kitx_dict->SD,handedIn->SQ
open PySem.PassesOwn renaming never->F2
open PyProof.Rows renaming boot_isinstance->Hd,callWith_type1->NF,boot_tuple->NH,boot_str->NK,slot_tuple_getitem->NT,boot_max->OQ,boot_int->P1,boot_all->P2,boot_enumerate->QZ,tDigits_len_ge->Qb,boot_zip->RV,boot_set->Ra,boot_any->Rb
open Nat renaming zero_le->LI,lt_irrefl->ND,ne_of_gt->NU,le_add_right->NY,min_le_left->Ng,lt_succ_of_lt->Nl,lt_succ_self->N0,succ_ne_zero->OI,lt_of_le_of_lt->OL,zero_add->OY,mul_le_mul_left->Oe,succ_mul->Om,le_of_lt->PF,div_add_mod->Pa,mod_lt->Pb,le_of_eq->Ph,le_of_succ_le->Pk,succ_pos->Pt,toDigits->Pw,add_assoc->QA,not_lt_zero->QQ,mul_comm->QV,lt_succ_of_le->Qs,le_of_not_lt->Q4,add_sub_cancel_left->Q5,succ_le_succ->Q6,lt_trans->RE,sub_self->RK,succ_add->SM,le_succ->SW
open PySem renaming boot_len->L0,mem_of_lookup->NM,Within->R8,list_append->SH,call->SY
open PySem.Heap renaming size_push->L3,get?_update_self->NA,get?_update_other->NB,SameBut->Nw,ExtBut->N1,FlyingW->N3,IsTuple->RG
open PySem.Txt renaming split->M4,join->OG,slice->P6,slice_le->SK
open List renaming map->M5,getD_eq_getElem?_getD->NL,mem_range->NP,mem_map->NR,map_cons->NS,getElem?_eq_none->Nk,take_add_one->Nm,append_nil->Nx,lookup->N4,length_singleton->N5,length_filter_le->N7,length_drop->N8,mem_filterMap->OK,filter_append->OO,mem_filter->OU,mem_of_mem_take->OZ,dropLast_concat->Oa,getElem?_take_of_lt->Ob,filterMap_cons->Od,getElem?_set_self->Oj,find?_cons->Oo,dropLast_concat_getLast->Ot,append_assoc->O2,length_range->O5,getElem?_set_ne->O6,mem_of_mem_drop->O9,cons_ne_nil->PJ,length_reverse->PN,any_cons->PR,forIn_cons->PY,range_succ->PZ,length_eq_zero_iff->Pe,nodup_nil->Pp,take_of_length_le->Pr,contains_iff_mem->Py,getElem?_toArray->P0,singleton_append->P4,filter_cons->P8,mem_iff_getElem->QC,getElem?_of_mem->QF,getLast?_concat->QG,nodup_cons->QI,of_mem_zip->QJ,replicate_succ->QT,getElem?_range->QU,filterMap->Qh,length->Qr,ext_getElem?->Qw,all_cons->Qy,getElem?_replicate->Q3,length_set->RO,foldl_cons->RP,length_nil->RS,length_replicate->RU,cons_lt_cons_iff->RZ,drop_zero->Rh,replicate_succ'->Rl,filter->Rm,map_take->Rt,filterMap_map->Ry,pairwise_cons->R7,any_map->SO,foldl->SX
open False renaming elim->M7
open PySem.PyData renaming eqv->M8,eqvAll->OB,canLayAll0->SI
open PySem.Heap.SameBut renaming update->M9
open Ne renaming symm->NC
open Option renaming isSome_iff_exists->NI,isSome_map->Qt,isSome_some->Rz,getD_none->SS
open PySem.Builtin.SmallTypes renaming nextOf->NN,ownedTupleHandOut->PM
open Array renaming getElem?_eq_getElem->NO,getElem?_toList->Nj,getElem?_eq_some_iff->N2,getElem?_eq_none->OH,getElem?_setIfInBounds_ne->Px,mem_toList_iff->QB,getD_eq_getD_getElem?->Qa,toList_filterMap->RJ,size_map->Rj,append_assoc->Rx,forIn_toList->R5,toList_push->SJ
open PySem.Builtin.Range renaming rangeSize->NW,rangeFitsLong->QW,small->Ro
open PySem.F renaming excBase_ValueError->NZ,called_set->Nf,plainAttrs_str->Nq,slot_dict_keyiterator_next->Ny,slot_tuple_iterator_next->OM,slot_str_join->OR,type_str_join->OS,plain_max_loop->Oh,slot_enumerate_next->Oy,slot_list_pop->Oz,type_list_pop->O0,args_tuple_add_2->PQ,entry_tuple_add->Pd,slot_tuple_add->Pj,args_dict_keyiterator_next_1->P5,entry_dict_keyiterator_next->QE,args_tuple_iterator_next_1->QL,slot_zip_next->QM,entry_tuple_iterator_next->QX,args_str_split_2->Qm,slot_dict_getitem->Qo,entry_str_split->Qv,slot_list_extend->Q1,type_list_extend->Q2,args_enumerate_next_1->Q8,slot_list_index->Q9,slot_str_split->RB,typeCall_enumerate_1->RH,entry_enumerate_next->RI,slot_str_split->RL,type_str_split->RM,newCall_enumerate_1->RW,entry_enumerate_new->RX
open PySem.Str renaming length_append->Nb,join->Nn,empty->Ou
open PySem.Obj renaming data_mapFields->Nd,mapFields->Nh,mapSeq->Ni,isFreed_of_fields->N6,cls_mapFields->Pm,putSet->P7
open PySem.SetTable renaming leap->Np,bits->Nv,turns->OC,insertAt->OE,sizeAbove->ON,runEnd->OV,grown->PD,below->Ql,fits->Q0,advance->RA,fill->Rr,tooFull->SV
open Bool renaming and_false->Nu,true_and->OA,false_and->OJ,not_eq_true'->Qu,or_false->Qx,or_true->RF,or_eq_true->RQ
open Sum.inr renaming inj->Nz
open PySem.Paired renaming length->N9,snoc->O8
open PySem.Builtin.Str renaming occurrences->OD,strKind->Rp
open Int renaming emod_lt_of_pos->OP,eq_ofNat_of_zero_le->Oi,emod_nonneg->Oq,ediv_nonneg->QK,toNat->Qc,le_refl->Rk
open PySem.Builtin.Slice renaming slicePlaces->OT,sliceAdjust->Qn
open PySem.Around renaming under_plainId->OX,frames_deeper->Rf,under_plain->R4,under->SE
open PySem.Builtin.List renaming listSameRef->Oc,listExtendWith->O3,listTooLong->PU,listLengthHint->QY
open PyProof.Rows.F renaming plain_set_update_loop->Of,entry_set_update_loop->Pf
open List.cons renaming inj->Ow
open PySem.SetTable.probe renaming go->O4
open Classical renaming byContradiction->PK
open PySem.StrLaws renaming join_split->Pc,split_free->R6
open PySem.SetTable.layClean renaming free->Pu
open PySem.Shared renaming heap->QD
open PySem.Builtin.Frozenset renaming updateFrom->QN
open PySem.W.KIN renaming signs_num->QP
open PySem.Calls renaming Name_function_global->Qd,spliced_cons->Qf,spliced_nil->Qq,callWith_builtin->RD,evalArgs_plain->Rg
open PySem.Builtin.Tuple renaming tupleItemsOf->Qg
open PySem.Code renaming quiet_builtin->Qi,isFrame->SG
open PySem.Value.type renaming inj->Qk
open PySem.Builtin.Getset_descriptor renaming descrCheckInstance->Q7,descrNameAndClass->RC,descrGetter->Rn,descrGet->R3
open PySem.Env renaming cells->RT
open PySem.Builtin.Dict renaming showsAll->RY
open PySem.Builtin renaming bitAnd->Rc
open PySem.SeqAt.EqAt renaming int_str->Ru,str_int->Rv
open PySem.Walks renaming list->R0
open PySem.W.KF renaming slot_gs->R1
open Nat.succ renaming inj->SN
open PyProof.Rows.IsTup renaming new->SR
open PySem.IsL renaming update->SU
open PySem.DictEntry renaming key->Sa
abbrev MZ:=@decide_eq_false
abbrev M0:=@decide_eq_true
abbrev M1:=@if_neg
abbrev M3:=@if_pos
noncomputable section
namespace L2
open PySem PySem.Spec PyProof.Rows
abbrev Key:=Sum Int Vn
def jU:Key->Va->Bool
 | .inl k,v=>Value.isInt k v
 | .inr x,v=>Value.isStrOf x v
def IF(w:Ve):Key->Int
 | .inl k=>hashInt k
 | .inr x=>hashStr w x
def gY:∀{k} {v},jU k v=true->(∃i t,k=Sum.inl i/\v=Value.int i t)\/(∃x t,k=Sum.inr x/\v=Value.str x t)
 | .inl i,v,h=>by obtain⟨t,e⟩:=Value.isInt_shape (k:=i) (v:=v) h;exact .inl ⟨i,t,rfl,e⟩
 | .inr x,v,h=>by obtain⟨t,e⟩:=Value.isStrOf_shape (x:=x) (v:=v) h;exact .inr ⟨x,t,rfl,e⟩
def DO(i)(t):jU (.inl i) (.int i t)=true:=by simp[jU,Value.isInt]
def JI(x)(t):jU (.inr x) (.str x t)=true:=by simp[jU,Value.isStrOf]
def JX(a b):decide ((Sum.inl a:Key)=Sum.inl b)=(a == b):=by
 by_cases e:a=b
 .subst e;simp
 .have h:¬(Sum.inl a:Key)=Sum.inl b:=λq=>e (Sum.inl.inj q);rw[MZ h];exact(beq_eq_false_iff_ne.mpr e).symm
def Lj(a b):decide ((Sum.inr a:Key)=Sum.inr b)=decide (a=b):=by
 by_cases e:a=b
 .simp
 .have h:¬(Sum.inr a:Key)=Sum.inr b:=λq=>e (Nz q);rw[MZ h,MZ e]
def Ho(a)(b):decide ((Sum.inl a:Key)=Sum.inr b)=false:=MZ (λq=>nomatch q)
def KO(a)(b):decide ((Sum.inr a:Key)=Sum.inl b)=false:=MZ (λq=>nomatch q)
def cN(prog:Vd)(w:Ve):PySem.KeyKind prog w Key where
 is:=jU
 hash:=IF w
 inj:=λv a b ha hb=>by
  rcases gY ha with⟨i,t,rfl,rfl⟩|⟨x,t,rfl,rfl⟩
  .rcases gY hb with⟨j,u,rfl,e⟩|⟨y,u,rfl,e⟩
   .injection e with c _;rw[c]
   .exact nomatch e
  .rcases gY hb with⟨j,u,rfl,e⟩|⟨y,u,rfl,e⟩
   .exact nomatch e
   .injection e with c _;rw[c]
 byValue:=λk v h=>by rcases gY h with⟨i,t,rfl,rfl⟩|⟨x,t,rfl,rfl⟩<;>rfl
 pyHash:=λhv h=>by
  rcases gY hv with⟨i,t,rfl,rfl⟩|⟨x,t,rfl,rfl⟩
  .exact wpAny_pyHash_int h
  .exact wpAny_pyHash_str h
 eqBool:=λd hv h=>by
  rcases gY d with⟨i,t,rfl,rfl⟩|⟨x,t,rfl,rfl⟩
  .rcases gY hv with⟨j,u,rfl,rfl⟩|⟨y,u,rfl,rfl⟩
   .rw[JX]at h;exact wpAny_eqBool_int h
   .rw[Ho]at h;exact Ru i t y u _ _ _ _ h
  .rcases gY hv with⟨j,u,rfl,rfl⟩|⟨y,u,rfl,rfl⟩
   .rw[KO]at h;exact Rv x t j u _ _ _ _ h
   .rw[Lj]at h;exact wpAny_eqBool_str h
 «strs»:=λk x t v h=>by
  rcases gY h with⟨i,u,rfl,e⟩|⟨y,u,rfl,e⟩
  .exact nomatch e
  .injection e with c _
   subst c;cases v<;>rfl
def Lh(prog)(w)(i)(t):(cN prog w).is (.inl i) (.int i t)=true:=DO i t
def rz(prog)(w)(x)(t):(cN prog w).is (.inr x) (.str x t)=true:=JI x t
inductive V where
 | non|bl (b:Bool)|int (i:Int)|str (x:Vn)|byt (b:Array UInt8)|flt (b:UInt64)|ref (a:Vb)|ty (n:String)
 deriving DecidableEq
def RelV:V->Va->Prop
 | .non,u=>u=Value.none
 | .bl b,u=>u=Value.bool b
 | .int i,u=>∃t,u=Value.int i t
 | .str x,u=>∃t,u=Value.str x t
 | .byt b,u=>∃t,u=Value.bytes b t
 | .flt b,u=>∃t,u=Value.float b t
 | .ref a,u=>u=Value.ref a
 | .ty n,u=>u=Value.type n
abbrev Vals:List V->List Va->Prop:=Paired RelV
theorem Vals.length{xs:List V}{us:List Va}(r:Vals xs us):xs.length=us.length:=N9 r
theorem Vals.get:∀{xs:List V} {us:List Va} {i:Nat} {x:V},Vals xs us->xs[i]?=Vo x->∃u,us[i]?=Vo u/\RelV x u
 | _,_,_,_,.nil,e=>by simp at e
 | _,_,0,_,.cons r _,e=>by simp at e;subst e;exact⟨_,rfl,r⟩
 | _,_,i+1,x,.cons _ t,e=>by obtain⟨u,h1,h2⟩:=Vals.get (i:=i) (x:=x) t (by simpa using e);exact⟨u,by simpa using h1,h2⟩
theorem Vals.set{x:V}{u:Va}(r:RelV x u):∀{xs:List V} {us:List Va} (i:Nat),Vals xs us->Vals (xs.set i x) (us.set i u)
 | _,_,_,.nil=>.nil
 | _,_,0,.cons _ t=>.cons r t
 | _,_,i+1,.cons q t=>.cons q (Vals.set r i t)
theorem Vals.append:∀{xs ys:List V} {us ws:List Va},Vals xs us->Vals ys ws->Vals (xs++ys) (us++ws)
 | _,_,_,_,.nil,s=>s
 | _,_,_,_,.cons r t,s=>.cons r (Vals.append t s)
theorem Vals.take:∀{xs:List V} {us:List Va} (n:Nat),Vals xs us->Vals (xs.take n) (us.take n)
 | _,_,0,_=>.nil
 | _,_,_+1,.nil=>.nil
 | _,_,n+1,.cons r t=>.cons r (Vals.take n t)
theorem Vals.drop:∀{xs:List V} {us:List Va} (n:Nat),Vals xs us->Vals (xs.drop n) (us.drop n)
 | _,_,0,r=>r
 | _,_,_+1,.nil=>.nil
 | _,_,n+1,.cons _ t=>Vals.drop n t
def dw:Option V->Option Va->Prop
 | some v,Vo u=>RelV v u
 | none,Vp=>True
 | _,_=>False
def KV{κ:Type}:List (κ×V)->List (κ×Va)->Prop:=Paired λ(p:κ×V) (q:κ×Va)=>p.1=q.1/\RelV p.2 q.2
def kV:Key->V
 | .inl i=>.int i
 | .inr x=>.str x
inductive HO where
 | lst (xs:List V)
 | tup (xs:List V)
 | dK (kvs:List (Key×V))|dT (kvs:List (List Key×V))
 | set (S:Int->Bool) (n:Nat)
 | ins (C dx:Vb) (fs:List (Vn×V))
 | own (x:Vb)
 | xd (fs:List (Vn×V))
 | met (f x:Vb)
 | rng (lo hi:Int)
 | frz (o:Obj) (u:HO)
 | tbl (ps:Array Va)
 | ext (φ:Vh->Prop)
abbrev Hp:=Vb->Option HO
def upd(H:Hp)(a:Vb)(o:HO):Hp:=λb=>if b=a then Vo o else H b
def ay:upd H a o a=Vo o:=by unfold upd;rw[M3 rfl]
def aq(h:b≠a):upd H a o b=H b:=by unfold upd;rw[M1 h]
def cY{H:Hp}(h:H a=Vo o)(h':H b=Vo u)(d:o≠u):a≠b:=by intro e;subst e;rw[h]at h';exact d (MO h')
def cC{H:Hp}(h:H a=Vo o)(h':H b=Vp):a≠b:=by intro e;subst e;rw[h]at h';cases h'
section
variable (P:Vd) (w:Ve)
def bC(H:Hp)(h:Vh)(a:Vb):HO->Prop
 | .lst xs=>xs.length<=sizeLine/\∃(b:List Va) (n:Nat),Vals xs b/\h.get? a=Vo { cls:=.type "list",data:=.seq b.toArray n }
 | .tup xs=>xs.length<=sizeLine/\∃b:List Va,Vals xs b/\IsTup h a b.toArray
 | .dK kvs=>kvs.length<=sizeLine/\(a == sysModules)=false/\∃vs,KV kvs vs/\h.DictOf (cN P w) a vs
 | .dT kvs=>kvs.length<=sizeLine/\(a == sysModules)=false/\∃xs:List (List Key×Vb×Va),
   Paired (λ(p:List Key×V) (q:List Key×Vb×Va)=>p.1=q.1/\H q.2.1=Vo (.tup (p.1.map kV))/\RelV p.2 q.2.2) kvs xs ∧
   ∃o es ep,h.get? a=Vo o/\o.ExactDict/\o.data=.dict es ep/\es.toList=xs.map (entryOfKey (tupleKind (cN P w)))/\(xs.map (·.1)).Nodup
 | .set S n=>h.SetOf (intKind P w) a S n
 | .ins C dx fs=>H dx=Vo (.own a)/\fs.length<=1000/\dx≠a/\h.get? a=Vo (OF C dx) ∧
   ∃mA,h.Ns1 dx mA/\(∀f,dw (fs.lookup f) (mA f))/\R8 mA (fs.map (·.1))
 | .own _=>∃o,h.get? a=Vo o
 | .xd fs=>∃mA,h.Ns1 a mA/\∀f,dw (fs.lookup f) (mA f)
 | .rng lo hi=>∃t u v,h.get? a=Vo { cls:=.type "range",data:=.fields #[.int lo t,.int hi u,.int 1 v] }
 | .frz o u=>h.get? a=Vo o/\bC H h a u
 | .tbl ps=>h.get? a=Vo { cls:=.none,data:=.fields ps }
 | .met f x=>h.get? a=Vo (R9 (.ref f) (.ref x))
 | .ext φ=>φ h/\(∃o,h.get? a=Vo o)/\∀h1 h2:Vh,φ h1->(∀o,h1.get? a=Vo o->h2.get? a=Vo o)->φ h2
def bt(H:Hp)(h:Vh):Prop:=∀a o,H a=Vo o->bC P w H h a o
end
section
variable {P:Vd} {w:Ve} {H H':Hp} {h h':Vh} {a:Vb} {o:HO}
theorem bC.lt(x:bC P w H h a o):a<h.objs.size:=by
 cases o with
 | lst xs=>obtain⟨_,_,_,_,e⟩:=x;exact Mb e
 | tup xs=>obtain⟨_,_,_,p⟩:=x;exact p.lt
 | dK kvs=>obtain⟨_,_,_,_,o,_,_,e,_⟩:=x;exact Mb e
 | dT kvs=>obtain⟨_,_,_,_,o,_,_,e,_⟩:=x;exact Mb e
 | set S n=>obtain⟨o,_,_,_,e,_⟩:=x;exact Mb e
 | ins C dx fs=>obtain⟨_,_,_,e,_⟩:=x;exact Mb e
 | own y=>obtain⟨_,e⟩:=x;exact Mb e
 | xd fs=>obtain⟨_,⟨_,_,_,e,_⟩,_⟩:=x;exact Mb e
 | rng lo hi=>obtain⟨_,_,_,e⟩:=x;exact Mb e
 | frz ob u=>obtain⟨e,_⟩:=x;exact Mb e
 | tbl ps=>exact Mb (x)
 | met f y=>exact Mb (x)
 | ext φ=>obtain⟨_,⟨_,e⟩,_⟩:=x;exact Mb e
theorem Paired.mapP{α β:Type}{F G:α->β->Prop}:∀{l₁:List α} {l₂:List β},Paired F l₁ l₂->(∀a b,F a b->G a b)->Paired G l₁ l₂
 | _,_,.nil,_=>.nil
 | _,_,.cons r t,f=>.cons (f _ _ r) (Paired.mapP t f)
def bC.stay(x:bC P w H h a o)(k:∀b u,(b=a\/H b=Vo (.own a))->h.get? b=Vo u->h'.get? b=Vo u)
  (ho:∀b,H b=Vo (.own a)->H' b=Vo (.own a)) (i:∀b xs,H b=Vo (.tup xs)->H' b=Vo (.tup xs)):bC P w H' h' a o:=by
 induction o with
 | lst xs=>obtain⟨z,g,n,r,e⟩:=x;exact⟨z,g,n,r,k _ _ (.inl rfl) e⟩
 | tup xs=>obtain⟨z,g,r,ob,e,c⟩:=x;exact⟨z,g,r,ob,k _ _ (.inl rfl) e,c⟩
 | dK kvs=>obtain⟨z,y,vs,r,ob,es,ep,e,c⟩:=x;exact⟨z,y,vs,r,ob,es,ep,k _ _ (.inl rfl) e,c⟩
 | dT kvs=>
  obtain⟨z,y,xs,r,ob,es,ep,e,c⟩:=x;exact⟨z,y,xs,Paired.mapP r λp q z=>⟨z.1,i _ _ z.2.1,z.2.2⟩,ob,es,ep,k _ _ (.inl rfl) e,c⟩
 | set S n=>obtain⟨ob,es,ep,t,e,c⟩:=x;exact⟨ob,es,ep,t,k _ _ (.inl rfl) e,c⟩
 | ins C dx fs=>
  obtain⟨d,z,ne,e,mA,⟨od,es,ep,j,c⟩,r⟩:=x;exact⟨ho _ d,z,ne,k _ _ (.inl rfl) e,mA,⟨od,es,ep,k _ _ (.inr d) j,c⟩,r⟩
 | own y=>obtain⟨ob,e⟩:=x;exact⟨ob,k _ _ (.inl rfl) e⟩
 | xd fs=>obtain⟨mA,⟨od,es,ep,e,c⟩,r⟩:=x;exact⟨mA,⟨od,es,ep,k _ _ (.inl rfl) e,c⟩,r⟩
 | rng lo hi=>obtain⟨t,u,v,e⟩:=x;exact⟨t,u,v,k _ _ (.inl rfl) e⟩
 | frz ob u l=>obtain⟨e,q⟩:=x;exact⟨k _ _ (.inl rfl) e,l q⟩
 | tbl ps=>
  have e:h.get? a=Vo { cls:=.none,data:=.fields ps }:=x;exact k a _ (.inl rfl) e
 | met f y=>
  have e:h.get? a=Vo (R9 (.ref f) (.ref y)):=x;exact k a _ (.inl rfl) e
 | ext φ=>obtain⟨p,⟨o,e⟩,st⟩:=x;exact⟨st _ _ p λo q=>k _ _ (.inl rfl) q,⟨o,k _ _ (.inl rfl) e⟩,st⟩
theorem bt.lt(x:bt P w H h)(e:H a=Vo o):a<h.objs.size:=(x a o e).lt
def bt.fresh(x:bt P w H h)(e:h.objs.size<=a):H a=Vp:=by
 cases q:H a with
 | none=>rfl
 | some u=>exact absurd (MG (x.lt q) e) (ND _)
def bt.kept(x:bt P w H h)(k:∀b u,h.get? b=Vo u->h'.get? b=Vo u):bt P w H h':=λa o e=>
 (x a o e).stay (λb u _ q=>k b u q) (λ_ q=>q) λ_ _ q=>q
def bt.laid(x:bt P w H h)(k:∀b u,h.get? b=Vo u->h'.get? b=Vo u)(f:h.objs.size<=a)(new:bC P w (upd H a o) h' a o):bt P w (upd H a o) h':=λb u e=>by
 have d:=x.fresh f;by_cases hb:b=a
 .subst hb;rw[ay]at e;cases e;exact new
 .rw[aq hb]at e;exact(x b u e).stay (λc v _ q=>k c v q) (λc q=>by rw[aq (cC q d)];exact q) λc xs q=>by rw[aq (cC q d)];exact q
end
def Rd(H:Hp)(a:Vb)(u:HO):Prop:=H a=Vo u\/∃o,H a=Vo (.frz o u)
def Rd.ok(r:Rd H a u)(x:bt P w H h):bC P w H h a u:=by
 rcases r with r|⟨o,r⟩
 .exact x a u r
 .obtain⟨_,q⟩:=x a _ r;exact q
def kI:Option HO->Prop
 | some (.lst _)=>True
 | some (.dK _)=>True
 | some (.dT _)=>True
 | some (.set _ _)=>True
 | some (.ins _ _ _)=>True
 | some (.ext _)=>True
 | _=>False
section
variable {P:Vd} {w:Ve} {H:Hp} {h h':Vh} {x e:Vb} {o':HO}
def bt.write(ok:bt P w H h)(d:kI (H x))(i:e=x\/H e=Vo (.own x))(k:∀b u,b≠e->h.get? b=Vo u->h'.get? b=Vo u)(g:∃u,h'.get? e=Vo u)
  (new:bC P w (upd H x o') h' x o'):bt P w (upd H x o') h':=λb u q=>by
 have nown:∀c y,H c=Vo (.own y)->c≠x:=λc y r z=>by subst z;rw[r]at d;exact d
 have ntup:∀c xs,H c=Vo (.tup xs)->c≠x:=λc xs r z=>by subst z;rw[r]at d;exact d
 by_cases hb:b=x
 .subst hb;rw[ay]at q;cases q;exact new
 .rw[aq hb]at q;by_cases a:b=e
  .have j:H b=Vo (.own x):=by
    rcases i with z|z
    .exact absurd (a.trans z) hb
    .rw[a];exact z
   rw[q]at j;cases j;obtain⟨v,hv⟩:=g;exact⟨v,by rw[a];exact hv⟩
  .refine(ok b u q).stay (λc v f r=>k c v ?_ r) (λc r=>by rw[aq (nown c b r)];exact r) λc xs r=>by rw[aq (ntup c xs r)];exact r
   rcases f with rfl|f
   .exact a
   .rintro rfl;rcases i with z|z
    .exact nown c b f z
    .rw[f]at z;cases z;exact hb rfl
end
structure Un(fs ex:List Vb)(H H':Hp)(h h':Vh):Prop where
 keep:∀b o,h.get? b=Vo o->H b=Vp->b∉fs->b∉ex->h'.get? b=Vo o
 slot:∀b o,h.get? b=Vo o->H b=Vp->b∈fs->b∉ex->∃sl,h'.get? b=Vo { o with slots:=sl }
 free:∀b o,h.get? b=Vo o->H b=Vp->b∉ex->H' b=Vp
 there:∀b o,h.get? b=Vo o->b∉ex->∃o',h'.get? b=Vo o'
 tups:∀b xs,H b=Vo (.tup xs)->H' b=Vo (.tup xs)
 frzs:∀b o u,H b=Vo (.frz o u)->H' b=Vo (.frz o u)
 tbls:∀b ps,H b=Vo (.tbl ps)->∃more,H' b=Vo (.tbl (ps++more))
section
variable {fs fs' ex ex':List Vb} {H H1 H2:Hp} {h h1 h2 h':Vh} {a x e:Vb} {o:HO}
def Un.any(u:Un fs ex H H1 h h1)(q:h.get? b=Vo ob)(n:H b=Vp)(a:b∉ex):∃sl,h1.get? b=Vo { ob with slots:=sl }:=by
 by_cases hb:b∈fs
 .exact u.slot b ob q n hb a
 .exact⟨ob.slots,u.keep b ob q n hb a⟩
def Un.kept(k:∀b u,h.get? b=Vo u->h'.get? b=Vo u):Un fs ex H H h h':=
 ⟨λb ob q _ _ _=>k b ob q,λb ob q _ _ _=>⟨ob.slots,k b ob q⟩,λ_ _ _ n _=>n,λb ob q _=>⟨ob,k b ob q⟩,λ_ _ q=>q,λ_ _ _ q=>q,λ_ ps q=>⟨#[],by rw[q];simp⟩⟩
def Un.refl:Un fs ex H H h h:=Un.kept λ_ _ q=>q
def Un.laid(k:∀b u,h.get? b=Vo u->h'.get? b=Vo u)(d:h.objs.size<=a)(c:H a=Vp):Un fs ex H (upd H a o) h h' where
 keep:=λb u q _ _ _=>k b u q
 slot:=λb u q _ _ _=>⟨u.slots,k b u q⟩
 free:=λb u q n _=>by rw[aq (Mv (MG (Mb q) d))];exact n
 there:=λb u q _=>⟨u,k b u q⟩
 tups:=λb xs q=>by rw[aq (cC q c)];exact q
 frzs:=λb u xs q=>by rw[aq (cC q c)];exact q
 tbls:=λb ps q=>⟨#[],by rw[aq (cC q c),q];simp⟩
def Un.write(c:kI (H x))(i:e=x\/H e=Vo (.own x))(k:∀b u,b≠e->h.get? b=Vo u->h'.get? b=Vo u)(d:∃u,h'.get? e=Vo u):Un fs ex H (upd H x o) h h':=by
 have g:∀b,H b=Vp->b≠x:=λb n z=>by subst z;rw[n]at c;exact c
 have hb:∀b,H b=Vp->b≠e:=λb n z=>by
  subst z;rcases i with r|r
  .exact g b n r
  .rw[n]at r;cases r
 have f:∀b u,H b=Vo u->¬kI (Vo u)->b≠x:=λb u q nm z=>by subst z;rw[q]at c;exact nm c
 refine⟨λb u q n _ _=>k b u (hb b n) q,λb u q n _ _=>⟨u.slots,k b u (hb b n) q⟩,λb u q n _=>by rw[aq (g b n)];exact n,λb u q _=>?_,
  λb xs q=>by rw[aq (f b _ q λz=>z)];exact q,λb u xs q=>by rw[aq (f b _ q λz=>z)];exact q,λb ps q=>⟨#[],by rw[aq (f b _ q λz=>z),q];simp⟩⟩
 by_cases a:b=e
 .subst a;exact d
 .exact⟨u,k b u a q⟩
end
def iu(h:Vh)(H:Hp):List Vb:=(MY h.objs.size).filter λa=>(H a).isSome
def fP(h:Vh)(H:Hp):Vh:=PySem.W.hideAll h (iu h H)
def DS(h)(H):(fP h H).objs.size=h.objs.size:=PySem.W.hideAll_size _ _
def mB(e:h.get? b=Vo o)(n:H b=Vp):(fP h H).get? b=Vo o:=
 PL _ e λa=>by have q:(H b).isSome=true:=(OU.mp a).2;rw[n]at q;simp at q
def IB(e:(fP h H).get? b=Vo o):h.get? b=Vo o/\H b=Vp:=by
 have a:h.get? b=Vo o:=Rw (iu h H) e;refine⟨a,?_⟩;cases q:H b with
 | none=>rfl
 | some x=>
  have c:b∈iu h H:=OU.mpr ⟨NP.mpr (Mb a),by simp[q]⟩;have z:(fP h H).get? b=Vp:=PySem.W.hideAll_none (iu h H) c;rw[z]at e;cases e
structure Mod(K:L8)(mg:Vn->Option Va)(base:Vh):Prop where
 kin:K.In base
 glob:base.Ns Vj mg
 blt:∃mb,base.Ns builtinsNs mb/\∀x:Vn,x≠"__name__"->mb x=bootBuiltins x
 nolimit:base.NoLimit
structure Cx where
 prog:Vd
 w:Ve
 K:L8
 mg:Vn->Option Va
 base:Vh
 A:Vi
 N:List Vn
 s₀:Vc
 H₀:Hp
 env:Env
 outer:List Env
 stack:List Env
 ex:List Vb
 fn:Vn->Bool
 calm:Bool
 pn:List (Vb×Obj)
 xe:Va->Vc->Prop
variable {t' n:Nat}{ch fp:List Vb}{M:Model}{A:Vi}{E Q:Va->Vc->Prop}{v:V}{u:Va}{s:Vc}{pins:List (Vb×Obj)}{H:Hp}{body:List Vl}{P:Vd}{w:Ve}{tg:Vk}{h base:Vh}{xs:List V}{us:List Va}{C:Vb}{kw:List (Vn×Va)}{mg:Vn->Option Va}
def bh(l:List Env):List Vb:=l.filterMap (·.frame)
abbrev Cx.fs(X:Cx):List Vb:=bh X.outer
def nu(sc:Scope)(x:Vn):Prop:=sc.names.lookup x=Vo .local\/sc.names.lookup x=Vo .cell\/sc.names.lookup x=Vo .free
def Loc(sc:Scope)(x:Vn):Prop:=sc.names.lookup x=Vo .local\/sc.names.lookup x=Vo .cell
def Look(env:Env)(h:Vh)(m:Vn->Option Va)(x:Vn)(u:Va):Prop:=
 (env.kindOf x=Vo .local/\m x=Vo u)\/((env.kindOf x=Vo .cell\/env.kindOf x=Vo .free)/\∃c,env.cells.lookup x=Vo c/\h.IsCell c (Vo u))
structure Cx.Ok(X:Cx):Prop where
 mod:Mod X.K X.mg X.base
 kind:X.env.scope.kind=.function
 glob:X.env.globals=Vj
 blt:X.env.builtins=builtinsNs
 above:X.s₀.heap.objs.size<=X.env.locals
 inj:∀x y c,X.env.cells.lookup x=Vo c->X.env.cells.lookup y=Vo c->x=y
 has:∀x,(X.env.kindOf x=Vo .cell\/X.env.kindOf x=Vo .free)->∃c,X.env.cells.lookup x=Vo c
 cab:∀x c,X.fn x=true->X.env.cells.lookup x=Vo c->X.s₀.heap.objs.size<=c
 hd:X.calm=true->X.A.handled=Vp
 frames:X.A.frames=Vo X.stack
 stk:X.stack=X.outer\/(X.stack=X.env::X.outer/\X.env.frame=Vo X.env.locals)
 exf:∀b∈X.ex,b≠X.env.locals/\∀x c,X.env.cells.lookup x=Vo c->c≠b
 bs:∀b o,X.base.get? b=Vo o->X.s₀.heap.get? b=Vo o/\X.H₀ b=Vp
 bsz:X.base.objs.size<=X.s₀.heap.objs.size
 noex:∀b o,X.base.get? b=Vo o->b∉X.ex
 exfs:∀b∈X.ex,b∉X.fs
 funs:X.s₀.heap.FunFrames X.base X.outer
 frf:∀b∈X.fs,X.H₀ b=Vp
structure Inv(X:Cx)(pins:List (Vb×Obj))(σ:List (Option V))(H:Hp)(s:Vc):Prop where
 ok:X.Ok
 os:s.os=X.s₀.os
 bare:AllBare s.gens
 base:Un X.fs X.ex X.H₀ H X.s₀.heap s.heap
 loc:∃m,s.heap.Ns X.env.locals m/\∀(i:Nat) (x:Vn) (v:V),X.N[i]?=Vo x->σ[i]?=Vo (Vo v)->nu X.env.scope x->∃u,RelV v u/\Look X.env s.heap m x u
 cell:∀x c,X.env.cells.lookup x=Vo c->∃v,s.heap.IsCell c v
 free:H X.env.locals=Vp
 freeC:∀x c,X.env.cells.lookup x=Vo c->H c=Vp
 pin:∀p∈X.pn++pins,s.heap.get? p.1=Vo p.2/\H p.1=Vp/\p.1≠X.env.locals/\p.1∉X.fs/\∀v,p.2.data≠.cell v
 hok:bt X.prog X.w H s.heap
 len:σ.length=X.N.length
section
variable {X:Cx} {pins:List (Vb×Obj)} {σ:List (Option V)} {H H':Hp} {s:Vc} {h':Vh}
def Cx.Ok.nofr(ok:X.Ok)(e:X.base.get? b=Vo o):b∉X.fs:=λhb=>by have:=(ok.funs.mem hb).1;rw[e]at this;cases this
theorem Inv.bs(I:Inv X pins σ H s):∀b o,X.base.get? b=Vo o->s.heap.get? b=Vo o/\H b=Vp:=λb o e=>
 ⟨I.base.keep b o (I.ok.bs b o e).1 (I.ok.bs b o e).2 (I.ok.nofr e) (I.ok.noex b o e),I.base.free b o (I.ok.bs b o e).1 (I.ok.bs b o e).2 (I.ok.noex b o e)⟩
def Inv.bk(I:Inv X pins σ H s):∀b o,X.base.get? b=Vo o->s.heap.get? b=Vo o:=λb o e=>(I.bs b o e).1
theorem Inv.mod(I:Inv X pins σ H s):Mod X.K X.mg X.base:=I.ok.mod
def Inv.kIn(I:Inv X pins σ H s):X.K.In s.heap:=I.ok.mod.kin.keeps I.bk
theorem Inv.lt(I:Inv X pins σ H s):X.env.locals<s.heap.objs.size:=let ⟨_,hn,_⟩:=I.loc;hn.lt
def Inv.sz(I:Inv X pins σ H s):X.s₀.heap.objs.size<=s.heap.objs.size:=MH I.ok.above (PF I.lt)
def Inv.nofs(I:Inv X pins σ H s){a:Vb}(h:s.heap.objs.size<=a):a∉X.fs:=λhb=>by obtain⟨_,o,ho,_⟩:=I.ok.funs.mem hb;exact absurd (MG (Mb ho) (MH I.sz h)) (ND _)
def Inv.cne(I:Inv X pins σ H s):∀x c,X.env.cells.lookup x=Vo c->c≠X.env.locals:=λx c e z=>by obtain⟨v,o,ho,hd⟩:=I.cell x c e;obtain⟨m,⟨o',es,ep,a,b,_⟩,_⟩:=I.loc;rw[z,a]at ho;cases ho;rw[b]at hd;cases hd
theorem Inv.funs(I:Inv X pins σ H s):s.heap.FunFrames X.base X.outer:=by
 have all:∀l,(∀b∈bh l,b∈X.fs)->X.s₀.heap.FunFrames X.base l->s.heap.FunFrames X.base l:=by
  intro l;induction l with
  | nil=>intro _ _;trivial
  | cons env r d=>
   intro hs f;obtain⟨g,⟨L,o,a,h,ho,hd⟩,i⟩:=f;have c:L∈X.fs:=hs L (by unfold bh;rw[Od,a];exact Mj);obtain⟨sl,e⟩:=I.base.slot L o ho (I.ok.frf L c) c λz=>I.ok.exfs L z c;exact⟨g,⟨L,_,a,h,e,hd⟩,d (λb hb=>hs b (by unfold bh;rw[Od,a];exact Mg _ hb)) i⟩
 exact all X.outer (λ_ hb=>hb) I.ok.funs
theorem Inv.stack(I:Inv X pins σ H s):s.heap.FunFrames X.base X.stack:=by
 rcases I.ok.stk with e|⟨e,a⟩
 .rw[e];exact I.funs
 .rw[e];obtain⟨m,b,_⟩:=I.loc;refine .cons (by rw[I.ok.kind];decide) a b ?_ I.funs;exact Heap.get?_none_of_le (MH I.ok.bsz I.ok.above)
def Inv.stkSub(I:Inv X pins σ H s):∀b∈bh X.stack,b∈X.env.locals::X.fs:=λb hb=>by
 rcases I.ok.stk with e|⟨e,a⟩
 .rw[e]at hb;exact Mg _ hb
 .rw[e]at hb;unfold bh at hb;rw[Od,a]at hb;exact hb
def Inv.stkFree(I:Inv X pins σ H s):∀b∈bh X.stack,H b=Vp:=λb hb=>by
 rcases Mr.mp (I.stkSub b hb)with e|hb
 .rw[e];exact I.free
 .obtain⟨_,o,ho,_⟩:=I.ok.funs.mem hb;exact I.base.free b o ho (I.ok.frf b hb) λz=>I.ok.exfs b z hb
def Inv.step(I:Inv X pins σ H s)
  (hch:∀b∈ch,(b∈X.ex\/X.s₀.heap.objs.size<=b)/\b≠X.env.locals/\(∀x c,X.env.cells.lookup x=Vo c->c≠b)/\∀p∈X.pn++pins,p.1≠b)
  (keep:∀b o,b≠X.env.locals->b∉X.fs->b∉ch->s.heap.get? b=Vo o->H b=Vp->h'.get? b=Vo o)
  (slot:∀b o,b≠X.env.locals->b∈X.fs->b∉ch->s.heap.get? b=Vo o->H b=Vp->∃sl,h'.get? b=Vo { o with slots:=sl }) (free:∀b o,b∉ch->s.heap.get? b=Vo o->H b=Vp->H' b=Vp)
  (there:∀b o,b∉ch->s.heap.get? b=Vo o->∃o',h'.get? b=Vo o')
  (tups:∀b xs,H b=Vo (.tup xs)->H' b=Vo (.tup xs)) (frzs:∀b o u,H b=Vo (.frz o u)->H' b=Vo (.frz o u)) (tbls:∀b ps,H b=Vo (.tbl ps)->∃more,H' b=Vo (.tbl (ps++more)))
  (ns:∀m,s.heap.Ns X.env.locals m->h'.Ns X.env.locals m) (hok:bt X.prog X.w H' h') (C:AllBare g') :
  Inv X pins σ H' { s with heap:=h',gens:=g',drawn:=d',toks:=t' }:=by
 have neL:∀b o,X.s₀.heap.get? b=Vo o->b≠X.env.locals:=λb o e=>Mv (MG (Mb e) I.ok.above);have neC:∀b o,X.s₀.heap.get? b=Vo o->b∉X.ex->b∉ch:=λb o e a hb=>by
  rcases(hch b hb).1 with z|z
  .exact a z
  .exact absurd (MG (Mb e) z) (ND _)
 have cellK:∀x c,X.env.cells.lookup x=Vo c->∀v,s.heap.IsCell c v->h'.IsCell c v:=λx c e v ⟨o,ho,hd⟩=>by
  have f:c∉ch:=λz=>(hch c z).2.2.1 x c e rfl;by_cases y:c∈X.fs
  .obtain⟨sl,q⟩:=slot c o (I.cne x c e) y f ho (I.freeC x c e);exact⟨_,q,hd⟩
  .exact⟨o,keep c o (I.cne x c e) y f ho (I.freeC x c e),hd⟩
 refine⟨I.ok,I.os,C,⟨λb o e n hb a=>?_,λb o e n hb a=>?_,λb o e n a=>?_,λb o e a=>?_,λb xs e=>tups b xs (I.base.tups b xs e),λb o xs e=>frzs b o xs (I.base.frzs b o xs e),λb ps e=>?_⟩,?_,λx c e=>?_,?_,λx c e=>?_,λp A=>?_,hok,I.len⟩
 .exact keep b o (neL b o e) hb (neC b o e a) (I.base.keep b o e n hb a) (I.base.free b o e n a)
 .obtain⟨sl,g⟩:=I.base.slot b o e n hb a;obtain⟨j,h⟩:=slot b _ (neL b o e) hb (neC b o e a) g (I.base.free b o e n a);exact⟨j,h⟩
 .obtain⟨o',g⟩:=I.base.there b o e a;exact free b o' (neC b o e a) g (I.base.free b o e n a)
 .obtain⟨o',g⟩:=I.base.there b o e a;exact there b o' (neC b o e a) g
 .obtain⟨m1,g⟩:=I.base.tbls b ps e;obtain⟨m2,h⟩:=tbls b _ g;exact⟨m1++m2,by rw[h,Rx]⟩
 .obtain⟨m,E,F⟩:=I.loc;refine⟨m,ns m E,λi x v g h G=>?_⟩;obtain⟨u,r,l⟩:=F i x v g h G;refine⟨u,r,?_⟩;rcases l with l|⟨k,c,e,z⟩
  .exact .inl l
  .exact .inr ⟨k,c,e,cellK x c e _ z⟩
 .obtain⟨v,z⟩:=I.cell x c e;exact⟨v,cellK x c e v z⟩
 .obtain⟨m,⟨o,_,_,ho,_⟩,_⟩:=I.loc;exact free _ o (λz=>(hch _ z).2.1 rfl) ho I.free
 .obtain⟨v,o,ho,hd⟩:=I.cell x c e;exact free c o (λz=>(hch c z).2.2.1 x c e rfl) ho (I.freeC x c e)
 .obtain⟨e,n,ne,B,d⟩:=I.pin p A;have f:p.1∉ch:=λz=>(hch p.1 z).2.2.2 p A rfl;exact⟨keep p.1 p.2 ne B f e n,free p.1 p.2 f e n,ne,B,d⟩
def Inv.un(I:Inv X pins σ H s)(u:Un X.fs [] H H' s.heap h')(hok:bt X.prog X.w H' h'):Inv X pins σ H' { s with heap:=h',toks:=t' }:=by
 obtain⟨m,⟨o,es,ep,ho,r⟩,_⟩:=id I.loc;obtain⟨sl,f⟩:=u.any ho I.free (by simp);exact I.step (ch:=[]) (λ_ z=>nomatch z) (λb o _ hb _ e n=>u.keep b o e n hb (by simp)) (λb o _ hb _ e n=>u.slot b o e n hb (by simp)) (λb o _ e n=>u.free b o e n (by simp)) (λb o _ e=>u.there b o e (by simp)) u.tups u.frzs u.tbls (λi g=>by obtain⟨o',c,d,a,h⟩:=g;rw[ho]at a;cases a;exact⟨_,c,d,f,h⟩) hok I.bare
def Inv.call(I:Inv X pins σ H s)(u:Un (bh X.stack) ch H H' s.heap h')(hok:bt X.prog X.w H' h')(i:AllBare g')
  (hch:∀b∈ch,(b∈X.ex\/X.s₀.heap.objs.size<=b)/\b≠X.env.locals/\(∀x c,X.env.cells.lookup x=Vo c->c≠b)/\∀p∈X.pn++pins,p.1≠b) :
  Inv X pins σ H' { s with heap:=h',gens:=g',drawn:=d',toks:=t' }:=by
 obtain⟨m,⟨o,es,ep,ho,r⟩,_⟩:=id I.loc;obtain⟨sl,f⟩:=u.any ho I.free λz=>(hch _ z).2.1 rfl;exact I.step hch (λb o f hb a e n=>u.keep b o e n (λz=>(Mr.mp (I.stkSub b z)).elim f hb) a) (λb o _ _ a e n=>u.any e n a) (λb o a e n=>u.free b o e n a) (λb o a e=>u.there b o e a) u.tups u.frzs u.tbls (λl j=>by obtain⟨o',g,h,d,k⟩:=j;rw[ho]at d;cases d;exact⟨_,g,h,f,k⟩) hok i
def Inv.turned(I:Inv X pins σ H s)(k:∀b o,b≠it->s.heap.get? b=Vo o->h'.get? b=Vo o)(g:H it=Vp)(f:it≠X.env.locals)
  (h1:it∈X.ex\/X.s₀.heap.objs.size<=it) (h2:∀x c,X.env.cells.lookup x=Vo c->c≠it) (h:∀p∈X.pn++pins,p.1≠it):Inv X pins σ H { s with heap:=h',toks:=t' }:=by
 have d:∀b u,H b=Vo u->b≠it:=λb u e z=>by rw[z,g]at e;cases e
 refine I.step (ch:=[it]) (λb hb=>?_) (λb o _ _ a e _=>k b o (λz=>a (by simp[z])) e) (λb o _ _ a e _=>⟨o.slots,k b o (λz=>a (by simp[z])) e⟩) (λ_ _ _ _ n=>n)
  (λb o a e=>⟨o,k b o (λz=>a (by simp[z])) e⟩) (λ_ _ e=>e) (λ_ _ _ e=>e) (λb ps e=>⟨#[],by rw[e];simp⟩) (λm i=>?_) (λb u e=>?_) I.bare
 .have e:b=it:=by simpa using hb
  subst e;exact⟨h1,f,h2,h⟩
 .obtain⟨o,es,ep,ho,r⟩:=i;exact⟨o,es,ep,k _ o (NC f) ho,r⟩
 .refine(I.hok b u e).stay (λc v a q=>k c v ?_ q) (λ_ q=>q) λ_ _ q=>q;rcases a with z|z
  .rw[z];exact d b u e
  .exact d c _ z
def Inv.tok(I:Inv X pins σ H s)(t):Inv X pins σ H { s with toks:=t }:=I.un Un.refl I.hok
theorem Inv.kept{t':Nat}(I:Inv X pins σ H s)(k:∀b u,s.heap.get? b=Vo u->h'.get? b=Vo u):Inv X pins σ H { s with heap:=h',toks:=t' }:=I.un (Un.kept k) (I.hok.kept k)
theorem Inv.laid{a:Vb}{o:HO}{t':Nat}(I:Inv X pins σ H s)(k:∀b u,s.heap.get? b=Vo u->h'.get? b=Vo u)(c:s.heap.objs.size<=a)(new:bC X.prog X.w (upd H a o) h' a o):
  Inv X pins σ (upd H a o) { s with heap:=h',toks:=t' }:=I.un (Un.laid k c (I.hok.fresh c)) (I.hok.laid k c new)
theorem Inv.write{x e:Vb}{o:HO}{t':Nat}(I:Inv X pins σ H s)(c:kI (H x))(d:e=x\/H e=Vo (.own x))(k:∀b u,b≠e->s.heap.get? b=Vo u->h'.get? b=Vo u)(a:∃u,h'.get? e=Vo u)
  (new:bC X.prog X.w (upd H x o) h' x o):Inv X pins σ (upd H x o) { s with heap:=h',toks:=t' }:=I.un (Un.write c d k a) (I.hok.write c d k a new)
def Inv.pins_of(I:Inv X pins σ H s)(h:∀p∈a,s.heap.get? p.1=Vo p.2/\H p.1=Vp/\p.1≠X.env.locals/\p.1∉X.fs/\∀v,p.2.data≠.cell v):Inv X a σ H s:=
 ⟨I.ok,I.os,I.bare,I.base,I.loc,I.cell,I.free,I.freeC,λp b=>(MA.mp b).elim (λz=>I.pin p (MQ _ z)) (h p),I.hok,I.len⟩
def pz{N:List Vn}(c:N.Nodup){i j:Nat}(a:N[i]?=Vo x)(b:N[j]?=Vo x):i=j:=by obtain⟨h1,d⟩:=Mm.mp a;obtain⟨h2,e⟩:=Mm.mp b;exact(List.getElem_inj c).mp (d.trans e.symm)
def xf{M:Model}{A:Vi}{E:Va->Vc->Prop}{i:Nat}{x:Vn}{Q:Unit->Vc->Prop}(I:Inv X pins σ H s)(hN:X.N.Nodup)(hi:X.N[i]?=Vo x)(l:Loc X.env.scope x)(r:RelV v u)
  (h:∀s',Inv X pins (σ.set i (Vo v)) H s'->(∃a,Nw a s.heap s'.heap/\(a=X.env.locals\/X.env.cells.lookup x=Vo a))->Q () s') (hf:X.fn x=true\/X.env.scope.names.lookup x=Vo .local:=by first|exact .inl rfl|exact .inr rfl|assumption):Vf M A (storeName X.env x u) Q E s:=by
 obtain⟨m,U,hl⟩:=id I.loc;have L:(X.env.scope.kind == .class || (X.env.scope.kind == .module && X.env.locals != X.env.globals))=false:=by rw[I.ok.kind];rfl
 have F:i<σ.length:=by rw[I.len];exact(Mm.mp hi).1
 have cne:=I.cne;have tracked:∀{a:Vb} {h':Vh},(∃o,s.heap.get? a=Vo o/\H a=Vp)->Nw a s.heap h'->bt X.prog X.w H h':=λ{a h'} ha hs b ob e=>by
  obtain⟨_,_,B⟩:=ha;refine(I.hok b ob e).stay (λc T g q=>(hs.2 c ?_).trans q) (λ_ q=>q) λ_ _ q=>q;rintro rfl;rcases g with rfl|g
  .rw[B]at e;cases e
  .rw[B]at g;cases g
 rcases l with G|G
 .refine wpAny_storeName_local G U (λh' W hs=>?_) L;obtain⟨oL,_,_,Y,_⟩:=id U;refine h _ ⟨I.ok,I.os,I.bare,⟨λb o e n hb l=>?_,λb o e n hb l=>?_,I.base.free,λb o e l=>?_,I.base.tups,I.base.frzs,I.base.tbls⟩,⟨_,W,λj y Z f C e3=>?_⟩,λy c e=>?_,I.free,I.freeC,λp hp=>?_,tracked ⟨oL,Y,I.free⟩ hs,by simpa using I.len⟩ ⟨_,hs,.inl rfl⟩
  .exact(hs.2 b (Mv (MG (Mb e) I.ok.above))).trans (I.base.keep b o e n hb l)
  .obtain⟨sl,f⟩:=I.base.slot b o e n hb l;exact⟨sl,(hs.2 b (Mv (MG (Mb e) I.ok.above))).trans f⟩
  .obtain⟨o',f⟩:=I.base.there b o e l;exact⟨o',(hs.2 b (Mv (MG (Mb e) I.ok.above))).trans f⟩
  .by_cases J:j=i
   .subst J;rw[hi]at f;cases f;rw[Oj F]at C;cases C;exact⟨u,r,.inl ⟨G,by simp⟩⟩
   .rw[O6 (NC J)]at C;obtain⟨u',r',q⟩:=hl j y Z f C e3;refine⟨u',r',?_⟩;rcases q with⟨k,e⟩|⟨k,c,e,z⟩
    .refine .inl ⟨k,?_⟩;have:y≠x:=λe=>J (pz hN f (e ▸ hi));simp[this,e]
    .exact .inr ⟨k,c,e,z.sameBut hs (cne y c e)⟩
  .obtain⟨T,z⟩:=I.cell y c e;exact⟨T,z.sameBut hs (cne y c e)⟩
  .obtain⟨e,n,ne,nf,d⟩:=I.pin p hp;exact⟨(hs.2 p.1 ne).trans e,n,ne,nf,d⟩
 .have hfn:X.fn x=true:=by
   rcases hf with z|z
   .exact z
   .rw[z]at G;cases G
  obtain⟨c,g⟩:=I.ok.has x (.inl G);obtain⟨T,z⟩:=I.cell x c g;refine wpAny_storeName_cell I.ok.kind G g z (λh' O hs=>?_);obtain⟨oc,P,R⟩:=id z;refine h { s with heap:=h' } ⟨I.ok,I.os,I.bare,⟨λb o e n hb l=>?_,λb o e n hb l=>?_,I.base.free,λb o e l=>?_,I.base.tups,I.base.frzs,I.base.tbls⟩,⟨m,U.sameBut hs (NC (cne x c g)),λj y Z f C e3=>?_⟩,λy c' e=>?_,I.free,I.freeC,λp hp=>?_,tracked ⟨oc,P,I.freeC x c g⟩ hs,by simpa using I.len⟩ ⟨c,hs,.inr g⟩
  .exact(hs.2 b (Mv (MG (Mb e) (I.ok.cab x c hfn g)))).trans (I.base.keep b o e n hb l)
  .obtain⟨sl,f⟩:=I.base.slot b o e n hb l;exact⟨sl,(hs.2 b (Mv (MG (Mb e) (I.ok.cab x c hfn g)))).trans f⟩
  .obtain⟨o',f⟩:=I.base.there b o e l;exact⟨o',(hs.2 b (Mv (MG (Mb e) (I.ok.cab x c hfn g)))).trans f⟩
  .by_cases J:j=i
   .subst J;rw[hi]at f;cases f;rw[Oj F]at C;cases C;exact⟨u,r,.inr ⟨.inl G,c,g,O⟩⟩
   .rw[O6 (NC J)]at C;obtain⟨u',r',q⟩:=hl j y Z f C e3;refine⟨u',r',?_⟩;rcases q with q|⟨k,c',e,z'⟩
    .exact .inl q
    .refine .inr ⟨k,c',e,z'.sameBut hs ?_⟩;rintro rfl;exact J (pz hN f (I.ok.inj _ _ _ e g ▸ hi))
  .by_cases S:c'=c
   .subst S;exact⟨_,O⟩
   .obtain⟨w2,z2⟩:=I.cell y c' e;exact⟨w2,z2.sameBut hs S⟩
  .obtain⟨e,n,ne,nf,d⟩:=I.pin p hp;refine⟨(hs.2 p.1 ?_).trans e,n,ne,nf,d⟩;intro q;rw[q,P]at e;have q':oc=p.2:=MO e;exact d T (by rw[<-q'];exact R)
def kU{M:Model}{A:Vi}{E:Va->Vc->Prop}{i:Nat}{x:Vn}{Q:Unit->Vc->Prop}(I:Inv X pins σ H s)(a:X.N.Nodup)(hi:X.N[i]?=Vo x)(b:Loc X.env.scope x)(r:RelV v u)
  (h:∀s',Inv X pins (σ.set i (Vo v)) H s'->Q () s') (c:X.fn x=true\/X.env.scope.names.lookup x=Vo .local:=by first|exact .inl rfl|exact .inr rfl|assumption):Vf M A (storeName X.env x u) Q E s:=
 xf I a hi b r (λs' d _=>h s' d) c
def Inv.call'(I:Inv X pins σ H s)(ho:s'.os=s.os)(u:Un (bh X.stack) ch H H' s.heap s'.heap)(hok:bt X.prog X.w H' s'.heap)(a:AllBare s'.gens)
  (hch:∀b∈ch,(b∈X.ex\/X.s₀.heap.objs.size<=b)/\b≠X.env.locals/\(∀x c,X.env.cells.lookup x=Vo c->c≠b)/\∀p∈X.pn++pins,p.1≠b):Inv X pins σ H' s':=by
 obtain⟨h',g',d',t',o'⟩:=s';have e:o'=s.os:=ho;subst e;exact I.call u hok a hch
end
abbrev XK:=Va->Option Vb->Hp->Prop
abbrev St:=List (Option V)
abbrev VK:=V->Hp->Prop
abbrev TE:=St->Hp->VK->Prop
abbrev TT:=St->Hp->(Bool->Hp->Prop)->Prop
abbrev TA:=St->Hp->(List V->Hp->Prop)->Prop
structure Ends where
 nx:St->Hp->Prop
 rt:VK
 bk:St->Hp->Prop:=λ_ _=>False
 ct:St->Hp->Prop:=λ_ _=>False
abbrev TS:=Ends->St->Hp->Prop
def EP(X:Cx)(pins:List (Vb×Obj))(σ:St)(Q:VK)(u:Va)(s':Vc):Prop:=∃v H',Inv X pins σ H' s'/\RelV v u/\Q v H'
def TP(X:Cx)(pins:List (Vb×Obj))(σ:St)(Q:Bool->Hp->Prop)(b:Bool)(s':Vc):Prop:=∃H',Inv X pins σ H' s'/\Q b H'
def AP(X:Cx)(pins:List (Vb×Obj))(σ:St)(Q:List V->Hp->Prop)(us:List Va)(s':Vc):Prop:=∃vs H',Inv X pins σ H' s'/\Vals vs us/\Q vs H'
def SP(X:Cx)(pins:List (Vb×Obj))(D:Ends)(f:Flow)(s':Vc):Prop:=
 match f with
 | .next=>∃a H',Inv X pins a H' s'/\D.nx a H'
 | .brk=>∃a H',Inv X pins a H' s'/\D.bk a H'
 | .cont=>∃a H',Inv X pins a H' s'/\D.ct a H'
 | .ret u=>∃v a H',Inv X pins a H' s'/\RelV v u/\D.rt v H'
def PE(X:Cx)(e:Vk)(t:TE):Prop:=
 ∀(pins:List (Vb×Obj)) (s:Vc) (σ:St) (H:Hp) (Q:VK),Inv X pins σ H s->t σ H Q->Vf (Vg X.prog X.w) X.A (eval e X.env) (EP X pins σ Q) X.xe s
def PT(X:Cx)(e:Vk)(t:TT):Prop:=
 ∀(pins:List (Vb×Obj)) (s:Vc) (σ:St) (H:Hp) (Q:Bool->Hp->Prop),Inv X pins σ H s->t σ H Q->Vf (Vg X.prog X.w) X.A (isTrue e X.env (eval e X.env)) (TP X pins σ Q) X.xe s
def PW(X:Cx)(e:Vk)(t:TT):Prop:=
 ∀(whole:Sem Va) (pins:List (Vb×Obj)) (s:Vc) (σ:St) (H:Hp) (Q:Bool->Hp->Prop),Inv X pins σ H s->t σ H Q->Vf (Vg X.prog X.w) X.A (isTrue e X.env whole) (TP X pins σ Q) X.xe s
def PW.pt(h:PW X e t):PT X e t:=h _
def PA(X:Cx)(es:List Vk)(t:TA):Prop:=
 ∀(pos:Pos) (pins:List (Vb×Obj)) (s:Vc) (σ:St) (H:Hp) (Q:List V->Hp->Prop),Inv X pins σ H s->t σ H Q->Vf (Vg X.prog X.w) X.A (spliced (backTo pos (starEach es X.env))) (AP X pins σ Q) X.xe s
def PS(X:Cx)(st:Vl)(t:TS):Prop:=
 ∀(pins:List (Vb×Obj)) (s:Vc) (σ:St) (H:Hp) (D:Ends),Inv X pins σ H s->t D σ H->Vf (Vg X.prog X.w) X.A (exec st X.env) (SP X pins D) X.xe s
def cD(X:Cx)(st:List Vl)(t:TS):Prop:=
 ∀(pins:List (Vb×Obj)) (s:Vc) (σ:St) (H:Hp) (D:Ends),Inv X pins σ H s->t D σ H->Vf (Vg X.prog X.w) X.A (execs st X.env) (SP X pins D) X.xe s
def ax{t:Sem α}{Q b:α->Vc->Prop}(h:Vf M A t Q E s)(c:∀a s,Q a s->b a s):Vf M A t b E s:=wpAny_mono h c λ_ _ x=>x
section
variable {X:Cx}
def bin(ha:PE X a ta)(hb:PE X b tb){σ:St}{R:V->V->Hp->Prop}(I:Inv X pins σ H s)(h:ta σ H λx H1=>tb σ H1 λy H2=>R x y H2)
   {Q:α->Vc->Prop} {f:Va->Va->Sem α}
  (e:∀v u s2 x y H2,Inv X pins σ H2 s2->RelV x v->RelV y u->R x y H2->Vf (Vg X.prog X.w) X.A (f v u) Q X.xe s2) :
  Vf (Vg X.prog X.w) X.A (eval a X.env) (λv c=>Vf (Vg X.prog X.w) X.A (eval b X.env) (λu d=>Vf (Vg X.prog X.w) X.A (f v u) Q X.xe d) X.xe c) X.xe s:=by
 refine ax (ha pins s σ H _ I h) λv s1 ⟨x,H1,g,r1,i⟩=>?_;refine ax (hb pins s1 σ H1 _ g i) λu s2 ⟨y,H2,j,k,l⟩=>?_;exact e v u s2 x y H2 j r1 k l
def qJ(i:Nat):TE:=λσ H Q=>∃v,σ[i]?=Vo (Vo v)/\Q v H
def tC(v:V):TE:=λ_ H Q=>Q v H
def Kv{i:Nat}{x:Vn}{pos:Pos}(g:X.N[i]?=Vo x)(hv:nu X.env.scope x)(hd:(x == ("__debug__":Vn))=false:=by decide)(d:(x == ("__classdict__":Vn))=false:=by decide):PE X (.Name x pos) (qJ i):=by
 intro pins s σ H Q I h;obtain⟨v,e,h⟩:=h;obtain⟨m,j,k⟩:=I.loc;obtain⟨u,r,l⟩:=k i x v g e hv;have fin:EP X pins σ Q u s:=⟨v,H,I,r,h⟩;rcases l with⟨b,n⟩|⟨b,c,f,a⟩
 .exact wpAny_Name (wpAny_loadName_local I.ok.kind b j n fin) hd
 .rcases b with b|b
  .exact wpAny_Name (wpAny_loadName_cell I.ok.kind b f a fin) hd
  .exact wpAny_Name (wpAny_loadName_free I.ok.kind b f a fin d) hd
def ag{i j pos}:PE X (.Constant (.int i) j pos) (tC (.int i)):=λ_ _ _ H _ I h=>wpAny_Constant_int ⟨.int i,H,I.tok _,⟨_,rfl⟩,h⟩
def bW{b j pos}:PE X (.Constant (.bool b) j pos) (tC (.bl b)):=λ_ _ _ H _ I h=>Constant_bool ⟨.bl b,H,I,rfl,h⟩
def hG{j pos}:PE X (.Constant .none j pos) (tC .non):=λ_ _ _ H _ I h=>Constant_none ⟨.non,H,I,rfl,h⟩
def ao{x j pos}:PE X (.Constant (.str x) j pos) (tC (.str x)):=λ_ _ _ H _ I h=>Calls.Constant_str ⟨.str x,H,I.tok _,⟨_,rfl⟩,h⟩
def Gl(X:Cx)(x:Vn):Prop:=X.env.kindOf x=Vo .globalImplicit
def gy{E:Va->Vc->Prop}{σ:St}{x:Vn}{pos:Pos}(I:Inv X pins σ H s)(a:Gl X x)(b:X.mg x=Vo u)(h:Q u s)
  (hd:(x == ("__debug__":Vn))=false:=by decide):Vf (Vg X.prog X.w) X.A (eval (.Name x pos) X.env) Q E s:=
 Qd I.ok.kind a (Calls.loadGlobal_global (by rw[I.ok.glob];exact I.mod.glob.keeps I.bk) b h) hd
def eL{E:Va->Vc->Prop}{σ:St}{x:Vn}{pos:Pos}(I:Inv X pins σ H s)(a:Gl X x)(b:X.mg x=Vp)(hv:bootBuiltins x=Vo u)(h:Q u s)
  (c:x≠"__name__":=by decide) (hd:(x == ("__debug__":Vn))=false:=by decide):Vf (Vg X.prog X.w) X.A (eval (.Name x pos) X.env) Q E s:=by
 obtain⟨mb,h1,h2⟩:=I.mod.blt;exact Qd I.ok.kind a (Calls.loadGlobal_builtin (by rw[I.ok.glob];exact I.mod.glob.keeps I.bk) b (by rw[I.ok.blt];exact h1.keeps I.bk) ((h2 x c).trans hv) h) hd
def cH{x:Vn}{pos:Pos}(a:Gl X x)(b:X.mg x=Vo u)(r:RelV v u)(hd:(x == ("__debug__":Vn))=false:=by decide):PE X (.Name x pos) (tC v):=
 λ_ _ _ H _ I h=>gy I a b ⟨v,H,I,r,h⟩ hd
def fV{x:Vn}{pos:Pos}(a:Gl X x)(b:X.mg x=Vp)(hv:bootBuiltins x=Vo u)(r:RelV v u)(c:x≠"__name__":=by decide)(hd:(x == ("__debug__":Vn))=false:=by decide):PE X (.Name x pos) (tC v):=
 λ_ _ _ H _ I h=>eL I a b hv ⟨v,H,I,r,h⟩ c hd
variable {a b:Vk} {ta tb:TE} {pos:Pos}
def PC(X:Cx)(op:CmpOp)(a b:Vk)(t:TE):Prop:=
 ∀(pins:List (Vb×Obj)) (s:Vc) (σ:St) (H:Hp) (Q:VK),Inv X pins σ H s->t σ H Q ->
  Vf (Vg X.prog X.w) X.A (eval a X.env) (λv c=>Vf (Vg X.prog X.w) X.A (eval b X.env) (λu d=>Vf (Vg X.prog X.w) X.A (compareOp op v u) (EP X pins σ Q) X.xe d) X.xe c) X.xe s
def tB(t:TE):TT:=λσ H Q=>t σ H λx H1=>∃c,x=.bl c/\Q c H1
def CY{op:CmpOp}{t:TE}(h:PC X op a b t)(h1:behindInMarks op b=false:=by first|exact nobehind _ (by decide) (by decide)|rfl):PE X (.Compare a [op] [b] pos) t:=λpins s σ H Q I c=>wpAny_Compare1 (h pins s σ H Q I c) h1
def ik{op:CmpOp}{t:TE}(h:PC X op a b t)(h1:behindInMarks op b=false:=by first|exact nobehind _ (by decide) (by decide)|rfl):PT X (.Compare a [op] [b] pos) (tB t):=by intro pins s σ H Q I e;refine wpAny_isTrue_Compare1 (ax (h pins s σ H _ I e) λv s1 h1=>ax h1 λu s2 h2=>ax h2 λc i ⟨x,H1,f,r1,g⟩=>?_) h1;obtain⟨d,rfl,q⟩:=g;cases r1;exact wpAny_truthy_bool ⟨H1,f,q⟩
def bF{e:Vk}{t:TE}(h:PE X e t)(a:∀whole,isTrue e X.env whole=(do let v <-whole;standAt e.pos;holding [v] (truthy v)):=by intro _;rfl):PT X e (tB t):=by intro pins s σ H Q I b;refine isTrue_plain (ax (h pins s σ H _ I b) λv s1 ⟨x,H1,c,r1,f⟩=>?_) (a _);obtain⟨d,rfl,q⟩:=f;cases r1;exact wpAny_truthy_bool ⟨H1,c,q⟩
variable {tA tB':TT} {rest:List Vk}
def Ax(t u:TT):TT:=λσ H Q=>t σ H λc H1=>if c=true then u σ H1 Q else Q false H1
def yo(t u:TT):TT:=λσ H Q=>t σ H λc H1=>if c=true then Q true H1 else u σ H1 Q
def zp(t:TT):TT:=λσ H Q=>t σ H λc H1=>Q (!c) H1
def lF(ha:PT X a tA):PW X (.BoolOp .And [a] pos) tA:=by
 intro b pins s σ H Q I h;refine isTrue_and (ax (ha pins s σ H Q I h) λc s1 e=>?_);cases c with
 | true=>exact isTrue_and_nil e
 | false=>exact e
def dQ(ha:PT X a tA):PW X (.BoolOp .Or [a] pos) tA:=by
 intro b pins s σ H Q I h;refine isTrue_or (ax (ha pins s σ H Q I h) λc s1 e=>?_);cases c with
 | false=>exact isTrue_or_nil e
 | true=>exact e
def j9(ha:PT X a tA)(hb:PW X (.BoolOp .And (b::rest) pos) tB'):PW X (.BoolOp .And (a::b::rest) pos) (Ax tA tB'):=by
 intro f pins s σ H Q I h;refine isTrue_and (ax (ha pins s σ H _ I h) λc s1 ⟨H1,d,e⟩=>?_);cases c with
 | true=>exact hb f pins s1 σ H1 Q d e
 | false=>exact⟨H1,d,e⟩
def cZ(ha:PT X a tA)(hb:PW X (.BoolOp .Or (b::rest) pos) tB'):PW X (.BoolOp .Or (a::b::rest) pos) (yo tA tB'):=by
 intro f pins s σ H Q I h;refine isTrue_or (ax (ha pins s σ H _ I h) λc s1 ⟨H1,d,e⟩=>?_);cases c with
 | true=>exact⟨H1,d,e⟩
 | false=>exact hb f pins s1 σ H1 Q d e
def cj(ha:PT X a tA):PT X (.UnaryOp .Not a pos) (zp tA):=by intro pins s σ H Q I h;exact isTrue_not (ha pins s σ H (λc H1=>Q (!c) H1) I h)
def yi(ta tb:TE):TE:=λσ H Q=>ta σ H λx H1=>∃c,x=.bl c/\if c=true then tb σ H1 Q else Q (.bl false) H1
def xC(ta tb:TE):TE:=λσ H Q=>ta σ H λx H1=>∃c,x=.bl c/\if c=true then Q (.bl true) H1 else tb σ H1 Q
def xj(ta:TE):TE:=λσ H Q=>ta σ H λx H1=>∃c,x=.bl c/\Q (.bl (!c)) H1
def fG{op}(h:PE X a t):PE X (.BoolOp op [a] pos) t:=λpins s σ H Q I b=>BoolOp_one (h pins s σ H Q I b)
def fB(ha:PE X a ta)(hb:PE X (.BoolOp .And (b::rest) pos) tb):PE X (.BoolOp .And (a::b::rest) pos) (yi ta tb):=by
 intro pins s σ H Q I h;refine BoolOp_and (ax (ha pins s σ H _ I h) λv s1 ⟨x,H1,e,r1,d⟩=>?_);obtain⟨c,rfl,d⟩:=d;cases r1;refine wpAny_truthy_bool ?_;cases c with
 | true=>exact hb pins s1 σ H1 Q e d
 | false=>exact⟨.bl false,H1,e,rfl,d⟩
def yU(ha:PE X a ta)(hb:PE X (.BoolOp .Or (b::rest) pos) tb):PE X (.BoolOp .Or (a::b::rest) pos) (xC ta tb):=by
 intro pins s σ H Q I h;refine BoolOp_or (ax (ha pins s σ H _ I h) λv s1 ⟨x,H1,e,r1,d⟩=>?_);obtain⟨c,rfl,d⟩:=d;cases r1;refine wpAny_truthy_bool ?_;cases c with
 | false=>exact hb pins s1 σ H1 Q e d
 | true=>exact⟨.bl true,H1,e,rfl,d⟩
def HP(ha:PE X a ta):PE X (.UnaryOp .Not a pos) (xj ta):=by intro pins s σ H Q I h;refine UnaryOp_ (ax (ha pins s σ H _ I h) λv s1 ⟨x,H1,d,r1,b⟩=>?_);obtain⟨c,rfl,b⟩:=b;cases r1;exact not_of (wpAny_truthy_bool ⟨.bl (!c),H1,d,rfl,b⟩)
def wa(t:TT)(ta tb:TE):TE:=λσ H Q=>t σ H λc H1=>if c=true then ta σ H1 Q else tb σ H1 Q
def jO(g:PT X c tA)(ha:PE X a ta)(hb:PE X b tb):PE X (.IfExp c a b pos) (wa tA ta tb):=by
 intro pins s σ H Q I h;refine wpAny_IfExp (ax (g pins s σ H _ I h) λd s1 ⟨H1,e,f⟩=>?_);cases d with
 | true=>exact ha pins s1 σ H1 Q e f
 | false=>exact hb pins s1 σ H1 Q e f
end
def af(K:L8)(H:Hp)(a:Vb)(xs:List V):Prop:=
 Rd H a (.lst xs) ∨
  ∃(o:Obj) (b:Array Va) (n:Nat),K.lookup a=Vo o/\o.cls=.type "list"/\o.dict=Vp/\o.data=.seq b n/\b.size<=sizeLine/\Vals xs b.toList
def ak(K:L8)(H:Hp)(a:Vb)(xs:List V):Prop:=
 Rd H a (.tup xs) ∨
  ∃(o:Obj) (b:Array Va) (n:Nat),K.lookup a=Vo o/\o.cls=.type "tuple"/\o.data=.seq b n/\b.size<=sizeLine/\Vals xs b.toList
def LK:Va->Option V
 | .none=>Vo .non
 | .bool b=>Vo (.bl b)
 | .int i _=>Vo (.int i)
 | .str x _=>Vo (.str x)
 | .bytes b _=>Vo (.byt b)
 | .float b _=>Vo (.flt b)
 | .ref a=>Vo (.ref a)
 | .type n=>Vo (.ty n)
 | _=>Vp
def RelV.abs(r:RelV x u):LK u=Vo x:=by
 cases x with
 | non=>cases r;rfl
 | bl _=>cases r;rfl
 | int _=>obtain⟨t,rfl⟩:=r;rfl
 | str _=>obtain⟨t,rfl⟩:=r;rfl
 | byt _=>obtain⟨t,rfl⟩:=r;rfl
 | flt _=>obtain⟨t,rfl⟩:=r;rfl
 | ref _=>cases r;rfl
 | ty _=>cases r;rfl
def RelV.inj(r:RelV x u)(q:RelV y u):x=y:=MO (r.abs.symm.trans q.abs)
theorem Vals.inj:∀{xs ys:List V} {us:List Va},Vals xs us->Vals ys us->xs=ys
 | _,_,_,.nil,.nil=>rfl
 | _,_,_,.cons r t,.cons a t'=>by rw[r.inj a,Vals.inj t t']
section
variable {X:Cx} {pins:List (Vb×Obj)} {σ:St} {H:Hp} {s:Vc} {a:Vb} {xs ys:List V}
def af.of{K:L8}(h:H a=Vo (.lst xs)):af K H a xs:=.inl (.inl h)
def ak.of{K:L8}(h:H a=Vo (.tup xs)):ak K H a xs:=.inl (.inl h)
def Inv.list(I:Inv X pins σ H s)(h:af X.K H a xs):∃b,Vals xs b/\PlainL s.heap a b.toArray/\xs.length<=sizeLine:=by
 rcases h with h|⟨o,b,n,c,d,hd,hs,f,r⟩
 .obtain⟨z,b,n,r,e⟩:=h.ok I.hok;exact⟨b,r,⟨_,n,e,rfl,rfl,rfl⟩,z⟩
 .refine⟨b.toList,r,⟨o,n,I.kIn a o c,d,hd,by simpa using hs⟩,?_⟩;have e:=r.length;simp only[Mh]at e;omega
def Inv.tuple(I:Inv X pins σ H s)(h:ak X.K H a xs):∃b,Vals xs b/\IsTup s.heap a b.toArray/\xs.length<=sizeLine:=by
 rcases h with h|⟨o,b,n,c,d,hs,f,r⟩
 .obtain⟨z,b,r,p⟩:=h.ok I.hok;exact⟨b,r,p,z⟩
 .refine⟨b.toList,r,⟨o,I.kIn a o c,d,n,by simpa using hs⟩,?_⟩;have e:=r.length;simp only[Mh]at e;omega
def Inv.list_inj(I:Inv X pins σ H s)(h:af X.K H a xs)(h':af X.K H a ys):xs=ys:=by
 obtain⟨c,r,⟨o,n,e,_,_,d⟩,_⟩:=I.list h;obtain⟨b,i,⟨o',k,f,_,_,g⟩,_⟩:=I.list h';rw[e]at f;cases f;rw[d]at g;injection g with j _;have:c=b:=by simpa using congrArg Array.toList j
 subst this;exact r.inj i
def Inv.tuple_inj(I:Inv X pins σ H s)(h:ak X.K H a xs)(h':ak X.K H a ys):xs=ys:=by
 obtain⟨c,r,⟨o,e,_,n,d⟩,_⟩:=I.tuple h;obtain⟨b,i,⟨o',f,_,k,g⟩,_⟩:=I.tuple h';rw[e]at f;cases f;rw[d]at g;injection g with j _;have:c=b:=by simpa using congrArg Array.toList j
 subst this;exact r.inj i
end
abbrev Cx.wish(X:Cx)(E:Va->Vc->Prop):Cx:={ X with xe:=E }
abbrev Cx.nox(X:Cx):Cx:=X.wish λ_ _=>False
theorem Cx.Ok.wish{X:Cx}(ok:X.Ok)(E:Va->Vc->Prop):(X.wish E).Ok:=
 ⟨ok.mod,ok.kind,ok.glob,ok.blt,ok.above,ok.inj,ok.has,ok.cab,ok.hd,ok.frames,ok.stk,ok.exf,ok.bs,ok.bsz,ok.noex,ok.exfs,ok.funs,ok.frf⟩
def Cx.Ok.unwish{X:Cx}(ok:(X.wish E).Ok):X.Ok:=
 ⟨ok.mod,ok.kind,ok.glob,ok.blt,ok.above,ok.inj,ok.has,ok.cab,ok.hd,ok.frames,ok.stk,ok.exf,ok.bs,ok.bsz,ok.noex,ok.exfs,ok.funs,ok.frf⟩
section
variable {X:Cx} {pins:List (Vb×Obj)} {σ:St} {H:Hp} {s:Vc} {E:Va->Vc->Prop}
theorem Inv.wish(I:Inv X pins σ H s)(E:Va->Vc->Prop):Inv (X.wish E) pins σ H s:=⟨I.ok.wish E,I.os,I.bare,I.base,I.loc,I.cell,I.free,I.freeC,I.pin,I.hok,I.len⟩
theorem Inv.unwish(I:Inv (X.wish E) pins σ H s):Inv X pins σ H s:=⟨I.ok.unwish,I.os,I.bare,I.base,I.loc,I.cell,I.free,I.freeC,I.pin,I.hok,I.len⟩
theorem SP.unwish{D:Ends}{f:Flow}{s':Vc}(h:SP (X.wish E) pins D f s'):SP X pins D f s':=by
 cases f with
 | next=>obtain⟨a,H',I,q⟩:=h;exact⟨a,H',I.unwish,q⟩
 | brk=>obtain⟨a,H',I,q⟩:=h;exact⟨a,H',I.unwish,q⟩
 | cont=>obtain⟨a,H',I,q⟩:=h;exact⟨a,H',I.unwish,q⟩
 | ret u=>obtain⟨v,a,H',I,r,q⟩:=h;exact⟨v,a,H',I.unwish,r,q⟩
theorem cD.nox{st:List Vl}{t:TS}(h:cD X.nox st t):cD X st t:=λpins s σ H D I a=>
 wpAny_mono (h pins s σ H D (I.wish _) a) (λ_ _ q=>q.unwish) λ_ _ z=>M7 z
end
section
variable {X:Cx} {st:Vl} {rest:List Vl} {t u:TS} {e:Vk} {te:TE} {pos:Pos}
def xc:TS:=λD σ H=>D.nx σ H
def yB(t u:TS):TS:=λD σ H=>t { D with nx:=u D } σ H
def aT:cD X [] xc:=λ_ _ σ H _ I h=>wpAny_execs_nil ⟨σ,H,I,h⟩
def ah(h1:PS X st t)(h2:cD X rest u):cD X (st::rest) (yB t u):=by
 intro pins s σ H D I h;refine wpAny_execs_cons (ax (h1 pins s σ H { D with nx:=u D } I h) λf s1 q=>?_);cases f with
 | next=>
  obtain⟨a,H',b,q⟩:=q;exact h2 pins s1 a H' D b q
 | ret v=>exact q
 | brk=>exact q
 | cont=>exact q
def aj(h1:PS X st t):cD X [st] t:=by
 intro pins s σ H D I h;refine wpAny_execs_cons (ax (h1 pins s σ H D I h) λf s1 q=>?_);cases f with
 | next=>exact wpAny_execs_nil q
 | ret v=>exact q
 | brk=>exact q
 | cont=>exact q
def Inv.quiet{σ:St}(I:Inv X pins σ H s):interactive X.env=false:=by simp[interactive,I.ok.kind]
def vp(te:TE):TS:=λD σ H=>te σ H λ_ H1=>D.nx σ H1
def bp(a:PE X e te)(hs:swapsWith e Vp pos.line X.env=pure false:=by rfl):PS X (.Expr e pos) (vp te):=by intro pins s σ H D I h;exact wpAny_Expr_any (ax (a pins s σ H _ I h) λv s1 ⟨x,H1,b,r1,c⟩=>⟨σ,H1,b,c⟩) I.quiet hs
def AU(te:TE):TS:=λD σ H=>te σ H D.rt
def az(a:PE X e te):PS X (.Return (Vo e) pos) (AU te):=by intro pins s σ H D I h;exact wpAny_Return_some (ax (a pins s σ H _ I h) λv s1 ⟨x,H1,b,r1,c⟩=>⟨x,σ,H1,b,r1,c⟩)
def tw(c:TT)(t u:TS):TS:=λD σ H=>c σ H λb H1=>if b=true then t D σ H1 else u D σ H1
def ba{c}{a b}{tc}(g:PT X c tc)(ha:cD X a t)(hb:cD X b u):PS X (.If c a b pos) (tw tc t u):=by
 intro pins s σ H D I h;refine wpAny_If (ax (g pins s σ H _ I h) λd s1 ⟨H1,e,f⟩=>?_);cases d with
 | true=>exact ha pins s1 σ H1 D e f
 | false=>exact hb pins s1 σ H1 D e f
def Iw:TS:=λ_ _ _=>False
def iI:PS X st Iw:=λ_ _ _ _ _ _ h=>h.elim
end
abbrev TG:=V->St->Hp->(St->Hp->Prop)->Prop
abbrev fw:=List V->St->Hp->(St->Hp->Prop)->Prop
def PG(X:Cx)(target:Vk)(t:TG):Prop:=
 ∀(pins:List (Vb×Obj)) (s:Vc) (σ:St) (H:Hp) (v:V) (u:Va) (Q:St->Hp->Prop),Inv X pins σ H s->RelV v u->t v σ H Q ->
  Vf (Vg X.prog X.w) X.A (assign target X.env u) (λ_ s'=>∃a H',Inv X pins a H' s'/\Q a H') X.xe s
def jC(X:Cx)(ts:List Vk)(t:fw):Prop:=
 ∀(pins:List (Vb×Obj)) (s:Vc) (σ:St) (H:Hp) (vs:List V) (us:List Va) (Q:St->Hp->Prop),Inv X pins σ H s->Vals vs us->t vs σ H Q ->
  Vf (Vg X.prog X.w) X.A (assignInOrder ((assignEach ts X.env).map (·.2)) us) (λ_ s'=>∃a H',Inv X pins a H' s'/\Q a H') X.xe s
abbrev lB:=V->V->V->Hp->(Hp->Prop)->Prop
def BH(X:Cx)(t:lB):Prop:=
 ∀(pins:List (Vb×Obj)) (s:Vc) (σ:St) (H:Hp) (o i v:V) (a b u:Va) (Q:Hp->Prop),Inv X pins σ H s->RelV o a->RelV i b->RelV v u->t o i v H Q ->
  Vf (Vg X.prog X.w) X.A (setItem a b u) (λ_ s'=>∃H',Inv X pins σ H' s'/\Q H') X.xe s
abbrev kT:=V->V->Hp->VK->Prop
def qH(X:Cx)(op:Operator)(t:kT):Prop:=
 ∀(pins:List (Vb×Obj)) (s:Vc) (σ:St) (H:Hp) (x y:V) (v u:Va) (Q:VK),Inv X pins σ H s->RelV x v->RelV y u->t x y H Q ->
  Vf (Vg X.prog X.w) X.A (inplaceOp op v u) (EP X pins σ Q) X.xe s
section
variable {X:Cx} {pos:Pos}
def jr(i:Nat):TG:=λv σ H Q=>Q (σ.set i (Vo v)) H
def aI{i:Nat}{x:Vn}(a:X.N.Nodup)(hi:X.N[i]?=Vo x)(b:Loc X.env.scope x)(c:X.fn x=true\/X.env.scope.names.lookup x=Vo .local:=by first|exact .inl rfl|exact .inr rfl|assumption):PG X (.Name x pos) (jr i):=by intro pins s σ H v u Q I r h;exact wpAny_assign_Name (kU I a hi b r (λs' d=>⟨_,H,d,h⟩) c)
def ua:fw:=λvs σ H Q=>vs=[]/\Q σ H
def yO(t:TG)(u:fw):fw:=λvs σ H Q=>∃v r,vs=v::r/\t v σ H λa H'=>u r a H' Q
def eJ:jC X [] ua:=by intro pins s σ H vs us Q I r h;obtain⟨e,h⟩:=h;subst e;cases r;exact assignInOrder_nil ⟨σ,H,I,h⟩
def bY{e:Vk}{es:List Vk}{t:TG}{u:fw}(h1:PG X e t)(h2:jC X es u)
  (hs:(assignEach (e::es) X.env).map (·.2)=assign e X.env::(assignEach es X.env).map (·.2):=by rfl):jC X (e::es) (yO t u):=by
 intro pins s σ H vs us Q I r h;obtain⟨v,g,b,h⟩:=h;subst b;cases r with
 | cons r c=>
  rw[hs];refine assignInOrder_cons (ax (h1 pins s σ H _ _ _ I r h) λ_ s1 ⟨a,H1,d,f⟩=>?_);exact h2 pins s1 a H1 _ _ Q d c f
def lZ(K:L8)(n:Nat)(t:fw):TG:=λv σ H Q=>∃a xs,v=.ref a/\ak K H a xs/\xs.length=n/\t xs σ H Q
def K2{es:List Vk}{k:Nat}{t:fw}(f:X.calm=true)(h:jC X es t)
  (g:(assignEach es X.env).length=n:=by rfl) (hst:(assignEach es X.env).findIdx? (·.1)=Vp:=by rfl):PG X (.Tuple es k pos) (lZ X.K n t):=by
 intro pins s σ H v u Q I r c;obtain⟨a,xs,i,j,l,c⟩:=c;subst i;cases r;obtain⟨m,d,p,x⟩:=I.tuple j;refine assign_Tuple_tuple (I.ok.hd f) p (by simp[g,<-l,d.length]) hst λh' q=>?_;have w:Inv X pins σ H { s with heap:=h' }:=I.kept (t':=s.toks) λb o e=>q b o (Mv (Mb e)) e;exact h pins _ σ H xs _ Q w (by simpa using d) c
def AQ(to a:TE)(t:lB):TG:=λv σ H Q=>to σ H λo H1=>a σ H1 λi H2=>t o i v H2 λb=>Q σ b
def kO{o i:Vk}{to c:TE}{t:lB}(ho:PE X o to)(hi:PE X i c)(hs:BH X t)
  (ha:∀v,assign (.Subscript o i pos) X.env v=(do
   let a <-holding [v] (eval o X.env);let b <-holding [v,a] (eval i X.env)
   standAt pos
   holding [v,a,b] (setItem a b v)
   release [v,a,b] []):=by intro _;rfl):PG X (.Subscript o i pos) (AQ to c t):=by
 intro pins s σ H v u Q I r h;refine L6 (wpAny_holding (ax (ho pins s σ H _ I h) λa s1 ⟨x,H1,d,r1,e⟩=>?_));refine L6 (wpAny_holding (ax (hi pins s1 σ H1 _ d e) λb s2 ⟨y,H2,f,g,j⟩=>?_));refine L6 (wpAny_standAt (L6 (wpAny_holding (ax (hs pins s2 σ H2 x y v a b u _ f r1 g r j) λ_ n ⟨k,l,m⟩=>?_))));exact wpAny_release ⟨σ,k,l,m⟩
def mX(te:TE)(g:TG):TS:=λD σ H=>te σ H λx H1=>g x σ H1 D.nx
def ku{tg e:Vk}{te:TE}{g:TG}(a:PE X e te)(b:PG X tg g)(hs:swapsWithSole [tg] e pos.line X.env=pure false:=by rfl)(c:swappedStores [tg] e X.env=pure Vp:=by rfl)
  (h1:(assignEach [tg] X.env).map (·.2)=[assign tg X.env]:=by rfl):PS X (.Assign [tg] e pos) (mX te g):=by
 intro pins s σ H D I h;refine wpAny_Assign_stores (ax (a pins s σ H _ I h) λv s1 ⟨x,H1,d,r1,f⟩=>?_) hs c;rw[h1];exact ax (b pins s1 σ H1 x v _ d r1 f) λ_ s2 q=>q
def aw{i:Nat}{x:Vn}{e:Vk}{te:TE}{pos':Pos}(a:X.N.Nodup)(hi:X.N[i]?=Vo x)(b:Loc X.env.scope x)(c:PE X e te)(hs:swapsWith e (Vo (.Name x pos')) pos.line X.env=pure false:=by rfl)(d:X.fn x=true\/X.env.scope.names.lookup x=Vo .local:=by first|exact .inl rfl|exact .inr rfl|assumption):
  PS X (.Assign [.Name x pos'] e pos) (mX te (jr i)):=by
 intro pins s σ H D I h;refine wpAny_Assign_Name (ax (c pins s σ H _ I h) λv s1 ⟨y,H1,f,r1,g⟩=>?_) hs;exact kU f a hi b r1 (λs2 j=>⟨_,H1,j,g⟩) d
def xb(i:Nat)(te:TE)(a:kT):TS:=λD σ H=>∃x,σ[i]?=Vo (Vo x)/\te σ H λy H1=>a x y H1 λz H2=>D.nx (σ.set i (Vo z)) H2
def lX{i:Nat}{x:Vn}{e:Vk}{te:TE}{op:Operator}{n:kT}{pos':Pos}(o:X.N.Nodup)(hi:X.N[i]?=Vo x)(g:Loc X.env.scope x)(p:PE X e te)(ho:qH X op n)(q:X.fn x=true\/X.env.scope.names.lookup x=Vo .local:=by first|exact .inl rfl|exact .inr rfl|assumption):
  PS X (.AugAssign (.Name x pos') op e pos) (xb i te n):=by
 intro pins s σ H D I h;obtain⟨v,B,h⟩:=h;obtain⟨m,C,E⟩:=I.loc;have j:nu X.env.scope x:=by rcases g with k|k;exact .inl k;exact .inr (.inl k)
 obtain⟨u,r,l⟩:=E i x v hi B j;refine wpAny_AugAssign_Name ?_;have go:Vf (Vg X.prog X.w) X.A (eval e X.env) (λw d=>Vf (Vg X.prog X.w) X.A (inplaceOp op u w) (λr f=>Vf (Vg X.prog X.w) X.A (storeName X.env x r) (λ_=>SP X pins D .next) X.xe f) X.xe d) X.xe s:=by refine ax (p pins s σ H _ I h) λw s1 ⟨y,H1,F,r1,G⟩=>?_;refine ax (ho pins s1 σ H1 v y u w _ F r r1 G) λz s2 ⟨R,H2,J,L,M⟩=>?_;exact kU J o hi g L (λS O=>⟨_,H2,O,M⟩) q
 rcases l with⟨a,P⟩|⟨a,c,Q,b⟩
 .exact wpAny_loadName_local I.ok.kind a C P go
 .rcases a with a|a
  .exact wpAny_loadName_cell I.ok.kind a Q b go
  .rcases g with k|k
   .have:X.env.scope.names.lookup x=Vo .free:=a;rw[k]at this;cases this
   .have:X.env.scope.names.lookup x=Vo .free:=a;rw[k]at this;cases this
def sr(f:Int->Int->Int):kT:=λx y H Q=>∃i j,x=.int i/\y=.int j/\Q (.int (f i j)) H
def qM:qH X .Add (sr λi j=>i+j):=by intro pins s σ H x y v u Q I r1 a h;obtain⟨i,j,b,c,q⟩:=h;subst b;subst c;obtain⟨t,rfl⟩:=r1;obtain⟨d,rfl⟩:=a;exact iadd_int ⟨.int _,H,I.tok _,⟨_,rfl⟩,q⟩
def EB:qH X .Sub (sr λi j=>i-j):=by intro pins s σ H x y v u Q I r1 a h;obtain⟨i,j,b,c,q⟩:=h;subst b;subst c;obtain⟨t,rfl⟩:=r1;obtain⟨d,rfl⟩:=a;exact isub_int ⟨.int _,H,I.tok _,⟨_,rfl⟩,q⟩
def J7(c:TT)(tb:TS):TS:=λD σ H=>∃W:Nat->St->Hp->Prop,(∃m,W m σ H)/\∀m σ H,W m σ H ->
 c σ H λb H1=>if b=true then ∃N:St->Hp->Prop,(∀a H',N a H'->∃d,d<m/\W d a H')/\tb { D with nx:=N,ct:=N,bk:=D.nx } σ H1 else D.nx σ H1
def HN(q:PassesOwn (Vg X.prog X.w) X.A X.env X.xe)(x:PT X c tc)(hb:cD X body tb):PS X (.While c body [] pos) (J7 tc tb):=by
 intro pins s σ H D I h;obtain⟨W,⟨y,z⟩,turn⟩:=h;refine wpAny_While (codeAny_whileLoop (λn s'=>∃e H',Inv X pins e H' s'/\W n e H') ?_ y ⟨σ,H,I,z⟩);rintro n s1 ⟨d,H1,B,C⟩;refine wpAny_passesOwn q (ax (x pins s1 d H1 _ B (turn n d H1 C)) λb s2 ⟨H2,r,i⟩=>?_);cases b with
 | true=>
  obtain⟨N,u,i⟩:=i;refine wpAny_passesOwn q (ax (hb pins s2 d H2 _ r i) λf E j=>?_);cases f with
  | next=>
   obtain⟨a,g,k,l⟩:=j;obtain⟨m,o,p⟩:=u a g l;exact⟨m,o,a,g,k,p⟩
  | cont=>
   obtain⟨a,g,k,l⟩:=j;obtain⟨m,o,p⟩:=u a g l;exact⟨m,o,a,g,k,p⟩
  | brk=>exact j
  | ret v=>exact j
 | false=>
  exact wpAny_execs_nil ⟨d,H2,r,i⟩
end
structure It where
 go:Nat->Hp->Prop
 yld:Nat->Hp->V->Hp->Prop
 stop:Nat->Hp->Prop
def cq(X:Cx)(pins:List (Vb×Obj))(H:Hp)(b:Vb):Prop:=
 H b=Vp/\b≠X.env.locals/\b∉X.fs/\(b∈X.ex\/X.s₀.heap.objs.size<=b)/\(∀x c,X.env.cells.lookup x=Vo c->c≠b)/\∀p∈X.pn++pins,p.1≠b
def Inv.fpOk{σ:St}{b:Vb}(I:Inv X pins σ H s)(hb:s.heap.objs.size<=b)(a:H' b=Vp):cq X pins H' b:=by
 refine⟨a,NU (MG I.lt hb),I.nofs hb,.inr (MH I.sz hb),λx c e z=>?_,λp d z=>?_⟩
 .obtain⟨v,q⟩:=I.cell x c e;exact absurd (MG q.lt (by rw[z];exact hb)) (ND _)
 .exact absurd (MG (Mb (I.pin p d).1) (by rw[z];exact hb)) (ND _)
structure Turn(P:Vd)(w:Ve)(K:L8)(tg:Vk)(J:It)(fp:List Vb)(it:Vb)(tn:Nat->Vh->Prop):Prop where
 mem:it∈fp
 obj:∀i h,tn i h->∀b∈fp,∃o,h.get? b=Vo o/\∀v,o.data≠.cell v
 keep:∀i h h',tn i h->(∀b∈fp,∀o,h.get? b=Vo o->h'.get? b=Vo o)->tn i h'
 item:∀(X:Cx),X.prog=P->X.w=w->X.K=K->X.calm=true->∀(i:Nat) (pins:List (Vb×Obj)) (s:Vc) (σ:St) (H:Hp) (E:Va->Vc->Prop),Inv X pins σ H s->(∀b∈fp,cq X pins H b)->tn i s.heap->J.go i H ->
  Vf (Vg P w) X.A (pyNext (.ref it)) (λr s1=>∃u,r=Vo u ∧
   Vf (Vg P w) X.A (letOwnedTupleGo tg (.ref it) u) (λ_ s2=>∃x H',Inv X pins σ H' s2/\RelV x u/\J.yld i H x H'/\tn (i+1) s2.heap/\∀b∈fp,H' b=Vp) E s1) E s
 done:∀(X:Cx),X.prog=P->X.w=w->X.K=K->X.calm=true->∀(i:Nat) (pins:List (Vb×Obj)) (s:Vc) (σ:St) (H:Hp) (E:Va->Vc->Prop),Inv X pins σ H s->(∀b∈fp,cq X pins H b)->tn i s.heap->J.stop i H ->
  Vf (Vg P w) X.A (pyNext (.ref it)) (λr s1=>r=Vp/\Inv X pins σ H s1) E s
 self:∀(A:Vi) (i:Nat) (s:Vc) (Q:Va->Vc->Prop) (E:Va->Vc->Prop),tn i s.heap->Q (.ref it) s->Vf (Vg P w) A (pyIter (.ref it)) Q E s
abbrev TI:=St->Hp->(It->Hp->Prop)->Prop
def oU(X:Cx)(pins:List (Vb×Obj))(σ:St)(tg:Vk)(R:It->Hp->Prop)(a:Va)(s2:Vc):Prop:=
 ∃(it:Vb) (fp:List Vb) (tn:Nat->Vh->Prop) (J:It) (H':Hp),a=.ref it/\Inv X pins σ H' s2/\Turn X.prog X.w X.K tg J fp it tn/\tn 0 s2.heap/\(∀b∈fp,cq X pins H' b)/\R J H'
def PI(X:Cx)(tg iter:Vk)(a:TI):Prop:=
 ∀(pins:List (Vb×Obj)) (s:Vc) (σ:St) (H:Hp) (R:It->Hp->Prop),Inv X pins σ H s->a σ H R ->
  Vf (Vg X.prog X.w) X.A (eval iter X.env) (λv s1=>Vf (Vg X.prog X.w) X.A (pyIter v) (oU X pins σ tg R) X.xe s1) X.xe s
def iR         {n : String}  {Q : Unit -> Vc -> Prop} (ho : s.heap.get? it = Vo o) (b : o.cls = .type n) (hd : o.data = .fields vs)
    (c : ["enumerate", "zip", "dict_itemiterator", "dict_reverseitemiterator", "odict_iterator", "itertools.zip_longest", "itertools.pairwise"].contains n = false) (a : Q () s) : Vf M A (letOwnedTupleGo tg (.ref it) u) Q E s := by
  cases tg <;> first
    | exact L7 a
    | (cases u <;> first
        | exact L7 a
        | (refine L6 (wpAny_load ho ?_)
           rw [b, hd];show Vf M A (if (["enumerate", "zip", "dict_itemiterator", "dict_reverseitemiterator", "odict_iterator", "itertools.zip_longest", "itertools.pairwise"].contains n && vs[0]? == Vo (rawInt _)) = true then _ else _) Q E s;rw [M1 (by intro h; rw [c, OJ] at h; cases h)];exact L7 a))
def cu(K:L8)(a:Vb):It:=
 ⟨λi H=>∃xs x,af K H a xs/\xs[i]?=Vo x,λi H x H'=>H'=H/\∀xs,af K H a xs->xs[i]?=Vo x,λi H=>∃xs,af K H a xs/\xs.length<=i⟩
def cU(K:L8)(a:Vb):It:=
 ⟨λi H=>∃xs x,ak K H a xs/\xs[i]?=Vo x,λi H x H'=>H'=H/\∀xs,ak K H a xs->xs[i]?=Vo x,λi H=>∃xs,ak K H a xs/\xs.length<=i⟩
def eh(lo:Int)(n:Nat):It:=⟨λi _=>i<n,λi H x H'=>H'=H/\x=.int (lo+i),λi _=>n<=i⟩
def m9{K:L8}(a it):Turn P w K tg (cu K a) [it] it (λi h=>h.IsListIter it a i) where
 mem:=by simp
 obj:=λi h st b hb=>by
  have e:b=it:=by simpa using hb
  subst e;obtain⟨o,e,c,d⟩:=st;exact⟨o,e,λv z=>by rw[d]at z;cases z⟩
 keep:=λi h h' st k=>st.at λo e=>k it (by simp) o e
 item:=by intro X l m n L i pins s σ H E I g st q;subst l m n;obtain⟨xs,x,j,r⟩:=q;obtain⟨y,A,p,M⟩:=I.list j;obtain⟨u,N,O⟩:=A.get r;obtain⟨B,C,Q,F,G,J⟩:=g it (by simp);refine wpAny_pyNext_list_item st p.isList (by simpa using N) λh' f sb=>?_;have R:Inv X pins σ H { s with heap:=h' }:=I.turned (t':=s.toks) (λb o hb e=>(sb.2 b hb).trans e) B C F G J;obtain⟨o,e,c,d⟩:=id f;exact⟨u,rfl,iR e c d (by decide) ⟨x,H,R,O,⟨rfl,λys S=>by rw[I.list_inj S j];exact r⟩,f,λb hb=>(g b hb).1⟩⟩
 done:=by intro X l m n L i pins s σ H E I g st q;subst l m n;obtain⟨xs,j,r⟩:=q;obtain⟨y,A,p,M⟩:=I.list j;obtain⟨B,C,Q,F,G,J⟩:=g it (by simp);have U:=A.length;exact wpAny_pyNext_list_end (I.ok.hd L) st p.isList (by simp;omega) λh' T=>⟨rfl,I.turned (λb o hb e=>T b o hb e) B C F G J⟩
 self:=λ_ _ _ _ _ st h=>wpAny_pyIter_listiter st h
def FW{K:L8}(a it):Turn P w K tg (cU K a) [it] it (λi h=>h.IsTupleIter it a i) where
 mem:=by simp
 obj:=λi h st b hb=>by
  have e:b=it:=by simpa using hb
  subst e;obtain⟨o,e,c,d⟩:=st;exact⟨o,e,λv z=>by rw[d]at z;cases z⟩
 keep:=λi h h' st k=>st.at λo e=>k it (by simp) o e
 item:=by intro X m n q L i pins s σ H E I j st r;subst m n q;obtain⟨xs,x,l,y⟩:=r;obtain⟨f,A,p,M⟩:=I.tuple l;obtain⟨u,N,O⟩:=A.get y;obtain⟨B,C,Q,F,G,J⟩:=j it (by simp);refine wpAny_pyNext_tuple_item st (p) (by simpa using N) λh' g sb=>?_;have R:Inv X pins σ H { s with heap:=h' }:=I.turned (t':=s.toks) (λb o hb e=>(sb.2 b hb).trans e) B C F G J;obtain⟨o,e,c,d⟩:=id g;exact⟨u,rfl,iR e c d (by decide) ⟨x,H,R,O,⟨rfl,λys S=>by rw[I.tuple_inj S l];exact y⟩,g,λb hb=>(j b hb).1⟩⟩
 done:=by intro X m n q L i pins s σ H E I j st r;subst m n q;obtain⟨xs,l,y⟩:=r;obtain⟨f,A,p,M⟩:=I.tuple l;obtain⟨B,C,Q,F,G,J⟩:=j it (by simp);have U:=A.length;exact wpAny_pyNext_tuple_end (I.ok.hd L) st (p) (by simp;omega) λh' T=>⟨rfl,I.turned (λb o hb e=>T b o hb e) B C F G J⟩
 self:=λ_ _ _ _ _ st h=>wpAny_pyIter_tupleiter st h
def Hm{K:L8}(it)(lo)(n):Turn P w K tg (eh lo n) [it] it (λi h=>IsRangeIter h it (lo+(i:Nat)*1) ((n:Int)-(i:Nat)) 1) where
 mem:=by simp
 obj:=λi h st b hb=>by
  have e:b=it:=by simpa using hb
  subst e;exact⟨_,st,λv z=>by have x:=z;cases x⟩
 keep:=λi h h' st k=>k it (by simp) _ st
 item:=by intro X d f g j i pins s σ H E I c st l;subst d f g;obtain⟨m,p,y,q,r,u⟩:=c it (by simp);have W:=Walks.range (prog:=X.prog) (w:=X.w) (I.ok.hd j) it lo 1 n;refine W.item i s _ _ l st λv h' tk hv a kk=>?_;obtain⟨t,rfl⟩:=hv;have A:Inv X pins σ H { s with heap:=h',toks:=tk }:=I.turned (λb o hb e=>kk b o (by simpa using hb) e) m p q r u;refine⟨_,rfl,iR a rfl rfl (by decide) ⟨.int (lo+i),H,A,⟨t,?_⟩,⟨rfl,rfl⟩,a,λb hb=>(c b hb).1⟩⟩;rw[Int.mul_one]
 done:=by intro X d f g j i pins s σ H E I c st l;obtain⟨m,p,y,q,r,u⟩:=c it (by simp);exact wpAny_pyNext_range_end (I.ok.hd j) st (by have:n<=i:=l;omega) λh' B=>⟨rfl,I.turned (λb o hb e=>B b o hb e) m p q r u⟩
 self:=λ_ _ _ _ _ st h=>wpAny_pyIter_rangeiter st h
section
variable {X:Cx} {tg:Vk}
def lA(K:L8)(tl:TE):TI:=λσ H R=>tl σ H λx H1=>∃a,x=.ref a/\(∃xs,af K H1 a xs)/\R (cu K a) H1
def oI(K:L8)(tl:TE):TI:=λσ H R=>tl σ H λx H1=>∃a,x=.ref a/\(∃xs,ak K H1 a xs)/\R (cU K a) H1
def Iv(d:PE X l tl):PI X tg l (lA X.K tl):=by
 intro pins s σ H R I h;refine ax (d pins s σ H _ I h) λv s1 ⟨x,H1,c,r1,f⟩=>?_;obtain⟨a,e,⟨xs,g⟩,q⟩:=f;subst e;cases r1;obtain⟨i,j,p,k⟩:=c.list g;refine wpAny_pyIter_list p.isList ?_;refine⟨s1.heap.objs.size,[s1.heap.objs.size],_,_,H1,rfl,c.kept λb o e=>L9 _ e,m9 a _,⟨_,Ma _ rfl,rfl,rfl⟩,λb hb=>?_,q⟩;have e:b=s1.heap.objs.size:=by simpa using hb
 subst e;exact c.fpOk (Mw _) (c.hok.fresh (Mw _))
def DU(f:PE X l tl):PI X tg l (oI X.K tl):=by
 intro pins s σ H R I h;refine ax (f pins s σ H _ I h) λv s1 ⟨x,H1,c,r1,g⟩=>?_;obtain⟨a,e,⟨xs,i⟩,q⟩:=g;subst e;cases r1;obtain⟨d,j,p,k⟩:=c.tuple i;refine wpAny_pyIter_tuple (p) ?_;refine⟨s1.heap.objs.size,[s1.heap.objs.size],_,_,H1,rfl,c.kept λb o e=>L9 _ e,FW a _,⟨_,Ma _ rfl,rfl,rfl⟩,λb hb=>?_,q⟩;have e:b=s1.heap.objs.size:=by simpa using hb
 subst e;exact c.fpOk (Mw _) (c.hok.fresh (Mw _))
def zt{σ:St}{lo hi:Int}{t u v:Tok}(I:Inv X pins σ H s)(h1:-(2 ^ 62)<=lo)(h2:lo<2 ^ 62)(c:-(2 ^ 62)<=hi)(d:hi<2 ^ 62)
  (q:R (eh lo (hi-lo).toNat) H):Vf (Vg X.prog X.w) X.A (pyIter (.ref s.heap.objs.size)) (oU X pins σ tg R) E { s with heap:=s.heap.push { cls:=.type "range",data:=.fields #[.int lo t,.int hi u,.int 1 v] },toks:=tk }:=by
 refine wpAny_pyIter_range (IsRange.new ..) (small_one h1 h2 c d) ?_;have a:Inv X pins σ H { s with heap:=s.heap.push { cls:=.type "range",data:=.fields #[.int lo t,.int hi u,.int 1 v] },toks:=tk }:=I.kept λb o e=>L9 _ e;refine⟨(s.heap.push { cls:=.type "range",data:=.fields #[.int lo t,.int hi u,.int 1 v] }).objs.size,[(s.heap.push { cls:=.type "range",data:=.fields #[.int lo t,.int hi u,.int 1 v] }).objs.size],_,_,H,rfl,
  a.kept λb o e=>L9 _ e,Hm _ lo (hi-lo).toNat,?_,λb hb=>?_,q⟩
 .have f:lo+((0:Nat):Int)*1=lo:=by simp
  have g:(((hi-lo).toNat:Nat):Int)-((0:Nat):Int)=NW lo hi 1:=by rw[rangeSize_one];split<;>omega
  rw[f,g];exact Ma _ rfl
 .have e:b=(s.heap.push { cls:=.type "range",data:=.fields #[.int lo t,.int hi u,.int 1 v] }).objs.size:=by simpa using hb
  subst e;exact a.fpOk (Mw _) (a.hok.fresh (Mw _))
def uv(ta:TA):TI:=λσ H R=>ta σ H λvs H1=>∃j:Int,vs=[.int j]/\-(2 ^ 62)<=j/\j<2 ^ 62/\R (eh 0 j.toNat) H1
def yP(ta:TA):TI:=λσ H R=>ta σ H λvs H1=>∃i j:Int,vs=[.int i,.int j]/\(-(2 ^ 62)<=i/\i<2 ^ 62/\-(2 ^ 62)<=j/\j<2 ^ 62)/\R (eh i (j-i).toNat) H1
def dP{a:Vk}{ta:TA}{p pos:Pos}(c:Gl X "range")(d:X.mg "range" = Vp)(ha:PA X [a] ta)(hs:starEach [a] X.env=[(false,eval a X.env)]:=by rfl):PI X tg (.Call (.Name "range" p) [a] [] pos) (uv ta):=by
 intro pins s σ H R I h;refine Call_ (eL I c d boot_range (NF (ax (ha pos pins s σ H _ I h) λus s1 ⟨vs,H1,f,r1,b⟩=>?_) hs rfl));obtain⟨j,e,b,g,q⟩:=b;subst e;cases r1 with
 | cons r i=>
  cases i;obtain⟨t,rfl⟩:=r;exact call_range_1 (zt f (by omega) (by omega) b g (by simpa using q))
def sI{a b:Vk}{ta:TA}{p pos:Pos}(g:Gl X "range")(k:X.mg "range" = Vp)(ha:PA X [a,b] ta)(hs:starEach [a,b] X.env=[(false,eval a X.env),(false,eval b X.env)]:=by rfl)(c:starEach [b] X.env=[(false,eval b X.env)]:=by rfl):
  PI X tg (.Call (.Name "range" p) [a,b] [] pos) (yP ta):=by
 intro pins s σ H R I h;refine Call_ (eL I g k boot_range (NF (ax (ha pos pins s σ H _ I h) λus s1 ⟨vs,H1,l,r1,d⟩=>?_) (by rw[hs,c]) (by rw[c];rfl)));obtain⟨i,j,e,⟨d,m,n,o⟩,q⟩:=d;subst e;cases r1 with
 | cons r f=>
  cases f with
  | cons u f=>
   cases f;obtain⟨t,rfl⟩:=r;obtain⟨v,rfl⟩:=u;exact call_range_2 (zt l d m n o q)
def sT(d:TI)(g:TG)(tb:TS):TS:=λD σ H=>d σ H λJ H1=>∃W:Nat->Nat->St->Hp->Prop,(∃m,W 0 m σ H1)/\∀i m σ H,W i m σ H ->
 (J.stop i H/\D.nx σ H)\/(J.go i H/\∃N:St->Hp->Prop,(∀a H',N a H'->∃c,c<m/\W (i+1) c a H')/\∀x H',J.yld i H x H'->g x σ H' λb H2=>tb { D with nx:=N,ct:=N,bk:=D.nx } b H2)
def iC(fp:List Vb)(h:Vh):List (Vb×Obj):=fp.filterMap λb=>(h.get? b).map λo=>(b,o)
def qo(hb:b∈fp)(e:h.get? b=Vo o):(b,o)∈iC fp h:=OK.mpr ⟨b,hb,by rw[e];rfl⟩
def vJ(a:p∈iC fp h):p.1∈fp/\h.get? p.1=Vo p.2:=by
 obtain⟨b,hb,e⟩:=OK.mp a;cases q:h.get? b with
 | none=>rw[q]at e;cases e
 | some o=>
  rw[q]at e;have c:(b,o)=p:=MO e;subst c;exact⟨hb,q⟩
def Inv.pinned{σ:St}(I:Inv X pins σ H s)(c:∀b∈fp,cq X pins H b)(ho:∀b∈fp,∃o,s.heap.get? b=Vo o/\∀v,o.data≠.cell v):Inv X (pins++iC fp s.heap) σ H s:=
 I.pins_of λp f=>(MA.mp f).elim (λz=>I.pin p (MP _ z)) λz=>by obtain⟨hb,e⟩:=vJ z;obtain⟨g,h,i,_⟩:=c p.1 hb;obtain⟨o,a,d⟩:=ho p.1 hb;rw[e]at a;cases a;exact⟨e,g,h,i,d⟩
def Inv.unpinned{σ:St}(I:Inv X (pins++pl) σ H s):Inv X pins σ H s:=I.pins_of λp a=>I.pin p (MP _ (MQ _ a))
def bJ{iter:Vk}{Q:TI}{g:TG}{tb:TS}{pos:Pos}(y:PassesOwn (Vg X.prog X.w) X.A X.env X.xe)(R:X.calm=true)(hi:PI X tg iter Q)(hg:PG X tg g)(hb:cD X body tb)
  (hs:∀x,foldedSetIterable iter X.env x=pure x:=by intro _;rfl):PS X (.For tg iter body [] pos) (sT Q g tb):=by
 intro pins s σ H D I h;refine wpAny_For (ax (hi pins s σ H _ I h) λv s1 h1=>ax h1 λa0 s2 h2=>?_) hs;obtain⟨it,fp,tn,J,H2,e,I2,T,F,S,W,⟨m0,w0⟩,turn⟩:=h2;subst e;have stat:∀{H':Hp},(∀b∈fp,H' b=Vp)->∀b∈fp,cq X pins H' b:=λhn b hb=>⟨hn b hb,(S b hb).2⟩;refine codeAny_forLoop_any (λn s'=>∃i c H',Inv X pins c H' s'/\tn i s'.heap/\(∀b∈fp,H' b=Vp)/\W i n c H') ?_ m0 ⟨0,σ,H2,I2,F,λb hb=>(S b hb).1,w0⟩;rintro n U ⟨i,j,E,Y,z,B,w3⟩;rcases turn i n j E w3 with⟨stop,qn⟩|⟨go,N,hN,step⟩
 .refine wpAny_passesOwn y (ax (T.done X rfl rfl rfl R i pins U j E X.xe Y (stat B) z stop) λr s4 ⟨G,I4⟩=>?_);subst G;exact wpAny_execs_nil ⟨j,E,I4,qn⟩
 .refine wpAny_passesOwn y (ax (T.item X rfl rfl rfl R i pins U j E X.xe Y (stat B) z go) λr s4 ⟨u,G,h4⟩=>?_);subst G;refine wpAny_passesOwn y (ax h4 λ_ Z ⟨x,H5,I5,r5,y5,q,L⟩=>?_);have M:=I5.pinned (stat L) (T.obj _ _ q);refine wpAny_passesOwn y (ax (hg _ Z j H5 x u _ M r5 (step x H5 y5)) λ_ s6 ⟨O,H6,I6,q6⟩=>?_);refine wpAny_passesOwn y (ax (hb _ s6 O H6 _ I6 q6) λf P p=>?_);have again:∀{a:St} {k:Hp},Inv X (pins++iC fp Z.heap) a k P->N a k->∃m,m<n/\∃i c H',Inv X pins c H' P/\tn i P.heap/\(∀b∈fp,H' b=Vp)/\W i m c H':=λ{a k} l C=>by obtain⟨m',hm,w7⟩:=hN a k C;refine⟨m',hm,i+1,a,k,l.unpinned,T.keep _ _ _ q λb hb o e=>(l.pin (b,o) (MP _ (MP _ (qo hb e)))).1,λb hb=>?_,w7⟩;obtain⟨o,e,d⟩:=T.obj _ _ q b hb;exact(l.pin (b,o) (MP _ (MP _ (qo hb e)))).2.1
  cases f with
  | next=>obtain⟨a,k,l,C⟩:=p;exact again l C
  | cont=>obtain⟨a,k,l,C⟩:=p;exact again l C
  | brk=>obtain⟨a,k,l,p⟩:=p;exact⟨a,k,l.unpinned,p⟩
  | ret v=>obtain⟨x7,a,k,l,r7,p⟩:=p;exact⟨x7,a,k,l.unpinned,r7,p⟩
end
def Gw{K:L8}{g:TG}{tb:TS}{D:Ends}(Pv:Nat->St->Hp->Prop)(f:Pv 0 σ H)(h:∀i σ H,i<=xs.length->Pv i σ H->af K H a xs)
  (hs:∀i x σ H,xs[i]?=Vo x->Pv i σ H->g x σ H λb H2=>tb { D with nx:=Pv (i+1),ct:=Pv (i+1),bk:=D.nx } b H2) (hd:∀σ H,Pv xs.length σ H->D.nx σ H) :
  ∃W:Nat->Nat->St->Hp->Prop,(∃m,W 0 m σ H)/\∀i m σ H,W i m σ H ->
   ((cu K a).stop i H/\D.nx σ H)\/((cu K a).go i H/\∃N,(∀c H',N c H'->∃d,d<m/\W (i+1) d c H')/\∀x H',(cu K a).yld i H x H'->g x σ H' λb H2=>tb { D with nx:=N,ct:=N,bk:=D.nx } b H2):=by
 refine⟨λi m σ H=>m=xs.length-i/\i<=xs.length/\Pv i σ H,⟨xs.length,by simp,LI _,f⟩,?_⟩;rintro i m σ H ⟨rfl,hi,p⟩;have q:=h i σ H hi p;by_cases hlt:i<xs.length
 .refine .inr ⟨⟨xs,xs[i],q,by simp[hlt]⟩,Pv (i+1),λc H' j=>⟨xs.length-(i+1),by omega,rfl,hlt,j⟩,λx H' y=>?_⟩;obtain⟨e,y⟩:=y;subst e;exact hs i x σ _ (y xs q) p
 .have e:i=xs.length:=by omega
  subst e;exact .inl ⟨⟨xs,q,Mw _⟩,hd σ H p⟩
def IU{K:L8}{g:TG}{tb:TS}{D:Ends}(Pv:Nat->St->Hp->Prop)(f:Pv 0 σ H)(h:∀i σ H,i<=xs.length->Pv i σ H->ak K H a xs)
  (hs:∀i x σ H,xs[i]?=Vo x->Pv i σ H->g x σ H λb H2=>tb { D with nx:=Pv (i+1),ct:=Pv (i+1),bk:=D.nx } b H2) (hd:∀σ H,Pv xs.length σ H->D.nx σ H) :
  ∃W:Nat->Nat->St->Hp->Prop,(∃m,W 0 m σ H)/\∀i m σ H,W i m σ H ->
   ((cU K a).stop i H/\D.nx σ H)\/((cU K a).go i H/\∃N,(∀c H',N c H'->∃d,d<m/\W (i+1) d c H')/\∀x H',(cU K a).yld i H x H'->g x σ H' λb H2=>tb { D with nx:=N,ct:=N,bk:=D.nx } b H2):=by
 refine⟨λi m σ H=>m=xs.length-i/\i<=xs.length/\Pv i σ H,⟨xs.length,by simp,LI _,f⟩,?_⟩;rintro i m σ H ⟨rfl,hi,p⟩;have q:=h i σ H hi p;by_cases hlt:i<xs.length
 .refine .inr ⟨⟨xs,xs[i],q,by simp[hlt]⟩,Pv (i+1),λc H' j=>⟨xs.length-(i+1),by omega,rfl,hlt,j⟩,λx H' y=>?_⟩;obtain⟨e,y⟩:=y;subst e;exact hs i x σ _ (y xs q) p
 .have e:i=xs.length:=by omega
  subst e;exact .inl ⟨⟨xs,q,Mw _⟩,hd σ H p⟩
def HJ{lo:Int}{g:TG}{tb:TS}{D:Ends}(Pv:Nat->St->Hp->Prop)(d:Pv 0 σ H)
  (hs:∀i σ H,i<n->Pv i σ H->g (.int (lo+i)) σ H λa H2=>tb { D with nx:=Pv (i+1),ct:=Pv (i+1),bk:=D.nx } a H2) (hd:∀σ H,Pv n σ H->D.nx σ H) :
  ∃W:Nat->Nat->St->Hp->Prop,(∃m,W 0 m σ H)/\∀i m σ H,W i m σ H ->
   ((eh lo n).stop i H/\D.nx σ H)\/((eh lo n).go i H/\∃N,(∀b H',N b H'->∃c,c<m/\W (i+1) c b H')/\∀x H',(eh lo n).yld i H x H'->g x σ H' λa H2=>tb { D with nx:=N,ct:=N,bk:=D.nx } a H2):=by
 refine⟨λi m σ H=>m=n-i/\i<=n/\Pv i σ H,⟨n,by simp,LI _,d⟩,?_⟩;rintro i m σ H ⟨rfl,hi,p⟩;by_cases hlt:i<n
 .refine .inr ⟨hlt,Pv (i+1),λb H' f=>⟨n-(i+1),by omega,rfl,hlt,f⟩,λx H' y=>?_⟩;obtain⟨e,y⟩:=y;subst e y;exact hs i σ _ hlt p
 .have e:i=n:=by omega
  subst e;exact .inl ⟨Mw _,hd σ H p⟩
abbrev R2:=V->V->Hp->VK->Prop
def br(X:Cx)(f:Va->Va->Sem Va)(r:R2):Prop:=
 ∀(pins:List (Vb×Obj)) (s:Vc) (σ:St) (H:Hp) (x y:V) (v u:Va) (Q:VK),Inv X pins σ H s->RelV x v->RelV y u->r x y H Q ->
  Vf (Vg X.prog X.w) X.A (f v u) (EP X pins σ Q) X.xe s
def pV(X:Cx)(f:Va->Sem Va)(r:V->Hp->VK->Prop):Prop:=
 ∀(pins:List (Vb×Obj)) (s:Vc) (σ:St) (H:Hp) (x:V) (v:Va) (Q:VK),Inv X pins σ H s->RelV x v->r x H Q ->
  Vf (Vg X.prog X.w) X.A (f v) (EP X pins σ Q) X.xe s
def cb(X:Cx)(f:Va)(r:List V->Hp->VK->Prop):Prop:=
 ∀(pins:List (Vb×Obj)) (s:Vc) (σ:St) (H:Hp) (xs:List V) (us:List Va) (Q:VK),Inv X pins σ H s->Vals xs us->r xs H Q ->
  Vf (Vg X.prog X.w) X.A (call f us) (EP X pins σ Q) X.xe s
def Fq(X:Cx)(r:V->Hp->(Bool->Hp->Prop)->Prop):Prop:=
 ∀(pins:List (Vb×Obj)) (s:Vc) (σ:St) (H:Hp) (x:V) (v:Va) (Q:Bool->Hp->Prop),Inv X pins σ H s->RelV x v->r x H Q ->
  Vf (Vg X.prog X.w) X.A (truthy v) (TP X pins σ Q) X.xe s
def jx(r:R2)(ta tb:TE):TE:=λσ H Q=>ta σ H λx H1=>tb σ H1 λy H2=>r x y H2 Q
def zi(r:V->Hp->VK->Prop)(ta:TE):TE:=λσ H Q=>ta σ H λx H1=>r x H1 Q
def rI(C:Int->Int->Prop)(g:Int->Int->V):R2:=λx y H Q=>∃i j,x=.int i/\y=.int j/\C i j/\Q (g i j) H
def fN(g:Int->Int->V):R2:=λx y H Q=>∃i j,x=.int i/\y=.int j/\Q (g i j) H
def rU(g:Int->V):V->Hp->VK->Prop:=λx H Q=>∃i,x=.int i/\Q (g i) H
section
variable {X:Cx} {a b c:Vk} {ta tb tc:TE} {pos:Pos}
def qV(ha:PE X a ta)(hb:PE X b tb){σ:St}{R:V->V->Hp->Prop}(I:Inv X pins σ H s)
  (h:ta σ H λx H1=>tb σ H1 λy H2=>R x y H2)  {f:Va->Va->Sem Va}
  (e:∀v u s2 x y H2,Inv X pins σ H2 s2->RelV x v->RelV y u->R x y H2->Vf (Vg X.prog X.w) X.A (f v u) Q X.xe s2) :
  Vf (Vg X.prog X.w) X.A (eval a X.env) (λv c=>Vf (Vg X.prog X.w) X.A (eval b X.env) (λu d=>Vf (Vg X.prog X.w) X.A (f v u) Q X.xe d) X.xe c) X.xe s:=by
 refine ax (ha pins s σ H _ I h) λv s1 ⟨x,H1,g,r1,i⟩=>?_;refine ax (hb pins s1 σ H1 _ g i) λu s2 ⟨y,H2,j,k,l⟩=>?_;exact e v u s2 x y H2 j r1 k l
def aB(ho:br X (binaryOp op) r)(ha:PE X a ta)(hb:PE X b tb):PE X (.BinOp a op b pos) (jx r ta tb):=by intro pins s σ H Q I h;exact wpAny_BinOp (qV ha hb I h λv u s2 x y H2 c d e q=>ho pins s2 σ H2 x y v u Q c d e q)
def kL(ho:pV X (unaryOp op) r)(ha:PE X a ta):PE X (.UnaryOp op a pos) (zi r ta):=by intro pins s σ H Q I h;exact UnaryOp_ (ax (ha pins s σ H _ I h) λv s1 ⟨x,H1,b,r1,c⟩=>ho pins s1 σ H1 x v Q b r1 c)
def mF{C:Int->Int->Prop}{g:Int->Int->Int}
  (rule:∀i j t u s Q E,C i j->Q (.int (g i j) s.toks) { s with toks:=s.toks+1 }->Vf (Vg X.prog X.w) X.A (f (.int i t) (.int j u)) Q E s) :
  br X f (rI C λi j=>.int (g i j)):=by
 intro pins s σ H x y v u Q I a b h;obtain⟨i,j,rfl,rfl,c,q⟩:=h;obtain⟨t,rfl⟩:=a;obtain⟨d,rfl⟩:=b;exact rule i j t d s _ _ c ⟨.int (g i j),H,I.tok _,⟨_,rfl⟩,q⟩
def pA{g:Int->Int->Int}
  (rule:∀i j t u s Q E,Q (.int (g i j) s.toks) { s with toks:=s.toks+1 }->Vf (Vg X.prog X.w) X.A (f (.int i t) (.int j u)) Q E s) :
  br X f (fN λi j=>.int (g i j)):=by
 intro pins s σ H x y v u Q I a b h;obtain⟨i,j,rfl,rfl,q⟩:=h;obtain⟨t,rfl⟩:=a;obtain⟨c,rfl⟩:=b;exact rule i j t c s _ _ ⟨.int (g i j),H,I.tok _,⟨_,rfl⟩,q⟩
def lT{g:Int->Int->Bool}
  (rule:∀i j t u s Q E,Q (.bool (g i j)) s->Vf (Vg X.prog X.w) X.A (f (.int i t) (.int j u)) Q E s) :
  br X f (fN λi j=>.bl (g i j)):=by
 intro pins s σ H x y v u Q I a b h;obtain⟨i,j,rfl,rfl,q⟩:=h;obtain⟨t,rfl⟩:=a;obtain⟨c,rfl⟩:=b;exact rule i j t c s _ _ ⟨.bl (g i j),H,I,rfl,q⟩
def vw(i j:Int):Prop:=0<=j/\j<=1000000/\i.natAbs<2 ^ 64
def me(i j:Int):Prop:=(-(2 ^ 64)<i/\i<2 ^ 64)\/(-(2 ^ 64)<j/\j<2 ^ 64)
def me.ok(h:me i j):IntMulOk i j:=by
 rcases h with⟨h1,h2⟩|⟨h1,h2⟩
 .exact .of_left (intBits_le_64 h1 h2)
 .exact .of_right (intBits_le_64 h1 h2)
def dz:br X (binaryOp .Add) (fN λi j=>.int (i+j)):=pA λ_ _ _ _ _ _ _ q=>add_int q
def hJ:br X (binaryOp .Sub) (fN λi j=>.int (i-j)):=pA λ_ _ _ _ _ _ _ q=>sub_int q
def gN:br X (binaryOp .Mult) (rI me λi j=>.int (i*j)):=mF λ_ _ _ _ _ _ _ a q=>mul_int q a.ok
def gj:br X (binaryOp .Mod) (rI (λ_ j=>0<j) λi j=>.int (i % j)):=mF λi j _ _ _ _ _ a q=>by exact mod_int' (by omega) (by rw[Int.fmod_eq_emod_of_nonneg i (by omega)];exact q)
def zF:br X (binaryOp .Pow) (rI vw λi j=>.int (i ^ j.toNat)):=mF λ_ _ _ _ _ _ _ a q=>pow_int_small a.1 a.2.1 a.2.2 q
def Fw:br X (binaryOp .BitAnd) (fN λi j=>.int (Rc i j)):=pA λ_ _ _ _ _ _ _ q=>and_int q
def D8{g:Int->Int}
  (rule:∀i t s Q E,Q (.int (g i) s.toks) { s with toks:=s.toks+1 }->Vf (Vg X.prog X.w) X.A (f (.int i t)) Q E s) :
  pV X f (rU λi=>.int (g i)):=by
 intro pins s σ H x v Q I a h;obtain⟨i,rfl,q⟩:=h;obtain⟨t,rfl⟩:=a;exact rule i t s _ _ ⟨.int (g i),H,I.tok _,⟨_,rfl⟩,q⟩
def kZ:pV X (unaryOp .USub) (rU λi=>.int (-i)):=D8 λ_ _ _ _ _ q=>neg_int q
end
def yd:V->V->Bool
 | .non,.non=>true|.non,.int _=>true|.int _,.non=>true|.non,.bl _=>true|.bl _,.non=>true|.non,.str _=>true|.str _,.non=>true
 | .int _,.int _=>true|.bl _,.bl _=>true|.str _,.str _=>true|.byt _,.byt _=>true
 | .int _,.str _=>true|.str _,.int _=>true|.bl _,.str _=>true|.str _,.bl _=>true
 | _,_=>false
def lD:R2:=λx y H Q=>yd x y=true/\Q (.bl (decide (x=y))) H
def rN:R2:=λx y H Q=>yd x y=true/\Q (.bl (!decide (x=y))) H
def vG:decide (V.int i=V.int j)=(i == j):=by rw[ML];simp
def p7:decide (V.bl i=V.bl j)=(i == j):=by rw[ML];simp
def kz:decide (V.str i=V.str j)=(i == j):=by rw[ML];simp
def y9:decide (V.byt i=V.byt j)=(i.toList == j.toList):=by rw[ML];cases i;cases j;simp
section
variable {X:Cx} {a b c:Vk} {ta tb tc:TE} {pos:Pos}
def bD{σ:St}{Q:VK}{k a:Bool}(I:Inv X pins σ H s)(q:Q (.bl k) H)(e:k=a):EP X pins σ Q (.bool a) s:=by subst e;exact⟨.bl k,H,I,rfl,q⟩
def cM:br X (compareOp .Eq) lD:=by
 intro pins s σ H x y v u Q I c a h;obtain⟨hs,q⟩:=h;cases x with
 | non=>
  cases c;cases y with
  | non=>cases a;exact PySem.EqNone.eq_none_none (bD I q (by simp))
  | bl j=>cases a;exact PySem.EqNone.eq_none_bool (bD I q (by simp))
  | int j=>obtain⟨b,rfl⟩:=a;exact PySem.EqNone.eq_none_int (bD I q (by simp))
  | str j=>obtain⟨b,rfl⟩:=a;exact PySem.EqNone.eq_none_str (bD I q (by simp))
  | _=>exact absurd (hs) Ms
 | bl i=>
  cases c;cases y with
  | non=>cases a;exact PySem.EqNone.eq_bool_none (bD I q (by simp))
  | bl j=>cases a;exact eq_bool (bD I q p7)
  | str j=>obtain⟨b,rfl⟩:=a;exact PySem.EqMixed.eq_bool_str (bD I q (by simp))
  | _=>exact absurd (show false=true from hs) Ms
 | int i=>
  obtain⟨t,rfl⟩:=c;cases y with
  | non=>cases a;exact PySem.EqNone.eq_int_none (bD I q (by simp))
  | int j=>obtain⟨b,rfl⟩:=a;exact eq_int (bD I q vG)
  | str j=>obtain⟨b,rfl⟩:=a;exact PySem.EqMixed.eq_int_str (bD I q (by simp))
  | _=>exact absurd (show false=true from hs) Ms
 | str i=>
  obtain⟨t,rfl⟩:=c;cases y with
  | non=>cases a;exact PySem.EqNone.eq_str_none (bD I q (by simp))
  | bl j=>cases a;exact PySem.EqMixed.eq_str_bool (bD I q (by simp))
  | int j=>obtain⟨b,rfl⟩:=a;exact PySem.EqMixed.eq_str_int (bD I q (by simp))
  | str j=>obtain⟨b,rfl⟩:=a;exact eq_str (bD I q kz)
  | _=>exact absurd (show false=true from hs) Ms
 | byt i=>
  obtain⟨t,rfl⟩:=c;cases y with
  | byt j=>obtain⟨b,rfl⟩:=a;exact PySem.W.eq_bytes (bD I q y9)
  | _=>exact absurd (show false=true from hs) Ms
 | _=>cases y<;>exact absurd (show false=true from hs) Ms
def iq:br X (compareOp .NotEq) rN:=by
 intro pins s σ H x y v u Q I c a h;obtain⟨hs,q⟩:=h;cases x with
 | non=>
  cases c;cases y with
  | non=>cases a;exact PySem.EqNone.ne_none_none (bD I q (by simp))
  | bl j=>cases a;exact PySem.EqNone.ne_none_bool (bD I q (by simp))
  | int j=>obtain⟨b,rfl⟩:=a;exact PySem.EqNone.ne_none_int (bD I q (by simp))
  | str j=>obtain⟨b,rfl⟩:=a;exact PySem.EqNone.ne_none_str (bD I q (by simp))
  | _=>exact absurd (hs) Ms
 | bl i=>
  cases c;cases y with
  | non=>cases a;exact PySem.EqNone.ne_bool_none (bD I q (by simp))
  | bl j=>cases a;exact ne_bool (bD I q (congrArg not p7))
  | str j=>obtain⟨b,rfl⟩:=a;exact PySem.EqMixed.ne_bool_str (bD I q (by simp))
  | _=>exact absurd (show false=true from hs) Ms
 | int i=>
  obtain⟨t,rfl⟩:=c;cases y with
  | non=>cases a;exact PySem.EqNone.ne_int_none (bD I q (by simp))
  | int j=>obtain⟨b,rfl⟩:=a;exact ne_int (bD I q (congrArg not vG))
  | str j=>obtain⟨b,rfl⟩:=a;exact PySem.EqMixed.ne_int_str (bD I q (by simp))
  | _=>exact absurd (show false=true from hs) Ms
 | str i=>
  obtain⟨t,rfl⟩:=c;cases y with
  | non=>cases a;exact PySem.EqNone.ne_str_none (bD I q (by simp))
  | bl j=>cases a;exact PySem.EqMixed.ne_str_bool (bD I q (by simp))
  | int j=>obtain⟨b,rfl⟩:=a;exact PySem.EqMixed.ne_str_int (bD I q (by simp))
  | str j=>obtain⟨b,rfl⟩:=a;exact ne_str (bD I q (congrArg not kz))
  | _=>exact absurd (show false=true from hs) Ms
 | byt i=>
  obtain⟨t,rfl⟩:=c;cases y with
  | byt j=>obtain⟨b,rfl⟩:=a;exact PySem.W.ne_bytes (bD I q (congrArg not y9))
  | _=>exact absurd (show false=true from hs) Ms
 | _=>cases y<;>exact absurd (show false=true from hs) Ms
def fH:br X (compareOp .Lt) (fN λi j=>.bl (decide (i<j))):=lT λ_ _ _ _ _ _ _ q=>lt_int q
def iH:br X (compareOp .LtE) (fN λi j=>.bl (decide (i<=j))):=lT λ_ _ _ _ _ _ _ q=>le_int q
def ja:br X (compareOp .Gt) (fN λi j=>.bl (decide (j<i))):=lT λ_ _ _ _ _ _ _ q=>gt_int q
def qT:br X (compareOp .GtE) (fN λi j=>.bl (decide (j<=i))):=lT λ_ _ _ _ _ _ _ q=>ge_int q
def LW:br X (compareOp .In) (λx y H Q=>∃i j,x=.str i/\y=.str j/\Q (.bl (!(OD j i 0 j.length 1).isEmpty)) H):=by intro pins s σ H x y v u Q I a b h;obtain⟨i,j,rfl,rfl,q⟩:=h;obtain⟨t,rfl⟩:=a;obtain⟨c,rfl⟩:=b;exact in_str (bD I q rfl)
def oK:br X (compareOp .Is) (λx y H Q=>y=.non/\Q (.bl (decide (x=.non))) H):=by
 intro pins s σ H x y v u Q I a b h;obtain⟨rfl,q⟩:=h;cases b;refine is_none_gen (bD I q ?_);cases x<;>first
  | (cases a;rfl)
  | (obtain⟨t,rfl⟩:=a;rfl)
def Hk:br X (compareOp .IsNot) (λx y H Q=>y=.non/\Q (.bl (!decide (x=.non))) H):=by
 intro pins s σ H x y v u Q I a b h;obtain⟨rfl,q⟩:=h;cases b;refine isnot_none_gen (bD I q ?_);cases x<;>first
  | (cases a;rfl)
  | (obtain⟨t,rfl⟩:=a;rfl)
def aN(b:Vk){op:CmpOp}(h:op≠.In:=by decide)(h2:op≠.NotIn:=by decide):behindInMarks op b=false:=by
 have a:(op == CmpOp.In)=false:=by cases op<;>first|rfl|exact absurd rfl h
 have c:(op == CmpOp.NotIn)=false:=by cases op<;>first|rfl|exact absurd rfl h2
 cases b<;>simp[behindInMarks,a,c]
def gq(ho:br X (compareOp op) r)(ha:PE X a ta)(hb:PE X b tb)(c:behindInMarks op b=false):PE X (.Compare a [op] [b] pos) (jx r ta tb):=by intro pins s σ H Q I h;exact wpAny_Compare1 (qV ha hb I h λv u s2 x y H2 d e f q=>ho pins s2 σ H2 x y v u Q d e f q) c
def BI(t:TE):TT:=λσ H Q=>t σ H λx H'=>∃k,x=.bl k/\Q k H'
def aP(ho:br X (compareOp op) r)(ha:PE X a ta)(hb:PE X b tb)(d:behindInMarks op b=false):PT X (.Compare a [op] [b] pos) (BI (jx r ta tb)):=by
 intro pins s σ H Q I h;refine wpAny_isTrue_Compare1 (ax (ha pins s σ H _ I h) λv s1 ⟨x,H1,f,r1,g⟩=>ax (hb pins s1 σ H1 _ f g) λu s2 ⟨y,H2,i,j,l⟩=>
  ax (ho pins s2 σ H2 x y v u _ i r1 j l) λc q ⟨z,m,n,o,k,e,p⟩=>?_) d
 subst e;cases o;exact wpAny_truthy_bool ⟨m,n,p⟩
def AA(r b:R2)(ta tb tc:TE):TE:=λσ H Q=>ta σ H λx H1=>tb σ H1 λy H2=>r x y H2 λz a=>∃k,z=.bl k ∧
 (if k=true then tc σ a λc d=>b y c d Q else Q (.bl false) a)
def mK{op f:CmpOp}{r i:R2}(ho:br X (compareOp op) r)(g:br X (compareOp f) i)(ha:PE X a ta)(hb:PE X b tb)(o:PE X c tc)
  (p:lastMarks [op,f] [b,c]=false:=by with_unfolding_all rfl):PE X (.Compare a [op,f] [b,c] pos) (AA r i ta tb tc):=by
 intro pins s σ H Q I h;refine Compare_chain (ax (ha pins s σ H _ I h) λv s1 ⟨x,H1,q,r1,w⟩=>chain_link (ax (hb pins s1 σ H1 _ q w) λu s2 ⟨y,H2,A,j,B⟩=>
  ax (ho pins s2 σ H2 x y v u _ A r1 j B) λd C ⟨z,l,m,E,k,e,n⟩=>?_)) p
 subst e;cases E;refine wpAny_truthy_bool ?_;cases k with
 | false=>exact ite_ff ⟨.bl false,l,m,rfl,n⟩
 | true=>exact ite_tt (chain_last (ax (o pins C σ l _ m n) λF G ⟨J,L,M,N,O⟩=>g pins G σ L y J u F Q M j N O))
def mr(K:L8)(x:V)(H:Hp)(k:Bool):Prop:=
 match x with
 | .non=>k=false
 | .bl b=>k=b
 | .int i=>k=(i != 0)
 | .str y=>y.length<=sizeLine/\k=((y.length:Int) != 0)
 | .byt y=>y.size<=sizeLine/\k=((y.size:Int) != 0)
 | .ref p=>(∃xs,af K H p xs/\k = !xs.isEmpty)\/(∃xs,ak K H p xs/\k = !xs.isEmpty)\/∃kvs,H p=Vo (.dK kvs)/\k = !kvs.isEmpty
 | _=>False
def Kw{kvs:List (κ×V)}{vs:List (κ×Va)}(r:KV kvs vs):(!vs.isEmpty) = !kvs.isEmpty:=by cases r<;>rfl
def zk{a:List Va}(r:Vals xs a):(!a.toArray.isEmpty) = !xs.isEmpty:=by cases r<;>simp
def iY:(sizeLine:Nat)<2 ^ 63:=by decide
def Lx:Fq X (λx H Q=>∃k,mr X.K x H k/\Q k H):=by
 intro pins s σ H x v Q I c h;obtain⟨k,e,q⟩:=h;have hs:sizeLine=16777216:=sizeLine_eq;cases x with
 | non=>
  cases c;have a:k=false:=e;subst a;exact truthy_none ⟨H,I,q⟩
 | bl b=>
  cases c;have a:k=b:=e;subst a;exact wpAny_truthy_bool ⟨H,I,q⟩
 | int i=>
  obtain⟨t,rfl⟩:=c;have a:k=(i != 0):=e;subst a;exact PySem.P.truthy_int ⟨H,I,q⟩
 | str y=>
  obtain⟨t,rfl⟩:=c;obtain⟨j,a⟩:y.length<=sizeLine/\k=((y.length:Int) != 0):=e;subst a;exact PySem.P.truthy_str (by omega) ⟨H,I.tok _,q⟩
 | byt y=>
  obtain⟨t,rfl⟩:=c;obtain⟨j,a⟩:y.size<=sizeLine/\k=((y.size:Int) != 0):=e;subst a;exact PySem.W.truthy_bytes (by omega) ⟨H,I.tok _,q⟩
 | ref p=>
  cases c;have a:(∃xs,af X.K H p xs/\k = !xs.isEmpty)\/(∃xs,ak X.K H p xs/\k = !xs.isEmpty)\/∃kvs,H p=Vo (.dK kvs)/\k = !kvs.isEmpty:=e;rcases a with⟨xs,d,a⟩|⟨xs,d,a⟩|⟨kvs,d,a⟩
  .subst a;obtain⟨f,r,pl,g⟩:=I.list d;have hlen:=r.length;exact wpAny_truthy_list pl.isList (by simp only[Mi];omega) ⟨H,I.tok _,by rw[zk r];exact q⟩
  .subst a;obtain⟨f,r,pl,g⟩:=I.tuple d;have hlen:=r.length;exact truthy_tuple pl (by simp only[Mi];omega) ⟨H,I.tok _,by rw[zk r];exact q⟩
  .subst a;obtain⟨g,l,vs,r,m⟩:kvs.length<=sizeLine/\(p == sysModules)=false/\∃vs,KV kvs vs/\s.heap.DictOf (cN X.prog X.w) p vs:=I.hok p _ d;have hlen:kvs.length=vs.length:=N9 r;exact wpAny_truthy_dict l m (by omega) ⟨H,I.tok _,by rw[Kw r];exact q⟩
 | _=>exact(show False from e).elim
def Lw(ha:PE X a ta)(b:∀whole,isTrue a X.env whole=(do let v <-whole;standAt a.pos;holding [v] (truthy v))):
  PT X a (λσ H Q=>ta σ H λx H'=>∃k,mr X.K x H' k/\Q k H'):=by
 intro pins s σ H Q I h;exact isTrue_plain (ax (ha pins s σ H _ I h) λv s1 ⟨x,H1,c,r1,d⟩=>Lx pins s1 σ H1 x v Q c r1 d) (b _)
def lg:br X (binaryOp .Add) (λx y H Q=>∃i j,x=.str i/\y=.str j/\i.length+j.length<=sizeLine/\Q (.str (i++j)) H):=by intro pins s σ H x y v u Q I a b h;obtain⟨i,j,rfl,rfl,c,q⟩:=h;obtain⟨t,rfl⟩:=a;obtain⟨d,rfl⟩:=b;exact add_str (λd tk=>⟨.str (i++j),H,I.tok _,⟨_,rfl⟩,q⟩) c
def vals1(r:Vals [x] us):∃u,us=[u]/\RelV x u:=by
 cases r with
 | cons r1 a=>cases a;exact⟨_,rfl,r1⟩
def vals2(r:Vals [x,y] us):∃u a,us=[u,a]/\RelV x u/\RelV y a:=by
 cases r with
 | cons r1 b=>
  cases b with
  | cons c d=>cases d;exact⟨_,_,rfl,r1,c⟩
def LJ(b:X.calm=true):cb X (.builtin "max") (λxs H Q=>∃i j,xs=[.int i,.int j]/\Q (.int (if j>i then j else i)) H):=by
 intro pins s σ H xs us Q I r h;obtain⟨i,j,rfl,q⟩:=h;obtain⟨u,c,rfl,⟨t,rfl⟩,⟨d,rfl⟩⟩:=vals2 r;refine max_two_ints (I.ok.hd b) λh' tk k=>⟨_,H,I.kept k,?_,q⟩;by_cases a:j>i
 .rw[M3 a,M3 a];exact⟨_,rfl⟩
 .rw[M1 a,M1 a];exact⟨_,rfl⟩
def Kj(b:X.calm=true):cb X (.builtin "min") (λxs H Q=>∃i j,xs=[.int i,.int j]/\Q (.int (if j<i then j else i)) H):=by
 intro pins s σ H xs us Q I r h;obtain⟨i,j,rfl,q⟩:=h;obtain⟨u,c,rfl,⟨t,rfl⟩,⟨d,rfl⟩⟩:=vals2 r;refine min_two_ints (I.ok.hd b) λh' tk k=>⟨_,H,I.kept k,?_,q⟩;by_cases a:j<i
 .rw[M3 a,M3 a];exact⟨_,rfl⟩
 .rw[M1 a,M1 a];exact⟨_,rfl⟩
def iw:cb X (.type "str") (λxs H Q=>∃i,xs=[.int i]/\i.natAbs.log2<1920/\Q (.str (toString i)) H):=by intro pins s σ H xs us Q I r h;obtain⟨i,rfl,a,q⟩:=h;obtain⟨u,rfl,t,rfl⟩:=vals1 r;exact PySem.P.str_of_int a ⟨.str _,H,I.tok _,⟨_,rfl⟩,q⟩
end
structure ObjM(h:Vh)(x dx C:Vb)(mA:Vn->Option Va):Prop where
 obj:h.get? x=Vo (OF C dx)
 ns:h.Ns1 dx mA
 ne:dx≠x
def CW(n:h.Ns1 dx mA):∃od,h.get? dx=Vo od/\∀name,Qe name od=Vo (mA name):=by
 obtain⟨o,es,ep,ho,hd,c,_,d⟩:=n;refine⟨o,ho,λname=>?_⟩;have e:=d name;unfold nsFind findBy at e;rw[<-Array.find?_toList]at e;unfold Qe;rw[hd];dsimp only;split
 .rename_i y q;rw[q]at e;exact congrArg Vo e
 .rename_i q;rw[q]at e;have a:es.toList.any (·.refKey)=false:=by rw[List.any_eq_false];intro y f;obtain⟨z,t,b⟩:=c y (QB.mp f);simp[DictEntry.refKey,b]
  have g:¬es.toList.any (·.refKey)=true:=by rw[a];exact Ms
  rw[M1 g];exact congrArg Vo e
def ObjM.look(I:ObjM h x dx C mA):∃od,PySem.W.InstAt h x (OF C dx) C (Vo od)/\∀name,Qe name od=Vo (mA name):=
 let ⟨od,ho,hl⟩:=CW I.ns
 ⟨od,⟨I.obj,rfl,rfl,ho⟩,hl⟩
section
variable {prog:Vd} {w:Ve} {A:Vi} {E:Va->Vc->Prop} {s:Vc} {K:L8} {x dx C f:Vb} {mA:Vn->Option Va} {name:Vn} {v:Va}
def get_map(X:K.In s.heap)(I:ObjM s.heap x dx C mA)(b:PH K C name=true)(c:Pg K C=true)
  (ha:L1 K (.ref C) name=Vo Vp) (hv:mA name=Vo v) (a:SQ v=true) (h:Q v { s with toks:=s.toks+1 }) :
  Vf (Vg prog w) A (getAttr (.ref x) name expr) Q E s:=by
 obtain⟨od,J,d⟩:=I.look;exact PySem.W.get_value X J (QR b).1 (PySem.W.findObj_own c ha rfl (by rw[d,hv])) a h
def Fb{Q:Va×List Va->Vc->Prop}(X:K.In s.heap)(I:ObjM s.heap x dx C mA)(a:PH K C name=true)
  (b:L1 K (.ref C) name=Vo (Vo (.ref f))) (c:OW K (.ref f)=true) (hv:mA name=Vp) (h:Q (.ref f,[.ref x]) s) :
  Vf (Vg prog w) A (getMethod (.ref x) name pl) Q E s:=by
 obtain⟨od,J,d⟩:=I.look;exact PySem.W.method_fn X J (QR a).1 (QR a).2 b (beq_iff_eq.mp c) (by show(Qe name od).map (·.isSome)=Vo false;rw[d,hv];rfl) h
def CO{Q:Unit->Vc->Prop}(X:K.In s.heap)(I:ObjM s.heap x dx C mA)
  (hs:L1 K (.ref C) "__setattr__" = Vo (Vo (.builtin "object.__setattr__"))) (j:Qp K C=true) (k:RN K C name=Vo Vp) (l:Pg K C=true)
  (m:R8 mA ns) (hsz:ns.length<=sizeLine)
  (h:∀h',ObjM h' x dx C (λy=>if y=name then Vo v else mA y)->Nw dx s.heap h'->Q () { s with heap:=h',toks:=s.toks+2 }) :
  Vf (Vg prog w) A (setAttr (.ref x) name v) Q E s:=by
 obtain⟨od,J,u⟩:=I.look;refine PySem.W.set_plain X J hs (PySem.W.osa_open X J j k λb=>?_);obtain⟨cd,n,e⟩:=PySem.W.any_some l;have o:s.heap.get? x=Vo ⟨.ref C,Vo dx,.plain,#[]⟩:=I.obj;refine L6 (L7 (L6 (L6 (wpAny_loadPart o (L6 (PySem.W.Looks.here (PySem.W.looks_clsIn X n) ?_))))));rw[e];refine L7 (L6 (L7 (L6 ?_)));refine wpAny_nsSet1 I.ns λh' c d=>?_;obtain⟨z,p,q,f,g,i⟩:=c.count (PySem.Within.cons name v m);refine L6 (wpAny_lookBehind f (by rw[g];exact pastItsLine_dict (MH i (by rw[ME];omega))) ?_);exact L7 (h _ ⟨(d.2 _ (NC I.ne)).trans I.obj,c,I.ne⟩ d)
def EH(X:K.In s.heap)(a:QH K C=true)
  (hi:L1 K (.ref C) "__init__" = Vo (Vo (.ref f))) (b:PySem.W.typeIn K (.ref f)=Vo (.type "function"))
  (h:codeAny (Vg prog w) (A.under (.builtin "type.__call__" ⟨.ref C::vs,kw⟩)) (.call (.ref f) ⟨.ref (s.heap.objs.size+1)::vs,kw⟩) (PySem.W.InitBack (s.heap.objs.size+1) R)
   { s with heap:=(s.heap.push Nr).push (OF C s.heap.objs.size) }) :
  codeAny (Vg prog w) A (.call (.ref C) ⟨vs,kw⟩) R s:=by
 exact PySem.W.make_core (PySem.W.makes_of X a) (O7 X hi) (λself=>PySem.W.bind_fn X self b) (.inl rfl) h
end
def bH(f:Vn)(v:V):List (Vn×V)->List (Vn×V)
 | []=>[(f,v)]
 | (g,x)::r=>if g=f then(g,v)::r else(g,x)::bH f v r
theorem fA(f g:Vn)(v:V):∀fs:List (Vn×V),(bH f v fs).lookup g=if g=f then Vo v else fs.lookup g
 | []=>by
  show N4 g [(f,v)]=_;by_cases h:g=f
  .have hb:(g == f)=true:=beq_iff_eq.mpr h;simp only[N4,hb,M3 h]
  .have hb:(g == f)=false:=beq_eq_false_iff_ne.mpr h;simp only[N4,hb,M1 h]
 | (k,x)::r=>by
  have b:=fA f g v r;rw[show bH f v ((k,x)::r)=(if k=f then(k,v)::r else(k,x)::bH f v r)from rfl];by_cases a:k=f
  .rw[M3 a];by_cases h:g=k
   .have hb:=beq_iff_eq.mpr h;simp only[N4,hb,M3 (h.trans a)]
   .have hb:=beq_eq_false_iff_ne.mpr h;simp only[N4,hb,M1 (λe:g=f=>h (e.trans a.symm))]
  .rw[M1 a];by_cases h:g=k
   .have hb:=beq_iff_eq.mpr h;simp only[N4,hb,M1 (λe:g=f=>a (h.symm.trans e))]
   .have hb:(g == k)=false:=beq_eq_false_iff_ne.mpr h;simp only[N4,hb];exact b
theorem qN(f:Vn)(v:V):∀fs:List (Vn×V),f∈(bH f v fs).map (·.1)/\∀g,g∈fs.map (·.1)->g∈(bH f v fs).map (·.1)
 | []=>⟨by simp[bH],λg h=>by simp at h⟩
 | (k,x)::r=>by
  obtain⟨i1,i2⟩:=qN f v r;rw[show bH f v ((k,x)::r)=(if k=f then(k,v)::r else(k,x)::bH f v r)from rfl];by_cases a:k=f
  .subst a;exact⟨by simp,λg h=>by simpa using h⟩
  .rw[M1 a];refine⟨?_,λg h=>?_⟩
   .exact Mg _ i1
   .rcases Mr.mp h with e|e
    .exact Mr.mpr (.inl e)
    .exact Mg _ (i2 g e)
theorem j5(f:Vn)(v:V):∀fs:List (Vn×V),(bH f v fs).length<=fs.length+1
 | []=>by simp[bH]
 | (k,x)::r=>by
  have b:=j5 f v r;rw[show bH f v ((k,x)::r)=(if k=f then(k,v)::r else(k,x)::bH f v r)from rfl];by_cases a:k=f
  .rw[M3 a,ME,ME];omega
  .rw[M1 a,ME,ME];omega
def dw.some_of(r:dw (Vo v) o):∃u,o=Vo u/\RelV v u:=by
 cases o with
 | none=>exact(r).elim
 | some u=>exact⟨u,rfl,r⟩
def dw.none_of(r:dw Vp o):o=Vp:=by
 cases o with
 | none=>rfl
 | some u=>exact(r).elim
def Io(r:RelV v u):SQ u=true:=by
 cases v with
 | non=>cases(r);rfl
 | bl b=>cases(r);rfl
 | int i=>obtain⟨t,e⟩:=(show ∃t,u=Value.int i t from r);cases e;rfl
 | str x=>obtain⟨t,e⟩:=(show ∃t,u=Value.str x t from r);cases e;rfl
 | byt b=>obtain⟨t,e⟩:=(show ∃t,u=Value.bytes b t from r);cases e;rfl
 | flt b=>obtain⟨t,e⟩:=(show ∃t,u=Value.float b t from r);cases e;rfl
 | ref a=>cases(r);rfl
 | ty n=>cases(r);rfl
section
variable {P:Vd} {w:Ve} {H H':Hp} {h h':Vh} {a C dx:Vb} {fs fs':List (Vn×V)}
def mT(hok:bt P w H h)(e:H a=Vo (.ins C dx fs)):∃mA,ObjM h a dx C mA/\(∀f,dw (fs.lookup f) (mA f))/\R8 mA (fs.map (·.1))/\fs.length<=1000/\H dx=Vo (.own a):=by obtain⟨d,z,ne,ob,mA,n,r,q⟩:=(show bC P w H h a (.ins C dx fs)from hok a _ e);exact⟨mA,⟨ob,n,ne⟩,r,q,z,d⟩
end
structure Cls(K:L8)(C:Vb):Prop where
 pg:PH K C Ou=true
 hd:Pg K C=true
 po:Qp K C=true
 sa:L1 K (.ref C) "__setattr__" = Vo (Vo (.builtin "object.__setattr__"))
def Cls.get{K:L8}(c:Cls K C)(f):PH K C f=true:=c.pg
def fu(K:L8)(C:Vb)(f:Vn):Prop:=L1 K (.ref C) f=Vo Vp
def fu.taker{K:L8}(n:fu K C f):RN K C f=Vo Vp:=by unfold RN;rw[show L1 K (.ref C) f=Vo Vp from n];rfl
structure Meth(K:L8)(C:Vb)(m:Vn)(f:Vb):Prop where
 at_:L1 K (.ref C) m=Vo (Vo (.ref f))
 fn:OW K (.ref f)=true
 kp:NJ K (.ref f)=true
section
variable {X:Cx} {pins:List (Vb×Obj)} {σ:St} {H:Hp} {s:Vc} {a C dx:Vb} {fs:List (Vn×V)} {f:Vn} {v:V} {A:Vi} {E:Va->Vc->Prop}
def Hy(I:Inv X pins σ H s)(e:H a=Vo (.ins C dx fs))(c:Cls X.K C)(n:fu X.K C f)(l:fs.lookup f=Vo v)
  (h:∀u s',Inv X pins σ H s'->RelV v u->Q u s'):Vf (Vg X.prog X.w) A (getAttr (.ref a) f b) Q E s:=by
 obtain⟨mA,O,r,_,_,_⟩:=mT I.hok e;obtain⟨u,g,d⟩:=dw.some_of (v:=v) (o:=mA f) (by rw[<-l];exact r f);exact get_map I.kIn O (c.get f) c.hd n g (Io d) (h u _ (I.tok _) d)
def nQ{Q:Va×List Va->Vc->Prop}(I:Inv X pins σ H s)(e:H a=Vo (.ins C dx fs))(c:Cls X.K C)(k:Meth X.K C m g)(l:fs.lookup m=Vp)
  (h:Q (.ref g,[.ref a]) s):Vf (Vg X.prog X.w) A (getMethod (.ref a) m pl) Q E s:=by
 obtain⟨mA,O,r,_,_,_⟩:=mT I.hok e;have b:mA m=none:=dw.none_of (by rw[<-l];exact r m);exact Fb I.kIn O (c.get m) k.at_ k.fn b h
def LH{Q:Unit->Vc->Prop}(I:Inv X pins σ H s)(e:H a=Vo (.ins C dx fs))(c:Cls X.K C)(n:fu X.K C f)(m:fs.length<1000)(j:RelV y u)
  (h:∀s',Inv X pins σ (upd H a (.ins C dx (bH f y fs))) s'->Q () s'):Vf (Vg X.prog X.w) A (setAttr (.ref a) f u) Q E s:=by
 obtain⟨mA,O,r,i,_,ho⟩:=mT I.hok e;have k:(fs.map (·.1)).length<=sizeLine:=by rw[Mc,sizeLine_eq];omega
 refine CO I.kIn O c.sa c.po n.taker c.hd i k λh' d sb=>h _ ?_;have hd:∃o,h'.get? dx=Vo o:=let ⟨o,_,_,e',_⟩:=d.ns;⟨o,e'⟩;refine I.write (by rw[e];exact True.intro) (.inr ho) (λb q hb z=>(sb.2 b hb).trans z) hd ?_;refine⟨by rw[aq O.ne];exact ho,?_,O.ne,d.obj,_,d.ns,λg=>?_,λg l=>?_⟩
 .have:=j5 f y fs;omega
 .rw[fA];by_cases q:g=f
  .rw[M3 q,M3 q];exact j
  .rw[M1 q,M1 q];exact r g
 .by_cases q:g=f
  .rw[q];exact(qN f y fs).1
  .refine(qN f y fs).2 g (i g λz=>l ?_);show(if g=f then Vo u else mA g)=Vp;rw[M1 q];exact z
def Inv.made(I:Inv X pins σ H s):Inv X pins σ (upd (upd H s.heap.objs.size (.own (s.heap.objs.size+1))) (s.heap.objs.size+1) (.ins C s.heap.objs.size []))
  { s with heap:=(s.heap.push Nr).push (OF C s.heap.objs.size) }:=by
 have c:(s.heap.push Nr).get? s.heap.objs.size=Vo Nr:=Ma s.heap rfl;have d:((s.heap.push Nr).push (OF C s.heap.objs.size)).get? (s.heap.objs.size+1)=Vo (OF C s.heap.objs.size):=by
  have:=Ma (s.heap.push Nr) (o:=OF C s.heap.objs.size) rfl
  rwa [L3]at this
 have f:(s.heap.push Nr).Ns s.heap.objs.size (λ_=>Vp):=⟨Nr,#[],_,c,rfl,(λe g=>absurd g (by simp)),λ_=>rfl⟩;have h:=I.laid (a:=s.heap.objs.size) (o:=.own (s.heap.objs.size+1)) (h':=s.heap.push Nr) (t':=s.toks) (λb u q=>L9 _ q) (Mw _) ⟨_,c⟩;refine h.laid (λb u q=>L9 _ q) (Ph (L3 _ _)) ?_;have ne:s.heap.objs.size≠s.heap.objs.size+1:=Mv (N0 _);refine⟨by rw[aq ne,ay],LI _,ne,d,λ_=>Vp,(Heap.Ns1.of_empty f).at λo q=>L9 _ q,λ_=>True.intro,λy i=>absurd rfl i⟩
def FY(hb:attributeBase e f env (eval e env)=eval e env)
  (h:Vf (Vg prog w) A (eval e env) (λo a=>Vf (Vg prog w) A (getAttr o f true) Q E a) E s):Vf (Vg prog w) A (eval (.Attribute e f pos) env) Q E s:=
 Attribute_any_ h (by rw[arm_eval_Attribute,hb])
end
def wH(K:L8)(ta:TE)(f:Vn):TE:=λσ H Q=>ta σ H λx H1=>∃a C dx fs v,x=.ref a/\H1 a=Vo (.ins C dx fs)/\Cls K C/\fu K C f/\fs.lookup f=Vo v/\Q v H1
def wz(K:L8)(ta tv:TE)(f:Vn):TS:=λD σ H=>tv σ H λy H1=>ta σ H1 λx H2=>∃a C dx fs,x=.ref a/\H2 a=Vo (.ins C dx fs)/\Cls K C/\fu K C f/\fs.length<1000 ∧
 D.nx σ (upd H2 a (.ins C dx (bH f y fs)))
section
variable {X:Cx} {o e value:Vk} {f:Vn} {pos pos' tpos:Pos} {ta tv:TE}
def eo(b:PE X e ta)(hb:attributeBase e f X.env (eval e X.env)=eval e X.env):PE X (.Attribute e f pos) (wH X.K ta f):=by intro pins s σ H Q I h;refine FY hb (ax (b pins s σ H _ I h) λu s1 ⟨x,H1,d,g,a,C,dx,fs,v,ex,i,c,n,l,q⟩=>?_);subst ex;obtain rfl:u=Value.ref a:=g;exact Hy d i c n l λm s2 j k=>⟨v,H1,j,k,q⟩
def jb(ha:PE X o ta)(hv:PE X value tv)(hs:swapsWith value (Vo (.Attribute o f pos')) pos.line X.env=pure false):PS X (.Assign [.Attribute o f pos'] value pos) (wz X.K ta tv f):=by intro pins s σ H D I h;refine plainObj_wpAny_Assign_Attribute (ax (hv pins s σ H _ I h) λu s1 ⟨y,H1,b,d,q⟩=>ax (ha pins s1 σ H1 _ b q) λe s2 ⟨x,H2,g,i,a,C,dx,fs,ex,j,c,n,l,k⟩=>?_) hs;subst ex;obtain rfl:e=Value.ref a:=i;exact LH g j c n l d λp m=>⟨σ,_,m,k⟩
def L4{σ:St}(i:PE X e te)(I:Inv X pins σ H s)
  (h:te σ H λx H1=>∃a C dx fs g,x=.ref a/\H1 a=Vo (.ins C dx fs)/\Cls X.K C/\Meth X.K C m g/\fs.lookup m=Vp ∧
   ∀s1,Inv X pins σ H1 s1->Vf (Vg X.prog X.w) X.A (callWith pos (.ref g) [.ref a] (backTo pos (starEach args X.env)) (backToKw pos (keywordEach [] X.env))) Q X.xe s1)
  (j:eval (.Call (.Attribute e m apos) args [] pos) X.env=(do
   let b <-eval e X.env
   standAt apos.atName
   let (f,first) <-holding [b] (getMethod b m pl)
   callWith pos f first (backTo pos (starEach args X.env)) (backToKw pos (keywordEach [] X.env)))) :
  Vf (Vg X.prog X.w) X.A (eval (.Call (.Attribute e m apos) args [] pos) X.env) Q X.xe s:=by
 refine Ox (ax (i pins s σ H _ I h) λu s1 ⟨x,H1,d,n,a,C,dx,fs,g,ex,o,c,k,l,q⟩=>?_) j;subst ex;obtain rfl:u=Value.ref a:=n;exact nQ d o c k l (q s1 d)
end
section
variable {X:Cx} {pins:List (Vb×Obj)} {σ:St} {H:Hp} {s:Vc} {A:Vi} {E:Va->Vc->Prop} {Q:Va->Vc->Prop} {c:Va} {b:Bool}
inductive TyOf(K:L8)(H:Hp):V->Va->Prop where
 | non:TyOf K H .non (.type "NoneType")
 | bl (x:Bool):TyOf K H (.bl x) (.type "bool")
 | int (i:Int):TyOf K H (.int i) (.type "int")
 | str (x:Vn):TyOf K H (.str x) (.type "str")
 | flt (x:UInt64):TyOf K H (.flt x) (.type "float")
 | lst {a:Vb} {xs:List V} (e:H a=Vo (.lst xs)):TyOf K H (.ref a) (.type "list")
 | frz {a:Vb} {o:Obj} {xs:List V} (e:H a=Vo (.frz o (.lst xs))):TyOf K H (.ref a) (.type "list")
 | tup {a:Vb} {xs:List V} (e:H a=Vo (.tup xs)):TyOf K H (.ref a) (.type "tuple")
 | dK {a:Vb} {kvs:List (Key×V)} (e:H a=Vo (.dK kvs)):TyOf K H (.ref a) (.type "dict")
 | dT {a:Vb} {kvs:List (List Key×V)} (e:H a=Vo (.dT kvs)):TyOf K H (.ref a) (.type "dict")
 | ins {a C dx:Vb} {fs:List (Vn×V)} (e:H a=Vo (.ins C dx fs)) (cl:Cls K C) (ha:L1 K (.ref C) "__class__" = Vo (Vo (.builtin "object.__class__")))
   (c:O1 K (.builtin "object.__class__") "__get__" = Vo (Vo (.builtin "getset_descriptor.__get__"))) (b:PX K (.builtin "object.__class__")=Vo true)
   (d:P9 K C (.type "object")=Vo true):TyOf K H (.ref a) (.ref C)
def Dy(I:Inv X pins σ H s)(d:RelV x u)(ty:TyOf X.K H x t)(e:NX X.K t c=Vo b)(h:∀tk,Q (.bool b) { s with toks:=tk }):
  Vf (Vg X.prog X.w) A (call (.builtin "isinstance") [u,c]) Q E s:=by
 cases ty with
 | non=>cases(d);exact NV PySem.W.kitx_none I.kIn True.intro e (λz=>nomatch z) h
 | bl y=>cases(d);exact NV PySem.W.kitx_bool I.kIn True.intro e (λz=>nomatch z) h
 | int i=>obtain⟨t,q⟩:=(show ∃t,u=Value.int i t from d);cases q;exact NV PySem.W.kitx_int I.kIn True.intro e (λz=>nomatch z) h
 | str y=>obtain⟨t,q⟩:=(show ∃t,u=Value.str y t from d);cases q;exact NV PySem.W.kitx_str I.kIn True.intro e (λz=>nomatch z) h
 | flt y=>obtain⟨t,q⟩:=(show ∃t,u=Value.float y t from d);cases q;exact NV PySem.W.kitx_float I.kIn True.intro e (λz=>nomatch z) h
 | @lst a xs f=>
  cases(d);obtain⟨_,_,n,_,h1⟩:=(show bC X.prog X.w H s.heap a (.lst xs)from I.hok a _ f);exact NV SA I.kIn ⟨_,h1,rfl⟩ e (λz=>nomatch z) h
 | @frz a ob xs f=>
  cases(d);obtain⟨_,_,_,n,_,h1⟩:=(show bC X.prog X.w H s.heap a (.frz ob (.lst xs))from I.hok a _ f);exact NV SA I.kIn ⟨_,h1,rfl⟩ e (λz=>nomatch z) h
 | @tup a xs f=>
  cases(d);obtain⟨_,_,_,p⟩:=(show bC X.prog X.w H s.heap a (.tup xs)from I.hok a _ f);obtain⟨o,h1,h2,_⟩:=p;exact NV PySem.W.kitx_tuple I.kIn ⟨o,h1,h2⟩ e (λz=>nomatch z) h
 | @dK a kvs f=>
  cases(d);obtain⟨_,_,vs,_,p⟩:=(show bC X.prog X.w H s.heap a (.dK kvs)from I.hok a _ f);obtain⟨o,es,ep,h1,h2,_⟩:=p;exact NV SD I.kIn ⟨o,h1,h2.1⟩ e (λz=>nomatch z) h
 | @dT a kvs f=>
  cases(d);obtain⟨_,_,xs,_,o,es,ep,h1,h2,_⟩:=(show bC X.prog X.w H s.heap a (.dT kvs)from I.hok a _ f);exact NV SD I.kIn ⟨o,h1,h2.1⟩ e (λz=>nomatch z) h
 | @ins a C dx fs f cl ha j g k=>
  cases(d);obtain⟨mA,O,_⟩:=mT I.hok f;obtain⟨od,J,_⟩:=O.look;exact NV (PySem.W.kitx_own (cl.get _) cl.hd ha j g k) I.kIn J e (λz=>nomatch z) h
end
structure Room(k:Nat)(A:Vi):Prop where
 hd:A.handled=Vp
 dp:A.depth+3*k+5<recursionLimit
 un:A.units+16*k+200<cLine
def Room.mono(r:Room k A)(h:j<=k):Room j A:=⟨r.hd,by have:=r.dp;omega,by have:=r.un;omega⟩
theorem Room.deeper{k:Nat}{A:Vi}(r:Room (k+1) A)(env:Env):Room k (A.deeper env):=
 ⟨r.hd,by have:=r.dp;show A.depth+1+3*k+5<_;omega,by have:=r.un;show A.units+3+16*k+200<_;omega⟩
def HZ:(A.under (.builtin "type.__call__" ⟨.ref C::us,kw⟩)).depth=A.depth+1:=by
 first|rfl|simp [SE,Code.weight,Code.isCreation,Code.isGuard,Code.isCaller,Code.frames,SG,guardIds]
def EL:(A.under (.builtin "type.__call__" ⟨.ref C::us,kw⟩)).units=A.units+1:=by
 first|rfl|simp [SE,Code.cUnits,Code.frames,SG]
def Room.make(r:Room (k+1) A)(C)(us)(kw):Room k (A.under (.builtin "type.__call__" ⟨.ref C::us,kw⟩)):=
 ⟨r.hd,by have:=r.dp;rw[HZ];omega,by have:=r.un;rw[EL];omega⟩
theorem Room.depth{k:Nat}{A:Vi}(r:Room k A):A.depth<recursionLimit:=by have:=r.dp;omega
theorem Room.units{k:Nat}{A:Vi}(r:Room k A):A.units+64<cLine:=by have:=r.un;omega
def fR:TA:=λ_ H Q=>Q [] H
def ly(ta:TE)(a:TA):TA:=λσ H Q=>ta σ H λx H1=>a σ H1 λxs H2=>Q (x::xs) H2
section
variable {X:Cx} {e:Vk} {es:List Vk} {te:TE} {t:TA} {pos:Pos}
def ae:PA X [] fR:=λ_ _ _ _ H Q I h=>Qq ⟨[],H,I,.nil,h⟩
def aa(ha:PE X e te)(a:PA X es t)(hs:starEach (e::es) X.env=(false,eval e X.env)::starEach es X.env:=by rfl):PA X (e::es) (ly te t):=by intro pos pins s σ H Q I h;rw[hs];refine Qf (ax (ha pins s σ H _ I h) λu s1 ⟨x,H1,b,r1,c⟩=>?_);exact ax (a pos pins s1 σ H1 _ b c) λus s2 ⟨xs,H2,d,f,g⟩=>⟨x::xs,H2,d,.cons r1 f,g⟩
def qg(t:TA):TE:=λσ H Q=>t σ H λxs H1=>xs.length<=sizeLine/\∀p,H1 p=Vp->Q (.ref p) (upd H1 p (.tup xs))
def wk(t:TA):TE:=λσ H Q=>t σ H λxs H1=>xs.length<=sizeLine/\∀p,H1 p=Vp->Q (.ref p) (upd H1 p (.lst xs))
def aX{x1}(h:PA X es t):PE X (.Tuple es x1 pos) (qg t):=by intro pins s σ H Q I c;refine wpAny_Tuple_spliced (ax (h pos pins s σ H _ I c) λus s1 ⟨xs,H1,a,r,z,q⟩=>⟨by rw[<-r.length];exact z,?_⟩);have d:H1 s1.heap.objs.size=none:=a.hok.fresh (Mw _);refine⟨.ref s1.heap.objs.size,upd H1 s1.heap.objs.size (.tup xs),a.laid (λb u e=>L9 _ e) (Mw _) ?_,rfl,q _ d⟩;exact⟨z,us,r,⟨_,Ma _ rfl,rfl,_,rfl⟩⟩
def aK(h:PA X es t):PE X (.List es pos) (wk t):=by intro pins s σ H Q I c;refine wpAny_List_spliced (ax (h pos pins s σ H _ I c) λus s1 ⟨xs,H1,a,r,z,q⟩=>⟨by rw[<-r.length];exact z,?_⟩);have d:H1 s1.heap.objs.size=none:=a.hok.fresh (Mw _);refine⟨.ref s1.heap.objs.size,upd H1 s1.heap.objs.size (.lst xs),a.laid (λb u e=>L9 _ e) (Mw _) ?_,rfl,q _ d⟩;exact⟨z,us,0,r,Ma _ rfl⟩
end
abbrev Sp:=List V->Hp->VK->XK->Prop
abbrev fX:=List Env->Hp->Vc->XK->Va->Vc->Prop
structure Env0(P:Vd)(w:Ve)(K:L8)(mg:Vn->Option Va)(base:Vh)(A:Vi)(outer:List Env)(s:Vc)(H:Hp):Prop where
 frames:A.frames=Vo outer
 mod:Mod K mg base
 bs:∀b o,base.get? b=Vo o->s.heap.get? b=Vo o/\H b=Vp
 bsz:base.objs.size<=s.heap.objs.size
 funs:s.heap.FunFrames base outer
 frf:∀b∈bh outer,H b=Vp
 hok:bt P w H s.heap
 bare:AllBare s.gens
def CE(outer:List Env)(P:Vd)(w:Ve)(H:Hp)(s:Vc)(Q:VK)(u:Va)(s':Vc):Prop:=
 ∃v H',s'.os=s.os/\AllBare s'.gens/\Un (bh outer) [] H H' s.heap s'.heap/\bt P w H' s'.heap/\RelV v u/\Q v H'
def CR(CX:fX)(outer:List Env)(P:Vd)(w:Ve)(H:Hp)(s:Vc)(Q:VK)(E:XK)(r:Result)(s':Vc):Prop:=
 match r with
 | .ok (.ret u)=>CE outer P w H s Q u s'
 | .ok _=>False
 | .error e=>CX outer H s E e s'
structure FnOk(P:Vd)(w:Ve)(K:L8)(mg:Vn->Option Va)(base:Vh)(CX:fX)(k:Nat)(f:Vb)(fd:Vm)(ps:List Vn)(sp:Sp):Prop where
 len:∀vs H Q E,sp vs H Q E->vs.length=ps.length
 run:∀(A:Vi) (outer:List Env) (s:Vc) (H:Hp) (args:Args) (us:List Va) (vs:List V) (Q:VK) (E:XK),Room k A->Env0 P w K mg base A outer s H->BindsTo s fd args (ps.zip us)->Vals vs us->sp vs H Q E ->
  codeAny (Vg P w) A (.call (.ref f) args) (CR CX outer P w H s Q E) s
def Env0.make{K:L8}(e:Env0 P w K mg base A outer s H)(C)(us)(kw):
  Env0 P w K mg base (A.under (.builtin "type.__call__" ⟨.ref C::us,kw⟩)) outer s H:=⟨by first|exact e.frames|(simpa[SE,Code.envs,SG,pushEnvs]using e.frames),e.mod,e.bs,e.bsz,e.funs,e.frf,e.hok,e.bare⟩
section
variable {X:Cx} {pins:List (Vb×Obj)} {σ:St} {H:Hp} {s s':Vc}
def Inv.env0(I:Inv X pins σ H s):Env0 X.prog X.w X.K X.mg X.base X.A X.stack s H:=
 ⟨I.ok.frames,I.ok.mod,I.bs,MH I.ok.bsz I.sz,I.stack,I.stkFree,I.hok,I.bare⟩
def Inv.after{Q:VK}(I:Inv X pins σ H s)(h:CE X.stack X.prog X.w H s Q u s'):EP X pins σ Q u s':=by obtain⟨v,H',os,bare,un,hok,r,q⟩:=h;obtain⟨c,g,d,t,a⟩:=s';obtain rfl:a=s.os:=os;exact⟨v,H',I.call un hok bare (λb z=>absurd z (by simp)),r,q⟩
end
def jk(sp:Sp)(dvs:List V)(E:XK)(t:TA):TE:=λσ H Q=>t σ H λvs H1=>sp (vs++dvs) H1 Q E
def kK(C:Vb)(m:Vn)(sp:Sp)(dvs:List V)(E:XK)(ta:TE)(t:TA):TE:=λσ H Q=>ta σ H λx H1=>∃a dx fs,x=.ref a/\H1 a=Vo (.ins C dx fs)/\fs.lookup m=Vp ∧
 t σ H1 λvs H2=>sp (x::(vs++dvs)) H2 Q E
def rD(C:Vb)(sp:Sp)(dvs:List V)(E:XK)(t:TA):TE:=λσ H Q=>t σ H λvs H1=>∀x dx,H1 x=Vp->H1 dx=Vp->dx≠x ->
 sp (.ref x::(vs++dvs)) (upd (upd H1 dx (.own x)) x (.ins C dx [])) (λv H2=>v=.non/\Q (.ref x) H2) E
def Binds(K:L8)(fd:Vm)(ps:List Vn)(ds:List Va):Prop:=
 ∀(s:Vc) (us:List Va),K.In s.heap->(us++ds).length=ps.length->BindsTo s fd ⟨us,[]⟩ (ps.zip (us++ds))
def Binds.all{K:L8}(h:∀us,us.length=ps.length->bindArgs fd ⟨us,[]⟩=pure (ps.zip us)):Binds K fd ps []:=λs us _ a=>by rw[Nx]at a ⊢;exact .of_eq (h us a)
def Passes(CX:fX)(X:Cx)(E:XK):Prop:=∀(pins:List (Vb×Obj)) (σ:St) (H:Hp) (s:Vc) (e:Va) (s':Vc),Inv X pins σ H s->CX X.stack H s E e s'->X.xe e s'
section
variable {X:Cx} {CX:fX} {k:Nat} {f C:Vb} {fd:Vm} {ps:List Vn} {sp:Sp} {dvs:List V} {ds:List Va} {E:XK} {x m:Vn} {p pos apos:Pos} {e o:Vk} {es:List Vk} {ta:TE} {t:TA}
def kH{σ:St}{Q:VK}(F:FnOk X.prog X.w X.K X.mg X.base CX k f fd ps sp)(c:Room k X.A)(hb:Binds X.K fd ps ds)(hd:Vals dvs ds)(d:Passes CX X E)
  (I:Inv X pins σ H s) (r:Vals vs us) (h:sp (vs++dvs) H Q E):Vf (Vg X.prog X.w) X.A (call (.ref f) us) (EP X pins σ Q) X.xe s:=by
 have b:Vals (vs++dvs) (us++ds):=r.append hd;have g:(us++ds).length=ps.length:=by rw[<-b.length];exact F.len _ _ _ _ h
 refine wpAny_call (codeAny_mono (F.run X.A X.stack s H ⟨us,[]⟩ (us++ds) (vs++dvs) Q E c I.env0 (hb s us I.kIn g) b h) λr s' a=>?_);cases r with
 | error e=>exact d pins σ H s e s' I a
 | ok i=>
  cases i with
  | ret u=>exact I.after a
  | next=>exact M7 a
  | brk=>exact M7 a
  | cont=>exact M7 a
def LD(F:FnOk X.prog X.w X.K X.mg X.base CX k f fd ps sp)(d:Room k X.A)(g:Gl X x)(i:X.mg x=Vo (.ref f))(j:NJ X.K (.ref f)=true)(hb:Binds X.K fd ps ds)(hd:Vals dvs ds)(l:Passes CX X E)
  (ha:PA X (e::es) t) (a:(x == ("__debug__":Vn))=false:=by decide) (m:starEach (e::es) X.env=(false,eval e X.env)::starEach es X.env:=by rfl) (b:(backTo pos (starEach es X.env)).any (·.1)=false:=by rfl) :
  PE X (.Call (.Name x p) (e::es) [] pos) (jk sp dvs E t):=by
 intro pins s σ H Q I h;refine wpAny_Call_Name_kw (gy I g i ?_ a);refine Ol I.ok.mod.kin j (ax (ha pos pins s σ H _ I h) λus s1 ⟨vs,H1,c,r,q⟩=>⟨c.kIn,?_⟩) m b;exact kH F d hb hd l c r q
def EE(F:FnOk X.prog X.w X.K X.mg X.base CX k f fd ps sp)(b:Room k X.A)(c:Gl X x)(d:X.mg x=Vo (.ref f))(e:NJ X.K (.ref f)=true)(hb:Binds X.K fd ps ds)(hd:Vals dvs ds)(g:Passes CX X E)
  (a:(x == ("__debug__":Vn))=false:=by decide):PE X (.Call (.Name x p) [] [] pos) (jk sp dvs E fR):=by
 intro pins s σ H Q I h;refine wpAny_Call_Name_kw (gy I c d ?_ a);exact QS I.kIn e (kH F b hb hd g I .nil h)
def JQ{pl:Sem Bool}(n:PE X o ta)(c:Cls X.K C)(d:Meth X.K C m f)(F:FnOk X.prog X.w X.K X.mg X.base CX k f fd ps sp)(p:Room k X.A)(hb:Binds X.K fd ps ds)(hd:Vals dvs ds)(v:Passes CX X E)(ha:PA X (e::es) t)
  (hst:starEach (e::es) X.env=(false,eval e X.env)::starEach es X.env:=by rfl) (b:(backTo pos (starEach es X.env)).any (·.1)=false:=by rfl)
  (y:eval (.Call (.Attribute o m apos) (e::es) [] pos) X.env=(do
   let g <-eval o X.env
   standAt apos.atName
   let (f,first) <-holding [g] (getMethod g m pl)
   callWith pos f first (backTo pos (starEach (e::es) X.env)) (backToKw pos (keywordEach [] X.env))):=by rfl) :
  PE X (.Call (.Attribute o m apos) (e::es) [] pos) (kK C m sp dvs E ta t):=by
 intro pins s σ H Q I h;refine Ox (ax (n pins s σ H _ I h) λu s1 ⟨x,H1,i,z,a,dx,fs,ex,B,l,q⟩=>?_) y;subst ex;obtain rfl:u=Value.ref a:=z;refine nQ i B c d l ?_;refine Ol I.ok.mod.kin d.kp (ax (ha pos pins s1 σ H1 _ i q) λus s2 ⟨vs,H2,j,r,G⟩=>⟨j.kIn,?_⟩) hst b;exact kH (vs:=.ref a::vs) F p hb hd v j (.cons rfl r) G
def CZ{pl:Sem Bool}(g:PE X o ta)(c:Cls X.K C)(d:Meth X.K C m f)(F:FnOk X.prog X.w X.K X.mg X.base CX k f fd ps sp)(i:Room k X.A)(hb:Binds X.K fd ps ds)(hd:Vals dvs ds)(j:Passes CX X E)
  (n:eval (.Call (.Attribute o m apos) [] [] pos) X.env=(do
   let e <-eval o X.env
   standAt apos.atName
   let (f,first) <-holding [e] (getMethod e m pl)
   callWith pos f first (backTo pos (starEach [] X.env)) (backToKw pos (keywordEach [] X.env))):=by rfl) :
  PE X (.Call (.Attribute o m apos) [] [] pos) (kK C m sp dvs E ta fR):=by
 intro pins s σ H Q I h;refine Ox (ax (g pins s σ H _ I h) λu s1 ⟨x,H1,b,p,a,dx,fs,ex,r,l,q⟩=>?_) n;subst ex;obtain rfl:u=Value.ref a:=p;refine nQ b r c d l ?_;exact QS b.kIn d.kp (kH (vs:=[.ref a]) F i hb hd j b (.cons rfl .nil) q)
structure Mk(K:L8)(C f:Vb):Prop where
 makes:QH K C=true
 init:L1 K (.ref C) "__init__" = Vo (Vo (.ref f))
 fn:OW K (.ref f)=true
 kp:NJ K (.ref C)=true
def Ef{σ:St}{Q:VK}(M:Mk X.K C f)(F:FnOk X.prog X.w X.K X.mg X.base CX k f fd ps sp)(g:Room (k+1) X.A)(hb:Binds X.K fd ps ds)(hd:Vals dvs ds)
  (i:Passes CX X E) (I:Inv X pins σ H s) (r:Vals vs us)
  (h:∀x dx,H x=Vp->H dx=Vp->dx≠x->sp (.ref x::(vs++dvs)) (upd (upd H dx (.own x)) x (.ins C dx [])) (λv H2=>v=.non/\Q (.ref x) H2) E) :
  Vf (Vg X.prog X.w) X.A (call (.ref C) us) (EP X pins σ Q) X.xe s:=by
 have c:=h (s.heap.objs.size+1) s.heap.objs.size (I.hok.fresh (SW _)) (I.hok.fresh (Mw _)) (Mv (N0 _));have b:=Inv.made (C:=C) I;have d:Vals (V.ref (s.heap.objs.size+1)::(vs++dvs)) (Value.ref (s.heap.objs.size+1)::(us++ds)):=.cons rfl (r.append hd);have j:(Value.ref (s.heap.objs.size+1)::us++ds).length=ps.length:=by have e:=d.length;rw[F.len _ _ _ _ c]at e;exact e.symm
 refine wpAny_call (EH I.kIn M.makes M.init (beq_iff_eq.mp M.fn) (codeAny_mono (F.run _ X.stack _ _ ⟨Value.ref (s.heap.objs.size+1)::us,[]⟩ (Value.ref (s.heap.objs.size+1)::(us++ds)) _ _ E (g.make C us [])
  (b.env0.make C us []) (hb _ (Value.ref (s.heap.objs.size+1)::us) b.kIn j) d c) λr s' a=>?_))
 cases r with
 | error e=>exact i pins σ _ _ e s' b a
 | ok l=>
  cases l with
  | ret u=>
   obtain⟨v,H',m,n,ev,o⟩:=b.after a;subst ev;exact⟨n,⟨V.ref (s.heap.objs.size+1),H',m,rfl,o⟩⟩
  | next=>exact M7 a
  | brk=>exact M7 a
  | cont=>exact M7 a
def K7(M:Mk X.K C f)(F:FnOk X.prog X.w X.K X.mg X.base CX k f fd ps sp)(b:Room (k+1) X.A)(c:Gl X x)(d:X.mg x=Vo (.ref C))(hb:Binds X.K fd ps ds)(hd:Vals dvs ds)(e:Passes CX X E)
  (a:(x == ("__debug__":Vn))=false:=by decide):PE X (.Call (.Name x p) [] [] pos) (rD C sp dvs E fR):=by
 intro pins s σ H Q I h;refine wpAny_Call_Name_kw (gy I c d ?_ a);exact QS I.kIn M.kp (Ef M F b hb hd e I .nil h)
end
structure FnScope(N P:List Vn)(sc:Scope):Prop where
 kind:sc.kind=.function
 co:sc.isCoroutine=false
 gen:sc.isGenerator=false
 nd:N.Nodup
 pre:N.take P.length=P
 par:∀x∈P,sc.names.lookup x=Vo .local\/sc.names.lookup x=Vo .cell
 nofree:∀y∈sc.names,y.2≠.free
theorem vN{kindOf:Vn->Option NameKind}{x:Vn}:∀{binds:List (Vn×Va)} {m:Vn->Option Va},(∀v,(x,v)∉binds)->bindL kindOf binds m x=m x
 | [],_,_=>rfl
 | (n,v)::r,m,h=>by
  unfold bindL;rw[vN λw a=>h w (Mg _ a)];split
  .have:x≠n:=by rintro rfl;exact h v Mj
   simp[this]
  .rfl
theorem yk{kindOf:Vn->Option NameKind}{x:Vn}:∀{binds:List (Vn×Va)} {m:Vn->Option Va},(∀v,(x,v)∉binds)->bindC kindOf binds m x=m x
 | [],_,_=>rfl
 | (n,v)::r,m,h=>by
  unfold bindC;rw[yk λw a=>h w (Mg _ a)];split
  .rfl
  .have:x≠n:=by rintro rfl;exact h v Mj
   simp[this]
theorem pW{kindOf:Vn->Option NameKind}{x:Vn}{v:Va}:∀{P:List Vn} {vs:List Va} {i:Nat} {m:Vn->Option Va},P.Nodup->P[i]?=Vo x->vs[i]?=Vo v->kindOf x=Vo .local ->
  bindL kindOf (P.zip vs) m x=Vo v
 | [],_,_,_,_,h,_,_=>by simp at h
 | _::_,[],_,_,_,_,h,_=>by simp at h
 | p::P,w::vs,0,m,nd,h1,h2,a=>by simp at h1 h2;subst h1;subst h2;show bindL kindOf ((p,w)::P.zip vs) m p=_;unfold bindL;rw[vN λv hv=>(QI.mp nd).1 (QJ hv).1,M3 a];simp
 | p::P,w::vs,i+1,m,nd,h1,h2,a=>by unfold bindL;exact pW (QI.mp nd).2 (by simpa using h1) (by simpa using h2) a
theorem qj{kindOf:Vn->Option NameKind}{x:Vn}{v:Va}:∀{P:List Vn} {vs:List Va} {i:Nat} {m:Vn->Option Va},P.Nodup->P[i]?=Vo x->vs[i]?=Vo v->kindOf x≠Vo .local ->
  bindC kindOf (P.zip vs) m x=Vo v
 | [],_,_,_,_,h,_,_=>by simp at h
 | _::_,[],_,_,_,_,h,_=>by simp at h
 | p::P,w::vs,0,m,nd,h1,h2,a=>by simp at h1 h2;subst h1;subst h2;show bindC kindOf ((p,w)::P.zip vs) m p=_;unfold bindC;rw[yk λv hv=>(QI.mp nd).1 (QJ hv).1,M1 a];simp
 | p::P,w::vs,i+1,m,nd,h1,h2,a=>by unfold bindC;exact qj (QI.mp nd).2 (by simpa using h1) (by simpa using h2) a
def start(N:List Vn)(vs:List V):St:=vs.map Vo++MR (N.length-vs.length) Vp
def aU(CX:fX)(P:Vd)(w:Ve)(K:L8)(mg:Vn->Option Va)(base:Vh)(N:List Vn)(qual:Vn)(scope:Scope)(f:Vb)(cd:Va)(A:Vi)(outer:List Env)(s:Vc)(H:Hp)(E:XK):Cx where
 prog:=P
 w:=w
 K:=K
 mg:=mg
 base:=base
 A:=A.deeper (envOfC qual scope s.heap.objs.size f cd)
 N:=N
 s₀:=s
 H₀:=H
 env:=envOfC qual scope s.heap.objs.size f cd
 outer:=outer
 stack:=envOfC qual scope s.heap.objs.size f cd::outer
 ex:=[]
 calm:=true
 fn:=λ_=>true
 pn:=[]
 xe:=λe s'=>Vf (Vg P w) (A.deeper (envOfC qual scope s.heap.objs.size f cd)) (leaving (envOfC qual scope s.heap.objs.size f cd) e) (λ_ a=>CX outer H s E e a) (λb a=>CX outer H s E b a) s'
def xJ{sc:Scope}(h:sc.names.lookup x=Vo .cell):∃c,(cellsFrom n sc.names []).lookup x=Vo c:=by have q:=Nc sc.names n [] (.inl h);exact NI.mp q
def EI{K:L8}{E:XK}
  (S:FnScope N ps scope) (hd:A.handled=Vp) (d:Env0 P w K mg base A outer s H) (F:vs.length=ps.length) (r:Vals vs us)
  (x:InCallC s s.heap.objs.size (bindL (envOfC qual scope s.heap.objs.size f cd).kindOf (ps.zip us) λ_=>Vp) (cellsFrom (s.heap.objs.size+1) scope.names []) (bindC (envOfC qual scope s.heap.objs.size f cd).kindOf (ps.zip us) λ_=>Vp) s1) :
  Inv (aU CX P w K mg base N qual scope f cd A outer s H E) [] (start N vs) H s1:=by
 have B:ps.length<=N.length:=by have:=congrArg Qr S.pre;rw[MV]at this;omega
 obtain⟨h1,tk,rfl,m⟩:=x.done;have noA:∀b:Vb,b∉(aU CX P w K mg base N qual scope f cd A outer s H E).ex:=λb z=>absurd (show b∈([]:List Vb)from z) (by simp);refine⟨⟨d.mod,S.kind,rfl,rfl,Mw _,λy z c h1 h2=>?_,λy g=>?_,λy c _ h=>?_,λ_=>hd,Rf d.frames,.inr ⟨rfl,rfl⟩,λb z=>absurd z (noA b),d.bs,d.bsz,λb _ _=>noA b,λb z=>absurd z (noA b),d.funs,d.frf⟩,
  rfl,d.bare,Un.kept m,⟨_,x.toInCall.ns,λi y v h1 h2 G=>?_⟩,λy c h=>⟨_,x.cell y c h⟩,d.hok.fresh (Mw _),λy c h=>?_,λp j=>absurd (show p∈([]:List (Vb×Obj))from j) (by simp),d.hok.kept m,?_⟩
 .exact name_of_addr x.apart (NM h1) (NM h2)
 .rcases g with g|g
  .exact xJ g
  .exact absurd rfl (S.nofree _ (NM g))
 .exact PF (x.above y c (NM h))
 .have hi:i<vs.length:=by
   unfold start at h2;by_cases hi:i<vs.length
   .exact hi
   .rw[MB (by simpa using hi)]at h2;rw[Q3]at h2;split at h2<;>cases h2
  have ha:vs[i]?=Vo v:=by
   unfold start at h2;rw[MC (by simpa using hi),Mf]at h2;cases e:vs[i]? with
   | none=>rw[e]at h2;cases h2
   | some a=>rw[e]at h2;cases h2;rfl
  obtain⟨u,o,C⟩:=r.get ha;have j:ps[i]?=some y:=by rw[<-S.pre,Ob (by omega)];exact h1
  have l:ps.Nodup:=by rw[<-S.pre];exact S.nd.sublist (List.take_sublist _ _)
  refine⟨u,C,?_⟩;rcases S.par y (Mn j)with k|k
  .exact .inl ⟨k,pW l j o k⟩
  .obtain⟨c,e⟩:=xJ (n:=s.heap.objs.size+1) k;refine .inr ⟨.inl k,c,e,?_⟩;have q:=x.cell y c e;rw[qj l j o (by show scope.names.lookup y≠_;rw[k];decide)]at q;exact q
 .exact d.hok.fresh (PF (x.above y c (NM h)))
 .unfold start;show _=N.length;rw[Mu,Mc,RU];omega
def lK{K:L8}{j kV doc pm cdv ct oc:Va}
     (lk:K.lookup f=Vo ⟨oc,od,.func (NQ name qual params body scope j kV doc pm an cdv ct),osl⟩) (g:Nt K cdv qual=true) (S:FnScope N ps scope)
  (len:∀vs H Q E,sp vs H Q E->vs.length=ps.length)
  (c:∀A outer s H vs Q E,Room k (A.deeper (envOfC qual scope s.heap.objs.size f cdv))->sp vs H Q E ->
   ∃t,cD (aU CX P w K mg base N qual scope f cdv A outer s H E) body t/\t { nx:=λ_ H'=>Q .non H',rt:=Q } (start N vs) H) :
  FnOk P w K mg base CX (k+1) f (NQ name qual params body scope j kV doc pm an cdv ct) ps sp:=by
 refine⟨len,λA outer s H args us vs Q E h d hb r hsp=>?_⟩;have m:=len _ _ _ _ hsp;have l:K.In s.heap:=d.mod.kin.keeps λb o e=>(d.bs b o e).1;have lim:=d.mod.nolimit.keeps λb o e=>(d.bs b o e).1;have hkind:∀y∈ps.zip us,scope.names.lookup y.1=Vo .local\/(scope.names.lookup y.1=Vo .cell/\((cellsFrom (s.heap.objs.size+1) scope.names []).lookup y.1).isSome=true):=λ⟨n,v⟩ p=>by
  rcases S.par n (QJ p).1 with q|q
  .exact .inl q
  .exact .inr ⟨q,Nc _ _ _ (.inl q)⟩
 refine codeAny_call_function h.depth (l _ _ lk) rfl S.co S.gen rfl (PySem.W.codeRec_of l g) (hb _ _ _ _ ?_);refine wpAny_newFunctionEnv_cells S.kind hkind λenv z s1 x=>?_;subst z;refine⟨lim.keeps x.toInCall.keep,codeAny_func ?_⟩;obtain⟨t,B,C⟩:=c A outer s H vs Q E (h.deeper _) hsp;have I:Inv (aU CX P w K mg base N qual scope f cdv A outer s H E) [] (start N vs) H s1:=EI S h.hd d m r x;refine wpAny_mono (B [] s1 (start N vs) H _ I C) (λF s' hs=>?_) λe s' hs=>hs;have fin:∀{a:St} {H':Hp} {v:V} {u:Va},Inv (aU CX P w K mg base N qual scope f cdv A outer s H E) [] a H' s'->RelV v u->Q v H'->CE outer P w H s Q u s':=
  λ{a H' v u} J i q=>⟨v,H',J.os,J.bare,J.base,J.hok,i,q⟩
 cases F with
 | ret u=>
  obtain⟨v,a,H',J,i,q⟩:=hs;exact fin J i q
 | next=>
  obtain⟨a,H',J,q⟩:=hs;exact fin (v:=V.non) J rfl q
 | brk=>
  obtain⟨_,_,_,q⟩:=hs;exact M7 q
 | cont=>
  obtain⟨_,_,_,q⟩:=hs;exact M7 q
section
variable {X:Cx} {x:Vn} {p pos:Pos} {e:Vk} {es:List Vk} {t:TA} {id T:String} {r:List V->Hp->VK->Prop}
def mV(r:List V->Hp->VK->Prop)(t:TA):TE:=λσ H Q=>t σ H λvs H1=>r vs H1 Q
def aR(c:cb X (.builtin id) r)(d:Gl X x)(f:X.mg x=Vp)(hv:bootBuiltins x=Vo (.builtin id))(ha:PA X (e::es) t)(g:x≠"__name__":=by decide)(a:(x == ("__debug__":Vn))=false:=by decide)
  (i:starEach (e::es) X.env=(false,eval e X.env)::starEach es X.env:=by rfl) (b:(backTo pos (starEach es X.env)).any (·.1)=false:=by rfl):PE X (.Call (.Name x p) (e::es) [] pos) (mV r t):=by
 intro pins s σ H Q I h;refine wpAny_Call_Name_kw (eL I d f hv ?_ g a);exact PyProof.Rows.callWith_builtin1 (ax (ha pos pins s σ H _ I h) λus s1 ⟨vs,H1,j,r1,k⟩=>c pins s1 σ H1 vs us Q j r1 k) i b
def cX(c:cb X (.type T) r)(d:Gl X x)(f:X.mg x=Vp)(hv:bootBuiltins x=Vo (.type T))(ha:PA X (e::es) t)(g:x≠"__name__":=by decide)(a:(x == ("__debug__":Vn))=false:=by decide)
  (i:starEach (e::es) X.env=(false,eval e X.env)::starEach es X.env:=by rfl) (b:(backTo pos (starEach es X.env)).any (·.1)=false:=by rfl):PE X (.Call (.Name x p) (e::es) [] pos) (mV r t):=by
 intro pins s σ H Q I h;refine wpAny_Call_Name_kw (eL I d f hv ?_ g a);exact NF (ax (ha pos pins s σ H _ I h) λus s1 ⟨vs,H1,j,r1,k⟩=>c pins s1 σ H1 vs us Q j r1 k) i b
end
end L2
variable {Q E:Va->Vc->Prop}{v y:L2.V}{sl a c C i1 i2 L:Vb}{d n t' kk ep m:Nat}{lo hi:Option Int}{items ys:Array Va}{xs:List L2.V}{us:List Va}{pins:List (Vb×Obj)}{σ:L2.St}{H H':L2.Hp}{s:Vc}{p:Vn×NameKind}{A:Vi}{u pm cls a0:Va}{T:String}{h B h1 h' base:Vh}{q qual:Vn}{loose N ps own:List Vn}{X Y:L2.Cx}{f:Nat->Bool}{fd:Vm}{sp:L2.Sp}{env:Env}{sc out scope:Scope}{prog P:Vd}{w:Ve}{R:L2.It->L2.Hp->Prop}{elt iter tg body:Vk}{ifs elts:List Vk}{cells cl:List (Vn×Vb)}{js:List Nat}{fp:List Vb}{tn:Nat->Vh->Prop}{o od:Obj}{g:L2.TG}{tc:L2.TT}{tb:L2.TS}{l outer:List Env}{tl to td tv:L2.TE}{apos cpos:Pos}{r:L2.V->List L2.V->L2.Hp->L2.VK->Prop}{neg:Bool}{mg:Vn->Option Va}{kvs:List (List Key×L2.V)}{M:Model}{params:Arguments}
namespace HT
open PySem PyProof.Rows
section
open PySem.SeqAt
open PySem.AutoSeq1 (wpAny_loadPart')
open PySem.MeetsSeq PySem.MeetsSeq2 PySem.MeetsSeq3
end
section
variable {prog:Vd} {w:Ve} {A:Vi} {E:Va->Vc->Prop} {s:Vc}
def Jz(l:IsTup s.heap t vs.toArray)(hb:IsTup s.heap b ws.toArray)(hv:vs≠[])
  (h1:ws=[]->Q (.ref t) s) (h2:ws≠[]->Q (.ref s.heap.objs.size) { s with heap:=s.heap.push { cls:=.type "tuple",data:=.seq (vs++ws).toArray } })
  (hsz:vs.length+ws.length<=sizeLine):Vf (Vg prog w) A (binaryOp .Add (.ref t) (.ref b)) Q E s:=by
 obtain⟨⟨cls,dd,data,sl⟩,ho,i,n,hd⟩:=id l;obtain⟨⟨j,c,data2,d⟩,a,f,k,g⟩:=id hb;subst i hd f g;have e:vs.toArray++ws.toArray=(vs++ws).toArray:=by simp
 by_cases h:ws=[]
 .exact concat_meets ⟨_,ho,rfl⟩ ⟨_,a,rfl⟩ noFill_tuple_add seq_tuple_add Pj Pd (PQ _ _)
   (tuple_addW1 t b vs.toArray ws.toArray n k dd c sl d (by simpa using hv) (by simp[h])) ⟨ho,a,h1 h⟩
 .refine concat_meets ⟨_,ho,rfl⟩ ⟨_,a,rfl⟩ noFill_tuple_add seq_tuple_add Pj Pd (PQ _ _)
   (tuple_addW2 t b vs.toArray ws.toArray n k dd c sl d (by simpa using hv) (by simpa using h) (by rw[Mi,Mi];exact hsz)) ⟨ho,a,?_⟩
  rw[e];exact h2 h
def aL(n d:Nat):Option Int->Nat
 | none=>d
 | some v=>if v<0 then(v+(n:Int)).toNat else min v.toNat n
def mi(n d):aL n d Vp=d:=rfl
def uR(n d k:Nat):aL n d (Vo (k:Int))=min k n:=by show(if(k:Int)<0 then((k:Int)+(n:Int)).toNat else min (k:Int).toNat n)=min k n;rw[M1 (by omega),Mq]
def CJ(n d)(hd:d<=n)(o):aL n d o<=n:=by
 cases o with
 | none=>exact hd
 | some v=>
  show(if v<0 then(v+(n:Int)).toNat else min v.toNat n)<=n;by_cases hv:v<0
  .rw[M3 hv];omega
  .rw[M1 hv];exact Nat.min_le_right _ _
def xA(v)(n d:Nat):(if v<0 then max (v+(n:Int)) 0 else min v (n:Int))=((aL n d (Vo v):Nat):Int):=by
 show(if v<0 then max (v+(n:Int)) 0 else min v (n:Int))=(((if v<0 then(v+(n:Int)).toNat else min v.toNat n):Nat):Int);by_cases hv:v<0
 .simp only[M3 hv];omega
 .simp only[M1 hv];omega
def Ey(lo hi)(n:Nat):Qn lo hi 1 (n:Int)=(((aL n 0 lo:Nat):Int),((aL n n hi:Nat):Int)):=by
 refine Prod.ext ?_ ?_
 .cases lo with
  | none=>rfl
  | some v=>exact xA v n 0
 .cases hi with
  | none=>rfl
  | some v=>exact xA v n n
def Hc(i j:Nat):OT (i:Int) (j:Int) 1=j-i:=by
 unfold OT;have h1:1>0:=by omega
 split<;>omega
def ue{v:Va}{o:Option Int}{Q:Option Int->Vc->Prop}(p:IsPart v o)(h:Q o s):Vf (Vg prog w) A (Builtin.Slice.slicePartIndex v) Q E s:=by
 cases p with
 | none=>exact slicePart_none h
 | int i t=>exact slicePart_int h
def BN{c d:Va}{Q:Int×Int×Nat->Vc->Prop}(hs:s.heap.IsSliceOf sl c d .none)(pl:IsPart c lo)(pu:IsPart d hi)
  (h:Q (((aL n 0 lo:Nat):Int),1,aL n n hi-aL n 0 lo) s):Vf (Vg prog w) A (Builtin.Slice.sliceApplied (.ref sl) (pure (n:Int))) Q E s:=by
 obtain⟨os,a,e,b⟩:=id hs;refine L6 (L6 (wpAny_field a b rfl (L6 (wpAny_field a b rfl (L6 (wpAny_field a b rfl (L7 ?_)))))));refine L6 (slicePart_none ?_);refine L6 (ue pl (L6 (ue pu (L6 (L7 ?_)))));show Vf _ _ (match Qn lo hi 1 (n:Int)with|(lo,hi)=>pure (lo,(1:Int),OT lo hi 1)) _ _ s;rw[Ey lo hi n];show Vf _ _ (pure (((aL n 0 lo:Nat):Int),(1:Int),OT ((aL n 0 lo:Nat):Int) ((aL n n hi:Nat):Int) 1)) _ _ s;rw[Hc];exact L7 h
def CQ(xs:Array Va)(i k:Nat):((MY k).filterMap λ(m:Nat)=>xs[((i:Int)+(m:Int)*1).toNat]?).toArray=((xs.toList.drop i).take k).toArray:=by
 have e:(λ(m:Nat)=>xs[(i+(m:Int)*1).toNat]?)=λm=>xs[i+m]?:=by
  funext m;have:((i:Int)+(m:Int)*1).toNat=i+m:=by omega
  rw[this]
 rw[e];have:=pick_run xs i k;rw[Ry]at this;have a:((λx=>xs[x]?)∘λx=>i+x)=λm=>xs[i+m]?:=rfl;rw[a]at this;rw[this]
def E7{f g:Va}(b:IsTup s.heap t items)(hs:s.heap.IsSliceOf sl f g .none)(pl:IsPart f lo)(pu:IsPart g hi)
  (i:¬(aL items.size 0 lo=0/\aL items.size items.size hi=items.size))
  (h:Q (.ref s.heap.objs.size) { s with heap:=s.heap.push { cls:=.type "tuple",data:=.seq ((items.toList.drop (aL items.size 0 lo)).take (aL items.size items.size hi-aL items.size 0 lo)).toArray } })
  (hsz:items.size<=sizeLine):Vf (Vg prog w) A (getItem (.ref t) (.ref sl)) Q E s:=by
 have a:sizeOk (.seq ((items.toList.drop (aL items.size 0 lo)).take (aL items.size items.size hi-aL items.size 0 lo)).toArray):=by show((items.toList.drop (aL items.size 0 lo)).take (aL items.size items.size hi-aL items.size 0 lo)).toArray.size<=sizeLine;rw[Mi,MV,N8,Mh];omega
 obtain⟨os,c,d,j⟩:=id hs;have e:s.TypeIs (.ref sl) "slice":=⟨os,c,d⟩;unfold getItem
 try with_reducible refine wpAny_holding ?_
 first|refine L6 (L7 ?_)|skip
 refine L6 (wpAny_sequenceKey b.typeIs (by decide) ?_);refine L6 (MX b.typeIs NT
  (wpAny_call_entry NT b.typeIs entry_tuple_getitem ?_ (args_tuple_getitem _ _)))
 show Vf _ _ (Qg (.ref t) >>= _) _ _ s;refine L6 (tupleItemsOf_ b ?_);refine L6 (wpAny_typeOf e ?_);refine L6 (BN hs pl pu ?_);have hno:¬((((aL items.size 0 lo:Nat):Int) == 0 && (1:Int) == 1 && (aL items.size items.size hi-aL items.size 0 lo) == items.size)=true):=by intro q;rw[MM,MM]at q;have l:((aL items.size 0 lo:Nat):Int)=0:=eq_of_beq q.1.1;have n:aL items.size items.size hi-aL items.size 0 lo=items.size:=eq_of_beq q.2;exact i ⟨by omega,by omega⟩
 show Vf _ _ (if(((aL items.size 0 lo:Nat):Int) == 0 && (1:Int) == 1 && (aL items.size items.size hi-aL items.size 0 lo) == items.size)=true then _ else _) _ _ s;rw[M1 hno,CQ]
 first
  | exact L6 (wpAny_newObj_type (L7 ⟨_,rfl,L7 h⟩) a)
  | exact L6 (wpAny_newObj_type (L6 (L7 (L7 ⟨_,rfl,L7 h⟩))) a)
  | exact L6 (L6 (wpAny_newObj_type (L7 (L7 ⟨_,rfl,L7 h⟩)) a))
  | exact L6 (L6 (wpAny_newObj_type (L7 ⟨_,rfl,L7 h⟩) a))
end
end HT
namespace L2
open PySem PySem.Spec PyProof.Rows
abbrev TO:=St->Hp->(Option Int->Hp->Prop)->Prop
def PO(X:Cx)(e:Option Vk)(t:TO):Prop:=
 ∀(pins:List (Vb×Obj)) (s:Vc) (σ:St) (H:Hp) (Q:Option Int->Hp->Prop),Inv X pins σ H s->t σ H Q ->
  Vf (Vg X.prog X.w) X.A (evalPart e X.env) (λu s'=>∃o H',Inv X pins σ H' s'/\IsPart u o/\Q o H') X.xe s
def A7:TO:=λ_ H Q=>Q Vp H
def yp(t:TE):TO:=λσ H Q=>t σ H λx H1=>∃i,x=.int i/\Q (Vo i) H1
def intsAre_of:∀{us},Vals (ns.map V.int) us->IntsAre us ns:=by
 induction ns with
 | nil=>intro us r;cases r;exact .nil
 | cons n ns a=>
  intro us r;cases r with
  | cons r1 b=>
   obtain⟨t,e⟩:=r1;subst e;exact .cons n t (a b)
section
variable {X:Cx} {e:Vk} {te:TE} {lo hi:Option Vk} {tl th:TO} {pos p2:Pos}
def fi:PO X Vp A7:=by intro pins s σ H Q I h;exact L7 ⟨Vp,H,I,.none,h⟩
def dW(h:PE X e te):PO X (Vo e) (yp te):=by intro pins s σ H Q I a;refine ax (h pins s σ H _ I a) λu s1 ⟨x,H1,b,r1,c⟩=>?_;obtain⟨i,rfl,q⟩:=c;obtain⟨t,rfl⟩:=r1;exact⟨Vo i,H1,b,.int i t,q⟩
def jj(X:Cx)(r:V->Option Int->Option Int->Hp->VK->Prop):Prop:=
 ∀(pins:List (Vb×Obj)) (s:Vc) (σ:St) (H:Hp) (x:V) (v a b:Va) (lo hi:Option Int) (sl:Vb) (Q:VK),Inv X pins σ H s->RelV x v->s.heap.IsSliceOf sl a b .none->IsPart a lo->IsPart b hi->r x lo hi H Q ->
  ∃T id,typeLookup (.type T) "__getitem__" = pure (Vo (.builtin id))/\s.TypeIs v T/\Vf (Vg X.prog X.w) X.A (getItem v (.ref sl)) (EP X pins σ Q) X.xe s
def yj(r:V->Option Int->Option Int->Hp->VK->Prop)(te:TE)(tl th:TO):TE:=λσ H Q=>te σ H λx H1=>tl σ H1 λl H2=>th σ H2 λu a=>r x l u a Q
def eM{r:V->Option Int->Option Int->Hp->VK->Prop}(g:jj X r)(i:PE X e te)(j:PO X lo tl)(k:PO X hi th):PE X (.Subscript e (.Slice lo hi Vp p2) pos) (yj r te tl th):=by intro pins s σ H Q I h;refine Subscript_ (ax (i pins s σ H _ I h) λv s1 ⟨x,H1,m,r1,n⟩=>?_);refine wpAny_Slice (ax (j pins s1 σ H1 _ m n) λc s2 ⟨l,H2,o,pl,p⟩=>ax (k pins s2 σ H2 _ o p) λd a ⟨u,f,y,pu,z⟩=>?_);refine L7 ?_;have B:Inv X pins σ f { a with heap:=a.heap.push { cls:=.type "slice",data:=.fields #[c,d,.none] } }:=y.kept (t':=a.toks) λb ob q=>L9 _ q;obtain⟨T,id,C,E,F⟩:=g pins { a with heap:=a.heap.push { cls:=.type "slice",data:=.fields #[c,d,.none] } } σ f x v c d l u a.heap.objs.size Q B r1 (Heap.IsSliceOf.new ..) pl pu z;exact tail_any E C F (by with_unfolding_all rfl)
def cn(xs:List V)(lo hi:Option Int):List V:=(xs.drop (HT.aL xs.length 0 lo)).take (HT.aL xs.length xs.length hi-HT.aL xs.length 0 lo)
def zN(xs)(lo hi):(cn xs lo hi).length<=xs.length:=by unfold cn;rw[MV,N8];omega
def Gj(K:L8):V->Option Int->Option Int->Hp->VK->Prop:=λx lo hi H Q=>∃a xs,x=.ref a/\ak K H a xs ∧
 ¬(HT.aL xs.length 0 lo=0/\HT.aL xs.length xs.length hi=xs.length)/\∀p,H p=Vp->Q (.ref p) (upd H p (.tup (cn xs lo hi)))
def Ie:jj X (Gj X.K):=by
 intro pins s σ H x v j k lo hi sl Q I f hs pl pu h;obtain⟨a,xs,rfl,g,i,q⟩:=h;cases f;obtain⟨c,r,d,e⟩:=I.tuple g;have hlen:c.toArray.size=xs.length:=by rw[Mi];exact r.length.symm
 refine⟨"tuple",_,NT.lookup,d.typeIs,?_⟩;refine HT.E7 d hs pl pu (by rw[hlen];exact i) ?_ (by rw[hlen];exact e);rw[hlen];refine⟨.ref s.heap.objs.size,_,I.laid (λb ob q=>L9 _ q) (Mw _) ?_,rfl,q _ (I.hok.fresh (Mw _))⟩;exact⟨MH (zN xs lo hi) e,_,(r.drop (HT.aL xs.length 0 lo)).take (HT.aL xs.length xs.length hi-HT.aL xs.length 0 lo),SR _ _⟩
def F9(K:L8):R2:=λx y H Q=>∃a b xs ys,x=.ref a/\y=.ref b/\ak K H a xs/\ak K H b ys/\xs≠[]/\xs.length+ys.length<=sizeLine ∧
 (ys=[]->Q (.ref a) H)/\(ys≠[]->∀p,H p=Vp->Q (.ref p) (upd H p (.tup (xs++ys))))
def Vals.nil_iff(r:Vals xs us):us=[]↔xs=[]:=by
 cases r with
 | nil=>simp
 | cons _ _=>simp
def IA:br X (binaryOp .Add) (F9 X.K):=by intro pins s σ H x y v u Q I f g h;obtain⟨a,b,xs,ys,rfl,rfl,ha,hb,i,d,j,k⟩:=h;cases f;cases g;obtain⟨l,r1,m,_⟩:=I.tuple ha;obtain⟨e,c,p2,_⟩:=I.tuple hb;refine HT.Jz m p2 (λz=>i (r1.nil_iff.mp z)) (λz=>⟨.ref a,H,I,rfl,j (c.nil_iff.mp z)⟩) (λz=>?_) (by rw[<-r1.length,<-c.length];exact d);refine⟨.ref s.heap.objs.size,_,I.laid (λb ob q=>L9 _ q) (Mw _) ?_,rfl,k (λw=>z (c.nil_iff.mpr w)) _ (I.hok.fresh (Mw _))⟩;exact⟨by rw[Mu];exact d,_,r1.append c,SR _ _⟩
end
def fI(n:Nat)(i:Int):Option Nat:=if 0<=i then(if i<n then Vo i.toNat else Vp)else if -(n:Int)<=i then Vo (i+n).toNat else Vp
def di{α:Type}(xs:List α)(i:Int):Option α:=(fI xs.length i).bind λj=>xs[j]?
def w8(h:fI n i=Vo j):seqIndex? i n=Vo j/\j<n/\-(n:Int)<=i/\i<n:=by
 unfold fI at h;by_cases a:0<=i
 .rw[M3 a]at h;by_cases h1:i<n
  .rw[M3 h1]at h;have e:i.toNat=j:=MO h;exact⟨by rw[seqIndex_of a h1,e],by omega,by omega,h1⟩
  .rw[M1 h1]at h;cases h
 .rw[M1 a]at h;by_cases h1:-n<=i
  .rw[M3 h1]at h;have e:(i+n).toNat=j:=MO h;exact⟨by rw[seqIndex_neg (by omega) h1,e],by omega,h1,by omega⟩
  .rw[M1 h1]at h;cases h
def pF{xs:List α}{v:α}(h:di xs i=Vo v):∃j,seqIndex? i xs.length=Vo j/\xs[j]?=Vo v/\j<xs.length/\-(xs.length:Int)<=i/\i<xs.length:=by
 unfold di at h;cases e:fI xs.length i with
 | none=>rw[e]at h;cases h
 | some j=>
  rw[e]at h;obtain⟨h1,h2,a,b⟩:=w8 e;exact⟨j,h1,h,h2,a,b⟩
def aM{xs:List α}{j:Nat}{v:α}(h:xs[j]?=Vo v):di xs (j:Int)=Vo v:=by
 have a:j<xs.length:=(Mm.mp h).1;have e:fI xs.length (j:Int)=Vo j:=by unfold fI;rw[M3 (by omega),M3 (by omega)];simp
 unfold di;rw[e];exact h
def Jo(b:Vk):Prop:=∀o i,subscripted b false o i=operate [o,i] (getItem o i)
def jQ(X:Cx)(r:R2):Prop:=
 ∀(value slice:Vk) (pins:List (Vb×Obj)) (s:Vc) (σ:St) (H:Hp) (x y:V) (v u:Va) (Q:VK),Inv X pins σ H s->RelV x v->RelV y u->r x y H Q ->
  subscripted slice false v u=operate [v,u] (getItem v u)->Vf (Vg X.prog X.w) X.A (subscriptTail value slice v u) (EP X pins σ Q) X.xe s
def i8(X:Cx)(id:String)(r:V->List V->Hp->VK->Prop):Prop:=
 ∀(pins:List (Vb×Obj)) (s:Vc) (σ:St) (H:Hp) (x:V) (xs:List V) (v:Va) (us:List Va) (Q:VK),Inv X pins σ H s->RelV x v->Vals xs us->r x xs H Q ->
  Vf (Vg X.prog X.w) X.A (call (.builtin id) (v::us)) (EP X pins σ Q) X.xe s
section
variable {X:Cx} {a b:Vk} {ta tb:TE} {pos:Pos}
def ai{r}(c:jQ X r)(ha:PE X a ta)(hb:PE X b tb)(hs:Jo b):PE X (.Subscript a b pos) (jx r ta tb):=by intro pins s σ H Q I h;exact Subscript_ (qV ha hb I h λv u s2 x y H2 d e f q=>c a b pins s2 σ H2 x y v u Q d e f q (hs _ _))
def oW(K:L8):R2:=λx y H Q=>∃p xs i v,x=.ref p/\y=.int i/\af K H p xs/\di xs i=Vo v/\Q v H
def qG(K:L8):R2:=λx y H Q=>∃p xs i v,x=.ref p/\y=.int i/\ak K H p xs/\di xs i=Vo v/\Q v H
def Du:R2:=λx y H Q=>∃z i c,x=.str z/\y=.int i/\z.length<=sizeLine/\di z.cps.toList i=Vo c/\Q (.str ⟨#[c]⟩) H
def Lf:jQ X (oW X.K):=by
 intro value slice pins s σ H x y v u Q I f g h hs;obtain⟨p,xs,i,z,rfl,rfl,k,l,q⟩:=h;cases f;obtain⟨t,rfl⟩:=g;obtain⟨a,r,pl,A⟩:=I.list k;obtain⟨j,h1,h2,B,m,n⟩:=pF l;obtain⟨w,d,b⟩:=r.get h2;have o:=r.length;have C:=iY;have fin:EP X pins σ Q w s:=⟨z,H,I,b,q⟩;by_cases e:0<=i
 .have c:i.toNat=j:=by rw[seqIndex_of e n]at h1;exact MO h1
  exact item_listR pl.isList e (by omega) (by rw[c];simpa using d) fin hs
 .have c:(i+(a.toArray.size:Int)).toNat=j:=by rw[seqIndex_neg (by omega) m]at h1;rw[Mi,<-o];exact MO h1
  exact subscriptTail_builtinR pl.isList.typeIs slot_list_getitem.lookup
   (wpAny_getItem_list_neg pl.isList (by omega) (by rw[Mi]<;>omega) (by omega) (by rw[c];simpa using d) ⟨rfl,fin⟩) hs
def JY:jQ X (qG X.K):=by
 intro value slice pins s σ H x y v u Q I b c h hs;obtain⟨p,xs,i,z,rfl,rfl,d,e,q⟩:=h;cases b;obtain⟨t,rfl⟩:=c;obtain⟨f,r,pl,l⟩:=I.tuple d;obtain⟨j,h1,h2,m,n,o⟩:=pF e;obtain⟨w,g,a⟩:=r.get h2;have k:=r.length;have A:=iY;have fin:EP X pins σ Q w s:=⟨z,H,I,a,q⟩;exact subscriptTail_builtinR pl.typeIs slot_tuple_getitem.lookup
  (getItem_tuple pl (by omega) (by omega) (by rw[Mi,<-k];exact h1) (by simpa using g) ⟨rfl,fin⟩) hs
def vk:jQ X Du:=by
 intro value slice pins s σ H x y v u Q I a b h hs;obtain⟨z,i,c,rfl,rfl,m,d,q⟩:=h;obtain⟨t,rfl⟩:=a;obtain⟨n,rfl⟩:=b;obtain⟨j,h1,h2,o,e,f⟩:=pF d;have g:z.cps.toList.length=z.length:=by simp[Str.length]
 rw[g]at h1 e f;have p:=iY;exact tail_any (typeIs_str s z t) slot_str_getitem.lookup (getItem_str (by have k:decide (i < -(2 ^ 63:Int))=false:=MZ (by omega);have l:decide (i ≥ 2 ^ 63)=false:=MZ (by omega);rw[k,l,Qx]) (by rw[h1];simpa using h2) ⟨.str ⟨#[c]⟩,H,I.tok _,⟨_,rfl⟩,q⟩) hs
def GL(a:List Va)(n j)(u):Ni (·.setIfInBounds j u) { cls:=.type "list",data:=.seq a.toArray n }={ cls:=.type "list",data:=.seq (a.set j u).toArray n }:=by simp[Ni]
theorem Inv.lst{pins:List (Vb×Obj)}{σ:St}{H:Hp}{s:Vc}{p:Vb}{xs:List V}(I:Inv X pins σ H s)(h:H p=Vo (.lst xs)):
  ∃(a:List Va) (n:Nat),Vals xs a/\s.heap.get? p=Vo { cls:=.type "list",data:=.seq a.toArray n }/\xs.length<=sizeLine:=by
 obtain⟨z,a,n,r,e⟩:=I.hok p _ h;exact⟨a,n,r,e,z⟩
def Inv.lstUpd{p:Vb}{ys:List V}{a its':List Va}{n c:Nat}{f:Obj->Obj}(I:Inv X pins σ H s)(h:H p=Vo (.lst xs))
  (ho:s.heap.get? p=Vo { cls:=.type "list",data:=.seq a.toArray n }) (d:f { cls:=.type "list",data:=.seq a.toArray n }={ cls:=.type "list",data:=.seq its'.toArray c }) (r:Vals ys its') (g:ys.length<=sizeLine) (t) :
  Inv X pins σ (upd H p (.lst ys)) { s with heap:=s.heap.update p f,toks:=t }:=by
 have e:(s.heap.update p f).get? p=Vo { cls:=.type "list",data:=.seq its'.toArray c }:=by rw[NA f ho (by rw[d]<;>rfl),d]
 refine I.write (by rw[h];trivial) (.inl rfl) (λb u hb q=>(NB _ _ (NC hb)).trans q) ⟨_,e⟩ ?_;exact⟨g,its',c,r,e⟩
def uI:V->V->V->Hp->(Hp->Prop)->Prop:=λo i v H Q=>∃p xs k j,o=.ref p/\i=.int k/\H p=Vo (.lst xs)/\fI xs.length k=Vo j/\Q (upd H p (.lst (xs.set j v)))
def set_list:BH X uI:=by
 intro pins s σ H o i v A B u Q I m w x h;obtain⟨p,xs,k,j,rfl,rfl,d,y,q⟩:=h;cases m;obtain⟨t,rfl⟩:=w;obtain⟨a,n,r,ho,z⟩:=I.lst d;obtain⟨h1,h2,e,f⟩:=w8 y;have b:=r.length;have C:=iY;have g:Inv X pins σ (upd H p (.lst (xs.set j v))) { s with heap:=s.heap.update p (Ni (·.setIfInBounds j u)) }:=
  I.lstUpd d ho (GL a n j u) (r.set x j) (by rw[RO];exact z) s.toks
 by_cases l:0<=k
 .have c:k.toNat=j:=by rw[seqIndex_of l f]at h1;exact MO h1
  exact PySem.W.ki_setAt ho l (by omega) (by rw[Mi,<-b];exact f) (by rw[c];exact⟨_,g,q⟩)
 .have c:(k+(a.toArray.size:Int)).toNat=j:=by rw[seqIndex_neg (by omega) e]at h1;rw[Mi,<-b];exact MO h1
  exact PySem.W.ki_setBack ho (by omega) (by rw[Mi,<-b];exact e) (by omega) (by rw[c];exact⟨_,g,q⟩)
def Gg(lo hi)(n):(sliceBounds lo hi Vp n).1=((HT.aL n 0 lo:Nat):Int)/\(sliceBounds lo hi Vp n).2.1=((HT.aL n n hi:Nat):Int)/\(sliceBounds lo hi Vp n).2.2=1:=by
 refine⟨?_,?_,rfl⟩
 .cases lo with
  | none=>simp[sliceBounds,HT.aL]
  | some i=>
   simp only[sliceBounds,HT.aL,SS,show (1:Int)>0 by decide,if_true];by_cases h:i<0
   .simp only[h,if_true]<;>omega
   .simp only[h,if_false]<;>omega
 .cases hi with
  | none=>simp[sliceBounds,HT.aL]
  | some i=>
   simp only[sliceBounds,HT.aL,SS,show (1:Int)>0 by decide,if_true];by_cases h:i<0
   .simp only[h,if_true]<;>omega
   .simp only[h,if_false]<;>omega
def F3(a:List Va)(lo hi):slicePick a.toArray lo hi Vp=((a.drop (HT.aL a.length 0 lo)).take (HT.aL a.length a.length hi-HT.aL a.length 0 lo)).toArray:=by obtain⟨h1,h2,b⟩:=Gg lo hi a.toArray.size;unfold slicePick;rw[h1,h2,b];simp only[sliceRange_one,pick_run,Mi]<;>rfl
def pf(K:L8):V->Option Int->Option Int->Hp->VK->Prop:=λx lo hi H Q=>∃a xs,x=.ref a/\af K H a xs/\∀p,H p=Vp->Q (.ref p) (upd H p (.lst (cn xs lo hi)))
def EJ:jj X (pf X.K):=by intro pins s σ H x v i j lo hi sl Q I d hs pl pu h;obtain⟨a,xs,rfl,e,q⟩:=h;cases d;obtain⟨f,r,c,g⟩:=I.list e;have hlen:=r.length;refine⟨"list",_,slot_list_getitem.lookup,c.isList.typeIs,?_⟩;refine wpAny_getItem_list_slice c.isList hs pl pu .none (by simp) ?_ (by rw[Mi]<;>omega);rw[F3,<-hlen];refine⟨.ref s.heap.objs.size,_,I.laid (λb ob q=>L9 _ q) (Mw _) ?_,rfl,q _ (I.hok.fresh (Mw _))⟩;exact⟨MH (zN xs lo hi) g,_,0,(r.drop (HT.aL xs.length 0 lo)).take (HT.aL xs.length xs.length hi-HT.aL xs.length 0 lo),Ma _ rfl⟩
def fJ:V->Bool
 | .non=>true
 | .bl _=>true
 | .int _=>true
 | .str _=>true
 | _=>false
def iD:V->V->Bool
 | .non,.non=>true
 | .bl a,.bl b=>a == b
 | .bl a,.int b=>(if a then 1 else 0) == b
 | .int a,.bl b=>a == (if b then 1 else 0)
 | .int a,.int b=>a == b
 | .str a,.str b=>a == b
 | _,_=>false
def Ga{v:Va}(e:RelV y u)(c:RelV x v)(g:fJ y=true)(f:fJ x=true):SeqAt.EqAt A s u v (iD y x):=by
 cases y with
 | non=>
  cases e;cases x with
  | non=>cases c;exact SeqAt.EqAt.same _
  | bl b=>cases c;exact SeqAt.EqAt.none_bool b
  | int b=>obtain⟨t,rfl⟩:=c;exact SeqAt.EqAt.none_int b t
  | str b=>obtain⟨t,rfl⟩:=c;exact SeqAt.EqAt.none_str b t
  | _=>exact absurd (f) Ms
 | bl a=>
  cases e;cases x with
  | non=>cases c;exact SeqAt.EqAt.bool_none a
  | bl b=>cases c;exact SeqAt.EqAt.bool_bool a b
  | int b=>obtain⟨t,rfl⟩:=c;exact SeqAt.EqAt.bool_int a b t
  | str b=>obtain⟨t,rfl⟩:=c;exact SeqAt.EqAt.bool_str a b t
  | _=>exact absurd (f) Ms
 | int a=>
  obtain⟨d,rfl⟩:=e;cases x with
  | non=>cases c;exact SeqAt.EqAt.int_none a d
  | bl b=>cases c;exact SeqAt.EqAt.int_bool a d b
  | int b=>obtain⟨t,rfl⟩:=c;exact SeqAt.EqAt.int_int a d b t
  | str b=>obtain⟨t,rfl⟩:=c;exact Ru a d b t
  | _=>exact absurd (show false=true from f) Ms
 | str a=>
  obtain⟨d,rfl⟩:=e;cases x with
  | non=>cases c;exact SeqAt.EqAt.str_none a d
  | bl b=>cases c;exact SeqAt.EqAt.str_bool a d b
  | int b=>obtain⟨t,rfl⟩:=c;exact Rv a d b t
  | str b=>obtain⟨t,rfl⟩:=c;exact SeqAt.EqAt.str_str a d b t
  | _=>exact absurd (show false=true from f) Ms
 | _=>exact absurd (show false=true from g) Ms
def gJ(x:V)(u:Va):Bool:=match u with
 | .none=>iD .non x
 | .bool b=>iD (.bl b) x
 | .int i _=>iD (.int i) x
 | .str z _=>iD (.str z) x
 | _=>false
def Bg(r:RelV y u)(f:fJ y=true):gJ x u=iD y x:=by
 cases y with
 | non=>cases r;rfl
 | bl b=>cases r;rfl
 | int i=>obtain⟨t,rfl⟩:=r;rfl
 | str z=>obtain⟨t,rfl⟩:=r;rfl
 | _=>exact absurd (f) Ms
theorem si{x:V}:∀{xs:List V} {us:List Va},Vals xs us->xs.all fJ=true->us.any (gJ x)=xs.any λy=>iD y x
 | _,_,.nil,_=>rfl
 | y::xs,u::us,.cons r t,f=>by rw[Qy,MM]at f;rw[PR,PR,Bg r f.1,si t f.2]
theorem qc{A:Vi}{s:Vc}{x:V}{v:Va}(b:RelV x v)(c:fJ x=true):∀{xs:List V} {us:List Va},Vals xs us->xs.all fJ=true->∀u∈us,SeqAt.EqAt A s u v (gJ x u)
 | _,_,.nil,_=>λu a=>by cases a
 | y::xs,u::us,.cons r t,f=>λd a=>by
  rw[Qy,MM]at f;rcases Mr.mp a with rfl|a
  .rw[Bg r f.1];exact Ga r b f.1 c
  .exact qc b c t f.2 d a
def jW(x:V)(xs:List V):Bool:=xs.any λy=>iD y x
def qX(K:L8)(neg:Bool):R2:=λx y H Q=>∃p xs,y=.ref p/\(af K H p xs\/ak K H p xs)/\fJ x=true/\xs.all fJ=true/\Q (.bl (if neg then !jW x xs else jW x xs)) H
def Dd:br X (compareOp .In) (qX X.K false):=by
 intro pins s σ H x y v u Q I d f h;obtain⟨p,xs,rfl,b,e,fs,q⟩:=h;cases f;rcases b with b|b
 .obtain⟨a,r,pl,g⟩:=I.list b;refine SeqAt.in_listAt (gJ x) pl.isList (λw c=>qc d e r fs w (by simpa using c)) ⟨.bl _,H,I,rfl,?_⟩;rw[show a.toArray.any (gJ x)=a.any (gJ x) by simp,si r fs];exact q
 .obtain⟨a,r,pl,g⟩:=I.tuple b;refine SeqAt.in_tupleAt (gJ x) pl (λw c=>qc d e r fs w (by simpa using c)) ⟨.bl _,H,I,rfl,?_⟩;rw[show a.toArray.any (gJ x)=a.any (gJ x) by simp,si r fs];exact q
def GN:br X (compareOp .NotIn) (λx y H Q=>∃i j,x=.str i/\y=.str j/\Q (.bl (!(!(OD j i 0 j.length 1).isEmpty))) H):=by intro pins s σ H x y v u Q I a b h;obtain⟨i,j,rfl,rfl,q⟩:=h;obtain⟨t,rfl⟩:=a;obtain⟨c,rfl⟩:=b;exact notIn_str ⟨.bl _,H,I,rfl,q⟩
def Fu:cb X (.builtin "len") (λxs H Q=>∃p ys,xs=[.ref p]/\(af X.K H p ys\/ak X.K H p ys)/\Q (.int ys.length) H):=by
 intro pins s σ H xs us Q I r h;obtain⟨p,ys,rfl,a,q⟩:=h;obtain⟨u,rfl,d⟩:=vals1 r;cases d;have f:=iY;rcases a with a|a
 .obtain⟨b,c,pl,e⟩:=I.list a;have hlen:=c.length;exact Calls.call_len_list pl.isList (by simp only[Mi]<;>omega) ⟨.int ys.length,H,I.tok _,⟨s.toks+1,by rw[Mi,hlen]⟩,q⟩
 .obtain⟨b,c,pl,e⟩:=I.tuple a;have hlen:=c.length;exact len_tuple pl (by simp only[Mi]<;>omega) ⟨.int ys.length,H,I.tok _,⟨s.toks+1,by rw[Mi,hlen]⟩,q⟩
def lN:cb X (.builtin "len") (λxs H Q=>∃z,xs=[.str z]/\z.length<=sizeLine/\Q (.int z.length) H):=by intro pins s σ H xs us Q I r h;obtain⟨z,rfl,a,q⟩:=h;obtain⟨u,rfl,t,rfl⟩:=vals1 r;have b:=iY;exact len_str (by omega) ⟨.int z.length,H,I.tok _,⟨_,rfl⟩,q⟩
def GS:cb X (.type "tuple") (λxs H Q=>∃p ys,xs=[.ref p]/\((af X.K H p ys/\∀l,H l=Vp->Q (.ref l) (upd H l (.tup ys)))\/(ak X.K H p ys/\Q (.ref p) H))):=by
 intro pins s σ H xs us Q I r h;obtain⟨p,ys,rfl,h⟩:=h;obtain⟨u,rfl,i⟩:=vals1 r;cases i;rcases h with⟨c,q⟩|⟨c,q⟩
 .obtain⟨a,d,pl,f⟩:=I.list c;have hlen:=d.length;refine call_tuple_list pl.isList (λh' kp=>?_) (by simp only[Mi]<;>omega);have g:=I.kept (t':=s.toks) kp;have j:Inv X pins σ (upd H h'.objs.size (.tup ys)) { s with heap:=h'.push { cls:=.type "tuple",data:=.seq a.toArray } }:=
   g.laid (λb o e=>L9 _ e) (Mw _) (show bC X.prog X.w _ _ _ (.tup ys)from⟨f,a,d,SR _ _⟩)
  exact⟨.ref h'.objs.size,_,j,rfl,q _ (g.hok.fresh (Mw _))⟩
 .obtain⟨a,d,pl,f⟩:=I.tuple c;exact call_tuple_same pl ⟨.ref p,H,I,rfl,q⟩
def jD(K:L8)(T:String)(x:V)(H:Hp):Prop:=match x with
 | .str _=>T = "str"
 | .int _=>T = "int"
 | .ref p=>(T = "list"/\∃xs,af K H p xs)\/(T = "tuple"/\∃o,K.lookup p=Vo o/\o.cls=.type "tuple"/\o.dict=Vp) ∨
   (T = "dict"/\((∃kvs,H p=Vo (.dK kvs))\/∃kvs,H p=Vo (.dT kvs)))\/(T = "set"/\∃S n,H p=Vo (.set S n))
 | _=>False
def y8{v:Va}(I:Inv X pins σ H s)(r:RelV x v)(ty:jD X.K T x H):
  s.TypeIs v T/\∀a,v=.ref a->∃ob,s.heap.get? a=Vo ob/\ob.dict=Vp:=by
 cases x with
 | str z=>
  obtain⟨t,rfl⟩:=r;cases(ty);exact⟨typeIs_str s z t,λ_ e=>nomatch e⟩
 | int i=>
  obtain⟨t,rfl⟩:=r;cases(ty);exact⟨typeIs_int s i t,λ_ e=>nomatch e⟩
 | ref p=>
  cases r;rcases ty with⟨rfl,xs,f⟩|⟨rfl,o,b,g,hd⟩|⟨rfl,b⟩|⟨rfl,S,n,b⟩
  .obtain⟨h,_,pl,_⟩:=I.list f;refine⟨pl.isList.typeIs,λa e=>?_⟩;cases e;obtain⟨o,n,e,c,hd,_⟩:=pl;exact⟨o,e,hd⟩
  .refine⟨⟨o,I.kIn p o b,g⟩,λa e=>?_⟩;cases e;exact⟨o,I.kIn _ o b,hd⟩
  .have z:∃o,s.heap.get? p=Vo o/\o.ExactDict:=by
    rcases b with⟨kvs,b⟩|⟨kvs,b⟩
    .obtain⟨_,_,_,_,o,_,_,e,ex,_⟩:=I.hok p _ b;exact⟨o,e,ex⟩
    .obtain⟨_,_,_,_,o,_,_,e,ex,_⟩:=I.hok p _ b;exact⟨o,e,ex⟩
   obtain⟨o,e,ex⟩:=z;refine⟨⟨o,e,ex.1⟩,λa d=>?_⟩;cases d;exact⟨o,e,ex.2.1⟩
  .obtain⟨o,_,_,_,e,ex,_⟩:=I.hok p _ b;refine⟨⟨o,e,ex.1⟩,λa d=>?_⟩;cases d;exact⟨o,e,ex.2.1⟩
 | _=>exact M7 ty
def rJ(K:L8)(T:String)(r:V->List V->Hp->VK->Prop)(to:TE):TE:=λσ H Q=>to σ H λx H1=>jD K T x H1/\r x [] H1 Q
def pC(K:L8)(T:String)(r:V->List V->Hp->VK->Prop)(to:TE)(t:TA):TE:=λσ H Q=>to σ H λx H1=>jD K T x H1/\t σ H1 λxs H2=>r x xs H2 Q
variable {o e:Vk} {es:List Vk} {to:TE} {t:TA} {name:Vn} {apos cpos:Pos} {T id:String} {r:V->List V->Hp->VK->Prop}
def Ht(e:PlainAttrs T)(slot:Slot T name id)(c:typeOf (.builtin id)=pure (.type "method_descriptor"))(f:i8 X id r)(ho:PE X o to)
  (a:attributeBase o name X.env (eval o X.env)=eval o X.env:=by rfl) (b:(apos.endLine == cpos.line)=true:=by rfl):PE X (.Call (.Attribute o name apos) [] [] cpos) (rJ X.K T r to):=by
 intro pins s σ H Q I h;refine wpAny_Call_method0_late a b (ax (ho pins s σ H _ I h) λv s1 ⟨x,H1,d,r1,ty,g⟩=>?_);obtain⟨h1,h2⟩:=y8 d r1 ty;exact⟨T,id,e,slot,c,h1,h2,RD rfl (PySem.evalArgs_none (f pins s1 σ H1 x [] v [] Q d r1 .nil g))⟩
def Ju(j:PlainAttrs T)(slot:Slot T name id)(f:typeOf (.builtin id)=pure (.type "method_descriptor"))(k:i8 X id r)(ho:PE X o to)(ha:PA X (e::es) t)
  (b:attributeBase o name X.env (eval o X.env)=eval o X.env:=by rfl)
  (d:((backTo cpos (starEach (e::es) X.env)).all (λx=>!x.1) && (backToKw cpos (keywordEach [] X.env)).all (λx=>x.1.isSome)
   && decide ((e::es).length+([]:List Keyword).length+(if([]:List Keyword).isEmpty then 0 else 1)<30))=true:=by rfl)
  (c:(apos.endLine == cpos.line)=true:=by rfl) (hs:starEach (e::es) X.env=(false,eval e X.env)::starEach es X.env:=by rfl) (a:(backTo cpos (starEach es X.env)).any (·.1)=false:=by rfl) :
  PE X (.Call (.Attribute o name apos) (e::es) [] cpos) (pC X.K T r to t):=by
 intro pins s σ H Q I h;refine wpAny_Call_method_late b d c rfl (ax (ho pins s σ H _ I h) λv s1 ⟨x,H1,g,r1,ty,l⟩=>?_);obtain⟨h1,h2⟩:=y8 g r1 ty;refine⟨T,id,j,slot,f,h1,h2,?_⟩;have i:=ha cpos pins s1 σ H1 _ g l;rw[hs]at i ⊢;refine RD (by show(false || (backTo cpos (starEach es X.env)).any (·.1))=false;rw[a]<;>rfl) (Rg ?_);exact ax i λus s2 ⟨vs,H2,m,n,p⟩=>k pins s2 σ H2 x vs v us Q m r1 n p
end
def oZ(X:Cx)(id:String)(r:V->List V->Hp->VK->Prop):Prop:=
 ∀(pins:List (Vb×Obj)) (s:Vc) (σ:St) (H:Hp) (x:V) (xs:List V) (v:Va) (us:List Va) (Q:VK),Inv X pins σ H s->RelV x v->Vals xs us->r x xs H Q ->
  Vf (Vg X.prog X.w) X.A (call (.builtin id) (v::us)) (EP X pins σ Q) X.xe s
def Vals.one:∀{x} {us},Vals [x] us->∃u,us=[u]/\RelV x u:=vals1
def Vals.zero:∀{us},Vals [] us->us=[]
 | _,.nil=>rfl
theorem Vals.dropLast{xs:List V}{us:List Va}(h:Vals xs us):Vals xs.dropLast us.dropLast:=by
 induction h with
 | nil=>exact .nil
 | cons r t a=>
  cases t with
  | nil=>exact .nil
  | cons q b=>exact .cons r a
theorem Vals.rep{xs:List V}{us:List Va}(h:Vals xs us):∀k:Nat,Vals (MR k xs).flatten (MR k us).flatten
 | 0=>.nil
 | k+1=>by exact Vals.append h (Vals.rep h k)
def FK{α:Type}(l:List α):l.eraseIdx (l.length-1)=l.dropLast:=by
 induction l with
 | nil=>rfl
 | cons a r c=>
  cases r with
  | nil=>rfl
  | cons b r=>
   have e:(a::b::r).length-1=((b::r).length-1)+1:=by have h1:(a::b::r).length=r.length+2:=rfl;have h2:(b::r).length=r.length+1:=rfl;omega
   rw[e,List.eraseIdx_cons_succ,c]
   all_goals rfl
theorem foldl_rep(a:List Va):∀(k:Nat) (acc:List Va),
  SX (λx1 x2=>x1++x2) acc.toArray (MR k a.toArray)=(acc++(MR k a).flatten).toArray
 | 0,acc=>by simp
 | k+1,acc=>by
  have e:acc.toArray++a.toArray=(acc++a).toArray:=by simp
  have b:(acc++a)++(MR k a).flatten=acc++(MR (k+1) a).flatten:=by rw[QT,List.flatten_cons,O2]
  rw[<-b,<-foldl_rep a k (acc++a),<-e,QT,RP]
section
variable {X:Cx} {pins:List (Vb×Obj)} {σ:St} {H:Hp} {s:Vc} {l b:Vb} {xs ys zs:List V}
def Inv.lset{a its':List Va}{f:Array Va->Array Va}(I:Inv X pins σ H s)(b:H l=Vo (.lst xs))
  (e:s.heap.get? l=Vo { cls:=.type "list",data:=.seq a.toArray n }) (c:f a.toArray=its'.toArray) (hv:Vals ys its') (d:ys.length<=sizeLine) :
  Inv X pins σ (upd H l (.lst ys)) { s with heap:=s.heap.update l (Ni f),toks:=t' }:=by
 have q:=SU e f;rw[c]at q;refine I.write (by rw[b];exact trivial) (.inl rfl) (λh u hb g=>(NB s.heap (Ni f) (NC hb)).trans g) ⟨_,q⟩ ?_;exact⟨d,its',_,hv,q⟩
def Inv.lnew{a:List Va}(I:Inv X pins σ H s)(hv:Vals ys a)(b:ys.length<=sizeLine):
  Inv X pins σ (upd H s.heap.objs.size (.lst ys)) { s with heap:=s.heap.push { cls:=.type "list",data:=.seq a.toArray },toks:=t' }:=
 I.laid (λ_ _ q=>L9 _ q) (Mw _) ⟨b,a,0,hv,Ma _ rfl⟩
theorem Inv.fresh(I:Inv X pins σ H s):H s.heap.objs.size=Vp:=I.hok.fresh (Mw _)
def Inv.lstM(I:Inv X pins σ H s)(b:H l=Vo (.lst xs)):xs.length<=sizeLine/\∃a n,Vals xs a/\xs.length=a.length/\s.heap.get? l=Vo { cls:=.type "list",data:=.seq a.toArray n }:=by obtain⟨z,a,n,r,e⟩:=I.hok l _ b;exact⟨z,a,n,r,r.length,e⟩
def BP(h:n<=sizeLine):PU n=false:=by exact MZ (by omega)
end
section
variable {X:Cx}
def zx:V->List V->Hp->VK->Prop:=λx vs H Q=>∃l xs y,x=.ref l/\vs=[y]/\H l=Vo (.lst xs)/\xs.length<sizeLine/\Q .non (upd H l (.lst (xs++[y])))
def dY:oZ X "list.append" zx:=by intro pins s σ H x vs v us Q I c d h;obtain⟨l,xs,y,rfl,rfl,b,g,q⟩:=h;cases c;obtain⟨u,rfl,f⟩:=d.one;obtain⟨z,a,n,r,i,e⟩:=I.lstM b;refine call_meets F.slot_list_append ⟨_,e,rfl⟩ F.entry_list_append (F.args_list_append_2 _ _) (SH l a.toArray n u (by rw[Mi];omega)) ⟨e,?_⟩;refine⟨.non,_,I.lset b e (by simp) (r.append (.cons f .nil)) ?_,rfl,q⟩;rw[Mu,N5];omega
def IJ:V->List V->Hp->VK->Prop:=λx vs H Q=>∃l b xs zs,x=.ref l/\vs=[.ref b]/\H l=Vo (.lst xs)/\H b=Vo (.lst zs)/\xs.length+zs.length<=sizeLine/\Q .non (upd H l (.lst (xs++zs)))
def zX:oZ X "list.extend" IJ:=by
 intro pins s σ H x vs v us Q I i j h;obtain⟨l,b,xs,zs,rfl,rfl,g,k,A,q⟩:=h;cases i;obtain⟨u,rfl,m⟩:=j.one;cases m;obtain⟨z,c,n,r,B,e⟩:=I.lstM g;obtain⟨C,a,o,p,w,y⟩:=I.lstM k;have f:c.toArray.size+a.toArray.size<=sizeLine:=by rw[Mi,Mi];omega
 have d:¬(!c.toArray.isEmpty && PU (c.toArray.size+a.toArray.size))=true:=by rw[BP f,Nu];exact Ms
 refine call_meets F.slot_list_extend ⟨_,e,rfl⟩ F.entry_list_extend (F.args_list_extend_2 _ _)
  (AutoSeq1.list_extend_list_list_0 l c.toArray n b a.toArray o d (by rw[Mi];omega) (by omega)) ⟨e,y,?_⟩
 refine⟨.non,_,I.lset g e (by simp) (r.append p) ?_,rfl,q⟩;rw[Mu];omega
def JH:V->List V->Hp->VK->Prop:=λx vs H Q=>∃l xs y,x=.ref l/\vs=[]/\H l=Vo (.lst xs)/\xs[xs.length-1]?=Vo y/\Q y (upd H l (.lst xs.dropLast))
def lU:oZ X "list.pop" JH:=by
 intro pins s σ H x vs v us Q I f g h;obtain⟨l,xs,y,rfl,rfl,d,i,q⟩:=h;cases f;have b:=g.zero;subst b;obtain⟨z,a,n,r,j,e⟩:=I.lstM d;obtain⟨u,k,m⟩:=r.get i;have c:a.toArray[a.toArray.size-1]?=some u:=by show a.toArray[a.length-1]?=some u;rw[<-Nj,<-j];exact k
 refine call_meets F.slot_list_pop ⟨_,e,rfl⟩ F.entry_list_pop (F.args_list_pop_1 _) (MeetsSeq.list_pop_last l a.toArray n u c (by rw[Mi];omega)) ⟨e,?_⟩;refine⟨y,_,I.lset d e ?_ r.dropLast ?_,m,q⟩
 .rw[Mi,List.eraseIdxIfInBounds_toArray,FK]
 .rw[List.length_dropLast];omega
def rW:R2:=λx y H Q=>∃l b xs zs,x=.ref l/\y=.ref b/\H l=Vo (.lst xs)/\H b=Vo (.lst zs)/\xs.length+zs.length<=sizeLine/\∀p,H p=Vp->Q (.ref p) (upd H p (.lst (xs++zs)))
def bE:br X (binaryOp .Add) rW:=by
 intro pins s σ H x y v u Q I d f h;obtain⟨l,b,xs,zs,rfl,rfl,g,i,p,q⟩:=h;cases d;cases f;obtain⟨z,c,n,r,w,e⟩:=I.lstM g;obtain⟨A,a,B,j,k,m⟩:=I.lstM i;refine PySem.P.add_list e m ?_ (by rw[Mi,Mi];omega);have o:c.toArray++a.toArray=(c++a).toArray:=by simp
 rw[o];exact⟨.ref _,_,I.lnew (r.append j) (by rw[Mu];omega),rfl,q _ I.fresh⟩
def vI:R2:=λx y H Q=>∃l k xs,x=.ref l/\y=.int k/\H l=Vo (.lst xs)/\-(2 ^ 63)<=k/\k<2 ^ 63/\xs.length*k.toNat<=sizeLine ∧
 ∀p,H p=Vp->Q (.ref p) (upd H p (.lst (MR k.toNat xs).flatten))
def len_rep{α:Type}(xs:List α)(k):(MR k xs).flatten.length=k*xs.length:=by
 induction k with
 | zero=>simp
 | succ k a=>rw[QT,List.flatten_cons,Mu,a,Om,Nat.add_comm]
def qQ:br X (binaryOp .Mult) vI:=by
 intro pins s σ H x y v u Q I j o h;obtain⟨l,k,xs,rfl,rfl,p,h1,h2,i,q⟩:=h;cases j;obtain⟨t,rfl⟩:=o;obtain⟨z,b,n,r,w,e⟩:=I.lstM p;have hlen:b.toArray.size*k.toNat<=sizeLine:=by rw[Mi,<-w];exact i
 have d:¬b.toArray.size*k.toNat>(2 ^ 63-1) / 8:=by
  have:(sizeLine:Nat)<=(2 ^ 63-1) / 8:=by decide
  omega
 have f:¬(!Builtin.List.listFitsIndex k)=true:=by rw[fitsIndex_both h1 h2];exact Ms
 have c:¬PU (b.toArray.size*k.toNat)=true:=by rw[BP hlen];exact Ms
 have g:SX (λx1 x2=>x1++x2) #[] (MR (if b.toArray.isEmpty=true then 0 else k.toNat) b.toArray)=(MR k.toNat b).flatten.toArray:=by
  have A:∀m:Nat,SX (λx1 x2=>x1++x2) #[] (MR m b.toArray)=(MR m b).flatten.toArray:=λm=>by have:=foldl_rep b m [];exact this
  rw[A];cases b with
  | nil=>simp
  | cons a B=>rw[M1 (by simp)]
 refine wpAny_binaryOp_repeat_ref (by decide) ⟨_,e,rfl⟩ (λs'=>typeIs_int s' k t) noFill_list_mul F.fills_int_mul F.slot_int_rmul repeat_list F.slot_int_index.lookup
  (call_meets F.slot_int_rmul (typeIs_int s k t) F.entry_int_rmul (F.args_int_rmul_2 _ _) (int___rmul___int_list k t l b.toArray n)
   ⟨e,rfl,⟨_,e,rfl⟩,call_meets F.slot_list_mul ⟨_,e,rfl⟩ F.entry_list_mul (F.args_list_mul_2 _ _) (AutoListH.list___mul___list_int_3 l b.toArray n k t f d c) ⟨e,?_⟩⟩)
 rw[g];exact⟨.ref _,_,I.lnew (r.rep k.toNat) (by rw[len_rep,QV];exact i),rfl,q _ I.fresh⟩
end
end L2
namespace Att
open PySem PySem.W PySem.Calls PyProof.Rows
def JT{P:Params}:∀ns vs,WellAll P h vs (ns.map WData.int)->IntsAre vs ns:=by
 intro ns;induction ns with
 | nil=>
  intro vs w;cases w;exact .nil
 | cons n ns c=>
  intro vs w;cases w with
  | cons a b=>
   cases a;exact .cons _ _ (c _ b)
def FX{l:OpenLaw}(j:l.most=Vo n){P:Params}
  (b:l.row.toRowW.claim.pre args=true) (f:WellAll P h vals args) :
  ∃a vs ns,vals=[Value.ref a]/\args=[WData.list (ns.map WData.int)]/\h.get? a=Vo { cls:=.type "list",data:=.seq vs.toArray }/\IntsAre vs ns/\ns.length<=n:=by
 have g:WShape.hasAll [] args [.list .int]=true:=(pre_splitW b).1;have i:l.pre.holds [] { args:=args }=true:=(pre_splitW b).2;obtain⟨d,r,rfl,h1,h2⟩:=hasAllW_cons g;obtain rfl:=hasAllW_nil h2;obtain⟨xs,rfl,k⟩:=hasW_list h1;obtain⟨ns,rfl⟩:=items_int k;have hlen:ns.length<=n:=by
  have c:(WTm.not (.lt (.lit (.int (n:Int))) (.len (.arg 0)))).holds [] { args:=[.list (ns.map .int)] }=true:=by have c:=(holds_andW i).1;rw[j]at c;exact c
  have e:=condW_of c (w_not (w_lt w_lit (w_len_list (w_arg rfl))));refine Q4 λq=>?_
  first
   | (rw[M0 m]at e;exact absurd e (by decide))
   | (simp at e;omega)
 cases f with
 | cons o p=>
  cases p;cases o with
  | list ho hall=>exact⟨_,_,ns,rfl,rfl,ho,JT ns _ hall,hlen⟩
def GH(l:OpenLaw)(args):l.row.toRowW.claim.post args (.bool true) args=true:=
 postW_of
  (by first|rfl|decide|simp [WShape.has,WShape.arms,WShape.armsAll])
  (show(WTm.eq .res (.lit (.bool true))).value [] { args:=args,res:=Vo (.bool true),after:=args }=Vo (.bool (true == true))from w_eq_bool (w_res rfl) w_lit) rfl
def Kl{l:OpenLaw}{q:Vd}{m:(Vn->Option Va)->Vh->Prop}{p:Ve->Vh->Prop}{d:DefRec}
  (v:l.most=Vo n) (h:d.params.defaults=[])
  (call:∀w s₀ b mg mb c o pm cd doc a vs ns,
   Ground q loose [] m w s₀ mg mb b.heap->p w b.heap ->
   b.heap.get? c=Vo o->o.data=.func (docDef d.name d.params d.body d.scope pm cd doc)->b.heap.CodeRec cd d.name->mg d.name=Vo (.ref c) ->
   b.heap.get? a=Vo { cls:=.type "list",data:=.seq vs.toArray }->IntsAre vs ns->ns.length<=n->b.gens = #[] ->
   codeAny (Vg l.prog w) callerA (.call (.ref c) ⟨[.ref a],[]⟩) (λr s'=>r=.ok (.ret (.bool true))/\OldK b.heap s'.heap/\s'.os=b.os/\AllBare s'.gens) b) :
  WalkO q loose m p l.row.toRowW d [] (λf vs=>SY f vs):=by
 intro w s₀ b mg mb G Y c o pm cd doc x kV ho hd i s j y args vals H e u z k A;obtain rfl:x=.none:=Dflts.none s h;obtain rfl:kV=.none:=Dflts.noKw s;obtain⟨a,vs,ns,rfl,rfl,g,hints,hlen⟩:=FX v e k;refine enter_call (codeAny_mono (call w s₀ b mg mb c o pm cd doc a vs ns G Y ho (fd_plain hd) i j g hints hlen y) λr s' B=>?_);obtain⟨rfl,h2,C,E⟩:=B;exact⟨.inl ⟨.bool true,.bool true,[],rfl,λ_=>rfl,.bool true,GH l _,λ_=>⟨List.Pairwise.nil,λ_ F=>(nomatch F)⟩⟩,h2,C,E⟩
end Att
namespace L2
open PySem PySem.Spec PyProof.Rows
theorem zD:∀{vs:List Va} {ns:List Int},IntsAre vs ns->Vals (ns.map V.int) vs
 | _,_,.nil=>.nil
 | _,_,.cons n t h=>.cons ⟨t,rfl⟩ (zD h)
def inClass(s:Vl)(j:Nat):Vl:=match s with
 | .ClassDef _ _ _ body _ _ _ _ _ _ _=>body.getD j (.Pass ⟨0,0,0,0⟩)
 | _=>.Pass ⟨0,0,0,0⟩
def dH(s:Vl):Arguments:=match s with
 | .FunctionDef _ a _ _ _ _ _ _ _ _=>a
 | _=>{ posonlyargs:=[],args:=[],vararg:=Vp,kwonlyargs:=[],kw_defaults:=[],kwarg:=Vp,defaults:=[] }
def cB(s:Vl):List Vl:=match s with
 | .FunctionDef _ _ b _ _ _ _ _ _ _=>b
 | _=>[]
def aW(s:Vl):Scope:=match s with
 | .FunctionDef _ _ _ _ _ _ sc _ _ _=>sc
 | _=>{ kind:=.function,names:=[],isGenerator:=false,isCoroutine:=false }
abbrev cW:fX:=λ_ _ _ _ _ _=>False
abbrev E0:XK:=λ_ _ _=>False
def qE:Passes cW X E0:=λ_ _ _ _ _ _ _ h=>h.elim
structure Fun(K:L8)(x qual:Vn)(st:Vl)(f:Vb)(fd:Vm):Prop where
 ex:∃(oc:Va) (od:Option Vb) (kV doc pm:Va) (an:Option Vb) (cdv ct:Va) (osl:Array (Option Va)),
  fd=NQ x qual (dH st) (cB st) (aW st) .none kV doc pm an cdv ct/\K.lookup f=Vo ⟨oc,od,.func fd,osl⟩/\Nt K cdv qual=true
 kp:NJ K (.ref f)=true
section
variable {P:Vd} {w:Ve} {K:L8} {mg:Vn->Option Va} {base:Vh}
def Fun.ok{st:Vl}{f:Vb}(F:Fun K x qual st f fd)(S:FnScope N ps (aW st))(len:∀vs H Q E,sp vs H Q E->vs.length=ps.length)
  (a:∀cdv A outer s H vs Q E,Room k (A.deeper (envOfC qual (aW st) s.heap.objs.size f cdv))->sp vs H Q E ->
   ∃t,cD (aU cW P w K mg base N qual (aW st) f cdv A outer s H E).nox (cB st) t/\t { nx:=λ_ H'=>Q .non H',rt:=Q } (start N vs) H):FnOk P w K mg base cW (k+1) f fd ps sp:=by
 obtain⟨oc,od,kV,doc,pm,an,cdv,ct,osl,rfl,lk,b⟩:=F.ex;refine lK lk b S len λA outer s H vs Q E c hsp=>?_;obtain⟨t,h,q⟩:=a cdv A outer s H vs Q E c hsp;exact⟨t,h.nox,q⟩
def Fun.binds{st:Vl}{f:Vb}(F:Fun K x qual st f fd)
  (h:∀kV doc pm an cdv ct us,us.length=ps.length->bindArgs (NQ x qual (dH st) (cB st) (aW st) .none kV doc pm an cdv ct) ⟨us,[]⟩=pure (ps.zip us)):Binds K fd ps []:=by
 obtain⟨oc,od,kV,doc,pm,an,cdv,ct,osl,rfl,lk,a⟩:=F.ex;exact .all (h kV doc pm an cdv ct)
def mJ{st:Vl}{f:Vb}{od an:Option Vb}{kV doc cdv ct:Va}(l:K.lookup f=Vo ⟨oc,od,.func (NQ x qual (dH st) (cB st) (aW st) .none kV doc pm an cdv ct),osl⟩)
  (c:Nt K cdv qual=true) (k:NJ K (.ref f)=true):Fun K x qual st f (NQ x qual (dH st) (cB st) (aW st) .none kV doc pm an cdv ct):=⟨⟨oc,od,kV,doc,pm,an,cdv,ct,osl,rfl,l,c⟩,k⟩
end
def bT(a:Room k A):A.units+1<cLine:=OL (Nat.add_le_add_left (by decide:1<=64) _) a.units
section
variable {X:Cx}
def pv(i:Nat){x:Vn}{pos:Pos}(b:X.N[i]?=Vo x:=by rfl)(hv:nu X.env.scope x:=by first|exact Or.inl rfl|exact Or.inr (Or.inl rfl)|exact Or.inr (Or.inr rfl))(hd:(x == ("__debug__":Vn))=false:=by decide)
  (a:(x == ("__classdict__":Vn))=false:=by decide):PE X (.Name x pos) (qJ i):=Kv b hv hd a
end
def aC{A B:Prop}(h:B):if false=true then A else B:=by exact h
def aD{A B:Prop}(h:A):if true=true then A else B:=by exact h
def xu{c A B:Prop}[Decidable c](h1:c->A)(h2:¬c->B):if c then A else B:=by
 by_cases h:c
 .rw[M3 h];exact h1 h
 .rw[M1 h];exact h2 h
structure Blk where
 s:Vc
 H:Hp
 fp:List Vb
 C:Vb
def cO(names:List (Vn×NameKind))(cells:List (Vn×Vb)):List (Vn×Vb):=
 names.foldl (λacc p=>if p.2 == .free then(p.1,(cells.lookup p.1).getD 0)::acc else acc) []
def fj(X:Cx)(sc:Scope)(own:List Vn)(js:List Nat)(z:Blk):Cx where
 prog:=X.prog
 w:=X.w
 K:=X.K
 mg:=X.mg
 base:=X.base
 A:=X.A
 N:=own++js.map λj=>X.N.getD j ""
 s₀:=z.s
 H₀:=z.H
 env:=compEnvC sc (cO sc.names X.env.cells) z.C X.env
 outer:=X.stack
 stack:=X.stack
 ex:=z.fp
 fn:=λ_=>false
 calm:=X.calm
 pn:=[]
 xe:=λ_ _=>False
def gZ(sc out:Scope):Bool:=sc.names.all λp=>p.2 != .cell && (p.2 != .local || sc.names.lookup p.1 == Vo .local) && (p.2 != .free || out.names.lookup p.1 == Vo .cell || out.names.lookup p.1 == Vo .free)
def jl(sc:Scope)(N:List Vn)(js:List Nat):Bool:=js.all λj=>decide (j<N.length) && (sc.names.lookup (N.getD j "") == Vo .free)
def cG(n:Nat)(js:List Nat)(σ:St):St:=MR n Vp++js.map λj=>(σ[j]?).join
theorem jX(cells:List (Vn×Vb)):∀(names:List (Vn×NameKind)) (acc:List (Vn×Vb)) (x:Vn) (c:Vb),
  (names.foldl (λacc p=>if p.2 == .free then(p.1,(cells.lookup p.1).getD 0)::acc else acc) acc).lookup x=Vo c ->
  ((x,NameKind.free)∈names/\c=(cells.lookup x).getD 0)\/acc.lookup x=Vo c
 | [],acc,x,c,h=>.inr h
 | (n,k)::r,acc,x,c,h=>by
  rcases jX cells r _ x c h with⟨h1,h2⟩|h1
  .exact .inl ⟨Mg _ h1,h2⟩
  .cases a:(k == NameKind.free)with
   | false=>
    simp only[a]at h1;exact .inr h1
   | true=>
    simp only[a,if_true]at h1;rw[MU]at h1;cases b:(x == n)with
    | false=>rw[b]at h1;exact .inr h1
    | true=>
     rw[b]at h1;have d:x=n:=by simpa using b
     have e:k=.free:=by simpa using a
     subst d e;exact .inl ⟨Mj,(MO h1).symm⟩
theorem tE(cells:List (Vn×Vb)):∀(names:List (Vn×NameKind)) (acc:List (Vn×Vb)) (x:Vn),
  ((x,NameKind.free)∈names\/(acc.lookup x).isSome=true)->((names.foldl (λacc p=>if p.2 == .free then(p.1,(cells.lookup p.1).getD 0)::acc else acc) acc).lookup x).isSome=true
 | [],acc,x,h=>by
  rcases h with h|h
  .simp at h
  .exact h
 | (n,k)::r,acc,x,h=>by
  apply tE cells r;rcases h with h|h
  .rcases Mr.mp h with e|h
   .right;cases e;simp[MU]
   .exact .inl h
  .right;cases a:(k == NameKind.free)with
   | false=>simpa[a]using h
   | true=>
    simp only[a,if_true,MU];cases b:(x == n)with
    | true=>rfl
    | false=>exact h
def mw(h:∀p∈sc.names,p.2=.free->∃c,env.cells.lookup p.1=Vo c):closureFor sc env=pure (cO sc.names env.cells):=by
 have go:∀(names:List (Vn×NameKind)) acc,(∀p∈names,p.2=NameKind.free->∃c,env.cells.lookup p.1=Vo c) ->
   (forIn names acc λ p r=>(match p with|(name,kind)=>if(kind == NameKind.free)=true then do let c <-cellOf env name;pure (ForInStep.yield ((name,c)::r))else pure (ForInStep.yield r):Sem _)) =
   pure (names.foldl (λacc p=>if p.2 == .free then(p.1,(env.cells.lookup p.1).getD 0)::acc else acc) acc):=by
  intro names;induction names with
  | nil=>intro acc _;rfl
  | cons p r g=>
   intro acc a;obtain⟨n,k⟩:=p;rw[PY,RP];cases b:(k == NameKind.free)with
   | false=>
    simp only[b,MS,if_false];exact g acc λq d=>a q (Mg _ d)
   | true=>
    obtain⟨c,i⟩:=a (n,k) Mj (by simpa using b);have e:cellOf env n=pure c:=by unfold cellOf;rw[i]
    simp only[b,if_true,e];have f:env.cells.lookup n=Vo c:=i;rw[f];exact g _ λq d=>a q (Mg _ d)
 unfold closureFor cO;have:=go sc.names [] h;simp only[this];rfl
def iT(X:Cx)(ifs:List Vk)(t:TT):Prop:=
 ∀(pins:List (Vb×Obj)) (s:Vc) (σ:St) (H:Hp) (Q:Bool->Hp->Prop),Inv X pins σ H s->t σ H Q ->
  Vf (Vg X.prog X.w) X.A (forIn ifs true λc r=>if r=true then do let ok <-isTrue c X.env (eval c X.env);pure (ForInStep.yield ok)else pure (ForInStep.yield r)) (TP X pins σ Q) X.xe s
def vv:TT:=λ_ H Q=>Q true H
def ck:iT X [] vv:=λ_ _ _ H _ I h=>wpAny_tests_nil ⟨H,I,h⟩
def dC{c:Vk}(h:PT X c t):iT X [c] t:=λpins s σ H Q I a=>wpAny_tests_one (h pins s σ H Q I a)
def Ik{R:Result->Vc->Prop}{elt a iter:Vk}{ps:Pos}(d:Nat->Vc->Prop)
  (step:∀k t,d k t->Vf (Vg prog w) A (pyNext b) (λgot g=>
   match got with
   | none=>R (.ok .next) g
   | some u=>Vf (Vg prog w) A (letOwnedTupleGo a b u) (λ_ l=>Vf (Vg prog w) A (assign a ce u) (λ_ n=>
     Vf (Vg prog w) A (forIn ifs true λc r=>if r=true then do let ok <-isTrue c ce (eval c ce);pure (ForInStep.yield ok)else pure (ForInStep.yield r)) (λyes i=>
      if yes=true then Vf (Vg prog w) A (eval elt ce) (λval o=>Vf (Vg prog w) A (call (.builtin "list.append") [acc,val]) (λ_ p=>∃m,m<k/\d m p) (λ_ _=>False) o) (λ_ _=>False) i
      else ∃m,m<k/\d m i) (λ_ _=>False) n) (λ_ _=>False) l) (λ_ _=>False) g) (λ_ _=>False) t)
  (k0) (start:d k0 j):codeAny (Vg prog w) A (.compLoop (.ListComp elt [⟨a,iter,ifs,0⟩] sc ps) 0 b acc ce) R j:=by
 refine codeAny_loop rfl d (λk t s=>?turn) k0 start
 case turn=>
  have nox:∀{α:Type} {m:Sem α} {Q:α->Vc->Prop} {E:Va->Vc->Prop} {z:Vc},Vf (Vg prog w) A m Q (λ_ _=>False) z->Vf (Vg prog w) A m Q E z:=λh=>wpAny_mono h (λ_ _ q=>q) λ_ _ f=>f.elim;apply wpAny_noted;refine L6 (wpAny_standAt (L6 (nox (wpAny_mono (step k t s) (λgot g h1=>?_) λ_ _ f=>f))));cases got with
  | none=>exact L7 h1
  | some u=>
   refine L6 (nox (wpAny_mono h1 (λ_ l h2=>?_) λ_ _ f=>f));refine L6 (nox (wpAny_mono h2 (λ_ n v=>?_) λ_ _ f=>f));refine L6 (nox (wpAny_mono v (λyes i e=>?_) λ_ _ f=>f));cases yes with
   | false=>
    exact L7 ⟨rfl,e⟩
   | true=>
    refine L6 (L6 (nox (wpAny_mono e (λval o y=>?_) λ_ _ f=>f)));exact L6 (nox (wpAny_mono y (λ_ p B=>L7 (L7 ⟨rfl,B⟩)) λ_ _ f=>f))
section
variable {X:Cx} {pins:List (Vb×Obj)} {σ:St} {H:Hp} {s:Vc}
def eX(a:List Va)(n:Nat):Obj:={ cls:=.type "list",data:=.seq a.toArray n }
def um(h:gZ sc out=true)(a:p∈sc.names)(b:p.2=.free):out.names.lookup p.1=Vo .cell\/out.names.lookup p.1=Vo .free:=by have:=MJ.mp h p a;simp only[b,MM,RQ,beq_iff_eq,bne_iff_ne,ne_eq,not_true,false_or]at this;exact this.2
def oG(h:gZ sc out=true)(a:p∈sc.names):p.2≠.cell:=by have:=MJ.mp h p a;simp only[MM,bne_iff_ne,ne_eq]at this;exact this.1.1
def Gi(h:gZ sc out=true)(a:p∈sc.names)(b:p.2=.local):sc.names.lookup p.1=Vo .local:=by have:=MJ.mp h p a;simp only[b,MM,RQ,beq_iff_eq,bne_iff_ne,ne_eq,not_true,false_or]at this;exact this.1.2
theorem lG{sc:Scope}{env:Env}{x:Vn}:∀{names:List (Vn×NameKind)} {k:NameKind},(names.map λ(p:Vn×NameKind)=>match p with|(n,k)=>if(k == NameKind.free && env.scope.kind == .function && env.kindOf n == Vo .cell)then(n,NameKind.cell)else(n,k)).lookup x=Vo k ->
  ∃c,names.lookup x=Vo c/\(c=k\/(c=.free/\k=.cell))
 | [],_,h=>by simp at h
 | (n,q)::r,k,h=>by
  rw[NS]at h;rw[MU];cases b:(x == n)with
  | true=>
   refine⟨q,rfl,?_⟩;by_cases a:(q == NameKind.free && env.scope.kind == .function && env.kindOf n == Vo .cell)=true
   .simp only[a,if_true,MU,b]at h;right;simp only[MM,beq_iff_eq]at a;exact⟨a.1.1,(MO h).symm⟩
   .left;have h2:N4 x ((n,q)::(r.map λ(p:Vn×NameKind)=>match p with|(n,k)=>if(k == NameKind.free && env.scope.kind == .function && env.kindOf n == Vo .cell)then(n,NameKind.cell)else(n,k)))=Vo k:=by have d:=h;dsimp only at d;rw[M1 a]at d;exact d
    rw[MU,b]at h2;exact MO h2
  | false=>
   have:N4 x (r.map λ p=>match p with|(n,k)=>if(k == NameKind.free && env.scope.kind == .function && env.kindOf n == Vo .cell)then(n,NameKind.cell)else(n,k))=Vo k:=by
    by_cases a:(q == NameKind.free && env.scope.kind == .function && env.kindOf n == Vo .cell)=true
    .simpa only[a,if_true,MU,b]using h
    .dsimp only at h;rw[M1 a,MU,b]at h;exact h
   exact lG (sc:=sc) this
def il{names:List (Vn×NameKind)}(h:names.lookup x=Vo k):(x,k)∈names:=NM h
def LX(ok:X.Ok)(hb:gZ sc X.env.scope=true)(h:(cO sc.names X.env.cells).lookup x=Vo c):X.env.cells.lookup x=Vo c:=by
 rcases jX X.env.cells sc.names [] x c h with⟨h1,h2⟩|h1
 .obtain⟨d,hd⟩:=ok.has x (um hb h1 rfl);rw[hd]at h2 ⊢;rw[h2];rfl
 .simp at h1
def zT(h:(x,NameKind.free)∈sc.names):∃c,(cO sc.names cells).lookup x=Vo c:=
 NI.mp (tE cells sc.names [] x (.inl h))
def Inv.stk_lt(I:Inv X pins σ H s)(hb:b∈bh X.stack):b<s.heap.objs.size:=by
 rcases Mr.mp (I.stkSub b hb)with e|h
 .rw[e];exact I.lt
 .obtain⟨_,o,ho,_⟩:=I.ok.funs.mem h;exact MG (Mb ho) I.sz
def Inv.cell_lt(I:Inv X pins σ H s)(h:X.env.cells.lookup x=Vo c):c<s.heap.objs.size:=by obtain⟨v,q⟩:=I.cell x c h;exact q.lt
def Inv.pin_lt(I:Inv X pins σ H s){p:Vb×Obj}(h:p∈X.pn++pins):p.1<s.heap.objs.size:=Mb (I.pin p h).1
def yZ(h:(cG n js σ)[i]?=Vo (Vo v)):∃k j,i=n+k/\js[k]?=Vo j/\σ[j]?=Vo (Vo v):=by
 unfold cG at h;by_cases hi:i<n
 .rw[MC (by simpa using hi),Q3]at h;split at h<;>cases h
 .rw[MB (by simpa using Q4 hi),RU,Mf]at h;cases e:js[i-n]? with
  | none=>rw[e]at h;cases h
  | some j=>
   rw[e]at h;refine⟨i-n,j,by omega,e,?_⟩;have h':(σ[j]?).join=Vo v:=by simpa using h
   cases q:σ[j]? with
   | none=>rw[q]at h';cases h'
   | some o=>
    rw[q]at h';have:o=Vo v:=h';rw[this]
def eW(J:It)(n:Nat)(js:List Nat)(g:TG)(tc:TT)(te:TE)(σ:St)(H:Hp)(Q:VK):Prop:=
 ∃W:Nat->Nat->List V->Hp->Prop,(∃m,W 0 m [] H)/\∀i m ys H',W i m ys H' ->
  (J.stop i H'/\∀p,H' p=Vp->Q (.ref p) (upd H' p (.lst ys))) ∨
  (J.go i H'/\ys.length<sizeLine/\∃N:List V->Hp->Prop,(∀a H2,N a H2->∃d,d<m/\W (i+1) d a H2)/\∀x H2,J.yld i H' x H2->g x (cG n js σ) H2 λc f=>tc c f λb e=>
   if b=true then te c e λv h=>N (ys++[v]) h else N ys e)
def lO(n:Nat)(js:List Nat)(a:TI)(g:TG)(tc:TT)(te:TE):TE:=λσ H Q=>a σ H λJ H1=>eW J n js g tc te σ H1 Q
structure TurnAt(X:Cx)(tg:Vk)(J:It)(fp:List Vb)(it:Vb)(tn:Nat->Vh->Prop):Prop where
 obj:∀i h,tn i h->∀b∈fp,∃o,h.get? b=Vo o/\∀v,o.data≠.cell v
 keep:∀i h h',tn i h->(∀b∈fp,∀o,h.get? b=Vo o->h'.get? b=Vo o)->tn i h'
 item:∀(i:Nat) (pins:List (Vb×Obj)) (s:Vc) (σ:St) (H:Hp) (E:Va->Vc->Prop),Inv X pins σ H s->(∀b∈fp,cq X pins H b)->tn i s.heap->J.go i H ->
  Vf (Vg X.prog X.w) X.A (pyNext (.ref it)) (λr s1=>∃u,r=Vo u ∧
   Vf (Vg X.prog X.w) X.A (letOwnedTupleGo tg (.ref it) u) (λ_ s2=>∃x H',Inv X pins σ H' s2/\RelV x u/\J.yld i H x H'/\tn (i+1) s2.heap/\∀b∈fp,H' b=Vp) E s1) E s
 done:∀(i:Nat) (pins:List (Vb×Obj)) (s:Vc) (σ:St) (H:Hp) (E:Va->Vc->Prop),Inv X pins σ H s->(∀b∈fp,cq X pins H b)->tn i s.heap->J.stop i H ->
  Vf (Vg X.prog X.w) X.A (pyNext (.ref it)) (λr s1=>r=Vp/\Inv X pins σ H s1) E s
 self:∀(A:Vi) (i:Nat) (s:Vc) (Q:Va->Vc->Prop) (E:Va->Vc->Prop),tn i s.heap->Q (.ref it) s->Vf (Vg X.prog X.w) A (pyIter (.ref it)) Q E s
def Turn.at_(T:Turn Y.prog Y.w Y.K tg J fp it tn)(a:Y.calm=true):TurnAt Y tg J fp it tn:=⟨T.obj,T.keep,T.item Y rfl rfl rfl a,T.done Y rfl rfl rfl a,T.self⟩
theorem iN{x:Vn}{c:Vb}:∀(names:List (Vn×NameKind)) (n:Nat) (acc:List (Vn×Vb)),(cellsFrom n names acc).lookup x=Vo c->acc.lookup x=Vo c\/(n<=c/\(x,NameKind.cell)∈names)
 | [],_,_,h=>.inl h
 | (y,k)::r,n,acc,h=>by
  unfold cellsFrom at h;by_cases a:(k == NameKind.cell)=true
  .rw[M3 a]at h;have b:k=.cell:=by simpa using a
   subst b;rcases iN r (n+1) ((y,n)::acc) h with h|⟨h1,h2⟩
   .rw[MU]at h;cases hb:x == y with
    | true=>
     rw[hb]at h;cases h;rw[beq_iff_eq.mp hb];exact .inr ⟨Mw _,Mj⟩
    | false=>rw[hb]at h;exact .inl h
   .exact .inr ⟨Pk h1,Mg _ h2⟩
  .rw[M1 a]at h;rcases iN r n acc h with h|⟨h1,h2⟩
   .exact .inl h
   .exact .inr ⟨h1,Mg _ h2⟩
theorem nW{x y:Vn}{c:Vb}:∀(names:List (Vn×NameKind)) (n:Nat) (acc:List (Vn×Vb)),(∀x c,acc.lookup x=Vo c->@LT.lt Nat _ c n)->(∀x y c,acc.lookup x=Vo c->acc.lookup y=Vo c->x=y)->(cellsFrom n names acc).lookup x=Vo c->(cellsFrom n names acc).lookup y=Vo c->x=y
 | [],_,_,_,hi,h1,h2=>hi _ _ _ h1 h2
 | (z,k)::r,n,acc,hb,hi,h1,h2=>by
  unfold cellsFrom at h1 h2;by_cases d:(k == NameKind.cell)=true
  .rw[M3 d]at h1 h2;refine nW r (n+1) ((z,n)::acc) (λx c h=>?_) (λx y c h1 h2=>?_) h1 h2
   .rw[MU]at h;cases e:x == z with
    | true=>rw[e]at h;cases h;exact N0 _
    | false=>rw[e]at h;exact Nl (hb x c h)
   .rw[MU]at h1 h2;cases b:x == z with
    | true=>
     rw[b]at h1;cases h1;cases a:y == z with
     | true=>rw[beq_iff_eq.mp b,beq_iff_eq.mp a]
     | false=>rw[a]at h2;exact absurd (hb _ _ h2) (ND _)
    | false=>
     rw[b]at h1;cases a:y == z with
     | true=>rw[a]at h2;cases h2;exact absurd (hb _ _ h1) (ND _)
     | false=>rw[a]at h2;exact hi _ _ _ h1 h2
  .rw[M1 d]at h1 h2;exact nW r n acc hb hi h1 h2
theorem qw{x:Vn}{c:Vb}:∀(names:List (Vn×NameKind)) (h:Vh) (acc:List (Vn×Vb)),(cellsFrom h.objs.size names acc).lookup x=Vo c->acc.lookup x=Vo c\/(pushCells h names).IsCell c Vp
 | [],_,_,e=>.inl e
 | (y,k)::r,h,acc,e=>by
  unfold cellsFrom at e;unfold pushCells;by_cases a:(k == NameKind.cell)=true
  .rw[M3 a]at e ⊢;rw[<-L3 h { cls:=.type "cell",data:=.cell none }]at e;rcases qw r (h.push { cls:=.type "cell",data:=.cell none }) ((y,h.objs.size)::acc) e with e|e
   .rw[MU]at e;cases hb:x == y with
    | true=>
     rw[hb]at e;cases e;exact .inr ⟨_,pushCells_keeps _ _ _ _ (Ma _ rfl),rfl⟩
    | false=>rw[hb]at e;exact .inl e
   .exact .inr e
  .rw[M1 a]at e ⊢;exact qw r h acc e
section
variable {M:Model} {A:Vi} {E:Va->Vc->Prop} {s:Vc}
def Ii{code:Va}{outer:Env}{Q:Env->Vc->Prop}
  (b:Q (newEnv scope s.heap.objs.size globals (cellsFrom (s.heap.objs.size+1) scope.names closure) qual func code (Vo outer) builtins) { s with heap:=pushCells (s.heap.push { cls:=.type "dict",data:=.dict #[] }) scope.names }) :
  Vf M A (newFunctionEnv scope globals closure [] qual func code (Vo outer) builtins) Q E s:=by
 simp only[newFunctionEnv,Rz,if_true];refine L6 (wpAny_alloc ?_);refine L6 (wpAny_layCells _ (λname kind cells=>by cases a:kind == NameKind.cell<;>simp[a]) _ _ _ _ ?_);rw[show ({ s with heap:=s.heap.push { cls:=.type "dict",data:=.dict #[] } }:Vc).heap.objs.size=s.heap.objs.size+1 from L3 ..];refine L6 ?_;exact L7 (L7 b)
end
def iA(X:Cx)(sc:Scope)(C:Vb):List (Vn×Vb):=cellsFrom (Nat.succ C) sc.names (cO sc.names X.env.cells)
def cK(X:Cx)(sc:Scope)(own:List Vn)(js:List Nat)(z:Blk):Cx where
 prog:=X.prog
 w:=X.w
 K:=X.K
 mg:=X.mg
 base:=X.base
 A:=X.A
 N:=own++js.map λj=>X.N.getD j ""
 s₀:=z.s
 H₀:=z.H
 env:=compEnvC sc (iA X sc z.C) z.C X.env
 outer:=X.stack
 stack:=X.stack
 ex:=z.fp
 fn:=λx=>sc.names.lookup x == Vo .cell
 calm:=X.calm
 pn:=[]
 xe:=λ_ _=>False
def eP(sc out:Scope):Bool:=sc.names.all λp=>(p.2 != .cell || sc.names.lookup p.1 == Vo .cell) && (p.2 != .local || sc.names.lookup p.1 == Vo .local) && (p.2 != .free || out.names.lookup p.1 == Vo .cell || out.names.lookup p.1 == Vo .free) && (p.2 != .free || sc.names.lookup p.1 != Vo .cell)
def nv(h:eP sc out=true)(a:p∈sc.names)(b:p.2=.free):out.names.lookup p.1=Vo .cell\/out.names.lookup p.1=Vo .free:=by have:=MJ.mp h p a;simp[b]at this;exact this.1
def KZ(h:eP sc out=true)(a:(x,NameKind.free)∈sc.names)(h2:sc.names.lookup x=Vo .cell):False:=by have:=MJ.mp h _ a;simp[h2]at this
def D9(h:eP sc out=true)(a:p∈sc.names)(b:p.2=.cell):sc.names.lookup p.1=Vo .cell:=by have:=MJ.mp h p a;simp[b]at this;exact this
def vj(h:eP sc out=true)(a:p∈sc.names)(b:p.2=.local):sc.names.lookup p.1=Vo .local:=by have:=MJ.mp h p a;simp[b]at this;exact this
section
variable {X:Cx} {pins:List (Vb×Obj)} {σ:St} {H:Hp} {s:Vc}
def j6(ok:X.Ok)(hb:eP sc X.env.scope=true)(h:(cO sc.names X.env.cells).lookup x=Vo c):X.env.cells.lookup x=Vo c:=by
 rcases jX X.env.cells sc.names [] x c h with⟨h1,h2⟩|h1
 .obtain⟨d,hd⟩:=ok.has x (nv hb h1 rfl);rw[hd]at h2 ⊢;rw[h2];rfl
 .simp at h1
def jR(ok:X.Ok)(hb:eP sc X.env.scope=true)(h:(iA X sc C).lookup x=Vo c):X.env.cells.lookup x=Vo c\/(@LT.lt Nat _ C c/\sc.names.lookup x=Vo .cell):=by
 rcases iN _ _ _ h with h|⟨h1,h2⟩
 .exact .inl (j6 ok hb h)
 .exact .inr ⟨h1,D9 hb h2 rfl⟩
def pq(h:(x,NameKind.free)∈sc.names):∃c,(iA X sc C).lookup x=Vo c:=by obtain⟨c,a⟩:=zT (cells:=X.env.cells) h;exact NI.mp (Nc sc.names _ _ (.inr (by rw[a];rfl)))
def LO(I:Inv X pins σ H s)(hb:eP sc X.env.scope=true)(h:(cO sc.names X.env.cells).lookup x=Vo c):@LT.lt Nat _ c s.heap.objs.size:=I.cell_lt (j6 I.ok hb h)
def Fv(I:Inv X pins σ H s){C:Nat}(l:sc.kind=.function)(hb:eP sc X.env.scope=true)
  (hfp:∀b∈fp,cq X pins H b) (d:s.heap.objs.size<=C) (hlt:∀b∈fp,b<s.heap.objs.size):(cK X sc own js ⟨s,H,fp,C⟩).Ok where
 mod:=I.ok.mod
 kind:=l
 glob:=I.ok.glob
 blt:=I.ok.blt
 above:=d
 inj:=λx y c h1 h2=>nW sc.names _ _ (λx c e=>Qs (MH (PF (LO I hb e)) d)) (λx y c f n=>I.ok.inj x y c (j6 I.ok hb f) (j6 I.ok hb n)) h1 h2
 has:=λx g=>by
  have i:=g;have go:∀k,(relabel sc X.env).names.lookup x=Vo k->(k=.cell\/k=.free)->∃c,(iA X sc C).lookup x=Vo c:=λk h j=>by
   obtain⟨r,h1,h2⟩:=lG (sc:=sc) (env:=X.env) h;have m:=il h1;rcases h2 with h2|⟨h2,_⟩
   .subst h2;rcases j with e|e
    .rw[e]at h1;exact NI.mp (Nc sc.names _ _ (.inl h1))
    .rw[e]at m;exact pq m
   .rw[h2]at m;exact pq m
  rcases i with h|h
  .exact go _ h (.inl rfl)
  .exact go _ h (.inr rfl)
 cab:=λx c h e=>by
  have g:sc.names.lookup x=Vo .cell:=by simpa[cK]using h
  have p:(iA X sc C).lookup x=Vo c:=e;rcases iN _ _ _ p with f|⟨f,_⟩
  .rcases jX X.env.cells sc.names [] x c f with⟨h1,_⟩|h1
   .exact(KZ hb h1 g).elim
   .simp at h1
  .exact MH d (Pk f)
 hd:=I.ok.hd
 frames:=I.ok.frames
 stk:=.inl rfl
 exf:=λb a=>⟨Mv (MG (hlt b a) d),λx c e=>by
  rcases jR I.ok hb e with e|⟨e,_⟩
  .exact(hfp b a).2.2.2.2.1 x c e
  .exact NU (RE (MG (hlt b a) d) e)⟩
 bs:=I.bs
 bsz:=MH I.ok.bsz I.sz
 noex:=λb o e a=>by
  rcases(hfp b a).2.2.2.1 with z|z
  .exact I.ok.noex b o e z
  .exact absurd (MG (Mb e) (MH I.ok.bsz z)) (ND _)
 exfs:=λb a q=>by
  rcases Mr.mp (I.stkSub b q)with e|h
  .exact(hfp b a).2.1 e
  .exact(hfp b a).2.2.1 h
 funs:=I.stack
 frf:=I.stkFree
def JU(I:Inv X pins σ H s){C D:Nat}{m:Vn->Option Va}(Q:sc.kind=.function)(hb:eP sc X.env.scope=true)(R:jl sc X.N js=true)
  (hfp:∀b∈fp,cq X pins H b) (hlt:∀b∈fp,b<s.heap.objs.size) (hD:D=s.heap.objs.size) (hC:C=s.heap.objs.size+1) (old:∀b o,s.heap.get? b=Vo o->h1.get? b=Vo o)
  (A:h1.get? D=Vo o) (B:∀v,o.data≠.cell v) (S:h1.Ns C m) (hcl:∀x c,(iA X sc C).lookup x=Vo c->(cO sc.names X.env.cells).lookup x=Vo c\/h1.IsCell c Vp) :
  Inv (cK X sc own js ⟨s,H,fp,C⟩) [(D,o)] (cG own.length js σ) H { s with heap:=h1,toks:=tk } where
 ok:=Fv I Q hb hfp (by omega) hlt
 os:=rfl
 bare:=I.bare
 base:=Un.kept old
 loc:=by
  refine⟨m,S,λi x v T U W=>?_⟩;obtain⟨k,j,rfl,M,es⟩:=yZ U;have n:(own++js.map λj=>X.N.getD j "")[own.length+k]?=Vo x:=T;rw[MB (by omega),Q5,Mf,M]at n;have ex:X.N.getD j "" = x:=by simpa using n
  have g:=MJ.mp R j (Mn M);simp only[MM,decide_eq_true_eq,beq_iff_eq]at g;have E:X.N[j]?=some x:=by rw[<-ex,NL,Me g.1];rfl
  have a:sc.names.lookup x=some .free:=by rw[<-ex];exact g.2
  have hmem:=il a;have f:=nv hb hmem rfl;obtain⟨m0,Y,F⟩:=I.loc;obtain⟨u,r,l⟩:=F j x v E es (by rcases f with z|z;exact .inr (.inl z);exact .inr (.inr z));refine⟨u,r,?_⟩;obtain⟨c,O⟩:=pq (X:=X) (C:=C) hmem;have G:X.env.cells.lookup x=Vo c:=by
   rcases jR I.ok hb O with e|⟨_,e⟩
   .exact e
   .rw[a]at e;cases e
  have h:s.heap.IsCell c (Vo u):=by
   rcases l with⟨z,_⟩|⟨_,c',P,q⟩
   .have Z:X.env.scope.names.lookup x=Vo .local:=z;rcases f with w|w<;>(rw[Z]at w;cases w)
   .rw[G]at P;cases P;exact q
  have d:h1.IsCell c (Vo u):=by obtain⟨oc,ho,hd⟩:=h;exact⟨oc,old c oc ho,hd⟩
  right;refine⟨?_,c,O,d⟩;have J:(relabel sc X.env).names.lookup x=Vo .local\/(relabel sc X.env).names.lookup x=Vo .cell\/(relabel sc X.env).names.lookup x=Vo .free:=W;rcases J with z|z
  .obtain⟨k',L,y⟩:=lG (sc:=sc) (env:=X.env) z;rw[a]at L;rcases y with y|⟨_,y⟩
   .rw[y]at L;cases L
   .cases y
  .exact z
 cell:=λx c e=>by
  rcases hcl x c e with e|e
  .obtain⟨v,oc,ho,hd⟩:=I.cell x c (j6 I.ok hb e);exact⟨v,oc,old c oc ho,hd⟩
  .exact⟨Vp,e⟩
 free:=I.hok.fresh (show @LE.le Nat _ s.heap.objs.size C by omega)
 freeC:=λx c e=>by
  rcases jR I.ok hb (C:=C) e with e|⟨e,_⟩
  .exact I.freeC x c e
  .exact I.hok.fresh (by omega)
 pin:=λp hp=>by
  have e:p=(D,o):=by simpa[cK]using hp
  subst e;refine⟨A,I.hok.fresh (by omega),?_,λz=>?_,B⟩
  .exact Mv (show @LT.lt Nat _ D C by omega)
  .have h9:@LT.lt Nat _ D s.heap.objs.size:=I.stk_lt (b:=D) z;omega
 hok:=I.hok.kept old
 len:=by show(cG own.length js σ).length=(own++js.map λj=>X.N.getD j "").length;simp[cG]
def rY{RR:Va->Vb->Result->Vc->Prop}
  {Q:VK} {W:Nat->Nat->List V->Hp->Prop} (hk:sc.kind=.function) (hb:eP sc X.env.scope=true) (hj:jl sc X.N js=true)
  (hg:∀C,PG (cK X sc own js ⟨s,H,fp,C⟩) tg g) (ht:∀C,iT (cK X sc own js ⟨s,H,fp,C⟩) ifs tc) (he:∀C,PE (cK X sc own js ⟨s,H,fp,C⟩) elt te)
  (I:Inv X pins σ H s) (T:∀C,TurnAt (cK X sc own js ⟨s,H,fp,C⟩) tg J fp it tn) (st:tn 0 s.heap) (hfp:∀b∈fp,cq X pins H b) (w0:∃m,W 0 m [] H)
  (turn:∀i m ys H',W i m ys H'->(J.stop i H'/\∀p,H' p=Vp->Q (.ref p) (upd H' p (.lst ys))) ∨
   (J.go i H'/\ys.length<sizeLine/\∃N:List V->Hp->Prop,(∀ys' H2,N ys' H2->∃m',m'<m/\W (i+1) m' ys' H2)/\∀x H2,J.yld i H' x H2->g x (cG own.length js σ) H2 λab M=>tc ab M λb H4=>
    if b=true then te ab H4 λv H5=>N (ys++[v]) H5 else N ys H4))
  (fin:∀D C s' ys H',H' D=Vp->Inv X pins σ (upd H' D (.lst ys)) s'->cq X pins (upd H' D (.lst ys)) C->(∃m,s'.heap.Ns C m)->s.heap.objs.size<=C->Q (.ref D) (upd H' D (.lst ys))->RR (.ref D) C (.ok .next) s') :
  Vf (Vg X.prog X.w) X.A (newList []) (λacc G=>Vf (Vg X.prog X.w) X.A (newFunctionEnv sc X.env.globals (cO sc.names X.env.cells) [] X.env.qual Vp .none (Vo X.env)) (λa2 ac=>
   codeAny (Vg X.prog X.w) X.A (.compStart (.ListComp elt [⟨tg,iter,ifs,0⟩] sc pos) 0 (.ref it) acc { a2 with scope:=relabel sc X.env }) (RR acc a2.locals) ac) E G) E s:=by
 have hlt:∀b∈fp,b<s.heap.objs.size:=λb f=>by obtain⟨o,e,_⟩:=(T 0).obj 0 s.heap st b f;exact Mb e
 refine wpAny_newObj_type (Ii ?_);generalize a4:s.heap.push { cls:=.type "list",dict:=none,data:=.seq ([]:List Va).toArray }=H2 at *;have b5:H2.objs.size=s.heap.objs.size+1:=by rw[<-a4,L3]
 have S:(pushCells (H2.push { cls:=.type "dict",data:=.dict #[] }) sc.names).Ns H2.objs.size (λ_=>none):=(Heap.Ns.new H2 (.type "dict")).keeps (pushCells_keeps _ _);have Z:∀x c,(iA X sc H2.objs.size).lookup x=some c->(cO sc.names X.env.cells).lookup x=some c\/(pushCells (H2.push { cls:=.type "dict",data:=.dict #[] }) sc.names).IsCell c none:=λx c e=>by have e':(cellsFrom (H2.objs.size+1) sc.names (cO sc.names X.env.cells)).lookup x=some c:=e;rw[<-L3 H2 { cls:=.type "dict",data:=.dict #[] }]at e';exact qw _ _ _ e'
 have old:∀b o,s.heap.get? b=Vo o->(pushCells (H2.push { cls:=.type "dict",data:=.dict #[] }) sc.names).get? b=Vo o:=λb o e=>pushCells_keeps _ _ b o (L9 _ (a4 ▸ L9 _ e));have b6:(pushCells (H2.push { cls:=.type "dict",data:=.dict #[] }) sc.names).get? s.heap.objs.size=Vo (eX [] 0):=pushCells_keeps _ _ _ _ (L9 _ (a4 ▸ Ma _ rfl));generalize pushCells (H2.push { cls:=.type "dict",data:=.dict #[] }) sc.names=B at *;generalize c0:H2.objs.size=C at *;have below:∀b:Nat,b<s.heap.objs.size->b≠C:=λb f=>by omega
 generalize a0:s.heap.objs.size=D at *;let Y:Cx:=cK X sc own js ⟨s,H,fp,C⟩;have J0:Inv Y [(D,eX [] 0)] (cG own.length js σ) H { s with heap:=B }:=
  JU I hk hb hj hfp (by rw[a0];exact hlt) a0.symm (by rw[a0];exact b5) old b6 (λv z=>by cases z) S Z
 have a5:@Ne Nat D C:=by omega
 have statF:∀{P':List (Vb×Obj)} {H':Hp},(∀b∈fp,H' b=Vp)->(∀p∈P',p.1∉fp)->∀b∈fp,cq Y P' H' b:=λ{P' H'} hn L b f=>by
  obtain⟨f0,f1,f2,f3,f4,f5⟩:=hfp b f;refine⟨hn b f,λz=>below b (hlt b f) z,λz=>?_,.inl f,λx c e=>?_,λp a6 z=>?_⟩
  .rcases Mr.mp (I.stkSub b z)with e|h
   .exact f1 e
   .exact f2 h
  .rcases jR I.ok hb (C:=C) e with e|⟨e,_⟩
   .exact f4 x c e
   .have h9:@LT.lt Nat _ b s.heap.objs.size:=by rw[a0];exact hlt b f
    exact NU (show @LT.lt Nat _ b c by omega)
  .have:p∈P':=by simpa[Y,cK]using a6
   exact L p this (by rw[z];exact f)
 have ad:D∉fp:=λz=>by have h9:@LT.lt Nat _ D D:=hlt D z;omega
 have am:tn 0 B:=(T 0).keep 0 s.heap B st λb _ o e=>old b o e;have loop:∀G:Vc,G={ s with heap:=B } ->
   codeAny (Vg X.prog X.w) X.A (.compLoop (.ListComp elt [⟨tg,iter,ifs,0⟩] sc pos) 0 (.ref it) (.ref D) Y.env) (RR (.ref D) C) G:=by
  rintro G rfl;obtain⟨m0,w0⟩:=w0;refine Ik (λn s'=>∃i ys l q H',Inv Y [(D,eX l q)] (cG own.length js σ) H' s'/\Vals ys l/\ys.length<=sizeLine/\tn i s'.heap/\(∀b∈fp,H' b=Vp)/\W i n ys H') ?_ m0
   ⟨0,[],[],0,H,J0,.nil,LI _,am,λb f=>(hfp b f).1,w0⟩
  rintro n s3 ⟨i,ys,l,q,M,I3,rv,hz,an,ap,w3⟩;have pD:∀p∈[(D,eX l q)],p.1∉fp:=λp L=>by
   have e:p=(D,eX l q):=by simpa using L
   rw[e];exact ad
  rcases turn i n ys M w3 with⟨stop,qn⟩|⟨go,hlen,N,hN,step⟩
  .refine ax ((T C).done i _ s3 _ M _ I3 (statF ap pD) an stop) λr s4 ⟨hr,I4⟩=>?_;subst hr;show RR (.ref D) C (.ok .next) s4;have O:=I4.pin (D,eX l q) (MP _ (Mo.mpr rfl));have b7:s4.heap.get? D=Vo (eX l q):=O.1;have nD:M D=Vp:=O.2.1;have U:Un (bh X.stack) fp H M s.heap s4.heap:=I4.base;have neD:∀b o,s.heap.get? b=Vo o->b≠D:=λb o e=>Mv (by have h9:@LT.lt Nat _ b s.heap.objs.size:=Mb e;omega);have neDH:∀b o,H b=Vo o->b≠D:=λb o e=>Mv (by have h9:@LT.lt Nat _ b s.heap.objs.size:=I.hok.lt e;omega);have U2:Un (bh X.stack) fp H (upd M D (.lst ys)) s.heap s4.heap:=
    ⟨U.keep,U.slot,λb o e n hx=>by rw[aq (neD b o e)];exact U.free b o e n hx,U.there,λb xs e=>by rw[aq (neDH b _ e)];exact U.tups b xs e,
     λb o u e=>by rw[aq (neDH b _ e)];exact U.frzs b o u e,λb ps e=>by rw[aq (neDH b _ e)];exact U.tbls b ps e⟩
   have ar:bt X.prog X.w (upd M D (.lst ys)) s4.heap:=λb o e=>by
    by_cases f:b=D
    .subst f;rw[ay]at e;cases e;exact⟨hz,l,q,rv,b7⟩
    .rw[aq f]at e;exact(I4.hok b o e).stay (λc u _ z=>z) (λc z=>by rw[aq (cC z nD)];exact z) λc xs z=>by rw[aq (cC z nD)];exact z
   have IX:Inv X pins σ (upd M D (.lst ys)) s4:=I.call' (ch:=fp) I4.os U2 ar I4.bare λb f=>by obtain⟨f0,f1,f2,f3,f4,f5⟩:=hfp b f;exact⟨f3,f1,f4,f5⟩
   obtain⟨m4,b8,_⟩:=I4.loc;have nC:M C=Vp:=I4.free;refine fin D C s4 ys M nD IX ?_ ⟨m4,b8⟩ (show @LE.le Nat _ D C by omega) (qn D nD);refine⟨by rw[aq (NC a5)];exact nC,?_,?_,?_,?_,?_⟩
   .have h9:@LT.lt Nat _ X.env.locals s.heap.objs.size:=I.lt;exact NU (show @LT.lt Nat _ X.env.locals C by omega)
   .exact I.nofs (show @LE.le Nat _ s.heap.objs.size C by omega)
   .right;have h9:@LE.le Nat _ X.s₀.heap.objs.size s.heap.objs.size:=I.sz;exact(show @LE.le Nat _ X.s₀.heap.objs.size C by omega)
   .intro x c e;have h9:@LT.lt Nat _ c s.heap.objs.size:=I.cell_lt e;exact Mv (show @LT.lt Nat _ c C by omega)
   .intro p L;have h9:@LT.lt Nat _ p.1 s.heap.objs.size:=I.pin_lt L;exact Mv (show @LT.lt Nat _ p.1 C by omega)
  .refine ax ((T C).item i _ s3 _ M _ I3 (statF ap pD) an go) λr s4 ⟨u,hr,h4⟩=>?_;subst hr;refine ax h4 λ_ s5 ⟨x,H5,I5,r5,y5,a7,b9⟩=>?_;have bb:=I5.pinned (statF b9 pD) ((T 0).obj _ _ a7);refine ax (hg _ _ s5 _ H5 x u _ bb r5 (step x H5 y5)) λ_ s6 ⟨a1,H6,I6,q6⟩=>?_;refine ax (ht _ _ s6 a1 H6 _ I6 q6) λok s7 ⟨H7,I7,q7⟩=>?_;have back:∀{s':Vc} {as:St} {H':Hp} {ys':List V} {its':List Va} {q':Nat},Inv Y ([(D,eX its' q')]++iC fp s5.heap) as H' s'->Vals ys' its'->ys'.length<=sizeLine->N ys' H' ->
     ∃m,m<n/\∃i ys l q H',Inv Y [(D,eX l q)] (cG own.length js σ) H' s'/\Vals ys l/\ys.length<=sizeLine/\tn i s'.heap/\(∀b∈fp,H' b=Vp)/\W i m ys H':=by
    intro s' as H' ys' its' q' I' be bi nn;obtain⟨m',hm,w'⟩:=hN ys' H' nn;have hpin:∀b∈fp,∀o,s5.heap.get? b=Vo o->s'.heap.get? b=Vo o/\H' b=Vp:=λb f o e=>by have:=I'.pin (b,o) (MP _ (MP _ (qo f e)));exact⟨this.1,this.2.1⟩
    refine⟨m',hm,i+1,ys',its',q',H',?_,be,bi,(T 0).keep _ _ _ a7 λb f o e=>(hpin b f o e).1,λb f=>?_,w'⟩
    .have y:=I'.unpinned;obtain⟨mm,bl,_⟩:=id y.loc;refine⟨y.ok,y.os,y.bare,y.base,⟨mm,bl,λk x v e1 e2 e3=>?_⟩,y.cell,y.free,y.freeC,y.pin,y.hok,?_⟩
     .obtain⟨m1,c1,bm⟩:=J0.loc;obtain⟨u1,r1,l1⟩:=bm k x v e1 e2 e3;refine⟨u1,r1,?_⟩;obtain⟨k',j,rfl,ej,es⟩:=yZ e2;have b0:(own++js.map λj=>X.N.getD j "")[own.length+k']?=Vo x:=e1;rw[MB (by omega),Q5,Mf,ej]at b0;have ex:X.N.getD j "" = x:=by simpa using b0
      have b1:=MJ.mp hj j (Mn ej);simp only[MM,decide_eq_true_eq,beq_iff_eq]at b1;have P:sc.names.lookup x=some .free:=by rw[<-ex];exact b1.2
      rcases l1 with⟨z,zz⟩|⟨z,c,e,zz⟩
      .exfalso;obtain⟨k2,z1,z2⟩:=lG (sc:=sc) (env:=X.env) (show(relabel sc X.env).names.lookup x=Vo .local from z);rw[P]at z1;rcases z2 with z2|⟨_,z2⟩
       .rw[z2]at z1;cases z1
       .cases z2
      .refine .inr ⟨z,c,e,?_⟩;have a8:X.env.cells.lookup x=Vo c:=by
        rcases jR I.ok hb (C:=C) e with e|⟨_,e⟩
        .exact e
        .rw[P]at e;cases e
       obtain⟨ov,oc,b2,c2⟩:=I.cell x c a8;have b3:=old c oc b2;obtain⟨oz,bn,bv⟩:=zz;have a3:B.get? c=Vo oz:=bn;rw[b3]at a3;cases a3;have cnf:c∉fp:=λz'=>(hfp c z').2.2.2.2.1 x c a8 rfl;obtain⟨sl,hh⟩:=y.base.any b2 (I.freeC x c a8) cnf;exact⟨_,hh,bv⟩
     .show(cG own.length js σ).length=_;exact J0.len
    .obtain⟨o,e,d⟩:=(T 0).obj _ _ a7 b f;exact(hpin b f o e).2
   cases ok with
   | false=>
    rw[M1 Ms]at q7 ⊢;exact back I7 rv hz q7
   | true=>
    rw[M3 rfl]at q7 ⊢;refine ax (he _ _ s7 a1 H7 _ I7 q7) λR s8 ⟨v,H8,I8,r8,q8⟩=>?_;have O:=I8.pin (D,eX l q) (MP _ (MQ _ (Mo.mpr rfl)));have a9:s8.heap.get? D=Vo { cls:=.type "list",data:=.seq l.toArray q }:=O.1;have hl:=rv.length;refine call_meets F.slot_list_append ⟨_,a9,rfl⟩ F.entry_list_append (F.args_list_append_2 _ _) (SH D l.toArray q R (by rw[Mi];omega)) ⟨a9,?_⟩;have qq:=SU a9 (λa=>a.push R);have eqs:l.toArray.push R=(l++[R]).toArray:=by simp
    rw[eqs]at qq;obtain⟨q2,bw⟩:∃q2,(s8.heap.update D (Ni λa=>a.push R)).get? D=Vo (eX (l++[R]) q2):=⟨_,qq⟩;have bx:Inv Y (iC fp s5.heap) a1 H8 s8:=I8.pins_of λp L=>I8.pin p (MP _ (MP _ L));have b4:H8 D=Vp:=O.2.1;have I9:Inv Y (iC fp s5.heap) a1 H8 { s8 with heap:=s8.heap.update D (Ni λa=>a.push R),toks:=s8.toks }:=by
     refine bx.turned (it:=D) (λb o f e=>(NB s8.heap (Ni λa=>a.push R) (NC f)).trans e) b4 a5 (.inr (show @LE.le Nat _ s.heap.objs.size D by omega)) (λx c e=>?_) λp L=>?_
     .rcases jR I.ok hb (C:=C) e with e|⟨e,_⟩
      .have h9:@LT.lt Nat _ c s.heap.objs.size:=I.cell_lt e;exact Mv (show @LT.lt Nat _ c D by omega)
      .exact NU (show @LT.lt Nat _ D c by omega)
     .have a6:p∈iC fp s5.heap:=by simpa[Y,cK]using L
      obtain⟨h1,_⟩:=vJ a6;exact λz=>ad (z ▸ h1)
    refine back (ys':=ys++[v]) (its':=l++[R]) (q':=q2) (I9.pins_of λp L=>?_) (rv.append (.cons r8 .nil)) (by rw[Mu,N5];omega) q8;rcases MA.mp L with L|L
    .have e:p=(D,eX (l++[R]) q2):=by simpa using L
     subst e;refine⟨bw,b4,a5,λz=>?_,λv z=>by cases z⟩;have h9:@LT.lt Nat _ D s.heap.objs.size:=I.stk_lt (b:=D) z;omega
    .exact I9.pin p (MP _ L)
 exact codeAny_compStart_list (loop _ rfl) ((T 0).self X.A 0 { s with heap:=B } _ _ am (loop _ rfl))
end
theorem vF:∀(names:List (Vn×NameKind)) (n:Nat) (acc:List (Vn×Vb)),(∀p∈names,p.2≠.cell)->cellsFrom n names acc=acc
 | [],_,_,_=>rfl
 | (y,k)::r,n,acc,h=>by unfold cellsFrom;rw[M1 (λz=>h _ Mj (by simpa using z))];exact vF r n acc λp a=>h p (Mg _ a)
def Jf(h:gZ sc out=true):eP sc out=true:=MJ.mpr λp a=>by have h1:=MJ.mp h p a;simp only[MM]at h1;have h2:(sc.names.lookup p.1 != Vo .cell)=true:=bne_iff_ne.mpr λe=>oG h (il e) rfl;simp only[MM,h1.1.2,h1.2,h2,RF,and_true];rw[h1.1.1];rfl
def JO(hb:gZ sc X.env.scope=true):cK X sc own js z=fj X sc own js z:=by have a:iA X sc z.C=cO sc.names X.env.cells:=vF _ _ _ λp b e=>oG hb (show(p.1,NameKind.cell)∈sc.names by rw[<-e];exact b) rfl;have c:(λx=>sc.names.lookup x == some NameKind.cell)=λ_=>false:=funext λx=>beq_eq_false_iff_ne.mpr λe=>oG hb (il e) rfl;unfold cK fj;rw[a,c]
def CP{RR:Va->Vb->Result->Vc->Prop}
  {Q:VK} {W:Nat->Nat->List V->Hp->Prop} (l:sc.kind=.function) (hb:gZ sc X.env.scope=true) (n:jl sc X.N js=true)
  (o:∀C,PG (fj X sc own js ⟨s,H,fp,C⟩) tg g) (q:∀C,iT (fj X sc own js ⟨s,H,fp,C⟩) ifs tc) (r:∀C,PE (fj X sc own js ⟨s,H,fp,C⟩) elt te)
  (I:Inv X pins σ H s) (T:∀C,TurnAt (fj X sc own js ⟨s,H,fp,C⟩) tg J fp it tn) (st:tn 0 s.heap) (hfp:∀b∈fp,cq X pins H b) (u:∃m,W 0 m [] H)
  (turn:∀i m ys H',W i m ys H'->(J.stop i H'/\∀p,H' p=Vp->Q (.ref p) (upd H' p (.lst ys))) ∨
   (J.go i H'/\ys.length<sizeLine/\∃N:List V->Hp->Prop,(∀c H2,N c H2->∃j,j<m/\W (i+1) j c H2)/\∀x H2,J.yld i H' x H2->g x (cG own.length js σ) H2 λd y=>tc d y λb k=>
    if b=true then te d k λv B=>N (ys++[v]) B else N ys k))
  (fin:∀D C s' ys H',H' D=Vp->Inv X pins σ (upd H' D (.lst ys)) s'->cq X pins (upd H' D (.lst ys)) C->(∃m,s'.heap.Ns C m)->s.heap.objs.size<=C->Q (.ref D) (upd H' D (.lst ys))->RR (.ref D) C (.ok .next) s') :
  Vf (Vg X.prog X.w) X.A (newList []) (λacc f=>Vf (Vg X.prog X.w) X.A (newFunctionEnv sc X.env.globals (cO sc.names X.env.cells) [] X.env.qual Vp .none (Vo X.env)) (λa h=>
   codeAny (Vg X.prog X.w) X.A (.compStart (.ListComp elt [⟨tg,iter,ifs,0⟩] sc pos) 0 (.ref it) acc { a with scope:=relabel sc X.env }) (RR acc a.locals) h) E f) E s:=by
 have e:=λC=>JO (own:=own) (js:=js) (z:=⟨s,H,fp,C⟩) hb;exact rY l (Jf hb) n (λC=>by rw[e];exact o C) (λC=>by rw[e];exact q C) (λC=>by rw[e];exact r C) I (λC=>by rw[e];exact T C) st hfp u turn fin
end
def fb{K:L8}{Q:VK}(Pv:Nat->List V->Hp->Prop)(s:xs.length<=sizeLine)(h:Pv 0 [] H)(j:∀i ys H,i<=xs.length->Pv i ys H->af K H a xs/\ys.length<=i)
  (hs:∀i x ys H,xs[i]?=Vo x->Pv i ys H->g x (cG n js σ) H λc k=>tc c k λb f=>if b=true then te c f λv l=>Pv (i+1) (ys++[v]) l else Pv (i+1) ys f)
  (hd:∀ys H p,Pv xs.length ys H->H p=Vp->Q (.ref p) (upd H p (.lst ys))):eW (cu K a) n js g tc te σ H Q:=by
 refine⟨λi m ys H=>m=xs.length-i/\i<=xs.length/\Pv i ys H,⟨xs.length,by simp,LI _,h⟩,?_⟩;rintro i m ys H ⟨rfl,hi,p⟩;have q:=j i ys H hi p;by_cases hlt:i<xs.length
 .refine .inr ⟨⟨xs,xs[i],q.1,by simp[hlt]⟩,by have:=q.2;omega,Pv (i+1),λo H' d=>⟨xs.length-(i+1),by omega,rfl,hlt,d⟩,λx H' y=>?_⟩;obtain⟨e,y⟩:=y;subst e;exact hs i x ys _ (y xs q.1) p
 .have e:i=xs.length:=by omega
  subst e;exact .inl ⟨⟨xs,q.1,Mw _⟩,λd r=>hd ys H d p r⟩
def iV{K:L8}{Q:VK}(Pv:Nat->List V->Hp->Prop)(s:xs.length<=sizeLine)(h:Pv 0 [] H)(j:∀i ys H,i<=xs.length->Pv i ys H->ak K H a xs/\ys.length<=i)
  (hs:∀i x ys H,xs[i]?=Vo x->Pv i ys H->g x (cG n js σ) H λc k=>tc c k λb f=>if b=true then te c f λv l=>Pv (i+1) (ys++[v]) l else Pv (i+1) ys f)
  (hd:∀ys H p,Pv xs.length ys H->H p=Vp->Q (.ref p) (upd H p (.lst ys))):eW (cU K a) n js g tc te σ H Q:=by
 refine⟨λi m ys H=>m=xs.length-i/\i<=xs.length/\Pv i ys H,⟨xs.length,by simp,LI _,h⟩,?_⟩;rintro i m ys H ⟨rfl,hi,p⟩;have q:=j i ys H hi p;by_cases hlt:i<xs.length
 .refine .inr ⟨⟨xs,xs[i],q.1,by simp[hlt]⟩,by have:=q.2;omega,Pv (i+1),λo H' d=>⟨xs.length-(i+1),by omega,rfl,hlt,d⟩,λx H' y=>?_⟩;obtain⟨e,y⟩:=y;subst e;exact hs i x ys _ (y xs q.1) p
 .have e:i=xs.length:=by omega
  subst e;exact .inl ⟨⟨xs,q.1,Mw _⟩,λd r=>hd ys H d p r⟩
def fS{lo:Int}{N:Nat}{Q:VK}(Pv:Nat->List V->Hp->Prop)(r:N<=sizeLine)(f:Pv 0 [] H)(h:∀i ys H,i<=N->Pv i ys H->ys.length<=i)
  (hs:∀i ys H,i<N->Pv i ys H->g (.int (lo+i)) (cG n js σ) H λa j=>tc a j λb d=>if b=true then te a d λv k=>Pv (i+1) (ys++[v]) k else Pv (i+1) ys d)
  (hd:∀ys H p,Pv N ys H->H p=Vp->Q (.ref p) (upd H p (.lst ys))):eW (eh lo N) n js g tc te σ H Q:=by
 refine⟨λi m ys H=>m=N-i/\i<=N/\Pv i ys H,⟨N,by simp,LI _,f⟩,?_⟩;rintro i m ys H ⟨rfl,hi,p⟩;have q:=h i ys H hi p;by_cases hlt:i<N
 .refine .inr ⟨hlt,by omega,Pv (i+1),λl H' c=>⟨N-(i+1),by omega,rfl,hlt,c⟩,λx H' y=>?_⟩;obtain⟨e,y⟩:=y;subst e y;exact hs i ys _ hlt p
 .have e:i=N:=by omega
  subst e;exact .inl ⟨Mw _,λc o=>hd ys H c p o⟩
structure Cal(P:Vd)(w:Ve)(K:L8)(mg:Vn->Option Va)(base:Vh)(x:Vn)(k:Nat)(ps:List Vn)(sp:Sp):Prop where
 ex:∃(f:Vb) (fd:Vm),mg x=Vo (.ref f)/\NJ K (.ref f)=true/\Binds K fd ps []/\FnOk P w K mg base cW k f fd ps sp
structure Dfn(K:L8)(mg:Vn->Option Va)(x:Vn)(st:Vl)(ps:List Vn):Prop where
 ex:∃(f:Vb) (fd:Vm),mg x=Vo (.ref f)/\Fun K x x st f fd/\Binds K fd ps []
section
variable {P:Vd} {w:Ve} {K:L8} {mg:Vn->Option Va} {base:Vh}
theorem Dfn.ok{x:Vn}{st:Vl}{N ps:List Vn}{k:Nat}{sp:Sp}(D:Dfn K mg x st ps)(S:FnScope N ps (aW st))(len:∀vs H Q E,sp vs H Q E->vs.length=ps.length)
  (a:∀(X:Cx) (d:∃f cdv A outer s H E,X=(aU cW P w K mg base N x (aW st) f cdv A outer s H E).nox/\Room k X.A) (H:Hp) (vs:List V) (Q:VK) (E:XK),sp vs H Q E ->
   ∃t,cD X (cB st) t/\t { nx:=λ_ H'=>Q .non H',rt:=Q } (start N vs) H):Cal P w K mg base x (k+1) ps sp:=by
 obtain⟨f,fd,b,F,hb⟩:=D.ex;exact⟨f,fd,b,F.kp,hb,F.ok S len λcdv A outer s H vs Q E c h=>a _ ⟨f,cdv,A,outer,s,H,E,rfl,c⟩ H vs Q E h⟩
end
section
variable {X:Cx}
def av{x:Vn}{k j:Nat}{e:Vk}{es:List Vk}{t:TA}{p pos:Pos}(C:Cal X.prog X.w X.K X.mg X.base x j ps sp)(d:Room k X.A)(ha:PA X (e::es) t)(a:j<=k:=by decide)(g:Gl X x:=by rfl)(b:(x == ("__debug__":Vn))=false:=by decide)
  (h:starEach (e::es) X.env=(false,eval e X.env)::starEach es X.env:=by rfl) (c:(backTo pos (starEach es X.env)).any (·.1)=false:=by rfl) :
  PE X (.Call (.Name x p) (e::es) [] pos) (jk sp [] E0 t):=by
 obtain⟨f,fd,i,l,hb,F⟩:=C.ex;exact LD F (d.mono a) g i l hb .nil qE ha b h c
def F8:br X (binaryOp .FloorDiv) (rI (λ_ j=>0<j/\j<2 ^ 64) λi j=>.int (i / j)):=mF λi j _ _ _ _ _ b q=>by
 refine floordiv_int (by omega) (by rw[Int.fdiv_eq_ediv_of_nonneg i (by omega)];exact q) (.inl (PyProof.noPylong_of_log2 ?_));have c:j.natAbs≠0:=by omega
 have a:j.natAbs<2 ^ 64:=by omega
 have:=(Nat.log2_lt c).mpr a;omega
def iQ(H:Hp):V->String->Prop
 | .non,n=>n = "NoneType"
 | .bl _,n=>n = "bool"
 | .int _,n=>n = "int"
 | .str _,n=>n = "str"
 | .ref a,n=>(n = "list"/\∃xs,H a=Vo (.lst xs))\/(n = "tuple"/\∃xs,H a=Vo (.tup xs))
 | _,_=>False
def iQ.ty{K:L8}{n:String}(h:iQ H x n):TyOf K H x (.type n):=by
 cases x with
 | non=>cases(h);exact .non
 | bl b=>cases(h);exact .bl b
 | int i=>cases(h);exact .int i
 | str z=>cases(h);exact .str z
 | ref a=>
  rcases h with⟨rfl,xs,e⟩|⟨rfl,xs,e⟩
  .exact .lst e
  .exact .tup e
 | _=>exact M7 h
def jh(a b c d e:Bool):String->Option Bool
 | "tuple"=>Vo a|"int"=>Vo b|"bool"=>Vo c|"list"=>Vo d|"str"=>Vo e|_=>Vp
def jL:String->String->Option Bool
 | "NoneType"=>jh false false false false false
 | "bool"=>jh false true true false false
 | "int"=>jh false true false false false
 | "str"=>jh false false false false true
 | "list"=>jh false false false true false
 | "tuple"=>jh true false false false false
 | _=>λ_=>Vp
def Fc{K:L8}{n:String}(h:jL n T=Vo b):NX K (.type n) (.type T)=Vo b:=by
 unfold jL at h;split at h<;>first
  | (unfold jh at h;split at h<;>first|(cases h;kernel_rfl)|cases h)
  | cases h
def yr:List V->Hp->VK->Prop:=λxs H Q=>∃x n T b,xs=[x,.ty T]/\iQ H x n/\jL n T=Vo b/\Q (.bl b) H
def f9:cb X (.builtin "isinstance") yr:=by intro pins s σ H xs us Q I r h;obtain⟨x,n,T,b,rfl,a,hb,q⟩:=h;obtain⟨u,c,rfl,r1,d⟩:=vals2 r;cases(d);exact Dy I r1 a.ty (Fc hb) λtk=>⟨.bl b,H,I.tok tk,rfl,q⟩
def ib(lo c:Int)(n:Nat):It:=⟨λi _=>i<n,λi H x H'=>H'=H/\x=.int (lo+i*c),λi _=>n<=i⟩
def Df{K:L8}(it)(lo c)(n):Turn P w K tg (ib lo c n) [it] it (λi h=>IsRangeIter h it (lo+(i:Nat)*c) ((n:Int)-(i:Nat)) c) where
 mem:=by simp
 obj:=λi h st b hb=>by
  have e:b=it:=by simpa using hb
  subst e;exact⟨_,st,λv z=>by have y:=z;cases y⟩
 keep:=λi h h' st k=>k it (by simp) _ st
 item:=by intro X f g j l i pins s σ H E I d st m;subst f g j;obtain⟨p,q,A,r,u,x⟩:=d it (by simp);have W:=Walks.range (prog:=X.prog) (w:=X.w) (I.ok.hd l) it lo c n;refine W.item i s _ _ m st λv h' tk hv a kk=>?_;obtain⟨t,rfl⟩:=hv;have B:Inv X pins σ H { s with heap:=h',toks:=tk }:=I.turned (λb o hb e=>kk b o (by simpa using hb) e) p q r u x;exact⟨_,rfl,iR a rfl rfl (by decide) ⟨.int (lo+i*c),H,B,⟨t,rfl⟩,⟨rfl,rfl⟩,a,λb hb=>(d b hb).1⟩⟩
 done:=by intro X f g j l i pins s σ H E I d st m;obtain⟨p,q,A,r,u,x⟩:=d it (by simp);exact wpAny_pyNext_range_end (I.ok.hd l) st (by have:n<=i:=m;omega) λh' C=>⟨rfl,I.turned (λb o hb e=>C b o hb e) p q r u x⟩
 self:=λ_ _ _ _ _ st h=>wpAny_pyIter_rangeiter st h
def jZ(i j c:Int):Prop:=(-(2 ^ 40)<=i/\i<2 ^ 40)/\(-(2 ^ 40)<=j/\j<2 ^ 40)/\(-(2 ^ 29)<c/\c<2 ^ 29)/\c≠0
def gG(i j c:Int):Nat:=if 0<c then(if i<j then((j-i-1) / c+1).toNat else 0)else(if j<i then((i-j-1) / (-c)+1).toNat else 0)
def Dv(i j c)(a:c≠0):NW i j c=(gG i j c:Nat):=by
 unfold NW gG;by_cases h:0<c
 .rw[M3 h,M3 h];by_cases h2:i<j
  .rw[M3 h2,M3 h2];have:0<=(j-i-1) / c:=QK (by omega) (by omega);omega
  .rw[M1 h2,M1 h2];rfl
 .rw[M1 h,M1 h];by_cases h2:j<i
  .rw[M3 (show i>j from h2),M3 h2];have:0<=(i-j-1) / (-c):=QK (by omega) (by omega);omega
  .rw[M1 (show ¬i>j from h2),M1 h2];rfl
def KG{i j c:Int}(h:jZ i j c):Ro i j c=true:=by
 obtain⟨⟨h1,h2⟩,⟨e,g⟩,⟨k,l⟩,m⟩:=h;have hb:NW i j c<=2 ^ 42/\0<=NW i j c:=by
  unfold NW;by_cases a:c>0
  .by_cases h':i<j
   .have b:(j-i-1) / c<=j-i-1:=Int.ediv_le_self _ (by omega);have d:0<=(j-i-1) / c:=QK (by omega) (by omega);omega
   .omega
  .by_cases h':i>j
   .have b:(i-j-1) / (-c)<=i-j-1:=Int.ediv_le_self _ (by omega);have d:0<=(i-j-1) / (-c):=QK (by omega) (by omega);omega
   .omega
 unfold Ro;generalize NW i j c=z at hb ⊢;have f:∀x:Int,-(2 ^ 62)<=x->x<2 ^ 62->QW x=true:=λx h1 h2=>by unfold QW;rw[M0 (show -(2 ^ 63)<=x by omega),M0 (show x<2 ^ 63 by omega)];rfl
 rw[f i (by omega) (by omega),f j (by omega) (by omega),f c (by omega) (by omega),f z (by omega) (by omega)];by_cases a:c>0
 .rw[M3 a,f (j+(c-1)) (by omega) (by omega),RF];rfl
 .rw[M1 a,f (j+(c+1)) (by omega) (by omega),RF];rfl
def vL(ta:TA):TI:=λσ H R=>ta σ H λvs H1=>∃i j c:Int,vs=[.int i,.int j,.int c]/\jZ i j c/\R (ib i c (gG i j c)) H1
def Gh{tg a b c:Vk}{ta:TA}{p pos:Pos}(u:Gl X "range")(v:X.mg "range" = Vp)(ha:PA X [a,b,c] ta)(hs:starEach [a,b,c] X.env=[(false,eval a X.env),(false,eval b X.env),(false,eval c X.env)]:=by rfl)
  (f:starEach [b,c] X.env=[(false,eval b X.env),(false,eval c X.env)]:=by rfl) :
  PI X tg (.Call (.Name "range" p) [a,b,c] [] pos) (vL ta):=by
 intro pins s σ H R I h;refine Call_ (eL I u v boot_range (NF (ax (ha pos pins s σ H _ I h) λus s1 ⟨vs,H1,w,r1,x⟩=>?_) (by rw[hs,f]) (by rw[f];rfl)));obtain⟨i,j,c,e,d,q⟩:=x;subst e;cases r1 with
 | cons r g=>
  cases g with
  | cons y g=>
   cases g with
   | cons k g=>
    cases g;obtain⟨t,rfl⟩:=r;obtain⟨t',rfl⟩:=y;obtain⟨l,rfl⟩:=k;have n:c≠0:=d.2.2.2;have z:c.natAbs<1073741824:=by have:=d.2.2.1;omega
    refine call_range_3 n ?_ (.inl (PyProof.noPylong_small z));refine wpAny_pyIter_range (IsRange.new ..) (KG d) ?_;have m:Inv X pins σ H1 { s1 with heap:=s1.heap.push { cls:=.type "range",data:=.fields #[.int i t,.int j t',.int c l] },toks:=s1.toks }:=w.kept λb o e=>L9 _ e;refine⟨_,[_],_,_,H1,rfl,m.kept λb o e=>L9 _ e,Df _ i c (gG i j c),?_,λb hb=>?_,q⟩
    .rw[show i+((0:Nat):Int)*c=i by simp,show ((gG i j c:Nat):Int)-((0:Nat):Int)=NW i j c by rw[Dv i j c n];simp];exact Ma _ rfl
    .have e:=Mo.mp hb;subst e;exact m.fpOk (Mw _) (m.hok.fresh (Mw _))
def Eo{lo c:Int}{D:Ends}(Pv:Nat->St->Hp->Prop)(f:Pv 0 σ H)
  (hs:∀i σ H,i<n->Pv i σ H->g (.int (lo+i*c)) σ H λa H2=>tb { D with nx:=Pv (i+1),ct:=Pv (i+1),bk:=D.nx } a H2) (hd:∀σ H,Pv n σ H->D.nx σ H) :
  ∃W:Nat->Nat->St->Hp->Prop,(∃m,W 0 m σ H)/\∀i m σ H,W i m σ H ->
   ((ib lo c n).stop i H/\D.nx σ H)\/((ib lo c n).go i H/\∃N,(∀b H',N b H'->∃d,d<m/\W (i+1) d b H')/\∀x H',(ib lo c n).yld i H x H'->g x σ H' λa H2=>tb { D with nx:=N,ct:=N,bk:=D.nx } a H2):=by
 refine⟨λi m σ H=>m=n-i/\i<=n/\Pv i σ H,⟨n,by simp,LI _,f⟩,?_⟩;rintro i m σ H ⟨rfl,hi,p⟩;by_cases hlt:i<n
 .refine .inr ⟨hlt,Pv (i+1),λb H' h=>⟨n-(i+1),by omega,rfl,hlt,h⟩,λx H' y=>?_⟩;obtain⟨e,y⟩:=y;subst e y;exact hs i σ _ hlt p
 .have e:i=n:=by omega
  subst e;exact .inl ⟨Mw _,hd σ H p⟩
def wo(K:L8):List V->Hp->VK->Prop:=λxs H Q=>∃(p:Vb) (ns:List Int),xs=[.ref p]/\af K H p (ns.map V.int)/\0<ns.length/\∀M,M∈ns->(∀a,a∈ns->a<=M)->Q (.int M) H
def DX(j:X.calm=true):cb X (.builtin "max") (wo X.K):=by
 intro pins s σ H xs us Q I r h;obtain⟨p,ns,rfl,l,x,q⟩:=h;obtain⟨u,rfl,m⟩:=vals1 r;cases m;obtain⟨c,n,pl,d⟩:=I.list l;have i1:IntsAre c ns:=intsAre_of n;obtain⟨a,g⟩:=i1.allInts.items;have e:ns=a.toList.map (·.1):=(i1.numsOf.symm.trans (by rw[<-g])).trans (nums_intItems a);have f:a.toList.length=a.size:=Mh;have ln:ns.length=a.size:=by rw[e,Mc,f]
 have o:s.heap.IsList p (intItems a):=g ▸ pl.isList;refine max_intList (I.ok.hd j) o (by omega) λbest h' tk b kept=>?_;obtain⟨tok,hv⟩:=intItems_at b;subst hv;have am:=argBest_gt (numAt a) (a.size-1);refine⟨.int _,H,I.kept kept,⟨tok,rfl⟩,q _ ?_ λz d=>?_⟩
 .rw[e];rw[numAt_eq];exact getD_mem (by rw[Mc,f];omega)
 .rw[e]at d;obtain⟨k,i,v⟩:=mem_getD d;subst v;have w:k<a.size:=by rw[Mc,f]at i;exact i
  have:=am.2 k (by omega);rw[numAt_eq]at this;exact this
def nJ(K:L8):List V->Hp->VK->Prop:=λxs H Q=>∃p ys,xs=[.ref p]/\(af K H p ys\/ak K H p ys)/\Q (.int ys.length) H
def He:cb X (.builtin "len") (nJ X.K):=Fu
def oE(K:L8):List V->Hp->VK->Prop:=λxs H Q=>∃p ys,xs=[.ref p]/\((af K H p ys/\∀l,H l=Vp->Q (.ref l) (upd H l (.tup ys)))\/(ak K H p ys/\Q (.ref p) H))
def JR:cb X (.type "tuple") (oE X.K):=GS
def vR:List V->Hp->VK->Prop:=λxs H Q=>∃i j,xs=[.int i,.int j]/\Q (.int (if j>i then j else i)) H
def tW(a:X.calm=true):cb X (.builtin "max") vR:=LJ a
def sO:List V->Hp->VK->Prop:=λxs H Q=>∃i j,xs=[.int i,.int j]/\Q (.int (if j<i then j else i)) H
def K1(a:X.calm=true):cb X (.builtin "min") sO:=Kj a
end
def Ext(H H':Hp):Prop:=∀b o,H b=Vo o->H' b=Vo o
def Ext.rfl'(H):Ext H H:=λ_ _ h=>h
def Ext.trans(a:Ext H H1)(b:Ext H1 H2):Ext H H2:=λx o h=>b x o (a x o h)
theorem Ext.none{H H':Hp}(e:Ext H H'){l:Vb}(h:H' l=Option.none):H l=Option.none:=by
 cases q:H l with
 | none=>rfl
 | some o=>rw[e l o q]at h;cases h
section
variable {X:Cx} (K:L8)
def aF(h:X.K=K:=by rfl):jQ X (oW K):=by subst h;exact Lf
def aA(h:X.K=K:=by rfl):jQ X (qG K):=by subst h;exact JY
def gn(h:X.K=K:=by rfl):jj X (pf K):=by subst h;exact EJ
def oC(h:X.K=K:=by rfl):br X (compareOp .In) (qX K false):=by subst h;exact Dd
def cw(h:X.K=K:=by rfl):cb X (.builtin "len") (nJ K):=by subst h;exact He
def jN(h:X.K=K:=by rfl):cb X (.type "tuple") (oE K):=by subst h;exact JR
def HY(a:X.calm=true)(h:X.K=K:=by rfl):cb X (.builtin "max") (wo K):=by subst h;exact DX a
def bG{l:Vk}(a:PE X l tl)(h:X.K=K:=by rfl):PI X tg l (lA K tl):=by subst h;exact Iv a
def fY{l:Vk}(a:PE X l tl)(h:X.K=K:=by rfl):PI X tg l (oI K tl):=by subst h;exact DU a
def eZ{es:List Vk}{k:Nat}{t:fw}{pos:Pos}(a:X.calm=true)(b:jC X es t)(h:X.K=K:=by rfl)
  (c:(assignEach es X.env).length=n:=by rfl) (hst:(assignEach es X.env).findIdx? (·.1)=Vp:=by rfl):PG X (.Tuple es k pos) (lZ K n t):=by subst h;exact K2 a b c hst
def cx{o e:Vk}{es:List Vk}{t:TA}{name:Vn}{apos cpos:Pos}{id:String}(g:PlainAttrs T)(slot:Slot T name id)(f:typeOf (.builtin id)=pure (.type "method_descriptor"))(i:i8 X id r)(ho:PE X o to)(ha:PA X (e::es) t)(h:X.K=K:=by rfl)
  (b:attributeBase o name X.env (eval o X.env)=eval o X.env:=by rfl)
  (d:((backTo cpos (starEach (e::es) X.env)).all (λx=>!x.1) && (backToKw cpos (keywordEach [] X.env)).all (λx=>x.1.isSome)
   && decide ((e::es).length+([]:List Keyword).length+(if([]:List Keyword).isEmpty then 0 else 1)<30))=true:=by rfl)
  (c:(apos.endLine == cpos.line)=true:=by rfl) (hs:starEach (e::es) X.env=(false,eval e X.env)::starEach es X.env:=by rfl) (a:(backTo cpos (starEach es X.env)).any (·.1)=false:=by rfl) :
  PE X (.Call (.Attribute o name apos) (e::es) [] cpos) (pC K T r to t):=by subst h;exact Ju g slot f i ho ha b d c hs a
def xE(K:L8)(ta:TE):TT:=λσ H Q=>ta σ H λx H'=>∃k,mr K x H' k/\Q k H'
def jt{a:Vk}{ta:TE}(ha:PE X a ta)(b:∀whole,isTrue a X.env whole=(do let v <-whole;standAt a.pos;holding [v] (truthy v)))(h:X.K=K:=by rfl):PT X a (xE K ta):=by subst h;exact Lw ha b
end
def zH(ns:List Int):TA:=λ_ H Q=>Q (ns.map V.int) H
inductive IntsE:List Vk->List Int->Prop
 | n:IntsE [] []
 | c {i j pos es ns}:IntsE es ns->IntsE (.Constant (.int i) j pos::es) (i::ns)
def yF(h:IntsE es ns):PA X es (zH ns):=by
 induction h with
 | n=>exact ae
 | @c i j pos es ns _ a=>
  intro p pins s σ H Q I b;exact aa ag a rfl p pins s σ H Q I b
def rd_ints{R:List V->Hp->Prop}(h:R (ns.map V.int) H):zH ns σ H R:=h
def pT(c:TT)(t u:TS):TS:=λD σ H=>∃R:St->Hp->Prop,(c σ H λb H1=>if b=true then t { D with nx:=R } σ H1 else u { D with nx:=R } σ H1)/\∀a H',R a H'->D.nx a H'
def fq{c:Vk}{a b:List Vl}{t u:TS}(e:PT X c tc)(ha:cD X a t)(hb:cD X b u):PS X (.If c a b pos) (pT tc t u):=by
 intro pins s σ H D I h;obtain⟨R,h,g⟩:=h;refine ax (ba e ha hb pins s σ H { D with nx:=R } I h) λf s1 q=>?_;cases f with
 | next=>
  obtain⟨d,H',i,q⟩:=q;exact⟨d,H',i,g d H' q⟩
 | ret v=>exact q
 | brk=>exact q
 | cont=>exact q
def zQ(K:L8):V->Hp->(It->Hp->Prop)->Prop:=λx H R=>∃a,x=.ref a/\(∃xs,af K H a xs)/\R (cu K a) H
def ui(K:L8):V->Hp->(It->Hp->Prop)->Prop:=λx H R=>∃a,x=.ref a/\(∃xs,ak K H a xs)/\R (cU K a) H
def Ac:List V->Hp->(It->Hp->Prop)->Prop:=λvs H R=>∃j:Int,vs=[.int j]/\-(2 ^ 62)<=j/\j<2 ^ 62/\R (eh 0 j.toNat) H
def tG:List V->Hp->(It->Hp->Prop)->Prop:=λvs H R=>∃i j:Int,vs=[.int i,.int j]/\(-(2 ^ 62)<=i/\i<2 ^ 62/\-(2 ^ 62)<=j/\j<2 ^ 62)/\R (eh i (j-i).toNat) H
def vi:List V->Hp->(It->Hp->Prop)->Prop:=λvs H R=>∃i j c:Int,vs=[.int i,.int j,.int c]/\jZ i j c/\R (ib i c (gG i j c)) H
def hZ(J:It)(g:TG)(tb:TS)(D:Ends)(σ:St)(H:Hp):Prop:=∃W:Nat->Nat->St->Hp->Prop,(∃m,W 0 m σ H)/\∀i m σ H,W i m σ H ->
 (J.stop i H/\D.nx σ H)\/(J.go i H/\∃N:St->Hp->Prop,(∀a H',N a H'->∃c,c<m/\W (i+1) c a H')/\∀x H',J.yld i H x H'->g x σ H' λb H2=>tb { D with nx:=N,ct:=N,bk:=D.nx } b H2)
def forL{K:L8}(Pv:Nat->St->Hp->Prop)(c:Pv 0 σ H)(d:∀i σ H,i<=xs.length->Pv i σ H->af K H a xs)
  (hs:∀i x σ H,xs[i]?=Vo x->Pv i σ H->g x σ H λb H2=>tb ⟨Pv (i+1),D.rt,D.nx,Pv (i+1)⟩ b H2) (hd:∀σ H,Pv xs.length σ H->D.nx σ H):hZ (cu K a) g tb D σ H:=Gw Pv c d hs hd
def rT{K:L8}(Pv:Nat->St->Hp->Prop)(c:Pv 0 σ H)(d:∀i σ H,i<=xs.length->Pv i σ H->ak K H a xs)
  (hs:∀i x σ H,xs[i]?=Vo x->Pv i σ H->g x σ H λb H2=>tb ⟨Pv (i+1),D.rt,D.nx,Pv (i+1)⟩ b H2) (hd:∀σ H,Pv xs.length σ H->D.nx σ H):hZ (cU K a) g tb D σ H:=IU Pv c d hs hd
def forR{lo:Int}(Pv:Nat->St->Hp->Prop)(b:Pv 0 σ H)
  (hs:∀i σ H,i<n->Pv i σ H->g (.int (lo+i)) σ H λa H2=>tb ⟨Pv (i+1),D.rt,D.nx,Pv (i+1)⟩ a H2) (hd:∀σ H,Pv n σ H->D.nx σ H):hZ (eh lo n) g tb D σ H:=HJ Pv b hs hd
def Gf{lo c:Int}(Pv:Nat->St->Hp->Prop)(b:Pv 0 σ H)
  (hs:∀i σ H,i<n->Pv i σ H->g (.int (lo+i*c)) σ H λa H2=>tb ⟨Pv (i+1),D.rt,D.nx,Pv (i+1)⟩ a H2) (hd:∀σ H,Pv n σ H->D.nx σ H):hZ (ib lo c n) g tb D σ H:=Eo Pv b hs hd
def fm(H:Hp)(o:HO)(R:VK):Prop:=∀p,H p=Vp->R (.ref p) (upd H p o)
section
variable {K:L8} {D:Ends} {σ:St} {H:Hp} {Q:VK} {ta tb tc te:TE} {t u:TS} {c c':TT}
def rd_seq(h:t ⟨u D,D.rt,D.bk,D.ct⟩ σ H):yB t u D σ H:=h
def rd_next(h:D.nx σ H):xc D σ H:=h
def rd_ret(h:te σ H D.rt):AU te D σ H:=h
def rd_asg(h:te σ H λx H1=>g x σ H1 D.nx):mX te g D σ H:=h
def rd_drop(h:te σ H λ_ H1=>D.nx σ H1):vp te D σ H:=h
def rd_ifS(h:c σ H λb H1=>if b=true then t D σ H1 else u D σ H1):tw c t u D σ H:=h
def mL(R)(h:c σ H λb H1=>if b=true then t ⟨R,D.rt,D.bk,D.ct⟩ σ H1 else u ⟨R,D.rt,D.bk,D.ct⟩ σ H1)(k:∀a H',R a H'->D.nx a H'):pT c t u D σ H:=⟨R,h,k⟩
def mG(h:c σ H λb H1=>if b=true then t D σ H1 else u D σ H1):pT c t u D σ H:=⟨D.nx,h,λ_ _ h=>h⟩
def rd_name{R:St->Hp->Prop}(h:R (σ.set i (Vo v)) H):jr i v σ H R:=h
def rd_var(e:σ[i]?=Vo (Vo v))(h:Q v H):qJ i σ H Q:=⟨v,e,h⟩
def rd_c(h:Q v H):tC v σ H Q:=h
def rd_op{r:R2}(h:ta σ H λx H1=>tb σ H1 λy H2=>r x y H2 Q):jx r ta tb σ H Q:=h
def rd_un{r:V->Hp->VK->Prop}(h:ta σ H λx H1=>r x H1 Q):zi r ta σ H Q:=h
def rd_CB{r:List V->Hp->VK->Prop}{a:TA}(h:a σ H λvs H1=>r vs H1 Q):mV r a σ H Q:=h
def rd_cons{a:TA}{R:List V->Hp->Prop}(h:ta σ H λx H1=>a σ H1 λxs H2=>R (x::xs) H2):ly ta a σ H R:=h
def rd_nil{R:List V->Hp->Prop}(h:R [] H):fR σ H R:=h
def rd_test{R:Bool->Hp->Prop}(h:te σ H λx H'=>∃k,x=.bl k/\R k H'):BI te σ H R:=h
def rd_B{R:Bool->Hp->Prop}(h:te σ H λx H'=>∃k,x=.bl k/\R k H'):tB te σ H R:=h
def rd_exb{R:Bool->Prop}(h:R b):∃k,V.bl b=V.bl k/\R k:=⟨b,rfl,h⟩
def rd_not{R:Bool->Hp->Prop}(h:c σ H λb H1=>R (!b) H1):zp c σ H R:=h
def rd_and{R:Bool->Hp->Prop}(h:c σ H λb H1=>if b=true then c' σ H1 R else R false H1):Ax c c' σ H R:=h
def rd_or{R:Bool->Hp->Prop}(h:c σ H λb H1=>if b=true then R true H1 else c' σ H1 R):yo c c' σ H R:=h
def rd_andV(h:ta σ H λx H1=>∃k,x=.bl k/\if k=true then tb σ H1 Q else Q (.bl false) H1):yi ta tb σ H Q:=h
def rd_orV(h:ta σ H λx H1=>∃k,x=.bl k/\if k=true then Q (.bl true) H1 else tb σ H1 Q):xC ta tb σ H Q:=h
def rd_notV(h:ta σ H λx H1=>∃k,x=.bl k/\Q (.bl (!k)) H1):xj ta σ H Q:=h
def rd_ifE(h:c σ H λb H1=>if b=true then ta σ H1 Q else tb σ H1 Q):wa c ta tb σ H Q:=h
def rd_yes{R:Bool->Hp->Prop}(h:R true H):vv σ H R:=h
def rd_I0{g:Int->Int->V}(h:Q (g i j) H):fN g (.int i) (.int j) H Q:=⟨i,j,rfl,rfl,h⟩
def rd_I{C:Int->Int->Prop}{g:Int->Int->V}(a:C i j)(h:Q (g i j) H):rI C g (.int i) (.int j) H Q:=⟨i,j,rfl,rfl,a,h⟩
def rd_U{g:Int->V}(h:Q (g i) H):rU g (.int i) H Q:=⟨i,rfl,h⟩
def rd_EqI(h:Q (.bl (decide (i=j))) H):lD (.int i) (.int j) H Q:=⟨rfl,by
 simp
 exact h⟩
def rd_NeI(h:Q (.bl (!decide (i=j))) H):rN (.int i) (.int j) H Q:=⟨rfl,by
 simp
 exact h⟩
def rd_EqB(h:Q (.bl (i == j)) H):lD (.bl i) (.bl j) H Q:=⟨rfl,by rw[p7];exact h⟩
def aH{p:Vb}(e:af K H p xs)(a:di xs i=Vo v)(h:Q v H):oW K (.ref p) (.int i) H Q:=⟨p,xs,i,v,rfl,rfl,e,a,h⟩
def aG{p:Vb}(e:ak K H p xs)(a:di xs i=Vo v)(h:Q v H):qG K (.ref p) (.int i) H Q:=⟨p,xs,i,v,rfl,rfl,e,a,h⟩
def dn{p:Vb}(e:af K H p xs)(h:Q (.int xs.length) H):nJ K [.ref p] H Q:=⟨p,xs,rfl,.inl e,h⟩
def i7{p:Vb}(e:ak K H p xs)(h:Q (.int xs.length) H):nJ K [.ref p] H Q:=⟨p,xs,rfl,.inr e,h⟩
def jv{p:Vb}(e:af K H p xs)(h:fm H (.tup xs) Q):oE K [.ref p] H Q:=⟨p,xs,rfl,.inl ⟨e,h⟩⟩
def gg{n:String}(a:iQ H x n)(hb:jL n T=Vo b)(h:Q (.bl b) H):yr [x,.ty T] H Q:=⟨x,n,T,b,rfl,a,hb,h⟩
def rd_max2(h:Q (.int (if j>i then j else i)) H):vR [.int i,.int j] H Q:=⟨i,j,rfl,h⟩
def rd_min2(h:Q (.int (if j<i then j else i)) H):sO [.int i,.int j] H Q:=⟨i,j,rfl,h⟩
def rd_call{a:TA}{E:XK}(h:a σ H λvs H1=>sp (vs++[]) H1 Q E):jk sp [] E a σ H Q:=h
def rd_BM{a:TA}(h:te σ H λx H1=>jD K T x H1/\a σ H1 λxs H2=>r x xs H2 Q):pC K T r te a σ H Q:=h
def rd_tup{a:TA}(h:a σ H λxs H1=>xs.length<=sizeLine/\fm H1 (.tup xs) Q):qg a σ H Q:=h
def rd_lst{a:TA}(h:a σ H λxs H1=>xs.length<=sizeLine/\fm H1 (.lst xs) Q):wk a σ H Q:=h
def rd_sl{r:V->Option Int->Option Int->Hp->VK->Prop}{tl th:TO}(h:te σ H λx H1=>tl σ H1 λl H2=>th σ H2 λv a=>r x l v a Q):yj r te tl th σ H Q:=h
def rd_noPart{R:Option Int->Hp->Prop}(h:R Vp H):A7 σ H R:=h
def rd_part{R:Option Int->Hp->Prop}(h:te σ H λx H1=>∃i,x=.int i/\R (Vo i) H1):yp te σ H R:=h
def rd_exi{R:Int->Prop}(h:R i):∃k,V.int i=V.int k/\R k:=⟨i,rfl,h⟩
def rd_chain{r a:R2}(h:ta σ H λx H1=>tb σ H1 λy H2=>r x y H2 λz b=>∃k,z=.bl k/\(if k=true then tc σ b λc d=>a y c d Q else Q (.bl false) b)):AA r a ta tb tc σ H Q:=h
def rd_comp{a:TI}(h:a σ H λJ H1=>eW J n js g c te σ H1 Q):lO n js a g c te σ H Q:=h
def rd_iL(h:te σ H λx H1=>zQ K x H1 R):lA K te σ H R:=h
def rd_iT(h:te σ H λx H1=>ui K x H1 R):oI K te σ H R:=h
def bI{p:Vb}(e:af K H p xs)(h:R (cu K p) H):zQ K (.ref p) H R:=⟨p,rfl,⟨xs,e⟩,h⟩
def fW{p:Vb}(e:ak K H p xs)(h:R (cU K p) H):ui K (.ref p) H R:=⟨p,rfl,⟨xs,e⟩,h⟩
def rd_i1{a:TA}(h:a σ H λvs H1=>Ac vs H1 R):uv a σ H R:=h
def dM(h1:-(2 ^ 62)<=j/\j<2 ^ 62)(h:R (eh 0 j.toNat) H):Ac [.int j] H R:=⟨j,rfl,h1.1,h1.2,h⟩
def rd_i2{a:TA}(h:a σ H λvs H1=>tG vs H1 R):yP a σ H R:=h
def xg(h1:-(2 ^ 62)<=i/\i<2 ^ 62/\-(2 ^ 62)<=j/\j<2 ^ 62)(h:R (eh i (j-i).toNat) H):tG [.int i,.int j] H R:=⟨i,j,rfl,h1,h⟩
def rd_i3{a:TA}(h:a σ H λvs H1=>vi vs H1 R):vL a σ H R:=h
def CL{i j c:Int}(h1:jZ i j c)(h:R (ib i c (gG i j c)) H):vi [.int i,.int j,.int c] H R:=⟨i,j,c,rfl,h1,h⟩
def rd_for{a:TI}(h:a σ H λJ H1=>hZ J g t D σ H1):sT a g t D σ H:=h
def iU{l:Vb}(e:H l=Vo (.lst xs))(a:xs.length<sizeLine)(h:Q .non (upd H l (.lst (xs++[y])))):zx (.ref l) [y] H Q:=⟨l,xs,y,rfl,rfl,e,a,h⟩
def dR{p:Vb}(e:af K H p xs):jD K "list" (.ref p) H:=.inl ⟨rfl,xs,e⟩
def rd_sub{a:TE}{w:lB}{R:St->Hp->Prop}(h:to σ H λo H1=>a σ H1 λi H2=>w o i v H2 λb=>R σ b):AQ to a w v σ H R:=h
def Bo{p:Vb}{R:Hp->Prop}(e:H p=Vo (.lst xs))(a:fI xs.length k=Vo j)(h:R (upd H p (.lst (xs.set j v)))):uI (.ref p) (.int k) v H R:=⟨p,xs,k,j,rfl,rfl,e,a,h⟩
def gL{g:fw}{R:St->Hp->Prop}(e:ak K H a xs)(b:xs.length=n)(h:g xs σ H R):lZ K n g (.ref a) σ H R:=⟨a,xs,rfl,e,b,h⟩
def rd_gcons{r:List V}{R:St->Hp->Prop}(h:g v σ H λa H'=>b r a H' R):yO g b (v::r) σ H R:=⟨v,r,rfl,h⟩
def rd_gnil{R:St->Hp->Prop}(h:R σ H):ua [] σ H R:=⟨rfl,h⟩
def dm{l b:Vb}(a:H l=Vo (.lst xs))(c:H b=Vo (.lst zs))(d:xs.length+zs.length<=sizeLine)(h:fm H (.lst (xs++zs)) Q):rW (.ref l) (.ref b) H Q:=⟨l,b,xs,zs,rfl,rfl,a,c,d,h⟩
def rm{l:Vb}(e:H l=Vo (.lst xs))(b:0<=k/\k<10 ^ 6)(a:xs.length*k.toNat<=sizeLine)(h:fm H (.lst (MR k.toNat xs).flatten) Q):vI (.ref l) (.int k) H Q:=
 ⟨l,k,xs,rfl,rfl,e,by omega,by omega,a,h⟩
def gX(e:af K H a xs)(h:fm H (.lst (cn xs lo hi)) Q):pf K (.ref a) lo hi H Q:=⟨a,xs,rfl,e,h⟩
def rS{p:Vb}(e:af K H p xs\/ak K H p xs)(f:fJ x=true)(fs:xs.all fJ=true)(h:Q (.bl (if neg then !jW x xs else jW x xs)) H):qX K neg x (.ref p) H Q:=⟨p,xs,rfl,e,f,fs,h⟩
def rd_tTru{R:Bool->Hp->Prop}(h:te σ H λx H'=>∃k,mr K x H' k/\R k H'):xE K te σ H R:=h
def bu{o:HO}{R:VK}(h:∀p H',Ext H H'->H' p=Vo o->H p=Vp->R (.ref p) H'):fm H o R:=λp a=>
 h p _ (λb u e=>by rw[aq (cC e a)];exact e) ay a
def aO{p:Vb}{o:HO}(a:H p=Vp):Ext H (upd H p o):=λb u e=>by rw[aq (cC e a)];exact e
end
def Cu{xs:List α}{v:α}(a:0<=i)(h:xs[i.toNat]?=Vo v):di xs i=Vo v:=by
 have:=aM h
 rwa [Int.toNat_of_nonneg a]at this
def Bh{i:Int}(a:0<=i)(h:i<n):fI n i=Vo i.toNat:=by unfold fI;rw[M3 a,M3 h]
def fh:V->PyData->Prop
 | .non,.none=>True
 | .bl b,.bool c=>b=c
 | .int i,.int j=>i=j
 | .str x,.str y=>x=y/\(PyData.str y).canLay0=true
 | _,_=>False
def aQ(H:Hp):Nat->V->PyData->Prop
 | 0,x,d=>fh x d
 | n+1,x,d=>fh x d\/∃a xs ds,x=.ref a/\((H a=Vo (.tup xs)/\d=.tuple ds)\/(H a=Vo (.lst xs)/\d=.list ds))/\Paired (aQ H n) xs ds
section
variable {X:Cx} {pins:List (Vb×Obj)} {σ:St} {H:Hp} {s:Vc}
def fh.reads{d:PyData}(h:fh x d)(r:RelV x u):∃a,Reads s.heap u d a:=by
 cases x with
 | non=>cases d<;>first|exact M7 h|(cases r;exact⟨_,.none⟩)
 | bl b=>cases d<;>first|exact M7 h|(cases(h);cases r;exact⟨_,.bool _⟩)
 | int i=>cases d<;>first|exact M7 h|(cases(h);obtain⟨t,rfl⟩:=r;exact⟨_,.int _ t⟩)
 | str z=>cases d<;>first|exact M7 h|(cases(h).1;obtain⟨t,rfl⟩:=r;exact⟨_,.str _ t⟩)
 | _=>cases d<;>exact M7 h
def fh.lay{d:PyData}(h:fh x d):d.canLay0=true/\d.depth=0:=by cases x<;>cases d<;>first|exact M7 h|exact ⟨rfl,rfl⟩|exact ⟨h.2,rfl⟩
theorem qS{R:V->PyData->Prop}(b:∀{x:V} {d:PyData} {u:Va},R x d->RelV x u->∃a,Reads s.heap u d a):∀{xs:List V} {ds:List PyData} {us:List Va},Paired R xs ds->Vals xs us->∃a,ReadsAll s.heap us ds a
 | _,_,_,.nil,.nil=>⟨_,.nil⟩
 | _,_,_,.cons h t,.cons r rt=>by obtain⟨a,ha⟩:=b h r;obtain⟨bs,hb⟩:=qS b t rt;exact⟨_,.cons ha hb⟩
theorem aQ.reads(I:Inv X pins σ H s):∀(n:Nat) {x:V} {d:PyData} {u:Va},aQ H n x d->RelV x u->∃b,Reads s.heap u d b
 | 0,_,_,_,h,r=>fh.reads h r
 | n+1,x,d,u,h,r=>by
  rcases h with h|⟨a,xs,ds,rfl,i,g⟩
  .exact fh.reads h r
  .cases r;rcases i with⟨e,rfl⟩|⟨e,rfl⟩
   .obtain⟨c,f,⟨o,ho,j,k,hd⟩,_⟩:=I.tuple (ak.of e);obtain⟨b,ha⟩:=qS (λ{x d u}=>aQ.reads I n) g f;exact⟨_,.tuple ho j hd (by simpa using ha)⟩
   .obtain⟨c,k,f,ho,_⟩:=I.lst e;obtain⟨b,ha⟩:=qS (λ{x d u}=>aQ.reads I n) g f;exact⟨_,.list ho rfl rfl (by simpa using ha)⟩
theorem jg{R:V->PyData->Prop}{m:Nat}(a:∀{x:V} {d:PyData},R x d->d.canLay0=true/\d.depth<=m):∀{xs:List V} {ds:List PyData},Paired R xs ds->SI ds=true/\PyData.depthAll ds<=m
 | _,_,.nil=>⟨rfl,LI _⟩
 | _,_,.cons h t=>by
  obtain⟨h1,h2⟩:=a h;obtain⟨b,c⟩:=jg a t;refine⟨?_,?_⟩
  .simp only[SI,h1,b,Bool.and_self]
  .exact Nat.max_le.mpr ⟨h2,c⟩
theorem aQ.lay:∀(n:Nat) {x:V} {d:PyData},aQ H n x d->d.canLay0=true/\d.depth<=n
 | 0,_,_,h=>⟨(fh.lay h).1,Ph (fh.lay h).2⟩
 | n+1,x,d,h=>by
  rcases h with h|⟨a,xs,ds,rfl,b,c⟩
  .exact⟨(fh.lay h).1,by rw[(fh.lay h).2];exact LI _⟩
  .obtain⟨h1,h2⟩:=jg (λ{x d}=>aQ.lay n) c;rcases b with⟨e,rfl⟩|⟨e,rfl⟩
   .exact⟨h1,Q6 h2⟩
   .exact⟨h1,Q6 h2⟩
def Aj(neg:Bool):R2:=λx y H Q=>∃n m d e,aQ H n x d/\aQ H m y e/\n<=50/\Q (.bl (if neg then !M8 d e else M8 d e)) H
def Bt(a:Room k X.A):br X (compareOp .Eq) (Aj false):=by intro pins s σ H x y v u Q I b c h;obtain⟨n,m,d,e,h1,h2,f,q⟩:=h;obtain⟨i,ra⟩:=aQ.reads I n h1 b;obtain⟨bs,g⟩:=aQ.reads I m h2 c;have l1:=aQ.lay n h1;have l2:=aQ.lay m h2;have j:=a.units;exact SeqAt.compareEq_reads ra g l1.1 l2.1 (by omega) ⟨.bl _,H,I,rfl,q⟩
def jE(a:Room k X.A):br X (compareOp .NotEq) (Aj true):=by intro pins s σ H x y v u Q I b c h;obtain⟨n,m,d,e,h1,h2,f,q⟩:=h;obtain⟨i,ra⟩:=aQ.reads I n h1 b;obtain⟨bs,g⟩:=aQ.reads I m h2 c;have l1:=aQ.lay n h1;have l2:=aQ.lay m h2;have j:=a.units;exact SeqAt.compareNe_reads ra g l1.1 l2.1 (by omega) ⟨.bl _,H,I,rfl,q⟩
end
def FC(K:L8):List V->Hp->VK->Prop:=λxs H Q=>∃(p:Vb) (bs:List Bool),xs=[.ref p]/\af K H p (bs.map V.bl)/\Q (.bl (bs.all id)) H
theorem oq:∀{bs:List Bool} {us:List Va},Vals (bs.map V.bl) us->us=bs.map Value.bool
 | [],_,r=>by cases r;rfl
 | b::bs,_,r=>by
  cases r with
  | cons r t=>cases r;rw[oq t];rfl
def all_range(bs:List Bool):((MY bs.length).all λi=>bs.getD i false)=bs.all id:=by
 rw[ML,MJ,MJ];constructor
 .intro h b hb;obtain⟨i,hi,e⟩:=QC.mp hb;have:=h i (NP.mpr hi);rw[NL,Me hi]at this;rw[<-e];exact this
 .intro h i hi;have a:=NP.mp hi;rw[NL,Me a];exact h _ (MD a)
def pw(K:L8)(l:X.calm=true)(m:X.K=K:=by rfl):cb X (.builtin "all") (FC K):=by
 subst m;intro pins s σ H xs us Q I r h;obtain⟨p,bs,rfl,w,q⟩:=h;obtain⟨u,rfl,x⟩:=vals1 r;cases x;obtain⟨d,j,pl,O⟩:=I.list w;have y:=oq j;have hne:p≠s.heap.objs.size:=Mv (by obtain⟨o,n,e,_⟩:=pl;exact Mb e);refine call_all_walk (wpAny_pyIter_list pl.isList ?_);have z:Inv X pins σ H { s with heap:=s.heap.push { cls:=.type "list_iterator",data:=.fields #[.ref p,.int 0 0] } }:=I.kept (t':=s.toks) λb o e=>L9 _ e;have B:=I.fpOk (H':=H) (Mw s.heap.objs.size) I.fresh;refine⟨s.heap.objs.size,_,_,_,_,_,(λi=>bs.getD i false),rfl,R0 (A:=X.A.in1) (I.ok.hd l) _ p hne d.toArray,⟨⟨_,Ma _ rfl,rfl,rfl⟩,?_⟩,?_,λh' tk C=>?_⟩
 .exact pl.isList.push _
 .intro i v s' E P hv F;rw[y]at hv;have a:(bs.map Value.bool)[i]?=Vo v:=by simpa using hv
  rw[Mf]at a;cases f:bs[i]? with
  | none=>rw[f]at a;cases a
  | some b=>
   rw[f]at a;cases a;have g:bs.getD i false=b:=by rw[NL,f];rfl
   have c:E (bs.getD i false) s':=F;rw[g]at c;exact wpAny_truthy_bool c
 .obtain⟨G,J,R,L,M,N⟩:=B;have k:=j.length;rw[Mc]at k;refine⟨.bl (bs.all id),H,z.turned (λb o hb e=>C b o (by simpa using hb) e) G J L M N,?_,q⟩;show Value.bool _=Value.bool _;rw[Mi,<-k,all_range]
def zd(c:TT)(tb:TS):TS:=λD σ H=>∃(W:Nat->St->Hp->Prop) (R:St->Hp->Prop),(∃m,W m σ H)/\(∀m σ H,W m σ H ->
 c σ H λb H1=>if b=true then ∃N:St->Hp->Prop,(∀a H',N a H'->∃d,d<m/\W d a H')/\tb ⟨N,D.rt,R,N⟩ σ H1 else R σ H1)/\∀σ H,R σ H->D.nx σ H
def gH{c:Vk}{body:List Vl}(b:PassesOwn (Vg X.prog X.w) X.A X.env X.xe)(d:PT X c tc)(hb:cD X body tb):PS X (.While c body [] pos) (zd tc tb):=by
 intro pins s σ H D I h;obtain⟨W,R,e,hs,g⟩:=h;refine ax (HN b d hb pins s σ H { D with nx:=R } I ⟨W,e,hs⟩) λf s1 q=>?_;cases f with
 | next=>
  obtain⟨a,H',i,q⟩:=q;exact⟨a,H',i,g a H' q⟩
 | ret v=>exact q
 | brk=>exact q
 | cont=>exact q
section
variable {D:Ends} {σ:St} {H:Hp} {Q:VK} {te:TE} {t:TS} {c:TT}
def gC(W:Nat->St->Hp->Prop)(R)(m)(e:W m σ H)(hs:∀m σ H,W m σ H->c σ H λb H1=>if b=true then ∃N,(∀a H',N a H'->∃d,d<m/\W d a H')/\t ⟨N,D.rt,R,N⟩ σ H1 else R σ H1)(k:∀σ H,R σ H->D.nx σ H):zd c t D σ H:=⟨W,R,⟨m,e⟩,hs,k⟩
def rd_aug{a:kT}(e:σ[i]?=Vo (Vo x))(h:te σ H λy H1=>a x y H1 λz H2=>D.nx (σ.set i (Vo z)) H2):xb i te a D σ H:=⟨x,e,h⟩
def rd_ipI{f:Int->Int->Int}(h:Q (.int (f i j)) H):sr f (.int i) (.int j) H Q:=⟨i,j,rfl,rfl,h⟩
end
section
variable {prog:Vd} {w:Ve} {A:Vi} {E:Va->Vc->Prop} {s:Vc}
def BE(c:s.heap.IsTupleIter it t i)(gt:s.heap.IsTuple t ys)(d:ys[i]?=Vo x)
  (q:∀h',h'.IsTupleIter it t (i+1)->Nw it s.heap h'->Q x { s with heap:=h' }):Vf (Vg prog w) A (NN (.ref it)) Q E s:=by
 obtain⟨u,b,e,a⟩:=id c;obtain⟨v,f,_,k,g⟩:=gt;refine L6 (MX c.typeIs OM (wpAny_call_entry OM c.typeIs QX ?_ (QL _)));show Vf _ _ (field (Value.ref it) 0 >>= _) _ _ s;refine L6 (wpAny_field b a rfl ?_);refine L6 (wpAny_field b a rfl ?_);refine L6 (wpAny_seqItems f g ?_);simp only[Mq,d];refine L6 (wpAny_setField b a (by simp) (L7 ⟨x,rfl,L7 (q _ ?_ (M9 ..))⟩));exact⟨_,NA _ b (N6 (Nd a _)),(Pm ..).trans e,by rw[Nd a];simp[rawInt]⟩
def px(f:A.handled=Vp)(b:s.heap.IsTupleIter it t i)(gt:s.heap.IsTuple t ys)(g:ys[i]?=Vp)
  (q:∀h' e,N1 it s.heap h'->(∃o,h'.get? e=Vo o/\o.cls=.type "StopIteration")->E (.ref e) { s with heap:=h' }):Vf (Vg prog w) A (NN (.ref it)) Q E s:=by
 obtain⟨u,c,l,d⟩:=id b;obtain⟨v,h,_,k,j⟩:=gt;refine L6 (MX b.typeIs OM (wpAny_call_entry OM b.typeIs QX ?_ (QL _)));show Vf _ _ (field (Value.ref it) 0 >>= _) _ _ s;refine L6 (wpAny_field c d rfl ?_);refine L6 (wpAny_field c d rfl ?_);refine L6 (wpAny_seqItems h j ?_);simp only[Mq,g];refine L6 (wpAny_rule (L6 (wpAny_setField c d (by simp) ?_)));refine L6 ?_;refine L6 (wpAny_newObj_type ?_);refine L6 (wpAny_of_eq (by first|rfl|(unfold firstArgMember;rfl)) ?_);refine wpAny_newObj_type ?_;refine L6 (wpAny_handled ?_)
 first|rw [f]|rw [f]
 refine L6 (L7 (wpAny_throw ?_));exact q _ _ (((M9 ..).extBut.push _).push _) ⟨_,Ma _ rfl,rfl⟩
end
structure Sub(P:Vd)(w:Ve)(K:L8)(J:It)(it:Vb)(tn:Nat->Vh->Prop):Prop where
 obj:∀i h,tn i h->∃o,h.get? it=Vo o/\∀v,o.data≠.cell v
 keep:∀i h h',tn i h->(∀o,h.get? it=Vo o->h'.get? it=Vo o)->tn i h'
 item:∀(X:Cx),X.prog=P->X.w=w->X.K=K->∀(A:Vi) (i:Nat) (pins:List (Vb×Obj)) (s:Vc) (σ:St) (H:Hp) (Q:Va->Vc->Prop) (E:Va->Vc->Prop),Inv X pins σ H s->cq X pins H it->tn i s.heap->J.go i H ->
  (∀x u h',Inv X pins σ H { s with heap:=h' }->RelV x u->J.yld i H x H->tn (i+1) h'->Nw it s.heap h'->Q u { s with heap:=h' })->Vf (Vg P w) A (NN (.ref it)) Q E s
 done:∀(X:Cx),X.prog=P->X.w=w->X.K=K->∀(A:Vi),A.handled=Vp->∀(i:Nat) (pins:List (Vb×Obj)) (s:Vc) (σ:St) (H:Hp) (Q:Va->Vc->Prop) (E:Va->Vc->Prop),Inv X pins σ H s->cq X pins H it->tn i s.heap->J.stop i H ->
  (∀h' e,N1 it s.heap h'->(∃o,h'.get? e=Vo o/\o.cls=.type "StopIteration")->E (.ref e) { s with heap:=h' })->Vf (Vg P w) A (NN (.ref it)) Q E s
def sv{K:L8}(a it):Sub P w K (cu K a) it (λi h=>h.IsListIter it a i) where
 obj:=λi h st=>by obtain⟨o,e,c,d⟩:=st;exact⟨o,e,λv z=>by rw[d]at z;cases z⟩
 keep:=λi h h' st k=>st.at k
 item:=by intro X g j l A i pins s σ H Q E I B st m C;subst g j l;obtain⟨xs,x,f,n⟩:=m;obtain⟨q,r,p,F⟩:=I.list f;obtain⟨u,G,J⟩:=r.get n;obtain⟨L,M,W,N,O,R⟩:=B;exact wpAny_nextOf_list_item st p.isList (by simpa using G) λh' y sb=>C x u h' (I.turned (λb o hb e=>(sb.2 b hb).trans e) L M N O R) J ⟨rfl,λys S=>by rw[I.list_inj S f];exact n⟩ y sb
 done:=by intro X g j l A T i pins s σ H Q E I B st m U;subst g j l;obtain⟨xs,f,n⟩:=m;obtain⟨q,r,p,F⟩:=I.list f;have Y:=r.length;exact wpAny_nextOf_list_end T st p.isList (by simp;omega) U
def qi{K:L8}(a it):Sub P w K (cU K a) it (λi h=>h.IsTupleIter it a i) where
 obj:=λi h st=>by obtain⟨o,e,c,d⟩:=st;exact⟨o,e,λv z=>by rw[d]at z;cases z⟩
 keep:=λi h h' st k=>st.at k
 item:=by intro X j l m A i pins s σ H Q E I B st n C;subst j l m;obtain⟨xs,x,g,q⟩:=n;obtain⟨f,r,p,F⟩:=I.tuple g;obtain⟨u,G,J⟩:=r.get q;obtain⟨L,M,W,N,O,R⟩:=B;exact BE st (p) (by simpa using G) λh' y sb=>C x u h' (I.turned (λb o hb e=>(sb.2 b hb).trans e) L M N O R) J ⟨rfl,λys S=>by rw[I.tuple_inj S g];exact q⟩ y sb
 done:=by intro X j l m A T i pins s σ H Q E I B st n U;subst j l m;obtain⟨xs,g,q⟩:=n;obtain⟨f,r,p,F⟩:=I.tuple g;have Y:=r.length;exact px T st (p) (by simp;omega) U
def gU(a b:It):It:=⟨λi H=>a.go i H/\b.go i H,λi H x H'=>∃p u v,x=.ref p/\H p=Vp/\H'=upd H p (.tup [u,v])/\a.yld i H u H/\b.yld i H v H,λi H=>a.stop i H\/(a.go i H/\b.stop i H)⟩
structure Apart(z TI TO i1 i2:Vb):Prop where
 a:TI≠z
 b:TO≠z
 c:i1≠z
 d:i2≠z
 e:TI≠TO
 f:TI≠i1
 g:TI≠i2
 h:TO≠i1
 i:TO≠i2
 j:i1≠i2
section
variable {X:Cx} {pins:List (Vb×Obj)} {σ:St} {H:Hp} {s:Vc}
def Inv.same(I:Inv X pins σ H { s with heap:=k })(f:cq X pins H it)(b:N1 it k h'):Inv X pins σ H { s with heap:=h' }:=by obtain⟨a,d,j,g,h,i⟩:=f;exact Inv.turned (s:={ s with heap:=k }) I (λc o hb e=>b c o hb e) a d g h i
def Ds{z TI TO:Vb}{P R:Nat->Vh->Prop}{a b:Va}(C:Sub X.prog X.w X.K J1 i1 P)(S:Sub X.prog X.w X.K J2 i2 R)(N:Apart z TI TO i1 i2)
  (I:Inv X pins σ H s) (T:∀b∈[z,TI,TO,i1,i2],cq X pins H b) (G:IsZip s.heap z TI TO .none) (gI:IsPair s.heap TI (.ref i1) (.ref i2)) (gO:IsPair s.heap TO a b) (g1:P i s.heap) (g2:R i s.heap) (a0:J1.go i H) (go2:J2.go i H)
  (q:∀x y h',Inv X pins σ (upd H s.heap.objs.size (.tup [x,y])) { s with heap:=h' }->J1.yld i H x H->J2.yld i H y H->IsZip h' z TI TO (rawInt s.heap.objs.size)->IsPair h' TI (.ref i1) (.ref i2)->(∃a b,IsPair h' TO a b)->P (i+1) h'->R (i+1) h'->Q (.ref s.heap.objs.size) { s with heap:=h' }) :
  Vf (Vg X.prog X.w) A (Builtin.«zip.__next__» ⟨[.ref z],[]⟩) (λfin s'=>∃v,fin=.done (.ret v)/\Q v s') E s:=by
 have fz:=T z (by simp);have fO:=T TO (by simp);have f1:=T i1 (by simp);have f2:=T i2 (by simp);show Vf _ _ (field (Value.ref z) 2 >>= _) _ _ _;refine L6 (wpAny_field G rfl rfl ?_);refine L6 (wpAny_field G rfl rfl ?_);refine L6 (wpAny_seqItems gI rfl ?_);refine L6 ?_;refine L6 (wpAny_field G rfl rfl (L7 ?_));refine L6 (wpAny_rule ?_);refine L6 (wpAny_field G rfl rfl ?_);refine L6 (wpAny_setField_rec G (by simp) λk1 n b1=>?_)
 replace n:IsZip k1 z TI TO .ellipsis:=n
 have s1:=b1.1
 replace b1:=b1.extBut
 have I1:Inv X pins σ H { s with heap:=k1 }:=Inv.same (show Inv X pins σ H { s with heap:=s.heap }from I) fz b1;refine L6 ?_;simp only[List.zipIdx_cons,List.zipIdx_nil,PY,List.forIn_nil];refine L6 (L6 (wpAny_onRaise ?_));show Vf _ _ (NN (Value.ref i1) >>= _) _ _ _;refine L6 (C.item X rfl rfl rfl _ i pins _ σ H _ _ I1 f1 (C.keep i _ _ g1 λo e=>b1 _ _ N.c e) a0 λx F k2 I2 rx yx a1 p=>L7 ?_)
 replace I2:Inv X pins σ H { s with heap:=k2 }:=I2
 have s2:=p.1
 replace p:=p.extBut
 have J:IsPair k2 TO a b:=p _ _ N.h (b1 _ _ N.b gO);refine L6 (wpAny_seqItems J rfl ?_);refine L6 (wpAny_updateSeq_pair J λk3 r b3=>?_)
 replace r:IsPair k3 TO F b:=r
 have s3:=b3.1
 replace b3:=b3.extBut
 have I3:Inv X pins σ H { s with heap:=k3 }:=Inv.same I2 fO b3;refine L6 (wpAny_letGo (L7 ?_));refine L6 (L6 (wpAny_onRaise ?_));show Vf _ _ (NN (Value.ref i2) >>= _) _ _ _;refine L6 (S.item X rfl rfl rfl _ i pins _ σ H _ _ I3 f2 (S.keep i _ _ g2 λo e=>b3 _ _ (NC N.i) (p _ _ (NC N.j) (b1 _ _ N.d e))) go2 λy U k4 I4 ry yy a2 u=>L7 ?_)
 replace I4:Inv X pins σ H { s with heap:=k4 }:=I4
 have s4:=u.1
 replace u:=u.extBut
 have L:IsPair k4 TO F b:=u _ _ N.i r;refine L6 (wpAny_seqItems L rfl ?_);refine L6 (wpAny_updateSeq_pair L λk5 k m=>?_)
 replace k:IsPair k5 TO F U:=k
 have s5:=m.1
 replace m:=m.extBut
 have I5:Inv X pins σ H { s with heap:=k5 }:=Inv.same I4 fO m;refine L6 (wpAny_letGo (L7 (L7 ?_)));refine L6 (wpAny_seqItems k rfl ?_);refine L6 (wpAny_newTuple ?_);have sz:k5.objs.size=s.heap.objs.size:=by rw[s5,s4,s3,s2,s1]
 have M:IsZip k5 z TI TO .ellipsis:=m _ _ (NC N.b) (u _ _ (NC N.d) (b3 _ _ (NC N.b) (p _ _ (NC N.c) n)));have a3:IsPair k5 TI (.ref i1) (.ref i2):=m _ _ N.e (u _ _ N.g (b3 _ _ N.e (p _ _ N.f (b1 _ _ N.a gI))));have a4:P (i+1) k5:=C.keep _ _ _ (C.keep _ _ _ (C.keep _ _ _ a1 λo e=>b3 _ _ (NC N.h) e) λo e=>u _ _ N.j e) λo e=>m _ _ (NC N.h) e;have a5:R (i+1) k5:=S.keep _ _ _ a2 λo e=>m _ _ (NC N.i) e;have lz:z<k5.objs.size:=Mb M;have I6:Inv X pins σ (upd H k5.objs.size (.tup [x,y])) { s with heap:=k5.push { cls:=.type "tuple",data:=.seq #[F,U] } }:=
  I5.laid (t':=s.toks) (o:=.tup [x,y]) (λb ob e=>L9 _ e) (Mw _) ⟨by show 2<=sizeLine;decide,[F,U],.cons rx (.cons ry .nil),SR _ _⟩
 have O:cq X pins (upd H k5.objs.size (.tup [x,y])) z:=by obtain⟨c0,c1,c2,c3,c4,c5⟩:=fz;exact⟨by rw[aq (Mv lz)];exact c0,c1,c2,c3,c4,c5⟩
 show Vf _ _ (PM (Value.ref z) (Value.ref k5.objs.size) >>= _) _ _ _;refine L6 ?_;unfold PM;have a6:IsZip (k5.push { cls:=.type "tuple",data:=.seq #[F,U] }) z TI TO .ellipsis:=L9 _ M;refine L6 (wpAny_setField_rec a6 (by simp) λk7 B W=>?_)
 replace B:IsZip k7 z TI TO (rawInt k5.objs.size):=B
 replace W:=W.extBut
 have I7:Inv X pins σ (upd H k5.objs.size (.tup [x,y])) { s with heap:=k7 }:=Inv.same I6 O W;refine wpAny_setField_rec B (by simp) λY l Z=>?_
 replace l:IsZip Y z TI TO (rawInt k5.objs.size):=l
 replace Z:=Z.extBut
 have I8:Inv X pins σ (upd H k5.objs.size (.tup [x,y])) { s with heap:=Y }:=Inv.same I7 O Z;have up:∀b o,b≠z->k5.get? b=Vo o->Y.get? b=Vo o:=λb o ne e=>Z _ _ ne (W _ _ ne (L9 _ e));rw[sz]at I8 l;refine L7 ⟨_,rfl,?_⟩;show Q (.ref k5.objs.size) _;rw[sz];exact q x y Y I8 yx yy l (up _ _ N.a a3) ⟨_,_,up _ _ N.b k⟩ (C.keep _ _ _ a4 λo e=>up _ o N.c e) (S.keep _ _ _ a5 λo e=>up _ o N.d e)
def Di{B O:It}{z TI TO:Vb}{C P:Nat->Vh->Prop}{a b:Va}{Q:Fin->Vc->Prop}(R:A.handled=Vp)(F:Sub X.prog X.w X.K B i1 C)(S:Sub X.prog X.w X.K O i2 P)(N:Apart z TI TO i1 i2)
  (I:Inv X pins σ H s) (y:∀b∈[z,TI,TO,i1,i2],cq X pins H b) (m:IsZip s.heap z TI TO .none) (gI:IsPair s.heap TI (.ref i1) (.ref i2)) (gO:IsPair s.heap TO a b) (g1:C i s.heap) (g2:P i s.heap) (st:B.stop i H\/(B.go i H/\O.stop i H))
  (q:∀h' e,Inv X pins σ H { s with heap:=h' }->(∃o,h'.get? e=Vo o/\o.cls=.type "StopIteration")->E (.ref e) { s with heap:=h' }) :
  Vf (Vg X.prog X.w) A (Builtin.«zip.__next__» ⟨[.ref z],[]⟩) Q E s:=by
 have G:=y z (by simp);have fO:=y TO (by simp);have J:=y i1 (by simp);have T:=y i2 (by simp);show Vf _ _ (field (Value.ref z) 2 >>= _) _ _ _;refine L6 (wpAny_field m rfl rfl ?_);refine L6 (wpAny_field m rfl rfl ?_);refine L6 (wpAny_seqItems gI rfl ?_);refine L6 ?_;refine L6 (wpAny_field m rfl rfl (L7 ?_));refine L6 (wpAny_rule ?_);refine L6 (wpAny_field m rfl rfl ?_);refine L6 (wpAny_setField_rec m (by simp) λk1 k b1=>?_)
 replace k:IsZip k1 z TI TO .ellipsis:=k
 replace b1:=b1.extBut
 have L:Inv X pins σ H { s with heap:=k1 }:=Inv.same (show Inv X pins σ H { s with heap:=s.heap }from I) G b1;refine L6 ?_;simp only[List.zipIdx_cons,List.zipIdx_nil,PY,List.forIn_nil];refine L6 (L6 (wpAny_onRaise ?_));show Vf _ _ (NN (Value.ref i1) >>= _) _ _ _;have n:C i k1:=F.keep i _ _ g1 λo e=>b1 _ _ N.c e;rcases st with st|⟨go,st⟩
 .refine L6 (F.done X rfl rfl rfl _ R i pins _ σ H _ _ L J n st λk2 e l M=>?_);obtain⟨oe,f,g⟩:=M;have p:IsZip k2 z TI TO .ellipsis:=l _ _ (NC N.c) k;have r:Inv X pins σ H { s with heap:=k2 }:=Inv.same L J l;have ne:e≠z:=λx=>by subst x;rw[p]at f;cases f;simp at g
  exact wpAny_setField_rec p (by simp) λk3 _ b3=>q k3 e (Inv.same r G b3.extBut) ⟨oe,b3.extBut _ _ ne f,g⟩
 .refine L6 (F.item X rfl rfl rfl _ i pins _ σ H _ _ L J n go λx ux k2 r rx yx a0 l=>L7 ?_)
  replace r:Inv X pins σ H { s with heap:=k2 }:=r
  replace l:=l.extBut
  have u:IsPair k2 TO a b:=l _ _ N.h (b1 _ _ N.b gO);refine L6 (wpAny_seqItems u rfl ?_);refine L6 (wpAny_updateSeq_pair u λk3 a1 b3=>?_)
  replace b3:=b3.extBut
  have U:Inv X pins σ H { s with heap:=k3 }:=Inv.same r fO b3;refine L6 (wpAny_letGo (L7 ?_));refine L6 (L6 (wpAny_onRaise ?_));show Vf _ _ (NN (Value.ref i2) >>= _) _ _ _;refine L6 (S.done X rfl rfl rfl _ R i pins _ σ H _ _ U T (S.keep i _ _ g2 λo e=>b3 _ _ (NC N.i) (l _ _ (NC N.j) (b1 _ _ N.d e))) st λW e Y M=>?_);obtain⟨oe,f,g⟩:=M;have v:IsZip W z TI TO .ellipsis:=Y _ _ (NC N.d) (b3 _ _ (NC N.b) (l _ _ (NC N.c) k));have I4:Inv X pins σ H { s with heap:=W }:=Inv.same U T Y;have ne:e≠z:=λx=>by subst x;rw[v]at f;cases f;simp at g
  exact wpAny_setField_rec v (by simp) λk5 _ Z=>q k5 e (Inv.same I4 G Z.extBut) ⟨oe,Z.extBut _ _ ne f,g⟩
end
def uU{K:L8}{ps:Pos}{z TI TO:Vb}{W Y:Nat->Vh->Prop}(p:Sub P w K S i1 W)(q:Sub P w K U i2 Y)(N:Apart z TI TO i1 i2):
  Turn P w K (.Tuple elts kk ps) (gU S U) [z,TI,TO,i1,i2] z (λi h=>IsZip h z TI TO .none/\IsPair h TI (.ref i1) (.ref i2)/\(∃a b,IsPair h TO a b)/\W i h/\Y i h) where
 mem:=by simp
 obj:=λi h st b hb=>by
  obtain⟨f,g,⟨a,c,j⟩,l,m⟩:=st;simp only[Mr,MI,or_false]at hb;rcases hb with rfl|rfl|rfl|rfl|rfl
  .exact⟨_,f,λv e=>by cases(e)⟩
  .exact⟨_,g,λv e=>by cases(e)⟩
  .exact⟨_,j,λv e=>by cases(e)⟩
  .exact p.obj _ _ l
  .exact q.obj _ _ m
 keep:=λi h h' st k=>by obtain⟨f,g,⟨a,c,j⟩,l,m⟩:=st;exact⟨k z (by simp) _ f,k TI (by simp) _ g,⟨a,c,k TO (by simp) _ j⟩,p.keep _ _ _ l λo e=>k i1 (by simp) o e,q.keep _ _ _ m λo e=>k i2 (by simp) o e⟩
 item:=by
  intro X B C G Z i pins s σ H E I r st A;subst B C G;obtain⟨f,g,⟨a,c,j⟩,l,m⟩:=st;have u:s.TypeIs (.ref z) "zip":=⟨_,f,rfl⟩;refine L6 (wpAny_attempt (MX u QM (wpAny_call_entry QM u F.entry_zip_next
   (Ds p q N I r f g j l m A.1 A.2 λx y h' J yx yy L M n O Q=>L7 ⟨_,rfl,?_⟩) (F.args_zip_next_1 _))))
  have lt:∀b∈[z,TI,TO,i1,i2],b≠s.heap.objs.size:=λb hb=>by
   simp only[Mr,MI,or_false]at hb;rcases hb with rfl|rfl|rfl|rfl|rfl
   .exact Mv (Mb f)
   .exact Mv (Mb g)
   .exact Mv (Mb j)
   .obtain⟨o,e,_⟩:=p.obj _ _ l;exact Mv (Mb e)
   .obtain⟨o,e,_⟩:=q.obj _ _ m;exact Mv (Mb e)
  have fz:cq X pins (upd H s.heap.objs.size (.tup [x,y])) z:=by obtain⟨c0,c1,c2,c3,c4,c5⟩:=r z (by simp);exact⟨by rw[aq (lt z (by simp))];exact c0,c1,c2,c3,c4,c5⟩
  obtain⟨a',c',n⟩:=n;refine wpAny_letOwnedTupleGo_zip L λk gk bk=>?_;refine⟨.ref s.heap.objs.size,upd H s.heap.objs.size (.tup [x,y]),Inv.same J fz bk.extBut,rfl,⟨_,x,y,rfl,I.hok.fresh (Mw _),rfl,yx,yy⟩,
   ⟨gk,bk.extBut _ _ N.a M,⟨_,_,bk.extBut _ _ N.b n⟩,p.keep _ _ _ O λo e=>bk.extBut _ _ N.c e,q.keep _ _ _ Q λo e=>bk.extBut _ _ N.d e⟩,λb hb=>?_⟩
  rw[aq (lt b hb)];exact(r b hb).1
 done:=by
  intro X B C G Z i pins s σ H E I r st A;subst B C G;obtain⟨f,g,⟨a,c,j⟩,l,m⟩:=st;have u:s.TypeIs (.ref z) "zip":=⟨_,f,rfl⟩;unfold pyNext;refine L6 (wpAny_attempt (MX (name:=MN "__next__") u QM (wpAny_call_entry QM u F.entry_zip_next
   (Di (I.ok.hd Z) p q N I r f g j l m A λh' e J he=>?_) (F.args_zip_next_1 _))))
  obtain⟨o,ho,R⟩:=he;refine L6 (wpAny_isInstance (s:={ s with heap:=h' }) (T:="StopIteration") (b:=true) ⟨o,ho,R⟩ isSubtype_stop ?_);exact L7 ⟨rfl,J⟩
 self:=λ_ _ _ _ _ st h=>wpAny_pyIter_zip st.1 h
abbrev ig(h:Vh)(a:Vb):Vh:=h.push { cls:=.type "tuple_iterator",data:=.fields #[.ref a,.int 0 0] }
abbrev nM(h:Vh)(a b:Vb):Vh:=(ig h a).push { cls:=.type "tuple_iterator",data:=.fields #[.ref b,.int 0 0] }
abbrev nz(h:Vh)(a b:Vb):Vh:=(nM h a b).push { cls:=.type "tuple",data:=.seq #[.ref h.objs.size,.ref (ig h a).objs.size] }
abbrev lW(h:Vh)(a b:Vb):Vh:=(nz h a b).push { cls:=.type "tuple",data:=.seq #[.none,.none] }
abbrev ju(h:Vh)(a b:Vb):Vh:=(lW h a b).push { cls:=.type "zip",data:=.fields #[.none,.bool false,.bool false,.ref (nM h a b).objs.size,.ref (nz h a b).objs.size] }
def EN(a b)(xs ys):Meets (Builtin.«zip.__new__» ⟨[.type "zip",.ref a,.ref b],[]⟩) (λ_ R s=>s.heap.IsTuple a xs/\s.heap.IsTuple b ys/\R (.ok (.ret (.ref (lW s.heap a b).objs.size))) { s with heap:=ju s.heap a b }):=
 .of_wp λprog w A R s q=>by
  obtain⟨c,g,d,tk,os⟩:=s;obtain⟨ga,f,q⟩:=q;have e:=sub_zip;have h:RG (QD ⟨c,g,d,tk,os⟩) a xs:=ga;have i:RG (QD ⟨c.push { cls:=.type "tuple_iterator",data:=.fields #[.ref a,.int 0 0] },g,d,tk,os⟩) b ys:=Heap.IsTuple.push f _
  wp_walk using wpAny_pyIter_tuple h,wpAny_pyIter_tuple i
  exact⟨_,rfl,q⟩
def LU{xs:Array Va}(ga:s.heap.IsTuple a xs)(i:s.heap.IsTuple b ys)
  (q:∀h',IsZip h' (s.heap.objs.size+4) (s.heap.objs.size+2) (s.heap.objs.size+3) .none->IsPair h' (s.heap.objs.size+2) (.ref s.heap.objs.size) (.ref (s.heap.objs.size+1))->IsPair h' (s.heap.objs.size+3) .none .none ->
   h'.IsTupleIter s.heap.objs.size a 0->h'.IsTupleIter (s.heap.objs.size+1) b 0->(∀c o,s.heap.get? c=Vo o->h'.get? c=Vo o)->Q (.ref (s.heap.objs.size+4)) { s with heap:=h' }) :
  Vf (Vg prog w) A (call (.type "zip") [.ref a,.ref b]) Q E s:=by
 refine callType_new F.called_zip (by decide) (F.typeCall_zip_2 _ _) (F.newCall_zip_2 _ _) (λob=>F.args_object_init_3 ob _ _) F.entry_zip_new (EN a b xs ys) ⟨ga,i,?_⟩;have d:(ig s.heap a).objs.size=s.heap.objs.size+1:=L3 ..;have e:(nM s.heap a b).objs.size=s.heap.objs.size+2:=by rw[L3,d]
 have f:(nz s.heap a b).objs.size=s.heap.objs.size+3:=by rw[L3,e]
 have g:(lW s.heap a b).objs.size=s.heap.objs.size+4:=by rw[L3,f]
 have k5:(ju s.heap a b).get? (lW s.heap a b).objs.size=Vo _:=Ma _ rfl;have h:(ju s.heap a b).get? (nz s.heap a b).objs.size=Vo _:=L9 _ (Ma _ rfl);have k3:(ju s.heap a b).get? (nM s.heap a b).objs.size=Vo _:=L9 _ (L9 _ (Ma _ rfl));have k2:(ju s.heap a b).get? (ig s.heap a).objs.size=Vo _:=L9 _ (L9 _ (L9 _ (Ma _ rfl)));have k1:(ju s.heap a b).get? s.heap.objs.size=Vo _:=L9 _ (L9 _ (L9 _ (L9 _ (Ma _ rfl))));rw[e,f,g]at k5;rw[d,e]at k3;rw[f]at h;rw[d]at k2;rw[g];exact⟨⟨_,k5,rfl⟩,q _ k5 k3 h ⟨_,k1,rfl,rfl⟩ ⟨_,k2,rfl,rfl⟩ λc o x=>L9 _ (L9 _ (L9 _ (L9 _ (L9 _ x))))⟩
section
variable {K:L8} {σ:St} {H:Hp} {Q:VK}
def rE(K:L8):List V->Hp->(It->Hp->Prop)->Prop:=λvs H R=>∃a b xs ys,vs=[.ref a,.ref b]/\((ak K H a xs/\ak K H b ys/\R (gU (cU K a) (cU K b)) H)\/(af K H a xs/\af K H b ys/\R (gU (cu K a) (cu K b)) H))
def tN(K:L8)(ta:TA):TI:=λσ H R=>ta σ H λvs H1=>rE K vs H1 R
def LB{ps:Pos}(K:L8){a b:Vk}{ta:TA}{p pos:Pos}(L:Gl X "zip")(M:X.mg "zip" = Vp)(ha:PA X [a,b] ta)(O:X.K=K:=by rfl)(hs:starEach [a,b] X.env=[(false,eval a X.env),(false,eval b X.env)]:=by rfl)(i:starEach [b] X.env=[(false,eval b X.env)]:=by rfl):
  PI X (.Tuple elts kk ps) (.Call (.Name "zip" p) [a,b] [] pos) (tN K ta):=by
 subst O;intro pins s σ H R I h;refine Call_ (eL I L M RV (NF (ax (ha pos pins s σ H _ I h) λus s1 ⟨vs,H1,f,r1,y⟩=>?_) (by rw[hs,i]) (by rw[i];rfl)));obtain⟨l,m,xs,ys,e,y⟩:=y;subst e;cases r1 with
 | cons r z=>
  cases z with
  | cons P z=>
   cases z;cases r;cases P;have mk:∀{B C:It} {E F:Nat->Vh->Prop},Sub X.prog X.w X.K B s1.heap.objs.size E->Sub X.prog X.w X.K C (s1.heap.objs.size+1) F->∀h',IsZip h' (s1.heap.objs.size+4) (s1.heap.objs.size+2) (s1.heap.objs.size+3) .none->IsPair h' (s1.heap.objs.size+2) (.ref s1.heap.objs.size) (.ref (s1.heap.objs.size+1)) ->
     IsPair h' (s1.heap.objs.size+3) .none .none->E 0 h'->F 0 h'->(∀c o,s1.heap.get? c=Vo o->h'.get? c=Vo o)->R (gU B C) H1->Vf (Vg X.prog X.w) X.A (pyIter (.ref (s1.heap.objs.size+4))) (oU X pins σ (.Tuple elts kk ps) R) X.xe { s1 with heap:=h' }:=by
    intro B C E F Q S h' g j n u v k q;refine wpAny_pyIter_zip g ?_;have N:Apart (s1.heap.objs.size+4) (s1.heap.objs.size+2) (s1.heap.objs.size+3) s1.heap.objs.size (s1.heap.objs.size+1):=by constructor<;>(intro h;have h':@Eq Nat _ _:=h;omega)
    refine⟨s1.heap.objs.size+4,[s1.heap.objs.size+4,s1.heap.objs.size+2,s1.heap.objs.size+3,s1.heap.objs.size,s1.heap.objs.size+1],_,_,H1,rfl,f.kept k,uU Q S N,⟨g,j,⟨_,_,n⟩,u,v⟩,λb hb=>?_,q⟩;have le:@LE.le Nat _ s1.heap.objs.size b:=by
     simp only[Mr,MI,or_false]at hb;rcases hb with rfl|rfl|rfl|rfl|rfl
     .exact NY _ _
     .exact NY _ _
     .exact NY _ _
     .exact Mw _
     .exact NY _ _
    exact f.fpOk le (f.hok.fresh le)
   rcases y with⟨ga,G,q⟩|⟨ga,G,q⟩
   .obtain⟨x,_,J,_⟩:=f.tuple ga;obtain⟨d,_,p2,_⟩:=f.tuple G;exact LU (J) (p2) λh' g j n u v k=>mk (qi l _) (qi m _) h' g j n u v k q
   .obtain⟨x,_,J,_⟩:=f.list ga;obtain⟨d,_,p2,_⟩:=f.list G;exact call_zip_2 J.isList p2.isList λh' g j n u v _ k=>mk (sv l _) (sv m _) h' g j n u v k q
def rd_zip{a:TA}(h:a σ H λvs H1=>rE K vs H1 R):tN K a σ H R:=h
def GR{ys:List V}(ha:af K H a xs)(hb:af K H b ys)(h:R (gU (cu K a) (cu K b)) H):rE K [.ref a,.ref b] H R:=⟨a,b,xs,ys,rfl,.inr ⟨ha,hb,h⟩⟩
def LY{ys:List V}(Pv:Nat->List V->Hp->Prop)(F:xs.length<=sizeLine)(o:Pv 0 [] H)(q:∀i zs H,Pv i zs H->ak K H a xs/\ak K H b ys/\zs.length<=i)
  (hs:∀i u v zs H p H',xs[i]?=Vo u->ys[i]?=Vo v->Pv i zs H->Ext H H'->H' p=Vo (.tup [u,v])->H p=Vp->g (.ref p) (cG n js σ) H' λc r=>tc c r λb k=>if b=true then te c k λv s=>Pv (i+1) (zs++[v]) s else Pv (i+1) zs k)
  (hd:∀zs H p,Pv (min xs.length ys.length) zs H->H p=Vp->Q (.ref p) (upd H p (.lst zs))):eW (gU (cU K a) (cU K b)) n js g tc te σ H Q:=by
 refine⟨λi m zs H=>m=min xs.length ys.length-i/\i<=min xs.length ys.length/\Pv i zs H,⟨min xs.length ys.length,by simp,LI _,o⟩,?_⟩;rintro i m zs H ⟨rfl,hi,p⟩;obtain⟨d,f,G⟩:=q i zs H p;by_cases hlt:i<min xs.length ys.length
 .have w:i<xs.length:=by omega
  have z:i<ys.length:=by omega
  refine .inr ⟨⟨⟨xs,xs[i],d,by simp[w]⟩,⟨ys,ys[i],f,by simp[z]⟩⟩,by omega,Pv (i+1),λA H' j=>⟨min xs.length ys.length-(i+1),by omega,rfl,hlt,j⟩,λx H' y=>?_⟩;obtain⟨pp,u,v,rfl,l,rfl,B,C⟩:=y;exact hs i u v zs H pp _ (B.2 xs d) (C.2 ys f) p (aO l) ay l
 .have e:i=min xs.length ys.length:=by omega
  refine .inl ⟨?_,λj E=>hd zs H j (e ▸ p) E⟩;by_cases h:xs.length<=i
  .exact .inl ⟨xs,d,h⟩
  .exact .inr ⟨⟨xs,xs[i]'(by omega),d,Me (by omega)⟩,⟨ys,f,by omega⟩⟩
def HR{ys:List V}(Pv:Nat->List V->Hp->Prop)(F:xs.length<=sizeLine)(o:Pv 0 [] H)(q:∀i zs H,Pv i zs H->af K H a xs/\af K H b ys/\zs.length<=i)
  (hs:∀i u v zs H p H',xs[i]?=Vo u->ys[i]?=Vo v->Pv i zs H->Ext H H'->H' p=Vo (.tup [u,v])->H p=Vp->g (.ref p) (cG n js σ) H' λc r=>tc c r λb k=>if b=true then te c k λv s=>Pv (i+1) (zs++[v]) s else Pv (i+1) zs k)
  (hd:∀zs H p,Pv (min xs.length ys.length) zs H->H p=Vp->Q (.ref p) (upd H p (.lst zs))):eW (gU (cu K a) (cu K b)) n js g tc te σ H Q:=by
 refine⟨λi m zs H=>m=min xs.length ys.length-i/\i<=min xs.length ys.length/\Pv i zs H,⟨min xs.length ys.length,by simp,LI _,o⟩,?_⟩;rintro i m zs H ⟨rfl,hi,p⟩;obtain⟨d,f,G⟩:=q i zs H p;by_cases hlt:i<min xs.length ys.length
 .have w:i<xs.length:=by omega
  have z:i<ys.length:=by omega
  refine .inr ⟨⟨⟨xs,xs[i],d,by simp[w]⟩,⟨ys,ys[i],f,by simp[z]⟩⟩,by omega,Pv (i+1),λA H' j=>⟨min xs.length ys.length-(i+1),by omega,rfl,hlt,j⟩,λx H' y=>?_⟩;obtain⟨pp,u,v,rfl,l,rfl,B,C⟩:=y;exact hs i u v zs H pp _ (B.2 xs d) (C.2 ys f) p (aO l) ay l
 .have e:i=min xs.length ys.length:=by omega
  refine .inl ⟨?_,λj E=>hd zs H j (e ▸ p) E⟩;by_cases h:xs.length<=i
  .exact .inl ⟨xs,d,h⟩
  .exact .inr ⟨⟨xs,xs[i]'(by omega),d,Me (by omega)⟩,⟨ys,f,by omega⟩⟩
end
def GI{a b:Va}(gt:IsTup s.heap t ys)(c:s.heap.IsSliceOf sl a b .none)(pl:IsPart a lo)(pu:IsPart b hi)
  (d:HT.aL ys.size 0 lo=0/\HT.aL ys.size ys.size hi=ys.size) (q:Q (.ref t) s):Vf (Vg prog w) A (getItem (.ref t) (.ref sl)) Q E s:=by
 obtain⟨u,e,f,h⟩:=id c;have g:s.TypeIs (.ref sl) "slice":=⟨u,e,f⟩;unfold getItem
 try with_reducible refine wpAny_holding ?_
 first|refine L6 (L7 ?_)|skip
 refine L6 (wpAny_sequenceKey gt.typeIs (by decide) ?_);refine L6 (MX gt.typeIs NT (wpAny_call_entry NT gt.typeIs entry_tuple_getitem ?_ (args_tuple_getitem _ _)));show Vf _ _ (Qg (Value.ref t) >>= _) _ _ s;refine L6 (tupleItemsOf_ gt ?_);refine L6 (wpAny_typeOf g ?_);refine L6 (HT.BN c pl pu ?_);show Vf _ _ (if(((HT.aL ys.size 0 lo:Nat):Int) == 0 && (1:Int) == 1 && (HT.aL ys.size ys.size hi-HT.aL ys.size 0 lo) == ys.size)=true then _ else _) _ _ s;rw[M3 (by rw[d.1,d.2];simp)];refine L6 (L6 (wpAny_typeOf gt.typeIs (L7 ?_)));refine L6 (wpAny_rule ?_);exact L7 ⟨_,rfl,L7 q⟩
def vZ:V->Option Int->Option Int->Hp->VK->Prop:=λx lo hi H Q=>∃a xs,x=.ref a/\H a=Vo (.tup xs)/\∀p H',Ext H H'->H' p=Vo (.tup (cn xs lo hi))->Q (.ref p) H'
def Jb:jj X vZ:=by
 intro pins s σ H x v g i lo hi sl Q I e hs pl pu h;obtain⟨a,xs,rfl,c,q⟩:=h;by_cases b:HT.aL xs.length 0 lo=0/\HT.aL xs.length xs.length hi=xs.length
 .cases e;obtain⟨d,r,f,k⟩:=I.tuple (ak.of c);have hlen:d.toArray.size=xs.length:=by rw[Mi];exact r.length.symm
  refine⟨"tuple",_,NT.lookup,f.typeIs,?_⟩;refine GI f hs pl pu (by rw[hlen];exact b) ⟨.ref a,H,I,rfl,q a H (Ext.rfl' H) ?_⟩;have:cn xs lo hi=xs:=by unfold cn;rw[b.1,b.2,Rh,Nat.sub_zero,MF]
  rw[this];exact c
 .exact Ie pins s σ H (.ref a) v g i lo hi sl Q I e hs pl pu ⟨a,xs,rfl,ak.of c,b,λp j=>q p _ (aO j) ay⟩
def LS{Q:VK}(e:H a=Vo (.tup xs))(h:∀p H',Ext H H'->H' p=Vo (.tup (cn xs lo hi))->Q (.ref p) H'):vZ (.ref a) lo hi H Q:=⟨a,xs,rfl,e,h⟩
def vD:R2:=λx y H Q=>∃a b xs ys,x=.ref a/\y=.ref b/\H a=Vo (.tup xs)/\H b=Vo (.tup ys)/\xs.length+ys.length<=sizeLine/\∀p H',Ext H H'->H' p=Vo (.tup (xs++ys))->Q (.ref p) H'
def GW:br X (binaryOp .Add) vD:=by
 intro pins s σ H x y v u Q I r w h;obtain⟨a,b,xs,ys,rfl,rfl,ha,hb,z,q⟩:=h;cases r;cases w;by_cases j:xs=[]
 .subst j;obtain⟨A,r1,B,_⟩:=I.tuple (ak.of ha);obtain⟨k,G,p2,_⟩:=I.tuple (ak.of hb);have e:=r1.nil_iff.mpr rfl;subst e;obtain⟨⟨cls,dd,data,sl⟩,ho,l,n,hd⟩:=id B;obtain⟨⟨m,g,data2,i⟩,c,d,C,f⟩:=id p2;subst l hd d f;refine concat_meets ⟨_,ho,rfl⟩ ⟨_,c,rfl⟩ noFill_tuple_add seq_tuple_add Pj Pd (PQ _ _)
   (tuple_addW0 a b _ _ n C dd g sl i (by simp)) ⟨ho,c,⟨.ref b,H,I,rfl,q b H (λ_ _ h=>h) (by simpa using hb)⟩⟩
 .refine IA pins s σ H (.ref a) (.ref b) _ _ Q I rfl rfl ⟨a,b,xs,ys,rfl,rfl,ak.of ha,ak.of hb,j,z,λo=>?_,λo p E=>?_⟩
  .subst o;exact q a H (λ_ _ h=>h) (by simpa using ha)
  .exact q p _ (aO E) ay
def Ih{Q:VK}{ys:List V}(ha:H a=Vo (.tup xs))(hb:H b=Vo (.tup ys))(c:xs.length+ys.length<=sizeLine)(h:∀p H',Ext H H'->H' p=Vo (.tup (xs++ys))->Q (.ref p) H'):vD (.ref a) (.ref b) H Q:=⟨a,b,xs,ys,rfl,rfl,ha,hb,c,h⟩
mutual
inductive LitE:Vk->TE->Prop
 | non {j pos}:LitE (.Constant .none j pos) (tC .non)
 | bl {b j pos}:LitE (.Constant (.bool b) j pos) (tC (.bl b))
 | int {i j pos}:LitE (.Constant (.int i) j pos) (tC (.int i))
 | str {x j pos}:LitE (.Constant (.str x) j pos) (tC (.str x))
 | tup {es ta k pos}:LitsE es ta->LitE (.Tuple es k pos) (qg ta)
inductive LitsE:List Vk->TA->Prop
 | nil:LitsE [] fR
 | cons {e te es ta}:LitE e te->LitsE es ta->LitsE (e::es) (ly te ta)
end
def gE(c:Vb)(q:Vn):HO:=.ext λh=>h.CodeRec (.ref c) q
def El(r:h.CodeRec (.ref c) q):bC P w H h c (gE c q):=by
 refine⟨r,?_,λh1 h2 r1 k=>?_⟩
 .obtain⟨c',o,vs,t,e,g,_⟩:=r;cases e;exact⟨o,g⟩
 .obtain⟨c',o,vs,t,e,g,d⟩:=r1;cases e;exact⟨c,o,vs,t,rfl,k o g,d⟩
structure Tab(K:L8)(mg:Vn->Option Va)(base:Vh)(x:Vn)(c T:Vb):Prop where
 tin:Na K x=Vo (c,T)
 hd:Pn base c T
 blt:base.BuiltinsAt mg T
 gl:Vj≠T
 kin:K.In base
 ns:base.Ns Vj mg
section
variable {P:Vd} {w:Ve} {K:L8} {mg:Vn->Option Va} {base:Vh}
def DA{T f:Vb}(a:Na K x=Vo (c,T))(e:K.In base)(G:base.Ns Vj mg)(g:mg x=Vo (.ref f))(lk:K.lookup f=Vo o)(hd:o.data=.func fd):fd.code=.ref c:=by
 unfold Na at a;split at a
 .rename_i f' hf;have d:=NG e G hf;rw[g]at d;cases d;split at a
  .rename_i b;rw[lk]at b;cases b;cases hd;split at a
   .rename_i c2 hc;split at a
    .split at a
     .cases a;exact hc
     .cases a
    .cases a
   .cases a
  .cases a
 .cases a
def Dfn.okL{st:Vl}{T:Vb}(D:Dfn K mg x st ps)(B:Tab K mg base x c T)(S:FnScope N ps (aW st))(len:∀vs H Q E,sp vs H Q E->vs.length=ps.length)
  (a:∀X (i:∃f A outer s H E,X=(aU cW P w K mg base N x (aW st) f (.ref c) A outer s H E).nox/\Room k X.A) H vs Q E,sp vs H Q E ->
   ∃t,cD X (cB st) t/\t { nx:=λ_ H'=>Q .non H',rt:=Q } (start N vs) H):Cal P w K mg base x (k+1) ps sp:=by
 obtain⟨f,fd,d,F,hb⟩:=D.ex;refine⟨f,fd,d,F.kp,hb,?_⟩;obtain⟨oc,od,kV,doc,pm,an,cdv,ct,osl,rfl,lk,b⟩:=F.ex;have e:cdv=.ref c:=DA B.tin B.kin B.ns d lk rfl;subst e;refine lK lk b S len λA outer s H vs Q E g hsp=>?_;obtain⟨t,h,q⟩:=a _ ⟨f,A,outer,s,H,E,rfl,g⟩ H vs Q E hsp;exact⟨t,h.nox,q⟩
end
def xm(tabs:List (Vb×Vb))(H:Hp):Prop:=∀q∈tabs,H q.2=Vo (.tbl #[])
def Gp{K:L8}{Q:Vb}{c:Vc}
  (R:K.In c.heap) (hK:Ri K=true) (l:PySem.W.TabsAt tabs c.heap) (p:c.heap.Ns Vj mg) (hb:c.heap.Ns builtinsNs mb) (S:∀x:Vn,x≠"__name__"->mb x=bootBuiltins x) (I:c.heap.NoLimit)
  (T:∃bm ob,mg "__builtins__" = Vo (.ref bm)/\bm≠builtinsNs/\c.heap.get? bm=Vo ob/\ob.cls=.type "module"/\ob.dict=Vo builtinsNs/\ob.data=.plain) (hg:c.gens = #[])
  (ha:c.heap.get? a=Vo { cls:=.type "list",data:=.seq vs.toArray }) (hi:IntsAre vs ns) (Y:ns.length<=sizeLine) (hr:Room k callerA)
  (F:∀base,K.In base->base.Ns Vj mg->(∀q∈tabs,Pn base q.1 q.2/\base.BuiltinsAt mg q.2/\Vj≠q.2)->FnOk P w K mg base cW k Q fd [x] sp) (hbind:∀s u,BindsTo s fd ⟨[u],[]⟩ [(x,u)])
  (hsp:∀H,xm tabs H->af K H a (ns.map V.int)->sp [.ref a] H (λv _=>v=.bl true) λ_ _ _=>False) :
  codeAny (Vg P w) callerA (.call (.ref Q) ⟨[.ref a],[]⟩) (λr s'=>r=.ok (.ret (.bool true))/\OldK c.heap s'.heap/\s'.os=c.os/\AllBare s'.gens) c:=by
 have Z:=zD hi;have J:=hi.length;have na:∀q∈tabs,a≠q.2:=λq f z=>by have:=(l q f).2;rw[<-z,ha]at this;cases this
 have noT:∀{b:Vb} {o:Obj},c.heap.get? b=Vo o->o≠Po #[]->b∉tabs.map (·.2):=λ{b o} e n i=>by obtain⟨q,f,rfl⟩:=NR.mp i;have:=(l q f).2;rw[e]at this;exact n (MO this)
 have core:∀H,xm tabs H->af K H a (ns.map V.int)->bt P w H c.heap->(∀b,H b≠Vp->b=a\/b∈tabs.map (·.2))->(H a≠Vp->K.lookup a=Vp/\∃o xs,H a=Vo (.frz o (.lst xs))) ->
   codeAny (Vg P w) callerA (.call (.ref Q) ⟨[.ref a],[]⟩) (λr s'=>r=.ok (.ret (.bool true))/\OldK c.heap s'.heap/\s'.os=c.os/\AllBare s'.gens) c:=by
  intro H hO hS hok hA hKa;have free:∀{b:Vb} {o:Obj},c.heap.get? b=Vo o->o≠Po #[]->b≠a->H b=Vp:=λ{b o} e n nb=>by
   cases q:H b with
   | none=>rfl
   | some u=>
    rcases hA b (by rw[q];simp)with z|z
    .exact absurd z nb
    .exact absurd z (noT e n)
  have nsK:∀{b:Vb} {m:Vn->Option Va},c.heap.Ns b m->(fP c.heap H).Ns b m:=λ{b m} ⟨o,es,ep,e,d,r⟩=>⟨o,es,ep,mB e (free e (λz=>by rw[z]at d;cases d) λz=>by rw[z,ha]at e;cases e;cases(show Data.seq vs.toArray _=Data.dict es ep from d)),d,r⟩;have L:K.In (fP c.heap H):=λb o e=>mB (R b o e) (by
   by_cases z:b=a
   .subst z;cases q:H b with
    | none=>rfl
    | some u=>
     have:=(hKa (by rw[q];simp)).1;rw[this]at e;cases e
   .refine free (R b o e) (λC=>?_) z;have h2:=MJ.mp hK (b,o) (PySem.W.mem_of_lookupK e);subst C;exact absurd (h2) Ms)
  have hM:Mod K mg (fP c.heap H):=⟨L,nsK p,⟨mb,nsK hb,S⟩,let ⟨mc,h1,h2⟩:=I;⟨mc,nsK h1,h2⟩⟩;have e0:Env0 P w K mg (fP c.heap H) callerA [] c H:=⟨rfl,hM,λb o e=>IB e,Ph (DS _ _),trivial,λb hb=>absurd (show b∈([]:List Vb)from hb) (by simp),hok,.of_eq hg⟩;have E:∀q∈tabs,Pn (fP c.heap H) q.1 q.2/\(fP c.heap H).BuiltinsAt mg q.2/\Vj≠q.2:=λq f=>by
   refine⟨?_,?_,?_⟩
   .obtain⟨o,us,file,tf,flags,tg,U,text,tt,e,N,r⟩:=(l q f).1;exact⟨o,us,file,tf,flags,tg,U,text,tt,mB e (free e (λz=>by rw[z]at N;cases N) λz=>by rw[z,ha]at e;cases e;simp at N),N,r⟩
   .obtain⟨bm,ob,a1,a2,G,M,a5⟩:=T;refine⟨bm,ob,a1,a2,λz=>?_,λz=>?_,mB G (free G (λz=>by rw[z]at M;cases M) λz=>by rw[z,ha]at G;cases G;simp at M),M,a5⟩
    .obtain⟨o,es,ep,e,d,_⟩:=p;rw[<-z,G]at e;cases e;rw[a5.2]at d;cases d
    .have:=(l q f).2;rw[<-z,G]at this;cases this;cases M
   .intro z;obtain⟨o,es,ep,e,d,_⟩:=p;have:=(l q f).2;rw[<-z,e]at this;cases this;cases d
  refine codeAny_mono ((F _ L (nsK p) E).run callerA [] c H ⟨[.ref a],[]⟩ [.ref a] [.ref a] _ _ hr e0 (hbind c (.ref a)) (.cons rfl .nil) (hsp H hO hS)) λr s' h=>?_;cases r with
  | error e=>exact M7 h
  | ok fl=>
   cases fl with
   | next=>exact M7 h
   | brk=>exact M7 h
   | cont=>exact M7 h
   | ret u=>
    obtain⟨v,H',os,bare,un,hok',r',q⟩:=h;have q':v=.bl true:=q;subst q';obtain rfl:u=Value.bool true:=r';have keep:∀b o,c.heap.get? b=Vo o->b∉tabs.map (·.2)->s'.heap.get? b=Vo o:=λb o e nt=>by
     cases q:H b with
     | none=>exact un.keep b o e q (by intro z;exact absurd (show b∈([]:List Vb)from z) (by simp)) (by simp)
     | some u=>
      rcases hA b (by rw[q];simp)with z|z
      .subst z;obtain⟨_,ob,xs,z⟩:=hKa (by rw[q];simp);have C:=un.frzs b ob _ z;obtain⟨e1,_⟩:=hok b _ z;obtain⟨O,_⟩:=hok' b _ C;rw[e]at e1;cases e1;exact O
      .exact absurd z nt
    have grown:∀q∈tabs,∃more,s'.heap.get? q.2=Vo (Po (#[]++more)):=λq f=>by obtain⟨more,e⟩:=un.tbls q.2 _ (hO q f);exact⟨more,hok' q.2 _ e⟩
    refine⟨rfl,⟨λb o e=>?_,λb o e=>?_⟩,os,bare⟩
    .by_cases i:b∈tabs.map (·.2)
     .obtain⟨q,f,rfl⟩:=NR.mp i;obtain⟨more,g⟩:=grown q f;have O:=(l q f).2;rw[e]at O;cases O;exact .inr (.inl ⟨((l q f).1.tab (l q f).2).isCodeTable,rfl,#[],more,rfl,g⟩)
     .exact .inl (keep b o e i)
    .by_cases i:b∈tabs.map (·.2)
     .obtain⟨q,f,rfl⟩:=NR.mp i;obtain⟨more,g⟩:=grown q f;exact⟨_,g⟩
     .exact⟨o,keep b o e i⟩
 have y:∀(H:Hp) b,b∈tabs.map (·.2)->bC P w H c.heap b (.tbl #[]):=λH b i=>by obtain⟨q,f,rfl⟩:=NR.mp i;exact(l q f).2
 cases X:K.lookup a with
 | some o=>
  have e:=R a o X;rw[ha]at e;cases e;have at_:∀b,(if b∈tabs.map (·.2)then Vo (HO.tbl #[])else Vp)=(Vp:Option HO)\/b∈tabs.map (·.2):=λb=>by
   by_cases hb:b∈tabs.map (·.2)
   .exact .inr hb
   .exact .inl (M1 hb)
  have A:a∉tabs.map (·.2):=λi=>by obtain⟨q,f,e⟩:=NR.mp i;exact na q f e.symm
  refine core (λb=>if b∈tabs.map (·.2)then Vo (.tbl #[])else Vp) (λq f=>M3 (NR.mpr ⟨q,f,rfl⟩)) (.inr ⟨_,vs.toArray,_,X,rfl,rfl,rfl,by rw[Mi,J];exact Y,by simpa using Z⟩) (λb u z=>?_) (λb z=>?_) λz=>absurd (M1 A) z
  .by_cases hb:b∈tabs.map (·.2)
   .have B:=(M3 hb).symm.trans z;cases B;exact y _ b hb
   .have B:=(M1 hb).symm.trans z;cases B
  .rcases at_ b with h|h
   .exact absurd h z
   .exact .inr h
 | none=>
  have A:a∉tabs.map (·.2):=λi=>by obtain⟨q,f,e⟩:=NR.mp i;exact na q f e.symm
  refine core (λb=>if b=a then Vo (.frz { cls:=.type "list",data:=.seq vs.toArray } (.lst (ns.map V.int)))else if b∈tabs.map (·.2)then Vo (.tbl #[])else Vp) (λq f=>?_) (.inl (.inr ⟨{ cls:=.type "list",data:=.seq vs.toArray },M3 rfl⟩)) (λb u z=>?_) (λb z=>?_) λ_=>⟨X,_,_,M3 rfl⟩
  .show(if q.2=a then _ else _)=_;rw[M1 (NC (na q f)),M3 (NR.mpr ⟨q,f,rfl⟩)]
  .by_cases hb:b=a
   .have B:=(M3 hb).symm.trans z;cases B;subst hb;exact⟨ha,by rw[Mc];exact Y,vs,_,Z,ha⟩
   .have B:=(M1 hb).symm.trans z;by_cases j:b∈tabs.map (·.2)
    .have C:=(M3 j).symm.trans B;cases C;exact y _ b j
    .have C:=(M1 j).symm.trans B;cases C
  .by_cases hb:b=a
   .exact .inl hb
   .by_cases j:b∈tabs.map (·.2)
    .exact .inr j
    .exact absurd ((M1 hb).trans (M1 j)) z
def Et(H H':Hp):Prop:=∀b o,H b=Vo o->(∀ps,o≠.tbl ps)->H' b=Vo o
def Ext.et(e:Ext H H'):Et H H':=λb o h _=>e b o h
def Et.trans(a:Et H H1)(b:Et H1 H2):Et H H2:=λx o h n=>b x o (a x o h n) n
def eS(K:L8)(x q:Vn)(line col:Nat)(H:Hp):Prop:=∀c T,Na K x=Vo (c,T) ->
 H T=Vo (.tbl #[])\/∃c',H T=Vo (.tbl #[rawInt line,rawInt col,.ref c'])/\H c'=Vo (gE c' q)
def eS.ext{K:L8}(e:Ext H H')(h:eS K x q line col H):eS K x q line col H':=λc T a=>by
 rcases h c T a with h|⟨c',h1,h2⟩
 .exact .inl (e _ _ h)
 .exact .inr ⟨c',e _ _ h1,e _ _ h2⟩
section
variable {κ:Type} [DecidableEq κ]
def aZ(kvs:List (κ×V))(k:κ):Option V:=(kvs.find? λkv=>decide (kv.1=k)).map (·.2)
def putK(kvs:List (κ×V))(k:κ)(v:V):List (κ×V):=
 if(kvs.any λkv=>decide (kv.1=k))=true then kvs.map (λkv=>if kv.1=k then(kv.1,v)else kv)else kvs++[(k,v)]
def cQ{p:κ×V}{r:List (κ×V)}{k:κ}(e:p.1=k):aZ (p::r) k=Vo p.2:=by simp[aZ,Oo,e]
def dk{p:κ×V}{r:List (κ×V)}{k:κ}(e:¬p.1=k):aZ (p::r) k=aZ r k:=by simp[aZ,Oo,e]
theorem qD(k:κ):∀kvs:List (κ×V),(kvs.any λkv=>decide (kv.1=k))=(aZ kvs k).isSome
 | []=>rfl
 | p::r=>by
  rw[PR];by_cases e:p.1=k
  .simp only[cQ e,M0 e,Bool.true_or,Rz]
  .rw[dk e,MZ e,Bool.false_or];exact qD k r
def uW(kvs:List (κ×V))(k:κ)(v:V):(putK kvs k v).length<=kvs.length+1:=by
 unfold putK;split
 .rw[Mc];omega
 .rw[Mu,ME,RS];omega
def Ip{kvs:List (κ×V)}{k:κ}(v:V)(h:aZ kvs k=Vp):putK kvs k v=kvs++[(k,v)]:=by unfold putK;rw[qD,h];exact M1 (by decide)
def dw.isSome_eq{o:Option V}{u:Option Va}(r:dw o u):o.isSome=u.isSome:=by
 cases o with
 | none=>cases u with
  | none=>rfl
  | some _=>exact(r).elim
 | some _=>cases u with
  | none=>exact(r).elim
  | some _=>rfl
def KV.val{kvs:List (κ×V)}{vs:List (κ×Va)}(r:KV kvs vs)(k:κ):dw (aZ kvs k) (valueAt vs k):=by
 induction r with
 | nil=>exact True.intro
 | @cons p q ps a h t d=>
  obtain⟨h1,h2⟩:=h;by_cases e:p.1=k
  .have c:=h1.symm.trans e;have b:valueAt (q::a) k=Vo q.2:=by simp[valueAt,Oo,c]
   rw[cQ e,b];exact h2
  .have c:¬q.1=k:=λz=>e (h1.trans z);have b:valueAt (q::a) k=valueAt a k:=by simp[valueAt,Oo,c]
   rw[dk e,b];exact d
theorem KV.any{kvs:List (κ×V)}{vs:List (κ×Va)}(r:KV kvs vs)(k:κ):(kvs.any λkv=>decide (kv.1=k))=vs.any λkv=>decide (kv.1=k):=by
 induction r with
 | nil=>rfl
 | cons h t a=>rw[PR,PR,a,h.1]
def KV.repl{kvs:List (κ×V)}{vs:List (κ×Va)}(r:KV kvs vs)(k:κ)(a:RelV y u):
  KV (kvs.map λkv=>if kv.1=k then(kv.1,y)else kv) (vs.map λkv=>if kv.1=k then(kv.1,u)else kv):=by
 induction r with
 | nil=>exact .nil
 | @cons p q ps c h t b=>
  rw[NS,NS];refine .cons ?_ b;obtain⟨h1,h2⟩:=h;by_cases e:p.1=k
  .rw[M3 e,M3 (h1.symm.trans e)];exact⟨h1,a⟩
  .rw[M1 e,M1 (λz=>e (h1.trans z))];exact⟨h1,h2⟩
def KV.put{kvs:List (κ×V)}{vs:List (κ×Va)}(r:KV kvs vs)(k:κ)(a:RelV y u):KV (putK kvs k y) (stored vs k u):=by
 unfold putK stored;rw[r.any k];by_cases e:(vs.any λkv=>decide (kv.1=k))=true
 .rw[M3 e,M3 e];exact r.repl k a
 .rw[M1 e,M1 e];exact O8 r ⟨rfl,a⟩
def KV.keys{kvs:List (κ×V)}{vs:List (κ×Va)}(r:KV kvs vs):kvs.map (·.1)=vs.map (·.1):=by
 induction r with
 | nil=>rfl
 | cons h t a=>rw[NS,NS,a,h.1]
theorem KV.length{kvs:List (κ×V)}{vs:List (κ×Va)}(r:KV kvs vs):kvs.length=vs.length:=N9 r
end
def ia(r:RelV (kV k) u):(cN P w).is k u=true:=by
 cases k with
 | inl i=>obtain⟨t,e⟩:=(show ∃t,u=Value.int i t from r);subst e;exact Lh P w i t
 | inr x=>obtain⟨t,e⟩:=(show ∃t,u=Value.str x t from r);subst e;exact rz P w x t
theorem sf{P:Vd}{w:Ve}:∀{ks:List Key} {us:List Va},Vals (ks.map kV) us->ItemsAre (cN P w) ks us
 | [],_,r=>by cases r;exact .nil
 | k::ks,_,r=>by
  cases r with
  | cons h t=>exact .cons (ia h) (sf t)
abbrev KT(H:Hp):List (List Key×V)->List (List Key×Vb×Va)->Prop:=Paired λp q=>p.1=q.1/\H q.2.1=Vo (.tup (p.1.map kV))/\RelV p.2 q.2.2
def KT.val{xs:List (List Key×Vb×Va)}(r:KT H kvs xs)(k):dw (aZ kvs k) ((atKey xs k).map (·.2)):=by
 induction r with
 | nil=>exact True.intro
 | @cons p q ps a h t d=>
  obtain⟨h1,_,h2⟩:=h;by_cases e:p.1=k
  .have c:=h1.symm.trans e;have b:atKey (q::a) k=Vo q.2:=by simp[atKey,Oo,c]
   rw[cQ e,b];exact h2
  .have c:¬q.1=k:=λz=>e (h1.trans z);have b:atKey (q::a) k=atKey a k:=by simp[atKey,Oo,c]
   rw[dk e,b];exact d
def KT.repl{xs:List (List Key×Vb×Va)}(r:KT H kvs xs)(k)(a:RelV y u):
  KT H (kvs.map λkv=>if kv.1=k then(kv.1,y)else kv) (xs.map (putAt k u)):=by
 induction r with
 | nil=>exact .nil
 | @cons p q ps d h t b=>
  rw[NS,NS];refine .cons ?_ b;obtain⟨h1,h2,c⟩:=h;unfold putAt;by_cases e:p.1=k
  .rw[M3 e,M3 (h1.symm.trans e)];exact⟨h1,h2,a⟩
  .rw[M1 e,M1 (λz=>e (h1.trans z))];exact⟨h1,h2,c⟩
def KT.put{xs:List (List Key×Vb×Va)}(r:KT H kvs xs)(k)(hb:H b=Vo (.tup (k.map kV)))(a:RelV y u):
  KT H (putK kvs k y) (storedH xs k b u):=by
 have e:(kvs.any λkv=>decide (kv.1=k))=(atKey xs k).isSome:=by rw[qD,(r.val k).isSome_eq,Qt]
 unfold putK storedH;rw[e];by_cases q:(atKey xs k).isSome=true
 .rw[M3 q,M3 q];exact r.repl k a
 .rw[M1 q,M1 q];exact O8 r ⟨rfl,hb,a⟩
def KT.keeps{xs:List (List Key×Vb×Va)}(r:KT H kvs xs)(a:∀b ys,H b=Vo (.tup ys)->H' b=Vo (.tup ys)):KT H' kvs xs:=
 Paired.mapP r λ_ _ z=>⟨z.1,a _ _ z.2.1,z.2.2⟩
section
variable {P:Vd} {w:Ve} {H:Hp} {h:Vh} {a:Vb}
def nX{u:HO}(ok:bt P w H h)(e:Rd H a u):bC P w H h a u:=e.ok ok
def kj{kvs:List (Key×V)}(ok:bt P w H h)(e:Rd H a (.dK kvs)):kvs.length<=sizeLine/\(a == sysModules)=false/\∃vs,KV kvs vs/\h.DictOf (cN P w) a vs:=
 show bC P w H h a (.dK kvs)from nX ok e
def Ll{kvs:List (Key×V)}(ok:bt P w H h)(e:H a=Vo (.dK kvs)):kvs.length<=sizeLine/\(a == sysModules)=false/\∃vs,KV kvs vs/\h.DictOf (cN P w) a vs:=kj ok (.inl e)
def jz(ok:bt P w H h)(e:H a=Vo (.tup (ks.map kV))):(tupleKind (cN P w)).is h ks a:=by obtain⟨_,b,r,o,h1,h2,n,c⟩:=(show bC P w H h a (.tup (ks.map kV))from ok a _ e);exact⟨o,b.toArray,n,h1,h2,c,by simpa using sf r⟩
def kX(ok:bt P w H h)(e:Rd H a (.dT kvs)):kvs.length<=sizeLine/\(a == sysModules)=false ∧
  ∃xs,KT H kvs xs/\h.DictOfH (tupleKind (cN P w)) a xs:=by
 obtain⟨z,y,xs,r,o,es,ep,h1,h2,d,f,g⟩:=(show bC P w H h a (.dT kvs)from nX ok e);refine⟨z,y,xs,r,o,es,ep,h1,h2,d,f,λx b=>?_,g⟩;have all:∀{l:List (List Key×V)} {m:List (List Key×Vb×Va)},KT H l m->∀x∈m,(tupleKind (cN P w)).is h x.1 x.2.1:=by
  intro l m q;induction q with
  | nil=>intro x b;exact nomatch b
  | @cons p q ps j c t i=>
   intro x b;rcases Mr.mp b with e|b
   .subst e;exact jz ok (by rw[<-c.1];exact c.2.1)
   .exact i x b
 exact all r x b
def xM(ok:bt P w H h)(e:H a=Vo (.dT kvs)):kvs.length<=sizeLine/\(a == sysModules)=false ∧
  ∃xs,KT H kvs xs/\h.DictOfH (tupleKind (cN P w)) a xs:=kX ok (.inl e)
end
def cF(H:Hp)(a:Vb)(y:V)(r:Option V):Prop:=
 (∃kvs k,Rd H a (.dK kvs)/\y=kV k/\r=aZ kvs k)\/∃kvs k b,Rd H a (.dT kvs)/\y=.ref b/\H b=Vo (.tup (k.map kV))/\r=aZ kvs k
def gQ(H:Hp)(a:Vb)(y v:V)(H':Hp):Prop:=
 (∃kvs k,H a=Vo (.dK kvs)/\y=kV k/\kvs.length<sizeLine/\H'=upd H a (.dK (putK kvs k v))) ∨
 ∃kvs k b,H a=Vo (.dT kvs)/\y=.ref b/\H b=Vo (.tup (k.map kV))/\kvs.length<sizeLine/\H'=upd H a (.dT (putK kvs k v))
def cF.t(e:H a=Vo (.dT kvs))(c:H b=Vo (.tup (k.map kV))):cF H a (.ref b) (aZ kvs k):=.inr ⟨kvs,k,b,.inl e,rfl,c,rfl⟩
def gQ.t(e:H a=Vo (.dT kvs))(c:H b=Vo (.tup (k.map kV)))(d:kvs.length<sizeLine):
  gQ H a (.ref b) v (upd H a (.dT (putK kvs k v))):=.inr ⟨kvs,k,b,e,rfl,c,d,rfl⟩
section
variable {X:Cx} {pins:List (Vb×Obj)} {σ:St} {H:Hp} {s:Vc} {a:Vb} {y v:V} {u r:Va} {o:Option V} {A:Vi} {E:Va->Vc->Prop}
def Inv.big(I:Inv X pins σ H s):sysModules<s.heap.objs.size:=by have h:Vj<s.heap.objs.size:=(I.mod.glob.keeps I.bk).lt;exact RE (by decide) h
def KR(n:A.units+1<cLine)(I:Inv X pins σ H s)(g:cF H a y (Vo v))(m:RelV y u)(h:∀d s',Inv X pins σ H s'->RelV v d->Q d s'):
  Vf (Vg X.prog X.w) A (getItem (.ref a) u) Q E s:=by
 rcases g with⟨kvs,k,e,f,l⟩|⟨kvs,k,b,e,f,q,l⟩
 .subst f;obtain⟨z,hd,vs,rel,dd⟩:=kj I.hok e;obtain⟨d,i,c⟩:=dw.some_of (v:=v) (o:=valueAt vs k) (by rw[l];exact rel.val k);exact wpAny_getItem_of (ia m) dd.mapOf i (h d _ (I.tok _) c)
 .subst f;cases(m);obtain⟨z,hd,xs,rel,dd⟩:=kX I.hok e;obtain⟨d,i,c⟩:=dw.some_of (v:=v) (o:=(atKey xs k).map (·.2)) (by rw[l];exact rel.val k);obtain⟨p,r,j⟩:=Mp.mp i;refine wpAny_getItem_heap (tupleKind_room_in1 n) (jz I.hok q) dd r ?_;rw[j];exact h d _ (I.tok _) c
def GC(f:A.units+1<cLine)(I:Inv X pins σ H s)(g:cF H a y o)(d:RelV y u)(h:∀s',Inv X pins σ H s'->Q (.bool o.isSome) s'):
  Vf (Vg X.prog X.w) A (compareOp .In u (.ref a)) Q E s:=by
 rcases g with⟨kvs,k,e,c,l⟩|⟨kvs,k,b,e,c,i,l⟩
 .subst c;obtain⟨z,hd,vs,rel,dd⟩:=kj I.hok e;refine wpAny_in_of (ia d) hd dd.mapOf ?_;rw[<-(rel.val k).isSome_eq,<-l];exact h _ (I.tok _)
 .subst c;cases(d);obtain⟨z,hd,xs,rel,dd⟩:=kX I.hok e;refine wpAny_in_heap (tupleKind_room_in1 f) (jz I.hok i) hd dd ?_;have q:=(rel.val k).isSome_eq;rw[Qt]at q;rw[<-q,<-l];exact h _ (I.tok _)
def FU(f:A.units+1<cLine)(I:Inv X pins σ H s)(g:cF H a y o)(d:RelV y u)(h:∀s',Inv X pins σ H s'->Q (.bool (!o.isSome)) s'):
  Vf (Vg X.prog X.w) A (compareOp .NotIn u (.ref a)) Q E s:=by
 rcases g with⟨kvs,k,e,c,l⟩|⟨kvs,k,b,e,c,i,l⟩
 .subst c;obtain⟨z,hd,vs,rel,dd⟩:=kj I.hok e;refine wpAny_notIn_of (ia d) hd dd.mapOf ?_;rw[<-(rel.val k).isSome_eq,<-l];exact h _ (I.tok _)
 .subst c;cases(d);obtain⟨z,hd,xs,rel,dd⟩:=kX I.hok e;refine wpAny_notIn_heap (tupleKind_room_in1 f) (jz I.hok i) hd dd ?_;have q:=(rel.val k).isSome_eq;rw[Qt]at q;rw[<-q,<-l];exact h _ (I.tok _)
def lQ(I:Inv X pins σ H s)(c:kI (H a))(hs:Nw a s.heap h')(d:∃q,h'.get? a=Vo q)(new:bC X.prog X.w (upd H a ob) h' a ob):
  Inv X pins σ (upd H a ob) { s with heap:=h',toks:=t' }:=
 I.write c (.inl rfl) (λb q hb z=>(hs.2 b hb).trans z) d new
def md{kvs:List (Key×V)}(z:kvs.length<=sizeLine)(hd:(a == sysModules)=false)(rel:KV kvs vs)(dd:h'.DictOf (cN P w) a vs):
  bC P w H' h' a (.dK kvs):=⟨z,hd,vs,rel,dd⟩
def JD{Q:Unit->Vc->Prop}(C:A.units+1<cLine)(I:Inv X pins σ H s)(g:gQ H a y v H')(o:RelV y u)(p:RelV v r)(h:∀s',Inv X pins σ H' s'->Q () s'):
  Vf (Vg X.prog X.w) A (setItem (.ref a) u r) Q E s:=by
 rcases g with⟨kvs,k,e,i,l,j⟩|⟨kvs,k,b,e,i,x,l,j⟩
 .subst i j;obtain⟨z,hd,vs,rel,dd⟩:=Ll I.hok e;have m:vs.length<=sizeLine:=by rw[<-rel.length];exact z
  have n:(putK kvs k v).length<=sizeLine:=by have:=uW kvs k v;omega
  refine wpAny_setItem_pairs (hsz:=m) (ia o) dd λh' d hs=>h _ ?_;have F:∃q,h'.get? a=Vo q:=let ⟨q,_,_,f,_⟩:=d;⟨q,f⟩;exact lQ I (by rw[e];exact True.intro) hs F (md n hd (rel.put k p) d)
 .subst i j;cases(o);obtain⟨z,hd,xs,rel,dd⟩:=xM I.hok e;have m:xs.length<=sizeLine:=by rw[<-N9 rel];exact z
  have n:(putK kvs k v).length<=sizeLine:=by have:=uW kvs k v;omega
  refine wpAny_setItem_heap (tupleKind_room_in1 C) (jz I.hok x) dd λh' d hs=>h _ ?_;obtain⟨q,es,ep,f,h2,G,J,_,L⟩:=d;refine lQ I (by rw[e];exact True.intro) hs ⟨q,f⟩ ⟨n,hd,_,(rel.put k x p).keeps λc ys B=>?_,q,es,ep,f,h2,G,J,L⟩;rw[aq (cY B e (λz=>nomatch z))];exact B
end
def sh(i:Vk):Prop:=∀a b,subscripted i false a b=operate [a,b] (getItem a b)
def wm{id:String}
  (j:typeLookup (.type T) "__getitem__" = pure (Vo (.builtin id))) (hs:sh slice)
  (h:Vf (Vg prog w) A (eval value env) (λo c=>Vf (Vg prog w) A (eval slice env) (λi a=>a.TypeIs o T/\Vf (Vg prog w) A (getItem o i) Q E a) E c) E s) :
  Vf (Vg prog w) A (eval (.Subscript value slice pos) env) Q E s:=by
 refine Subscript_ (wpAny_mono h (λo c e=>wpAny_mono e (λi a b=>?_) λ_ _ x=>x) λ_ _ x=>x);obtain⟨g,b⟩:=b;refine L6 ?_;refine L6 (wpAny_specialOf g j ?_);have fin:Vf (Vg prog w) A (subscripted slice false o i) (λr d=>Vf (Vg prog w) A (letTemporaryGo value o r >>= λ_=>pure r) Q E d) E a:=by rw[hs o i];exact wpAny_operating (wpAny_mono b (λr d f=>L6 (wpAny_letTemporaryGo (L7 f))) λ_ _ x=>x)
 first
  | exact L7 (L6 fin)
  | exact L6 (L7 (L6 fin))
  | exact L6 fin
def IE{o:Option V}(I:Inv X pins σ H s)(g:cF H a y o):s.TypeIs (.ref a) "dict":=by
 rcases g with⟨kvs,k,e,_,_⟩|⟨kvs,k,b,e,_,_,_⟩
 .obtain⟨_,_,vs,_,dd⟩:=kj I.hok e;exact dd.typeIs
 .obtain⟨_,_,xs,_,dd⟩:=kX I.hok e;exact dd.typeIs
def ym(td ty:TE):TE:=λσ H Q=>td σ H λx H1=>ty σ H1 λy H2=>∃a v,x=.ref a/\cF H2 a y (Vo v)/\Q v H2
def ze(ty td:TE):TE:=λσ H Q=>ty σ H λy H1=>td σ H1 λx H2=>∃a o,x=.ref a/\cF H2 a y o/\Q (.bl o.isSome) H2
def Bz(ty td:TE):TE:=λσ H Q=>ty σ H λy H1=>td σ H1 λx H2=>∃a o,x=.ref a/\cF H2 a y o/\Q (.bl (!o.isSome)) H2
def AV(td ty tv:TE):TS:=λD σ H=>tv σ H λv H1=>td σ H1 λx H2=>ty σ H2 λy c=>∃a b,x=.ref a/\gQ c a y v b/\D.nx σ b
section
variable {X:Cx} {o i e value:Vk} {pos pos' tpos:Pos} {td ty tv:TE}
def ef(d:X.A.units+1<cLine)(ho:PE X o td)(hi:PE X i ty)(hs:sh i):PE X (.Subscript o i pos) (ym td ty):=by intro pins s σ H Q I h;refine wm Qo.lookup hs (ax (ho pins s σ H _ I h) λu s1 ⟨x,H1,e,f,j⟩=>ax (hi pins s1 σ H1 _ e j) λn s2 ⟨y,H2,c,k,a,v,ex,g,l⟩=>?_);subst ex;obtain rfl:u=Value.ref a:=f;exact⟨IE c g,KR d c g k λp q m b=>⟨v,H2,m,b,l⟩⟩
def DW(b:X.A.units+1<cLine)(hi:PE X i ty)(ho:PE X o td):PC X .In i o (ze ty td):=by intro pins s σ H Q I h;refine ax (hi pins s σ H _ I h) λn s1 ⟨y,H1,c,d,e⟩=>ax (ho pins s1 σ H1 _ c e) λu s2 ⟨x,H2,f,j,a,k,ex,g,l⟩=>?_;subst ex;obtain rfl:u=Value.ref a:=j;exact GC b f g d λp m=>⟨.bl k.isSome,H2,m,rfl,l⟩
def kh(b:X.A.units+1<cLine)(hi:PE X i ty)(ho:PE X o td):PC X .NotIn i o (Bz ty td):=by intro pins s σ H Q I h;refine ax (hi pins s σ H _ I h) λn s1 ⟨y,H1,c,d,e⟩=>ax (ho pins s1 σ H1 _ c e) λu s2 ⟨x,H2,f,j,a,k,ex,g,l⟩=>?_;subst ex;obtain rfl:u=Value.ref a:=j;exact FU b f g d λp m=>⟨.bl (!k.isSome),H2,m,rfl,l⟩
def i3(b:X.A.units+1<cLine)(ho:PE X o td)(hi:PE X i ty)(hv:PE X value tv)(hs:swapsWith value (Vo (.Subscript o i pos')) pos.line X.env=pure false):
  PS X (.Assign [.Subscript o i pos'] value pos) (AV td ty tv):=by
 intro pins s σ H D I h;refine wpAny_Assign_Subscript (ax (hv pins s σ H _ I h) λr s1 ⟨v,H1,c,d,e⟩=>ax (ho pins s1 σ H1 _ c e) λu s2 ⟨x,H2,f,j,k⟩=>ax (hi pins s2 σ H2 _ f k) λw z ⟨y,B,l,m,a,n,ex,g,p⟩=>?_) hs;subst ex;obtain rfl:u=Value.ref a:=j;exact JD b l g m d λC q=>⟨σ,n,q,p⟩
end
def uN(h:Vh)(hb:sysModules<h.objs.size):bC P w H (h.push { cls:=.type "dict",data:=.dict #[] }) h.objs.size (.dT []):=
 ⟨LI _,beq_eq_false_iff_ne.mpr (NC (Mv hb)),[],.nil,_,#[],0,Ma _ rfl,⟨rfl,rfl,rfl⟩,rfl,rfl,Pp⟩
def Jt:TE:=λ_ H Q=>∀p,H p=Vp->Q (.ref p) (upd H p (.dT []))
section
variable {X:Cx} {pos:Pos}
def lH:PE X (.Dict [] [] pos) Jt:=λpins s σ H Q I h=>
 wpAny_Dict_empty ⟨.ref s.heap.objs.size,_,I.laid (λ_ _ q=>L9 _ q) (Mw _) (uN s.heap I.big),rfl,h _ (I.hok.fresh (Mw _))⟩
end
def IQ:entryFor table "proto.unchain" = Vo Builtin.«proto.unchain»:=entryFor_of_fast (by kernel_rfl)
def KA(o:Obj)(f):(o.mapFields f).dict=o.dict:=by unfold Nh;split<;>rfl
def bL(h:Vh)(x:Vb)(dd:Option Vb):Prop:=∃o vs,h.get? x=Vo o/\o.data=.fields vs/\vs[2]?=Vo .none/\∀d,dd=Vo d->o.dict=Vo d
section
variable {prog:Vd} {w:Ve} {A:Vi} {E:Va->Vc->Prop} {s:Vc} {dd:Option Vb}
def Lg(a:bL s.heap x dd)(q:Q .none s):
  Vf (Vg prog w) A (runValue (.builtin "proto.unchain" ⟨[e,.ref x,.ref x,.bool false],[]⟩)) Q E s:=by
 obtain⟨o,vs,h1,h2,b,_⟩:=a;refine wpAny_runValue (codeAny_builtin IQ ?_);refine L6 (wpAny_field h1 h2 b ?_);exact L7 q
def GJ{Q:α->Vc->Prop}(b:A.handled=Vo (.ref x))(c:bL s.heap x dd)(hne:x≠a)(ho:s.heap.get? a=Vo o)(hd:o.data=.fields vs)(d:2<vs.size)
  (q:∀h',Nw a s.heap h'->(∃o',h'.get? a=Vo o'/\o'.cls=o.cls)->E (.ref a) { s with heap:=h' }):Vf (Vg prog w) A (raiseNew (.ref a):Sem α) Q E s:=by
 refine L6 (wpAny_handled ?_);rw[b];have e:(Value.ref x != Value.ref a)=true:=by simp[hne]
 dsimp only;rw[M3 e];refine L6 (wpAny_holding (Lg c ?_));refine L6 ?_;refine wpAny_setField ho hd d ?_;refine wpAny_throw (q _ (M9 ..) ⟨_,NA _ ho (N6 (Nd hd _)),Pm ..⟩)
def bL.keeps(a:bL h x dd)(k:∀b o,h.get? b=Vo o->h'.get? b=Vo o):bL h' x dd:=let ⟨o,vs,e,r⟩:=a;⟨o,vs,k _ _ e,r⟩
def xF{Q:α->Vc->Prop}(d:A.handled=Vo (.ref x))(c:bL s.heap x dd)
  (q:∀h' e,(∀b o,s.heap.get? b=Vo o->h'.get? b=Vo o)->(∃o,h'.get? e=Vo o/\o.cls=.type "StopIteration")->E (.ref e) { s with heap:=h' }) :
  Vf (Vg prog w) A (Builtin.SmallTypes.stopIteration:Sem α) Q E s:=by
 refine L6 ?_;refine L6 (wpAny_newObj_type ?_ (by size_fits));refine L6 (wpAny_of_eq (by first|rfl|(unfold firstArgMember;rfl)) (wpAny_newObj_type ?_ (by size_fits)));have lt:=Mb c.choose_spec.choose_spec.1;refine GJ d (c.keeps λb o e=>L9 _ (L9 _ e)) (Mv ?_) (Ma _ rfl) rfl (by simp[ownMembersOf]) λh' k z=>?_
 .rw[L3];exact Nl lt
 .obtain⟨o',f,g⟩:=z;refine q h' _ (λb o e=>?_) ⟨o',f,g⟩;have h:=Mb e;rw[k.2 b (Mv (by rw[L3];exact Nl h))];exact L9 _ (L9 _ e)
def wC{Q:Option Va->Vc->Prop}
  (h:Vf (Vg prog w) A (callSpecial? (.ref it) "__next__") (λ_ _=>False) (λe s'=>∃p o,e=.ref p/\s'.heap.get? p=Vo o/\o.cls=.type "StopIteration"/\Q Vp s') s) :
  Vf (Vg prog w) A (pyNext (.ref it)) Q E s:=by
 refine L6 (wpAny_attempt (wpAny_mono h (λ_ _ z=>z.elim) λe s' z=>?_));obtain⟨p,o,rfl,a,c,d⟩:=z;exact L6 (wpAny_isInstance ⟨o,a,c⟩ isSubtype_stop (L7 d))
def Dp{it l x:Vb}{Q:Option Va->Vc->Prop}(f:A.handled=Vo (.ref x))(g:bL s.heap x dd)(a:x≠it)
  (hit:s.heap.IsListIter it l i) (h:s.heap.IsList l items) (hi:items[i]?=Vp) (j:∀h',N1 it s.heap h'->Q Vp { s with heap:=h' }):Vf (Vg prog w) A (pyNext (.ref it)) Q E s:=by
 obtain⟨o,ho,B,hd⟩:=id hit;obtain⟨ol,c,_,nl,d⟩:=h;refine wC ?_;refine MX hit.typeIs slot_listiter_next (wpAny_call_entry slot_listiter_next hit.typeIs entry_listiter_next ?_ (args_listiter_next _));have m:¬((Value.ref l == Value.none)=true):=Ms;show Vf _ _ (field (.ref it) 0 >>= λq=>_) _ _ s;refine L6 (wpAny_field ho hd rfl ?_);refine L6 (wpAny_field ho hd rfl ?_);refine L6 (wpAny_seqItems c d ?_);simp only[Mq,hi];have S:=M9 s.heap it (Nh (·.setIfInBounds 0 Value.none));refine L6 (wpAny_rule (L6 (wpAny_setField ho hd (by simp) ?_)));have al:bL (s.heap.update it (Nh (·.setIfInBounds 0 Value.none))) x dd:=by obtain⟨ox,vs,n,r⟩:=g;exact⟨ox,vs,(S.2 x a).trans n,r⟩
 refine xF f al λh' e k z=>?_;obtain⟨p,u,v⟩:=z;exact⟨e,p,rfl,u,v,j h' λb o' hb y=>k b o' ((S.2 b hb).trans y)⟩
end
section
variable {M:Model} {A:Vi} {E:Va->Vc->Prop} {s:Vc} {dd:Option Vb}
def bL.eq(a:bL h x dd)(k:h'.get? x=h.get? x):bL h' x dd:=let ⟨o,vs,e,r⟩:=a;⟨o,vs,k.trans e,r⟩
def o5{p:Va}{Q:Unit->Vc->Prop}(k:B.StaysIn s.heap)(r:s.heap.FunFrames B l)(u:s.heap.TracedAtW B e cls a0 p)(al:bL s.heap e dd)
  (q:∀h',B.StaysIn h'->h'.FunFrames B l->h'.TracedW B e cls a0->s.heap.UpToSlots h'->bL h' e dd->Q () { s with heap:=h' }):Vf M A (setFlight (.ref e) Vp) Q E s:=by
 obtain⟨oe,vs,T,y,ts,h,v,i,j,m,d,g,c,w⟩:=u;have z:3<ts.size:=(N2.mp w).1;have S:=M9 s.heap T (Nh (·.setIfInBounds 3 ((Vp:Option Vb).elim Value.none λf=>rawInt f)));have n:∀b o,s.heap.get? b=Vo o->(∀us,o.data≠.fields us)->b≠T:=by rintro b o hb a rfl;rw[g]at hb;cases hb;exact a ts c
 have x:(Value.ref T != Value.none)=true:=by simp
 refine L6 (wpAny_field h i j ?_);refine wpAny_setField g c z (q _ (λb o hb=>(S.2 b ?_).trans (k b o hb)) (r.of_keeps λb o hb a=>⟨o,(S.2 b (n b o hb a)).trans hb,rfl⟩) ?_ (λb o hb a=>⟨o.slots,(S.2 b (n b o hb a)).trans hb⟩) (al.eq (S.2 e (NC d))))
 .rintro rfl;rw[m]at hb;cases hb
 .exact⟨oe,vs,T,_,_,(S.2 e (NC d)).trans h,v,i,j,m,d,NA _ g (N6 (Nd c _)),Nd c _,by simp[z]⟩
def CC{Q:Unit->Vc->Prop}(i:A.frames=Vo (env::outer))(g:s.heap.FunFrames B (env::outer))(G:env.frame=Vo L)
  (j:s.heap.get? e=Vo oe) (k:B.StaysIn s.heap) (l:B.get? e=Vp) (c:oe.data=.fields vs) (z:1<vs.size) (H:vs[0]?=Vo a0) (h2:vs[2]?=Vo .none) (m:∀d,dd=Vo d->oe.dict=Vo d)
  (q:∀h',Heap.NotedW B (env::outer) e oe.cls a0 (rawInt L) s.heap h'->bL h' e dd->Q () { s with heap:=h' }) :
  Vf M A (frameOf env >>= λa=>entryPlaceOf L more >>= λpl=>EntryCells.newEntry head a .none (rawInt L) .none pl >>= λb=>setField (.ref e) 1 b) Q E s:=by
 have ne:e∉(env::outer).filterMap (·.frame):=λn=>by obtain⟨_,o,ho,f⟩:=g.mem n;rw[j]at ho;cases ho;exact f vs c
 refine L6 (wpAny_frameOf_fun i g G λh1 p=>L6 (wpAny_entryPlaceOf λpl r=>L6 ?_));refine wpAny_newObj_type ?_ (r.sizeOk5 _ _ _ _ _);have v:(([head,.ref L,.none,rawInt L,.none]++(if pl.isEmpty then MR 6 Value.none else pl)).toArray)[3]?=Vo (rawInt L):=by simp
 generalize ([head,.ref L,.none,rawInt L,.none]++(if pl.isEmpty then MR 6 Value.none else pl)).toArray=ts at v ⊢;have w:h1.get? e=Vo oe:=(p.2.1 e ne).trans j;have k1:B.StaysIn h1:=λb o hb=>(p.2.1 b λn=>by rw[(g.mem n).1]at hb;cases hb).trans (k b o hb);have x:h1.objs.size≠e:=NU (Mb w);have y:=L9 (h:=h1) { cls:=.type "traceback",dict:=Vp,data:=.fields ts } w;have I:=Ma h1 (o:={ cls:=.type "traceback",dict:=Vp,data:=.fields ts }) rfl;refine wpAny_setField y c z (q _ ?_ ?_)
 all_goals
  have u:=M9 (h1.push { cls:=.type "traceback",dict:=Vp,data:=.fields ts }) e (Nh (·.setIfInBounds 1 (Value.ref h1.objs.size)));have C:=NA (Nh (·.setIfInBounds 1 (Value.ref h1.objs.size))) y (N6 (Nd c _));have F:=Nd c (·.setIfInBounds 1 (Value.ref h1.objs.size))
 .have up:∀b o,s.heap.get? b=Vo o->(∀us,o.data≠.fields us)->∃sl,((h1.push { cls:=.type "traceback",dict:=Vp,data:=.fields ts }).update e (Nh (·.setIfInBounds 1 (Value.ref h1.objs.size)))).get? b=Vo { o with slots:=sl }:=λb o hb f=>by
   obtain⟨sl,hs⟩:=p.2.2 b o hb;have nb:b≠e:=by rintro rfl;rw[j]at hb;cases hb;exact f vs c
   exact⟨sl,(u.2 b nb).trans (L9 _ hs)⟩
  refine⟨λb o hb=>?_,g.of_keeps λb o hb f=>?_,⟨_,_,h1.objs.size,_,ts,C,⟨Pm ..,?_⟩,F,?_,k1.fresh,x,(u.2 _ x).trans I,rfl,v⟩,up⟩
  .have nb:b≠e:=by rintro rfl;rw[l]at hb;cases hb
   exact(u.2 b nb).trans (L9 _ (k1 b o hb))
  .obtain⟨sl,z⟩:=up b o hb f;exact⟨_,z,rfl⟩
  .rw[Px (by decide)];exact H
  .simp[z]
 .refine⟨_,_,C,F,by rw[Px (by decide)];exact h2,λd z=>?_⟩;rw[<-m d z];exact KA ..
def zc{Q:Unit->Vc->Prop}(f:A.frames=Vo (env::outer))(n:env.frame=Vo L)(v:N3 B (env::outer) e cls a0 s.heap)(al:bL s.heap e dd)
  (q:∀h',Heap.HeldW B (env::outer) e cls a0 L h'->s.heap.UpToSlots h'->bL h' e dd->Q () { s with heap:=h' }):Vf M A (noteFrame (.ref e) env) Q E s:=by
 obtain⟨k,c,w,oe,vs,T,J,ts,g,⟨rfl,x⟩,h,p,y,C,i,j,r⟩:=v;have h2:vs[2]?=Vo .none/\∀d,dd=Vo d->oe.dict=Vo d:=by obtain⟨o',F,x1,x2,l⟩:=al;rw[g]at x1;cases x1;rw[h]at x2;cases x2;exact l
 have z:3<ts.size:=(N2.mp r).1;have S:=M9 s.heap T (Nh (·.setIfInBounds 3 Value.none));have u:∀b o,s.heap.get? b=Vo o->(∀us,o.data≠.fields us)->b≠T:=by rintro b o hb a rfl;rw[i]at hb;cases hb;exact a ts j
 have G:(Value.ref T != Value.none)=true:=by simp
 have H:¬((Value.none == rawInt L)=true):=by simp[rawInt]
 unfold noteFrame;simp only[n];refine L6 (wpAny_field g h p ?_);refine L6 (wpAny_field i j r ?_);refine L6 (wpAny_setField i j z ?_);refine CC f (w.of_keeps λb o hb a=>⟨o,(S.2 b (u b o hb a)).trans hb,rfl⟩) n ((S.2 e (NC C)).trans g) (λb o hb=>(S.2 b ?_).trans (k b o hb)) c h (N2.mp p).1 x h2.1 h2.2 λh' N m=>?_
 .rintro rfl;rw[y]at hb;cases hb
 .obtain⟨x1,x2,l,I⟩:=N;exact q h' ⟨x1,c,x2,l⟩ (λb o hb a=>I b o ((S.2 b (u b o hb a)).trans hb) a) m
def sW{Q:Unit->Vc->Prop}(g:Heap.HeldW B l e cls a0 L s.heap)(al:bL s.heap e dd)
  (q:∀h',N3 B l e cls a0 h'->s.heap.UpToSlots h'->bL h' e dd->Q () { s with heap:=h' }):Vf M A (setFlight (.ref e) Vp) Q E s:=
 o5 g.1 g.2.2.1 g.2.2.2 al λh' a b c d f=>q h' ⟨a,g.2.1,b,c⟩ d f
def IY{Q:Unit->Vc->Prop}(g:N3 B l e cls a0 s.heap)(al:bL s.heap e dd)
  (q:∀h',N3 B l e cls a0 h'->s.heap.UpToSlots h'->bL h' e dd->Q () { s with heap:=h' }):Vf M A (setFlight (.ref e) Vp) Q E s:=
 o5 g.1 g.2.2.1 g.2.2.2.at al λh' a b c d f=>q h' ⟨a,g.2.1,b,c⟩ d f
def JF{Q:Unit->Vc->Prop}(a:A.frames=Vo (env::outer))(b:env.frame=Vo L)(c:N3 B (env::outer) e cls a0 s.heap)(al:bL s.heap e dd)
  (q:∀h',N3 B outer e cls a0 h'->s.heap.UpToSlots h'->bL h' e dd->Q () { s with heap:=h' }):Vf M A (leaving env (.ref e)) Q E s:=by
 refine L6 (zc a b c al λh1 H1 d a1=>sW H1 a1 λh2 f g h=>?_);obtain⟨x1,x2,⟨_,_,i⟩,j⟩:=f;exact q h2 ⟨x1,x2,i,j⟩ (d.trans g) h
structure MadeX(h h':Vh)(e:Vb)(cls:Va)(dd:Option Vb):Prop where
 keeps:∀b o,h.get? b=Vo o->h'.get? b=Vo o
 new:h.get? e=Vp
 there:∃oe vs t,h'.get? e=Vo oe/\oe.cls=cls/\oe.data=.fields vs/\vs[0]?=Vo (.ref t)/\vs[1]?=Vo .none/\vs[2]?=Vo .none/\1<vs.size/\∀d,dd=Vo d->oe.dict=Vo d
def MadeX.of(a:Heap.MadeExcOf h h' e cls args):MadeX h h' e cls Vp:=by obtain⟨t,b,_,_⟩:=a.there;exact⟨a.keeps,a.new,_,_,t,b,rfl,rfl,rfl,rfl,rfl,by simp,λ_ z=>by cases z⟩
def F7{Q:Unit->Vc->Prop}(c:A.frames=Vo (env::outer))(g:env.frame=Vo L)(k:B.StaysIn h)(j:h.FunFrames B (env::outer))(a:MadeX h s.heap e cls dd)
  (q:∀h' a0,N3 B outer e cls a0 h'->s.heap.UpToSlots h'->bL h' e dd->Q () { s with heap:=h' }):Vf M A (leaving env (.ref e)) Q E s:=by
 obtain⟨oe,vs,t,i,rfl,hd,l,h1,h2,m,d⟩:=a.there;have fresh:∀b,h.get? b=Vp->B.get? b=Vp:=λb hb=>by
  cases n:B.get? b with
  | none=>rfl
  | some o'=>exact absurd (k b o' n) (by rw[hb];intro z;cases z)
 unfold leaving noteFrame;simp only[g];refine L6 (L6 (wpAny_field i hd h1 ?_));refine CC c (j.of_keeps λb o hb _=>⟨o,a.keeps b o hb,rfl⟩) g i (λb o hb=>a.keeps b o (k b o hb)) (fresh e a.new) hd m l h2 d λh1 N a1=>?_;obtain⟨x1,x2,p,r⟩:=N;refine o5 x1 x2 p a1 λh2 y1 y2 u v w=>?_;obtain⟨_,_,f⟩:=y2;exact q h2 _ ⟨y1,fresh e a.new,f,u⟩ (Heap.UpToSlots.trans r v) w
end
def bC.obj{o:HO}(x:bC P w H h a o):∃ob,h.get? a=Vo ob:=by
 cases o with
 | lst xs=>obtain⟨_,_,_,_,e⟩:=x;exact⟨_,e⟩
 | tup xs=>obtain⟨_,_,_,ob,e,_⟩:=x;exact⟨_,e⟩
 | dK kvs=>obtain⟨_,_,_,_,ob,es,ep,e,_⟩:=x;exact⟨_,e⟩
 | dT kvs=>obtain⟨_,_,_,_,ob,es,ep,e,_⟩:=x;exact⟨_,e⟩
 | set S n=>obtain⟨ob,es,ep,t,e,_⟩:=x;exact⟨_,e⟩
 | ins C dx fs=>obtain⟨_,_,_,e,_⟩:=x;exact⟨_,e⟩
 | own y=>exact x
 | xd fs=>obtain⟨mA,b,_⟩:=x;obtain⟨ob,es,ep,e,_⟩:=b;exact⟨_,e⟩
 | rng lo hi=>obtain⟨_,_,_,e⟩:=x;exact⟨_,e⟩
 | frz ob u=>exact⟨_,x.1⟩
 | tbl ps=>exact⟨_,x⟩
 | met f y=>exact⟨_,x⟩
 | ext φ=>exact x.2.1
structure Fly(P:Vd)(w:Ve)(outer:List Env)(H:Hp)(s:Vc)(x:Vb)(cls:Va)(da:Option Vb)(H':Hp)(s':Vc):Prop where
 os:s'.os=s.os
 bare:AllBare s'.gens
 un:Un (bh outer) [] H H' s.heap s'.heap
 hok:bt P w H' s'.heap
 new:H' x=Vp
 alone:bL s'.heap x da
 fly:∃B a0,N3 B outer x cls a0 s'.heap/\(∀b o,s'.heap.get? b=Vo o->H' b≠Vp->B.get? b=Vo o) ∧
  ∀b o o',s.heap.get? b=Vo o->b∉bh outer->s'.heap.get? b=Vo o'->B.get? b=Vo o'
def bf(P:Vd)(w:Ve):fX:=λouter H s E e s'=>∃x cls da H',e=.ref x/\E cls da H'/\Fly P w outer H s x cls da H' s'
section
variable {P:Vd} {w:Ve} {K:L8} {mg:Vn->Option Va} {base:Vh} {N:List Vn} {qual:Vn} {scope:Scope} {f:Vb} {cd:Va} {A:Vi} {outer:List Env} {s₀:Vc} {H₀:Hp} {E:XK}
def zB(h:env∈l)(e:env.frame=Vo a):a∈bh l:=OK.mpr ⟨env,h,e⟩
def Kq(I:Inv (aU (bf P w) P w K mg base N qual scope f cd A outer s₀ H₀ E) pins σ H s)
  (l:MadeX s.heap h1 e cls da) (x:E cls da H):(aU (bf P w) P w K mg base N qual scope f cd A outer s₀ H₀ E).xe (.ref e) { s with heap:=h1,toks:=tk }:=by
 have y:∀b∈bh (envOfC qual scope s₀.heap.objs.size f cd::outer),b∈bh outer\/b=s₀.heap.objs.size:=λb hb=>by
  have:=I.stkSub b hb;rcases Mr.mp this with z|z
  .exact .inr z
  .exact .inl z
 have m:∀env∈(envOfC qual scope s₀.heap.objs.size f cd::outer),∀a,env.frame=Vo a->a∈bh (envOfC qual scope s₀.heap.objs.size f cd::outer):=λenv C a ha=>zB C ha;have g:=PySem.W.funFrames_hide I.stack m;have low:∀b o,s₀.heap.get? b=Vo o->b∉bh outer->b∉bh (envOfC qual scope s₀.heap.objs.size f cd::outer):=λb o hb d p=>by
  rcases y b p with z|z
  .exact d z
  .exact absurd (Mb hb) (by rw[z];exact ND _)
 refine F7 I.ok.frames rfl (λb o q=>Rw _ q) g l λh' t x1 F G=>?_;have up:∀b∈bh (envOfC qual scope s₀.heap.objs.size f cd::outer),∀o,s.heap.get? b=Vo o->∃sl,h'.get? b=Vo { o with slots:=sl }:=λb hb o ho=>by obtain⟨_,o',i,hd⟩:=g.mem hb;rw[ho]at i;cases i;exact F b o (l.keeps b o ho) hd
 have stay:∀b o,b∉bh (envOfC qual scope s₀.heap.objs.size f cd::outer)->s.heap.get? b=Vo o->h'.get? b=Vo o:=λb o d ho=>x1.1 b o (PL _ ho d);have iu:∀b,H b≠Vp->b∉bh (envOfC qual scope s₀.heap.objs.size f cd::outer):=λb hb p=>hb (I.stkFree b p);have U:=I.base;have j:H e=Vp:=by
  cases k:H e with
  | none=>rfl
  | some u=>
   obtain⟨ob,z⟩:=(I.hok e u k).obj;rw[l.new]at z;cases z
 refine⟨e,cls,da,H,rfl,x,I.os,I.bare,⟨λb o q n hb _=>stay b o (low b o q hb) (U.keep b o q n hb (by intro z;cases z)),λb o q n hb _=>?_,λb o q n _=>U.free b o q n (by intro z;cases z),λb o q _=>?_,U.tups,U.frzs,U.tbls⟩,λa o q=>?_,j,G,_,_,x1,λb o q hb=>?_,λb o o' q hb J=>?_⟩
 .obtain⟨sl,c⟩:=U.slot b o q n hb (by intro z;cases z);obtain⟨r,v⟩:=up b (by show b∈Qh _ (_::_);exact Mg _ hb) _ c;exact⟨r,v⟩
 .obtain⟨o1,c⟩:=U.there b o q (by intro z;cases z);by_cases hb:b∈bh (envOfC qual scope s₀.heap.objs.size f cd::outer)
  .obtain⟨sl,v⟩:=up b hb _ c;exact⟨_,v⟩
  .exact⟨_,stay b _ hb c⟩
 .refine(I.hok a o q).stay (λb u hb z=>stay b u (iu b ?_) z) (λ_ z=>z) λ_ _ z=>z;rcases hb with rfl|hb
  .rw[q];intro z;cases z
  .rw[hb];intro z;cases z
 .obtain⟨o1,c⟩:∃o1,s.heap.get? b=Vo o1:=by
   cases k:H b with
   | none=>exact absurd k hb
   | some u=>exact(I.hok b u k).obj
  have:=stay b o1 (iu b hb) c;rw[q]at this;cases this;exact PL _ c (iu b hb)
 .obtain⟨o1,c⟩:=U.there b o q (by intro z;cases z);have d:=low b o q hb;have:=stay b o1 d c;rw[J]at this;cases this;exact PL _ c d
def qR{r:XK}(p:∀cls da H,r cls da H->E cls da H):Passes (bf P w) (aU (bf P w) P w K mg base N qual scope f cd A outer s₀ H₀ E) r:=by
 intro pins σ H s e s' I h;obtain⟨x,cls,da,H',rfl,G,F⟩:=h;obtain⟨B,a0,v,y,J⟩:=F.fly;have L:∀b∈bh (envOfC qual scope s₀.heap.objs.size f cd::outer),b∈bh outer\/b=s₀.heap.objs.size:=λb hb=>by
  rcases Mr.mp (I.stkSub b hb)with z|z
  .exact .inr z
  .exact .inl z
 have low:∀b o,s₀.heap.get? b=Vo o->b∉bh outer->b∉bh (envOfC qual scope s₀.heap.objs.size f cd::outer):=λb o hb M O=>by
  rcases L b O with z|z
  .exact M z
  .exact absurd (Mb hb) (by rw[z];exact ND _)
 have U:=I.base;have no:∀b:Vb,b∉([]:List Vb):=λb z=>by cases z
 refine JF I.ok.frames rfl v F.alone λh' x1 x2 Q=>?_;have two:∀b o,s₀.heap.get? b=Vo o->∃o1 g,s.heap.get? b=Vo o1/\s'.heap.get? b=Vo g:=λb o q=>by obtain⟨o1,c⟩:=U.there b o q (no b);obtain⟨g,d⟩:=F.un.there b o1 c (no b);exact⟨o1,g,c,d⟩
 have stay:∀b o g,s₀.heap.get? b=Vo o->b∉bh outer->s'.heap.get? b=Vo g->B.get? b=Vo g:=λb o g q hb R=>by obtain⟨o1,S,c,d⟩:=two b o q;exact J b o1 g c (low b o q hb) R
 have l:=v.2.2.1;refine⟨x,cls,da,H',rfl,p _ _ _ G,F.os.trans I.os,F.bare,⟨λb o q n hb _=>?_,λb o q n hb _=>?_,λb o q n _=>?_,λb o q _=>?_,λb xs q=>F.un.tups b xs (U.tups b xs q),λb o u q=>F.un.frzs b o u (U.frzs b o u q),λb ps q=>?_⟩,λa o q=>?_,F.new,Q,B,a0,x1,λb o q hb=>?_,λb o o' q hb T=>?_⟩
 .have c:=U.keep b o q n hb (no b);have d:=F.un.keep b o c (U.free b o q n (no b)) (low b o q hb) (no b);exact x1.1 b o (stay b o o q hb d)
 .obtain⟨sl,c⟩:=U.slot b o q n hb (no b);have i:b∈bh (envOfC qual scope s₀.heap.objs.size f cd::outer):=by show b∈Qh _ (_::_);exact Mg _ hb
  obtain⟨W,d⟩:=F.un.slot b _ c (U.free b o q n (no b)) i (no b);obtain⟨_,o',j,hd⟩:=l.mem i;rw[d]at j;cases j;obtain⟨m,k⟩:=x2 b _ d hd;exact⟨m,k⟩
 .obtain⟨o1,c⟩:=U.there b o q (no b);exact F.un.free b o1 c (U.free b o q n (no b)) (no b)
 .obtain⟨o1,g,c,d⟩:=two b o q;by_cases hb:b∈bh outer
  .have i:b∈bh (envOfC qual scope s₀.heap.objs.size f cd::outer):=by show b∈Qh _ (_::_);exact Mg _ hb
   obtain⟨_,o',j,hd⟩:=l.mem i;obtain⟨m,k⟩:=x2 b _ j hd;exact⟨_,k⟩
  .exact⟨_,x1.1 b g (stay b o g q hb d)⟩
 .obtain⟨m1,c⟩:=U.tbls b ps q;obtain⟨m2,d⟩:=F.un.tbls b _ c;exact⟨m1++m2,by rw[d,Rx]⟩
 .refine(F.hok a o q).stay (λb u hb z=>x1.1 b u (y b u z ?_)) (λ_ z=>z) λ_ _ z=>z;rcases hb with rfl|hb
  .rw[q];intro z;cases z
  .rw[hb];intro z;cases z
 .obtain⟨o1,c⟩:∃o1,s'.heap.get? b=Vo o1:=by
   cases C:H' b with
   | none=>exact absurd C hb
   | some u=>exact(F.hok b u C).obj
  have d:=y b o1 c hb;have:=x1.1 b o1 d;rw[q]at this;cases this;exact d
 .obtain⟨o1,g,c,d⟩:=two b o q;have k:=stay b o g q hb d;have:=x1.1 b g k;rw[T]at this;cases this;exact k
end
section
variable {prog:Vd} {w:Ve} {A:Vi} {E:Va->Vc->Prop} {K:L8} {x D:Vb} {ox:Obj} {s:Vc}
structure InstC(h:Vh)(x:Vb)(ox:Obj)(D:Vb):Prop where
 at_:h.get? x=Vo ox
 cls:ox.cls=.ref D
def InstC.type{y:Vb}{a:Obj}(I:InstC h y a C):PV M h (typeOf (.ref y)) (.ref C):=by
 have z:PV M h (typeOf (.ref y)) a.cls:=(PySem.W.Looks.ld I.at_).andThen .now
 rwa [I.cls]at z
def Ft(X:K.In h)(ha:L1 K (.ref D) "__class__" = Vo (Vo (.builtin "object.__class__")))(b:O1 K (.builtin "object.__class__") "__get__" = Vo (Vo (.builtin "getset_descriptor.__get__")))
  (c:PX K (.builtin "object.__class__")=Vo true):PV M h (Builtin.ObjectAttr.find (.ref x) (.ref D) "__class__") (.bind (.builtin "getset_descriptor.__get__") (.builtin "object.__class__")):=by
 have d:=O7 (M:=M) X ha;have L2:PV M h (Builtin.ObjectAttr.getOf (Vo (.builtin "object.__class__"))) (Vo (.builtin "getset_descriptor.__get__")):=PySem.W.looks_specialIn X b;have e:=PySem.W.looks_takesIn (M:=M) X c;refine d.andThen (L2.andThen ?_);refine PySem.W.Looks.andThen (a:=Vo (.builtin "getset_descriptor.__get__",.builtin "object.__class__")) (e.andThen ?_) (PySem.W.Looks.tag .now);exact .now
def FG{a:Va}{R:Result->Vc->Prop}(X:K.In s.heap)(I:InstC s.heap x ox D)(b:P9 K D (.type "object")=Vo true)(c:R (.ok (.ret (.ref D))) s):
  codeAny (Vg prog w) A (.call (.builtin "getset_descriptor.__get__") ⟨[.builtin "object.__class__",.ref x,a],[]⟩) R s:=by
 have f:=I.type (M:=Vg prog w);have h:=PySem.W.looks_mroIn (M:=Vg prog w) X b;refine codeAny_call_builtin R1.plain PySem.W.KF.entry_gs (R1.check _ _ _ _ _ _ _ _ PySem.W.KF.type_class (PySem.W.KF.args_gs _ _ _) ?_);unfold Builtin.«getset_descriptor.__get__» R3;rw[PySem.W.dga_obj];refine L6 (L7 ?_);unfold Rn Q7 RC isInstance;simp only[PySem.W.KF.owner_class];repeat lk
 refine⟨Qi _ (by decide +kernel),codeAny_builtin PySem.W.KF.entry_class ?_⟩;unfold Builtin.«object.__class__» shownTypeOf;repeat lk
 exact c
def F4{Q:Fin->Vc->Prop}(X:K.In s.heap)(I:InstC s.heap x ox D)(ha:L1 K (.ref D) "__class__" = Vo (Vo (.builtin "object.__class__")))(a:O1 K (.builtin "object.__class__") "__get__" = Vo (Vo (.builtin "getset_descriptor.__get__")))
  (b:PX K (.builtin "object.__class__")=Vo true) (c:P9 K D (.type "object")=Vo true)
  (e:Q (.done (.ret (.ref D))) s):Vf (Vg prog w) A (Builtin.«object.__getattribute__» ⟨[.ref x,.str "__class__" tk],[]⟩) Q E s:=by
 obtain⟨f,g,d,t,os⟩:=s;have h:=I.type (M:=Vg prog w);have i:=Ft (M:=Vg prog w) (x:=x) X ha a b;refine L6 (L7 (L6 (L7 (L6 (h.at (L6 (i.at ?_)))))));exact L6 (wpAny_holding (wpAny_call (FG X I c (L7 e))))
def Ly{a:Va}{Q:Unit->Vc->Prop}(X:K.In s.heap)(I:InstC s.heap x ox D)(hs:Rq K (.ref D) (.type "BaseException")=Vo true)(c:Q () s):
  Vf M A (checkBuiltinCall "BaseException.__getattribute__" ⟨[.ref x,a],[]⟩) Q E s:=by
 have k1:builtinKind "BaseException.__getattribute__" = Vo .slot:=by decide +kernel
 have k2:splitId "BaseException.__getattribute__" = Vo ("BaseException","__getattribute__"):=by decide +kernel
 have k3:=PySem.F.args_bexc_ga (.ref x) a;have b:PV M s.heap (isInstance (.ref x) (.type "BaseException")) true:=(I.type (M:=M)).andThen (PySem.W.looks_subIn X hs);obtain⟨e,g,d,t,os⟩:=s;simp only[checkBuiltinCall,k1,k2];refine L6 (b.at ?_)
 repeat (any_goals (first|assumption|wp_step))
structure ExcK(K:L8)(D:Vb):Prop where
 lk:∃c d cd sl,K.lookup D=Vo ⟨c,d,.cls cd,sl⟩
 ga:L1 K (.ref D) "__getattribute__" = Vo (Vo (.builtin "BaseException.__getattribute__"))
 gt:L1 K (.ref D) "__getattr__" = Vo Vp
 sb:Rq K (.ref D) (.type "BaseException")=Vo true
 cf:L1 K (.ref D) "__class__" = Vo (Vo (.builtin "object.__class__"))
 cg:O1 K (.builtin "object.__class__") "__get__" = Vo (Vo (.builtin "getset_descriptor.__get__"))
 ct:PX K (.builtin "object.__class__")=Vo true
 mo:P9 K D (.type "object")=Vo true
def CN{Q:Option Va->Vc->Prop}(X:K.In s.heap)(I:InstC s.heap x ox D)(F:ExcK K D)
  (h:Q (Vo (.ref D)) { s with toks:=s.toks+1 }):Vf (Vg prog w) A (getAttr? (.ref x) "__class__") Q E s:=by
 obtain⟨a,g,d,t,os⟩:=s;have b:=I.type (M:=Vg prog w);have c:=O7 (M:=Vg prog w) X F.ga;have L2:=O7 (M:=Vg prog w) X F.gt;refine L6 (wpAny_mkText (L6 (wpAny_attempt (wpAny_holding (L6 (b.at (L6 (c.at ?_))))))))
 repeat (any_goals (first|assumption|wp_step|lk))
 refine codeAny_call_builtin (PySem.F.excAttr_ValueError).ga.plain PySem.F.entry_bexc_ga (Ly (s:=⟨a,g,d,t+1,os⟩) X I F.sb (F4 (s:=⟨a,g,d,t+1,os⟩) X I F.cf F.cg F.ct F.mo ?_))
 repeat (any_goals (first|assumption|wp_step|lk))
def pK(F:ExcK K D):PySem.W.KitX K (.ref x) (.ref D) (λh=>InstC h x ox D) where
 ty:=λ_ _ _ I=>I.type
 it:=λM h X _=>by obtain⟨c,d,cd,sl,ho⟩:=F.lk;intro g i j s' k q;exact L6 (wpAny_loadPart (k _ _ (X _ _ ho)) (L7 q))
 ne:=λh b dd e n sl X a=>by obtain⟨c,d,cd,f,ho⟩:=F.lk;rw[Bool.eq_false_iff];intro q;cases(Value.ref.inj (eq_of_beq q));have z:=X _ _ ho;rw[a]at z;cases z
 ca:=λX I k=>CN X I F k
end
abbrev cy(X:Cx)(x:Vb)(oe:Obj):Cx:={ X with A:=X.A.mark (Vo (.ref x)),calm:=false,pn:=(x,oe)::X.pn,xe:=λ_ _=>False }
abbrev pH(X:Cx)(x:Vb):Cx:={ X with A:=X.A.mark (Vo (.ref x)),calm:=false,xe:=λ_ _=>False }
section
variable {X:Cx} {pins:List (Vb×Obj)} {σ:St} {H:Hp} {s:Vc} {x:Vb} {oe:Obj}
def Cx.Ok.marked(ok:X.Ok)(x):(pH X x).Ok:=
 ⟨ok.mod,ok.kind,ok.glob,ok.blt,ok.above,ok.inj,ok.has,ok.cab,(λz=>Bool.noConfusion z),ok.frames,ok.stk,ok.exf,ok.bs,ok.bsz,ok.noex,ok.exfs,ok.funs,ok.frf⟩
theorem Inv.marked(I:Inv X pins σ H s)(x:Vb):Inv (pH X x) pins σ H s:=⟨I.ok.marked x,I.os,I.bare,I.base,I.loc,I.cell,I.free,I.freeC,I.pin,I.hok,I.len⟩
def Inv.pinH(I:Inv X pins σ H s)(h1:s.heap.get? x=Vo oe)(h2:H x=Vp)(b:x≠X.env.locals)(c:x∉X.fs)(d:∀v,oe.data≠.cell v):Inv (cy X x oe) pins σ H s:=
  ⟨⟨I.ok.mod,I.ok.kind,I.ok.glob,I.ok.blt,I.ok.above,I.ok.inj,I.ok.has,I.ok.cab,(λz=>Bool.noConfusion z),I.ok.frames,I.ok.stk,I.ok.exf,I.ok.bs,I.ok.bsz,I.ok.noex,I.ok.exfs,I.ok.funs,I.ok.frf⟩,I.os,I.bare,I.base,I.loc,I.cell,I.free,I.freeC,
    λp a=>by
      rcases Mr.mp a with rfl|a
      . exact ⟨h1,h2,b,c,d⟩
      . exact I.pin p a,I.hok,I.len⟩
def Inv.unpinH(ok:X.Ok)(I:Inv (cy X x oe) pins σ H s):Inv X pins σ H s:=⟨ok,I.os,I.bare,I.base,I.loc,I.cell,I.free,I.freeC,λp a=>I.pin p (Mg _ a),I.hok,I.len⟩
def ph(K:L8)(x D:Vb):List V->Hp->VK->Prop:=λxs H Q=>∃b:Bool,((∃C,xs=[.ref x,.ref C]/\NX K (.ref D) (.ref C)=Vo b)\/(∃T,xs=[.ref x,.ty T]/\NX K (.ref D) (.type T)=Vo b) ∨
 ∃(p:Vb) (a:List Vb),xs=[.ref x,.ref p]/\H p=Vo (.tup (a.map V.ref))/\Qj K (.ref D) (a.map Value.ref)=Vo b)/\Q (.bl b) H
theorem uF:∀{Cs:List Vb} {us:List Va},Vals (Cs.map V.ref) us->us=Cs.map Value.ref
 | [],_,r=>by cases r;rfl
 | _::_,_,r=>by
  cases r with
  | cons r t=>cases r;rw[uF t];rfl
def iG(F:ExcK X.K D)(f:oe.cls=.ref D):cb (cy X x oe) (.builtin "isinstance") (ph X.K x D):=by
 intro pins s σ H xs us Q I r h;obtain⟨b,h,q⟩:=h;have p:=(I.pin (x,oe) (MQ _ Mj)).1;have J:InstC s.heap x oe D:=⟨p,f⟩;rcases h with⟨C,rfl,a⟩|⟨T,rfl,a⟩|⟨g,l,rfl,i,a⟩
 .obtain⟨u,c,rfl,r1,d⟩:=vals2 r;cases(r1);cases(d);exact NV (pK F) I.kIn J a (λz=>nomatch z) λtk=>⟨.bl b,H,I.tok tk,rfl,q⟩
 .obtain⟨u,c,rfl,r1,d⟩:=vals2 r;cases(r1);cases(d);exact NV (pK F) I.kIn J a (λz=>nomatch z) λtk=>⟨.bl b,H,I.tok tk,rfl,q⟩
 .obtain⟨u,c,rfl,r1,d⟩:=vals2 r;cases(r1);cases(d);obtain⟨j,k,⟨⟨cls,dd,data,sl⟩,ho,hcl,n,e⟩,_⟩:=I.tuple (ak.of i);subst hcl e;rw[uF k]at ho;exact PySem.W.kia_tup (pK F) I.kIn J ho a (λz=>nomatch z) λtk=>⟨.bl b,H,I.tok tk,rfl,q⟩
end
def tM(cls:Va)(E:XK)(t:TA):TS:=λ_ σ H=>t σ H λvs H1=>vs.length<=sizeLine/\E cls Vp H1
def Gk{K:L8}{a:String}(X:K.In h)(G:h.Ns Vj mg)(e:A0 K Vj x=Vo (Vo (.ref C)))(q:Qz K C bm a=true):OwnCls x C bm a mg h:=by
 constructor
 .exact NG X G e
 .unfold Qz at q;cases b:K.lookup C with
  | none=>rw[b]at q;cases q
  | some o=>
   rw[b]at q;obtain⟨cl,dd,data,sl⟩:=o;split at q
   .rename_i f;cases f;split at q
    .rename_i _ cd _ _ C' bm' k0 k1 k2 k3 n k5 hm hs;simp only[MM,beq_iff_eq,Qu]at q;obtain⟨⟨⟨⟨⟨rfl,rfl⟩,c⟩,g⟩,o0⟩,d⟩:=q;obtain⟨nm,bs,mro,ns,i,hd,sn,sub,ab,col,del⟩:=cd
     subst hm c;obtain⟨l⟩:=sl;subst hs;exact⟨_,_,_,_,_,_,_,_,_,_,_,_,_,_,_,_,_,X _ _ b,.of_isNs (PySem.W.isNs_of_in X o0),PySem.W.nsMap_none_of_in X o0 d,PySem.W.tail_of_in X g⟩
    .cases q
   .cases q
section
variable {P:Vd} {w:Ve} {K:L8} {mg:Vn->Option Va} {base:Vh} {N:List Vn} {qual:Vn} {scope:Scope} {f:Vb} {cd:Va} {A:Vi} {outer:List Env} {s₀:Vc} {H₀:Hp} {E:XK}
def i4{x:Vn}{B a d:String}{bm:List Va}{np cpos pos:Pos}{e:Vk}{es:List Vk}{t:TA}(O:OwnCls x C bm a mg base)(FB:ExcBaseFacts B a d bm)
  (ha:PA (aU (bf P w) P w K mg base N qual scope f cd A outer s₀ H₀ E) (e::es) t) (k:Gl (aU (bf P w) P w K mg base N qual scope f cd A outer s₀ H₀ E) x:=by rfl) (hd:(x == ("__debug__":Vn))=false:=by decide)
  (g:starEach (e::es) (aU (bf P w) P w K mg base N qual scope f cd A outer s₀ H₀ E).env=(false,eval e (aU (bf P w) P w K mg base N qual scope f cd A outer s₀ H₀ E).env)::starEach es (aU (bf P w) P w K mg base N qual scope f cd A outer s₀ H₀ E).env:=by rfl)
  (i:(backTo cpos (starEach es (aU (bf P w) P w K mg base N qual scope f cd A outer s₀ H₀ E).env)).any (·.1)=false:=by rfl) :
  PS (aU (bf P w) P w K mg base N qual scope f cd A outer s₀ H₀ E) (.Raise (Vo (.Call (.Name x np) (e::es) [] cpos)) Vp pos) (tM (.ref C) E t):=by
 intro pins s σ H D I h;obtain⟨tl,l,nm,q,bs,hdct,sn,sub,ab,col,dd,k0,k1,k2,k3,k5,mN,m,n,j,T⟩:=O.obj;refine wpAny_Raise_call_subT (k5:=k5) (k3:=k3) (k2:=k2) (k1:=k1) (k0:=k0) (dd:=dd) (col:=col) (ab:=ab) (sub:=sub) (sn:=sn) (hdct:=hdct) (bs:=bs) (q:=q) (nm:=nm) (N:=l) FB (T.hasType FB.hasBase) (I.ok.hd rfl) (by rw[g];show(false || (backTo cpos (starEach es _)).any (·.1))=false;rw[i];rfl) j (gy I k O.bound ⟨rfl,?_⟩ hd);rw[g];have b:=ha cpos pins s σ H _ I h;rw[g]at b;exact Rg (ax b λus s1 ⟨vs,H1,c,r,z,q⟩=>⟨rfl,by rw[<-r.length];exact z,c.bk _ _ m,n.keeps c.bk,T.keeps c.bk,λh' e o=>Kq c (MadeX.of o) q⟩)
end
def nG{Q:Unit->Vc->Prop}(I:Inv X pins σ H s)(F:X.N.Nodup)(hi:X.N[i]?=Vo x)(G:X.env.kindOf x=Vo .local)
  (h:∀s',Inv X pins (σ.set i Vp) H s'->Q () s'):Vf M A (do bindName X.env x .none;unbindBehindTheSuite X.env x pos) Q E s:=by
 obtain⟨m,B,J⟩:=id I.loc;have f:i<σ.length:=by rw[I.len];exact(Mm.mp hi).1
 have cne:=I.cne;refine wpAny_nameGoes_keeps G B (by rw[I.ok.kind];rfl) λh' v u hs=>?_;have low:∀{b:Vb} {o:Obj},X.s₀.heap.get? b=Vo o->b≠X.env.locals:=λe=>Mv (MG (Mb e) I.ok.above);refine h _ ⟨I.ok,I.os,I.bare,⟨λb o e n hb g=>(hs.2 b (low e)).trans (I.base.keep b o e n hb g),λb o e n hb g=>?_,I.base.free,λb o e g=>?_,I.base.tups,I.base.frzs,I.base.tbls⟩,⟨_,u,λj y O a l P=>?_⟩,λy c e=>?_,I.free,I.freeC,λp R=>?_,λb ob e=>?_,by simpa using I.len⟩
 .obtain⟨sl,a⟩:=I.base.slot b o e n hb g;exact⟨sl,(hs.2 b (low e)).trans a⟩
 .obtain⟨o',a⟩:=I.base.there b o e g;exact⟨o',(hs.2 b (low e)).trans a⟩
 .by_cases w:j=i
  .subst w;rw[Oj f]at l;cases l
  .rw[O6 (NC w)]at l;obtain⟨S,T,q⟩:=J j y O a l P;refine⟨S,T,?_⟩;rcases q with⟨k,e⟩|⟨k,c,e,z⟩
   .refine .inl ⟨k,?_⟩;have:y≠x:=λe=>w (pz F a (e ▸ hi));simp[this,e]
   .exact .inr ⟨k,c,e,z.sameBut hs (cne y c e)⟩
 .obtain⟨C,z⟩:=I.cell y c e;exact⟨C,z.sameBut hs (cne y c e)⟩
 .obtain⟨e,n,ne,U,d⟩:=I.pin p R;exact⟨(hs.2 p.1 ne).trans e,n,ne,U,d⟩
 .refine(I.hok b ob e).stay (λc C r q=>(hs.2 c ?_).trans q) (λ_ q=>q) λ_ _ q=>q;rintro rfl;rcases r with rfl|r
  .rw[I.free]at e;cases e
  .rw[I.free]at r;cases r
section
def PB(Y:Cx)(st:Vl)(t:Ends->(St->XK)->St->Hp->Prop):Prop:=
 ∀(pins:List (Vb×Obj)) (s:Vc) (σ:St) (H:Hp) (D:Ends) (E:St->XK),Inv Y.nox pins σ H s->t D E σ H ->
  Vf (Vg Y.prog Y.w) Y.A (exec st Y.env) (SP Y.nox pins D) (λe s'=>∃a H1 s1,Inv Y.nox pins a H1 s1/\bf Y.prog Y.w Y.stack H1 s1 (E a) e s') s
def mY(Y:Cx)(st:List Vl)(t:Ends->(St->XK)->St->Hp->Prop):Prop:=
 ∀(pins:List (Vb×Obj)) (s:Vc) (σ:St) (H:Hp) (D:Ends) (E:St->XK),Inv Y.nox pins σ H s->t D E σ H ->
  Vf (Vg Y.prog Y.w) Y.A (execs st Y.env) (SP Y.nox pins D) (λe s'=>∃a H1 s1,Inv Y.nox pins a H1 s1/\bf Y.prog Y.w Y.stack H1 s1 (E a) e s') s
def tO:Ends->(St->XK)->St->Hp->Prop:=λD _ σ H=>D.nx σ H
def GX:mY Y [] tO:=λ_ _ σ H _ _ I h=>wpAny_execs_nil ⟨σ,H,I,h⟩
def zf(t u:Ends->(St->XK)->St->Hp->Prop):Ends->(St->XK)->St->Hp->Prop:=λD E σ H=>t ⟨u D E,D.rt,D.bk,D.ct⟩ E σ H
def IZ{st:Vl}{t u:Ends->(St->XK)->St->Hp->Prop}(h1:PB Y st t)(h2:mY Y rest u):mY Y (st::rest) (zf t u):=by
 intro pins s σ H D E I h;refine wpAny_execs_cons (ax (h1 pins s σ H ⟨u D E,D.rt,D.bk,D.ct⟩ E I h) λf s1 q=>?_);cases f with
 | next=>
  obtain⟨a,H',b,q⟩:=q;exact h2 pins s1 a H' D E b q
 | brk=>exact q
 | cont=>exact q
 | ret v=>exact q
end
structure CalX(P:Vd)(w:Ve)(K:L8)(mg:Vn->Option Va)(base:Vh)(x:Vn)(k:Nat)(ps:List Vn)(sp:Sp):Prop where
 ex:∃(f:Vb) (fd:Vm),mg x=Vo (.ref f)/\NJ K (.ref f)=true/\Binds K fd ps []/\FnOk P w K mg base (bf P w) k f fd ps sp
def Fly.lands{d:Vh}(F:Fly P w l H s x cls da H' s')(k:N3 B l x cls a0 s'.heap)(m:∀b o,s'.heap.get? b=Vo o->H' b≠Vp->B.get? b=Vo o)
  (i:∀b o o',s.heap.get? b=Vo o->b∉bh l->s'.heap.get? b=Vo o'->B.get? b=Vo o') (c:N3 B l x cls a0 d) (sm:s'.heap.UpToSlots d):Un (bh l) [] H H' s.heap d/\bt P w H' d:=by
 have no:∀b:Vb,b∉([]:List Vb):=λb z=>by cases z
 have g:=k.2.2.1;have up:∀b∈bh l,∀o,s'.heap.get? b=Vo o->∃sl,d.get? b=Vo { o with slots:=sl }:=λb hb o ho=>by obtain⟨_,o',e,hd⟩:=g.mem hb;rw[ho]at e;cases e;exact sm b o ho hd
 refine⟨⟨λb o q n hb _=>c.1 b o (i b o o q hb (F.un.keep b o q n hb (no b))),λb o q n hb _=>?_,F.un.free,λb o q _=>?_,F.un.tups,F.un.frzs,F.un.tbls⟩,λa o q=>?_⟩
 .obtain⟨sl,p⟩:=F.un.slot b o q n hb (no b);obtain⟨h,f⟩:=up b hb _ p;exact⟨h,f⟩
 .obtain⟨j,f⟩:=F.un.there b o q (no b);by_cases hb:b∈bh l
  .obtain⟨sl,r⟩:=up b hb _ f;exact⟨_,r⟩
  .exact⟨_,c.1 b j (i b o j q hb f)⟩
 .refine(F.hok a o q).stay (λb u hb z=>c.1 b u (m b u z ?_)) (λ_ z=>z) λ_ _ z=>z;rcases hb with rfl|hb
  .rw[q];intro z;cases z
  .rw[hb];intro z;cases z
def Cr(K:L8)(C:Vb)(i:Nat)(tb:Ends->(St->XK)->St->Hp->Prop)(ts:Vb->Vb->Option Vb->TS):TS:=λD σ H=>
 tb D (λc cls da H1=>∃b,cls=.ref b/\Pq K (.ref b) (.ref C)=Vo true/\ExcK K b/\∀x,H1 x=Vp ->
  ts x b da ⟨λa H'=>D.nx (a.set i Vp) H',D.rt,λa H'=>D.bk (a.set i Vp) H',λa H'=>D.ct (a.set i Vp) H'⟩ (c.set i (Vo (.ref x))) H1) σ H
def Ew{c n:Vn}{body:List Vl}{np Q pos:Pos}{tb:Ends->(St->XK)->St->Hp->Prop}
  (k:Y.stack=Y.env::Y.outer) (l:Y.env.frame=Vo Y.env.locals) (R:Y.N.Nodup) (hi:Y.N[i]?=Vo n) (hk:Y.env.kindOf n=Vo .local) (hx:Y.env.scope.names.lookup n=Vo .local) (hm:Y.mg c=Vo (.ref C)) (hg:Gl Y c) (hd:(c == ("__debug__":Vn))=false)
  (hb:mY Y body tb) (hs:∀x oe p da,ExcK Y.K p->oe.cls=.ref p->(∃vs,oe.data=.fields vs/\vs[2]?=Vo .none)->(∀d,da=Vo d->oe.dict=Vo d)->cD (cy Y x oe) (b0::j) (ts x p da)) :
  PS Y.nox (.Try body [.ExceptHandler (Vo (.Name c np)) (Vo n) (b0::j) Q] [] [] pos) (Cr Y.K C i tb ts):=by
 intro pins s σ H D I h;refine wpAny_Try_except (wpAny_mono (hb pins s σ H _ _ I h) (λf s1 q=>?_) λe s1 q=>?_)
 .cases f with
  | next=>exact wpAny_execs_nil q
  | brk=>exact q
  | cont=>exact q
  | ret v=>exact q
 obtain⟨a2,H1,s2,I1,x,cls,da,H',rfl,⟨p,rfl,hex,hK,hts⟩,F⟩:=q;obtain⟨B,a0,fl,f1,f2⟩:=F.fly;have ok:Y.nox.Ok:=I1.ok;have a3:Y.A.frames=some (Y.env::Y.outer):=by rw[<-k];exact ok.frames
 have a4:N3 B (Y.env::Y.outer) x (.ref p) a0 s1.heap:=by rw[<-k];exact fl
 refine zc a3 l a4 F.alone λh4 a5 a6 a7=>sW a5 a7 λh5 y a8 a9=>?_;have r:s1.heap.UpToSlots h5:=a6.trans a8;have S:∀E,N3 B (Y.env::Y.outer) x (.ref p) a0 E->s1.heap.UpToSlots E->∀g tk dr,g=s1.gens->Inv Y.nox pins a2 H' ⟨E,g,dr,tk,s1.os⟩:=λE m G g tk dr eg=>by obtain⟨un,hok⟩:=F.lands fl f1 f2 (by rw[k];exact m) G;exact I1.call' F.os un hok (by rw[eg];exact F.bare) (λb z=>by cases z)
 have I5:=S h5 y r s1.gens s1.toks s1.drawn rfl;have ab:PV (Vg Y.prog Y.w) h5 (typeOf (.ref x)) (.ref p):=by obtain⟨ob,hob,hc⟩:=y.there;exact InstC.type ⟨hob,hc⟩
 refine wpAny_handleBy_cons (codeAny_handlers_test ?_) (by intro q;cases q);refine gy (I5.marked x) hg hm ?_ hd;refine(PySem.W.exm_one I5.kIn ab hex).here ?_;refine codeAny_handlers_suite_as (IY y a9 λE m G T=>?_);have I6:=S E m (r.trans G) s1.gens s1.toks s1.drawn rfl;obtain⟨oe,vs,he,hc,U,_⟩:=m.first;have Z:x∉bh (Y.env::Y.outer):=λac=>by obtain⟨_,o,ho,ad⟩:=m.2.2.1.mem ac;rw[he]at ho;cases ho;exact ad vs U
 have I7:=I6.pinH (x:=x) he F.new (λz=>Z (zB (env:=Y.env) Mj (by rw[l,z]))) (λz=>Z (by show x∈Qh _ _;rw[Od,l];exact Mg _ z)) (λv z=>by rw[U]at z;cases z);refine kU (X:=cy Y.nox x oe) (v:=.ref x) I7 R hi (.inl hx) rfl (λs8 I8=>?_) (.inr hx);refine wpAny_mono (hs x oe p da hK hc (by obtain⟨o',a1,x1,x2,x3,_⟩:=T;rw[he]at x1;cases x1;exact⟨a1,x2,x3⟩) (by obtain⟨o',a1,x1,_,_,x4⟩:=T;rw[he]at x1;cases x1;exact x4) pins s8 _ H' _ I8 (hts x F.new)) (λf s9 q=>?_) λ_ _ z=>z.elim;cases f with
 | next=>
  obtain⟨J,L,O,q⟩:=q;exact nG (X:=Y.nox) (Inv.unpinH ok O) R hi hk λP a=>⟨_,L,a,q⟩
 | brk=>
  obtain⟨J,L,O,q⟩:=q;exact nG (X:=Y.nox) (Inv.unpinH ok O) R hi hk λP a=>⟨_,L,a,q⟩
 | cont=>
  obtain⟨J,L,O,q⟩:=q;exact nG (X:=Y.nox) (Inv.unpinH ok O) R hi hk λP a=>⟨_,L,a,q⟩
 | ret u=>
  obtain⟨v,J,L,O,rv,q⟩:=q;exact nG (X:=Y.nox) (Inv.unpinH ok O) R hi hk λP a=>⟨v,_,L,a,rv,q⟩
def Dfn.okX{K:L8}{st:Vl}(D:Dfn K mg x st ps)(S:FnScope N ps (aW st))(len:∀vs H Q E,sp vs H Q E->vs.length=ps.length)
  (a:∀f cdv A outer s H vs Q E,Room k (A.deeper (envOfC x (aW st) s.heap.objs.size f cdv))->sp vs H Q E ->
   ∃t,cD (aU (bf P w) P w K mg base N x (aW st) f cdv A outer s H E) (cB st) t/\t { nx:=λ_ H'=>Q .non H',rt:=Q } (start N vs) H):CalX P w K mg base x (k+1) ps sp:=by
 obtain⟨f,fd,c,F,hb⟩:=D.ex;obtain⟨oc,od,kV,doc,pm,an,cdv,ct,osl,rfl,lk,b⟩:=F.ex;exact⟨f,_,c,F.kp,hb,lK lk b S len λA outer s H vs Q E d h=>a f cdv A outer s H vs Q E d h⟩
abbrev qI:List Va:=[.type "ValueError",.type "Exception",.type "BaseException",.type "object"]
def cA(K:L8)(x:Vn):Vb:=match A0 K Vj x with
 | some (Vo (.ref C))=>C
 | _=>0
def oJ(K:L8)(x:Vn):Bool:=
 Qz K (cA K x) qI "ValueError.__new__" && (match K.lookup (cA K x)with|some ⟨_,_,.cls _,_⟩=>true|_=>false) && L1 K (.ref (cA K x)) "__getattribute__" == Vo (Vo (.builtin "BaseException.__getattribute__")) &&
 L1 K (.ref (cA K x)) "__getattr__" == Vo Vp && Rq K (.ref (cA K x)) (.type "BaseException") == Vo true && L1 K (.ref (cA K x)) "__class__" == Vo (Vo (.builtin "object.__class__")) &&
 O1 K (.builtin "object.__class__") "__get__" == Vo (Vo (.builtin "getset_descriptor.__get__")) && PX K (.builtin "object.__class__") == Vo true && P9 K (cA K x) (.type "object") == Vo true
structure Xf(K:L8)(mg:Vn->Option Va)(base:Vh)(all raised:List Vn):Prop where
 cl:∀x∈all,mg x=Vo (.ref (cA K x))
 own:∀x∈raised,OwnCls x (cA K x) qI "ValueError.__new__" mg base
 exk:∀x∈raised,ExcK K (cA K x)
 up:∀x∈raised,Pq K (.ref (cA K x)) (.ref (cA K "StairError"))=Vo true
 kv:∀x∈raised,NX K (.ref (cA K x)) (.type "ValueError")=Vo true
 kc:∀x∈raised,∀y∈all,NX K (.ref (cA K x)) (.ref (cA K y))=Vo (x == y || y == ("StairError":Vn))
def sx(K:L8)(all raised:List Vn):Bool:=
 all.all (λx=>A0 K Vj x == Vo (Vo (.ref (cA K x)))) && raised.all (λx=>all.contains x && oJ K x && Pq K (.ref (cA K x)) (.ref (cA K "StairError")) == Vo true && NX K (.ref (cA K x)) (.type "ValueError") == Vo true &&
  all.all λy=>NX K (.ref (cA K x)) (.ref (cA K y)) == Vo (x == y || y == ("StairError":Vn)))
def Kg{K:L8}(X:K.In base)(G:base.Ns Vj mg)(h:sx K all raised=true):Xf K mg base all raised:=by
 unfold sx at h;rw[MM,MJ,MJ]at h;obtain⟨h1,h2⟩:=h;have f:∀x∈all,A0 K Vj x=Vo (Vo (.ref (cA K x))):=λx a=>eq_of_beq (h1 x a);have b:∀x∈raised,((((x∈all/\oJ K x=true)/\Pq K (.ref (cA K x)) (.ref (cA K "StairError"))=Vo true)/\NX K (.ref (cA K x)) (.type "ValueError")=Vo true)/\∀y∈all,NX K (.ref (cA K x)) (.ref (cA K y))=Vo (x == y || y == ("StairError":Vn))):=λx a=>by have:=h2 x a;simp only[MM,beq_iff_eq,Py,MJ]at this;exact this
 have g:∀x∈raised,Qz K (cA K x) qI "ValueError.__new__" = true/\ExcK K (cA K x):=λx a=>by
  have:=(b x a).1.1.1.2;unfold oJ at this;simp only[MM,beq_iff_eq]at this;obtain⟨⟨⟨⟨⟨⟨⟨⟨a1,e⟩,j⟩,k⟩,l⟩,m⟩,n⟩,p⟩,q⟩:=this;refine⟨a1,?_,j,k,l,m,n,p,q⟩;cases i:K.lookup (cA K x)with
  | none=>rw[i]at e;cases e
  | some o=>
   rw[i]at e;obtain⟨c,d,data,sl⟩:=o;cases data<;>first|exact ⟨_,_,_,_,rfl⟩|cases e
 exact⟨λx a=>NG X G (f x a),λx a=>Gk X G (f x (b x a).1.1.1.1) (g x a).1,λx a=>(g x a).2,λx a=>(b x a).1.1.2,λx a=>(b x a).1.2,λx a=>(b x a).2⟩
theorem y6{K:L8}{t:Va}:∀{Cs:List Vb},(∀C∈Cs,NX K t (.ref C)=Vo false)->Qj K t (Cs.map Value.ref)=Vo false
 | [],_=>rfl
 | C::Cs,h=>by show(match NX K t (.ref C)with|some true=>Vo true|some false=>Qj K t (Cs.map Value.ref)|none=>Vp)=Vo false;rw[h C Mj];exact y6 λD a=>h D (Mg _ a)
section
variable {K:L8} {D:Ends} {σ:St} {H:Hp} {Q:VK} {E:XK} {C x:Vb}
def rd_raise(h:t σ H λvs H1=>vs.length<=sizeLine/\E cls Vp H1):tM cls E t D σ H:=h
def jo(c:NX K (.ref C) (.ref a)=Vo b)(h:Q (.bl b) H):ph K x C [.ref x,.ref a] H Q:=⟨b,.inl ⟨a,rfl,c⟩,h⟩
def Kc{p:Vb}{Cs:List Vb}(a:H p=Vo (.tup (Cs.map V.ref)))(c:Qj K (.ref C) (Cs.map Value.ref)=Vo b)(h:Q (.bl b) H):ph K x C [.ref x,.ref p] H Q:=⟨b,.inr (.inr ⟨p,Cs,rfl,a,c⟩),h⟩
end
section
variable {K:L8} {D:Ends} {σ:St} {H:Hp} {E:St->XK} {C:Vb} {i:Nat} {t u tb:Ends->(St->XK)->St->Hp->Prop} {ts:Vb->Vb->Option Vb->TS} {c:TT}
def rd_bseq(h:t ⟨u D E,D.rt,D.bk,D.ct⟩ E σ H):zf t u D E σ H:=h
def rd_bnext(h:D.nx σ H):tO D E σ H:=h
end
end L2
namespace Tb
open PySem
end Tb
namespace Tb
open PySem
end Tb
namespace L2
open PySem PySem.Spec PyProof.Rows
section
variable {P:Vd} {w:Ve} {A:Vi} {E:Va->Vc->Prop} {s:Vc}
abbrev cJ(led:Bool):Obj:={ cls:=.type "set",dict:=Vp,data:=.set #[] 0 (.fresh 0 0 led) }
end
namespace SF
def DC:entryFor table "set.__iter__" = Vo Builtin.«frozenset.__iter__»:=entryFor_alias (id':="frozenset.__iter__") (by kernel_rfl) rfl (by decide +kernel) (by kernel_rfl)
def IS(a):argsOk "set.__iter__" ⟨[a],[]⟩:=by kernel_rfl
def slot_next:Slot "set_iterator" "__next__" "set_iterator.__next__":=
 .of (owner:="set_iterator") (n:="__next__") (by rw[typeLookup_type,builtinLookup_eq_fast];kernel_rfl) (by decide +kernel) (by decide +kernel) (by decide +kernel)
  (by first|exact .inl (by decide +kernel)|exact .inr (by decide +kernel)) (by rw[isSubtype_type];kernel_rfl)
def entry_next:entryFor table "set_iterator.__next__" = Vo Builtin.«set_iterator.__next__»:=entryFor_of_fast (by kernel_rfl)
def args_next(a):argsOk "set_iterator.__next__" ⟨[a],[]⟩:=by kernel_rfl
def wA:Slot "set_iterator" "__iter__" "set_iterator.__iter__":=
 .of (owner:="set_iterator") (n:="__iter__") (by rw[typeLookup_type,builtinLookup_eq_fast];kernel_rfl) (by decide +kernel) (by decide +kernel) (by decide +kernel)
  (by first|exact .inl (by decide +kernel)|exact .inr (by decide +kernel)) (by rw[isSubtype_type];kernel_rfl)
def Ej:entryFor table "set_iterator.__iter__" = Vo Builtin.«dict_keyiterator.__iter__»:=entryFor_alias (id':="dict_keyiterator.__iter__") (by kernel_rfl) rfl (by decide +kernel) (by kernel_rfl)
def Gv(a):argsOk "set_iterator.__iter__" ⟨[a],[]⟩:=by kernel_rfl
end SF
section
variable {P:Vd} {w:Ve} {A:Vi} {E:Va->Vc->Prop} {s:Vc}
theorem Bd{α:Type}:∀{l:List α} {i:Nat} (h:i<l.length),(l[i]::l.eraseIdx i).Perm l
 | [],i,h=>by cases h
 | x::l,0,h=>.refl _
 | x::l,i+1,h=>by have:=Bd (l:=l) (i:=i) (Nat.lt_of_succ_lt_succ h);exact(List.Perm.swap _ _ _).trans (this.cons x)
theorem Cv{α:Type}(next:Nat->Nat):∀(fuel k:Nat) (left:List α) (out:Array α),fuel=left.length->(pickOrder.go next fuel k left out).toList.Perm (out.toList++left)
 | 0,k,left,out,h=>by obtain rfl:=Pe.mp h.symm;unfold pickOrder.go;rw[Nx]
 | fuel+1,k,left,out,h=>by
  unfold pickOrder.go;have hlt:next k % left.length<left.length:=Pb _ (by omega)
  rw[Me hlt];refine(Cv next fuel (k+1) _ _ (by rw[List.length_eraseIdx_of_lt hlt];omega)).trans ?_;rw[SJ,O2];exact(Bd hlt).append_left _
def DE(next)(xs:Array α):(pickOrder next xs).toList.Perm xs.toList:=by
 have:=Cv next xs.size 0 xs.toList #[] (by simp)
 exact this
abbrev dE(a:Vb)(first:Va)(i n ep:Nat):Obj:={ cls:=.type "set_iterator",data:=.fields #[first,rawInt i,.ref a,rawInt n,rawInt ep] }
def sC{Q:Option Va->Vc->Prop}(c:A.handled=Vp)(d:N1 it s.heap h1)(f:∀h',N1 it s.heap h'->Q Vp { s with heap:=h' }):
  Vf (Vg P w) A.in1 (newExc (.type "StopIteration") [] >>= raiseNew) (λr s'=>∃v,r=Fin.done (.ret v)/\Vf (Vg P w) A (pure (some v)) Q E s') (λe s'=>Vf (Vg P w) A (do if <-isInstance e (.type "StopIteration")then pure none else throw e) Q E s') { s with heap:=h1 }:=by
 refine L6 ?_;refine L6 (wpAny_newObj_type ?_ (by size_fits));refine L6 (wpAny_of_eq (by first|rfl|(simp only[firstArgMember];rfl)) ?_);refine wpAny_newObj_type ?_ (by size_fits);refine L6 (wpAny_handled ?_);rw[show A.in1.handled=Vp from c];refine L6 (L7 (wpAny_throw ?_));refine L6 (wpAny_isInstance ⟨_,Ma _ rfl,rfl⟩ isSubtype_stop ?_);exact L7 (f _ ((d.push _).push _))
def yf(ho:h.get? it=Vo (dE a first i n ep))(c:(#[first,rawInt i,.ref a,rawInt n,rawInt ep]:Array Va).setIfInBounds k x=b):
  (h.update it (Nh (·.setIfInBounds k x))).get? it=Vo { cls:=.type "set_iterator",data:=.fields b }:=by
 have:=NA (Nh (·.setIfInBounds k x)) ho (N6 (Nd rfl _));rw[this,<-c];rfl
def Ky{Q:Option Va->Vc->Prop}(e:A.handled=Vp)(d:w.params.followText "set-order" = true)(hit:s.heap.get? it=Vo (dE a (rawInt 0) i es.size ep))(ho:s.heap.get? a=Vo o)(hd:o.data=.set es ep t)(b:t.fits es.size=true)
  (f:(pickOrder (w.params.setOrder a ep) es)[i]?=Vp) (g:∀h',N1 it s.heap h'->Q Vp { s with heap:=h' }):Vf (Vg P w) A (pyNext (.ref it)) Q E s:=by
 have T:s.TypeIs (.ref it) "set_iterator":=⟨_,hit,rfl⟩;refine L6 (wpAny_attempt (MX T SF.slot_next (wpAny_call_entry SF.slot_next T SF.entry_next ?_ (SF.args_next _))));show Vf _ _ (fieldsOf (.ref it) >>= _) _ _ s;refine L6 (wpAny_fieldsOf hit rfl ?_);refine L6 (L6 (MW ho hd b (L7 ?_)));rw[M1 (by simp)];refine L6 (L6 (MW ho hd b ?_));refine L6 (L6 (wpAny_askSetting (L7 ?_)));rw[show (Vg P w).w.params.followText "set-order" = true from d];simp only[if_true];rw[M1 (by simp)];refine L6 (L6 (MW ho hd b ?_));refine L6 (L6 (wpAny_askSetting (L7 ?_)));rw[show (Vg P w).w.params.followText "set-order" = true from d];refine L6 (wpAny_askSetting (L7 ?_));rw[Mq];have c:(pickOrder ((Vg P w).w.params.setOrder a ep) es)[i]?=Vp:=f;rw[c];refine L7 ?_;refine L6 (wpAny_setField hit rfl (by simp) ?_);exact sC e (M9 ..).extBut g
def Jr(hit:s.heap.get? it=Vo (dE a first i n ep))(h:Q (.ref it) s):Vf (Vg P w) A (pyIter (.ref it)) Q E s:=by have T:s.TypeIs (.ref it) "set_iterator":=⟨_,hit,rfl⟩;refine wpAny_pyIter_slot T SF.wA (wpAny_call_entry SF.wA T SF.Ej ?_ (SF.Gv _));exact L7 ⟨_,rfl,"set_iterator",_,T,SF.slot_next.lookup,h⟩
end
end L2
namespace PyProof.Rows
open PySem
end PyProof.Rows
namespace L2
open PySem PySem.Spec PyProof.Rows
section
variable {P:Vd} {w:Ve} {A:Vi} {E:Va->Vc->Prop} {s:Vc}
def IC:Slot "set" "__len__" "set.__len__":=
 .of (owner:="set") (n:="__len__") (by rw[typeLookup_type,builtinLookup_eq_fast];kernel_rfl) (by decide +kernel) (by decide +kernel) (by decide +kernel)
  (by first|exact .inl (by decide +kernel)|exact .inr (by decide +kernel)) (by rw[isSubtype_type];kernel_rfl)
def sub_set_set:isSubtype (.type "set") (.type "set")=pure true:=by rw[isSubtype_type];kernel_rfl
def split_len:splitId "set.__len__" = Vo ("set","__len__"):=by kernel_rfl
def E6{Q:Bool->Vc->Prop}(T:s.TypeIs (.ref a) "set")(h:Q false s):Vf (Vg P w) A (QY (.ref a)) Q E s:=by refine L6 (wpAny_specialOf T IC.lookup ?_);refine L6 (wpAny_isInstance T sub_set_set ?_);refine L6 (wpAny_typeOf T ?_);exact L7 h
end
section
variable {X:Cx} {pins:List (Vb×Obj)} {σ:St} {H:Hp} {s:Vc}
def Inv.turnedNew{L:List Vb}{o:HO}(I:Inv X pins σ H s)(k:∀b u,b∉L->s.heap.get? b=Vo u->h'.get? b=Vo u)(f:∀b∈L,cq X pins H b)
  (new:bC X.prog X.w (upd H s.heap.objs.size o) h' s.heap.objs.size o):Inv X pins σ (upd H s.heap.objs.size o) { s with heap:=h',toks:=t' }:=by
 have g:H s.heap.objs.size=Vp:=I.hok.fresh (Mw _);have d:∀b u,H b=Vo u->b∉L:=λb u e z=>by rw[(f b z).1]at e;cases e
 have up:∀b u,H b=Vo u->upd H s.heap.objs.size o b=Vo u:=λb u e=>by rw[aq (cC e g)];exact e
 refine I.step (λb hb=>?_) (λb u _ _ a e _=>k b u a e) (λb u _ _ a e _=>⟨u.slots,k b u a e⟩) (λb u _ e n=>?_) (λb u a e=>⟨u,k b u a e⟩) (λb xs e=>up b _ e) (λb u v e=>up b _ e) (λb ps e=>⟨#[],by rw[up b _ e];simp⟩) (λm h=>?_) (λb u e=>?_) I.bare
 .obtain⟨y,i,A,j,l,p⟩:=f b hb;exact⟨j,i,l,p⟩
 .rw[aq (Mv (Mb e))];exact n
 .obtain⟨u,es,ep,x,r⟩:=h;exact⟨u,es,ep,k _ u (λz=>(f _ z).2.1 rfl) x,r⟩
 .by_cases hb:b=s.heap.objs.size
  .subst hb;rw[ay]at e;cases e;exact new
  .rw[aq hb]at e;refine(I.hok b u e).stay (λc v a q=>k c v ?_ q) (λc q=>up c _ q) λc xs q=>up c _ q;rcases a with z|z
   .rw[z];exact d b u e
   .exact d c _ z
end
def KN(b:A.handled=Vp)(it t)(ne:t≠it)(ys):Draws P w A it [it,t] ys.size (λi v=>ys[i]?=Vo v) (λi h=>h.IsTupleIter it t i/\h.IsTuple t ys) where
 live:=λi h st=>by obtain⟨⟨o,ho,_⟩,_⟩:=st;exact⟨o,ho⟩
 frame:=λi h h' st k=>by obtain⟨⟨o,ho,r⟩,⟨u,a,q⟩⟩:=st;exact⟨⟨o,k it (by simp) o ho,r⟩,⟨u,k t (by simp) u a,q⟩⟩
 item:=λi s Q E hi st c=>BE st.1 st.2 (x:=ys[i]) (by simp[hi]) λh' d sb=>c _ h' s.toks (by simp[hi]) ⟨d,by obtain⟨u,a,q⟩:=st.2;exact⟨u,(sb.2 t ne).trans a,q⟩⟩ sb
 done:=λs Q E st e=>px b st.1 st.2 (by simp) e
abbrev lE(h:Vh)(a:Vb):Vh:=h.push { cls:=.type "tuple_iterator",data:=.fields #[.ref a,.int 0 0] }
abbrev rM(h:Vh)(a:Vb):Vh:=(lE h a).push { cls:=.type "enumerate",data:=.fields #[.none,.bool false,.ref h.objs.size,rawInt 0,.none,.none] }
open AutoSeq1 (wpAny_loadPart')in
def EC(a:Vb)(ys:Array Va)(ob:Obj):Meets (Builtin.«enumerate.__new__» ⟨[.type "enumerate",.ref a],[]⟩) (λ_ R s=>s.heap.get? a=Vo ob/\s.heap.IsTuple a ys/\R (.ok (.ret (.ref (lE s.heap a).objs.size))) { s with heap:=rM s.heap a }):=
 .of_wp λprog w A R s q=>by
  obtain⟨i,g,d,tk,os⟩:=s;obtain⟨ga,gt,q⟩:=q;have b:=sub_enumerate;obtain⟨o,go,e,n,f⟩:=id gt;obtain⟨j,k,l,sl⟩:=o;simp only at e f;subst e f;have h:RG (QD ⟨i,g,d,tk,os⟩) a ys:=gt
  wp_walk using wpAny_loadPart' go
  refine wpAny_stack_any λst=>L7 ?_;split
  .rename_i c _ _ _ _ _;cases(c == Value.type "enumerate")<;>(wp_walk using wpAny_loadPart' go,wpAny_pyIter_tuple h;exact⟨_,rfl,q⟩)
  .wp_walk using wpAny_loadPart' go,wpAny_pyIter_tuple h
   exact⟨_,rfl,q⟩
def Jv(gt:s.heap.IsTuple a ys)
  (q:∀h',IsEnum h' (s.heap.objs.size+1) s.heap.objs.size 0 .none->h'.IsTupleIter s.heap.objs.size a 0->(∀c o,s.heap.get? c=Vo o->h'.get? c=Vo o)->Q (.ref (s.heap.objs.size+1)) { s with heap:=h' }) :
  Vf (Vg prog w) A (call (.type "enumerate") [.ref a]) Q E s:=by
 obtain⟨o,go,r⟩:=id gt;refine callType_new F.called_enumerate (by decide) (RH _) (RW _) (λob=>F.args_object_init_2 ob _) RX (EC a ys o) ⟨go,gt,?_⟩;have b:(lE s.heap a).objs.size=s.heap.objs.size+1:=L3 ..;have k2:(rM s.heap a).get? (lE s.heap a).objs.size=Vo _:=Ma _ rfl;have k1:(rM s.heap a).get? s.heap.objs.size=Vo _:=L9 _ (Ma _ rfl);rw[b]at k2 ⊢;exact⟨⟨_,k2,rfl⟩,q _ k2 ⟨_,k1,rfl,rfl⟩ λc o x=>L9 _ (L9 _ x)⟩
def i6(K:L8)(a:Vb):It:=⟨(cU K a).go,λi H x H'=>∃p v,x=.ref p/\H p=Vp/\H'=upd H p (.tup [.int i,v])/\(cU K a).yld i H v H,(cU K a).stop⟩
def J8{K:L8}{ps:Pos}(a e it)(ne:e≠it):Turn P w K (.Tuple elts kk ps) (i6 K a) [e,it] e (λi h=>(∃old,IsEnum h e it i old)/\h.IsTupleIter it a i) where
 mem:=by simp
 obj:=λi h st b hb=>by
  obtain⟨⟨old,ge⟩,o,go,gc,gd⟩:=st;rcases Mr.mp hb with rfl|hb
  .exact⟨_,ge,λv z=>by cases(z)⟩
  .cases Mo.mp hb;exact⟨o,go,λv z=>by rw[gd]at z;cases z⟩
 keep:=λi h h' st k=>by obtain⟨⟨old,ge⟩,f⟩:=st;exact⟨⟨old,k e (by simp) _ ge⟩,f.at λo z=>k it (by simp) o z⟩
 item:=by
  intro X m n r B i pins s σ H E I g st C;subst m n r;obtain⟨⟨old,ge⟩,f⟩:=st;obtain⟨xs,x,j,G⟩:=C;obtain⟨c,J,p,hz⟩:=I.tuple j;obtain⟨u,Z,ru⟩:=J.get G;have hi:i<c.toArray.size:=by have:=(Mm.mp Z).1;simpa using this
  have M:X.A.in1.handled=Vp:=I.ok.hd B;have N:a≠it:=λz=>by obtain⟨o,ho,hcl,_⟩:=p;obtain⟨o',O,d,_⟩:=f;rw[z,O]at ho;cases ho;rw[hcl]at d;exact absurd (Qk d) (by decide)
  have Q:e∉[it,a]:=λz=>by
   rcases Mr.mp z with z|z
   .exact ne z
   .cases Mo.mp z;obtain⟨o,ho,hcl,_⟩:=p;rw[ge]at ho;cases ho;exact absurd (Qk hcl) (by decide)
  refine wpAny_pyNext_enum_itemD (KN M it a N c.toArray) ge ⟨f,p⟩ hi ne Q λy h' tk hy R gs l gz gk=>⟨_,rfl,?_⟩;have ey:y=u:=by
   have:c[i]?=Vo y:=by simpa using hy
   rw[Z]at this;exact(MO this).symm
  subst ey;have lt:∀b∈[e,it],b≠s.heap.objs.size:=λb hb=>by
   rcases Mr.mp hb with rfl|hb
   .exact Mv (Mb ge)
   .cases Mo.mp hb;obtain⟨o,ho,_⟩:=f;exact Mv (Mb ho)
  have I1:Inv X pins σ (upd H s.heap.objs.size (.tup [.int i,x])) { s with heap:=h',toks:=tk+1 }:=
   Inv.turnedNew (L:=[e,it]) I (λb o hb z=>gk b o (λq=>hb (by simp[q])) (λq=>hb (by simp[q])) z) g ⟨by show 2<=sizeLine;decide,[.int i tk,y],.cons ⟨tk,rfl⟩ (.cons ru .nil),⟨_,l,rfl,_,rfl⟩⟩
  have fe:cq X pins (upd H s.heap.objs.size (.tup [.int i,x])) e:=by obtain⟨c0,c1,c2,c3,c4,c5⟩:=g e (by simp);exact⟨by rw[aq (lt e (by simp))];exact c0,c1,c2,c3,c4,c5⟩
  refine wpAny_letOwnedTupleGo_enum (s:={ s with heap:=h',toks:=tk+1 }) R λk S bk=>?_;refine⟨.ref s.heap.objs.size,upd H s.heap.objs.size (.tup [.int i,x]),Inv.same (s:={ s with heap:=h',toks:=tk+1 }) (k:=h') I1 fe bk.extBut,rfl,⟨_,x,rfl,I.hok.fresh (Mw _),rfl,rfl,λzs U=>by rw[I.tuple_inj U j];exact G⟩,⟨⟨y,by simpa using S⟩,gs.1.at λo z=>bk.extBut it o (NC ne) z⟩,λb hb=>?_⟩;rw[aq (lt b hb)];exact(g b hb).1
 done:=by intro X m n r B i pins s σ H E I g st C;subst m n r;obtain⟨⟨old,ge⟩,f⟩:=st;obtain⟨xs,j,G⟩:=C;obtain⟨c,J,p,hz⟩:=I.tuple j;have M:X.A.in1.handled=Vp:=I.ok.hd B;have l:s.TypeIs (.ref e) "enumerate":=⟨_,ge,rfl⟩;have hl:=J.length;unfold pyNext;refine L6 (wpAny_attempt (MX (name:=MN "__next__") l Oy (wpAny_call_entry Oy l RI ?_ (Q8 _))));show Vf _ _ (field (Value.ref e) 2 >>= _) _ _ _;refine L6 (wpAny_field ge rfl (x:=Value.ref it) rfl ?_);refine L6 (px M f (show s.heap.IsTuple a c.toArray from p) (by simp;omega) λh' x he W=>?_);obtain⟨o,ho,Y⟩:=W;refine L6 (wpAny_isInstance (s:={ s with heap:=h' }) (T:="StopIteration") (b:=true) ⟨o,ho,Y⟩ isSubtype_stop ?_);exact L7 ⟨rfl,Inv.same (k:=s.heap) I (g it (by simp)) he⟩
 self:=λ_ _ _ _ _ st h=>by obtain⟨⟨old,ge⟩,_⟩:=st;exact wpAny_pyIter_enum ge h
section
variable {K:L8} {σ:St} {H:Hp} {Q:VK}
def rR(K:L8):List V->Hp->(It->Hp->Prop)->Prop:=λvs H R=>∃a xs,vs=[.ref a]/\ak K H a xs/\R (i6 K a) H
def AJ(K:L8)(ta:TA):TI:=λσ H R=>ta σ H λvs H1=>rR K vs H1 R
def CS{ps:Pos}(K:L8){a:Vk}{ta:TA}{p pos:Pos}(f:Gl X "enumerate")(g:X.mg "enumerate" = Vp)(ha:PA X [a] ta)(i:X.K=K:=by rfl)(hs:starEach [a] X.env=[(false,eval a X.env)]:=by rfl):
  PI X (.Tuple elts kk ps) (.Call (.Name "enumerate" p) [a] [] pos) (AJ K ta):=by
 subst i;intro pins s σ H R I h;refine Call_ (eL I f g QZ (NF (ax (ha pos pins s σ H _ I h) λus s1 ⟨vs,H1,c,r1,j⟩=>?_) (by rw[hs];rfl) rfl));obtain⟨l,xs,e,m,q⟩:=j;subst e;obtain⟨u,rfl,n⟩:=vals1 r1;cases n;obtain⟨d,_,o,_⟩:=c.tuple m;refine Jv (o) λh' ge r k=>?_;refine wpAny_pyIter_enum ge ?_;refine⟨s1.heap.objs.size+1,[s1.heap.objs.size+1,s1.heap.objs.size],_,_,H1,rfl,c.kept k,J8 l (s1.heap.objs.size+1) s1.heap.objs.size (λz=>by have v:@Eq Nat _ _:=z;omega),⟨⟨_,ge⟩,r⟩,λb hb=>?_,q⟩;have le:@LE.le Nat _ s1.heap.objs.size b:=by
  rcases Mr.mp hb with rfl|hb
  .exact NY _ _
  .cases Mo.mp hb;exact Mw _
 exact c.fpOk le (c.hok.fresh le)
def rd_enum{a:TA}(h:a σ H λvs H1=>rR K vs H1 R):AJ K a σ H R:=h
def LG(ha:ak K H a xs)(h:R (i6 K a) H):rR K [.ref a] H R:=⟨a,xs,rfl,ha,h⟩
def KW{D:Ends}(Pv:Nat->St->Hp->Prop)(j:Pv 0 σ H)(k:∀i σ H,i<=xs.length->Pv i σ H->ak K H a xs)
  (hs:∀i u σ H p H',xs[i]?=Vo u->Pv i σ H->Ext H H'->H' p=Vo (.tup [.int i,u])->H p=Vp->g (.ref p) σ H' λb H2=>tb { D with nx:=Pv (i+1),ct:=Pv (i+1),bk:=D.nx } b H2) (hd:∀σ H,Pv xs.length σ H->D.nx σ H) :
  ∃W:Nat->Nat->St->Hp->Prop,(∃m,W 0 m σ H)/\∀i m σ H,W i m σ H ->
   ((i6 K a).stop i H/\D.nx σ H)\/((i6 K a).go i H/\∃N,(∀c H',N c H'->∃f,f<m/\W (i+1) f c H')/\∀x H',(i6 K a).yld i H x H'->g x σ H' λb H2=>tb { D with nx:=N,ct:=N,bk:=D.nx } b H2):=by
 refine⟨λi m σ H=>m=xs.length-i/\i<=xs.length/\Pv i σ H,⟨xs.length,by simp,LI _,j⟩,?_⟩;rintro i m σ H ⟨rfl,hi,p⟩;have d:=k i σ H hi p;by_cases hlt:i<xs.length
 .refine .inr ⟨⟨xs,xs[i],d,by simp[hlt]⟩,Pv (i+1),λc H' l=>⟨xs.length-(i+1),by omega,rfl,hlt,l⟩,λx H' y=>?_⟩;obtain⟨pp,u,rfl,h,rfl,n⟩:=y;exact hs i u σ H pp _ (n.2 xs d) p (aO h) ay h
 .have e:i=xs.length:=by omega
  subst e;exact .inl ⟨⟨xs,d,Mw _⟩,hd σ H p⟩
end
section
variable {X:Cx}
def qK(neg:Bool):R2:=λx y H Q=>∃n p xs d ds,aQ H n x d/\y=.ref p/\H p=Vo (.lst xs)/\Paired (aQ H n) xs ds/\n<=50/\Q (.bl (if neg then !(ds.any λe=>M8 e d)else ds.any λe=>M8 e d)) H
def L5(b:Room k X.A):br X (compareOp .In) (qK false):=by intro pins s σ H x y v u Q I c e h;obtain⟨n,p,xs,d,ds,h1,rfl,h2,a,f,q⟩:=h;have g:aQ H (n+1) (.ref p) (.list ds):=.inr ⟨p,xs,ds,rfl,.inr ⟨h2,rfl⟩,a⟩;obtain⟨j,ra⟩:=aQ.reads I n h1 c;obtain⟨bs,i⟩:=aQ.reads I (n+1) g e;have l1:=aQ.lay n h1;have l2:=jg (λ{x d}=>aQ.lay (H:=H) n) a;have l:=b.units;exact SeqAt.in_list_reads i ra l2.1 l1.1 (by omega) ⟨.bl _,H,I,rfl,q⟩
def LL(b:Room k X.A):br X (compareOp .NotIn) (qK true):=by intro pins s σ H x y v u Q I c e h;obtain⟨n,p,xs,d,ds,h1,rfl,h2,a,f,q⟩:=h;have g:aQ H (n+1) (.ref p) (.list ds):=.inr ⟨p,xs,ds,rfl,.inr ⟨h2,rfl⟩,a⟩;obtain⟨j,ra⟩:=aQ.reads I n h1 c;obtain⟨bs,i⟩:=aQ.reads I (n+1) g e;have l1:=aQ.lay n h1;have l2:=jg (λ{x d}=>aQ.lay (H:=H) n) a;have l:=b.units;exact SeqAt.notIn_list_reads i ra l2.1 l1.1 (by omega) ⟨.bl _,H,I,rfl,q⟩
def Ki{p:Vb}{d:PyData}{Q:VK}(h1:aQ H n x d)(h2:H p=Vo (.lst xs))(a:Paired (aQ H n) xs ds)(b:n<=50)(q:Q (.bl (if neg then !(ds.any λe=>M8 e d)else ds.any λe=>M8 e d)) H):qK neg x (.ref p) H Q:=
 ⟨n,p,xs,d,ds,h1,rfl,h2,a,b,q⟩
end
abbrev Row3:=Vn×Tok×Va
def mU(w:Ve)(e:Row3):DictEntry:=⟨PyData.keyHash w.params e.1,.str e.1 e.2.1,e.2.2⟩
def fM(w:Ve)(l:List Row3)(ep:Nat):Obj:={ cls:=.type "dict",dict:=Vp,data:=.dict (l.map (mU w)).toArray ep,slots:=#[] }
structure GDict(w:Ve)(K:L8)(a:Vb)(kvs:List (Key×V)):Prop where
 has:∃l ep,K.lookup a=Vo (fM w l ep)/\KV kvs (l.map λe=>((Sum.inr e.1:Key),e.2.2))
 nd:(kvs.map (·.1)).Nodup
 sm:(a == sysModules)=false
theorem Bw{P:Vd}{w:Ve}:∀l:List Row3,Pairs (cN P w) (l.map (mU w)) (l.map λe=>((Sum.inr e.1:Key),e.2.2))
 | []=>.nil
 | e::l=>.cons (rz P w e.1 e.2.1) rfl (Bw l)
def FO(l:List Row3):KeysOf (cN P w) (l.map (mU w)).toArray:=λe b=>by
 have a:e∈l.map (mU w):=by simpa using b
 obtain⟨x,_,rfl⟩:=NR.mp a;exact⟨.inr x.1,rz P w x.1 x.2.1,rfl⟩
def GDict.at{kvs:List (Key×V)}(D:GDict X.w X.K a kvs)(I:Inv X pins σ H s):∃vs,KV kvs vs/\s.heap.DictOf (cN X.prog X.w) a vs:=by obtain⟨l,ep,b,r⟩:=D.has;refine⟨_,r,fM X.w l ep,_,ep,I.kIn _ _ b,⟨rfl,rfl,rfl⟩,rfl,FO l,Bw l,?_⟩;rw[<-r.keys];exact D.nd
section
variable {X:Cx} {x:Vn} {a:Vb} {kvs:List (Key×V)} {i:Vk} {ty:TE} {p pos:Pos}
def tP(kvs:List (Key×V))(ty:TE):TE:=λσ H Q=>ty σ H λy H1=>∃k v,y=kV k/\aZ kvs k=Vo v/\Q v H1
def qW(neg:Bool)(kvs:List (Key×V))(ty:TE):TE:=λσ H Q=>ty σ H λy H1=>∃k,y=kV k/\Q (.bl (if neg then !(aZ kvs k).isSome else(aZ kvs k).isSome)) H1
def ky(d:Gl X x)(e:X.mg x=some (.ref a))(D:GDict X.w X.K a kvs)(hi:PE X i ty)(hs:sh i)(hd:(x == ("__debug__":Vn))=false:=by decide):PE X (.Subscript (.Name x p) i pos) (tP kvs ty):=by intro pins s σ H Q I h;refine wm Qo.lookup hs (gy I d e (ax (hi pins s σ H _ I h) λl s2 ⟨y,H2,c,f,k,v,g,hv,q⟩=>?_) hd);subst g;obtain⟨vs,rel,dd⟩:=D.at c;obtain⟨m,j,b⟩:=dw.some_of (v:=v) (o:=valueAt vs k) (by rw[<-hv];exact rel.val k);exact⟨dd.typeIs,wpAny_getItem_of (ia f) dd.mapOf j ⟨v,H2,c.tok _,b,q⟩⟩
def sF(c:Gl X x)(d:X.mg x=some (.ref a))(D:GDict X.w X.K a kvs)(hi:PE X i ty)(hd:(x == ("__debug__":Vn))=false:=by decide):PC X .In i (.Name x p) (qW false kvs ty):=by intro pins s σ H Q I h;refine ax (hi pins s σ H _ I h) λg s1 ⟨y,H1,b,e,k,f,q⟩=>gy b c d ?_ hd;subst f;obtain⟨vs,rel,dd⟩:=D.at b;refine wpAny_in_of (ia e) D.sm dd.mapOf ?_;rw[<-(rel.val k).isSome_eq];exact⟨.bl (aZ kvs k).isSome,H1,b.tok _,rfl,q⟩
def rd_gget{Q:VK}(h:ty σ H λy H1=>∃k v,y=kV k/\aZ kvs k=Vo v/\Q v H1):tP kvs ty σ H Q:=h
def rd_gin{Q:VK}(h:ty σ H λy H1=>∃k,y=kV k/\Q (.bl (if neg then !(aZ kvs k).isSome else(aZ kvs k).isSome)) H1):qW neg kvs ty σ H Q:=h
def ee{R:V->Prop}(hv:aZ kvs (.inr z)=Vo v)(h:R v):∃k v,V.str z=kV k/\aZ kvs k=Vo v/\R v:=⟨.inr z,v,rfl,hv,h⟩
def zY:R2:=λx y H Q=>∃a b,x=.str a/\y=.str b/\Q (.bl (!decide (b.cps.toList<a.cps.toList))) H
def zr:br X (compareOp .LtE) zY:=by intro pins s σ H x y v u Q I c d h;obtain⟨a,b,rfl,rfl,q⟩:=h;obtain⟨t,rfl⟩:=c;obtain⟨e,rfl⟩:=d;exact PySem.P.le_str ⟨.bl _,H,I,rfl,q⟩
def rd_leS{a b:Vn}{Q:VK}(h:Q (.bl (!decide (b.cps.toList<a.cps.toList))) H):zY (.str a) (.str b) H Q:=⟨a,b,rfl,rfl,h⟩
def Vals.rev(r:Vals xs us):Vals xs.reverse us.reverse:=by
 induction r with
 | nil=>exact .nil
 | cons h t a=>
  rw[List.reverse_cons,List.reverse_cons];exact Vals.append a (.cons h .nil)
def pG(K:L8):V->Hp->VK->Prop:=λx H Q=>∃a xs,x=.ref a/\af K H a xs/\fm H (.lst xs.reverse) Q
def Jm{K:L8}{Q:VK}(e:af K H a xs)(h:fm H (.lst xs.reverse) Q):pG K (.ref a) H Q:=⟨a,xs,rfl,e,h⟩
def rd_dget{Q:VK}(h:td σ H λx H1=>ty σ H1 λy H2=>∃a v,x=.ref a/\cF H2 a y (Vo v)/\Q v H2):ym td ty σ H Q:=h
end
def Ko:typeLookup (.type "list_reverseiterator") "__len__" = pure Vp:=by rw[typeLookup_type,builtinLookup_eq_fast];kernel_rfl
def CU:typeLookup (.type "list_reverseiterator") "__length_hint__" = pure (Vo (.builtin "list_reverseiterator.__length_hint__")):=by rw[typeLookup_type,builtinLookup_eq_fast];kernel_rfl
section
variable {prog:Vd} {w:Ve} {A:Vi} {E:Va->Vc->Prop} {s:Vc} {r d:Vb}
def Ia{Q:Bool->Vc->Prop}(c:s.TypeIs (.ref r) "list_reverseiterator")(h:Q false s):Vf (Vg prog w) A (QY (.ref r)) Q E s:=by
 refine L6 (wpAny_specialOf c Ko ?_);refine L6 (wpAny_specialOf c CU ?_);generalize a:("list_reverseiterator.__length_hint__":String)=id0
 wp_delta
 subst a;refine L6 (wpAny_isInstance (b:=true) c (by rw[isSubtype_type];kernel_rfl) ?_);refine wpAny_ite_split (λhab=>absurd hab (by decide)) (λ_=>?_);refine wpAny_ite_split (λ_=>?_) (λhab=>absurd (by decide +kernel) hab);refine wpAny_ite_split (λhab=>absurd hab (by decide +kernel)) (λ_=>?_);exact L7 h
def Ge{R:Result->Vc->Prop}(p:A.handled=Vp)(hne:d≠r)(hit:s.heap.IsRevIter r d ((items.size:Int)-1))(q:s.heap.IsList d items)(S)(g:S≠r)(j:S≠d)(res)(c)(u:s.heap.get? S=Vo { cls:=.type "list",data:=.seq #[] c })
  (x:∀h' tk a c',(∀b o,b≠S->b≠r->s.heap.get? b=Vo o->h'.get? b=Vo o)->h'.get? S=Vo { cls:=.type "list",dict:=Vp,data:=.seq a c',slots:=#[] }->ItemsOf (λi v=>items[items.size-1-i]?=Vo v) a items.size->R (.ok (.ret res)) { s with heap:=h',toks:=tk }) (y:items.size<=sizeLine) :
  Vf (Vg prog w) A.in1 (O3 (.ref S) (.ref r) res)
   (λfin s'=>match fin with|.done f=>R (.ok f) s'|.again c'=>c'.quiet=true/\codeAny (Vg prog w) A c' R s') (λe s'=>R (.error e) s') s:=by
 have k:S∉[r,d]:=by simp only[Mr,MI,or_false,not_or];exact⟨g,j⟩
 have W:=Walks.listRev (prog:=prog) (w:=w) (A:=A.in1) p r d hne items;have st:0<=items.size/\s.heap.IsRevIter r d ((items.size:Int)-1-((0:Nat):Int))/\s.heap.IsList d items:=⟨LI _,by rw[show (items.size:Int)-1-((0:Nat):Int)=(items.size:Int)-1 by omega];exact hit,q⟩;refine L6 (wpAny_typeOf hit.typeIs ?_);have h1:Oc (.ref S) (.ref r)=false:=by simp[Oc,g]
 have h2:(Value.type "list_reverseiterator" == Value.type "list")=false:=by decide
 have z:(Value.type "list_reverseiterator" == Value.type "tuple")=false:=by decide
 simp only[h1,h2,z,Qx,MS,if_false];refine L6 (W.self 0 _ _ _ st ?_);refine L6 (wpAny_holding (Ia hit.typeIs ?_));refine wpAny_ite_split (λhab=>absurd hab (by decide +kernel)) (λ_=>?_);refine L7 ⟨plainId_quiet PySem.F.plain_extend_loop _,?_⟩;refine codeAny_extend_loopS W.toS y S k res items.size 0 s #[] c rfl (LI _) st u (ItemsOf.nil _) λs' a c' n l h=>?_;rw[Moved.eq_with n];refine x s'.heap s'.toks a c' (λb o hb m e=>n.heap b o (λhmem=>?_) e) l h;rcases Mr.mp hmem with B|hmem
 .exact hb B
 .exact m (Mo.mp hmem)
def IM{R:Result->Vc->Prop}(n:A.handled=Vp)(hne:d≠r)(hit:s.heap.IsRevIter r d ((items.size:Int)-1))(p:s.heap.IsList d items)(S)(g:S≠r)(h:S≠d)(k:s.heap.get? S=Vo { cls:=.type "list",data:=.seq #[] })
  (q:∀h' tk a c',(∀b o,b≠S->b≠r->s.heap.get? b=Vo o->h'.get? b=Vo o)->h'.get? S=Vo { cls:=.type "list",dict:=Vp,data:=.seq a c',slots:=#[] }->ItemsOf (λi v=>items[items.size-1-i]?=Vo v) a items.size->R (.ok (.ret .none)) { s with heap:=h',toks:=tk }) (u:items.size<=sizeLine) :
  Vf (Vg prog w) A.in1 (Builtin.«list.__init__» ⟨[.ref S,.ref r],[]⟩)
   (λfin s'=>match fin with|.done f=>R (.ok f) s'|.again c'=>c'.quiet=true/\codeAny (Vg prog w) A c' R s') (λe s'=>R (.error e) s') s:=by
 refine L6 ?_;refine L6 (wpAny_seqItems k rfl (L7 ?_));refine L6 (wpAny_updateSeq k rfl ?_);have c:=NA (Ni (λ_=>(#[]:Array Va))) k rfl;have oth:∀b o,b≠S->s.heap.get? b=some o->(s.heap.update S (Ni (λ_=>(#[]:Array Va)))).get? b=some o:=
  λb o hb e=>(NB _ _ (NC hb)).trans e
 refine L6 (wpAny_letGo ?_);refine Ge n hne (hit.at λo e=>oth _ _ g.symm e) (p.at λo e=>oth _ _ h.symm e) S g h .none _ c (λh' tk a c' x l j=>?_) u;exact q h' tk a c' (λb o hb m e=>x b o hb m (oth b o hb e)) l j
def Gx(l:A.handled=Vp)(hne:d≠r)(hit:s.heap.IsRevIter r d ((items.size:Int)-1))(j:s.heap.IsList d items)(m:items.size<=sizeLine)
  (n:∀h' tk a c',(∀b o,b≠r->s.heap.get? b=Vo o->h'.get? b=Vo o)->h'.get? s.heap.objs.size=Vo { cls:=.type "list",dict:=Vp,data:=.seq a c',slots:=#[] }->ItemsOf (λi v=>items[items.size-1-i]?=Vo v) a items.size->Q (.ref s.heap.objs.size) { s with heap:=h',toks:=tk }) :
  Vf (Vg prog w) A (call (.type "list") [.ref r]) Q E s:=by
 refine callType_codes (Q₁:=λobj c=>obj=.ref s.heap.objs.size/\c={ s with heap:=s.heap.push { cls:=.type "list",data:=.seq #[] } }) PySem.F.called_list (PySem.F.typeCall_list_1 _) PySem.F.entry_list_init
  (code_list_new _ ⟨rfl,rfl⟩) λobj c f=>?_
 obtain⟨rfl,rfl⟩:=f;have k:(s.heap.push { cls:=.type "list",data:=.seq #[] }).get? s.heap.objs.size=Vo { cls:=.type "list",data:=.seq #[] }:=Ma _ rfl;have l1:r<s.heap.objs.size:=let ⟨o,ho,_⟩:=hit;Mb ho;have l2:d<s.heap.objs.size:=let ⟨o,ho,_⟩:=j;Mb ho;refine⟨⟨_,k,rfl⟩,PySem.F.args_list_init_2 _ _,IM (A:=A.in1) l hne (hit.at λo e=>L9 _ e) (j.at λo e=>L9 _ e) _ (NU l1) (NU l2) k (λh' tk a c' p h g=>?_) m⟩;exact⟨rfl,n h' tk a c' (λb o hb e=>p b o (Mv (Mb e)) hb (L9 _ e)) h g⟩
end
def Gy{a:List Va}(h:ItemsOf (λi v=>a.toArray[a.toArray.size-1-i]?=Vo v) acc a.toArray.size):acc=a.reverse.toArray:=by
 have h1:acc.size=a.length:=h.1.trans Mi;have h2:=h.2;refine Array.ext_getElem? λi=>?_;by_cases hi:i<acc.size
 .have b:=h2 i acc[i] (NO hi);rw[NO hi,<-b,P0,P0,Mi,List.getElem?_reverse (by omega)]
 .rw[OH (by omega),P0,Nk (by rw[PN];omega)]
section
variable {X:Cx}
def xt(K:L8)(te:TE):TE:=λσ H Q=>te σ H λx H1=>pG K x H1 Q
def Jd{e:Vk}{te:TE}{p p2 pos c:Pos}(K:L8)(w:X.calm=true)(y:Gl X "list")(z:X.mg "list" = Vp)(k:Gl X "reversed")(l:X.mg "reversed" = Vp)(A:PE X e te)(B:X.K=K:=by rfl)
  (h1:starEach [e] X.env=(false,eval e X.env)::starEach [] X.env:=by rfl)
  (h2:starEach [.Call (.Name "reversed" p2) [e] [] c] X.env=(false,eval (.Call (.Name "reversed" p2) [e] [] c) X.env)::starEach [] X.env:=by rfl) :
  PE X (.Call (.Name "list" p) [.Call (.Name "reversed" p2) [e] [] c] [] pos) (xt K te):=by
 subst B;intro pins s σ H Q I h;refine wpAny_Call_Name_kw (eL I y z PyProof.Rows.boot_list ?_ (by decide) (by decide));refine NF ?_ h2 rfl;refine Qf ?_;refine wpAny_Call_Name_kw (eL I k l PyProof.Rows.boot_reversed ?_ (by decide) (by decide));refine NF ?_ h1 rfl;rw[h1];refine Qf (ax (A pins s σ H _ I h) λu s1 ⟨x,H1,j,r1,C⟩=>?_);refine Qq ?_;obtain⟨a,xs,rfl,E,q⟩:=C;cases r1;obtain⟨f,r,pl,F⟩:=j.list E;have hlen:=r.length;refine call_reversed_list pl.isList ?_;refine Qq ?_;have G:a<s1.heap.objs.size:=let ⟨o,ho,_⟩:=pl.isList;Mb ho;have m:(s1.heap.push (revObj a ((f.toArray.size:Int)-1))).objs.size=s1.heap.objs.size+1:=L3 ..;refine Gx (j.ok.hd w) (Mv G) ⟨_,Ma _ rfl,rfl,rfl⟩ (pl.isList.at λo e=>L9 _ e) (by rw[Mi];omega) λh' tk v c' J g i=>?_;have n:∀b o,s1.heap.get? b=Vo o->h'.get? b=Vo o:=λb o e=>J b o (Mv (Mb e)) (L9 _ e);have hle:s1.heap.objs.size<=(s1.heap.push (revObj a ((f.toArray.size:Int)-1))).objs.size:=by rw[m];exact SW _
 rw[Gy i]at g;exact⟨.ref _,_,j.laid (o:=.lst xs.reverse) n hle ⟨by rw[PN];exact F,_,c',r.rev,g⟩,rfl,q _ (j.hok.fresh hle)⟩
def Af(tk tv:TE):TE:=λσ H Q=>∀p,H p=Vp->tk σ (upd H p (.dT [])) λx H1=>tv σ H1 λv H2=>∃b k,x=.ref b/\H2 b=Vo (.tup (M5 kV k))/\H2 p=Vo (.dT [])/\Q (.ref p) (upd H2 p (.dT [(k,v)]))
def sU{h ev:Vk}(l:X.A.units+1<cLine)(m:PE X h tk)(hv:PE X ev tv):PE X (.Dict [Vo h] [ev] pos) (Af tk tv):=by
 intro pins s σ H Q I q;have n:=I.hok.fresh (Mw s.heap.objs.size);have d:=I.laid (a:=s.heap.objs.size) (o:=.dT []) (h':=s.heap.push { cls:=.type "dict",data:=.dict #[] }) (t':=s.toks) (λ_ _ q=>L9 _ q) (Mw _) (uN s.heap I.big);refine wpAny_Dict_any rfl rfl (by simp) (by simp) ?_;refine pairTrees_cons_walk (ax (m pins _ σ _ _ d (q _ n)) λu s1 ⟨x,H1,d,p,r⟩=>ax (hv pins s1 σ H1 _ d r) λL s2 ⟨v,H2,f,y,B⟩=>pairTrees_nil_walk ?_);obtain⟨b,k,rfl,hb,e,C⟩:=B;cases(p);obtain⟨z,hd,xs,rel,dd⟩:=xM f.hok e;have E:xs.length<=sizeLine:=by rw[<-N9 rel];exact LI _
 unfold storeAll;rw[PY];refine L6 (L6 (wpAny_dictSet_heap (Nat.lt_of_succ_lt l) (jz f.hok hb) dd λh' g hs=>L7 ?_));refine L7 ⟨.ref s.heap.objs.size,_,?_,rfl,C⟩;obtain⟨q,es,ep,i,h2,F,G,_,J⟩:=g;refine lQ f (by rw[e];exact True.intro) hs ⟨q,i⟩ ⟨by rw[sizeLine_eq];simp,hd,_,(rel.put k hb y).keeps λc ys j=>?_,q,es,ep,i,h2,F,G,J⟩;rw[aq (cY j e (λz=>nomatch z))];exact j
def rd_lrev{K:L8}{Q:VK}(h:te σ H λx H1=>pG K x H1 Q):xt K te σ H Q:=h
def rd_disp1{Q:VK}(h:∀p,H p=Vp->tk σ (upd H p (.dT [])) λx H1=>tv σ H1 λv H2=>∃b k,x=.ref b/\H2 b=Vo (.tup (M5 kV k))/\H2 p=Vo (.dT [])/\Q (.ref p) (upd H2 p (.dT [(k,v)]))):Af tk tv σ H Q:=h
def rd_din{Q:VK}(h:ty σ H λy H1=>td σ H1 λx H2=>∃a o,x=.ref a/\cF H2 a y o/\Q (.bl o.isSome) H2):ze ty td σ H Q:=h
def rd_dnin{Q:VK}(h:ty σ H λy H1=>td σ H1 λx H2=>∃a o,x=.ref a/\cF H2 a y o/\Q (.bl (!o.isSome)) H2):Bz ty td σ H Q:=h
def rd_dput(h:tv σ H λv H1=>td σ H1 λx H2=>ty σ H2 λy c=>∃a b,x=.ref a/\gQ c a y v b/\D.nx σ b):AV td ty tv D σ H:=h
end
def kM(z:Vn):It:=⟨λi _=>i<z.cps.size,λi H x H'=>H'=H/\∃c,z.cps[i]?=Vo c/\x=.str ⟨#[c]⟩,λi _=>z.cps.size<=i⟩
def II{K:L8}(z)(t)(it):Turn P w K tg (kM z) [it] it (λi h=>h.IsStrIter it (strIterType z) z t i) where
 mem:=by simp
 obj:=λi h st b hb=>by
  have e:b=it:=by simpa using hb
  subst e;obtain⟨o,e,c,d⟩:=st;exact⟨o,e,λv z=>by rw[d]at z;cases z⟩
 keep:=λi h h' st k=>by obtain⟨o,e,r⟩:=st;exact⟨o,k it (by simp) o e,r⟩
 item:=by
  intro X j l m n i pins s σ H E I g st p;subst j l m;have f:z.cps[i]?=Vo z.cps[i]:=NO p;obtain⟨q,y,J,B,C,F⟩:=g it (by simp);have fin:∀(ty:String),ty=strIterType z->["enumerate","zip","dict_itemiterator","dict_reverseitemiterator","odict_iterator","itertools.zip_longest","itertools.pairwise"].contains ty=false->∀h',h'.IsStrIter it ty z t (i+1)->Nw it s.heap h' ->
    ∃u,Vo (Value.str ⟨#[z.cps[i]]⟩ s.toks)=Vo u/\Vf (Vg X.prog X.w) X.A (letOwnedTupleGo tg (.ref it) u) (λ_ s2=>∃x H',Inv X pins σ H' s2/\RelV x u/\(kM z).yld i H x H'/\s2.heap.IsStrIter it (strIterType z) z t (i+1)/\∀b∈[it],H' b=Vp) E { s with heap:=h',toks:=s.toks+1 }:=by
   intro ty G L h' a sb;have M:Inv X pins σ H { s with heap:=h',toks:=s.toks+1 }:=I.turned (λb o hb e=>(sb.2 b hb).trans e) q y B C F;obtain⟨o,e,c,d⟩:=id a;exact⟨_,rfl,iR e c d L ⟨.str ⟨#[z.cps[i]]⟩,H,M,⟨_,rfl⟩,⟨rfl,_,f,rfl⟩,by rw[<-G];exact a,λb hb=>(g b hb).1⟩⟩
  cases ha:z.cps.all (· < 128)with
  | true=>
   have et:strIterType z = "str_ascii_iterator":=by unfold strIterType;rw[ha];rfl
   rw[et]at st;exact wpAny_pyNext_ascii_item st f λh' a sb=>fin _ et.symm (by decide) h' a sb
  | false=>
   have et:strIterType z = "str_iterator":=by unfold strIterType;rw[ha];rfl
   rw[et]at st;exact wpAny_pyNext_wide_item st f λh' a sb=>fin _ et.symm (by decide) h' a sb
 done:=by
  intro X j l m n i pins s σ H E I g st p;have f:z.cps[i]?=Vp:=OH p;obtain⟨q,y,J,B,C,F⟩:=g it (by simp);have fin:∀h',N1 it s.heap h'->(Vp:Option Va)=Vp/\Inv X pins σ H { s with heap:=h' }:=λh' N=>⟨rfl,I.turned (t':=s.toks) (λb o hb e=>N b o hb e) q y B C F⟩;cases ha:z.cps.all (· < 128)with
  | true=>
   have et:strIterType z = "str_ascii_iterator":=by unfold strIterType;rw[ha];rfl
   rw[et]at st;exact wpAny_pyNext_ascii_end (I.ok.hd n) st f fin
  | false=>
   have et:strIterType z = "str_iterator":=by unfold strIterType;rw[ha];rfl
   rw[et]at st;exact wpAny_pyNext_wide_end (I.ok.hd n) st f fin
 self:=λA i s Q E st h=>by
  cases ha:z.cps.all (· < 128)with
  | true=>
   have et:strIterType z = "str_ascii_iterator":=by unfold strIterType;rw[ha];rfl
   rw[et]at st;exact wpAny_pyIter_striter_ascii st h
  | false=>
   have et:strIterType z = "str_iterator":=by unfold strIterType;rw[ha];rfl
   rw[et]at st;exact wpAny_pyIter_striter_wide st h
section
variable {X:Cx} {tg:Vk}
def Au(tl:TE):TI:=λσ H R=>tl σ H λx H1=>∃z,x=.str z/\R (kM z) H1
def zj{l:Vk}(c:PE X l tl):PI X tg l (Au tl):=by
 intro pins s σ H R I h;refine ax (c pins s σ H _ I h) λv s1 ⟨x,H1,a,r1,d⟩=>?_;obtain⟨z,rfl,q⟩:=d;obtain⟨t,rfl⟩:=r1;refine wpAny_pyIter_strU ?_;refine⟨s1.heap.objs.size,[s1.heap.objs.size],_,_,H1,rfl,a.kept λb o e=>L9 _ e,II z t _,⟨_,Ma _ rfl,rfl,rfl⟩,λb hb=>?_,q⟩;have e:b=s1.heap.objs.size:=by simpa using hb
 subst e;exact a.fpOk (Mw _) (a.hok.fresh (Mw _))
end
def rd_iS(h:te σ H λx H1=>∃z,x=.str z/\R (kM z) H1):Au te σ H R:=h
section
variable {prog:Vd} {w:Ve} {A:Vi} {E:Va->Vc->Prop} {s:Vc}
def EX{it d:Vb}{Q:Option Va->Vc->Prop}(hit:s.heap.IsKeyIter it d i es.size ep)(b:s.heap.get? d=Vo od)(c:od.data=.dict es ep)(hlt:i<es.size)
  (e:∀h',h'.IsKeyIter it d (i+1) es.size ep->Nw it s.heap h'->Q (Vo es[i].key) { s with heap:=h' }):Vf (Vg prog w) A (pyNext (.ref it)) Q E s:=by
 obtain⟨o,ho,f,hd⟩:=id hit;have T:=hit.typeIs;refine L6 (wpAny_attempt (MX T Ny (wpAny_call_entry Ny T QE ?_ (P5 _))));refine L6 (L7 (L6 (L6 ?_)))
 first|refine L6 (wpAny_typeNameOfWhole_keyiter T (L7 ?_))|refine L6 (wpAny_typeNameOf_keyiter T (L7 ?_))
 refine L6 (wpAny_fieldsOf ho hd ?_);refine L6 (L7 (L6 (wpAny_dictEntries b c ?_)));rw[M1 (by simp)];refine L6 (L7 (L6 (wpAny_dictEpoch b c ?_)));rw[M1 (by simp)];refine L7 ?_;simp only[show ¬((i:Int)<0) by omega,if_false,Mq,NO hlt];refine L6 ?_
 first|refine L6 (wpAny_typeNameOfWhole_keyiter T (L7 ?_))|refine L6 (wpAny_typeNameOf_keyiter T (L7 ?_))
 refine L6 (wpAny_isOneOf_keyiter T ?_);show Vf _ _ (setField (.ref it) 1 (rawInt ((i:Int)+1)) >>= _) _ _ s;refine L6 (wpAny_setField ho hd (by simp) ?_);have a:(s.heap.update it (Nh (·.setIfInBounds 1 (rawInt ((i:Int)+1))))).IsKeyIter it d (i+1) es.size ep:=
  ⟨_,NA _ ho (N6 (Nd hd _)),(Pm ..).trans f,by rw[Nd hd];simp[rawInt]⟩
 refine L6 (wpAny_holding ?_);refine L6 (wpAny_isOneOf_keyiter a.typeIs ?_);exact L7 (L7 ⟨_,rfl,L7 (e _ a (M9 ..))⟩)
def Kz{it d:Vb}{Q:Option Va->Vc->Prop}(f:A.handled=Vp)(hit:s.heap.IsKeyIter it d i es.size ep)(c:s.heap.get? d=Vo od)(e:od.data=.dict es ep)(hge:es.size<=i)
  (g:∀h',N1 it s.heap h'->Q Vp { s with heap:=h' }):Vf (Vg prog w) A (pyNext (.ref it)) Q E s:=by
 obtain⟨o,ho,h,hd⟩:=id hit;have T:=hit.typeIs;refine L6 (wpAny_attempt (MX T Ny (wpAny_call_entry Ny T QE ?_ (P5 _))));refine L6 (L7 (L6 (L6 ?_)))
 first|refine L6 (wpAny_typeNameOfWhole_keyiter T (L7 ?_))|refine L6 (wpAny_typeNameOf_keyiter T (L7 ?_))
 refine L6 (wpAny_fieldsOf ho hd ?_);show Vf _ _ (if(Value.ref d == Value.none)=true then _ else _) _ _ s;refine L6 (L7 (L6 (wpAny_dictEntries c e ?_)));rw[M1 (by simp)];refine L6 (L7 (L6 (wpAny_dictEpoch c e ?_)));rw[M1 (by simp)];refine L7 ?_;simp only[show ¬((i:Int)<0) by omega,if_false,Mq,OH hge];refine L6 ?_
 first|refine L6 (wpAny_typeNameOfWhole_keyiter T (L7 ?_))|refine L6 (wpAny_typeNameOf_keyiter T (L7 ?_))
 show Vf _ _ (setField (.ref it) 0 .none >>= _) _ _ s;refine L6 (wpAny_setField ho hd (by simp) ?_);refine L6 ?_;refine L6 (wpAny_newObj_type ?_ (by size_fits));refine L6 (wpAny_of_eq (by first|rfl|(simp only[firstArgMember];rfl)) ?_);refine wpAny_newObj_type ?_ (by size_fits);refine L6 (wpAny_handled ?_);rw[show A.in1.handled=Vp from f];refine L6 (L7 (wpAny_throw ?_));refine L6 (wpAny_isInstance (T:="StopIteration") (b:=true) ⟨_,Ma _ rfl,rfl⟩ isSubtype_stop ?_);exact L7 (g _ (((M9 ..).extBut.push _).push _))
def I0{d:Vb}(hd:(d == sysModules)=false)(ho:s.heap.get? d=Vo od)(b:od.ExactDict)(a:od.data=.dict es ep)
  (c:Q (.ref s.heap.objs.size) { s with heap:=s.heap.push { cls:=.type "dict_keyiterator",data:=.fields #[.ref d,.int 0 0,.int es.size 0,.int ep 0] } }):Vf (Vg prog w) A (pyIter (.ref d)) Q E s:=by
 have T:s.TypeIs (.ref d) "dict":=⟨od,ho,b.1⟩;refine wpAny_pyIter_slot T F.slot_dict_iter (wpAny_call_entry F.slot_dict_iter T F.entry_dict_iter ?_ (F.args_dict_iter_1 _));refine L6 ?_;refine L6 (wpAny_notOrdered_dict T ?_);refine L7 ?_;show Vf _ _ (RY d >>= _) _ _ s;unfold RY;rw[M1 (by rw[hd];exact Ms)];refine L6 (L7 (L6 (wpAny_dictEntries ho a (L6 (wpAny_dictEpoch ho a ?_)))));refine L6 (wpAny_newObj_type (L7 ⟨_,rfl,"dict_keyiterator",_,⟨_,Ma _ rfl,rfl⟩,Ny.lookup,?_⟩));simpa[rawInt]using c
end
section
variable {X:Cx} {tg:Vk}
def Iu{xs:List (List Key×Vb×Va)}(r:KT H kvs xs):Paired (λb (kv:List Key×V)=>H b=Vo (.tup (kv.1.map kV))) (xs.map (·.2.1)) kvs:=by
 induction r with
 | nil=>exact .nil
 | cons h _ a=>exact .cons h.2.1 a
end
section
variable {X:Cx}
def Fj:V->Option Int->Option Int->Hp->VK->Prop:=λx lo hi H Q=>∃z,x=.str z/\z.length<=sizeLine/\Q (.str (P6 z lo hi)) H
def xQ:jj X Fj:=by
 intro pins s σ H x v g m lo hi sl Q I e hs pl pu h;obtain⟨z,rfl,f,q⟩:=h;obtain⟨t,rfl⟩:=e;refine⟨"str",_,F.slot_str_getitem.lookup,typeIs_str _ _ _,?_⟩;have fin:∀c k,EP X pins σ Q (.str (P6 z lo hi) c) { s with toks:=k }:=λc k=>⟨.str (P6 z lo hi),H,I.tok _,⟨_,rfl⟩,q⟩;have hle:(P6 z lo hi).length<=sizeLine:=MH (SK z _ _) f;obtain⟨o,ho,a,hd⟩:=hs;cases pl with
 | none=>cases pu with
  | none=>exact wpAny_getItem_str_slice (l:=Vp) (u:=Vp) (st:=Vp) ⟨o,ho,a,hd⟩ rfl (post_val_or_str ⟨hle,fin⟩)
  | int j b=>exact wpAny_getItem_str_slice (l:=Vp) (u:=Vo (j,b)) (st:=Vp) ⟨o,ho,a,hd⟩ rfl (post_val_or_str ⟨hle,fin⟩)
 | int i d=>cases pu with
  | none=>exact wpAny_getItem_str_slice (l:=Vo (i,d)) (u:=Vp) (st:=Vp) ⟨o,ho,a,hd⟩ rfl (post_val_or_str ⟨hle,fin⟩)
  | int j b=>exact wpAny_getItem_str_slice (l:=Vo (i,d)) (u:=Vo (j,b)) (st:=Vp) ⟨o,ho,a,hd⟩ rfl (post_val_or_str ⟨hle,fin⟩)
theorem tJ:∀{zs:List Vn} {us:List Va},Vals (zs.map V.str) us->StrsAre us zs
 | [],_,r=>by cases r;exact .nil
 | z::zs,_,r=>by
  cases r with
  | cons h t=>
   obtain⟨t',rfl⟩:=h;exact .cons z t' (tJ t)
def mx(K:L8){o:Vk}{name:Vn}{apos cpos:Pos}{id:String}(d:PlainAttrs T)(slot:Slot T name id)(c:typeOf (.builtin id)=pure (.type "method_descriptor"))(e:i8 X id r)(ho:PE X o to)(h:X.K=K:=by rfl)
  (a:attributeBase o name X.env (eval o X.env)=eval o X.env:=by rfl) (b:(apos.endLine == cpos.line)=true:=by rfl):PE X (.Call (.Attribute o name apos) [] [] cpos) (rJ K T r to):=by
 subst h;exact Ht d slot c e ho a b
end
def rd_bm0{K:L8}{Q:VK}(h:to σ H λx H1=>jD K T x H1/\r x [] H1 Q):rJ K T r to σ H Q:=h
def zM(a b:Nat):Rc (a:Int) (b:Int)=((a &&& b:Nat):Int):=by unfold Rc;simp
def CI(K:L8):List V->Hp->VK->Prop:=λxs H Q=>∃(p:Vb) (bs:List Bool),xs=[.ref p]/\af K H p (bs.map V.bl)/\Q (.bl (bs.any id)) H
def any_range(bs:List Bool):((MY bs.length).any λi=>bs.getD i false)=bs.any id:=by
 rw[ML,MK,MK];constructor
 .rintro⟨i,hi,h⟩;have a:=NP.mp hi;rw[NL,Me a]at h;exact⟨_,MD a,h⟩
 .rintro⟨b,hb,h⟩;obtain⟨i,hi,e⟩:=QC.mp hb;refine⟨i,NP.mpr hi,?_⟩;rw[NL,Me hi,e];exact h
def B2(K:L8)(l:X.calm=true)(m:X.K=K:=by rfl):cb X (.builtin "any") (CI K):=by
 subst m;intro pins s σ H xs us Q I r h;obtain⟨p,bs,rfl,w,q⟩:=h;obtain⟨u,rfl,x⟩:=vals1 r;cases x;obtain⟨d,j,pl,O⟩:=I.list w;have y:=oq j;have hne:p≠s.heap.objs.size:=Mv (by obtain⟨o,n,e,_⟩:=pl;exact Mb e);refine call_any_walk (wpAny_pyIter_list pl.isList ?_);have z:Inv X pins σ H { s with heap:=s.heap.push { cls:=.type "list_iterator",data:=.fields #[.ref p,.int 0 0] } }:=I.kept (t':=s.toks) λb o e=>L9 _ e;have B:=I.fpOk (H':=H) (Mw s.heap.objs.size) I.fresh;refine⟨s.heap.objs.size,_,_,_,_,_,(λi=>bs.getD i false),rfl,R0 (A:=X.A.in1) (I.ok.hd l) _ p hne d.toArray,⟨⟨_,Ma _ rfl,rfl,rfl⟩,?_⟩,?_,λh' tk C=>?_⟩
 .exact pl.isList.push _
 .intro i v s' E P hv F;rw[y]at hv;have a:(bs.map Value.bool)[i]?=Vo v:=by simpa using hv
  rw[Mf]at a;cases f:bs[i]? with
  | none=>rw[f]at a;cases a
  | some b=>
   rw[f]at a;cases a;have g:bs.getD i false=b:=by rw[NL,f];rfl
   have c:E (bs.getD i false) s':=F;rw[g]at c;exact wpAny_truthy_bool c
 .obtain⟨G,J,R,L,M,N⟩:=B;have k:=j.length;rw[Mc]at k;refine⟨.bl (bs.any id),H,z.turned (λb o hb e=>C b o (by simpa using hb) e) G J L M N,?_,q⟩;show Value.bool _=Value.bool _;rw[Mi,<-k,any_range]
section
variable {X:Cx}
def xl{x:Vn}{k j:Nat}{p pos:Pos}(C:Cal X.prog X.w X.K X.mg X.base x j ps sp)(c:Room k X.A)(a:j<=k:=by decide)(d:Gl X x:=by rfl)(b:(x == ("__debug__":Vn))=false:=by decide):
  PE X (.Call (.Name x p) [] [] pos) (jk sp [] E0 fR):=by
 obtain⟨f,fd,e,g,hb,F⟩:=C.ex;exact EE F (c.mono a) d e g hb .nil qE b
def Gn:TE:=λ_ _ _=>False
def Ez:TT:=λ_ _ _=>False
def gD:PE X e Gn:=λ_ _ _ _ _ _ h=>h.elim
def om:PT X e Ez:=λ_ _ _ _ _ _ h=>h.elim
end
abbrev eQ(w:Ve):Bool:=!w.params.followText "set-order"
section
variable {P:Vd} {w:Ve} {A:Vi} {E:Va->Vc->Prop} {s:Vc}
def LN(a)(h:Q₁ (.ref s.heap.objs.size) { s with heap:=s.heap.push (cJ (eQ w)) }):
  codeAny (Vg P w) A (.call (.builtin "set.__new__") ⟨[.type "set",a],[]⟩) (wants Q₁ E) s:=by
 refine codeAny_of_tree ?_;refine L6 (wpAny_of_eq (F.newCall_set_1 a) (L7 ⟨plainId_quiet F.plain_set_new _,codeAny_builtin F.entry_set_new ?_⟩));unfold Builtin.«set.__new__» Builtin.Frozenset.newClass;have b:=sub_set_self;obtain⟨c,g,d,tk,os⟩:=s;dsimp only
 wp_walk
 refine wpAny_askSetting (L7 ?_);dsimp only;simp only[newObj];refine L6 (wpAny_alloc (L7 ?_));exact L7 h
def LZ{i slot:Nat}{Q:Option Va->Vc->Prop}(e:w.params.followText "set-order" = false)(hit:s.heap.get? it=Vo (dE a (rawInt (slot:Int)) i es.size ep))(ho:s.heap.get? a=Vo o)(hd:o.data=.set es ep t)(d:t.fits es.size=true)(h1:es.size<=1)(f:t.led=true)
    (g:es[Ql t.place slot]?=Vo x) (h:t.place[Ql t.place slot]?=Vo j) (l:∀h',h'.get? it=Vo (dE a (rawInt ((j+1:Nat):Int)) (i+1) es.size ep)->Nw it s.heap h'->Q (Vo x.2) { s with heap:=h' }):Vf (Vg P w) A (pyNext (.ref it)) Q E s:=by
 have T:s.TypeIs (.ref it) "set_iterator":=⟨_,hit,rfl⟩;refine L6 (wpAny_attempt (MX T SF.slot_next (wpAny_call_entry SF.slot_next T SF.entry_next ?_ (SF.args_next _))));show Vf _ _ (fieldsOf (.ref it) >>= _) _ _ s;refine L6 (wpAny_fieldsOf hit rfl ?_);refine L6 (L6 (MW ho hd d (L7 ?_)));rw[M1 (by simp)];show Vf _ _ (setNext a slot _ _ >>= _) _ _ s;refine L6 (L6 (MW ho hd d ?_));refine L6 (L6 (wpAny_askSetting (L7 ?_)));rw[show (Vg P w).w.params.followText "set-order" = false from e];simp only[MS,if_false];have c:¬((!t.plain && decide (es.size>1))=true):=by rw[MZ (by omega),Nu];exact Ms
 split
 .rename_i hh;exact absurd hh c
 .refine L6 ?_;show Vf _ _ (if(!t.led && !es.isEmpty)=true then unsupported _ else pure ()) _ _ _;rw[M1 (by rw[f];exact Ms)];refine L7 (L7 ?_);rw[g,h];refine L6 (wpAny_setField hit rfl (by simp) ?_);have b:(s.heap.update it (Nh (·.setIfInBounds 0 (rawInt ((j+1:Nat):Int))))).get? it=Vo (dE a (rawInt ((j+1:Nat):Int)) i es.size ep):=yf (k:=0) (x:=rawInt ((j+1:Nat):Int)) hit rfl;refine L6 (wpAny_setField b rfl (by simp) ?_);have m:=yf (k:=1) (x:=rawInt ((i:Int)+1)) b rfl;refine L7 ⟨_,rfl,L7 (l _ ?_ ((M9 ..).trans (M9 ..)))⟩;exact m
def D3{i slot:Nat}{Q:Option Va->Vc->Prop}(b:A.handled=Vp)(e:w.params.followText "set-order" = false)(hit:s.heap.get? it=Vo (dE a (rawInt (slot:Int)) i es.size ep))(ho:s.heap.get? a=Vo o)(hd:o.data=.set es ep t)(d:t.fits es.size=true)(h1:es.size<=1)(f:t.led=true)
  (g:es[Ql t.place slot]?=Vp) (h:∀h',N1 it s.heap h'->Q Vp { s with heap:=h' }):Vf (Vg P w) A (pyNext (.ref it)) Q E s:=by
 have T:s.TypeIs (.ref it) "set_iterator":=⟨_,hit,rfl⟩;refine L6 (wpAny_attempt (MX T SF.slot_next (wpAny_call_entry SF.slot_next T SF.entry_next ?_ (SF.args_next _))));show Vf _ _ (fieldsOf (.ref it) >>= _) _ _ s;refine L6 (wpAny_fieldsOf hit rfl ?_);refine L6 (L6 (MW ho hd d (L7 ?_)));rw[M1 (by simp)];show Vf _ _ (setNext a slot _ _ >>= _) _ _ s;refine L6 (L6 (MW ho hd d ?_));refine L6 (L6 (wpAny_askSetting (L7 ?_)));rw[show (Vg P w).w.params.followText "set-order" = false from e];simp only[MS,if_false];have c:¬((!t.plain && decide (es.size>1))=true):=by rw[MZ (by omega),Nu];exact Ms
 split
 .rename_i b;exact absurd b c
 .refine L6 ?_;show Vf _ _ (if(!t.led && !es.isEmpty)=true then unsupported _ else pure ()) _ _ _;rw[M1 (by rw[f];exact Ms)];refine L7 (L7 ?_);rw[g];refine L6 (wpAny_setField hit rfl (by simp) ?_);exact sC b (M9 ..).extBut h
def Kb(ho:s.heap.get? a=Vo o)(hex:o.ExactSet)(hd:o.data=.set es ep t)(b:t.fits es.size=true)(h1:es.size<=1)
  (c:Q (.ref s.heap.objs.size) { s with heap:=s.heap.push (dE a (rawInt 0) 0 es.size ep) }) :
  Vf (Vg P w) A (pyIter (.ref a)) Q E s:=by
 have T:s.TypeIs (.ref a) "set":=⟨o,ho,hex.1⟩;refine wpAny_pyIter_slot T F.slot_set_iter (wpAny_call_entry F.slot_set_iter T SF.DC ?_ (SF.IS _));show Vf _ _ (Builtin.Frozenset.sizeOf a >>= _) _ _ s;refine L6 (L6 (L6 (MW ho hd b (L7 (L7 ?_)))));refine L6 (L6 (MW ho hd b ?_));refine L6 (L6 (wpAny_askSetting (L7 (L7 ?_))));rw[M1 (by show ¬(!(w.params.followText "set-order") && (!t.plain && decide (es.size>1)))=true;rw[MZ (by omega)];simp)]
 refine L6 (L7 ?_);refine L6 (L6 (MW ho hd b (L7 ?_)));refine L6 (wpAny_newObj_type (L7 ⟨_,rfl,"set_iterator",_,⟨_,Ma _ rfl,rfl⟩,SF.slot_next.lookup,?_⟩) (by size_fits));exact c
def jS(w:Ve)(h:Vh)(a:Vb):Prop:=∃o es ep t,h.get? a=Vo o/\o.ExactSet/\o.data=.set es ep t/\t.fits es.size=true/\es.size=0/\t.led=eQ w
def Gb{l:Vb}(u:A.handled=Vp)(gt:s.heap.IsList l #[])
  (h:∀h' tk,jS w h' s.heap.objs.size->(∀b o,b<s.heap.objs.size->s.heap.get? b=Vo o->h'.get? b=Vo o)->Q (.ref s.heap.objs.size) { s with heap:=h',toks:=tk }):Vf (Vg P w) A (call (.type "set") [.ref l]) Q E s:=by
 have x1:=Nf.notType;have x2:=Nf.canCreate;have O:=F.typeCall_set_1 (.ref l);have S:=Nf.made;have T:=Nf.sub;obtain⟨c,tl,U⟩:=Nf.mro;refine wpAny_call (codeAny_of_tree ?_);show Vf _ _ (callAny (.type "set") _) _ _ _;refine L7 ⟨Qi _ (by decide +kernel),codeAny_builtin F.entry_type_call ?_⟩;rw[R4 (weight_type_call_type "set" [.ref l] []) rfl]
 repeat (any_goals (first|assumption|wp_step))
 refine codeAny_mono (LN (.ref l) (E:=E) (Q₁:=λv s1=>v=.ref s.heap.objs.size/\s1={ s with heap:=s.heap.push (cJ (eQ w)) }) ⟨rfl,rfl⟩) λr s1 g=>?_;cases r with
 | error e=>exact g
 | ok x=>
  cases x with
  | ret v=>
   obtain⟨rfl,rfl⟩:=g;have q:(s.heap.push (cJ (eQ w))).get? s.heap.objs.size=Vo (cJ (eQ w)):=Ma _ rfl;have y:Shared.TypeIs { s with heap:=s.heap.push (cJ (eQ w)) } (.ref s.heap.objs.size) "set":=⟨_,q,rfl⟩;have W:=Nf.init.lookup;have X:=Nf.init.bind (.ref s.heap.objs.size)
   repeat (any_goals (first|assumption|wp_step))
   refine codeAny_mono (codeAny_call_builtin (R:=wants (λr s2=>r=.none/\∃h' tk,s2={ s with heap:=h',toks:=tk }/\jS w h' s.heap.objs.size/\∀b o,b<s.heap.objs.size->s.heap.get? b=Vo o->h'.get? b=Vo o) E) Nf.init.plain F.entry_set_init (check_set_init_1 y ?_)) λB s2 a=>?_
   .have i:(s.heap.push (cJ (eQ w))).IsList l #[]:=gt.push _;have hlt:l<s.heap.objs.size:=by obtain⟨o,ho,_⟩:=gt;exact Mb ho
    obtain⟨ol,C,hcl,nl,d⟩:=id i;obtain⟨Y,Z,dt,sl⟩:=ol;simp only at hcl d;subst hcl d;have y1:=F.sub_list_set;have y2:=F.sub_list_frozenset;have y3:(Value.type "list" == Value.type "dict")=false:=by decide
    unfold Builtin.«set.__init__» noKeywords QN;generalize hit:pyIter=PI
    wp_walk
    subst hit;refine wpAny_pyIter_list i ?_;refine L6 (wpAny_runValue ?_);have j:(s.heap.push (cJ (eQ w))).objs.size=s.heap.objs.size+1:=L3 _ _;have k:A.in1.in1.in1.handled=Vp:=by simp[u]
    have hne:l≠(s.heap.push (cJ (eQ w))).objs.size:=by rw[j];exact Mv (Nl hlt)
    refine codeAny_builtin Pf ?_;rw[OX Of _];show Vf _ _ (pyNext (.ref _) >>= _) _ _ _;refine L6 ((R0 k _ l hne #[]).toS.done _ _ _ ⟨⟨_,Ma _ rfl,rfl,rfl⟩,i.push _⟩ λs' f=>?_);obtain⟨h',G,H,m,n⟩:=s';have I:G=s.gens:=f.gens;have J:H=s.drawn:=f.drawn;have L:n=s.os:=f.os;subst I J L;have keep:∀b o,b<(s.heap.push (cJ (eQ w))).objs.size->(s.heap.push (cJ (eQ w))).get? b=Vo o->h'.get? b=Vo o:=λb o hb e=>f.heap b o (λz=>by have z:=Mo.mp z;rw[z]at hb;exact absurd hb (ND _)) (L9 _ e)
    refine L7 (L7 ?_);show Vf _ _ (ret Value.none) _ _ _;refine L7 ⟨rfl,h',m,rfl,⟨cJ (eQ w),#[],0,_,keep _ _ (by rw[j];exact N0 _) q,⟨rfl,rfl,rfl⟩,rfl,rfl,rfl,rfl⟩,λb o hb e=>keep b o (by rw[j];exact Nl hb) (L9 _ e)⟩
   .cases B with
    | error e=>exact a
    | ok M=>
     cases M with
     | ret r=>
      obtain⟨rfl,h',tk,rfl,p,N⟩:=a
      repeat (any_goals (first|assumption|wp_step))
      exact h _ _ p N
     | _=>exact a.elim
  | _=>exact g.elim
def Iq(g:A.handled=Vp)(I a)(hd:o.data=.set es ep t)(j:t.fits es.size=true)(m:es.size=0)(l:t.led=eQ w):
  Walks P w A I [I,a] [I] es.size (λ_ _=>True) (λ_ h=>h.get? I=Vo (dE a (rawInt 0) 0 es.size ep)/\h.get? a=Vo o) where
 sub:=λb hb=>by simp at hb;simp[hb]
 frame:=λ_ _ _ st k=>⟨k I (by simp) _ st.1,k a (by simp) _ st.2⟩
 item:=λi s Q E hi st d=>absurd hi (by omega)
 done:=λs Q E st d=>by
  cases f:w.params.followText "set-order" with
  | true=>exact Ky g f st.1 st.2 hd j (OH (by rw[<-Mh,(DE _ es).length_eq,Mh];omega)) λh' c=>d h' s.toks λb o hb e=>c b o (λh=>hb (by simp[h])) e
  | false=>exact D3 g f st.1 st.2 hd j (by omega) (by rw[l];show(!w.params.followText "set-order")=true;rw[f];rfl) (OH (by omega)) λh' c=>d h' s.toks λb o hb e=>c b o (λh=>hb (by simp[h])) e
 self:=λ_ _ _ _ st d=>Jr st.1 d
def IV{Q:List Va->Vc->Prop}(y:A.handled=Vp)(B:jS w s.heap a)
  (C:∀h' tk,s.toks<=tk->s.heap.objs.size<h'.objs.size->(∀b o,b<s.heap.objs.size->s.heap.get? b=Vo o->h'.get? b=Vo o)->Q [] { s with heap:=h',toks:=tk }):Vf (Vg P w) A (collect (.ref a)) Q E s:=by
 obtain⟨o,es,ep,t,ho,hex,hd,v,p,i⟩:=B;have q:es.size<=sizeLine:=by rw[p];exact LI _
 have hlt:a<s.heap.objs.size:=Mb ho;refine L6 (wpAny_runValue (codeAny_builtin F.entry_proto_collect ?_));refine L6 (wpAny_newObj_type ?_);refine L7 ⟨plainId_quiet F.plain_list_iadd _,codeAny_builtin F.entry_list_iadd ?_⟩;show Vf _ A.in1 (O3 (.ref s.heap.objs.size) (.ref a) (.ref s.heap.objs.size)) _ _ { s with heap:=s.heap.push (seqObj "list" #[] 0) };unfold O3;have f:(s.heap.push (seqObj "list" #[] 0)).get? a=Vo o:=L9 _ ho;have g:(s.heap.push (seqObj "list" #[] 0)).objs.size=s.heap.objs.size+1:=L3 _ _;refine L6 (wpAny_typeOf (T:="set") ⟨o,f,hex.1⟩ ?_);have G:Oc (.ref s.heap.objs.size) (.ref a)=false:=by have:s.heap.objs.size≠a:=NU hlt;simp[Oc,this]
 have H:(Value.type "set" == Value.type "list")=false:=by decide
 have I:(Value.type "set" == Value.type "tuple")=false:=by decide
 simp only[G,H,I,Qx,MS,if_false];refine L6 (Kb (s:={ s with heap:=s.heap.push (seqObj "list" #[] 0) }) f hex hd v (by omega) ?_);have x:a≠(s.heap.push (seqObj "list" #[] 0)).objs.size:=by rw[g];exact Mv (Nl hlt)
 refine L6 (wpAny_holding (E6 (s:={ s with heap:=(s.heap.push (seqObj "list" #[] 0)).push (dE a (rawInt 0) 0 es.size ep),drawn:=s.drawn }) ⟨o,L9 _ f,hex.1⟩ ?_));rw[M3 (by first|rfl|decide +kernel|kernel_rfl)];refine L6 (wpAny_rule ?_);have c:((s.heap.push (seqObj "list" #[] 0)).push (dE a (rawInt 0) 0 es.size ep)).get? s.heap.objs.size=Vo (seqObj "list" #[] 0):=L9 _ (Ma _ rfl);refine L6 ?_;show Vf _ A.in1 (updateSeq s.heap.objs.size (·.push .none) >>= λ_=>updateSeq s.heap.objs.size (·.pop)) _ _ { s with heap:=(s.heap.push (seqObj "list" #[] 0)).push (dE a (rawInt 0) 0 es.size ep),drawn:=s.drawn };refine L6 (wpAny_updateSeq c rfl ?_);have d:=NA (Ni (·.push Value.none)) c rfl;refine wpAny_updateSeq (s:={ s with heap:=((s.heap.push (seqObj "list" #[] 0)).push (dE a (rawInt 0) 0 es.size ep)).update s.heap.objs.size (Ni (·.push Value.none)),drawn:=s.drawn }) d rfl ?_;have h:=NA (Ni (·.pop)) d rfl;have oth:∀b o,b≠s.heap.objs.size->((s.heap.push (seqObj "list" #[] 0)).push (dE a (rawInt 0) 0 es.size ep)).get? b=Vo o ->
   ((((s.heap.push (seqObj "list" #[] 0)).push (dE a (rawInt 0) 0 es.size ep)).update s.heap.objs.size (Ni (·.push Value.none))).update s.heap.objs.size (Ni (·.pop))).get? b=Vo o:=
  λb o hb e=>(NB _ _ (NC hb)).trans ((NB _ _ (NC hb)).trans e)
 refine L7 ⟨plainId_quiet F.plain_extend_loop _,codeAny_extend_loopS (Iq (by simp[y]) _ a hd v p i).of_in1.toS q _ (by rw[g];simp only[Mr,MI,or_false,not_or];exact⟨Mv (N0 _),NU hlt⟩) _ es.size 0 { s with heap:=(((s.heap.push (seqObj "list" #[] 0)).push (dE a (rawInt 0) 0 es.size ep)).update s.heap.objs.size (Ni (·.push Value.none))).update s.heap.objs.size (Ni (·.pop)),drawn:=s.drawn } _ _ rfl (LI _)
  ⟨oth _ _ (by rw[g];exact Nat.succ_ne_self _) (Ma _ rfl),oth _ _ (Mv hlt) (L9 _ f)⟩ h (ItemsOf.nil _) λs' j c' k m n=>?_⟩
 show Vf _ A (load s.heap.objs.size >>= _) _ _ s';refine L6 (wpAny_load m ?_);obtain⟨h',J,L,r,u⟩:=s';have M:J=s.gens:=k.gens;have N:L=s.drawn:=k.drawn;have O:u=s.os:=k.os;subst M N O;obtain rfl:j = #[]:=Array.eq_empty_of_size_eq_zero (by rw[n.1];exact p);refine L7 (C h' r k.toks (Mb m) λb o' hb e=>k.heap b o' (λz=>?_) (oth b o' (Mv hb) ?_))
 .rcases Mr.mp z with z|z
  .exact Mv hb z
  .have z:=Mo.mp z;rw[z]at hb;exact absurd hb (by rw[g];exact Nat.not_lt.mpr (by exact SW _))
 .exact L9 _ (L9 _ e)
def Kd(r:A.handled=Vp)(u:jS w s.heap a)
  (h:∀h' tk (l:Vb),s.heap.objs.size<=l->(∃e,h'.get? l=Vo (seqObj "list" #[] e))->s.toks<=tk ->
   (∀b o,b<s.heap.objs.size->s.heap.get? b=Vo o->h'.get? b=Vo o)->Q (.ref l) { s with heap:=h',toks:=tk }) :
  Vf (Vg P w) A (call (.builtin "sorted") [.ref a]) Q E s:=by
 refine Calls.call_function_entry kind_sorted plain_sorted entry_sorted (args_sorted1 _) ?_;refine L6 (L7 ?_);refine L6 (IV (by simp[r]) u λh1 tk j d k=>?_);refine L6 (wpAny_newList ?_ (LI _));have hst:StrsAre [] []:=.nil;have f:(h1.push (seqObj "list" ([]:List Va).toArray 0)).get? h1.objs.size=some (seqObj "list" ([]:List Va).toArray 0):=Ma _ rfl;refine L6 (wpAny_holding (wpAny_call_entry slot_list_sort ⟨_,f,rfl⟩ entry_list_sort (list_sort_treeK PyProof.Rows.strKind_oneLt f hst.keysOf (λn p rest e=>keyKind_strs (by rw[<-e];exact hst)) (by decide) λc v hs=>⟨_,rfl,?_⟩) (args_list_sort _)));refine L7 ⟨_,rfl,?_⟩;obtain⟨x,q,y,H⟩:=sorted_out_str hst v hs;cases y.eq_nil;have B:(arrOf c).map (·.2) = #[]:=by
  have:((arrOf c).map (·.2)).toList=[]:=by
   cases C:((arrOf c).map (·.2)).toList with
   | nil=>rfl
   | cons a b=>rw[C]at q;cases q
  exact Array.toList_inj.mp this
 refine h _ tk h1.objs.size (PF d) ?_ j λb o' hb e=>?_
 .obtain⟨g,r1⟩:∃g,((h1.push (seqObj "list" ([]:List Va).toArray 0)).update h1.objs.size (Ni λ_=>#[])).get? h1.objs.size=Vo (seqObj "list" #[] g):=⟨_,get?_update_seq f (λ_=>#[])⟩;have F:(((((h1.push (seqObj "list" ([]:List Va).toArray 0)).update h1.objs.size (Ni λ_=>#[])).push (seqObj "tuple" ([]:List Va).toArray 0)).push (seqObj "list" #[] 0))).get? h1.objs.size=Vo (seqObj "list" #[] g):=L9 _ (L9 _ r1);have G:=get?_update_seq F (λ_=>(arrOf c).map (·.2));exact⟨_,G.trans (congrArg Vo (congrArg (λz=>seqObj "list" z _) B))⟩
 .have i:b<h1.objs.size:=RE hb d;have g:=k b o' hb e;refine(NB _ _ (NU i)).trans (L9 _ (L9 _ ((NB _ _ (NU i)).trans (L9 _ g))))
def lY(w:Ve)(a:Vb):HO:=.ext λh=>jS w h a
def Jg(w:Ve):List V->Hp->VK->Prop:=λxs H Q=>∃p,xs=[.ref p]/\H p=Vo (.lst [])/\∀l,H l=Vp->Q (.ref l) (upd H l (lY w l))
def FH(w:Ve):List V->Hp->VK->Prop:=λxs H Q=>∃p,xs=[.ref p]/\H p=Vo (lY w p)/\∀l,H l=Vp->Q (.ref l) (upd H l (.lst []))
end
def Ic(S:jS w h a):bC P w H h a (lY w a):=by
 refine⟨S,?_,λh1 h2 z k=>?_⟩
 .obtain⟨o,es,ep,t,ho,_⟩:=S;exact⟨o,ho⟩
 .obtain⟨o,es,ep,t,ho,b⟩:=z;exact⟨o,es,ep,t,k o ho,b⟩
section
variable {X:Cx}
def J6(c:Room k X.A):cb X (.type "set") (Jg X.w):=by intro pins s σ H xs us Q I r h;obtain⟨p,rfl,d,q⟩:=h;obtain⟨u,rfl,f⟩:=vals1 r;cases f;obtain⟨_,g,n,i,gt⟩:=I.hok p _ d;cases i;refine Gb c.hd (⟨_,gt,rfl,n,rfl⟩) λh' tk j l=>?_;have a:=I.hok.fresh (Mw _);exact⟨.ref s.heap.objs.size,_,I.laid (λb o e=>l b o (Mb e) e) (Mw _) (Ic j),rfl,q _ a⟩
def D2(d:Room k X.A):cb X (.builtin "sorted") (FH X.w):=by intro pins s σ H xs us Q I r h;obtain⟨p,rfl,f,q⟩:=h;obtain⟨u,rfl,g⟩:=vals1 r;cases g;obtain⟨i,_⟩:=I.hok p _ f;refine Kd d.hd i λh' tk l hle a j m=>?_;have c:=I.hok.fresh hle;obtain⟨e,n⟩:=a;refine⟨.ref l,_,(I.laid (λb o e=>m b o (Mb e) e) hle ?_),rfl,q l c⟩;exact⟨LI _,[],e,.nil,n⟩
end
def tY(a b:Vn)(te:TE):TE:=λσ H Q=>te σ H λv H1=>∃i:Int,v=.int i/\i.natAbs.log2<1920/\(Ou++a++(toString i:Vn)).length<=sizeLine/\(Ou++a++(toString i:Vn)++b).length<=sizeLine/\∀z,Q (.str z) H1
def JE{a b:Vn}{j l:Nat}{e:Vk}{te:TE}{m p2 n pos:Pos}(o:PE X e te)(p:(Ou++a).length<=sizeLine:=by decide +kernel):PE X (.JoinedStr [.Constant (.str a) j m,.FormattedValue e (-1) Vp p2,.Constant (.str b) l n] pos) (tY a b te):=by intro pins s σ H Q I h;refine JoinedStr_many (joinParts_cons (ax ((ao:PE X (.Constant (.str a) j m) (tC (.str a))) pins s σ H (λv H1=>v=V.str a/\H1=H) I ⟨rfl,rfl⟩) λv s1 ⟨x,H1,r,r1,d,f⟩=>?_));subst d f;obtain⟨t,rfl⟩:=r1;refine⟨p,joinParts_cons (FormattedValue_plain (ax (o pins s1 σ H1 _ r h) λv s2 ⟨y,H2,u,w,i,z,A,g,c,q⟩=>?_))⟩;subst z;obtain⟨E,rfl⟩:=w;refine formatField_int_small A ⟨g,joinParts_cons (ax ((ao:PE X (.Constant (.str b) l n) (tC (.str b))) pins _ σ H2 (λv k=>v=V.str b/\k=H2) (u.tok _) ⟨rfl,rfl⟩) λv F ⟨x,k,B,C,d,f⟩=>?_)⟩;subst d f;obtain⟨G,rfl⟩:=C;exact⟨c,joinParts_nil ⟨.str _,k,B.tok _,⟨_,rfl⟩,q _⟩ c⟩
def rd_fs3{a b:Vn}{Q:VK}(h:te σ H λv H1=>∃i,v=.int i/\i.natAbs.log2<1920/\(Ou++a++(toString i:Vn)).length<=sizeLine/\(Ou++a++(toString i:Vn)++b).length<=sizeLine/\∀z,Q (.str z) H1):tY a b te σ H Q:=h
def Hb{K:L8}{tb:Ends->(St->XK)->St->Hp->Prop}(P:Vb->St->Hp->Prop)(h1:∀E,(∀a c H1,P c a H1->E a (.ref c) Vp H1)->tb D E σ H)
  (h2:∀a c H1,P c a H1->Pq K (.ref c) (.ref C)=Vo true/\ExcK K c/\∀x,H1 x=Vp->ts x c Vp ⟨λb H'=>D.nx (b.set i Vp) H',D.rt,λb H'=>D.bk (b.set i Vp) H',λb H'=>D.ct (b.set i Vp) H'⟩ (a.set i (Vo (.ref x))) H1):Cr K C i tb ts D σ H:=
 h1 _ λa c H1 p=>⟨c,rfl,h2 a c H1 p⟩
section
variable {prog:Vd} {w:Ve} {A:Vi} {E:Va->Vc->Prop} {s:Vc} {dd:Option Vb}
def LV{Q:Option Va->Vc->Prop}(f:A.handled=Vo (.ref x))(g:bL s.heap x dd)(a:x≠it)
  (hit:IsTupIter s.heap it t i) (h:IsTup s.heap t items) (hi:items[i]?=Vp) (j:∀h',N1 it s.heap h'->Q Vp { s with heap:=h' }):Vf (Vg prog w) A (pyNext (.ref it)) Q E s:=by
 obtain⟨o,ho,y,hd⟩:=id hit;obtain⟨ol,c,_,nl,d⟩:=h;refine wC ?_;refine MX hit.typeIs slot_tupleiter_next (wpAny_call_entry slot_tupleiter_next hit.typeIs entry_tupleiter_next ?_ (args_tupleiter_next _));have l:¬((Value.ref t == Value.none)=true):=Ms;show Vf _ _ (field (.ref it) 0 >>= λq=>_) _ _ s;refine L6 (wpAny_field ho hd rfl ?_);refine L6 (wpAny_field ho hd rfl ?_);refine L6 (wpAny_seqItems c d ?_);simp only[Mq,hi];have S:=M9 s.heap it (Nh (·.setIfInBounds 0 Value.none));refine L6 (wpAny_rule (L6 (wpAny_setField ho hd (by simp) ?_)));have al:bL (s.heap.update it (Nh (·.setIfInBounds 0 Value.none))) x dd:=by obtain⟨ox,vs,m,r⟩:=g;exact⟨ox,vs,(S.2 x a).trans m,r⟩
 refine xF f al λh' e k z=>?_;obtain⟨n,p,u⟩:=z;exact⟨e,n,rfl,p,u,j h' λb o' hb v=>k b o' ((S.2 b hb).trans v)⟩
def Js{Q:List Va->Vc->Prop}(k:A.handled=Vo (.ref x))(j:bL s.heap x dd)(c:IsTup s.heap t items)
  (l:∀h',N1 s.heap.objs.size s.heap h'->Q items.toList { s with heap:=h' }):Vf (Vg prog w) A (unpackItems (.ref t) items.size Vp) Q E s:=by
 have hlt:t≠s.heap.objs.size:=by obtain⟨o,ho,_⟩:=c;exact Mv (Mb ho)
 have d:x≠s.heap.objs.size:=by obtain⟨o,_,ho,_⟩:=j;exact Mv (Mb ho)
 refine L6 ?_;refine L6 (wpAny_specialOf c.typeIs slot_tuple_iter.lookup ?_);refine L7 ?_;refine L6 (wpAny_holding (iter_tuple c ?_));refine L6 (wpAny_holding (draw_tuple hlt items.size 0 _ _ ⟨_,Ma _ rfl,rfl,rfl⟩ (c.push _) (by omega) λh1 f a=>?_));rw[show List.take items.size (List.drop 0 items.toList)=items.toList by rw[Rh];exact Pr (by simp),M1 (by simp)];have g:IsTup h1 t items:=(c.push _).extBut a.extBut hlt;have h:bL h1 x dd:=by obtain⟨ox,vs,m,r⟩:=j;exact⟨ox,vs,(a.2 x d).trans (L9 _ m),r⟩
 refine L6 (wpAny_holding (LV k h d f g (by simp) λh2 i=>?_));exact L7 (l h2 λb o hb e=>i b o hb (a.extBut b o hb (L9 _ e)))
def EV{x1}{Q:Unit->Vc->Prop}(b:A.handled=Vo (.ref x))(c:bL s.heap x dd)(d:IsTup s.heap t items)
  (e:(assignEach elts env).length=items.size) (a:(assignEach elts env).findIdx? (·.1)=Vp)
  (h:∀h',N1 s.heap.objs.size s.heap h'->Vf (Vg prog w) A (assignInOrder ((assignEach elts env).map (·.2)) items.toList) Q E { s with heap:=h' }) :
  Vf (Vg prog w) A (assign (.Tuple elts x1 pos) env (.ref t)) Q E s:=by
 refine L6 (wpAny_standAt ?_);unfold unpack;rw[e,a];exact L6 (wpAny_holding (Js b c d h))
end
def mh(X:Cx):Prop:=∃x,X.A.handled=Vo (.ref x)/\∀pins σ H s,Inv X pins σ H s->bL s.heap x Vp
def Hz(X:Cx)(x:Vb)(oe:Obj)(z:Blk):Prop:=z.s.heap.get? x=Vo oe/\z.H x=Vp/\x∉z.fp/\x∉bh X.stack
section
variable {X:Cx} {x:Vb} {oe:Obj}
def xy(a:∃vs,oe.data=.fields vs/\vs[2]?=Vo .none)(h:Hz (cy X x oe) x oe z):mh (fj (cy X x oe) sc own js z):=by obtain⟨vs,hd,h2⟩:=a;exact⟨x,rfl,λpins σ H s I=>⟨oe,vs,I.base.keep x oe h.1 h.2.1 h.2.2.2 h.2.2.1,hd,h2,λ_ z=>by cases z⟩⟩
def F1{es:List Vk}{k:Nat}{t:fw}{pos:Pos}(K:L8)(g:mh Y)(h:jC Y es t)(i:Y.K=K:=by rfl)
  (j:(assignEach es Y.env).length=n:=by rfl) (hst:(assignEach es Y.env).findIdx? (·.1)=Vp:=by rfl):PG Y (.Tuple es k pos) (lZ K n t):=by
 subst i;intro pins s σ H v u Q I r c;obtain⟨a,xs,l,m,p,c⟩:=c;subst l;cases r;obtain⟨x,d,al⟩:=g;obtain⟨q,f,w,z⟩:=I.tuple m;refine EV d (al _ _ _ _ I) w (by simp[j,<-p,f.length]) hst λh' d=>?_;have y:Inv Y pins σ H { s with heap:=h' }:=I.kept (t':=s.toks) λb o e=>d b o (Mv (Mb e)) e;exact h pins _ σ H xs _ Q y (by simpa using f) c
def DY(C:mh Y)(a it)(hit:∀x,Y.A.handled=Vo (.ref x)->x≠it):TurnAt Y tg (cu Y.K a) [it] it (λi h=>h.IsListIter it a i) where
 obj:=(m9 (P:=Y.prog) (w:=Y.w) (K:=Y.K) (tg:=tg) a it).obj
 keep:=(m9 (P:=Y.prog) (w:=Y.w) (K:=Y.K) (tg:=tg) a it).keep
 item:=by intro i pins s σ H E I g st k;obtain⟨xs,x,j,l⟩:=k;obtain⟨m,n,p,F⟩:=I.list j;obtain⟨u,G,J⟩:=n.get l;obtain⟨q,r,L,v,y,z⟩:=g it (by simp);refine wpAny_pyNext_list_item st p.isList (by simpa using G) λh' f sb=>?_;have M:Inv Y pins σ H { s with heap:=h' }:=I.turned (t':=s.toks) (λb o hb e=>(sb.2 b hb).trans e) q r v y z;obtain⟨o,e,c,d⟩:=id f;exact⟨u,rfl,iR e c d (by decide) ⟨x,H,M,J,⟨rfl,λys N=>by rw[I.list_inj N j];exact l⟩,f,λb hb=>(g b hb).1⟩⟩
 done:=by intro i pins s σ H E I g st k;obtain⟨xs,j,l⟩:=k;obtain⟨m,n,p,F⟩:=I.list j;obtain⟨q,r,L,v,y,z⟩:=g it (by simp);have Q:=n.length;obtain⟨x,B,al⟩:=C;exact Dp B (al _ _ _ _ I) (hit x B) st p.isList (by simp;omega) λh' O=>⟨rfl,I.turned (λb o hb e=>O b o hb e) q r v y z⟩
 self:=(m9 (K:=Y.K) (tg:=tg) a it).self
def Hw(K:L8){pos:Pos}(own:List Vn)(js:List Nat){n:TE}{te:TE}(f:∃vs,oe.data=.fields vs/\vs[2]?=Vo .none)(hi:PE (cy X x oe) iter n)
  (u:∀z,mh (fj (cy X x oe) sc own js z)->PG (fj (cy X x oe) sc own js z) tg g) (B:∀z,iT (fj (cy X x oe) sc own js z) ifs tc)
  (E:∀z,PE (fj (cy X x oe) sc own js z) elt te) (F:X.K=K:=by rfl) (r:sc.kind=.function:=by rfl) (hb:gZ sc (cy X x oe).env.scope=true:=by rfl) (G:jl sc (cy X x oe).N js=true:=by rfl)
  (hs:∀y,foldedSetIterable iter (cy X x oe).env y=pure y:=by intro _;rfl):PE (cy X x oe) (.ListComp elt [⟨tg,iter,ifs,0⟩] sc pos) (lO own.length js (lA K n) g tc te):=by
 subst F;intro pins s σ H Q I h;refine wpAny_comprehension_free rfl hs (mw λp c L=>I.ok.has p.1 (um hb c L)) r (λp c M=>Gi hb c M) (ax (hi pins s σ H _ I h) λv s1 h1=>?_);obtain⟨v1,H1,d,r1,a,rfl,⟨xs,O⟩,W,P,turn⟩:=h1;cases r1;obtain⟨R,rv,p,i⟩:=d.list O;refine wpAny_pyIter_list p.isList ?_;have S:Inv (cy X x oe) pins σ H1 { s1 with heap:=s1.heap.push { cls:=.type "list_iterator",data:=.fields #[.ref a,.int 0 0] } }:=d.kept (t':=s1.toks) λb o e=>L9 _ e;have c:=d.pin (x,oe) (MQ _ Mj);have i:∀C,Hz (cy X x oe) x oe ⟨{ s1 with heap:=s1.heap.push { cls:=.type "list_iterator",data:=.fields #[.ref a,.int 0 0] } },H1,[s1.heap.objs.size],C⟩:=λC=>by
  refine⟨L9 _ c.1,c.2.1,λz=>?_,λz=>?_⟩
  .have:x=s1.heap.objs.size:=by simpa using z
   exact absurd (Mb c.1) (by rw[this];exact ND _)
  .rcases Mr.mp (d.stkSub x z)with e|e
   .exact c.2.2.1 e
   .exact c.2.2.2.1 e
 refine CP r hb G (λC=>u _ (xy f (i C))) (λC=>B _) (λC=>E _) S
  (λC=>DY (xy f (i C)) a s1.heap.objs.size λT j=>by cases(show Vo (Value.ref x)=Vo (Value.ref T)from j);exact Mv (Mb c.1)) ⟨_,Ma _ rfl,rfl,rfl⟩ (λb hb=>?_) P turn ?_
 .have e:b=s1.heap.objs.size:=by simpa using hb
  subst e;exact d.fpOk (Mw _) (d.hok.fresh (Mw _))
 intro D C s' ys H' nD U Y ⟨m,Z⟩ _ q;refine⟨m,Z,λh' k=>?_⟩;obtain⟨f0,f1,f2,f3,f4,f5⟩:=Y;exact⟨.ref D,_,U.turned (λb o l e=>(k.2 b l).trans e) f0 f1 f3 f4 f5,rfl,q⟩
end
section
variable {X:Cx}
def ET(K:L8):V->List V->Hp->VK->Prop:=λx vs H Q=>∃sep l zs,x=.str sep/\vs=[.ref l]/\af K H l (M5 V.str zs)/\(zs.map (·.length)).sum+zs.length*sep.length<=1000000/\Q (.str (OG sep zs)) H
def kr(K:L8)(a:X.K=K:=by rfl):i8 X "str.join" (ET K):=by subst a;intro pins s σ H x vs v us Q I b c h;obtain⟨sep,l,zs,rfl,rfl,d,e,q⟩:=h;obtain⟨t,rfl⟩:=b;obtain⟨u,rfl,f⟩:=vals1 c;cases f;obtain⟨g,r,pl,i⟩:=I.list d;exact PyProof.Rows.join_list pl.isList (by simpa using tJ r) (MH e (by decide)) λj k=>⟨.str _,H,I.tok _,⟨_,rfl⟩,q⟩
end
section
variable {X:Cx} {pins:List (Vb×Obj)} {σ:St} {H:Hp} {s:Vc}
def bM{pos:Pos}(own:List Vn)(js:List Nat){i:TI}{te:TE}(hi:PI X tg iter i)(l:∀z,PG (cK X sc own js z) tg g)(n:∀z,iT (cK X sc own js z) ifs tc)
  (r:∀z,PE (cK X sc own js z) elt te) (u:X.calm=true:=by rfl) (j:sc.kind=.function:=by rfl) (hb:eP sc X.env.scope=true:=by rfl) (y:jl sc X.N js=true:=by rfl)
  (hs:∀x,foldedSetIterable iter X.env x=pure x:=by intro _;rfl):PE X (.ListComp elt [⟨tg,iter,ifs,0⟩] sc pos) (lO own.length js i g tc te):=by
 intro pins s σ H Q I h;refine wpAny_comprehension_free rfl hs (mw λp a B=>I.ok.has p.1 (nv hb a B)) j (λp a E=>vj hb a E) (ax (hi pins s σ H _ I h) λv s1 h1=>ax h1 λF s2 h2=>?_);obtain⟨it,fp,tn,J,H2,e,G,T,c,k,W,L,turn⟩:=h2;subst e;refine rY j hb y (λ_=>l _) (λ_=>n _) (λ_=>r _) G (λC=>Turn.at_ T u) c k L turn ?_;intro D C s' ys H' nD M O ⟨m,P⟩ _ q;refine⟨m,P,λh' d=>?_⟩;obtain⟨R,S,k,U,Z,f5⟩:=O;exact⟨.ref D,_,M.turned (λb o f e=>(d.2 b f).trans e) R S U Z f5,rfl,q⟩
end
def dG(c:Vb)(o:Obj):HO:=.ext λh=>h.get? c=Vo o
def La(r:h.get? c=Vo o):bC P w H h c (dG c o):=⟨r,⟨o,r⟩,λh1 h2 r1 k=>k o r1⟩
def bK(cs:List (Vb×Obj))(H:Hp):Hp:=λb=>match cs.lookup b with|some o=>Vo (dG b o)|none=>H b
def bg(cs:List (Vb×Obj))(H:Hp):Hp:=λb=>match cs.lookup b with|some _=>Vp|none=>H b
section
variable {cs:List (Vb×Obj)} {H H':Hp} {b:Vb} {o:Obj} {P:Vd} {w:Ve} {h h':Vh} {fs ex:List Vb}
def fD(q:cs.lookup b=Vo o):bK cs H b=Vo (dG b o):=by unfold bK;rw[q]
def dh(q:cs.lookup b=Vp):bK cs H b=H b:=by unfold bK;rw[q]
def iP(q:cs.lookup b=Vo o):bg cs H b=Vp:=by unfold bg;rw[q]
def cP(q:cs.lookup b=Vp):bg cs H b=H b:=by unfold bg;rw[q]
def Fx{u:HO}(q:bg cs H b=Vo u):cs.lookup b=Vp/\H b=Vo u:=by
 cases e:cs.lookup b with
 | none=>rw[cP e]at q;exact⟨rfl,q⟩
 | some o=>rw[iP e]at q;cases q
def qu{u:HO}(a:∀b o,cs.lookup b=Vo o->H b=Vp)(q:H b=Vo u):bK cs H b=Vo u:=by
 cases e:cs.lookup b with
 | none=>rw[dh e];exact q
 | some o=>rw[a b o e]at q;cases q
def zh(hok:bt P w H h)(c:∀b o,cs.lookup b=Vo o->h.get? b=Vo o)(a:∀b o,cs.lookup b=Vo o->H b=Vp):bt P w (bK cs H) h:=λb u e=>by
 cases q:cs.lookup b with
 | some o=>rw[fD q]at e;cases e;exact La (c b o q)
 | none=>
  rw[dh q]at e;exact(hok b u e).stay (λd v _ g=>g) (λd hd=>qu a hd) λd xs hd=>qu a hd
def wK(hok:bt P w H h)(a:∀b o,cs.lookup b=Vo o->H b=Vo (dG b o)):bt P w (bg cs H) h:=λb u e=>by
 obtain⟨q,e⟩:=Fx e;have nt:∀d x,H d=Vo x->(∀f,x≠.ext f)->bg cs H d=Vo x:=λd x hd nx=>by
  cases z:cs.lookup d with
  | none=>rw[cP z];exact hd
  | some o'=>rw[a d o' z]at hd;cases hd;exact absurd rfl (nx _)
 exact(hok b u e).stay (λd v _ g=>g) (λd hd=>nt d _ hd λf z=>by cases z) λd xs hd=>nt d _ hd λf z=>by cases z
def K4(u:Un fs ex (bK cs H) H' h h')(hok':bt P w H' h')(f:∀b o,cs.lookup b=Vo o->h.get? b=Vo o)(c:∀b o,cs.lookup b=Vo o->H b=Vp)(a:∀b o,cs.lookup b=Vo o->H' b=Vo (dG b o)):Un fs ex H (bg cs H') h h' where
 keep:=λb o e n d nx=>by
  cases q:cs.lookup b with
  | none=>exact u.keep b o e (by rw[dh q];exact n) d nx
  | some o'=>
   rw[f b o' q]at e;cases e;exact(hok' b _ (a b _ q)).1
 slot:=λb o e n d nx=>by
  cases q:cs.lookup b with
  | none=>exact u.slot b o e (by rw[dh q];exact n) d nx
  | some o'=>
   rw[f b o' q]at e;cases e;exact⟨_,(hok' b _ (a b _ q)).1⟩
 free:=λb o e n nx=>by
  cases q:cs.lookup b with
  | none=>rw[cP q];exact u.free b o e (by rw[dh q];exact n) nx
  | some o'=>exact iP q
 there:=u.there
 tups:=λb xs e=>by
  cases q:cs.lookup b with
  | none=>rw[cP q];exact u.tups b xs (by rw[dh q];exact e)
  | some o'=>rw[c b o' q]at e;cases e
 frzs:=λb o x e=>by
  cases q:cs.lookup b with
  | none=>rw[cP q];exact u.frzs b o x (by rw[dh q];exact e)
  | some o'=>rw[c b o' q]at e;cases e
 tbls:=λb ps e=>by
  cases q:cs.lookup b with
  | none=>rw[cP q];exact u.tbls b ps (by rw[dh q];exact e)
  | some o'=>rw[c b o' q]at e;cases e
def HL(u:Un fs ex (bg cs H) H' h h')(a:∀b o,cs.lookup b=Vo o->H b=Vo (dG b o)):Un fs ex H (bK cs H') h h' where
 keep:=λb o e n c nx=>by
  cases q:cs.lookup b with
  | none=>exact u.keep b o e (by rw[cP q];exact n) c nx
  | some o'=>rw[a b o' q]at n;cases n
 slot:=λb o e n c nx=>by
  cases q:cs.lookup b with
  | none=>exact u.slot b o e (by rw[cP q];exact n) c nx
  | some o'=>rw[a b o' q]at n;cases n
 free:=λb o e n nx=>by
  cases q:cs.lookup b with
  | none=>rw[dh q];exact u.free b o e (by rw[cP q];exact n) nx
  | some o'=>rw[a b o' q]at n;cases n
 there:=u.there
 tups:=λb xs e=>by
  cases q:cs.lookup b with
  | none=>rw[dh q];exact u.tups b xs (by rw[cP q];exact e)
  | some o'=>rw[a b o' q]at e;cases e
 frzs:=λb o x e=>by
  cases q:cs.lookup b with
  | none=>rw[dh q];exact u.frzs b o x (by rw[cP q];exact e)
  | some o'=>rw[a b o' q]at e;cases e
 tbls:=λb ps e=>by
  cases q:cs.lookup b with
  | none=>rw[dh q];exact u.tbls b ps (by rw[cP q];exact e)
  | some o'=>rw[a b o' q]at e;cases e
end
structure FunR(P:Vd)(w:Ve)(K:L8)(mg:Vn->Option Va)(base:Vh)(k:Nat)(f:Vb)(pre:Hp->Prop)(R:List V->Hp->VK->Prop):Prop where
 at_:∀H h,bt P w H h->pre H->PySem.W.FnAt f h
 run:∀(A:Vi) (outer:List Env) (s:Vc) (H:Hp) (us:List Va) (vs:List V) (Q:VK),Room k A->Env0 P w K mg base A outer s H->pre H->Vals vs us->R vs H Q ->
  codeAny (Vg P w) A (.call (.ref f) ⟨us,[]⟩) (CR cW outer P w H s Q E0) s
def Ag(P:Vd)(w:Ve)(K:L8)(mg:Vn->Option Va)(base:Vh)(k:Nat)(a:TE)(ta:TA):TE:=λσ H Q=>a σ H λb H1=>∃f pre R,b=.ref f/\FunR P w K mg base k f pre R/\pre H1/\ta σ H1 λvs H2=>pre H2/\R vs H2 Q
def zJ{K:L8}{k:Nat}{x:Vn}{p pos:Pos}{e:Vk}{es:List Vk}{g:TE}{ta:TA}{i:Vi}(l:Room k i)(m:PE X (.Name x p) g)(ha:PA X (e::es) ta)(n:X.A=i:=by rfl)(o:X.prog=P:=by rfl)(q:X.w=w:=by rfl)(y:X.K=K:=by rfl)(z:X.mg=mg:=by rfl)(B:X.base=base:=by rfl)
  (C:starEach (e::es) X.env=(false,eval e X.env)::starEach es X.env:=by rfl) (c:(backTo pos (starEach es X.env)).any (·.1)=false:=by rfl):PE X (.Call (.Name x p) (e::es) [] pos) (Ag P w K mg base k g ta):=by
 subst n;subst o;subst q;subst y;subst z;subst B;intro pins s σ H Q I h;refine wpAny_Call_Name_kw (ax (m pins s σ H _ I h) λN s1 ⟨v,H1,j,r1,⟨f,pre,R,ev,F,E,G⟩⟩=>?_);subst ev;cases r1;refine PySem.W.callWith_F (F.at_ _ _ j.hok E) (ax (ha pos pins s1 σ H1 _ j G) λus s2 ⟨vs,H2,d,J,⟨a,L⟩⟩=>?_) C c;refine⟨F.at_ _ _ d.hok a,?_⟩;refine wpAny_call (codeAny_mono (F.run X.A X.stack s2 H2 us vs Q l d.env0 a J L) λr s' b=>?_);cases r with
 | error e=>exact M7 b
 | ok M=>
  cases M with
  | ret u=>exact d.after b
  | next=>exact M7 b
  | brk=>exact M7 b
  | cont=>exact M7 b
structure Cap where
 n:Vn
 c:Vb
 o:Obj
 v:V
abbrev cellsOf(cp:List Cap):List (Vb×Obj):=cp.map λe=>(e.c,e.o)
structure CapAt(X:Cx)(σ:St)(h:Vh)(js:List Nat)(cp:List Cap):Prop where
 len:cp.length=js.length
 at_:∀(i j:Nat) (e:Cap),js[i]?=Vo j->cp[i]?=Vo e->X.N[j]?=Vo e.n/\X.env.cells.lookup e.n=Vo e.c/\σ[j]?=Vo (Vo e.v)/\h.get? e.c=Vo e.o/\∃u,e.o.data=.cell (Vo u)/\RelV e.v u
def ie(h:(cellsOf cp).lookup b=Vo o):∃e∈cp,e.c=b/\e.o=o:=by
 have a:(b,o)∈cellsOf cp:=by
  have go:∀{l:List (Vb×Obj)},l.lookup b=Vo o->(b,o)∈l:=by
   intro l;induction l with
   | nil=>intro h;cases h
   | cons x r d=>
    intro h;obtain⟨y,z⟩:=x;rw[MU]at h;cases hb:b == y with
    | true=>rw[hb]at h;cases h;rw[beq_iff_eq.mp hb];exact Mj
    | false=>rw[hb]at h;exact Mg _ (d h)
  exact go h
 obtain⟨e,f,eq⟩:=NR.mp a;cases eq;exact⟨e,f,rfl,rfl⟩
def GY(h:e∈cp):∃o,(cellsOf cp).lookup e.c=Vo o:=by
 induction cp with
 | nil=>cases h
 | cons x r a=>
  show ∃o,N4 e.c ((x.c,x.o)::cellsOf r)=Vo o;rw[MU];cases hb:e.c == x.c with
  | true=>exact⟨_,rfl⟩
  | false=>
   rcases Mr.mp h with rfl|h
   .simp at hb
   .exact a h
def mP(sc:Scope)(N:List Vn)(js:List Nat):Bool:=js.all λj=>decide (j<N.length) && (sc.names.lookup (N.getD j "") == Vo .cell)
section
variable {X:Cx} {pins:List (Vb×Obj)} {σ:St} {H:Hp} {s:Vc}
theorem Inv.capAt(I:Inv X pins σ H s):∀{js:List Nat},mP X.env.scope X.N js=true->(∀j∈js,∃v,σ[j]?=Vo (Vo v))->∃cp,CapAt X σ s.heap js cp
 | [],_,_=>⟨[],rfl,λi j e h=>by simp at h⟩
 | j::js,n,hv=>by
  have a:(decide (j<X.N.length) && (X.env.scope.names.lookup (X.N.getD j "") == Vo .cell))=true/\mP X.env.scope X.N js=true:=by simpa[mP]using n
  obtain⟨cp,b⟩:=I.capAt (js:=js) a.2 λi hi=>hv i (Mg _ hi);obtain⟨v,ev⟩:=hv j Mj;have h1:=a.1;simp only[MM,decide_eq_true_eq,beq_iff_eq]at h1;have f:X.N[j]?=Vo (X.N.getD j ""):=by rw[NL,Me h1.1];rfl
  obtain⟨m,w,p⟩:=I.loc;obtain⟨u,r,l⟩:=p j _ v f ev (.inr (.inl h1.2));rcases l with⟨z,_⟩|⟨_,c,q,o,ho,hd⟩
  .have g:X.env.scope.names.lookup (X.N.getD j "")=Vo .local:=z;rw[h1.2]at g;cases g
  .refine⟨⟨X.N.getD j "",c,o,v⟩::cp,by simp[b.len],λi k e h2 d=>?_⟩;cases i with
   | zero=>
    cases h2;cases d;exact⟨f,q,ev,ho,u,hd,r⟩
   | succ i=>
    exact b.at_ i k e h2 d
def CapAt.mem(C:CapAt X σ h js cp)(a:e∈cp):X.env.cells.lookup e.n=Vo e.c/\h.get? e.c=Vo e.o/\∃u,e.o.data=.cell (Vo u)/\RelV e.v u:=by
 obtain⟨i,hi⟩:=QF a;have b:i<js.length:=by rw[<-C.len];exact(Mm.mp hi).1
 obtain⟨_,h2,_,d,f⟩:=C.at_ i _ e (Me b) hi;exact⟨h2,d,f⟩
def HW{f:Vb}{Q:VK}(F:FnOk X.prog X.w X.K X.mg X.base cW k f fd ps sp)(y:Room k X.A)(hb:Binds X.K fd ps [])
  (I:Inv X pins σ H s) (C:CapAt X σ s.heap js cp) (hfn:∀e∈cp,X.fn e.n=true) (r:Vals vs us)
  (h:sp vs (bK (cellsOf cp) H) (λv H'=>(∀b o,(cellsOf cp).lookup b=Vo o->H' b=Vo (dG b o))/\Q v (bg (cellsOf cp) H')) E0):Vf (Vg X.prog X.w) X.A (call (.ref f) us) (EP X pins σ Q) X.xe s:=by
 have l:∀b o,(cellsOf cp).lookup b=Vo o->s.heap.get? b=Vo o:=λb o e=>by obtain⟨x,c,rfl,rfl⟩:=ie e;exact(C.mem c).2.1
 have p:∀b o,(cellsOf cp).lookup b=Vo o->H b=Vp:=λb o e=>by obtain⟨x,c,rfl,rfl⟩:=ie e;exact I.freeC _ _ (C.mem c).1
 have hab:∀b o,(cellsOf cp).lookup b=Vo o->X.s₀.heap.objs.size<=b:=λb o e=>by obtain⟨x,c,rfl,rfl⟩:=ie e;exact I.ok.cab _ _ (hfn x c) (C.mem c).1
 have a:=I.env0;have B:Env0 X.prog X.w X.K X.mg X.base X.A X.stack s (bK (cellsOf cp) H):=by
  refine⟨a.frames,a.mod,λb o e=>⟨(a.bs b o e).1,?_⟩,a.bsz,a.funs,λb d=>?_,zh a.hok l p,a.bare⟩
  .cases q:(cellsOf cp).lookup b with
   | none=>rw[dh q];exact(a.bs b o e).2
   | some o'=>exact absurd (MG (Mb (I.ok.bs b o e).1) (hab b o' q)) (ND _)
  .cases q:(cellsOf cp).lookup b with
   | none=>rw[dh q];exact a.frf b d
   | some o'=>
    exfalso;rcases Mr.mp (I.stkSub b d)with z|z
    .obtain⟨m,⟨ob,es,ep,ho,hd,_⟩,_⟩:=I.loc;obtain⟨x,c,rfl,rfl⟩:=ie q;obtain⟨_,g,u,E,_⟩:=C.mem c;rw[<-z,g]at ho;cases ho;rw[E]at hd;cases hd
    .obtain⟨_,ob,ho,_⟩:=I.ok.funs.mem z;exact absurd (MG (Mb ho) (hab b o' q)) (ND _)
 have G:us.length=ps.length:=by rw[<-r.length];exact F.len _ _ _ _ h
 refine wpAny_call (codeAny_mono (F.run X.A X.stack s (bK (cellsOf cp) H) ⟨us,[]⟩ us vs _ E0 y B (by have:=hb s us I.kIn (by simpa using G);rw[Nx]at this;exact this) r h) λr s' i=>?_);cases r with
 | error e=>exact M7 i
 | ok J=>
  cases J with
  | ret u=>
   obtain⟨v,H',os,bare,un,hok,L,j,q⟩:=i;exact I.after ⟨v,bg (cellsOf cp) H',os,bare,K4 un hok l p j,wK hok j,L,q⟩
  | next=>exact M7 i
  | brk=>exact M7 i
  | cont=>exact M7 i
def kQ(sp:Sp)(js:List Nat)(cells:List (Vn×Vb))(N:List Vn)(ta:TA):TE:=λσ H Q=>ta σ H λvs H1=>(∀j∈js,∃v,σ[j]?=Vo (Vo v)) ∧
 ∀cp:List Cap,cp.length=js.length->(∀(i j:Nat) (e:Cap),js[i]?=Vo j->cp[i]?=Vo e->N[j]?=Vo e.n/\cells.lookup e.n=Vo e.c/\σ[j]?=Vo (Vo e.v)/\H1 e.c=Vp/\∃u,e.o.data=.cell (Vo u)/\RelV e.v u) ->
  sp vs (bK (cellsOf cp) H1) (λv H'=>(∀b o,(cellsOf cp).lookup b=Vo o->H' b=Vo (dG b o))/\Q v (bg (cellsOf cp) H')) E0
def oQ{x:Vn}{k j:Nat}{e:Vk}{es:List Vk}{t:TA}{p pos:Pos}(js:List Nat)(C:Cal X.prog X.w X.K X.mg X.base x j ps sp)(m:Room k X.A)(ha:PA X (e::es) t)(c:j<=k:=by decide)(n:Gl X x:=by rfl)(d:(x == ("__debug__":Vn))=false:=by decide)
  (o:mP X.env.scope X.N js=true:=by rfl) (hfn:∀y,X.fn y=true:=by intro _;rfl)
  (u:starEach (e::es) X.env=(false,eval e X.env)::starEach es X.env:=by rfl) (g:(backTo pos (starEach es X.env)).any (·.1)=false:=by rfl) :
  PE X (.Call (.Name x p) (e::es) [] pos) (kQ sp js X.env.cells X.N t):=by
 obtain⟨f,fd,v,z,hb,F⟩:=C.ex;intro pins s σ H Q I h;refine wpAny_Call_Name_kw (gy I n v ?_ d);refine Ol I.ok.mod.kin z (ax (ha pos pins s σ H _ I h) λus s1 ⟨vs,H1,b,r,hv,q⟩=>⟨b.kIn,?_⟩) u g;obtain⟨cp,a⟩:=b.capAt o hv;refine HW F (m.mono c) hb b a (λe _=>hfn _) r (q cp a.len λi j e h1 h2=>?_);obtain⟨a1,l,B,_,E⟩:=a.at_ i j e h1 h2;exact⟨a1,l,B,b.freeC _ _ l,E⟩
end
def fo(f c:Vb)(q:Vn)(params:Arguments)(body:Vk)(scope:Scope)(cl:List (Vn×Vb)):HO:=.ext λh=>∃pm a,h.get? f=Vo (QO "<lambda>" q params body scope cl pm c a)
def tK{f:Vb}{d:Va}(r:h.get? f=Vo (QO "<lambda>" q params body scope cl pm c d)):bC P w H h f (fo f c q params body scope cl):=
 ⟨⟨pm,d,r⟩,⟨_,r⟩,λh1 h2 ⟨a,b,g⟩ k=>⟨a,b,k _ g⟩⟩
def ki(sc:Scope):Bool:=sc.names.all λp=>sc.names.lookup p.1 == Vo p.2
def q9(sc out:Scope):Bool:=sc.names.all λp=>p.2 != .free || out.names.lookup p.1 == Vo .cell || out.names.lookup p.1 == Vo .free
def vA(h:ki sc=true)(a:p∈sc.names):sc.names.lookup p.1=Vo p.2:=by simpa using MJ.mp h p a
def Bx(h:q9 sc out=true)(a:p∈sc.names)(b:p.2=.free):out.names.lookup p.1=Vo .cell\/out.names.lookup p.1=Vo .free:=by have:=MJ.mp h p a;simp[b]at this;exact this
structure ClOk(sc:Scope)(cells cl:List (Vn×Vb)):Prop where
 one:ki sc=true
 fr:∀x c,cl.lookup x=Vo c->sc.names.lookup x=Vo .free/\cells.lookup x=Vo c
 has:∀x,sc.names.lookup x=Vo .free->∃c,cl.lookup x=Vo c
 inj:∀x y c,cl.lookup x=Vo c->cl.lookup y=Vo c->x=y
def KU(ok:X.Ok)(hsc:ki sc=true)(ho:q9 sc X.env.scope=true):ClOk sc X.env.cells (cO sc.names X.env.cells):=by
 have fr:∀x c,(cO sc.names X.env.cells).lookup x=Vo c->sc.names.lookup x=Vo .free/\X.env.cells.lookup x=Vo c:=λx c h=>by
  rcases jX X.env.cells sc.names [] x c h with⟨h1,h2⟩|h1
  .obtain⟨d,hd⟩:=ok.has x (Bx ho h1 rfl);refine⟨vA hsc h1,?_⟩;rw[hd]at h2 ⊢;rw[h2];rfl
  .simp at h1
 exact⟨hsc,fr,λx h=>zT (il h),λx y c h1 h2=>ok.inj x y c (fr x c h1).2 (fr y c h2).2⟩
section
variable {X:Cx} {pins:List (Vb×Obj)} {σ:St} {H:Hp} {s:Vc}
def Ij{P f:Vb}{ps more:Array Va}(I:Inv X pins σ H s)(h:H P=Vo (.tbl ps))(b:N1 P s.heap h')(k:s.heap.objs.size<=c)(i:c<f)(r:h'.get? P=Vo { cls:=.none,data:=.fields (ps++more) })
  (A:h'.CodeRec (.ref c) q) (B:h'.get? f=Vo (QO "<lambda>" q params body scope cl pm c j)) :
  Inv X pins σ (upd (upd (upd H P (.tbl (ps++more))) c (gE c q)) f (fo f c q params body scope cl)) { s with heap:=h',toks:=tk }:=by
 have w:@LE.le Nat _ s.heap.objs.size f:=MH k (PF i);have l:H c=Vp:=I.hok.fresh k;have m:H f=Vp:=I.hok.fresh w;have C:c≠P:=λz=>by rw[z,h]at l;cases l
 have E:f≠P:=λz=>by rw[z,h]at m;cases m
 have old:∀b o,H b=Vo o->b≠P->upd (upd (upd H P (.tbl (ps++more))) c (gE c q)) f (fo f c q params body scope cl) b=Vo o:=λb o e n=>by rw[aq (cC e m),aq (cC e l),aq n];exact e
 have nP:∀b,H b=Vp->b≠P:=λb e z=>by rw[z,h]at e;cases e
 refine I.un ⟨λa o e n _ _=>b a o (nP a n) e,λa o e n _ _=>⟨o.slots,b a o (nP a n) e⟩,λa o e n _=>?_,λa o e _=>?_,λa xs e=>old a _ e (λz=>by rw[z,h]at e;cases e),λa o u e=>old a _ e (λz=>by rw[z,h]at e;cases e),λa F e=>?_⟩ λa u e=>?_
 .have lt:@LT.lt Nat _ a s.heap.objs.size:=Mb e;rw[aq (Mv (MG lt w)),aq (Mv (MG lt k)),aq (nP a n)];exact n
 .by_cases z:a=P
  .rw[z];exact⟨_,r⟩
  .exact⟨o,b a o z e⟩
 .by_cases z:a=P
  .subst z;rw[h]at e;cases e;exact⟨more,by rw[aq (NC E),aq (NC C),ay]⟩
  .exact⟨#[],by rw[old a _ e z];simp⟩
 .by_cases z:a=f
  .subst z;rw[ay]at e;cases e;exact tK B
  .rw[aq z]at e;by_cases x:a=c
   .subst x;rw[ay]at e;cases e;exact El A
   .rw[aq x]at e;by_cases p:a=P
    .subst p;rw[ay]at e;cases e;exact r
    .rw[aq p]at e;refine(I.hok a u e).stay (λd v hd g=>b d v ?_ g) (λd hd=>old d _ hd (λy=>by rw[y,h]at hd;cases hd)) λd xs hd=>old d _ hd (λy=>by rw[y,h]at hd;cases hd);rcases hd with rfl|hd
     .exact p
     .exact λy=>by rw[y,h]at hd;cases hd
end
def pB(P:Vb)(pos:Pos)(q:Vn)(params:Arguments)(body:Vk)(scope:Scope)(cells:List (Vn×Vb))(H:Hp)(Q:VK):Prop:=∀cl,ClOk scope cells cl ->
 (H P=Vo (.tbl #[])/\∀f c,H c=Vp->H f=Vp->c≠P->f≠P->f≠c->Q (.ref f) (upd (upd (upd H P (.tbl #[rawInt pos.line,rawInt pos.col,.ref c])) c (gE c q)) f (fo f c q params body scope cl))) ∨
 ∃c,H P=Vo (.tbl #[rawInt pos.line,rawInt pos.col,.ref c])/\H c=Vo (gE c q)/\∀f,H f=Vp->Q (.ref f) (upd H f (fo f c q params body scope cl))
def va(P:Vb)(pos:Pos)(q:Vn)(params:Arguments)(body:Vk)(scope:Scope)(cells:List (Vn×Vb)):TE:=λ_ H Q=>pB P pos q params body scope cells H Q
def qF{P:Vb}(a:X.env.code=.ref c)(g:X.env.globals=Vj)(C:Pn X.base c P)(B:X.base.BuiltinsAt X.mg P)(m:Vj≠P)(hsc:ki scope=true)(d:q9 scope X.env.scope=true)
  (u:params.defaults=[]) (v:params.kw_defaults=[]):PE X (.Lambda params body scope pos) (va P pos (X.env.qual ++ "<lambda>") params body scope X.env.cells):=by
 intro pins s σ H Q I h;rw[arm_eval_Lambda,PySem.defaultsOf_eq,v,u];refine L6 (L7 (L6 (wpAny_holding (L7 ?_))));have hcl:closureFor scope X.env=pure (cO scope.names X.env.cells):=mw λp E j=>I.ok.has p.1 (Bx d E j);have h:=h _ (KU I.ok hsc d);have y:Pn s.heap c P:=C.keeps λb o e=>(I.bs b o e).1;have z:s.heap.Ns Vj X.mg:=by obtain⟨o,es,ep,e,r⟩:=I.ok.mod.glob;exact⟨o,es,ep,(I.bs _ _ e).1,r⟩
 have hb:s.heap.BuiltinsAt X.mg P:=by obtain⟨bm,o,a1,F,G,L,M,N⟩:=B;exact⟨bm,o,a1,F,G,L,(I.bs _ _ M).1,N⟩
 rcases h with⟨k,q⟩|⟨c',k,O,q⟩
 .have l:s.heap.get? P=Vo (Po #[]):=I.hok P _ k;refine PySem.W.kla_makeFunction hcl g z a y l trivial rfl m hb λc' i h' tk w hge hlt hrec x=>?_;have R:H c'=Vp:=I.hok.fresh hge;have j:@LE.le Nat _ s.heap.objs.size h'.objs.size:=MH hge (PF hlt);have S:H h'.objs.size=Vp:=I.hok.fresh j;have A:@LT.lt Nat _ P s.heap.objs.size:=Mb l;have J:=Ij (cl:=cO scope.names X.env.cells) (tk:=tk) (f:=h'.objs.size) (h':=h'.push (QO "<lambda>" (X.env.qual ++ "<lambda>") params body scope (cO scope.names X.env.cells) ((X.mg "__name__").getD .none) c' i)) (more:=#[rawInt pos.line,rawInt pos.col,.ref c']) I k (λb o n e=>L9 _ (w b o n e)) hge hlt (L9 _ x) (hrec.push _) (Ma _ rfl);exact⟨.ref h'.objs.size,_,J,rfl,q _ c' R S (NU (MG A hge)) (NU (MG A j)) (NU hlt)⟩
 .have l:s.heap.get? P=Vo (Po #[rawInt pos.line,rawInt pos.col,.ref c']):=I.hok P _ k;refine PySem.W.kla_makeFunctionHit (cv:=.ref c') hcl g z a y l trivial (by simp[codeAmong,rawInt]) hb λi h' tk w hge=>?_;exact⟨.ref h'.objs.size,_,I.laid (λb o e=>L9 _ (w b o e)) hge (tK (Ma _ rfl)),rfl,q _ (I.hok.fresh hge)⟩
def pR{K:L8}{Q:VK}{T:Vb}(s:eS K x q pos.line pos.col H)(e:Na K x=Vo (c,T))
  (h:∀f c' cl H',ClOk scope cells cl->Et H H'->eS K x q pos.line pos.col H'->(∀y l l2 k2,(∀d a,Na K y=Vo (d,a)->a≠T)->eS K y l l2 k2 H->eS K y l l2 k2 H')->H' f=Vo (fo f c' q params body scope cl)->H' c'=Vo (gE c' q)->Q (.ref f) H'):pB T pos q params body scope cells H Q:=by
 intro cl hcl;rcases s c T e with j|⟨c',j,k⟩
 .refine .inl ⟨j,λf c' w m A B u=>?_⟩;have old:∀b o,H b=Vo o->b≠T->upd (upd (upd H T (.tbl #[rawInt pos.line,rawInt pos.col,.ref c'])) c' (gE c' q)) f (fo f c' q params body scope cl) b=Vo o:=λb o hb n=>by rw[aq (cC hb m),aq (cC hb w),aq n];exact hb
  refine h f c' cl _ hcl (λb o hb n=>old b o hb λz=>by rw[z,j]at hb;cases hb;exact n _ rfl) (λd a i=>.inr ⟨c',?_,?_⟩) (λy l l2 k2 v p d a i=>?_) ay ?_
  .rw[e]at i;cases i;rw[aq (NC B),aq (NC A),ay]
  .rw[aq (NC u),ay]
  .rcases p d a i with g|⟨C,E,r⟩
   .exact .inl (old _ _ g (v d a i))
   .exact .inr ⟨C,old _ _ E (v d a i),old _ _ r λz=>by rw[z,j]at r;cases r⟩
  .rw[aq (NC u),ay]
 .refine .inr ⟨c',j,k,λf m=>?_⟩;have ex:Ext H (upd H f (fo f c' q params body scope cl)):=aO m;exact h f c' cl _ hcl ex.et (eS.ext ex s) (λy l l2 k2 _ p=>p.ext ex) ay (ex _ _ k)
def qO{P:Vb}{Q:VK}(h:pB P pos q params body scope cells H Q):va P pos q params body scope cells σ H Q:=h
theorem kB{x:Vn}{c:Vb}:∀(names:List (Vn×NameKind)) (n:Nat) (a acc:List (Vn×Vb)),(cellsFrom n names (a++acc)).lookup x=Vo c->acc.lookup x=Vo c\/(cellsFrom n names a).lookup x=Vo c
 | [],_,a,acc,h=>by
  unfold cellsFrom at h ⊢;rw[List.lookup_append]at h;cases q:a.lookup x with
  | none=>rw[q]at h;exact .inl h
  | some d=>rw[q]at h;exact .inr h
 | (y,k)::r,n,a,acc,h=>by
  unfold cellsFrom at h ⊢;by_cases b:(k == NameKind.cell)=true
  .rw[M3 b]at h ⊢;exact kB r (n+1) ((y,n)::a) acc h
  .rw[M1 b]at h ⊢;exact kB r n a acc h
structure InL(s₀:Vc)(L:Vb)(m:Vn->Option Va)(own:List (Vn×Vb))(cm:Vn->Option Va)(s:Vc):Prop where
 same:∃h' tk,s={ s₀ with heap:=h',toks:=tk }
 ns:s.heap.Ns L m
 keep:∀b o,s₀.heap.get? b=Vo o->s.heap.get? b=Vo o
 fresh:s₀.heap.objs.size<=L
 cell:∀n c,own.lookup n=Vo c->s.heap.IsCell c (cm n)
 apart:own.Pairwise λx y=>x.2≠y.2
 above:∀n c,(n,c)∈own->L<c
section
variable {M:Model} {A:Vi} {E:Va->Vc->Prop} {s₀ s:Vc} {m cm:Vn->Option Va} {env:Env} {own:List (Vn×Vb)}
def InL.st{n:Vn}{v:Va}{Q:Unit->Vc->Prop}(x:InL s₀ env.locals m own cm s)(i:env.scope.kind=.function)(j:env.kindOf n=Vo .local)
  (h:∀s',InL s₀ env.locals (λy=>if y=n then Vo v else m y) own cm s'->Q () s'):Vf M A (storeName env n v) Q E s:=by
 refine wpAny_storeName_local j x.ns (λh' d a=>h _ ⟨?_,d,λb o e=>?_,x.fresh,λk c f=>?_,x.apart,x.above⟩) (by rw[i];rfl)
 .obtain⟨g,tk,rfl⟩:=x.same;exact⟨h',_,rfl⟩
 .exact a.extBut b o (Mv (MG (Mb e) x.fresh)) (x.keep b o e)
 .exact(x.cell k c f).sameBut a (NU (x.above k c (NM f)))
def InL.stC{n:Vn}{v:Va}{Q:Unit->Vc->Prop}(x:InL s₀ env.locals m own cm s)(l:env.scope.kind=.function)(p:env.kindOf n=Vo .cell)
  (q:env.cells.lookup n=Vo c) (ho:own.lookup n=Vo c)
  (h:∀s',InL s₀ env.locals m own (λy=>if y=n then Vo v else cm y) s'->Q () s'):Vf M A (storeName env n v) Q E s:=by
 have g:=x.above n c (NM ho);refine wpAny_storeName_cell l p q (x.cell n c ho) λh' i d=>h _ ⟨?_,x.ns.sameBut d (Mv g),λb o e=>?_,x.fresh,λk c' a=>?_,x.apart,x.above⟩
 .obtain⟨j,tk,rfl⟩:=x.same;exact⟨h',_,rfl⟩
 .exact d.extBut b o (Mv (RE (MG (Mb e) x.fresh) g)) (x.keep b o e)
 .by_cases f:k=n
  .subst f;rw[ho]at a;cases a;simpa using i
  .rw[M1 f];exact(x.cell k c' a).sameBut d λe=>f (name_of_addr x.apart (NM a) (e ▸ NM ho))
theorem InL.binds(f:Vn×Va->PUnit->Sem (ForInStep PUnit))(i:∀n v u,f (n,v) u=(do storeName env n v;pure (.yield ⟨⟩)))(g:env.scope.kind=.function):
  ∀(binds:List (Vn×Va)) (m cm:Vn->Option Va) (s:Vc) (Q:PUnit->Vc->Prop),InL s₀ env.locals m own cm s ->
   (∀x∈binds,env.kindOf x.1=Vo .local\/(env.kindOf x.1=Vo .cell/\∃c,env.cells.lookup x.1=Vo c/\own.lookup x.1=Vo c)) ->
   (∀s',InL s₀ env.locals (bindL env.kindOf binds m) own (bindC env.kindOf binds cm) s'->Q ⟨⟩ s')->Vf M A (forIn binds ⟨⟩ f) Q E s
 | [],m,cm,s,Q,x,_,h=>by exact L7 (h s x)
 | (n,v)::r,m,cm,s,Q,x,hkind,h=>by
  rw[PY,i];have k:∀y∈r,env.kindOf y.1=Vo .local\/(env.kindOf y.1=Vo .cell/\∃c,env.cells.lookup y.1=Vo c/\own.lookup y.1=Vo c):=λy l=>hkind y (Mg _ l);rcases hkind (n,v) Mj with d|⟨d,c,o,ho⟩
  .refine L6 (L6 (InL.st x g d λs' j=>L7 (InL.binds f i g r _ _ s' Q j k λa b=>h a ?_)));unfold bindL bindC;rw[M3 d,M3 d];exact b
  .have e:¬env.kindOf n=Vo .local:=by rw[d];decide
   refine L6 (L6 (InL.stC x g d o ho λs' j=>L7 (InL.binds f i g r _ _ s' Q j k λa b=>h a ?_)));unfold bindL bindC;rw[M1 e,M1 e];exact b
end
def fF(q:Vn)(scope:Scope)(L f:Vb)(cd:Va)(cl:List (Vn×Vb)):Env:=
 { scope:=scope,locals:=L,globals:=Vj,cells:=cellsFrom (L+1) scope.names cl,qual:=q ++ ".<locals>.",func:=Vo f,code:=cd,frame:=Vo L,builtins:=builtinsNs }
section
variable {M:Model} {A:Vi} {E:Va->Vc->Prop} {s:Vc}
def K8     {f : Vb}  {Q : Env -> Vc -> Prop} (i : scope.kind = .function) (hsc : ki scope = true) (hcl : ∀ x c, cl.lookup x = Vo c -> scope.names.lookup x = Vo .free)
    (hkind : ∀ x ∈ binds, scope.names.lookup x.1 = Vo .local ∨ scope.names.lookup x.1 = Vo .cell)
    (j : ∀ s', InL s s.heap.objs.size (bindL (fF q scope s.heap.objs.size f cd cl).kindOf binds λ_ => Vp) (cellsFrom (s.heap.objs.size + 1) scope.names []) (bindC (fF q scope s.heap.objs.size f cd cl).kindOf binds λ_ => Vp) s' -> Q (fF q scope s.heap.objs.size f cd cl) s') :
    Vf M A (newFunctionEnv scope Vj cl binds (q ++ ".<locals>.") (Vo f) cd Vp builtinsNs) Q E s := by
  simp only [newFunctionEnv, Option.isSome_none, MS, if_false];refine L6 (wpAny_alloc ?_);refine L6 (wpAny_layCells _ (λname kind cells => by cases d : kind == NameKind.cell <;> simp [d]) _ _ _ _ ?_);have ok := cellsFrom_ok scope.names (s.heap.push { cls := .type "frame", data := .dict #[] }) (s.heap.objs.size + 1) [] ⟨λ_ _ g => (nomatch g), List.Pairwise.nil⟩ (by rw [L3]; exact Mw _);rw [L3] at ok;rw [show ({ s with heap := s.heap.push { cls := .type "frame", data := .dict #[] } } : Vc).heap.objs.size = s.heap.objs.size + 1 from L3 ..];refine L6 (InL.binds (s₀ := s) (env := fF q scope s.heap.objs.size f cd cl) (own := cellsFrom (s.heap.objs.size + 1) scope.names [])
    _ (λ_ _ _ => rfl) i binds (λ_ => Vp) (λ_ => Vp) _ _
    ⟨⟨_, _, rfl⟩, (Heap.Ns.new s.heap (.type "frame")).keeps (pushCells_keeps _ _), λb o e => pushCells_keeps _ _ b o (L9 _ e), Mw _,
      λn c a => (ok.empty n c (NM a)).1, ok.apart, λn c g => (ok.empty n c g).2⟩
    (λx k => ?_) λs' x => L7 (j s' x))
  rcases hkind x k with h|h
  . exact .inl h
  . obtain ⟨c, a⟩ := NI.mp (Nc scope.names (s.heap.objs.size + 1) cl (.inl h))
    rcases kB scope.names (s.heap.objs.size + 1) [] cl a with h2|h2
    . rw [hcl _ _ h2] at h; cases h
    . exact .inr ⟨h, c, a, h2⟩
end
def k6(P:Vd)(w:Ve)(K:L8)(mg:Vn->Option Va)(base:Vh)(N:List Vn)(q:Vn)(scope:Scope)(f:Vb)(cd:Va)(cl:List (Vn×Vb))(A:Vi)(outer:List Env)(s:Vc)(H:Hp):Cx where
 prog:=P
 w:=w
 K:=K
 mg:=mg
 base:=base
 A:=A.deeper (fF q scope s.heap.objs.size f cd cl)
 N:=N
 s₀:=s
 H₀:=H
 env:=fF q scope s.heap.objs.size f cd cl
 outer:=outer
 stack:=fF q scope s.heap.objs.size f cd cl::outer
 ex:=[]
 calm:=true
 fn:=λx=>scope.names.lookup x == Vo .cell
 pn:=[]
 xe:=λ_ _=>False
structure Caps(H:Hp)(cl:List (Vn×Vb))(cp:List Cap):Prop where
 at_:∀e∈cp,cl.lookup e.n=Vo e.c/\H e.c=Vo (dG e.c e.o)/\∃u,e.o.data=.cell (Vo u)/\RelV e.v u
 all:∀x c,cl.lookup x=Vo c->∃e∈cp,e.n=x/\e.c=c
def Caps.ext(e:Ext H H')(h:Caps H cl cp):Caps H' cl cp:=⟨λx a=>⟨(h.at_ x a).1,e _ _ (h.at_ x a).2.1,(h.at_ x a).2.2⟩,h.all⟩
def Caps.look(h:Caps H cl cp):∀b o,(cellsOf cp).lookup b=Vo o->H b=Vo (dG b o):=λb o e=>by obtain⟨x,a,rfl,rfl⟩:=ie e;exact(h.at_ x a).2.1
structure LamSc(ps:List Vn)(sc:Scope):Prop where
 kind:sc.kind=.function
 co:sc.isCoroutine=false
 gen:sc.isGenerator=false
 nd:ps.Nodup
 par:∀x∈ps,sc.names.lookup x=Vo .local\/sc.names.lookup x=Vo .cell
def Hx{K:L8}{f:Vb}
  (S:LamSc ps scope) (C:ClOk scope cells cl) (d:Caps H cl cp) (hd:A.handled=Vp) (l:Env0 P w K mg base A outer s H) (O:vs.length=ps.length) (r:Vals vs us)
  (x:InL s s.heap.objs.size (bindL (fF q scope s.heap.objs.size f cd cl).kindOf (ps.zip us) λ_=>Vp) (cellsFrom (s.heap.objs.size+1) scope.names []) (bindC (fF q scope s.heap.objs.size f cd cl).kindOf (ps.zip us) λ_=>Vp) s1) :
  Inv (k6 P w K mg base (ps++cp.map (·.n)) q scope f cd cl A outer s (bg (cellsOf cp) H)) [] (vs.map Vo++cp.map λe=>Vo e.v) (bg (cellsOf cp) H) s1:=by
 obtain⟨h1,tk,rfl⟩:=x.same;have L:=x.keep;have noA:∀b:Vb,b∉(k6 P w K mg base (ps++cp.map (·.n)) q scope f cd cl A outer s (bg (cellsOf cp) H)).ex:=λb z=>absurd (show b∈([]:List Vb)from z) (by simp);have nn:∀b,H b=Vp->bg (cellsOf cp) H b=Vp:=λb hb=>by
  cases z:(cellsOf cp).lookup b with
  | none=>rw[cP z];exact hb
  | some o=>exact iP z
 have obj:∀e∈cp,s.heap.get? e.c=Vo e.o:=λe m=>(l.hok _ _ (d.at_ e m).2.1).1;have clt:∀y c,cl.lookup y=Vo c->@LT.lt Nat _ c s.heap.objs.size:=λy c h=>by obtain⟨e,m,_,rfl⟩:=d.all y c h;exact Mb (obj e m)
 have F:∀y c,cl.lookup y=Vo c->bg (cellsOf cp) H c=Vp:=λy c h=>by obtain⟨e,m,_,rfl⟩:=d.all y c h;obtain⟨o,ho⟩:=GY m;exact iP ho
 have G:∀y,scope.names.lookup y=Vo .free->∃c,cl.lookup y=Vo c/\(cellsFrom (s.heap.objs.size+1) scope.names cl).lookup y=Vo c:=λy g=>by
  obtain⟨c,I⟩:=C.has y g;obtain⟨c',B⟩:=NI.mp (Nc scope.names (s.heap.objs.size+1) cl (x:=y) (.inr (by rw[I];rfl)));rcases iN _ _ _ B with h|⟨_,h⟩
  .rw[I]at h;cases h;exact⟨c,I,B⟩
  .have:=vA C.one h;rw[g]at this;cases this
 refine⟨⟨l.mod,S.kind,rfl,rfl,Mw _,λy z c h1 h2=>?_,λy g=>?_,λy c h I=>?_,λ_=>hd,Rf l.frames,.inr ⟨rfl,rfl⟩,λb z=>absurd z (noA b),λb o e=>⟨(l.bs b o e).1,nn b (l.bs b o e).2⟩,l.bsz,λb _ _=>noA b,λb z=>absurd z (noA b),l.funs,λb hb=>nn b (l.frf b hb)⟩,
  rfl,l.bare,Un.kept L,⟨_,x.ns,λi y v h1 h2 X=>?_⟩,λy c h=>?_,nn _ (l.hok.fresh (Mw _)),λy c h=>?_,λp J=>absurd (show p∈([]:List (Vb×Obj))from J) (by simp),(wK l.hok d.look).kept L,?_⟩
 .exact nW scope.names _ _ (λx c e=>Nl (clt x c e)) C.inj h1 h2
 .rcases g with g|g
  .exact NI.mp (Nc scope.names _ _ (.inl g))
  .obtain⟨c,_,h⟩:=G y g;exact⟨c,h⟩
 .have g:scope.names.lookup y=Vo .cell:=by simpa[k6]using h
  have B:(cellsFrom (s.heap.objs.size+1) scope.names cl).lookup y=Vo c:=I;rcases iN _ _ _ B with h2|⟨h2,_⟩
  .rw[(C.fr y c h2).1]at g;cases g
  .exact Pk h2
 .by_cases hi:i<vs.length
  .have ha:vs[i]?=Vo v:=by
    rw[MC (by simpa using hi),Mf]at h2;cases e:vs[i]? with
    | none=>rw[e]at h2;cases h2
    | some a=>rw[e]at h2;cases h2;rfl
   obtain⟨u,E,M⟩:=r.get ha;have J:ps[i]?=Vo y:=by have j:(ps++cp.map (·.n))[i]?=Vo y:=h1;rw[MC (by omega)]at j;exact j
   refine⟨u,M,?_⟩;rcases S.par y (Mn J)with k|k
   .exact .inl ⟨k,pW S.nd J E k⟩
   .obtain⟨c,e⟩:=NI.mp (Nc scope.names (s.heap.objs.size+1) cl (.inl k));refine .inr ⟨.inl k,c,e,?_⟩;rcases kB scope.names (s.heap.objs.size+1) [] cl e with N|N
    .rw[(C.fr y c N).1]at k;cases k
    .have Q:=x.cell y c N;rw[qj S.nd J E (by show scope.names.lookup y≠_;rw[k];decide)]at Q;exact Q
  .have j:(ps++cp.map (·.n))[i]?=Vo y:=h1;rw[MB (by omega),Mf]at j;rw[MB (by simpa using Q4 hi),Mc,Mf]at h2;rw[O]at h2;cases m:cp[i-ps.length]? with
   | none=>rw[m]at h2;cases h2
   | some e=>
    rw[m]at j h2;cases j;cases h2;have R:=Mn m;obtain⟨a1,Y,u,E,M⟩:=d.at_ e R;have T:=(C.fr _ _ a1).1;obtain⟨c,b1,U⟩:=G e.n T;rw[a1]at b1;cases b1;exact⟨u,M,.inr ⟨.inr T,e.c,U,e.o,L _ _ (obj e R),E⟩⟩
 .have h':(cellsFrom (s.heap.objs.size+1) scope.names cl).lookup y=Vo c:=h;rcases kB scope.names (s.heap.objs.size+1) [] cl h' with h2|h2
  .obtain⟨e,m,_,rfl⟩:=d.all y c h2;obtain⟨_,_,u,E,_⟩:=d.at_ e m;exact⟨Vo u,e.o,L _ _ (obj e m),E⟩
  .exact⟨_,x.cell y c h2⟩
 .have h':(cellsFrom (s.heap.objs.size+1) scope.names cl).lookup y=Vo c:=h;rcases iN _ _ _ h' with h2|⟨h2,_⟩
  .exact F y c h2
  .exact nn c (l.hok.fresh (Pk h2))
 .show(vs.map Vo++cp.map λe=>Vo e.v).length=(ps++cp.map (·.n)).length;simp[O]
def iX(f c:Vb)(q:Vn)(params:Arguments)(body:Vk)(scope:Scope)(cl:List (Vn×Vb))(cp:List Cap)(H:Hp):Prop:=H f=Vo (fo f c q params body scope cl)/\H c=Vo (gE c q)/\Caps H cl cp
theorem iX.ext{H H':Hp}(e:Ext H H'){f c:Vb}{q:Vn}{params:Arguments}{body:Vk}{scope:Scope}{cl:List (Vn×Vb)}{cp:List Cap}(h:iX f c q params body scope cl cp H):iX f c q params body scope cl cp H':=⟨e _ _ h.1,e _ _ h.2.1,h.2.2.ext e⟩
def FL{K:L8}{f:Vb}{R:List V->Hp->VK->Prop}(I:Hp->Prop)
  (S:LamSc ps scope) (C:ClOk scope cells cl) (bind:∀pm F d us,us.length=ps.length->bindArgs (PySem.W.kla_fn "<lambda>" q params body scope cl pm F d) ⟨us,[]⟩=pure (ps.zip us))
  (G:∀vs H Q,R vs H Q->vs.length=ps.length)
  (g:∀A outer s H vs Q,Room k (A.deeper (fF q scope s.heap.objs.size f (.ref c) cl))->iX f c q params body scope cl cp H->I H->R vs H Q ->
   ∃te,PE (k6 P w K mg base (ps++cp.map (·.n)) q scope f (.ref c) cl A outer s (bg (cellsOf cp) H)) body te/\te (vs.map Vo++cp.map λe=>Vo e.v) (bg (cellsOf cp) H) λv H'=>(∀b o,(cellsOf cp).lookup b=Vo o->H' b=Vp)->Q v (bK (cellsOf cp) H')) :
  FunR P w K mg base (k+1) f (λH=>iX f c q params body scope cl cp H/\I H) R:=by
 refine⟨λH h hok j=>?_,λA outer s H us vs Q m i j r B=>?_⟩
 .obtain⟨⟨pm,d,p⟩,_⟩:=hok f _ j.1.1;exact⟨_,_,_,_,p⟩
 .obtain⟨⟨L,M,a⟩,N⟩:=id j;obtain⟨⟨pm,d,p⟩,_⟩:=i.hok f _ L;obtain⟨O,_⟩:=i.hok c _ M;have lim:s.heap.NoLimit:=i.mod.nolimit.keeps λb o e=>(i.bs b o e).1;have E:=G vs H Q B;refine PySem.W.kla_callFunE m.depth p rfl S.co S.gen rfl O ?_;rw[bind _ _ _ us (by rw[<-r.length];exact E)];refine L7 ?_;refine K8 S.kind C.one (λx c h=>(C.fr x c h).1) (λz T=>?_) λs1 z=>?_
  .exact S.par z.1 (QJ T).1
  refine⟨lim.keeps z.keep,PySem.W.kla_codeExpr ?_⟩;have J:=Hx S C a m.hd i E r z;obtain⟨te,U,y⟩:=g A outer s H vs Q (m.deeper _) j.1 N B;refine wpAny_mono (U [] s1 _ _ _ J y) (λu s' ⟨v,H',l,X,Y⟩=>?_) λe s' hs=>hs.elim;have obj:∀b o,(cellsOf cp).lookup b=Vo o->s.heap.get? b=Vo o:=λb o e=>(i.hok _ _ (a.look b o e)).1;have nfs:∀b o,(cellsOf cp).lookup b=Vo o->b∉bh outer:=λb o e hb=>by have:=i.frf b hb;rw[a.look b o e]at this;cases this
  have un:Un (bh outer) [] (bg (cellsOf cp) H) H' s.heap s'.heap:=l.base;exact⟨v,bK (cellsOf cp) H',l.os,l.bare,HL un a.look,zh l.hok (λb o e=>un.keep b o (obj b o e) (iP e) (nfs b o e) (by simp)) (λb o e=>un.free b o (obj b o e) (iP e) (by simp)),X,Y λb o e=>un.free b o (obj b o e) (iP e) (by simp)⟩
section
variable {X:Cx}
def Hq:V->List V->Hp->VK->Prop:=λx vs H Q=>∃(n:Nat) (p:Vb) (xs:List V) (a:V) (d:PyData) (ds:List PyData) (j:Nat),x=.ref p/\vs=[a]/\aQ H n a d/\H p=Vo (.lst xs)/\Paired (aQ H n) xs ds/\n<=50/\(∃e,ds[j]?=Vo e/\M8 e d=true)/\(∀m e,m<j->ds[m]?=Vo e->M8 e d=false)/\j<2 ^ 32/\Q (.int (j:Int)) H
def JL{k:Nat}{l:Vi}(B:Room k l)(C:X.A=l:=by rfl):i8 X "list.index" Hq:=by
 subst C;intro pins s σ H x xs v us Q I E G h;obtain⟨n,p,ys,a,d,ds,j,rfl,rfl,h1,h2,o,J,⟨e,r,L⟩,hno,M,q⟩:=h;cases E;obtain⟨u,rfl,N⟩:=G.one;have O:aQ H (n+1) (.ref p) (.list ds):=.inr ⟨p,ys,ds,rfl,.inr ⟨h2,rfl⟩,o⟩;obtain⟨U,ra⟩:=aQ.reads I n h1 N;obtain⟨bs,P⟩:=aQ.reads I (n+1) O rfl;have l1:=aQ.lay n h1;have l2:=jg (λ{x d}=>aQ.lay (H:=H) n) o;have W:=B.units;obtain⟨_,b,nn,R,gt⟩:=I.hok p _ h2;cases P with
 | list w Y S z=>
  rw[gt]at w;cases w;cases S;have mp:=SeqAt.readsAll_map ds _ _ l2.1 z;have hlen:b.length=ds.length:=by rw[<-mp,Mc]
  have T:j<ds.length:=(Mm.mp r).1;have f:j<b.toArray.size:=by rw[Mi];omega
  have hat:∀m (c:m<b.toArray.size),ds[m]?=Vo (SeqAt.readOf s.heap b.toArray[m]):=λm c=>by
   have g:m<b.length:=by simpa using c
   rw[<-mp,Mf];simp[g]
  refine call_meets Q9 ⟨_,gt,rfl⟩ PySem.F.entry_list_index (PySem.F.args_list_index_2 _ _) (SeqAt.list_indexAt p b.toArray nn Vp #[] u (λy=>M8 (SeqAt.readOf s.heap y) d) j f (by omega) ?_ ?_)
   ⟨gt,SeqAt.items_eqAt z ra l2.1 l1.1 (by omega),?_⟩
  .have:=hat j f;rw[r]at this;cases this;exact L
  .intro m c i;exact hno m _ i (hat m c)
  .exact⟨.int _,H,I.tok _,⟨_,rfl⟩,q⟩
end
def Ee(b:A.handled=Vp)(it t)(ne:t≠it)(ys):Draws P w A it [it,t] ys.size (λi v=>ys[i]?=Vo v) (λi h=>h.IsListIter it t i/\h.IsList t ys) where
 live:=λi h st=>by obtain⟨⟨o,ho,_⟩,_⟩:=st;exact⟨o,ho⟩
 frame:=λi h h' st k=>by obtain⟨⟨o,ho,r⟩,⟨u,a,q⟩⟩:=st;exact⟨⟨o,k it (by simp) o ho,r⟩,⟨u,k t (by simp) u a,q⟩⟩
 item:=λi s Q E hi st c=>wpAny_nextOf_list_item st.1 st.2 (x:=ys[i]) (by simp[hi]) λh' d sb=>c _ h' s.toks (by simp[hi]) ⟨d,by obtain⟨u,a,q⟩:=st.2;exact⟨u,(sb.2 t ne).trans a,q⟩⟩ sb
 done:=λs Q E st e=>wpAny_nextOf_list_end b st.1 st.2 (by simp) e
abbrev ng(h:Vh)(a:Vb):Vh:=h.push { cls:=.type "list_iterator",data:=.fields #[.ref a,.int 0 0] }
abbrev oM(h:Vh)(a:Vb):Vh:=(ng h a).push { cls:=.type "enumerate",data:=.fields #[.none,.bool false,.ref h.objs.size,rawInt 0,.none,.none] }
open AutoSeq1 (wpAny_loadPart')in
def FF(a:Vb)(ys:Array Va)(ob:Obj):Meets (Builtin.«enumerate.__new__» ⟨[.type "enumerate",.ref a],[]⟩) (λ_ R s=>s.heap.get? a=Vo ob/\s.heap.IsList a ys/\R (.ok (.ret (.ref (ng s.heap a).objs.size))) { s with heap:=oM s.heap a }):=
 .of_wp λprog w A R s q=>by
  obtain⟨i,g,d,tk,os⟩:=s;obtain⟨ga,gt,q⟩:=q;have b:=sub_enumerate;obtain⟨o,go,e,n,f⟩:=id gt;obtain⟨j,k,l,sl⟩:=o;simp only at e f;subst e f;have h:Heap.IsList (QD ⟨i,g,d,tk,os⟩) a ys:=gt
  wp_walk using wpAny_loadPart' go
  refine wpAny_stack_any λst=>L7 ?_;split
  .rename_i c _ _ _ _ _;cases(c == Value.type "enumerate")<;>(wp_walk using wpAny_loadPart' go,wpAny_pyIter_list h;exact⟨_,rfl,q⟩)
  .wp_walk using wpAny_loadPart' go,wpAny_pyIter_list h
   exact⟨_,rfl,q⟩
def Ek(gt:s.heap.IsList a ys)
  (q:∀h',IsEnum h' (s.heap.objs.size+1) s.heap.objs.size 0 .none->h'.IsListIter s.heap.objs.size a 0->(∀c o,s.heap.get? c=Vo o->h'.get? c=Vo o)->Q (.ref (s.heap.objs.size+1)) { s with heap:=h' }) :
  Vf (Vg prog w) A (call (.type "enumerate") [.ref a]) Q E s:=by
 obtain⟨o,go,r⟩:=id gt;refine callType_new F.called_enumerate (by decide) (RH _) (RW _) (λob=>F.args_object_init_2 ob _) RX (FF a ys o) ⟨go,gt,?_⟩;have b:(ng s.heap a).objs.size=s.heap.objs.size+1:=L3 ..;have k2:(oM s.heap a).get? (ng s.heap a).objs.size=Vo _:=Ma _ rfl;have k1:(oM s.heap a).get? s.heap.objs.size=Vo _:=L9 _ (Ma _ rfl);rw[b]at k2 ⊢;exact⟨⟨_,k2,rfl⟩,q _ k2 ⟨_,k1,rfl,rfl⟩ λc o x=>L9 _ (L9 _ x)⟩
def lS(K:L8)(a:Vb):It:=⟨(cu K a).go,λi H x H'=>∃p v,x=.ref p/\H p=Vp/\H'=upd H p (.tup [.int i,v])/\(cu K a).yld i H v H,(cu K a).stop⟩
def FA{K:L8}{ps:Pos}(a e it)(ne:e≠it):Turn P w K (.Tuple elts kk ps) (lS K a) [e,it] e (λi h=>(∃old,IsEnum h e it i old)/\h.IsListIter it a i) where
 mem:=by simp
 obj:=λi h st b hb=>by
  obtain⟨⟨old,ge⟩,o,go,gc,gd⟩:=st;rcases Mr.mp hb with rfl|hb
  .exact⟨_,ge,λv z=>by cases(z)⟩
  .cases Mo.mp hb;exact⟨o,go,λv z=>by rw[gd]at z;cases z⟩
 keep:=λi h h' st k=>by obtain⟨⟨old,ge⟩,f⟩:=st;exact⟨⟨old,k e (by simp) _ ge⟩,f.at λo z=>k it (by simp) o z⟩
 item:=by
  intro X m n r B i pins s σ H E I g st C;subst m n r;obtain⟨⟨old,ge⟩,f⟩:=st;obtain⟨xs,x,j,G⟩:=C;obtain⟨c,J,p,hz⟩:=I.list j;obtain⟨u,Z,ru⟩:=J.get G;have hi:i<c.toArray.size:=by have:=(Mm.mp Z).1;simpa using this
  have M:X.A.in1.handled=Vp:=I.ok.hd B;have N:a≠it:=λz=>by obtain⟨o,ho,hcl,_⟩:=p.isList;obtain⟨o',O,d,_⟩:=f;rw[z,O]at ho;cases ho;rw[hcl]at d;exact absurd (Qk d) (by decide)
  have Q:e∉[it,a]:=λz=>by
   rcases Mr.mp z with z|z
   .exact ne z
   .cases Mo.mp z;obtain⟨o,ho,hcl,_⟩:=p.isList;rw[ge]at ho;cases ho;exact absurd (Qk hcl) (by decide)
  refine wpAny_pyNext_enum_itemD (Ee M it a N c.toArray) ge ⟨f,p.isList⟩ hi ne Q λy h' tk hy R gs l gz gk=>⟨_,rfl,?_⟩;have ey:y=u:=by
   have:c[i]?=Vo y:=by simpa using hy
   rw[Z]at this;exact(MO this).symm
  subst ey;have lt:∀b∈[e,it],b≠s.heap.objs.size:=λb hb=>by
   rcases Mr.mp hb with rfl|hb
   .exact Mv (Mb ge)
   .cases Mo.mp hb;obtain⟨o,ho,_⟩:=f;exact Mv (Mb ho)
  have I1:Inv X pins σ (upd H s.heap.objs.size (.tup [.int i,x])) { s with heap:=h',toks:=tk+1 }:=
   Inv.turnedNew (L:=[e,it]) I (λb o hb z=>gk b o (λq=>hb (by simp[q])) (λq=>hb (by simp[q])) z) g ⟨by show 2<=sizeLine;decide,[.int i tk,y],.cons ⟨tk,rfl⟩ (.cons ru .nil),⟨_,l,rfl,_,rfl⟩⟩
  have fe:cq X pins (upd H s.heap.objs.size (.tup [.int i,x])) e:=by obtain⟨c0,c1,c2,c3,c4,c5⟩:=g e (by simp);exact⟨by rw[aq (lt e (by simp))];exact c0,c1,c2,c3,c4,c5⟩
  refine wpAny_letOwnedTupleGo_enum (s:={ s with heap:=h',toks:=tk+1 }) R λk S bk=>?_;refine⟨.ref s.heap.objs.size,upd H s.heap.objs.size (.tup [.int i,x]),Inv.same (s:={ s with heap:=h',toks:=tk+1 }) (k:=h') I1 fe bk.extBut,rfl,⟨_,x,rfl,I.hok.fresh (Mw _),rfl,rfl,λzs U=>by rw[I.list_inj U j];exact G⟩,⟨⟨y,by simpa using S⟩,gs.1.at λo z=>bk.extBut it o (NC ne) z⟩,λb hb=>?_⟩;rw[aq (lt b hb)];exact(g b hb).1
 done:=by intro X m n r B i pins s σ H E I g st C;subst m n r;obtain⟨⟨old,ge⟩,f⟩:=st;obtain⟨xs,j,G⟩:=C;obtain⟨c,J,p,hz⟩:=I.list j;have M:X.A.in1.handled=Vp:=I.ok.hd B;have l:s.TypeIs (.ref e) "enumerate":=⟨_,ge,rfl⟩;have hl:=J.length;unfold pyNext;refine L6 (wpAny_attempt (MX (name:=MN "__next__") l Oy (wpAny_call_entry Oy l RI ?_ (Q8 _))));show Vf _ _ (field (Value.ref e) 2 >>= _) _ _ _;refine L6 (wpAny_field ge rfl (x:=Value.ref it) rfl ?_);refine L6 (wpAny_nextOf_list_end M f (show s.heap.IsList a c.toArray from p.isList) (by simp;omega) λh' x he W=>?_);obtain⟨o,ho,Y⟩:=W;refine L6 (wpAny_isInstance (s:={ s with heap:=h' }) (T:="StopIteration") (b:=true) ⟨o,ho,Y⟩ isSubtype_stop ?_);exact L7 ⟨rfl,Inv.same (k:=s.heap) I (g it (by simp)) he⟩
 self:=λ_ _ _ _ _ st h=>by obtain⟨⟨old,ge⟩,_⟩:=st;exact wpAny_pyIter_enum ge h
section
variable {K:L8} {σ:St} {H:Hp} {Q:VK}
def qP(K:L8):List V->Hp->(It->Hp->Prop)->Prop:=λvs H R=>∃a xs,vs=[.ref a]/\af K H a xs/\R (lS K a) H
def BL(K:L8)(ta:TA):TI:=λσ H R=>ta σ H λvs H1=>qP K vs H1 R
def vK{ps:Pos}(K:L8){a:Vk}{ta:TA}{p pos:Pos}(f:Gl X "enumerate")(g:X.mg "enumerate" = Vp)(ha:PA X [a] ta)(i:X.K=K:=by rfl)(hs:starEach [a] X.env=[(false,eval a X.env)]:=by rfl):
  PI X (.Tuple elts kk ps) (.Call (.Name "enumerate" p) [a] [] pos) (BL K ta):=by
 subst i;intro pins s σ H R I h;refine Call_ (eL I f g QZ (NF (ax (ha pos pins s σ H _ I h) λus s1 ⟨vs,H1,c,r1,j⟩=>?_) (by rw[hs];rfl) rfl));obtain⟨l,xs,e,m,q⟩:=j;subst e;obtain⟨u,rfl,n⟩:=vals1 r1;cases n;obtain⟨d,_,o,_⟩:=c.list m;refine Ek (o.isList) λh' ge r k=>?_;refine wpAny_pyIter_enum ge ?_;refine⟨s1.heap.objs.size+1,[s1.heap.objs.size+1,s1.heap.objs.size],_,_,H1,rfl,c.kept k,FA l (s1.heap.objs.size+1) s1.heap.objs.size (λz=>by have v:@Eq Nat _ _:=z;omega),⟨⟨_,ge⟩,r⟩,λb hb=>?_,q⟩;have le:@LE.le Nat _ s1.heap.objs.size b:=by
  rcases Mr.mp hb with rfl|hb
  .exact NY _ _
  .cases Mo.mp hb;exact Mw _
 exact c.fpOk le (c.hok.fresh le)
def Cy{a:TA}(h:a σ H λvs H1=>qP K vs H1 R):BL K a σ H R:=h
def BW(ha:af K H a xs)(h:R (lS K a) H):qP K [.ref a] H R:=⟨a,xs,rfl,ha,h⟩
def BF(Pv:Nat->List V->Hp->Prop)(z:xs.length<=sizeLine)(k:Pv 0 [] H)(l:∀i zs H,Pv i zs H->af K H a xs/\zs.length<=i)
  (hs:∀i u zs H p H',xs[i]?=Vo u->Pv i zs H->Ext H H'->H' p=Vo (.tup [.int i,u])->H p=Vp->g (.ref p) (cG n js σ) H' λc o=>tc c o λb h=>if b=true then te c h λv q=>Pv (i+1) (zs++[v]) q else Pv (i+1) zs h)
  (hd:∀zs H p,Pv xs.length zs H->H p=Vp->Q (.ref p) (upd H p (.lst zs))):eW (lS K a) n js g tc te σ H Q:=by
 refine⟨λi m zs H=>m=xs.length-i/\i<=xs.length/\Pv i zs H,⟨xs.length,by simp,LI _,k⟩,?_⟩;rintro i m zs H ⟨rfl,hi,p⟩;obtain⟨d,A⟩:=l i zs H p;by_cases hlt:i<xs.length
 .refine .inr ⟨⟨xs,xs[i],d,by simp[hlt]⟩,by omega,Pv (i+1),λr H' f=>⟨xs.length-(i+1),by omega,rfl,hlt,f⟩,λx H' y=>?_⟩;obtain⟨pp,u,rfl,j,rfl,s⟩:=y;exact hs i u zs H pp _ (s.2 xs d) p (aO j) ay j
 .have e:i=xs.length:=by omega
  exact .inl ⟨⟨xs,d,by omega⟩,λf w=>hd zs H f (e ▸ p) w⟩
end
end L2
namespace L2.Og.Tb
open PySem
def nx(m i:Nat):Nat:=(i*5+1) % (m+1)
def it(m:Nat):Nat->Nat->Nat
 | 0,i=>i
 | n+1,i=>it m n (nx m i)
theorem nK(m:Nat):∀a b i,it m (a+b) i=it m b (it m a i)
 | 0,b,i=>by rw[OY];rfl
 | a+1,b,i=>by rw[SM];exact nK m a b (nx m i)
def rV(m:Nat):Nat->Nat->List Nat
 | 0,_=>[]
 | n+1,i=>i::rV m n (nx m i)
theorem uY{m:Nat}:∀{n i j:Nat},j∈rV m n i->∃k,k<n/\it m k i=j
 | 0,_,_,h=>by cases h
 | n+1,i,j,h=>by
  rcases Mr.mp h with rfl|h
  .exact⟨0,Pt _,rfl⟩
  .obtain⟨k,a,e⟩:=uY h;exact⟨k+1,Nat.succ_lt_succ a,e⟩
def good(m:Nat):Bool:=(MY (m+1)).all (λj=>(rV m (m+1) 0).contains j) && it m (m+1) 0 == 0
def ED:good 7=true:=by decide +kernel
def Eh:good 31=true:=by decide +kernel
def Ig:good 127=true:=by decide +kernel
def F0:good 511=true:=by decide +kernel
def Mask(m:Nat):Prop:=m=7\/m=31\/m=127\/m=511
theorem Mask.good{m:Nat}(h:Mask m):good m=true:=by
 rcases h with rfl|rfl|rfl|rfl
 .exact ED
 .exact Eh
 .exact Ig
 .exact F0
def uw(h:Mask m)(a:j<=m):∃k,k<=m/\it m k 0=j:=by have:=h.good;unfold Tb.good at this;rw[MM,MJ]at this;have h1:=this.1 j (NP.mpr (by omega));rw[Py]at h1;obtain⟨k,b,e⟩:=uY h1;exact⟨k,by omega,e⟩
def round0(h:Mask m):it m (m+1) 0=0:=by have:=h.good;unfold Tb.good at this;rw[MM]at this;exact eq_of_beq this.2
def reach(h:Mask m)(hi:i<=m)(e:j<=m):∃k,k<=m/\it m k i=j:=by
 obtain⟨a,ha,c⟩:=uw h hi;obtain⟨b,hb,d⟩:=uw h e;rcases MT b a with hlt|hge
 .refine⟨m+1-a+b,by omega,?_⟩;rw[<-c,<-nK,show a+(m+1-a+b)=(m+1)+b by omega,nK,round0 h];exact d
 .refine⟨b-a,by omega,?_⟩;rw[<-c,<-nK,show a+(b-a)=b by omega];exact d
def lp(m:Nat):Nat->Nat×Nat->Nat×Nat
 | 0,s=>s
 | n+1,s=>lp m n (Np m s.1 s.2)
theorem pI(m:Nat):∀n s,lp m (n+1) s=Np m (lp m n s).1 (lp m n s).2
 | 0,s=>rfl
 | n+1,s=>by show lp m (n+1) (Np m s.1 s.2)=_;rw[pI m n];rfl
theorem xO(m:Nat):∀n s,(lp m n s).2=s.2 / 32 ^ n
 | 0,s=>by simp[lp]
 | n+1,s=>by rw[pI m n s];show(lp m n s).2 / 32=_;rw[xO m n s,Nat.div_div_eq_div_mul,Nat.pow_succ]
def yg(m):∀n s,s.1<=m->(lp m n s).1<=m
 | 0,s,h=>h
 | n+1,s,h=>by rw[pI m n s];show(_ % (m+1))<=m;have:=Pb ((lp m n s).1*5+1+(lp m n s).2 / 32) (show 0<m+1 by omega);omega
theorem Bn(m:Nat):∀n i,(lp m n (i,0)).1=it m n i
 | 0,i=>rfl
 | n+1,i=>by show(lp m n (Np m i 0)).1=it m n (nx m i);exact Bn m n _
theorem BR(m:Nat):∀a b s,lp m (a+b) s=lp m b (lp m a s)
 | 0,b,s=>by rw[OY];rfl
 | a+1,b,s=>by rw[SM];exact BR m a b _
def xD(h:Mask m){i p j:Nat}(hi:i<=m)(a:p<2 ^ 64)(b:j<=m):∃n,n<=m+13/\(lp m n (i,p)).1=j:=by
 have c:(lp m 13 (i,p)).2=0:=by rw[xO];exact Nat.div_eq_of_lt (MG a (by decide))
 obtain⟨k,d,e⟩:=reach h (yg m 13 (i,p) hi) b;refine⟨13+k,by omega,?_⟩;rw[BR];have:lp m 13 (i,p)=((lp m 13 (i,p)).1,0):=by rw[<-c]
 rw[this,Bn];exact e
def Bk(h):Nv h<2 ^ 64:=by unfold Nv;omega
def cR(t:SetTable):Nat->SetTable.Probe->SetTable.Probe
 | 0,p=>p
 | n+1,p=>cR t n (t.advance p)
theorem qC(t:SetTable):∀a b p,cR t (a+b) p=cR t b (cR t a p)
 | 0,b,p=>by rw[OY];rfl
 | a+1,b,p=>by rw[SM];exact qC t a b _
def at_(t:SetTable)(s:Nat×Nat):SetTable.Probe:={ j:=s.1,more:=OV t.mask s.1-s.1,i:=s.1,perturb:=s.2,dummy:=Vp }
theorem y7(t:SetTable):∀(r:Nat) (p:SetTable.Probe),p.more=r->cR t (r+1) p={ p with j:=(Np t.mask p.i p.perturb).1,more:=OV t.mask (Np t.mask p.i p.perturb).1-(Np t.mask p.i p.perturb).1,i:=(Np t.mask p.i p.perturb).1,perturb:=(Np t.mask p.i p.perturb).2 }
 | 0,p,h=>by show t.advance p=_;unfold RA;rw[M1 (by omega)]
 | r+1,p,h=>by
  show cR t (r+1) (t.advance p)=_;have e:t.advance p={ p with j:=p.j+1,more:=p.more-1 }:=by unfold RA;rw[M3 (by omega)]
  rw[e,y7 t r _ (by show p.more-1=r;omega)]
def Lk(t)(s):∃k,k<=10/\cR t k (at_ t s)=at_ t (Np t.mask s.1 s.2):=by
 refine⟨OV t.mask s.1-s.1+1,?_,?_⟩
 .unfold OV;split<;>omega
 .exact(y7 t (OV t.mask s.1-s.1) (at_ t s) rfl).trans rfl
theorem xV(t:SetTable):∀(n:Nat) (s:Nat×Nat),∃k,k<=10*n/\cR t k (at_ t s)=at_ t (lp t.mask n s)
 | 0,s=>⟨0,Mw _,rfl⟩
 | n+1,s=>by obtain⟨k1,h1,a⟩:=Lk t s;obtain⟨k2,h2,b⟩:=xV t n (Np t.mask s.1 s.2);refine⟨k1+k2,by omega,?_⟩;rw[qC,a,b];rfl
def Dg(t)(h):t.probeStart h=at_ t (Nv h % (t.mask+1),Nv h):=rfl
def J4(a:Mask t.mask)(b:j<=t.mask)(h):∃K,K<10*OC t.mask/\(cR t K (t.probeStart h)).j=j:=by
 have h1:Nv h % (t.mask+1)<=t.mask:=by have:=Pb (Nv h) (show 0<t.mask+1 by omega);omega
 obtain⟨n,d,e⟩:=xD a h1 (Bk h) b;obtain⟨K,f,c⟩:=xV t n (Nv h % (t.mask+1),Nv h);refine⟨K,by unfold OC;omega,?_⟩;rw[Dg,c];exact e
def Ay{t:SetTable}(h:t.slot j=.live i):t.place[i]?=Vo j:=by
 unfold SetTable.slot at h;dsimp only at h;split at h
 .rename_i hq;cases h;exact eq_of_beq hq
 .split at h<;>cases h
def zI(j):SetTable.has #[] j=false:=rfl
def sZ{t:SetTable}(hd:t.dummies = #[])(j):t.slot j=.empty\/∃i,t.slot j=.live i:=by
 unfold SetTable.slot;dsimp only;split
 .exact .inr ⟨_,rfl⟩
 .rw[hd,zI];exact .inl rfl
theorem yW:∀(n:Nat) (l:List Nat),(∀j,j<n->j∈l)->n<=l.length
 | 0,l,_=>LI _
 | n+1,l,h=>by have a:=h n (N0 n);have:=yW n (l.erase n) λj b=>(List.mem_erase_of_ne (by omega)).mpr (h j (by omega));rw[List.length_erase_of_mem a]at this;have:0<l.length:=List.length_pos_of_mem a;omega
def KY{t:SetTable}(hd:t.dummies = #[])(h:t.place.size<=t.mask):∃j,j<=t.mask/\t.slot j=.empty:=by
 rcases Classical.em (∃j,j<=t.mask/\t.slot j=.empty)with h1|h1
 .exact h1
 .exfalso;have:=yW (t.mask+1) t.place.toList λj a=>by
   rcases sZ hd j with h2|⟨i,h2⟩
   .exact absurd ⟨j,by omega,h2⟩ h1
   .have:=Ay h2;rw[<-Nj]at this;exact Mn this
  rw[Mh]at this;omega
theorem rL(t:SetTable):∀n p,(cR t n p).dummy=p.dummy
 | 0,p=>rfl
 | n+1,p=>by show(cR t n (t.advance p)).dummy=_;rw[rL t n];unfold RA;split<;>rfl
def HM(hd:t.dummies = #[])(hash)(h):∀K fuel p,K<fuel->p.dummy=Vp->t.slot (cR t K p).j=.empty ->
  (∃j,O4 t hash h fuel p=Vo (.empty j Vp))\/∃k j i,k<K/\O4 t hash h fuel p=Vo (.candidate j i (cR t (k+1) p))/\t.slot j=.live i:=by
 intro K;induction K with
 | zero=>
  intro fuel p g a hs;obtain⟨f,rfl⟩:∃f,fuel=f+1:=⟨fuel-1,by omega⟩;refine .inl ⟨p.j,?_⟩;have b:t.slot p.j=.empty:=hs;unfold O4;rw[b];rw[a]
 | succ K l=>
  intro fuel p g a hs;obtain⟨f,rfl⟩:∃f,fuel=f+1:=⟨fuel-1,by omega⟩;unfold O4;rcases sZ hd p.j with h1|⟨i,h1⟩
  .rw[h1];rw[a];exact .inl ⟨p.j,rfl⟩
  .rw[h1];dsimp only;by_cases d:(hash i == h)=true
   .rw[M3 d];exact .inr ⟨0,p.j,i,Pt _,rfl,h1⟩
   .rw[M1 d];have c:(t.advance p).dummy=Vp:=by have:=rL t 1 p;rw[a]at this;exact this
    rcases l f (t.advance p) (by omega) c hs with⟨j,e⟩|⟨k,j,m,o,e,n⟩
    .exact .inl ⟨j,e⟩
    .exact .inr ⟨k+1,j,m,by omega,e,n⟩
theorem A5{α:Type}:∀{l:List (Option α)} {j:Nat} {k:α},l[j]?=Vo Vp->((l.set j (Vo k)).filterMap id).Perm (k::l.filterMap id)
 | [],j,k,h=>by cases h
 | x::l,0,k,h=>by
  have:x=Vp:=by simpa using h
  subst this;exact .refl _
 | x::l,j+1,k,h=>by
  have h':l[j]?=Vo Vp:=by simpa using h
  have a:=A5 (k:=k) h';cases x with
  | none=>exact a
  | some y=>exact(List.Perm.cons y a).trans (.swap _ _ _)
def Le{α:Type}(l:List (Option α)):(l.filterMap id).length+(l.filter (·.isNone)).length=l.length:=by
 induction l with
 | nil=>rfl
 | cons x l a=>
  cases x<;>simp at a ⊢<;>omega
def FT(l:Mask m)(owner)(c:owner.size=m+1)(d:owner[j]?=Vo Vp):∀fuel n i p,i<=m->n<fuel->(lp m n (i,p)).1=j ->
  ∃a,Pu m owner fuel i p=Vo a/\owner[a]?=Vo Vp:=by
 intro fuel;induction fuel with
 | zero=>intro n i p _ h;omega
 | succ fuel e=>
  intro n i p hi o b;unfold Pu;split
  .rename_i k hk;have h1:=List.find?_some hk;have h2:=NP.mp (List.mem_of_find?_eq_some hk);refine⟨i+k,rfl,?_⟩;have hb:i+k<owner.size:=by rw[c];unfold OV at h2;split at h2<;>omega
   rw[NO hb];have:owner.getD (i+k) (Vo 0)=owner[i+k]:=by rw[Qa,NO hb];rfl
   rw[this]at h1;congr 1;cases f:owner[i+k]with
   | none=>rfl
   | some y=>rw[f]at h1;cases h1
  .rename_i hk;cases n with
   | zero=>
    exfalso;have g:i=j:=b;have:=List.find?_eq_none.mp hk 0 (NP.mpr (by unfold OV;split<;>omega));rw[Nat.add_zero,g,Qa,d]at this;simp at this
   | succ n=>
    have:=yg m 1 (i,p) hi;exact e n (Np m i p).1 (Np m i p).2 this (by omega) b
def mC(mask:Nat)(acc:Option (Array (Option Nat)×Nat))(h:Int):Option (Array (Option Nat)×Nat):=do
 let (owner,k) <-acc;let j <-Pu mask owner (OC mask) (Nv h % (mask+1)) (Nv h)
 pure (owner.setIfInBounds j (Vo k),k+1)
def Hr{l:List (Option Nat)}(h:(l.filterMap id).length<l.length):∃j:Nat,l[j]?=Vo Vp:=by
 have:=Le l;have h1:0<(l.filter (·.isNone)).length:=by omega
 obtain⟨x,b⟩:=List.exists_mem_of_length_pos h1;obtain⟨a,c⟩:=OU.mp b;have:x=Vp:=by cases x<;>simp_all
 subst this;obtain⟨j,d⟩:=QF a;exact⟨j,d⟩
theorem Cp{m:Nat}(c:Mask m):∀(hs:List Int) (owner:Array (Option Nat)) (k:Nat),owner.size=m+1->(owner.toList.filterMap id).Perm (MY k)->k+hs.length<=m ->
  ∃a,hs.foldl (mC m) (Vo (owner,k))=Vo (a,k+hs.length)/\a.size=m+1/\(a.toList.filterMap id).Perm (MY (k+hs.length))
 | [],owner,k,h1,h2,g=>⟨owner,rfl,h1,h2⟩
 | h::hs,owner,k,h1,h2,g=>by
  rw[ME]at g ⊢;have hlt:(owner.toList.filterMap id).length<owner.toList.length:=by rw[h2.length_eq,O5,Mh,h1];omega
  obtain⟨j,d⟩:=Hr hlt;rw[Nj]at d;have e:j<=m:=by have:=(N2.mp d).1;omega
  have hi:Nv h % (m+1)<=m:=by have:=Pb (Nv h) (show 0<m+1 by omega);omega
  obtain⟨n,s,i⟩:=xD c hi (Bk h) e;obtain⟨f,l,b⟩:=FT c owner h1 d (OC m) n _ _ hi (by unfold OC;omega) i;have step:mC m (Vo (owner,k)) h=Vo (owner.setIfInBounds f (Vo k),k+1):=by unfold mC;simp[l]
  rw[RP,step];have o:((owner.setIfInBounds f (some k)).toList.filterMap id).Perm (MY (k+1)):=by rw[Array.toList_setIfInBounds];rw[<-Nj]at b;refine(A5 b).trans ?_;rw[PZ];exact(List.Perm.cons k h2).trans (List.perm_append_comm (l₁:=[k]))
  obtain⟨o',p,q,r⟩:=Cp c hs (owner.setIfInBounds f (Vo k)) (k+1) (by simpa using h1) o (by omega);exact⟨o',by rw[p];congr 2;omega,q,by rw[show k+(hs.length+1)=k+1+hs.length by omega];exact r⟩
def Lr(t:SetTable)(f:Mask m)(g:ON wanted-1=m)(k:hashes.size<=m):
  ∃t' order,t.relaid hashes wanted=Vo (t',order)/\t'.place.size=hashes.size/\t'.dummies = #[]/\t'.mask=m/\order.toList.Perm (MY hashes.size):=by
 obtain⟨o',e,h,d⟩:=Cp f hashes.toList (Array.replicate (m+1) none) 0 (by simp) (by simp) (by rw[Mh];omega);rw[Mh,OY]at e d;have b:SetTable.layClean m hashes=some o':=by show(hashes.foldl (mC m) (some (Array.replicate (m+1) none,0))).map (·.1)=some o';rw[<-Array.foldl_toList,e];rfl
 have a:((MY (m+1)).filterMap λj=>(o'.getD j Vp).map (j,·)).map (·.2)=o'.toList.filterMap id:=by
  rw[List.map_filterMap];have:o'.toList=(MY (m+1)).map λj=>o'.getD j Vp:=by
   apply List.ext_getElem
   .rw[Mh,Mc,O5,h]
   .intro i h1 h2;rw[Mh]at h1;simp[h1]
  rw[this,Ry];congr 1;funext j;show((o'.getD j Vp).map (j,·)).map (·.2)=o'.getD j Vp;cases o'.getD j Vp<;>rfl
 have c:t.relaid hashes wanted=Vo (({ mask:=m,place:=(((MY (m+1)).filterMap λj=>(o'.getD j Vp).map (j,·)).map (·.1)).toArray,dummies:=#[],finger:=t.finger,led:=t.led,moves:=t.movedTo m,plain:=t.plain }:SetTable),(((MY (m+1)).filterMap λj=>(o'.getD j Vp).map (j,·)).map (·.2)).toArray):=by unfold SetTable.relaid;rw[g];unfold SetTable.laid;rw[b];rfl
 refine⟨_,_,c,?_,rfl,rfl,?_⟩
 .rw[Mi,Mc];have:=congrArg Qr a;rw[Mc,d.length_eq,O5]at this;exact this
 .rw[List.toList_toArray,a];exact d
def ow(xs)(p)(x:α):(OE xs p x).size=xs.size+1:=by unfold OE;simp;omega
def Jx{xs:Array α}{p:Nat}{x e:α}(h:e∈(OE xs p x).toList):e=x\/e∈xs.toList:=by
 unfold OE at h;simp only[Array.toList_append,SJ,Array.toList_extract,MA,Mo]at h;rcases h with(h|h)|h
 .exact .inr (OZ (by simpa using h))
 .exact .inl h
 .exact .inr (O9 (OZ h))
def EF:ON 20-1=31:=by decide +kernel
def LM:ON 76-1=127:=by decide +kernel
def HQ:ON 308-1=511:=by decide +kernel
end L2.Og.Tb
namespace L2.Og
open PySem PySem.Spec PyProof.Rows
section
variable {P:Vd} {w:Ve} {A:Vi} {E:Va->Vc->Prop} {s:Vc} {K:Type} [DecidableEq K] {knd:KeyKind P w K}
def uq{ks:List K}{vs:List Va}(h:ItemsAre knd ks vs):∀v∈vs,∀b,v≠.ref b:=λv hv b e=>by have:=h.byValue v hv;subst e;cases this
def IG(n){v:Va}(h:∀b,v≠.ref b):ofAClassStatement n v=pure false:=by
 cases v with
 | ref b=>exact absurd rfl (h b)
 | _=>unfold ofAClassStatement;rfl
def zg{ks:List K}{b:Vb}{Q:Bool->Vc->Prop}(c:IsTupleKey knd s.heap ks b)(h:Q false s):Vf (Vg P w) A (ofAClassStatement 8 (.ref b)) Q E s:=by
 have d:=c.typeIs;obtain⟨o,items,n,ho,f,hd,hi⟩:=c;unfold ofAClassStatement;refine L6 (wpAny_typeOf d ?_);refine L6 (L7 ?_);refine L6 (wpAny_seqItems ho hd ?_);refine L6 ?_;rw[<-R5];refine wpAny_forIn_list _ (λrest r s'=>r.1=none/\s'=s/\∀v∈rest,∀b,v≠.ref b) _ ?_ ?_ _ _ ⟨rfl,rfl,uq hi⟩
 .rintro v rest r s' ⟨a,rfl,hall⟩;rw[IG _ (hall v Mj)];refine L6 (L7 ?_);exact L7 ⟨rfl,rfl,λu e=>hall u (Mg _ e)⟩
 .rintro⟨r1,g⟩ s' ⟨a,rfl,_⟩;subst a;exact L7 h
def Gs{ks:List K}{b:Vb}{l:List Va}{Q:Bool->Vc->Prop}(f:IsTupleKey knd s.heap ks b)(g:∀y∈l,∃a c,y=.ref a/\IsTupleKey knd s.heap c a)(h:Q false s):Vf (Vg P w) A (searchCouldBeSeen (.ref b) l) Q E s:=by
 refine L6 ?_;refine wpAny_forIn_list _ (λrest r s'=>r.1=Vp/\s'=s/\∀y∈rest,∃a c,y=.ref a/\IsTupleKey knd s.heap c a) _ ?_ ?_ _ _ ⟨rfl,rfl,g⟩
 .rintro v rest r s' ⟨e,rfl,hall⟩;obtain⟨a,c,rfl,d⟩:=hall v Mj;have next:∀y∈rest,∃a c,y=.ref a/\IsTupleKey knd s'.heap c a:=λy i=>hall y (Mg _ i)
  dsimp only;split
  .exact L7 ⟨rfl,rfl,next⟩
  .refine L6 (wpAny_eqIsQuiet_tuple f ?_);refine L6 (wpAny_eqIsQuiet_tuple d ?_);refine L6 (zg f ?_);refine L6 (zg d ?_);exact L7 ⟨rfl,rfl,next⟩
 .rintro⟨r1,j⟩ s' ⟨e,rfl,_⟩;subst e;exact L7 h
def EY{b:Vb}{k:List K}{h:Int}{es:Array (Int×Va)}{t:SetTable}(L:A.units<cLine)(z:IsTupleKey knd s.heap k b)(ho:s.heap.get? a=Vo o)(hd:o.data=.set es ep t)(p:t.fits es.size=true)(O:Tb.Mask t.mask)(B:t.dummies = #[])
  (hall:∀e∈es.toList,∃l d,e.2=.ref l/\IsTupleKey knd s.heap d l/\d≠k) {Q:SetFound->Vc->Prop} (R:∀j,Q (.free j false) s) :
  ∀(K fuel:Nat) (c:Option SetTable.Probe),K<fuel->K<10*OC t.mask->(c.getD (t.probeStart h)).dummy=Vp->t.slot (Tb.cR t K (c.getD (t.probeStart h))).j=.empty ->
   Vf (Vg P w) A (setSearchFrom a (.ref b) h true fuel c) Q E s:=by
 intro K;induction K using Nat.strongRecOn with
 | ind K S=>
  intro fuel c T U q hs;obtain⟨f,rfl⟩:∃f,fuel=f+1:=⟨fuel-1,by omega⟩;refine L6 (MW ho hd p ?_);dsimp only;have W:t.gaveWay=false:=by unfold SetTable.gaveWay;rcases O with e|e|e|e<;>rw[e]<;>rfl
  have C:t.place.size=es.size:=by simp only[Q0,MM,beq_iff_eq]at p;exact p.1
  have u:t.sameMemory t.moves t.mask=Vo true:=by unfold SetTable.sameMemory;rw[M3 (beq_self_eq_true _)]
  rw[W];generalize n:t.probe _ h (c.getD (t.probeStart h))=r;obtain⟨g,n⟩:∃g,O4 t g h (10*OC t.mask) (c.getD (t.probeStart h))=r:=⟨_,n⟩;rcases Tb.HM B g h K _ _ U q hs with⟨j,e⟩|⟨d,j,i,X,e,F⟩
  .rw[e]at n;subst n;exact L7 (R j)
  .rw[e]at n;subst n;have G:=Tb.Ay F;have hi:i<es.size:=by rw[<-C];exact(N2.mp G).1
   have hmem:es[i]∈es.toList:=by simp
   obtain⟨l,k2,H,v,hne⟩:=hall _ hmem;have m:es[i]?=some (es[i].1,.ref l):=by rw[NO hi,<-H]
   have hst:∀y∈((es.filter λx=>x.1 == h).toList.map λx=>x.2),∃l d,y=Value.ref l/\IsTupleKey knd s.heap d l:=λy H=>by
    obtain⟨M,I,rfl⟩:=NR.mp H;have J:M∈es.toList:=by have:=QB.mp I;exact QB.mpr (Array.mem_filter.mp this).1
    obtain⟨b3,k3,h1,h2,_⟩:=hall M J;exact⟨b3,k3,h1,h2⟩
   have again:Vf (Vg P w) A (setSearchFrom a (.ref b) h true f (Vo (Tb.cR t (d+1) (c.getD (t.probeStart h))))) Q E s:=by
    refine S (K-(d+1)) (by omega) f _ (by omega) (by omega) ?_ ?_
    .show(Tb.cR t (d+1) _).dummy=Vp;rw[Tb.rL];exact q
    .show t.slot (Tb.cR t (K-(d+1)) (Tb.cR t (d+1) _)).j=_;rw[<-Tb.qC,show d+1+(K-(d+1))=K by omega];exact hs
   have same:isSame (Value.ref l) (Value.ref l)=pure true:=by unfold isSame;simp
   dsimp only;cases N:t.led
   .simp only[Bool.not_false,if_true];refine L6 (Gs z hst ?_);simp only[MS,if_false];rw[m];dsimp only;refine L6 (wpAny_holding (wpAny_eqBool_tuple L v z ?_));rw[MZ hne];refine L6 (MW ho hd p ?_);dsimp only;simp only[Nu,MS,if_false,u,if_true,F,m,same];exact L6 (L7 (L6 (L7 again)))
   .simp only[Bool.not_true,MS,if_false];rw[m];dsimp only;refine L6 (wpAny_holding (wpAny_eqBool_tuple L v z ?_));rw[MZ hne];refine L6 (MW ho hd p ?_);dsimp only;simp only[Nu,MS,if_false,u,if_true,F,m,same];exact L6 (L7 (L6 (L7 again)))
def gm(knd:KeyKind P w K)(h:Vh)(a:Vb)(ks:List (List K)):Prop:=
 ∃o es ep t,h.get? a=Vo o/\o.ExactSet/\o.data=.set es ep t/\t.place.size=es.size/\t.dummies = #[]/\Tb.Mask t.mask/\es.size*5<t.mask*3/\es.size=ks.length/\∀e∈es.toList,∃b k,e.2=.ref b/\k∈ks/\IsTupleKey knd h k b
def pX{b:Vb}{k:List K}{es:Array (Int×Va)}{t:SetTable}(e:IsTupleKey knd h k b)(ho:h.get? a=Vo o)(hd:o.data=.set es ep t)(hs:Nw a h h'):IsTupleKey knd h' k b:=by
 obtain⟨o',items,n,c,f,d,hi⟩:=e;have hne:b≠a:=by rintro rfl;rw[ho]at c;cases c;rw[hd]at d;cases d
 exact⟨o',items,n,(hs.2 b hne).trans c,f,d,hi⟩
def Gu(n){v:Va}(h:∀b,v≠.ref b):∃c,hashByValue n v=pure c:=by
 cases v with
 | ref b=>exact absurd rfl (h b)
 | _=>exact⟨_,by cases n<;>unfold hashByValue<;>rfl⟩
def GK{ks:List K}{b:Vb}{Q:Bool->Vc->Prop}(e:IsTupleKey knd s.heap ks b)(h:∀c,Q c s):Vf (Vg P w) A (hashByValue 8 (.ref b)) Q E s:=by
 have f:=e.typeIs;obtain⟨o,items,n,ho,i,hd,hi⟩:=e;refine L6 (wpAny_specialOf f F.slot_tuple_hash.lookup ?_);refine L6 (wpAny_seqItems ho hd ?_);dsimp only[Option.getD_some];refine L6 ?_;rw[<-R5];refine wpAny_forIn_list _ (λrest r s'=>(r.1=none\/∃c,r.1=some c)/\s'=s/\∀v∈rest,∀b,v≠.ref b) _ ?_ ?_ _ _ ⟨.inl rfl,rfl,uq hi⟩
 .rintro v rest r s' ⟨a,rfl,hall⟩;obtain⟨c,d⟩:=Gu 7 (hall v Mj);rw[d];refine L6 (L7 ?_);cases c
  .exact L7 (L7 (h false))
  .exact L7 ⟨.inl rfl,rfl,λu g=>hall u (Mg _ g)⟩
 .rintro⟨r1,j⟩ s' ⟨a,rfl,_⟩;rcases a with rfl|⟨c,rfl⟩
  .exact L7 (h true)
  .exact L7 (h c)
def JN{α:Type}{es:Array α}{order:Array Nat}(h:order.toList.Perm (MY es.size)):(order.filterMap (es[·]?)).size=es.size/\∀e∈(order.filterMap (es[·]?)).toList,e∈es.toList:=by
 have key:∀l:List Nat,(∀i∈l,i<es.size)->(l.filterMap (es[·]?)).length=l.length/\∀e∈l.filterMap (es[·]?),e∈es.toList:=by
  intro l;induction l with
  | nil=>intro _;exact⟨rfl,λe c=>by cases c⟩
  | cons x l d=>
   intro b;obtain⟨i1,i2⟩:=d λi hi=>b i (Mg _ hi);have f:=b x Mj;have e:(x::l).filterMap (es[·]?)=es[x]::l.filterMap (es[·]?):=by rw[Od];simp[f]
   rw[e];refine⟨by rw[ME,ME,i1],λy a=>?_⟩;rcases Mr.mp a with rfl|a
   .simp
   .exact i2 y a
 have hlt:∀i∈order.toList,i<es.size:=λi hi=>NP.mp (h.mem_iff.mp hi);obtain⟨k1,k2⟩:=key order.toList hlt;rw[RJ];refine⟨?_,k2⟩;rw[<-Mh,RJ,k1,h.length_eq,O5]
def KD{es c:Array (Int×Va)}{t d:SetTable}{ks1:List (List K)}{Q:Bool->Vc->Prop}(ho:s.heap.get? a=Vo o)(hex:o.ExactSet)(hd:o.data=.set es ep t)(j:c.size=n+1)(v:d.place.size=c.size)(r:d.dummies = #[])
  (x:Tb.Mask d.mask) (y:n*5<d.mask*3) (hn:n<200) (hlen:ks1.length=n+1) (z:∀e∈c.toList,∃b k,e.2=.ref b/\k∈ks1/\IsTupleKey knd s.heap k b)
  (h:∀h',Nw a s.heap h'->gm knd h' a ks1->Q true { s with heap:=h' }) :
  Vf (Vg P w) A (do
   storeSet a c d
   if(!false && d.tooFull)=true then do
    setRelay a (PD (n+1))
    pure true
   else pure true) Q E s:=by
 have L:n+1<=sizeLine:=MH (show n+1<=1000 by omega) (by decide);refine L6 (wpAny_storeSet_of ho hd ?_ (by omega));have i:(s.heap.update a (P7 c d)).get? a=Vo { o with data:=.set c (ep+1) d }:=by have:=NA (P7 c d) ho (by rw[putSet_of c d hd];rfl);rw[putSet_of c d hd]at this;exact this
 have g:=M9 s.heap a (P7 c d);generalize s.heap.update a (P7 c d)=h1 at i g;have l:∀e∈c.toList,∃b k,e.2=.ref b/\k∈ks1/\IsTupleKey knd h1 k b:=λe M=>by obtain⟨b,k,N,O,R⟩:=z e M;exact⟨b,k,N,O,pX R ho hd g⟩
 have f:d.fill=n+1:=by unfold Rr;rw[r,v,j];rfl
 by_cases G:d.tooFull=true
 .rw[G];have B:d.mask*3<=(n+1)*5:=by unfold SV at G;rw[f]at G;simpa using G
  obtain⟨m,U,W,X,hlt⟩:∃m,Tb.Mask m/\ON (PD (n+1))-1=m/\n+1<=m/\(n+1)*5<m*3/\ON (PD (n+1))<=sizeLine:=by
   have Y:PD (n+1)=(n+1)*4:=by unfold PD;rw[M1 (by omega)]
   rcases x with e|e|e|e<;>rw[e]at y B
   .obtain rfl:n=4:=by omega
    exact⟨31,.inr (.inl rfl),Tb.EF,by omega,by omega,by decide +kernel⟩
   .obtain rfl:n=18:=by omega
    exact⟨127,.inr (.inr (.inl rfl)),Tb.LM,by omega,by omega,by decide +kernel⟩
   .obtain rfl:n=76:=by omega
    exact⟨511,.inr (.inr (.inr rfl)),Tb.HQ,by omega,by omega,by decide +kernel⟩
   .omega
  have C:d.fits c.size=true:=by simp only[Q0,MM,beq_iff_eq,decide_eq_true_eq];refine⟨v,?_⟩;rcases x with e|e|e|e<;>omega
  obtain⟨F,order,H,I,S,J,p⟩:=Tb.Lr d (hashes:=c.map (·.1)) U W (by rw[Rj];omega);rw[Rj]at I p;obtain⟨r1,Z⟩:=JN p;refine L6 ?_;unfold setRelay;refine L6 (MW (s:={ s with heap:=h1 }) i rfl C ?_);dsimp only;rw[M1 (Nat.not_lt.mpr hlt.2),H];refine L6 ?_;show Vf _ _ (do
   if(order.filterMap (c[·]?)).size != c.size then unsupported "internal:set-table-lost-an-element"
   pure (order.filterMap (c[·]?),F)) _ _ _
  rw[r1];simp only[bne_self_eq_false,MS,if_false];refine L7 ?_;dsimp only;refine wpAny_storeSet_of (s:={ s with heap:=h1 }) i rfl ?_ (by rw[r1];omega);have T:(h1.update a (P7 (order.filterMap (c[·]?)) F)).get? a=Vo { o with data:=.set (order.filterMap (c[·]?)) (ep+1+1) F }:=by have:=NA (P7 (order.filterMap (c[·]?)) F) i (by rw[putSet_of _ _ (o:={ o with data:=.set c (ep+1) d }) rfl];rfl);rw[putSet_of _ _ (o:={ o with data:=.set c (ep+1) d }) rfl]at this;exact this
  have u:=M9 h1 a (P7 (order.filterMap (c[·]?)) F);refine L7 (h _ (g.trans u) ⟨_,_,_,F,T,hex,rfl,by rw[r1];exact I,S,by rw[J];exact U,by rw[r1,J,j];exact hlt.1,by rw[r1,j,hlen],λe M=>?_⟩);obtain⟨b,k,N,O,R⟩:=l e (Z e M);exact⟨b,k,N,O,pX R i rfl u⟩
 .have q:d.tooFull=false:=by simpa using G
  rw[q];simp only[Nu,MS,if_false];have B:(n+1)*5<d.mask*3:=by unfold SV at q;rw[f]at q;simpa using q
  exact L7 (h h1 g ⟨_,c,_,d,i,hex,rfl,v,r,x,by rw[j];exact B,by rw[j,hlen],l⟩)
def Kh{b:Vb}{k:List K}{ks:List (List K)}{d:Int}{Q:Bool->Vc->Prop}(G:A.units<cLine)(x:IsTupleKey knd s.heap k b)(H:gm knd s.heap a ks)(p:k∉ks)(hsz:ks.length<200)
  (h:∀h',Nw a s.heap h'->gm knd h' a (k::ks)->Q true { s with heap:=h' }):Vf (Vg P w) A (setAddHashed a (.ref b) d) Q E s:=by
 obtain⟨o,es,ep,t,ho,hex,hd,u,f,v,m,hlen,hall⟩:=H;have hle:es.size<=t.mask:=by omega
 have y:t.fits es.size=true:=by simp only[Q0,MM,beq_iff_eq,decide_eq_true_eq];refine⟨u,?_⟩;unfold Rr;rw[f,u];simpa using hle
 obtain⟨T,B,C⟩:=Tb.KY f (by rw[u];exact hle);obtain⟨N,I,J⟩:=Tb.J4 v B d;have n:∀e∈es.toList,∃g i,e.2=.ref g/\IsTupleKey knd s.heap i g/\i≠k:=λe q=>by obtain⟨g,i,h1,h2,L⟩:=hall e q;exact⟨g,i,h1,L,λz=>p (z ▸ h2)⟩
 refine wpAny_holding (L6 (MW ho hd y ?_));dsimp only;have F:10*OC t.mask<100000:=by unfold OC;rcases v with e|e|e|e<;>rw[e]<;>decide
 refine L6 (EY G x ho hd y v f n (λj=>?_) N 100000 Vp (by omega) I rfl (by show t.slot (Tb.cR t N (t.probeStart d)).j=_;rw[J];exact C));refine L6 (MW ho hd y ?_);dsimp only;have l:(t.put j).1.place.size=es.size+1/\(t.put j).1.dummies = #[]/\(t.put j).1.mask=t.mask:=by
  refine⟨?_,?_,rfl⟩
  .show(OE t.place (Ql t.place j) j).size=_;rw[Tb.ow,u]
  .show(if SetTable.has t.dummies j=true then _ else t.dummies) = #[];rw[f,Tb.zI];rfl
 have r:∀e∈(OE es (t.put j).2 (d,Value.ref b)).toList,∃g i,e.2=.ref g/\i∈k::ks/\IsTupleKey knd s.heap i g:=λe q=>by
  rcases Tb.Jx q with rfl|q
  .exact⟨b,k,rfl,Mj,x⟩
  .obtain⟨g,i,M,O,R⟩:=hall e q;exact⟨g,i,M,Mg _ O,R⟩
 have fin:∀c:Bool,Vf (Vg P w) A (do
   storeSet a (OE es (t.put j).2 (d,Value.ref b)) (if c=true then(t.put j).1 else{ (t.put j).1 with plain:=false })
   if(!false && (if c=true then(t.put j).1 else{ (t.put j).1 with plain:=false }).tooFull)=true then do
    setRelay a (PD (es.size+1))
    pure true
   else pure true) Q E s:=λc=>by
  refine KD ho hex hd (Tb.ow _ _ _) ?_ ?_ ?_ ?_ (by omega) (by rw[ME,hlen]) r h
  .rw[Tb.ow];cases c<;>exact l.1
  .cases c<;>exact l.2.1
  .cases c<;>exact v
  .cases c<;>exact m
 cases S:(t.put j).1.plain
 .exact L6 (L7 (fin true))
 .exact L6 (GK x fin)
end
section
variable {P:Vd} {w:Ve} {A:Vi} {K:Type} [DecidableEq K] {knd:KeyKind P w K} {I:Vb} {fp wr:List Vb} {G:Array GenState->Array GenState->Prop} {n:Nat} {Pz:Nat->Va->Prop} {St:Nat->Vc->Prop}
def gm.moved{ks:List (List K)}{wr:List Vb}(g:gm knd h a ks)(f:∀b o,b∉wr->h.get? b=Vo o->h'.get? b=Vo o)(ha:a∉wr)(i:∀b∈wr,∀o,h.get? b=Vo o->∃vs,o.data=.fields vs):gm knd h' a ks:=by obtain⟨o,es,ep,t,ho,hex,hd,h1,h2,j,l,n,hall⟩:=g;refine⟨o,es,ep,t,f a o ha ho,hex,hd,h1,h2,j,l,n,λe p=>?_⟩;obtain⟨b,k,q,r,o',items,m,c,s,d,hi⟩:=hall e p;refine⟨b,k,q,r,o',items,m,f b o' (λhb=>?_) c,s,d,hi⟩;obtain⟨vs,hv⟩:=i b hb o' c;rw[d]at hv;cases hv
def E5(W:WalksS P w A.in1 I fp wr G n Pz St)(S:Vb)(hS:S∉fp)(hu:A.in1.units<cLine)(bs:List Vb)(kk:List (List K))(E:kk.length=n)(H:kk.Nodup)(hsz:n<200)
  (p:∀i v,Pz i v->∃b,v=.ref b/\bs[i]?=Vo b) (hwr:∀i s,St i s->∀b∈wr,∀o,s.heap.get? b=Vo o->∃vs,o.data=.fields vs) {R:Result->Vc->Prop} :
  ∀(m i:Nat) (s:Vc),n-i=m->i<=n->St i s->gm knd s.heap S (kk.take i).reverse->(∀(j:Nat) (b:Vb) (k:List K),bs[j]?=Vo b->kk[j]?=Vo k->IsTupleKey knd s.heap k b) ->
   (∀s',Moved (S::wr) G s s'->gm knd s'.heap S kk.reverse->R (.ok (.ret .none)) s') ->
   codeAny (Vg P w) A (.builtin "set.update.loop" ⟨[.ref S,.ref I],[]⟩) R s:=by
 have r:S∉wr:=λz=>hS (W.sub _ z);have more:∀b∈wr,b∈S::wr:=λb z=>Mg _ z;intro m;induction m with
 | zero=>
  intro i s hm hi hst a d J;obtain rfl:i=n:=by omega
  refine codeAny_builtin Pf ?_;rw[OX Of _];show Vf _ A.in1 (pyNext (.ref I) >>= _) _ _ s;refine L6 (W.done s _ _ hst λs' l=>?_);rw[<-E,MF]at a;exact L7 (J s' (l.mono more) (a.moved l.heap r (hwr _ s hst)))
 | succ m ih=>
  intro i s hm hi hst a d J;have hlt:i<n:=by omega
  refine codeAny_builtin Pf ?_;rw[OX Of _];show Vf _ A.in1 (pyNext (.ref I) >>= _) _ _ s;refine L6 (W.item i s _ _ hlt hst λv s' hP u l=>?_);obtain⟨b,rfl,hb⟩:=p i v hP;have g:kk[i]?=Vo kk[i]:=Me (by omega);have f:=a.moved l.heap r (hwr _ s hst);have hkeys':∀(j:Nat) (b:Vb) (k:List K),bs[j]?=Vo b->kk[j]?=Vo k->IsTupleKey knd s'.heap k b:=λj b k L M=>by obtain⟨o',items,q,x,y,B,N⟩:=d j b k L M;refine⟨o',items,q,l.heap b o' (λO=>?_) x,y,B,N⟩;obtain⟨vs,hv⟩:=hwr _ s hst b O o' x;rw[B]at hv;cases hv
  show Vf _ A.in1 (holding [Value.ref b] (setAdd S (.ref b)) >>= _) _ _ s';refine L6 (wpAny_holding ?_);unfold setAdd;refine wpAny_holding (L6 (wpAny_pyHash_tuple hu (hkeys' i b _ hb g) ?_));have C:kk[i]∉(kk.take i).reverse:=by rw[List.mem_reverse];intro z;obtain⟨q,hq,e⟩:=QC.mp z;rw[MV]at hq;rw[List.getElem_take]at e;have:=(List.getElem_inj H).mp e;omega
  have Q:(kk.take (i+1)).reverse=kk[i]::(kk.take i).reverse:=by rw[Nm,g,List.reverse_append];rfl
  refine Kh (s:={ s' with toks:=s'.toks+(kk[i].length+1) }) hu (hkeys' i b _ hb g) f C (by rw[PN,MV];omega) λh' sb h=>?_;obtain⟨oS,a0,a1,tS,T,_,U,_⟩:=id f;refine L7 ⟨plainId_quiet Of _,ih (i+1) _ (by omega) hlt (W.frame _ s' _ _ u (NY _ _) λc y o e=>?_) (by rw[Q];exact h) (λj c k L M=>pX (hkeys' j c k L M) T U sb) λX Y Z=>?_⟩
  .rw[sb.2 c (λz:c=S=>hS (z ▸ y))];exact e
  .refine J X (Moved.trans W.gtrans ((l.mono more).then_heap (NY _ _) λc o y e=>?_) Y) Z;rw[sb.2 c (λz:c=S=>y (by rw[z];exact Mj))];exact e
end
end L2.Og
namespace L2.Og
open PySem PySem.Spec PyProof.Rows
section
variable {P:Vd} {w:Ve} {A:Vi} {E:Va->Vc->Prop} {s:Vc} {K:Type} [DecidableEq K] {knd:KeyKind P w K}
abbrev cJ(led:Bool):Obj:={ cls:=.type "set",dict:=Vp,data:=.set #[] 0 (.fresh 0 0 led) }
def vH(knd:KeyKind P w K)(s:Vc)(kk:List (List K))(h':Vh):Prop:=
 gm knd h' s.heap.objs.size kk.reverse/\∀b o,b<s.heap.objs.size->s.heap.get? b=Vo o->h'.get? b=Vo o
def Hh:isSubtype (.type "tuple") (.type "frozenset")=pure false:=by
 rw[isSubtype_type]
 kernel_rfl
def Fo{t:Vb}{bs:List Vb}{kk:List (List K)}(N:A.handled=Vp)(hu:A.units+5<cLine)(gt:s.heap.IsTuple t ys)(hb:ys.toList=bs.map Value.ref)
  (O:kk.length=ys.size) (p:kk.Nodup) (S:ys.size<200) (f:∀(j:Nat) (b:Vb) (k:List K),bs[j]?=Vo b->kk[j]?=Vo k->IsTupleKey knd s.heap k b)
  (h:∀(h':Vh) (tk:Nat),vH knd s kk h'->Q (.ref s.heap.objs.size) { s with heap:=h',toks:=tk }):Vf (Vg P w) A (call (.type "set") [.ref t]) Q E s:=by
 have x1:=Nf.notType;have x2:=Nf.canCreate;have x3:=F.typeCall_set_1 (.ref t);have x4:=Nf.made;have x5:=Nf.sub;obtain⟨c,tl,x6⟩:=Nf.mro;refine wpAny_call (codeAny_of_tree ?_);show Vf _ _ (callAny (.type "set") _) _ _ _;refine L7 ⟨Qi _ (by decide +kernel),codeAny_builtin F.entry_type_call ?_⟩;rw[R4 (weight_type_call_type "set" [.ref t] []) rfl]
 repeat (any_goals (first|assumption|wp_step))
 refine codeAny_mono (code_set_new_1 (.ref t) (E:=E) (Q₁:=λv s1=>∃led,v=.ref s.heap.objs.size/\s1={ s with heap:=s.heap.push (cJ led) }) λled=>⟨led,rfl,rfl⟩) λr s1 u=>?_;cases r with
 | error e=>exact u
 | ok T=>
  cases T with
  | ret v=>
   obtain⟨led,rfl,rfl⟩:=u;have M:(s.heap.push (cJ led)).get? s.heap.objs.size=Vo (cJ led):=Ma _ rfl;have U:Shared.TypeIs { s with heap:=s.heap.push (cJ led) } (.ref s.heap.objs.size) "set":=⟨_,M,rfl⟩;have x7:=Nf.init.lookup;have x8:=Nf.init.bind (.ref s.heap.objs.size)
   repeat (any_goals (first|assumption|wp_step))
   refine codeAny_mono (codeAny_call_builtin (R:=wants (λr s2=>r=.none/\∃h' tk,s2={ s with heap:=h',toks:=tk }/\vH knd s kk h') E) Nf.init.plain F.entry_set_init (check_set_init_1 U ?_)) λW s2 a=>?_
   .have x:(s.heap.push (cJ led)).IsTuple t ys:=gt.push _;have hlt:t<s.heap.objs.size:=by obtain⟨o,ho,_⟩:=gt;exact Mb ho
    obtain⟨ol,X,hcl,nl,g⟩:=id x;obtain⟨c0,d0,dt,sl⟩:=ol;simp only at hcl g;subst hcl g;have y1:=F.sub_tuple_set;have y2:=Hh;have y3:(Value.type "tuple" == Value.type "dict")=false:=by decide
    unfold Builtin.«set.__init__» noKeywords QN;generalize hit:pyIter=PI
    wp_walk
    subst hit;refine wpAny_pyIter_tuple x ?_;refine L6 (wpAny_runValue ?_);have l:(s.heap.push (cJ led)).objs.size=s.heap.objs.size+1:=L3 _ _;have y:A.in1.in1.in1.handled=Vp:=by simp[N]
    have hne:t≠(s.heap.push (cJ led)).objs.size:=by rw[l];exact Mv (Nl hlt)
    have B:s.heap.objs.size∉[(s.heap.push (cJ led)).objs.size,t]:=by
     intro z;rcases Mr.mp z with z|z
     .rw[l]at z;exact Mv (N0 _) z
     .exact NU hlt (Mo.mp z)
    have C:∀i:Nat,ys[i]?=(bs[i]?).map Value.ref:=λi=>by rw[<-Nj,hb,Mf]
    refine E5 (knd:=knd) ((Walks.tuple y _ t hne ys).toS) s.heap.objs.size B (by simp only[Around.in1_units];omega) bs kk O p S (λi v hv=>?_) (λi s' hs b G o ho=>?_) (ys.size-0) 0 _ (by omega) (LI _) ⟨⟨_,Ma _ rfl,rfl,rfl⟩,x.push _⟩ ⟨cJ led,#[],0,_,L9 _ M,⟨rfl,rfl,rfl⟩,rfl,rfl,rfl,  .inl rfl,(show 0*5<7*3 by decide),rfl,λe Y=>by simp at Y⟩ (λj b k l Z=>?_) λs' n d=>?_
    .have m:ys[i]?=Vo v:=hv;rw[C i]at m;obtain⟨b,e,rfl⟩:=Mp.mp m;exact⟨b,rfl,e⟩
    .cases Mo.mp G;obtain⟨o',H,_,I⟩:=hs.1;rw[H]at ho;cases ho;exact⟨_,I⟩
    .obtain⟨o,items,q,ho,r⟩:=f j b k l Z;exact⟨o,items,q,L9 _ (L9 _ ho),r⟩
    .obtain⟨h',g',d',J,L⟩:=s';have q1:g'=s.gens:=n.gens;have q2:d'=s.drawn:=n.drawn;have q3:L=s.os:=n.os;subst q1 q2 q3;show Vf _ _ _ _ _ _;refine L7 ?_;show Vf _ _ (ret Value.none) _ _ _;refine L7 ⟨rfl,h',J,rfl,d,λb o hb e=>n.heap b o (λz=>?_) (L9 _ (L9 _ e))⟩;rcases Mr.mp z with z|z
     .exact Mv hb z
     .have z:=Mo.mp z;rw[l]at z;exact Mv (Nl hb) z
   .cases W with
    | error e=>exact a
    | ok f2=>
     cases f2 with
     | ret r=>
      obtain⟨rfl,h',tk,rfl,d⟩:=a
      repeat (any_goals (first|assumption|wp_step))
      exact h _ _ d
     | _=>exact a.elim
  | _=>exact u.elim
end
end L2.Og
namespace L2.Og
open PySem PySem.Spec PyProof.Rows
def jM(a:Vb)(n:Nat):HO:=.ext λh=>∃o es ep t,h.get? a=Vo o/\o.ExactSet/\o.data=.set es ep t/\t.fits es.size=true/\es.size=n
def E1(S:gm (cN P w) h a ks):bC P w H h a (jM a ks.length):=by
 obtain⟨o,es,ep,t,ho,hex,hd,g,b,j,c,hlen,_⟩:=S;refine⟨⟨o,es,ep,t,ho,hex,hd,?_,hlen⟩,⟨o,ho⟩,λh1 h2 z k=>?_⟩
 .simp only[Q0,MM,beq_iff_eq,decide_eq_true_eq];refine⟨g,?_⟩;unfold Rr;rw[b,g];have:es.size<=t.mask:=by omega
  simpa using this
 .obtain⟨o',d,e,i,f,r⟩:=z;exact⟨o',d,e,i,k _ f,r⟩
def cV(H:Hp)(p:Vb)(kk:List (List Key)):Prop:=∃bs:List Vb,H p=Vo (.tup (bs.map V.ref))/\bs.length=kk.length/\∀(j:Nat) (b:Vb) (k:List Key),bs[j]?=Vo b->kk[j]?=Vo k->H b=Vo (.tup (k.map kV))
theorem Al:∀{bs:List Vb} {us:List Va},Vals (bs.map V.ref) us->us=bs.map Value.ref
 | [],_,.nil=>rfl
 | b::bs,_,.cons r t=>by rw[NS,<-Al (bs:=bs) t];exact congrArg (· :: _) r
section
variable {X:Cx}
def uz:List V->Hp->VK->Prop:=λxs H Q=>∃p kk,xs=[.ref p]/\cV H p kk/\kk.Nodup/\kk.length<200/\∀l,H l=Vp->Q (.ref l) (upd H l (jM l kk.length))
def call_setT(c:Room k X.A):cb X (.type "set") uz:=by
 intro pins s σ H xs us Q I r h;obtain⟨p,kk,rfl,⟨bs,h1,h2,f⟩,a,g,q⟩:=h;obtain⟨u,rfl,i⟩:=vals1 r;cases i;obtain⟨_,l,m,gt⟩:=I.hok p _ h1;have v:=Al m;subst v;have E:=c.units;have x:=c.hd;refine Fo (knd:=cN X.prog X.w) x (by omega) (gt) rfl (by simp[h2]) a (by simp[h2];exact g) (λj b k y z=>?_) λh' tk d=>?_
 .obtain⟨_,F,B,o,ho,C,n,hd⟩:=I.hok b _ (f j b k y z);exact⟨o,_,n,ho,C,hd,sf B⟩
 .have hok:=E1 (H:=upd H s.heap.objs.size (jM s.heap.objs.size kk.length)) d.1;rw[PN]at hok;exact⟨.ref s.heap.objs.size,_,I.laid (λb o e=>d.2 b o (Mb e) e) (Mw _) hok,rfl,q _ (I.hok.fresh (Mw _))⟩
def uH:List V->Hp->VK->Prop:=λxs H Q=>∃p n,xs=[.ref p]/\H p=Vo (jM p n)/\n<200/\Q (.int n) H
def call_lenSet:cb X (.builtin "len") uH:=by intro pins s σ H xs us Q I r h;obtain⟨p,n,rfl,a,d,q⟩:=h;obtain⟨u,rfl,b⟩:=vals1 r;cases b;obtain⟨⟨o,es,ep,t,ho,hex,hd,c,hs⟩,_⟩:=I.hok p _ a;refine call_len_set ho hex hd c (by omega) ⟨.int n,H,I.tok _,⟨s.toks+1,by rw[hs]⟩,q⟩
def rd_setOf{Q:VK}{p:Vb}{kk:List (List Key)}(h:cV H p kk)(a:kk.Nodup)(b:kk.length<200)(q:∀l H',Ext H H'->H' l=Vo (jM l kk.length)->Q (.ref l) H'):uz [.ref p] H Q:=
 ⟨p,kk,rfl,h,a,b,λl c=>q l _ (aO c) ay⟩
def rd_lenSet{Q:VK}{p:Vb}(h:H p=Vo (jM p n))(a:n<200)(q:Q (.int n) H):uH [.ref p] H Q:=⟨p,n,rfl,h,a,q⟩
end
end L2.Og
namespace L2.Ti
open PySem PySem.Spec PyProof.Rows
end L2.Ti
namespace L2
open PySem PySem.Spec PyProof.Rows
section
variable {X:Cx} {pins:List (Vb×Obj)} {σ:St} {H:Hp} {s:Vc}
def fL{i:Nat}{y:Vn}{py:Pos}{pos c:Pos}(own:List Vn)(js:List Nat){L:TI}{te:TE}(S:X.N.Nodup)(d:X.N[i]?=Vo y)(U:Loc X.env.scope y)
  (hi:PI X tg iter L) (Z:∀z,PG (cK X sc own js z) tg g) (ht:∀z,iT (cK X sc own js z) ifs tc)
  (he:∀z,PE (cK X sc own js z) elt te) (f:swapsWith (.ListComp elt [⟨tg,iter,ifs,0⟩] sc pos) (Vo (.Name y py)) c.line X.env=pure true:=by rfl) (hc:X.calm=true:=by rfl) (M:sc.kind=.function:=by rfl) (hb:eP sc X.env.scope=true:=by rfl) (hj:jl sc X.N js=true:=by rfl)
  (hs:∀x,foldedSetIterable iter X.env x=pure x:=by intro _;rfl) (j:X.fn y=true\/X.env.scope.names.lookup y=Vo .local:=by first|exact .inl rfl|exact .inr rfl|assumption) :
  PS X (.Assign [.Name y py] (.ListComp elt [⟨tg,iter,ifs,0⟩] sc pos) c) (mX (lO own.length js L g tc te) (jr i)):=by
 intro pins s σ H k I h;rw[exec_Assign_Name_used _ _ _ _ f];refine L6 (wpAny_standAt (L6 ?_));refine L6 (wpAny_mono (wpAny_comprehension_free rfl hs (mw λp l j=>I.ok.has p.1 (nv hb l j)) M (λp l hl=>vj hb l hl)
  (ax (hi pins s σ H _ I h) λv s1 h1=>ax h1 λa0 s2 h2=>?_)) (λ_ s' hq=>L7 (L7 hq)) λ_ _ e=>e)
 obtain⟨it,fp,tn,J,H2,e,I2,T,n,O,W,w0,turn⟩:=h2;subst e;refine rY (Q:=λx H1=>jr i x σ H1 k.nx) M hb hj (λ_=>Z _) (λ_=>ht _) (λ_=>he _) I2 (λC=>Turn.at_ T hc) n O w0 turn ?_;intro D C s' ys H' nD I' hC ⟨m,hm⟩ a1 q;refine wpAny_assign_Name (xf I' S d U (v:=.ref D) rfl (λr u ⟨a,B,ha⟩=>?_) j);obtain⟨f0,P,O,f3,R,f5⟩:=hC;have E:a≠C:=by
  rcases ha with rfl|ha
  .exact NC P
  .exact R y a ha
 refine⟨m,hm.sameBut B (NC E),λh' F=>?_⟩;exact⟨_,_,u.turned (λb o G e=>(F.2 b G).trans e) f0 P f3 R f5,q⟩
end
section
variable {X:Cx}
def Ja{l:Vb}{xs:Array (Int×Tok)}(g:A.handled=Vp)(a:s.heap.IsTuple l (intItems xs))(hne:0<xs.size)
  (h:∀v h' tk,(intItems xs)[argBest (λi j=>decide (numAt xs i>numAt xs j)) (xs.size-1)]?=Vo v->(∀b o,s.heap.get? b=Vo o->h'.get? b=Vo o)->Q v { s with heap:=h',toks:=tk }) :
  Vf (Vg prog w) A (call (Value.builtin "max") [Value.ref l]) Q E s:=by
 have hlt:l<s.heap.objs.size:=by obtain⟨o,e,_⟩:=a;exact Mb e
 have hs:(intItems xs).size=xs.size:=Rj;refine call_max_walk (iter_tuple a ⟨s.heap.objs.size,[s.heap.objs.size,l],[s.heap.objs.size],(intItems xs).size,λi v=>(intItems xs)[i]?=Vo v,λi h=>h.IsTupleIter s.heap.objs.size l i/\h.IsTuple l (intItems xs),_,rfl,Walks.tuple (A:=A.in1) g _ l (Mv hlt) _,?_,?_,by omega,CmpOf.ints_gt (numAt xs) λ_ _=>intItems_at,λv h' tk f k=>?_⟩)
 .refine⟨⟨_,Ma s.heap rfl,rfl,rfl⟩,?_⟩;obtain⟨o,e,c,d⟩:=a;exact⟨o,L9 _ e,c,d⟩
 .intro b hb;rw[L3];rcases Mr.mp hb with rfl|hb
  .exact N0 _
  .cases Mo.mp hb;exact Nl hlt
 .rw[hs]at f;refine h v h' tk f λb o hb=>k b o (λz=>?_) ?_
  .cases Mo.mp z;exact absurd (Mb hb) (ND _)
  .exact L9 _ hb
def Aq(K:L8):List V->Hp->VK->Prop:=λxs H Q=>∃(p:Vb) (ns:List Int),xs=[.ref p]/\ak K H p (ns.map V.int)/\0<ns.length/\∀M,M∈ns->(∀a,a∈ns->a<=M)->Q (.int M) H
def GA(K:L8)(j:X.calm=true)(l:X.K=K:=by rfl):cb X (.builtin "max") (Aq K):=by
 subst l;intro pins s σ H xs us Q I r h;obtain⟨p,ns,rfl,m,y,q⟩:=h;obtain⟨u,rfl,n⟩:=vals1 r;cases n;obtain⟨c,o,pl,d⟩:=I.tuple m;have i1:IntsAre c ns:=intsAre_of o;obtain⟨a,g⟩:=i1.allInts.items;have e:ns=a.toList.map (·.1):=(i1.numsOf.symm.trans (by rw[<-g])).trans (nums_intItems a);have f:a.toList.length=a.size:=Mh;have ln:ns.length=a.size:=by rw[e,Mc,f]
 have v:s.heap.IsTuple p (intItems a):=g ▸ pl;refine Ja (I.ok.hd j) v (by omega) λbest h' tk b kept=>?_;obtain⟨tok,hv⟩:=intItems_at b;subst hv;have am:=argBest_gt (numAt a) (a.size-1);refine⟨.int _,H,I.kept kept,⟨tok,rfl⟩,q _ ?_ λz d=>?_⟩
 .rw[e];rw[numAt_eq];exact getD_mem (by rw[Mc,f];omega)
 .rw[e]at d;obtain⟨k,i,w⟩:=mem_getD d;subst w;have x:k<a.size:=by rw[Mc,f]at i;exact i
  have:=am.2 k (by omega);rw[numAt_eq]at this;exact this
def IP{K:L8}{Q:VK}{p:Vb}{ns:List Int}(e:ak K H p (ns.map V.int))(b:0<ns.length)(h:∀M,M∈ns->(∀a,a∈ns->a<=M)->Q (.int M) H):Aq K [.ref p] H Q:=⟨p,ns,rfl,e,b,h⟩
theorem zU:∀(l:List (Vn×Tok)),Vals ((l.map (·.1)).map V.str) (strValues l)
 | []=>.nil
 | (x,t)::l=>.cons ⟨t,rfl⟩ (zU l)
def JK:V->List V->Hp->VK->Prop:=λx vs H Q=>∃z y:Vn,x=.str z/\vs=[.str y]/\(y.length == 0)=false/\z.length+2<=sizeLine/\∀l,H l=Vp->Q (.ref l) (upd H l (.lst ((M4 z y).map V.str)))
def xp:i8 X "str.split" JK:=by
 intro pins s σ H x vs v us Q I d f h;obtain⟨z,y,rfl,rfl,c,j,q⟩:=h;obtain⟨t,rfl⟩:=d;obtain⟨u,rfl,t',rfl⟩:=vals1 f;have fin:∀(l:List (Vn×Tok)) (k:Nat),l.map (·.1)=M4 z y->EP X pins σ Q (.ref s.heap.objs.size) { s with toks:=k,heap:=s.heap.push { cls:=.type "list",data:=.seq (strValues l).toArray } }:=λl k e=>by
  have m:=split_le z y;have rel:=zU l
  rw[e]at rel;refine⟨.ref s.heap.objs.size,_,I.laid (o:=.lst ((M4 z y).map V.str)) (λb o i=>L9 _ i) (Mw _) ⟨by rw[Mc];omega,_,_,rel,Ma _ rfl⟩,rfl,q _ (I.hok.fresh (Mw _))⟩
 cases h1:(decide (z.length<y.length) || decide (Rp z<Rp y))
 .cases a:(OD z y 0 z.length (z.length+1)).isEmpty
  .have e:M4 z y=Builtin.Str.partsBetween z (OD z y 0 z.length (z.length+1)) y.length:=(M1 (ne_true_of_eq_false h1)).trans (M1 (ne_true_of_eq_false a));refine call_meets RB (typeIs_str _ _ _) Qv (Qm _ _) (meets_str_split_sep z y t t' h1 c a (by omega) (by rw[<-e];have:=split_le z y;omega)) ?_;rw[strsFrom_eq];exact fin _ _ ((numbered_texts _ _).trans e.symm)
  .exact call_meets RB (typeIs_str _ _ _) Qv (Qm _ _) (meets_str_split_not_found z y t t' h1 c a) (fin [(z,t)] s.toks ((M1 (ne_true_of_eq_false h1)).trans (M3 a)).symm)
 .exact call_meets RB (typeIs_str _ _ _) Qv (Qm _ _) (meets_str_split_cannot_occur z y t t' h1) (fin [(z,t)] s.toks (M3 h1).symm)
def AZ:cb X (.type "int") (λxs H Q=>∃z n,xs=[.str z]/\PySem.intText? z=Vo n/\z.length<=640/\Q (.int n) H):=by intro pins s σ H xs us Q I r h;obtain⟨z,n,rfl,a,b,q⟩:=h;obtain⟨u,rfl,t,rfl⟩:=vals1 r;exact PySem.W.KIN.call_text a b ⟨.int n,H,I.tok _,⟨_,rfl⟩,q⟩
end
def Ai{Q:VK}(Pv:Nat->List V->Hp->Prop)(u:z.cps.size<=sizeLine)(f:Pv 0 [] H)(h:∀i ys H,i<=z.cps.size->Pv i ys H->ys.length<=i)
  (hs:∀i c ys H,z.cps[i]?=Vo c->Pv i ys H->g (.str ⟨#[c]⟩) (cG n js σ) H λa j=>tc a j λb e=>if b=true then te a e λv k=>Pv (i+1) (ys++[v]) k else Pv (i+1) ys e)
  (hd:∀ys H p,Pv z.cps.size ys H->H p=Vp->Q (.ref p) (upd H p (.lst ys))):eW (kM z) n js g tc te σ H Q:=by
 refine⟨λi m ys H=>m=z.cps.size-i/\i<=z.cps.size/\Pv i ys H,⟨_,rfl,LI _,f⟩,?_⟩;rintro i m ys H ⟨rfl,hi,p⟩;have q:=h i ys H hi p;rcases MT i z.cps.size with l|l
 .refine .inr ⟨l,by omega,Pv (i+1),λo H' d=>⟨z.cps.size-(i+1),by omega,rfl,l,d⟩,?_⟩;rintro x H' ⟨rfl,c,r,rfl⟩;exact hs i c ys H' r p
 .have:i=z.cps.size:=by omega
  subst this;exact .inl ⟨l,λd s=>hd ys H d p s⟩
end L2
namespace L2
open PySem PySem.Spec PyProof.Rows PySem.SeqAt PySem.MeetsSeq
end L2
namespace L2.Md
open PySem PySem.Spec PyProof.Rows
def Bl(P:Nat->Va->Prop)(val:Nat->Int)(j:Nat):Option Va->Prop
 | none=>j=0
 | some v=>∃i,i<j/\P i v/\∀a,a<j->val a<=val i
def two:Option Va->Array Va
 | none=>#[]
 | some v=>#[v,v]
section
variable {prog:Vd} {w:Ve} {A:Vi} {R:Result->Vc->Prop} {I:Vb} {fp wr:List Vb} {n:Nat} {P:Nat->Va->Prop} {St:Nat->Vh->Prop}
theorem loop(W:Walks prog w A.in1 I fp wr n P St)(val:Nat->Int)(Q:∀i v,P i v->∃t,v=.int (val i) t)(B:Vb)(G:B∉fp)(d:Va):∀(k j:Nat) (s:Vc) (o:Option Va) (c:Nat),n-j=k->j<=n->St j s.heap->Bl P val j o ->
  s.heap.get? B=Vo { cls:=.type "list",dict:=Vp,data:=.seq (two o) c,slots:=#[] } ->
  (∀v h' tk,(n=0/\v=d)\/Bl P val n (Vo v)->(∀b u,b∉wr->b≠B->s.heap.get? b=Vo u->h'.get? b=Vo u)->R (.ok (.ret v)) { s with heap:=h',toks:=tk }) ->
  codeAny (Vg prog w) A (.builtin "max.loop" ⟨[.ref I,.none,.ref B],[("default",d)]⟩) R s:=by
 have M:=λh=>G (W.sub _ h);have nm:(toString "max" ++ toString ".loop":String) = "max.loop":=by decide
 have cm:=CmpOf.ints_gt (prog:=prog) (w:=w) (A:=A.in1) (P:=P) val Q;intro k;induction k with
 | zero=>
  intro j s o c S T hst hb x r;have e:j=n:=by omega
  subst e;refine codeAny_builtin F.entry_max_loop ?_;rw[OX Oh _];show Vf _ A.in1 (seqItems? (.ref B) >>= _) _ _ s;refine L6 (wpAny_seqItems x rfl ?_);show Vf _ A.in1 (tryCatch (pyNext (.ref I)) _ >>= _) _ _ s;refine L6 (wpAny_tryCatch (W.done s _ _ hst λh' tk kp=>?_));cases o with
  | none=>
   have hb:j=0:=hb;refine L6 (wpAny_rule ?_);exact L7 (r d h' tk (.inl ⟨hb,rfl⟩) λb u h1 _ e=>kp b u h1 e)
  | some v=>
   have f:=kp B _ M x;show Vf _ A.in1 (updateSeq B (λ_=>#[]) >>= _) _ _ _;have H:h'.get? B=Vo { cls:=.type "list",dict:=Vp,data:=.seq #[v,v] c,slots:=#[] }:=f;refine L6 (wpAny_updateSeq H rfl (L6 (wpAny_letGo (L7 ?_))));exact r v _ tk (.inr hb) λb u h1 h2 e=>(NB _ _ (NC h2)).trans (kp b u h1 e)
 | succ k J=>
  intro j s o c S T hst hb x r;have lt:j<n:=by omega
  refine codeAny_builtin F.entry_max_loop ?_;rw[OX Oh _];show Vf _ A.in1 (seqItems? (.ref B) >>= _) _ _ s;refine L6 (wpAny_seqItems x rfl ?_);show Vf _ A.in1 (tryCatch (pyNext (.ref I)) _ >>= _) _ _ s;refine L6 (wpAny_tryCatch (W.item j s _ _ lt hst λv h' tk pv p kp=>?_));have f:=kp B _ M x;cases o with
  | none=>
   have hb:j=0:=hb;subst hb;show Vf _ A.in1 (updateSeq B (λ_=>#[v,v]) >>= _) _ _ _;refine L6 (wpAny_updateSeq f rfl ?_);rw[nm];refine L7 ⟨plainId_quiet Oh _,J 1 _ (Vo v) _ (by omega) lt (W.frame _ _ _ p λb L u e=>(NB _ _ (λz:B=b=>G (by rw[z];exact L))).trans e) ⟨0,by omega,pv,λa ha=>by rw[show a=0 by omega];exact Rk _⟩ (NA _ f rfl) λy l g q m=>?_⟩;exact r y l g q λb u h1 h2 e=>m b u h1 h2 ((NB _ _ (NC h2)).trans (kp b u h1 e))
  | some C=>
   obtain⟨i,hi,N,E⟩:=id hb;have f:h'.get? B=Vo { cls:=.type "list",dict:=Vp,data:=.seq #[C,C] c,slots:=#[] }:=f;show Vf _ A.in1 (tryCatch (holding [v,v] (richCompare .Gt v C >>= _)) _ >>= _) _ _ _;refine L6 (wpAny_tryCatch (wpAny_holding (L6 (cm j i v C _ _ _ pv N ?_))));refine L6 (wpAny_holding (wpAny_truthy_bool ?_));refine L6 (wpAny_letGo (L7 ?_));dsimp only;by_cases O:val j>val i
   .rw[M0 O];simp only[if_true];refine L6 (wpAny_updateSeq f rfl (L6 (wpAny_letGo ?_)));rw[nm];refine L7 ⟨plainId_quiet Oh _,J (j+1) _ (Vo v) _ (by omega) lt (W.frame _ _ _ p λb L u e=>(NB _ _ (λz:B=b=>G (by rw[z];exact L))).trans e) ⟨j,by omega,pv,λa ha=>?_⟩ (NA _ f rfl) λy l g q m=>?_⟩
    .by_cases e:a=j
     .subst e;exact Rk _
     .have:=E a (by omega);omega
    .exact r y l g q λb u h1 h2 e=>m b u h1 h2 ((NB _ _ (NC h2)).trans (kp b u h1 e))
   .rw[MZ O];simp only[MS,if_false];refine L6 (wpAny_letGo ?_);rw[nm];refine L7 ⟨plainId_quiet Oh _,J (j+1) _ (Vo C) c (by omega) lt p ⟨i,by omega,N,λa ha=>?_⟩ f λy l g q m=>?_⟩
    .by_cases e:a=j
     .subst e;omega
     .exact E a (by omega)
    .exact r y l g q λb u h1 h2 e=>m b u h1 h2 (kp b u h1 e)
end
def Il(a d):argsOk "max" ⟨[a],[("default",d)]⟩:=by kernel_rfl
section
variable {P:Vd} {w:Ve} {A:Vi} {E:Va->Vc->Prop} {s:Vc}
def De{id:String}(c:builtinKind id=Vp)(d:plainId id=true)(hb:entryFor table id=Vo b)(ha:argsOk id ⟨args,kw⟩)
  (a:Vf (Vg P w) A.in1 (b ⟨args,kw⟩) (λfin s'=>match fin with
   | .done f=>(match (Except.ok f:Result)with|.ok (.ret v)=>Q v s'|.ok _=>False|.error e=>E e s')
   | .again c'=>c'.quiet=true/\codeAny (Vg P w) A c' (λr s'=>match r with|.ok (.ret v)=>Q v s'|.ok _=>False|.error e=>E e s') s') E s):Vf (Vg P w) A (call (.builtin id) args kw) Q E s:=by
 refine wpAny_call (codeAny_call_builtin d hb ?_);simp only[checkBuiltinCall,c];cases hs:Manifest.signature? id with
 | none=>exact L7 a
 | some sig=>
  have h2:Bind.checkArgs id sig ⟨args,kw⟩=pure ():=by simpa only[argsOk,hs]using ha
  show Vf _ A.in1 (Bind.checkArgs id sig ⟨args,kw⟩) _ _ s;rw[h2];exact L7 a
def max_d{l:Vb}{xs:Array (Int×Tok)}{d:Va}(j:A.handled=Vp)(k:s.heap.IsList l (intItems xs))
  (h:∀v h' tk,(xs.size=0/\v=d)\/(∃i,i<xs.size/\(∃t,v=.int (numAt xs i) t)/\∀a,a<xs.size->numAt xs a<=numAt xs i)->(∀b o,s.heap.get? b=Vo o->h'.get? b=Vo o)->Q v { s with heap:=h',toks:=tk }) :
  Vf (Vg P w) A (call (.builtin "max") [.ref l] [("default",d)]) Q E s:=by
 have nm:(toString "max" ++ toString ".loop":String) = "max.loop":=by decide
 refine De F.kind_max F.plain_max F.entry_max (Il _ _) ?_;refine L6 (wpAny_of_eq (show Builtin.Builtins.bindParams "max" ["key","default"] 0 ⟨[],[("default",d)]⟩=pure [Vp,Vo d]from rfl) ?_);refine L6 (L7 ?_);refine L6 (iter_intList k λg e st hfp c=>?_);subst e;refine L6 (wpAny_newObj_type ?_);have W:=R0 (prog:=P) (w:=w) (A:=A.in1) j _ l c (intItems xs);have sz:(intItems xs).size=xs.size:=by simp[intItems]
 rw[sz]at W;refine L7 ⟨plainId_quiet Oh _,loop W (numAt xs) (λ_ _=>intItems_at) _ (λf=>ND _ (hfp _ f)) d _ 0 _ Vp _ rfl (LI _) (W.frame _ _ _ st λb _ o e=>L9 _ e) rfl (Ma _ rfl) λv h' tk m kp=>?_⟩;refine h v h' tk ?_ λb o e=>?_
 .rcases m with q|⟨i,h1,h2,n⟩
  .exact .inl q
  .exact .inr ⟨i,h1,intItems_at h2,n⟩
 .have hlt:=Mb e;refine kp b o (λf=>?_) (λz=>?_) (L9 _ (L9 _ e))
  .rw[Mo.mp f]at hlt;exact ND _ hlt
  .rw[z]at hlt;have:(s.heap.push { cls:=.type "list_iterator",data:=.fields #[.ref l,.int 0 0] }).objs.size=s.heap.objs.size+1:=L3 ..;have h2:(s.heap.push { cls:=.type "list_iterator",data:=.fields #[.ref l,.int 0 0] }).objs.size<s.heap.objs.size:=hlt;omega
end
end L2.Md
namespace L2
open PySem PySem.Spec PyProof.Rows
section
variable {X:Cx}
def nE(K:L8):List V->V->Hp->VK->Prop:=λxs d H Q=>∃(p:Vb) (ns:List Int) (z:Int),xs=[.ref p]/\d=.int z/\af K H p (ns.map V.int)/\∀M,(ns=[]/\M=z)\/(M∈ns/\∀a,a∈ns->a<=M)->Q (.int M) H
def KJ(n:X.calm=true){d:V}{Q:VK}(I:Inv X pins σ H s)(r:Vals xs us)(o:RelV d u)(h:nE X.K xs d H Q):
  Vf (Vg X.prog X.w) X.A (call (.builtin "max") us [("default",u)]) (EP X pins σ Q) X.xe s:=by
 obtain⟨p,ns,z,rfl,rfl,x,q⟩:=h;obtain⟨F,rfl,y⟩:=vals1 r;cases y;obtain⟨c,B,pl,G⟩:=I.list x;have i1:IntsAre c ns:=intsAre_of B;obtain⟨b,l⟩:=i1.allInts.items;have e:ns=b.toList.map (·.1):=(i1.numsOf.symm.trans (by rw[<-l])).trans (nums_intItems b);have f:b.toList.length=b.size:=Mh;have ln:ns.length=b.size:=by rw[e,Mc,f]
 have C:s.heap.IsList p (intItems b):=l ▸ pl.isList;refine Md.max_d (I.ok.hd n) C λv h' tk hv kept=>?_;rcases hv with⟨J,rfl⟩|⟨i,hi,⟨t,rfl⟩,g⟩
 .refine⟨.int z,H,I.kept kept,o,q z (.inl ⟨?_,rfl⟩)⟩;exact List.eq_nil_of_length_eq_zero (by omega)
 .refine⟨.int _,H,I.kept kept,⟨t,rfl⟩,q _ (.inr ⟨?_,λa ha=>?_⟩)⟩
  .rw[e,numAt_eq];exact getD_mem (by rw[Mc,f];omega)
  .rw[e]at ha;obtain⟨k,m,E⟩:=mem_getD ha;subst E;have j:k<b.size:=by rw[Mc,f]at m;exact m
   have:=g k j;rw[numAt_eq]at this;exact this
def Ao(K:L8)(t:TA)(td:TE):TE:=λσ H Q=>t σ H λvs H1=>td σ H1 λd H2=>nE K vs d H2 Q
def KC(K:L8){e d:Vk}{es:List Vk}{t:TA}{p b pos:Pos}(c:X.calm=true)(f:Gl X "max")(g:X.mg "max" = Vp)(ha:PA X (e::es) t)(hd:PE X d td)
  (i:starEach (e::es) X.env=(false,eval e X.env)::starEach es X.env:=by rfl) (a:(backTo pos (starEach (e::es) X.env)).any (·.1)=false:=by rfl) (j:X.K=K:=by rfl):PE X (.Call (.Name "max" p) (e::es) [⟨Vo "default",d,b⟩] pos) (Ao K t td):=by
 subst j;intro pins s σ H Q I h;refine wpAny_Call_Name_kw (eL I f g OQ ?_ (by decide) (by decide));refine PyProof.Rows.callWith_kw (ax (ha pos pins s σ H _ I h) λus s1 ⟨vs,H1,k,r1,l⟩=>?_) (by rw[i];rfl) a rfl rfl;refine L6 (L6 (ax (hd pins s1 σ H1 _ k l) λu s2 ⟨q,H2,m,n,o⟩=>?_));refine L6 (wpAny_standAt (L7 ?_));refine L6 (wpAny_holding ?_);refine L7 (L7 ?_);exact KJ c m r1 n o
end
def rd_maxD{K:L8}{Q:VK}(h:t σ H λvs H1=>td σ H1 λd H2=>nE K vs d H2 Q):Ao K t td σ H Q:=h
def Dh{K:L8}{p:Vb}{Q:VK}(e:af K H p (ns.map V.int))(h:∀M,(ns=[]/\M=z)\/(M∈ns/\∀a,a∈ns->a<=M)->Q (.int M) H):nE K [.ref p] (.int z) H Q:=⟨p,ns,z,rfl,rfl,e,h⟩
def j4(d:Vb)(od:Obj)(kvs:List (List Key×V))(bs:List Vb):It:=⟨λi H=>H d=Vo (.frz od (.dT kvs))/\i<bs.length,λi H x H'=>H'=H/\∃b,bs[i]?=Vo b/\x=.ref b,λi H=>H d=Vo (.frz od (.dT kvs))/\bs.length<=i⟩
def qm{d:Vb}{u:HO}(ok:bt P w H h)(e:H d=Vo (.frz od u)):h.get? d=Vo od:=(ok d _ e).1
def Jl{K:L8}(d it)(a:od.data=.dict es ep)(hb:∀i:Nat,(es[i]?).map Sa=(bs[i]?).map Value.ref)(y:es.size=bs.length):
  Turn P w K tg (j4 d od kvs bs) [it] it (λi h=>h.IsKeyIter it d i es.size ep) where
 mem:=by simp
 obj:=λi h st b hb=>by
  have e:b=it:=by simpa using hb
  subst e;obtain⟨o,e,c,d⟩:=st;exact⟨o,e,λv z=>by rw[d]at z;cases z⟩
 keep:=λi h h' st k=>st.at λo e=>k it (by simp) o e
 item:=by
  intro X j l m A i pins s σ H E I g st n;obtain⟨hd,hi⟩:=n;obtain⟨p,q,B,r,u,x⟩:=g it (by simp);have hlt:i<es.size:=by rw[y];exact hi
  have C:es[i].key=.ref bs[i]:=by have:=hb i;rw[NO hlt,Me hi]at this;exact MO this
  refine EX st (qm I.hok hd) a hlt λh' f sb=>?_;have F:Inv X pins σ H { s with heap:=h' }:=I.turned (t':=s.toks) (λb o hb e=>(sb.2 b hb).trans e) p q r u x;obtain⟨o,e,c,G⟩:=id f;rw[C];exact⟨_,rfl,iR e c G (by decide) ⟨.ref bs[i],H,F,rfl,⟨rfl,_,Me hi,rfl⟩,f,λb hb=>(g b hb).1⟩⟩
 done:=by intro X j l m A i pins s σ H E I g st n;obtain⟨hd,hi⟩:=n;obtain⟨p,q,B,r,u,x⟩:=g it (by simp);exact Kz (I.ok.hd A) st (qm I.hok hd) a (by rw[y];exact hi) λh' J=>⟨rfl,I.turned (λb o hb e=>J b o hb e) p q r u x⟩
 self:=λ_ _ _ _ _ st h=>wpAny_pyIter_keyiter st h
def JB{d:Vb}{o:HO}(e:H d=Vo o):upd H d o=H:=funext λb=>by
 by_cases h:b=d
 .subst h;rw[ay,e]
 .rw[aq h]
section
variable {X:Cx} {tg:Vk}
def uT(tl:TE):TI:=λσ H R=>tl σ H λx H1=>∃d kvs,x=.ref d/\Rd H1 d (.dT kvs)/\∀od (bs:List Vb),Paired (λb (kv:List Key×V)=>H1 b=Vo (.tup (kv.1.map kV))) bs kvs->R (j4 d od kvs bs) (upd H1 d (.frz od (.dT kvs)))
def mf{l:Vk}(u:PE X l tl):PI X tg l (uT tl):=by
 intro pins s σ H R I h;refine ax (u pins s σ H _ I h) λv s1 ⟨x,H1,g,r1,y⟩=>?_;obtain⟨d,kvs,rfl,hd,q⟩:=y;cases r1;obtain⟨A,p,xs,rel,od,es,ep,ho,r,c,f,j⟩:=(show bC X.prog X.w H1 s1.heap d (.dT kvs)from nX g.hok hd);refine I0 p ho r c ?_;have k:es.size=(xs.map (·.2.1)).length:=by rw[<-Mh,f,Mc,Mc]
 have m:∀i:Nat,(es[i]?).map Sa=((xs.map (·.2.1))[i]?).map Value.ref:=λi=>by rw[<-Nj,f,Mf,Mf,Option.map_map,Option.map_map];rfl
 have n:Inv X pins σ (upd H1 d (.frz od (.dT kvs))) s1:=by
  rcases hd with hd|⟨o',hd⟩
  .refine lQ g (by rw[hd];exact True.intro) ⟨rfl,λ_ _=>rfl⟩ ⟨_,ho⟩ ⟨ho,A,p,xs,Paired.mapP rel λa b h=>⟨h.1,?_,h.2.2⟩,od,es,ep,ho,r,c,f,j⟩;rw[aq (cY h.2.1 hd (by intro z;cases z))];exact h.2.1
  .have e:o'=od:=MO ((qm g.hok hd).symm.trans ho);subst e;rw[JB hd];exact g
 refine⟨s1.heap.objs.size,[s1.heap.objs.size],_,_,_,rfl,n.kept λb o e=>L9 _ e,Jl d _ c m k,⟨_,Ma _ rfl,rfl,rfl⟩,λb hb=>?_,q od _ (Iu rel)⟩;have e:b=s1.heap.objs.size:=by simpa using hb
 subst e;exact n.fpOk (Mw _) (n.hok.fresh (Mw _))
end
def rd_iDF(h:te σ H λx H1=>∃d kvs,x=.ref d/\Rd H1 d (.dT kvs)/\∀od (bs:List Vb),Paired (λb (kv:List Key×V)=>H1 b=Vo (.tup (kv.1.map kV))) bs kvs->R (j4 d od kvs bs) (upd H1 d (.frz od (.dT kvs)))):uT te σ H R:=h
def o8{d:Vb}(Pv:Nat->St->Hp->Prop)(e:Pv 0 σ H)(c:∀i σ H,Pv i σ H->H d=Vo (.frz od (.dT kvs)))
  (hs:∀i b σ H,bs[i]?=Vo b->Pv i σ H->g (.ref b) σ H λa H2=>tb ⟨Pv (i+1),D.rt,D.nx,Pv (i+1)⟩ a H2) (hd:∀σ H,Pv bs.length σ H->D.nx σ H):hZ (j4 d od kvs bs) g tb D σ H:=by
 refine⟨λi m σ H=>m=bs.length-i/\i<=bs.length/\Pv i σ H,⟨_,rfl,LI _,e⟩,?_⟩;rintro i m σ H ⟨rfl,hi,p⟩;rcases MT i bs.length with l|l
 .refine .inr ⟨⟨c i σ H p,l⟩,Pv (i+1),λf H' q=>⟨bs.length-(i+1),by omega,rfl,l,q⟩,?_⟩;rintro x H' ⟨rfl,b,hb,rfl⟩;exact hs i b σ H' hb p
 .have:i=bs.length:=by omega
  subst this;exact .inl ⟨⟨c _ σ H p,l⟩,hd σ H p⟩
def Ea{d:Vb}{Q:VK}(Pv:Nat->List V->Hp->Prop)(s:bs.length<=sizeLine)(f:Pv 0 [] H)(h:∀i ys H,Pv i ys H->H d=Vo (.frz od (.dT kvs))/\ys.length<=i)
  (hs:∀i b ys H,bs[i]?=Vo b->Pv i ys H->g (.ref b) (cG n js σ) H λa j=>tc a j λb c=>if b=true then te a c λv k=>Pv (i+1) (ys++[v]) k else Pv (i+1) ys c)
  (hd:∀ys H p,Pv bs.length ys H->H p=Vp->Q (.ref p) (upd H p (.lst ys))):eW (j4 d od kvs bs) n js g tc te σ H Q:=by
 refine⟨λi m ys H=>m=bs.length-i/\i<=bs.length/\Pv i ys H,⟨bs.length,by simp,LI _,f⟩,?_⟩;rintro i m ys H ⟨rfl,hi,p⟩;have e:=h i ys H p;rcases MT i bs.length with l|l
 .refine .inr ⟨⟨e.1,l⟩,by omega,Pv (i+1),λo H' q=>⟨bs.length-(i+1),by omega,rfl,l,q⟩,?_⟩;rintro x H' ⟨rfl,b,hb,rfl⟩;exact hs i b ys H' hb p
 .have:i=bs.length:=by omega
  subst this;exact .inl ⟨⟨e.1,l⟩,λq r=>hd ys H q p r⟩
def rg(q:Vd)(loose:List Vn)(c:(Vn->Option Va)->Vh->Prop)(e:Ve->Vh->Prop)(r:PySem.W.RowW)(d:DefRec)(a:List (Vn×Vk))(run:Va->List Va->Sem Va)(w:Ve):Prop:=Ov q loose c (λb h=>e b h/\b=w) r d a run
def uu{q:Vd}{b:(Vn->Option Va)->Vh->Prop}{c:Ve->Vh->Prop}{r:PySem.W.RowW}{d:DefRec}{a:List (Vn×Vk)}{run:Va->List Va->Sem Va}{e:Prop}(f:Params->L8)(_:Ov q loose b c r d a run->e):L8:=@Classical.epsilon L8 ⟨default⟩ λK=>∃w:Ve,f w.params=K/\¬rg q loose b c r d a run w
def Kn{q:Vd}{c:(Vn->Option Va)->Vh->Prop}{f:Ve->Vh->Prop}{r:PySem.W.RowW}{d:DefRec}{a:List (Vn×Vk)}{run:Va->List Va->Sem Va}(g)(T:Ov q loose c f r d a run->j)
  (h:Ov q loose c (λw h=>f w h/\g w.params=uu g T) r d a run):Ov q loose c f r d a run:=by
 have key:∀w,rg q loose c f r d a run w:=λw=>PK λk=>by obtain⟨n,e,i⟩:=@Classical.epsilon_spec L8 (λK=>∃w:Ve,g w.params=K/\¬rg q loose c f r d a run w) ⟨_,w,rfl,k⟩;refine i λl s₀ b mg mb G Y=>?_;obtain⟨m,rfl⟩:=Y;exact h l s₀ b mg mb G ⟨m,e⟩
 exact λw s₀ b mg mb G Y=>key w w s₀ b mg mb G ⟨Y,rfl⟩
def Ec{l:PySem.W.OpenLaw}{q:Vd}{d:DefRec}{K:Params->L8}{sp:Ve->Sp}(xs:List Vn)
  (L:l.most=Vo n) (A:n<=sizeLine) (B:d.params.defaults=[]) (M:Room k callerA)
  (N:∀w h,z w h->(K w.params).In h) (O:∀w:Ve,Ri (K w.params)=true) (hrec:∀y∈xs,((recsOf q).find? (λe=>e.name == y)).isSome=true) (htab:∀(w:Ve),∀y∈xs,(Na (K w.params) y).isSome=true)
  (F:∀w mg r h,z w h->(K w.params).In h->h.Ns Vj mg->mg d.name=Vo (.ref r) ->
   ∃fd,(∀s u,BindsTo s fd ⟨[u],[]⟩ [(x,u)]) ∧
    ∀base,(K w.params).In base->base.Ns Vj mg->(∀y∈xs,∃c T,Tab (K w.params) mg base y c T)->FnOk l.prog w (K w.params) mg base cW k r fd [x] (sp w))
  (hsp:∀w H a (ns:List Int),ns.length<=n->(∀y∈xs,∀c T,Na (K w.params) y=Vo (c,T)->H T=Vo (.tbl #[]))->af (K w.params) H a (ns.map V.int)->sp w [.ref a] H (λv _=>v=.bl true) λ_ _ _=>False) :
  Ov q loose J z l.row.toRowW d [] (λf vs=>SY f vs):=by
 refine Att.Kl L B λw s₀ j mg mb r o pm cd doc a vs ns G Y ho hd P C m hints hlen Q=>?_;have E:=N w _ Y;obtain⟨fd,hb,R⟩:=F w mg r _ Y E G.T.g C;have S:PySem.W.TabsAt (xs.filterMap (Na (K w.params))) j.heap:=λp U=>by obtain⟨y,i,e⟩:=OK.mp U;obtain⟨dr,X⟩:=NI.mp (hrec y i);exact PySem.W.tab_of G.T E X e
 refine Gp E (O w) S G.T.g G.T.b G.T.builtins G.T.nolimit G.T.bmain Q m hints (MH hlen A) M (λbase I nb tb=>R base I nb λy i=>?_) hb λH Z hS=>hsp w H a ns hlen (λy i c T e=>Z (c,T) (OK.mpr ⟨y,i,e⟩)) hS;obtain⟨⟨c,T⟩,e⟩:=NI.mp (htab w y i);obtain⟨h1,h2,h3⟩:=tb (c,T) (OK.mpr ⟨y,i,e⟩);exact⟨c,T,e,h1,h2,h3,I,nb⟩
def nI(N P:List Vn)(sc:Scope):Bool:=(match sc.kind with|.function=>true|_=>false) && !sc.isCoroutine && !sc.isGenerator && decide N.Nodup && decide (N.take P.length=P) && (P.all λx=>match sc.names.lookup x with|some .local=>true|some .cell=>true|_=>false) && sc.names.all λy=>match y.2 with|.free=>false|_=>true
def lL{P:List Vn}(h:nI N P sc=true):FnScope N P sc:=by
 unfold nI at h;simp only[MM,Qu,decide_eq_true_eq,MJ]at h;obtain⟨⟨⟨⟨⟨⟨h1,h2⟩,a⟩,b⟩,c⟩,d⟩,f⟩:=h;refine⟨?_,h2,a,b,c,λx g=>?_,λy i e=>?_⟩
 .revert h1
  cases sc.kind<;>intro h1<;>first|rfl|cases h1
 .have:=d x g
  revert this
  cases sc.names.lookup x with
  | none=>intro z;cases z
  | some k=>cases k<;>intro z<;>first|exact .inl rfl|exact .inr rfl|cases z
 .have:=f y i;rw[e]at this;cases this
def oi{α:Type}{a:α}{q:Prop}:a=a\/q:=.inl rfl
def oj{α:Type}{a:α}{q:Prop}:q\/a=a:=.inr rfl
section
variable {P:Vd} {w:Ve} {K:L8} {mg:Vn->Option Va} {base:Vh}
def Dfn.oS{x:Vn}{st:Vl}{k:Nat}(D:Dfn K mg x st ps)(N:List Vn)
  (a:∀{f cdv A outer s H E},Room k (aU cW P w K mg base N x (aW st) f cdv A outer s H E).nox.A->N.Nodup->∀(H':Hp) (vs:List V) (Q:VK) (b:XK),sp vs H' Q b ->
   ∃t,cD (aU cW P w K mg base N x (aW st) f cdv A outer s H E).nox (cB st) t/\t { nx:=λ_ H'=>Q .non H',rt:=Q } (start N vs) H')
  (len:∀vs H Q E,sp vs H Q E->vs.length=ps.length:=by intro _ _ _ _ h;cases h;subst_vars;rfl) (h:nI N ps (aW st)=true:=by decide +kernel):Cal P w K mg base x (k+1) ps sp:=
 D.ok (lL h) len λX c H' vs Q b hs=>by obtain⟨f,cdv,A,outer,s,H,E,rfl,d⟩:=c;exact a d (lL h).nd H' vs Q b hs
def Dfn.oL{x:Vn}{st:Vl}{k:Nat}{T:Vb}(D:Dfn K mg x st ps)(B:Tab K mg base x c T)(N:List Vn)
  (a:∀{f A outer s H E},Room k (aU cW P w K mg base N x (aW st) f (.ref c) A outer s H E).nox.A->N.Nodup->∀(H':Hp) (vs:List V) (Q:VK) (b:XK),sp vs H' Q b ->
   ∃t,cD (aU cW P w K mg base N x (aW st) f (.ref c) A outer s H E).nox (cB st) t/\t { nx:=λ_ H'=>Q .non H',rt:=Q } (start N vs) H')
  (len:∀vs H Q E,sp vs H Q E->vs.length=ps.length:=by intro _ _ _ _ h;cases h;subst_vars;rfl) (h:nI N ps (aW st)=true:=by decide +kernel):Cal P w K mg base x (k+1) ps sp:=
 D.okL B (lL h) len λX d H' vs Q b hs=>by obtain⟨f,A,outer,s,H,E,rfl,e⟩:=d;exact a e (lL h).nd H' vs Q b hs
end
section
variable {X:Cx} {e:Vk} {es:List Vk} {te:TE} {t:TA}
def au(ha:PE X e te)(a:PA X es t)(hs:starEach (e::es) X.env=(false,eval e X.env)::starEach es X.env):PA X (e::es) (ly te t):=aa ha a hs
end
section
variable {X:Cx}
variable {a b e o:Vk} {es:List Vk} {ta tb te to:TE} {t:TA} {pos:Pos}
def xH:R2:=λx y H Q=>∃i j:Vn,x=.str i/\y=.str j/\i.length+j.length<=sizeLine/\Q (.str (i++j)) H
def dD:br X (binaryOp .Add) xH:=lg
end
structure MDfn(K:L8)(C:Vb)(m qual:Vn)(st:Vl)(ps:List Vn):Prop where
 ex:∃(f:Vb) (fd:Vm),Meth K C m f/\Fun K m qual st f fd/\Binds K fd ps []
structure MetX(P:Vd)(w:Ve)(K:L8)(mg:Vn->Option Va)(base:Vh)(C:Vb)(m:Vn)(k:Nat)(ps:List Vn)(sp:Sp):Prop where
 ex:∃(f:Vb) (fd:Vm),Meth K C m f/\Binds K fd ps []/\FnOk P w K mg base (bf P w) k f fd ps sp
def MDfn.okX{K:L8}{m:Vn}{st:Vl}(D:MDfn K C m qual st ps)(S:FnScope N ps (aW st))(len:∀vs H Q E,sp vs H Q E->vs.length=ps.length)
  (a:∀f cdv A outer s H vs Q E,Room k (A.deeper (envOfC qual (aW st) s.heap.objs.size f cdv))->sp vs H Q E ->
   ∃t,cD (aU (bf P w) P w K mg base N qual (aW st) f cdv A outer s H E) (cB st) t/\t { nx:=λ_ H'=>Q .non H',rt:=Q } (start N vs) H):MetX P w K mg base C m (k+1) ps sp:=by
 obtain⟨f,fd,c,F,hb⟩:=D.ex;obtain⟨oc,od,kV,doc,pm,an,cdv,ct,osl,rfl,lk,b⟩:=F.ex;exact⟨f,_,c,hb,lK lk b S len λA outer s H vs Q E d h=>a f cdv A outer s H vs Q E d h⟩
section
variable {P:Vd} {w:Ve} {K:L8} {mg:Vn->Option Va} {base:Vh} {N:List Vn} {qual:Vn} {scope:Scope} {f:Vb} {cd:Va} {A:Vi} {outer:List Env} {s₀:Vc} {H₀:Hp} {E:XK}
variable {C:Vb} {m:Vn} {k j:Nat} {ps:List Vn} {sp:Sp} {o e:Vk} {es:List Vk} {ta:TE} {t:TA} {apos pos:Pos} {pl:Sem Bool}
def Hi(M:MetX P w K mg base C m j ps sp)(c:Cls K C)(g:Room k (aU (bf P w) P w K mg base N qual scope f cd A outer s₀ H₀ E).A)(i:PE (aU (bf P w) P w K mg base N qual scope f cd A outer s₀ H₀ E) o ta)
  (ha:PA (aU (bf P w) P w K mg base N qual scope f cd A outer s₀ H₀ E) (e::es) t) (a:j<=k:=by decide)
  (hst:starEach (e::es) (aU (bf P w) P w K mg base N qual scope f cd A outer s₀ H₀ E).env=(false,eval e (aU (bf P w) P w K mg base N qual scope f cd A outer s₀ H₀ E).env)::starEach es (aU (bf P w) P w K mg base N qual scope f cd A outer s₀ H₀ E).env:=by rfl)
  (b:(backTo pos (starEach es (aU (bf P w) P w K mg base N qual scope f cd A outer s₀ H₀ E).env)).any (·.1)=false:=by rfl)
  (l:eval (.Call (.Attribute o m apos) (e::es) [] pos) (aU (bf P w) P w K mg base N qual scope f cd A outer s₀ H₀ E).env=(do
   let d <-eval o (aU (bf P w) P w K mg base N qual scope f cd A outer s₀ H₀ E).env
   standAt apos.atName
   let (g9,first) <-holding [d] (getMethod d m pl)
   callWith pos g9 first (backTo pos (starEach (e::es) (aU (bf P w) P w K mg base N qual scope f cd A outer s₀ H₀ E).env)) (backToKw pos (keywordEach [] (aU (bf P w) P w K mg base N qual scope f cd A outer s₀ H₀ E).env))):=by rfl) :
  PE (aU (bf P w) P w K mg base N qual scope f cd A outer s₀ H₀ E) (.Call (.Attribute o m apos) (e::es) [] pos) (kK C m sp [] E ta t):=by
 obtain⟨p,fd,n,hb,F⟩:=M.ex;exact JQ i c n F (g.mono a) hb .nil (qR λ_ _ _ h=>h) ha hst b l
def xq(M:MetX P w K mg base C m j ps sp)(c:Cls K C)(d:Room k (aU (bf P w) P w K mg base N qual scope f cd A outer s₀ H₀ E).A)(e:PE (aU (bf P w) P w K mg base N qual scope f cd A outer s₀ H₀ E) o ta)(a:j<=k:=by decide)
  (g:eval (.Call (.Attribute o m apos) [] [] pos) (aU (bf P w) P w K mg base N qual scope f cd A outer s₀ H₀ E).env=(do
   let b <-eval o (aU (bf P w) P w K mg base N qual scope f cd A outer s₀ H₀ E).env
   standAt apos.atName
   let (g9,first) <-holding [b] (getMethod b m pl)
   callWith pos g9 first (backTo pos (starEach [] (aU (bf P w) P w K mg base N qual scope f cd A outer s₀ H₀ E).env)) (backToKw pos (keywordEach [] (aU (bf P w) P w K mg base N qual scope f cd A outer s₀ H₀ E).env))):=by rfl) :
  PE (aU (bf P w) P w K mg base N qual scope f cd A outer s₀ H₀ E) (.Call (.Attribute o m apos) [] [] pos) (kK C m sp [] E ta fR):=by
 obtain⟨l,fd,i,hb,F⟩:=M.ex;exact CZ e c i F (d.mono a) hb .nil (qR λ_ _ _ h=>h) g
def rd_meth{Q:VK}(h:ta σ H λx H1=>∃a dx fs,x=.ref a/\H1 a=Vo (.ins C dx fs)/\fs.lookup m=Vp/\t σ H1 λvs H2=>sp (x::(vs++[])) H2 Q E):kK C m sp [] E ta t σ H Q:=h
end
def uf(C:Vb)(m:Vn)(i:Nat)(sp:Sp)(ta:TE)(t:TA):Ends->(St->XK)->St->Hp->Prop:=λD E σ H=>ta σ H λx H1=>∃a dx fs,x=.ref a/\H1 a=Vo (.ins C dx fs)/\fs.lookup m=Vp/\t σ H1 λvs H2=>sp (x::vs) H2 (λv b=>D.nx (σ.set i (Vo v)) b) (E σ)
def Lm{m y:Vn}{i k j:Nat}{o e:Vk}{es:List Vk}{ta:TE}{t:TA}{apos pos b d:Pos}{pl:Sem Bool}(M:MetX Y.prog Y.w Y.K Y.mg Y.base C m j ps sp)(c:Cls Y.K C)(T:Room k Y.A)(U:Y.N.Nodup)(hi:Y.N[i]?=Vo y)(Z:Loc Y.env.scope y)(hob:PE Y.nox o ta)(ha:PA Y.nox (e::es) t)(B:j<=k:=by decide)
  (he:starEach (e::es) Y.env=(false,eval e Y.env)::starEach es Y.env:=by rfl) (G:(backTo pos (starEach es Y.env)).any (·.1)=false:=by rfl) (hs:swapsWith (.Call (.Attribute o m apos) (e::es) [] pos) (Vo (.Name y d)) b.line Y.env=pure false:=by rfl)
  (ht:eval (.Call (.Attribute o m apos) (e::es) [] pos) Y.env=(do
   let J <-eval o Y.env
   standAt apos.atName
   let (g9,first) <-holding [J] (getMethod J m pl)
   callWith pos g9 first (backTo pos (starEach (e::es) Y.env)) (backToKw pos (keywordEach [] Y.env))):=by rfl)
  (hf:Y.fn y=true\/Y.env.scope.names.lookup y=Vo .local:=by first|exact .inl rfl|exact .inr rfl|assumption) :
  PB Y (.Assign [.Name y d] (.Call (.Attribute o m apos) (e::es) [] pos) b) (uf C m i sp ta t):=by
 intro pins s σ H D E I h;obtain⟨f,fd,L,hb,F⟩:=M.ex;refine wpAny_Assign_Name (Ox (wpAny_mono (hob pins s σ H _ I h) (λu s1 ⟨x,H1,O,rx,a,dx,fs,ex,ea,l,q⟩=>?_) λ_ _ z=>z.elim) ht) hs;subst ex;obtain rfl:u=Value.ref a:=rx;refine nQ (X:=Y.nox) O ea c L l ?_;refine Ol I.ok.mod.kin L.kp (wpAny_mono (ha pos pins s1 σ H1 _ O q) (λus s2 ⟨vs,H2,g,r,P⟩=>⟨g.kIn,?_⟩) λ_ _ z=>z.elim) he G;have R:Vals (V.ref a::vs) (Value.ref a::us):=.cons rfl r;have hl:(Value.ref a::us).length=ps.length:=by rw[<-R.length];exact F.len _ _ _ _ P
 have n:=hb s2 (Value.ref a::us) g.kIn (by rw[Nx];exact hl);rw[Nx]at n;refine wpAny_call (codeAny_mono (F.run Y.A Y.stack s2 H2 ⟨Value.ref a::us,[]⟩ (Value.ref a::us) (V.ref a::vs) _ (E σ) (T.mono B) g.env0 n R P) λr s' p=>?_);cases r with
 | error e=>exact⟨σ,H2,s2,g,p⟩
 | ok fl=>
  cases fl with
  | ret u=>
   obtain⟨v,H3,I3,r3,q3⟩:=g.after p;exact wpAny_mono (kU (X:=Y.nox) (E:=λ_ _=>False) I3 U hi Z r3 (λS I4=>⟨_,H3,I4,q3⟩) hf) (λ_ _ z=>z) λ_ _ z=>z.elim
  | next=>exact M7 p
  | brk=>exact M7 p
  | cont=>exact M7 p
def rd_basgM{m:Vn}{E:St->XK}(h:ta σ H λx H1=>∃a dx fs,x=.ref a/\H1 a=Vo (.ins C dx fs)/\fs.lookup m=Vp/\t σ H1 λvs H2=>sp (x::vs) H2 (λv b=>D.nx (σ.set i (Vo v)) b) (E σ)):uf C m i sp ta t D E σ H:=h
structure MkD(P:Vd)(w:Ve)(K:L8)(mg:Vn->Option Va)(base:Vh)(x:Vn)(k:Nat)(sp:Sp):Prop where
 ex:∃(f:Vb) (fd:Vm),mg x=Vo (.ref (cA K x))/\Mk K (cA K x) f/\Binds K fd ["self"] []/\FnOk P w K mg base cW k f fd ["self"] sp
def mj{x:Vn}{k j:Nat}{p pos:Pos}(M:MkD X.prog X.w X.K X.mg X.base x j sp)(c:Room (k+1) X.A)(a:j<=k:=by decide)(d:Gl X x:=by rfl)(b:(x == ("__debug__":Vn))=false:=by decide):PE X (.Call (.Name x p) [] [] pos) (rD (cA X.K x) sp [] E0 fR):=by obtain⟨f,fd,e,M,hb,F⟩:=M.ex;exact K7 M F (c.mono (Q6 a)) d e hb .nil qE b
def rd_make{Q:VK}(h:∀x dx,H x=Vp->H dx=Vp->dx≠x->sp [.ref x] (upd (upd H dx (.own x)) x (.ins C dx [])) (λv H2=>v=.non/\Q (.ref x) H2) E0):rD C sp [] E0 fR σ H Q:=h
def Cal.toX{K:L8}(h:Cal P w K mg base x k ps sp):CalX P w K mg base x k ps sp:=by
 obtain⟨f,fd,a,b,c,F⟩:=h.ex;refine⟨f,fd,a,b,c,F.len,λA outer s H args us vs Q E r1 g i j l=>codeAny_mono (F.run A outer s H args us vs Q E r1 g i j l) λr s' d=>?_⟩;cases r with
 | error e=>exact M7 d
 | ok m=>cases m<;>exact d
section
variable {P:Vd} {w:Ve} {K:L8} {mg:Vn->Option Va} {base:Vh} {N:List Vn} {qual:Vn} {scope:Scope} {f:Vb} {cd:Va} {A:Vi} {outer:List Env} {s₀:Vc} {H₀:Hp} {E:XK}
def Az(P:Vd)(w:Ve)(K:L8)(mg:Vn->Option Va)(base:Vh)(k:Nat)(E:XK)(a:TE)(t:TA):TE:=λσ H Q=>a σ H λy H1=>∃(x:Vn) (j:Nat) (ps:List Vn) (sp:Sp),y=.ref (cA K x)/\mg x=Vo (.ref (cA K x))/\CalX P w K mg base x j ps sp/\j<=k/\t σ H1 λvs H2=>sp vs H2 Q E
def yh{b i e:Vk}{es:List Vk}{k:Nat}{l:TE}{t:TA}{p pos:Pos}(o:Room k (aU (bf P w) P w K mg base N qual scope f cd A outer s₀ H₀ E).A)(u:PE (aU (bf P w) P w K mg base N qual scope f cd A outer s₀ H₀ E) (.Subscript b i p) l)
  (ha:PA (aU (bf P w) P w K mg base N qual scope f cd A outer s₀ H₀ E) (e::es) t)
  (v:starEach (e::es) (aU (bf P w) P w K mg base N qual scope f cd A outer s₀ H₀ E).env=(false,eval e (aU (bf P w) P w K mg base N qual scope f cd A outer s₀ H₀ E).env)::starEach es (aU (bf P w) P w K mg base N qual scope f cd A outer s₀ H₀ E).env:=by rfl)
  (c:(backTo pos (starEach es (aU (bf P w) P w K mg base N qual scope f cd A outer s₀ H₀ E).env)).any (·.1)=false:=by rfl) :
  PE (aU (bf P w) P w K mg base N qual scope f cd A outer s₀ H₀ E) (.Call (.Subscript b i p) (e::es) [] pos) (Az P w K mg base k E l t):=by
 intro pins s σ H Q I h;refine L6 (ax (u pins s σ H _ I h) λd s1 ⟨y,H1,m,z,x,j,ps,sp,B,G,C,g,q⟩=>?_);subst B;obtain rfl:d=Value.ref (cA K x):=z;obtain⟨M,fd,a,J,hb,F⟩:=C.ex;rw[G]at a;cases a;refine Ol m.ok.mod.kin J (ax (ha pos pins s1 σ H1 _ m q) λus s2 ⟨vs,H2,n,r,L⟩=>⟨n.kIn,?_⟩) v c;exact kH F (o.mono g) hb .nil (qR λ_ _ _ h=>h) n r (by rw[Nx];exact L)
end
def rd_calS{K:L8}{E:XK}{a:TE}{Q:VK}(h:a σ H λy H1=>∃(x:Vn) (j:Nat) (ps:List Vn) (sp:Sp),y=.ref (cA K x)/\mg x=Vo (.ref (cA K x))/\CalX P w K mg base x j ps sp/\j<=k/\t σ H1 λvs H2=>sp vs H2 Q E):Az P w K mg base k E a t σ H Q:=h
def rd_fld{K:L8}{f:Vn}{Q:VK}(h:ta σ H λx H1=>∃a C dx fs v,x=.ref a/\H1 a=Vo (.ins C dx fs)/\Cls K C/\fu K C f/\fs.lookup f=Vo v/\Q v H1):wH K ta f σ H Q:=h
def rd_sfld{K:L8}{f:Vn}(h:tv σ H λy H1=>ta σ H1 λx H2=>∃a C dx fs,x=.ref a/\H2 a=Vo (.ins C dx fs)/\Cls K C/\fu K C f/\fs.length<1000/\D.nx σ (upd H2 a (.ins C dx (bH f y fs)))):wz K ta tv f D σ H:=h
def EZ{x:Vn}{kvs:List (Key×V)}{i:Vk}{ty:TE}{p:Pos}(c:Gl X x)(d:X.mg x=some (.ref a))(D:GDict X.w X.K a kvs)(hi:PE X i ty)(hd:(x == ("__debug__":Vn))=false:=by decide):PC X .NotIn i (.Name x p) (qW true kvs ty):=by intro pins s σ H Q I h;refine ax (hi pins s σ H _ I h) λg s1 ⟨y,H1,b,e,k,f,q⟩=>gy b c d ?_ hd;subst f;obtain⟨vs,rel,dd⟩:=D.at b;refine wpAny_notIn_of (ia e) D.sm dd.mapOf ?_;rw[<-(rel.val k).isSome_eq];exact⟨.bl (!(aZ kvs k).isSome),H1,b.tok _,rfl,q⟩
abbrev mW(h:Vh)(a b:Vb):Vh:=(ig h a).push { cls:=.type "list_iterator",data:=.fields #[.ref b,.int 0 0] }
abbrev mD(h:Vh)(a b:Vb):Vh:=(mW h a b).push { cls:=.type "tuple",data:=.seq #[.ref h.objs.size,.ref (ig h a).objs.size] }
abbrev my(h:Vh)(a b:Vb):Vh:=(mD h a b).push { cls:=.type "tuple",data:=.seq #[.none,.none] }
abbrev jT(h:Vh)(a b:Vb):Vh:=(my h a b).push { cls:=.type "zip",data:=.fields #[.none,.bool false,.bool false,.ref (mW h a b).objs.size,.ref (mD h a b).objs.size] }
def Dt(a b)(xs ys):Meets (Builtin.«zip.__new__» ⟨[.type "zip",.ref a,.ref b],[]⟩) (λ_ R s=>s.heap.IsTuple a xs/\s.heap.IsList b ys/\R (.ok (.ret (.ref (my s.heap a b).objs.size))) { s with heap:=jT s.heap a b }):=
 .of_wp λprog w A R s q=>by
  obtain⟨c,g,d,tk,os⟩:=s;obtain⟨ga,f,q⟩:=q;have e:=sub_zip;have h:RG (QD ⟨c,g,d,tk,os⟩) a xs:=ga;have i:Heap.IsList (QD ⟨c.push { cls:=.type "tuple_iterator",data:=.fields #[.ref a,.int 0 0] },g,d,tk,os⟩) b ys:=Heap.IsList.push f _
  wp_walk using wpAny_pyIter_tuple h,wpAny_pyIter_list i
  exact⟨_,rfl,q⟩
def Dm{xs:Array Va}(ga:s.heap.IsTuple a xs)(i:s.heap.IsList b ys)
  (q:∀h',IsZip h' (s.heap.objs.size+4) (s.heap.objs.size+2) (s.heap.objs.size+3) .none->IsPair h' (s.heap.objs.size+2) (.ref s.heap.objs.size) (.ref (s.heap.objs.size+1))->IsPair h' (s.heap.objs.size+3) .none .none ->
   h'.IsTupleIter s.heap.objs.size a 0->h'.IsListIter (s.heap.objs.size+1) b 0->(∀c o,s.heap.get? c=Vo o->h'.get? c=Vo o)->Q (.ref (s.heap.objs.size+4)) { s with heap:=h' }) :
  Vf (Vg prog w) A (call (.type "zip") [.ref a,.ref b]) Q E s:=by
 refine callType_new F.called_zip (by decide) (F.typeCall_zip_2 _ _) (F.newCall_zip_2 _ _) (λob=>F.args_object_init_3 ob _ _) F.entry_zip_new (Dt a b xs ys) ⟨ga,i,?_⟩;have d:(ig s.heap a).objs.size=s.heap.objs.size+1:=L3 ..;have e:(mW s.heap a b).objs.size=s.heap.objs.size+2:=by rw[L3,d]
 have f:(mD s.heap a b).objs.size=s.heap.objs.size+3:=by rw[L3,e]
 have g:(my s.heap a b).objs.size=s.heap.objs.size+4:=by rw[L3,f]
 have k5:(jT s.heap a b).get? (my s.heap a b).objs.size=Vo _:=Ma _ rfl;have h:(jT s.heap a b).get? (mD s.heap a b).objs.size=Vo _:=L9 _ (Ma _ rfl);have k3:(jT s.heap a b).get? (mW s.heap a b).objs.size=Vo _:=L9 _ (L9 _ (Ma _ rfl));have k2:(jT s.heap a b).get? (ig s.heap a).objs.size=Vo _:=L9 _ (L9 _ (L9 _ (Ma _ rfl)));have k1:(jT s.heap a b).get? s.heap.objs.size=Vo _:=L9 _ (L9 _ (L9 _ (L9 _ (Ma _ rfl))));rw[e,f,g]at k5;rw[d,e]at k3;rw[f]at h;rw[d]at k2;rw[g];exact⟨⟨_,k5,rfl⟩,q _ k5 k3 h ⟨_,k1,rfl,rfl⟩ ⟨_,k2,rfl,rfl⟩ λc o x=>L9 _ (L9 _ (L9 _ (L9 _ (L9 _ x))))⟩
section
variable {K:L8} {σ:St} {H:Hp} {Q:VK}
def sQ(K:L8):List V->Hp->(It->Hp->Prop)->Prop:=λvs H R=>∃a b xs ys,vs=[.ref a,.ref b]/\ak K H a xs/\af K H b ys/\R (gU (cU K a) (cu K b)) H
def zS(K:L8)(ta:TA):TI:=λσ H R=>ta σ H λvs H1=>sQ K vs H1 R
def DL{ps:Pos}(K:L8){a b:Vk}{ta:TA}{p pos:Pos}(n:Gl X "zip")(o:X.mg "zip" = Vp)(ha:PA X [a,b] ta)(u:X.K=K:=by rfl)(hs:starEach [a,b] X.env=[(false,eval a X.env),(false,eval b X.env)]:=by rfl)(c:starEach [b] X.env=[(false,eval b X.env)]:=by rfl):
  PI X (.Tuple elts kk ps) (.Call (.Name "zip" p) [a,b] [] pos) (zS K ta):=by
 subst u;intro pins s σ H R I h;refine Call_ (eL I n o RV (NF (ax (ha pos pins s σ H _ I h) λus s1 ⟨vs,H1,d,r1,v⟩=>?_) (by rw[hs,c]) (by rw[c];rfl)));obtain⟨l,m,xs,ys,e,ga,w,q⟩:=v;subst e;cases r1 with
 | cons r f=>
  cases f with
  | cons x f=>
   cases f;cases r;cases x;obtain⟨g,_,y,_⟩:=d.tuple ga;obtain⟨i,_,p2,_⟩:=d.list w;refine Dm (y) p2.isList λh' j z A B C k=>?_;refine wpAny_pyIter_zip j ?_;have N:Apart (s1.heap.objs.size+4) (s1.heap.objs.size+2) (s1.heap.objs.size+3) s1.heap.objs.size (s1.heap.objs.size+1):=by constructor<;>(intro h;have h':@Eq Nat _ _:=h;omega)
   refine⟨s1.heap.objs.size+4,[s1.heap.objs.size+4,s1.heap.objs.size+2,s1.heap.objs.size+3,s1.heap.objs.size,s1.heap.objs.size+1],_,_,H1,rfl,d.kept k,uU (qi l _) (sv m _) N,⟨j,z,⟨_,_,A⟩,B,C⟩,λb hb=>?_,q⟩;have le:@LE.le Nat _ s1.heap.objs.size b:=by
    simp only[Mr,MI,or_false]at hb;rcases hb with rfl|rfl|rfl|rfl|rfl
    .exact NY _ _
    .exact NY _ _
    .exact NY _ _
    .exact Mw _
    .exact NY _ _
   exact d.fpOk le (d.hok.fresh le)
def rd_zipM{a:TA}(h:a σ H λvs H1=>sQ K vs H1 R):zS K a σ H R:=h
def Jn{ys:List V}(Pv:Nat->List V->Hp->Prop)(F:xs.length<=sizeLine)(o:Pv 0 [] H)(q:∀i zs H,Pv i zs H->ak K H a xs/\af K H b ys/\zs.length<=i)
  (hs:∀i u v zs H p H',xs[i]?=Vo u->ys[i]?=Vo v->Pv i zs H->Ext H H'->H' p=Vo (.tup [u,v])->H p=Vp->g (.ref p) (cG n js σ) H' λc r=>tc c r λb k=>if b=true then te c k λv s=>Pv (i+1) (zs++[v]) s else Pv (i+1) zs k)
  (hd:∀zs H p,Pv (min xs.length ys.length) zs H->H p=Vp->Q (.ref p) (upd H p (.lst zs))):eW (gU (cU K a) (cu K b)) n js g tc te σ H Q:=by
 refine⟨λi m zs H=>m=min xs.length ys.length-i/\i<=min xs.length ys.length/\Pv i zs H,⟨min xs.length ys.length,by simp,LI _,o⟩,?_⟩;rintro i m zs H ⟨rfl,hi,p⟩;obtain⟨d,f,G⟩:=q i zs H p;by_cases hlt:i<min xs.length ys.length
 .have w:i<xs.length:=by omega
  have z:i<ys.length:=by omega
  refine .inr ⟨⟨⟨xs,xs[i],d,by simp[w]⟩,⟨ys,ys[i],f,by simp[z]⟩⟩,by omega,Pv (i+1),λA H' j=>⟨min xs.length ys.length-(i+1),by omega,rfl,hlt,j⟩,λx H' y=>?_⟩;obtain⟨pp,u,v,rfl,l,rfl,B,C⟩:=y;exact hs i u v zs H pp _ (B.2 xs d) (C.2 ys f) p (aO l) ay l
 .have e:i=min xs.length ys.length:=by omega
  refine .inl ⟨?_,λj E=>hd zs H j (e ▸ p) E⟩;by_cases h:xs.length<=i
  .exact .inl ⟨xs,d,h⟩
  .exact .inr ⟨⟨xs,xs[i]'(by omega),d,Me (by omega)⟩,⟨ys,f,by omega⟩⟩
end
section
variable {X:Cx}
def qd(neg:Bool):R2:=λx y H Q=>∃n p xs d ds,aQ H n x d/\y=.ref p/\H p=Vo (.tup xs)/\Paired (aQ H n) xs ds/\n<=50/\Q (.bl (if neg then !(ds.any λe=>M8 e d)else ds.any λe=>M8 e d)) H
def EU(b:Room k X.A):br X (compareOp .In) (qd false):=by intro pins s σ H x y v u Q I c e h;obtain⟨n,p,xs,d,ds,h1,rfl,h2,a,f,q⟩:=h;have g:aQ H (n+1) (.ref p) (.tuple ds):=.inr ⟨p,xs,ds,rfl,.inl ⟨h2,rfl⟩,a⟩;obtain⟨j,ra⟩:=aQ.reads I n h1 c;obtain⟨bs,i⟩:=aQ.reads I (n+1) g e;have l1:=aQ.lay n h1;have l2:=jg (λ{x d}=>aQ.lay (H:=H) n) a;have l:=b.units;exact SeqAt.in_tuple_reads i ra l2.1 l1.1 (by omega) ⟨.bl _,H,I,rfl,q⟩
def DM(b:Room k X.A):br X (compareOp .NotIn) (qd true):=by intro pins s σ H x y v u Q I c e h;obtain⟨n,p,xs,d,ds,h1,rfl,h2,a,f,q⟩:=h;have g:aQ H (n+1) (.ref p) (.tuple ds):=.inr ⟨p,xs,ds,rfl,.inl ⟨h2,rfl⟩,a⟩;obtain⟨j,ra⟩:=aQ.reads I n h1 c;obtain⟨bs,i⟩:=aQ.reads I (n+1) g e;have l1:=aQ.lay n h1;have l2:=jg (λ{x d}=>aQ.lay (H:=H) n) a;have l:=b.units;exact SeqAt.notIn_tuple_reads i ra l2.1 l1.1 (by omega) ⟨.bl _,H,I,rfl,q⟩
def uQ{p:Vb}{d:PyData}{Q:VK}(h1:aQ H n x d)(h2:H p=Vo (.tup xs))(a:Paired (aQ H n) xs ds)(b:n<=50)(q:Q (.bl (if neg then !(ds.any λe=>M8 e d)else ds.any λe=>M8 e d)) H):qd neg x (.ref p) H Q:=
 ⟨n,p,xs,d,ds,h1,rfl,h2,a,b,q⟩
end
end L2
namespace Tx
open PySem
abbrev bj(n:Int):Vn:=MN (toString n)
theorem Cd{c:Nat}:∀{p q X Y:List Nat},c∉p->c∉q->p++c::X=q++c::Y->p=q/\X=Y
 | [],[],_,_,_,_,h=>⟨rfl,(Ow h).2⟩
 | [],b::q,_,_,_,d,h=>absurd (by rw[(Ow h).1];exact Mj) d
 | a::p,[],_,_,f,_,h=>absurd (by rw[<-(Ow h).1];exact Mj) f
 | a::p,b::q,_,_,f,d,h=>by obtain⟨e,h⟩:=Ow h;obtain⟨g,i⟩:=Cd (λz=>f (Mg _ z)) (λz=>d (Mg _ z)) h;exact⟨by rw[e,g],i⟩
def jc(c)(p q)(r):(Nn ⟨#[c]⟩ (p::q::r)).cps.toList=p.cps.toList++c::(Nn ⟨#[c]⟩ (q::r)).cps.toList:=by show((p++(⟨#[c]⟩:Vn))++Nn ⟨#[c]⟩ (q::r)).cps.toList=_;rw[Str.cps_append,Str.cps_append];simp
def gW{p:Vn}(h:p.cps.toList=q.cps.toList):p=q:=Str.ext' (Array.toList_inj.mp h)
theorem zG{c:Nat}:∀{ps a:List Vn},ps≠[]->a≠[]->(∀p∈ps,c∉p.cps.toList)->(∀q∈a,c∉q.cps.toList)->Nn ⟨#[c]⟩ ps=Nn ⟨#[c]⟩ a->ps=a
 | [],_,h,_,_,_,_=>absurd rfl h
 | _::_,[],_,h,_,_,_=>absurd rfl h
 | [p],[q],_,_,_,_,h=>by rw[show p=q from h]
 | [p],q::f::a,_,_,b,_,h=>by have e:p.cps.toList=_:=(congrArg (λz:Vn=>z.cps.toList) h).trans (jc c q f a);exact absurd (by rw[e];simp) (b p Mj)
 | p::p2::ps,[q],_,_,_,d,h=>by have e:q.cps.toList=_:=(congrArg (λz:Vn=>z.cps.toList) h.symm).trans (jc c p p2 ps);exact absurd (by rw[e];simp) (d q Mj)
 | p::p2::ps,q::f::a,_,_,b,d,h=>by have e:=(jc c p p2 ps).symm.trans ((congrArg (λz:Vn=>z.cps.toList) h).trans (jc c q f a));obtain⟨i,j⟩:=Cd (b p Mj) (d q Mj) e;rw[gW i,zG (PJ _ _) (PJ _ _) (λz g=>b z (Mg _ g)) (λz g=>d z (Mg _ g)) (gW j)]
def iE{c:Nat}(a:ps≠[])(b:∀p∈ps,c∉p.cps.toList):M4 (Nn ⟨#[c]⟩ ps) ⟨#[c]⟩=ps:=
 zG (λh=>by have:=PyProof.Rows.split_pos (Nn ⟨#[c]⟩ ps) ⟨#[c]⟩;rw[h]at this;cases this) a (R6 _ c) b (Pc _ _)
def j8(c)(ps):OG ⟨#[c]⟩ ps=Nn ⟨#[c]⟩ ps:=StrLaws.glued_eq_join _ _
def we{n:Int}(h:0<=n){c:Nat}(a:c∈(bj n).cps.toList):48<=c/\c<=57:=by obtain⟨m,rfl⟩:=Oi h;rw[QP]at a;obtain⟨ch,hch,rfl⟩:=NR.mp a;exact PyProof.Rows.digit_range (Nat.isDigit_of_mem_toDigits (by decide) (by decide) hch)
def Jp{n:Int}(h:0<=n):1<=(bj n).length:=by obtain⟨m,rfl⟩:=Oi h;have:(bj (m:Nat)).cps.toList.length=(bj (m:Nat)).length:=Mh;rw[<-this,QP,Mc];exact Qb 10 m
def eO{n:Int}(h:0<=n)(a:n<1000000):(bj n).length<=6:=by obtain⟨m,rfl⟩:=Oi h;have:(bj (m:Nat)).cps.toList.length=(bj (m:Nat)).length:=Mh;rw[<-this,QP,Mc];exact PyProof.Rows.digits10_le (by decide) (by omega)
def IK(m):1<=m->∀r,Pw 10 m≠'0'::r:=by
 induction m using Nat.strongRecOn with
 | _ m b=>
  intro h1 r e;by_cases h:m<10
  .rw[Nat.toDigits_of_lt_base h]at e;have c:=(Ow e).1;have:∀d:Nat,d<10->1<=d->Nat.digitChar d≠'0':=by decide
   exact this m h h1 c
  .have f:m % 10<10:=Pb m (by decide);have t:Pw 10 (m / 10)++Pw 10 (m % 10)=Pw 10 (10*(m / 10)+m % 10):=Nat.toDigits_append_toDigits (by decide) (by omega) f;rw[Pa]at t;rw[<-t]at e;cases k:Pw 10 (m / 10)with
   | nil=>have:=Qb 10 (m / 10);rw[k]at this;cases this
   | cons a l=>
    rw[k]at e;have g:a='0':=(Ow e).1;exact b (m / 10) (by omega) (by omega) l (by rw[k,g])
def DB{n:Int}(h:0<=n):bj n=⟨#[48]⟩\/∀r,(bj n).cps.toList≠48::r:=by
 obtain⟨m,rfl⟩:=Oi h;by_cases b:m=0
 .subst b;exact .inl (by decide)
 .refine .inr λr e=>?_;rw[QP]at e;cases k:Pw 10 m with
  | nil=>rw[k]at e;cases e
  | cons a l=>
   rw[k]at e;have c:a.toNat=48:=(Ow e).1;have:a='0':=Char.toNat_inj.mp c;exact IK m (by omega) l (by rw[k,this])
def rP{n:Int}(h:0<=n)(a:n<1000000):intText? (bj n)=Vo n:=W.KIN.num_reads h (by omega)
def Cm{n:Int}(h:0<=n){c:Nat}(a:c<48\/57<c):c∉(bj n).cps.toList:=λz=>by have:=we h z;omega
end Tx
namespace St
def iJ(lo hi:Int)(xs:List Int):Prop:=xs.Pairwise (· < ·)/\∀x∈xs,lo<=x/\x<hi
structure Ok(b s:Int)(o a:List Int):Prop where
 hb:0<=b
 hs:1<=s
 ho:iJ 0 b o
 ha:iJ b (b+s) a
def mem(b s:Int)(o a:List Int)(x:Int):Bool:=if x<b then o.contains x else a.contains (b+(x-b) % s)
section
variable {b s:Int} {o a:List Int}
def Eb(x)(h:x<b):mem b s o a x=o.contains x:=M3 h
def BX(x)(h:b<=x):mem b s o a x=a.contains (b+(x-b) % s):=M1 (by omega)
end
end St
namespace St
def bV(f:Nat->Bool)(b d:Nat):Prop:=∀x,b<=x->f (x+d)=f x
theorem bV.mul{f:Nat->Bool}{b d:Nat}(h:bV f b d):∀k x,b<=x->f (x+k*d)=f x
 | 0,x,a=>by simp
 | k+1,x,a=>by rw[Om,<-QA,h _ (by omega),h.mul k x a]
def bV.times(h:bV f b d)(k):bV f b (k*d):=λx a=>h.mul k x a
def bV.down{b s a:Nat}(h:bV f b s)(hs:1<=s)(h':bV f a d):bV f b d:=λx c=>by have e:=h.mul a (x+d) (by omega);have g:=h.mul a x c;rw[<-e,<-g,show x+d+a*s=(x+a*s)+d by omega];exact h' _ (by have:a*1<=a*s:=Oe _ hs;omega)
def bV.mod{b s:Nat}(h:bV f b s)(h':bV f b d):bV f b (s % d):=λx a=>by have e:=(h'.times (s / d)) (x+s % d) (by omega);rw[<-e,show x+s % d+s / d*d=x+s by have:=Pa s d;rw[QV]at this;omega];exact h x a
structure Least(f:Nat->Bool)(st low:Nat):Prop where
 pos:1<=st
 per:bV f low st
 step:∀d b,1<=d->bV f b d->st<=d
 base:∀b,bV f b st->low<=b
def Alike(f:Nat->Bool)(b s d:Nat):Prop:=s % d=0/\∀i,i+d<s->f (b+i+d)=f (b+i)
def Alike.per{b s:Nat}(h:bV f b s)(hs:1<=s)(hd:1<=d)(a:Alike f b s d):bV f b d:=by
 obtain⟨q,rfl⟩:∃q,s=d*q:=⟨s / d,by have:=Pa s d;rw[a.1]at this;omega⟩;have o:1<=q:=by
  cases q with
  | zero=>simp at hs
  | succ q=>omega
 have inner:∀k i,i<d->k<q->f (b+i+k*d)=f (b+i):=by
  intro k;induction k with
  | zero=>intro i _ _;simp
  | succ k c=>
   intro i hi p;have e:=a.2 (i+k*d) (by have:(k+1+1)*d<=q*d:=Nat.mul_le_mul_right _ (by omega);rw[Om,Om,QV q d]at this;omega)
   rw[show b+i+(k+1)*d=b+(i+k*d)+d by rw[Om];omega,e,<-QA];exact c i hi (by omega)
 have all:∀n,f (b+n)=f (b+n % d):=λn=>by
  have g:f (b+n)=f (b+n % (d*q)):=by have:=h.mul (n / (d*q)) (b+n % (d*q)) (by omega);rw[<-this];congr 1;have:=Pa n (d*q);rw[QV (d*q)]at this;omega
  rw[g];have hlt:n % (d*q)<d*q:=Pb _ (by omega);have j:n % (d*q)=n % (d*q) % d+n % (d*q) / d*d:=by have:=Pa (n % (d*q)) d;rw[QV]at this;omega
  have l:n % (d*q) % d=n % d:=Nat.mod_mul_right_mod n d q;have m:=Nat.div_lt_of_lt_mul hlt;rw[j,<-QA,inner _ _ (Pb _ (by omega)) m,l]
 intro x r;obtain⟨n,rfl⟩:∃n,x=b+n:=⟨x-b,by omega⟩;rw[QA,all (n+d),all n,Nat.add_mod_right]
def bV.alike{b s:Nat}(h:bV f b d)(a:s % d=0):Alike f b s d:=⟨a,λi _=>h (b+i) (by omega)⟩
def Hj{b s:Nat}(h:bV f b s)(hs:1<=s)(hd:1<=d)(a:Alike f b s d)(first:∀e,1<=e->e<d->¬Alike f b s e):bV f b d/\∀e i,1<=e->bV f i e->d<=e:=by
 have j:=a.per h hs hd;refine⟨j,λe i k c=>?_⟩;have g:=h.down hs c;have go:∀n e,e<=n->1<=e->bV f b e->d<=e:=by
  intro n;induction n with
  | zero=>intro e h1 h2;omega
  | succ n l=>
   intro e h1 h2 c;by_cases m:s % e=0
   .rcases MT e d with hlt|hge
    .exact absurd (c.alike m) (first e h2 hlt)
    .exact hge
   .have hlt:s % e<e:=Pb _ (by omega);have:=l (s % e) (by omega) (by omega) (h.mod c);omega
 exact go e e (Mw _) k g
def Kk{b s low:Nat}(h:bV f b s)(hs:1<=s)(hd:1<=d)(a:Alike f b s d)(first:∀e,1<=e->e<d->¬Alike f b s e)(l:low<=b)
  (down:∀x,low<=x->x<b->f x=f (x+d)) (stop:low=0\/f (low-1)≠f (low-1+d)):Least f d low:=by
 obtain⟨g,c⟩:=Hj h hs hd a first
 refine⟨hd,λx i=>?_,c,λj k=>?_⟩
 .rcases MT x b with hlt|hge
  .exact(down x i hlt).symm
  .exact g x hge
 .rcases stop with m|hne
  .omega
  .rcases MT j low with hlt|hge
   .exact absurd (k (low-1) (by omega)).symm hne
   .exact hge
def row(f:Nat->Bool)(lo n:Nat):List Int:=((MY n).filter λi=>f (lo+i)).map λi=>((lo+i:Nat):Int)
end St
namespace St
def nk(f)(lo n):row f lo (n+1)=row f lo n++if f (lo+n)then[((lo+n:Nat):Int)]else[]:=by unfold row;rw[PZ,OO,Mt];congr 1;by_cases h:f (lo+n)=true<;>simp[h]
def zL(f)(lo n):(row f lo n).length<=n:=by unfold row;rw[Mc];exact MH (N7 _ _) (by simp)
end St
namespace St
end St
namespace St
end St
namespace Bfs
abbrev Pl:=Int×Int
end Bfs
namespace Bfs
end Bfs
namespace Bfs
end Bfs
namespace My
open PySem L2 St
variable {P:Vd} {w:Ve} {mg:Vn->Option Va} {base:Vh}
@[irreducible] noncomputable def K:L8:=L2.uu _root_.My.top.heap_39 _root_.My.top
def stq (i : Nat) : Vl := PySem.Challenge.pw_stairrooms_k67_what_is_a_line.main.body.getD i (.Pass ⟨0, 0, 0, 0⟩)
local macro_rules|`(tactic| walk_at "cond") => `(tactic| first|decide|omega|(dsimp only; omega)|(unfold me; omega)|(unfold vw; exact ⟨by decide, by decide, by decide⟩)|(dsimp only; exact ⟨by omega, by omega⟩)|exact .inr ⟨by decide, by decide⟩|exact .inl ⟨by decide, by decide⟩|(unfold jZ; omega))
local macro_rules|`(tactic| walk_at"") => do
 let ts <- ("seq ret retN asg drop ifS next name var c op un CB cons nil ints test B exb not and or andV orV notV ifE yes I0 I U EqI NeI EqB NeB call BM tup lst sl noPart part exi chain comp iL iT i1 i2 i3 for tTru intB max2 min2 sub gcons gnil aug ipI zip rev par par2 lam calV raise fs try bseq bnext bplain bif bcall enum gget gin revL leS disp dget lrev disp1 din dnin dput min3 iS iD bm0 revS iD2 iLT thaw iD3 iDL dgt2 fs3 fs5 zipM fld sfld meth make calS basgM gget gin iDF maxD".splitOn " ").toArray.mapM λn =>
  let i := Lean.mkIdent (.mkSimple ("rd_" ++ n))
  if n == "var" || n == "aug" then `(tacticSeq| ((with_reducible apply $i); (exact rfl)))
  else if n == "I" then `(tacticSeq| ((with_reducible apply $i); (walk_at "cond")))
  else `(tacticSeq| with_reducible refine $i ?_)
 `(tactic| repeat (first $[| $ts]*|dsimp only))
local macro_rules|`(tactic|left)=>`(tactic|walk_at"")
local macro_rules|`(tactic|right)=>`(tactic|(refine aD ?_;walk_at""))
local macro_rules|`(tactic|nofun)=>`(tactic|(refine aC ?_;walk_at""))
def cV(H:Hp)(p:Vb)(kk:List (List Key)):Prop:=∃bs:List Vb,H p=Vo (.tup (bs.map V.ref))/\bs.length=kk.length/\∀(j:Nat) (b:Vb) (k:List Key),bs[j]?=Vo b->kk[j]?=Vo k->H b=Vo (.tup (k.map kV))
def cV.ext{p:Vb}{kk:List (List Key)}(e:Ext H H')(h:cV H p kk):cV H' p kk:=by obtain⟨bs,h1,h2,a⟩:=h;exact⟨bs,e _ _ h1,h2,λj b k c d=>e _ _ (a j b k c d)⟩
structure Blt(mg:Vn->Option Va):Prop where
 len_:mg "len" = Vp
 isinstance_:mg "isinstance" = Vp
 tuple_:mg "tuple" = Vp
 list_:mg "list" = Vp
 int_:mg "int" = Vp
 bool_:mg "bool" = Vp
 range_:mg "range" = Vp
 zip_:mg "zip" = Vp
 max_:mg "max" = Vp
 min_:mg "min" = Vp
 abs_:mg "abs" = Vp
 all_:mg "all" = Vp
 ValueError_:mg "ValueError" = Vp
 enumerate_:mg "enumerate" = Vp
 set_:mg "set" = Vp
 str_:mg "str" = Vp
 reversed_:mg "reversed" = Vp
 any_:mg "any" = Vp
 sorted_:mg "sorted" = Vp
abbrev fK:List Vn:=["Desk","Endless","NoDeed","NoHouse","NoLine","NoPlace","NoStair","NoText","NoWalk","NoWay","NotBare","StairError","TooGreat"]
abbrev fC:List Vn:=["NoPlace","NoWay","TooGreat","NoDeed","NoLine"]
def isInt:V->Bool
 | .int _=>true
 | _=>false
def FQ{n:String}(h:iQ H v n):∃b c,jL n "int" = Vo b/\jL n "bool" = Vo c/\(b && !c)=isInt v:=by
 cases v with
 | non=>cases(h);exact⟨_,_,rfl,rfl,rfl⟩
 | bl b=>cases(h);exact⟨_,_,rfl,rfl,rfl⟩
 | int i=>cases(h);exact⟨_,_,rfl,rfl,rfl⟩
 | str z=>cases(h);exact⟨_,_,rfl,rfl,rfl⟩
 | ref a=>rcases h with⟨rfl,xs,e⟩|⟨rfl,xs,e⟩<;>exact⟨_,_,rfl,rfl,rfl⟩
 | _=>exact M7 h
inductive vB(K:L8)(vs:List V)(H:Hp)(Q:VK)(E:XK):Prop|mk:∀v n,vs=[v]->iQ H v n->Q (.bl (isInt v)) H->vB K vs H Q E
abbrev uL:Vl:=stq 16
abbrev j7:=λP w mg base=>Cal P w K mg base "is_whole" 1 ["thing"] (vB K)
def Fp(D:Dfn K mg "is_whole" uL ["thing"])(T:Blt mg):j7 P w mg base:=by
 refine D.oS ["thing"] λf nd H vs Q E h=>?_;obtain⟨v,n,rfl,a,q⟩:=h;obtain⟨b,c,hb,d,e⟩:=FQ a;refine⟨_,(aj (az (fB (aR f9 rfl T.isinstance_ Hd (aa (pv 0) (aa (fV (v:=.ty "int") rfl T.int_ P1 rfl) ae))) (fG (HP (aR f9 rfl T.isinstance_ Hd (aa (pv 0) (aa (fV (v:=.ty "bool") rfl T.bool_ PyProof.Rows.boot_bool rfl) ae)))))))),?_⟩;left;refine gg a hb ?_;left;cases b with
 | false=>refine aC ?_;rw[<-e]at q;exact q
 | true=>
  right;refine gg a d ?_;left;rw[<-e]at q;exact q
structure Way where
 room:Int
 deed:Vn
 other:Int
 sign:Vn
 deriving DecidableEq
abbrev Way.key(w:Way):List Key:=[.inl w.room,.inr w.deed,.inl w.other,.inr w.sign]
abbrev Way.vs(w:Way):List V:=[.int w.room,.str w.deed,.int w.other,.str w.sign]
variable {m s:Int}{ws:List Way}{n ep:Nat}{a p q l1 l2 m1 m2 r1 c9 T9:Vb}{g f:Nat->Bool}{z h nm:Vn}{H H2 H':Hp}{xs:List (Vb×HO)}{v:V}{o:List Int}{Q:VK}{zs ks:List Vn}{σ:St}{ys:List V}{cs:List (Vb×Obj)}
def Way.key_inj{w u:Way}(h:w.key=u.key):w=u:=by cases w;cases u;obtain⟨rfl,rfl,rfl,rfl,_⟩:=h;rfl
def iZ(z:Vn):Prop:=∃c:Nat,97<=c/\c<=122/\z=⟨#[c]⟩
def eR(z:Vn):Prop:=z = "up"\/z = "down"\/z = "stay"\/z = "zero"
structure Way.Ok(m:Int)(w:Way):Prop where
 r0:0<=w.room
 r1:w.room<m
 o0:0<=w.other
 o1:w.other<m
 dd:eR w.deed
 sg:iZ w.sign
structure HOuse(m:Int)(ws:List Way):Prop where
 m1:1<=m
 m12:m<=12
 few:ws.length<=100
 ok:∀w∈ws,w.Ok m
 nd:ws.Nodup
def HOuse.keys(h:HOuse m ws):(ws.map Way.key).Nodup:=by have:=h.nd;unfold List.Nodup at this ⊢;rw[List.pairwise_map];exact this.imp λne e=>ne (Way.key_inj e)
def de(H:Hp)(v:V)(m:Int)(ws:List Way):Prop:=∃p q,v=.ref p/\H p=Vo (.tup [.int m,.ref q])/\cV H q (ws.map Way.key)
theorem de.ext{H H':Hp}{v:V}{m:Int}{ws:List Way}(e:Ext H H')(h:de H v m ws):de H' v m ws:=by obtain⟨p,q,rfl,h1,h2⟩:=h;exact⟨p,q,rfl,e _ _ h1,h2.ext e⟩
def ka(h:n<=1000):n<=sizeLine:=MH h (by decide)
inductive BG(K:L8)(vs:List V)(H:Hp)(Q:VK)(E:XK):Prop|mk:∀i m,vs=[.int i,.int m]->Q (.bl (decide (0<=i) && decide (i<m))) H->BG K vs H Q E
abbrev wZ:Vl:=stq 32
abbrev kd:=λP w mg base=>Cal P w K mg base "is_room" 2 ["thing","many"] (BG K)
def Fn(D:Dfn K mg "is_room" wZ ["thing","many"])(T:Blt mg)(a:j7 P w mg base):kd P w mg base:=by
 refine D.oS ["thing","many"] λc nd H vs Q E h=>?_;obtain⟨i,m,rfl,q⟩:=h;refine⟨_,(aj (az (fB (av a c (aa (pv 0) ae)) (fG (mK iH fH ag (pv 0) (pv 1)))))),?_⟩;left;refine⟨_,"int",rfl,rfl,?_⟩;refine rd_exb ?_;right;cases b:decide (0<=i)with
 | false=>
  rw[b]at q;refine aC ?_;exact q
 | true=>
  rw[b]at q;right;exact q
def su(a:0<=i)(h1:i<m):(decide (0<=i) && decide (i<m))=true:=by rw[M0 a,M0 h1];rfl
def jF:List (Key×V):=[(.inr "up",.str "down"),(.inr "down",.str "up"),(.inr "stay",.str "stay"),(.inr "zero",.str "zero")]
def yw{K:L8}{b c d e f g i j:Tok}(h:K.lookup a=Vo (fM w [("up",b,.str "down" c),("down",d,.str "up" e),("stay",f,.str "stay" g),("zero",i,.str "zero" j)] ep))(hs:(a == sysModules)=false):GDict w K a jF:=
 ⟨⟨_,_,h,.cons ⟨rfl,⟨_,rfl⟩⟩ (.cons ⟨rfl,⟨_,rfl⟩⟩ (.cons ⟨rfl,⟨_,rfl⟩⟩ (.cons ⟨rfl,⟨_,rfl⟩⟩ .nil)))⟩,by decide +kernel,hs⟩
def iK(z:Vn):Vn:=if z = "up" then "down" else if z = "down" then "up" else z
def wM(h:eR z):aZ jF (.inr z)=Vo (.str (iK z)):=by rcases h with rfl|rfl|rfl|rfl<;>decide +kernel
def iO(z:Vn):Bool:=(aZ jF (.inr z)).isSome
def vV(h:eR z):iO z=true:=by unfold iO;rw[wM h];rfl
def wq(h:iO z=true):eR z:=by
 unfold iO at h;by_cases h1:z = "up"
 .exact .inl h1
 by_cases h2:z = "down"
 .exact .inr (.inl h2)
 by_cases a:z = "stay"
 .exact .inr (.inr (.inl a))
 by_cases b:z = "zero"
 .exact .inr (.inr (.inr b))
 exfalso;unfold jF at h;rw[dk (λe=>h1 (Nz e).symm),dk (λe=>h2 (Nz e).symm),dk (λe=>a (Nz e).symm),dk (λe=>b (Nz e).symm)]at h;cases h
inductive BK(K:L8)(vs:List V)(H:Hp)(Q:VK)(E:XK):Prop|mk:∀z,vs=[.str z]->Q (.bl (iO z)) H->BK K vs H Q E
abbrev yC:Vl:=stq 33
abbrev pY:=λP w mg base=>Cal P w K mg base "is_deed" 1 ["thing"] (BK K)
def ES(D:Dfn K mg "is_deed" yC ["thing"])(T:Blt mg)(c:∃a,mg "TURNED" = Vo (.ref a)/\GDict w K a jF):pY P w mg base:=by refine D.oS ["thing"] λg nd H vs Q E h=>?_;obtain⟨f,d,e⟩:=c;obtain⟨z,rfl,q⟩:=h;refine⟨_,(aj (az (fB (aR f9 rfl T.isinstance_ Hd (aa (pv 0) (aa (fV (v:=.ty "str") rfl T.str_ NK rfl) ae))) (fG (CY (sF rfl d e (pv 0)) (by with_unfolding_all rfl)))))),?_⟩;left;refine gg rfl rfl ?_;left;right;exact⟨.inr z,rfl,q⟩
def Dj{c:Nat}(h:97<=c):(!decide (([c]:List Nat)<(MN "a").cps.toList))=true:=by
 have e:(MN "a").cps.toList=[97]:=by decide +kernel
 rw[e,MZ (λz=>by
  rw[RZ]at z;rcases z with z|⟨_,z⟩
  .omega
  .cases z)]
 rfl
def JW{c:Nat}(h:c<=122):(!decide ((MN "z").cps.toList<([c]:List Nat)))=true:=by
 have e:(MN "z").cps.toList=[122]:=by decide +kernel
 rw[e,MZ (λz=>by
  rw[RZ]at z;rcases z with z|⟨_,z⟩
  .omega
  .cases z)]
 rfl
def jy(z:Vn):Bool:=decide (z.length=1) && ((!decide (z.cps.toList<(MN "a").cps.toList)) && (!decide ((MN "z").cps.toList<z.cps.toList)))
def uO(h:iZ z):jy z=true:=by obtain⟨c,h1,h2,rfl⟩:=h;show(true && ((!decide (([c]:List Nat)<_)) && (!decide (_<([c]:List Nat)))))=true;rw[Dj h1,JW h2];rfl
def JZ(h:iZ z):z.length<=1000:=by obtain⟨c,h1,h2,rfl⟩:=h;exact(show 1<=1000 by decide)
inductive Bu(K:L8)(vs:List V)(H:Hp)(Q:VK)(E:XK):Prop|mk:∀z,vs=[.str z]->z.length<=1000->Q (.bl (jy z)) H->Bu K vs H Q E
abbrev Bm:Vl:=stq 34
abbrev oY:=λP w mg base=>Cal P w K mg base "is_sign" 1 ["thing"] (Bu K)
def Hu(D:Dfn K mg "is_sign" Bm ["thing"])(T:Blt mg):oY P w mg base:=by
 refine D.oS ["thing"] λc nd H vs Q E h=>?_;obtain⟨z,rfl,a,q⟩:=h;refine⟨_,(aj (az (fB (aR f9 rfl T.isinstance_ Hd (aa (pv 0) (aa (fV (v:=.ty "str") rfl T.str_ NK rfl) ae))) (fB (gq cM (aR lN rfl T.len_ L0 (aa (pv 0) ae)) ag (aN _)) (fG (mK zr zr ao (pv 0) ao)))))),?_⟩;left;refine gg rfl rfl ?_;left;right;refine⟨_,rfl,ka a,?_⟩;left;unfold jy at q;by_cases h1:z.length=1
 .rw[M0 (show((z.length:Nat):Int)=1 by omega)];right;rw[M0 h1,OA]at q;cases h2:!decide (z.cps.toList<(MN "a").cps.toList)with
  | false=>
   refine aC ?_;rw[h2]at q;exact q
  | true=>
   right;rw[h2,OA]at q;exact q
 .rw[MZ (show ¬((z.length:Nat):Int)=1 by omega)];refine aC ?_;rw[MZ h1,OJ]at q;exact q
def rF{xs:List V}(h:H p=Vo (.tup xs)):iQ H (.ref p) "tuple":=.inr ⟨rfl,xs,h⟩
inductive yX(K:L8)(vs:List V)(H:Hp)(Q:VK)(E:XK):Prop|mk:∀p w m,vs=[.ref p,.int m]->H p=Vo (.tup (Way.vs w))->w.Ok m->Q (.bl true) H->yX K vs H Q E
abbrev vQ:Vl:=stq 35
abbrev zP:=λP w mg base=>Cal P w K mg base "is_way" 3 ["thing","many"] (yX K)
def FV(D:Dfn K mg "is_way" vQ ["thing","many"])(T:Blt mg)(c:oY P w mg base)(d:pY P w mg base)(a:kd P w mg base):zP P w mg base:=by
 refine D.oS ["thing","many"] λf nd H vs Q E h=>?_;obtain⟨p,w,m,rfl,e,ok,q⟩:=h;refine⟨_,(ah (ba (PW.pt (cZ (cj (bF (aR f9 rfl T.isinstance_ Hd (aa (pv 0) (aa (fV (v:=.ty "tuple") rfl T.tuple_ NH rfl) ae))))) (dQ (aP iq (aR (cw K) rfl T.len_ L0 (aa (pv 0) ae)) ag (aN _))))) (aj (az bW)) aT)
   (ah (ba (PW.pt (cZ (cj (bF (av a f (aa (ai (aA K) (pv 0) ag (λ_ _=>rfl)) (aa (pv 1) ae))))) (dQ (cj (bF (av a f (aa (ai (aA K) (pv 0) ag (λ_ _=>rfl)) (aa (pv 1) ae)))))))) (aj (az bW)) aT)
   (aj (az (fB (av d f (aa (ai (aA K) (pv 0) ag (λ_ _=>rfl)) ae)) (fG (av c f (aa (ai (aA K) (pv 0) ag (λ_ _=>rfl)) ae)))))))),?_⟩
 left;refine gg (rF e) (b:=true) rfl ?_;left;nofun;refine i7 (ak.of e) ?_;left;nofun;refine aG (ak.of e) (v:=.int w.room) rfl ?_;left;refine⟨_,_,rfl,?_⟩;rw[su ok.r0  ok.r1];left;nofun;refine aG (ak.of e) (v:=.int w.other) rfl ?_;left;refine⟨_,_,rfl,?_⟩;rw[su ok.o0  ok.o1];left;nofun;refine aG (ak.of e) (v:=.str w.deed) rfl ?_;left;refine⟨_,rfl,?_⟩;rw[vV ok.dd];left;right;refine aG (ak.of e) (v:=.str w.sign) rfl ?_;left;refine⟨_,rfl,JZ ok.sg,?_⟩;rw[uO ok.sg];exact q
def cV.item{bs:List Vb}(h:∀(j:Nat) b k,bs[j]?=Vo b->(ws.map Way.key)[j]?=Vo k->H b=Vo (.tup (k.map kV))){j:Nat}{w:Way}(a:bs[j]?=Vo b)(c:ws[j]?=Vo w):H b=Vo (.tup w.vs):=
 h j b w.key a (by rw[Mf,c];rfl)
inductive BY(K:L8)(vs:List V)(H:Hp)(Q:VK)(E:XK):Prop|mk:∀q ws m,vs=[.ref q,.int m]->cV H q (ws.map Way.key)->HOuse m ws->(∀H',Ext H H'->Q (.bl true) H')->BY K vs H Q E
abbrev Ce:Vl:=stq 36
abbrev AL:=λP w mg base=>Cal P w K mg base "are_ways" 4 ["thing","many"] (BY K)
def EM(D:Dfn K mg "are_ways" Ce ["thing","many"])(T:Blt mg)(a:∃t,mg "GREATEST_WAYS" = Vo (.int 100 t))(d:zP P w mg base):AL P w mg base:=by
 refine D.oS ["thing","many"] λk nd H vs Q E h=>?_;obtain⟨f,c⟩:=a;obtain⟨q,ws,m,rfl,n,ok,u⟩:=h;obtain⟨bs,h1,h2,y⟩:=id n;rw[Mc]at h2;have o:=ok.few;refine⟨_,(ah (ba (PW.pt (cZ (cj (bF (aR f9 rfl T.isinstance_ Hd (aa (pv 0) (aa (fV (v:=.ty "tuple") rfl T.tuple_ NH rfl) ae))))) (dQ (aP ja (aR (cw K) rfl T.len_ L0 (aa (pv 0) ae)) (cH (v:=.int 100) rfl c ⟨_,rfl⟩) (aN _))))) (aj (az bW)) aT)
   (aj (az (fB (aR (pw K rfl) rfl T.all_ P2 (aa (bM ["way"] [1] (fY K (pv 0)) (λ_=>(aI (i:=0) (show(["way","many"]:List Vn).Nodup from by decide +kernel) rfl oi oj)) (λ_=>ck) (λ_=>(av d k (aa (pv 0) (aa (pv 1) ae))))) ae)) (fG (gq cM (aR Og.call_lenSet rfl T.len_ L0 (aa (cX (Og.call_setT k) rfl T.set_ Ra (aa (pv 0) ae)) ae)) (aR (cw K) rfl T.len_ L0 (aa (pv 0) ae)) (aN _))))))),?_⟩
 left;refine gg (rF h1) (b:=true) rfl ?_;left;nofun;refine i7 (ak.of h1) ?_;left;rw[MZ (show ¬((100:Int)<((bs.map V.ref).length:Nat)) by rw[Mc];omega)];nofun;refine fW (ak.of h1) ?_;refine iV (xs:=bs.map V.ref) (λi ys H'=>Ext H H'/\ys=(MR i true).map V.bl) (ka (by rw[Mc];omega)) ⟨λ_ _ z=>z,rfl⟩ (λi ys H' hi h=>⟨ak.of (h.1 _ _ h1),by rw[h.2];simp⟩) ?_ ?_
 .rintro i x ys H' r ⟨e,rfl⟩;rw[Mf]at r;obtain⟨b,hb,rfl⟩:=Mp.mp r;have hi:i<ws.length:=by rw[<-h2];exact(Mm.mp hb).1
  have g:ws[i]?=Vo ws[i]:=Me hi;left;right;refine⟨b,ws[i],m,rfl,e _ _ (cV.item y hb g),ok.ok _ (MD hi),e,?_⟩;rw[Rl,Mt];rfl
 .rintro ys H' p ⟨e,rfl⟩ A;left;have j:Ext H (upd H' p (.lst ((MR (bs.map V.ref).length true).map V.bl))):=e.trans (aO A);refine⟨p,MR (bs.map V.ref).length true,rfl,af.of ay,?_⟩;rw[show (MR (bs.map V.ref).length true).all id=true by simp];left;right;refine Og.rd_setOf (n.ext j) ok.keys (by rw[Mc];omega) λl H2 s B=>?_;left;refine Og.rd_lenSet B (by rw[Mc];omega) ?_;left;refine i7 (ak.of ((j.trans s) _ _ h1)) ?_;left;rw[show decide (((((ws.map Way.key).length:Nat):Int))=((bs.map V.ref).length:Nat))=true by rw[Mc,Mc,h2];simp];exact u _ (j.trans s)
inductive yt(K:L8)(vs:List V)(H:Hp)(Q:VK)(E:XK):Prop|mk:∀v m ws,vs=[v]->de H v m ws->HOuse m ws->(∀H',Ext H H'->Q (.bl true) H')->yt K vs H Q E
abbrev Aw:Vl:=stq 37
abbrev A6:=λP w mg base=>Cal P w K mg base "is_house" 5 ["thing"] (yt K)
def Iz(D:Dfn K mg "is_house" Aw ["thing"])(T:Blt mg)(a:∃t,mg "GREATEST_MANY" = Vo (.int 12 t))(d:AL P w mg base)(e:j7 P w mg base):A6 P w mg base:=by
 refine D.oS ["thing"] λg nd H vs Q E h=>?_;obtain⟨f,c⟩:=a;obtain⟨v,m,ws,rfl,⟨p,r,rfl,h1,h2⟩,ok,q⟩:=h;have m1:=ok.m1;have m2:=ok.m12;refine⟨_,(ah (ba (PW.pt (cZ (cj (bF (aR f9 rfl T.isinstance_ Hd (aa (pv 0) (aa (fV (v:=.ty "tuple") rfl T.tuple_ NH rfl) ae))))) (dQ (aP iq (aR (cw K) rfl T.len_ L0 (aa (pv 0) ae)) ag (aN _))))) (aj (az bW)) aT)
   (aj (az (fB (av e g (aa (ai (aA K) (pv 0) ag (λ_ _=>rfl)) ae)) (fB (mK iH iH ag (ai (aA K) (pv 0) ag (λ_ _=>rfl)) (cH (v:=.int 12) rfl c ⟨_,rfl⟩)) (fG (av d g (aa (ai (aA K) (pv 0) ag (λ_ _=>rfl)) (aa (ai (aA K) (pv 0) ag (λ_ _=>rfl)) ae))))))))),?_⟩
 left;refine gg (rF h1) (b:=true) rfl ?_;left;nofun;refine i7 (ak.of h1) ?_;left;nofun;refine aG (ak.of h1) (v:=.int m) rfl ?_;left;refine⟨_,"int",rfl,rfl,?_⟩;refine rd_exb (aD ?_);left;refine aG (ak.of h1) (v:=.int m) rfl ?_;left;rw[M0 m1];right;rw[M0 m2];right;refine aG (ak.of h1) (v:=.ref r) rfl ?_;left;refine aG (ak.of h1) (v:=.int m) rfl ?_;left;exact⟨r,ws,m,rfl,h2,ok,q⟩
inductive uX(K:L8)(vs:List V)(H:Hp)(Q:VK)(E:XK):Prop|mk:∀v m ws,vs=[v]->de H v m ws->HOuse m ws->(∀H',Ext H H'->Q .non H')->uX K vs H Q E
abbrev zV:Vl:=stq 38
abbrev ip:=λP w mg base=>Cal P w K mg base "refuse_no_house" 6 ["thing"] (uX K)
def KI(D:Dfn K mg "refuse_no_house" zV ["thing"])(T:Blt mg)(a:A6 P w mg base):ip P w mg base:=by refine D.oS ["thing"] λb nd H vs Q E h=>?_;obtain⟨v,m,ws,rfl,h1,ok,q⟩:=h;refine⟨_,(aj (ba (cj (bF (av a b (aa (pv 0) ae)))) (aj iI) aT)),?_⟩;left;refine⟨v,m,ws,rfl,h1,ok,λH' e=>?_⟩;refine rd_exb (aC ?_);left;exact q H' e
def J5{xs:List Int}{i:Nat}(h:(xs.map V.int)[i]?=Vo v):∃x,v=.int x/\xs[i]?=Vo x:=by
 rw[Mf]at h;cases e:xs[i]? with
 | none=>rw[e]at h;cases h
 | some x=>rw[e]at h;exact⟨x,(MO h).symm,rfl⟩
def aS(h:n<=1000000):n<=sizeLine:=MH h (by decide)
def aE{xs:List V}{o:HO}(h:∀p H',Ext H H'->H' p=Vo o->H p=Vp->Q (.ref p) H')(a:xs.length<=1000000:=by simp):xs.length<=sizeLine/\fm H o Q:=⟨aS a,bu h⟩
inductive Bp(K:L8)(vs:List V)(H:Hp)(Q:VK)(E:XK):Prop|mk:∀(a:Vb) (ns:List Int) (k:Int),vs=[.ref a,.int k]->af K H a (ns.map V.int)->ns.length<=63->0<=k->(∀z,Q (.int z) H)->Bp K vs H Q E
def Br{ns:List Int}{i:Int}(a:0<=i)(h:i<ns.length):∃z,di (ns.map V.int) i=Vo (.int z)/\ns[i.toNat]?=Vo z:=by
 have hi:i.toNat<ns.length:=by omega
 refine⟨ns[i.toNat],Cu a ?_,Me hi⟩;rw[Mf,Me hi];rfl
abbrev wO:Vl:=stq 126
abbrev tD:=λP w mg base=>Cal P w K mg base "_law_cell" 1 ["_law_script","_law_k"] (Bp K)
def KL(D:Dfn K mg "_law_cell" wO ["_law_script","_law_k"])(T:Blt mg):tD P w mg base:=by
 refine D.oS ["_law_script","_law_k"] λf nd H vs Q E h=>?_;obtain⟨a,ns,k,rfl,ha,g,e,q⟩:=h;refine⟨_,(ah (ba (aP cM (aR (cw K) rfl T.len_ L0 (aa (pv 0) ae)) ag (aN _)) (aj (az (aB gN ag (aB dz (pv 1) ag)))) aT)
   (ah (ba (aP fH (pv 1) (aR (cw K) rfl T.len_ L0 (aa (pv 0) ae)) (aN _)) (aj (az (ai (aF K) (pv 0) (pv 1) (λ_ _=>rfl)))) aT)
   (aj (az (aB dz (ai (aF K) (pv 0) (aB gj (pv 1) (aR (cw K) rfl T.len_ L0 (aa (pv 0) ae))) (λ_ _=>rfl)) (aB gN ag (pv 1))))))),?_⟩
 left;refine dn ha ?_;left;rw[Mc];by_cases c:(ns.length:Int)=0
 .rw[M0 c];right;exact q _
 .rw[MZ c];nofun;refine dn ha ?_;left;rw[Mc];by_cases h1:k<ns.length
  .rw[M0 h1];refine aD ?_;obtain⟨z,b,_⟩:=Br e h1;left;refine aH ha b ?_;exact q _
  .rw[MZ h1];nofun;refine dn ha ?_;rw[Mc];have d:(0:Int)<ns.length:=by omega
   refine rd_I d ?_;obtain⟨z,b,_⟩:=Br (ns:=ns) (Oq k (by omega)) (OP k d);refine aH ha b ?_;left;exact q _
inductive sE(K:L8)(vs:List V)(H:Hp)(Q:VK)(E:XK):Prop|mk:∀c k p,vs=[.int c,.int k,.int p]->0<=k->k<100000->0<p->(∀z,0<=z->z<p->Q (.int z) H)->sE K vs H Q E
abbrev wd:Vl:=stq 127
abbrev vc:=λP w mg base=>Cal P w K mg base "_law_mixed" 1 ["_law_cell_here","_law_k","_law_prime"] (sE K)
def Eu(D:Dfn K mg "_law_mixed" wd ["_law_cell_here","_law_k","_law_prime"])(T:Blt mg):vc P w mg base:=by
 refine D.oS ["_law_cell_here","_law_k","_law_prime","_law_far"] λd nd H vs Q E h=>?_;obtain⟨c,k,p,rfl,e,a,b,q⟩:=h;refine⟨_,(ah (aw (i:=3) nd rfl oi (aB gj (aB gN (aB dz (aB dz (aB dz (pv 0) (aB gN (aB gN ag (pv 1)) (pv 1))) (aB gN ag (pv 1))) ag) ag) ag))
   (ah (aw (i:=3) nd rfl oi (aB gj (aB gN (pv 3) (pv 3)) ag))
   (aj (az (aB gj (aB gN (pv 3) ag) (pv 2)))))),?_⟩
 left;exact q _ (Oq _ (by omega)) (OP _ b)
def gF{o:HO}(e:Ext H H2)(a:H q=Vp):Ext H (upd H2 q o):=λb u hb=>by rw[aq (cC hb a)];exact e b u hb
inductive qL(K:L8)(vs:List V)(H:Hp)(Q:VK)(E:XK):Prop|mk:∀(c:Int) (w:Vb) (ws:List Int) (p:Int),vs=[.int c,.ref w,.int p]->H w=Vo (.lst (ws.map V.int))->(∀x∈ws,0<x/\x<2 ^ 40)->ws.length<=10000->0<p->(∀(q:Vb) (ds:List Int) (H':Hp),Ext H H'->H' q=Vo (.lst (ds.map V.int))->H q=Vp->ds.length=ws.length->(∀(i:Nat) d x,ds[i]?=Vo d->ws[i]?=Vo x->0<=d/\d<x)->Q (.ref q) H')->qL K vs H Q E
def lM{K:L8}{c:Int}{w:Vb}{p:Int}(ws:List Int)(h1:H w=Vo (.lst (ws.map V.int)))(h2:∀x∈ws,0<x/\x<2 ^ 40)(a:ws.length<=10000)(b:0<p)
  (k:∀q (ds:List Int) H',Ext H H'->H' q=Vo (.lst (ds.map V.int))->H q=Vp->ds.length=ws.length->(∀(i:Nat) d x,ds[i]?=Vo d->ws[i]?=Vo x->0<=d/\d<x)->Q (.ref q) H'):qL K [.int c,.ref w,.int p] H Q xe:=⟨c,w,ws,p,rfl,h1,h2,a,b,k⟩
abbrev xB:Vl:=stq 128
abbrev ke:=λP w mg base=>Cal P w K mg base "_law_draws" 2 ["_law_cell_here","_law_widths","_law_prime"] (qL K)
def ID(D:Dfn K mg "_law_draws" xB ["_law_cell_here","_law_widths","_law_prime"])(T:Blt mg)(a:vc P w mg base):ke P w mg base:=by
 refine D.oS ["_law_cell_here","_law_widths","_law_prime","_law_left","_law_found","_law_k"] λC nd H vs Q E h=>?_;obtain⟨c,w,ws,p,rfl,v,r,hlen,F,q⟩:=h;refine⟨_,(ah (aw (i:=3) nd rfl oi ag)
   (ah (fq (aP qT (pv 0) (aB zF ag ag) (aN _)) (aj (aw (i:=3) nd rfl oi (aB hJ (pv 0) (aB zF ag ag)))) aT)
   (ah (aw (i:=4) nd rfl oi (aK ae))
   (ah (bJ F2 rfl (dP rfl T.range_ (aa (aR (cw K) rfl T.len_ L0 (aa (pv 1) ae)) ae)) (aI (i:=5) nd rfl oi) (aj (fq (aP ja (pv 3) ag (aN _)) (ah (bp (cx K Ml Mx Mz dY (pv 4) (aa (aB gj (pv 3) (ai (aF K) (pv 1) (pv 5) (λ_ _=>rfl))) ae)))
   (aj (aw (i:=3) nd rfl oi (aB F8 (pv 3) (ai (aF K) (pv 1) (pv 5) (λ_ _=>rfl)))))) (aj (bp (cx K Ml Mx Mz dY (pv 4) (aa (aB gj (av a C (aa (pv 0) (aa (pv 5) (aa (pv 2) ae)))) (ai (aF K) (pv 1) (pv 5) (λ_ _=>rfl))) ae)))))))
   (aj (az (pv 4))))))),?_⟩
 left;refine mL (λs H'=>H'=H/\∃l,s=[Vo (.int c),Vo (.ref w),Vo (.int p),Vo (.int l),Vp,Vp]) ?_ ?_
 .left;refine xu (λh=>?_) (λh=>?_)
  .left;exact⟨rfl,_,rfl⟩
  .left;exact⟨rfl,_,rfl⟩
 rintro s H' ⟨rfl,l,rfl⟩;left;refine aE λf H1 B G hfn=>?_;left;refine dn (af.of (B _ _ v)) ?_;rw[Mc];left;refine dM (by omega) ?_;refine forR (λi σ H2=>Ext H' H2/\∃(l:Int) (k:Option V) (ds:List Int),σ=[Vo (.int c),Vo (.ref w),Vo (.int p),Vo (.int l),Vo (.ref f),k]/\H2 f=Vo (.lst (ds.map V.int))/\ds.length=i/\∀(i:Nat) d x,ds[i]?=Vo d->ws[i]?=Vo x->0<=d/\d<x)
  ⟨B,l,Vp,[],rfl,G,rfl,λi d x hd=>by simp at hd⟩ ?_ ?_
 .rintro i σ H2 hi ⟨g,l,k,ds,rfl,b,e,hb⟩;rw[Mq]at hi;have u:ws[i]?=Vo ws[i]:=Me hi;have M:=r ws[i] (MD hi);have hat:di (ws.map V.int) (0+(i:Int))=Vo (.int ws[i]):=by rw[Int.zero_add];exact aM (by rw[Mf,u];rfl)
  have next:∀d,0<=d->d<ws[i]->∀(j:Nat) (o x:Int),(ds++[d])[j]?=Vo o->ws[j]?=Vo x->0<=o/\o<x:=λd I h1 j o x m n=>by
   rcases MT j ds.length with h|h
   .rw[MC h]at m;exact hb j o x m n
   .rw[MB h]at m;have y:j-ds.length=0:=by
     rcases Nat.eq_zero_or_pos (j-ds.length)with h|h
     .exact h
     .rw[Nk (by simp;omega)]at m;cases m
    rw[y]at m;have A:j=i:=by omega
    subst A;rw[u]at n;cases n;have:d=o:=by simpa using m
    rw[<-this];exact⟨I,h1⟩
  left;refine mG ?_;left;refine xu (λh=>?_) (λh=>?_)
  .have h':1<l:=by simpa using h
   left;refine⟨dR (af.of b),?_⟩;left;refine aH (af.of (g _ _ v)) hat ?_;refine rd_I (show 0<ws[i] by omega) ?_;left;refine iU b (by rw[Mc];exact OL (show ds.length<=10000 by omega) (by decide)) ?_;left;refine aH (af.of (gF g hfn _ _ v)) hat ?_;refine rd_I (show 0<ws[i]/\ws[i]<2 ^ 64 by omega) ?_;left;refine⟨gF g hfn,_,_,ds++[l % ws[i]],rfl,?_,by rw[Mu,e];rfl,next _ (Oq _ (by omega)) (OP _ (by omega))⟩;rw[ay,Mt];rfl
  .left;refine⟨dR (af.of b),?_⟩;left;refine⟨c,0+(i:Int),p,rfl,by omega,by omega,F,λz J L=>?_⟩;left;refine aH (af.of (g _ _ v)) hat ?_;refine rd_I (show 0<ws[i] by omega) ?_;left;refine iU b (by rw[Mc];exact OL (show ds.length<=10000 by omega) (by decide)) ?_;left;refine⟨gF g hfn,_,_,ds++[z % ws[i]],rfl,?_,by rw[Mu,e];rfl,next _ (Oq _ (by omega)) (OP _ (by omega))⟩;rw[ay,Mt];rfl
 .rintro σ H2 ⟨g,l,k,ds,rfl,b,e,hb⟩;left;exact q f ds H2 g b hfn (by rw[e,Mq]) hb
def cS(H:Hp)(bs:List Vb)(ws:List Way):Prop:=bs.length=ws.length/\∀(j:Nat) (b:Vb) (w:Way),bs[j]?=Vo b->ws[j]?=Vo w->H b=Vo (.tup w.vs)
def cS.ext(e:Ext H H')(h:cS H bs ws):cS H' bs ws:=⟨h.1,λj b w a c=>e _ _ (h.2 j b w a c)⟩
def cS.nil(H):cS H [] []:=⟨rfl,λj b w e=>by simp at e⟩
def cS.snoc{w:Way}(h:cS H bs ws)(hb:H b=Vo (.tup w.vs)):cS H (bs++[b]) (ws++[w]):=by
 refine⟨by simp[h.1],λj f g a c=>?_⟩;rcases MT j bs.length with d|d
 .rw[MC d]at a;rw[MC (by rw[<-h.1];exact d)]at c;exact h.2 j f g a c
 .rw[MB d]at a;rw[MB (by rw[<-h.1];exact d),<-h.1]at c;cases e:j-bs.length with
  | zero=>
   rw[e]at a c;cases a;cases c;exact hb
  | succ k=>rw[e]at a;simp at a
def cS.ways(h:cS H bs ws)(c:H p=Vo (.tup (bs.map V.ref))):cV H p (ws.map Way.key):=
 ⟨bs,c,by rw[Mc];exact h.1,λj b k d a=>by rw[Mf]at a;obtain⟨w,e,rfl⟩:=Mp.mp a;exact h.2 j b w d e⟩
def cV.al(h:cV H p (ws.map Way.key)):∃bs,H p=Vo (.tup (bs.map V.ref))/\cS H bs ws:=by obtain⟨bs,h1,h2,a⟩:=h;rw[Mc]at h2;exact⟨bs,h1,h2,λj b w c d=>cV.item a c d⟩
abbrev Way.D(w:Way):PyData:=.tuple [.int w.room,.str w.deed,.int w.other,.str w.sign]
structure Way.Lay(w:Way):Prop where
 d:(PyData.str w.deed).canLay0=true
 s:(PyData.str w.sign).canLay0=true
def Ar:∀c:Fin 123,97<=c.1->(PyData.str ⟨#[c.1]⟩).canLay0=true:=by decide +kernel
def Way.Ok.lay{w:Way}(h:w.Ok m):w.Lay:=by
 constructor
 .rcases h.dd with e|e|e|e<;>rw[e]<;>decide +kernel
 .obtain⟨c,h1,h2,e⟩:=h.sg;rw[e];exact Ar ⟨c,Qs h2⟩ h1
def Way.rep{w:Way}(h:H b=Vo (.tup w.vs))(l:w.Lay):aQ H 1 (.ref b) w.D:=
 .inr ⟨b,w.vs,_,rfl,.inl ⟨h,rfl⟩,.cons rfl (.cons ⟨rfl,l.d⟩ (.cons rfl (.cons ⟨rfl,l.s⟩ .nil)))⟩
theorem Way.eqv(w u:Way):M8 w.D u.D=decide (w=u):=by
 simp only[M8,OB];by_cases h:w=u
 .subst h;simp
 .rw[MZ h];obtain⟨a,b,c,d⟩:=w;obtain⟨f,g,c',i⟩:=u;simp only[Way.mk.injEq,not_and]at h;simp only[Bool.and_true,Bool.and_eq_false_iff,beq_eq_false_iff_ne];by_cases h1:a=f
  .by_cases h2:b=g
   .by_cases e:c=c'
    .exact .inr (.inr (.inr (h h1 h2 e)))
    .exact .inr (.inr (.inl e))
   .exact .inr (.inl h2)
  .exact .inl h1
theorem cS.reps{H:Hp}:∀{bs:List Vb} {ws:List Way},cS H bs ws->(∀w∈ws,w.Lay)->Paired (aQ H 1) (bs.map V.ref) (ws.map Way.D)
 | [],[],_,_=>.nil
 | [],_::_,h,_=>by cases h.1
 | _::_,[],h,_=>by cases h.1
 | b::bs,w::ws,h,l=>.cons (Way.rep (h.2 0 b w rfl rfl) (l w Mj)) (cS.reps ⟨SN h.1,λj b w a c=>h.2 (j+1) b w a c⟩ λu d=>l u (Mg _ d))
def A2(ws:List Way)(w):((ws.map Way.D).any λe=>M8 e w.D)=decide (w∈ws):=by
 rw[SO];induction ws with
 | nil=>rfl
 | cons u ws a=>
  rw[PR,a,Function.comp_apply,Way.eqv];by_cases h:w∈ws
  .simp[h]
  .by_cases e:u=w
   .simp[e]
   .have:¬w=u:=λz=>e z.symm;simp[h,e,this]
def de.mk(h1:H p=Vo (.tup [.int m,.ref q]))(h2:cV H q (ws.map Way.key)):de H (.ref p) m ws:=⟨p,q,rfl,h1,h2⟩
def Way.turn(w:Way):Way:=⟨w.other,iK w.deed,w.room,w.sign⟩
def GD(h:eR z):eR (iK z):=by
 rcases h with rfl|rfl|rfl|rfl
 .exact .inr (.inl (by decide +kernel))
 .exact .inl (by decide +kernel)
 .exact .inr (.inr (.inl (by decide +kernel)))
 .exact .inr (.inr (.inr (by decide +kernel)))
def EW(h:eR z):iK (iK z)=z:=by rcases h with rfl|rfl|rfl|rfl<;>decide +kernel
def Way.turn_turn{w:Way}(h:w.Ok m):w.turn.turn=w:=by obtain⟨a,b,c,d⟩:=w;show(⟨a,iK (iK b),c,d⟩:Way)=_;rw[EW h.dd]
theorem Way.Ok.turn{m:Int}{w:Way}(h:w.Ok m):w.turn.Ok m:=⟨h.o0,h.o1,h.r0,h.r1,GD h.dd,h.sg⟩
theorem HOuse.turn{m:Int}{ws:List Way}(h:HOuse m ws):HOuse m (ws.map Way.turn) where
 m1:=h.m1
 m12:=h.m12
 few:=by rw[Mc];exact h.few
 ok:=λw c=>by obtain⟨u,d,rfl⟩:=NR.mp c;exact(h.ok u d).turn
 nd:=by have nd:=h.nd;unfold List.Nodup at nd ⊢;rw[List.pairwise_map];refine nd.imp_of_mem λ{a b} ha hb ne e=>ne ?_;rw[<-Way.turn_turn (h.ok a ha),<-Way.turn_turn (h.ok b hb),e]
inductive Ca(K:L8)(vs:List V)(H:Hp)(Q:VK)(E:XK):Prop|mk:∀p w,vs=[.ref p]->H p=Vo (.tup (Way.vs w))->eR w.deed->(∀v H',Ext H H'->H' v=Vo (.tup (Way.vs w.turn))->Q (.ref v) H')->Ca K vs H Q E
abbrev wV:Vl:=stq 40
abbrev vq:=λP w mg base=>Cal P w K mg base "turned_way" 1 ["way"] (Ca K)
def IW(D:Dfn K mg "turned_way" wV ["way"])(T:Blt mg)(b:∃a,mg "TURNED" = Vo (.ref a)/\GDict w K a jF):vq P w mg base:=by refine D.oS ["way"] λi nd H vs Q E h=>?_;obtain⟨f,c,d⟩:=b;obtain⟨p,w,rfl,g,od,q⟩:=h;refine⟨_,(aj (az (aX (aa (ai (aA K) (pv 0) ag (λ_ _=>rfl)) (aa (ky rfl c d (ai (aA K) (pv 0) ag (λ_ _=>rfl)) (λ_ _=>rfl)) (aa (ai (aA K) (pv 0) ag (λ_ _=>rfl)) (aa (ai (aA K) (pv 0) ag (λ_ _=>rfl)) ae))))))),?_⟩;left;refine aG (ak.of g) rfl ?_;left;refine aG (ak.of g) rfl ?_;left;refine ee (wM od) ?_;left;refine aG (ak.of g) rfl ?_;left;refine aG (ak.of g) rfl ?_;left;exact⟨aS (by simp),bu λv H' e hv _=>q v H' e hv⟩
inductive vU(K:L8)(vs:List V)(H:Hp)(Q:VK)(E:XK):Prop|mk:∀v m ws,vs=[v]->de H v m ws->HOuse m ws->(∀u H',Ext H H'->de H' u m (M5 Way.turn ws)->Q u H')->vU K vs H Q E
abbrev BS:Vl:=stq 41
abbrev nh:=λP w mg base=>Cal P w K mg base "turned_about" 7 ["house"] (vU K)
def IL(D:Dfn K mg "turned_about" BS ["house"])(T:Blt mg)(c:vq P w mg base)(a:ip P w mg base):nh P w mg base:=by
 refine D.oS ["house"] λn nd H vs Q E h=>?_;obtain⟨v,m,ws,rfl,h1,ok,q⟩:=h;have s:=ok.few;refine⟨_,(ah (bp (av a n (aa (pv 0) ae)))
   (aj (az (aX (aa (ai (aA K) (pv 0) ag (λ_ _=>rfl)) (aa (cX (jN K) rfl T.tuple_ NH (aa (bM ["way"] [] (fY K (ai (aA K) (pv 0) ag (λ_ _=>rfl))) (λ_=>(aI (i:=0) (show(["way"]:List Vn).Nodup from by decide +kernel) rfl oi oj)) (λ_=>ck) (λ_=>(av c n (aa (pv 0) ae)))) ae)) ae)))))),?_⟩
 left;refine⟨v,m,ws,rfl,h1,ok,λH1 y=>?_⟩;obtain⟨p,r,rfl,z,I⟩:=h1.ext y;obtain⟨bs,A,al⟩:=cV.al I;left;refine aG (ak.of z) (v:=.int m) rfl ?_;left;refine aG (ak.of z) (v:=.ref r) rfl ?_;refine fW (ak.of A) ?_;refine iV (xs:=bs.map V.ref) (λi ys H'=>Ext H1 H'/\∃cs,ys=cs.map V.ref/\cS H' cs ((ws.take i).map Way.turn)) (ka (by rw[Mc,al.1];omega)) ⟨Ext.rfl' _,[],rfl,cS.nil _⟩ (λi ys H' hi h=>⟨ak.of (h.1 _ _ A),?_⟩) ?_ ?_
 .obtain⟨_,cs,rfl,J,_⟩:=h;rw[Mc,J,Mc,MV];exact Ng _ _
 .rintro i x ys H' B ⟨k,cs,rfl,d⟩;rw[Mf]at B;obtain⟨b,hb,rfl⟩:=Mp.mp B;have hi:i<ws.length:=by rw[<-al.1];exact(Mm.mp hb).1
  have e:ws[i]?=Vo ws[i]:=Me hi;left;right;refine⟨b,ws[i],rfl,k _ _ (al.2 i b _ hb e),(ok.ok _ (MD hi)).dd,λv O f hv=>?_⟩;refine⟨k.trans f,cs++[v],by rw[Mt];rfl,?_⟩;rw[Nm,e,Mt];exact(d.ext f).snoc hv
 .rintro ys H' l ⟨k,cs,rfl,d⟩ C;rw[Mc,al.1,MF]at d;left;have f:Ext H1 (upd H' l (.lst (cs.map V.ref))):=k.trans (aO C);have g:=d.ext (aO (o:=.lst (cs.map V.ref)) C);have j:upd H' l (.lst (cs.map V.ref)) l=Vo (.lst (cs.map V.ref)):=ay;generalize upd H' l (.lst (cs.map V.ref))=R at f g j ⊢;refine jv (af.of j) (bu λt S F L _=>?_);left;refine aE λu M G N _=>?_;exact q _ M (y.trans (f.trans (F.trans G))) (de.mk N (((g.ext F).ways L).ext G))
def ic{n:Int}(h:0<=n)(b:n<1000000):n.natAbs.log2<1920:=by
 by_cases a:n.natAbs=0
 .rw[a];decide
 .exact MG ((Nat.log2_lt a).mpr (show n.natAbs<2 ^ 20 by omega)) (by decide)
open Tx in
abbrev fU(w:Way):Vn:=OG " " [bj w.room,w.deed,bj w.other,w.sign]
open Tx in
def aV(m:Int)(ws:List Way):Vn:=bj m++(":":Vn)++OG "," (ws.map λw=>(" ":Vn)++fU w)
def HK(a b c d):(OG " " [a,b,c,d]).length=a.length+b.length+c.length+d.length+3:=by show(OG ⟨#[32]⟩ [a,b,c,d]).length=_;rw[Tx.j8];show(a++(⟨#[32]⟩:Vn)++(b++(⟨#[32]⟩:Vn)++(c++(⟨#[32]⟩:Vn)++d))).length=_;rw[Nb,Nb,Nb,Nb,Nb,Nb];show a.length+1+(b.length+1+(c.length+1+d.length))=_;omega
def BQ(h:eR z):z.length<=4:=by rcases h with rfl|rfl|rfl|rfl<;>decide
def Ci(h:iZ z):z.length=1:=by obtain⟨c,_,_,rfl⟩:=h;rfl
def uE{w:Way}(ok:w.Ok m)(a:m<=12):(fU w).length<=20:=by rw[HK];have h1:=Tx.eO ok.r0 (by have:=ok.r1;omega);have h2:=Tx.eO ok.o0 (by have:=ok.o1;omega);have b:=BQ ok.dd;have c:=Ci ok.sg;omega
theorem ou{k:Nat}:∀{zs:List Vn},(∀z∈zs,z.length<=k)->(zs.map (·.length)).sum<=k*zs.length
 | [],_=>LI _
 | z::zs,h=>by have h1:=h z Mj;have h2:=ou (k:=k) λx a=>h x (Mg z a);rw[NS,List.sum_cons,ME,Nat.mul_succ];omega
def oh(c)(h:∀z∈zs,z.length<=k):(OG ⟨#[c]⟩ zs).length<=(k+1)*zs.length:=by rw[Tx.j8];have h1:=StrLaws.join_length_le ⟨#[c]⟩ zs;have h2:=ou h;have a:(⟨#[c]⟩:Vn).length=1:=rfl;rw[a,Nat.mul_one]at h1;rw[Om];omega
def uC{c:Nat}(h:∀z∈zs,z.length<=k)(a:zs.length<=n)(e:(k+1)*n<=1000000):(zs.map (·.length)).sum+zs.length*(⟨#[c]⟩:Vn).length<=1000000:=by have h2:=ou h;have b:(⟨#[c]⟩:Vn).length=1:=rfl;have d:=Oe (k+1) a;rw[Om]at d;rw[b];omega
inductive AD(K:L8)(vs:List V)(H:Hp)(Q:VK)(E:XK):Prop|mk:∀b w m,vs=[.ref b]->H b=Vo (.tup (Way.vs w))->w.Ok m->m<=12->(∀H',Ext H H'->Q (.str (fU w)) H')->AD K vs H Q E
abbrev AG:Vl:=stq 89
abbrev xx:=λP w mg base=>Cal P w K mg base "way_text" 1 ["way"] (AD K)
def E3(D:Dfn K mg "way_text" AG ["way"])(T:Blt mg):xx P w mg base:=by refine D.oS ["way"] λd nd H vs Q E h=>?_;obtain⟨b,w,m,rfl,hb,ok,m12,q⟩:=h;have r1:=ok.r1;have o1:=ok.o1;refine⟨_,(aj (az (cx K Nq OR OS (kr K) ao (aa (aK (aa (cX iw rfl T.str_ NK (aa (ai (aA K) (pv 0) ag (λ_ _=>rfl)) ae)) (aa (ai (aA K) (pv 0) ag (λ_ _=>rfl)) (aa (cX iw rfl T.str_ NK (aa (ai (aA K) (pv 0) ag (λ_ _=>rfl)) ae)) (aa (ai (aA K) (pv 0) ag (λ_ _=>rfl)) ae))))) ae)))),?_⟩;left;refine⟨rfl,?_⟩;left;refine aG (ak.of hb) rfl ?_;left;refine⟨_,rfl,ic ok.r0 (by omega),?_⟩;left;refine aG (ak.of hb) rfl ?_;left;refine aG (ak.of hb) rfl ?_;left;refine⟨_,rfl,ic ok.o0 (by omega),?_⟩;left;refine aG (ak.of hb) rfl ?_;left;refine aE λl H1 a c _=>?_;left;refine⟨_,l,[Tx.bj w.room,w.deed,Tx.bj w.other,w.sign],rfl,rfl,af.of c,?_,q H1 a⟩;have h1:=Tx.eO ok.r0 (by omega);have h2:=Tx.eO ok.o0 (by omega);have e:=BQ ok.dd;have f:=Ci ok.sg;show(Tx.bj w.room).length+(w.deed.length+((Tx.bj w.other).length+(w.sign.length+0)))+4*1<=1000000;omega
inductive Am(K:L8)(vs:List V)(H:Hp)(Q:VK)(E:XK):Prop|mk:∀v m ws,vs=[v]->de H v m ws->HOuse m ws->(∀H',Ext H H'->Q (.str (aV m ws)) H')->Am K vs H Q E
abbrev BO:Vl:=stq 90
abbrev qA:=λP w mg base=>Cal P w K mg base "shown_house" 7 ["house"] (Am K)
def Eg(D:Dfn K mg "shown_house" BO ["house"])(T:Blt mg)(d:xx P w mg base)(a:ip P w mg base):qA P w mg base:=by
 refine D.oS ["house"] λu nd H vs Q E h=>?_;obtain⟨v,m,ws,rfl,hv,ok,q⟩:=h;have m1:=ok.m1;have m12:=ok.m12;refine⟨_,(ah (bp (av a u (aa (pv 0) ae)))
   (aj (az (aB lg (aB lg (cX iw rfl T.str_ NK (aa (ai (aA K) (pv 0) ag (λ_ _=>rfl)) ae)) ao) (cx K Nq OR OS (kr K) ao (aa (bM ["way"] [] (fY K (ai (aA K) (pv 0) ag (λ_ _=>rfl))) (λ_=>(aI (i:=0) (show(["way"]:List Vn).Nodup from by decide +kernel) rfl oi oj)) (λ_=>ck) (λ_=>(aB lg ao (av d u (aa (pv 0) ae))))) ae)))))),?_⟩
 left;refine⟨v,m,ws,rfl,hv,ok,λH1 y=>?_⟩;obtain⟨p,r,rfl,A,G⟩:=id (hv.ext y);obtain⟨bs,B,al⟩:=cV.al G;have e:=ok.few;have lm:(MN (toString m)).length<=6:=Tx.eO (by omega) (by omega);have I:∀w∈ws,((" ":Vn)++fU w).length<=21:=λw f=>by rw[Nb];have:=uE (ok.ok w f) m12;have:(MN " ").length=1:=rfl;omega
 left;refine aG (ak.of A) rfl ?_;left;refine⟨_,rfl,ic (by omega) (by omega),?_⟩;left;refine⟨_,_,rfl,rfl,aS (by have:(MN ":").length=1:=rfl;omega),?_⟩;left;refine⟨rfl,?_⟩;left;refine aG (ak.of A) (v:=.ref r) rfl ?_;refine fW (ak.of B) ?_;refine iV (xs:=bs.map V.ref) (λi ys H'=>Ext H1 H'/\ys=((ws.take i).map λw=>(" ":Vn)++fU w).map V.str) (ka (by rw[Mc,al.1];omega)) ⟨Ext.rfl' _,rfl⟩ (λi ys H' hi h=>⟨ak.of (h.1 _ _ B),?_⟩) ?_ ?_
 .rw[h.2,Mc,Mc,MV];exact Ng _ _
 .rintro i x ys H' C ⟨k,rfl⟩;rw[Mf]at C;obtain⟨b,hb,rfl⟩:=Mp.mp C;have hi:i<ws.length:=by rw[<-al.1];exact(Mm.mp hb).1
  have f:ws[i]?=Vo ws[i]:=Me hi;have g:=ok.ok _ (Mn f);have s:=k _ _ (al.2 i b _ hb f);left;right;refine⟨b,_,m,rfl,s,g,m12,λO o=>?_⟩;left;refine⟨_,_,rfl,rfl,aS (by have:=uE g m12;have:(MN " ").length=1:=rfl;omega),?_⟩;left;refine⟨k.trans o,?_⟩;rw[Nm,f,Mt,Mt];rfl
 .rintro ys H' l ⟨k,rfl⟩ J;rw[Mc,al.1,MF];have o:Ext H1 (upd H' l (.lst ((ws.map λw=>(" ":Vn)++fU w).map V.str))):=k.trans (aO J);have j:upd H' l (.lst ((ws.map λw=>(" ":Vn)++fU w).map V.str)) l=Vo (.lst ((ws.map λw=>(" ":Vn)++fU w).map V.str)):=ay;generalize upd H' l (.lst ((ws.map λw=>(" ":Vn)++fU w).map V.str))=L at o j ⊢;left;have hall:∀z∈ws.map (λw=>(" ":Vn)++fU w),z.length<=21:=λz M=>by obtain⟨w,f,rfl⟩:=NR.mp M;exact I w f
  refine⟨_,l,_,rfl,rfl,af.of j,uC (c:=44) hall (n:=100) (by rw[Mc];exact e) (by decide),?_⟩;have N:=oh 44 hall;rw[Mc]at N;refine⟨_,_,rfl,rfl,aS ?_,q L (y.trans o)⟩;rw[Nb];have h1:(MN ":").length=1:=rfl;have h2:=Oe 22 e;show(MN (toString m)).length+(MN ":").length+(OG ⟨#[44]⟩ _).length<=1000000;omega
def kz{a b:Vn}:decide (V.str a=V.str b)=decide (a=b):=by
 by_cases h:a=b
 .simp
 .rw[MZ h,MZ (λz=>h (V.str.inj z))]
def fZ{a b:Vn}(h:Q (.bl (decide (a=b))) H):lD (.str a) (.str b) H Q:=⟨rfl,by rw[kz];exact h⟩
def zw{a b:Vn}(h:Q (.bl (!decide (a=b))) H):rN (.str a) (.str b) H Q:=⟨rfl,by rw[kz];exact h⟩
def bX(c:Nat):Bool:=decide (48<=c/\c<=57)
def dj(z:Vn):Bool:=decide (1<=z.length) && (decide (z.length<=6) && ((z.cps.toList.map bX).all id && (decide (z = "0") || decide (z.cps.toList[0]?≠Vo 48))))
def yD(c):(!(OD (MN "0123456789") ⟨#[c]⟩ 0 (MN "0123456789").length 1).isEmpty)=bX c:=by rw[StrLaws.found_one,show (MN "0123456789").cps.toList=[48,49,50,51,52,53,54,55,56,57] by decide +kernel];unfold bX;rw[decide_eq_decide];simp only[Mr,MI,or_false];omega
inductive vm(K:L8)(vs:List V)(H:Hp)(Q:VK)(E:XK):Prop|mk:∀z:Vn,vs=[.str z]->z.length<=1000000->(∀H',Ext H H'->Q (.bl (dj z)) H')->vm K vs H Q E
abbrev Cg:Vl:=stq 93
abbrev sy:=λP w mg base=>Cal P w K mg base "is_number_word" 1 ["word"] (vm K)
def GG(D:Dfn K mg "is_number_word" Cg ["word"])(T:Blt mg)(d:∃t,mg "FIGURES" = Vo (.str "0123456789" t))(a:∃t,mg "MOST_FIGURES" = Vo (.int 6 t)):sy P w mg base:=by
 refine D.oS ["word"] λB nd H vs Q E h=>?_;obtain⟨k,f⟩:=d;obtain⟨g,b⟩:=a;obtain⟨z,rfl,n,q⟩:=h;refine⟨_,(ah (ba (PW.pt (cZ (aP fH (aR lN rfl T.len_ L0 (aa (pv 0) ae)) ag (aN _)) (cZ (aP ja (aR lN rfl T.len_ L0 (aa (pv 0) ae)) (cH (v:=.int 6) rfl b ⟨_,rfl⟩) (aN _)) (dQ (cj (bF (aR (pw K rfl) rfl T.all_ P2 (aa (bM ["sign"] [] (zj (pv 0)) (λ_=>(aI (i:=0) (show(["sign"]:List Vn).Nodup from by decide +kernel) rfl oi oj)) (λ_=>ck) (λ_=>(gq LW (pv 0) (cH (v:=.str "0123456789") rfl f ⟨_,rfl⟩) (by with_unfolding_all rfl)))) ae)))))))) (aj (az bW)) aT)
   (aj (az (yU (gq cM (pv 0) ao (aN _)) (fG (gq iq (ai vk (pv 0) ag (λ_ _=>rfl)) ao (aN _))))))),?_⟩
 left;refine⟨z,rfl,aS n,?_⟩;left;by_cases h1:(z.length:Int)<1
 .rw[M0 h1];refine aD (aD ?_);left;have:=q H (Ext.rfl' _);unfold dj at this;rw[MZ (show ¬1<=z.length by omega)]at this;exact this
 rw[MZ h1];nofun;refine⟨z,rfl,aS n,?_⟩;left;by_cases h2:(6:Int)<z.length
 .rw[M0 h2];refine aD (aD ?_);left;have:=q H (Ext.rfl' _);unfold dj at this;rw[MZ (show ¬z.length<=6 by omega),OJ,Nu]at this;exact this
 rw[MZ h2];nofun;refine⟨z,rfl,?_⟩;have x:z.cps.size=z.length:=rfl;refine Ai (λi ys H'=>H'=H/\ys=((z.cps.toList.take i).map bX).map V.bl) (aS (by omega)) ⟨rfl,rfl⟩ ?_ ?_ ?_
 .rintro i ys H' _ ⟨rfl,rfl⟩;rw[Mc,Mc,MV];exact Ng _ _
 .rintro i c ys H' l ⟨rfl,rfl⟩;left;right;refine⟨_,_,rfl,rfl,rfl,?_⟩;rw[yD,Nm,Nj,l,Mt,Mt];rfl
 rintro ys H' m ⟨rfl,rfl⟩ o;rw[<-Mh,MF];have r:Ext H' (upd H' m (.lst ((z.cps.toList.map bX).map V.bl))):=aO o;have s:(upd H' m (.lst ((z.cps.toList.map bX).map V.bl))) m=_:=ay;generalize upd H' m (.lst ((z.cps.toList.map bX).map V.bl))=H1 at r s;have j:=q H1 r;unfold dj at j;rw[M0 (show 1<=z.length by omega),M0 (show z.length<=6 by omega),OA,OA]at j;left;refine⟨m,_,rfl,af.of s,?_⟩;left;cases hall:(z.cps.toList.map bX).all id with
 | false=>
  rw[hall,OJ]at j;right;exact j
 | true=>
  rw[hall,OA]at j;nofun;refine fZ ?_;refine⟨_,rfl,?_⟩;by_cases u:z = "0"
  .rw[M0 u]at j ⊢;exact aD j
  rw[MZ u]at j ⊢;rw[Bool.false_or]at j;nofun;have y:0<z.cps.toList.length:=by rw[Mh];omega
  have l:z.cps.toList[0]?=Vo z.cps.toList[0]:=Me y;generalize z.cps.toList[0]=c at l;refine⟨z,0,c,rfl,rfl,aS n,aM l,?_⟩;left;refine zw ?_;rw[l]at j;have A:(!decide ((⟨#[c]⟩:Vn)=MN "0"))=decide (Vo c≠Vo 48):=by
   have:(MN "0")=⟨#[48]⟩:=rfl;rw[this];by_cases p:c=48
   .subst p;decide
   .rw[M0 (show Vo c≠Vo 48 from λe=>p (MO e)),MZ (λe=>p (by injection e with e;simpa using e))];rfl
  rw[A];exact j
def mM{n:Int}(h:0<=n)(b:n<1000000):dj (Tx.bj n)=true:=by
 unfold dj;have hd:((Tx.bj n).cps.toList.map bX).all id=true:=by rw[List.all_map,MJ];intro c d;exact M0 (Tx.we h d)
 rw[M0 (Tx.Jp h),M0 (Tx.eO h b),hd];rcases Tx.DB h with e|e
 .rw[M0 (show Tx.bj n = "0" from e)];rfl
 .have:(Tx.bj n).cps.toList[0]?≠Vo 48:=λz=>by
   cases k:(Tx.bj n).cps.toList with
   | nil=>rw[k]at z;cases z
   | cons a l=>rw[k]at z;cases z;exact e l k
  rw[M0 this,RF];rfl
def jq(z:Vn):Int:=((PySem.NumText.digitsVal z.cps.toList:Nat):Int)
def xN(h:dj z=true):(∀c∈z.cps.toList,48<=c/\c<=57)/\1<=z.length/\z.length<=6:=by unfold dj at h;simp only[MM,decide_eq_true_eq]at h;obtain⟨h1,h2,a,_⟩:=h;refine⟨λc b=>?_,h1,h2⟩;have:=MJ.mp a _ (List.mem_map_of_mem b);unfold bX at this;simpa using this
def wF(h:dj z=true):PySem.intText? z=Vo (jq z):=by obtain⟨h1,h2,a⟩:=xN h;refine _root_.PySem.intText_digits h1 (λe=>?_) (by omega);have:z.cps.toList.length=z.length:=Mh;rw[e]at this;simp at this;omega
def dU(K:L8):Prop:=∀x∈(["kept","low_levels","risen"]:List Vn),∀y∈(["kept","low_levels","risen"]:List Vn),x≠y->∀c T c' a,Na K x=Vo (c,T)->Na K y=Vo (c',a)->a≠T
def Lv(K:L8):Bool:=(["kept","low_levels","risen"]:List Vn).all λx=>(["kept","low_levels","risen"]:List Vn).all λy=>x == y || (match Na K x,Na K y with|some a,Vo b=>b.2 != a.2|_,_=>true)
def Ku{K:L8}(h:Lv K=true):dU K:=λx a y b d c T c' g e f=>by
 have h1:=MJ.mp (MJ.mp h x a) y b;rw[e,f,RQ]at h1;rcases h1 with h1|h1
 .exact absurd (eq_of_beq h1) d
 .exact bne_iff_ne.mp h1
structure Tbs(K:L8)(H:Hp):Prop where
 kept:eS K "kept" ("kept" ++ ".<locals>." ++ "<lambda>") 174 29 H
 low:eS K "low_levels" ("low_levels" ++ ".<locals>." ++ "<lambda>") 207 39 H
 risen:eS K "risen" ("risen" ++ ".<locals>." ++ "<lambda>") 179 29 H
theorem Tbs.ext{K:L8}{H H':Hp}(e:Ext H H')(h:Tbs K H):Tbs K H':=⟨h.kept.ext e,h.low.ext e,h.risen.ext e⟩
def qU{K:L8}{x q:Vn}(e:∀b o,H b=Vo o->(∀xs,o≠.lst xs)->(∀c d f,o≠.ins c d f)->H' b=Vo o)(h:eS K x q line col H):eS K x q line col H':=λc T a=>by
 rcases h c T a with h|⟨c',h1,h2⟩
 .exact .inl (e _ _ h (λxs z=>by cases z) (λc d f z=>by cases z))
 .exact .inr ⟨c',e _ _ h1 (λxs z=>by cases z) (λc d f z=>by cases z),e _ _ h2 (λxs z=>by cases z) (λc d f z=>by cases z)⟩
def Tbs.fr{K:L8}(e:∀b o,H b=Vo o->(∀xs,o≠.lst xs)->(∀c d f,o≠.ins c d f)->H' b=Vo o)(h:Tbs K H):Tbs K H':=⟨qU e h.kept,qU e h.low,qU e h.risen⟩
def lj{F:α->β->Prop}{cs:List α}{ts:List β}(h:Paired F cs ts):∀{i:Nat} {c},cs[i]?=Vo c->∃t,ts[i]?=Vo t/\F c t:=by
 induction h with
 | nil=>intro i c e;simp at e
 | cons h t a=>
  intro i c e;cases i with
  | zero=>cases e;exact⟨_,rfl,h⟩
  | succ i=>exact a e
def jm{K:L8}{g:TG}(h:af K H a [])(q:∀p,H p=Vp->Q (.ref p) (upd H p (.lst []))):eW (cu K a) n js g tc te σ H Q:=
 fb (xs:=[]) (λ_ ys H'=>H'=H/\ys=[]) (LI _) ⟨rfl,rfl⟩ (λ_ _ _ _ z=>⟨z.1 ▸ h,z.2 ▸ LI _⟩) (λ_ _ _ _ b=>nomatch b) λ_ _ p z c=>by obtain⟨rfl,rfl⟩:=z;exact q p c
def kD{K:L8}{g:TG}(h:af K H a [])(q:D.nx σ H):hZ (cu K a) g tb D σ H:=
 forL (xs:=[]) (λ_ s H'=>H'=H/\s=σ) ⟨rfl,rfl⟩ (λ_ _ _ _ z=>z.1 ▸ h) (λ_ _ _ _ b=>nomatch b) λ_ _ z=>by obtain⟨rfl,rfl⟩:=z;exact q
abbrev aJ(H:Hp)(a:Vb)(x:Bfs.Pl):Prop:=H a=Vo (.tup [.int x.1,.int x.2])
abbrev pN(n:Nat):Bfs.Pl:=(0,((n:Nat):Int))
abbrev bc(x:Bfs.Pl):List Key:=[.inl x.1,.inl x.2]
def Hn{x y:Bfs.Pl}(h:bc x=bc y):x=y:=by simp only[bc,List.cons.injEq,Sum.inl.injEq,and_true]at h;exact Prod.ext h.1 h.2
def aJ.put{f:Vb}{o o':HO}(b:H f=Vo o)(c:∀xs,o≠.tup xs)(h:aJ H a x):aJ (upd H f o') a x:=by show upd H f o' a=_;rw[aq (cY h b (λz=>c _ z.symm))];exact h
def cy(m:Int)(x:Bfs.Pl):Prop:=0<=x.1/\x.1<m/\0<=x.2/\x.2<=1000
inductive Ah(K:L8)(vs:List V)(H:Hp)(Q:VK)(E:XK):Prop|mk:∀a c m l b xs,vs=[.ref a,.ref l]->H a=Vo (.tup [.int m,c])->H l=Vo (.lst (M5 V.ref b))->Paired (aJ H) b xs->(∀x∈xs,cy m x)->Q .non H->Ah K vs H Q E
abbrev v8:Vl:=stq 39
abbrev kN:=λP w mg base=>Cal P w K mg base "refuse_bad_places" 3 ["house","places"] (Ah K)
def EA(D:Dfn K mg "refuse_bad_places" v8 ["house","places"])(T:Blt mg)(a:∃t,mg "GREATEST_NUMBER" = Vo (.int 1000 t))(d:kd P w mg base):kN P w mg base:=by
 refine D.oS ["house","places","place"] λs nd H vs Q E h=>?_;obtain⟨e,c⟩:=a;obtain⟨o,z,m,l,p,xs,rfl,h1,h2,r,g,q⟩:=h;refine⟨_,(ah (bJ F2 rfl (bG K (pv 1)) (aI (i:=2) nd rfl oi) (aj (ba (PW.pt (cZ (cj (bF (av d s (aa (ai (aA K) (pv 2) ag (λ_ _=>rfl)) (aa (ai (aA K) (pv 0) ag (λ_ _=>rfl)) ae))))) (dQ (aP fH (ai (aA K) (pv 2) ag (λ_ _=>rfl)) ag (aN _))))) (aj iI) aT)))
   (aj (bJ F2 rfl (bG K (pv 1)) (aI (i:=2) nd rfl oi) (aj (ba (aP ja (ai (aA K) (pv 2) ag (λ_ _=>rfl)) (cH (v:=.int 1000) rfl c ⟨_,rfl⟩) (aN _)) (aj iI) aT))))),?_⟩
 left;refine bI (af.of h2) ?_;refine forL (xs:=M5 V.ref p) (λi σ H'=>H'=H/\∃k,σ=[Vo (.ref o),Vo (.ref l),k]) ⟨rfl,Vp,rfl⟩ (λi σ H' _ h=>by rw[h.1];exact af.of h2) ?_ ?_
 .rintro i x σ H' j ⟨rfl,k,rfl⟩;rw[Mf]at j;obtain⟨b,hb,rfl⟩:=Mp.mp j;obtain⟨t,n,f⟩:=lj r hb;obtain⟨r0,r1,u,y⟩:=g t (Mn n);left;refine aG (ak.of f) (v:=.int t.1) rfl ?_;left;refine aG (ak.of h1) (v:=.int m) rfl ?_;left;refine⟨_,_,rfl,?_⟩;rw[su r0 r1];left;nofun;refine aG (ak.of f) (v:=.int t.2) rfl ?_;left;rw[MZ (show ¬t.2<0 by omega)];nofun;exact⟨rfl,_,rfl⟩
 .rintro σ H' ⟨rfl,k,rfl⟩;left;refine bI (af.of h2) ?_;refine forL (xs:=M5 V.ref p) (λi σ H2=>H2=H'/\∃k,σ=[Vo (.ref o),Vo (.ref l),k]) ⟨rfl,_,rfl⟩ (λi σ H2 _ h=>by rw[h.1];exact af.of h2) ?_ ?_
  .rintro i x σ H2 j ⟨rfl,k,rfl⟩;rw[Mf]at j;obtain⟨b,hb,rfl⟩:=Mp.mp j;obtain⟨t,n,f⟩:=lj r hb;obtain⟨r0,r1,u,y⟩:=g t (Mn n);left;refine aG (ak.of f) (v:=.int t.2) rfl ?_;left;rw[MZ (show ¬(1000:Int)<t.2 by omega)];nofun;exact⟨rfl,_,rfl⟩
  .rintro σ H2 ⟨rfl,k,rfl⟩;left;exact q
def xY(z)(c):M4 z ⟨#[c]⟩≠[]:=λe=>by
 have h:=Pc z ⟨#[c]⟩;rw[e]at h;have a:z=Ou:=h.symm;subst a;have:M4 Ou ⟨#[c]⟩=[Ou]:=Tx.iE (c:=c) (ps:=[Ou]) (by simp) λp b=>by rw[Mo.mp b];intro h;cases h
 cases e
def Dl{c:Nat}{a r:Vn}(ha:c∉a.cps.toList):M4 (a++(⟨#[c]⟩:Vn)++r) ⟨#[c]⟩=a::M4 r ⟨#[c]⟩:=by
 have f:=Pc r ⟨#[c]⟩;have hne:=xY r c;have b:=R6 r c;generalize M4 r ⟨#[c]⟩=ps at f hne b;have e:Nn ⟨#[c]⟩ (a::ps)=a++(⟨#[c]⟩:Vn)++r:=by
  cases ps with
  | nil=>exact absurd rfl hne
  | cons p ps=>
   refine Tx.gW ?_;rw[Tx.jc,f];show _=(a.cps ++ #[c]++r.cps).toList;simp
 rw[<-e];exact Tx.iE (PJ _ _) λp d=>by
  rcases Mr.mp d with rfl|d
  .exact ha
  .exact b p d
def xh{c:Nat}(h:c∉z.cps.toList):M4 z ⟨#[c]⟩=[z]:=by
 have e:Nn ⟨#[c]⟩ [z]=z:=rfl;have:=Tx.iE (c:=c) (ps:=[z]) (PJ _ _) λp a=>by rw[Mo.mp a];exact h
 rwa [e]at this
def GO{c:Nat}:∀p∈M4 z ⟨#[c]⟩,p.length<=z.length:=by
 have f:=Pc z ⟨#[c]⟩;generalize M4 z ⟨#[c]⟩=ps at f;rw[<-f];clear f;induction ps with
 | nil=>intro p d;cases d
 | cons a r g=>
  intro p d;cases r with
  | nil=>
   rw[Mo.mp d];exact Mw _
  | cons b r=>
   have e:(Nn ⟨#[c]⟩ (a::b::r)).length=a.length+1+(Nn ⟨#[c]⟩ (b::r)).length:=by have h:=congrArg Qr (Tx.jc c a b r);rw[Mu,ME]at h;have h1:∀x:Vn,x.cps.toList.length=x.length:=λx=>Mh;rw[h1,h1,h1]at h;omega
   rcases Mr.mp d with rfl|d
   .omega
   .have:=g p d;omega
def FR(z)(c):(M4 z ⟨#[c]⟩).length<=z.length+2:=PyProof.Rows.split_le z _
structure DeskK(K:L8)(mg:Vn->Option Va):Prop where
 cl:Cls K (cA K "Desk")
 nH:fu K (cA K "Desk") "house"
 nP:fu K (cA K "Desk") "past"
 nU:fu K (cA K "Desk") "undone"
 df:∀x∈(["rooms_deed","way_deed","close_deed","turn_deed","show_ask","reach_ask","forward_ask","backward_ask","most_ask","fate_ask","word_ask"]:List Vn),mg x=Vo (.ref (cA K x))
def bZ(z:Vn):Option (List Vn):=
 if z = "rooms" then Vo ["many"]else if z = "way" then Vo ["number","deed","number","sign"]else if z = "close" then Vo ["number","deed","number","sign"]else if z = "turn" then Vo []else if z = "undo" then Vo []else if z = "redo" then Vo []else if z = "show" then Vo []else
 if z = "reach" then Vo ["number","number","number","number"]else if z = "forward" then Vo ["number","number","number"]else if z = "backward" then Vo ["number","number","number"]else if z = "most" then Vo ["number","number"]else if z = "fate" then Vo ["number","number"]else if z = "word" then Vo ["number","number"]else Vp
def vf(K:L8)(kvs:List (Key×V)):Prop:=∀z:Vn,match bZ z with
 | some ks=>∃b,aZ kvs (.inr z)=Vo (.ref b)/\∀H,ak K H b (ks.map V.str)
 | none=>aZ kvs (.inr z)=Vp
def rZ{xs:List V}(h:n<=xs.length):cn xs (Vo (n:Int)) Vp=xs.drop n:=by unfold cn;rw[HT.mi,HT.uR,Nat.min_eq_left h];exact Pr (by rw[N8];exact Mw _)
inductive Cmd
 | rooms (n:Int)
 | way (w:Way)
 | close (w:Way)
 | turn
 | undo
 | redo
 | show
 | ask (h:Vn) (ns:List Int)
def Cmd.head:Cmd->Vn
 | .rooms _=>"rooms"
 | .way _=>"way"
 | .close _=>"close"
 | .turn=>"turn"
 | .undo=>"undo"
 | .redo=>"redo"
 | .show=>"show"
 | .ask h _=>h
def lx(w:Way):List Vn:=[Tx.bj w.room,w.deed,Tx.bj w.other,w.sign]
def Cmd.tail:Cmd->List Vn
 | .rooms n=>[Tx.bj n]
 | .way w=>lx w
 | .close w=>lx w
 | .ask _ ns=>ns.map Tx.bj
 | _=>[]
abbrev Cmd.words(c:Cmd):List Vn:=c.head::c.tail
def Cmd.line(c:Cmd):Vn:=OG " " c.words
def Cmd.kinds:Cmd->List Vn
 | .rooms _=>["many"]
 | .way _=>["number","deed","number","sign"]
 | .close _=>["number","deed","number","sign"]
 | .ask _ ns=>ns.map λ_=>"number"
 | _=>[]
def Cmd.parts:Cmd->List V
 | .rooms n=>[.int n]
 | .way w=>Way.vs w
 | .close w=>Way.vs w
 | .ask _ ns=>ns.map V.int
 | _=>[]
structure WayL(w:Way):Prop where
 r0:0<=w.room
 r6:w.room<1000000
 o0:0<=w.other
 o6:w.other<1000000
 dd:eR w.deed
 sg:iZ w.sign
def oX:List (Vn×Nat):=[("reach",4),("forward",3),("backward",3),("most",2),("fate",2),("word",2)]
structure AskOk(h:Vn)(ns:List Int):Prop where
 hd:(h,ns.length)∈oX
 lo:∀n∈ns,0<=n/\n<1000000
def AskOk.kinds(a:AskOk h ns):bZ h=Vo (ns.map λ_=>("number":Vn)):=by
 have all:∀y∈oX,bZ y.1=Vo (MR y.2 ("number":Vn)):=by decide +kernel
 rw[List.map_const'];exact all _ a.hd
def AskOk.low(a:AskOk h ns):h.length<=8/\32∉h.cps.toList/\ns.length<=4:=by
 have all:∀y∈oX,y.1.length<=8/\32∉y.1.cps.toList/\y.2<=4:=by decide +kernel
 exact all _ a.hd
def Cmd.Ok:Cmd->Prop
 | .rooms n=>1<=n/\n<=12
 | .way w=>WayL w
 | .close w=>WayL w
 | .ask h ns=>AskOk h ns
 | _=>True
def Cmd.kinds_of{c:Cmd}(ok:c.Ok):bZ c.head=Vo c.kinds:=by
 cases c with
 | rooms n=>show bZ "rooms" = Vo (["many"]:List Vn);decide +kernel
 | way w=>show bZ "way" = Vo (["number","deed","number","sign"]:List Vn);decide +kernel
 | close w=>show bZ "close" = Vo (["number","deed","number","sign"]:List Vn);decide +kernel
 | turn=>show bZ "turn" = Vo ([]:List Vn);decide +kernel
 | undo=>show bZ "undo" = Vo ([]:List Vn);decide +kernel
 | redo=>show bZ "redo" = Vo ([]:List Vn);decide +kernel
 | «show»=>show bZ "show" = Vo ([]:List Vn);decide +kernel
 | ask h ns=>exact AskOk.kinds ok
def Cmd.head_low{c:Cmd}(ok:c.Ok):c.head.length<=8/\32∉c.head.cps.toList:=by
 cases c with
 | rooms n=>show(MN "rooms").length<=8/\32∉(MN "rooms").cps.toList;exact⟨by decide,by decide⟩
 | way w=>show(MN "way").length<=8/\32∉(MN "way").cps.toList;exact⟨by decide,by decide⟩
 | close w=>show(MN "close").length<=8/\32∉(MN "close").cps.toList;exact⟨by decide,by decide⟩
 | turn=>show(MN "turn").length<=8/\32∉(MN "turn").cps.toList;exact⟨by decide,by decide⟩
 | undo=>show(MN "undo").length<=8/\32∉(MN "undo").cps.toList;exact⟨by decide,by decide⟩
 | redo=>show(MN "redo").length<=8/\32∉(MN "redo").cps.toList;exact⟨by decide,by decide⟩
 | «show»=>show(MN "show").length<=8/\32∉(MN "show").cps.toList;exact⟨by decide,by decide⟩
 | ask h ns=>exact⟨(AskOk.low ok).1,(AskOk.low ok).2.1⟩
def je(k z:Vn)(v:V):Prop:=(k = "many"/\∃n:Int,1<=n/\n<=12/\z=Tx.bj n/\v=.int n)\/(k = "number"/\∃n:Int,0<=n/\n<1000000/\z=Tx.bj n/\v=.int n)\/(k = "deed"/\eR z/\v=.str z)\/(k = "sign"/\iZ z/\v=.str z)
def Cmd.at_{c:Cmd}(ok:c.Ok):c.kinds.length=c.tail.length/\c.parts.length=c.tail.length/\∀(i:Nat) k z,c.kinds[i]?=Vo k->c.tail[i]?=Vo z->∃v,c.parts[i]?=Vo v/\je k z v:=by
 have four:∀{w:Way},WayL w->∀(i:Nat) (k z:Vn),(["number","deed","number","sign"]:List Vn)[i]?=Vo k->(lx w)[i]?=Vo z->∃v,(Way.vs w)[i]?=Vo v/\je k z v:=λ{w} ok i k z h1 h2=>by
  match i,h1,h2 with
  | 0,h1,h2=>cases h1;cases h2;exact⟨_,rfl,.inr (.inl ⟨rfl,_,ok.r0,ok.r6,rfl,rfl⟩)⟩
  | 1,h1,h2=>cases h1;cases h2;exact⟨_,rfl,.inr (.inr (.inl ⟨rfl,ok.dd,rfl⟩))⟩
  | 2,h1,h2=>cases h1;cases h2;exact⟨_,rfl,.inr (.inl ⟨rfl,_,ok.o0,ok.o6,rfl,rfl⟩)⟩
  | 3,h1,h2=>cases h1;cases h2;exact⟨_,rfl,.inr (.inr (.inr ⟨rfl,ok.sg,rfl⟩))⟩
  | i+4,h1,h2=>cases h1
 cases c with
 | rooms n=>
  refine⟨rfl,rfl,λi k z h1 h2=>?_⟩
  match i,h1,h2 with
  | 0,h1,h2=>cases h1;cases h2;exact⟨_,rfl,.inl ⟨rfl,n,ok.1,ok.2,rfl,rfl⟩⟩
  | i+1,h1,h2=>cases h1
 | way w=>exact⟨rfl,rfl,four ok⟩
 | close w=>exact⟨rfl,rfl,four ok⟩
 | turn=>exact⟨rfl,rfl,λi k z h1=>by cases h1⟩
 | undo=>exact⟨rfl,rfl,λi k z h1=>by cases h1⟩
 | redo=>exact⟨rfl,rfl,λi k z h1=>by cases h1⟩
 | «show»=>exact⟨rfl,rfl,λi k z h1=>by cases h1⟩
 | ask h ns=>
  refine⟨by show(ns.map _).length=(ns.map _).length;rw[Mc,Mc],by show(ns.map _).length=(ns.map _).length;rw[Mc,Mc],λi k z h1 h2=>?_⟩;have h1:(ns.map λ_=>("number":Vn))[i]?=Vo k:=h1;have h2:(ns.map Tx.bj)[i]?=Vo z:=h2;show ∃v,(ns.map V.int)[i]?=Vo v/\je k z v;rw[Mf]at h1 h2 ⊢;obtain⟨n,a,rfl⟩:=Mp.mp h2;rw[a]at h1 ⊢;cases h1;have:=AskOk.lo ok n (Mn a);exact⟨_,rfl,.inr (.inl ⟨rfl,n,this.1,this.2,rfl,rfl⟩)⟩
def je.low(h:je k z v):z.length<=6/\32∉z.cps.toList:=by
 rcases h with⟨_,n,h1,h2,rfl,_⟩|⟨_,n,h1,h2,rfl,_⟩|⟨_,h,_⟩|⟨_,⟨c,h1,h2,rfl⟩,_⟩
 .exact⟨Tx.eO (by omega) (by omega),Tx.Cm (by omega) (by omega)⟩
 .exact⟨Tx.eO h1 h2,Tx.Cm h1 (by omega)⟩
 .rcases h with rfl|rfl|rfl|rfl<;>exact⟨by decide,by decide⟩
 .refine⟨(by show 1<=6;decide),λa=>?_⟩;have:32=c:=by simpa using a
  omega
def Cmd.tail_low{c:Cmd}(ok:c.Ok):c.tail.length<=4/\∀z∈c.tail,z.length<=6/\32∉z.cps.toList:=by
 obtain⟨h1,_,h2⟩:=Cmd.at_ ok;refine⟨?_,λz a=>?_⟩
 .cases c with
  | ask h ns=>show(ns.map _).length<=4;rw[Mc];exact(AskOk.low ok).2.2
  | _=>simp[Cmd.tail,lx]
 obtain⟨i,hi⟩:=QF a;have b:=Me (show i<c.kinds.length by rw[h1];exact(Mm.mp hi).1);obtain⟨v,_,d⟩:=h2 i _ z b hi;exact d.low
theorem Cmd.split{c:Cmd}(ok:c.Ok):M4 c.line " " = c.words:=by
 show M4 (OG ⟨#[32]⟩ c.words) ⟨#[32]⟩=c.words;rw[Tx.j8];refine Tx.iE (PJ _ _) λp a=>?_;rcases Mr.mp a with rfl|h
 .exact(Cmd.head_low ok).2
 .exact((Cmd.tail_low ok).2 p h).2
def Cmd.line_len{c:Cmd}(ok:c.Ok):c.line.length<=100:=by
 have h1:=Cmd.tail_low ok;have a:=(Cmd.head_low ok).1;have:=oh 32 (k:=8) (zs:=c.words) λz b=>by
  rcases Mr.mp b with rfl|h
  .exact a
  .exact MH (h1.2 z h).1 (by decide)
 have h2:c.words.length=c.tail.length+1:=rfl;have d:(8+1)*c.words.length<=9*5:=Oe 9 (by omega);exact MH this (MH d (by decide))
def Jy(h:eR z):dj z=false:=by rcases h with rfl|rfl|rfl|rfl<;>decide +kernel
def EO(h:iZ z):dj z=false:=by obtain⟨c,h1,h2,rfl⟩:=h;have:bX c=false:=MZ (by omega);show(_ && (_ && (([c].map bX).all id && _)))=false;rw[show ([c].map bX).all id=false by rw[NS,this];rfl];simp
def dv(k z:Vn):Bool:=if k = "deed" then iO z else if k = "sign" then jy z else if k = "many" then dj z && (decide (1<=jq z) && decide (jq z<=12))else dj z
def K5(h:je k z v):dv k z=true:=by
 rcases h with⟨rfl,n,d,a,rfl,_⟩|⟨rfl,n,e,f,rfl,_⟩|⟨rfl,b,_⟩|⟨rfl,b,_⟩
 .have c:=mM (show 0<=n by omega) (show n<1000000 by omega);have hv:jq (Tx.bj n)=n:=by have:=wF c;rw[Tx.rP (by omega) (by omega)]at this;exact(MO this).symm
  unfold dv;rw[M1 (by decide +kernel),M1 (by decide +kernel),M3 rfl,c,hv,M0 d,M0 a];rfl
 .exact mM e f
 .exact vV b
 .exact uO b
def cE:List Vn->List Vn->Bool
 | k::ks,z::zs=>dv k z && cE ks zs
 | [],[]=>true
 | _,_=>false
def bS:List Vn->Bool
 | h::t=>match bZ h with
  | some ks=>cE ks t
  | none=>false
 | []=>false
theorem lh:∀{ks zs:List Vn},ks.length≠zs.length->cE ks zs=false
 | [],[],h=>absurd rfl h
 | [],_::_,_=>rfl
 | _::_,[],_=>rfl
 | k::ks,z::zs,h=>by unfold cE;rw[lh (λe=>h (by rw[ME,ME,e])),Nu]
def jH(ks zs:List Vn):List Bool:=(ks.zip zs).map λp=>dv p.1 p.2
theorem xK:∀{ks zs:List Vn},ks.length=zs.length->cE ks zs=(jH ks zs).all id
 | [],[],_=>rfl
 | k::ks,z::zs,h=>by unfold cE;rw[xK (SN h)];rfl
def uo{c:Cmd}(ok:c.Ok):bS c.words=true:=by
 obtain⟨h1,_,h2⟩:=Cmd.at_ ok;show(match bZ c.head with|some ks=>cE ks c.tail|none=>false)=true;rw[Cmd.kinds_of ok];show cE c.kinds c.tail=true;generalize c.kinds=ks at h1 h2;generalize c.tail=zs at h1 h2;generalize c.parts=vs at h2;induction ks generalizing zs vs with
 | nil=>
  cases zs with
  | nil=>rfl
  | cons z zs=>cases h1
 | cons k ks a=>
  cases zs with
  | nil=>cases h1
  | cons z zs=>
   obtain⟨v,_,b⟩:=h2 0 k z rfl rfl;unfold cE;rw[K5 b,OA];refine a zs (SN h1) vs.tail λi d e f g=>?_;obtain⟨v,h,j⟩:=h2 (i+1) d e f g;refine⟨v,?_,j⟩;rw[List.getElem?_tail];exact h
inductive yN(K:L8)(vs:List V)(H:Hp)(Q:VK)(E:XK):Prop|mk:∀k z,vs=[.str k,.str z]->z.length<=1000->(∀H',Ext H H'->Q (.bl (dv k z)) H')->yN K vs H Q E
abbrev wL:Vl:=stq 108
abbrev Bj:=λP w mg base=>Cal P w K mg base "is_word_of" 2 ["kind","word"] (yN K)
def Li(D:Dfn K mg "is_word_of" wL ["kind","word"])(T:Blt mg)(b:∃t,mg "GREATEST_MANY" = Vo (.int 12 t))(a:sy P w mg base)(d:oY P w mg base)(e:pY P w mg base):Bj P w mg base:=by
 refine D.oS ["kind","word"] λg nd H vs Q E h=>?_;obtain⟨f,c⟩:=b;obtain⟨k,z,rfl,m,q⟩:=h;unfold dv at q;refine⟨_,(ah (ba (aP cM (pv 0) ao (aN _)) (aj (az (av e g (aa (pv 1) ae)))) aT)
   (ah (ba (aP cM (pv 0) ao (aN _)) (aj (az (av d g (aa (pv 1) ae)))) aT)
   (ah (ba (aP cM (pv 0) ao (aN _)) (aj (az (fB (av a g (aa (pv 1) ae)) (fG (mK iH iH ag (cX AZ rfl T.int_ P1 (aa (pv 1) ae)) (cH (v:=.int 12) rfl c ⟨_,rfl⟩)))))) aT)
   (aj (az (av a g (aa (pv 1) ae))))))),?_⟩
 left;refine fZ ?_;by_cases h1:k = "deed"
 .rw[M0 h1];rw[M3 h1]at q;refine rd_exb (aD ?_);left;exact⟨_,rfl,q _ (Ext.rfl' _)⟩
 rw[MZ h1];rw[M1 h1]at q;refine rd_exb (aC ?_);left;refine fZ ?_;by_cases h2:k = "sign"
 .rw[M0 h2];rw[M3 h2]at q;refine rd_exb (aD ?_);left;exact⟨_,rfl,m,q _ (Ext.rfl' _)⟩
 rw[MZ h2];rw[M1 h2]at q;refine rd_exb (aC ?_);left;refine fZ ?_;by_cases i:k = "many"
 rotate_left
 .rw[MZ i];rw[M1 i]at q;refine rd_exb (aC ?_);left;exact⟨_,rfl,by omega,q⟩
 rw[M0 i];rw[M3 i]at q;refine rd_exb (aD ?_);left;refine⟨_,rfl,by omega,λH1 n=>?_⟩;have q:=q H1 n;cases j:dj z with
 | false=>
  rw[j]at q;left;refine aC ?_;exact q
 | true=>
  rw[j,OA]at q;left;right;refine⟨_,jq z,rfl,wF j,by have:=(xN j).2.2;omega,?_⟩;left;cases l:decide (1<=jq z)with
  | false=>
   rw[l]at q;refine aC ?_;exact q
  | true=>
   rw[l,OA]at q;right;exact q
def DF{i:Nat}(h1:ks[i]?=Vo k)(h2:zs[i]?=Vo z):(jH ks zs)[i]?=Vo (dv k z):=by unfold jH;rw[Mf,List.getElem?_zip_eq_some (z:=(k,z)) |>.mpr ⟨h1,h2⟩];rfl
inductive vy(K:L8)(vs:List V)(H:Hp)(Q:VK)(E:XK):Prop|mk:∀l h t,vs=[.ref l]->H l=Vo (.lst ((h::t).map V.str))->(h::t).length<=2000->(∀z∈h::t,z.length<=1000)->(∀H',Ext H H'->Q (.bl (bS (h::t))) H')->vy K vs H Q E
abbrev wx:Vl:=stq 109
abbrev BM:=λP w mg base=>Cal P w K mg base "is_line" 3 ["words"] (vy K)
def Kr(D:Dfn K mg "is_line" wx ["words"])(T:Blt mg)(g:∃a,mg "LINES" = Vo (.ref a)/\∃kvs,GDict w K a kvs/\vf K kvs)(e:Bj P w mg base):BM P w mg base:=by
 refine D.oS ["words"] λL nd H vs Q E h=>?_;obtain⟨y,c,s,d,f⟩:=g;obtain⟨l,h,t,rfl,A,M,N,q⟩:=h;rw[ME]at M;have x:=f h;have q:∀H',Ext H H'->Q (.bl (match bZ h with|some ks=>cE ks t|none=>false)) H':=q;refine⟨_,(ah (ba (PW.pt (cZ (ik (EZ rfl c d (ai (aF K) (pv 0) ag (λ_ _=>rfl))) (by with_unfolding_all rfl)) (dQ (aP iq (aR (cw K) rfl T.len_ L0 (aa (ky rfl c d (ai (aF K) (pv 0) ag (λ_ _=>rfl)) (λ_ _=>rfl)) ae)) (aB hJ (aR (cw K) rfl T.len_ L0 (aa (pv 0) ae)) ag) (aN _))))) (aj (az bW)) aT)
   (aj (az (aR (pw K rfl) rfl T.all_ P2 (aa (bM ["kind","word"] [] (DL K rfl T.zip_ (aa (ky rfl c d (ai (aF K) (pv 0) ag (λ_ _=>rfl)) (λ_ _=>rfl)) (aa (eM (gn K) (pv 0) (dW ag) fi) ae))) (λ_=>(eZ (n:=2) K rfl (bY (aI (i:=0) (show(["kind","word"]:List Vn).Nodup from by decide +kernel) rfl oi oj) (bY (aI (i:=1) (show(["kind","word"]:List Vn).Nodup from by decide +kernel) rfl oi oj) eJ)))) (λ_=>ck) (λ_=>(av e L (aa (pv 0) (aa (pv 1) ae))))) ae))))),?_⟩
 left;refine aH (af.of A) (v:=.str h) (aM (j:=0) rfl) ?_;refine⟨.inr h,rfl,?_⟩;cases I:bZ h with
 | none=>
  rw[I]at x q;rw[x];refine rd_exb (aD (aD ?_));left;exact q _ (Ext.rfl' _)
 | some ks=>
 rw[I]at x q;obtain⟨b,m,o⟩:=x;rw[m];refine rd_exb (aC ?_);left;refine aH (af.of A) (v:=.str h) (aM (j:=0) rfl) ?_;refine ee m ?_;left;refine i7 (o _) ?_;left;refine dn (af.of A) ?_;left;rw[Mc,Mc,ME];by_cases hlen:ks.length=t.length
 rotate_left
 .rw[MZ (show ¬((ks.length:Nat):Int)=((t.length+1:Nat):Int)-1 by omega)];right;have q:=q H (Ext.rfl' _);dsimp only at q;rw[lh hlen]at q;exact q
 rw[M0 (show((ks.length:Nat):Int)=((t.length+1:Nat):Int)-1 by omega)];nofun;refine aH (af.of A) (v:=.str h) (aM (j:=0) rfl) ?_;refine ee m ?_;left;refine gX (af.of A) (bu λl2 H2 O r _=>?_);rw[show cn ((h::t).map V.str) (Vo 1) Vp=t.map V.str from rZ (xs:=(h::t).map V.str) (n:=1) (by simp)]at r;refine⟨b,l2,_,_,rfl,o _,af.of r,?_⟩;refine Jn (xs:=ks.map V.str) (ys:=t.map V.str) (λi zs H'=>Ext H2 H'/\zs=((jH ks t).take i).map V.bl) (aS (by rw[Mc];omega)) ⟨Ext.rfl' _,rfl⟩ (λi zs H' h=>⟨o _,af.of (h.1 _ _ r),by rw[h.2,Mc,MV];exact Ng _ _⟩) ?_ ?_
 .rintro i u v zs R p W J hv ⟨C,rfl⟩ S F _;rw[Mf]at J hv;obtain⟨k,x,rfl⟩:=Mp.mp J;obtain⟨z,B,rfl⟩:=Mp.mp hv;refine gL (ak.of F) rfl ?_;left;right;refine⟨k,z,rfl,N z (.tail _ (Mn B)),λX U=>?_⟩;refine⟨C.trans (S.trans U),?_⟩;rw[Nm,DF x B,Mt];rfl
 .rintro zs R p ⟨C,rfl⟩ F;have G:(jH ks t).length=min (ks.map V.str).length (t.map V.str).length:=by unfold jH;rw[Mc,List.length_zip,Mc,Mc]
  left;refine⟨p,_,rfl,af.of ay,?_⟩;rw[<-G,MF,<-xK hlen];exact q _ (O.trans (C.trans (aO F)))
inductive BZ(K:L8)(vs:List V)(H:Hp)(Q:VK)(E:XK):Prop|mk:∀k z v,vs=[.str z]->je k z v->(∀H',Ext H H'->Q v H')->BZ K vs H Q E
abbrev vW:Vl:=stq 110
abbrev x9:=λP w mg base=>Cal P w K mg base "value_of" 2 ["word"] (BZ K)
def CK(D:Dfn K mg "value_of" vW ["word"])(T:Blt mg)(a:sy P w mg base):x9 P w mg base:=by
 refine D.oS ["word"] λg nd H vs Q E h=>?_;obtain⟨k,z,v,rfl,d,q⟩:=h;have j:=d.low;refine⟨_,(aj (az (jO (bF (av a g (aa (pv 0) ae))) (cX AZ rfl T.int_ P1 (aa (pv 0) ae)) (pv 0)))),?_⟩;left;refine⟨z,rfl,by omega,λH1 b=>?_⟩;rcases d with⟨_,n,l,i,rfl,rfl⟩|⟨_,n,e,f,rfl,rfl⟩|⟨_,c,rfl⟩|⟨_,c,rfl⟩
 .rw[mM (by omega) (by omega)];left;right;exact⟨_,n,rfl,Tx.rP (by omega) (by omega),by omega,q H1 b⟩
 .rw[mM e f];left;right;exact⟨_,n,rfl,Tx.rP e f,by omega,q H1 b⟩
 .rw[Jy c];left;nofun;exact q H1 b
 .rw[EO c];left;nofun;exact q H1 b
def bo(l:List Nat):Vn:=⟨l.toArray⟩
def rh(l):(bo l).cps.toList=l:=rfl
def JP(l):(bo l).length=l.length:=rfl
def jn(z):z=bo z.cps.toList:=Tx.gW rfl
def w4{a b:List Nat}{c:Nat}(d:c≠32)(h:32∉a++b):32∉a++c::b:=λz=>by
 rw[MA,Mr]at z;rw[MA]at h;rcases z with z|z|z
 .exact h (.inl z)
 .exact d z.symm
 .exact h (.inr z)
def vP{w J l1 l2:List Nat}(e:w++32::J=l1++l2):(∃b,w=l1++b/\l2=b++32::J)\/(∃l,l1=w++32::l/\J=l++l2):=by
 rcases List.append_eq_append_iff.mp e with⟨x,h1,h2⟩|⟨x,h1,h2⟩
 .cases x with
  | nil=>exact .inl ⟨[],by simpa using h1.symm,by simpa using h2.symm⟩
  | cons y x=>
   injection h2 with h2 a
   subst h2;exact .inr ⟨x,h1,a⟩
 .exact .inl ⟨x,h1,h2⟩
def jw{a J:List Nat}(h:32∉a):M4 (bo (a++32::J)) ⟨#[32]⟩=bo a::M4 (bo J) ⟨#[32]⟩:=by rw[<-Dl (c:=32) (a:=bo a) (r:=bo J) h];congr 1;refine Tx.gW ?_;show _=((bo a).cps ++ #[32]++(bo J).cps).toList;simp[bo]
def kJ{w v:Vn}{r:List Vn}:(Nn ⟨#[32]⟩ (w::v::r)).cps.toList=w.cps.toList++32::(Nn ⟨#[32]⟩ (v::r)).cps.toList:=Tx.jc 32 w v r
theorem yQ{c:Nat}(h:c≠32):∀{ws:List Vn},ws≠[]->(∀w∈ws,32∉w.cps.toList)->∀{l1 l2:List Nat},(Nn ⟨#[32]⟩ ws).cps.toList=l1++l2->∃d w f a b,ws=d++w::f/\w.cps.toList=a++b/\M4 (bo (l1++c::l2)) ⟨#[32]⟩=d++bo (a++c::b)::f
 | [w],_,g,l1,l2,e=>by refine⟨[],w,[],l1,l2,rfl,e,xh ?_⟩;exact w4 h (by rw[<-e];exact g w (by simp))
 | w::v::r,_,g,l1,l2,e=>by
  rw[kJ]at e;rcases vP e with⟨b,h1,rfl⟩|⟨l,rfl,h2⟩
  .refine⟨[],w,v::r,l1,b,rfl,h1,?_⟩;rw[show l1++c::(b++32::(Nn ⟨#[32]⟩ (v::r)).cps.toList)=(l1++c::b)++32::(Nn ⟨#[32]⟩ (v::r)).cps.toList by simp,jw (w4 h (by rw[<-h1];exact g w (by simp))),<-jn,Tx.iE (by simp) λp i=>g p (.tail _ i)];rfl
  .obtain⟨d,u,f,a,b,k1,k2,k3⟩:=yQ h (by simp) (λp i=>g p (.tail _ i)) h2;refine⟨w::d,u,f,a,b,by rw[k1];rfl,k2,?_⟩;rw[show w.cps.toList++32::l++c::l2=w.cps.toList++32::(l++c::l2) by simp,jw (g w (by simp)),k3,<-jn];rfl
theorem Cz:∀{ws:List Vn},ws≠[]->(∀w∈ws,32∉w.cps.toList)->∀{l1 l2:List Nat},(Nn ⟨#[32]⟩ ws).cps.toList=l1++l2->∃c w d a b,ws=c++w::d/\w.cps.toList=a++b/\M4 (bo (l1++32::l2)) ⟨#[32]⟩=c++bo a::bo b::d
 | [w],_,f,l1,l2,e=>by
  have g:32∉l1++l2:=by rw[<-e];exact f w (by simp)
  refine⟨[],w,[],l1,l2,rfl,e,?_⟩;rw[jw λz=>g (MQ _ z),xh (z:=bo l2) λz=>g (MP _ z)];rfl
 | w::v::r,_,f,l1,l2,e=>by
  rw[kJ]at e;rcases vP e with⟨b,h1,rfl⟩|⟨l,rfl,h2⟩
  .refine⟨[],w,v::r,l1,b,rfl,h1,?_⟩;have g:32∉l1++b:=by rw[<-h1];exact f w (by simp)
   rw[jw λz=>g (MQ _ z),jw λz=>g (MP _ z),<-jn,Tx.iE (by simp) λp h=>f p (.tail _ h)];rfl
  .obtain⟨c,u,d,a,b,k1,k2,k3⟩:=Cz (by simp) (λp h=>f p (.tail _ h)) h2;refine⟨w::c,u,d,a,b,by rw[k1];rfl,k2,?_⟩;rw[show w.cps.toList++32::l++32::l2=w.cps.toList++32::(l++32::l2) by simp,jw (f w (by simp)),k3,<-jn];rfl
def ir:List Vn:=["rooms","way","close","turn","undo","redo","show","reach","forward","backward","most","fate","word"]
def oV(e:h∉ir):bZ h=Vp:=by
 have n:∀y∈(["rooms","way","close","turn","undo","redo","show","reach","forward","backward","most","fate","word"]:List Vn),¬h=y:=λy a z=>e (by rw[z];exact a);unfold bZ
 repeat rw [M1 (n _ (by simp))]
def w5(e:bZ h=Vo ks):h∈ir:=PK λn=>by rw[oV n]at e;cases e
def FZ(d:h∈ir){a b:List Nat}{c:Nat}(e:h.cps.toList=a++b):bZ (bo (a++c::b))=Vp:=oV λf=>by
 have all:∀y∈ir,∀i<y.cps.toList.length,bo (y.cps.toList.eraseIdx i)∉ir:=by decide +kernel
 have:=all _ f a.length (by rw[rh];simp);rw[rh,List.eraseIdx_append_of_length_le (Mw _),RK]at this;rw[show (c::b).eraseIdx 0=b from rfl,<-e,<-jn]at this;exact this d
def Gz(c:h∈ir){a b:List Nat}(e:h.cps.toList=a++b)(hb:b≠[]):bZ (bo a)=Vp:=oV λd=>by
 have all:∀y∈ir,∀i<y.cps.toList.length,bo (y.cps.toList.take i)∉ir:=by decide +kernel
 have f:0<b.length:=List.length_pos_iff.mpr hb;have:=all _ c a.length (by rw[e,Mu];omega);rw[e,List.take_left]at this;exact this d
def Ji{k w:Vn}(h:dv k w=true){a b:List Nat}{c:Nat}(i:bX c=false)(e:w.cps.toList=a++b):dv k (bo (a++c::b))=false:=by
 have n:(bo (a++c::b)).length=w.length+1:=by rw[JP,Mu,ME];have:w.length=w.cps.toList.length:=Mh.symm;rw[this,e,Mu];omega
 have f:dj (bo (a++c::b))=false:=by unfold dj;rw[show ((bo (a++c::b)).cps.toList.map bX).all id=false by rw[rh,Mt,List.all_append,NS,Qy,i];simp,OJ,Nu,Nu]
 unfold dv at h ⊢;by_cases h1:k = "deed"
 .rw[M3 h1]at h ⊢;cases j:iO (bo (a++c::b))with
  | false=>rfl
  | true=>
   have l:=wq h;have m:=wq j;have len:∀{z:Vn},eR z->z.length=2\/z.length=4:=λ{z} d=>by
    rcases d with rfl|rfl|rfl|rfl
    .exact .inl rfl
    all_goals exact .inr rfl
   have:=len l;have:=len m;omega
 rw[M1 h1]at h ⊢;by_cases h2:k = "sign"
 .rw[M3 h2]at h ⊢;unfold jy at h ⊢;rw[MM,decide_eq_true_eq]at h;rw[MZ (show ¬(bo (a++c::b)).length=1 by omega),OJ]
 rw[M1 h2]at h ⊢;by_cases g:k = "many"
 .rw[M3 g,f,OJ]
 .rw[M1 g,f]
def Dc(h:cE ks zs=true):ks.length=zs.length:=PK λn=>by rw[lh n]at h;cases h
theorem Ap{a b:List Nat}{c:Nat}(f:bX c=false){w:Vn}{d:List Vn}(e:w.cps.toList=a++b):∀{r ks:List Vn},cE ks (r++w::d)=true->cE ks (r++bo (a++c::b)::d)=false
 | [],[],h=>by cases h
 | [],k::ks,h=>by have h:(dv k w && cE ks d)=true:=h;rw[MM]at h;show(dv k _ && cE ks d)=false;rw[Ji h.1 f e,OJ]
 | z::r,[],h=>by cases h
 | z::r,k::ks,h=>by have h:(dv k z && cE ks (r++w::d))=true:=h;rw[MM]at h;show(dv k z && cE ks (r++bo (a++c::b)::d))=false;rw[Ap f e h.2,Nu]
structure Good(h:Vn)(t ks:List Vn):Prop where
 kk:bZ h=Vo ks
 ok:cE ks t=true
 fr:∀w∈h::t,32∉w.cps.toList
def Good.more{t t':List Vn}(g:Good h t ks)(e:t'.length=t.length+1):bS (h::t')=false:=by show(match bZ h with|some ks=>cE ks t'|none=>false)=false;rw[g.kk];exact lh (by rw[Dc g.ok];omega)
def sk(e:bZ h=Vp):bS (h::t)=false:=by show(match bZ h with|some ks=>cE ks t|none=>false)=false;rw[e]
def Good.put(g:Good h t ks){c:Nat}(l:bX c=false){l1 l2:List Nat}(e:(Nn ⟨#[32]⟩ (h::t)).cps.toList=l1++l2):bS (M4 (bo (l1++c::l2)) ⟨#[32]⟩)=false:=by
 by_cases hb:c=32
 .subst hb;obtain⟨d,w,i,a,b,k1,k2,k3⟩:=Cz (by simp) g.fr e;rw[k3];cases d with
  | nil=>
   injection k1 with k1 f
   subst k1;subst f;by_cases j:b=[]
   .subst j;rw[Nx]at k2;rw[<-k2,<-jn];exact g.more rfl
   .exact sk (Gz (w5 g.kk) k2 j)
  | cons x r=>
   injection k1 with k1 f
   subst k1;subst f;exact g.more (by simp;omega)
 .obtain⟨d,w,i,a,b,k1,k2,k3⟩:=yQ hb (by simp) g.fr e;rw[k3];cases d with
  | nil=>
   injection k1 with k1 f
   subst k1;exact sk (FZ (w5 g.kk) k2)
  | cons x r=>
   injection k1 with k1 f
   subst k1;show(match bZ h with|some ks=>cE ks _|none=>false)=false;rw[g.kk];have k:=g.ok;rw[f]at k;exact Ap l k2 k
def Good.blank(g:Good h t ks):bS (("":Vn)::h::t)=false:=sk (by decide +kernel)
def Good.snoc(g:Good h t ks):bS (h::(t++[z]))=false:=g.more (by simp)
def Good.in_(g:Good h t ks)(i):bS ((h::t).take i++z::(h::t).drop i)=false\/i=0:=by
 cases i with
 | zero=>exact .inr rfl
 | succ i=>
  refine .inl ?_;show bS (h::(t.take i++z::t.drop i))=false;exact g.more (by rw[Mu,ME,MV,N8];omega)
abbrev HV:=Int×List Way
def cc(H:Hp)(v:V)(h:HV):Prop:=de H v h.1 h.2/\HOuse h.1 h.2
theorem cc.ext{H H':Hp}{v:V}{h:HV}(e:Ext H H')(x:cc H v h):cc H' v h:=⟨x.1.ext e,x.2⟩
def Res(K:L8)(H:Hp)(Q:VK)(E:XK):Except Vn HV->Prop
 | .error nm=>∀H',Ext H H'->E (.ref (cA K nm)) Vp H'
 | .ok h=>∀u H',Ext H H'->cc H' u h->Q u H'
def dF(h:HV)(w:Way):Except Vn HV:=if ¬(w.room<h.1/\w.other<h.1)then .error "NoPlace" else if w∈h.2 then .error "NoWay" else if 100<=h.2.length then .error "TooGreat" else .ok (h.1,h.2++[w])
def fg(h:HV)(w:Way):Except Vn HV:=if w∈h.2 then .ok (h.1,h.2.filter λu=>decide (u≠w))else .error "NoWay"
def WayL.lay{w:Way}(h:WayL w):w.Lay:=by
 constructor
 .rcases h.dd with e|e|e|e<;>rw[e]<;>decide +kernel
 .obtain⟨c,h1,h2,e⟩:=h.sg;rw[e];exact Ar ⟨c,Qs h2⟩ h1
def FN{h h':HV}{w:Way}(b:HOuse h.1 h.2)(wl:WayL w)(e:dF h w=.ok h'):HOuse h'.1 h'.2:=by
 unfold dF at e;split at e
 .cases e
 rename_i h1;split at e
 .cases e
 rename_i h2;split at e
 .cases e
 rename_i h3;cases e;obtain⟨r1,o1⟩:=Classical.not_not.mp h1;refine⟨b.m1,b.m12,by rw[Mu,N5];omega,λu d=>?_,?_⟩
 .rcases MA.mp d with z|z
  .exact b.ok u z
  .rw[Mo.mp z];exact⟨wl.r0,r1,wl.o0,o1,wl.dd,wl.sg⟩
 .rw[List.nodup_append];exact⟨b.nd,by simp,λa ha c f z=>h2 (by rw[<-Mo.mp f,<-z];exact ha)⟩
inductive Co(K:L8)(vs:List V)(H:Hp)(Q:VK)(E:XK):Prop|mk:∀v l n,vs=[v,.ref l]->H l=Vo (.lst [.int n])->1<=n->n<=12->(∀u H',Ext H H'->cc H' u (n,[])->Q u H')->Co K vs H Q E
abbrev B4:Vl:=stq 111
abbrev B5:=λP w mg base=>Cal P w K mg base "rooms_deed" 1 ["house","parts"] (Co K)
def HX(D:Dfn K mg "rooms_deed" B4 ["house","parts"])(T:Blt mg):B5 P w mg base:=by refine D.oS ["house","parts"] λm nd H vs Q E h=>?_;obtain⟨v,l,n,rfl,d,e,a,q⟩:=h;refine⟨_,(aj (az (aX (aa (ai (aF K) (pv 1) ag (λ_ _=>rfl)) (aa (aX ae) ae))))),?_⟩;left;refine aH (af.of d) (aM rfl) ?_;left;refine aE λt H1 f g _=>?_;left;refine aE λu H2 c i _=>?_;exact q _ H2 (f.trans c) ⟨⟨u,t,rfl,i,[],c _ _ g,rfl,λj b k h=>by simp at h⟩,⟨e,a,LI _,λw h=>(nomatch h),Pp⟩⟩
inductive mH(K:L8)(vs:List V)(H:Hp)(Q:VK)(E:XK):Prop|mk:∀v h l w,vs=[v,.ref l]->cc H v h->H l=Vo (.lst (Way.vs w))->WayL w->Res K H Q E (dF h w)->mH K vs H Q E
abbrev oA:Vl:=stq 112
def w9:FnScope ["house","parts","way"] ["house","parts"] (aW oA):=⟨rfl,rfl,rfl,by decide +kernel,rfl,by decide +kernel,by decide +kernel⟩
def Fz(D:Dfn K mg "way_deed" oA ["house","parts"])(T:Blt mg)(b:∃t,mg "GREATEST_WAYS" = Vo (.int 100 t))(y:Xf K mg base fK fC)(c:kd P w mg base):CalX P w K mg base "way_deed" 3 ["house","parts"] (mH K):=by
 have nd:=(w9).nd;refine D.okX w9 (λvs H Q E h=>?_) (λf cdv A outer s H vs Q E j h=>?_)
 .obtain⟨v,h,l,w,rfl,_⟩:=h;rfl
 .obtain⟨e,a⟩:=b;obtain⟨v,h,l,w,rfl,⟨hv,ok⟩,U,wl,r⟩:=h;obtain⟨m,ws⟩:=h;obtain⟨p,t,rfl,o,W⟩:=id hv;obtain⟨bs,B,al⟩:=cV.al W;have O:=ok.few;refine⟨_,(ah (aw (i:=2) nd rfl (Or.inl rfl) (cX (jN K) rfl T.tuple_ NH (aa (pv 1) ae)))
    (ah (ba (PW.pt (cZ (cj (bF (av c j (aa (ai (aA K) (pv 2) ag (λ_ _=>rfl)) (aa (ai (aA K) (pv 0) ag (λ_ _=>rfl)) ae))))) (dQ (cj (bF (av c j (aa (ai (aA K) (pv 2) ag (λ_ _=>rfl)) (aa (ai (aA K) (pv 0) ag (λ_ _=>rfl)) ae)))))))) (aj (i4 (y.own "NoPlace" (by decide +kernel)) NZ (aa ao ae))) aT)
    (ah (ba (aP (EU j) (pv 2) (ai (aA K) (pv 0) ag (λ_ _=>rfl)) (by with_unfolding_all rfl)) (aj (i4 (y.own "NoWay" (by decide +kernel)) NZ (aa ao ae))) aT)
    (ah (ba (aP qT (aR (cw K) rfl T.len_ L0 (aa (ai (aA K) (pv 0) ag (λ_ _=>rfl)) ae)) (cH (v:=.int 100) rfl a ⟨_,rfl⟩) (aN _)) (aj (i4 (y.own "TooGreat" (by decide +kernel)) NZ (aa (JE (cH (v:=.int 100) rfl a ⟨_,rfl⟩)) ae))) aT)
    (aj (az (aX (aa (ai (aA K) (pv 0) ag (λ_ _=>rfl)) (aa (aB GW (ai (aA K) (pv 0) ag (λ_ _=>rfl)) (aX (aa (pv 2) ae))) ae))))))))),?_⟩
  left;refine jv (af.of U) (bu λR H1 d k _=>?_);left;refine aG (ak.of k) (v:=.int w.room) rfl ?_;left;refine aG (ak.of (d _ _ o)) (v:=.int m) rfl ?_;refine⟨_,_,rfl,?_⟩;left;rw[M0 wl.r0,OA];unfold dF at r;by_cases j:w.room<m
  rotate_left
  .rw[MZ j];rw[M3 (λz=>j z.1)]at r;right;exact⟨by decide,r H1 d⟩
  rw[M0 j];nofun;refine aG (ak.of k) (v:=.int w.other) rfl ?_;left;refine aG (ak.of (d _ _ o)) (v:=.int m) rfl ?_;refine⟨_,_,rfl,?_⟩;left;rw[M0 wl.o0,OA];by_cases ho:w.other<m
  rotate_left
  .rw[MZ ho];rw[M3 (λz=>ho z.2)]at r;right;exact⟨by decide,r H1 d⟩
  rw[M0 ho];refine aC ?_;rw[M1 (λz=>z ⟨j,ho⟩)]at r;left;refine aG (ak.of (d _ _ o)) (v:=.ref t) rfl ?_;refine uQ (Way.rep k wl.lay) (d _ _ B) ((al.ext d).reps λu C=>(ok.ok u C).lay) (by decide) ?_;simp only[if_false,A2];refine rd_exb ?_;by_cases q:w∈ws
  .rw[M0 q];rw[M3 q]at r;right;exact⟨by decide,r H1 d⟩
  rw[MZ q];rw[M1 q]at r;nofun;refine aG (ak.of (d _ _ o)) (v:=.ref t) rfl ?_;left;refine i7 (ak.of (d _ _ B)) ?_;left;rw[Mc,al.1];by_cases g:100<=ws.length
  .rw[M0 (show(100:Int)<=((ws.length:Nat):Int) by omega)];rw[M3 g]at r;right;exact⟨by decide,by decide +kernel,by decide +kernel,λz=>⟨aS (by simp),r H1 d⟩⟩
  rw[MZ (show ¬(100:Int)<=((ws.length:Nat):Int) by omega)];rw[M1 g]at r;nofun;refine aG (ak.of (d _ _ o)) (v:=.int m) rfl ?_;left;refine aG (ak.of (d _ _ o)) (v:=.ref t) rfl ?_;left;refine aE λY H2 S G _=>?_;have n:=d.trans S;refine Ih (n _ _ B) G (aS (by rw[Mc,al.1];simp;omega)) λX Z I J=>?_;left;refine aE λu L x C _=>?_;have M:cS L (bs++[R]) (ws++[w]):=(al.ext (n.trans (I.trans x))).snoc ((S.trans (I.trans x)) _ _ k);have N:L X=Vo (.tup ((bs++[R]).map V.ref)):=by rw[Mt];exact x _ _ J
  exact r _ L (n.trans (I.trans x)) ⟨de.mk C (M.ways N),FN (h:=(m,ws)) ok wl (by unfold dF;rw[M1 (λz=>z ⟨j,ho⟩),M1 q,M1 g])⟩
def Lb{h h':HV}{w:Way}(a:HOuse h.1 h.2)(e:fg h w=.ok h'):HOuse h'.1 h'.2:=by
 unfold fg at e;split at e
 .cases e;exact⟨a.m1,a.m12,MH (N7 _ _) a.few,λu b=>a.ok u (OU.mp b).1,List.Pairwise.filter _ a.nd⟩
 .cases e
inductive nj(K:L8)(vs:List V)(H:Hp)(Q:VK)(E:XK):Prop|mk:∀v h l w,vs=[v,.ref l]->cc H v h->H l=Vo (.lst (Way.vs w))->WayL w->Res K H Q E (fg h w)->nj K vs H Q E
abbrev pQ:Vl:=stq 113
def tX:FnScope ["house","parts","way"] ["house","parts"] (aW pQ):=⟨rfl,rfl,rfl,by decide +kernel,rfl,by decide +kernel,by decide +kernel⟩
def GZ(D:Dfn K mg "close_deed" pQ ["house","parts"])(T:Blt mg)(U:Xf K mg base fK fC):CalX P w K mg base "close_deed" 1 ["house","parts"] (nj K):=by
 have nd:=(tX).nd;refine D.okX tX (λvs H Q E h=>?_) (λf cdv A outer s H vs Q E L h=>?_)
 .obtain⟨v,h,l,w,rfl,_⟩:=h;rfl
 .obtain⟨v,h,l,w,rfl,⟨hv,ok⟩,W,wl,r⟩:=h;obtain⟨m,ws⟩:=h;obtain⟨p,t,rfl,G,X⟩:=id hv;obtain⟨bs,I,al⟩:=cV.al X;have M:=ok.few;refine⟨_,(ah (aw (i:=2) nd rfl (Or.inr rfl) (cX (jN K) rfl T.tuple_ NH (aa (pv 1) ae)))
    (ah (ba (aP (DM L) (pv 2) (ai (aA K) (pv 0) ag (λ_ _=>rfl)) (by with_unfolding_all rfl)) (aj (i4 (U.own "NoWay" (by decide +kernel)) NZ (aa ao ae))) aT)
    (aj (az (aX (aa (ai (aA K) (pv 0) ag (λ_ _=>rfl)) (aa (cX (jN K) rfl T.tuple_ NH (aa (bM ["other"] [2] (fY K (ai (aA K) (pv 0) ag (λ_ _=>rfl))) (λ_=>(aI (i:=0) (show(["other","way"]:List Vn).Nodup from by decide +kernel) rfl (Or.inl rfl) (Or.inr rfl))) (λ_=>(dC (aP (jE L) (pv 0) (pv 1) (aN _)))) (λ_=>(pv 0))) ae)) ae))))))),?_⟩
  left;refine jv (af.of W) (bu λwt H1 c k _=>?_);left;refine aG (ak.of (c _ _ G)) (v:=.ref t) rfl ?_;refine uQ (Way.rep k wl.lay) (c _ _ I) ((al.ext c).reps λu J=>(ok.ok u J).lay) (by decide) ?_;simp only[if_true,A2];refine rd_exb ?_;have d:∀h',fg (m,ws) w=.ok h'->HOuse h'.1 h'.2:=λh'=>Lb (h:=(m,ws)) ok;unfold fg at r d;by_cases B:w∈ws
  rotate_left
  .rw[MZ B];rw[M1 B]at r;right;exact⟨by decide,r H1 c⟩
  rw[M0 B];rw[M3 B]at r d;nofun;refine aG (ak.of (c _ _ G)) (v:=.int m) rfl ?_;left;refine aG (ak.of (c _ _ G)) (v:=.ref t) rfl ?_;refine fW (ak.of (c _ _ I)) ?_;refine iV (xs:=bs.map V.ref) (λi ys H'=>Ext H1 H'/\∃cs,ys=cs.map V.ref/\cS H' cs ((ws.take i).filter λu=>decide (u≠w))) (ka (by rw[Mc,al.1];omega)) ⟨Ext.rfl' _,[],rfl,cS.nil _⟩ (λi ys H' hi h=>⟨ak.of ((c.trans h.1) _ _ I),?_⟩) ?_ ?_
  .obtain⟨_,cs,rfl,Y,_⟩:=h;rw[Mc,Y];exact MH (N7 _ _) (by rw[MV];exact Ng _ _)
  .rintro i x ys H' N ⟨j,cs,rfl,a⟩;rw[Mf]at N;obtain⟨b,hb,rfl⟩:=Mp.mp N;have hi:i<ws.length:=by rw[<-al.1];exact(Mm.mp hb).1
   have e:ws[i]?=Vo ws[i]:=Me hi;have g:=(c.trans j) _ _ (al.2 i b _ hb e);have n:=(ok.ok _ (MD hi)).lay;rw[Nm,e,OO];generalize ws[i]=u at e g n;left;refine⟨1,1,_,_,Way.rep g n,Way.rep (j _ _ k) wl.lay,by decide,?_⟩;rw[Way.eqv];simp only[if_true];refine rd_exb ?_;by_cases C:u=w
   .rw[M0 C];refine aC ?_;refine⟨j,cs,rfl,?_⟩;have:Rm (λu=>decide (u≠w)) (Vo u).toList=[]:=by subst C;simp
    rw[this,Nx];exact a
   .rw[MZ C];right;refine⟨j,cs++[b],by rw[Mt];rfl,?_⟩;have:Rm (λu=>decide (u≠w)) (Vo u).toList=[u]:=by simp[C]
    rw[this];exact a.snoc g
  .rintro ys H' l2 ⟨j,cs,rfl,a⟩ q;rw[Mc,al.1,MF]at a;left;have O:Ext H1 (upd H' l2 (.lst (cs.map V.ref))):=j.trans (aO q);have y:=a.ext (aO (o:=.lst (cs.map V.ref)) q);have z:upd H' l2 (.lst (cs.map V.ref)) l2=Vo (.lst (cs.map V.ref)):=ay;generalize upd H' l2 (.lst (cs.map V.ref))=H4 at O y z ⊢;refine jv (af.of z) (bu λt2 H5 R Z _=>?_);left;refine aE λu H6 S J _=>?_;exact r _ H6 (c.trans (O.trans (R.trans S))) ⟨de.mk J (((y.ext R).ways Z).ext S),d _ rfl⟩
inductive tU(K:L8)(vs:List V)(H:Hp)(Q:VK)(E:XK):Prop|mk:∀v h p,vs=[v,p]->cc H v h->(∀u H',Ext H H'->cc H' u (h.1,h.2.map Way.turn)->Q u H')->tU K vs H Q E
abbrev A8:Vl:=stq 114
abbrev Cf:=λP w mg base=>Cal P w K mg base "turn_deed" 8 ["house","parts"] (tU K)
def FD(D:Dfn K mg "turn_deed" A8 ["house","parts"])(T:Blt mg)(a:nh P w mg base):Cf P w mg base:=by refine D.oS ["house","parts"] λb nd H vs Q E h=>?_;obtain⟨v,h,p,rfl,⟨hv,ok⟩,q⟩:=h;refine⟨_,(aj (az (av a b (aa (pv 0) ae)))),?_⟩;left;exact⟨v,_,_,rfl,hv,ok,λu H' e c=>q u H' e ⟨c,ok.turn⟩⟩
inductive Cq(K:L8)(vs:List V)(H:Hp)(Q:VK)(E:XK):Prop|mk:∀v h p,vs=[v,p]->cc H v h->(∀H',Ext H H'->Q (.str (aV h.1 h.2)) H')->Cq K vs H Q E
abbrev B3:Vl:=stq 115
abbrev Ab:=λP w mg base=>Cal P w K mg base "show_ask" 8 ["house","parts"] (Cq K)
def EK(D:Dfn K mg "show_ask" B3 ["house","parts"])(T:Blt mg)(a:qA P w mg base):Ab P w mg base:=by refine D.oS ["house","parts"] λb nd H vs Q E h=>?_;obtain⟨v,h,p,rfl,⟨hv,ok⟩,q⟩:=h;refine⟨_,(aj (az (av a b (aa (pv 0) ae)))),?_⟩;left;exact⟨v,_,_,rfl,hv,ok,q⟩
structure Dk where
 cur:HV
 past:List HV
 und:List HV
def Dk.doD(d:Dk)(h:HV):Dk:=⟨h,d.past++[d.cur],[]⟩
def bU(v:V)(l1 l2:Vb):List (Vn×V):=bH "undone" (.ref l2) (bH "past" (.ref l1) (bH "house" v []))
def uV:¬(("house":Vn) = "past"):=by decide +kernel
def rn:¬(("house":Vn) = "undone"):=by decide +kernel
def sd:¬(("past":Vn) = "undone"):=by decide +kernel
def kf(v)(l1 l2):bU v l1 l2=([("house",v),("past",.ref l1),("undone",.ref l2)]:List (Vn×V)):=by
 show bH "undone" (.ref l2) (bH "past" (.ref l1) ([("house",v)]:List (Vn×V)))=_
 rfl
def gr(v)(l1 l2):(bU v l1 l2).lookup ("house":Vn)=Vo v:=by unfold bU;rw[fA,M1 rn,fA,M1 uV,fA,M3 rfl]
def lR(v)(l1 l2):(bU v l1 l2).lookup ("past":Vn)=Vo (.ref l1):=by unfold bU;rw[fA,M1 sd,fA,M3 rfl]
def pJ(v)(l1 l2):(bU v l1 l2).lookup ("undone":Vn)=Vo (.ref l2):=by unfold bU;rw[fA,M3 rfl]
def lC(v)(l1 l2){m:Vn}(h1:¬m = "undone")(h2:¬m = "past")(a:¬m = "house"):(bU v l1 l2).lookup m=Vp:=by unfold bU;rw[fA,M1 h1,fA,M1 h2,fA,M1 a];rfl
def mS(v)(l1 l2):(bU v l1 l2).length<1000:=by show 3<1000;decide
def oa(v u)(l1 l2):bH "house" u (bU v l1 l2)=bU u l1 l2:=by rw[kf,kf];show(if("house":Vn) = "house" then(("house":Vn),u)::_ else _)=_;rw[M3 rfl]
def Jk(v)(l1 l2 a):bH "undone" (.ref a) (bU v l1 l2)=bU v l1 a:=by rw[kf,kf];show(if("house":Vn) = "undone" then _ else(("house":Vn),v)::(if("past":Vn) = "undone" then _ else(("past":Vn),V.ref l1)::(if("undone":Vn) = "undone" then(("undone":Vn),V.ref a)::_ else _)))=_;rw[M1 rn,M1 sd,M3 rfl]
structure DkAt(K:L8)(H:Hp)(p l1 l2:Vb)(d:Dk):Prop where
 ob:∃dx v,H p=Vo (.ins (cA K "Desk") dx (bU v l1 l2))/\cc H v d.cur
 ps:∃vs,H l1=Vo (.lst vs)/\Paired (cc H) vs d.past
 un:∃vs,H l2=Vo (.lst vs)/\Paired (cc H) vs d.und
 ne:l1≠l2
def Tk(H H':Hp):Prop:=∀b xs,H b=Vo (.tup xs)->H' b=Vo (.tup xs)
def cc.tk{h:HV}(e:Tk H H')(x:cc H v h):cc H' v h:=by obtain⟨⟨p,q,rfl,h1,bs,h2,a,c⟩,ok⟩:=x;exact⟨⟨p,q,rfl,e _ _ h1,bs,e _ _ h2,a,λj b k d f=>e _ _ (c j b k d f)⟩,ok⟩
def ft(e:Tk H H')(h:Paired (cc H) vs hs):Paired (cc H') vs hs:=Paired.mapP h λ_ _ x=>x.tk e
theorem DkAt.ext{K:L8}{H H':Hp}{p l1 l2:Vb}{d:Dk}(e:Ext H H')(h:DkAt K H p l1 l2 d):DkAt K H' p l1 l2 d:=by obtain⟨⟨dx,v,a1,a⟩,⟨vs,b1,b⟩,⟨us,c,f⟩,ne⟩:=h;exact⟨⟨dx,v,e _ _ a1,a.ext e⟩,⟨vs,e _ _ b1,ft (λ_ _ z=>e _ _ z) b⟩,⟨us,e _ _ c,ft (λ_ _ z=>e _ _ z) f⟩,ne⟩
def xP{F:α->β->Prop}{d:List α}{R:List β}{z:β}(h:Paired F d (R++[z])):∃c b,d=c++[b]/\Paired F c R/\F b z:=by
 induction R generalizing d with
 | nil=>
  cases h with
  | cons a t=>
   cases t;exact⟨[],_,rfl,.nil,a⟩
 | cons r R e=>
  cases h with
  | cons a t=>
   obtain⟨c,b,rfl,h1,h2⟩:=e t;exact⟨_::c,b,rfl,.cons a h1,h2⟩
def p4(h:n<=24100):n<sizeLine:=OL h (by decide)
def DkAt.et{K:L8}{d:Dk}(e:Et H H')(h:DkAt K H p l1 l2 d):DkAt K H' p l1 l2 d:=by
 obtain⟨⟨dx,v,a1,a⟩,⟨vs,b1,c⟩,⟨us,f,g⟩,ne⟩:=h;have tk:Tk H H':=λb xs z=>e _ _ z λps y=>by cases y
 exact⟨⟨dx,v,e _ _ a1 (λps y=>by cases y),a.tk tk⟩,⟨vs,e _ _ b1 (λps y=>by cases y),ft tk c⟩,⟨us,e _ _ f (λps y=>by cases y),ft tk g⟩,ne⟩
def Fr(K:L8)(H H':Hp)(p l1 l2:Vb):Prop:=(∀b o,H b=Vo o->(∀ps,o≠.tbl ps)->b≠p->b≠l1->b≠l2->H' b=Vo o)/\(Tbs K H->Tbs K H')
def Fr.of{K:L8}(e:Ext H H'):Fr K H H' p l1 l2:=⟨λb o z _ _ _ _=>e b o z,λt=>t.ext e⟩
theorem Fr.ext{K:L8}{H H1 H2:Hp}{p l1 l2:Vb}(a:Fr K H H1 p l1 l2)(e:Ext H1 H2):Fr K H H2 p l1 l2:=⟨λb o z nt c d f=>e _ _ (a.1 b o z nt c d f),λt=>(a.2 t).ext e⟩
def Fr.pre{K:L8}(a:Fr K H1 H2 p l1 l2)(e:Ext H H1):Fr K H H2 p l1 l2:=⟨λb o z nt c d f=>a.1 b o (e _ _ z) nt c d f,λt=>a.2 (t.ext e)⟩
def Fr.mk'{K:L8}{c dx fs vs us}(a:H p=Vo (.ins c dx fs))(h1:H l1=Vo (.lst vs))(h2:H l2=Vo (.lst us))(h:∀b o,H b=Vo o->b≠p->b≠l1->b≠l2->H' b=Vo o):Fr K H H' p l1 l2:=⟨λb o z _=>h b o z,λt=>t.fr λb o z nl d=>h b o z (λe=>by rw[e,a]at z;cases z;exact d _ _ _ rfl) (λe=>by rw[e,h1]at z;cases z;exact nl _ rfl) (λe=>by rw[e,h2]at z;cases z;exact nl _ rfl)⟩
inductive ny(K:L8)(vs:List V)(H:Hp)(Q:VK)(E:XK):Prop|mk:∀p dx,vs=[.ref p]->H p=Vo (.ins (cA K "Desk") dx [])->(∀l1 l2 H',H l1=Vp->H l2=Vp->DkAt K H' p l1 l2 ⟨(1,[]),[],[]⟩->(∀b o,H b=Vo o->b≠p->H' b=Vo o)->Q .non H')->ny K vs H Q E
abbrev jK:Vl:=inClass (stq 124) 0
def AX:FnScope ["self"] ["self"] (aW jK):=⟨rfl,rfl,rfl,by decide +kernel,rfl,by decide +kernel,by decide +kernel⟩
def Ep{f:Vb}(F:Fun K "__init__" "Desk.__init__" jK f fd)(T:Blt mg)(TD:DeskK K mg):FnOk P w K mg base cW 1 f fd ["self"] (ny K):=by
 refine F.ok AX (λvs H Q E h=>?_) (λcdv A outer s H vs Q E O h=>?_)
 .obtain⟨p,dx,rfl,_⟩:=h;rfl
 .obtain⟨p,dx,rfl,B,q⟩:=h;refine⟨_,(ah (jb (pv 0) (aX (aa ag (aa (aX ae) ae))) rfl)
    (ah (jb (pv 0) (aK ae) rfl)
    (aj (jb (pv 0) (aK ae) rfl)))),?_⟩
  left;refine aE λt H1 G I _=>?_;left;refine aE λu H2 C J _=>?_;left;have d:=G.trans C;refine⟨p,_,dx,_,rfl,d _ _ B,TD.cl,TD.nH,(by decide),?_⟩;have hv:cc H2 (.ref u) (1,[]):=⟨⟨u,t,rfl,J,[],C _ _ I,rfl,λj b k h=>by simp at h⟩,⟨by decide,by decide,LI _,λw h=>(nomatch h),Pp⟩⟩;left;refine aE λl1 L l m c=>?_;left;refine⟨p,_,dx,_,rfl,l _ _ ay,TD.cl,TD.nP,(by have:=j5 "house" (V.ref u) [];exact OL this (by decide)),?_⟩;left;refine aE λl2 M n r a=>?_;left;refine⟨p,_,dx,_,rfl,n _ _ ay,TD.cl,TD.nU,(by have h1:=j5 "house" (V.ref u) [];have h2:=j5 "past" (V.ref l1) (bH "house" (V.ref u) []);have R:([]:List (Vn×V)).length=0:=rfl;omega),?_⟩;left;have v:=d _ _ B;have x:l1≠p:=λe=>by rw[e,ay]at c;cases c
  have y:l2≠p:=λe=>by rw[e,ay]at a;cases a
  have i:H2 l1=Vp:=by rw[aq x]at c;exact c
  have g:upd L p (.ins (cA K "Desk") dx (bH "past" (.ref l1) (bH "house" (.ref u) []))) l1=Vo (.lst []):=by rw[aq x];exact m
  have all:∀b o,H2 b=Vo o->b≠p->upd M p (.ins (cA K "Desk") dx (bH "undone" (.ref l2) (bH "past" (.ref l1) (bH "house" (.ref u) [])))) b=Vo o:=λb o z nb=>by rw[aq nb];refine n _ _ ?_;rw[aq nb];refine l _ _ ?_;rw[aq nb];exact z
  have N:l1≠l2:=λe=>by rw[<-e,g]at a;cases a
  refine q l1 l2 _ (d.none i) ?_ ⟨⟨dx,.ref u,ay,hv.tk λb xs z=>all b _ z (cY z v (by intro z;cases z))⟩,⟨[],by rw[aq x];exact n _ _ g,.nil⟩,⟨[],by rw[aq y];exact r,.nil⟩,N⟩ λb o hb hne=>all b o (d _ _ hb) hne;refine d.none ?_;rw[aq y]at a;have:=l.none a
  rwa [aq y]at this
inductive mZ(K:L8)(vs:List V)(H:Hp)(Q:VK)(E:XK):Prop|mk:∀p l1 l2 d v h,vs=[.ref p,v]->DkAt K H p l1 l2 d->cc H v h->d.past.length<=10000->(∀a H',H a=Vp->DkAt K H' p l1 a (d.doD h)->Fr K H H' p l1 l2->Q .non H')->mZ K vs H Q E
abbrev jI:Vl:=inClass (stq 124) 2
def sR:FnScope ["self","house"] ["self","house"] (aW jI):=⟨rfl,rfl,rfl,by decide +kernel,rfl,by decide +kernel,by decide +kernel⟩
def Hf(D:MDfn K (cA K "Desk") "do" "Desk.do" jI ["self","house"])(T:Blt mg)(TD:DeskK K mg):MetX P w K mg base (cA K "Desk") "do" 1 ["self","house"] (mZ K):=by
 refine D.okX sR (λvs H Q E h=>?_) (λf cdv A outer s H vs Q E y h=>?_)
 .obtain⟨p,l1,l2,d,v,h,rfl,_⟩:=h;rfl
 .obtain⟨p,l1,l2,d,v,h,rfl,D,hv,B,q⟩:=h;obtain⟨⟨dx,c,a1,u⟩,⟨vs,b1,n⟩,⟨us,x,C⟩,ne⟩:=id D;have g:p≠l1:=cY a1 b1 (by intro z;cases z);have F:=N9 n;refine⟨_,(ah (bp (cx K Ml Mx Mz dY (eo (pv 0) rfl) (aa (eo (pv 0) rfl) ae)))
    (ah (jb (pv 0) (pv 1) rfl)
    (aj (jb (pv 0) (aK ae) rfl)))),?_⟩
  left;refine⟨p,_,dx,_,_,rfl,a1,TD.cl,TD.nP,lR _ _ _,?_⟩;refine⟨dR (af.of b1),?_⟩;left;refine⟨p,_,dx,_,_,rfl,a1,TD.cl,TD.nH,gr _ _ _,?_⟩;left;refine iU b1 (p4 (by omega)) ?_;left;have ap:upd H l1 (.lst (vs++[c])) p=Vo (.ins (cA K "Desk") dx (bU c l1 l2)):=by rw[aq g];exact a1
  refine⟨p,_,dx,_,rfl,ap,TD.cl,TD.nH,mS _ _ _,?_⟩;rw[oa];left;refine aE λi r l m a=>?_;left;refine⟨p,_,dx,_,rfl,l _ _ ay,TD.cl,TD.nU,mS _ _ _,?_⟩;rw[Jk];have j:i≠p:=λe=>by rw[e,ay]at a;cases a
  have k:i≠l1:=λe=>by rw[e,aq g.symm,ay]at a;cases a
  have all:∀b o,H b=Vo o->b≠p->b≠l1->upd r p (.ins (cA K "Desk") dx (bU v l1 i)) b=Vo o:=λb o z nb nl=>by rw[aq nb];refine l _ _ ?_;rw[aq nb,aq nl];exact z
  have tk:Tk H (upd r p (.ins (cA K "Desk") dx (bU v l1 i))):=λb xs z=>all b _ z (cY z a1 (by intro z;cases z)) (cY z b1 (by intro z;cases z));refine q i _ ?_ ⟨⟨dx,v,ay,hv.tk tk⟩,⟨vs++[c],?_,O8 (ft tk n) (u.tk tk)⟩,⟨[],by rw[aq j];exact m,.nil⟩,k.symm⟩ (Fr.mk' a1 b1 x λb o z j k _=>all b o z j k)
  .rw[aq j,aq k]at a;exact a
  .rw[aq g.symm];refine l _ _ ?_;rw[aq g.symm,ay]
inductive mn(K:L8)(vs:List V)(H:Hp)(Q:VK)(E:XK):Prop|mk:∀p l1 l2 d,vs=[.ref p]->DkAt K H p l1 l2 d->d.und.length<=10000->(d.past=[]->∀H',Ext H H'->E (.ref (cA K "NoDeed")) Vp H')->(∀ps h,d.past=ps++[h]->∀H',DkAt K H' p l1 l2 ⟨h,ps,d.und++[d.cur]⟩->Fr K H H' p l1 l2->Q .non H')->mn K vs H Q E
abbrev jV:Vl:=inClass (stq 124) 3
def ve:FnScope ["self"] ["self"] (aW jV):=⟨rfl,rfl,rfl,by decide +kernel,rfl,by decide +kernel,by decide +kernel⟩
def Ir(D:MDfn K (cA K "Desk") "undo" "Desk.undo" jV ["self"])(T:Blt mg)(u:Xf K mg base fK fC)(TD:DeskK K mg):MetX P w K mg base (cA K "Desk") "undo" 1 ["self"] (mn K):=by
 refine D.okX ve (λvs H Q E h=>?_) (λf cdv A outer s H vs Q E J h=>?_)
 .obtain⟨p,l1,l2,d,rfl,_⟩:=h;rfl
 .obtain⟨p,l1,l2,d,rfl,D,L,v,q⟩:=h;obtain⟨⟨dx,c,a1,x⟩,⟨vs,b1,j⟩,⟨us,e,l⟩,ne⟩:=id D;have g:p≠l1:=cY a1 b1 (by intro z;cases z);have i:p≠l2:=cY a1 e (by intro z;cases z);have ul:=N9 l;refine⟨_,(ah (ba (cj (jt K (eo (pv 0) rfl) (λ_=>rfl))) (aj (i4 (u.own "NoDeed" (by decide +kernel)) NZ (aa ao ae))) aT)
    (ah (bp (cx K Ml Mx Mz dY (eo (pv 0) rfl) (aa (eo (pv 0) rfl) ae)))
    (aj (jb (pv 0) (mx K Ml Oz O0 lU (eo (pv 0) rfl)) rfl)))),?_⟩
  left;refine⟨p,_,dx,_,_,rfl,a1,TD.cl,TD.nP,lR _ _ _,?_⟩;by_cases k:d.past=[]
  .have:vs=[]:=by rw[k]at j;cases j;rfl
   subst this;refine⟨false,.inl ⟨_,af.of b1,rfl⟩,?_⟩;right;exact⟨by decide,v k _ (Ext.rfl' _)⟩
  obtain⟨ps,h,m⟩:∃ps h,d.past=ps++[h]:=⟨d.past.dropLast,d.past.getLast k,(Ot k).symm⟩;have q:=q ps h m;rw[m]at j;obtain⟨a,w,rfl,b3,y⟩:∃a w,vs=a++[w]/\Paired (cc H) a ps/\cc H w h:=xP j;refine⟨true,.inl ⟨_,af.of b1,by simp⟩,?_⟩;nofun;refine⟨p,_,dx,_,_,rfl,a1,TD.cl,TD.nU,pJ _ _ _,?_⟩;refine⟨dR (af.of e),?_⟩;left;refine⟨p,_,dx,_,_,rfl,a1,TD.cl,TD.nH,gr _ _ _,?_⟩;left;refine iU e (p4 (by omega)) ?_;left;have n:upd H l2 (.lst (us++[c])) p=Vo (.ins (cA K "Desk") dx (bU c l1 l2)):=by rw[aq i];exact a1
  have r:upd H l2 (.lst (us++[c])) l1=Vo (.lst (a++[w])):=by rw[aq ne];exact b1
  refine⟨p,_,dx,_,_,rfl,n,TD.cl,TD.nP,lR _ _ _,?_⟩;refine⟨dR (af.of r),?_⟩;left;refine⟨l1,_,w,rfl,rfl,r,by rw[Mu,N5,Nat.add_sub_cancel,MB (Mw _),RK];rfl,?_⟩;rw[Oa];left;have B:upd (upd H l2 (.lst (us++[c]))) l1 (.lst a) p=Vo (.ins (cA K "Desk") dx (bU c l1 l2)):=by rw[aq g];exact n
  refine⟨p,_,dx,_,rfl,B,TD.cl,TD.nH,mS _ _ _,?_⟩;rw[oa];have all:∀b o,H b=Vo o->b≠p->b≠l1->b≠l2->upd (upd (upd H l2 (.lst (us++[c]))) l1 (.lst a)) p (.ins (cA K "Desk") dx (bU w l1 l2)) b=Vo o:=λb o z C G I=>by rw[aq C,aq G,aq I];exact z
  have tk:Tk H (upd (upd (upd H l2 (.lst (us++[c]))) l1 (.lst a)) p (.ins (cA K "Desk") dx (bU w l1 l2))):=λb xs z=>all b _ z (cY z a1 (by intro z;cases z)) (cY z b1 (by intro z;cases z)) (cY z e (by intro z;cases z));exact q _ ⟨⟨dx,w,ay,y.tk tk⟩,⟨a,by rw[aq g.symm,ay],ft tk b3⟩,⟨us++[c],by rw[aq i.symm,aq ne.symm,ay],O8 (ft tk l) (x.tk tk)⟩,ne⟩ (Fr.mk' a1 b1 e all)
inductive mI(K:L8)(vs:List V)(H:Hp)(Q:VK)(E:XK):Prop|mk:∀p l1 l2 d,vs=[.ref p]->DkAt K H p l1 l2 d->d.past.length<=10000->(d.und=[]->∀H',Ext H H'->E (.ref (cA K "NoDeed")) Vp H')->(∀us h,d.und=us++[h]->∀H',DkAt K H' p l1 l2 ⟨h,d.past++[d.cur],us⟩->Fr K H H' p l1 l2->Q .non H')->mI K vs H Q E
abbrev jG:Vl:=inClass (stq 124) 4
def wQ:FnScope ["self"] ["self"] (aW jG):=⟨rfl,rfl,rfl,by decide +kernel,rfl,by decide +kernel,by decide +kernel⟩
def LP(D:MDfn K (cA K "Desk") "redo" "Desk.redo" jG ["self"])(T:Blt mg)(u:Xf K mg base fK fC)(TD:DeskK K mg):MetX P w K mg base (cA K "Desk") "redo" 1 ["self"] (mI K):=by
 refine D.okX wQ (λvs H Q E h=>?_) (λf cdv A outer s H vs Q E L h=>?_)
 .obtain⟨p,l1,l2,d,rfl,_⟩:=h;rfl
 .obtain⟨p,l1,l2,d,rfl,D,M,v,q⟩:=h;obtain⟨⟨dx,c,a1,x⟩,⟨us,b1,l⟩,⟨vs,e,j⟩,ne⟩:=id D;have g:p≠l1:=cY a1 b1 (by intro z;cases z);have i:p≠l2:=cY a1 e (by intro z;cases z);have ul:=N9 l;refine⟨_,(ah (ba (cj (jt K (eo (pv 0) rfl) (λ_=>rfl))) (aj (i4 (u.own "NoDeed" (by decide +kernel)) NZ (aa ao ae))) aT)
    (ah (bp (cx K Ml Mx Mz dY (eo (pv 0) rfl) (aa (eo (pv 0) rfl) ae)))
    (aj (jb (pv 0) (mx K Ml Oz O0 lU (eo (pv 0) rfl)) rfl)))),?_⟩
  left;refine⟨p,_,dx,_,_,rfl,a1,TD.cl,TD.nU,pJ _ _ _,?_⟩;by_cases k:d.und=[]
  .have:vs=[]:=by rw[k]at j;cases j;rfl
   subst this;refine⟨false,.inl ⟨_,af.of e,rfl⟩,?_⟩;right;exact⟨by decide,v k _ (Ext.rfl' _)⟩
  obtain⟨ps,h,m⟩:∃ps h,d.und=ps++[h]:=⟨d.und.dropLast,d.und.getLast k,(Ot k).symm⟩;have q:=q ps h m;rw[m]at j;obtain⟨a,w,rfl,y,B⟩:∃a w,vs=a++[w]/\Paired (cc H) a ps/\cc H w h:=xP j;refine⟨true,.inl ⟨_,af.of e,by simp⟩,?_⟩;nofun;refine⟨p,_,dx,_,_,rfl,a1,TD.cl,TD.nP,lR _ _ _,?_⟩;refine⟨dR (af.of b1),?_⟩;left;refine⟨p,_,dx,_,_,rfl,a1,TD.cl,TD.nH,gr _ _ _,?_⟩;left;refine iU b1 (p4 (by omega)) ?_;left;have n:upd H l1 (.lst (us++[c])) p=Vo (.ins (cA K "Desk") dx (bU c l1 l2)):=by rw[aq g];exact a1
  have r:upd H l1 (.lst (us++[c])) l2=Vo (.lst (a++[w])):=by rw[aq ne.symm];exact e
  refine⟨p,_,dx,_,_,rfl,n,TD.cl,TD.nU,pJ _ _ _,?_⟩;refine⟨dR (af.of r),?_⟩;left;refine⟨l2,_,w,rfl,rfl,r,by rw[Mu,N5,Nat.add_sub_cancel,MB (Mw _),RK];rfl,?_⟩;rw[Oa];left;have C:upd (upd H l1 (.lst (us++[c]))) l2 (.lst a) p=Vo (.ins (cA K "Desk") dx (bU c l1 l2)):=by rw[aq i];exact n
  refine⟨p,_,dx,_,rfl,C,TD.cl,TD.nH,mS _ _ _,?_⟩;rw[oa];have all:∀b o,H b=Vo o->b≠p->b≠l1->b≠l2->upd (upd (upd H l1 (.lst (us++[c]))) l2 (.lst a)) p (.ins (cA K "Desk") dx (bU w l1 l2)) b=Vo o:=λb o z G I J=>by rw[aq G,aq J,aq I];exact z
  have tk:Tk H (upd (upd (upd H l1 (.lst (us++[c]))) l2 (.lst a)) p (.ins (cA K "Desk") dx (bU w l1 l2))):=λb xs z=>all b _ z (cY z a1 (by intro z;cases z)) (cY z b1 (by intro z;cases z)) (cY z e (by intro z;cases z));exact q _ ⟨⟨dx,w,ay,B.tk tk⟩,⟨us++[c],by rw[aq g.symm,aq ne,ay],O8 (ft tk l) (x.tk tk)⟩,⟨a,by rw[aq i.symm,ay],ft tk y⟩,ne⟩ (Fr.mk' a1 b1 e all)
def bB(d:Dk):Cmd->Except Vn (Vn×Dk)
 | .rooms n=>.ok (aV n [],d.doD (n,[]))
 | .way w=>match dF d.cur w with
  | .error z=>.error z
  | .ok h=>.ok (aV h.1 h.2,d.doD h)
 | .close w=>match fg d.cur w with
  | .error z=>.error z
  | .ok h=>.ok (aV h.1 h.2,d.doD h)
 | .turn=>.ok (aV d.cur.1 (d.cur.2.map Way.turn),d.doD (d.cur.1,d.cur.2.map Way.turn))
 | .undo=>match d.past.getLast? with
  | none=>.error "NoDeed"
  | some h=>.ok (aV h.1 h.2,⟨h,d.past.dropLast,d.und++[d.cur]⟩)
 | .redo=>match d.und.getLast? with
  | none=>.error "NoDeed"
  | some h=>.ok (aV h.1 h.2,⟨h,d.past++[d.cur],d.und.dropLast⟩)
 | .show=>.ok (aV d.cur.1 d.cur.2,d)
 | .ask _ _=>.ok ("",d)
def iM(K:L8):List (Key×V):=[(.inr "rooms",.ref (cA K "rooms_deed")),(.inr "way",.ref (cA K "way_deed")),(.inr "close",.ref (cA K "close_deed")),(.inr "turn",.ref (cA K "turn_deed"))]
def eV(K:L8):List (Key×V):=[(.inr "show",.ref (cA K "show_ask")),(.inr "reach",.ref (cA K "reach_ask")),(.inr "forward",.ref (cA K "forward_ask")),(.inr "backward",.ref (cA K "backward_ask")),(.inr "most",.ref (cA K "most_ask")),(.inr "fate",.ref (cA K "fate_ask")),(.inr "word",.ref (cA K "word_ask"))]
def Je{K:L8}(h:z∈(["rooms","way","close","turn","undo","redo"]:List Vn)):aZ (eV K) (.inr z)=Vp:=by
 have n:∀y∈(["show","reach","forward","backward","most","fate","word"]:List Vn),∀z∈(["rooms","way","close","turn","undo","redo"]:List Vn),y≠z:=by decide +kernel
 unfold eV
 repeat rw [dk (λe=>n _ (by simp) z h (Nz e))]
 rfl
def mz(K):aZ (iM K) (.inr "rooms")=Vo (.ref (cA K "rooms_deed"))/\aZ (iM K) (.inr "way")=Vo (.ref (cA K "way_deed"))/\aZ (iM K) (.inr "close")=Vo (.ref (cA K "close_deed"))/\aZ (iM K) (.inr "turn")=Vo (.ref (cA K "turn_deed")):=by
 have n:("rooms":Vn)≠"way"/\("rooms":Vn)≠"close"/\("rooms":Vn)≠"turn"/\("way":Vn)≠"close"/\("way":Vn)≠"turn"/\("close":Vn)≠"turn":=by decide +kernel
 obtain⟨a,b,c,d,f,g⟩:=n;unfold iM;refine⟨cQ rfl,?_,?_,?_⟩
 .rw[dk (λe=>a (Nz e)),cQ rfl]
 .rw[dk (λe=>b (Nz e)),dk (λe=>d (Nz e)),cQ rfl]
 .rw[dk (λe=>c (Nz e)),dk (λe=>f (Nz e)),dk (λe=>g (Nz e)),cQ rfl]
def Told(K:L8)(H:Hp)(p l1 l2:Vb)(Q:VK)(E:XK):Except Vn (Vn×Dk)->Prop
 | .error nm=>∀H',Ext H H'->E (.ref (cA K nm)) Vp H'
 | .ok (z,d')=>∀a H',(a=l2\/H a=Vp)->DkAt K H' p l1 a d'->Fr K H H' p l1 l2->Q (.str z) H'
def CG(h:Vn)(ns:List Int):Prop:=∃n:Int,0<=n/\n<=12/\((h = "reach"/\ns=[0,n,0,0])\/(h = "forward"/\ns=[0,n,0])\/(h = "backward"/\ns=[0,n,0])\/(h = "most"/\ns=[0,n])\/(h = "fate"/\ns=[0,n])\/(h = "word"/\ns=[0,0]))
def jB(K:L8)(f:Int->List Int):Sp:=λvs H Q _=>∃v pt n,vs=[v,.ref pt]/\cc H v (2,[])/\0<=n/\n<=12/\H pt=Vo (.lst ((f n).map V.int))/\dU K/\Tbs K H/\∀(y:Vn) H',(PyData.str y).canLay0=true->Et H H'->Tbs K H'->Q (.str y) H'
def Ad(K:L8):Sp:=jB K λn=>[0,n,0,0]
def tI(K:L8):Sp:=jB K λn=>[0,n,0]
def sD(K:L8):Sp:=jB K λn=>[0,n,0]
def BU(K:L8):Sp:=jB K λn=>[0,n]
def Cw(K:L8):Sp:=jB K λn=>[0,n]
def ur(K:L8):Sp:=jB K λ_=>[0,0]
def Lp(K):aZ (eV K) (.inr "reach")=Vo (.ref (cA K "reach_ask"))/\aZ (eV K) (.inr "forward")=Vo (.ref (cA K "forward_ask"))/\aZ (eV K) (.inr "backward")=Vo (.ref (cA K "backward_ask"))/\aZ (eV K) (.inr "most")=Vo (.ref (cA K "most_ask"))/\aZ (eV K) (.inr "fate")=Vo (.ref (cA K "fate_ask"))/\aZ (eV K) (.inr "word")=Vo (.ref (cA K "word_ask")):=by
 have go:∀{kvs:List (Key×V)} {a b:Vn} {x:V},a≠b->aZ ((.inr a,x)::kvs) (.inr b)=aZ kvs (.inr b):=λh=>dk λe=>h (Nz e);obtain⟨c,d,f,g,i,j⟩:(∀y∈(["reach","forward","backward","most","fate","word"]:List Vn),("show":Vn)≠y)/\(∀y∈(["forward","backward","most","fate","word"]:List Vn),("reach":Vn)≠y)/\(∀y∈(["backward","most","fate","word"]:List Vn),("forward":Vn)≠y)/\(∀y∈(["most","fate","word"]:List Vn),("backward":Vn)≠y)/\(∀y∈(["fate","word"]:List Vn),("most":Vn)≠y)/\(∀y∈(["word"]:List Vn),("fate":Vn)≠y):=by decide +kernel
 unfold eV;refine⟨?_,?_,?_,?_,?_,?_⟩
 .rw[go (c _ (by simp)),cQ rfl]
 .rw[go (c _ (by simp)),go (d _ (by simp)),cQ rfl]
 .rw[go (c _ (by simp)),go (d _ (by simp)),go (f _ (by simp)),cQ rfl]
 .rw[go (c _ (by simp)),go (d _ (by simp)),go (f _ (by simp)),go (g _ (by simp)),cQ rfl]
 .rw[go (c _ (by simp)),go (d _ (by simp)),go (f _ (by simp)),go (g _ (by simp)),go (i _ (by simp)),cQ rfl]
 .rw[go (c _ (by simp)),go (d _ (by simp)),go (f _ (by simp)),go (g _ (by simp)),go (i _ (by simp)),go (j _ (by simp)),cQ rfl]
def kY(K:L8)(H:Hp)(d:Dk):Cmd->Prop
 | .ask h ns=>d.cur=(2,[])/\CG h ns/\dU K/\Tbs K H
 | _=>True
def nF(d:Dk)(c:Cmd)(r:Except Vn (Vn×Dk)):Prop:=match c with
 | .ask _ _=>∃y:Vn,(PyData.str y).canLay0=true/\r=.ok (y,d)
 | c=>r=bB d c
def nY(K:L8)(H:Hp)(d:Dk)(z:Vn)(S:Except Vn (Vn×Dk)->Prop):Prop:=(∃c,z=Cmd.line c/\c.Ok/\kY K H d c/\S=nF d c)\/(bS (M4 z " ")=false/\S=λr=>r=.error "NoLine")
def Gm(z):∃h t,M4 z " " = h::t:=by
 cases e:M4 z " " with
 | nil=>exact absurd e (xY z 32)
 | cons h t=>exact⟨h,t,rfl⟩
inductive lJ(K:L8)(vs:List V)(H:Hp)(Q:VK)(E:XK):Prop|mk:∀p l1 l2 d z,vs=[.ref p,.str z]->DkAt K H p l1 l2 d->z.length<=1000->d.past.length<=10000->d.und.length<=10000->(∃S,nY K H d z S/\∀r,S r->Told K H p l1 l2 Q E r)->lJ K vs H Q E
abbrev jJ:Vl:=inClass (stq 124) 1
def Bf:FnScope ["self","line","words","parts"] ["self","line"] (aW jJ):=⟨rfl,rfl,rfl,by decide +kernel,rfl,by decide +kernel,by decide +kernel⟩
def Ed(D:MDfn K (cA K "Desk") "tell" "Desk.tell" jJ ["self","line"])(T:Blt mg)(a6:∃a,mg "DEEDS" = Vo (.ref a)/\GDict w K a (iM K))(ac:∃a,mg "ASKS" = Vo (.ref a)/\GDict w K a (eV K))(XF:Xf K mg base fK fC)(TD:DeskK K mg)(x:MetX P w K mg base (cA K "Desk") "undo" 1 ["self"] (mn K))(B:MetX P w K mg base (cA K "Desk") "redo" 1 ["self"] (mI K))(M:MetX P w K mg base (cA K "Desk") "do" 1 ["self","house"] (mZ K))(l:qA P w mg base)(C:B5 P w mg base)(I:Cf P w mg base)(N:Ab P w mg base)(J:Cal P w K mg base "reach_ask" 8 ["house","parts"] (Ad K))(m:Cal P w K mg base "forward_ask" 11 ["house","parts"] (tI K))(k:Cal P w K mg base "backward_ask" 12 ["house","parts"] (sD K))(O:Cal P w K mg base "most_ask" 12 ["house","parts"] (BU K))(R:Cal P w K mg base "fate_ask" 13 ["house","parts"] (Cw K))(U:Cal P w K mg base "word_ask" 10 ["house","parts"] (ur K))(W:x9 P w mg base)(Y:BM P w mg base)(L:CalX P w K mg base "way_deed" 3 ["house","parts"] (mH K))(q:CalX P w K mg base "close_deed" 1 ["house","parts"] (nj K)):MetX P w K mg base (cA K "Desk") "tell" 14 ["self","line"] (lJ K):=by
 have nd:=(Bf).nd;refine D.okX Bf (λvs H Q E h=>?_) (λf cdv A outer s H vs Q E hr h=>?_)
 .obtain⟨p,l1,l2,d,z,rfl,_⟩:=h;rfl
 .obtain⟨an,a7,a8⟩:=a6;obtain⟨b0,a0,a3⟩:=ac;obtain⟨p,l1,l2,d,z,rfl,D,hz,f1,f2,r⟩:=h;refine⟨_,(ah (aw (i:=2) nd rfl (Or.inl rfl) (cx K Nq RL RM xp (pv 1) (aa ao ae)))
    (ah (ba (cj (bF (av Y hr (aa (pv 2) ae)))) (aj (i4 (XF.own "NoLine" (by decide +kernel)) NZ (aa ao ae))) aT)
    (ah (fL (i:=3) ["word"] [] nd rfl (Or.inl rfl) (bG K (eM (gn K) (pv 2) (dW ag) fi)) (λ_=>(aI (i:=0) (show(["word"]:List Vn).Nodup from by decide +kernel) rfl (Or.inl rfl) (Or.inr rfl))) (λ_=>ck) (λ_=>(av W hr (aa (pv 0) ae))))
    (ah (ba (ik (sF rfl a0 a3 (ai (aF K) (pv 2) ag (λ_ _=>rfl))) (by with_unfolding_all rfl)) (aj (az (yh hr (ky rfl a0 a3 (ai (aF K) (pv 2) ag (λ_ _=>rfl)) (λ_ _=>rfl)) (aa (eo (pv 0) rfl) (aa (pv 3) ae))))) aT)
    (ah (fq (aP cM (ai (aF K) (pv 2) ag (λ_ _=>rfl)) ao (aN _)) (aj (bp (xq x TD.cl hr (pv 0)))) (aj (fq (aP cM (ai (aF K) (pv 2) ag (λ_ _=>rfl)) ao (aN _)) (aj (bp (xq B TD.cl hr (pv 0)))) (aj (bp (Hi M TD.cl hr (pv 0) (aa (yh hr (ky rfl a7 a8 (ai (aF K) (pv 2) ag (λ_ _=>rfl)) (λ_ _=>rfl)) (aa (eo (pv 0) rfl) (aa (pv 3) ae))) ae)))))))
    (aj (az (av l hr (aa (eo (pv 0) rfl) ae))))))))),?_⟩
  left;refine⟨rfl,?_⟩;left;refine⟨_,_,rfl,rfl,rfl,aS (by omega),λwl ap=>?_⟩;have ad:(M4 z " ").length<=z.length+2:=FR z 32;have Z:∀y∈M4 z " ",y.length<=z.length:=GO;obtain⟨hd,tl,hs⟩:=Gm z;rw[show M4 z (MN " ")=hd::tl from hs];rw[hs]at ad Z;have e1:Ext H (upd H wl (.lst ((hd::tl).map V.str))):=aO ap;have h1:upd H wl (.lst ((hd::tl).map V.str)) wl=Vo (.lst ((hd::tl).map V.str)):=ay;generalize upd H wl (.lst ((hd::tl).map V.str))=H1 at e1 h1 ⊢;left;refine⟨wl,hd,tl,rfl,h1,by omega,λy hy=>by have:=Z y hy;omega,λH2 e2=>?_⟩;left;obtain⟨S,hS,r⟩:=r;rcases hS with⟨c,rfl,ok,b1,rfl⟩|⟨hb,rfl⟩
  rotate_left
  .have r:Told K H p l1 l2 Q E (.error "NoLine"):=r _ rfl;rw[hs]at hb;rw[hb];right;exact⟨by decide,r _ (e1.trans e2)⟩
  have rA:=r;have r:Told K H p l1 l2 Q E (bB d c):=r _ (by cases c<;>first|exact ⟨"",by decide +kernel,rfl⟩|rfl);obtain⟨k1,k2,k3⟩:=Cmd.at_ ok;obtain⟨k4,_⟩:=Cmd.tail_low ok;rw[Cmd.split ok]at hs;obtain⟨rfl,rfl⟩:c.head=hd/\c.tail=tl:=by injection hs with a b;exact⟨a,b⟩
  clear hs Z ad;have h1:H1 wl=Vo (.lst (c.words.map V.str)):=h1;rw[show bS (c.head::c.tail)=true from uo ok];nofun;have h2:=e2 _ _ h1;refine gX (af.of h2) (bu λG H3 e3 a4 _=>?_);rw[show cn (c.words.map V.str) (Vo 1) Vp=c.tail.map V.str from rZ (xs:=c.words.map V.str) (n:=1) (by simp)]at a4;refine bI (af.of a4) ?_;refine fb (xs:=c.tail.map V.str) (λi ys H'=>Ext H3 H'/\ys=c.parts.take i) (aS (by rw[Mc];omega)) ⟨Ext.rfl' _,rfl⟩ (λi ys H' _ h=>⟨af.of (h.1 _ _ a4),by rw[h.2,MV];exact Ng _ _⟩) ?_ ?_
  .rintro i u ys H4 hu ⟨e4,rfl⟩;rw[Mf]at hu;obtain⟨z,hz,rfl⟩:=Mp.mp hu;have hk:=Me (show i<c.kinds.length by rw[k1];exact(Mm.mp hz).1);obtain⟨v,hv,hw⟩:=k3 i _ z hk hz;left;right;refine⟨_,z,v,rfl,hw,λH5 e5=>⟨e4.trans e5,?_⟩⟩;rw[Nm,hv];rfl
  rintro ys H4 pt ⟨e4,rfl⟩ am;rw[Mc,<-k2,MF];have e5:=(e1.trans (e2.trans (e3.trans e4))).trans (aO (o:=.lst c.parts) am);have a9:upd H4 pt (.lst c.parts) pt=some (.lst c.parts):=ay;have X:=((e3.trans e4).trans (aO (o:=.lst c.parts) am)) _ _ h2;generalize upd H4 pt (.lst c.parts)=H5 at e5 a9 X ⊢;clear e4 e3 a4 h2 e2 h1 e1 am ap;have D5:=D.ext e5;obtain⟨⟨dx,v,a1,a2⟩,_,_,_⟩:=id D5;left;refine aH (af.of X) (v:=.str c.head) (aM (j:=0) rfl) ?_;refine⟨.inr c.head,rfl,?_⟩;by_cases Z:c=.show
  .subst Z;refine rd_exb (aD ?_);left;refine aH (af.of X) (v:=.str "show") (aM (j:=0) rfl) ?_;refine ee (cQ rfl) ?_;refine⟨"show_ask",_,_,_,rfl,TD.df _ (by simp),N.toX,by decide,?_⟩;left;refine⟨p,_,dx,_,_,rfl,a1,TD.cl,TD.nH,gr _ _ _,?_⟩;left;have r2:Told K H p l1 l2 Q E (.ok (aV d.cur.1 d.cur.2,d)):=r;clear r;exact⟨v,d.cur,_,rfl,a2,λg e=>r2 l2 g (.inl rfl) (D5.ext e) (Fr.of (e5.trans e))⟩
  by_cases ab:∃h ns,c=.ask h ns
  .obtain⟨h,ns,rfl⟩:=ab;obtain⟨ar,⟨n,n0,b2,hh⟩,b3,tb⟩:=b1;rw[ar]at a2;have fin:∀(y:Vn) g,(PyData.str y).canLay0=true->Et H5 g->Tbs K g->Q (.str y) g:=λy g hy e t6=>rA (.ok (y,d)) ⟨y,hy,rfl⟩ l2 g (.inl rfl) (D5.et e) ⟨λb o z nt _ _ _=>e _ _ (e5 _ _ z) nt,λ_=>t6⟩;have b4:=tb.ext e5;obtain⟨q1,q2,q3,q4,q5,q6⟩:=Lp K;rcases hh with⟨rfl,rfl⟩|⟨rfl,rfl⟩|⟨rfl,rfl⟩|⟨rfl,rfl⟩|⟨rfl,rfl⟩|⟨rfl,rfl⟩
   all_goals
    dsimp only[Cmd.head]
    first|rw [q1]|rw [q2]|rw [q3]|rw [q4]|rw [q5]|rw [q6]
    refine rd_exb (aD ?_);left;refine aH (af.of X) (v:=.str _) (aM (j:=0) rfl) ?_
    first|refine ee q1 ?_|refine ee q2 ?_|refine ee q3 ?_|refine ee q4 ?_|refine ee q5 ?_|refine ee q6 ?_
    refine⟨_,_,_,_,rfl,TD.df _ (by simp),(by first|exact J.toX|exact m.toX|exact k.toX|exact O.toX|exact R.toX|exact U.toX),by decide,?_⟩;left;refine⟨p,_,dx,_,_,rfl,a1,TD.cl,TD.nH,gr _ _ _,?_⟩;left;exact⟨v,pt,n,rfl,a2,n0,b2,a9,b3,b4,fin⟩
  have hno:aZ (eV K) (.inr c.head)=Vp:=Je (by
   cases c with
   | rooms n=>exact .head _
   | way w=>exact .tail _ (.head _)
   | close w=>exact .tail _ (.tail _ (.head _))
   | turn=>exact .tail _ (.tail _ (.tail _ (.head _)))
   | undo=>exact .tail _ (.tail _ (.tail _ (.tail _ (.head _))))
   | redo=>exact .tail _ (.tail _ (.tail _ (.tail _ (.tail _ (.head _)))))
   | «show»=>exact absurd rfl Z
   | ask h ns=>exact absurd ⟨h,ns,rfl⟩ ab)
  rw[hno];refine rd_exb (aC ?_);clear hno;left;refine mL (λσ H'=>σ=[Vo (.ref p),Vo (.str c.line),Vo (.ref wl),Vo (.ref pt)]/\∃G d',bB d c=.ok (aV d'.cur.1 d'.cur.2,d')/\(G=l2\/H G=Vp)/\DkAt K H' p l1 G d'/\Fr K H H' p l1 l2) ?_ ?_
  rotate_left
  .rintro σ g ⟨rfl,G,d',hd,a4,D6,b5⟩;obtain⟨⟨b6,v',b7,as⟩,_,_,_⟩:=id D6;rw[hd]at r;left;refine⟨p,_,b6,_,_,rfl,b7,TD.cl,TD.nH,gr _ _ _,?_⟩;left;exact⟨v',_,_,rfl,as.1,as.2,λH7 e7=>r G H7 a4 (D6.ext e7) (b5.ext e7)⟩
  have a5:∀{g G d'},bB d c=.ok (aV d'.cur.1 d'.cur.2,d')->(G=l2\/H5 G=Vp)->DkAt K g p l1 G d'->Fr K H5 g p l1 l2->∃G d',bB d c=.ok (aV d'.cur.1 d'.cur.2,d')/\(G=l2\/H G=Vp)/\DkAt K g p l1 G d'/\Fr K H g p l1 l2:=λ{g G d'} h1 h2 h3 h4=>⟨G,d',h1,h2.imp id λz=>e5.none z,h3,h4.pre e5⟩;left;refine aH (af.of X) (v:=.str c.head) (aM (j:=0) rfl) ?_;left;refine fZ ?_;rcases c with n|w|w|_|_|_|_|⟨h,ns⟩
  rotate_left 4
  .refine rd_exb (aD ?_);left;refine⟨p,dx,_,rfl,a1,lC _ _ _ (by decide +kernel) (by decide +kernel) (by decide +kernel),?_⟩;left;refine⟨p,l1,l2,d,rfl,D5,f2,λh0 g e=>?_,λps h hp g D6 fr=>?_⟩
   .rw[show bB d .undo=.error "NoDeed" by show(match d.past.getLast? with|none=>_|some h=>_)=_;rw[h0];rfl]at r;exact r _ (e5.trans e)
   .refine⟨rfl,a5 ?_ (.inl rfl) D6 fr⟩;show(match d.past.getLast? with|none=>_|some h=>_)=_;rw[hp,QG];show Except.ok (_,(⟨h,(ps++[h]).dropLast,_⟩:Dk))=_;rw[Oa]
  .refine rd_exb (aC ?_);left;refine mL _ ?_ (λσ H' h=>h);left;refine aH (af.of X) (v:=.str "redo") (aM (j:=0) rfl) ?_;left;refine fZ ?_;refine rd_exb (aD ?_);left;refine⟨p,dx,_,rfl,a1,lC _ _ _ (by decide +kernel) (by decide +kernel) (by decide +kernel),?_⟩;left;refine⟨p,l1,l2,d,rfl,D5,f1,λh0 g e=>?_,λus h hp g D6 fr=>?_⟩
   .rw[show bB d .redo=.error "NoDeed" by show(match d.und.getLast? with|none=>_|some h=>_)=_;rw[h0];rfl]at r;exact r _ (e5.trans e)
   .refine⟨rfl,a5 ?_ (.inl rfl) D6 fr⟩;show(match d.und.getLast? with|none=>_|some h=>_)=_;rw[hp,QG];show Except.ok (_,(⟨h,_,(us++[h]).dropLast⟩:Dk))=_;rw[Oa]
  .exact absurd rfl Z
  .exact absurd ⟨h,ns,rfl⟩ ab
  all_goals
   refine rd_exb (aC ?_);left;refine mL _ ?_ (λσ H' h=>h);left;refine aH (af.of X) (v:=.str _) (aM (j:=0) rfl) ?_;left;refine fZ ?_;refine rd_exb (aC ?_);left;refine⟨_,dx,_,rfl,a1,lC _ _ _ (by decide +kernel) (by decide +kernel) (by decide +kernel),?_⟩;left;refine aH (af.of X) (v:=.str _) (aM (j:=0) rfl) ?_
  .refine ee (mz K).1 ?_;refine⟨"rooms_deed",_,_,_,rfl,TD.df _ (by simp),C.toX,by decide,?_⟩;left;refine⟨_,_,dx,_,_,rfl,a1,TD.cl,TD.nH,gr _ _ _,?_⟩;left;refine⟨v,pt,n,rfl,a9,ok.1,ok.2,λu g e hu=>?_⟩;have hD:bB d (.rooms n)=.ok (aV (d.doD (n,[])).cur.1 (d.doD (n,[])).cur.2,d.doD (n,[])):=rfl;exact⟨p,l1,l2,d,u,(n,[]),rfl,D5.ext e,hu,f1,λG H7 h3 D7 fr=>⟨rfl,a5 hD (.inr (e.none h3)) D7 (fr.pre e)⟩⟩
  .refine ee (mz K).2.1 ?_;refine⟨"way_deed",_,_,_,rfl,TD.df _ (by simp),L,by decide,?_⟩;left;refine⟨_,_,dx,_,_,rfl,a1,TD.cl,TD.nH,gr _ _ _,?_⟩;left;refine⟨v,d.cur,pt,w,rfl,a2,a9,ok,?_⟩;have hD:bB d (.way w)=match dF d.cur w with|.error z=>.error z|.ok h=>.ok (aV h.1 h.2,d.doD h):=rfl
   cases he:dF d.cur w with
   | error nm=>
    rw[hD,he]at r;exact λg e=>r g (e5.trans e)
   | ok h=>
    rw[he]at hD;have hE:bB d (.way w)=.ok (aV (d.doD h).cur.1 (d.doD h).cur.2,d.doD h):=hD;intro u g e hu;exact⟨p,l1,l2,d,u,h,rfl,D5.ext e,hu,f1,λG H7 h3 D7 fr=>⟨rfl,a5 (d':=d.doD h) hE (.inr (e.none h3)) D7 (fr.pre e)⟩⟩
  .refine ee (mz K).2.2.1 ?_;refine⟨"close_deed",_,_,_,rfl,TD.df _ (by simp),q,by decide,?_⟩;left;refine⟨_,_,dx,_,_,rfl,a1,TD.cl,TD.nH,gr _ _ _,?_⟩;left;refine⟨v,d.cur,pt,w,rfl,a2,a9,ok,?_⟩;have hD:bB d (.close w)=match fg d.cur w with|.error z=>.error z|.ok h=>.ok (aV h.1 h.2,d.doD h):=rfl
   cases he:fg d.cur w with
   | error nm=>
    rw[hD,he]at r;exact λg e=>r g (e5.trans e)
   | ok h=>
    rw[he]at hD;have hE:bB d (.close w)=.ok (aV (d.doD h).cur.1 (d.doD h).cur.2,d.doD h):=hD;intro u g e hu;exact⟨p,l1,l2,d,u,h,rfl,D5.ext e,hu,f1,λG H7 h3 D7 fr=>⟨rfl,a5 (d':=d.doD h) hE (.inr (e.none h3)) D7 (fr.pre e)⟩⟩
  .refine ee (mz K).2.2.2 ?_;refine⟨"turn_deed",_,_,_,rfl,TD.df _ (by simp),I.toX,by decide,?_⟩;left;refine⟨_,_,dx,_,_,rfl,a1,TD.cl,TD.nH,gr _ _ _,?_⟩;left;refine⟨v,d.cur,_,rfl,a2,λu g e hu=>?_⟩;have hD:bB d .turn=.ok (aV (d.doD (d.cur.1,d.cur.2.map Way.turn)).cur.1 (d.doD (d.cur.1,d.cur.2.map Way.turn)).cur.2,d.doD (d.cur.1,d.cur.2.map Way.turn)):=rfl;exact⟨p,l1,l2,d,u,(d.cur.1,d.cur.2.map Way.turn),rfl,D5.ext e,hu,f1,λG H7 h3 D7 fr=>⟨rfl,a5 hD (.inr (e.none h3)) D7 (fr.pre e)⟩⟩
local macro_rules|`(tactic| walk_at "ra") => do
 let ts <- ("seq asg c name".splitOn " ").toArray.mapM λn =>
  let i := Lean.mkIdent (.mkSimple ("rd_" ++ n))
  `(tacticSeq| with_reducible refine $i ?_)
 `(tactic| repeat (first $[| $ts]*|dsimp only))
def K0(H:Hp)(c:Vb)(t:Vn×Bool):Prop:=H c=Vo (.tup [.str t.1,.bl t.2])
def named(ts:List (Vn×Bool))(i:Nat):List Vn:=((ts.take i).filter (·.2)).map (·.1)
def GF(h:ts[i]?=Vo t):named ts (i+1)=named ts i++if t.2=true then[t.1]else[]:=by unfold named;rw[List.take_succ,h];simp only[Option.toList_some,OO,Mt];congr 1;obtain⟨a,b⟩:=t;cases b<;>rfl
def K6(ts)(i):(named ts i).length<=i:=by unfold named;rw[Mc];exact MH (N7 _ _) (by rw[MV];omega)
def fE:List Vn:=["NoLine","NoPlace","NoWay","TooGreat","NoDeed"]
def kF(nm:Vn):List (Vn×Bool):=[("NoLine",nm == "NoLine"),("NoPlace",nm == "NoPlace"),("TooGreat",nm == "TooGreat"),("NoWay",nm == "NoWay"),("NoDeed",nm == "NoDeed"),("NoText",nm == "NoText"),("other",false)]
def Gr(h:nm∈fE):named (kF nm) 7=[nm]:=by
 have:∀y∈fE,named (kF y) 7=[y]:=by decide +kernel
 exact this nm h
def qh(h:nm∈fE):nm∈fC:=by
 have:∀y∈fE,y∈fC:=by decide +kernel
 exact this nm h
def iW{K:L8}(a:Xf K mg base fK fC){y:Vn}(h:nm∈fE)(b:y∈fK)(hs:(y == ("StairError":Vn))=false):NX K (.ref (cA K nm)) (.ref (cA K y))=Vo (nm == y):=by rw[a.kc nm (qh h) y b,hs,Qx]
def iS{d:Dk}{c:Cmd}(h:bB d c=.error nm):nm∈fE:=by
 have f:∀(x:HV) (w:Way),dF x w=.error nm->nm∈fE:=λx w e=>by
  unfold dF at e;split at e
  .cases e;exact .tail _ (.head _)
  split at e
  .cases e;exact .tail _ (.tail _ (.head _))
  split at e
  .cases e;exact .tail _ (.tail _ (.tail _ (.head _)))
  .cases e
 have g:∀(x:HV) (w:Way),fg x w=.error nm->nm∈fE:=λx w e=>by
  unfold fg at e;split at e
  .cases e
  .cases e;exact .tail _ (.tail _ (.head _))
 cases c with
 | rooms n=>cases h
 | turn=>cases h
 | «show»=>cases h
 | ask a b=>cases h
 | way w=>
  have h:(match dF d.cur w with|.error z=>Except.error z|.ok h=>Except.ok (aV h.1 h.2,d.doD h))=.error nm:=h;cases e:dF d.cur w with
  | error z=>rw[e]at h;cases h;exact f _ _ e
  | ok x=>rw[e]at h;cases h
 | close w=>
  have h:(match fg d.cur w with|.error z=>Except.error z|.ok h=>Except.ok (aV h.1 h.2,d.doD h))=.error nm:=h;cases e:fg d.cur w with
  | error z=>rw[e]at h;cases h;exact g _ _ e
  | ok x=>rw[e]at h;cases h
 | undo=>
  unfold bB at h;cases e:d.past.getLast? with
  | none=>rw[e]at h;cases h;exact .tail _ (.tail _ (.tail _ (.tail _ (.head _))))
  | some x=>rw[e]at h;cases h
 | redo=>
  unfold bB at h;cases e:d.und.getLast? with
  | none=>rw[e]at h;cases h;exact .tail _ (.tail _ (.tail _ (.tail _ (.head _))))
  | some x=>rw[e]at h;cases h
def LF{K:L8}{d:Dk}(h:nY K H d z S)(e:S (.error nm)):nm∈fE:=by
 rcases h with⟨c,rfl,ok,f,rfl⟩|⟨hb,rfl⟩
 .cases c with
  | ask a b=>obtain⟨y,_,g⟩:=e;cases g
  | rooms n=>exact iS (e.symm)
  | way w=>exact iS (e.symm)
  | close w=>exact iS (e.symm)
  | turn=>exact iS (e.symm)
  | undo=>exact iS (e.symm)
  | redo=>exact iS (e.symm)
  | «show»=>exact iS (e.symm)
 .have:(.error nm:Except Vn (Vn×Dk))=.error "NoLine":=e;cases this;exact .head _
def yT(K:L8)(H:Hp)(p l1 l2:Vb)(Q:VK):Except Vn (Vn×Dk)->Prop
 | .error nm=>∀t H',Ext H H'->H' t=Vo (.tup [.str "refused",.str nm])->Q (.ref t) H'
 | .ok (z,d')=>∀t a H',(a=l2\/H a=Vp)->DkAt K H' p l1 a d'->Fr K H H' p l1 l2->H' t=Vo (.tup [.str "told",.str z])->Q (.ref t) H'
inductive nR(K:L8)(vs:List V)(H:Hp)(Q:VK)(E:XK):Prop|mk:∀p l1 l2 d z,vs=[.ref p,.str z]->DkAt K H p l1 l2 d->z.length<=1000->d.past.length<=10000->d.und.length<=10000->(∃S,nY K H d z S/\∀r,S r->yT K H p l1 l2 Q r)->nR K vs H Q E
abbrev uB:Vl:=stq 129
abbrev oH:=λP w mg base=>Cal P w K mg base "_law_tell" 15 ["_law_desk","_law_line"] (nR K)
def FI(D:Dfn K mg "_law_tell" uB ["_law_desk","_law_line"])(T:Blt mg)(e:Xf K mg base fK fC)(TD:DeskK K mg)(f:MetX P w K mg base (cA K "Desk") "tell" 14 ["self","line"] (lJ K)):oH P w mg base:=by
 refine D.oS ["_law_desk","_law_line","_law_found","e","_law_kinds"] λhr nd H vs Q E h=>?_;obtain⟨p,l1,l2,d,z,rfl,D,hz,f1,f2,S,hS,r⟩:=h;obtain⟨⟨dx,v,a1,a2⟩,_,_,_⟩:=id D;refine⟨_,(ah (Ew (i:=3) rfl rfl nd rfl rfl rfl (e.cl "StairError" (by decide +kernel)) rfl (by decide) (IZ (Lm (i:=2) f TD.cl hr nd rfl oi (pv 0) (aa (pv 1) ae)) GX) (λx oe Dx da k g a0 a6=>(ah (aw (i:=4) nd rfl oi (aK (aa (aX (aa ao (aa (aR (iG k g) rfl T.isinstance_ Hd (aa (pv 3) (aa (cH (v:=.ref (cA K "NoLine")) rfl (e.cl "NoLine" (by decide +kernel)) rfl) ae))) ae))) (aa (aX (aa ao (aa (aR (iG k g) rfl T.isinstance_ Hd (aa (pv 3) (aa (cH (v:=.ref (cA K "NoPlace")) rfl (e.cl "NoPlace" (by decide +kernel)) rfl) ae))) ae))) ae))))
   (ah (aw (i:=4) nd rfl oi (aB bE (pv 4) (aK (aa (aX (aa ao (aa (aR (iG k g) rfl T.isinstance_ Hd (aa (pv 3) (aa (cH (v:=.ref (cA K "TooGreat")) rfl (e.cl "TooGreat" (by decide +kernel)) rfl) ae))) ae))) (aa (aX (aa ao (aa (aR (iG k g) rfl T.isinstance_ Hd (aa (pv 3) (aa (cH (v:=.ref (cA K "NoWay")) rfl (e.cl "NoWay" (by decide +kernel)) rfl) ae))) ae))) ae)))))
   (ah (aw (i:=4) nd rfl oi (aB bE (pv 4) (aK (aa (aX (aa ao (aa (aR (iG k g) rfl T.isinstance_ Hd (aa (pv 3) (aa (cH (v:=.ref (cA K "NoDeed")) rfl (e.cl "NoDeed" (by decide +kernel)) rfl) ae))) ae))) (aa (aX (aa ao (aa (aR (iG k g) rfl T.isinstance_ Hd (aa (pv 3) (aa (cH (v:=.ref (cA K "NoText")) rfl (e.cl "NoText" (by decide +kernel)) rfl) ae))) ae))) ae)))))
   (ah (aw (i:=4) nd rfl oi (aB bE (pv 4) (aK (aa (aX (aa ao (aa (aR (iG k g) rfl T.isinstance_ Hd (aa (pv 3) (aa (aX (aa (cH (v:=.ref (cA K "Endless")) rfl (e.cl "Endless" (by decide +kernel)) rfl) (aa (cH (v:=.ref (cA K "NoHouse")) rfl (e.cl "NoHouse" (by decide +kernel)) rfl) (aa (cH (v:=.ref (cA K "NoStair")) rfl (e.cl "NoStair" (by decide +kernel)) rfl) (aa (cH (v:=.ref (cA K "NotBare")) rfl (e.cl "NotBare" (by decide +kernel)) rfl) (aa (cH (v:=.ref (cA K "NoWalk")) rfl (e.cl "NoWalk" (by decide +kernel)) rfl) ae)))))) ae))) ae))) ae))))
   (aj (az (aX (aa ao (aa (cx K Nq OR OS (kr K) ao (aa (Hw K ["_law_word","_law_here"] [] a0 (pv 4) (λ_ hh=>(F1 (n:=2) K hh (bY (aI (i:=0) (show(["_law_word","_law_here"]:List Vn).Nodup from by decide +kernel) rfl oi oj) (bY (aI (i:=1) (show(["_law_word","_law_here"]:List Vn).Nodup from by decide +kernel) rfl oi oj) eJ)))) (λ_=>(dC (bF (pv 1)))) (λ_=>(pv 0))) ae)) ae)))))))))))
   (ah (ba (cj (bF (aR f9 rfl T.isinstance_ Hd (aa (pv 2) (aa (fV (v:=.ty "str") rfl T.str_ NK rfl) ae))))) (aj (az (aX (aa ao (aa hG ae))))) aT)
   (aj (az (aX (aa ao (aa (pv 2) ae))))))),?_⟩
 walk_at "ra";refine Hb (λDx l H1=>Ext H H1/\(∃nm,S (.error nm)/\Dx=cA K nm)/\l=[Vo (.ref p),Vo (.str z),Vp,Vp,Vp]) (λE9 hE=>?_) ?_
 .left;refine⟨p,dx,_,rfl,a1,lC _ _ _ (by decide +kernel) (by decide +kernel) (by decide +kernel),?_⟩;left;refine⟨p,l1,l2,d,z,rfl,D,hz,f1,f2,S,hS,λx hx=>?_⟩;cases x with
  | error nm=>exact λH1 e1=>hE _ _ _ ⟨e1,⟨nm,hx,rfl⟩,rfl⟩
  | ok x=>
   obtain⟨y,d'⟩:=x;have r:=r _ hx;intro l3 H1 h3 D1 fr;left;refine gg (n:="str") rfl (b:=true) rfl ?_;left;nofun;refine aE λt H2 m o _=>?_;exact r t l3 H2 h3 (D1.ext m) (fr.ext m) o
 .rintro l Dx H1 ⟨q,⟨nm,he,rfl⟩,rfl⟩;have a:=LF hS he;have r:=r _ he;have r:∀t H',Ext H H'->H' t=Vo (.tup [.str "refused",.str nm])->Q (.ref t) H':=r;clear he;refine⟨e.up nm (qh a),e.exk nm (qh a),λx hx=>?_⟩;left;refine jo (iW e a (y:="NoLine") (by decide +kernel) (by decide +kernel)) ?_;left;refine aE λc1 H2 m s _=>?_;left;refine jo (iW e a (y:="NoPlace") (by decide +kernel) (by decide +kernel)) ?_;left;refine aE λc2 H3 e3 A _=>?_;left;refine aE λa7 H4 e4 B _=>?_;left;refine jo (iW e a (y:="TooGreat") (by decide +kernel) (by decide +kernel)) ?_;left;refine aE λc3 H5 e5 G _=>?_;left;refine jo (iW e a (y:="NoWay") (by decide +kernel) (by decide +kernel)) ?_;left;refine aE λc4 H6 e6 I _=>?_;left;refine aE λa8 H7 e7 J _=>?_;left;refine dm ((e5.trans (e6.trans e7)) _ _ B) J (aS (by simp)) (bu λa9 H8 e8 L _=>?_);left;refine jo (iW e a (y:="NoDeed") (by decide +kernel) (by decide +kernel)) ?_;left;refine aE λc5 H9 e9 M _=>?_;left;refine jo (iW e a (y:="NoText") (by decide +kernel) (by decide +kernel)) ?_;left;refine aE λc6 HA eA N _=>?_;left;refine aE λab HB eB O _=>?_;left;refine dm ((e9.trans (eA.trans eB)) _ _ L) O (aS (by simp)) (bu λac HC eC R _=>?_);left;refine aE λta HD eD U _=>?_;left;refine Kc (Cs:=(["Endless","NoHouse","NoStair","NotBare","NoWalk"]:List Vn).map (cA K)) U (y6 λC hC=>?_) ?_
  .obtain⟨y,hy,rfl⟩:=NR.mp hC;have h1:∀y∈(["Endless","NoHouse","NoStair","NotBare","NoWalk"]:List Vn),y∈fK/\(y == ("StairError":Vn))=false/\∀x∈fE,(x == y)=false:=by decide +kernel
   obtain⟨b1,b2,b3⟩:=h1 y hy;exact(iW e a b1 b2).trans (by rw[b3 nm a])
  left;refine aE λc7 HE eE W _=>?_;left;refine aE λad HF eF X _=>?_;left;refine dm ((eD.trans (eE.trans eF)) _ _ R) X (aS (by simp)) (bu λa3 HG eG j _=>?_);have eFG:=eF.trans eG;have Y:=eE.trans eFG;have eBG:=eB.trans (eC.trans (eD.trans Y));have eAG:=eA.trans eBG;have Z:=e8.trans (e9.trans eAG);have e7G:=e7.trans Z;have e6G:=e6.trans e7G;have e4G:=e4.trans (e5.trans e6G);have pk:Paired (K0 HG) [c1,c2,c3,c4,c5,c6,c7] (kF nm):=.cons ((e3.trans e4G) _ _ s) (.cons (e4G _ _ A) (.cons (e6G _ _ G) (.cons (e7G _ _ I) (.cons (eAG _ _ M) (.cons (eBG _ _ N) (.cons (eFG _ _ W) .nil))))));have j:HG a3=Vo (.lst (M5 V.ref [c1,c2,c3,c4,c5,c6,c7])):=j;have a4:Ext H HG:=q.trans (m.trans (e3.trans e4G));clear eFG Y eBG eAG Z e7G e6G e4G m e3 e4 e5 e6 e7 e8 e9 eA eB eC eD eE eF eG s A G I M N W B J L O R X U q;left;refine⟨rfl,?_⟩;left;refine bI (af.of j) ?_;refine fb (xs:=M5 V.ref [c1,c2,c3,c4,c5,c6,c7]) (λi ys H'=>H'=HG/\ys=M5 V.str (named (kF nm) i)) (aS (by simp)) ⟨rfl,rfl⟩ (λi ys H' hi h=>⟨by rw[h.1];exact af.of j,by rw[h.2,Mc];exact K6 _ _⟩) ?_ ?_
  .rintro i u ys H' hu ⟨rfl,rfl⟩;rw[Mf]at hu;obtain⟨c,g,rfl⟩:=Mp.mp hu;obtain⟨t,o,hk⟩:=lj pk g;rw[GF o];obtain⟨am,b⟩:=t;refine gL (ak.of hk) rfl ?_;left;cases b with
   | true=>
    right;exact⟨rfl,by rw[Mt];rfl⟩
   | false=>
    refine aC ?_;exact⟨rfl,by simp⟩
  .rintro ys H' l8 ⟨rfl,rfl⟩ a5;left;rw[show named (kF nm) (M5 V.ref [c1,c2,c3,c4,c5,c6,c7]).length=[nm]from Gr a];have hj:∀y∈fE,OG (MN " ") [y]=y/\([y].map (·.length)).sum+[y].length*(MN " ").length<=1000000:=by decide +kernel
   obtain⟨j1,j2⟩:=hj nm a;refine⟨_,l8,[nm],rfl,rfl,af.of ay,j2,?_⟩;rw[j1];left;refine aE λt HI eI o _=>?_;exact r t HI (a4.trans ((aO a5).trans eI)) o
def Av(n:Nat):Vn:=bo [97+n]
def dS(n:Nat):Nat->Cmd
 | 0=>.rooms 3
 | 1=>.way ⟨0,"stay",0,"z"⟩
 | 2=>.close ⟨0,"up",1,"a"⟩
 | 3=>.turn
 | 4=>.undo
 | 5=>.redo
 | 6=>.show
 | 7=>.ask "reach" [0,n,0,0]
 | 8=>.ask "forward" [0,n,0]
 | 9=>.ask "backward" [0,n,0]
 | 10=>.ask "most" [0,n]
 | 11=>.ask "fate" [0,n]
 | 12=>.ask "word" [0,0]
 | _=>.way ⟨0,"zero",0,Av n⟩
def vC(n:Nat):List Vn:=["rooms 3","way 0 stay 0 z","close 0 up 1 a","turn","undo","redo","show",("reach 0 ":Vn)++Tx.bj n++(" 0 0":Vn),("forward 0 ":Vn)++Tx.bj n++(" 0":Vn),("backward 0 ":Vn)++Tx.bj n++(" 0":Vn),("most 0 ":Vn)++Tx.bj n,("fate 0 ":Vn)++Tx.bj n,"word 0 0",("way 0 zero 0 ":Vn)++Av n]
def Kf:∀n<13,∀a<14,(vC n)[a]?=Vo (dS n a).line:=by decide +kernel
def mE{a:Nat}(c:n<13):(dS n a).Ok:=by
 have d:(0:Int)<=0/\(0:Int)<1000000:=by decide
 have ln:(0:Int)<=n/\(n:Int)<1000000:=by omega
 match a with
 | 0=>exact(by decide:(1:Int)<=3/\(3:Int)<=12)
 | 1=>exact⟨by decide,by decide,by decide,by decide,.inr (.inr (.inl rfl)),⟨122,by decide,by decide,rfl⟩⟩
 | 2=>exact⟨by decide,by decide,by decide,by decide,.inl rfl,⟨97,by decide,by decide,rfl⟩⟩
 | 3=>trivial
 | 4=>trivial
 | 5=>trivial
 | 6=>trivial
 | 7=>exact⟨.head _,λm b=>by simp at b;rcases b with rfl|rfl|rfl<;>assumption⟩
 | 8=>exact⟨.tail _ (.head _),λm b=>by simp at b;rcases b with rfl|rfl|rfl<;>assumption⟩
 | 9=>exact⟨.tail _ (.tail _ (.head _)),λm b=>by simp at b;rcases b with rfl|rfl|rfl<;>assumption⟩
 | 10=>exact⟨.tail _ (.tail _ (.tail _ (.head _))),λm b=>by simp at b;rcases b with rfl|rfl<;>assumption⟩
 | 11=>exact⟨.tail _ (.tail _ (.tail _ (.tail _ (.head _)))),λm b=>by simp at b;rcases b with rfl|rfl<;>assumption⟩
 | 12=>exact⟨.tail _ (.tail _ (.tail _ (.tail _ (.tail _ (.head _))))),λm b=>by simp at b;rw[b];assumption⟩
 | a+13=>exact⟨(by decide:(0:Int)<=0),(by decide:(0:Int)<1000000),(by decide:(0:Int)<=0),(by decide:(0:Int)<1000000),.inr (.inr (.inr rfl)),⟨97+n,by omega,by omega,rfl⟩⟩
def Cmd.good{c:Cmd}(ok:c.Ok):Good c.head c.tail c.kinds:=by
 refine⟨Cmd.kinds_of ok,?_,λw a=>?_⟩
 .have h:=uo ok;have h:(match bZ c.head with|some ks=>cE ks c.tail|none=>false)=true:=h;rw[Cmd.kinds_of ok]at h;exact h
 .rcases Mr.mp a with rfl|h
  .exact(Cmd.head_low ok).2
  .exact((Cmd.tail_low ok).2 w h).2
def A9(c:Cmd):c.line=Nn ⟨#[32]⟩ c.words:=by show OG ⟨#[32]⟩ c.words=_;rw[Tx.j8]
def Jj(h:i<=z.length):P6 z Vp (Vo (i:Int))=bo (z.cps.toList.take i):=by have a:z.length=z.cps.toList.length:=Mh.symm;refine(StrLaws.sliceText_to ⟨by omega,by omega⟩).trans ?_;rfl
def DI(h:i<=z.length):P6 z (Vo (i:Int)) Vp=bo (z.cps.toList.drop i):=by have a:z.length=z.cps.toList.length:=Mh.symm;refine(StrLaws.sliceText_from ⟨by omega,by omega⟩).trans ?_;rw[Mq,Pr (by rw[N8];omega)];rfl
def qz(c:Cmd)(i):(Nn ⟨#[32]⟩ (c.head::c.tail)).cps.toList=c.line.cps.toList.take i++c.line.cps.toList.drop i:=by rw[List.take_append_drop,A9]
def G9{c:Cmd}(ok:c.Ok)(a:bX x=false)(hi:i<=c.line.length):bS (M4 (P6 c.line Vp (Vo (i:Int))++(⟨#[x]⟩:Vn)++P6 c.line (Vo (i:Int)) Vp) " ")=false:=by have h:=(Cmd.good ok).put a (qz c i);rw[Jj hi,DI hi];refine Eq.trans (congrArg (λy=>bS (M4 y " ")) (Tx.gW ?_)) h;show((bo _).cps ++ #[x]++(bo _).cps).toList=(bo _).cps.toList;simp[bo]
def KP{c:Cmd}(ok:c.Ok):bS (M4 ((" ":Vn)++c.line) " ")=false:=by have h:=(Cmd.good ok).put (c:=32) (by decide) (qz c 0);refine Eq.trans (congrArg (λy=>bS (M4 y " ")) (Tx.gW ?_)) h;show(#[32]++c.line.cps).toList=(bo _).cps.toList;simp[bo]
def EG{c:Cmd}(ok:c.Ok):bS (M4 (c.line++(" ":Vn)) " ")=false:=by have h:=(Cmd.good ok).put (c:=32) (by decide) (qz c c.line.cps.toList.length);refine Eq.trans (congrArg (λy=>bS (M4 y " ")) (Tx.gW ?_)) h;show(c.line.cps ++ #[32]).toList=(bo _).cps.toList;rw[MF,List.drop_length];simp[bo]
theorem join_snoc{z:Vn}:∀{ws:List Vn},ws≠[]->(Nn ⟨#[32]⟩ (ws++[z])).cps.toList=(Nn ⟨#[32]⟩ ws).cps.toList++32::z.cps.toList
 | [w],_=>kJ
 | w::v::r,_=>by rw[show w::v::r++[z]=w::v::(r++[z])from rfl,kJ,show v::(r++[z])=v::r++[z]from rfl,join_snoc (by simp),kJ];simp
def Ls{c:Cmd}(ok:c.Ok):bS (M4 (c.line++(" ~":Vn)) " ")=false:=by
 have e:c.line++(" ~":Vn)=Nn ⟨#[32]⟩ (c.words++[("~":Vn)]):=by refine Tx.gW ?_;rw[join_snoc (by simp),<-A9];show(c.line.cps ++ #[32,126]).toList=c.line.cps.toList++[32,126];simp
 rw[e];rw[show (" ":Vn)=⟨#[32]⟩from rfl,Tx.iE (by simp) λp a=>by
  rcases MA.mp a with h|h
  .exact(Cmd.good ok).fr p h
  .rw[Mo.mp h];decide]
 exact(Cmd.good ok).snoc
def JM{c:Cmd}(ok:c.Ok)(i):bS (M4 (OG " " (c.words.take i++([("":Vn)]:List Vn)++c.words.drop i)) " ")=false:=by
 show bS (M4 (OG ⟨#[32]⟩ _) ⟨#[32]⟩)=false;rw[Tx.j8,Tx.iE (by simp) λp a=>by
  rw[O2,MA,P4,Mr]at a;rcases a with h|rfl|h
  .exact(Cmd.good ok).fr p (OZ h)
  .decide
  .exact(Cmd.good ok).fr p (O9 h)]
 rw[O2,P4];rcases(Cmd.good ok).in_ i with h|rfl
 .exact h
 .exact(Cmd.good ok).blank
def oF:V->Bool
 | .str z=>!bS (M4 z " ") && decide (z.length<=100)
 | _=>false
def se(H:Hp)(l:Vb)(n:Nat):Prop:=∃xs:List V,H l=Vo (.lst xs)/\xs.length=n/\xs.all oF=true
theorem all_strs:∀{xs:List V},xs.all oF=true->∃zs:List Vn,xs=zs.map V.str/\∀z∈zs,bS (M4 z " ")=false/\z.length<=100
 | [],_=>⟨[],rfl,λz h=>by cases h⟩
 | x::r,h=>by
  rw[Qy,MM]at h;obtain⟨zs,rfl,h2⟩:=all_strs h.2;cases x with
  | str z=>exact⟨z::zs,rfl,λy a=>by
    rcases Mr.mp a with rfl|a
    .have h:=h.1;have h:(!bS (M4 y " ") && decide (y.length<=100))=true:=h;rw[MM,Qu,decide_eq_true_eq]at h;exact h
    .exact h2 y a⟩
  | _=>cases h.1
def Hl{c:Hp}{l:Vb}(m)(e:Ext c H)(t:se H l n)(p:ys.length=m)(q:ys.all oF=true)(s:n+m<=1000)(k:∀a b,Ext c b->c a=Vp->se b a (n+m)->Q (.ref a) b):
  ys.length<=sizeLine/\fm H (.lst ys) λy H2=>rW (.ref l) y H2 Q:=by
 obtain⟨ws,d,f,g⟩:=t;refine⟨aS (by omega),bu λl2 H2 h i _=>?_⟩;refine dm (h _ _ d) i (aS (by omega)) (bu λa b r j o=>?_);exact k a b (e.trans (h.trans r)) ((e.trans h).none o) ⟨_,j,by rw[Mu,f,p],by rw[List.all_append,g,q];rfl⟩
inductive yY(K:L8)(vs:List V)(H:Hp)(Q:VK)(E:XK):Prop|mk:vs=[]->(∀(l:Vb) (zs:List Vn) H',Ext H H'->H' l=Vo (.lst (zs.map V.str))->zs.length=81->(∀z∈zs,bS (M4 z " ")=false/\z.length<=100)->Q (.ref l) H')->yY K vs H Q E
abbrev rq:Vl:=stq 130
abbrev Ct:=λP w mg base=>Cal P w K mg base "_law_bad" 1 [] (yY K)
def Hg(D:Dfn K mg "_law_bad" rq [])(T:Blt mg):Ct P w mg base:=by
 refine D.oS ["_law_found"] λj nd H vs Q E h=>?_;obtain⟨rfl,q⟩:=h;refine⟨_,(@ah _ _ _ _ _ (@aw _ _ 0 _ _ _ _ nd rfl oi (@aK _ _ _ _ (au ao (au ao (au ao (au ao (au ao (au ao (au ao (au ao ae rfl) rfl) rfl) rfl) rfl) rfl) rfl) rfl)) rfl oi)
   (@ah _ _ _ _ _ (@aw _ _ 0 _ _ _ _ nd rfl oi (aB bE (pv 0) (@aK _ _ _ _ (au ao (au ao (au ao (au ao ae rfl) rfl) rfl) rfl))) rfl oi)
   (@ah _ _ _ _ _ (@aw _ _ 0 _ _ _ _ nd rfl oi (aB bE (pv 0) (@aK _ _ _ _ (au ao (au ao (au ao (au ao (au ao (au ao ae rfl) rfl) rfl) rfl) rfl) rfl))) rfl oi)
   (@ah _ _ _ _ _ (@aw _ _ 0 _ _ _ _ nd rfl oi (aB bE (pv 0) (@aK _ _ _ _ (au ao (au ao ae rfl) rfl))) rfl oi)
   (@ah _ _ _ _ _ (@aw _ _ 0 _ _ _ _ nd rfl oi (aB bE (pv 0) (@aK _ _ _ _ (au ao (au ao (au ao (au ao (au ao ae rfl) rfl) rfl) rfl) rfl))) rfl oi)
   (@ah _ _ _ _ _ (@aw _ _ 0 _ _ _ _ nd rfl oi (aB bE (pv 0) (@aK _ _ _ _ (au ao (au ao ae rfl) rfl))) rfl oi)
   (@ah _ _ _ _ _ (@aw _ _ 0 _ _ _ _ nd rfl oi (aB bE (pv 0) (@aK _ _ _ _ (au ao (au ao (au ao (au ao (au ao ae rfl) rfl) rfl) rfl) rfl))) rfl oi)
   (@ah _ _ _ _ _ (@aw _ _ 0 _ _ _ _ nd rfl oi (aB bE (pv 0) (@aK _ _ _ _ (au ao (au ao (au ao ae rfl) rfl) rfl))) rfl oi)
   (@ah _ _ _ _ _ (@aw _ _ 0 _ _ _ _ nd rfl oi (aB bE (pv 0) (@aK _ _ _ _ (au ao (au ao (au ao (au ao (au ao (au ao (au ao ae rfl) rfl) rfl) rfl) rfl) rfl) rfl))) rfl oi)
   (@ah _ _ _ _ _ (@aw _ _ 0 _ _ _ _ nd rfl oi (aB bE (pv 0) (@aK _ _ _ _ (au ao (au ao (au ao (au ao ae rfl) rfl) rfl) rfl))) rfl oi)
   (@ah _ _ _ _ _ (@aw _ _ 0 _ _ _ _ nd rfl oi (aB bE (pv 0) (@aK _ _ _ _ (au ao (au ao (au ao (au ao (au ao ae rfl) rfl) rfl) rfl) rfl))) rfl oi)
   (@ah _ _ _ _ _ (@aw _ _ 0 _ _ _ _ nd rfl oi (aB bE (pv 0) (@aK _ _ _ _ (au ao (au ao ae rfl) rfl))) rfl oi)
   (@ah _ _ _ _ _ (@aw _ _ 0 _ _ _ _ nd rfl oi (aB bE (pv 0) (@aK _ _ _ _ (au ao (au ao (au ao (au ao (au ao ae rfl) rfl) rfl) rfl) rfl))) rfl oi)
   (@ah _ _ _ _ _ (@aw _ _ 0 _ _ _ _ nd rfl oi (aB bE (pv 0) (@aK _ _ _ _ (au ao (au ao ae rfl) rfl))) rfl oi)
   (@ah _ _ _ _ _ (@aw _ _ 0 _ _ _ _ nd rfl oi (aB bE (pv 0) (@aK _ _ _ _ (au ao (au ao (au ao (au ao (au ao (au ao (au ao ae rfl) rfl) rfl) rfl) rfl) rfl) rfl))) rfl oi)
   (@ah _ _ _ _ _ (@aw _ _ 0 _ _ _ _ nd rfl oi (aB bE (pv 0) (@aK _ _ _ _ (au ao (au ao (au ao (au ao ae rfl) rfl) rfl) rfl))) rfl oi)
   (@ah _ _ _ _ _ (@aw _ _ 0 _ _ _ _ nd rfl oi (aB bE (pv 0) (@aK _ _ _ _ (au ao (au ao (au ao (au ao (au ao (au ao (au ao (au ao ae rfl) rfl) rfl) rfl) rfl) rfl) rfl) rfl))) rfl oi)
   (@ah _ _ _ _ _ (@aw _ _ 0 _ _ _ _ nd rfl oi (aB bE (pv 0) (@aK _ _ _ _ (au ao (au ao ae rfl) rfl))) rfl oi)
   (@aj _ _ _ (@az _ _ _ _ (pv 0))))))))))))))))))))),?_⟩
 left;refine aE λf g k a m=>?_;have o:se g f 8:=⟨_,a,rfl,by decide +kernel⟩;clear a
 iterate 17
  left;refine Hl _ (by assumption) (by assumption) rfl (by decide +kernel) (by decide) λl G e n t=>?_
 left;obtain⟨ws,c,b,d⟩:=t;obtain⟨zs,rfl,i⟩:=all_strs d;exact q _ zs _ e c (by rw[Mc]at b;exact b) i
inductive AY(K:L8)(vs:List V)(H:Hp)(Q:VK)(E:XK):Prop|mk:∀c p,vs=[.int c,.int p]->0<p->(∀(n a:Nat) H',n<13->a<14->Ext H H'->Q (.str (dS n a).line) H')->AY K vs H Q E
def dZ{a b:Vn}(c:a.length+b.length<=1000000)(h:Q (.str (a++b)) H):xH (.str a) (.str b) H Q:=⟨a,b,rfl,rfl,MH c (by decide),h⟩
abbrev AE:Vl:=stq 131
abbrev tL:=λP w mg base=>Cal P w K mg base "_law_good" 3 ["_law_cell_here","_law_prime"] (AY K)
def E8(D:Dfn K mg "_law_good" AE ["_law_cell_here","_law_prime"])(T:Blt mg)(b:ke P w mg base):tL P w mg base:=by
 refine D.oS ["_law_cell_here","_law_prime","_law_draws_here","_law_far","_law_found"] λW nd H vs Q E h=>?_;obtain⟨c,p,rfl,X,q⟩:=h;refine⟨_,(ah (aw (i:=2) nd rfl oi (av b W (aa (pv 0) (aa (aK (aa ag (aa ag ae))) (aa (pv 1) ae)))))
   (ah (aw (i:=3) nd rfl oi (cX iw rfl T.str_ NK (aa (ai (aF K) (pv 2) ag (λ_ _=>rfl)) ae)))
   (ah (aw (i:=4) nd rfl oi (aK (aa ao (aa ao (aa ao (aa ao (aa ao (aa ao (aa ao ae)))))))))
   (ah (aw (i:=4) nd rfl oi (aB bE (pv 4) (aK (aa (aB dD (aB dD ao (pv 3)) ao) ae))))
   (ah (aw (i:=4) nd rfl oi (aB bE (pv 4) (aK (aa (aB dD (aB dD ao (pv 3)) ao) (aa (aB dD (aB dD ao (pv 3)) ao) (aa (aB dD ao (pv 3)) ae))))))
   (ah (aw (i:=4) nd rfl oi (aB bE (pv 4) (aK (aa (aB dD ao (pv 3)) (aa ao ae)))))
   (aj (az (ai (aF K) (aB bE (pv 4) (aK (aa (aB dD ao (ai vk ao (ai (aF K) (pv 2) ag (λ_ _=>rfl)) (λ_ _=>rfl))) ae))) (ai (aF K) (pv 2) ag (λ_ _=>rfl)) (λ_ _=>rfl)))))))))),?_⟩
 left;refine aE λw0 H1 J f _=>?_;left;refine lM [14,13] f (by decide) (by decide) X λdq ds H2 L hd l M hb=>?_;obtain⟨d,e,rfl⟩:∃d e,ds=[d,e]:=by
  match ds,M with
  | [d,e],_=>exact⟨d,e,rfl⟩
 have b0:=hb 0 _ _ rfl rfl;have b1:=hb 1 _ _ rfl rfl;obtain⟨a,rfl⟩:∃c:Nat,d=(c:Int):=⟨d.toNat,by omega⟩;obtain⟨n,rfl⟩:∃c:Nat,e=(c:Int):=⟨e.toNat,by omega⟩;have m:=J.trans L;clear hb M l f J L;left;refine aH (af.of hd) (v:=.int (n:Int)) rfl ?_;left;refine⟨_,rfl,ic (by omega) (by omega),?_⟩;have Y:(Tx.bj (n:Int)).length<=6:=Tx.eO (by omega) (by omega);have N:("reach 0 ":Vn).length=8/\(" 0 0":Vn).length=4/\("forward 0 ":Vn).length=10/\(" 0":Vn).length=2/\("backward 0 ":Vn).length=11/\("most 0 ":Vn).length=7/\("fate 0 ":Vn).length=7/\("way 0 zero 0 ":Vn).length=13:=by decide +kernel
 obtain⟨m1,m2,m3,m4,m5,m6,m7,Z⟩:=N;have o:∀x y:Vn,(x++y).length=x.length+y.length:=λx y=>Nb x y;change jr 3 (V.str (Tx.bj (n:Int))) _ _ _;generalize hz:Tx.bj (n:Int)=z at Y ⊢;left;refine aE λl0 G0 f0 r _=>?_;left;refine dZ (by omega) ?_;left;refine dZ (by rw[o];omega) ?_;left;refine aE λl1 G1 O s _=>?_;refine dm (O _ _ r) s (aS (by simp)) (bu λl2 G2 f2 u _=>?_);left;refine dZ (by omega) ?_;left;refine dZ (by rw[o];omega) ?_;left;refine dZ (by omega) ?_;left;refine dZ (by rw[o];omega) ?_;left;refine dZ (by omega) ?_;left;refine aE λl3 G3 R A _=>?_;refine dm (R _ _ u) A (aS (by simp)) (bu λl4 G4 f4 B _=>?_);left;refine dZ (by omega) ?_;left;refine aE λl5 G5 S C _=>?_;refine dm (S _ _ B) C (aS (by simp)) (bu λl6 G6 f6 F _=>?_);left;have g:=f0.trans (O.trans (f2.trans (R.trans (f4.trans (S.trans f6)))));have j:=g _ _ hd;refine aH (af.of j) (v:=.int (n:Int)) rfl ?_;left;have hc:(MN "abcdefghijklm").cps.toList[n]?=Vo (97+n):=by
  have all:∀n<13,(MN "abcdefghijklm").cps.toList[n]?=Vo (97+n):=by decide +kernel
  exact all n (by omega)
 refine⟨_,_,_,rfl,rfl,aS (by decide +kernel),aM hc,?_⟩;left;refine dZ (by rw[Z];show 13+1<=1000000;omega) ?_;left;refine aE λl7 G7 U G _=>?_;refine dm (U _ _ F) G (aS (by simp)) (bu λN G8 f8 I _=>?_);left;have k:=U.trans f8;refine aH (af.of (k _ _ j)) (v:=.int (a:Int)) rfl ?_;left;have hg:((vC n).map V.str)[a]?=Vo (.str (dS n a).line):=by rw[Mf,Kf n (by omega) a (by omega)];rfl
 subst hz;refine aH (af.of I) (v:=.str (dS n a).line) (aM hg) ?_;exact q n a _ (by omega) (by omega) (m.trans (g.trans k))
def Es{xs:List V}(h:n<=xs.length):cn xs Vp (Vo (n:Int))=xs.take n:=by unfold cn;rw[HT.mi,HT.uR,Nat.min_eq_left h];rfl
theorem sY{k:Nat}:∀{zs:List Vn},(∀z∈zs,z.length<=k)->(zs.map (·.length)).sum<=k*zs.length
 | [],_=>LI _
 | z::zs,h=>by rw[NS,List.sum_cons,ME,Nat.mul_succ];have:=h z (.head _);have:=sY λy a=>h y (.tail _ a);omega
inductive tR(K:L8)(vs:List V)(H:Hp)(Q:VK)(E:XK):Prop|mk:∀cm c p,vs=[.str (Cmd.line cm),.int c,.int p]->cm.Ok->0<p->(∀z H',Ext H H'->z.length<=1000->bS (M4 z " ")=false->Q (.str z) H')->tR K vs H Q E
abbrev BV:Vl:=stq 132
abbrev wc:=λP w mg base=>Cal P w K mg base "_law_spoilt" 3 ["_law_line","_law_cell_here","_law_prime"] (tR K)
def Fm(D:Dfn K mg "_law_spoilt" BV ["_law_line","_law_cell_here","_law_prime"])(T:Blt mg)(a:ke P w mg base):wc P w mg base:=by
 refine D.oS ["_law_line","_law_cell_here","_law_prime","_law_draws_here","_law_words","_law_at"] λhr nd H vs Q E h=>?_;obtain⟨cm,c,p,rfl,ok,hp,q⟩:=h;have a2:=Cmd.line_len ok;refine⟨_,(ah (aw (i:=3) nd rfl oi (av a hr (aa (pv 1) (aa (aK (yF (.c (.c (.c (.c .n)))))) (aa (pv 2) ae)))))
   (ah (aw (i:=4) nd rfl oi (cx K Nq RL RM xp (pv 0) (aa ao ae)))
   (ah (aw (i:=5) nd rfl oi (aB gj (ai (aF K) (pv 3) ag (λ_ _=>rfl)) (aR (cw K) rfl T.len_ L0 (aa (pv 4) ae))))
   (aj (az (ai (aF K) (aK (aa (aB dD ao (pv 0)) (aa (aB dD (pv 0) ao) (aa (cx K Nq OR OS (kr K) ao (aa (aB bE (aB bE (eM (gn K) (pv 4) fi (dW (pv 5))) (aK (aa ao ae))) (eM (gn K) (pv 4) (dW (pv 5)) fi)) ae)) (aa (aB dD (pv 0) ao) ae))))) (ai (aF K) (pv 3) ag (λ_ _=>rfl)) (λ_ _=>rfl))))))),?_⟩
 left;refine aE λw0 H1 Z o _=>?_;left;refine lM [14,13,4,6] o (by decide) (by decide) hp λdq ds H2 e2 hd J hl hb=>?_;obtain⟨B,C,g,e,rfl⟩:∃B C g e,ds=[B,C,g,e]:=by
  match ds,hl with
  | [B,C,g,e],_=>exact⟨B,C,g,e,rfl⟩
 have b2:=hb 2 _ _ rfl rfl;have L:=Z.trans e2;clear hb hl J o Z e2;left;refine⟨rfl,?_⟩;left;refine⟨_,_,rfl,rfl,rfl,aS (by omega),λwl M=>?_⟩;rw[Cmd.split ok];have N:Ext H2 (upd H2 wl (.lst (cm.words.map V.str))):=aO M;have m:upd H2 wl (.lst (cm.words.map V.str)) wl=Vo (.lst (cm.words.map V.str)):=ay;generalize upd H2 wl (.lst (cm.words.map V.str))=H3 at N m ⊢;have r:=N _ _ hd;left;refine aH (af.of r) (v:=.int e) rfl ?_;left;refine dn (af.of m) ?_;left;have O:(cm.words.map V.str).length=cm.tail.length+1:=by rw[Mc];rfl
 refine rd_I (by rw[O];omega) ?_;have a0:=Oq e (show(((cm.words.map V.str).length:Nat):Int)≠0 by omega);have a1:=OP e (show(0:Int)<(((cm.words.map V.str).length:Nat):Int) by omega);generalize e % (((cm.words.map V.str).length:Nat):Int)=at_ at a0 a1 ⊢;obtain⟨i,rfl⟩:∃k:Nat,at_=(k:Int):=⟨at_.toNat,by omega⟩;have hi:i<=(cm.words.map V.str).length:=by omega
 have a3:=(Cmd.tail_low ok).1;have f:∀z∈cm.words.take i++([("":Vn)]:List Vn)++cm.words.drop i,z.length<=8:=λz G=>by
  have R:∀z∈cm.words,z.length<=8:=λz G=>by
   rcases Mr.mp G with rfl|h
   .exact(Cmd.head_low ok).1
   .exact MH ((Cmd.tail_low ok).2 z h).1 (by decide)
  rw[O2,MA,P4,Mr]at G;rcases G with h|rfl|h
  .exact R z (OZ h)
  .exact LI _
  .exact R z (O9 h)
 have b:(cm.words.take i++([("":Vn)]:List Vn)++cm.words.drop i).length<=6:=by have R:cm.words.length=cm.tail.length+1:=rfl;rw[Mu,Mu,MV,N8,N5];omega
 have g1:(" ":Vn).length=1/\(" ~":Vn).length=2:=by decide +kernel
 have S:∀x y:Vn,(x++y).length=x.length+y.length:=λx y=>Nb x y;left;refine dZ (by omega) ?_;left;refine dZ (by omega) ?_;left;refine⟨rfl,?_⟩;left;refine gX (af.of m) (bu λl4 H4 e4 s _=>?_);rw[Es hi,<-Rt]at s;left;refine aE λl5 H5 U W _=>?_;refine dm (U _ _ s) W (aS (by simp;omega)) (bu λl6 H6 e6 X _=>?_);left;refine gX (af.of ((e4.trans (U.trans e6)) _ _ m)) (bu λl7 H7 e7 u _=>?_);rw[rZ hi,<-List.map_drop]at u;refine dm (e7 _ _ X) u (aS (by simp;omega)) (bu λl8 H8 e8 l _=>?_);have l:H8 l8=some (.lst ((cm.words.take i++([("":Vn)]:List Vn)++cm.words.drop i).map V.str)):=by rw[l,Mt,Mt];rfl
 left;refine⟨_,l8,_,rfl,rfl,af.of l,?_,?_⟩
 .have h1:=sY f;have h2:(MN " ").length=1:=rfl;rw[h2];omega
 have Y:(OG (MN " ") (cm.words.take i++([("":Vn)]:List Vn)++cm.words.drop i)).length<=1000:=by have:=oh 32 (k:=8) f;have m:(8+1)*(cm.words.take i++([("":Vn)]:List Vn)++cm.words.drop i).length<=9*6:=Oe 9 b;exact MH this (MH m (by decide))
 left;refine dZ (by omega) ?_;left;refine aE λl9 H9 e9 d _=>?_;have A:=e4.trans (U.trans (e6.trans (e7.trans (e8.trans e9))));have I:=L.trans (N.trans A);left;refine aH (af.of (A _ _ r)) (v:=.int g) rfl ?_;left;obtain⟨k,rfl⟩:∃k:Nat,g=(k:Int):=⟨g.toNat,by omega⟩
 match k,b2 with
 | 0,_=>exact aH (af.of d) (v:=.str _) (aM (j:=0) rfl) (q _ _ I (by rw[S];omega) (KP ok))
 | 1,_=>exact aH (af.of d) (v:=.str _) (aM (j:=1) rfl) (q _ _ I (by rw[S];omega) (EG ok))
 | 2,_=>exact aH (af.of d) (v:=.str _) (aM (j:=2) rfl) (q _ _ I Y (JM ok i))
 | 3,_=>exact aH (af.of d) (v:=.str _) (aM (j:=3) rfl) (q _ _ I (by rw[S];omega) (Ls ok))
 | k+4,b2=>omega
def nB:Vn:=(" !\"#$&'()*+,-./0123456789:;<=>?@ABCDEFGHIJKLMNOPQRSTUVWXYZ[\\]^_`":Vn)++("abcdefghijklmnopqrstuvwxyz{|}~":Vn)
def kP:List Nat:=nB.cps.toList.filter λc=>!bX c
def J9:nB.length=94/\kP.length=84:=by decide +kernel
def Kp{c:Nat}(h:c∈kP):bX c=false:=by have:=(OU.mp h).2;simpa using this
inductive sG(K:L8)(vs:List V)(H:Hp)(Q:VK)(E:XK):Prop|mk:vs=[]->Q (.str nB) H->sG K vs H Q E
abbrev oo:Vl:=stq 133
abbrev xo:=λP w mg base=>Cal P w K mg base "_law_signs" 1 [] (sG K)
def En(D:Dfn K mg "_law_signs" oo [])(T:Blt mg):xo P w mg base:=by
 refine D.oS ["_law_some"] λa nd H vs Q E h=>?_;obtain⟨rfl,q⟩:=h;refine⟨_,(ah (aw (i:=0) nd rfl oi ao)
   (aj (az (aB dD (pv 0) ao)))),?_⟩
 left;exact⟨_,_,rfl,rfl,by decide +kernel,q⟩
inductive yR(K:L8)(vs:List V)(H:Hp)(Q:VK)(E:XK):Prop|mk:∀cm c p,vs=[.str (Cmd.line cm),.int c,.int p]->cm.Ok->0<p->(∀z H',Ext H H'->z.length<=1000->bS (M4 z " ")=false->Q (.str z) H')->yR K vs H Q E
abbrev vx:Vl:=stq 134
abbrev yI:=λP w mg base=>Cal P w K mg base "_law_put_in" 3 ["_law_line","_law_cell_here","_law_prime"] (yR K)
def E4(D:Dfn K mg "_law_put_in" vx ["_law_line","_law_cell_here","_law_prime"])(T:Blt mg)(a:xo P w mg base)(b:ke P w mg base):yI P w mg base:=by
 refine D.oS ["_law_line","_law_cell_here","_law_prime","_law_draws_here","_law_sign","_law_at"] λM nd H vs Q E h=>?_;obtain⟨cm,c,p,rfl,ok,U,q⟩:=h;have W:=Cmd.line_len ok;refine⟨_,(ah (aw (i:=3) nd rfl oi (av b M (aa (pv 1) (aa (aK (yF (.c (.c (.c (.c (.c (.c .n)))))))) (aa (pv 2) ae)))))
   (ah (aw (i:=4) nd rfl oi (ai (aF K) (bM ["_law_sign"] [] (zj (xl a M)) (λ_=>(aI (i:=0) (show(["_law_sign"]:List Vn).Nodup from by decide +kernel) rfl oi oj)) (λ_=>(dC (aP GN (pv 0) ao (by with_unfolding_all rfl)))) (λ_=>(pv 0))) (ai (aF K) (pv 3) ag (λ_ _=>rfl)) (λ_ _=>rfl)))
   (ah (aw (i:=5) nd rfl oi (aB gj (ai (aF K) (pv 3) ag (λ_ _=>rfl)) (aB dz (aR lN rfl T.len_ L0 (aa (pv 0) ae)) ag)))
   (aj (az (aB dD (aB dD (eM xQ (pv 0) fi (dW (pv 5))) (pv 4)) (eM xQ (pv 0) (dW (pv 5)) fi))))))),?_⟩
 left;refine aE λY H1 N f _=>?_;left;refine lM [14,13,4,6,84,40] f (by decide) (by decide) U λdq ds H2 O hd B R hb=>?_;obtain⟨r,s,u,z,e,d,rfl⟩:∃r s u z e d,ds=[r,s,u,z,e,d]:=by
  match ds,R with
  | [r,s,u,z,e,d],_=>exact⟨r,s,u,z,e,d,rfl⟩
 have Z:=hb 4 _ _ rfl rfl;have b5:=hb 5 _ _ rfl rfl;have C:=N.trans O;clear hb R B f N O;left;refine⟨rfl,?_⟩;obtain⟨s1,s2⟩:=J9;generalize F:nB=sz at s1 ⊢;left;refine⟨sz,rfl,?_⟩;have G:sz.cps.toList.length=94:=by rw[Mh];exact s1
 refine Ai (λi ys H'=>H'=H2/\ys=((sz.cps.toList.take i).filter λc=>!bX c).map λc=>V.str ⟨#[c]⟩) (aS (by rw[<-Mh,G];decide)) ⟨rfl,rfl⟩ ?_ ?_ ?_
 .rintro i ys H' _ ⟨rfl,rfl⟩;rw[Mc];refine MH (N7 _ _) ?_;rw[MV];exact Ng _ _
 .rintro i c ys H' A ⟨rfl,rfl⟩;left;refine⟨_,_,rfl,rfl,_,rfl,?_⟩;rw[yD,Nm,Nj,A,OO,Mt];cases g:bX c with
  | true=>
   refine aC ?_;refine⟨rfl,?_⟩;rw[show (Vo c).toList.filter (λc=>!bX c)=[] by show[c].filter _=[];rw[P8,g];rfl];simp
  | false=>
   right;refine⟨rfl,?_⟩;rw[show (Vo c).toList.filter (λc=>!bX c)=[c] by show[c].filter _=[c];rw[P8,g];rfl];rfl
 rintro ys H' l ⟨rfl,rfl⟩ I;have J:Ext H' (upd H' l (.lst ((sz.cps.toList.take sz.cps.size |>.filter λc=>!bX c).map λc=>V.str ⟨#[c]⟩))):=aO I;have m:(upd H' l (.lst ((sz.cps.toList.take sz.cps.size |>.filter λc=>!bX c).map λc=>V.str ⟨#[c]⟩))) l=_:=ay;generalize upd H' l (.lst ((sz.cps.toList.take sz.cps.size |>.filter λc=>!bX c).map λc=>V.str ⟨#[c]⟩))=X at J m ⊢;rw[<-Mh,MF,<-F]at m;have m:X l=some (.lst (kP.map λc=>V.str ⟨#[c]⟩)):=m;have o:=J _ _ hd;left;refine aH (af.of o) (v:=.int e) rfl ?_;obtain⟨k,rfl⟩:∃k:Nat,e=(k:Int):=⟨e.toNat,by omega⟩;have S:k<kP.length:=by omega
 have A:=Me S;have g:=Kp (MD S);generalize kP[k]=x at A g;refine aH (af.of m) (v:=.str ⟨#[x]⟩) (aM (j:=k) (by rw[Mf,A];rfl)) ?_;left;refine aH (af.of o) (v:=.int d) rfl ?_;left;refine⟨_,rfl,aS (by omega),?_⟩;left;have a0:=Oq d (show(cm.line.length:Int)+1≠0 by omega);have a1:=OP d (show(0:Int)<(cm.line.length:Int)+1 by omega);generalize d % ((cm.line.length:Int)+1)=at_ at a0 a1;obtain⟨i,rfl⟩:∃k:Nat,at_=(k:Int):=⟨at_.toNat,by omega⟩;have hi:i<=cm.line.length:=by omega
 have L:∀x y:Vn,(x++y).length=x.length+y.length:=λx y=>Nb x y;have l1:=SK cm.line Vp (Vo (i:Int));have l2:=SK cm.line (Vo (i:Int)) Vp;have l3:(⟨#[x]⟩:Vn).length=1:=rfl;left;refine⟨_,rfl,aS (by omega),?_⟩;left;refine dZ (by omega) ?_;left;refine⟨_,rfl,aS (by omega),?_⟩;refine dZ (by rw[L];omega) ?_;exact q _ _ (C.trans J) (by rw[L,L];omega) (G9 ok g hi)
def DkAt.has{K:L8}{d:Dk}(D:DkAt K H p l1 l2 d):(∃dx v,H p=Vo (.ins (cA K "Desk") dx (bU v l1 l2)))/\(∃vs,H l1=Vo (.lst vs))/\∃vs,H l2=Vo (.lst vs):=by obtain⟨⟨dx,v,a1,b⟩,⟨vs,b1,c⟩,⟨us,a,e⟩,ne⟩:=D;exact⟨⟨dx,v,a1⟩,⟨vs,b1⟩,us,a⟩
def DkAt.hold{K:L8}{d:Dk}(D:DkAt K H p l1 l2 d)(k0:∀o,H p=Vo o->(∀ps,o≠.tbl ps)->H' p=Vo o)(k1:∀o,H l1=Vo o->(∀ps,o≠.tbl ps)->H' l1=Vo o)(k2:∀o,H l2=Vo o->(∀ps,o≠.tbl ps)->H' l2=Vo o)(tk:Tk H H'):DkAt K H' p l1 l2 d:=by obtain⟨⟨dx,v,a1,a⟩,⟨vs,b1,b⟩,⟨us,c,e⟩,ne⟩:=D;exact⟨⟨dx,v,k0 _ a1 (λps z=>by cases z),a.tk tk⟩,⟨vs,k1 _ b1 (λps z=>by cases z),ft tk b⟩,⟨us,k2 _ c (λps z=>by cases z),ft tk e⟩,ne⟩
def bO(p l1 l2:Vb):List Vb:=[p,l1,l2]
structure TwoD(K:L8)(H:Hp)(p l1 l2:Vb)(dA:Dk)(q m1 m2:Vb)(dB:Dk)(xs:List (Vb×HO)):Prop where
 a:DkAt K H p l1 l2 dA
 b:DkAt K H q m1 m2 dB
 n:∀c∈bO p l1 l2,c∉bO q m1 m2
 k:∀x∈xs,H x.1=Vo x.2/\x.1∉bO p l1 l2/\x.1∉bO q m1 m2
 nt:∀x∈xs,∀ps,x.2≠.tbl ps
 tb:Tbs K H
def TwoD.swap{K:L8}(T:TwoD K H p l1 l2 dA q m1 m2 dB xs):TwoD K H q m1 m2 dB p l1 l2 dA xs:=
 ⟨T.b,T.a,λc h1 h2=>T.n c h2 h1,λx d=>⟨(T.k x d).1,(T.k x d).2.2,(T.k x d).2.1⟩,T.nt,T.tb⟩
theorem TwoD.ext{K:L8}{H H':Hp}{p l1 l2:Vb}{dA:Dk}{q m1 m2:Vb}{dB:Dk}{xs:List (Vb×HO)}(e:Ext H H')(T:TwoD K H p l1 l2 dA q m1 m2 dB xs):TwoD K H' p l1 l2 dA q m1 m2 dB xs:=
 ⟨T.a.ext e,T.b.ext e,T.n,λx c=>⟨e _ _ (T.k x c).1,(T.k x c).2⟩,T.nt,T.tb.ext e⟩
def DkAt.off{K:L8}{d:Dk}(D:DkAt K H p l1 l2 d)(h:H c=Vp):c∉bO p l1 l2:=λz=>by
 obtain⟨⟨dx,v,h1⟩,⟨vs,h2⟩,us,a⟩:=D.has;simp only[bO,Mr,MI,or_false]at z;rcases z with rfl|rfl|rfl
 .rw[h1]at h;cases h
 .rw[h2]at h;cases h
 .rw[a]at h;cases h
def TwoD.put{K:L8}(T:TwoD K H p l1 l2 dA q m1 m2 dB xs)(e:Ext H H'){o:HO}(f:H c=Vp)(g:H' c=Vo o)(nt:∀ps,o≠.tbl ps):TwoD K H' p l1 l2 dA q m1 m2 dB ((c,o)::xs):=
 ⟨T.a.ext e,T.b.ext e,T.n,λx d=>by
  rcases Mr.mp d with rfl|h
  .exact⟨g,T.a.off f,T.b.off f⟩
  .exact(T.ext e).k x h,λx d=>by
  rcases Mr.mp d with rfl|h
  .exact nt
  .exact T.nt x h,T.tb.ext e⟩
def TwoD.sub{K:L8}{ys:List (Vb×HO)}(T:TwoD K H p l1 l2 dA q m1 m2 dB xs)(h:∀y∈ys,y∈xs):TwoD K H p l1 l2 dA q m1 m2 dB ys:=⟨T.a,T.b,T.n,λy c=>T.k y (h y c),λy c=>T.nt y (h y c),T.tb⟩
def i9{K:L8}(fr:Fr K H H' p l1 l2){o:HO}(h:H c=Vo o)(nt:∀ps,o≠.tbl ps)(n:c∉bO p l1 l2):H' c=Vo o:=
 fr.1 c o h nt (λe=>n (by rw[e];exact .head _)) (λe=>n (by rw[e];exact .tail _ (.head _))) (λe=>n (by rw[e];exact .tail _ (.tail _ (.head _))))
def md(h:c∉bO p l1 l2)(n:c≠a):c∉bO p l1 a:=λz=>by
 simp only[bO,Mr,MI,or_false]at z h;rcases z with z|z|z
 .exact h (.inl z)
 .exact h (.inr (.inl z))
 .exact n z
def TwoD.step{K:L8}{d:Vb}(T:TwoD K H p l1 l2 dA q m1 m2 dB xs)(j:d=l2\/H d=Vp)(D:DkAt K H' p l1 d d')(fr:Fr K H H' p l1 l2):TwoD K H' p l1 d d' q m1 m2 dB xs:=by
 have nb:=λc h1 h2=>T.n c h2 h1;have tk:Tk H H':=λb ys z=>fr.1 b _ z (λps y=>by cases y) (λe=>by
   obtain⟨⟨dx,v,h1⟩,_,_⟩:=T.a.has;rw[e,h1]at z;cases z) (λe=>by
   obtain⟨_,⟨vs,h1⟩,_⟩:=T.a.has;rw[e,h1]at z;cases z) (λe=>by
   obtain⟨_,_,vs,h1⟩:=T.a.has;rw[e,h1]at z;cases z)
 have f:∀c o,H c=Vo o->c∉bO p l1 l2->c≠d:=λc o z n e=>by
  rcases j with h|h
  .exact n (by rw[e,h];exact .tail _ (.tail _ (.head _)))
  .rw[<-e,z]at h;cases h
 have hb:∀c∈bO q m1 m2,∃o,H c=Vo o:=λc g=>by
  obtain⟨⟨dx,v,l⟩,⟨vs,m⟩,us,r⟩:=T.b.has;simp only[bO,Mr,MI,or_false]at g;rcases g with rfl|rfl|rfl
  .exact⟨_,l⟩
  .exact⟨_,m⟩
  .exact⟨_,r⟩
 refine⟨D,T.b.hold (λo z y=>i9 fr z y (nb _ (.head _))) (λo z y=>i9 fr z y (nb _ (.tail _ (.head _)))) (λo z y=>i9 fr z y (nb _ (.tail _ (.tail _ (.head _))))) tk,λc h1 h2=>?_,λx i=>?_,T.nt,fr.2 T.tb⟩
 .obtain⟨o,z⟩:=hb c h2;exact md (nb c h2) (f c o z (nb c h2)) h1
 .obtain⟨z,a1,s⟩:=T.k x i;exact⟨i9 fr z (T.nt x i) a1,md a1 (f _ _ z a1),s⟩
def TwoD.tk{K:L8}(T:TwoD K H p l1 l2 dA q m1 m2 dB xs)(fr:Fr K H H' p l1 l2):Tk H H':=λb ys z=>fr.1 b _ z (λps y=>by cases y) (λe=>by
   obtain⟨⟨dx,v,h1⟩,_,_⟩:=T.a.has;rw[e,h1]at z;cases z) (λe=>by
   obtain⟨_,⟨vs,h1⟩,_⟩:=T.a.has;rw[e,h1]at z;cases z) (λe=>by
   obtain⟨_,_,vs,h1⟩:=T.a.has;rw[e,h1]at z;cases z)
def ed{a b:Vn}(h:H t=Vo (.tup [.str a,.str b]))(c:(PyData.str a).canLay0=true)(d:(PyData.str b).canLay0=true):aQ H 1 (.ref t) (.tuple [.str a,.str b]):=
 .inr ⟨t,[.str a,.str b],_,rfl,.inl ⟨h,rfl⟩,.cons ⟨rfl,c⟩ (.cons ⟨rfl,d⟩ .nil)⟩
def i5{K:L8}{d:Dk}{c:Cmd}{E:XK}(b:z=Cmd.line c)(D:DkAt K H p l1 l2 d)(ok:c.Ok)(a:kY K H d c)(e:∀r,nF d c r->r=bB d c)(f:d.past.length<=10000)(g:d.und.length<=10000)(r:yT K H p l1 l2 Q (bB d c)):nR K [.ref p,.str z] H Q E:=
 ⟨p,l1,l2,d,z,rfl,D,by rw[b];have:=Cmd.line_len ok;omega,f,g,_,.inl ⟨c,b,ok,a,rfl⟩,λx h=>by rw[e x h];exact r⟩
def kG:("show":Vn)=Cmd.line .show/\("undo":Vn)=Cmd.line .undo/\("redo":Vn)=Cmd.line .redo:=by decide +kernel
def iz(H:Hp)(t:Vb)(v:V):Prop:=H t=Vo (.tup [.str "told",v])
def oB(e:Tk H H')(h:Paired (iz H) ts vs):Paired (iz H') ts vs:=Paired.mapP h λ_ _ x=>e _ _ x
def shown(dA dB:Dk):List V:=[.str (aV dA.cur.1 dA.cur.2),.str (aV dB.cur.1 dB.cur.2)]
inductive A1(K:L8)(vs:List V)(H:Hp)(Q:VK)(E:XK):Prop|mk:∀L S p l1 l2 dA q m1 m2 dB xs,vs=[.ref L,.ref S]->TwoD K H p l1 l2 dA q m1 m2 dB ((L,.lst [.ref p,.ref q])::(S,.lst (shown dA dB))::xs)->dA.past=[]->dA.und.length<=1000->dB.past.length<=1000->dB.past≠[]->dB.und=[]->(PyData.str (aV dA.cur.1 dA.cur.2)).canLay0=true->(PyData.str (aV dB.cur.1 dB.cur.2)).canLay0=true->(∀a b H',TwoD K H' p l1 a dA q m1 b dB ((L,.lst [.ref p,.ref q])::(S,.lst (shown dA dB))::xs)->Q (.bl true) H')->A1 K vs H Q E
abbrev vX:Vl:=stq 135
abbrev wI:=λP w mg base=>Cal P w K mg base "_law_steady" 16 ["_law_desks","_law_shown"] (A1 K)
def Ei(D:Dfn K mg "_law_steady" vX ["_law_desks","_law_shown"])(T:Blt mg)(d:oH P w mg base):wI P w mg base:=by
 refine D.oS ["_law_desks","_law_shown"] λC nd H vs Q E h=>?_;obtain⟨L,S,p,l1,l2,dA,q,m1,m2,dB,xs,rfl,T0,F,a4,a2,O,y,la,lb,k⟩:=h;refine⟨_,(ah (ba (aP (jE C) (bM ["_law_desk"] [] (bG K (pv 0)) (λ_=>(aI (i:=0) (show(["_law_desk"]:List Vn).Nodup from by decide +kernel) rfl oi oj)) (λ_=>ck) (λ_=>(av d C (aa (pv 0) (aa ao ae))))) (bM ["_law_text"] [] (bG K (pv 1)) (λ_=>(aI (i:=0) (show(["_law_text"]:List Vn).Nodup from by decide +kernel) rfl oi oj)) (λ_=>ck) (λ_=>(aX (aa ao (aa (pv 0) ae))))) (aN _)) (aj (az bW)) aT)
   (ah (ba (PW.pt (cZ (aP (jE C) (av d C (aa (ai (aF K) (pv 0) ag (λ_ _=>rfl)) (aa ao ae))) (aX (aa ao (aa ao ae))) (aN _)) (dQ (aP iq (ai (aA K) (av d C (aa (ai (aF K) (pv 0) ag (λ_ _=>rfl)) (aa ao ae))) ag (λ_ _=>rfl)) ao (aN _))))) (aj (az bW)) aT)
   (aj (az (gq (Bt C) (av d C (aa (ai (aF K) (pv 0) ag (λ_ _=>rfl)) (aa ao ae))) (aX (aa ao (aa (ai (aF K) (pv 1) ag (λ_ _=>rfl)) ae))) (aN _)))))),?_⟩
 left;refine bI (af.of (T0.k _ (.head _)).1) ?_;refine fb (xs:=[V.ref p,V.ref q]) (λi ys H'=>∃m n ts,TwoD K H' p l1 m dA q m1 n dB ((L,.lst [.ref p,.ref q])::(S,.lst (shown dA dB))::xs)/\ys=ts.map V.ref/\Paired (iz H') ts ((shown dA dB).take i)) (aS (by simp)) ⟨l2,m2,[],T0,rfl,.nil⟩ (λi ys H' hi h=>?_) ?_ ?_
 .obtain⟨m,n,ts,T,rfl,f⟩:=h;refine⟨af.of (T.k _ (.head _)).1,?_⟩;rw[Mc,N9 f,MV];exact Ng _ _
 .rintro i u ys G g ⟨m,n,ts,T,rfl,f⟩;left;right
  match i,g with
  | 0,g=>
   cases g;refine i5 kG.1 T.a trivial trivial (λr h=>h) (by rw[F];exact LI _) (by omega) λt l3 H5 N D5 fr l=>?_;exact⟨l3,n,ts++[t],T.step N D5 fr,by rw[Mt];rfl,O8 (oB (T.tk fr) f) l⟩
  | 1,g=>
   cases g;refine i5 kG.1 T.b trivial trivial (λr h=>h) (by omega) (by rw[y];exact LI _) λt l3 H5 N D5 fr l=>?_;exact⟨m,l3,ts++[t],(T.swap.step N D5 fr).swap,by rw[Mt];rfl,O8 (oB (T.swap.tk fr) f) l⟩
  | i+2,g=>cases g
 rintro ys G c1 ⟨m,n,ts,T,rfl,f⟩ R;obtain⟨s,x,rfl,g0,g1⟩:∃s x,ts=[s,x]/\iz G s (.str (aV dA.cur.1 dA.cur.2))/\iz G x (.str (aV dB.cur.1 dB.cur.2)):=by
  cases f with
  | cons a r=>
   cases r with
   | cons b r=>
    cases r;exact⟨_,_,rfl,a,b⟩
 have U:Ext G (upd G c1 (.lst (M5 V.ref [s,x]))):=aO R;have W:upd G c1 (.lst (M5 V.ref [s,x])) c1=Vo (.lst [.ref s,.ref x]):=ay;generalize upd G c1 (.lst (M5 V.ref [s,x]))=H5 at U W ⊢;have T5:=T.ext U;clear f R T T0;left;refine bI (af.of (T5.k _ (.tail _ (.head _))).1) ?_;refine fb (xs:=shown dA dB) (λi ys H'=>Ext H5 H'/\∃us,ys=us.map V.ref/\Paired (iz H') us ((shown dA dB).take i)) (aS (by simp[shown])) ⟨Ext.rfl' _,[],rfl,.nil⟩ (λi ys H' hi h=>?_) ?_ ?_
 .obtain⟨e,us,rfl,f⟩:=h;refine⟨af.of (e _ _ (T5.k _ (.tail _ (.head _))).1),?_⟩;rw[Mc,N9 f,MV];exact Ng _ _
 .rintro i u ys I g ⟨e6,us,rfl,f⟩;left;right;refine aE λt X A l _=>?_;refine⟨e6.trans A,us++[t],by rw[Mt];rfl,?_⟩;rw[Nm,g];exact O8 (oB (λ_ _ z=>A _ _ z) f) l
 rintro ys I c2 ⟨e6,us,rfl,f⟩ Y;obtain⟨u0,u1,rfl,k0,k1⟩:∃s x,us=[s,x]/\iz I s (.str (aV dA.cur.1 dA.cur.2))/\iz I x (.str (aV dB.cur.1 dB.cur.2)):=by
  cases f with
  | cons a r=>
   cases r with
   | cons b r=>
    cases r;exact⟨_,_,rfl,a,b⟩
 have A:Ext I (upd I c2 (.lst (M5 V.ref [u0,u1]))):=aO Y;have c7:upd I c2 (.lst (M5 V.ref [u0,u1])) c2=Vo (.lst [.ref u0,.ref u1]):=ay;generalize upd I c2 (.lst (M5 V.ref [u0,u1]))=X at A c7 ⊢;have ld:(PyData.str "told").canLay0=true:=by decide +kernel
 have o:=e6.trans A;have g0:=(U.trans o) _ _ g0;have g1:=(U.trans o) _ _ g1;have k0:=A _ _ k0;have k1:=A _ _ k1;have T7:=T5.ext o;have W:=o _ _ W;clear f Y T5 e6 A o U;have rep:∀{c a b:Vb},X c=Vo (.lst [.ref a,.ref b])->X a=Vo (.tup [.str "told",.str (aV dA.cur.1 dA.cur.2)])->X b=Vo (.tup [.str "told",.str (aV dB.cur.1 dB.cur.2)])->aQ X 2 (.ref c) (.list [.tuple [.str "told",.str (aV dA.cur.1 dA.cur.2)],.tuple [.str "told",.str (aV dB.cur.1 dB.cur.2)]]):=λ{c a b} hc ha hb=>
  .inr ⟨c,_,_,rfl,.inr ⟨hc,rfl⟩,.cons (ed ha ld la) (.cons (ed hb ld lb) .nil)⟩
 refine⟨2,2,_,_,rep W g0 g1,rep c7 k0 k1,by decide,?_⟩;clear rep W c7 g0 g1 k0 k1;rw[show M8 (.list [.tuple [.str "told",.str (aV dA.cur.1 dA.cur.2)],.tuple [.str "told",.str (aV dB.cur.1 dB.cur.2)]]) (.list [.tuple [.str "told",.str (aV dA.cur.1 dA.cur.2)],.tuple [.str "told",.str (aV dB.cur.1 dB.cur.2)]])=true by simp[M8,OB]];refine rd_exb (aC ?_);left;have B:∀a b:Vn,M8 (.tuple [.str a,.str b]) (.tuple [.str a,.str b])=true:=λa b=>by simp[M8,OB]
 have lr:(PyData.str "refused").canLay0=true/\(PyData.str "NoDeed").canLay0=true:=by decide +kernel
 obtain⟨ps,h,J⟩:∃ps h,dB.past=ps++[h]:=⟨dB.past.dropLast,dB.past.getLast O,(Ot O).symm⟩;have hU:bB dB .undo=.ok (aV h.1 h.2,⟨h,ps,[dB.cur]⟩):=by show(match dB.past.getLast? with|none=>_|some h=>_)=_;rw[J,QG];show Except.ok (_,(⟨h,(ps++[h]).dropLast,dB.und++[dB.cur]⟩:Dk))=_;rw[Oa,y];rfl
 have hR:bB ⟨h,ps,[dB.cur]⟩ .redo=.ok (aV dB.cur.1 dB.cur.2,dB):=by show Except.ok (_,(⟨dB.cur,ps++[h],[]⟩:Dk))=_;rw[<-J];cases dB;cases y;rfl
 have a5:ps.length<=1000:=by rw[J,Mu]at a2;omega
 refine aH (af.of (T7.k _ (.head _)).1) (v:=.ref p) (aM (j:=0) rfl) ?_;left;refine i5 (c:=.undo) kG.2.1 T7.a trivial trivial (λr h=>h) (by rw[F];exact LI _) (by omega) ?_;rw[show bB dA .undo=.error "NoDeed" by show(match dA.past.getLast? with|none=>_|some h=>_)=_;rw[F];rfl];intro t H8 e8 l;left;refine aE λu H9 e9 g _=>?_;refine⟨1,1,_,_,ed (e9 _ _ l) lr.1 lr.2,ed g lr.1 lr.2,by decide,?_⟩;rw[B];refine rd_exb (aC ?_);left;have T9:=T7.ext (e8.trans e9);clear T7 l g e8 e9;refine aH (af.of (T9.k _ (.head _)).1) (v:=.ref q) (aM (j:=1) rfl) ?_;left;refine i5 (c:=.undo) kG.2.1 T9.b trivial trivial (λr h=>h) (by omega) (by rw[y];exact LI _) ?_;rw[hU];intro t l3 a6 N Z fr l;have M:=(T9.swap.step N Z fr).swap;left;refine aG (ak.of l) (v:=.str "told") (aM (j:=0) rfl) ?_;left;refine zw ?_;refine rd_exb (aC ?_);left;clear T9 l fr N Z;refine aH (af.of (M.k _ (.head _)).1) (v:=.ref q) (aM (j:=1) rfl) ?_;left;refine i5 (c:=.redo) kG.2.2 M.b trivial trivial (λr h=>h) (by show ps.length<=10000;omega) (by show 1<=10000;decide) ?_;rw[hR];intro t2 l4 a7 h4 a3 fr l;have a0:=(M.swap.step h4 a3 fr).swap;left;refine aH (af.of (a0.k _ (.tail _ (.head _))).1) (v:=.str (aV dB.cur.1 dB.cur.2)) (aM (j:=1) rfl) ?_;left;refine aE λu2 a8 a1 g _=>?_;refine⟨1,1,_,_,ed (a1 _ _ l) ld lb,ed g ld lb,by decide,?_⟩;rw[B];exact k _ _ _ (a0.ext a1)
def lV{o1 a:HO}(d:H p=Vp)(c:H dx=Vp)(e:upd (upd H dx o1) p a l1=Vp)(f:upd (upd H dx o1) p a l2=Vp)(fr:∀b o,upd (upd H dx o1) p a b=Vo o->b≠p->H1 b=Vo o):Ext H H1/\H l1=Vp/\H l2=Vp:=by
 have up:∀{b o},H b=Vo o->upd (upd H dx o1) p a b=Vo o:=λz=>by rw[aq (cC z d),aq (cC z c)];exact z
 refine⟨λb o z=>fr b o (up z) (cC z d),?_,?_⟩
 .cases z:H l1 with
  | none=>rfl
  | some o=>rw[up z]at e;cases e
 .cases z:H l2 with
  | none=>rfl
  | some o=>rw[up z]at f;cases f
def vg{K:L8}{d:Dk}{E:XK}(hb:bS (M4 z " ")=false)(D:DkAt K H p l1 l2 d)(a:z.length<=1000)(b:d.past.length<=10000)(c:d.und.length<=10000)(r:∀t H',Ext H H'->H' t=Vo (.tup [.str "refused",.str "NoLine"])->Q (.ref t) H'):nR K [.ref p,.str z] H Q E:=
 ⟨p,l1,l2,d,z,rfl,D,a,b,c,_,.inr ⟨hb,rfl⟩,λx e=>by cases e;exact r⟩
def TwoD.mk2{K:L8}(D:DkAt K H p l1 l2 dA)(e:Ext H H')(d:H q=Vp)(h1:H m1=Vp)(h2:H m2=Vp)(f:DkAt K H' q m1 m2 dB)(tb:Tbs K H'):TwoD K H' p l1 l2 dA q m1 m2 dB []:=
 ⟨D.ext e,f,λc a hd=>by
  simp only[bO,Mr,MI,or_false]at hd;rcases hd with rfl|rfl|rfl
  .exact D.off d a
  .exact D.off h1 a
  .exact D.off h2 a,λx b=>(by cases b),λx b=>(by cases b),tb⟩
def iy(r r1 a p l1 l2 q m1 m2:Vb)(xs:List (Vb×HO)):Prop:=∀c∈bO r r1 a,c∉bO p l1 l2/\c∉bO q m1 m2/\∀x∈xs,x.1≠c
def TwoD.has{K:L8}(T:TwoD K H p l1 l2 dA q m1 m2 dB xs)(h:H c=Vp):c∉bO p l1 l2/\c∉bO q m1 m2/\∀x∈xs,x.1≠c:=
 ⟨T.a.off h,T.b.off h,λx d e=>by rw[<-e,(T.k x d).1]at h;cases h⟩
def iy.mk{K:L8}{r:Vb}(T:TwoD K H p l1 l2 dA q m1 m2 dB xs)(d:H r=Vp)(h1:H r1=Vp)(h2:H a=Vp):iy r r1 a p l1 l2 q m1 m2 xs:=λc b=>by
 simp only[bO,Mr,MI,or_false]at b;rcases b with rfl|rfl|rfl
 .exact T.has d
 .exact T.has h1
 .exact T.has h2
def TwoD.other{K:L8}{r i l:Vb}{dA d:Dk}(T:TwoD K H p l1 l2 dA q m1 m2 dB xs)(B:iy r r1 i p l1 l2 q m1 m2 xs)(D:DkAt K H r r1 i d)(s:l=i\/H l=Vp)(fr:Fr K H H' r r1 i):TwoD K H' p l1 l2 dA q m1 m2 dB xs/\iy r r1 l p l1 l2 q m1 m2 xs:=by
 have tk:Tk H H':=by obtain⟨⟨dx,v,a1⟩,⟨vs,b1⟩,us,u⟩:=D.has;exact λb ys z=>fr.1 b _ z (λps y=>by cases y) (λe=>by rw[e,a1]at z;cases z) (λe=>by rw[e,b1]at z;cases z) (λe=>by rw[e,u]at z;cases z)
 have kp:∀{c:Vb},c∈bO p l1 l2->∀o,H c=Vo o->(∀ps,o≠.tbl ps)->H' c=Vo o:=λ{c} f o z y=>i9 fr z y λg=>(B c g).1 f;have m:∀{c:Vb},c∈bO q m1 m2->∀o,H c=Vo o->(∀ps,o≠.tbl ps)->H' c=Vo o:=λ{c} f o z y=>i9 fr z y λg=>(B c g).2.1 f;refine⟨⟨T.a.hold (kp (.head _)) (kp (.tail _ (.head _))) (kp (.tail _ (.tail _ (.head _)))) tk,T.b.hold (m (.head _)) (m (.tail _ (.head _))) (m (.tail _ (.tail _ (.head _)))) tk,T.n,λx j=>⟨i9 fr (T.k x j).1 (T.nt x j) λg=>(B _ g).2.2 x j rfl,(T.k x j).2⟩,T.nt,fr.2 T.tb⟩,λc f=>?_⟩;simp only[bO,Mr,MI,or_false]at f;rcases f with rfl|rfl|rfl
 .exact B _ (.head _)
 .exact B _ (.tail _ (.head _))
 .rcases s with rfl|h
  .exact B _ (.tail _ (.tail _ (.head _)))
  .exact T.has h
def E2(H:Hp)(v:V):Prop:=∃p q,v=.ref p/\H p=Vo (.tup [.int 2,.ref q])/\H q=Vo (.tup [])
def E2.of(h:de H v 2 []):E2 H v:=by
 obtain⟨p,q,rfl,h1,bs,h2,a,c⟩:=h;cases bs with
 | nil=>exact⟨p,q,rfl,h1,h2⟩
 | cons b r=>cases a
def gM:HOuse 2 []:=⟨by decide,by decide,LI _,λw h=>(nomatch h),Pp⟩
def E2.hv(h:E2 H v):de H v 2 []:=by obtain⟨p,q,rfl,h1,h2⟩:=h;exact⟨p,q,rfl,h1,[],h2,rfl,λj b k h=>(nomatch h)⟩
def E2.ext(e:Ext H H')(h:E2 H v):E2 H' v:=by obtain⟨p,q,rfl,h1,h2⟩:=h;exact⟨p,q,rfl,e _ _ h1,e _ _ h2⟩
def E2.et(e:Et H H')(h:E2 H v):E2 H' v:=by obtain⟨p,q,rfl,h1,h2⟩:=h;exact⟨p,q,rfl,e _ _ h1 (λps z=>by cases z),e _ _ h2 (λps z=>by cases z)⟩
def dN(h:n<=20):n<=sizeLine:=MH h (by decide)
def kS(h:n<=20):n<sizeLine:=OL h (by decide)
def dg(p:Nat):List V:=[.bl (decide (p=0)),.bl (decide (p=1))]
def mO{p j:Nat}(h:j<2):di (dg p) ((j:Nat):Int)=Vo (.bl (decide (p=j))):=by
 match j,h with
 | 0,_=>rfl
 | 1,_=>rfl
def cI(H:Hp)(t:Vb)(i:Nat):Prop:=∃xs,H t=Vo (.lst xs)/\xs.length=i/\∀p,p<i->∃r,xs[p]?=Vo (.ref r)/\H r=Vo (.lst (dg p))
def cI.ext(e:Ext H H')(h:cI H t i):cI H' t i:=by obtain⟨xs,h1,h2,c⟩:=h;exact⟨xs,e _ _ h1,h2,λp d=>by obtain⟨r,a,b⟩:=c p d;exact⟨r,a,e _ _ b⟩⟩
def cI.eu(e:∀b xs,H b=Vo (.lst xs)->H' b=Vo (.lst xs))(h:cI H t i):cI H' t i:=by obtain⟨xs,h1,h2,c⟩:=h;exact⟨xs,e _ _ h1,h2,λp d=>by obtain⟨r,a,b⟩:=c p d;exact⟨r,a,e _ _ b⟩⟩
def Ba{p:Nat}{xs:List V}{r:Vb}(a:p<2)(h:xs[p]?=Vo (.ref r)):dg p≠xs:=λe=>by
 rw[<-e]at h
 match p,a with
 | 0,_=>cases h
 | 1,_=>cases h
def cI.push{xs:List V}(hi:i<2)(h1:H t=Vo (.lst xs))(h:cI H t i)(g:H c=Vo (.lst (dg i)))(n:c≠t):cI (upd H t (.lst (xs++[.ref c]))) t (i+1):=by
 obtain⟨ys,d,f,j⟩:=h;rw[h1]at d;cases d;refine⟨_,ay,by rw[Mu,f];rfl,λp k=>?_⟩;by_cases e:p<i
 .obtain⟨r,a,b⟩:=j p e;refine⟨r,by rw[MC (by omega)];exact a,?_⟩;rw[aq]
  .exact b
  .rintro rfl;rw[h1]at b;cases b;exact Ba (by omega) a rfl
 .have:p=i:=by omega
  subst this;refine⟨c,by rw[MB (by omega),f,RK];rfl,?_⟩;rw[aq n];exact g
theorem cI.set{H:Hp}{t c:Vb}{k:Nat}{xs:List V}(l:k<2)(h1:H t=Vo (.lst xs))(h:cI H t 2)(g:H c=Vo (.lst (dg k)))(n:c≠t):cI (upd H t (.lst (xs.set k (.ref c)))) t 2:=by
 obtain⟨ys,d,i,j⟩:=h;rw[h1]at d;cases d;refine⟨_,ay,by rw[RO,i],λp f=>?_⟩;by_cases e:k=p
 .subst e;exact⟨c,by rw[Oj (by omega)],by rw[aq n];exact g⟩
 .obtain⟨r,a,b⟩:=j p f;refine⟨r,by rw[O6 e];exact a,?_⟩;rw[aq]
  .exact b
  .rintro rfl;rw[h1]at b;cases b;exact Ba f a rfl
inductive wG(K:L8)(vs:List V)(H:Hp)(Q:VK)(E:XK):Prop|mk:∀v d,vs=[v,.str d]->E2 H v->(∀l H',Ext H H'->H l=Vp->H' l=Vo (.lst [])->Q (.ref l) H')->wG K vs H Q E
abbrev An:Vl:=stq 47
abbrev mR:=λP w mg base=>Cal P w K mg base "ways_of_deed" 1 ["house","deed"] (wG K)
def Ib(D:Dfn K mg "ways_of_deed" An ["house","deed"])(T:Blt mg):mR P w mg base:=by refine D.oS ["house","deed"] λf nd H vs Q E h=>?_;obtain⟨v,d,rfl,⟨p,q,rfl,c,a⟩,k⟩:=h;refine⟨_,(@aj _ _ _ (@az _ _ _ _ (bM ["way"] [1] (fY K (@ai _ _ _ _ _ _ _ (aA K) (pv 0) ag (λ_ _=>rfl))) (λ_=>(aI (i:=0) (show(["way","deed"]:List Vn).Nodup from by decide +kernel) rfl oi oj)) (λ_=>(dC (aP cM (@ai _ _ _ _ _ _ _ (aA K) (pv 0) ag (λ_ _=>rfl)) (pv 1) (aN _)))) (λ_=>(pv 0))))),?_⟩;left;refine aG (ak.of c) rfl ?_;left;refine fW (ak.of a) ?_;refine iV (xs:=[]) (λi ys H'=>H'=H/\ys=[]) (dN (by simp)) ⟨rfl,rfl⟩ (λi ys H' hi h=>⟨by rw[h.1];exact ak.of a,by rw[h.2];exact LI _⟩) (λi x ys H' e _=>by simp at e) ?_;rintro ys H' l ⟨rfl,rfl⟩ b;exact k l _ (aO b) b ay
inductive w6(K:L8)(vs:List V)(H:Hp)(Q:VK)(E:XK):Prop|mk:∀v,vs=[v]->E2 H v->(∀t H',Ext H H'->H t=Vp->cI H' t 2->Q (.ref t) H')->w6 K vs H Q E
abbrev zE:Vl:=stq 49
abbrev yc:=λP w mg base=>Cal P w K mg base "beginning_table" 2 ["house"] (w6 K)
def GU(D:Dfn K mg "beginning_table" zE ["house"])(T:Blt mg)(a:mR P w mg base):yc P w mg base:=by
 refine D.oS ["house","table","p","way"] λz nd H vs Q E h=>?_;obtain⟨v,rfl,hv,k⟩:=h;obtain⟨p,q,rfl,s,C⟩:=id hv;refine⟨_,(@ah _ _ _ _ _ (@aw _ _ 1 _ _ _ _ nd rfl oi (@aK _ _ _ _ ae) rfl oi)
   (@ah _ _ _ _ _ (bJ F2 rfl (dP rfl T.range_ (au (@ai _ _ _ _ _ _ _ (aA K) (pv 0) ag (λ_ _=>rfl)) ae rfl)) (aI (i:=2) nd rfl oj) (@aj _ _ _ (bp (cx K Ml Mx Mz dY (pv 1) (au (bM ["q"] [2] (dP rfl T.range_ (au (@ai _ _ _ _ _ _ _ (aA K) (pv 0) ag (λ_ _=>rfl)) ae rfl)) (λ_=>(aI (i:=0) (show(["q","p"]:List Vn).Nodup from by decide +kernel) rfl oi oj)) (λ_=>ck) (λ_=>(gq cM (pv 1) (pv 0) (aN _)))) ae rfl)))))
   (@ah _ _ _ _ _ (bJ F2 rfl (bG K (av a z (au (pv 0) (au ao ae rfl) rfl))) (aI (i:=3) nd rfl oi) (@aj _ _ _ (@ku _ _ _ _ _ _ bW (kO (@ai _ _ _ _ _ _ _ (aF K) (pv 1) (@ai _ _ _ _ _ _ _ (aA K) (pv 3) ag (λ_ _=>rfl)) (λ_ _=>rfl)) (@ai _ _ _ _ _ _ _ (aA K) (pv 3) ag (λ_ _=>rfl)) set_list) rfl rfl rfl)))
   (@aj _ _ _ (@az _ _ _ _ (pv 1)))))),?_⟩
 left;refine aE λt H1 u A d=>?_;left;refine aG (ak.of (u _ _ s)) rfl ?_;left;refine dM (by omega) ?_;refine forR (λi σ H'=>∃k1 k2,Ext H H'/\cI H' t i/\σ=[Vo (.ref p),Vo (.ref t),k1,k2]) ⟨_,_,u,⟨[],A,rfl,λp h=>absurd h (QQ _)⟩,rfl⟩ ?_ ?_
 .rintro i σ H2 hi ⟨k1,k2,f,tb,rfl⟩;have hi:i<2:=hi;obtain⟨xs,m,B,_⟩:=id tb;left;refine⟨dR (af.of m),?_⟩;left;refine aG (ak.of (f _ _ s)) (v:=.int 2) rfl ?_;left;refine dM (by omega) ?_;refine fS (λj ys H'=>H'=H2/\ys=(dg i).take j) (dN (by decide)) ⟨rfl,rfl⟩ (λj ys H' o h=>by rw[h.2,MV];exact Ng _ _) ?_ ?_
  .rintro j ys H' o ⟨rfl,rfl⟩;have o:j<2:=o;left;right;refine⟨rfl,?_⟩
   match i,hi,j,o with
   | 0,_,0,_=>rfl
   | 0,_,1,_=>rfl
   | 1,_,0,_=>rfl
   | 1,_,1,_=>rfl
  .rintro ys g c ⟨rfl,rfl⟩ r;have x:upd g c (.lst ((dg i).take (Qc 2))) c=Vo (.lst (dg i)):=ay;have b:Ext g (upd g c (.lst ((dg i).take (Qc 2)))):=aO r;generalize upd g c (.lst ((dg i).take (Qc 2)))=F at b x ⊢;have n:c≠t:=λe=>by rw[e,m]at r;cases r
   left;refine iU (b _ _ m) (kS (by omega)) ?_;left;exact⟨_,_,gF (f.trans b) d,(tb.ext b).push hi (b _ _ m) x n,rfl⟩
 .rintro σ H2 ⟨k1,k2,f,tb,rfl⟩;left;refine⟨_,_,rfl,hv.ext f,λl g b _ y=>?_⟩;refine bI (af.of y) ?_;refine kD (af.of y) ?_;left;exact k t _ (f.trans b) d (tb.ext b)
inductive B7(K:L8)(vs:List V)(H:Hp)(Q:VK)(E:XK):Prop|mk:∀t,vs=[.ref t]->cI H t 2->(∀H',(∀b o,b≠t->H b=Vo o->H' b=Vo o)->cI H' t 2->Q .non H')->B7 K vs H Q E
abbrev vS:Vl:=stq 50
abbrev tH:=λP w mg base=>Cal P w K mg base "join_walks" 1 ["table"] (B7 K)
def Gq(D:Dfn K mg "join_walks" vS ["table"])(T:Blt mg):tH P w mg base:=by
 refine D.oS ["table","many","middle","p"] λs nd H vs Q E h=>?_;obtain⟨t,rfl,tb,k⟩:=h;obtain⟨xs,a,g,_⟩:=id tb;refine⟨_,(@ah _ _ _ _ _ (@aw _ _ 1 _ _ _ _ nd rfl oi (aR (cw K) rfl T.len_ L0 (au (pv 0) ae rfl)) rfl oi)
   (@aj _ _ _ (bJ F2 rfl (dP rfl T.range_ (au (pv 1) ae rfl)) (aI (i:=2) nd rfl oj) (@aj _ _ _ (bJ F2 rfl (dP rfl T.range_ (au (pv 1) ae rfl)) (aI (i:=3) nd rfl oj) (@aj _ _ _ (fq (bF (@ai _ _ _ _ _ _ _ (aF K) (@ai _ _ _ _ _ _ _ (aF K) (pv 0) (pv 3) (λ_ _=>rfl)) (pv 2) (λ_ _=>rfl))) (@aj _ _ _ (@ku _ _ _ _ _ _ (bM ["q"] [0,3,2] (dP rfl T.range_ (au (pv 1) ae rfl)) (λ_=>(aI (i:=0) (show(["q","table","p","middle"]:List Vn).Nodup from by decide +kernel) rfl oi oj)) (λ_=>ck) (λ_=>(yU (@ai _ _ _ _ _ _ _ (aF K) (@ai _ _ _ _ _ _ _ (aF K) (pv 1) (pv 2) (λ_ _=>rfl)) (pv 0) (λ_ _=>rfl)) (fG (@ai _ _ _ _ _ _ _ (aF K) (@ai _ _ _ _ _ _ _ (aF K) (pv 1) (pv 3) (λ_ _=>rfl)) (pv 0) (λ_ _=>rfl)))))) (kO (pv 0) (pv 3) set_list) rfl rfl rfl)) aT))))))),?_⟩
 left;refine dn (af.of a) ?_;rw[g];left;refine dM (by omega) ?_;refine forR (λi σ H'=>∃k1 k2,(∀b o,b≠t->H b=Vo o->H' b=Vo o)/\cI H' t 2/\σ=[Vo (.ref t),Vo (.int 2),k1,k2]) ⟨_,_,λ_ _ _ h=>h,tb,rfl⟩ ?_ ?_
 .rintro i σ H1 hi ⟨k1,k2,kp,tb,rfl⟩;rw[show (0:Int)+(i:Int)=((i:Nat):Int) by omega];have hi:i<2:=hi;left;refine dM (by omega) ?_;refine forR (λj σ H'=>∃k2,(∀b o,b≠t->H b=Vo o->H' b=Vo o)/\cI H' t 2/\σ=[Vo (.ref t),Vo (.int 2),Vo (.int (i:Nat)),k2]) ⟨_,kp,tb,rfl⟩ ?_ ?_
  .rintro j σ H2 l ⟨k2,kp,tb,rfl⟩;rw[show (0:Int)+(j:Int)=((j:Nat):Int) by omega];have l:j<2:=l;obtain⟨xs,a,g,hrow⟩:=id tb;obtain⟨r,s,d⟩:=hrow j l;left;refine mG ?_;left;refine aH (af.of a) (v:=.ref r) (aM s) ?_;left;refine aH (af.of d) (mO hi) ?_;left;by_cases f:j=i
   rotate_left
   .rw[MZ f];nofun;exact⟨_,kp,tb,rfl⟩
   subst f;rw[M0 rfl];right;refine dM (by omega) ?_;refine fS (λq ys H'=>H'=H2/\ys=(dg j).take q) (dN (by decide)) ⟨rfl,rfl⟩ (λj ys H' l h=>by rw[h.2,MV];exact Ng _ _) ?_ ?_
   .rintro q ys H' m ⟨rfl,rfl⟩;have m:q<2:=m;rw[show (0:Int)+(q:Int)=((q:Nat):Int) by omega];left;right;refine aH (af.of a) (v:=.ref r) (aM s) ?_;left;refine aH (af.of d) (mO m) ?_;left;have fin:(dg j).take q++[V.bl (decide (j=q))]=(dg j).take (q+1):=by
     match q,m with
     | 0,_=>rfl
     | 1,_=>rfl
    by_cases e:j=q
    .rw[M0 e]at fin ⊢;exact⟨rfl,fin⟩
    .rw[MZ e]at fin ⊢;nofun;refine aH (af.of a) (v:=.ref r) (aM s) ?_;left;refine aH (af.of d) (mO m) ?_;rw[MZ e];exact⟨rfl,fin⟩
   .rintro ys u c ⟨rfl,rfl⟩ f;have x:upd u c (.lst ((dg j).take (Qc 2))) c=Vo (.lst (dg j)):=ay;have p:Ext u (upd u c (.lst ((dg j).take (Qc 2)))):=aO f;generalize upd u c (.lst ((dg j).take (Qc 2)))=y at p x ⊢;have n:c≠t:=λe=>by rw[e,a]at f;cases f
    left;refine Bo (p _ _ a) (Bh (by omega) (by omega)) ?_;refine⟨_,λb o nb z=>by rw[aq nb];exact p _ _ (kp b o nb z),?_,rfl⟩;rw[Mq];exact(tb.ext p).set l (p _ _ a) x n
  .rintro σ H2 ⟨k2,kp,tb,rfl⟩;exact⟨_,_,kp,tb,rfl⟩
 .rintro σ H1 ⟨k1,k2,kp,tb,rfl⟩;left;exact k _ kp tb
inductive uh(K:L8)(vs:List V)(H:Hp)(Q:VK)(E:XK):Prop|mk:∀t u d,vs=[.ref t,.ref u,.ref d]->H u=Vo (.lst [])->Q (.bl false) H->uh K vs H Q E
abbrev zO:Vl:=stq 51
abbrev wN:=λP w mg base=>Cal P w K mg base "add_arches" 1 ["table","ups","downs"] (uh K)
def Ha(D:Dfn K mg "add_arches" zO ["table","ups","downs"])(T:Blt mg):wN P w mg base:=by
 refine D.oS ["table","ups","downs","added","rise","fall"] λb nd H vs Q E h=>?_;obtain⟨t,u,d,rfl,a,k⟩:=h;refine⟨_,(@ah _ _ _ _ _ (@aw _ _ 3 _ _ _ _ nd rfl oi bW rfl oi)
   (@ah _ _ _ _ _ (bJ F2 rfl (bG K (pv 1)) (aI (i:=4) nd rfl oi) (@aj _ _ _ (bJ F2 rfl (bG K (pv 2)) (aI (i:=5) nd rfl oi) (@aj _ _ _ (fq (PW.pt (j9 (bF (@ai _ _ _ _ _ _ _ (aF K) (@ai _ _ _ _ _ _ _ (aF K) (pv 0) (@ai _ _ _ _ _ _ _ (aA K) (pv 4) ag (λ_ _=>rfl)) (λ_ _=>rfl)) (@ai _ _ _ _ _ _ _ (aA K) (pv 5) ag (λ_ _=>rfl)) (λ_ _=>rfl))) (lF (cj (bF (@ai _ _ _ _ _ _ _ (aF K) (@ai _ _ _ _ _ _ _ (aF K) (pv 0) (@ai _ _ _ _ _ _ _ (aA K) (pv 4) ag (λ_ _=>rfl)) (λ_ _=>rfl)) (@ai _ _ _ _ _ _ _ (aA K) (pv 5) ag (λ_ _=>rfl)) (λ_ _=>rfl))))))) (@ah _ _ _ _ _ (@ku _ _ _ _ _ _ bW (kO (@ai _ _ _ _ _ _ _ (aF K) (pv 0) (@ai _ _ _ _ _ _ _ (aA K) (pv 4) ag (λ_ _=>rfl)) (λ_ _=>rfl)) (@ai _ _ _ _ _ _ _ (aA K) (pv 5) ag (λ_ _=>rfl)) set_list) rfl rfl rfl)
   (@aj _ _ _ (@aw _ _ 3 _ _ _ _ nd rfl oi bW rfl oi))) aT)))))
   (@aj _ _ _ (@az _ _ _ _ (pv 3))))),?_⟩
 left;refine bI (af.of a) ?_;refine kD (af.of a) ?_;left;exact k
inductive As(K:L8)(vs:List V)(H:Hp)(Q:VK)(E:XK):Prop|mk:∀v,vs=[v]->E2 H v->(∀t H',Ext H H'->cI H' t 2->Q (.ref t) H')->As K vs H Q E
abbrev yq:Vl:=stq 52
abbrev pU:=λP w mg base=>Cal P w K mg base "kept_table" 3 ["house"] (As K)
def DZ(D:Dfn K mg "kept_table" yq ["house"])(T:Blt mg)(g:wN P w mg base)(c:tH P w mg base)(a:mR P w mg base)(f:yc P w mg base):pU P w mg base:=by
 refine D.oS ["house","table","ups","downs"] λj nd H vs Q E h=>?_;obtain⟨v,rfl,hv,k⟩:=h;refine⟨_,(ah (aw (i:=1) nd rfl oi (av f j (aa (pv 0) ae)))
   (ah (aw (i:=2) nd rfl oi (av a j (aa (pv 0) (aa ao ae))))
   (ah (aw (i:=3) nd rfl oi (av a j (aa (pv 0) (aa ao ae))))
   (ah (bp (av c j (aa (pv 1) ae)))
   (ah (gH F2 (bF (av g j (aa (pv 1) (aa (pv 2) (aa (pv 3) ae))))) (aj (bp (av c j (aa (pv 1) ae)))))
   (aj (az (pv 1)))))))),?_⟩
 left;refine⟨v,rfl,hv,λt H1 p q tb=>?_⟩;left;refine⟨v,_,rfl,hv.ext p,λu H2 r l A=>?_⟩;left;refine⟨v,_,rfl,hv.ext (p.trans r),λd F s _ _=>?_⟩;left;obtain⟨xs,B,_⟩:=id tb;have n:u≠t:=λe=>by rw[e,B]at l;cases l
 refine⟨t,rfl,tb.ext (r.trans s),λx kp y=>?_⟩;left;have C:Ext H x:=λb o z=>kp b o (cC z q) ((p.trans (r.trans s)) _ _ z);refine gC (λm σ H'=>m=0/\H'=x/\σ=[Vo v,Vo (.ref t),Vo (.ref u),Vo (.ref d)]) (λσ H'=>H'=x/\σ=[Vo v,Vo (.ref t),Vo (.ref u),Vo (.ref d)]) 0 ⟨rfl,rfl,rfl⟩ ?_ ?_
 .rintro m σ H' ⟨_,rfl,rfl⟩;left;refine⟨t,u,d,rfl,kp _ _ n (s _ _ A),?_⟩;left;exact aC ⟨rfl,rfl⟩
 .rintro σ H' ⟨rfl,rfl⟩;left;exact k t _ C y
def qx (h:ta σ H λvs H1=>(∀j∈js,∃v,σ[j]?=Vo (Vo v)) ∧
 ∀cp,cp.length=js.length->(∀(i j:Nat) e,js[i]?=Vo j->cp[i]?=Vo e->N[j]?=Vo e.n/\cells.lookup e.n=Vo e.c/\σ[j]?=Vo (Vo e.v)/\H1 e.c=Vp/\∃u,e.o.data=.cell (Vo u)/\RelV e.v u) ->
  sp vs (bK (cellsOf cp) H1) (λv H'=>(∀b o,(cellsOf cp).lookup b=Vo o->H' b=Vo (dG b o))/\Q v (bg (cellsOf cp) H')) E0):kQ sp js cells N ta σ H Q:=h
def wR{K:L8}{a:TE}(h:a σ H λb H1=>∃f pre R,b=.ref f/\FunR P w K mg base k f pre R/\pre H1/\ta σ H1 λvs H2=>pre H2/\R vs H2 Q):Ag P w K mg base k a ta σ H Q:=h
def lI(a:∀b o,cs.lookup b=Vo o->H b=Vp):Ext H (bK cs H):=λb o e=>qu a e
def iL(a:∀b o,cs.lookup b=Vo o->H b=Vo (dG b o))(hb:H b=Vo x)(nx:∀f,x≠.ext f):bg cs H b=Vo x:=by
 cases q:cs.lookup b with
 | none=>rw[cP q];exact hb
 | some o=>rw[a b o q]at hb;cases hb;exact absurd rfl (nx _)
def D0(a:∀b o,cs.lookup b=Vo o->H b=Vo (dG b o)):Ext H (bK cs (bg cs H)):=λb x e=>by
 cases q:cs.lookup b with
 | none=>rw[dh q,cP q];exact e
 | some o=>rw[fD q,<-a b o q];exact e
def ER(a:∀b o,cs.lookup b=Vo o->H b=Vp)(e:Ext (bK cs H) H'):Ext H (bg cs H'):=λb x hb=>by
 cases q:cs.lookup b with
 | none=>rw[cP q];exact e b x (by rw[dh q];exact hb)
 | some o=>rw[a b o q]at hb;cases hb
def iB(n:Nat)(g:Nat->Nat->Bool):Nat->List Bfs.Pl
 | 0=>[]
 | p+1=>iB n g p++((MY n).filter (g p)).map λq:Nat=>(((p:Nat):Int),((q:Nat):Int))
theorem FP{n:Nat}{g:Nat->Nat->Bool}{x:Bfs.Pl}:∀{k:Nat},x∈iB n g k↔∃p q:Nat,p<k/\q<n/\g p q=true/\x=(((p:Nat):Int),((q:Nat):Int))
 | 0=>⟨λh=>(nomatch h),λ⟨p,_,h,_⟩=>absurd h (QQ _)⟩
 | k+1=>by
  show x∈iB n g k++_↔_;rw[MA,FP (k:=k)];constructor
  .rintro(⟨p,q,h1,h2⟩|h)
   .exact⟨p,q,by omega,h2⟩
   .obtain⟨q,b,rfl⟩:=NR.mp h;obtain⟨h1,h2⟩:=OU.mp b;exact⟨k,q,by omega,NP.mp h1,h2,rfl⟩
  .rintro⟨p,q,h1,h2,a,rfl⟩;by_cases c:p<k
   .exact .inl ⟨p,q,c,h2,a,rfl⟩
   .have:p=k:=by omega
    subst this;exact .inr (NR.mpr ⟨q,OU.mpr ⟨NP.mpr h2,a⟩,rfl⟩)
def rG(n)(g):((MY n).filter g).length<=n:=MH (N7 _ _) (by rw[O5];exact Mw _)
theorem zo{n:Nat}{g:Nat->Nat->Bool}:∀k:Nat,(iB n g k).length<=k*n
 | 0=>by simp[iB]
 | k+1=>by show(iB n g k++_).length<=_;rw[Mu,Mc,Om];have:=zo (n:=n) (g:=g) k;have:=rG n (g k);omega
def fQ(f:∀a x,aJ H a x->aJ H' a x){xs:List Bfs.Pl}(h:Paired (aJ H) b xs):Paired (aJ H') b xs:=by
 induction h with
 | nil=>exact .nil
 | cons h t c=>exact .cons (f _ _ h) c
def Im{xs:List Bfs.Pl}(h:Paired (aJ H) b xs)(c:aJ H a x):Paired (aJ H) (b++[a]) (xs++[x]):=by
 induction h with
 | nil=>exact .cons c .nil
 | cons h _ d=>exact .cons h d
def Em{a bs:List Vb}{xs ys:List Bfs.Pl}(h:Paired (aJ H) a xs)(h':Paired (aJ H) bs ys):Paired (aJ H) (a++bs) (xs++ys):=by
 induction h with
 | nil=>exact h'
 | cons h _ b=>exact .cons h b
def kE{a:List Vb}{xs:List Bfs.Pl}(h:Paired (aJ H) a xs):a.length=xs.length:=by
 induction h with
 | nil=>rfl
 | cons _ _ b=>rw[ME,ME,b]
def o7(P:Vd)(w:Ve)(K:L8)(mg:Vn->Option Va)(base:Vh):Sp:=λvs H Q _=>∃a m ws f pre g,vs=[a,.ref f]/\de H a m ws/\HOuse m ws/\FunR P w K mg base 1 f pre (λvs H Q=>∃p q:Nat,vs=[.int (p:Nat),.int (q:Nat)]/\(p:Int)<m/\(q:Int)<m/\∀H',Ext H H'->Q (.bl (g p q)) H')/\pre H/\(∀H H',Ext H H'->pre H->pre H') ∧
 ∀l ps H',Ext H H'->H l=Vp->H' l=Vo (.lst (M5 V.ref ps))->Paired (aJ H') ps (iB m.toNat g m.toNat)->Q (.ref l) H'
abbrev qf:Vl:=stq 48
def Cb:FnScope ["house","choice","pairs","p"] ["house","choice"] (aW qf):=⟨rfl,rfl,rfl,by decide +kernel,rfl,by decide +kernel,by decide +kernel⟩
def Fy{P}{w}{mg}{base}(D:Dfn K mg "told_pairs" qf ["house","choice"])(T:Blt mg):Cal P w K mg base "told_pairs" 2 ["house","choice"] (o7 P w K mg base):=by
 have nd:=(Cb).nd;refine D.ok Cb (λvs H Q E h=>?_) (λX hX H vs Q E h=>?_)
 .obtain⟨vh,m,ws,f,pre,g,rfl,_⟩:=h;rfl
 .obtain⟨f,cdv,A,outer,s,H0,E0,rfl,hr⟩:=hX;obtain⟨vh,m,ws,R,pre,g,rfl,hv,ok,hF,r,d,q⟩:=h;have m1:=ok.m1;have m12:=ok.m12;obtain⟨M,a1,rfl,S,_⟩:=id hv;refine⟨_,(@ah _ _ _ _ _ (@aw _ _ 2 _ _ _ _ nd rfl (Or.inl rfl) (@aK _ _ _ _ ae) rfl (Or.inl rfl))
    (@ah _ _ _ _ _ (bJ F2 rfl (dP rfl T.range_ (@aa _ _ _ _ _ (@ai _ _ _ _ _ _ _ (aA K) (pv 0) ag (λ_ _=>rfl)) ae rfl)) (aI (i:=3) nd rfl (Or.inr rfl)) (@aj _ _ _ (bp (cx K Ml Q1 Q2 zX (pv 2) (@aa _ _ _ _ _ (bM ["q"] [3,1] (dP rfl T.range_ (@aa _ _ _ _ _ (@ai _ _ _ _ _ _ _ (aA K) (pv 0) ag (λ_ _=>rfl)) ae rfl)) (λ_=>(aI (i:=0) (show(["q","p","choice"]:List Vn).Nodup from by decide +kernel) rfl (Or.inl rfl) (Or.inr rfl))) (λ_=>(dC (bF (zJ (P:=P) (w:=w) (K:=K) (mg:=mg) (base:=base) hr (pv 2) (@aa _ _ _ _ _ (pv 1) (@aa _ _ _ _ _ (pv 0) ae rfl) rfl))))) (λ_=>(@aX _ _ _ _ _ (@aa _ _ _ _ _ (pv 1) (@aa _ _ _ _ _ (pv 0) ae rfl) rfl)))) ae rfl)))))
    (@aj _ _ _ (@az _ _ _ _ (pv 2))))),?_⟩
  left;refine aE λl H1 U hl C=>?_;left;refine aG (ak.of (U _ _ S)) (v:=.int m) rfl ?_;left;refine dM (by omega) ?_;refine forR (λp σ H'=>∃ps k1,Ext H H'/\H' l=Vo (.lst (M5 V.ref ps))/\Paired (aJ H') ps (iB m.toNat g p)/\σ=[Vo (.ref M),Vo (.ref R),Vo (.ref l),k1]) ⟨[],_,U,hl,.nil,rfl⟩ ?_ ?_
  .rintro p σ H2 hp ⟨ps,k1,G,e,j,rfl⟩;rw[show (0:Int)+(p:Int)=((p:Nat):Int) by omega];have a2:=kE j;have a3:=zo (n:=m.toNat) (g:=g) p;have a4:p*m.toNat<=12*12:=Nat.mul_le_mul (by omega) (by omega);left;refine⟨dR (af.of e),?_⟩;left;refine aG (ak.of (G _ _ S)) (v:=.int m) rfl ?_;left;refine dM (by omega) ?_;refine fS (λi ys H'=>Ext H2 H'/\∃cs,ys=M5 V.ref cs/\Paired (aJ H') cs (((MY i).filter (g p)).map λq:Nat=>(((p:Nat):Int),((q:Nat):Int)))) (aS (by omega)) ⟨Ext.rfl' _,[],rfl,.nil⟩ ?_ ?_ ?_
   .rintro i ys H' _ ⟨_,cs,rfl,b⟩;rw[Mc,kE b,Mc];exact rG i (g p)
   .rintro i ys N hi ⟨J,cs,rfl,b⟩;rw[show (0:Int)+(i:Int)=((i:Nat):Int) by omega];have I:=G.trans J;left;refine wR ?_;left;refine⟨R,pre,_,rfl,hF,d _ _ I r,?_⟩;left;refine⟨d _ _ I r,p,i,rfl,by omega,by omega,λH4 B=>?_⟩;have c:=J.trans B;cases W:g p i with
    | false=>
     refine rd_exb (aC ⟨c,cs,rfl,?_⟩);rw[PZ,OO];have:Rm (g p) [i]=[]:=by rw[P8,M1 (by rw[W];exact Ms)];rfl
     rw[this,Nx];exact fQ (λa x h=>B _ _ h) b
    | true=>
     refine rd_exb (aD ?_);left;refine aE λt H5 Y ht _=>?_;refine⟨c.trans Y,cs++[t],?_,?_⟩
     .rw[Mt];rfl
     .rw[PZ,OO,Mt];have:Rm (g p) [i]=[i]:=by rw[P8,M3 W];rfl
      rw[this];exact Im (fQ (λa x h=>(B.trans Y) _ _ h) b) ht
   .rintro ys N L ⟨J,cs,rfl,b⟩ O;have B:=aO (o:=.lst (M5 V.ref cs)) O;have Z:(upd N L (.lst (M5 V.ref cs))) L=_:=ay;have u:=fQ (λa x h=>B _ _ h) b;have c:=J.trans B;have k:=c _ _ e;have y:=fQ (λa x h=>c _ _ h) j;generalize upd N L (.lst (M5 V.ref cs))=H4 at B Z u c k y ⊢;have hcl:=kE b;rw[Mc]at hcl;have a0:=rG m.toNat (g p);left;refine⟨l,L,_,_,rfl,rfl,k,Z,aS (by rw[Mc,Mc];omega),?_⟩;left;refine⟨ps++cs,_,gF (G.trans c) C,?_,?_,rfl⟩
    .rw[ay,Mt]
    .exact Em (fQ (λa x h=>aJ.put k (λxs z=>by cases z) h) y) (fQ (λa x h=>aJ.put k (λxs z=>by cases z) h) u)
  .rintro σ H2 ⟨ps,k1,G,e,j,rfl⟩;left;exact q l ps H2 G C e j
def held{c a:Hp}(h:∀b o,cs.lookup b=Vo o->c b=Vp)(d:Ext (bK cs c) a):(∀b o,cs.lookup b=Vo o->a b=Vo (dG b o))/\Ext c (bg cs a)/\(∀l,bK cs c l=Vp->bg cs a l=a l)/\∀b x,a b=Vo x->(∀f,x≠.ext f)->bg cs a b=Vo x:=by
 have e:∀b o,cs.lookup b=Vo o->a b=Vo (dG b o):=λb o q=>d _ _ (fD q);refine⟨e,ER h d,λl g=>?_,λb x hb nx=>iL e hb nx⟩;cases q:cs.lookup l with
 | none=>exact cP q
 | some o=>rw[fD q]at g;cases g
def mq{α:Type}{cp:List α}(h:cp.length=1):∃e,cp=[e]:=by
 cases cp with
 | nil=>exact absurd h (by simp)
 | cons e r=>
  cases r with
  | nil=>exact⟨e,rfl⟩
  | cons _ _=>exact absurd h (by simp)
def nO{α:Type}{cp:List α}(h:cp.length=2):∃e a,cp=[e,a]:=by
 cases cp with
 | nil=>exact absurd h (by simp)
 | cons e r=>
  obtain⟨a,rfl⟩:=mq (cp:=r) (by simpa using h);exact⟨e,a,rfl⟩
def Fe{α:Type}{cp:List α}(h:cp.length=3):∃e b a,cp=[e,b,a]:=by
 cases cp with
 | nil=>exact absurd h (by simp)
 | cons e r=>
  obtain⟨b,a,rfl⟩:=nO (cp:=r) (by simpa using h);exact⟨e,b,a,rfl⟩
def pM{K:L8}{f c:Vb}{q:Vn}{g:Hp}(j:g f=Vo (fo f c q params body scope cl))(C:ClOk scope cells cl)(ps)(cp)(R)(I:Hp->Prop)
  (S:LamSc ps scope) (bind:∀pm h d us,us.length=ps.length->bindArgs (PySem.W.kla_fn "<lambda>" q params body scope cl pm h d) ⟨us,[]⟩=pure (ps.zip us))
  (i:∀vs H Q,R vs H Q->vs.length=ps.length)
  (a:∀A outer s H (vs:List V) Q,Room k (A.deeper (fF q scope s.heap.objs.size f (.ref c) cl))->iX f c q params body scope cl cp H->I H->R vs H Q ->
   ∃te,PE (k6 P w K mg base (ps++cp.map (·.n)) q scope f (.ref c) cl A outer s (bg (cellsOf cp) H)) body te/\te (vs.map Vo++cp.map λe=>Vo e.v) (bg (cellsOf cp) H) λv H'=>(∀b o,(cellsOf cp).lookup b=Vo o->H' b=Vp)->Q v (bK (cellsOf cp) H')) :
  FunR P w K mg base (k+1) f (λH=>iX f c q params body scope cl cp H/\I H) R:=FL I S C bind i a
inductive pj(K:L8)(vs:List V)(H:Hp)(Q:VK)(E:XK):Prop|mk:∀a,vs=[a]->E2 H a->dU K->Tbs K H->(∀l ps H',Et H H'->Tbs K H'->H' l=Vo (.lst (M5 V.ref ps))->Paired (aJ H') ps [(0,0),(1,1)]->Q (.ref l) H')->pj K vs H Q E
abbrev qk:Vl:=stq 53
abbrev yV:=λP w mg base=>Cal P w K mg base "kept" 7 ["house"] (pj K)
def JG(D:Dfn K mg "kept" qk ["house"])(T:Blt mg)(B:Tab K mg base "kept" c9 T9)(m:Cal P w K mg base "told_pairs" 2 ["house","choice"] (o7 P w K mg base))(r:pU P w mg base)(g:ip P w mg base):yV P w mg base:=by
 refine D.oL B ["house","table"] λhr nd H vs Q E h=>?_;obtain⟨vh,rfl,hv,S,L,q⟩:=h;refine⟨_,(ah (bp (av g hr (aa (pv 0) ae)))
   (ah (aw (i:=1) nd rfl oj (av r hr (aa (pv 0) ae)))
   (aj (az (oQ [1] m hr (aa (pv 0) (aa (qF rfl rfl B.hd B.blt B.gl (by decide +kernel) rfl rfl rfl) ae))))))),?_⟩
 left;refine⟨vh,2,[],rfl,hv.hv,gM,λH1 e1=>?_⟩;left;refine⟨vh,rfl,hv.ext e1,λF H2 U M=>?_⟩;have y:=e1.trans U;left;generalize RT _=cells0;refine qx ?_;left;refine qO ?_;refine pR (x:="kept") (L.ext y).kept B.tin λfl c' cl H3 hcl e3 a8 ot hf a9=>?_;have t3:Tbs K H3:=⟨a8,ot "low_levels" _ _ _ (λc2 T2 U=>S "kept" (by simp) "low_levels" (by simp) (by decide +kernel) _ _ _ _ B.tin U) (L.ext y).low,ot "risen" _ _ _ (λc2 T2 U=>S "kept" (by simp) "risen" (by simp) (by decide +kernel) _ _ _ _ B.tin U) (L.ext y).risen⟩;left;refine⟨λj hj=>?_,λcp hlen W=>?_⟩
 .rw[Mo.mp hj];exact⟨_,rfl⟩
 obtain⟨⟨n,c,o,v⟩,rfl⟩:=mq hlen;obtain⟨hN,X,N,C,u,I,J⟩:=W 0 1 _ rfl rfl;clear W hlen;dsimp only at hN X N C I J;have ab:(MN "table")=n:=MO hN;have Y:(V.ref F)=v:=MO (MO N);clear hN N;subst ab;subst Y;have Z:∀b o',(cellsOf [⟨MN "table",c,o,V.ref F⟩]).lookup b=Vo o'->H3 b=Vp:=λb o' hb=>by obtain⟨e,he,rfl,rfl⟩:=ie hb;rw[Mo.mp he];exact C
 have ex:=lI Z;have G:=(M.eu λb xs z=>e3 b _ z λps z=>by cases z).ext ex;have ac:=((hv.ext y).et e3).ext ex;have O:Caps (bK (cellsOf [⟨MN "table",c,o,V.ref F⟩]) H3) cl [⟨MN "table",c,o,V.ref F⟩]:=by
  obtain⟨c2,R⟩:=hcl.has (MN "table") rfl;have a0:=(hcl.fr _ _ R).2;rw[X]at a0;cases a0;refine⟨λe he=>?_,λx d hx=>?_⟩
  .rw[Mo.mp he];exact⟨R,fD (by simp[cellsOf]),u,I,J⟩
  .have hm:=il (hcl.fr x d hx).1;simp at hm;subst hm;rw[R]at hx;cases hx;exact⟨_,Mo.mpr rfl,rfl,rfl⟩
 have hF:=pM (P:=P) (w:=w) (K:=K) (mg:=mg) (base:=base) (k:=0) hf hcl (["p","q"]:List Vn) [⟨MN "table",c,o,V.ref F⟩] (λvs H Q=>∃p q:Nat,vs=[.int (p:Nat),.int (q:Nat)]/\(p:Int)<2/\(q:Int)<2/\∀H',Ext H H'->Q (.bl (decide (p=q))) H') (λH=>cI H F 2) ⟨rfl,rfl,rfl,by decide +kernel,by decide +kernel⟩ (λ_ _ _ us hl=>by obtain⟨u1,u2,rfl⟩:=nO hl;rfl) (λvs H Q h=>by obtain⟨p,q,rfl,_⟩:=h;rfl) (λA outer s H vs Q an a5 hI hR=>by obtain⟨p,q,rfl,hp,hq,hQ⟩:=hR;have a6:=a5.2.2.look;have a7:cI (bg (cellsOf [⟨MN "table",c,o,V.ref F⟩]) H) F 2:=hI.eu λb xs z=>iL a6 z (λf z=>by cases z);refine⟨_,(ai (aF K) (ai (aF K) (pv 2) (pv 0) (λ_ _=>rfl)) (pv 1) (λ_ _=>rfl)),?_⟩;have hb:=D0 a6;generalize bg (cellsOf [⟨MN "table",c,o,V.ref F⟩]) H=HU at a7 hb ⊢;obtain⟨xs,hx,ar,hrow⟩:=a7;obtain⟨ap,gp,rp⟩:=hrow p (by omega);show jx _ _ _ [Vo (.int (p:Nat)),Vo (.int (q:Nat)),Vo (.ref F)] _ _;left;refine aH (af.of hx) (v:=.ref ap) (aM gp) ?_;left;refine aH (af.of rp) (mO (by omega)) ?_;exact λ_=>hQ _ hb)
 refine⟨vh,2,[],fl,_,λp q=>decide (p=q),rfl,ac.hv,gM,hF,⟨⟨ex _ _ hf,ex _ _ a9,O⟩,G⟩,λH H' e h=>⟨h.1.ext e,h.2.ext e⟩,λl ps H4 e4 hl ad am=>?_⟩;obtain⟨a1,a2,a3,a4⟩:=held Z e4;exact⟨a1,q l ps _ ((y.et.trans e3).trans a2.et) (t3.ext a2) (a4 _ _ ad (λf z=>by cases z)) (fQ (λa x h=>a4 _ _ h (λf z=>by cases z)) am)⟩
def zC(a:∀b o,cs.lookup b=Vo o->H b=Vo (dG b o))(e:Ext (bg cs H) H'):Ext H (bK cs H'):=λb x hb=>by
 cases q:cs.lookup b with
 | none=>rw[dh q];exact e b x (by rw[cP q];exact hb)
 | some o=>rw[fD q,<-a b o q];exact hb
inductive nZ(K:L8)(vs:List V)(H:Hp)(Q:VK)(E:XK):Prop|mk:∀a,vs=[a]->E2 H a->dU K->Tbs K H->(∀l H',Et H H'->Tbs K H'->H' l=Vo (.lst [])->Q (.ref l) H')->nZ K vs H Q E
abbrev rO:Vl:=stq 54
abbrev ye:=λP w mg base=>Cal P w K mg base "risen" 7 ["house"] (nZ K)
def JC(D:Dfn K mg "risen" rO ["house"])(T:Blt mg)(B:Tab K mg base "risen" c9 T9)(r:Cal P w K mg base "told_pairs" 2 ["house","choice"] (o7 P w K mg base))(m:mR P w mg base)(y:pU P w mg base)(a:ip P w mg base):ye P w mg base:=by
 refine D.oL B ["house","table","ups"] λhr nd H vs Q E h=>?_;obtain⟨vh,rfl,hv,a9,Z,q⟩:=h;refine⟨_,(ah (bp (av a hr (aa (pv 0) ae)))
   (ah (aw (i:=1) nd rfl oj (av y hr (aa (pv 0) ae)))
   (ah (aw (i:=2) nd rfl oj (av m hr (aa (pv 0) (aa ao ae))))
   (aj (az (oQ [2,1] r hr (aa (pv 0) (aa (qF rfl rfl B.hd B.blt B.gl (by decide +kernel) rfl rfl rfl) ae)))))))),?_⟩
 left;refine⟨vh,2,[],rfl,hv.hv,gM,λH1 e1=>?_⟩;left;refine⟨vh,rfl,hv.ext e1,λU be ab _=>?_⟩;left;refine⟨vh,_,rfl,hv.ext (e1.trans ab),λS H2 e2 _ ac=>?_⟩;have F:=(e1.trans ab).trans e2;left;show kQ _ [2,1] _ (["house","table","ups"]:List Vn) _ _ _ _;generalize RT _=cells0;refine qx ?_;left;refine qO ?_;refine pR (x:="risen") (Z.ext F).risen B.tin λfl c' cl H3 hcl e3 b3 ot hf b4=>?_;have t3:Tbs K H3:=⟨ot "kept" _ _ _ (λc2 T2 e2=>a9 "risen" (by simp) "kept" (by simp) (by decide +kernel) _ _ _ _ B.tin e2) (Z.ext F).kept,ot "low_levels" _ _ _ (λc2 T2 e2=>a9 "risen" (by simp) "low_levels" (by simp) (by decide +kernel) _ _ _ _ B.tin e2) (Z.ext F).low,b3⟩;left;refine⟨λj hj=>?_,λcp hlen a0=>?_⟩
 .rcases Mr.mp hj with rfl|hj
  .exact⟨_,rfl⟩
  .rw[Mo.mp hj];exact⟨_,rfl⟩
 obtain⟨⟨n,c,o,v⟩,⟨n',d,o',v'⟩,rfl⟩:=nO hlen;obtain⟨hN,ad,a5,G,u,W,X⟩:=a0 0 2 _ rfl rfl;obtain⟨a6,Y,I,C,u2,J,L⟩:=a0 1 1 _ rfl rfl;clear a0 hlen;dsimp only at hN ad a5 G W X a6 Y I C J L;have b5:(MN "ups")=n:=MO hN;have am:(V.ref S)=v:=MO (MO a5);have an:(MN "table")=n':=MO a6;have a7:(V.ref U)=v':=MO (MO I);clear hN a5 a6 I;subst b5;subst am;subst an;subst a7;obtain⟨c2,M⟩:=hcl.has (MN "ups") rfl;obtain⟨d2,N⟩:=hcl.has (MN "table") rfl;have ap:=(hcl.fr _ _ M).2;have ar:=(hcl.fr _ _ N).2;rw[ad]at ap;rw[Y]at ar;cases ap;cases ar;have b6:c≠d:=λz=>by have:=hcl.inj _ _ _ M (z ▸ N);exact absurd this (by decide +kernel)
 have as:∀b o9,(cellsOf [⟨MN "ups",c,o,V.ref S⟩,⟨MN "table",d,o',V.ref U⟩]).lookup b=Vo o9->H3 b=Vp:=λb o9 hb=>by
  obtain⟨e,he,rfl,rfl⟩:=ie hb;rcases Mr.mp he with rfl|he
  .exact G
  .rw[Mo.mp he];exact C
 have ex:=lI as;have b0:=ex _ _ (e3 _ _ ac (λps z=>by cases z));have b7:=((hv.ext F).et e3).ext ex;have a8:Caps (bK (cellsOf [⟨MN "ups",c,o,V.ref S⟩,⟨MN "table",d,o',V.ref U⟩]) H3) cl [⟨MN "ups",c,o,V.ref S⟩,⟨MN "table",d,o',V.ref U⟩]:=by
  refine⟨λe he=>?_,λx g O=>?_⟩
  .rcases Mr.mp he with rfl|he
   .exact⟨M,fD (by simp[cellsOf]),u,W,X⟩
   .rw[Mo.mp he];refine⟨N,fD ?_,u2,J,L⟩;show N4 d ((c,o)::[(d,o')])=Vo o';rw[MU,show (d == c)=false from beq_eq_false_iff_ne.mpr (NC b6),MU,beq_self_eq_true]
  .have hm:=il (hcl.fr x g O).1;simp at hm;rcases hm with rfl|rfl
   .first|(rw[M]at O;cases O;exact⟨_,Mj,rfl,rfl⟩)|(rw[N]at O;cases O;exact⟨_,Mg _ (Mo.mpr rfl),rfl,rfl⟩)
   .first|(rw[M]at O;cases O;exact⟨_,Mj,rfl,rfl⟩)|(rw[N]at O;cases O;exact⟨_,Mg _ (Mo.mpr rfl),rfl,rfl⟩)
 have hF:=pM (P:=P) (w:=w) (K:=K) (mg:=mg) (base:=base) (k:=0) hf hcl (["p","q"]:List Vn) [⟨MN "ups",c,o,V.ref S⟩,⟨MN "table",d,o',V.ref U⟩] (λvs H Q=>∃p q:Nat,vs=[.int (p:Nat),.int (q:Nat)]/\(p:Int)<2/\(q:Int)<2/\∀H',Ext H H'->Q (.bl false) H') (λH=>H S=Vo (.lst [])) ⟨rfl,rfl,rfl,by decide +kernel,by decide +kernel⟩ (λ_ _ _ us hl=>by obtain⟨u1,u2,rfl⟩:=nO hl;rfl) (λvs H Q h=>by obtain⟨p,q,rfl,_⟩:=h;rfl) (λA outer s H vs Q bi b1 hI hR=>by obtain⟨p,q,rfl,hp,hq,hQ⟩:=hR;have b2:=b1.2.2.look;have R:=iL b2 hI (λf z=>by cases z);refine⟨_,(aR (B2 K rfl) rfl T.any_ Rb (aa (bM ["way"] [3,1,0] (bG K (pv 2)) (λ_=>(aI (i:=0) (show(["way","table","q","p"]:List Vn).Nodup from by decide +kernel) rfl oi oj)) (λ_=>(dC (aP cM (ai (aA K) (pv 0) ag (λ_ _=>rfl)) (pv 3) (aN _)))) (λ_=>(ai (aF K) (ai (aF K) (pv 1) (ai (aA K) (pv 0) ag (λ_ _=>rfl)) (λ_ _=>rfl)) (pv 2) (λ_ _=>rfl)))) ae)),?_⟩;have hb:∀H',Ext (bg (cellsOf [⟨MN "ups",c,o,V.ref S⟩,⟨MN "table",d,o',V.ref U⟩]) H) H'->Ext H (bK (cellsOf [⟨MN "ups",c,o,V.ref S⟩,⟨MN "table",d,o',V.ref U⟩]) H'):=λH' e=>zC b2 e;generalize bg (cellsOf [⟨MN "ups",c,o,V.ref S⟩,⟨MN "table",d,o',V.ref U⟩]) H=HU at R hb ⊢;show mV _ _ [Vo (.int (p:Nat)),Vo (.int (q:Nat)),Vo (.ref S),Vo (.ref U)] _ _;left;refine bI (af.of R) ?_;refine fb (xs:=[]) (λi ys H'=>H'=HU/\ys=[]) (dN (by simp)) ⟨rfl,rfl⟩ (λi ys H' _ h=>⟨by rw[h.1];exact af.of R,by rw[h.2];exact LI _⟩) (λi x ys H' O _=>by simp at O) ?_;rintro ys H4 p9 ⟨hH,rfl⟩ b8;subst hH;have e9:=aO (o:=.lst (M5 V.bl [])) b8;left;refine⟨p9,[],rfl,af.of ay,?_⟩;exact λ_=>hQ _ (hb _ e9))
 refine⟨vh,2,[],fl,_,λ_ _=>false,rfl,b7.hv,gM,hF,⟨⟨ex _ _ hf,ex _ _ b4,a8⟩,b0⟩,λH H' e h=>⟨h.1.ext e,e _ _ h.2⟩,λl ps H4 e4 hl b9 bb=>?_⟩;obtain⟨a1,a2,a3,a4⟩:=held as e4;have:ps=[]:=by have:Paired (aJ H4) ps []:=bb;cases this;rfl
 subst this;exact⟨a1,q l _ ((F.et.trans e3).trans a2.et) (t3.ext a2) (a4 _ _ b9 (λf z=>by cases z))⟩
def bq(n:Nat)(f:Nat->Bool):List V:=(MY n).map λi=>V.bl (f i)
def dO(n)(f):(bq n f).length=n:=by simp[bq]
def jd(f)(h:i<n):(bq n f)[i]?=Vo (.bl (f i)):=by unfold bq;rw[Mf,QU h];rfl
def rK(h:∀i,i<n->f i=g i):bq n f=bq n g:=by apply List.map_congr_left;intro i hi;rw[h i (NP.mp hi)]
def uj(n)(f):bq (n+1) f=bq n f++[V.bl (f n)]:=by unfold bq;rw[PZ,Mt];rfl
def GQ(f)(c)(a:k<n):(bq n f).set k (.bl c)=bq n λi=>if i=k then c else f i:=by
 apply Qw;intro i;rcases MT i n with hi|hi
 .rw[List.getElem?_set,dO,jd _ hi,jd _ hi];by_cases h:k=i
  .subst h;simp[hi]
  .rw[M1 h,M1 (NC h)]
 .rw[Nk (by rw[RO,dO];exact hi),Nk (by rw[dO];exact hi)]
def kC{i:Int}(a:0<=i)(h:i<n):di (bq n f) i=Vo (.bl (f i.toNat)):=Cu a (jd f (by omega))
def yG(n)(c):(MR n [V.bl c]).flatten=bq n λ_=>c:=by
 induction n with
 | zero=>rfl
 | succ n a=>
  rw[Rl,List.flatten_append,a,uj];rfl
def Fl{i:Int}(b:0<=i)(h:i<=n):cn (bq n f) Vp (Vo i)=bq i.toNat f:=by
 unfold cn;rw[dO,HT.mi];have e:HT.aL n n (Vo i)=i.toNat:=by show(if i<0 then(i+(n:Int)).toNat else min i.toNat n)=i.toNat;rw[M1 (by omega)];omega
 rw[e,Rh,Nat.sub_zero];apply Qw;intro k;rcases MT k i.toNat with a|a
 .rw[Ob a,jd _ (by omega),jd _ a]
 .rw[Nk (by rw[MV,dO];omega),Nk (by rw[dO];omega)]
def Rows(H:Hp)(q:Vb)(a:List Vb)(n:Nat)(M:Nat->Nat->Bool):Prop:=H q=Vo (.lst (a.map V.ref))/\∀(i:Nat) (r:Vb),a[i]?=Vo r->H r=Vo (.lst (bq n (M i)))
def Rows.ext(e:Ext H H'){a:List Vb}{M:Nat->Nat->Bool}(h:Rows H q a n M):Rows H' q a n M:=⟨e _ _ h.1,λi r hi=>e _ _ (h.2 i r hi)⟩
def Rows.et(e:Et H H'){a:List Vb}{M:Nat->Nat->Bool}(h:Rows H q a n M):Rows H' q a n M:=⟨e _ _ h.1 (λps z=>by cases z),λi r hi=>e _ _ (h.2 i r hi) (λps z=>by cases z)⟩
def WR(H:Hp)(c:Vb):Prop:=∃xs,H c=Vo (.lst xs)/\∃r,xs[0]?=Vo (.ref r)/\H r=Vo (.lst [])
def WR.ext(e:Ext H H')(h:WR H c):WR H' c:=by obtain⟨xs,h1,r,h2,a⟩:=h;exact⟨xs,e _ _ h1,r,h2,e _ _ a⟩
def WR.eu(e:∀b xs,H b=Vo (.lst xs)->H' b=Vo (.lst xs))(h:WR H c):WR H' c:=by obtain⟨xs,h1,r,h2,a⟩:=h;exact⟨xs,e _ _ h1,r,h2,e _ _ a⟩
inductive xa(K:L8)(vs:List V)(H:Hp)(Q:VK)(E:XK):Prop|mk:∀v,vs=[v]->E2 H v->(∀c H',Ext H H'->WR H' c->Q (.ref c) H')->xa K vs H Q E
abbrev A4:Vl:=stq 56
abbrev xr:=λP w mg base=>Cal P w K mg base "ways_by_room" 1 ["house"] (xa K)
def Fg(D:Dfn K mg "ways_by_room" A4 ["house"])(T:Blt mg):xr P w mg base:=by
 refine D.oS ["house","ways","way"] λA nd H vs Q E h=>?_;obtain⟨v,rfl,⟨p,q,rfl,n,s⟩,k⟩:=h;refine⟨_,(@ah _ _ _ _ _ (fL (i:=1) ["room"] [] nd rfl oi (dP rfl T.range_ (au (@ai _ _ _ _ _ _ _ (aA K) (pv 0) ag (λ_ _=>rfl)) ae rfl)) (λ_=>(aI (i:=0) (show(["room"]:List Vn).Nodup from by decide +kernel) rfl oi oj)) (λ_=>ck) (λ_=>(@aK _ _ _ _ ae)))
   (@ah _ _ _ _ _ (bJ F2 rfl (fY K (@ai _ _ _ _ _ _ _ (aA K) (pv 0) ag (λ_ _=>rfl))) (aI (i:=2) nd rfl oi) (@aj _ _ _ (bp (cx K Ml Mx Mz dY (@ai _ _ _ _ _ _ _ (aF K) (pv 1) (@ai _ _ _ _ _ _ _ (aA K) (pv 2) ag (λ_ _=>rfl)) (λ_ _=>rfl)) (au (pv 2) ae rfl)))))
   (@aj _ _ _ (@az _ _ _ _ (pv 1))))),?_⟩
 left;refine aG (ak.of n) rfl ?_;left;refine dM (by omega) ?_;refine fS (λi ys H'=>Ext H H'/\ys.length=i/\(0<i->∃r,ys[0]?=Vo (.ref r)/\H' r=Vo (.lst []))) (dN (by decide)) ⟨Ext.rfl' _,rfl,λh=>absurd h (ND _)⟩ (λi ys H' _ h=>Ph h.2.1) ?_ ?_
 .rintro i ys H1 hi ⟨e,u,f⟩;left;right;refine aE λl H2 d g _=>?_;refine⟨e.trans d,by rw[Mu,u];rfl,λ_=>?_⟩;by_cases j:0<i
  .obtain⟨r,a,b⟩:=f j;exact⟨r,by rw[MC (by omega)];exact a,d _ _ b⟩
  .have:ys=[]:=Pe.mp (by omega);subst this;exact⟨l,rfl,g⟩
 .rintro ys H1 c ⟨e,u,f⟩ y;obtain⟨r,a,b⟩:=f (by decide);have m:=aO (o:=.lst ys) y;have wr:WR (upd H1 c (.lst ys)) c:=⟨ys,ay,r,a,m _ _ b⟩;generalize upd H1 c (.lst ys)=H2 at m wr ⊢;have d:=e.trans m;left;refine aG (ak.of (d _ _ n)) (v:=.ref q) rfl ?_;left;refine fW (ak.of (d _ _ s)) ?_;refine rT (xs:=[]) (λi σ H'=>H'=H2/\∃k1,σ=[Vo (.ref p),Vo (.ref c),k1]) ⟨rfl,_,rfl⟩ (λi σ H' _ h=>by rw[h.1];exact ak.of (d _ _ s)) (λi x σ H' z _=>by simp at z) ?_;rintro σ H' ⟨rfl,k1,rfl⟩;left;exact k c _ d wr
inductive By(K:L8)(vs:List V)(H:Hp)(Q:VK)(E:XK):Prop|mk:∀l p,vs=[.ref l,.ref p]->H l=Vo (.lst [])->(∀a H',Ext H H'->H a=Vp->H' a=Vo (.lst [])->Q (.ref a) H')->By K vs H Q E
abbrev wY:Vl:=stq 45
abbrev AF:=λP w mg base=>Cal P w K mg base "led_to_from" 1 ["ways","place"] (By K)
def CM(D:Dfn K mg "led_to_from" wY ["ways","place"])(T:Blt mg):AF P w mg base:=by refine D.oS ["ways","place"] λe nd H vs Q E h=>?_;obtain⟨l,p,rfl,b,k⟩:=h;refine⟨_,(@aj _ _ _ (@az _ _ _ _ (bM ["way"] [1] (bG K (pv 0)) (λ_=>(aI (i:=0) (show(["way","place"]:List Vn).Nodup from by decide +kernel) rfl oi oj)) (λ_=>(dC om)) (λ_=>gD)))),?_⟩;left;refine bI (af.of b) ?_;refine fb (xs:=[]) (λi ys H'=>H'=H/\ys=[]) (dN (by simp)) ⟨rfl,rfl⟩ (λi ys H' hi h=>⟨by rw[h.1];exact af.of b,by rw[h.2];exact LI _⟩) (λi x ys H' c _=>by simp at c) ?_;rintro ys H' d ⟨rfl,rfl⟩ a;exact k d _ (aO a) a ay
def eY(H:Hp)(a:Vb):Prop:=∃ps,H a=Vo (.lst (M5 V.ref ps))/\Paired (aJ H) ps [(0,0),(1,1)]
def eY.ext(e:Ext H H')(h:eY H c):eY H' c:=by obtain⟨ps,h1,h2⟩:=h;exact⟨ps,e _ _ h1,fQ (λa x z=>e _ _ z) h2⟩
def eY.eu(e:∀b o,H b=Vo o->(∀ps,o≠.tbl ps)->(∀f,o≠.ext f)->H' b=Vo o)(h:eY H c):eY H' c:=by obtain⟨ps,h1,h2⟩:=h;exact⟨ps,e _ _ h1 (λps z=>by cases z) (λps z=>by cases z),fQ (λa x z=>e _ _ z (λps z=>by cases z) (λps z=>by cases z)) h2⟩
inductive CB(K:L8)(vs:List V)(H:Hp)(Q:VK)(E:XK):Prop|mk:∀c b n p,vs=[.ref c,.ref b,.int n,.ref p]->WR H c->eY H b->aJ H p (0,n)->(∀l a H',Ext H H'->H l=Vp->H' l=Vo (.lst [.ref a])->aJ H' a (0,n)->Q (.ref l) H')->CB K vs H Q E
abbrev AS:Vl:=stq 58
abbrev uM:=λP w mg base=>Cal P w K mg base "low_beside" 2 ["ways","keeps","top","here"] (CB K)
def K9(D:Dfn K mg "low_beside" AS ["ways","keeps","top","here"])(T:Blt mg)(d:AF P w mg base):uM P w mg base:=by
 refine D.oS ["ways","keeps","top","here","low"] λZ nd H vs Q E h=>?_;obtain⟨c,kl,n,p,rfl,⟨xs,hc,r,A,B⟩,⟨ps,O,g⟩,l,k⟩:=h;refine⟨_,(@ah _ _ _ _ _ (fL (i:=4) ["there"] [2] nd rfl oi (bG K (av d Z (au (@ai _ _ _ _ _ _ _ (aF K) (pv 0) (@ai _ _ _ _ _ _ _ (aA K) (pv 3) ag (λ_ _=>rfl)) (λ_ _=>rfl)) (au (pv 3) ae rfl) rfl))) (λ_=>(aI (i:=0) (show(["there","top"]:List Vn).Nodup from by decide +kernel) rfl oi oj)) (λ_=>(dC (aP iH (@ai _ _ _ _ _ _ _ (aA K) (pv 0) ag (λ_ _=>rfl)) (pv 1) (aN _)))) (λ_=>(pv 0)))
   (@ah _ _ _ _ _ (@ba _ _ _ _ _ _ _ _ (aP fH (@ai _ _ _ _ _ _ _ (aA K) (pv 3) ag (λ_ _=>rfl)) (pv 2) (aN _)) (@aj _ _ _ (@az _ _ _ _ (pv 4))) aT)
   (@aj _ _ _ (@az _ _ _ _ (aB bE (pv 4) (bM ["p","q"] [2,3] (bG K (pv 1)) (λ_=>(eZ (n:=2) K rfl (bY (aI (i:=0) (show(["p","q","top","here"]:List Vn).Nodup from by decide +kernel) rfl oi oj) (bY (aI (i:=1) (show(["p","q","top","here"]:List Vn).Nodup from by decide +kernel) rfl oi oj) eJ)))) (λ_=>(dC (aP cM (pv 0) (@ai _ _ _ _ _ _ _ (aA K) (pv 3) ag (λ_ _=>rfl)) (aN _)))) (λ_=>(@aX _ _ _ _ _ (au (pv 1) (au (pv 2) ae rfl) rfl))))))))),?_⟩
 left;refine aG (ak.of l) (v:=.int 0) rfl ?_;left;refine aH (af.of hc) (v:=.ref r) (aM (j:=0) A) ?_;left;refine⟨r,p,rfl,B,λl1 H1 R a0 u=>?_⟩;left;refine bI (af.of u) ?_;refine jm (af.of u) λl2 x=>?_;have S:=aO (o:=.lst []) x;have U:upd H1 l2 (.lst []) l2=Vo (.lst []):=ay;have a1:=R.none x;generalize upd H1 l2 (.lst [])=H2 at S U ⊢;have e:=R.trans S;left;refine aG (ak.of (e _ _ l)) (v:=.int n) rfl ?_;left;rw[MZ (Int.lt_irrefl n)];nofun;refine bI (af.of (e _ _ O)) ?_;refine fb (xs:=M5 V.ref ps) (λi ys H1=>Ext H2 H1/\ys.length<=i/\(i=0->ys=[])/\(0<i->∃a,ys=[.ref a]/\aJ H1 a (0,n))) (dN (by rw[Mc,kE g];decide)) ⟨Ext.rfl' _,Mw _,λ_=>rfl,λh=>absurd h (ND _)⟩ (λi ys H1 _ h=>⟨af.of ((e.trans h.1) _ _ O),h.2.1⟩) ?_ ?_
 .rintro i v ys C W ⟨f,F,G,m⟩;rw[Mf]at W;obtain⟨b,hb,rfl⟩:=Mp.mp W;obtain⟨z,q,I⟩:=lj g hb;have y:=(e.trans f) _ _ I;refine gL (ak.of y) rfl ?_;left;refine aG (ak.of ((e.trans f) _ _ l)) (v:=.int 0) rfl ?_;left
  match i,q with
  | 0,q=>
   cases q;right;refine aE λt H4 s ht _=>?_;rw[G rfl];exact⟨f.trans s,Mw _,λh=>absurd h (by decide),λ_=>⟨t,rfl,ht⟩⟩
  | 1,q=>
   cases q;exact aC ⟨f,Nat.le_succ_of_le F,λh=>absurd h (by decide),λ_=>m (by decide)⟩
  | i+2,q=>simp at q
 .rintro ys C J ⟨f,_,_,m⟩ L;obtain⟨a,rfl,ha⟩:=m (by rw[Mc,kE g];decide);have s:=aO (o:=.lst [.ref a]) L;have X:upd C J (.lst [.ref a]) J=Vo (.lst [.ref a]):=ay;generalize upd C J (.lst [.ref a])=H4 at s X ⊢;left;refine dm ((f.trans s) _ _ U) X (dN (by simp)) (bu λl' H5 Y M N=>?_);exact k l' a H5 (e.trans ((f.trans s).trans Y)) ((e.trans (f.trans s)).none N) M ((s.trans Y) _ _ ha)
def vM(n:Int):List V->Hp->VK->Prop:=λvs H Q=>∃p,vs=[.ref p]/\aJ H p (0,n)/\∀l a H',Ext H H'->H l=Vp->H' l=Vo (.lst [.ref a])->aJ H' a (0,n)->Q (.ref l) H'
def Bb(P:Vd)(w:Ve)(K:L8)(mg:Vn->Option Va)(base:Vh):Sp:=λvs H Q _=>∃a f pre n,vs=[.ref a,.ref f]/\aJ H a (0,n)/\FunR P w K mg base 3 f pre (vM n)/\pre H/\(∀H H',Ext H H'->pre H->pre H')/\∀l H',Ext H H'->H' l=Vo (.lst [.ref a])->Q (.ref l) H'
abbrev oR:Vl:=stq 57
def uc:FnScope ["place","beside","found","row","looked","here","there"] ["place","beside"] (aW oR):=⟨rfl,rfl,rfl,by decide +kernel,rfl,by decide +kernel,by decide +kernel⟩
def F6{P}{w}{mg}{base}(D:Dfn K mg "reached" oR ["place","beside"])(T:Blt mg):Cal P w K mg base "reached" 4 ["place","beside"] (Bb P w K mg base):=by
 have nd:=(uc).nd;refine D.ok uc (λvs H Q E h=>?_) (λX U H vs Q E h=>?_)
 .obtain⟨c,f,pre,n,rfl,_⟩:=h;rfl
 .obtain⟨f,cdv,A,outer,s,H0,E0,rfl,C⟩:=U;obtain⟨c,p,pre,n,rfl,O,W,r,g,q⟩:=h;refine⟨_,(@ah _ _ _ _ _ (@aw _ _ 2 _ _ _ _ nd rfl (Or.inl rfl) (sU (bT C) (pv 0) bW) rfl (Or.inl rfl))
    (@ah _ _ _ _ _ (@aw _ _ 3 _ _ _ _ nd rfl (Or.inl rfl) (@aK _ _ _ _ (@aa _ _ _ _ _ (pv 0) ae rfl)) rfl (Or.inl rfl))
    (@ah _ _ _ _ _ (@aw _ _ 4 _ _ _ _ nd rfl (Or.inl rfl) ag rfl (Or.inl rfl))
    (@ah _ _ _ _ _ (gH F2 (aP fH (pv 4) (aR (cw K) rfl T.len_ L0 (@aa _ _ _ _ _ (pv 3) ae rfl)) (aN _)) (@ah _ _ _ _ _ (@aw _ _ 5 _ _ _ _ nd rfl (Or.inl rfl) (@ai _ _ _ _ _ _ _ (aF K) (pv 3) (pv 4) (λ_ _=>rfl)) rfl (Or.inl rfl))
    (@ah _ _ _ _ _ (lX (i:=4) nd rfl (Or.inl rfl) ag qM)
    (@aj _ _ _ (bJ F2 rfl (bG K (zJ (P:=P) (w:=w) (K:=K) (mg:=mg) (base:=base) C (pv 1) (@aa _ _ _ _ _ (pv 5) ae rfl))) (aI (i:=6) nd rfl (Or.inl rfl)) (@aj _ _ _ (fq (ik (kh (bT C) (pv 6) (pv 2)) (by with_unfolding_all rfl)) (@ah _ _ _ _ _ (i3 (bT C) (pv 2) (pv 6) bW rfl)
    (@aj _ _ _ (bp gD))) aT)))))))
    (@aj _ _ _ (@az _ _ _ _ (pv 3))))))),?_⟩
  left;refine λf hfn=>?_;left;refine⟨c,bc (0,n),rfl,(aO hfn) _ _ O,ay,?_⟩;left;refine aE λrw F G u I=>?_;left;have x:Ext H (upd (upd H f (.dT [])) f (.dT [(bc (0,n),.bl true)])):=λb o hb=>by rw[aq (cC hb hfn),aq (cC hb hfn)];exact hb
  have J:F f=Vo (.dT [(bc (0,n),.bl true)]):=G _ _ ay;have m:=x.trans G;clear x G I;refine gC (λM σ H'=>∃(i:Nat) (k1 k2:Option V),i+M=1/\Ext F H'/\σ=[Vo (.ref c),Vo (.ref p),Vo (.ref f),Vo (.ref rw),Vo (.int (i:Nat)),k1,k2]) (λσ H'=>∃(i:Nat) (k1 k2:Option V),Ext F H'/\σ=[Vo (.ref c),Vo (.ref p),Vo (.ref f),Vo (.ref rw),Vo (.int (i:Nat)),k1,k2]) 1 ⟨0,_,_,rfl,Ext.rfl' _,rfl⟩ ?_ ?_
  .rintro M σ R ⟨i,k1,k2,hi,e,rfl⟩;have y:=e _ _ u;left;refine dn (af.of y) ?_;left;by_cases hlt:i=0
   rotate_left
   .rw[MZ (show ¬((i:Nat):Int)<(([V.ref c]:List V).length:Nat) by show ¬((i:Nat):Int)<1;omega)];refine aC ?_;exact⟨i,_,_,e,rfl⟩
   subst hlt;rw[M0 (show((0:Nat):Int)<(([V.ref c]:List V).length:Nat) by show((0:Nat):Int)<1;omega)];refine aD ?_;refine⟨λz H'=>∃k1 k2,Ext F H'/\z=[Vo (.ref c),Vo (.ref p),Vo (.ref f),Vo (.ref rw),Vo (.int ((1:Nat):Int)),k1,k2],λz H' ⟨k1,k2,a1,Y⟩=>⟨0,by omega,1,k1,k2,rfl,a1,Y⟩,?_⟩;left;refine aH (af.of y) (v:=.ref c) (aM (j:=0) rfl) ?_;left;refine wR ?_;left;have d:=g _ _ (m.trans e) r;refine⟨p,pre,_,rfl,W,d,?_⟩;left;refine⟨d,c,rfl,(m.trans e) _ _ O,λl a Z S a0 B L=>?_⟩;have N:=(e.trans S) _ _ J;refine bI (af.of B) ?_;refine forL (xs:=[V.ref a]) (λj σ H'=>H'=Z/\∃k2,σ=[Vo (.ref c),Vo (.ref p),Vo (.ref f),Vo (.ref rw),Vo (.int ((1:Nat):Int)),Vo (.ref c),k2]) ⟨rfl,_,rfl⟩ (λj σ H' _ h=>by rw[h.1];exact af.of B) ?_ ?_
   .rintro j v σ H6 hv ⟨rfl,k2,rfl⟩
    match j,hv with
    | 0,hv=>
     cases hv;left;refine mG ?_;left;refine⟨f,_,rfl,cF.t N (k:=bc (0,n)) L,?_⟩;rw[cQ rfl];refine rd_exb (aC ?_);left;exact⟨rfl,_,rfl⟩
    | j+1,hv=>simp at hv
   .rintro σ H6 ⟨rfl,k2,rfl⟩;exact⟨_,_,e.trans S,rfl⟩
  .rintro σ R ⟨i,k1,k2,e,rfl⟩;left;exact q rw R (m.trans e) (e _ _ u)
def cz(n:Nat):Nat->Nat->Bool:=λi j=>decide (i=n/\j=0)
inductive oO(K:L8)(vs:List V)(H:Hp)(Q:VK)(E:XK):Prop|mk:∀a b n,vs=[a,.ref b]->E2 H a->aJ H b (pN n)->n<=12->dU K->Tbs K H->(∀q c H',Et H H'->Tbs K H'->Rows H' q c 2 (cz n)->c.length=n+1->Q (.ref q) H')->oO K vs H Q E
abbrev qr:Vl:=stq 59
abbrev Be:=λP w mg base=>Cal P w K mg base "low_levels" 8 ["house","place"] (oO K)
def DQ(D:Dfn K mg "low_levels" qr ["house","place"])(T:Blt mg)(B:Tab K mg base "low_levels" c9 T9)(U:Cal P w K mg base "reached" 4 ["place","beside"] (Bb P w K mg base))(be:yV P w mg base)(m:xr P w mg base)(F:uM P w mg base):Be P w mg base:=by
 refine D.oL B ["house","place","ways","keeps","levels","room","number"] λhr nd H vs Q E h=>?_;obtain⟨vh,u,n,rfl,hv,df,hn,c1,dl,q⟩:=h;refine⟨_,(ah (aw (i:=2) nd rfl oj (av m hr (aa (pv 0) ae)))
   (ah (aw (i:=3) nd rfl oj (av be hr (aa (pv 0) ae)))
   (ah (fL (i:=4) ["number"] [0] nd rfl oi (dP rfl T.range_ (aa (aB dz (ai (aA K) (pv 1) ag (λ_ _=>rfl)) ag) ae)) (λ_=>(aI (i:=0) (show(["number","house"]:List Vn).Nodup from by decide +kernel) rfl oi oj)) (λ_=>ck) (λ_=>(aB qQ (aK (aa bW ae)) (ai (aA K) (pv 1) ag (λ_ _=>rfl)))))
   (ah (bJ F2 rfl (bG K (oQ [2,3,1] U hr (aa (pv 1) (aa (qF rfl rfl B.hd B.blt B.gl (by decide +kernel) rfl rfl rfl) ae)))) (eZ (n:=2) K rfl (bY (aI (i:=5) nd rfl oi) (bY (aI (i:=6) nd rfl oi) eJ))) (aj (ku bW (kO (ai (aF K) (pv 4) (pv 6) (λ_ _=>rfl)) (pv 5) set_list))))
   (aj (az (pv 4))))))),?_⟩
 left;refine⟨vh,rfl,hv,λc H1 e1 wt=>?_⟩;left;refine⟨vh,rfl,hv.ext e1,c1,dl.ext e1,λG ps H2 e2 dp dr ds=>?_⟩;have dt:eY H2 G:=⟨ps,dr,ds⟩;have bi:=e1.et.trans e2;have du:WR H2 c:=wt.eu λb xs z=>e2 b _ z λps z=>by cases z
 have bv:aJ H2 u (pN n):=bi _ _ df (λps z=>by cases z);obtain⟨dx,el,rfl,dy,_⟩:=hv.et bi;left;refine aG (ak.of bv) (v:=.int (n:Nat)) rfl ?_;left;refine dM (by omega) ?_;refine fS (λi ys H'=>Ext H2 H'/\∃L:List Vb,ys=M5 V.ref L/\L.length=i/\L.Nodup/\∀r∈L,H' r=Vo (.lst (bq 2 λ_=>false))/\H2 r=Vp) (aS (by omega)) ⟨Ext.rfl' _,[],rfl,rfl,Pp,λl h=>(nomatch h)⟩ (λi ys H' _ h=>by obtain⟨_,ls,rfl,h,_⟩:=h;rw[Mc,h];exact Mw _) ?_ ?_
 .rintro i ys H3 hi ⟨e3,L,rfl,hl,c3,hrs⟩;left;right;refine aE λz1 H4 e4 e0 _=>?_;left;refine aG (ak.of ((e3.trans e4) _ _ dy)) (v:=.int 2) rfl ?_;refine rm e0 (by omega) (aS (by simp)) (bu λz2 H5 e5 bm O=>?_);rw[yG]at bm;have bm:H5 z2=Vo (.lst (bq 2 λ_=>false)):=bm;refine⟨(e3.trans e4).trans e5,L++[z2],by rw[Mt];rfl,by rw[Mu,hl];rfl,?_,λr hr=>?_⟩
  .rw[List.nodup_append];refine⟨c3,by simp,λa ha b hb z=>?_⟩;rw[Mo.mp hb]at z;subst z;rw[e4 _ _ (hrs a ha).1]at O;cases O
  .rcases MA.mp hr with h|h
   .exact⟨(e4.trans e5) _ _ (hrs r h).1,(hrs r h).2⟩
   .rw[Mo.mp h];refine⟨bm,?_⟩;cases y:H2 z2 with
    | none=>rfl
    | some o=>rw[(e3.trans e4) _ _ y]at O;cases O
 .rintro ys H3 lq ⟨e3,L,rfl,em,c3,hrs⟩ c4;have c5:=aO (o:=.lst (M5 V.ref L)) c4;have ch:(upd H3 lq (.lst (M5 V.ref L))) lq=_:=ay;have e7:lq∉L:=λz=>by rw[(hrs lq z).1]at c4;cases c4
  have ac:Rows (upd H3 lq (.lst (M5 V.ref L))) lq L 2 (λ_ _=>false):=⟨ay,λi r h=>c5 _ _ (hrs r (Mn h)).1⟩;have a5:=e3.trans c5;generalize upd H3 lq (.lst (M5 V.ref L))=H4 at c5 ch ac a5 ⊢;have e9:=bi.trans a5.et;have c6:=dp.ext a5;have ea:=du.ext a5;have ci:=dt.ext a5;have bw:aJ H4 u (pN n):=a5 _ _ bv;left;show kQ _ [2,3,1] _ (["house","place","ways","keeps","levels","room","number"]:List Vn) _ _ _ _;generalize RT _=cells0;refine qx ?_;left;refine qO ?_;refine pR (x:="low_levels") c6.low B.tin λfl c' cl H5 hcl e5 eb ot hf cm=>?_;have t5:Tbs K H5:=⟨ot "kept" _ _ _ (λc2 T2 e2=>c1 "low_levels" (by simp) "kept" (by simp) (by decide +kernel) _ _ _ _ B.tin e2) c6.kept,eb,ot "risen" _ _ _ (λc2 T2 e2=>c1 "low_levels" (by simp) "risen" (by simp) (by decide +kernel) _ _ _ _ B.tin e2) c6.risen⟩;left;refine⟨λj hj=>?_,λcp hlen M=>?_⟩
  .simp only[Mr,MI,or_false]at hj;rcases hj with rfl|rfl|rfl
   .exact⟨_,rfl⟩
   .exact⟨_,rfl⟩
   .exact⟨_,rfl⟩
  obtain⟨⟨n1,N,o1,v1⟩,⟨n2,I,R,v2⟩,⟨n3,J,S,v3⟩,rfl⟩:=Fe hlen;obtain⟨c7,ad,am,an,u1,W,X⟩:=M 0 2 _ rfl rfl;obtain⟨ca,ap,as,b0,u2,Y,Z⟩:=M 1 3 _ rfl rfl;obtain⟨cd,b5,b6,b7,u3,a0,a4⟩:=M 2 1 _ rfl rfl;clear M hlen;dsimp only at c7 ad am an W X ca ap as b0 Y Z cd b5 b6 b7 a0 a4;have co:(MN "ways")=n1:=MO c7;have ce:(V.ref c)=v1:=MO (MO am);have cr:(MN "keeps")=n2:=MO ca;have cf:(V.ref G)=v2:=MO (MO as);have ct:(MN "place")=n3:=MO cd;have cg:(V.ref u)=v3:=MO (MO b6);clear c7 am ca as cd b6;subst co;subst ce;subst cr;subst cf;subst ct;subst cg;obtain⟨a1,a6⟩:=hcl.has (MN "ways") rfl;obtain⟨a2,a7⟩:=hcl.has (MN "keeps") rfl;obtain⟨a3,a8⟩:=hcl.has (MN "place") rfl;have cv:=(hcl.fr _ _ a6).2;have d0:=(hcl.fr _ _ a7).2;have d4:=(hcl.fr _ _ a8).2;rw[ad]at cv;rw[ap]at d0;rw[b5]at d4;cases cv;cases d0;cases d4;have d5:N≠I:=λz=>absurd (hcl.inj _ _ _ a6 (z ▸ a7)) (by decide +kernel);have d6:N≠J:=λz=>absurd (hcl.inj _ _ _ a6 (z ▸ a8)) (by decide +kernel);have d7:I≠J:=λz=>absurd (hcl.inj _ _ _ a7 (z ▸ a8)) (by decide +kernel);obtain⟨cp,M⟩:∃cp:List Cap,cp=[⟨MN "ways",N,o1,V.ref c⟩,⟨MN "keeps",I,R,V.ref G⟩,⟨MN "place",J,S,V.ref u⟩]:=⟨_,rfl⟩;have O:∀b o9,(cellsOf cp).lookup b=Vo o9->H5 b=Vp:=λb o9 hb=>by
   obtain⟨e,he,rfl,rfl⟩:=ie hb;rw[M]at he;simp only[Mr,MI,or_false]at he;rcases he with rfl|rfl|rfl
   .exact an
   .exact b0
   .exact b7
  have ex:=lI O;have b8:Caps (bK (cellsOf cp) H5) cl cp:=by
   refine⟨λe he=>?_,λy g hy=>?_⟩
   .rw[M]at he ⊢;simp only[Mr,MI,or_false]at he;rcases he with rfl|rfl|rfl
    .exact⟨a6,fD (by simp[cellsOf]),u1,W,X⟩
    .refine⟨a7,fD ?_,u2,Y,Z⟩;show N4 I ((N,o1)::(I,R)::[(J,S)])=Vo R;rw[MU,show (I == N)=false from beq_eq_false_iff_ne.mpr (NC d5),MU,beq_self_eq_true]
    .refine⟨a8,fD ?_,u3,a0,a4⟩;show N4 J ((N,o1)::(I,R)::[(J,S)])=Vo S;rw[MU,show (J == N)=false from beq_eq_false_iff_ne.mpr (NC d6),MU,show (J == I)=false from beq_eq_false_iff_ne.mpr (NC d7),MU,beq_self_eq_true]
   .have hm:=il (hcl.fr y g hy).1;rw[M];simp at hm;rcases hm with rfl|rfl|rfl
    all_goals first|(rw[a6]at hy;cases hy;exact⟨⟨MN "ways",N,o1,V.ref c⟩,by simp,rfl,rfl⟩)|(rw[a7]at hy;cases hy;exact⟨⟨MN "keeps",I,R,V.ref G⟩,by simp,rfl,rfl⟩)|(rw[a8]at hy;cases hy;exact⟨⟨MN "place",J,S,V.ref u⟩,by simp,rfl,rfl⟩)
  have d8:WR (bK (cellsOf cp) H5) c:=(ea.eu λb xs z=>e5 b _ z λps z=>by cases z).ext ex;have bx:eY (bK (cellsOf cp) H5) G:=by obtain⟨ps,h1,h2⟩:=ci;have h3:=fQ (H':=H5) (λa x z=>e5 _ _ z (λps z=>by cases z)) h2;exact eY.ext ex ⟨ps,e5 _ _ h1 (λps z=>by cases z),h3⟩
  have b9:aJ (bK (cellsOf cp) H5) u (pN n):=ex _ _ (e5 _ _ bw (λps z=>by cases z));subst M;have hF:=
   pM (P:=P) (w:=w) (K:=K) (mg:=mg) (base:=base) (k:=2) hf hcl (["here"]:List Vn) [⟨MN "ways",N,o1,V.ref c⟩,⟨MN "keeps",I,R,V.ref G⟩,⟨MN "place",J,S,V.ref u⟩] (vM ((n:Nat):Int)) (λH=>WR H c/\eY H G/\aJ H u (pN n)) ⟨rfl,rfl,rfl,by decide +kernel,by decide +kernel⟩ (λ_ _ _ us hl=>by obtain⟨u1,rfl⟩:=mq hl;rfl) (λvs H Q h=>by obtain⟨p,rfl,_⟩:=h;rfl) (λA outer s H vs Q ec d9 hI hR=>by
    obtain⟨p,rfl,eg,hQ⟩:=hR;have bb:=d9.2.2.look;obtain⟨ei,ej,ek⟩:=hI;have k1:WR (bg (cellsOf [⟨MN "ways",N,o1,V.ref c⟩,⟨MN "keeps",I,R,V.ref G⟩,⟨MN "place",J,S,V.ref u⟩]) H) c:=ei.eu λb xs z=>iL bb z (λf z=>by cases z);have k2:eY (bg (cellsOf [⟨MN "ways",N,o1,V.ref c⟩,⟨MN "keeps",I,R,V.ref G⟩,⟨MN "place",J,S,V.ref u⟩]) H) G:=ej.eu λb o hb _ nf=>iL bb hb nf;have k3:aJ (bg (cellsOf [⟨MN "ways",N,o1,V.ref c⟩,⟨MN "keeps",I,R,V.ref G⟩,⟨MN "place",J,S,V.ref u⟩]) H) u (pN n):=iL bb ek (λf z=>by cases z);have kp:aJ (bg (cellsOf [⟨MN "ways",N,o1,V.ref c⟩,⟨MN "keeps",I,R,V.ref G⟩,⟨MN "place",J,S,V.ref u⟩]) H) p (pN n):=iL bb eg (λf z=>by cases z);refine⟨_,(av F ec (aa (pv 1) (aa (pv 2) (aa (ai (aA K) (pv 3) ag (λ_ _=>rfl)) (aa (pv 0) ae))))),?_⟩;have hb:∀H',Ext (bg (cellsOf [⟨MN "ways",N,o1,V.ref c⟩,⟨MN "keeps",I,R,V.ref G⟩,⟨MN "place",J,S,V.ref u⟩]) H) H'->Ext H (bK (cellsOf [⟨MN "ways",N,o1,V.ref c⟩,⟨MN "keeps",I,R,V.ref G⟩,⟨MN "place",J,S,V.ref u⟩]) H'):=λH' e=>zC bb e;have hu:∀l,(cellsOf [⟨MN "ways",N,o1,V.ref c⟩,⟨MN "keeps",I,R,V.ref G⟩,⟨MN "place",J,S,V.ref u⟩]).lookup l=Vp->bg (cellsOf [⟨MN "ways",N,o1,V.ref c⟩,⟨MN "keeps",I,R,V.ref G⟩,⟨MN "place",J,S,V.ref u⟩]) H l=H l:=λl hl=>cP hl;generalize bg (cellsOf [⟨MN "ways",N,o1,V.ref c⟩,⟨MN "keeps",I,R,V.ref G⟩,⟨MN "place",J,S,V.ref u⟩]) H=HU at k1 k2 k3 kp hb hu ⊢;generalize cellsOf [⟨MN "ways",N,o1,V.ref c⟩,⟨MN "keeps",I,R,V.ref G⟩,⟨MN "place",J,S,V.ref u⟩]=cs at hb hu ⊢;show jk _ _ _ _ [Vo (.ref p),Vo (.ref c),Vo (.ref G),Vo (.ref u)] _ _;left;refine aG (ak.of k3) (v:=.int (n:Nat)) rfl ?_;left;refine⟨c,G,((n:Nat):Int),p,rfl,k1,k2,kp,λl a H' e hn hl ha=>?_⟩;intro da;have nl:cs.lookup l=Vp:=by
     cases z:cs.lookup l with
     | none=>rfl
     | some o=>rw[da l o z]at hl;cases hl
    have et:=lI da;exact hQ l a _ (hb H' e) (by rw[<-hu l nl];exact hn) (et _ _ hl) (et _ _ ha))
  refine⟨u,fl,_,((n:Nat):Int),rfl,b9,hF,⟨⟨ex _ _ hf,ex _ _ cm,b8⟩,d8,bx,b9⟩,λH H' e h=>⟨h.1.ext e,h.2.1.ext e,h.2.2.1.ext e,e _ _ h.2.2.2⟩,λl H6 e6 db=>?_⟩;clear hF;obtain⟨b1,b2,b3,b4⟩:=held O e6;refine⟨b1,?_⟩;have a9:=b4 _ _ db (λf z=>by cases z);have bn:=e5.trans b2.et;have C:Rows (bg _ H6) lq L 2 (λ_ _=>false):=ac.et bn;have c0:aJ (bg _ H6) u (pN n):=bn _ _ bw (λps z=>by cases z);have dc:=e9.trans bn;have t7:=t5.ext b2;generalize bg _ H6=H7 at a9 C c0 dc t7 ⊢;clear b8 O ex d8 bx b9 e6 db b1 b2 b3 b4 hf cm hcl a6 a7 a8 ad ap b5 an b0 b7 X Z a4 W Y a0 d5 d6 d7 ot bn;have ab:L[n]?=Vo L[n]:=Me (by omega);have dd:=(hrs L[n] (MD (by omega))).2;generalize L[n]=ar at ab dd;have hrow:=C.2 _ _ ab;have nl:l≠ar:=λz=>by
   rw[z,hrow]at a9;injection a9 with y
   injection y with y
   exact absurd (congrArg Qr y) (by rw[dO];show ¬(2:Nat)=1;decide)
  have nq:lq≠ar:=λz=>e7 (z ▸ Mn ab);have e8:∀b o,H7 b=Vo o->(∀xs,o≠.lst xs)->(∀c d f,o≠.ins c d f)->upd H7 ar (.lst ((bq 2 λ_=>false).set 0 (.bl true))) b=Vo o:=λb o hb no _=>by rw[aq (λz=>by rw[z,hrow]at hb;cases hb;exact no _ rfl)];exact hb
  refine bI (af.of a9) ?_;refine forL (xs:=[V.ref u]) (λj σ H'=>∃k1 k2,(j=0->H'=H7)/\(0<j->H'=upd H7 ar (.lst ((bq 2 λ_=>false).set 0 (.bl true))))/\σ=[Vo (.ref dx),Vo (.ref u),Vo (.ref c),Vo (.ref G),Vo (.ref lq),k1,k2]) ⟨_,_,λ_=>rfl,λh=>absurd h (ND _),rfl⟩ (λj σ H' _ h=>by
   obtain⟨k1,k2,h1,h2,_⟩:=h;cases j with
   | zero=>rw[h1 rfl];exact af.of a9
   | succ j=>rw[h2 (Pt _)];exact af.of (by rw[aq nl];exact a9)) ?_ ?_
  .rintro j v σ H8 hx ⟨k1,k2,h1,h2,rfl⟩;cases j with
   | succ j=>simp at hx
   | zero=>
    cases hx;obtain rfl:=h1 rfl;refine gL (ak.of c0) rfl ?_;left;refine aH (af.of C.1) (v:=.ref ar) (aM (by rw[Mf,ab];rfl)) ?_;left;refine Bo hrow (Bh (Rk 0) (by rw[dO];decide)) ?_;exact⟨_,_,λh=>absurd h (by decide),λ_=>rfl,rfl⟩
  .rintro σ H8 ⟨k1,k2,h1,h2,rfl⟩;obtain rfl:=h2 (Pt 0);left;refine q lq L _ (λb o hb no=>?_) (t7.fr e8) ⟨by rw[aq nq];exact C.1,λi r hi=>?_⟩ (by omega)
   .rw[aq (λz=>by have:=bi _ _ hb no;rw[z,dd]at this;cases this)]
    exact dc _ _ hb no
   .by_cases e:i=n
    .subst e;rw[ab]at hi;cases hi;rw[ay,GQ _ _ (by decide)];congr 2;refine rK λy _=>?_;unfold cz;by_cases hy:y=0
     .rw[M3 hy,hy];simp
     .rw[M1 hy,MZ λz=>hy z.2]
    .have nr:r≠ar:=λz=>e ((List.getElem?_inj (Mm.mp hi).1 c3).mp (by rw[hi,ab,z]));rw[aq nr,C.2 i r hi];congr 2;exact rK λy _=>by unfold cz;rw[MZ λz=>e z.1]
inductive wW(K:L8)(vs:List V)(H:Hp)(Q:VK)(E:XK):Prop|mk:∀a lv f,vs=[.ref a,.ref lv]->H a=Vo (.lst [])->H lv=Vo (.lst (bq 2 f))->(∀l H',Ext H H'->H l=Vp->H' l=Vo (.lst (bq 2 λ_=>false))->Q (.ref l) H')->wW K vs H Q E
abbrev wu:Vl:=stq 60
abbrev zy:=λP w mg base=>Cal P w K mg base "next_level" 1 ["rises","level"] (wW K)
def Ka(D:Dfn K mg "next_level" wu ["rises","level"])(T:Blt mg):zy P w mg base:=by
 refine D.oS ["rises","level","risen_to","p","q"] λo nd H vs Q E h=>?_;obtain⟨k,lv,p,rfl,b,d,q⟩:=h;refine⟨_,(@ah _ _ _ _ _ (@aw _ _ 2 _ _ _ _ nd rfl oi (aB qQ (@aK _ _ _ _ (au bW ae rfl)) (aR (cw K) rfl T.len_ L0 (au (pv 1) ae rfl))) rfl oi)
   (@ah _ _ _ _ _ (bJ F2 rfl (bG K (pv 0)) (eZ K rfl (bY (aI (i:=3) nd rfl oi) (bY (aI (i:=4) nd rfl oi) eJ))) (@aj _ _ _ (fq (bF (@ai _ _ _ _ _ _ _ (aF K) (pv 1) (pv 3) (λ_ _=>rfl))) (@aj _ _ _ (@ku _ _ _ _ _ _ bW (kO (pv 2) (pv 4) set_list) rfl rfl rfl)) aT)))
   (@aj _ _ _ (@az _ _ _ _ (pv 2))))),?_⟩
 left;refine aE λr H1 e f _=>?_;left;refine dn (af.of (e _ _ d)) ?_;rw[dO];refine rm f (by omega) (aS (by simp)) (bu λrt H2 l c g=>?_);have a:=e.trans l;left;refine bI (af.of (a _ _ b)) ?_;refine forL (λj σ H'=>H'=H2/\∃k1 k2,σ=[Vo (.ref k),Vo (.ref lv),Vo (.ref rt),k1,k2]) ⟨rfl,_,_,rfl⟩ (λj σ H' _ h=>by rw[h.1];exact af.of (a _ _ b)) (λi x σ H' m _=>by simp at m) ?_;rintro σ H' ⟨rfl,k1,k2,rfl⟩;left;exact q rt _ a (e.none g) c
def sM{lo i:Nat}(h:ys=(row f lo i).map V.int)(a:f (lo+i)=true):ys++[V.int ((lo+i:Nat):Int)]=(row f lo (i+1)).map V.int:=by rw[nk,M3 a,Mt,h];rfl
def wB{lo i:Nat}(h:ys=(row f lo i).map V.int)(a:f (lo+i)=false):ys=(row f lo (i+1)).map V.int:=by rw[nk,M1 (by rw[a];decide),Nx,h]
def dI(H:Hp)(v:V)(b s:Int)(o a:List Int):Prop:=∃p q r,v=.ref p/\H p=Vo (.tup [.int b,.int s,.ref q,.ref r])/\H q=Vo (.tup (o.map V.int))/\H r=Vo (.tup (a.map V.int))
def dI.ext{a:List Int}(e:Ext H H')(h:dI H v b s o a):dI H' v b s o a:=by obtain⟨p,q,r,rfl,h1,h2,c⟩:=h;exact⟨p,q,r,rfl,e _ _ h1,e _ _ h2,e _ _ c⟩
def yE{i:Int}(b:0<=i)(h:i<=n):cn (bq n f) (Vo i) Vp=bq (n-i.toNat) λk=>f (i.toNat+k):=by
 unfold cn;rw[dO,HT.mi];have e:HT.aL n 0 (Vo i)=i.toNat:=by show(if i<0 then(i+(n:Int)).toNat else min i.toNat n)=i.toNat;rw[M1 (by omega)];omega
 rw[e];apply Qw;intro k;rcases MT k (n-i.toNat)with a|a
 .rw[Ob a,List.getElem?_drop,jd _ (by omega),jd _ a]
 .rw[Nk (by rw[MV,N8,dO];omega),Nk (by rw[dO];omega)]
def dB(n:Nat)(f:Nat->Bool):List PyData:=(MY n).map λi=>PyData.bool (f i)
theorem Bs{α:Type}{R:V->PyData->Prop}{g:α->V}{k:α->PyData}(h:∀x,R (g x) (k x)):∀l:List α,Paired R (l.map g) (l.map k)
 | []=>.nil
 | x::l=>.cons (h x) (Bs h l)
def kW(h:H p=Vo (.lst (bq n f))):aQ H 1 (.ref p) (.list (dB n f)):=
 .inr ⟨p,bq n f,dB n f,rfl,.inr ⟨h,rfl⟩,Bs (λi=>(rfl:f i=f i)) _⟩
theorem Ak{α:Type}(f g:α->Bool):∀l:List α,OB (l.map λi=>PyData.bool (f i)) (l.map λi=>PyData.bool (g i))=l.all λi=>f i == g i
 | []=>rfl
 | x::l=>by show(M8 (.bool (f x)) (.bool (g x)) && OB (l.map λi=>PyData.bool (f i)) (l.map λi=>PyData.bool (g i)))=((f x == g x) && l.all λi=>f i == g i);rw[Ak f g l];rfl
def kg:M8 (.list (dB n f)) (.list (dB n g))=true↔∀i,i<n->f i=g i:=by show OB (dB n f) (dB n g)=true↔_;unfold dB;rw[Ak,MJ];simp only[NP,beq_iff_eq]
def DR(hd:d<=n)(a:n % d=0):M8 (.list (dB (n-d) λk=>g (d+k))) (.list (dB (n-d) g))=true↔Alike g 0 n d:=by
 rw[kg];constructor
 .intro h;refine⟨a,λi hi=>?_⟩;have:=h i (by omega);rw[show 0+i+d=d+i by omega,this,OY]
 .intro h i hi;have:=h.2 i (by omega);rw[show 0+i+d=d+i by omega,OY]at this;exact this
inductive uD(K:L8)(vs:List V)(H:Hp)(Q:VK)(E:XK):Prop|mk:∀(p:Vb) (n:Nat) (g:Nat->Bool),vs=[.ref p]->1<=n->n<=20000->H p=Vo (.lst (bq n g))->(∀(d:Nat) H',Ext H H'->1<=d->d<=n->Alike g 0 n d->(∀e,1<=e->e<d->¬Alike g 0 n e)->Q (.int d) H')->uD K vs H Q E
abbrev zq:Vl:=stq 23
abbrev uS:=λP w mg base=>Cal P w K mg base "least_step" 1 ["turn"] (uD K)
def KQ(D:Dfn K mg "least_step" zq ["turn"])(T:Blt mg):uS P w mg base:=by
 refine D.oS ["turn","whole","step"] λF nd H vs Q E h=>?_;obtain⟨p,n,g,rfl,v,G,A,q⟩:=h;refine⟨_,(ah (aw (i:=1) nd rfl oi (aR (cw K) rfl T.len_ L0 (aa (pv 0) ae)))
   (ah (aw (i:=2) nd rfl oi ag)
   (ah (gH F2 (PW.pt (cZ (aP iq (aB gj (pv 1) (pv 2)) ag (aN _)) (dQ (aP (jE F) (eM (gn K) (pv 0) (dW (pv 2)) fi) (eM (gn K) (pv 0) fi (dW (aB hJ (pv 1) (pv 2)))) (aN _))))) (aj (lX (i:=2) nd rfl oi ag qM)))
   (aj (az (pv 2)))))),?_⟩
 left;refine dn (af.of A) ?_;rw[dO];left;refine gC (λm σ H'=>Ext H H'/\∃d:Nat,σ=[Vo (.ref p),Vo (.int n),Vo (.int d)]/\1<=d/\d<=n/\m=n-d/\∀e,1<=e->e<d->¬Alike g 0 n e)
  (λσ H'=>Ext H H'/\∃d:Nat,σ=[Vo (.ref p),Vo (.int n),Vo (.int d)]/\1<=d/\d<=n/\Alike g 0 n d/\∀e,1<=e->e<d->¬Alike g 0 n e) (n-1)
  ⟨Ext.rfl' H,1,rfl,Mw _,v,rfl,λe h1 h2=>by omega⟩ ?_ ?_
 rotate_left
 .rintro σ H' ⟨e,d,rfl,h1,h2,ha,s⟩;left;exact q d H' e h1 h2 ha s
 rintro m σ H' ⟨e,d,rfl,h1,h2,rfl,s⟩;have b:=e _ _ A;have a:((n:Int) % (d:Int)=0)↔n % d=0:=by have:(n:Int) % (d:Int)=((n % d:Nat):Int):=rfl;omega
 have next:∀H2,Ext H' H2->¬Alike g 0 n d->∃B,B<n-d/\Ext H H2/\∃c:Nat,[Vo (V.ref p),Vo (V.int n),Vo (V.int ((d:Int)+1))]=[Vo (V.ref p),Vo (V.int n),Vo (V.int c)]/\1<=c/\c<=n/\B=n-c/\∀e,1<=e->e<c->¬Alike g 0 n e:=by
  intro H2 f j;have hlt:d<n:=by
   rcases MT d n with h|h
   .exact h
   .have:d=n:=by omega
    subst this;exact absurd ⟨Nat.mod_self d,λi hi=>by omega⟩ j
  refine⟨n-(d+1),by omega,e.trans f,d+1,rfl,by omega,by omega,rfl,λx I J=>?_⟩;rcases MT x d with C|C
  .exact s x I C
  .have:x=d:=by omega
   subst this;exact j
 left;by_cases u:(n:Int) % (d:Int)=0
 .rw[M0 u];nofun;refine gX (af.of b) (bu λL H1 y l _=>?_);left;refine gX (af.of (y _ _ b)) (bu λp2 H2 f o _=>?_);rw[yE (by omega) (by omega),Mq]at l;rw[Fl (by omega) (by omega),show ((n:Int)-(d:Int)).toNat=n-d by omega]at o;refine⟨1,1,_,_,kW (f _ _ l),kW o,by decide,?_⟩;left;have r:=DR (g:=g) h2 (a.mp u);cases z:M8 (.list (dB (n-d) λk=>g (d+k))) (.list (dB (n-d) g))with
  | true=>
   exact aC ⟨e.trans (y.trans f),d,rfl,h1,h2,r.mp z,s⟩
  | false=>
   refine aD ⟨_,λ_ _ h=>h,?_⟩;left;exact next H2 (y.trans f) λh=>by rw[r.mpr h]at z;cases z
 .rw[MZ u];refine aD (aD ⟨_,λ_ _ h=>h,?_⟩);left;exact next H' (Ext.rfl' H') λh=>u (a.mpr h.1)
def xR:Alike (λk=>f (b+k)) 0 n d↔Alike f b n d:=by unfold Alike;simp only[OY,QA]
inductive sX(K:L8)(vs:List V)(H:Hp)(Q:VK)(E:XK):Prop|mk:∀(p:Vb) (b n:Nat) (f:Nat->Bool),vs=[.ref p,.int b]->1<=n->b+n<=20000->H p=Vo (.lst (bq (b+n) f))->bV f b n->(∀v (l d:Nat) H',Ext H H'->Least f d l->l<=b->d<=n->dI H' v l d (row f 0 l) (row f l d)->Q v H')->sX K vs H Q E
abbrev B6:Vl:=stq 24
abbrev Ck:=λP w mg base=>Cal P w K mg base "stair_of_marks" 2 ["marks","base"] (sX K)
def CV(D:Dfn K mg "stair_of_marks" B6 ["marks","base"])(T:Blt mg)(c:uS P w mg base):Ck P w mg base:=by
 refine D.oS ["marks","base","step","low","once","again"] λhr nd H vs Q E h=>?_;obtain⟨p,b,n,g,rfl,v,a2,hp,y,q⟩:=h;refine⟨_,(ah (aw (i:=2) nd rfl oi (av c hr (aa (eM (gn K) (pv 0) (dW (pv 1)) fi) ae)))
   (ah (aw (i:=3) nd rfl oi (pv 1))
   (ah (gH F2 (PW.pt (j9 (aP ja (pv 3) ag (aN _)) (lF (aP cM (ai (aF K) (pv 0) (aB hJ (pv 3) ag) (λ_ _=>rfl)) (ai (aF K) (pv 0) (aB dz (aB hJ (pv 3) ag) (pv 2)) (λ_ _=>rfl)) (aN _))))) (aj (lX (i:=3) nd rfl oi ag EB)))
   (ah (fL (i:=4) ["number"] [0] nd rfl oi (dP rfl T.range_ (aa (pv 3) ae)) (λ_=>(aI (i:=0) (show(["number","marks"]:List Vn).Nodup from by decide +kernel) rfl oi oj)) (λ_=>(dC (bF (ai (aF K) (pv 1) (pv 0) (λ_ _=>rfl))))) (λ_=>(pv 0)))
   (ah (fL (i:=5) ["number"] [0] nd rfl oi (sI rfl T.range_ (aa (pv 3) (aa (aB dz (pv 3) (pv 2)) ae))) (λ_=>(aI (i:=0) (show(["number","marks"]:List Vn).Nodup from by decide +kernel) rfl oi oj)) (λ_=>(dC (bF (ai (aF K) (pv 1) (pv 0) (λ_ _=>rfl))))) (λ_=>(pv 0)))
   (aj (az (aX (aa (pv 3) (aa (pv 2) (aa (cX (jN K) rfl T.tuple_ NH (aa (pv 4) ae)) (aa (cX (jN K) rfl T.tuple_ NH (aa (pv 5) ae)) ae)))))))))))),?_⟩
 left;refine gX (af.of hp) (bu λp1 H1 e1 z _=>?_);rw[yE (by omega) (by omega),Mq,show b+n-b=n by omega]at z;left;refine⟨p1,n,_,rfl,v,by omega,z,λd H2 e2 N O R j=>?_⟩;have A:=xR.mp R;have f:∀e,1<=e->e<d->¬Alike g b n e:=λe I J h5=>j e I J (xR.mpr h5);have B:Ext H H2:=e1.trans e2;have k:=B _ _ hp;left;refine gC (λm σ H'=>H'=H2/\∃l:Nat,σ=[Vo (.ref p),Vo (.int b),Vo (.int d),Vo (.int l),Vp,Vp]/\l<=b/\m=l/\∀x,l<=x->x<b->g x=g (x+d))
  (λσ H'=>H'=H2/\∃l:Nat,σ=[Vo (.ref p),Vo (.int b),Vo (.int d),Vo (.int l),Vp,Vp]/\l<=b/\(∀x,l<=x->x<b->g x=g (x+d))/\(l=0\/g (l-1)≠g (l-1+d))) b
  ⟨rfl,b,rfl,Mw _,rfl,λx h1 h2=>by omega⟩ ?_ ?_
 .rintro m σ H' ⟨rfl,l,rfl,C,rfl,a⟩;left;by_cases h0:(0:Int)<(m:Int)
  .rw[M0 h0];right;refine aH (af.of k) (kC (by omega) (by omega)) ?_;left;refine aH (af.of k) (kC (by omega) (by omega)) ?_;left;rw[show ((m:Int)-1).toNat=m-1 by omega,show ((m:Int)-1+(d:Int)).toNat=m-1+d by omega];cases S:g (m-1) == g (m-1+d)with
   | true=>
    refine aD ⟨_,λ_ _ h=>h,?_⟩;left;refine⟨m-1,by omega,rfl,m-1,by rw[show ((m-1:Nat):Int)=(m:Int)-1 by omega];rfl,by omega,rfl,λx h1 h2=>?_⟩;rcases MT x m with I|I
    .have:x=m-1:=by omega
     rw[this];exact eq_of_beq S
    .exact a x I h2
   | false=>exact aC ⟨rfl,m,rfl,C,a,.inr λh=>by rw[h]at S;simp at S⟩
  .rw[MZ h0];exact aC (aC ⟨rfl,m,rfl,C,a,.inl (by omega)⟩)
 rintro σ H' ⟨rfl,l,rfl,C,a,u⟩;have o:Least g d l:=Kk y v N A f C a u;left;refine dM (by omega) ?_;rw[Mq];refine fS (λi ys r=>r=H'/\ys=(row g 0 i).map V.int) (aS (by omega)) ⟨rfl,rfl⟩ ?_ ?_ ?_
 .rintro i ys r _ ⟨rfl,rfl⟩;rw[Mc];exact zL g 0 i
 .rintro i ys r hi ⟨rfl,F⟩;left;refine aH (af.of k) (kC (by omega) (by omega)) ?_;left;rw[show ((0:Int)+(i:Int)).toNat=i by omega];have e0:g (0+i)=g i:=by rw[OY]
  cases G:g i with
  | true=>
   right;refine⟨rfl,?_⟩;rw[<-sM F (e0.trans G)];congr 3
   all_goals omega
  | false=>exact aC ⟨rfl,wB F (e0.trans G)⟩
 rintro ys r L ⟨rfl,rfl⟩ U;have W:Ext r (upd r L (.lst ((row g 0 l).map V.int))):=aO U;have J:(upd r L (.lst ((row g 0 l).map V.int))) L=_:=ay;generalize upd r L (.lst ((row g 0 l).map V.int))=H4 at W J;have X:=W _ _ k;left;refine xg (by omega) ?_;rw[show ((l:Int)+(d:Int)-(l:Int)).toNat=d by omega];refine fS (λi ys s=>s=H4/\ys=(row g l i).map V.int) (aS (by omega)) ⟨rfl,rfl⟩ ?_ ?_ ?_
 .rintro i ys s _ ⟨rfl,rfl⟩;rw[Mc];exact zL g _ i
 .rintro i ys s hi ⟨rfl,F⟩;left;refine aH (af.of X) (kC (by omega) (by omega)) ?_;left;rw[show ((l:Int)+(i:Int)).toNat=l+i by omega];cases G:g (l+i)with
  | true=>
   right;refine⟨rfl,?_⟩;rw[<-sM F G];congr 3
   all_goals omega
  | false=>exact aC ⟨rfl,wB F G⟩
 rintro ys s M ⟨rfl,rfl⟩ Y;have Z:Ext s (upd s M (.lst ((row g l d).map V.int))):=aO Y;have h6:(upd s M (.lst ((row g l d).map V.int))) M=_:=ay;generalize upd s M (.lst ((row g l d).map V.int))=H6 at Z h6;left;refine jv (af.of (Z _ _ J)) (bu λt1 H7 e7 a0 _=>?_);left;refine jv (af.of (e7 _ _ h6)) (bu λt2 H8 e8 a1 _=>?_);left;refine aE λt H9 e9 ht _=>?_;exact q _ l d H9 (B.trans (W.trans (Z.trans (e7.trans (e8.trans e9))))) o C O ⟨t,t1,t2,rfl,ht,e9 _ _ (e8 _ _ a0),e9 _ _ a1⟩
def Ex{xs:List α}(h:xs.length=k+1){v:α}(hv:xs[k]?=Vo v):di xs (-1)=Vo v:=by unfold di fI;rw[h,M1 (by omega),M3 (by omega)];rw[show (-1+((k+1:Nat):Int)).toNat=k by omega];exact hv
def Dw{xs:List V}(h:xs.length=k+1):cn xs Vp (Vo (-1))=xs.take k:=by
 unfold cn;have a:HT.aL xs.length xs.length (Vo (-1))=k:=by show(if(-1:Int)<0 then(-1+(xs.length:Int)).toNat else min (-1:Int).toNat xs.length)=_;rw[M3 (by decide)];omega
 have b:HT.aL xs.length 0 Vp=0:=rfl;rw[a,b];simp
theorem rB{H:Hp}{n:Nat}:∀{hs:List Vb} {F:Nat->Nat->Bool},(∀(a:Nat) (r:Vb),hs[a]?=Vo r->H r=Vo (.lst (bq n (F a))))->Paired (aQ H 1) (M5 V.ref hs) ((MY hs.length).map λa=>PyData.list (dB n (F a)))
 | [],_,_=>.nil
 | r::hs,F,h=>by rw[ME,List.range_succ_eq_map,NS,NS,List.map_map];exact .cons (kW (h 0 r rfl)) (rB λa b c=>h (a+1) b (by simpa using c))
def pZ(H2:Hp)(n:Nat)(c:V)(d e f b:Vb)(k:Nat)(σ:St)(H':Hp):Prop:=
 ∃hs lv,Ext H2 H'/\H' b=Vo (.lst (M5 V.ref hs))/\hs.length=k+1/\(∀(a:Nat) (r:Vb),hs[a]?=Vo r->H' r=Vo (.lst (bq 2 (cz n (n+a)))))/\H' lv=Vo (.lst (bq 2 λ_=>false))/\σ=[Vo c,Vo (.ref d),Vo (.ref e),Vo (.ref f),Vo (.ref b),Vo (.ref lv)]
def ix(h:i≠n):cz n i j=false:=MZ λz=>h z.1
inductive tF(K:L8)(vs:List V)(H:Hp)(Q:VK)(E:XK):Prop|mk:∀a b n,vs=[a,.ref b]->E2 H a->aJ H b (pN n)->n<=12->dU K->Tbs K H->(∀p c d H',Et H H'->Tbs K H'->H' p=Vo (.tup [.ref c,.int ((n+1:Nat):Int)])->Rows H' c d 2 (cz n)->d.length=n+2->Q (.ref p) H')->tF K vs H Q E
abbrev B8:Vl:=stq 61
abbrev zK:=λP w mg base=>Cal P w K mg base "all_levels" 9 ["house","place"] (tF K)
def LR(D:Dfn K mg "all_levels" B8 ["house","place"])(T:Blt mg)(c:zy P w mg base)(d:Be P w mg base)(s:ye P w mg base):zK P w mg base:=by
 refine D.oS ["house","place","rises","low","high","level"] λN nd H vs Q E h=>?_;obtain⟨Y,O,n,rfl,hv,a7,hn,Z,a8,q⟩:=h;refine⟨_,(ah (aw (i:=2) nd rfl oi (av s N (aa (pv 0) ae)))
   (ah (aw (i:=3) nd rfl oi (av d N (aa (pv 0) (aa (pv 1) ae))))
   (ah (aw (i:=4) nd rfl oi (aK (aa (ai (aF K) (pv 3) (kL kZ ag) (λ_ _=>rfl)) ae)))
   (ah (aw (i:=5) nd rfl oi (av c N (aa (pv 2) (aa (ai (aF K) (pv 3) (kL kZ ag) (λ_ _=>rfl)) ae))))
   (ah (gH F2 (aP (LL N) (pv 5) (pv 4) (by with_unfolding_all rfl)) (ah (bp (cx K Ml Mx Mz dY (pv 4) (aa (pv 5) ae)))
   (aj (aw (i:=5) nd rfl oi (av c N (aa (pv 2) (aa (pv 5) ae)))))))
   (aj (az (aX (aa (aB bE (eM (gn K) (pv 3) fi (dW (kL kZ ag))) (pv 4)) (aa (aB dz (ai (aA K) (pv 1) ag (λ_ _=>rfl)) (cx K Ml Q9 PySem.F.type_list_index (JL N) (pv 4) (aa (pv 5) ae))) ae)))))))))),?_⟩
 left;refine⟨Y,rfl,hv,Z,a8,λrl H1 e1 a9 ab=>?_⟩;have G:aJ H1 O (pN n):=e1 _ _ a7 (λps z=>by cases z);left;refine⟨Y,O,n,rfl,hv.et e1,G,hn,Z,a9,λlq R H2 e2 ac rows I=>?_⟩;have J:=e2 _ _ ab (λps z=>by cases z);have a0:aJ H2 O (pN n):=e2 _ _ G (λps z=>by cases z);have l:R[n]?=Vo R[n]:=Me (by omega);generalize R[n]=r0 at l;have u:=rows.2 _ _ l;have hat:di (M5 V.ref R) (-1)=Vo (.ref r0):=Ex (k:=n) (by rw[Mc];exact I) (by rw[Mf,l];rfl);left;refine aH (af.of rows.1) hat ?_;left;refine aE λC H3 e3 ad am=>?_;left;refine aH (af.of (e3 _ _ rows.1)) hat ?_;left;refine⟨rl,r0,_,rfl,e3 _ _ J,e3 _ _ u,λlv H4 e4 b2 an=>?_⟩;have a1:=e3.trans e4;left;refine gC (λmm σ H'=>∃k,k<=1/\mm=1-k/\pZ H2 n Y O rl lq C k σ H') (pZ H2 n Y O rl lq C 1) 1 ⟨0,by decide,rfl,[r0],lv,a1,e4 _ _ ad,rfl,λa r ha=>by
   cases a with
   | zero=>cases ha;exact a1 _ _ u
   | succ a=>simp at ha,an,rfl⟩ ?_ ?_
 .rintro mm σ S ⟨k,hk,rfl,hs,lv,U,g,x,hrow,m,rfl⟩;have a2:=rB hrow;left;refine Ki (kW m) g a2 (by omega) ?_;have A:((MY hs.length).map λa=>PyData.list (dB 2 (cz n (n+a)))).any (λe=>M8 e (.list (dB 2 λ_=>false)))=true↔k=1:=by
   rw[SO,MK,x];constructor
   .rintro⟨a,ha,he⟩;have ha:=NP.mp ha;have j:=kg.mp he 0 (by decide);cases a with
    | zero=>unfold cz at j;simp at j
    | succ a=>omega
   .rintro rfl;exact⟨1,NP.mpr (by decide),kg.mpr λi _=>ix (by omega)⟩
  generalize ((MY hs.length).map λa=>PyData.list (dB 2 (cz n (n+a)))).any (λe=>M8 e (.list (dB 2 λ_=>false)))=bb at A ⊢;cases bb with
  | true=>
   obtain rfl:=A.mp rfl;refine⟨_,rfl,aC ?_⟩;exact⟨hs,lv,U,g,x,hrow,m,rfl⟩
  | false=>
   obtain rfl:k=0:=by
    have:k≠1:=λz=>by have:=A.mpr z;cases this
    omega
   refine⟨_,rfl,aD ⟨λa3 H'=>pZ H2 n Y O rl lq C 1 a3 H',λa3 H' h=>⟨0,by decide,1,by decide,rfl,h⟩,?_⟩⟩;obtain⟨j,rfl⟩:∃j,hs=[j]:=mq x;have u:=hrow 0 j rfl;have nq:∀r f,S r=Vo (.lst (bq 2 f))->r≠C:=λr f hb z=>by
    rw[z,g]at hb;injection hb with y
    injection y with y
    exact absurd (congrArg Qr y) (by rw[dO];show ¬(1:Nat)=2;decide)
   left;refine⟨dR (af.of g),?_⟩;left;refine iU g (aS (by simp)) ?_;have W:=gF (o:=.lst (M5 V.ref [j]++[.ref lv])) U am;have a4:upd S C (.lst (M5 V.ref [j]++[.ref lv])) C=Vo (.lst (M5 V.ref [j,lv])):=ay;have B:upd S C (.lst (M5 V.ref [j]++[.ref lv])) lv=Vo (.lst (bq 2 λ_=>false)):=by rw[aq (nq _ _ m)];exact m
   have a5:upd S C (.lst (M5 V.ref [j]++[.ref lv])) j=Vo (.lst (bq 2 (cz n (n+0)))):=by rw[aq (nq _ _ u)];exact u
   generalize upd S C (.lst (M5 V.ref [j]++[.ref lv]))=H6 at W a4 B a5 ⊢;left;refine⟨rl,lv,_,rfl,W _ _ J,B,λap H7 X _ ar=>?_⟩;left;refine⟨[j,lv],ap,W.trans X,X _ _ a4,rfl,λa r ha=>?_,ar,rfl⟩
   match a,ha with
   | 0,ha=>cases ha;exact X _ _ a5
   | 1,ha=>
    cases ha;rw[X _ _ B];congr 2;exact rK λy _=>(ix (by omega)).symm
   | a+2,ha=>simp at ha
 .rintro σ S ⟨hs,lv,U,g,x,hrow,m,rfl⟩;have L:=rows.ext U;left;refine gX (af.of L.1) (bu λlo H6 W a6 _=>?_);rw[Dw (k:=n) (by rw[Mc];exact I)]at a6;left;refine dm a6 (W _ _ g) (aS (by simp;omega)) (bu λll H7 X as _=>?_);have p:=W.trans X;left;refine aG (ak.of (p _ _ (U _ _ a0))) (v:=.int (n:Nat)) rfl ?_;left;have hrow7:∀(a:Nat) (r:Vb),hs[a]?=Vo r->H7 r=Vo (.lst (bq 2 (cz n (n+a)))):=λa r h=>p _ _ (hrow a r h);refine⟨dR (af.of (p _ _ g)),?_⟩;left;refine⟨1,C,_,.ref lv,_,_,1,rfl,rfl,kW (p _ _ m),p _ _ g,rB hrow7,by omega,⟨_,by rw[Mf,QU (by omega)];rfl,kg.mpr λi _=>ix (by omega)⟩,λb e hb he=>?_,by omega,?_⟩
  .rw[Mf,QU (by omega)]at he;cases he;rw[Bool.eq_false_iff];intro hc;have j:=kg.mp hc 0 (by decide);obtain rfl:b=0:=by omega
   unfold cz at j;simp at j
  left;refine aE λpp H8 e8 b0 _=>?_;have M:=U.trans (p.trans e8);refine q pp ll (R.take n++hs) H8 ((e1.trans e2).trans M.et) (ac.ext M) ?_ ⟨?_,λi r hi=>?_⟩ ?_
  .rw[b0];rfl
  .rw[e8 _ _ as,Mt,Rt]
  .by_cases b1:i<n
   .rw[MC (by rw[MV];omega),Ob b1]at hi;exact M _ _ (rows.2 i r hi)
   .have hl:(R.take n).length=n:=by rw[MV];omega
    rw[MB (by omega),hl]at hi;have:=e8 _ _ (hrow7 _ _ hi);rw[show n+(i-n)=i by omega]at this;exact this
  .rw[Mu,MV,x];omega
inductive AK(K:L8)(vs:List V)(H:Hp)(Q:VK)(E:XK):Prop|mk:∀a c m F b N r,vs=[.ref a,.int (b:Nat),.int (r:Nat)]->Rows H a c m F->c.length=b+N->1<=N->b+N<=20000->r<m->bV (λi=>F i r) b N->(∀v (l d:Nat) H',Ext H H'->Least (λi=>F i r) d l->l<=b->d<=N->dI H' v l d (row (λi=>F i r) 0 l) (row (λi=>F i r) l d)->Q v H')->AK K vs H Q E
abbrev vY:Vl:=stq 62
abbrev sV:=λP w mg base=>Cal P w K mg base "stair_of_room" 3 ["levels","base","room"] (AK K)
def Dr(D:Dfn K mg "stair_of_room" vY ["levels","base","room"])(T:Blt mg)(c:Ck P w mg base):sV P w mg base:=by
 refine D.oS ["levels","base","room"] λx nd H vs Q E h=>?_;obtain⟨J,n,m,F,b,N,r,rfl,rows,g,y,j,z,e,q⟩:=h;refine⟨_,(aj (az (av c x (aa (bM ["level"] [2] (bG K (pv 0)) (λ_=>(aI (i:=0) (show(["level","room"]:List Vn).Nodup from by decide +kernel) rfl oi oj)) (λ_=>ck) (λ_=>(ai (aF K) (pv 0) (pv 1) (λ_ _=>rfl)))) (aa (pv 1) ae))))),?_⟩;left;refine bI (af.of rows.1) ?_;refine fb (λi ys H'=>H'=H/\ys=bq i (λi=>F i r)) (MH (show(M5 V.ref n).length<=20000 by rw[Mc];omega) (by decide)) ⟨rfl,rfl⟩ (λi ys H' _ h=>⟨by rw[h.1];exact af.of rows.1,by rw[h.2,dO];exact Mw _⟩) ?_ ?_
 .rintro i v ys H1 p ⟨rfl,rfl⟩;rw[Mf]at p;obtain⟨a,ha,rfl⟩:=Mp.mp p;have hrow:=rows.2 i a ha;left;right;refine aH (af.of hrow) (kC (by omega) (by omega)) ?_;rw[Mq];refine⟨rfl,?_⟩;rw[uj]
 .rintro ys H1 f ⟨A,rfl⟩ k;subst A;rw[Mc,g];have s:=aO (o:=.lst (bq (b+N) λi=>F i r)) k;have u:(upd H1 f (.lst (bq (b+N) λi=>F i r))) f=_:=ay;generalize upd H1 f (.lst (bq (b+N) λi=>F i r))=H2 at s u ⊢;left;exact⟨f,b,N,_,rfl,y,j,u,e,λv l d B C G I hd hst=>q v l d B (s.trans C) G I hd hst⟩
def ji(h:n<=12):cy 2 (pN n):=⟨Rk 0,by show(0:Int)<2;decide,by show(0:Int)<=n;omega,by show(n:Int)<=1000;omega⟩
def bN(n r:Nat):Nat:=if r=0 then n+1 else 0
def oN(n r:Nat):List Int:=if r=0 then[((n:Nat):Int)]else[]
theorem ml{f:Nat->Bool}{lo:Nat}:∀{k:Nat},(∀i,i<k->f (lo+i)=false)->row f lo k=[]
 | 0,_=>rfl
 | k+1,h=>by rw[nk,ml λi hi=>h i (by omega),h k (N0 k)];rfl
def JV{r l d:Nat}(g:r<2)(a:Least (λi=>cz n i r) d l)(hd:d<=1)(m:l<=n+1):d=1/\l=bN n r/\row (λi=>cz n i r) 0 l=oN n r/\row (λi=>cz n i r) l d=[]:=by
 have e:d=1:=by have:=a.pos;omega
 subst e;unfold bN oN;by_cases h:r=0
 .subst h;have b:l=n+1:=by
   rcases MT n l with z|z
   .omega
   .have h1:=a.per n z;have h2:cz n (n+1) 0=cz n n 0:=h1;unfold cz at h2;simp at h2
  subst b;refine⟨rfl,rfl,?_,ml λi _=>ix (by omega)⟩;rw[nk,ml (k:=n) (f:=λi=>cz n i 0) (λi hi=>ix (n:=n) (i:=0+i) (j:=0) (by omega)),OY,M3 (by unfold cz;simp)];rfl
 .rw[M1 h,M1 h];have hno:∀i,cz n i r=false:=λi=>MZ λz=>h z.2;have c:l=0:=by have:=a.base 0 (λx _=>(hno _).trans (hno _).symm);omega
  subst c;exact⟨rfl,rfl,rfl,ml λi _=>hno _⟩
inductive yA(K:L8)(vs:List V)(H:Hp)(Q:VK)(E:XK):Prop|mk:∀a b n,vs=[a,.ref b]->E2 H a->aJ H b (pN n)->n<=12->dU K->Tbs K H->(∀l xs H',Et H H'->Tbs K H'->H' l=Vo (.lst xs)->xs.length=2->(∀(r:Nat) (v:V),xs[r]?=Vo v->dI H' v (bN n r:Nat) 1 (oN n r) [])->Q (.ref l) H')->yA K vs H Q E
abbrev vE:Vl:=stq 63
abbrev ma:=λP w mg base=>Cal P w K mg base "forward" 10 ["house","place"] (yA K)
def Fi(D:Dfn K mg "forward" vE ["house","place"])(T:Blt mg)(c:sV P w mg base)(e:zK P w mg base)(a:kN P w mg base)(b:ip P w mg base):ma P w mg base:=by
 refine D.oS ["house","place","told"] λG nd H vs Q E h=>?_;obtain⟨vh,X,n,rfl,hv,m,Y,I,J,q⟩:=h;refine⟨_,(ah (bp (av b G (aa (pv 0) ae)))
   (ah (bp (av a G (aa (pv 0) (aa (aK (aa (pv 1) ae)) ae))))
   (ah (aw (i:=2) nd rfl oj (av e G (aa (pv 0) (aa (pv 1) ae))))
   (aj (az (bM ["room"] [2] (dP rfl T.range_ (aa (ai (aA K) (pv 0) ag (λ_ _=>rfl)) ae)) (λ_=>(aI (i:=0) (show(["room","told"]:List Vn).Nodup from by decide +kernel) rfl oi oj)) (λ_=>ck) (λ_=>(av c G (aa (ai (aA K) (pv 1) ag (λ_ _=>rfl)) (aa (ai (aA K) (pv 1) ag (λ_ _=>rfl)) (aa (pv 0) ae))))))))))),?_⟩
 left;refine⟨vh,2,[],rfl,hv.hv,gM,λH1 Z=>?_⟩;obtain⟨j,s,L,hh,_⟩:=id (hv.ext Z);subst L;left;refine aE λpl H2 M N _=>?_;have g:=Z.trans M;left;refine⟨j,.ref s,2,pl,[X],[(pN n)],rfl,M _ _ hh,N,.cons (g _ _ m) .nil,λy hy=>by rw[Mo.mp hy];exact ji Y,?_⟩;left;refine⟨.ref j,X,n,rfl,hv.ext g,g _ _ m,Y,I,J.ext g,λp lq rs H3 e3 O hp rows R=>?_⟩;have S:H3 j=Vo (.tup [.int 2,.ref s]):=e3 _ _ (M _ _ hh) (λps z=>by cases z);left;refine aG (ak.of S) (v:=.int 2) rfl ?_;left;refine dM (by omega) ?_;refine fS (λi ys H'=>Ext H3 H'/\ys.length=i/\∀(r:Nat) (v:V),ys[r]?=Vo v->dI H' v (bN n r:Nat) 1 (oN n r) []) (aS (by omega)) ⟨Ext.rfl' _,rfl,λr v h=>by simp at h⟩ (λi ys H' _ h=>Ph h.2.1) ?_ ?_
 .rintro i ys H4 hi ⟨u,k,hys⟩;rw[show (0:Int)+(i:Int)=((i:Nat):Int) by omega];have hi:i<2:=hi;have A:=u _ _ hp;left;right;refine aG (ak.of A) (v:=.ref lq) rfl ?_;left;refine aG (ak.of A) (v:=.int ((n+1:Nat):Int)) rfl ?_;left;refine⟨lq,rs,2,cz n,n+1,1,i,rfl,rows.ext u,R,Mw 1,by omega,hi,λx hx=>?_,λv l d H5 B hL hl hd hst=>?_⟩
  .show cz n (x+1) i=cz n x i;rw[ix (by omega),ix (by omega)]
  obtain⟨rfl,rfl,h1,h2⟩:=JV hi hL hd hl;rw[h1,h2]at hst;refine⟨u.trans B,by rw[Mu,k];rfl,λr v' f=>?_⟩;by_cases C:r<ys.length
  .rw[MC C]at f;exact(hys r v' f).ext B
  .rw[MB (by omega)]at f;have hz:r-ys.length=0:=by have:=(Mm.mp f).1;simp at this;omega
   rw[hz]at f;cases f;have U:r=i:=by omega
   subst U;exact hst
 .rintro ys H4 p9 ⟨u,k,hys⟩ W;have B:=aO (o:=.lst ys) W;have F:=u.trans B;left;exact q p9 ys _ ((g.et.trans e3).trans F.et) (O.ext F) ay k λr v hv=>(hys r v hv).ext B
inductive yH(K:L8)(vs:List V)(H:Hp)(Q:VK)(E:XK):Prop|mk:∀a b n,vs=[a,.ref b]->E2 H a->aJ H b (pN n)->n<=12->dU K->Tbs K H->(∀l xs H',Et H H'->Tbs K H'->H' l=Vo (.lst xs)->xs.length=2->(∀(r:Nat) (v:V),xs[r]?=Vo v->dI H' v (bN n r:Nat) 1 (oN n r) [])->Q (.ref l) H')->yH K vs H Q E
abbrev AI:Vl:=stq 65
abbrev uZ:=λP w mg base=>Cal P w K mg base "backward" 11 ["house","goal"] (yH K)
def Ln(D:Dfn K mg "backward" AI ["house","goal"])(T:Blt mg)(b:ma P w mg base)(a:nh P w mg base):uZ P w mg base:=by refine D.oS ["house","goal"] λi nd H vs Q E h=>?_;obtain⟨j,k,n,rfl,hv,c,m,d,f,q⟩:=h;refine⟨_,(aj (az (av b i (aa (av a i (aa (pv 0) ae)) (aa (pv 1) ae))))),?_⟩;left;refine⟨j,2,[],rfl,hv.hv,gM,λu H1 g o=>?_⟩;left;exact⟨u,k,n,rfl,E2.of o,g _ _ c,m,d,f.ext g,λl xs H' e=>q l xs H' (g.et.trans e)⟩
def Ks{K:L8}{xs:List V}{g:TG}(Pv:Nat->St->Hp->Prop)(c:Pv 0 σ H)(d:∀i σ H,i<=xs.length->Pv i σ H->ak K H a xs)
  (hs:∀i u σ H p H',xs[i]?=Vo u->Pv i σ H->Ext H H'->H' p=Vo (.tup [.int i,u])->H p=Vp->g (.ref p) σ H' λb H2=>tb { D with nx:=Pv (i+1),ct:=Pv (i+1),bk:=D.nx } b H2) (hd:∀σ H,Pv xs.length σ H->D.nx σ H) :
  hZ (i6 K a) g tb D σ H:=KW Pv c d hs hd
inductive Bq(K:L8)(vs:List V)(H:Hp)(Q:VK)(E:XK):Prop|mk:∀v,vs=[v]->E2 H v->(∀c H',Ext H H'->WR H' c->Q (.ref c) H')->Bq K vs H Q E
abbrev B0:Vl:=stq 69
abbrev pL:=λP w mg base=>Cal P w K mg base "counts_by_room" 1 ["house"] (Bq K)
def Lz(D:Dfn K mg "counts_by_room" B0 ["house"])(T:Blt mg):pL P w mg base:=by
 refine D.oS ["house","counts","count","way"] λB nd H vs Q E h=>?_;obtain⟨v,rfl,⟨p,q,rfl,s,x⟩,k⟩:=h;refine⟨_,(ah (fL (i:=1) ["room"] [] nd rfl oi (dP rfl T.range_ (aa (ai (aA K) (pv 0) ag (λ_ _=>rfl)) ae)) (λ_=>(aI (i:=0) (show(["room"]:List Vn).Nodup from by decide +kernel) rfl oi oj)) (λ_=>ck) (λ_=>(aK ae)))
   (ah (bJ F2 rfl (CS K rfl T.enumerate_ (aa (ai (aA K) (pv 0) ag (λ_ _=>rfl)) ae)) (eZ (n:=2) K rfl (bY (aI (i:=2) nd rfl oi) (bY (aI (i:=3) nd rfl oi) eJ))) (aj (bp (cx K Ml Mx Mz dY (ai (aF K) (pv 1) (ai (aA K) (pv 3) ag (λ_ _=>rfl)) (λ_ _=>rfl)) (aa (pv 2) ae)))))
   (aj (az (pv 1))))),?_⟩
 left;refine aG (ak.of s) (v:=.int 2) rfl ?_;left;refine dM (by omega) ?_;refine fS (λi ys H'=>Ext H H'/\ys.length=i/\(0<i->∃r,ys[0]?=Vo (.ref r)/\H' r=Vo (.lst []))) (dN (by decide)) ⟨Ext.rfl' _,rfl,λh=>absurd h (ND _)⟩ (λi ys H' _ h=>Ph h.2.1) ?_ ?_
 .rintro i ys H1 hi ⟨e,y,f⟩;left;right;refine aE λl H2 d g _=>?_;refine⟨e.trans d,by rw[Mu,y];rfl,λ_=>?_⟩;by_cases j:0<i
  .obtain⟨r,a,b⟩:=f j;exact⟨r,by rw[MC (by omega)];exact a,d _ _ b⟩
  .have:ys=[]:=Pe.mp (by omega);subst this;exact⟨l,rfl,g⟩
 .rintro ys H1 c ⟨e,y,f⟩ z;obtain⟨r,a,b⟩:=f (by decide);have m:=aO (o:=.lst ys) z;have wr:WR (upd H1 c (.lst ys)) c:=⟨ys,ay,r,a,m _ _ b⟩;generalize upd H1 c (.lst ys)=H2 at m wr ⊢;have d:=e.trans m;left;refine aG (ak.of (d _ _ s)) (v:=.ref q) rfl ?_;left;refine LG (ak.of (d _ _ x)) ?_;refine Ks (xs:=[]) (λi σ H'=>H'=H2/\∃k1 k2,σ=[Vo (.ref p),Vo (.ref c),k1,k2]) ⟨rfl,_,_,rfl⟩ (λi σ H' _ h=>by rw[h.1];exact ak.of (d _ _ x)) (by rintro i u σ C pp F A;simp at A) ?_;rintro σ H' ⟨rfl,k1,k2,rfl⟩;left;exact k c _ d wr
inductive Bv(K:L8)(vs:List V)(H:Hp)(Q:VK)(E:XK):Prop|mk:∀v a b x g,vs=[v,.ref a,.ref b]->E2 H v->aJ H a x->aJ H b g->(∀k:Int,Q (.int k) H)->Bv K vs H Q E
abbrev CA:Vl:=stq 70
abbrev xG:=λP w mg base=>Cal P w K mg base "greatest_met" 1 ["house","place","goal"] (Bv K)
def CT(D:Dfn K mg "greatest_met" CA ["house","place","goal"])(T:Blt mg):xG P w mg base:=by
 refine D.oS ["house","place","goal"] λf nd H vs Q E h=>?_;obtain⟨v,a,b,x,g,rfl,⟨i,t,rfl,c,j⟩,d,e,q⟩:=h;refine⟨_,(aj (az (aB dz (aR (tW rfl) rfl T.max_ OQ (aa (ai (aA K) (pv 1) ag (λ_ _=>rfl)) (aa (ai (aA K) (pv 2) ag (λ_ _=>rfl)) ae))) (aB gN (ai (aA K) (pv 0) ag (λ_ _=>rfl)) (ai (aA K) (pv 0) ag (λ_ _=>rfl)))))),?_⟩;left;refine aG (ak.of d) rfl ?_;left;refine aG (ak.of e) rfl ?_;left;refine aG (ak.of c) rfl ?_;left;refine aG (ak.of c) rfl ?_;left
 left;exact q _
def jf(n:Nat):List (List Key×V):=[(bc (pN n),.non)]
def tm(h:n≠k):aZ (jf n) (bc (0,((k:Nat):Int)))=Vp:=by
 unfold jf;rw[dk (λz=>h ?_)]
 .rfl
 .have:=congrArg Prod.snd (Hn z);have:((n:Nat):Int)=((k:Nat):Int):=this;omega
def rf:aZ (jf n) (bc (pN n))=Vo .non:=cQ rfl
inductive A3(K:L8)(vs:List V)(H:Hp)(Q:VK)(E:XK):Prop|mk:∀v a ga n k,vs=[v,.ref a,.ref ga]->E2 H v->aJ H a (pN n)->aJ H ga (0,((k:Nat):Int))->(∀f H',Ext H H'->H' f=Vo (.dT (jf n))->Q (.ref f) H')->A3 K vs H Q E
abbrev ug:Vl:=stq 71
abbrev sJ:=λP w mg base=>Cal P w K mg base "found_from" 2 ["house","place","goal"] (A3 K)
def DK(D:Dfn K mg "found_from" ug ["house","place","goal"])(T:Blt mg)(a:pL P w mg base)(d:xG P w mg base):sJ P w mg base:=by
 refine D.oS ["house","place","goal","greatest","counts","found","row","looked","here","count","way","there"] λs nd H vs Q E h=>?_;obtain⟨v,l,ga,n,k,rfl,hv,F,N,q⟩:=h;refine⟨_,(ah (aw (i:=3) nd rfl oi (av d s (aa (pv 0) (aa (pv 1) (aa (pv 2) ae)))))
   (ah (aw (i:=4) nd rfl oi (av a s (aa (pv 0) ae)))
   (ah (aw (i:=5) nd rfl oi (sU (bT s) (pv 1) hG))
   (ah (aw (i:=6) nd rfl oi (aK (aa (pv 1) ae)))
   (ah (aw (i:=7) nd rfl oi ag)
   (ah (gH F2 (PW.pt (j9 (aP fH (pv 7) (aR (cw K) rfl T.len_ L0 (aa (pv 6) ae)) (aN _)) (lF (ik (kh (bT s) (pv 2) (pv 5)) (by with_unfolding_all rfl))))) (ah (aw (i:=8) nd rfl oi (ai (aF K) (pv 6) (pv 7) (λ_ _=>rfl)))
   (ah (lX (i:=7) nd rfl oi ag qM)
   (aj (bJ F2 rfl (bG K (ai (aF K) (pv 4) (ai (aA K) (pv 8) ag (λ_ _=>rfl)) (λ_ _=>rfl))) (aI (i:=9) nd rfl oi) (ah (aw (i:=10) nd rfl oi (ai (aA K) (ai (aA K) (pv 0) ag (λ_ _=>rfl)) (pv 9) (λ_ _=>rfl)))
   (ah (aw (i:=11) nd rfl oi gD)
   (aj (fq (PW.pt (j9 om (j9 (aP iH (ai (aA K) (pv 11) ag (λ_ _=>rfl)) (pv 3) (aN _)) (lF (ik (kh (bT s) (pv 11) (pv 5)) (by with_unfolding_all rfl)))))) (ah (i3 (bT s) (pv 5) (pv 11) (aX (aa (pv 8) (aa (pv 9) ae))) rfl)
   (aj (bp (cx K Ml Mx Mz dY (pv 6) (aa (pv 11) ae))))) aT)))))))))
   (aj (az (pv 5))))))))),?_⟩
 left;refine⟨v,l,ga,_,_,rfl,hv,F,N,λT=>?_⟩;left;refine⟨v,rfl,hv,λc H1 O ct=>?_⟩;left;refine λf hfn=>?_;left;refine⟨l,bc (pN n),rfl,(aO hfn) _ _ (O _ _ F),ay,?_⟩;left;refine aE λrw B C G I=>?_;left;have m:Ext H1 (upd (upd H1 f (.dT [])) f (.dT (jf n))):=λb o hb=>by rw[aq (cC hb hfn),aq (cC hb hfn)];exact hb
 have u:B f=Vo (.dT (jf n)):=C _ _ ay;have p:=(O.trans m).trans C;have J:=(ct.ext m).ext C;clear I m C;refine gC (λM σ H'=>∃(i:Nat) (k1 k2 k3 g:Option V),i+M=1/\Ext B H'/\σ=[Vo v,Vo (.ref l),Vo (.ref ga),Vo (.int T),Vo (.ref c),Vo (.ref f),Vo (.ref rw),Vo (.int (i:Nat)),k1,k2,k3,g]) (λσ H'=>∃(i:Nat) (k1 k2 k3 g:Option V),Ext B H'/\σ=[Vo v,Vo (.ref l),Vo (.ref ga),Vo (.int T),Vo (.ref c),Vo (.ref f),Vo (.ref rw),Vo (.int (i:Nat)),k1,k2,k3,g]) 1 ⟨0,_,_,_,_,rfl,Ext.rfl' _,rfl⟩ ?_ ?_
 .rintro M σ R ⟨i,k1,k2,k3,g,hi,e,rfl⟩;have x:=e _ _ G;left;refine dn (af.of x) ?_;left;by_cases hlt:i=0
  rotate_left
  .rw[MZ (show ¬((i:Nat):Int)<(([V.ref l]:List V).length:Nat) by show ¬((i:Nat):Int)<1;omega)];refine aC ?_;refine aC ?_;exact⟨i,_,_,_,_,e,rfl⟩
  subst hlt;rw[M0 (show((0:Nat):Int)<(([V.ref l]:List V).length:Nat) by show((0:Nat):Int)<1;omega)];right;refine⟨f,_,rfl,cF.t (e _ _ u) (k:=bc (0,((k:Nat):Int))) ((p.trans e) _ _ N),?_⟩;by_cases y:n=k
  .subst y;rw[rf];refine rd_exb (aC ?_);exact⟨0,_,_,_,_,e,rfl⟩
  rw[tm y];refine rd_exb (aD ?_);refine⟨λz H'=>∃k1 k2 k3 g,Ext B H'/\z=[Vo v,Vo (.ref l),Vo (.ref ga),Vo (.int T),Vo (.ref c),Vo (.ref f),Vo (.ref rw),Vo (.int ((1:Nat):Int)),k1,k2,k3,g],λz H' ⟨k1,k2,k3,g,a1,S⟩=>⟨0,by omega,1,k1,k2,k3,g,rfl,a1,S⟩,?_⟩;obtain⟨xs,U,r,L,A⟩:=J.ext e;left;refine aH (af.of x) (v:=.ref l) (aM (j:=0) rfl) ?_;left;refine aG (ak.of ((p.trans e) _ _ F)) (v:=.int 0) rfl ?_;left;refine aH (af.of U) (v:=.ref r) (aM (j:=0) L) ?_;refine bI (af.of A) ?_;refine kD (af.of A) ?_;exact⟨_,_,_,_,e,rfl⟩
 .rintro σ R ⟨i,k1,k2,k3,g,e,rfl⟩;left;exact q f R (p.trans e) (e _ _ u)
inductive yL(K:L8)(vs:List V)(H:Hp)(Q:VK)(E:XK):Prop|mk:∀f ga n,vs=[.ref f,.ref ga]->H f=Vo (.dT (jf n))->aJ H ga (pN n)->(∀l H',Ext H H'->H' l=Vo (.lst [])->Q (.ref l) H')->yL K vs H Q E
abbrev vd:Vl:=stq 72
abbrev tT:=λP w mg base=>Cal P w K mg base "walk_back" 1 ["found","goal"] (yL K)
def DV(D:Dfn K mg "walk_back" vd ["found","goal"])(T:Blt mg):tT P w mg base:=by
 refine D.oS ["found","goal","walk","step"] λa nd H vs Q E h=>?_;obtain⟨f,ga,n,rfl,c,d,e⟩:=h;refine⟨_,(ah (aw (i:=2) nd rfl oi (aK ae))
   (ah (aw (i:=3) nd rfl oi (ef (bT a) (pv 0) (pv 1) (λ_ _=>rfl)))
   (ah (gH F2 (aP Hk (pv 3) hG (aN _)) (ah (bp (cx K Ml Mx Mz dY (pv 2) (aa (ai (aA K) (pv 3) ag (λ_ _=>rfl)) ae)))
   (aj (aw (i:=3) nd rfl oi (ef (bT a) (pv 0) (ai (aA K) (pv 3) ag (λ_ _=>rfl)) (λ_ _=>rfl))))))
   (aj (az (Jd K rfl rfl T.list_ rfl T.reversed_ (pv 2))))))),?_⟩
 left;refine aE λl H1 b g j=>?_;left;refine⟨f,.non,rfl,by have:=cF.t (b _ _ c) (k:=bc (pN n)) (b _ _ d);rw[rf]at this;exact this,?_⟩;left;refine gC (λM σ H'=>M=0/\H'=H1/\σ=[Vo (.ref f),Vo (.ref ga),Vo (.ref l),Vo .non]) (λσ H'=>H'=H1/\σ=[Vo (.ref f),Vo (.ref ga),Vo (.ref l),Vo .non]) 0 ⟨rfl,rfl,rfl⟩ ?_ ?_
 .rintro M σ m ⟨_,rfl,rfl⟩;left;refine⟨rfl,?_⟩;exact rd_exb (aC ⟨rfl,rfl⟩)
 .rintro σ m ⟨rfl,rfl⟩;left;refine Jm (af.of g) (bu λr o p a q=>?_);exact e r o (b.trans p) a
inductive wb(K:L8)(vs:List V)(H:Hp)(Q:VK)(E:XK):Prop|mk:∀v a ga n k,vs=[v,.ref a,.ref ga]->E2 H v->aJ H a (pN n)->aJ H ga (0,((k:Nat):Int))->(n≠k->∀H',Ext H H'->Q .non H')->(n=k->∀l H',Ext H H'->H' l=Vo (.lst [])->Q (.ref l) H')->wb K vs H Q E
abbrev CH:Vl:=stq 73
abbrev q0:=λP w mg base=>Cal P w K mg base "sought_walk" 3 ["house","place","goal"] (wb K)
def LA(D:Dfn K mg "sought_walk" CH ["house","place","goal"])(T:Blt mg)(b:tT P w mg base)(a:sJ P w mg base):q0 P w mg base:=by
 refine D.oS ["house","place","goal","found"] λe nd H vs Q E h=>?_;obtain⟨v,m,ga,n,k,rfl,hv,o,g,p,q⟩:=h;refine⟨_,(ah (aw (i:=3) nd rfl oi (av a e (aa (pv 0) (aa (pv 1) (aa (pv 2) ae)))))
   (ah (ba (ik (kh (bT e) (pv 2) (pv 3)) (by with_unfolding_all rfl)) (aj (az hG)) aT)
   (aj (az (av b e (aa (pv 3) (aa (pv 2) ae))))))),?_⟩
 left;refine⟨v,m,ga,n,k,rfl,hv,o,g,λf H1 d j=>?_⟩;left;refine⟨f,_,rfl,cF.t j (k:=bc (0,((k:Nat):Int))) (d _ _ g),?_⟩;by_cases c:n=k
 .subst c;rw[rf];refine rd_exb (aC ?_);left;exact⟨f,ga,n,rfl,j,d _ _ g,λl H2 r s=>q rfl l H2 (d.trans r) s⟩
 .rw[tm c];refine rd_exb (aD ?_);left;exact p c H1 d
inductive AO(K:L8)(vs:List V)(H:Hp)(Q:VK)(E:XK):Prop|mk:∀v a ga n k,vs=[v,.ref a,.ref ga]->E2 H v->aJ H a (pN n)->aJ H ga (0,((k:Nat):Int))->n<=12->k<=12->(n≠k->∀H',Ext H H'->Q .non H')->(n=k->∀l H',Ext H H'->H' l=Vo (.lst [])->Q (.ref l) H')->AO K vs H Q E
abbrev tQ:Vl:=stq 74
abbrev qB:=λP w mg base=>Cal P w K mg base "shortest" 7 ["house","place","goal"] (AO K)
def IH(D:Dfn K mg "shortest" tQ ["house","place","goal"])(T:Blt mg)(c:q0 P w mg base)(a:kN P w mg base)(b:ip P w mg base):qB P w mg base:=by
 refine D.oS ["house","place","goal"] λg nd H vs Q E h=>?_;obtain⟨v,j,ga,n,k,rfl,hv,m,o,r,s,u,x⟩:=h;refine⟨_,(ah (bp (av b g (aa (pv 0) ae)))
   (ah (bp (av a g (aa (pv 0) (aa (aK (aa (pv 1) (aa (pv 2) ae))) ae))))
   (aj (az (av c g (aa (pv 0) (aa (pv 1) (aa (pv 2) ae)))))))),?_⟩
 left;refine⟨v,2,[],rfl,hv.hv,gM,λH1 z=>?_⟩;left;refine aE λl H2 A i _=>?_;left;have d:=z.trans A;obtain⟨p,t,rfl,q,B⟩:=hv.ext d;refine⟨p,_,2,l,[j,ga],[_,_],rfl,q,i,.cons (d _ _ m) (.cons (d _ _ o) .nil),?_,?_⟩
 .intro y f;rcases Mr.mp f with rfl|f
  .exact ji r
  .rw[Mo]at f;subst f;exact ji s
 left;exact⟨_,j,ga,n,k,rfl,⟨p,t,rfl,q,B⟩,d _ _ m,d _ _ o,λh H' e=>u h H' (d.trans e),λh l H' e i=>x h l H' (d.trans e) i⟩
structure Gd(b s:Int)(o a:List Int):Prop where
 ok:Ok b s o a
 b3:b<=3000
 s8:s<=840
def ud{lo hi x:Int}{r:List Int}:iJ lo hi (x::r)↔lo<=x/\x<hi/\iJ (x+1) hi r:=by
 constructor
 .rintro⟨h1,h2⟩;obtain⟨d,p2⟩:=R7.mp h1;have b:=h2 x Mj;exact⟨b.1,b.2,p2,λz a=>⟨by have:=d z a;omega,(h2 z (Mg _ a)).2⟩⟩
 .rintro⟨h1,h2,e,c⟩;refine⟨R7.mpr ⟨λz a=>by have:=c z a;omega,e⟩,λz a=>?_⟩;rcases Mr.mp a with rfl|a
  .exact⟨h1,h2⟩
  .have:=c z a;exact⟨by omega,this.2⟩
inductive vz(K:L8)(vs:List V)(H:Hp)(Q:VK)(E:XK):Prop|mk:∀(p:Vb) (lo hi:Int) (xs:List Int),vs=[.ref p,.int lo,.int hi]->H p=Vo (.tup (xs.map V.int))->iJ lo hi xs->Q (.bl true) H->vz K vs H Q E
abbrev uJ:Vl:=stq 17
abbrev AB:=λP w mg base=>Cal P w K mg base "is_rising_row" 2 ["thing","low","end"] (vz K)
def Er(D:Dfn K mg "is_rising_row" uJ ["thing","low","end"])(T:Blt mg)(a:j7 P w mg base):AB P w mg base:=by
 refine D.oS ["thing","low","end","lowest","number"] λg nd H vs Q E h=>?_;obtain⟨p,lo,hi,xs,rfl,c,d,q⟩:=h;refine⟨_,(ah (ba (cj (bF (aR f9 rfl T.isinstance_ Hd (aa (pv 0) (aa (fV (v:=.ty "tuple") rfl T.tuple_ NH rfl) ae))))) (aj (az bW)) aT)
   (ah (aw (i:=3) nd rfl oi (pv 1))
   (ah (bJ F2 rfl (fY K (pv 0)) (aI (i:=4) nd rfl oi) (ah (ba (PW.pt (cZ (cj (bF (av a g (aa (pv 4) ae)))) (cZ (aP fH (pv 4) (pv 3) (aN _)) (dQ (aP qT (pv 4) (pv 2) (aN _)))))) (aj (az bW)) aT)
   (aj (aw (i:=3) nd rfl oi (aB dz (pv 4) ag)))))
   (aj (az bW))))),?_⟩
 left;refine gg (n:="tuple") (.inr ⟨rfl,_,c⟩) (b:=true) rfl ?_;left;nofun;refine fW (ak.of c) ?_;refine rT (xs:=xs.map V.int) (λi σ H'=>H'=H/\∃lw w,σ=[Vo (.ref p),Vo (.int lo),Vo (.int hi),Vo (.int lw),w]/\iJ lw hi (xs.drop i))
  ⟨rfl,lo,Vp,rfl,d⟩ (λi σ H' _ h=>by rw[h.1];exact ak.of c) ?_ ?_
 .rintro i u σ H' j ⟨rfl,lw,w,rfl,e⟩;obtain⟨x,rfl,k⟩:=J5 j;have hd:xs.drop i=x::xs.drop (i+1):=by obtain⟨f,rfl⟩:=Mm.mp k;exact List.drop_eq_getElem_cons f
  rw[hd]at e;obtain⟨h1,h2,l⟩:=ud.mp e;left;refine⟨_,"int",rfl,rfl,?_⟩;left;nofun;rw[MZ (show ¬x<lw by omega)];nofun;rw[MZ (show ¬hi<=x by omega)];nofun;exact⟨rfl,_,_,rfl,l⟩
 .rintro σ H' ⟨rfl,lw,w,rfl,_⟩;left;exact q
inductive zm(K:L8)(vs:List V)(H:Hp)(Q:VK)(E:XK):Prop|mk:∀(b s:Int) (o a:List Int) (q r:Vb),vs=[.int b,.int s,.ref q,.ref r]->H q=Vo (.tup (o.map V.int))->H r=Vo (.tup (a.map V.int))->Ok b s o a->Q (.bl true) H->zm K vs H Q E
abbrev uG:Vl:=stq 18
abbrev Aa:=λP w mg base=>Cal P w K mg base "are_stair_places" 3 ["base","step","once","again"] (zm K)
def Hs(D:Dfn K mg "are_stair_places" uG ["base","step","once","again"])(T:Blt mg)(c:AB P w mg base)(d:j7 P w mg base):Aa P w mg base:=by
 refine D.oS ["base","step","once","again"] λe nd H vs Q E h=>?_;obtain⟨b,s',o,a,f,r,rfl,h2,g,hok,q⟩:=h;have hb:=hok.hb;have hs:=hok.hs;refine⟨_,(ah (ba (PW.pt (cZ (cj (bF (av d e (aa (pv 0) ae)))) (cZ (cj (bF (av d e (aa (pv 1) ae)))) (cZ (aP fH (pv 0) ag (aN _)) (dQ (aP fH (pv 1) ag (aN _))))))) (aj (az bW)) aT)
   (aj (az (fB (av c e (aa (pv 2) (aa ag (aa (pv 0) ae)))) (fG (av c e (aa (pv 3) (aa (pv 0) (aa (aB dz (pv 0) (pv 1)) ae))))))))),?_⟩
 left;refine⟨_,"int",rfl,rfl,?_⟩;left;nofun;refine⟨_,"int",rfl,rfl,?_⟩;left;nofun;rw[MZ (show ¬b<0 by omega)];nofun;rw[MZ (show ¬s'<1 by omega)];nofun;refine⟨f,_,_,o,rfl,h2,hok.ho,?_⟩;left;right;exact⟨r,_,_,a,rfl,g,hok.ha,q⟩
inductive zl(K:L8)(vs:List V)(H:Hp)(Q:VK)(E:XK):Prop|mk:∀v b s o a,vs=[v]->dI H v b s o a->Ok b s o a->Q (.bl true) H->zl K vs H Q E
abbrev v9:Vl:=stq 19
abbrev vo:=λP w mg base=>Cal P w K mg base "is_stair" 4 ["thing"] (zl K)
def Fh(D:Dfn K mg "is_stair" v9 ["thing"])(T:Blt mg)(c:Aa P w mg base):vo P w mg base:=by
 refine D.oS ["thing"] λd nd H vs Q E h=>?_;obtain⟨v,b,s',o,a,rfl,⟨p,e,r,rfl,h1,h2,f⟩,hok,q⟩:=h;refine⟨_,(ah (ba (PW.pt (cZ (cj (bF (aR f9 rfl T.isinstance_ Hd (aa (pv 0) (aa (fV (v:=.ty "tuple") rfl T.tuple_ NH rfl) ae))))) (dQ (aP iq (aR (cw K) rfl T.len_ L0 (aa (pv 0) ae)) ag (aN _))))) (aj (az bW)) aT)
   (aj (az (av c d (aa (ai (aA K) (pv 0) ag (λ_ _=>rfl)) (aa (ai (aA K) (pv 0) ag (λ_ _=>rfl)) (aa (ai (aA K) (pv 0) ag (λ_ _=>rfl)) (aa (ai (aA K) (pv 0) ag (λ_ _=>rfl)) ae)))))))),?_⟩
 left;refine gg (.inr ⟨rfl,_,h1⟩) rfl ?_;left;nofun;refine i7 (ak.of h1) ?_;left;nofun;refine aG (ak.of h1) rfl ?_;left;refine aG (ak.of h1) rfl ?_;left;refine aG (ak.of h1) rfl ?_;left;refine aG (ak.of h1) rfl ?_;left;exact⟨b,s',o,a,e,r,rfl,h2,f,hok,q⟩
inductive AW(K:L8)(vs:List V)(H:Hp)(Q:VK)(E:XK):Prop|mk:∀v b s o a,vs=[v]->dI H v b s o a->Ok b s o a->Q .non H->AW K vs H Q E
abbrev zA:Vl:=stq 20
abbrev xW:=λP w mg base=>Cal P w K mg base "refuse_no_stair" 5 ["thing"] (AW K)
def Lc(D:Dfn K mg "refuse_no_stair" zA ["thing"])(T:Blt mg)(c:vo P w mg base):xW P w mg base:=by refine D.oS ["thing"] λd nd H vs Q E h=>?_;obtain⟨v,b,s',o,a,rfl,hv,hok,q⟩:=h;refine⟨_,(aj (ba (cj (bF (av c d (aa (pv 0) ae)))) (aj iI) aT)),?_⟩;left;refine⟨v,b,s',o,a,rfl,hv,hok,?_⟩;left;exact aC q
inductive wJ(K:L8)(vs:List V)(H:Hp)(Q:VK)(E:XK):Prop|mk:∀v b s o a,vs=[v]->dI H v b s o a->b<=3000->s<=840->Q .non H->wJ K vs H Q E
abbrev yM:Vl:=stq 21
abbrev xw:=λP w mg base=>Cal P w K mg base "refuse_great_stair" 1 ["stair"] (wJ K)
def Lq(D:Dfn K mg "refuse_great_stair" yM ["stair"])(T:Blt mg)(c:∃t,mg "GREATEST_STEP" = Vo (.int 840 t))(d:∃t,mg "GREATEST_BASE" = Vo (.int 3000 t)):xw P w mg base:=by
 refine D.oS ["stair"] λj nd H vs Q E h=>?_;obtain⟨g,e⟩:=c;obtain⟨i,f⟩:=d;obtain⟨v,b,s',o,a,rfl,⟨p,k,r,rfl,h1,h2,l⟩,hb,hs,q⟩:=h;refine⟨_,(ah (ba (aP ja (ai (aA K) (pv 0) ag (λ_ _=>rfl)) (cH (v:=.int 3000) rfl f ⟨_,rfl⟩) (aN _)) (aj iI) aT)
   (aj (ba (aP ja (ai (aA K) (pv 0) ag (λ_ _=>rfl)) (cH (v:=.int 840) rfl e ⟨_,rfl⟩) (aN _)) (aj iI) aT))),?_⟩
 left;refine aG (ak.of h1) rfl ?_;left;rw[MZ (show ¬3000<b by omega)];nofun;refine aG (ak.of h1) rfl ?_;left;rw[MZ (show ¬840<s' by omega)];exact aC q
inductive zR(K:L8)(vs:List V)(H:Hp)(Q:VK)(E:XK):Prop|mk:∀v b s o a,vs=[v]->dI H v b s o a->Gd b s o a->Q .non H->zR K vs H Q E
abbrev AN:Vl:=stq 22
abbrev rH:=λP w mg base=>Cal P w K mg base "refuse_bad_stair" 6 ["thing"] (zR K)
def Jh(D:Dfn K mg "refuse_bad_stair" AN ["thing"])(T:Blt mg)(c:xw P w mg base)(d:xW P w mg base):rH P w mg base:=by
 refine D.oS ["thing"] λf nd H vs Q E h=>?_;obtain⟨v,b,s',o,a,rfl,hv,e,q⟩:=h;refine⟨_,(ah (bp (av d f (aa (pv 0) ae)))
   (aj (bp (av c f (aa (pv 0) ae))))),?_⟩
 left;refine⟨v,b,s',o,a,rfl,hv,e.ok,?_⟩;left;exact⟨v,b,s',o,a,rfl,hv,e.b3,e.s8,q⟩
def pO(x)(xs:List Int):jW (.int x) (xs.map V.int)=xs.contains x:=by
 unfold jW;rw[SO,ML,MK,Py];constructor
 .rintro⟨y,a,e⟩;have b:(y == x)=true:=e;rw[<-(by simpa using b:y=x)];exact a
 .intro c;exact⟨x,c,by show(x == x)=true;simp⟩
def oP(xs:List Int):(xs.map V.int).all fJ=true:=by rw[List.all_map,MJ];intro x _;rfl
inductive Cc(K:L8)(vs:List V)(H:Hp)(Q:VK)(E:XK):Prop|mk:∀v x b s o a,vs=[v,.int x]->dI H v b s o a->Gd b s o a->Q (.bl (mem b s o a x)) H->Cc K vs H Q E
abbrev xI:Vl:=stq 25
abbrev yz:=λP w mg base=>Cal P w K mg base "holds" 7 ["stair","x"] (Cc K)
def F5(D:Dfn K mg "holds" xI ["stair","x"])(T:Blt mg)(c:rH P w mg base):yz P w mg base:=by
 refine D.oS ["stair","x","base"] λf nd H vs Q E h=>?_;obtain⟨v,x,b,s',o,a,rfl,hv,e,q⟩:=h;have hs:=e.ok.hs;refine⟨_,(ah (bp (av c f (aa (pv 0) ae)))
   (ah (aw (i:=2) nd rfl oi (ai (aA K) (pv 0) ag (λ_ _=>rfl)))
   (ah (ba (aP fH (pv 1) (pv 2) (aN _)) (aj (az (gq (oC K) (pv 1) (ai (aA K) (pv 0) ag (λ_ _=>rfl)) (by with_unfolding_all rfl)))) aT)
   (aj (az (gq (oC K) (aB dz (pv 2) (aB gj (aB hJ (pv 1) (pv 2)) (ai (aA K) (pv 0) ag (λ_ _=>rfl)))) (ai (aA K) (pv 0) ag (λ_ _=>rfl)) (by with_unfolding_all rfl))))))),?_⟩
 left;refine⟨v,b,s',o,a,rfl,hv,e,?_⟩;obtain⟨p,j,r,rfl,h1,h2,g⟩:=hv;left;refine aG (ak.of h1) rfl ?_;left;by_cases d:x<b
 .rw[M0 d];right;refine aG (ak.of h1) rfl ?_;left;refine rS (.inr (ak.of h2)) rfl (oP o) ?_;rw[Eb _ d]at q;rw[pO];exact q
 .rw[MZ d];nofun;refine aG (ak.of h1) rfl ?_;left;refine aG (ak.of h1) rfl ?_;left;refine rS (.inr (ak.of g)) rfl (oP a) ?_;rw[BX _ (by omega)]at q;rw[pO];exact q
def n8(b:n<=12)(r):Gd (bN n r:Nat) 1 (oN n r) []:=by
 refine⟨⟨by omega,by decide,?_,⟨.nil,λx h=>(nomatch h)⟩⟩,?_,by decide⟩
 .unfold oN bN;by_cases h:r=0
  .rw[M3 h,M3 h];refine⟨List.pairwise_singleton _ _,λx a=>?_⟩;rw[Mo.mp a];constructor<;>omega
  .rw[M1 h,M1 h];exact⟨.nil,λx h=>(nomatch h)⟩
 .unfold bN;split<;>omega
def Ke{r:Nat}:bN n r<=n+1:=by unfold bN;split<;>omega
inductive vT(K:L8)(vs:List V)(H:Hp)(Q:VK)(E:XK):Prop|mk:∀a b n l xs,vs=[a,.ref b,.ref l]->E2 H a->aJ H b (pN n)->n<=12->H l=Vo (.lst xs)->xs.length=2->(∀(r:Nat) (v:V),xs[r]?=Vo v->dI H v (bN n r:Nat) 1 (oN n r) [])->(∀gl H',Ext H H'->H' gl=Vo (.lst [])->Q (.ref gl) H')->vT K vs H Q E
abbrev yb:Vl:=stq 78
abbrev BC:=λP w mg base=>Cal P w K mg base "unbounded_goals" 8 ["house","place","stairs"] (vT K)
def Iy(D:Dfn K mg "unbounded_goals" yb ["house","place","stairs"])(T:Blt mg)(a:yz P w mg base):BC P w mg base:=by
 refine D.oS ["house","place","stairs","number"] λj nd H vs Q E h=>?_;obtain⟨x,y,n,l,xs,rfl,⟨z,A,rfl,k1,k2⟩,c,k,f,m,hst,q⟩:=h;refine⟨_,(@ah _ _ _ _ _ (@aw _ _ 3 _ _ _ _ nd rfl oj (aB dz (@ai _ _ _ _ _ _ _ (aA K) (pv 1) ag (λ_ _=>rfl)) (@ai _ _ _ _ _ _ _ (aA K) (pv 0) ag (λ_ _=>rfl))) rfl oi)
   (@aj _ _ _ (@az _ _ _ _ (bM ["room","stair"] [3] (vK K rfl T.enumerate_ (au (pv 2) ae rfl)) (λ_=>(eZ (n:=2) K rfl (bY (aI (i:=0) (show(["room","stair","number"]:List Vn).Nodup from by decide +kernel) rfl oi oj) (bY (aI (i:=1) (show(["room","stair","number"]:List Vn).Nodup from by decide +kernel) rfl oi oj) eJ)))) (λ_=>(dC (bF (av a j (au (pv 1) (au (pv 2) ae rfl) rfl))))) (λ_=>(@aX _ _ _ _ _ (au (pv 0) (au (pv 2) ae rfl) rfl))))))),?_⟩
 left;refine aG (ak.of c) rfl ?_;left;refine aG (ak.of k1) rfl ?_;left;refine Cy ?_;left;refine BW (af.of f) ?_;refine BF (xs:=xs) (λi ys H'=>Ext H H'/\ys=[]) (aS (by omega)) ⟨Ext.rfl' _,rfl⟩ (λi ys H' h=>⟨af.of (h.1 _ _ f),by rw[h.2];exact LI _⟩) ?_ ?_
 .rintro i u ys H2 pp B o ⟨b,rfl⟩ g d _;refine gL (ak.of d) rfl ?_;left;refine⟨u,_,_,_,_,_,rfl,(hst i u o).ext (b.trans g),n8 k i,_,rfl,?_⟩;have p:mem (bN n i:Nat) 1 (oN n i) [] (((n:Nat):Int)+2)=false:=by rw[BX _ (by have:=Ke (n:=n) (r:=i);omega)];rfl
  rw[p];exact aC ⟨b.trans g,rfl⟩
 .rintro ys H2 s ⟨b,rfl⟩ e;exact q s _ (b.trans (aO e)) ay
inductive Bc(K:L8)(vs:List V)(H:Hp)(Q:VK)(E:XK):Prop|mk:∀a b n,vs=[a,.ref b]->E2 H a->aJ H b (pN n)->n<=12->dU K->Tbs K H->(∀t u H',Et H H'->Tbs K H'->H' t=Vo (.tup [.str "most",.int (n:Nat),u])->Q (.ref t) H')->Bc K vs H Q E
abbrev tZ:Vl:=stq 79
abbrev rX:=λP w mg base=>Cal P w K mg base "greatest" 11 ["house","place"] (Bc K)
def JJ(D:Dfn K mg "greatest" tZ ["house","place"])(T:Blt mg)(b:q0 P w mg base)(a:BC P w mg base)(c:ma P w mg base):rX P w mg base:=by
 refine D.oS ["house","place","stairs","goals","number","rooms"] λI nd H vs Q E h=>?_;obtain⟨J,m,n,rfl,hv,r,hn,L,O,q⟩:=h;refine⟨_,(@ah _ _ _ _ _ (@aw _ _ 2 _ _ _ _ nd rfl oi (av c I (au (pv 0) (au (pv 1) ae rfl) rfl)) rfl oi)
   (@ah _ _ _ _ _ (@aw _ _ 3 _ _ _ _ nd rfl oi (av a I (au (pv 0) (au (pv 1) (au (pv 2) ae rfl) rfl) rfl)) rfl oi)
   (@ah _ _ _ _ _ (@ba _ _ _ _ _ _ _ _ (jt K (pv 3) (λ_=>rfl)) (@aj _ _ _ (@az _ _ _ _ gD)) aT)
   (@ah _ _ _ _ _ (@aw _ _ 4 _ _ _ _ nd rfl oj (aR (HY K rfl) rfl T.max_ OQ (au (bM ["stair"] [] (bG K (pv 2)) (λ_=>(aI (i:=0) (show(["stair"]:List Vn).Nodup from by decide +kernel) rfl oi oj)) (λ_=>(dC (jt K (@ai _ _ _ _ _ _ _ (aA K) (pv 0) ag (λ_ _=>rfl)) (λ_=>rfl)))) (λ_=>(aR (GA K rfl) rfl T.max_ OQ (au (@ai _ _ _ _ _ _ _ (aA K) (pv 0) ag (λ_ _=>rfl)) ae rfl)))) ae rfl)) rfl oi)
   (@ah _ _ _ _ _ (fL (i:=5) ["room","stair"] [4] nd rfl oi (vK K rfl T.enumerate_ (au (pv 2) ae rfl)) (λ_=>(eZ (n:=2) K rfl (bY (aI (i:=0) (show(["room","stair","number"]:List Vn).Nodup from by decide +kernel) rfl oi oj) (bY (aI (i:=1) (show(["room","stair","number"]:List Vn).Nodup from by decide +kernel) rfl oi oj) eJ)))) (λ_=>(dC (aP (oC K) (pv 2) (@ai _ _ _ _ _ _ _ (aA K) (pv 1) ag (λ_ _=>rfl)) (by with_unfolding_all rfl)))) (λ_=>(pv 0)))
   (@aj _ _ _ (@az _ _ _ _ (@aX _ _ _ _ _ (au ao (au (pv 4) (au (av b I (au (pv 0) (au (pv 1) (au (@aX _ _ _ _ _ (au (@ai _ _ _ _ _ _ _ (aF K) (pv 5) ag (λ_ _=>rfl)) (au (pv 4) ae rfl) rfl)) ae rfl) rfl) rfl)) ae rfl) rfl) rfl))))))))),?_⟩
 left;refine⟨J,m,n,rfl,hv,r,hn,L,O,λl xs H1 R S hl f hst=>?_⟩;have s:=hv.et R;have x:aJ H1 m (pN n):=R _ _ r (λps z=>by cases z);left;refine⟨J,m,n,l,xs,rfl,s,x,hn,hl,f,hst,λgl H2 d U=>?_⟩;left;have W:=s.ext d;have X:aJ H2 m (pN n):=d _ _ x;refine⟨false,.inl ⟨_,af.of U,rfl⟩,aC ?_⟩;have g:=d _ _ hl;left;refine bI (af.of g) ?_;refine fb (xs:=xs) (λi ys H'=>H'=H2/\ys=if i=0 then[]else[.int ((n:Nat):Int)]) (aS (by omega)) ⟨rfl,rfl⟩ (λi ys H' hi h=>⟨by rw[h.1];exact af.of g,by rw[h.2];split<;>simp<;>omega⟩) ?_ ?_
 .rintro i u ys Y Z ⟨rfl,rfl⟩;obtain⟨p,C,ra,rfl,h1,h2,h3⟩:=hst i u Z;left;refine aG (ak.of (d _ _ h1)) (v:=.ref C) rfl ?_;by_cases hi:i=0
  .subst hi;refine⟨true,.inr (.inl ⟨_,ak.of (d _ _ h2),rfl⟩),aD ?_⟩;left;refine aG (ak.of (d _ _ h1)) (v:=.ref C) rfl ?_;left;refine IP (ak.of (d _ _ h2)) (by simp[oN]) λM hM a6=>?_;have:M=((n:Nat):Int):=by simpa[oN]using hM
   subst this;exact⟨rfl,rfl⟩
  .refine⟨false,.inr (.inl ⟨_,ak.of (d _ _ h2),by unfold oN;rw[M1 hi];rfl⟩),aC ?_⟩;refine⟨rfl,?_⟩;rw[M1 hi,M1 (OI i)]
 rintro ys Y F ⟨rfl,rfl⟩ a0;rw[f,M1 (by decide)];have G:=aO (o:=.lst [.int ((n:Nat):Int)]) a0;have h9:(upd Y F (.lst [.int ((n:Nat):Int)])) F=Vo (.lst ([((n:Nat):Int)].map V.int)):=ay;generalize upd Y F (.lst [.int ((n:Nat):Int)])=H4 at G h9 ⊢;left;refine⟨F,_,rfl,af.of h9,by simp,λN a1 a2=>?_⟩;obtain rfl:N=((n:Nat):Int):=by simpa using a1
 have y:=G _ _ g;left;refine Cy ?_;left;refine BW (af.of y) ?_;refine BF (xs:=xs) (λi ys H'=>Ext H4 H'/\ys=if i=0 then[]else[.int 0]) (aS (by omega)) ⟨Ext.rfl' _,rfl⟩ (λi ys H' h=>⟨af.of (h.1 _ _ y),by rw[h.2];split<;>simp<;>omega⟩) ?_ ?_
 .rintro i u ys H5 pp H6 Z ⟨A,rfl⟩ k a3 _;obtain⟨p,C,ra,rfl,h1,h2,h3⟩:=hst i u Z;have B:=d.trans (G.trans (A.trans k));refine gL (ak.of a3) rfl ?_;left;refine aG (ak.of (B _ _ h1)) (v:=.ref C) rfl ?_;left;refine rS (.inr (ak.of (B _ _ h2))) rfl (oP _) ?_;rw[pO];by_cases hi:i=0
  .subst hi;rw[show (oN n 0).contains ((n:Nat):Int)=true by simp[oN]];refine rd_exb (aD ?_);left;exact⟨A.trans k,rfl⟩
  .rw[show (oN n i).contains ((n:Nat):Int)=false by unfold oN;rw[M1 hi];rfl];refine rd_exb (aC ?_);refine⟨A.trans k,?_⟩;rw[M1 hi,M1 (OI i)]
 rintro ys H5 p8 ⟨A,rfl⟩ a4;rw[f,M1 (by decide)];have k:=A.trans (aO (o:=.lst [.int 0]) a4);have h8:(upd H5 p8 (.lst [.int 0])) p8=Vo (.lst [.int 0]):=ay;generalize upd H5 p8 (.lst [.int 0])=H6 at k h8 ⊢;left;refine aH (af.of h8) (v:=.int 0) (aM (j:=0) rfl) ?_;left;refine aE λga H7 e7 a5 _=>?_;have e:=G.trans (k.trans e7);left;refine⟨J,m,ga,n,n,rfl,W.ext e,e _ _ X,a5,λh=>absurd rfl h,λ_ wl H8 e8 a7=>?_⟩;left;refine aE λt H9 e9 ht _=>?_;exact q t _ H9 (R.trans (d.trans (e.trans (e8.trans e9))).et) (S.ext (d.trans (e.trans (e8.trans e9)))) ht
def Kx(f:Vb)(H H':Hp):Prop:=∀b o,b≠f->H b=Vo o->H' b=Vo o
def Kx.ext{f:Vb}(h:Kx f H H')(e:Ext H' H2):Kx f H H2:=λb o nb z=>e _ _ (h b o nb z)
def Kx.put{f c:Vb}{o:HO}(h:Kx f H H')(a:H c=Vp):Kx f H (upd H' c o):=λb o' nb z=>by rw[aq (λe=>by rw[e,a]at z;cases z)];exact h b o' nb z
def Kx.at{f:Vb}{o:HO}(h:Kx f H H'):Kx f H (upd H' f o):=λb o' nb z=>by rw[aq nb];exact h b o' nb z
theorem Kx.none{f c:Vb}{H H':Hp}(h:Kx f H H')(n:c≠f)(a:H' c=Vp):H c=Vp:=by
 cases w:H c with
 | none=>rfl
 | some o=>rw[h _ _ n w]at a;cases a
def aY(n:Nat)(a:Vb):List (List Key×V):=[(bc (pN n),.ref a)]
def hV(n:Nat):List (List Key×V):=[(bc (pN n),.int 0)]
def km:aZ (aY n a) (bc (pN n))=Vo (.ref a):=cQ rfl
def qp:aZ (hV n) (bc (pN n))=Vo (.int 0):=cQ rfl
def nV:putK [] (bc (pN n)) v=[(bc (pN n),v)]:=Ip _ rfl
inductive sP(K:L8)(vs:List V)(H:Hp)(Q:VK)(E:XK):Prop|mk:∀v a n,vs=[v,.ref a]->E2 H v->aJ H a (pN n)->(∀f l H',Ext H H'->H f=Vp->H' f=Vo (.dT (aY n l))->H' l=Vo (.lst [])->Q (.ref f) H')->sP K vs H Q E
def pS(H1:Hp)(n:Nat)(f rw:Vb)(H:Hp):Prop:=∃l,Ext H1 H/\H f=Vo (.dT (aY n l))/\H l=Vo (.lst [])/\H rw=Vo (.lst [])
abbrev AM:Vl:=stq 81
abbrev yn:=λP w mg base=>Cal P w K mg base "steps_by_place" 2 ["house","place"] (sP K)
def KS(D:Dfn K mg "steps_by_place" AM ["house","place"])(T:Blt mg)(a:pL P w mg base):yn P w mg base:=by
 refine D.oS ["house","place","ways","counts","steps","row","here","gone"] λhr nd H vs Q E h=>?_;obtain⟨v,B,n,rfl,hv,hx,q⟩:=h;obtain⟨hh,t,rfl,g1,g2⟩:=id hv;refine⟨_,(@ah _ _ _ _ _ (@aw _ _ 2 _ _ _ _ nd rfl oj (@ai _ _ _ _ _ _ _ (aA K) (pv 0) ag (λ_ _=>rfl)) rfl oi)
   (@ah _ _ _ _ _ (@aw _ _ 3 _ _ _ _ nd rfl oi (av a hr (au (pv 0) ae rfl)) rfl oi)
   (@ah _ _ _ _ _ (@aw _ _ 4 _ _ _ _ nd rfl oi lH rfl oi)
   (@ah _ _ _ _ _ (@aw _ _ 5 _ _ _ _ nd rfl oi (@aK _ _ _ _ (au (pv 1) ae rfl)) rfl oi)
   (@ah _ _ _ _ _ (gH F2 (jt K (pv 5) (λ_=>rfl)) (@ah _ _ _ _ _ (@aw _ _ 6 _ _ _ _ nd rfl oj (mx K Ml Oz O0 lU (pv 5)) rfl oi)
   (@aj _ _ _ (fq (ik (kh (bT hr) (pv 6) (pv 4)) (by with_unfolding_all rfl)) (@ah _ _ _ _ _ (fL (i:=7) ["count"] [2,6] nd rfl oi (bG K (@ai _ _ _ _ _ _ _ (aF K) (pv 3) (@ai _ _ _ _ _ _ _ (aA K) (pv 6) ag (λ_ _=>rfl)) (λ_ _=>rfl))) (λ_=>(aI (i:=0) (show(["count","ways","here"]:List Vn).Nodup from by decide +kernel) rfl oi oj)) (λ_=>(dC om)) (λ_=>(pv 0)))
   (@ah _ _ _ _ _ (i3 (bT hr) (pv 4) (pv 6) (bM ["count"] [2,6] (bG K (pv 7)) (λ_=>(aI (i:=0) (show(["count","ways","here"]:List Vn).Nodup from by decide +kernel) rfl oi oj)) (λ_=>ck) (λ_=>(@aX _ _ _ _ _ (au (pv 0) (au gD ae rfl) rfl)))) rfl)
   (@aj _ _ _ (bp (cx K Ml Q1 Q2 zX (pv 5) (au (bM ["count","there"] [] (bG K (ef (bT hr) (pv 4) (pv 6) (λ_ _=>rfl))) (λ_=>(eZ (n:=2) K rfl (bY (aI (i:=0) (show(["count","there"]:List Vn).Nodup from by decide +kernel) rfl oi oj) (bY (aI (i:=1) (show(["count","there"]:List Vn).Nodup from by decide +kernel) rfl oi oj) eJ)))) (λ_=>ck) (λ_=>(pv 1))) ae rfl)))))) aT))))
   (@aj _ _ _ (@az _ _ _ _ (pv 4)))))))),?_⟩
 left;refine aG (ak.of g1) (v:=.ref t) rfl ?_;left;refine⟨_,rfl,hv,λc H1 e1 ct=>?_⟩;left;refine λf hfn=>?_;left;refine aE λrw H3 e3 d R=>?_;left;have m:Ext H1 H3:=(aO hfn).trans e3;have p:H3 f=Vo (.dT []):=e3 _ _ ay;have y:H1 rw=Vp:=(aO hfn).none R;have S:=m _ _ (e1 _ _ hx);have a6:=ct.ext m;clear e3 R;refine gC (λM σ H'=>∃k1 k2,(M=1/\H'=H3\/M=0/\pS H1 n f rw H')/\σ=[Vo (.ref hh),Vo (.ref B),Vo (.ref t),Vo (.ref c),Vo (.ref f),Vo (.ref rw),k1,k2]) (λσ H'=>∃k1 k2,pS H1 n f rw H'/\σ=[Vo (.ref hh),Vo (.ref B),Vo (.ref t),Vo (.ref c),Vo (.ref f),Vo (.ref rw),k1,k2]) 1 ⟨_,_,.inl ⟨rfl,rfl⟩,rfl⟩ ?_ ?_
 .rintro M σ C ⟨k1,k2,⟨rfl,rfl⟩|⟨rfl,A⟩,rfl⟩
  rotate_left
  .obtain⟨l,e4,h1,h2,h3⟩:=id A;left;refine⟨false,.inl ⟨_,af.of h3,rfl⟩,?_⟩;exact aC ⟨_,_,A,rfl⟩
  left;refine⟨true,.inl ⟨_,af.of d,rfl⟩,?_⟩;refine aD ?_;refine⟨λU H'=>∃k1 k2,pS H1 n f rw H'/\U=[Vo (.ref hh),Vo (.ref B),Vo (.ref t),Vo (.ref c),Vo (.ref f),Vo (.ref rw),k1,k2],λU H' ⟨k1,k2,a1,a2⟩=>⟨0,by decide,k1,k2,.inr ⟨rfl,a1⟩,a2⟩,?_⟩;left;refine⟨dR (af.of d),?_⟩;left;refine⟨rw,_,.ref B,rfl,rfl,d,rfl,?_⟩;rw[show ([V.ref B]:List V).dropLast=[]from rfl];have G:f≠rw:=λe=>by rw[e,d]at p;cases p
  have s:upd C rw (.lst []) f=Vo (.dT []):=by rw[aq G];exact p
  have I:upd C rw (.lst []) rw=Vo (.lst []):=ay;have u:aJ (upd C rw (.lst [])) B (pN n):=aJ.put d (λxs z=>by cases z) S;have e5:Ext H1 (upd C rw (.lst [])):=gF m y;have W:=ct.ext e5;generalize upd C rw (.lst [])=H5 at s I u e5 W ⊢;clear d p S a6 m;left;refine mG ?_;left;refine⟨f,_,rfl,cF.t s (k:=bc (pN n)) u,?_⟩;rw[show aZ [] (bc (pN n))=Vp from rfl];refine rd_exb (aD ?_);obtain⟨xs,hc,r,a7,X⟩:=W;left;refine aG (ak.of u) (v:=.int 0) rfl ?_;left;refine aH (af.of hc) (v:=.ref r) (aM (j:=0) a7) ?_;left;refine bI (af.of X) ?_;refine jm (af.of X) λp6 a8=>?_;have e7:=aO (o:=.lst []) a8;have J:upd H5 p6 (.lst []) p6=Vo (.lst []):=ay;generalize upd H5 p6 (.lst [])=H7 at e7 J ⊢;left;refine bI (af.of J) ?_;refine jm (af.of J) λb g=>?_;have Y:=e7.trans (aO (o:=.lst []) g);have Z:upd H7 b (.lst []) b=Vo (.lst []):=ay;generalize upd H7 b (.lst [])=O at Y Z ⊢;have a0:=Y _ _ s;have a3:=Y _ _ u;have a9:b≠rw:=λe=>by rw[e,e7 _ _ I]at g;cases g
  have ab:b≠f:=λe=>by rw[e,e7 _ _ s]at g;cases g
  left;refine⟨f,_,rfl,gQ.t a0 (k:=bc (pN n)) a3 (kS (by simp)),?_⟩;rw[nV];have L:upd O f (.dT [(bc (pN n),.ref b)]) f=Vo (.dT (aY n b)):=ay;have x:upd O f (.dT [(bc (pN n),.ref b)]) b=Vo (.lst []):=by rw[aq ab];exact Z
  have N:upd O f (.dT [(bc (pN n),.ref b)]) rw=Vo (.lst []):=by rw[aq G.symm];exact Y _ _ I
  have a4:aJ (upd O f (.dT [(bc (pN n),.ref b)])) B (pN n):=aJ.put a0 (λxs z=>by cases z) a3;have eA:Ext H1 (upd O f (.dT [(bc (pN n),.ref b)])):=gF (e5.trans Y) hfn;generalize upd O f (.dT [(bc (pN n),.ref b)])=HA at L x N a4 eA ⊢;left;refine⟨dR (af.of N),?_⟩;left;refine⟨f,.ref b,rfl,by have:=cF.t L (k:=bc (pN n)) a4;rw[km]at this;exact this,?_⟩;refine bI (af.of x) ?_;refine jm (af.of x) λp9 ac=>?_;have eB:=aO (o:=.lst []) ac;have a5:upd HA p9 (.lst []) p9=Vo (.lst []):=ay;generalize upd HA p9 (.lst [])=HC at eB a5 ⊢;left;refine⟨rw,p9,_,_,rfl,rfl,eB _ _ N,a5,dN (by simp),?_⟩;refine⟨_,_,⟨b,gF (eA.trans eB) y,by rw[aq G];exact eB _ _ L,by rw[aq a9];exact eB _ _ x,ay⟩,rfl⟩
 .rintro σ C ⟨k1,k2,⟨l,e4,h1,h2,_⟩,rfl⟩;left;refine q f l C (e1.trans e4) ?_ h1 h2;exact e1.none hfn
inductive Ae(K:L8)(vs:List V)(H:Hp)(Q:VK)(E:XK):Prop|mk:∀f n l,vs=[.ref f]->H f=Vo (.dT (aY n l))->H l=Vo (.lst [])->(∀g a od H',Kx f H H'->H' f=Vo (.frz od (.dT (aY n l)))->H' g=Vo (.dT (aY n a))->H' a=Vo (.lst [])->Q (.ref g) H')->Ae K vs H Q E
abbrev BB:Vl:=stq 82
abbrev xi:=λP w mg base=>Cal P w K mg base "places_ahead" 1 ["steps"] (Ae K)
def JA(D:Dfn K mg "places_ahead" BB ["steps"])(T:Blt mg):xi P w mg base:=by
 refine D.oS ["steps","ahead","here","count","there"] λG nd H vs Q E h=>?_;obtain⟨f,n,l,rfl,C,I,q⟩:=h;have J:l≠f:=λe=>by rw[e,C]at I;cases I
 refine⟨_,(@ah _ _ _ _ _ (@aw _ _ 1 _ _ _ _ nd rfl oi lH rfl oi)
   (@ah _ _ _ _ _ (bJ F2 rfl (mf (pv 0)) (aI (i:=2) nd rfl oi) (@aj _ _ _ (i3 (bT G) (pv 1) (pv 2) (@aK _ _ _ _ ae) rfl)))
   (@ah _ _ _ _ _ (bJ F2 rfl (mf (pv 0)) (aI (i:=2) nd rfl oi) (@aj _ _ _ (bJ F2 rfl (bG K (ef (bT G) (pv 0) (pv 2) (λ_ _=>rfl))) (eZ K rfl (bY (aI (i:=3) nd rfl oi) (bY (aI (i:=4) nd rfl oi) eJ))) (@aj _ _ _ (bp (cx K Ml Mx Mz dY (ef (bT G) (pv 1) (pv 4) (λ_ _=>rfl)) (au (pv 2) ae rfl)))))))
   (@aj _ _ _ (@az _ _ _ _ (pv 1)))))),?_⟩
 left;refine λg p=>?_;left;have m:f≠g:=λe=>by rw[e,p]at C;cases C
 have r:upd H g (.dT []) f=Vo (.dT (aY n l)):=by rw[aq m];exact C
 refine⟨f,aY n l,rfl,.inl r,λod bs L=>?_⟩;obtain⟨b,rfl,o⟩:∃b,bs=[b]/\upd H g (.dT []) b=Vo (.tup [.int 0,.int ((n:Nat):Int)]):=by
  cases L with
  | cons h t=>cases t;exact⟨_,rfl,h⟩
 have d:aJ (upd (upd H g (.dT [])) f (.frz od (.dT (aY n l)))) b (pN n):=aJ.put r (λxs z=>by cases z) o;have k0:Kx f H (upd (upd H g (.dT [])) f (.frz od (.dT (aY n l)))):=Kx.at (Kx.put (λ_ _ _ z=>z) p);have X:upd (upd H g (.dT [])) f (.frz od (.dT (aY n l))) f=Vo (.frz od (.dT (aY n l))):=ay;have Y:upd (upd H g (.dT [])) f (.frz od (.dT (aY n l))) g=Vo (.dT []):=by rw[aq m.symm];exact ay
 generalize upd (upd H g (.dT [])) f (.frz od (.dT (aY n l)))=H1 at d k0 X Y ⊢;clear o r;refine o8 (λi σ H'=>∃k1,σ=[Vo (.ref f),Vo (.ref g),k1,Vp,Vp]/\Kx f H H'/\H' f=Vo (.frz od (.dT (aY n l)))/\aJ H' b (pN n)/\(i=0->H' g=Vo (.dT []))/\(0<i->∃a,H' g=Vo (.dT (aY n a))/\H' a=Vo (.lst []))) ⟨_,rfl,k0,X,d,λ_=>Y,λh=>absurd h (ND _)⟩ (λi σ H' h=>by obtain⟨_,_,_,h,_⟩:=h;exact h) ?_ ?_
 .rintro i M σ H2 hb ⟨k1,rfl,N,j,s,Z,_⟩;cases i with
  | succ i=>simp at hb
  | zero=>
   cases hb;left;refine aE λa H3 v ha x=>?_;left;have y:=v _ _ (Z rfl);have O:a≠g:=λe=>by rw[e,Z rfl]at x;cases x
   refine⟨g,_,rfl,gQ.t y (k:=bc (pN n)) (v _ _ s) (kS (by simp)),?_⟩;rw[nV];refine⟨_,rfl,(N.ext v).put p,by rw[aq m];exact v _ _ j,aJ.put y (λxs z=>by cases z) (v _ _ s),λh=>absurd h (OI 0),λ_=>⟨a,ay,by rw[aq O];exact ha⟩⟩
 rintro σ H2 ⟨k1,rfl,N,j,s,_,h1⟩;obtain⟨a,R,u⟩:=h1 (Pt 0);left;refine⟨f,aY n l,rfl,.inr ⟨od,j⟩,λc S A=>?_⟩;obtain⟨M,rfl,o⟩:∃b,S=[b]/\H2 b=Vo (.tup [.int 0,.int ((n:Nat):Int)]):=by
  cases A with
  | cons h t=>cases t;exact⟨_,rfl,h⟩
 have U:a≠f:=λe=>by rw[e,j]at u;cases u
 have d:aJ (upd H2 f (.frz c (.dT (aY n l)))) M (pN n):=aJ.put j (λxs z=>by cases z) o;have k3:Kx f H (upd H2 f (.frz c (.dT (aY n l)))):=N.at;have F:upd H2 f (.frz c (.dT (aY n l))) f=Vo (.frz c (.dT (aY n l))):=ay;have g3:upd H2 f (.frz c (.dT (aY n l))) g=Vo (.dT (aY n a)):=by rw[aq m.symm];exact R
 have a3:upd H2 f (.frz c (.dT (aY n l))) a=Vo (.lst []):=by rw[aq U];exact u
 generalize upd H2 f (.frz c (.dT (aY n l)))=H3 at d k3 F g3 a3 ⊢;refine o8 (λi σ H'=>H'=H3/\∃k1 k2 k3,σ=[Vo (.ref f),Vo (.ref g),k1,k2,k3]) ⟨rfl,_,_,_,rfl⟩ (λi σ H' h=>by rw[h.1];exact F) ?_ ?_
 .rintro i b2 σ H4 hb ⟨rfl,k1,k2,W,rfl⟩;cases i with
  | succ i=>simp at hb
  | zero=>
   cases hb;have B:=k3 _ _ J I;left;refine⟨f,.ref l,rfl,.inr ⟨aY n l,bc (pN n),M,.inr ⟨c,F⟩,rfl,d,km.symm⟩,?_⟩;refine bI (af.of B) ?_;refine kD (af.of B) ?_;exact⟨rfl,_,_,_,rfl⟩
 rintro σ H4 ⟨rfl,k1,k2,W,rfl⟩;left;exact q g a c _ k3 F g3 a3
inductive tV(K:L8)(vs:List V)(H:Hp)(Q:VK)(E:XK):Prop|mk:∀f n l,vs=[.ref f]->H f=Vo (.dT (aY n l))->H l=Vo (.lst [])->(∀a H',Kx f H H'->H' a=Vo (.dT (hV n))->Q (.ref a) H')->tV K vs H Q E
abbrev sN:Vl:=stq 83
abbrev zZ:=λP w mg base=>Cal P w K mg base "known_ranks" 2 ["steps"] (tV K)
def IT(D:Dfn K mg "known_ranks" sN ["steps"])(T:Blt mg)(d:xi P w mg base):zZ P w mg base:=by
 refine D.oS ["steps","ahead","waits","here","known","row","before"] λv nd H vs Q E h=>?_;obtain⟨f,n,l,rfl,hf,hl,q⟩:=h;have L:l≠f:=λe=>by rw[e,hf]at hl;cases hl
 refine⟨_,(@ah _ _ _ _ _ (@aw _ _ 1 _ _ _ _ nd rfl oi (av d v (au (pv 0) ae rfl)) rfl oi)
   (@ah _ _ _ _ _ (@aw _ _ 2 _ _ _ _ nd rfl oj lH rfl oi)
   (@ah _ _ _ _ _ (bJ F2 rfl (mf (pv 0)) (aI (i:=3) nd rfl oi) (@aj _ _ _ (i3 (bT v) (pv 2) (pv 3) (aR (cw K) rfl T.len_ L0 (au (ef (bT v) (pv 0) (pv 3) (λ_ _=>rfl)) ae rfl)) rfl)))
   (@ah _ _ _ _ _ (@aw _ _ 4 _ _ _ _ nd rfl oj lH rfl oi)
   (@ah _ _ _ _ _ (fL (i:=5) ["here"] [2] nd rfl oi (mf (pv 0)) (λ_=>(aI (i:=0) (show(["here","waits"]:List Vn).Nodup from by decide +kernel) rfl oi oj)) (λ_=>(dC (aP cM (ef (bT v) (pv 1) (pv 0) (λ_ _=>rfl)) ag (aN _)))) (λ_=>(pv 0)))
   (@ah _ _ _ _ _ (gH F2 (jt K (pv 5) (λ_=>rfl)) (@ah _ _ _ _ _ (@aw _ _ 3 _ _ _ _ nd rfl oi (mx K Ml Oz O0 lU (pv 5)) rfl oi)
   (@ah _ _ _ _ _ (i3 (bT v) (pv 4) (pv 3) (KC K rfl rfl T.max_ (au (bM ["count","there"] [4] (bG K (ef (bT v) (pv 0) (pv 3) (λ_ _=>rfl))) (λ_=>(eZ (n:=2) K rfl (bY (aI (i:=0) (show(["count","there","known"]:List Vn).Nodup from by decide +kernel) rfl oi oj) (bY (aI (i:=1) (show(["count","there","known"]:List Vn).Nodup from by decide +kernel) rfl oi oj) eJ)))) (λ_=>ck) (λ_=>(aB dz (ef (bT v) (pv 2) (pv 1) (λ_ _=>rfl)) ag))) ae rfl) ag) rfl)
   (@aj _ _ _ (bJ F2 rfl (bG K (ef (bT v) (pv 1) (pv 3) (λ_ _=>rfl))) (aI (i:=6) nd rfl oi) (@ah _ _ _ _ _ (i3 (bT v) (pv 2) (pv 6) (aB hJ (ef (bT v) (pv 2) (pv 6) (λ_ _=>rfl)) ag) rfl)
   (@aj _ _ _ (fq (aP cM (ef (bT v) (pv 2) (pv 6) (λ_ _=>rfl)) ag (aN _)) (@aj _ _ _ (bp (cx K Ml Mx Mz dY (pv 5) (au (pv 6) ae rfl)))) aT))))))))
   (@aj _ _ _ (@az _ _ _ _ (pv 4))))))))),?_⟩
 left;refine⟨f,n,l,rfl,hf,hl,λg a a0 B kxB A N O=>?_⟩;have am:g≠f:=λe=>by rw[e,A]at N;cases N
 have an:a≠f:=λe=>by rw[e,A]at O;cases O
 have a3:=kxB _ _ L hl;left;refine λj C=>?_;left;have G:f≠j:=λe=>by rw[<-e,A]at C;cases C
 have R:upd B j (.dT []) f=Vo (.frz a0 (.dT (aY n l))):=by rw[aq G];exact A
 refine⟨f,aY n l,rfl,.inr ⟨a0,R⟩,λod bs ap=>?_⟩;obtain⟨b,rfl,x⟩:∃b,bs=[b]/\upd B j (.dT []) b=Vo (.tup [.int 0,.int ((n:Nat):Int)]):=by
  cases ap with
  | cons h t=>cases t;exact⟨_,rfl,h⟩
 have a4:aJ (upd (upd B j (.dT [])) f (.frz od (.dT (aY n l)))) b (pN n):=aJ.put R (λxs z=>by cases z) x;have k0:Kx f B (upd (upd B j (.dT [])) f (.frz od (.dT (aY n l)))):=Kx.at (Kx.put (λ_ _ _ z=>z) C);have f0:upd (upd B j (.dT [])) f (.frz od (.dT (aY n l))) f=Vo (.frz od (.dT (aY n l))):=ay;have w0:upd (upd B j (.dT [])) f (.frz od (.dT (aY n l))) j=Vo (.dT []):=by rw[aq G.symm];exact ay
 generalize upd (upd B j (.dT [])) f (.frz od (.dT (aY n l)))=B1 at a4 k0 f0 w0 ⊢;clear x R;refine o8 (λi σ H'=>∃k1,σ=[Vo (.ref f),Vo (.ref g),Vo (.ref j),k1,Vp,Vp,Vp]/\Kx f B H'/\H' f=Vo (.frz od (.dT (aY n l)))/\aJ H' b (pN n)/\(i=0->H' j=Vo (.dT []))/\(0<i->H' j=Vo (.dT (hV n)))) ⟨_,rfl,k0,f0,a4,λ_=>w0,λh=>absurd h (ND _)⟩ (λi σ H' h=>by obtain⟨_,_,_,h,_⟩:=h;exact h) ?_ ?_
 .rintro i r σ H2 hb ⟨k1,rfl,Y,s,S,h0,_⟩;cases i with
  | succ i=>simp at hb
  | zero=>
   cases hb;left;refine⟨f,.ref l,rfl,.inr ⟨aY n l,bc (pN n),b,.inr ⟨od,s⟩,rfl,S,km.symm⟩,?_⟩;left;refine dn (af.of (Y _ _ L a3)) ?_;left;refine⟨j,_,rfl,gQ.t (h0 rfl) (k:=bc (pN n)) S (kS (by simp)),?_⟩;rw[nV];exact⟨_,rfl,Y.put C,by rw[aq G];exact s,aJ.put (h0 rfl) (λxs z=>by cases z) S,λh=>absurd h (OI 0),λ_=>ay⟩
 rintro σ H2 ⟨k1,rfl,U,s,_,_,h1⟩;have I:=h1 (Pt 0);left;refine λc J=>?_;left;have W:f≠c:=λe=>by rw[e,J]at s;cases s
 have ar:j≠c:=λe=>by rw[e,J]at I;cases I
 have as:j≠f:=G.symm;have a5:B c=Vp:=U.none W.symm J;have X:upd H2 c (.dT []) f=Vo (.frz od (.dT (aY n l))):=by rw[aq W];exact s
 refine⟨f,aY n l,rfl,.inr ⟨od,X⟩,λm b0 a6=>?_⟩;obtain⟨r,rfl,x⟩:∃b,b0=[b]/\upd H2 c (.dT []) b=Vo (.tup [.int 0,.int ((n:Nat):Int)]):=by
  cases a6 with
  | cons h t=>cases t;exact⟨_,rfl,h⟩
 have u:aJ (upd (upd H2 c (.dT [])) f (.frz m (.dT (aY n l)))) r (pN n):=aJ.put X (λxs z=>by cases z) x;have k3:Kx f B (upd (upd H2 c (.dT [])) f (.frz m (.dT (aY n l)))):=Kx.at (U.put a5);have f3:upd (upd H2 c (.dT [])) f (.frz m (.dT (aY n l))) f=Vo (.frz m (.dT (aY n l))):=ay;have w3:upd (upd H2 c (.dT [])) f (.frz m (.dT (aY n l))) j=Vo (.dT (hV n)):=by rw[aq as,aq ar];exact I
 have n3:upd (upd H2 c (.dT [])) f (.frz m (.dT (aY n l))) c=Vo (.dT []):=by rw[aq W.symm];exact ay
 generalize upd (upd H2 c (.dT [])) f (.frz m (.dT (aY n l)))=H3 at u k3 f3 w3 n3 ⊢;clear x X J I s U h1;refine Ea (λi ys H'=>H'=H3/\ys=if i=0 then[]else[.ref r]) (dN (by show(1:Nat)<=20;decide)) ⟨rfl,rfl⟩ (λi ys H' h=>by obtain⟨rfl,rfl⟩:=h;refine⟨f3,?_⟩;split<;>simp<;>omega) ?_ ?_
 .rintro i b2 ys H4 hb ⟨rfl,rfl⟩;cases i with
  | succ i=>simp at hb
  | zero=>
   cases hb;left;refine⟨j,_,rfl,by have:=cF.t w3 (k:=bc (pN n)) u;rw[qp]at this;exact this,?_⟩;left;right;exact⟨rfl,rfl⟩
 rintro ys H4 rw ⟨rfl,rfl⟩ y;rw[M1 (show ¬([r]:List Vb).length=0 from OI 0)];have a7:rw≠f:=λe=>by rw[e,f3]at y;cases y
 have b1:B rw=Vp:=k3.none a7 y;have e5:=aO (o:=.lst [.ref r]) y;have p:upd H4 rw (.lst [.ref r]) rw=Vo (.lst [.ref r]):=ay;have k5:=k3.ext e5;have f5:=e5 _ _ f3;have n5:=e5 _ _ n3;have b5:aJ (upd H4 rw (.lst [.ref r])) r (pN n):=e5 _ _ u;generalize upd H4 rw (.lst [.ref r])=H5 at p k5 f5 n5 b5 ⊢;clear e5 k3 f3 n3 u w3 y H4;left;refine gC (λM σ H'=>∃k1 k2,(M=1/\H'=H5\/M=0/\Kx f B H'/\H' c=Vo (.dT (hV n))/\H' rw=Vo (.lst []))/\σ=[Vo (.ref f),Vo (.ref g),Vo (.ref j),k1,Vo (.ref c),Vo (.ref rw),k2]) (λσ H'=>∃k1 k2,(Kx f B H'/\H' c=Vo (.dT (hV n)))/\σ=[Vo (.ref f),Vo (.ref g),Vo (.ref j),k1,Vo (.ref c),Vo (.ref rw),k2]) 1 ⟨_,_,.inl ⟨rfl,rfl⟩,rfl⟩ ?_ ?_
 .rintro M σ Z ⟨k1,k2,⟨rfl,rfl⟩|⟨rfl,Y,hn,v⟩,rfl⟩
  rotate_left
  .left;refine⟨false,.inl ⟨_,af.of v,rfl⟩,?_⟩;exact aC ⟨_,_,⟨Y,hn⟩,rfl⟩
  left;refine⟨true,.inl ⟨_,af.of p,rfl⟩,?_⟩;refine aD ?_;refine⟨λa8 H'=>∃k1 k2,(Kx f B H'/\H' c=Vo (.dT (hV n))/\H' rw=Vo (.lst []))/\a8=[Vo (.ref f),Vo (.ref g),Vo (.ref j),k1,Vo (.ref c),Vo (.ref rw),k2],λa8 H' ⟨k1,k2,a1,a2⟩=>⟨0,by decide,k1,k2,.inr ⟨rfl,a1⟩,a2⟩,?_⟩;left;refine⟨dR (af.of p),?_⟩;left;refine⟨rw,_,.ref r,rfl,rfl,p,rfl,?_⟩;rw[show ([V.ref r]:List V).dropLast=[]from rfl];have a9:rw≠c:=λe=>by rw[e,n5]at p;cases p
  have k7:Kx f B (upd Z rw (.lst [])):=k5.put b1;have f7:upd Z rw (.lst []) f=Vo (.frz m (.dT (aY n l))):=by rw[aq a7.symm];exact f5
  have n7:upd Z rw (.lst []) c=Vo (.dT []):=by rw[aq a9.symm];exact n5
  have r7:upd Z rw (.lst []) rw=Vo (.lst []):=ay;have b7:aJ (upd Z rw (.lst [])) r (pN n):=aJ.put p (λxs z=>by cases z) b5;generalize upd Z rw (.lst [])=H7 at k7 f7 n7 r7 b7 ⊢;clear p k5 f5 n5 b5;have ab:=k7 _ _ L a3;left;refine⟨f,.ref l,rfl,.inr ⟨aY n l,bc (pN n),r,.inr ⟨m,f7⟩,rfl,b7,km.symm⟩,?_⟩;refine bI (af.of ab) ?_;refine jm (af.of ab) λp8 b3=>?_;have e9:=aO (o:=.lst []) b3;have ac:upd H7 p8 (.lst []) p8=Vo (.lst (([]:List Int).map V.int)):=ay;have k9:=k7.ext e9;have n9:=e9 _ _ n7;have r9:=e9 _ _ r7;have b9:aJ (upd H7 p8 (.lst [])) r (pN n):=e9 _ _ b7;generalize upd H7 p8 (.lst [])=H9 at ac k9 n9 r9 b9 ⊢;left;refine Dh (af.of ac) λM hM=>?_;obtain rfl:M=0:=by
   rcases hM with⟨_,h⟩|⟨h,_⟩
   .exact h
   .cases h
  left;refine⟨c,_,rfl,gQ.t n9 (k:=bc (pN n)) b9 (kS (by simp)),?_⟩;rw[nV];have kA:Kx f B (upd H9 c (.dT [(bc (pN n),.int 0)])):=k9.put a5;have nA:upd H9 c (.dT [(bc (pN n),.int 0)]) c=Vo (.dT (hV n)):=ay;have rA:upd H9 c (.dT [(bc (pN n),.int 0)]) rw=Vo (.lst []):=by rw[aq a9];exact r9
  have bA:aJ (upd H9 c (.dT [(bc (pN n),.int 0)])) r (pN n):=aJ.put n9 (λxs z=>by cases z) b9;generalize upd H9 c (.dT [(bc (pN n),.int 0)])=HA at kA nA rA bA ⊢;have b4:=kA _ _ am N;have ad:=kA _ _ an O;left;refine⟨g,.ref a,rfl,by have:=cF.t b4 (k:=bc (pN n)) bA;rw[km]at this;exact this,?_⟩;refine bI (af.of ad) ?_;refine kD (af.of ad) ?_;exact⟨_,_,⟨kA,nA,rA⟩,rfl⟩
 .rintro σ H' ⟨k1,k2,⟨Y,hn⟩,rfl⟩;left;exact q c H' (λb o nb z=>Y b o nb (kxB b o nb z)) hn
inductive Cj(K:L8)(vs:List V)(H:Hp)(Q:VK)(E:XK):Prop|mk:∀a b n,vs=[a,.ref b]->E2 H a->aJ H b (pN n)->n<=12->dU K->Tbs K H->(∀t H',Et H H'->Tbs K H'->H' t=Vo (.tup [.str "ends",.int 0])->Q (.ref t) H')->Cj K vs H Q E
abbrev zW:Vl:=stq 85
abbrev BJ:=λP w mg base=>Cal P w K mg base "fate" 12 ["house","place"] (Cj K)
def KH(D:Dfn K mg "fate" zW ["house","place"])(T:Blt mg)(c:zZ P w mg base)(a:yn P w mg base)(d:rX P w mg base):BJ P w mg base:=by
 refine D.oS ["house","place","told","steps","known"] λe nd H vs Q E h=>?_;obtain⟨I,p,n,rfl,hv,g,N,r,s,q⟩:=h;refine⟨_,(@ah _ _ _ _ _ (@aw _ _ 2 _ _ _ _ nd rfl oi (av d e (au (pv 0) (au (pv 1) ae rfl) rfl)) rfl oi)
   (@ah _ _ _ _ _ (@ba _ _ _ _ _ _ _ _ (aP cM (@ai _ _ _ _ _ _ _ (aA K) (pv 2) ag (λ_ _=>rfl)) ao (aN _)) (@aj _ _ _ (@az _ _ _ _ (pv 2))) aT)
   (@ah _ _ _ _ _ (@aw _ _ 3 _ _ _ _ nd rfl oi (av a e (au (pv 0) (au (pv 1) ae rfl) rfl)) rfl oi)
   (@ah _ _ _ _ _ (@aw _ _ 4 _ _ _ _ nd rfl oi (av c e (au (pv 3) ae rfl)) rfl oi)
   (@ah _ _ _ _ _ (@ba _ _ _ _ _ _ _ _ (ik (DW (bT e) (pv 1) (pv 4)) (by with_unfolding_all rfl)) (@aj _ _ _ (@az _ _ _ _ (@aX _ _ _ _ _ (au ao (au (ef (bT e) (pv 4) (pv 1) (λ_ _=>rfl)) ae rfl) rfl)))) aT)
   (@aj _ _ _ (@az _ _ _ _ gD))))))),?_⟩
 left;refine⟨I,p,n,rfl,hv,g,N,r,s,λt u H1 x y O=>?_⟩;have A:=hv.et x;have i:aJ H1 p (pN n):=x _ _ g (λps z=>by cases z);left;refine aG (ak.of O) rfl ?_;left;refine fZ ?_;refine rd_exb (aC ?_);left;refine⟨I,p,n,rfl,A,i,λf l H2 R hfn B C=>?_⟩;left;refine⟨f,n,l,rfl,B,C,λJ L S j=>?_⟩;have F:Ext H1 L:=λb o hb=>S b o (λz=>by rw[z,hfn]at hb;cases hb) (R _ _ hb);have m:aJ L p (pN n):=F _ _ i;left;refine⟨J,_,rfl,cF.t j (k:=bc (pN n)) m,?_⟩;rw[qp];refine rd_exb (aD ?_);left;refine⟨J,_,rfl,by have:=cF.t j (k:=bc (pN n)) m;rw[qp]at this;exact this,?_⟩;left;refine aE λU W M G _=>?_;exact q U W ((x.trans F.et).trans M.et) ((y.ext F).ext M) G
abbrev ij(l:List Nat):List V:=l.map λj:Nat=>V.int (j:Int)
inductive AR(K:L8)(vs:List V)(H:Hp)(Q:VK)(E:XK):Prop|mk:∀v,vs=[v,.int 0,.int 0]->E2 H v->(∀H',Ext H H'->Q .non H')->AR K vs H Q E
abbrev v7:Vl:=stq 95
abbrev xS:=λP w mg base=>Cal P w K mg base "refuse_bad_rooms" 7 ["house","p","q"] (AR K)
def FE(D:Dfn K mg "refuse_bad_rooms" v7 ["house","p","q"])(T:Blt mg)(b:kd P w mg base)(a:ip P w mg base):xS P w mg base:=by
 refine D.oS ["house","p","q"] λc nd H vs Q E h=>?_;obtain⟨v,rfl,hv,f⟩:=h;refine⟨_,(ah (bp (av a c (aa (pv 0) ae)))
   (aj (ba (PW.pt (cZ (cj (bF (av b c (aa (pv 1) (aa (ai (aA K) (pv 0) ag (λ_ _=>rfl)) ae))))) (dQ (cj (bF (av b c (aa (pv 2) (aa (ai (aA K) (pv 0) ag (λ_ _=>rfl)) ae)))))))) (aj iI) aT))),?_⟩
 left;refine⟨v,2,[],rfl,hv.hv,gM,λH1 d=>?_⟩;obtain⟨g,t,rfl,e,i⟩:=hv.ext d;left;refine aG (ak.of e) rfl ?_;left;refine⟨_,_,rfl,?_⟩;left;nofun;refine aG (ak.of e) rfl ?_;left;refine⟨_,_,rfl,?_⟩;left;nofun;exact f H1 d
inductive sL(K:L8)(vs:List V)(H:Hp)(Q:VK)(E:XK):Prop|mk:∀v,vs=[v,.int 0]->E2 H v->(∀l H',Ext H H'->H' l=Vo (.lst (ij [1,0]))->Q (.ref l) H')->sL K vs H Q E
abbrev BA:Vl:=stq 96
abbrev rC:=λP w mg base=>Cal P w K mg base "alone_at_zero" 1 ["house","room"] (sL K)
def Lu(D:Dfn K mg "alone_at_zero" BA ["house","room"])(T:Blt mg):rC P w mg base:=by
 refine D.oS ["house","room"] λc nd H vs Q E h=>?_;obtain⟨v,rfl,⟨d,t,rfl,a,e⟩,q⟩:=h;refine⟨_,(aj (az (bM ["other"] [1] (dP rfl T.range_ (aa (ai (aA K) (pv 0) ag (λ_ _=>rfl)) ae)) (λ_=>(aI (i:=0) (show(["other","room"]:List Vn).Nodup from by decide +kernel) rfl oi oj)) (λ_=>ck) (λ_=>(jO (aP cM (pv 0) (pv 1) (aN _)) ag ag))))),?_⟩;left;refine aG (ak.of a) rfl ?_;left;refine dM (by omega) ?_;refine fS (λi ys H'=>H'=H/\ys=(ij [1,0]).take i) (dN (by decide)) ⟨rfl,rfl⟩ (λi ys H' _ h=>by rw[h.2,MV];omega) ?_ ?_
 .rintro i ys H' hi ⟨rfl,rfl⟩;left;right
  match i,hi with
  | 0,_=>
   right;exact⟨rfl,rfl⟩
  | 1,_=>
   nofun;exact⟨rfl,rfl⟩
 .rintro ys H' l ⟨rfl,rfl⟩ b;exact q l _ (aO b) ay
inductive yl(K:L8)(vs:List V)(H:Hp)(Q:VK)(E:XK):Prop|mk:∀a b,vs=[.ref a,.ref b]->H a=Vo (.lst (ij [1,0]))->H b=Vo (.lst (ij [1,0]))->(∀H',Ext H H'->Q (.bl true) H')->yl K vs H Q E
abbrev BD:Vl:=stq 99
abbrev uP:=λP w mg base=>Cal P w K mg base "share_one" 1 ["places","others"] (yl K)
def Fd(D:Dfn K mg "share_one" BD ["places","others"])(T:Blt mg):uP P w mg base:=by
 refine D.oS ["places","others"] λj nd H vs Q E h=>?_;obtain⟨a,b,rfl,ha,hb,q⟩:=h;refine⟨_,(aj (az (aR (B2 K rfl) rfl T.any_ Rb (aa (bM ["bits","beside"] [] (LB K rfl T.zip_ (aa (pv 0) (aa (pv 1) ae))) (λ_=>(eZ (n:=2) K rfl (bY (aI (i:=0) (show(["bits","beside"]:List Vn).Nodup from by decide +kernel) rfl oi oj) (bY (aI (i:=1) (show(["bits","beside"]:List Vn).Nodup from by decide +kernel) rfl oi oj) eJ)))) (λ_=>ck) (λ_=>(gq iq (aB Fw (pv 0) (pv 1)) ag (aN _)))) ae)))),?_⟩;left;refine GR (af.of ha) (af.of hb) ?_;refine HR (λi zs H'=>Ext H H'/\zs=(([true,false]:List Bool).take i).map V.bl) (dN (by simp)) ⟨Ext.rfl' _,rfl⟩ (λi zs H' h=>⟨af.of (h.1 _ _ ha),af.of (h.1 _ _ hb),by rw[h.2,Mc,MV];omega⟩) ?_ ?_
 .rintro i u v zs H1 p H2 c hv ⟨d,rfl⟩ f g _
  match i,c,hv with
  | 0,c,hv=>
   cases c;cases hv;refine gL (ak.of g) rfl ?_;left;right;exact⟨d.trans f,rfl⟩
  | 1,c,hv=>
   cases c;cases hv;refine gL (ak.of g) rfl ?_;left;right;exact⟨d.trans f,rfl⟩
  | i+2,c,hv=>simp at c
 .rintro zs H1 l ⟨d,rfl⟩ e;left;refine⟨l,[true,false],rfl,af.of ay,?_⟩;exact q _ (d.trans (aO e))
inductive B9(K:L8)(vs:List V)(H:Hp)(Q:VK)(E:XK):Prop|mk:∀v,vs=[v]->E2 H v->(∀l H',Ext H H'->H' l=Vo (.lst [])->Q (.ref l) H')->B9 K vs H Q E
abbrev tu:Vl:=stq 101
abbrev CF:=λP w mg base=>Cal P w K mg base "ways_by_sign" 1 ["house"] (B9 K)
def Fs(D:Dfn K mg "ways_by_sign" tu ["house"])(T:Blt mg):CF P w mg base:=by
 refine D.oS ["house","signs"] λm nd H vs Q E h=>?_;obtain⟨v,rfl,⟨A,t,rfl,s,n⟩,q⟩:=h;refine⟨_,(ah (aw (i:=1) nd rfl oi (aR (D2 m) rfl T.sorted_ PyProof.Rows.boot_sorted (aa (cX (J6 m) rfl T.set_ Ra (aa (bM ["way"] [] (fY K (ai (aA K) (pv 0) ag (λ_ _=>rfl))) (λ_=>(aI (i:=0) (show(["way"]:List Vn).Nodup from by decide +kernel) rfl oi oj)) (λ_=>ck) (λ_=>(ai (aA K) (pv 0) ag (λ_ _=>rfl)))) ae)) ae)))
   (aj (az (bM ["sign"] [0] (bG K (pv 1)) (λ_=>(aI (i:=0) (show(["sign","house"]:List Vn).Nodup from by decide +kernel) rfl oi oj)) (λ_=>ck) (λ_=>(aX (aa (pv 0) (aa gD ae)))))))),?_⟩
 left;refine aG (ak.of s) (v:=.ref t) rfl ?_;refine fW (ak.of n) ?_;refine iV (xs:=[]) (λi ys H'=>H'=H/\ys=[]) (dN (by simp)) ⟨rfl,rfl⟩ (λi ys H' hi h=>⟨by rw[h.1];exact ak.of n,by rw[h.2];exact LI _⟩) (λi x ys H' u _=>by simp at u) ?_;rintro ys H' l ⟨rfl,rfl⟩ y;have b:upd H' l (.lst []) l=Vo (.lst []):=ay;have o:Ext H' (upd H' l (.lst [])):=aO y;generalize upd H' l (.lst [])=H1 at b o ⊢;left;refine⟨l,rfl,b,λl2 e=>?_⟩;generalize f:lY _ l2=so;have p:Ext H1 (upd H1 l2 so):=aO e;have c:upd H1 l2 so l2=Vo so:=ay;generalize upd H1 l2 so=H2 at c p ⊢;left;subst f;refine⟨l2,rfl,c,λd g=>?_⟩;have a:upd H2 d (.lst []) d=Vo (.lst []):=ay;have r:Ext H2 (upd H2 d (.lst [])):=aO g;generalize upd H2 d (.lst [])=B at a r ⊢;have j:=o.trans (p.trans r);left;refine bI (af.of a) ?_;refine jm (af.of a) λz k=>?_;exact q z _ (j.trans (aO k)) ay
inductive xk(K:L8)(vs:List V)(H:Hp)(Q:VK)(E:XK):Prop|mk:∀v,vs=[v,.int 0,.int 0]->E2 H v->(∀l a H',Ext H H'->H' l=Vo (.lst [.ref a])->H' a=Vo (.lst (ij [1,0]))->Q (.ref l) H')->xk K vs H Q E
abbrev xn:Vl:=stq 102
abbrev sH:=λP w mg base=>Cal P w K mg base "places_to_end" 8 ["house","room","length"] (xk K)
def D4(D:Dfn K mg "places_to_end" xn ["house","room","length"])(T:Blt mg)(a:rC P w mg base)(b:nh P w mg base):sH P w mg base:=by
 refine D.oS ["house","room","length","ways","places","count"] λd nd H vs Q E h=>?_;obtain⟨v,rfl,hv,g⟩:=h;refine⟨_,(ah (aw (i:=3) nd rfl oi (ai (aA K) (av b d (aa (pv 0) ae)) ag (λ_ _=>rfl)))
   (ah (aw (i:=4) nd rfl oi (aK (aa (av a d (aa (pv 0) (aa (pv 1) ae))) ae)))
   (ah (bJ F2 rfl (dP rfl T.range_ (aa (pv 2) ae)) (aI (i:=5) nd rfl oi) (aj (bp (cx K Ml Mx Mz dY (pv 4) (aa gD ae)))))
   (aj (az (pv 4)))))),?_⟩
 left;refine⟨v,2,[],rfl,hv.hv,gM,λu H1 e j=>?_⟩;obtain⟨x,t,rfl,m,y⟩:=E2.of j;left;refine aG (ak.of m) (v:=.ref t) rfl ?_;left;refine⟨v,rfl,hv.ext e,λn H2 o c=>?_⟩;left;refine aE λl p f q r=>?_;left;refine dM (by omega) ?_;refine forR (λi σ H'=>H'=p/\∃k,σ=[Vo v,Vo (.int 0),Vo (.int 0),Vo (.ref t),Vo (.ref l),k]) ⟨rfl,_,rfl⟩ ?_ ?_
 .intro i σ s hi;exact absurd hi (QQ _)
 .rintro σ s ⟨rfl,k,rfl⟩;left;exact g l n _ (e.trans (o.trans f)) q (f _ _ c)
inductive Bi(K:L8)(vs:List V)(H:Hp)(Q:VK)(E:XK):Prop|mk:∀v tl tn,vs=[v,.int 0,.ref tl,.int 0,.int 1]->E2 H v->H tl=Vo (.lst [.ref tn])->H tn=Vo (.lst (ij [1,0]))->(∀l H',Ext H H'->H' l=Vo (.lst [.str ""])->Q (.ref l) H')->Bi K vs H Q E
abbrev rQ:Vl:=stq 104
abbrev yJ:=λP w mg base=>Cal P w K mg base "words_of_length" 2 ["house","p","to_end","length","many"] (Bi K)
def FJ(D:Dfn K mg "words_of_length" rQ ["house","p","to_end","length","many"])(T:Blt mg)(c:uP P w mg base)(a:rC P w mg base)(b:CF P w mg base):yJ P w mg base:=by
 refine D.oS ["house","p","to_end","length","many","signs","begun","left"] λm nd H vs Q E h=>?_;obtain⟨v,tl,tn,rfl,hv,o,p,I⟩:=h;refine⟨_,(ah (aw (i:=5) nd rfl oi (av b m (aa (pv 0) ae)))
   (ah (aw (i:=6) nd rfl oi (aK (aa (aX (aa ao (aa (av a m (aa (pv 0) (aa (pv 1) ae))) ae))) ae)))
   (ah (ba (cj (bF (av c m (aa (ai (aA K) (ai (aF K) (pv 6) ag (λ_ _=>rfl)) ag (λ_ _=>rfl)) (aa (ai (aF K) (pv 2) (pv 3) (λ_ _=>rfl)) ae))))) (aj (az (aK ae))) aT)
   (ah (bJ F2 rfl (Gh rfl T.range_ (aa (aB hJ (pv 3) ag) (aa (kL kZ ag) (aa (kL kZ ag) ae)))) (aI (i:=7) nd rfl oi) (aj (aw (i:=6) nd rfl oi (eM (gn K) gD fi (dW (pv 4))))))
   (aj (az (bM ["word","places"] [] (bG K (pv 6)) (λ_=>(eZ (n:=2) K rfl (bY (aI (i:=0) (show(["word","places"]:List Vn).Nodup from by decide +kernel) rfl oi oj) (bY (aI (i:=1) (show(["word","places"]:List Vn).Nodup from by decide +kernel) rfl oi oj) eJ)))) (λ_=>ck) (λ_=>(pv 0))))))))),?_⟩
 left;refine⟨v,rfl,hv,λsl H1 A J=>?_⟩;left;refine⟨v,rfl,hv.ext A,λB H2 L q=>?_⟩;left;refine aE λb0 R C r _=>?_;left;refine aE λbl S s g _=>?_;have f:=A.trans (L.trans (C.trans s));have k:=(C.trans s) _ _ q;have d:=s _ _ r;left;refine aH (af.of g) (v:=.ref b0) rfl ?_;left;refine aG (ak.of d) (v:=.ref B) rfl ?_;left;refine aH (af.of (f _ _ o)) (v:=.ref tn) (aM (j:=0) rfl) ?_;left;refine⟨B,tn,rfl,k,f _ _ p,λM u=>?_⟩;refine rd_exb ?_;nofun;refine CL ⟨⟨by omega,by omega⟩,⟨by decide,by decide⟩,⟨by decide,by decide⟩,by decide⟩ ?_;refine Gf (λi σ H'=>i=0/\H'=M/\∃x,σ=[Vo v,Vo (.int 0),Vo (.ref tl),Vo (.int 0),Vo (.int 1),Vo (.ref sl),Vo (.ref bl),x]) ⟨rfl,rfl,Vp,rfl⟩ ?_ ?_
 .intro i σ F hi;exact absurd hi (by rw[show gG (0-1) (-1) (-1)=0 by decide];exact QQ _)
 .rintro σ F ⟨_,rfl,x,rfl⟩;have e:=u _ _ g;have l:=u _ _ d;left;refine bI (af.of e) ?_;refine fb (xs:=[.ref b0]) (λi ys H'=>H'=F/\ys=([.str ""]:List V).take i) (dN (by simp)) ⟨rfl,rfl⟩ (λi ys H' hi h=>⟨by rw[h.1];exact af.of e,by rw[h.2,MV];omega⟩) ?_ ?_
  .rintro i y ys N G ⟨rfl,rfl⟩;cases i with
   | succ i=>simp at G
   | zero=>
    cases G;refine gL (ak.of l) rfl ?_;left;right;exact⟨rfl,rfl⟩
  .rintro ys N O ⟨rfl,rfl⟩ z;exact I O _ ((f.trans u).trans (aO z)) ay
inductive Cn(K:L8)(vs:List V)(H:Hp)(Q:VK)(E:XK):Prop|mk:∀v,vs=[v,.int 0,.int 0]->E2 H v->(∀H',Ext H H'->Q (.str "") H')->Cn K vs H Q E
abbrev vt:Vl:=stq 105
abbrev ya:=λP w mg base=>Cal P w K mg base "first_word" 9 ["house","p","q"] (Cn K)
def LQ(D:Dfn K mg "first_word" vt ["house","p","q"])(T:Blt mg)(b:yJ P w mg base)(c:sH P w mg base)(d:qB P w mg base)(a:xS P w mg base):ya P w mg base:=by
 refine D.oS ["house","p","q","walk","to_end"] λg nd H vs Q E h=>?_;obtain⟨v,rfl,hv,s⟩:=h;refine⟨_,(ah (bp (av a g (aa (pv 0) (aa (pv 1) (aa (pv 2) ae)))))
   (ah (aw (i:=3) nd rfl oi (av d g (aa (pv 0) (aa (aX (aa (pv 1) (aa ag ae))) (aa (aX (aa (pv 2) (aa ag ae))) ae)))))
   (ah (ba (aP oK (pv 3) hG (aN _)) (aj (az hG)) aT)
   (ah (aw (i:=4) nd rfl oi (av c g (aa (pv 0) (aa (pv 2) (aa (aR (cw K) rfl T.len_ L0 (aa (pv 3) ae)) ae)))))
   (aj (az (ai (aF K) (av b g (aa (pv 0) (aa (pv 1) (aa (pv 4) (aa (aR (cw K) rfl T.len_ L0 (aa (pv 3) ae)) (aa ag ae)))))) ag (λ_ _=>rfl)))))))),?_⟩
 left;refine⟨v,rfl,hv,λH1 u=>?_⟩;left;refine aE λx H2 y j _=>?_;left;refine aE λga C q k _=>?_;have f:=u.trans (y.trans q);left;refine⟨v,x,ga,0,0,rfl,hv.ext f,q _ _ j,k,by decide,by decide,λh=>absurd rfl h,λ_ l F z r=>?_⟩;left;refine⟨rfl,false,rfl,?_⟩;refine aC ?_;have e:=f.trans z;left;refine dn (af.of r) ?_;left;refine⟨v,rfl,hv.ext e,λtl tn G m n o=>?_⟩;left;refine dn (af.of (m _ _ r)) ?_;left;refine⟨v,tl,tn,rfl,(hv.ext e).ext m,n,o,λI A B p=>?_⟩;left;refine aH (af.of p) (v:=.str "") rfl ?_;exact s A (e.trans (m.trans B))
abbrev kR(xs:List Int):List Vn:=xs.map Tx.bj
def iF(b s:Int)(o a:List Int):List Vn:=[Tx.bj b,Tx.bj s]++[(":":Vn)]++kR o++[(":":Vn)]++kR a
theorem sA{lo hi:Int}:∀{xs:List Int},iJ lo hi xs->(xs.length:Int)<=max 0 (hi-lo)
 | [],_=>by simp only[RS];omega
 | x::r,h=>by obtain⟨h1,h2,a⟩:=ud.mp h;have:=sA a;simp only[ME];omega
inductive zu(K:L8)(vs:List V)(H:Hp)(Q:VK)(E:XK):Prop|mk:∀p xs,vs=[.ref p]->ak K H p (M5 V.int xs)->xs.length<=10000->(∀x∈xs,0<=x/\x<1000000)->(∀l H',Ext H H'->H' l=Vo (.lst ((kR xs).map V.str))->Q (.ref l) H')->zu K vs H Q E
abbrev wy:Vl:=stq 91
abbrev wj:=λP w mg base=>Cal P w K mg base "row_words" 1 ["row"] (zu K)
def Hv(D:Dfn K mg "row_words" wy ["row"])(T:Blt mg):wj P w mg base:=by
 refine D.oS ["row"] λf nd H vs Q E h=>?_;obtain⟨p,xs,rfl,c,g,d,q⟩:=h;refine⟨_,(aj (az (bM ["number"] [] (fY K (pv 0)) (λ_=>(aI (i:=0) (show(["number"]:List Vn).Nodup from by decide +kernel) rfl oi oj)) (λ_=>ck) (λ_=>(cX iw rfl T.str_ NK (aa (pv 0) ae)))))),?_⟩;left;refine fW c ?_;refine iV (xs:=xs.map V.int) (λi ys H'=>H'=H/\ys=(kR (xs.take i)).map V.str) (aS (by rw[Mc];omega)) ⟨rfl,rfl⟩ (λi ys H' hi h=>⟨by rw[h.1];exact c,?_⟩) ?_ ?_
 .rw[h.2,Mc,Mc,MV];exact Ng _ _
 .rintro i x ys H' a ⟨rfl,rfl⟩;rw[Mf]at a;obtain⟨n,b,rfl⟩:=Mp.mp a;have h2:=d n (Mn b);left;right;refine⟨_,rfl,ic h2.1 h2.2,rfl,?_⟩;unfold kR;rw[Nm,b,Mt,Mt];rfl
 .rintro ys H' l ⟨rfl,rfl⟩ e;rw[Mc,MF];left;exact q l _ (aO e) ay
structure Sml(b s:Int)(o a:List Int):Prop where
 b0:0<=b
 b1:b<1000000
 s0:0<=s
 s1:s<1000000
 o1:∀x∈o,0<=x/\x<1000000
 a1:∀x∈a,0<=x/\x<1000000
 ol:o.length<=10000
 al:a.length<=10000
def Gd.sml{a:List Int}(g:Gd b s o a):Sml b s o a:=by
 have h1:=g.ok.hb;have h2:=g.ok.hs;have d:=g.b3;have e:=g.s8;refine⟨by omega,by omega,by omega,by omega,λx c=>?_,λx c=>?_,?_,?_⟩
 .have:=g.ok.ho.2 x c;omega
 .have:=g.ok.ha.2 x c;omega
 .have:=sA g.ok.ho;omega
 .have:=sA g.ok.ha;omega
def J3{a:List Int}(g:Sml b s o a):∀z∈iF b s o a,z.length<=6:=by
 have e:(MN ":").length=1:=rfl;intro z d;unfold iF at d;simp only[MA,Mr,MI,or_false,NR]at d;rcases d with((((rfl|rfl)|rfl)|⟨x,c,rfl⟩)|rfl)|⟨x,c,rfl⟩
 .exact Tx.eO g.b0 g.b1
 .exact Tx.eO g.s0 g.s1
 .omega
 .exact Tx.eO (g.o1 x c).1 (g.o1 x c).2
 .omega
 .exact Tx.eO (g.a1 x c).1 (g.a1 x c).2
def HS{a:List Int}:(iF b s o a).length=o.length+a.length+4:=by unfold iF;simp only[Mu,Mc,ME,RS];omega
inductive wg(K:L8)(vs:List V)(H:Hp)(Q:VK)(E:XK):Prop|mk:∀v b s o a,vs=[v]->dI H v b s o a->Gd b s o a->(∀H',Ext H H'->Q (.str (OG " " (iF b s o a))) H')->wg K vs H Q E
abbrev sS:Vl:=stq 92
abbrev qY:=λP w mg base=>Cal P w K mg base "shown_stair" 7 ["stair"] (wg K)
def Jq(D:Dfn K mg "shown_stair" sS ["stair"])(T:Blt mg)(d:wj P w mg base)(e:rH P w mg base):qY P w mg base:=by
 refine D.oS ["stair"] λj nd H vs Q E h=>?_;obtain⟨v,b,s',o,a,rfl,hv,J,q⟩:=h;refine⟨_,(ah (bp (av e j (aa (pv 0) ae)))
   (aj (az (cx K Nq OR OS (kr K) ao (aa (aB bE (aB bE (aB bE (aB bE (av d j (aa (eM Jb (pv 0) fi (dW ag)) ae)) (aK (aa ao ae))) (av d j (aa (ai (aA K) (pv 0) ag (λ_ _=>rfl)) ae))) (aK (aa ao ae))) (av d j (aa (ai (aA K) (pv 0) ag (λ_ _=>rfl)) ae))) ae))))),?_⟩
 left;refine⟨v,b,s',o,a,rfl,hv,J,?_⟩;obtain⟨p,r,L,rfl,h1,h2,U⟩:=hv;left;have f:=J.sml;refine⟨rfl,?_⟩;left;refine LS h1 λp2 H1 W k=>?_;left;refine⟨p2,[b,s'],rfl,ak.of k,by simp,λx M=>?_,λl1 H2 X l=>?_⟩
 .simp only[Mr,MI,or_false]at M;rcases M with rfl|rfl
  .exact⟨f.b0,f.b1⟩
  .exact⟨f.s0,f.s1⟩
 left;refine aE λl2 H3 N m _=>?_;refine dm (N _ _ l) m (aS (by simp)) (bu λl3 H4 Y s _=>?_);have g:=((W.trans X).trans N).trans Y;left;refine aG (ak.of (g _ _ h1)) (v:=.ref r) rfl ?_;left;refine⟨r,o,rfl,ak.of (g _ _ h2),f.ol,f.o1,λl4 H5 O u=>?_⟩;have ol:=f.ol;have al:=f.al;refine dm (O _ _ s) u (aS (by simp;omega)) (bu λl5 H6 Z y _=>?_);left;refine aE λl6 H7 R z _=>?_;refine dm (R _ _ y) z (aS (by simp;omega)) (bu λl7 H8 e8 A _=>?_);have i:=(((g.trans O).trans Z).trans R).trans e8;left;refine aG (ak.of (i _ _ h1)) (v:=.ref L) rfl ?_;left;refine⟨L,a,rfl,ak.of (i _ _ U),f.al,f.a1,λl8 H9 S B=>?_⟩;refine dm (S _ _ A) B (aS (by simp;omega)) (bu λl9 C G I _=>?_);left;refine⟨_,l9,iF b s' o a,rfl,rfl,af.of ?_,uC (c:=32) (J3 f) (n:=20004) (by rw[HS];omega) (by decide),q C ((i.trans S).trans G)⟩;rw[I];unfold iF;simp only[Mt];rfl
def uK:∀k<13,(PyData.str (Tx.bj ((k:Nat):Int))).canLay0=true:=by decide +kernel
def wX:∀k<13,(PyData.str (OG " " (iF (bN k 0:Nat) 1 (oN k 0) []))).canLay0=true:=by decide +kernel
def jA(h:cc H v (2,[])):E2 H v:=E2.of h.1
def jY{n:Int}(a:0<=n)(h:n<=12):∃k:Nat,n=(k:Int)/\k<=12:=⟨n.toNat,by omega,by omega⟩
abbrev pP:Vl:=stq 116
def uk:FnScope ["house","parts","walk"] ["house","parts"] (aW pP):=⟨rfl,rfl,rfl,by decide +kernel,rfl,by decide +kernel,by decide +kernel⟩
def Lo{P}{w}{mg}{base}(D:Dfn K mg "reach_ask" pP ["house","parts"])(T:Blt mg)(a:qB P w mg base):Cal P w K mg base "reach_ask" 8 ["house","parts"] (Ad K):=by
 have nd:=(uk).nd;refine D.ok uk (λvs H Q E h=>?_) (λX u H vs Q E h=>?_)
 .obtain⟨v,pt,n,rfl,_⟩:=h;rfl
 .obtain⟨f,cdv,A,outer,s,G,E0,rfl,x⟩:=u;obtain⟨v,pt,n,rfl,hv,y,e,d,z,tb,q⟩:=h;obtain⟨k,rfl,B⟩:=jY y e;have hv:=jA hv;refine⟨_,(ah (aw (i:=2) nd rfl (Or.inl rfl) (av a x (aa (pv 0) (aa (aX (aa (ai (aF K) (pv 1) ag (λ_ _=>rfl)) (aa (ai (aF K) (pv 1) ag (λ_ _=>rfl)) ae))) (aa (aX (aa (ai (aF K) (pv 1) ag (λ_ _=>rfl)) (aa (ai (aF K) (pv 1) ag (λ_ _=>rfl)) ae))) ae)))))
    (aj (az (jO (aP oK (pv 2) hG (aN _)) ao (cX iw rfl T.str_ NK (aa (aR (cw K) rfl T.len_ L0 (aa (pv 2) ae)) ae)))))),?_⟩
  left;refine aH (af.of d) (v:=.int 0) (aM (j:=0) rfl) ?_;left;refine aH (af.of d) (v:=.int (k:Nat)) (aM (j:=1) rfl) ?_;left;refine aE λC H1 g m _=>?_;left;refine aH (af.of (g _ _ d)) (v:=.int 0) (aM (j:=2) rfl) ?_;left;refine aH (af.of (g _ _ d)) (v:=.int 0) (aM (j:=3) rfl) ?_;left;refine aE λga H2 r o _=>?_;have b:=g.trans r;left;refine⟨v,C,ga,k,0,rfl,hv.ext b,r _ _ m,o,B,by decide,λ_ p c=>?_,λ_ l p c F=>?_⟩
  .left;refine⟨rfl,true,rfl,?_⟩;right;refine q _ p ?_ (b.trans c).et (tb.ext (b.trans c));decide +kernel
  .left;refine⟨rfl,false,rfl,?_⟩;nofun;refine dn (af.of F) ?_;left;refine⟨_,rfl,ic (by decide) (by decide),?_⟩;refine q _ p ?_ (b.trans c).et (tb.ext (b.trans c));decide +kernel
abbrev og:Vl:=stq 117
def vn:FnScope ["house","parts"] ["house","parts"] (aW og):=⟨rfl,rfl,rfl,by decide +kernel,rfl,by decide +kernel,by decide +kernel⟩
def GP{P}{w}{mg}{base}(D:Dfn K mg "forward_ask" og ["house","parts"])(T:Blt mg)(b:qY P w mg base)(c:ma P w mg base)(a:kN P w mg base):Cal P w K mg base "forward_ask" 11 ["house","parts"] (tI K):=by
 refine D.ok vn (λvs H Q E h=>?_) (λX W H vs Q E h=>?_)
 .obtain⟨v,pt,n,rfl,_⟩:=h;rfl
 .obtain⟨f,cdv,A,outer,s,H0,E0,rfl,p⟩:=W;obtain⟨v,pt,n,rfl,hv,Y,r,i,u,tb,q⟩:=h;obtain⟨k,rfl,x⟩:=jY Y r;obtain⟨B,t,rfl,M,Z⟩:=jA hv;refine⟨_,(ah (bp (av a p (aa (pv 0) (aa (aK (aa (aX (aa (ai (aF K) (pv 1) ag (λ_ _=>rfl)) (aa (ai (aF K) (pv 1) ag (λ_ _=>rfl)) ae))) (aa (aX (aa (ai (aF K) (pv 1) ag (λ_ _=>rfl)) (aa ag ae))) ae))) ae))))
    (aj (az (av b p (aa (ai (aF K) (av c p (aa (pv 0) (aa (aX (aa (ai (aF K) (pv 1) ag (λ_ _=>rfl)) (aa (ai (aF K) (pv 1) ag (λ_ _=>rfl)) ae))) ae))) (ai (aF K) (pv 1) ag (λ_ _=>rfl)) (λ_ _=>rfl)) ae))))),?_⟩
  left;refine aH (af.of i) (v:=.int 0) (aM (j:=0) rfl) ?_;left;refine aH (af.of i) (v:=.int (k:Nat)) (aM (j:=1) rfl) ?_;left;refine aE λpa H1 N C _=>?_;left;refine aH (af.of (N _ _ i)) (v:=.int 0) (aM (j:=2) rfl) ?_;left;refine aE λga H2 O F _=>?_;left;refine aE λl H3 G hl _=>?_;have d:=N.trans (O.trans G);left;refine⟨B,.ref t,2,l,[pa,ga],[(0,((k:Nat):Int)),(0,0)],rfl,d _ _ M,hl,.cons ((O.trans G) _ _ C) (.cons (G _ _ F) .nil),?_,?_⟩
  .intro y o;rcases Mr.mp o with rfl|o
   .exact ji x
   .rw[Mo]at o;subst o;exact ji (n:=0) (by decide)
  left;refine aH (af.of (d _ _ i)) (v:=.int 0) (aM (j:=0) rfl) ?_;left;refine aH (af.of (d _ _ i)) (v:=.int (k:Nat)) (aM (j:=1) rfl) ?_;left;refine aE λpb H4 e4 I _=>?_;have e:=d.trans e4;left;refine⟨.ref B,pb,k,rfl,⟨B,t,rfl,e _ _ M,e _ _ Z⟩,I,x,u,tb.ext e,λl2 xs H5 e5 J L a0 hst=>?_⟩;have m:=e.et.trans e5;left;refine aH (af.of (m _ _ i (λps z=>by cases z))) (v:=.int 0) (aM (j:=2) rfl) ?_;have g:xs[0]?=Vo xs[0]:=Me (by omega);have R:=hst 0 _ g;generalize xs[0]=S at g R;refine aH (af.of L) (v:=S) (aM (j:=0) g) ?_;left;exact⟨S,_,_,_,_,rfl,R,n8 x 0,λH6 U=>q _ H6 (wX k (by omega)) (m.trans U.et) (J.ext U)⟩
abbrev pE:Vl:=stq 118
def yS:FnScope ["house","parts"] ["house","parts"] (aW pE):=⟨rfl,rfl,rfl,by decide +kernel,rfl,by decide +kernel,by decide +kernel⟩
def Km{P}{w}{mg}{base}(D:Dfn K mg "backward_ask" pE ["house","parts"])(T:Blt mg)(b:qY P w mg base)(c:uZ P w mg base)(a:kN P w mg base):Cal P w K mg base "backward_ask" 12 ["house","parts"] (sD K):=by
 refine D.ok yS (λvs H Q E h=>?_) (λX W H vs Q E h=>?_)
 .obtain⟨v,pt,n,rfl,_⟩:=h;rfl
 .obtain⟨f,cdv,A,outer,s,H0,E0,rfl,p⟩:=W;obtain⟨v,pt,n,rfl,hv,Y,r,i,u,tb,q⟩:=h;obtain⟨k,rfl,x⟩:=jY Y r;obtain⟨B,t,rfl,M,Z⟩:=jA hv;refine⟨_,(ah (bp (av a p (aa (pv 0) (aa (aK (aa (aX (aa (ai (aF K) (pv 1) ag (λ_ _=>rfl)) (aa (ai (aF K) (pv 1) ag (λ_ _=>rfl)) ae))) (aa (aX (aa (ai (aF K) (pv 1) ag (λ_ _=>rfl)) (aa ag ae))) ae))) ae))))
    (aj (az (av b p (aa (ai (aF K) (av c p (aa (pv 0) (aa (aX (aa (ai (aF K) (pv 1) ag (λ_ _=>rfl)) (aa (ai (aF K) (pv 1) ag (λ_ _=>rfl)) ae))) ae))) (ai (aF K) (pv 1) ag (λ_ _=>rfl)) (λ_ _=>rfl)) ae))))),?_⟩
  left;refine aH (af.of i) (v:=.int 0) (aM (j:=0) rfl) ?_;left;refine aH (af.of i) (v:=.int (k:Nat)) (aM (j:=1) rfl) ?_;left;refine aE λpa H1 N C _=>?_;left;refine aH (af.of (N _ _ i)) (v:=.int 0) (aM (j:=2) rfl) ?_;left;refine aE λga H2 O F _=>?_;left;refine aE λl H3 G hl _=>?_;have d:=N.trans (O.trans G);left;refine⟨B,.ref t,2,l,[pa,ga],[(0,((k:Nat):Int)),(0,0)],rfl,d _ _ M,hl,.cons ((O.trans G) _ _ C) (.cons (G _ _ F) .nil),?_,?_⟩
  .intro y o;rcases Mr.mp o with rfl|o
   .exact ji x
   .rw[Mo]at o;subst o;exact ji (n:=0) (by decide)
  left;refine aH (af.of (d _ _ i)) (v:=.int 0) (aM (j:=0) rfl) ?_;left;refine aH (af.of (d _ _ i)) (v:=.int (k:Nat)) (aM (j:=1) rfl) ?_;left;refine aE λpb H4 e4 I _=>?_;have e:=d.trans e4;left;refine⟨.ref B,pb,k,rfl,⟨B,t,rfl,e _ _ M,e _ _ Z⟩,I,x,u,tb.ext e,λl2 xs H5 e5 J L a0 hst=>?_⟩;have m:=e.et.trans e5;left;refine aH (af.of (m _ _ i (λps z=>by cases z))) (v:=.int 0) (aM (j:=2) rfl) ?_;have g:xs[0]?=Vo xs[0]:=Me (by omega);have R:=hst 0 _ g;generalize xs[0]=S at g R;refine aH (af.of L) (v:=S) (aM (j:=0) g) ?_;left;exact⟨S,_,_,_,_,rfl,R,n8 x 0,λH6 U=>q _ H6 (wX k (by omega)) (m.trans U.et) (J.ext U)⟩
abbrev sj:Vl:=stq 119
def AH:FnScope ["house","parts","told"] ["house","parts"] (aW sj):=⟨rfl,rfl,rfl,by decide +kernel,rfl,by decide +kernel,by decide +kernel⟩
def LC{P}{w}{mg}{base}(D:Dfn K mg "most_ask" sj ["house","parts"])(T:Blt mg)(a:rX P w mg base):Cal P w K mg base "most_ask" 12 ["house","parts"] (BU K):=by
 have nd:=(AH).nd;refine D.ok AH (λvs H Q E h=>?_) (λX o H vs Q E h=>?_)
 .obtain⟨v,pt,n,rfl,_⟩:=h;rfl
 .obtain⟨f,cdv,A,outer,s,B,E0,rfl,p⟩:=o;obtain⟨v,pt,n,rfl,hv,r,b,l,c,tb,q⟩:=h;obtain⟨k,rfl,x⟩:=jY r b;have hv:=jA hv;refine⟨_,(ah (aw (i:=2) nd rfl (Or.inl rfl) (av a p (aa (pv 0) (aa (aX (aa (ai (aF K) (pv 1) ag (λ_ _=>rfl)) (aa (ai (aF K) (pv 1) ag (λ_ _=>rfl)) ae))) ae))))
    (aj (az (jO (aP cM (ai (aA K) (pv 2) ag (λ_ _=>rfl)) ao (aN _)) (cX iw rfl T.str_ NK (aa (ai (aA K) (pv 2) ag (λ_ _=>rfl)) ae)) ao)))),?_⟩
  left;refine aH (af.of l) (aM rfl) ?_;left;refine aH (af.of l) (aM rfl) ?_;left;refine aE λy H1 d e _=>?_;left;refine⟨v,y,k,rfl,hv.ext d,e,x,c,tb.ext d,λt u H2 z g m=>?_⟩;left;refine aG (ak.of m) rfl ?_;left;refine fZ ?_;refine rd_exb (aD ?_);left;refine aG (ak.of m) rfl ?_;left;exact⟨_,rfl,ic (by omega) (by omega),q _ H2 (uK k (by omega)) (d.et.trans z) g⟩
abbrev rj:Vl:=stq 120
def zb:FnScope ["house","parts","told"] ["house","parts"] (aW rj):=⟨rfl,rfl,rfl,by decide +kernel,rfl,by decide +kernel,by decide +kernel⟩
def Jc{P}{w}{mg}{base}(D:Dfn K mg "fate_ask" rj ["house","parts"])(T:Blt mg)(a:BJ P w mg base):Cal P w K mg base "fate_ask" 13 ["house","parts"] (Cw K):=by
 have nd:=(zb).nd;refine D.ok zb (λvs H Q E h=>?_) (λX o H vs Q E h=>?_)
 .obtain⟨v,pt,n,rfl,_⟩:=h;rfl
 .obtain⟨f,cdv,A,outer,s,z,E0,rfl,p⟩:=o;obtain⟨v,pt,n,rfl,hv,r,b,l,c,tb,q⟩:=h;obtain⟨k,rfl,u⟩:=jY r b;have hv:=jA hv;refine⟨_,(ah (aw (i:=2) nd rfl (Or.inl rfl) (av a p (aa (pv 0) (aa (aX (aa (ai (aF K) (pv 1) ag (λ_ _=>rfl)) (aa (ai (aF K) (pv 1) ag (λ_ _=>rfl)) ae))) ae))))
    (aj (az (jO (aP cM (ai (aA K) (pv 2) ag (λ_ _=>rfl)) ao (aN _)) (cX iw rfl T.str_ NK (aa (ai (aA K) (pv 2) ag (λ_ _=>rfl)) ae)) ao)))),?_⟩
  left;refine aH (af.of l) (aM rfl) ?_;left;refine aH (af.of l) (aM rfl) ?_;left;refine aE λx H1 d e _=>?_;left;refine⟨v,x,k,rfl,hv.ext d,e,u,c,tb.ext d,λt H2 y g m=>?_⟩;left;refine aG (ak.of m) rfl ?_;left;refine fZ ?_;refine rd_exb (aD ?_);left;refine aG (ak.of m) rfl ?_;left;exact⟨_,rfl,ic (by decide) (by decide),q _ H2 (uK 0 (by decide)) (d.et.trans y) g⟩
abbrev qv:Vl:=stq 121
def za:FnScope ["house","parts","word"] ["house","parts"] (aW qv):=⟨rfl,rfl,rfl,by decide +kernel,rfl,by decide +kernel,by decide +kernel⟩
def DN{P}{w}{mg}{base}(D:Dfn K mg "word_ask" qv ["house","parts"])(T:Blt mg)(a:ya P w mg base):Cal P w K mg base "word_ask" 10 ["house","parts"] (ur K):=by
 have nd:=(za).nd;refine D.ok za (λvs H Q E h=>?_) (λX d H vs Q E h=>?_)
 .obtain⟨v,pt,n,rfl,_⟩:=h;rfl
 .obtain⟨f,cdv,A,outer,s,l,E0,rfl,e⟩:=d;obtain⟨v,pt,n,rfl,hv,m,g,b,k,tb,q⟩:=h;have hv:=jA hv;refine⟨_,(ah (aw (i:=2) nd rfl (Or.inl rfl) (av a e (aa (pv 0) (aa (ai (aF K) (pv 1) ag (λ_ _=>rfl)) (aa (ai (aF K) (pv 1) ag (λ_ _=>rfl)) ae)))))
    (aj (az (jO (aP oK (pv 2) hG (aN _)) ao (aB dD ao (pv 2)))))),?_⟩
  left;refine aH (af.of b) (aM rfl) ?_;left;refine aH (af.of b) (aM rfl) ?_;left;refine⟨v,rfl,hv,λH1 c=>?_⟩;left;refine⟨rfl,false,rfl,?_⟩;nofun;refine⟨("/":Vn),("":Vn),rfl,rfl,by decide +kernel,?_⟩;refine q _ H1 ?_ c.et (tb.ext c);decide +kernel
def eU{K:L8}(h:A0 K Vj x=Vo (Vo (.ref C))):cA K x=C:=by unfold cA;rw[h]
def o4(K:L8):Bool:=
 A0 K Vj "Desk" == Vo (Vo (.ref (cA K "Desk"))) && PH K (cA K "Desk") Ou && Pg K (cA K "Desk") && Qp K (cA K "Desk") &&
 L1 K (.ref (cA K "Desk")) "__setattr__" == Vo (Vo (.builtin "object.__setattr__")) && L1 K (.ref (cA K "Desk")) "house" == Vo Vp && L1 K (.ref (cA K "Desk")) "past" == Vo Vp && L1 K (.ref (cA K "Desk")) "undone" == Vo Vp &&
 QH K (cA K "Desk") && NJ K (.ref (cA K "Desk")) && (["rooms_deed","way_deed","close_deed","turn_deed","show_ask","reach_ask","forward_ask","backward_ask","most_ask","fate_ask","word_ask"]:List Vn).all λx=>A0 K Vj x == Vo (Vo (.ref (cA K x)))
def Ff{K:L8}{h:Vh}(X:K.In h)(G:h.Ns Vj mg)(b:o4 K=true):DeskK K mg/\mg "Desk" = Vo (.ref (cA K "Desk"))/\QH K (cA K "Desk")=true/\NJ K (.ref (cA K "Desk"))=true:=by unfold o4 at b;simp only[MM,beq_iff_eq,MJ]at b;obtain⟨⟨⟨⟨⟨⟨⟨⟨⟨⟨h1,h2⟩,a⟩,c⟩,d⟩,e⟩,f⟩,g⟩,i⟩,j⟩,k⟩:=b;exact⟨⟨⟨h2,a,c,d⟩,e,f,g,λx l=>NG X G (k x l)⟩,NG X G h1,i,j⟩
def mQ{K:L8}{C f:Vb}{m qual:Vn}{od an:Option Vb}{kV doc pm cdv ct:Va}(b:A0 K Vj "Desk" = Vo (Vo (.ref C)))(a:L1 K (.ref C) m=Vo (Vo (.ref f)))
  (l:K.lookup f=Vo ⟨oc,od,.func (NQ m qual (dH st) (cB st) (aW st) .none kV doc pm an cdv ct),osl⟩) (c:Nt K cdv qual=true) (k:NJ K (.ref f)=true) (i:OW K (.ref f)=true)
  (hb:Fun K m qual st f (NQ m qual (dH st) (cB st) (aW st) .none kV doc pm an cdv ct)->Binds K (NQ m qual (dH st) (cB st) (aW st) .none kV doc pm an cdv ct) ps []):MDfn K (cA K "Desk") m qual st ps:=by
 have F:=mJ (st:=st) l c k;exact⟨⟨f,_,⟨by rw[eU b];exact a,i,k⟩,F,hb F⟩⟩
def bQ(K:L8)(b:Vb)(ks:List Vn):Prop:=∃(od:Option Vb) (a:Array Va) (n:Nat) (sl:Array (Option Va)),K.lookup b=Vo ⟨.type "tuple",od,.seq a n,sl⟩/\a.size<=sizeLine/\Vals (ks.map V.str) a.toList
def bQ.sq{K:L8}(h:bQ K b ks)(H):ak K H b (ks.map V.str):=by obtain⟨od,a,n,sl,h1,h2,c⟩:=h;exact .inr ⟨_,a,n,h1,rfl,rfl,h2,c⟩
def qt(K:L8):List (Vn×Vb×List Vn)->Prop
 | []=>True
 | r::t=>bQ K r.2.1 r.2.2/\qt K t
def ko:List (Vn×Vb×List Vn)->Vn->Option (List Vn)
 | [],_=>Vp
 | r::t,z=>if z=r.1 then Vo r.2.2 else ko t z
theorem xT{K:L8}(z:Vn):∀{rows:List (Vn×Vb×List Vn)},qt K rows->match ko rows z with
  | some ks=>∃b,aZ (rows.map λr=>((.inr r.1:Key),V.ref r.2.1)) (.inr z)=Vo (.ref b)/\∀H,ak K H b (ks.map V.str)
  | none=>aZ (rows.map λr=>((.inr r.1:Key),V.ref r.2.1)) (.inr z)=Vp
 | [],_=>rfl
 | r::t,h=>by
  by_cases e:z=r.1
  .rw[show ko (r::t) z=Vo r.2.2 from M3 e];exact⟨r.2.1,by rw[NS,e];exact cQ rfl,h.1.sq⟩
  .rw[show ko (r::t) z=ko t z from M1 e,NS,dk (λx=>e (Nz x).symm)];exact xT z h.2
def Ld{K:L8}{b c d:Vb}{e f g i:Tok}(h:K.lookup a=Vo (fM w [("rooms",e,.ref r1),("way",f,.ref b),("close",g,.ref c),("turn",i,.ref d)] ep))(hs:(a == sysModules)=false)
  (j:A0 K Vj "rooms_deed" = Vo (Vo (.ref r1))) (k:A0 K Vj "way_deed" = Vo (Vo (.ref b))) (l:A0 K Vj "close_deed" = Vo (Vo (.ref c))) (m:A0 K Vj "turn_deed" = Vo (Vo (.ref d))):GDict w K a (iM K):=by
 obtain rfl:=eU j;obtain rfl:=eU k;obtain rfl:=eU l;obtain rfl:=eU m;exact⟨⟨_,_,h,.cons ⟨rfl,rfl⟩ (.cons ⟨rfl,rfl⟩ (.cons ⟨rfl,rfl⟩ (.cons ⟨rfl,rfl⟩ .nil)))⟩,(show([.inr "rooms",.inr "way",.inr "close",.inr "turn"]:List Key).Nodup by decide +kernel),hs⟩
def Kt{K:L8}{b c d e r6 f:Vb}{g i j k l m n:Tok}(h:K.lookup a=Vo (fM w [("show",g,.ref r1),("reach",i,.ref b),("forward",j,.ref c),("backward",k,.ref d),("most",l,.ref e),("fate",m,.ref r6),("word",n,.ref f)] ep))(hs:(a == sysModules)=false)
  (o:A0 K Vj "show_ask" = Vo (Vo (.ref r1))) (p:A0 K Vj "reach_ask" = Vo (Vo (.ref b))) (q:A0 K Vj "forward_ask" = Vo (Vo (.ref c))) (r:A0 K Vj "backward_ask" = Vo (Vo (.ref d))) (s:A0 K Vj "most_ask" = Vo (Vo (.ref e))) (u:A0 K Vj "fate_ask" = Vo (Vo (.ref r6))) (v:A0 K Vj "word_ask" = Vo (Vo (.ref f))):GDict w K a (eV K):=by
 obtain rfl:=eU o;obtain rfl:=eU p;obtain rfl:=eU q;obtain rfl:=eU r;obtain rfl:=eU s;obtain rfl:=eU u;obtain rfl:=eU v;exact⟨⟨_,_,h,.cons ⟨rfl,rfl⟩ (.cons ⟨rfl,rfl⟩ (.cons ⟨rfl,rfl⟩ (.cons ⟨rfl,rfl⟩ (.cons ⟨rfl,rfl⟩ (.cons ⟨rfl,rfl⟩ (.cons ⟨rfl,rfl⟩ .nil))))))⟩,(show([.inr "show",.inr "reach",.inr "forward",.inr "backward",.inr "most",.inr "fate",.inr "word"]:List Key).Nodup by decide +kernel),hs⟩
def DJ{K:L8}{b0 b1 e b3 f g i j k l b c d:Vb}{u v x y A B C E F G m n o:Tok}(h:K.lookup a=Vo (fM w [("rooms",u,.ref b0),("way",v,.ref b1),("close",x,.ref e),("turn",y,.ref b3),("undo",A,.ref f),("redo",B,.ref g),("show",C,.ref i),("reach",E,.ref j),("forward",F,.ref k),("backward",G,.ref l),("most",m,.ref b),("fate",n,.ref c),("word",o,.ref d)] ep))(hs:(a == sysModules)=false)
  (H:bQ K b0 ["many"]) (I:bQ K b1 ["number","deed","number","sign"]) (J:bQ K e ["number","deed","number","sign"]) (L:bQ K b3 []) (M:bQ K f []) (N:bQ K g []) (O:bQ K i []) (P:bQ K j ["number","number","number","number"]) (Q:bQ K k ["number","number","number"]) (S:bQ K l ["number","number","number"]) (p:bQ K b ["number","number"]) (q:bQ K c ["number","number"]) (s:bQ K d ["number","number"]):∃kvs,GDict w K a kvs/\vf K kvs:=by
 have R:qt K [("rooms",b0,["many"]),("way",b1,["number","deed","number","sign"]),("close",e,["number","deed","number","sign"]),("turn",b3,[]),("undo",f,[]),("redo",g,[]),("show",i,[]),("reach",j,["number","number","number","number"]),("forward",k,["number","number","number"]),("backward",l,["number","number","number"]),("most",b,["number","number"]),("fate",c,["number","number"]),("word",d,["number","number"])]:=⟨H,I,J,L,M,N,O,P,Q,S,p,q,s,trivial⟩;refine⟨([("rooms",b0,["many"]),("way",b1,["number","deed","number","sign"]),("close",e,["number","deed","number","sign"]),("turn",b3,[]),("undo",f,[]),("redo",g,[]),("show",i,[]),("reach",j,["number","number","number","number"]),("forward",k,["number","number","number"]),("backward",l,["number","number","number"]),("most",b,["number","number"]),("fate",c,["number","number"]),("word",d,["number","number"])]:List (Vn×Vb×List Vn)).map (λ(r:Vn×Vb×List Vn)=>((.inr r.1:Key),V.ref r.2.1)),⟨⟨_,_,h,.cons ⟨rfl,rfl⟩ (.cons ⟨rfl,rfl⟩ (.cons ⟨rfl,rfl⟩ (.cons ⟨rfl,rfl⟩ (.cons ⟨rfl,rfl⟩ (.cons ⟨rfl,rfl⟩ (.cons ⟨rfl,rfl⟩ (.cons ⟨rfl,rfl⟩ (.cons ⟨rfl,rfl⟩ (.cons ⟨rfl,rfl⟩ (.cons ⟨rfl,rfl⟩ (.cons ⟨rfl,rfl⟩ (.cons ⟨rfl,rfl⟩ .nil))))))))))))⟩,(show([.inr "rooms",.inr "way",.inr "close",.inr "turn",.inr "undo",.inr "redo",.inr "show",.inr "reach",.inr "forward",.inr "backward",.inr "most",.inr "fate",.inr "word"]:List Key).Nodup by decide +kernel),hs⟩,λz=>?_⟩;exact xT z R
def DD{K:L8}{xs:List V}(h:af K H a xs):∃zs:List (Vb×HO),(∀z∈zs,H z.1=Vo z.2/\∀ps,z.2≠.tbl ps)/\∀H',(∀z∈zs,H' z.1=Vo z.2)->af K H' a xs:=by
 rcases h with(h|⟨od,h⟩)|h
 .exact⟨[(a,.lst xs)],λz b=>by rw[Mo.mp b];exact⟨h,λps e=>by cases e⟩,λH' c=>.inl (.inl (c _ (.head _)))⟩
 .exact⟨[(a,.frz od (.lst xs))],λz b=>by rw[Mo.mp b];exact⟨h,λps e=>by cases e⟩,λH' c=>.inl (.inr ⟨od,c _ (.head _)⟩)⟩
 .exact⟨[],λz b=>(nomatch b),λH' _=>.inr h⟩
def TwoD.had{K:L8}{d:Hp}{dB:Dk}{zs:List (Vb×HO)}(T:TwoD K H p l1 l2 dA q m1 m2 dB [])(e:Ext d H)(f:∀z∈zs,d z.1=Vo z.2/\∀ps,z.2≠.tbl ps)(i:∀c∈bO p l1 l2,d c=Vp)(h1:∀c∈bO q m1 m2,d c=Vp):TwoD K H p l1 l2 dA q m1 m2 dB zs:=
 ⟨T.a,T.b,T.n,λz h=>⟨e _ _ (f z h).1,(λg=>by
  have:=(f z h).1;rw[i _ g]at this;cases this),(λg=>by
  have:=(f z h).1;rw[h1 _ g]at this;cases this)⟩,λz h=>(f z h).2,T.tb⟩
def wU:Way:=⟨0,"up",1,"a"⟩
def wD:Way:=⟨1,"down",0,"b"⟩
def bR:Dk:=⟨(1,[]),[],[]⟩
def fk:Dk:=⟨(2,[]),[(1,[])],[]⟩
def qZ:Dk:=⟨(2,[wU]),[(1,[]),(2,[])],[]⟩
def cL:Dk:=⟨(2,[wU,wD]),[(1,[]),(2,[]),(2,[wU])],[]⟩
def gh:Nat->Dk
 | 0=>bR
 | 1=>fk
 | 2=>qZ
 | _=>cL
def gK:Nat->Cmd
 | 0=>.rooms 2
 | 1=>.way wU
 | _=>.way wD
def nN:("rooms 2":Vn)=Cmd.line (gK 0)/\("way 0 up 1 a":Vn)=Cmd.line (gK 1)/\("way 1 down 0 b":Vn)=Cmd.line (gK 2):=by decide +kernel
def xZ(i):(gK i).Ok:=by
 match i with
 | 0=>exact(by decide:(1:Int)<=2/\(2:Int)<=12)
 | 1=>exact⟨by decide,by decide,by decide,by decide,.inl rfl,⟨97,by decide,by decide,rfl⟩⟩
 | i+2=>exact⟨by decide,by decide,by decide,by decide,.inr (.inl rfl),⟨98,by decide,by decide,rfl⟩⟩
def xX{d:Dk}{w:Way}{h:HV}(e:dF d.cur w=.ok h):bB d (.way w)=.ok (aV h.1 h.2,d.doD h):=by show(match dF d.cur w with|.error z=>Except.error z|.ok h=>Except.ok (aV h.1 h.2,d.doD h))=_;rw[e]
def xU{h:HV}{w:Way}(r:w.room<h.1/\w.other<h.1)(n:w∉h.2)(l:h.2.length<100):dF h w=.ok (h.1,h.2++[w]):=by unfold dF;rw[M1 (λz=>z r),M1 n,M1 (by omega)]
def Jw(hi:i<3):bB (gh i) (gK i)=.ok (aV (gh (i+1)).cur.1 (gh (i+1)).cur.2,gh (i+1)):=by
 match i,hi with
 | 0,_=>rfl
 | 1,_=>
  rfl
 | 2,_=>
  rfl
def jP:aV 1 []=("1:":Vn)/\aV 2 [wU,wD]=("2: 0 up 1 a, 1 down 0 b":Vn):=by decide +kernel
def c8:(PyData.str "1:").canLay0=true/\(PyData.str "2: 0 up 1 a, 1 down 0 b").canLay0=true/\(PyData.str "told").canLay0=true/\(PyData.str "refused").canLay0=true/\(PyData.str "NoLine").canLay0=true:=by decide +kernel
def DT(a b):M8 (.tuple [.str a,.str b]) (.tuple [.str a,.str b])=true:=by simp[M8,OB]
def Dn(z):M8 (.tuple [.str "told",.str z]) (.tuple [.str "refused",.str "NoLine"])=false:=by
 have:¬(("told":Vn) = "refused"):=by decide +kernel
 simp[M8,OB,this]
def DP(h:¬nm = "NoLine"):M8 (.tuple [.str "refused",.str nm]) (.tuple [.str "refused",.str "NoLine"])=false:=by simp[M8,OB,h]
def resB(d:Dk)(c:Cmd):Bool:=match bB d c with|.ok (z,_)=>(PyData.str z).canLay0|.error nm=>nm != "NoLine" && (PyData.str nm).canLay0
def GV:∀n<13,∀a<14,resB fk (dS n a)=true:=by decide +kernel
def K3{a:Nat}(d:n<13)(ha:a<14){r:Except Vn (Vn×Dk)}(h:nF fk (dS n a) r):(∃nm,r=.error nm/\¬nm = "NoLine"/\(PyData.str nm).canLay0=true)\/∃z d',r=.ok (z,d')/\(PyData.str z).canLay0=true:=by
 have hb:=GV n d a ha;have go:r=bB fk (dS n a)->(∃nm,r=.error nm/\¬nm = "NoLine"/\(PyData.str nm).canLay0=true)\/∃z d',r=.ok (z,d')/\(PyData.str z).canLay0=true:=λe=>by
  unfold resB at hb;rw[<-e]at hb;cases r with
  | error nm=>
   rw[MM]at hb;exact .inl ⟨nm,rfl,λz=>by rw[z]at hb;simp at hb,hb.2⟩
  | ok x=>exact .inr ⟨x.1,x.2,rfl,hb⟩
 generalize dS n a=c at h go;cases c with
 | ask a b=>
  obtain⟨y,f,rfl⟩:=h;exact .inr ⟨y,fk,rfl,f⟩
 | rooms n=>exact go h
 | way w=>exact go h
 | close w=>exact go h
 | turn=>exact go h
 | undo=>exact go h
 | redo=>exact go h
 | «show»=>exact go h
def JS{K:L8}{a:Nat}(c:n<13)(b:dU K)(tb:Tbs K H):kY K H fk (dS n a):=by
 have m:∀{h ns},CG h ns->kY K H fk (.ask h ns):=λh=>⟨rfl,h,b,tb⟩
 match a with
 | 0=>trivial
 | 1=>trivial
 | 2=>trivial
 | 3=>trivial
 | 4=>trivial
 | 5=>trivial
 | 6=>trivial
 | 7=>exact m ⟨n,by omega,by omega,.inl ⟨rfl,rfl⟩⟩
 | 8=>exact m ⟨n,by omega,by omega,.inr (.inl ⟨rfl,rfl⟩)⟩
 | 9=>exact m ⟨n,by omega,by omega,.inr (.inr (.inl ⟨rfl,rfl⟩))⟩
 | 10=>exact m ⟨n,by omega,by omega,.inr (.inr (.inr (.inl ⟨rfl,rfl⟩)))⟩
 | 11=>exact m ⟨n,by omega,by omega,.inr (.inr (.inr (.inr (.inl ⟨rfl,rfl⟩))))⟩
 | 12=>exact m ⟨0,by omega,by omega,.inr (.inr (.inr (.inr (.inr ⟨rfl,rfl⟩))))⟩
 | a+13=>trivial
structure FourD(K:L8)(H:Hp)(p l1 l2 q m1 m2:Vb)(xs:List (Vb×HO))(x x1 x2:Vb)(dx:Dk)(y y1 y2:Vb)(dy:Dk):Prop where
 t:TwoD K H p l1 l2 bR q m1 m2 cL xs
 u:TwoD K H x x1 x2 dx y y1 y2 dy []
 bx:iy x x1 x2 p l1 l2 q m1 m2 xs
 bw:iy y y1 y2 p l1 l2 q m1 m2 xs
theorem FourD.swap{K:L8}{H:Hp}{p l1 l2 q m1 m2:Vb}{xs:List (Vb×HO)}{x x1 x2:Vb}{dx:Dk}{y y1 y2:Vb}{dy:Dk}(F:FourD K H p l1 l2 q m1 m2 xs x x1 x2 dx y y1 y2 dy):FourD K H p l1 l2 q m1 m2 xs y y1 y2 dy x x1 x2 dx:=⟨F.t,F.u.swap,F.bw,F.bx⟩
theorem FourD.ext{K:L8}{H H':Hp}{p l1 l2 q m1 m2:Vb}{xs:List (Vb×HO)}{x x1 x2:Vb}{dx:Dk}{y y1 y2:Vb}{dy:Dk}(e:Ext H H')(F:FourD K H p l1 l2 q m1 m2 xs x x1 x2 dx y y1 y2 dy):FourD K H' p l1 l2 q m1 m2 xs x x1 x2 dx y y1 y2 dy:=⟨F.t.ext e,F.u.ext e,F.bx,F.bw⟩
theorem FourD.step{K:L8}{H H':Hp}{p l1 l2 q m1 m2:Vb}{xs:List (Vb×HO)}{x x1 x2 b:Vb}{dx d':Dk}{y y1 y2:Vb}{dy:Dk}(F:FourD K H p l1 l2 q m1 m2 xs x x1 x2 dx y y1 y2 dy)(c:b=x2\/H b=Vp)(D:DkAt K H' x x1 b d')(fr:Fr K H H' x x1 x2):FourD K H' p l1 l2 q m1 m2 xs x x1 b d' y y1 y2 dy:=by obtain⟨T,B⟩:=F.t.other F.bx F.u.a c fr;exact⟨T,F.u.step c D fr,B,F.bw⟩
def uA{K:L8}(T:TwoD K H p l1 l2 bR q m1 m2 cL xs){j:Nat}{w:V}(h:([.ref p,.ref q]:List V)[j]?=Vo w):∃X x1 x2 c,w=.ref X/\DkAt K H X x1 x2 c/\c.past.length<=10000/\c.und.length<=10000:=by
 match j,h with
 | 0,h=>cases h;exact⟨_,_,_,_,rfl,T.a,by decide,by decide⟩
 | 1,h=>cases h;exact⟨_,_,_,_,rfl,T.b,by decide,by decide⟩
 | j+2,h=>simp at h
inductive j3(K:L8)(vs:List V)(H:Hp)(Q:VK)(E:XK):Prop|mk:∀(a:Vb) (ns:List Int),vs=[.ref a]->af K H a (ns.map V.int)->ns.length<=63->(∀y∈(["kept","low_levels","risen"]:List Vn),∀c T,Na K y=Vo (c,T)->H T=Vo (.tbl #[]))->dU K->(∀H',Q (.bl true) H')->j3 K vs H Q E
abbrev gR:Vl:=stq 136
def yK:FnScope ["_law_script","_law_desks","_law_line","_law_shown","_law_bad_here","_law_first","_law_desk","_law_k","_law_good_here","_law_lines"] ["_law_script"] (aW gR):=⟨rfl,rfl,rfl,by decide +kernel,rfl,by decide +kernel,by decide +kernel⟩
def Dz{f:Vb}(F:Fun K "law" "law" gR f fd)(T:Blt mg)(TD:DeskK K mg)(o:MkD P w K mg base "Desk" 1 (ny K))(m:wI P w mg base)(d:oH P w mg base)(J:yI P w mg base)(e:tD P w mg base)(M:wc P w mg base)(W:tL P w mg base)(R:ke P w mg base)(Y:Ct P w mg base):FnOk P w K mg base cW 17 f fd ["_law_script"] (j3 K):=by
 have nd:=(yK).nd;refine F.ok yK (λvs H Q E h=>?_) (λcdv A outer s H vs Q E I h=>?_)
 .obtain⟨a,ns,rfl,_⟩:=h;rfl
 .obtain⟨a,ns,rfl,ha,hlen,a2,bi,q⟩:=h;have an:Tbs K H:=⟨λc T h=>.inl (a2 _ (by simp) c T h),λc T h=>.inl (a2 _ (by simp) c T h),λc T h=>.inl (a2 _ (by simp) c T h)⟩;clear a2;obtain⟨zs,ap,hsq⟩:=DD ha;refine⟨_,(@ah _ _ _ _ _ (@aw _ _ 1 _ _ _ _ nd rfl (Or.inl rfl) (@aK _ _ _ _ (@aa _ _ _ _ _ (mj o I) (@aa _ _ _ _ _ (mj o I) ae rfl) rfl)) rfl (Or.inl rfl))
    (@ah _ _ _ _ _ (bJ F2 rfl (bG K (@aK _ _ _ _ (@aa _ _ _ _ _ ao (@aa _ _ _ _ _ ao (@aa _ _ _ _ _ ao ae rfl) rfl) rfl))) (aI (i:=2) nd rfl (Or.inr rfl)) (@aj _ _ _ (bp (av d I (@aa _ _ _ _ _ (@ai _ _ _ _ _ _ _ (aF K) (pv 1) ag (λ_ _=>rfl)) (@aa _ _ _ _ _ (pv 2) ae rfl) rfl)))))
    (@ah _ _ _ _ _ (@aw _ _ 3 _ _ _ _ nd rfl (Or.inl rfl) (@aK _ _ _ _ (@aa _ _ _ _ _ ao (@aa _ _ _ _ _ ao ae rfl) rfl)) rfl (Or.inl rfl))
    (@ah _ _ _ _ _ (@aw _ _ 4 _ _ _ _ nd rfl (Or.inl rfl) (xl Y I) rfl (Or.inl rfl))
    (@ah _ _ _ _ _ (@aw _ _ 5 _ _ _ _ nd rfl (Or.inl rfl) (@ai _ _ _ _ _ _ _ (aF K) (av R I (@aa _ _ _ _ _ (av e I (@aa _ _ _ _ _ (pv 0) (@aa _ _ _ _ _ ag ae rfl) rfl)) (@aa _ _ _ _ _ (@aK _ _ _ _ (@aa _ _ _ _ _ (aR (cw K) rfl T.len_ L0 (@aa _ _ _ _ _ (pv 4) ae rfl)) ae rfl)) (@aa _ _ _ _ _ ag ae rfl) rfl) rfl)) ag (λ_ _=>rfl)) rfl (Or.inl rfl))
    (@ah _ _ _ _ _ (bJ F2 rfl (bG K (eM (gn K) (aB bE (pv 4) (pv 4)) (dW (pv 5)) (dW (aB dz (pv 5) ag)))) (aI (i:=2) nd rfl (Or.inr rfl)) (@aj _ _ _ (bJ F2 rfl (bG K (pv 1)) (aI (i:=6) nd rfl (Or.inl rfl)) (@aj _ _ _ (@ba _ _ _ _ _ _ _ _ (aP (jE I) (av d I (@aa _ _ _ _ _ (pv 6) (@aa _ _ _ _ _ (pv 2) ae rfl) rfl)) (@aX _ _ _ _ _ (@aa _ _ _ _ _ ao (@aa _ _ _ _ _ ao ae rfl) rfl)) (aN _)) (@aj _ _ _ (@az _ _ _ _ bW)) aT)))))
    (@ah _ _ _ _ _ (bJ F2 rfl (sI rfl T.range_ (@aa _ _ _ _ _ ag (@aa _ _ _ _ _ (aR (tW rfl) rfl T.max_ OQ (@aa _ _ _ _ _ ag (@aa _ _ _ _ _ (aR (K1 rfl) rfl T.min_ PyProof.Rows.boot_min (@aa _ _ _ _ _ ag (@aa _ _ _ _ _ (aR (cw K) rfl T.len_ L0 (@aa _ _ _ _ _ (pv 0) ae rfl)) ae rfl) rfl)) ae rfl) rfl)) ae rfl) rfl)) (aI (i:=7) nd rfl (Or.inl rfl)) (@ah _ _ _ _ _ (@aw _ _ 8 _ _ _ _ nd rfl (Or.inl rfl) (av W I (@aa _ _ _ _ _ (av e I (@aa _ _ _ _ _ (pv 0) (@aa _ _ _ _ _ (pv 7) ae rfl) rfl)) (@aa _ _ _ _ _ ag ae rfl) rfl)) rfl (Or.inl rfl))
    (@ah _ _ _ _ _ (@aw _ _ 9 _ _ _ _ nd rfl (Or.inl rfl) (@aK _ _ _ _ (@aa _ _ _ _ _ (av M I (@aa _ _ _ _ _ (pv 8) (@aa _ _ _ _ _ (av e I (@aa _ _ _ _ _ (pv 0) (@aa _ _ _ _ _ (pv 7) ae rfl) rfl)) (@aa _ _ _ _ _ ag ae rfl) rfl) rfl)) (@aa _ _ _ _ _ (av J I (@aa _ _ _ _ _ (pv 8) (@aa _ _ _ _ _ (av e I (@aa _ _ _ _ _ (pv 0) (@aa _ _ _ _ _ (pv 7) ae rfl) rfl)) (@aa _ _ _ _ _ ag ae rfl) rfl) rfl)) ae rfl) rfl)) rfl (Or.inl rfl))
    (@ah _ _ _ _ _ (bJ F2 rfl (bG K (pv 9)) (aI (i:=2) nd rfl (Or.inr rfl)) (@aj _ _ _ (@ba _ _ _ _ _ _ _ _ (aP (jE I) (bM ["_law_desk"] [2] (bG K (pv 1)) (λ_=>(aI (i:=0) (show(["_law_desk","_law_line"]:List Vn).Nodup from by decide +kernel) rfl (Or.inl rfl) (Or.inr rfl))) (λ_=>ck) (λ_=>(av d I (@aa _ _ _ _ _ (pv 0) (@aa _ _ _ _ _ (pv 1) ae rfl) rfl)))) (aB qQ (@aK _ _ _ _ (@aa _ _ _ _ _ (@aX _ _ _ _ _ (@aa _ _ _ _ _ ao (@aa _ _ _ _ _ ao ae rfl) rfl)) ae rfl)) ag) (aN _)) (@aj _ _ _ (@az _ _ _ _ bW)) aT)))
    (@ah _ _ _ _ _ (@ba _ _ _ _ _ _ _ _ (cj (bF (av m I (@aa _ _ _ _ _ (pv 1) (@aa _ _ _ _ _ (pv 3) ae rfl) rfl)))) (@aj _ _ _ (@az _ _ _ _ bW)) aT)
    (@aj _ _ _ (bJ F2 rfl (fY K (@aX _ _ _ _ _ (@aa _ _ _ _ _ (mj o I) (@aa _ _ _ _ _ (mj o I) ae rfl) rfl))) (aI (i:=6) nd rfl (Or.inl rfl)) (@ah _ _ _ _ _ (bp (av d I (@aa _ _ _ _ _ (pv 6) (@aa _ _ _ _ _ ao ae rfl) rfl)))
    (@aj _ _ _ (@ba _ _ _ _ _ _ _ _ (aP (Bt I) (av d I (@aa _ _ _ _ _ (pv 6) (@aa _ _ _ _ _ (pv 8) ae rfl) rfl)) (@aX _ _ _ _ _ (@aa _ _ _ _ _ ao (@aa _ _ _ _ _ ao ae rfl) rfl)) (aN _)) (@aj _ _ _ (@az _ _ _ _ bW)) aT))))))))))
    (@aj _ _ _ (@az _ _ _ _ (av m I (@aa _ _ _ _ _ (pv 1) (@aa _ _ _ _ _ (pv 3) ae rfl) rfl))))))))))),?_⟩
  left;intro p dx hp O hne;refine⟨p,dx,rfl,ay,λl1 l2 H1 n1 n2 D fr=>⟨rfl,?_⟩⟩;obtain⟨e1,k1,k2⟩:=lV hp O n1 n2 fr;clear fr n1 n2 hne O;left;intro B bl a3 O hne;refine⟨B,bl,rfl,ay,λm1 m2 H2 n1 n2 D' fr=>⟨rfl,?_⟩⟩;obtain⟨e2,k3,k4⟩:=lV a3 O n1 n2 fr;clear fr n1 n2 hne O;have a5:=e1.trans e2;have T:=(TwoD.mk2 D e2 a3 k3 k4 D' (an.ext a5)).had a5 ap (λc hc=>by
   simp only[bO,Mr,MI,or_false]at hc;rcases hc with rfl|rfl|rfl<;>assumption) (λc hc=>by
   simp only[bO,Mr,MI,or_false]at hc;rcases hc with rfl|rfl|rfl
   .exact e1.none a3
   .exact e1.none k3
   .exact e1.none k4)
  clear D D' e1 e2 a5 hp a3 k1 k2 k3 k4 an ha ap;left;refine aE λL H3 e3 hL nL=>?_;have T:=T.put e3 nL hL (λps z=>by cases z);clear e3 hL nL;left;refine aE λll H4 e4 ar as=>?_;have T:=T.put e4 as ar (λps z=>by cases z);clear e4 ar as;refine bI (af.of (T.k _ (.head _)).1) ?_;refine forL (xs:=[.str "rooms 2",.str "way 0 up 1 a",.str "way 1 down 0 b"]) (λi σ H'=>∃k1 l,TwoD K H' p l1 l2 bR B m1 l (gh i) ((ll,.lst [.str "rooms 2",.str "way 0 up 1 a",.str "way 1 down 0 b"])::(L,.lst [.ref p,.ref B])::zs)/\σ=[Vo (.ref a),Vo (.ref L),k1,Vp,Vp,Vp,Vp,Vp,Vp,Vp]) ⟨_,m2,T,rfl⟩ (λi σ H' _ h=>by obtain⟨_,_,T,_⟩:=h;exact af.of (T.k _ (.head _)).1) ?_ ?_
  .rintro i v σ H5 hv ⟨k1,l,T,rfl⟩;have hi:i<3:=(Mm.mp hv).1;obtain⟨z,rfl,hz⟩:∃z,v=.str z/\z=Cmd.line (gK i):=by
    match i,hi,hv with
    | 0,_,hv=>cases hv;exact⟨_,rfl,nN.1⟩
    | 1,_,hv=>cases hv;exact⟨_,rfl,nN.2.1⟩
    | 2,_,hv=>cases hv;exact⟨_,rfl,nN.2.2⟩
   have hc:kY K H5 (gh i) (gK i)/\(∀r,nF (gh i) (gK i) r->r=bB (gh i) (gK i))/\(gh i).past.length<=10000/\(gh i).und.length<=10000:=by
    match i,hi with
    | 0,_=>exact⟨trivial,λr h=>h,by decide,by decide⟩
    | 1,_=>exact⟨trivial,λr h=>h,by decide,by decide⟩
    | 2,_=>exact⟨trivial,λr h=>h,by decide,by decide⟩
   left;refine aH (af.of (T.k _ (.tail _ (.head _))).1) (v:=.ref B) (aM (j:=1) rfl) ?_;left;refine i5 hz T.b (xZ i) hc.1 hc.2.1 hc.2.2.1 hc.2.2.2 ?_;rw[Jw hi];intro t l3 H6 h3 D6 fr ht;exact⟨_,l3,(T.swap.step h3 D6 fr).swap,rfl⟩
  rintro σ H5 ⟨k1,l,T,rfl⟩;have T:=T.sub (ys:=(L,.lst [.ref p,.ref B])::zs) λy hy=>.tail _ hy;have T:TwoD K H5 p l1 l2 bR B m1 l cL ((L,.lst [.ref p,.ref B])::zs):=T;left;refine aE λS H6 e6 hS nS=>?_;have T:=T.put e6 nS hS (λps z=>by cases z);have T:=T.sub (ys:=(L,.lst [.ref p,.ref B])::(S,.lst (shown bR cL))::zs) λy hy=>by
   rcases Mr.mp hy with rfl|hy
   .exact .tail _ (.head _)
   rcases Mr.mp hy with rfl|hy
   .have:shown bR cL=[.str "1:",.str "2: 0 up 1 a, 1 down 0 b"]:=by show[V.str (aV 1 []),V.str (aV 2 [wU,wD])]=_;rw[jP.1,jP.2]
    rw[this];exact .head _
   .exact .tail _ (.tail _ hy)
  clear e6 hS nS;left;refine⟨rfl,λlb bs H7 e7 a6 bm a4=>?_⟩;have T:=T.ext e7;left;refine⟨a,ns,_,rfl,hsq _ λz hz=>(T.k z (.tail _ (.tail _ hz))).1,hlen,by omega,λc3=>?_⟩;left;refine dn (af.of a6) ?_;left;rw[Mc,bm];refine aE λcd HA f1 b0 _=>?_;left;refine lM [81] b0 (by decide) (by decide) (by decide) λce b1 HB f2 bn b2 a0 a1=>?_;obtain⟨x0,rfl⟩:∃x0,b1=[x0]:=by
   match b1,a0 with
   | [x0],_=>exact⟨x0,rfl⟩
  have y0:=a1 0 _ _ rfl rfl;obtain⟨n,rfl⟩:∃n:Nat,x0=(n:Int):=⟨x0.toNat,by omega⟩;have hl:=(f1.trans f2) _ _ a6;have T:=T.ext (f1.trans f2);clear a1 a0 b2 b0 f1 f2 e7;left;refine aH (af.of bn) (v:=.int (n:Int)) rfl ?_;left;refine dm hl hl (aS (by rw[Mc];omega)) (bu λC HC f3 a0 _=>?_);left;refine gX (af.of a0) (bu λl3 HD f4 a7 b3=>?_);obtain⟨us,b4,bv,b5⟩:∃us:List Vn,cn (bs.map V.str++bs.map V.str) (Vo ((n:Nat):Int)) (Vo (((n:Nat):Int)+16))=us.map V.str/\us.length<=162/\∀u∈us,bS (M4 u " ")=false/\u.length<=100:=by
   rw[<-Mt];unfold cn;rw[<-List.map_drop,<-Rt];refine⟨_,rfl,?_,λu hu=>?_⟩
   .rw[MV,N8,Mu];omega
   .rcases MA.mp (O9 (OZ hu))with h|h<;>exact a4 u h
  rw[b4]at a7;have T:=(T.ext f3).put f4 b3 a7 (λps z=>by cases z);clear b4 a4 a0 a6 f3 f4 hl b3 a7;refine bI (af.of (T.k _ (.head _)).1) ?_;refine forL (xs:=us.map V.str) (λi σ H'=>∃k1 k2,TwoD K H' p l1 l2 bR B m1 l cL ((l3,.lst (us.map V.str))::(L,.lst [.ref p,.ref B])::(S,.lst (shown bR cL))::zs)/\σ=[Vo (.ref a),Vo (.ref L),k1,Vo (.ref S),Vo (.ref lb),Vo (.int (n:Int)),k2,Vp,Vp,Vp]) ⟨_,_,T,rfl⟩ (λi σ H' _ h=>by obtain⟨_,_,T,_⟩:=h;exact af.of (T.k _ (.head _)).1) ?_ ?_
  .clear T;rintro i v σ H5 hv ⟨k1,k2,T,rfl⟩;rw[Mf]at hv;obtain⟨u,hu,rfl⟩:=Mp.mp hv;obtain⟨ub,ul⟩:=b5 u (Mn hu);left;refine bI (af.of (T.k _ (.tail _ (.head _))).1) ?_;refine forL (xs:=[.ref p,.ref B]) (λj σ H'=>∃k2,TwoD K H' p l1 l2 bR B m1 l cL ((l3,.lst (us.map V.str))::(L,.lst [.ref p,.ref B])::(S,.lst (shown bR cL))::zs)/\σ=[Vo (.ref a),Vo (.ref L),Vo (.str u),Vo (.ref S),Vo (.ref lb),Vo (.int (n:Int)),k2,Vp,Vp,Vp]) ⟨_,T,rfl⟩ (λi σ H' _ h=>by obtain⟨_,T,_⟩:=h;exact af.of (T.k _ (.tail _ (.head _))).1) ?_ ?_
   .rintro j w σ H6 hw ⟨k2,T,rfl⟩;obtain⟨X,x1,x2,dX,rfl,D,f1,f2⟩:=uA T hw;left;refine vg ub D (by omega) f1 f2 λt H7 e7 ht=>?_;left;refine aE λu2 H8 e8 bw _=>?_;refine⟨1,1,_,_,ed (e8 _ _ ht) c8.2.2.2.1 c8.2.2.2.2,ed bw c8.2.2.2.1 c8.2.2.2.2,by decide,?_⟩;rw[DT];refine rd_exb (aC ?_);left;exact⟨_,T.ext (e7.trans e8),rfl⟩
   .rintro σ H6 ⟨k2,T,rfl⟩;exact⟨_,_,T,rfl⟩
  clear T b5 bv;rintro σ H5 ⟨k1,k2,T,rfl⟩;have T:=T.sub (ys:=(L,.lst [.ref p,.ref B])::(S,.lst (shown bR cL))::zs) λy hy=>.tail _ hy;left;refine dn (hsq _ λz hz=>(T.k z (.tail _ (.tail _ hz))).1) ?_;left;refine xg ⟨by decide,by decide,by split<;>(try split)<;>omega,by split<;>(try split)<;>omega⟩ ?_;have hN:((if(if((M5 V.int ns).length:Int)<24 then((M5 V.int ns).length:Int)else 24)>6 then(if((M5 V.int ns).length:Int)<24 then((M5 V.int ns).length:Int)else 24)else 6)-1:Int).toNat<=23:=by split<;>(try split)<;>omega
  generalize Qc _=N at hN ⊢;refine forR (λi σ H'=>∃C l k1 k2 k3 k4 k5,TwoD K H' p l1 C bR B m1 l cL ((L,.lst [.ref p,.ref B])::(S,.lst (shown bR cL))::zs)/\σ=[Vo (.ref a),Vo (.ref L),k1,Vo (.ref S),Vo (.ref lb),Vo (.int (n:Int)),k2,k3,k4,k5]) ⟨_,_,_,_,Vp,Vp,Vp,T,rfl⟩ ?_ ?_
  .clear T;rintro i σ H5 hi ⟨C,l,k1,k2,k3,k4,k5,T,rfl⟩;left;refine⟨a,ns,_,rfl,hsq _ λz hz=>(T.k z (.tail _ (.tail _ hz))).1,hlen,by omega,λc=>?_⟩;left;refine⟨_,_,rfl,by decide,λg a' H6 hg bx e6=>?_⟩;have T:=T.ext e6;left;refine⟨a,ns,_,rfl,hsq _ λz hz=>(T.k z (.tail _ (.tail _ hz))).1,hlen,by omega,λc1=>?_⟩;left;refine⟨_,_,_,rfl,mE hg,by decide,λz1 H7 e7 b6 b7=>?_⟩;have T:=T.ext e7;left;refine⟨a,ns,_,rfl,hsq _ λz hz=>(T.k z (.tail _ (.tail _ hz))).1,hlen,by omega,λc2=>?_⟩;left;refine⟨_,_,_,rfl,mE hg,by decide,λz2 H8 e8 b8 a1=>?_⟩;have T:=T.ext e8;left;refine aE λln H9 e9 a8 c0=>?_;have T:=T.ext e9;clear e6 e7 e8 e9 c0;left;refine bI (af.of a8) ?_;refine forL (xs:=[.str z1,.str z2]) (λj σ H'=>Ext H9 H'/\∃k1,σ=[Vo (.ref a),Vo (.ref L),k1,Vo (.ref S),Vo (.ref lb),Vo (.int (n:Int)),k2,Vo (.int (1+(i:Int))),Vo (.str (dS g a').line),Vo (.ref ln)]) ⟨Ext.rfl' _,_,rfl⟩ (λi σ H' _ h=>af.of (h.1 _ _ a8)) ?_ ?_
   .rintro j v σ HA hv ⟨eA,k1,rfl⟩;obtain⟨z,rfl,hz,hb⟩:∃z,v=.str z/\z.length<=1000/\bS (M4 z " ")=false:=by
     match j,hv with
     | 0,hv=>cases hv;exact⟨_,rfl,b6,b7⟩
     | 1,hv=>cases hv;exact⟨_,rfl,b8,a1⟩
     | j+2,hv=>simp at hv
    have TA:=T.ext eA;left;refine bI (af.of (TA.k _ (.head _)).1) ?_;refine fb (xs:=[V.ref p,V.ref B]) (λi ys H'=>Ext HA H'/\∃ts,ys=M5 V.ref ts/\ts.length=i/\∀t∈ts,H' t=Vo (.tup [.str "refused",.str "NoLine"])) (aS (by simp)) ⟨Ext.rfl' _,[],rfl,rfl,λt h=>(nomatch h)⟩ (λi ys H' hi h=>⟨af.of ((TA.ext h.1).k _ (.head _)).1,by obtain⟨_,ts,rfl,hl,_⟩:=h;rw[Mc,hl];exact Mw _⟩) ?_ ?_
    .rintro j' w ys HB hw ⟨eB,ts,rfl,hl,hts⟩;have TB:=TA.ext eB;obtain⟨X,x1,x2,dX,rfl,D,f1,f2⟩:=uA TB hw;left;right;refine vg hb D hz f1 f2 λt HC Z ht=>?_;refine⟨eB.trans Z,ts++[t],by rw[Mt];rfl,by rw[Mu,hl];rfl,λt' h=>?_⟩;rcases MA.mp h with h|h
     .exact Z _ _ (hts t' h)
     .rw[Mo.mp h];exact ht
    rintro ys HB c1 ⟨eB,ts,rfl,hl,hts⟩ c4;obtain⟨t0,t1,rfl⟩:∃t0 t1,ts=[t0,t1]:=by
     match ts,hl with
     | [t0,t1],_=>exact⟨_,_,rfl⟩
    have g0:=hts t0 (.head _);have g1:=hts t1 (.tail _ (.head _));have Z:Ext HB (upd HB c1 (.lst (M5 V.ref [t0,t1]))):=aO c4;have hC:upd HB c1 (.lst (M5 V.ref [t0,t1])) c1=Vo (.lst [.ref t0,.ref t1]):=ay;generalize upd HB c1 (.lst (M5 V.ref [t0,t1]))=HC at Z hC ⊢;left;refine aE λu HD eD hu _=>?_;left;refine aE λlu HE eE c5 _=>?_;left;refine rm c5 (by omega) (aS (by simp)) (bu λlw HF eF a9 _=>?_);have a9:HF lw=Vo (.lst [.ref u,.ref u]):=a9;have e3:=eD.trans (eE.trans eF);have hu:=(eE.trans eF) _ _ hu;have hC:=e3 _ _ hC;have g0:=(Z.trans e3) _ _ g0;have g1:=(Z.trans e3) _ _ g1;have rep:∀{c a b:Vb},HF c=Vo (.lst [.ref a,.ref b])->HF a=Vo (.tup [.str "refused",.str "NoLine"])->HF b=Vo (.tup [.str "refused",.str "NoLine"])->aQ HF 2 (.ref c) (.list [.tuple [.str "refused",.str "NoLine"],.tuple [.str "refused",.str "NoLine"]]):=λ{c a b} hc ha hb=>
     .inr ⟨c,_,_,rfl,.inr ⟨hc,rfl⟩,.cons (ed ha c8.2.2.2.1 c8.2.2.2.2) (.cons (ed hb c8.2.2.2.1 c8.2.2.2.2) .nil)⟩
    refine⟨2,2,_,_,rep hC g0 g1,rep a9 hu hu,by decide,?_⟩;rw[show M8 (.list [.tuple [.str "refused",.str "NoLine"],.tuple [.str "refused",.str "NoLine"]]) (.list [.tuple [.str "refused",.str "NoLine"],.tuple [.str "refused",.str "NoLine"]])=true by simp[M8,OB]];refine rd_exb (aC ?_);left;exact⟨eA.trans (eB.trans (Z.trans e3)),_,rfl⟩
   rintro σ HA ⟨eA,k1,rfl⟩;have T:=T.ext eA;clear eA a8 b6 b7 b8 a1;left;refine⟨L,S,p,l1,C,bR,B,m1,l,cL,zs,rfl,T,rfl,by decide,by decide,by decide,rfl,?_,?_,λC l HB T=>?_⟩
   .show(PyData.str (aV 1 [])).canLay0=true;rw[jP.1];exact c8.1
   .show(PyData.str (aV 2 [wU,wD])).canLay0=true;rw[jP.2];exact c8.2.1
   refine⟨_,rfl,aC ?_⟩;left;intro r c6 I O hne;refine⟨r,c6,rfl,ay,λr1 r2 HC n1 n2 D fr=>⟨rfl,?_⟩⟩;obtain⟨Z,b9,bb⟩:=lV I O n1 n2 fr;clear fr n1 n2 hne O;left;intro s c7 hs O hne;refine⟨s,c7,rfl,ay,λs1 s2 HD n1 n2 D' fr=>⟨rfl,?_⟩⟩;obtain⟨eD,ab,ac⟩:=lV hs O n1 n2 fr;clear fr n1 n2 hne O;have F:FourD K HD p l1 C B m1 l ((L,.lst [.ref p,.ref B])::(S,.lst (shown bR cL))::zs) r r1 r2 bR s s1 s2 bR:=⟨T.ext (Z.trans eD),TwoD.mk2 D eD hs ab ac D' (T.tb.ext (Z.trans eD)),iy.mk T I b9 bb,iy.mk T (Z.none hs) (Z.none ab) (Z.none ac)⟩;clear T D D' Z eD I b9 bb hs ab ac;left;refine aE λtt HE eE U _=>?_;have F:=F.ext eE;clear eE;refine fW (ak.of U) ?_;refine rT (xs:=[.ref r,.ref s]) (λj σ H'=>∃r2 s2 dr ds k2,FourD K H' p l1 C B m1 l ((L,.lst [.ref p,.ref B])::(S,.lst (shown bR cL))::zs) r r1 r2 dr s s1 s2 ds/\(j=0->dr=bR)/\(j<=1->ds=bR)/\H' tt=Vo (.tup [.ref r,.ref s])/\σ=[Vo (.ref a),Vo (.ref L),k1,Vo (.ref S),Vo (.ref lb),Vo (.int (n:Int)),k2,Vo (.int (1+(i:Int))),Vo (.str (dS g a').line),Vo (.ref ln)]) ⟨_,_,_,_,_,F,λ_=>rfl,λ_=>rfl,U,rfl⟩ (λi σ H' _ h=>by obtain⟨_,_,_,_,_,_,_,_,h,_⟩:=h;exact ak.of h) ?_ ?_
   .clear F U;rintro j w σ HF hw ⟨r2,s2,dr,ds,k2,F,c9,be,U,rfl⟩;obtain⟨x,x1,x2,y,y1,y2,dy,rfl,F,back⟩:∃x x1 x2 y y1 y2 dy,w=.ref x/\FourD K HF p l1 C B m1 l ((L,.lst [.ref p,.ref B])::(S,.lst (shown bR cL))::zs) x x1 x2 bR y y1 y2 dy/\∀x3 dx H',FourD K H' p l1 C B m1 l ((L,.lst [.ref p,.ref B])::(S,.lst (shown bR cL))::zs) x x1 x3 dx y y1 y2 dy->∃r2 s2 dr ds,FourD K H' p l1 C B m1 l ((L,.lst [.ref p,.ref B])::(S,.lst (shown bR cL))::zs) r r1 r2 dr s s1 s2 ds/\(j+1=0->dr=bR)/\(j+1<=1->ds=bR):=by
     match j,hw with
     | 0,hw=>
      cases hw;obtain rfl:=c9 rfl;obtain rfl:=be (LI _);exact⟨r,r1,r2,s,s1,s2,_,rfl,F,λx3 dx H' G=>⟨x3,s2,dx,_,G,λh=>absurd h (OI _),λ_=>rfl⟩⟩
     | 1,hw=>
      cases hw;obtain rfl:=be (Mw _);exact⟨s,s1,s2,r,r1,r2,_,rfl,F.swap,λx3 dx H' G=>⟨r2,x3,_,dx,G.swap,λh=>absurd h (OI _),λh=>absurd h (by omega)⟩⟩
     | j+2,hw=>simp at hw
    left;refine i5 (c:=.rooms 2) nN.1 F.u.a (xZ 0) trivial (λr h=>h) (by decide) (by decide) ?_;rw[show bB bR (.rooms 2)=.ok (aV 2 [],fk)from rfl];intro t l3 HG h3 DG fr ht;have U:=(F.u.tk fr) _ _ U;have G:=F.step h3 DG fr;clear F fr DG h3 ht;left;refine⟨x,x1,l3,fk,(dS g a').line,rfl,G.u.a,by have:=Cmd.line_len (mE (a:=a') hg);omega,by decide,by decide,_,.inl ⟨dS g a',rfl,mE hg,JS hg bi G.u.tb,rfl⟩,λrr ca=>?_⟩;rcases K3 hg bx ca with⟨nm,rfl,hne,ad⟩|⟨z,d',rfl,ad⟩
    .intro t2 HH eH am;left;refine aE λu HI eI hu _=>?_;refine⟨1,1,_,_,ed (eI _ _ am) c8.2.2.2.1 ad,ed hu c8.2.2.2.1 c8.2.2.2.2,by decide,?_⟩;rw[DP hne];refine rd_exb (aC ?_);left;obtain⟨r2,s2,dr,ds,G,c1,c2⟩:=back _ _ _ (G.ext (eH.trans eI));exact⟨r2,s2,dr,ds,_,G,c1,c2,(eH.trans eI) _ _ U,rfl⟩
    .intro t2 l4 HH h4 DH fr am;have U:=(G.u.tk fr) _ _ U;have G:=G.step h4 DH fr;left;refine aE λu HI eI hu _=>?_;refine⟨1,1,_,_,ed (eI _ _ am) c8.2.2.1 ad,ed hu c8.2.2.2.1 c8.2.2.2.2,by decide,?_⟩;rw[Dn];refine rd_exb (aC ?_);left;obtain⟨r2,s2,dr,ds,G,c1,c2⟩:=back _ _ _ (G.ext eI);exact⟨r2,s2,dr,ds,_,G,c1,c2,eI _ _ U,rfl⟩
   .rintro σ HF ⟨r2,s2,dr,ds,k2,F,_,_,_,rfl⟩;exact⟨C,l,_,_,_,_,_,F.t,rfl⟩
  clear T;rintro σ H6 ⟨C,l,k1,k2,k3,k4,k5,T,rfl⟩;left;refine⟨L,S,p,l1,C,bR,B,m1,l,cL,zs,rfl,T,rfl,by decide,by decide,by decide,rfl,?_,?_,λC l HB T=>q HB⟩
  .show(PyData.str (aV 1 [])).canLay0=true;rw[jP.1];exact c8.1
  .show(PyData.str (aV 2 [wU,wD])).canLay0=true;rw[jP.2];exact c8.2.1
abbrev Dq(K:L8)(mg:Vn->Option Va)(x:Vn)(st:Vl):Prop:=∃(f:Vb) (fd:Vm),mg x=Vo (.ref f)/\Fun K x x st f fd
def dq{K}{h}{mg}(X:K.In h)(G:h.Ns Vj mg){x}{st}{f}{od an}{sl}{oc kV b pm cd ct}(a:A0 K Vj x=Vo (Vo (.ref f)))(l:K.lookup f=Vo ⟨oc,od,.func (NQ x x (dH st) (cB st) (aW st) .none kV b pm an cd ct),sl⟩)(c:Nt K cd x=true)(k:NJ K (.ref f)=true):Dq K mg x st:=⟨f,_,NG X G a,mJ l c k⟩
abbrev bd(x:Vn)(st:Vl)(us:List Va)(r:List (Vn×Va)):Prop:=∀(kV doc pm:Va) (an:Option Vb) (cdv ct:Va),bindArgs (NQ x x (dH st) (cB st) (aW st) .none kV doc pm an cdv ct) ⟨us,[]⟩=pure r
def bP{K:L8}{mg:Vn->Option Va}{x:Vn}{st:Vl}{b:Vn}(d:Dq K mg x st)(h:∀c,bd x st [c] [(b,c)]:=by(repeat intro _);rfl):Dfn K mg x st [b]:=let ⟨f,fd,a,F⟩:=d;⟨f,fd,a,F,F.binds λ_ _ _ _ _ _ us e=>match us,e with|[_],_=>h _ _ _ _ _ _ _⟩
def bz{K:L8}{mg:Vn->Option Va}{x:Vn}{st:Vl}{b c:Vn}(d:Dq K mg x st)(h:∀e g,bd x st [e,g] [(b,e),(c,g)]:=by(repeat intro _);rfl):Dfn K mg x st [b,c]:=let ⟨f,fd,a,F⟩:=d;⟨f,fd,a,F,F.binds λ_ _ _ _ _ _ us i=>match us,i with|[_,_],_=>h _ _ _ _ _ _ _ _⟩
def dJ{K:L8}{mg:Vn->Option Va}{x:Vn}{st:Vl}{b c p2:Vn}(d:Dq K mg x st)(h:∀e g i,bd x st [e,g,i] [(b,e),(c,g),(p2,i)]:=by(repeat intro _);rfl):Dfn K mg x st [b,c,p2]:=let ⟨f,fd,a,F⟩:=d;⟨f,fd,a,F,F.binds λ_ _ _ _ _ _ us j=>match us,j with|[_,_,_],_=>h _ _ _ _ _ _ _ _ _⟩
def vO{K:L8}{mg:Vn->Option Va}{x:Vn}{st:Vl}{b c p2 e:Vn}(d:Dq K mg x st)(h:∀g i j k,bd x st [g,i,j,k] [(b,g),(c,i),(p2,j),(e,k)]:=by(repeat intro _);rfl):Dfn K mg x st [b,c,p2,e]:=let ⟨f,fd,a,F⟩:=d;⟨f,fd,a,F,F.binds λ_ _ _ _ _ _ us l=>match us,l with|[_,_,_,_],_=>h _ _ _ _ _ _ _ _ _ _⟩
def all_mk{l:PySem.W.OpenLaw}{K:L8}{h:Vh}(eK:K=_root_.My.K)(X:K.In h)(G:h.Ns Vj mg)(g7:mg "law" = Vo (.ref fa))
  (d0:Dq K mg "way_text" AG)
  (d1:Dq K mg "is_sign" Bm)
  (d2:Dq K mg "is_deed" yC)
  (d3:Dq K mg "is_whole" uL)
  (d4:Dq K mg "is_room" wZ)
  (d5:Dq K mg "is_way" vQ)
  (d6:Dq K mg "are_ways" Ce)
  (d7:Dq K mg "is_house" Aw)
  (d8:Dq K mg "refuse_no_house" zV)
  (d9:Dq K mg "shown_house" BO)
   (nD:A0 K Vj "Desk" = Vo (Vo (.ref CD))) (hdk:o4 K=true)
  {m:Vb}    (g8:L1 K (.ref CD) "undo" = Vo (Vo (.ref m))) (g9:K.lookup m=Vo ⟨b5,b2,.func (NQ "undo" "Desk.undo" (dH jV) (cB jV) (aW jV) .none b6 b7 b8 b3 u b9),b4⟩) (ga:Nt K u "Desk.undo" = true) (gb:NJ K (.ref m)=true) (gc:OW K (.ref m)=true)
  {n:Vb}    (gd:L1 K (.ref CD) "redo" = Vo (Vo (.ref n))) (ge:K.lookup n=Vo ⟨bl,bb,.func (NQ "redo" "Desk.redo" (dH jG) (cB jG) (aW jG) .none bm bn bv be x bw),bi⟩) (gf:Nt K x "Desk.redo" = true) (gi:NJ K (.ref n)=true) (gk:OW K (.ref n)=true)
  {o:Vb}   {c2 c3 c4 c5 z c6:Va} (gl:L1 K (.ref CD) "do" = Vo (Vo (.ref o))) (go:K.lookup o=Vo ⟨c2,bx,.func (NQ "do" "Desk.do" (dH jI) (cB jI) (aW jI) .none c3 c4 c5 c0 z c6),c1⟩) (gp:Nt K z "Desk.do" = true) (gs:NJ K (.ref o)=true) (gt:OW K (.ref o)=true)
  (gu:Dq K mg "rooms_deed" B4)
  (gv:Dq K mg "way_deed" oA)
  (gw:Dq K mg "close_deed" pQ)
  (gx:Dq K mg "turned_way" wV)
  (gz:Dq K mg "turned_about" BS)
  (h0:Dq K mg "turn_deed" A8)
  (h1:Dq K mg "show_ask" B3)
  (h2:Dq K mg "walk_back" vd)
  (h3:Dq K mg "counts_by_room" B0)
  (h4:Dq K mg "greatest_met" CA)
  (h5:Dq K mg "found_from" ug)
  (h6:Dq K mg "sought_walk" CH)
  (h7:Dq K mg "refuse_bad_places" v8)
  (h8:Dq K mg "shortest" tQ)
  (h9:Dq K mg "reach_ask" pP)
  (ha:Dq K mg "row_words" wy)
  (hb:Dq K mg "refuse_great_stair" yM)
  (hc:Dq K mg "is_rising_row" uJ)
  (hd:Dq K mg "are_stair_places" uG)
  (he:Dq K mg "is_stair" v9)
  (hf:Dq K mg "refuse_no_stair" zA)
  (hg:Dq K mg "refuse_bad_stair" AN)
  (hh:Dq K mg "shown_stair" sS)
  (hi:Dq K mg "least_step" zq)
  (hj:Dq K mg "stair_of_marks" B6)
  (hk:Dq K mg "stair_of_room" vY)
  (hm:Dq K mg "next_level" wu)
  (hn:Dq K mg "reached" oR)
  (ho:Dq K mg "told_pairs" qf)
  (hp:Dq K mg "add_arches" zO)
  (hq:Dq K mg "join_walks" vS)
  (hr:Dq K mg "ways_of_deed" An)
  (hs:Dq K mg "beginning_table" zE)
  (ht:Dq K mg "kept_table" yq)
  (hu:Dq K mg "kept" qk)
  (hw:Dq K mg "ways_by_room" A4)
  (hx:Dq K mg "led_to_from" wY)
  (hy:Dq K mg "low_beside" AS)
  (hz:Dq K mg "low_levels" qr)
  (i0:Dq K mg "risen" rO)
  (i1:Dq K mg "all_levels" B8)
  (i2:Dq K mg "forward" vE)
  (ih:Dq K mg "forward_ask" og)
  (ii:Dq K mg "backward" AI)
  (im:Dq K mg "backward_ask" pE)
  (io:Dq K mg "holds" xI)
  (is:Dq K mg "unbounded_goals" yb)
  (iv:Dq K mg "greatest" tZ)
  (j0:Dq K mg "most_ask" sj)
  (j1:Dq K mg "places_ahead" BB)
  (j2:Dq K mg "known_ranks" sN)
  (jp:Dq K mg "steps_by_place" AM)
  (js:Dq K mg "fate" zW)
  (k0:Dq K mg "fate_ask" rj)
  (k1:Dq K mg "share_one" BD)
  (k2:Dq K mg "alone_at_zero" BA)
  (k3:Dq K mg "ways_by_sign" tu)
  (k4:Dq K mg "words_of_length" rQ)
  (k5:Dq K mg "places_to_end" xn)
  (k7:Dq K mg "refuse_bad_rooms" v7)
  (k8:Dq K mg "first_word" vt)
  (k9:Dq K mg "word_ask" qv)
  (kb:Dq K mg "is_number_word" Cg)
  (kc:Dq K mg "value_of" vW)
  (kk:Dq K mg "is_word_of" wL)
  (kl:Dq K mg "is_line" wx)
   {c7 c9:Option Vb}  {cd ce cf cg A ch:Va} (kn:L1 K (.ref CD) "tell" = Vo (Vo (.ref p))) (kp:K.lookup p=Vo ⟨cd,c7,.func (NQ "tell" "Desk.tell" (dH jJ) (cB jJ) (aW jJ) .none ce cf cg c9 A ch),ca⟩) (kq:Nt K A "Desk.tell" = true) (ks:NJ K (.ref p)=true) (kt:OW K (.ref p)=true)
  (kv:Dq K mg "_law_tell" uB)
  (kw:Dq K mg "_law_steady" vX)
  {d:Vb} {ci cl:Option Vb}  {co cp cr cs B ct:Va} (kx:L1 K (.ref CD) "__init__" = Vo (Vo (.ref d))) (l0:K.lookup d=Vo ⟨co,ci,.func (NQ "__init__" "Desk.__init__" (dH jK) (cB jK) (aW jK) .none cp cr cs cl B ct),cm⟩) (l1:Nt K B "Desk.__init__" = true) (l2:NJ K (.ref d)=true) (l3:OW K (.ref d)=true)
  (l4:Dq K mg "_law_signs" oo)
  (l5:Dq K mg "_law_mixed" wd)
  (l6:Dq K mg "_law_draws" xB)
  (l7:Dq K mg "_law_put_in" vx)
  (l8:Dq K mg "_law_cell" wO)
  (l9:Dq K mg "_law_spoilt" BV)
  (la:Dq K mg "_law_good" AE)
  (lb:Dq K mg "_law_bad" rq)
   {cv C:Option Vb}  {db E H I g J:Va} (lc:A0 K Vj "law" = Vo (Vo (.ref ab))) (ld:K.lookup ab=Vo ⟨db,cv,.func (NQ "law" "law" (dH gR) (cB gR) (aW gR) .none E H I C g J),da⟩) (le:Nt K g "law" = true) (lf:NJ K (.ref ab)=true)
  (z0:A0 K Vj "len" = Vo Vp)
  (z1:A0 K Vj "isinstance" = Vo Vp)
  (z2:A0 K Vj "tuple" = Vo Vp)
  (z3:A0 K Vj "list" = Vo Vp)
  (z4:A0 K Vj "int" = Vo Vp)
  (z5:A0 K Vj "bool" = Vo Vp)
  (z6:A0 K Vj "range" = Vo Vp)
  (z7:A0 K Vj "zip" = Vo Vp)
  (z8:A0 K Vj "max" = Vo Vp)
  (z9:A0 K Vj "min" = Vo Vp)
  (li:A0 K Vj "abs" = Vo Vp)
  (lk:A0 K Vj "all" = Vo Vp)
  (ll:A0 K Vj "ValueError" = Vo Vp)
  (lm:A0 K Vj "enumerate" = Vo Vp)
  (ln:A0 K Vj "set" = Vo Vp)
  (lo:A0 K Vj "str" = Vo Vp)
  (lq:A0 K Vj "reversed" = Vo Vp)
  (lr:A0 K Vj "any" = Vo Vp)
  (ls:A0 K Vj "sorted" = Vo Vp)
   (v0:A0 K Vj "GREATEST_WAYS" = Vo (Vo (.int 100 t0)))
   (v1:A0 K Vj "GREATEST_MANY" = Vo (Vo (.int 12 t1)))
   (v2:A0 K Vj "GREATEST_NUMBER" = Vo (Vo (.int 1000 t2)))
   (v3:A0 K Vj "GREATEST_STEP" = Vo (Vo (.int 840 t3)))
   (v4:A0 K Vj "GREATEST_BASE" = Vo (Vo (.int 3000 t4)))
   (v5:A0 K Vj "FIGURES" = Vo (Vo (.str "0123456789" t5)))
   (v6:A0 K Vj "MOST_FIGURES" = Vo (Vo (.int 6 t6)))
     (x0:A0 K Vj "TURNED" = Vo (Vo (.ref e0))) (y0:K.lookup e0=Vo (fM w [("up",dc,.str "down" dd),("down",df,.str "up" dl),("stay",dp,.str "stay" dr),("zero",ds,.str "zero" dt)] lu)) (w0:(e0 == sysModules)=false)
  {e1 L M N O P Q R S U Y i j k:Vb}   (x1:A0 K Vj "LINES" = Vo (Vo (.ref e1))) (y1:K.lookup e1=Vo (fM w [("rooms",du,.ref L),("way",dx,.ref M),("close",dy,.ref N),("turn",e4,.ref O),("undo",e5,.ref P),("redo",e6,.ref Q),("show",e7,.ref R),("reach",e8,.ref S),("forward",e9,.ref U),("backward",ea,.ref Y),("most",ac,.ref i),("fate",ad,.ref j),("word",am,.ref k)] lv)) (w1:(e1 == sysModules)=false) (eb:bQ K L ["many"]) (ec:bQ K M ["number","deed","number","sign"]) (eg:bQ K N ["number","deed","number","sign"]) (ei:bQ K O []) (ej:bQ K P []) (ek:bQ K Q []) (el:bQ K R []) (em:bQ K S ["number","number","number","number"]) (en:bQ K U ["number","number","number"]) (ep:bQ K Y ["number","number","number"]) (an:bQ K i ["number","number"]) (ap:bQ K j ["number","number"]) (ar:bQ K k ["number","number"])
  {e2 Z a0 a1 a2:Vb}   (x2:A0 K Vj "DEEDS" = Vo (Vo (.ref e2))) (y2:K.lookup e2=Vo (fM w [("rooms",er,.ref Z),("way",es,.ref a0),("close",ev,.ref a1),("turn",ew,.ref a2)] lw)) (w2:(e2 == sysModules)=false) (ex:A0 K Vj "rooms_deed" = Vo (Vo (.ref Z))) (ey:A0 K Vj "way_deed" = Vo (Vo (.ref a0))) (ez:A0 K Vj "close_deed" = Vo (Vo (.ref a1))) (f0:A0 K Vj "turn_deed" = Vo (Vo (.ref a2)))
     (x3:A0 K Vj "ASKS" = Vo (Vo (.ref e3))) (y3:K.lookup e3=Vo (fM w [("show",f1,.ref a3),("reach",f2,.ref a4),("forward",f3,.ref a5),("backward",f4,.ref a6),("most",f5,.ref a7),("fate",f6,.ref a8),("word",f7,.ref a9)] lz)) (w3:(e3 == sysModules)=false) (f8:A0 K Vj "show_ask" = Vo (Vo (.ref a3))) (fc:A0 K Vj "reach_ask" = Vo (Vo (.ref a4))) (fe:A0 K Vj "forward_ask" = Vo (Vo (.ref a5))) (ff:A0 K Vj "backward_ask" = Vo (Vo (.ref a6))) (fl:A0 K Vj "most_ask" = Vo (Vo (.ref a7))) (fn:A0 K Vj "fate_ask" = Vo (Vo (.ref a8))) (fp:A0 K Vj "word_ask" = Vo (Vo (.ref a9)))
  (hxf:sx K fK fC=true)
  : ∃fd,(∀s v,BindsTo s fd ⟨[v],[]⟩ [("_law_script",v)])/\∀base,K.In base->base.Ns Vj mg->(∀y∈(["kept","low_levels","risen"]:List Vn),∃c T,Tab K mg base y c T)->FnOk l.prog w K mg base cW 17 fa fd ["_law_script"] (j3 K):=by
 subst eK;have e:=g7.symm.trans (NG X G lc);cases e;have T:Blt mg:=⟨M6 X G z0,M6 X G z1,M6 X G z2,M6 X G z3,M6 X G z4,M6 X G z5,M6 X G z6,M6 X G z7,M6 X G z8,M6 X G z9,M6 X G li,M6 X G lk,M6 X G ll,M6 X G lm,M6 X G ln,M6 X G lo,M6 X G lq,M6 X G lr,M6 X G ls⟩;have m0:Dfn _root_.My.K mg "kept" qk ["house"]:=bP hu;have m1:Dfn _root_.My.K mg "low_levels" qr ["house","place"]:=bz hz;have m2:Dfn _root_.My.K mg "risen" rO ["house"]:=bP i0;have m3:Dfn _root_.My.K mg "words_of_length" rQ ["house","p","to_end","length","many"]:=let ⟨f,fd,a,F⟩:=k4;⟨f,fd,a,F,F.binds (ps:=["house","p","to_end","length","many"]) λ_ _ _ _ _ _ us b=>match us,b with|[_,_,_,_,_],_=>rfl⟩;have m4:Dfn _root_.My.K mg "_law_signs" oo []:=let ⟨f,fd,a,F⟩:=l4;⟨f,fd,a,F,F.binds (ps:=[]) λ_ _ _ _ _ _ us b=>match us,b with|[],_=>rfl⟩;have m5:Dfn _root_.My.K mg "_law_bad" rq []:=let ⟨f,fd,a,F⟩:=lb;⟨f,fd,a,F,F.binds (ps:=[]) λ_ _ _ _ _ _ us b=>match us,b with|[],_=>rfl⟩;refine⟨NQ "law" "law" (dH gR) (cB gR) (aW gR) .none E H I C g J,λs v=>.of_eq rfl,λbase KB GB HB=>?_⟩;have XF:Xf K mg base fK fC:=Kg KB GB hxf;obtain⟨TD,m6,m7,m8⟩:=Ff X G hdk;have C0:=@E3 l.prog w mg base (bP d0) T;have C1:=@Hu l.prog w mg base (bP d1) T;have C2:=@ES l.prog w mg base (bP d2) T ⟨_,NG X G x0,yw y0 w0⟩;have C3:=@Fp l.prog w mg base (bP d3) T;have C4:=@Fn l.prog w mg base (bz d4) T C3;have C5:=@FV l.prog w mg base (bz d5) T C1 C2 C4;have C6:=@EM l.prog w mg base (bz d6) T ⟨_,NG X G v0⟩ C5;have C7:=@Iz l.prog w mg base (bP d7) T ⟨_,NG X G v1⟩ C6 C3;have C8:=@KI l.prog w mg base (bP d8) T C7;have C9:=@Eg l.prog w mg base (bP d9) T C0 C8;have mb:MetX l.prog w K mg base (cA K "Desk") "undo" 1 ["self"] (mn K):=Ir (mQ (st:=jV) nD g8 g9 ga gb gc λF=>F.binds (ps:=["self"]) λ_ _ _ _ _ _ us b=>match us,b with|[_],_=>rfl) T XF TD;have mc:MetX l.prog w K mg base (cA K "Desk") "redo" 1 ["self"] (mI K):=LP (mQ (st:=jG) nD gd ge gf gi gk λF=>F.binds (ps:=["self"]) λ_ _ _ _ _ _ us b=>match us,b with|[_],_=>rfl) T XF TD;have mm:MetX l.prog w K mg base (cA K "Desk") "do" 1 ["self","house"] (mZ K):=Hf (mQ (st:=jI) nD gl go gp gs gt λF=>F.binds (ps:=["self","house"]) λ_ _ _ _ _ _ us b=>match us,b with|[_,_],_=>rfl) T TD;have mo:=@HX l.prog w mg base (bz gu) T;have mp:CalX l.prog w K mg base "way_deed" 3 ["house","parts"] (mH K):=Fz (bz gv) T ⟨_,NG X G v0⟩ XF C4;have ms:CalX l.prog w K mg base "close_deed" 1 ["house","parts"] (nj K):=GZ (bz gw) T XF;have mt:=@IW l.prog w mg base (bP gx) T ⟨_,NG X G x0,yw y0 w0⟩;have as:=@IL l.prog w mg base (bP gz) T mt C8;have mu:=@FD l.prog w mg base (bz h0) T as;have mv:=@EK l.prog w mg base (bz h1) T C9;have n0:=@DV l.prog w mg base (bz h2) T;have fv:=@Lz l.prog w mg base (bP h3) T;have n1:=@CT l.prog w mg base (dJ h4) T;have n2:=@DK l.prog w mg base (dJ h5) T fv n1;have fx:=@LA l.prog w mg base (dJ h6) T n0 n2;have q:=@EA l.prog w mg base (bz h7) T ⟨_,NG X G v2⟩ C4;have fy:=@IH l.prog w mg base (dJ h8) T fx q C8;have n3:=@Lo l.prog w mg base (bz h9) T fy;have n4:=@Hv l.prog w mg base (bP ha) T;have n5:=@Lq l.prog w mg base (bP hb) T ⟨_,NG X G v3⟩ ⟨_,NG X G v4⟩;have n6:=@Er l.prog w mg base (dJ hc) T C3;have n7:=@Hs l.prog w mg base (vO hd) T n6 C3;have n9:=@Fh l.prog w mg base (bP he) T n7;have na:=@Lc l.prog w mg base (bP hf) T n9;have fz:=@Jh l.prog w mg base (bP hg) T n5 na;have g0:=@Jq l.prog w mg base (bP hh) T n4 fz;have nb:=@KQ l.prog w mg base (bP hi) T;have nc:=@CV l.prog w mg base (bz hj) T nb;have nd:=@Dr l.prog w mg base (dJ hk) T nc;have ne:=@Ka l.prog w mg base (bz hm) T;have nf:=@F6 l.prog w mg base (bz hn) T;have g1:=@Fy l.prog w mg base (bz ho) T;have ni:=@Ha l.prog w mg base (dJ hp) T;have nl:=@Gq l.prog w mg base (bP hq) T;have b0:=@Ib l.prog w mg base (bz hr) T;have nm:=@GU l.prog w mg base (bP hs) T b0;have g2:=@DZ l.prog w mg base (bP ht) T ni nl b0 nm;obtain⟨pg,pi,nn⟩:=HB "kept" (by simp);have no:Cal l.prog w _root_.My.K mg base "kept" 7 ["house"] (pj _root_.My.K):=JG m0 T nn g1 g2 C8;have np:=@Fg l.prog w mg base (bP hw) T;have nq:=@CM l.prog w mg base (bz hx) T;have nr:=@K9 l.prog w mg base (vO hy) T nq;obtain⟨pk,pl,ns⟩:=HB "low_levels" (by simp);have nt:Cal l.prog w _root_.My.K mg base "low_levels" 8 ["house","place"] (oO _root_.My.K):=DQ m1 T ns nf no np nr;obtain⟨pm,pn,nw⟩:=HB "risen" (by simp);have o0:Cal l.prog w _root_.My.K mg base "risen" 7 ["house"] (nZ _root_.My.K):=JC m2 T nw g1 b0 g2 C8;have o1:=@LR l.prog w mg base (bz i1) T ne nt o0;have b1:=@Fi l.prog w mg base (bz i2) T nd o1 q C8;have o2:=@GP l.prog w mg base (bz ih) T g0 b1 q;have o3:=@Ln l.prog w mg base (bz ii) T b1 as;have o6:=@Km l.prog w mg base (bz im) T g0 o3 q;have o9:=@F5 l.prog w mg base (bz io) T fz;have ob:=@Iy l.prog w mg base (dJ is) T o9;have g3:=@JJ l.prog w mg base (bz iv) T fx ob b1;have oc:=@LC l.prog w mg base (bz j0) T g3;have od:=@JA l.prog w mg base (bP j1) T;have oe:=@IT l.prog w mg base (bP j2) T od;have ol:=@KS l.prog w mg base (bz jp) T fv;have on:=@KH l.prog w mg base (bz js) T oe ol g3;have op:=@Jc l.prog w mg base (bz k0) T on;have or:=@Fd l.prog w mg base (bz k1) T;have g4:=@Lu l.prog w mg base (bz k2) T;have os:=@Fs l.prog w mg base (bP k3) T;have ot:=@FJ l.prog w mg base m3 T or g4 os;have ov:=@D4 l.prog w mg base (dJ k5) T g4 as;have ox:=@FE l.prog w mg base (dJ k7) T C4 C8;have oy:=@LQ l.prog w mg base (dJ k8) T ot ov fy ox;have oz:=@DN l.prog w mg base (bz k9) T oy;have g5:=@GG l.prog w mg base (bP kb) T ⟨_,NG X G v5⟩ ⟨_,NG X G v6⟩;have p0:=@CK l.prog w mg base (bP kc) T g5;have p1:=@Li l.prog w mg base (bz kk) T ⟨_,NG X G v1⟩ g5 C1 C2;have p2:=@Kr l.prog w mg base (bP kl) T ⟨_,NG X G x1,DJ y1 w1 eb ec eg ei ej ek el em en ep an ap ar⟩ p1;have p3:MetX l.prog w K mg base (cA K "Desk") "tell" 14 ["self","line"] (lJ K):=Ed (mQ (st:=jJ) nD kn kp kq ks kt λF=>F.binds (ps:=["self","line"]) λ_ _ _ _ _ _ us b=>match us,b with|[_,_],_=>rfl) T ⟨_,NG X G x2,Ld y2 w2 ex ey ez f0⟩ ⟨_,NG X G x3,Kt y3 w3 f8 fc fe ff fl fn fp⟩ XF TD mb mc mm C9 mo mu mv n3 o2 o6 oc op oz p0 p2 mp ms;have g6:=@FI l.prog w mg base (bz kv) T XF TD p3;have p5:=@Ei l.prog w mg base (bz kw) T g6;have p6:MkD l.prog w K mg base "Desk" 1 (ny K):=let F:=mJ (st:=jK) l0 l1 l2;⟨⟨d,_,m6,⟨m7,by rw[eU nD];exact kx,l3,m8⟩,F.binds (ps:=["self"]) λ_ _ _ _ _ _ us b=>match us,b with|[_],_=>rfl,Ep F T TD⟩⟩;have p8:=@En l.prog w mg base m4 T;have p9:=@Eu l.prog w mg base (dJ l5) T;have r:=@ID l.prog w mg base (dJ l6) T p9;have pa:=@E4 l.prog w mg base (dJ l7) T p8 r;have pb:=@KL l.prog w mg base (bz l8) T;have pc:=@Fm l.prog w mg base (dJ l9) T r;have pd:=@E8 l.prog w mg base (bz la) T r;have pe:=@Hg l.prog w mg base m5 T;exact Dz (mJ (st:=gR) ld le lf) T TD p6 p5 g6 pa pb pc pd r pe
def walk{l:PySem.W.OpenLaw}{q:Vd}{m:(Vn->Option Va)->Vh->Prop}{g:Ve->Vh->Prop}{d:DefRec}{K:Params->L8}(o:l.most=Vo 63)(i:d.params.defaults=[])
  (p:∀w h,g w h->(K w.params).In h) (r:∀w:Ve,Ri (K w.params)=true) (hrec:∀y∈(["kept","low_levels","risen"]:List Vn),((PyProof.Rows.recsOf q).find? (λe=>e.name == y)).isSome=true) (htab:∀(w:Ve),∀y∈(["kept","low_levels","risen"]:List Vn),(Na (K w.params) y).isSome=true) (b:∀w:Ve,dU (K w.params))
  (F:∀w mg j h,g w h->(K w.params).In h->h.Ns Vj mg->mg d.name=Vo (.ref j) ->
   ∃fd,(∀s u,BindsTo s fd ⟨[u],[]⟩ [("_law_script",u)])/\∀base,(K w.params).In base->base.Ns Vj mg->(∀y∈(["kept","low_levels","risen"]:List Vn),∃c T,Tab (K w.params) mg base y c T)->FnOk l.prog w (K w.params) mg base cW 17 j fd ["_law_script"] (j3 (K w.params))) :
  Ov q loose m g l.row.toRowW d [] (λf vs=>SY f vs):=
 L2.Ec ["kept","low_levels","risen"] o (by decide) i ⟨rfl,by decide,by decide⟩ p r hrec htab F λw H a ns v z A=>⟨a,ns,rfl,A,v,z,b w,λ_=>rfl⟩
end My
end
open PySem PySem.W PyProof.Rows
set_option maxRecDepth 100000 in
set_option maxHeartbeats 0 in
theorem PySem.Challenge.cw_stairrooms_k67_what_is_a_line_holds : PySem.Challenge.rw_stairrooms_k67_what_is_a_line.Holds := by
 refine My.top ?_
 k_fill
 refine L2.Kn My.top.heap_39 My.top ?_;refine My.walk (l := PySem.Challenge.rw_stairrooms_k67_what_is_a_line) rfl rfl (λw h Y => PySem.W.km_in_of Y.1) (λw => by kernel_rfl) ?R (λw => ?Tb) (λw => My.Ku (by kernel_rfl)) ?F
 case R => intro y hy; simp only [List.mem_cons, List.not_mem_nil, or_false] at hy; rcases hy with rfl|rfl|rfl <;> kernel_rfl
 case Tb => intro y hy; simp only [List.mem_cons, List.not_mem_nil, or_false] at hy; rcases hy with rfl|rfl|rfl <;> kernel_rfl
 case F =>
  intro w mg fa h Y KX G hmg;have q := @My.dq _ _ _ KX G
  refine' My.all_mk (by with_unfolding_all exact Y.2) KX G hmg (q ?_ ?_ ?_ ?_) (q ?_ ?_ ?_ ?_) (q ?_ ?_ ?_ ?_) (q ?_ ?_ ?_ ?_) (q ?_ ?_ ?_ ?_) (q ?_ ?_ ?_ ?_) (q ?_ ?_ ?_ ?_) (q ?_ ?_ ?_ ?_) (q ?_ ?_ ?_ ?_) (q ?_ ?_ ?_ ?_) ?_ ?hdk ?_ ?_ ?_ ?_ ?_ ?_ ?_ ?_ ?_ ?_ ?_ ?_ ?_ ?_ ?_ (q ?_ ?_ ?_ ?_) (q ?_ ?_ ?_ ?_) (q ?_ ?_ ?_ ?_) (q ?_ ?_ ?_ ?_) (q ?_ ?_ ?_ ?_) (q ?_ ?_ ?_ ?_) (q ?_ ?_ ?_ ?_) (q ?_ ?_ ?_ ?_) (q ?_ ?_ ?_ ?_) (q ?_ ?_ ?_ ?_) (q ?_ ?_ ?_ ?_) (q ?_ ?_ ?_ ?_) (q ?_ ?_ ?_ ?_) (q ?_ ?_ ?_ ?_) (q ?_ ?_ ?_ ?_) (q ?_ ?_ ?_ ?_) (q ?_ ?_ ?_ ?_) (q ?_ ?_ ?_ ?_) (q ?_ ?_ ?_ ?_) (q ?_ ?_ ?_ ?_) (q ?_ ?_ ?_ ?_) (q ?_ ?_ ?_ ?_) (q ?_ ?_ ?_ ?_) (q ?_ ?_ ?_ ?_) (q ?_ ?_ ?_ ?_) (q ?_ ?_ ?_ ?_) (q ?_ ?_ ?_ ?_) (q ?_ ?_ ?_ ?_) (q ?_ ?_ ?_ ?_) (q ?_ ?_ ?_ ?_) (q ?_ ?_ ?_ ?_) (q ?_ ?_ ?_ ?_) (q ?_ ?_ ?_ ?_) (q ?_ ?_ ?_ ?_) (q ?_ ?_ ?_ ?_) (q ?_ ?_ ?_ ?_) (q ?_ ?_ ?_ ?_) (q ?_ ?_ ?_ ?_) (q ?_ ?_ ?_ ?_) (q ?_ ?_ ?_ ?_) (q ?_ ?_ ?_ ?_) (q ?_ ?_ ?_ ?_) (q ?_ ?_ ?_ ?_) (q ?_ ?_ ?_ ?_) (q ?_ ?_ ?_ ?_) (q ?_ ?_ ?_ ?_) (q ?_ ?_ ?_ ?_) (q ?_ ?_ ?_ ?_) (q ?_ ?_ ?_ ?_) (q ?_ ?_ ?_ ?_) (q ?_ ?_ ?_ ?_) (q ?_ ?_ ?_ ?_) (q ?_ ?_ ?_ ?_) (q ?_ ?_ ?_ ?_) (q ?_ ?_ ?_ ?_) (q ?_ ?_ ?_ ?_) (q ?_ ?_ ?_ ?_) (q ?_ ?_ ?_ ?_) (q ?_ ?_ ?_ ?_) (q ?_ ?_ ?_ ?_) (q ?_ ?_ ?_ ?_) (q ?_ ?_ ?_ ?_) (q ?_ ?_ ?_ ?_) (q ?_ ?_ ?_ ?_) (q ?_ ?_ ?_ ?_) (q ?_ ?_ ?_ ?_) ?_ ?_ ?_ ?_ ?_ (q ?_ ?_ ?_ ?_) (q ?_ ?_ ?_ ?_) ?_ ?_ ?_ ?_ ?_ (q ?_ ?_ ?_ ?_) (q ?_ ?_ ?_ ?_) (q ?_ ?_ ?_ ?_) (q ?_ ?_ ?_ ?_) (q ?_ ?_ ?_ ?_) (q ?_ ?_ ?_ ?_) (q ?_ ?_ ?_ ?_) (q ?_ ?_ ?_ ?_) ?_ ?_ ?_ ?_ ?_ ?_ ?_ ?_ ?_ ?_ ?_ ?_ ?_ ?_ ?_ ?_ ?_ ?_ ?_ ?_ ?_ ?_ ?_ ?_ ?_ ?_ ?_ ?_ ?_ ?_ ?_ ?_ ?_ ?_ ?_ ?_ ?_ ?_ ?_ ?_ ?_ ?_ ?_ ?_ ?_ ?_ ?_ ?_ ?_ ?_ ?_ ?_ ?_ ?_ ?_ ?_ ?_ ?_ ?_ ?_ ?_ ?_ ?_ ?_ ?_ ?_ ?hxf
  case hdk => kernel_rfl
  case hxf => kernel_rfl
  all_goals try first|k_is|rfl|(refine ⟨_, _, _, _, by k_is, by decide, ?_⟩; repeat (first|exact .nil|refine .cons ⟨_, rfl⟩ ?_))
