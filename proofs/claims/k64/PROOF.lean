import PyProof.Rows.All
import Wide.All
import OpenK.AllK
import Wide.FinOn
import Lean
import PyProof.EqAt
import PyProof.EqKinds
import PyProof.TupleCall
import KE.KLam
import PySem.Challenge.RW_stairrooms_k64_whole_desk_deeds
set_option Elab.async false
namespace PySem.W.Fast
def tw547001384420933953:=0
def tw10618643122582247750:=0
def tw2199959158694611284:=0
def tw17255055402382703068:=0
def tw16725872844886285762:=0
def tw897556049694929739:=0
def tw4878039616555099582:=0
def tw16398102544092031521:=0
def tw16386913830018001124:=0
def tw9478813727029378433:=0
def tw253724354142678732:=0
def tw15144540837720913677:=0
def tw11258306804293243132:=0
def tw11774656981024081848:=0
def tw4373642396805675364:=0
def tw14757225000569427560:=0
def tw4708572616275660465:=0
def tw317520914050522945:=0
def tw17733047304165068773:=0
def tw15738021625795601203:=0
def tw12604261892636925892:=0
def tw8325147438673079581:=0
def tw2973379562459248654:=0
def tw16040925991244642869:=0
def tw17260584022165661726:=0
def tw911810538002268367:=0
def tw5824247625822886979:=0
def tw1051583392116282988:=0
def tw17179734013377141832:=0
def tw10760031201136348398:=0
def tw6492568839464336172:=0
def tw14309114003992510232:=0
def tw11040902395418374828:=0
def tw3634083293858476255:=0
def tw3809979766996421824:=0
def tw4221310431163856405:=0
def tw15415030129712708594:=0
def tw6592538181826838868:=0
def tw6460737211137875664:=0
def tw10166892954511498249:=0
def tw12909053014537255453:=0
def tw11855722608778128229:=0
def tw14702557882293241901:=0
def tw9002392303285804385:=0
def tw4918694162171632466:=0
def tw10350288868709284642:=0
def tw13679643304169797691:=0
def tw11721133333301373747:=0
def tw16681148162138885154:=0
def tw16091142467832092619:=0
def tw14185583342123384908:=0
def tw14526562022302103730:=0
def tw11196368748255784950:=0
def tw9779106197386186623:=0
def tw3501889831259424984:=0
def tw14646051411932343840:=0
def tw1930558828605614237:=0
def tw1692235544166657602:=0
def tw11296645311156999791:=0
def tw3015604971527890583:=0
def tw15197701262192620583:=0
def tw4721787911493776067:=0
def tw2122511160286549640:=0
def tw11672800155852956706:=0
def tw8201457069280204918:=0
def tw7387496920539170626:=0
def tw11029396596865941829:=0
def tw7091575474642696731:=0
def tw6034192224097964318:=0
def tw2801974123689400889:=0
def tw13261574445939288711:=0
def tw621812022307901172:=0
def tw3855638733940352994:=0
def tw14999770152523916156:=0
def tw4264358708234735246:=0
def tw3924725502804413793:=0
def tw14836224472968703893:=0
def tw12390782021942118942:=0
def tw11408623696531555632:=0
def tw3773624442522805073:=0
def tw3093781508513788219:=0
def tw1322433467843712534:=0
def tw11655376856063916228:=0
def tw9867131338692390694:=0
def tw447717403241242290:=0
def tw1536147683505774889:=0
def tw13170554741523819223:=0
def tw12664327836493813462:=0
def tw11930047750849440119:=0
def tw8562296191053873827:=0
def tw6463597329013779217:=0
def tw6406724726538629663:=0
def tw5279998573280466062:=0
def tw16176690743668362219:=0
def tw14988306749868862141:=0
def tw11971130579796114034:=0
def tw1057306937073154610:=0
def tw9834661911540460081:=0
def tw8385567426930851361:=0
def tw6584469308530667732:=0
def tw5669588431854456260:=0
def tw439055297870408345:=0
def tw3299272117925849540:=0
def tw2904058922640873309:=0
def tw18174231678347352628:=0
def tw16949064816178058999:=0
def tw16118308844857193260:=0
def tw15881911615934975264:=0
def tw10932722520931459696:=0
def tw6690677384477064843:=0
def tw6403897618177400563:=0
def tw6089560412477784131:=0
def tw4801039527111802282:=0
def tw17109937557647268800:=0
def tw17002439396945247550:=0
def tw1697718313761481620:=0
def tw15732654264858244716:=0
def tw15250516977012177893:=0
def tw13956058649364723422:=0
def tw12801111013253028214:=0
def tw10548826715568245312:=0
def tw8744267035563872481:=0
def tw7393957277229836691:=0
def tw6878535200312667207:=0
def tw5619098228389421230:=0
def tw3457502311278330140:=0
def tw2308842233520690658:=0
def tw2168224380260717174:=0
def tw1875788394568091543:=0
def tw18147453742554186446:=0
def tw18133197322224867361:=0
def tw17405974757215459542:=0
def tw15968237232650601322:=0
def tw14832175709080873599:=0
def tw13580389790971816817:=0
def tw13114515122707653793:=0
def tw1296409530997820298:=0
def tw11872690636868124001:=0
def tw8863156965792605256:=0
def tw8576866337993464856:=0
def tw4102359912796715673:=0
def tw4058686603036108463:=0
def tw3625882601150649006:=0
def tw3319072228906548485:=0
def tw3121732170634265723:=0
def tw2762985067018713519:=0
def tw18416646843746589632:=0
def tw16178294753266878621:=0
def tw15699315692412800413:=0
def tw15269425654929456476:=0
def tw1059446635175154315:=0
def tw10154314827766144001:=0
def tw902582806634263858:=0
def tw8856496367326549158:=0
def tw8125729627420895708:=0
def tw7889161881964539818:=0
def tw7202327286928840429:=0
def tw705330452703051597:=0
def tw6093179522131556990:=0
def tw55107133691585252:=0
def tw4992925186480290751:=0
def tw3975676623463710300:=0
def tw1898551579183717137:=0
def tw17651429341429293936:=0
def tw1754243070517289278:=0
def tw15524740491475941218:=0
def tw1539576199135281160:=0
def tw14882510809304047780:=0
def tw1465564398378206461:=0
def tw14566858309784005721:=0
def tw13587954947775276195:=0
def tw10607476577711411036:=0
def tw9308319285386913480:=0
def tw9028414481108622758:=0
def tw8938549127931359579:=0
def tw8835519533490355076:=0
def tw8185630143887121337:=0
def tw8151795987920825625:=0
def tw8128315874942280492:=0
def tw6620348973694338139:=0
def tw6056548384089880543:=0
def tw4540096454399951189:=0
def tw18066811921283522515:=0
def tw17949153669898374660:=0
def tw15856698116174445793:=0
def tw14800109303040266240:=0
def tw1304240117979556626:=0
def tw11909862417612479929:=0
def tw11858878876565515630:=0
def tw11735653163353574974:=0
def tw11383850339681254435:=0
def tw10150324261921262226:=0
def tw9281662355237421915:=0
def tw9248597171148506525:=0
def tw6588169051226274246:=0
def tw6266016949813577251:=0
def tw5725444066816760673:=0
def tw5136782093820589260:=0
def tw477595423994022719:=0
def tw4746302684295054048:=0
def tw4137366243734310183:=0
def tw2648121624305032702:=0
def tw16967094079153205249:=0
def tw16865412676593439493:=0
def tw16080655234471338842:=0
def tw15414259988211055499:=0
def tw15313990622018235984:=0
def tw14560837491469231475:=0
def tw14075074499185348901:=0
def tw13838018814042065490:=0
def tw12969595849073868859:=0
def tw12170451868844119946:=0
def tw12124443520851957044:=0
def tw11469663846147530161:=0
def tw10576813361638309727:=0
def tw10500720501580190231:=0
def tw9916047131747534395:=0
def tw931510637493425866:=0
def tw8708482821940700748:=0
def tw8568187914498332850:=0
def tw82748431570670151:=0
def tw8186763794367992775:=0
def tw7750769465160294860:=0
def tw7627118995241731642:=0
def tw7383744862196479187:=0
def tw7341270039093922885:=0
def tw7134983793405793177:=0
def tw7115244209674446852:=0
def tw6583481740336291847:=0
def tw6393150591798677637:=0
def tw6178244272827954729:=0
def tw6121026886529796221:=0
def tw5472344985826550877:=0
def tw5140171473248983199:=0
def tw4337561567144917162:=0
def tw3941131271490555836:=0
def tw3866599564448483793:=0
def tw3841998164913821987:=0
def tw3797301031838899788:=0
def tw3104486758596841148:=0
def tw1901317781093569649:=0
def tw18032779900021213040:=0
def tw17990003072128590093:=0
def tw17729564300890611173:=0
def tw17652695096001567504:=0
def tw17628590533929976792:=0
def tw17571631200592639834:=0
def tw17438179399263098937:=0
def tw17329969520162680104:=0
def tw17258839070269863901:=0
def tw17065142239566038489:=0
def tw16964212798373946863:=0
def tw16924412733494049589:=0
def tw16503717402094505217:=0
def tw16477329177891185698:=0
def tw16283258727396688951:=0
def tw16245695487900975421:=0
def tw16221219022901355867:=0
def tw15729792075999087868:=0
def tw15565656631415577005:=0
def tw15186367229040268510:=0
def tw15170883547044141151:=0
def tw1488474676173749703:=0
def tw14793259975867257014:=0
def tw14775263502782431712:=0
def tw14670137783204244808:=0
def tw14221475358252599964:=0
def tw14221084762423404224:=0
def tw14025392896863203041:=0
def tw13135487405686255751:=0
def tw12951820434879171755:=0
def tw12357872333080808881:=0
def tw12065540673060277790:=0
def tw11787554532782738252:=0
def tw11364142691922409913:=0
def tw11339562753883754242:=0
def tw11137535781475439334:=0
def tw10769681086646498438:=0
def tw1069010634818593453:=0
def tw1004593339420490729:=0
def tw976709547398631384:=0
def tw974001917477778970:=0
def tw9145153853609440834:=0
def tw8247069255634196442:=0
def tw8111691339550187361:=0
def tw8035931760809384120:=0
def tw762384175361060421:=0
def tw7620779201999659187:=0
def tw7175792842613744815:=0
def tw684117499851941213:=0
def tw5425565988235752197:=0
def tw4933930183700603765:=0
def tw4930073243635710979:=0
def tw3566807236516140644:=0
def tw3008007984704827758:=0
def tw2800321189394573348:=0
def tw18189657841938801392:=0
def tw18127141830633905074:=0
def tw17939888687896264705:=0
def tw17843839365795533554:=0
def tw178370783828623596:=0
def tw1682181479755940848:=0
def tw16306601271817509428:=0
def tw16291823179772653766:=0
def tw16204094875209007955:=0
def tw16029895960380650870:=0
def tw15831574140416324556:=0
def tw15801317192440724364:=0
def tw15660991250957307376:=0
def tw14876317631354250296:=0
def tw14750251384015127882:=0
def tw13392218115919352882:=0
def tw12865433501954476891:=0
def tw12289990805704456368:=0
def tw11788803944947964044:=0
def tw9539095207651657643:=0
def tw9004807901523433782:=0
def tw8487562230406468105:=0
def tw8057538161448419100:=0
def tw7937346951877118417:=0
def tw7258929849126983957:=0
def tw6704578965310311189:=0
def tw6169767553621521813:=0
def tw6130821448147606368:=0
def tw5950158449063615346:=0
def tw5708804837514111757:=0
def tw4088347019790499076:=0
def tw2792723481025802335:=0
def tw2780415966309772251:=0
def tw2696157109874119690:=0
def tw17915051066750267265:=0
def tw1751447207448873119:=0
def tw17259577006381911698:=0
def tw16821967185522334815:=0
def tw15073084007737812838:=0
def tw14109453767193502313:=0
def tw14044808164122211230:=0
def tw1382559312744143635:=0
def tw10276969695076772373:=0
def tw10118012357411222232:=0
def tw10035081181641441020:=0
def tw9642658117253805749:=0
def tw837507559583589549:=0
def tw6976374140160972476:=0
def tw6619962110570900069:=0
def tw6617364818316592001:=0
def tw6167807708879266266:=0
def tw5612490812926955764:=0
def tw5102186755607942603:=0
def tw501385587569502014:=0
def tw4732811752034325442:=0
def tw4248219703154640514:=0
def tw404968458719316295:=0
def tw3608133595379548684:=0
def tw1921160878016633958:=0
def tw1906729888136766467:=0
def tw18324572440802094995:=0
def tw167336832753583806:=0
def tw15769360928889565510:=0
def tw14931363111589739018:=0
def tw14585778381282314952:=0
def tw14451425568386719407:=0
def tw14424131277925039975:=0
def tw14318957944991924802:=0
def tw14292392306617517729:=0
def tw1311390456105013778:=0
def tw12261729195969336472:=0
def tw12078363514133923244:=0
def tw119775208399524090:=0
def tw11950575282948044451:=0
def tw11883736081812832149:=0
def tw10602856759635532317:=0
def tw10574732147149305561:=0
def tw1024123932853393264:=0
def tw9578026534446552097:=0
def tw9467629813166748578:=0
def tw9404376500200941770:=0
def tw9337504207740955038:=0
def tw92919152876705750:=0
def tw9085195453500331236:=0
def tw8878512636737413035:=0
def tw8783073200307453229:=0
def tw8677169583234457159:=0
def tw8539956084285006220:=0
def tw8521597775319928436:=0
def tw8340926499216404060:=0
def tw8338600121835276020:=0
def tw8229460734390689525:=0
def tw8147721191793257292:=0
def tw8143298780573084396:=0
def tw8039774922555296384:=0
def tw800831887125934919:=0
def tw7863108119856694670:=0
def tw7693350481814642131:=0
def tw7316228966491291649:=0
def tw720755081136891062:=0
def tw7176572640101177836:=0
def tw7174068339476759842:=0
def tw6919964502871595589:=0
def tw6680830925899447215:=0
def tw6658185936689682968:=0
def tw6520993039526896910:=0
def tw6502013626171302762:=0
def tw6008010531490865865:=0
def tw5956051100702781606:=0
def tw590611807225418770:=0
def tw5766181095882713430:=0
def tw5643517080389645038:=0
def tw5442971307982108685:=0
def tw5239818711593601041:=0
def tw5168400519034163868:=0
def tw4997450903056089975:=0
def tw4959773886489378410:=0
def tw4939278323791658419:=0
def tw4769826392853288355:=0
def tw4672492687276399408:=0
def tw4599613092869839139:=0
def tw4532786408525356839:=0
def tw4417070962139673907:=0
def tw4307926830116509514:=0
def tw4237640369940289380:=0
def tw4202673366249849491:=0
def tw4169430970946328830:=0
def tw3823650005643028596:=0
def tw3771735061838007563:=0
def tw3711776433476670718:=0
def tw3606794102148988539:=0
def tw3415376743198261602:=0
def tw3255010964159781038:=0
def tw3220723017206680370:=0
def tw3196363977017356276:=0
def tw3161077796674850459:=0
def tw3154977719449785152:=0
def tw3027349785267461129:=0
def tw2651210568008831048:=0
def tw2642144764089699081:=0
def tw2470030994460905622:=0
def tw2365589340776583484:=0
def tw2342838551658309370:=0
def tw2064118905727727203:=0
def tw2057708657320182929:=0
def tw1994766901024307645:=0
def tw1980078614172103820:=0
def tw1976669565243702794:=0
def tw18438895364323578133:=0
def tw18420665075302107787:=0
def tw18406689318668271181:=0
def tw18353754962900487674:=0
def tw18131939131286866181:=0
def tw18027970315504703877:=0
def tw17994301212061070119:=0
def tw17963879024589997906:=0
def tw17925923492730016652:=0
def tw17584191335013195612:=0
def tw17238752558760652402:=0
def tw17234483976792478675:=0
def tw17186049221098573887:=0
def tw17104333970416622323:=0
def tw16980547499210933930:=0
def tw16844485081735603738:=0
def tw16840622159041910090:=0
def tw16835956152608702361:=0
def tw16743919102785911483:=0
def tw16701388476486077624:=0
def tw16661212229125270991:=0
def tw16575673167688372683:=0
def tw16469943266984779137:=0
def tw16288524480538194225:=0
def tw16200301802012032120:=0
def tw16194716560986651551:=0
def tw16010564223820826558:=0
def tw1599608497217551579:=0
def tw15829181571673270705:=0
def tw15676261240554180864:=0
def tw15641575440650329080:=0
def tw15593639298716513902:=0
def tw15438610589593914328:=0
def tw15415129679944277146:=0
def tw15291515778787918541:=0
def tw15268917627751355144:=0
def tw1523954634173995102:=0
def tw15104015179872336855:=0
def tw14905269560852764671:=0
def tw14598121482242819015:=0
def tw14550693921475344484:=0
def tw14429984225472846677:=0
def tw14397947794671477899:=0
def tw14330286943426774435:=0
def tw14324394720252608761:=0
def tw14316703349718095352:=0
def tw13817142068744991791:=0
def tw13814131451427507189:=0
def tw13786455662358949411:=0
def tw13769731409856085057:=0
def tw13732165248360646341:=0
def tw13573848267779960677:=0
def tw13501672401922333513:=0
def tw1348930903838789814:=0
def tw13298203722689827917:=0
def tw12996499756298277263:=0
def tw12993445975515111361:=0
def tw12661369023874259431:=0
def tw12585790354688115527:=0
def tw12441502783428931068:=0
def tw12340981958623863397:=0
def tw12083225706203450762:=0
def tw12038977606169228428:=0
def tw11860059332995364445:=0
def tw11801650391622900179:=0
def tw1166147933733307185:=0
def tw11646202046503260017:=0
def tw11644868132232139897:=0
def tw11583934061965207798:=0
def tw1147197816589727344:=0
def tw11304072722765767021:=0
def tw10897373541712964772:=0
def tw10846541316933110243:=0
def tw10805502978675567416:=0
def tw10787819557663234410:=0
def tw10785498421680218836:=0
def tw1073818698688927204:=0
def tw10698238366409207256:=0
def tw10388815045332656835:=0
def tw10307936806763208701:=0
def tw10178320482404669705:=0
def tw10121643642846045468:=0
def tw10017577030591726147:=0
def tw9602979466950630956:=0
def tw912290570786946579:=0
def tw8777541643666118068:=0
def tw8722415481117505015:=0
def tw8572175281459272771:=0
def tw8444893750286939596:=0
def tw8125407811402774585:=0
def tw7956301941440062040:=0
def tw7687211529486759510:=0
def tw7552210041123771490:=0
def tw7239762555138251476:=0
def tw684210181549580303:=0
def tw6744984778823417519:=0
def tw6340304130596135008:=0
def tw6158425238486604569:=0
def tw6112935292994349818:=0
def tw5920227957080817638:=0
def tw5861546300858528307:=0
def tw5533809914848052129:=0
def tw5096499008420852698:=0
def tw4802236077587990626:=0
def tw4688525537532491644:=0
def tw4138905410403352593:=0
def tw397431815971221653:=0
def tw3830783680494933951:=0
def tw3612554134655720397:=0
def tw343839832772155065:=0
def tw3410111710019587186:=0
def tw2904033067149887106:=0
def tw2433480451663381876:=0
def tw2217001567337907910:=0
def tw2135739184021596844:=0
def tw2093290091728733057:=0
def tw1882481057627660943:=0
def tw18334927389422029420:=0
def tw18159918767601648018:=0
def tw17831088686795452451:=0
def tw17795394019121955329:=0
def tw17716863462265859512:=0
def tw17694846207451314135:=0
def tw17581992280946622230:=0
def tw17423125552162021742:=0
def tw17405045028177135956:=0
def tw17235446214152045:=0
def tw1703860651114587486:=0
def tw17018876735161736770:=0
def tw16669810761675009345:=0
def tw16219145617115034907:=0
def tw15877547465285291163:=0
def tw15860708213811878519:=0
def tw15659586693977764946:=0
def tw15227536787642769132:=0
def tw1488503510874697304:=0
def tw14849095896601040367:=0
def tw14415884991196681418:=0
def tw13921919005729749812:=0
def tw13809386149585982481:=0
def tw13746588304753895505:=0
def tw12898871719091480922:=0
def tw1283506980011859969:=0
def tw1218770742548784908:=0
def tw11282886037220131173:=0
def tw11166862733661299840:=0
def tw10240230265299486439:=0
def tw10143209758796899180:=0
def tw10063842601507977493:=0
def tw999255627539997526:=0
def tw9936902662144560194:=0
def tw9930359092145622687:=0
def tw9892624805917520583:=0
def tw9842035976387663078:=0
def tw9802983821206752271:=0
def tw9623524494010043433:=0
def tw9591621326534694922:=0
def tw9590536906216307355:=0
def tw9583254098639418403:=0
def tw9456409991113330330:=0
def tw940465597526089649:=0
def tw9119751986894142981:=0
def tw8755266905418455375:=0
def tw8612541938085228305:=0
def tw8604979696160575008:=0
def tw8462929888207567711:=0
def tw8377945894465552080:=0
def tw8282170167223215797:=0
def tw8089249423132065445:=0
def tw8047032804361144261:=0
def tw8037652997034423971:=0
def tw7980446502605500991:=0
def tw790865764145957086:=0
def tw7904445426397662059:=0
def tw7897135418779063302:=0
def tw7875707854763748492:=0
def tw7848866751621661257:=0
def tw7796508728722278515:=0
def tw7720199258136328419:=0
def tw7616961570073629773:=0
def tw7574902415414485744:=0
def tw7260967713776090138:=0
def tw7259079589770855615:=0
def tw7247887190665584843:=0
def tw7240639191980452486:=0
def tw7074213860272172147:=0
def tw7036346233635388438:=0
def tw698542696526539648:=0
def tw6967400520518718212:=0
def tw6942357351460751399:=0
def tw689209177001064519:=0
def tw6862412981468502264:=0
def tw6787905781562076304:=0
def tw6743822951217308217:=0
def tw6690671887076279761:=0
def tw6451087710923075982:=0
def tw6429728187070590260:=0
def tw6329672369177362234:=0
def tw6181847661251503008:=0
def tw5994711959094706394:=0
def tw5830895008884556760:=0
def tw5821001088122574322:=0
def tw5819105399919881484:=0
def tw5717963241065829162:=0
def tw5689819888249312427:=0
def tw5581984692328104656:=0
def tw5581349078452510653:=0
def tw5430882940802126740:=0
def tw5350998768358884751:=0
def tw5295854211047901153:=0
def tw5215882272569172211:=0
def tw5213485622955226937:=0
def tw512557566824241540:=0
def tw5060445219760521703:=0
def tw5051596291613938045:=0
def tw5019332986140449700:=0
def tw5010354932100547165:=0
def tw4855646995411632120:=0
def tw4841996503232482665:=0
def tw4664008279301310266:=0
def tw4566636315000093172:=0
def tw4512399344915413118:=0
def tw4396202689630218944:=0
def tw4355615645706949100:=0
def tw4256779784062091372:=0
def tw4090099033456441411:=0
def tw405987165440772289:=0
def tw3855077825024126993:=0
def tw3816595399192403062:=0
def tw3760063030202703356:=0
def tw3725507860900426652:=0
def tw3711315289400063114:=0
def tw3624387153200950280:=0
def tw3497212847013558094:=0
def tw3465091326942903629:=0
def tw3427924564325372817:=0
def tw3348767965124786929:=0
def tw3268437569422444630:=0
def tw3258786278723069861:=0
def tw3182821167057557991:=0
def tw3096949930750721708:=0
def tw3017139974649574989:=0
def tw2980206271122236284:=0
def tw2773274263299585572:=0
def tw2520694231678862498:=0
def tw2448602276733661166:=0
def tw2391854224791940314:=0
def tw2355404199824840798:=0
def tw2323472592885037881:=0
def tw2313535712752964479:=0
def tw2248526150547823735:=0
def tw2212462317411977730:=0
def tw2187499721780371684:=0
def tw2084367668108250050:=0
def tw2045930578084102194:=0
def tw2027406687892281398:=0
def tw1963361818967390675:=0
def tw1923656493189036919:=0
def tw18341061495759717185:=0
def tw18243320616058850534:=0
def tw1818218476948158209:=0
def tw18109355491918435820:=0
def tw18038851775406917655:=0
def tw17923257353744980054:=0
def tw17908656721387608039:=0
def tw17887424493272649068:=0
def tw17843169823834903998:=0
def tw17744632191838401134:=0
def tw17723765623042550390:=0
def tw176977295656723065:=0
def tw17690871460500525271:=0
def tw17645572048654386869:=0
def tw17644514534155135092:=0
def tw17415715754555401154:=0
def tw17389396115470475288:=0
def tw17375602352810135561:=0
def tw17364283921595539524:=0
def tw17357414001117552268:=0
def tw17263339626445266389:=0
def tw17218974888202052536:=0
def tw16988158499489311127:=0
def tw16982485362242456822:=0
def tw1691102865124860179:=0
def tw16855797853226630161:=0
def tw16826725409987885975:=0
def tw16801269517542960672:=0
def tw16761591470956491853:=0
def tw16702496124019576060:=0
def tw16632375998614247822:=0
def tw16526325248041854055:=0
def tw16507177298177948937:=0
def tw16408023001231065620:=0
def tw1629198167979442983:=0
def tw16291882091215157828:=0
def tw16235577574615639896:=0
def tw15853727897521883275:=0
def tw15834326765199268030:=0
def tw15786528573266890262:=0
def tw156604256827902990:=0
def tw15641155157065175805:=0
def tw15615506901333172577:=0
def tw15319796435752655959:=0
def tw15313973635310571597:=0
def tw15266785391687444539:=0
def tw15003257448840769609:=0
def tw14977234088687162302:=0
def tw1492062709326496596:=0
def tw14785510111872020634:=0
def tw14736829792906978706:=0
def tw14650229311272632197:=0
def tw1462485287220791352:=0
def tw1460478622569836974:=0
def tw14538086128319557123:=0
def tw1443262904182790944:=0
def tw14322595565739780087:=0
def tw14321144422957734134:=0
def tw1428814744893504695:=0
def tw13996213523464280658:=0
def tw13894333538876106382:=0
def tw13888251672469135178:=0
def tw13853986760110017063:=0
def tw13847991401066540787:=0
def tw13841191037290658594:=0
def tw13820470126673855253:=0
def tw13788262537284159298:=0
def tw1372833672288217791:=0
def tw13611136168108132581:=0
def tw1358744676988583611:=0
def tw13385619842731796546:=0
def tw1333033107083303026:=0
def tw1324101839160434027:=0
def tw13185835248587936794:=0
def tw13140385074510843379:=0
def tw13055914441102849027:=0
def tw13040376429104872777:=0
def tw13021086612755893400:=0
def tw12992001612654045271:=0
def tw12878273097781070547:=0
def tw12840604464936152123:=0
def tw12820798865115190907:=0
def tw12770933533733738652:=0
def tw12725217407329787103:=0
def tw12685030140052518048:=0
def tw12679859039530741841:=0
def tw12650994420537281789:=0
def tw12626095124700806591:=0
def tw12310720753968129801:=0
def tw12296552071639831032:=0
def tw12150866365501820893:=0
def tw12141280797297536670:=0
def tw11985937269989024962:=0
def tw11892039915525360660:=0
def tw11846370373574997029:=0
def tw11733558587685641503:=0
def tw11711933507911999672:=0
def tw11701492411309977178:=0
def tw11687504721054253588:=0
def tw11665305186481523908:=0
def tw11612187849094769778:=0
def tw11609425286787412919:=0
def tw11605670760853518920:=0
def tw11365700717142005424:=0
def tw11362101791794971524:=0
def tw11344577156118076396:=0
def tw11263300996269092271:=0
def tw1118635096375682459:=0
def tw11137867353881252704:=0
def tw11083616581157620123:=0
def tw11061817912359866892:=0
def tw11030641428109492703:=0
def tw10747110127714012418:=0
def tw10424792985553544811:=0
def tw1031021603403437821:=0
def tw10275949009854564666:=0
def tw10263077061500514125:=0
def tw10241033358962818077:=0
def tw10095913671755900038:=0
def tw10053539800044614232:=0
def tw10044013261082468525:=0
end PySem.W.Fast
section
open PySem PySem.W PyProof.Rows
set_option maxRecDepth 100000 in
set_option maxHeartbeats 0 in
open_top My.top for PySem.Challenge.rw_stairrooms_k64_whole_desk_deeds
end
set_option linter.all false
set_option maxRecDepth 100000
set_option maxHeartbeats 4000000
open PySem renaming Value->Va,Addr->Vb,Shared->Vc,Program->Vd,World->Ve,wpAny->Vf,model->Vg,Heap->Vh,Around->Vi,mainGlobals->Vj,Expr->Vk,Stmt->Vl,FuncData->Vm,Str->Vn
open Option renaming some->Vo,none->Vp
open PySem renaming wpAny_bind->zi,wpAny_pure->zj,wpAny_setState_of->Ag,wpAny_callSpecial?_slot->Ah
open PySem.W renaming Frag->zk
open PySem.Heap renaming get?_push_of_some->zl,get?_push_size->zm,lt_size->zo
open List renaming length_map->zp,getElem?_eq_getElem->zq,getElem?_map->zr,mem_cons_of_mem->zt,size_toArray->zv,mem_cons_self->zw,getElem?_eq_some_iff->zy,mem_of_getElem?->zA,mem_singleton->zB,mem_cons->zE,map_append->zG,length_append->zH,mem_append->zM,getElem?_append_right->zN,getElem?_append_left->zO,getElem_mem->zP,length_cons->zQ,take_length->zR,not_mem_nil->zU,all_eq_true->zV,mem_append_right->Aa,mem_append_left->Ab,replicate->Ac,lookup_cons->Ae,length_take->Af,range->Ai
open Array renaming length_toList->zu
open PySem.F renaming plainAttrs_list->zx,slot_list_append->zK,type_list_append->zL
open Option renaming map_eq_some_iff->zC
open Int renaming toNat_natCast->zD
open Bool renaming false_ne_true->zF,eq_iff_iff->zW,and_eq_true->zX,false_eq_true->Ad
open Nat renaming ne_of_lt->zI,le_refl->zJ,lt_of_lt_of_le->zS,le_trans->zT
open PySem.Str renaming ofString->zY
open Option.some renaming inj->zZ
abbrev Aj:=@decide_eq_false
abbrev Ak:=@decide_eq_true
abbrev Al:=@if_neg
abbrev Am:=@if_pos
noncomputable section
namespace L2
open PySem PySem.Spec PyProof.Rows
abbrev Key:=Sum Int Vn
def gm:Key->Va->Bool
 | .inl k,v=>Value.isInt k v
 | .inr x,v=>Value.isStrOf x v
def xS(w:Ve):Key->Int
 | .inl k=>hashInt k
 | .inr x=>hashStr w x
def dD:∀{k:Key} {v:Va},gm k v=true->(∃i t,k=Sum.inl i/\v=Value.int i t)\/(∃x t,k=Sum.inr x/\v=Value.str x t)
 | .inl i,v,h=>by obtain⟨t,e⟩:=Value.isInt_shape (k:=i) (v:=v) h;exact .inl ⟨i,t,rfl,e⟩
 | .inr x,v,h=>by obtain⟨t,e⟩:=Value.isStrOf_shape (x:=x) (v:=v) h;exact .inr ⟨x,t,rfl,e⟩
def wk(i:Int)(t:Tok):gm (.inl i) (.int i t)=true:=by simp[gm,Value.isInt]
def um(x:Vn)(t:Tok):gm (.inr x) (.str x t)=true:=by simp[gm,Value.isStrOf]
def y6(a b:Int):decide ((Sum.inl a:Key)=Sum.inl b)=(a == b):=by
 by_cases e:a=b
 .subst e;simp
 .have h:¬(Sum.inl a:Key)=Sum.inl b:=λq=>e (Sum.inl.inj q);rw[Aj h];exact(beq_eq_false_iff_ne.mpr e).symm
def tX(a b:Vn):decide ((Sum.inr a:Key)=Sum.inr b)=decide (a=b):=by
 by_cases e:a=b
 .subst e;simp
 .have h:¬(Sum.inr a:Key)=Sum.inr b:=λq=>e (Sum.inr.inj q);rw[Aj h,Aj e]
def vR(a:Int)(b:Vn):decide ((Sum.inl a:Key)=Sum.inr b)=false:=Aj (λq=>nomatch q)
def ve(a:Vn)(b:Int):decide ((Sum.inr a:Key)=Sum.inl b)=false:=Aj (λq=>nomatch q)
def bK(prog:Vd)(w:Ve):PySem.KeyKind prog w Key where
 is:=gm
 hash:=xS w
 inj:=λv a b f d=>by
  rcases dD f with⟨i,t,rfl,rfl⟩|⟨x,t,rfl,rfl⟩
  .rcases dD d with⟨j,u,rfl,e⟩|⟨y,u,rfl,e⟩
   .injection e with c _;rw[c]
   .exact nomatch e
  .rcases dD d with⟨j,u,rfl,e⟩|⟨y,u,rfl,e⟩
   .exact nomatch e
   .injection e with c _;rw[c]
 byValue:=λk v h=>by rcases dD h with⟨i,t,rfl,rfl⟩|⟨x,t,rfl,rfl⟩<;>rfl
 pyHash:=λhv h=>by
  rcases dD hv with⟨i,t,rfl,rfl⟩|⟨x,t,rfl,rfl⟩
  .exact wpAny_pyHash_int h
  .exact wpAny_pyHash_str h
 eqBool:=λg hv h=>by
  rcases dD g with⟨i,t,rfl,rfl⟩|⟨x,t,rfl,rfl⟩
  .rcases dD hv with⟨j,u,rfl,rfl⟩|⟨y,u,rfl,rfl⟩
   .rw[y6]at h;exact wpAny_eqBool_int h
   .rw[vR]at h;exact SeqAt.EqAt.int_str i t y u _ _ _ _ h
  .rcases dD hv with⟨j,u,rfl,rfl⟩|⟨y,u,rfl,rfl⟩
   .rw[ve]at h;exact SeqAt.EqAt.str_int x t j u _ _ _ _ h
   .rw[tX]at h;exact wpAny_eqBool_str h
 «strs»:=λk x t v h=>by
  rcases dD h with⟨i,u,rfl,e⟩|⟨y,u,rfl,e⟩
  .exact nomatch e
  .injection e with c _
   subst c;cases v<;>rfl
def xE(prog:Vd)(w:Ve)(i:Int)(t:Tok):(bK prog w).is (.inl i) (.int i t)=true:=wk i t
def jT(prog:Vd)(w:Ve)(x:Vn)(t:Tok):(bK prog w).is (.inr x) (.str x t)=true:=um x t
inductive V where
 | non|bl (b:Bool)|int (i:Int)|str (x:Vn)|byt (b:Array UInt8)|flt (b:UInt64)|ref (a:Vb)|ty (n:String)
 deriving DecidableEq
def RelV:V->Va->Prop
 | .non,u=>u=Value.none
 | .bl b,u=>u=Value.bool b
 | .int i,u=>∃t,u=Value.int i t
 | .str x,u=>∃t,u=Value.str x t
 | .byt b,u=>∃t,u=Value.bytes b t
 | .flt b,u=>∃t,u=Value.float b t
 | .ref a,u=>u=Value.ref a
 | .ty n,u=>u=Value.type n
abbrev Vals:List V->List Va->Prop:=Paired RelV
theorem Vals.length{xs:List V}{us:List Va}(r:Vals xs us):xs.length=us.length:=Paired.length r
theorem Vals.get:∀{xs:List V} {us:List Va} {i:Nat} {x:V},Vals xs us->xs[i]?=Vo x->∃u,us[i]?=Vo u/\RelV x u
 | _,_,_,_,.nil,e=>by simp at e
 | _,_,0,_,.cons r _,e=>by simp at e;subst e;exact⟨_,rfl,r⟩
 | _,_,i+1,x,.cons _ t,e=>by obtain⟨u,h1,h2⟩:=Vals.get (i:=i) (x:=x) t (by simpa using e);exact⟨u,by simpa using h1,h2⟩
theorem Vals.set{x:V}{u:Va}(r:RelV x u):∀{xs:List V} {us:List Va} (i:Nat),Vals xs us->Vals (xs.set i x) (us.set i u)
 | _,_,_,.nil=>.nil
 | _,_,0,.cons _ t=>.cons r t
 | _,_,i+1,.cons q t=>.cons q (Vals.set r i t)
theorem Vals.append:∀{xs ys:List V} {us ws:List Va},Vals xs us->Vals ys ws->Vals (xs++ys) (us++ws)
 | _,_,_,_,.nil,s=>s
 | _,_,_,_,.cons r t,s=>.cons r (Vals.append t s)
theorem Vals.take:∀{xs:List V} {us:List Va} (n:Nat),Vals xs us->Vals (xs.take n) (us.take n)
 | _,_,0,_=>.nil
 | _,_,_+1,.nil=>.nil
 | _,_,n+1,.cons r t=>.cons r (Vals.take n t)
theorem Vals.drop:∀{xs:List V} {us:List Va} (n:Nat),Vals xs us->Vals (xs.drop n) (us.drop n)
 | _,_,0,r=>r
 | _,_,_+1,.nil=>.nil
 | _,_,n+1,.cons _ t=>Vals.drop n t
def bR:Option V->Option Va->Prop
 | some v,Vo u=>RelV v u
 | none,Vp=>True
 | _,_=>False
def KV{κ:Type}:List (κ×V)->List (κ×Va)->Prop:=Paired λ(p:κ×V) (q:κ×Va)=>p.1=q.1/\RelV p.2 q.2
def kV:Key->V
 | .inl i=>.int i
 | .inr x=>.str x
inductive HO where
 | lst (xs:List V)
 | tup (xs:List V)
 | dK (kvs:List (Key×V))|dT (kvs:List (List Key×V))
 | set (S:Int->Bool) (n:Nat)
 | ins (C dx:Vb) (fs:List (Vn×V))
 | own (x:Vb)
 | xd (fs:List (Vn×V))
 | met (f x:Vb)
 | rng (lo hi:Int)
 | frz (o:Obj) (u:HO)
 | tbl (ps:Array Va)
 | ext (φ:Vh->Prop)
abbrev Hp:=Vb->Option HO
def upd(H:Hp)(a:Vb)(o:HO):Hp:=λb=>if b=a then Vo o else H b
def aI{H:Hp}{a:Vb}{o:HO}:upd H a o a=Vo o:=by unfold upd;rw[Am rfl]
def aq{H:Hp}{a b:Vb}{o:HO}(h:b≠a):upd H a o b=H b:=by unfold upd;rw[Al h]
def bh{H:Hp}{a b:Vb}{o u:HO}(h:H a=Vo o)(h':H b=Vo u)(d:o≠u):a≠b:=by intro e;subst e;rw[h]at h';exact d (zZ h')
def bZ{H:Hp}{a b:Vb}{o:HO}(h:H a=Vo o)(h':H b=Vp):a≠b:=by intro e;subst e;rw[h]at h';cases h'
section
variable (P:Vd) (w:Ve)
def bc(H:Hp)(h:Vh)(a:Vb):HO->Prop
 | .lst xs=>xs.length<=sizeLine/\∃(b:List Va) (n:Nat),Vals xs b/\h.get? a=Vo { cls:=.type "list",data:=.seq b.toArray n }
 | .tup xs=>xs.length<=sizeLine/\∃b:List Va,Vals xs b/\IsTup h a b.toArray
 | .dK kvs=>kvs.length<=sizeLine/\(a == sysModules)=false/\∃vs,KV kvs vs/\h.DictOf (bK P w) a vs
 | .dT kvs=>kvs.length<=sizeLine/\(a == sysModules)=false/\∃xs:List (List Key×Vb×Va),
   Paired (λ(p:List Key×V) (q:List Key×Vb×Va)=>p.1=q.1/\H q.2.1=Vo (.tup (p.1.map kV))/\RelV p.2 q.2.2) kvs xs ∧
   ∃o es ep,h.get? a=Vo o/\o.ExactDict/\o.data=.dict es ep/\es.toList=xs.map (entryOfKey (tupleKind (bK P w)))/\(xs.map (·.1)).Nodup
 | .set S n=>h.SetOf (intKind P w) a S n
 | .ins C dx fs=>H dx=Vo (.own a)/\fs.length<=1000/\dx≠a/\h.get? a=Vo (PySem.W.instObj C dx) ∧
   ∃mA,h.Ns1 dx mA/\(∀f,bR (fs.lookup f) (mA f))/\PySem.Within mA (fs.map (·.1))
 | .own _=>∃o,h.get? a=Vo o
 | .xd fs=>∃mA,h.Ns1 a mA/\∀f,bR (fs.lookup f) (mA f)
 | .rng lo hi=>∃t u v,h.get? a=Vo { cls:=.type "range",data:=.fields #[.int lo t,.int hi u,.int 1 v] }
 | .frz o u=>h.get? a=Vo o/\bc H h a u
 | .tbl ps=>h.get? a=Vo { cls:=.none,data:=.fields ps }
 | .met f x=>h.get? a=Vo (PySem.W.methodObj (.ref f) (.ref x))
 | .ext φ=>φ h/\(∃o,h.get? a=Vo o)/\∀h1 h2:Vh,φ h1->(∀o,h1.get? a=Vo o->h2.get? a=Vo o)->φ h2
def aU(H:Hp)(h:Vh):Prop:=∀a o,H a=Vo o->bc P w H h a o
end
section
variable {P:Vd} {w:Ve} {H H':Hp} {h h':Vh} {a:Vb} {o:HO}
theorem bc.lt(x:bc P w H h a o):a<h.objs.size:=by
 cases o with
 | lst xs=>obtain⟨_,_,_,_,e⟩:=x;exact zo e
 | tup xs=>obtain⟨_,_,_,p⟩:=x;exact p.lt
 | dK kvs=>obtain⟨_,_,_,_,o,_,_,e,_⟩:=x;exact zo e
 | dT kvs=>obtain⟨_,_,_,_,o,_,_,e,_⟩:=x;exact zo e
 | set S n=>obtain⟨o,_,_,_,e,_⟩:=x;exact zo e
 | ins C dx fs=>obtain⟨_,_,_,e,_⟩:=x;exact zo e
 | own y=>obtain⟨_,e⟩:=x;exact zo e
 | xd fs=>obtain⟨_,⟨_,_,_,e,_⟩,_⟩:=x;exact zo e
 | rng lo hi=>obtain⟨_,_,_,e⟩:=x;exact zo e
 | frz ob u=>obtain⟨e,_⟩:=x;exact zo e
 | tbl ps=>exact zo (show h.get? a=Vo _ from x)
 | met f y=>exact zo (show h.get? a=Vo _ from x)
 | ext φ=>obtain⟨_,⟨_,e⟩,_⟩:=x;exact zo e
theorem Paired.mapP{α β:Type}{F G:α->β->Prop}:∀{l₁:List α} {l₂:List β},Paired F l₁ l₂->(∀a b,F a b->G a b)->Paired G l₁ l₂
 | _,_,.nil,_=>.nil
 | _,_,.cons r t,f=>.cons (f _ _ r) (Paired.mapP t f)
def bc.stay(x:bc P w H h a o)(k:∀b u,(b=a\/H b=Vo (.own a))->h.get? b=Vo u->h'.get? b=Vo u)
  (i:∀b,H b=Vo (.own a)->H' b=Vo (.own a)) (j:∀b xs,H b=Vo (.tup xs)->H' b=Vo (.tup xs)):bc P w H' h' a o:=by
 induction o with
 | lst xs=>obtain⟨z,g,n,r,e⟩:=x;exact⟨z,g,n,r,k _ _ (.inl rfl) e⟩
 | tup xs=>obtain⟨z,g,r,ob,e,c⟩:=x;exact⟨z,g,r,ob,k _ _ (.inl rfl) e,c⟩
 | dK kvs=>obtain⟨z,y,vs,r,ob,es,ep,e,c⟩:=x;exact⟨z,y,vs,r,ob,es,ep,k _ _ (.inl rfl) e,c⟩
 | dT kvs=>
  obtain⟨z,y,xs,r,ob,es,ep,e,c⟩:=x;exact⟨z,y,xs,Paired.mapP r λp q z=>⟨z.1,j _ _ z.2.1,z.2.2⟩,ob,es,ep,k _ _ (.inl rfl) e,c⟩
 | set S n=>obtain⟨ob,es,ep,t,e,c⟩:=x;exact⟨ob,es,ep,t,k _ _ (.inl rfl) e,c⟩
 | ins C dx fs=>
  obtain⟨d,z,ne,e,mA,⟨od,es,ep,s,c⟩,r⟩:=x;exact⟨i _ d,z,ne,k _ _ (.inl rfl) e,mA,⟨od,es,ep,k _ _ (.inr d) s,c⟩,r⟩
 | own y=>obtain⟨ob,e⟩:=x;exact⟨ob,k _ _ (.inl rfl) e⟩
 | xd fs=>obtain⟨mA,⟨od,es,ep,e,c⟩,r⟩:=x;exact⟨mA,⟨od,es,ep,k _ _ (.inl rfl) e,c⟩,r⟩
 | rng lo hi=>obtain⟨t,u,v,e⟩:=x;exact⟨t,u,v,k _ _ (.inl rfl) e⟩
 | frz ob u A=>obtain⟨e,q⟩:=x;exact⟨k _ _ (.inl rfl) e,A q⟩
 | tbl ps=>
  have e:h.get? a=Vo { cls:=.none,data:=.fields ps }:=x;show h'.get? a=Vo { cls:=.none,data:=.fields ps };exact k a _ (.inl rfl) e
 | met f y=>
  have e:h.get? a=Vo (PySem.W.methodObj (.ref f) (.ref y)):=x;show h'.get? a=Vo (PySem.W.methodObj (.ref f) (.ref y));exact k a _ (.inl rfl) e
 | ext φ=>obtain⟨p,⟨o,e⟩,st⟩:=x;exact⟨st _ _ p λo q=>k _ _ (.inl rfl) q,⟨o,k _ _ (.inl rfl) e⟩,st⟩
theorem aU.lt(x:aU P w H h)(e:H a=Vo o):a<h.objs.size:=(x a o e).lt
def aU.fresh(x:aU P w H h)(e:h.objs.size<=a):H a=Vp:=by
 cases q:H a with
 | none=>rfl
 | some u=>exact absurd (zS (x.lt q) e) (Nat.lt_irrefl _)
def aU.kept(x:aU P w H h)(k:∀b u,h.get? b=Vo u->h'.get? b=Vo u):aU P w H h':=λa o e=>
 (x a o e).stay (λb u _ q=>k b u q) (λ_ q=>q) λ_ _ q=>q
def aU.laid(x:aU P w H h)(k:∀b u,h.get? b=Vo u->h'.get? b=Vo u)(g:h.objs.size<=a)(new:bc P w (upd H a o) h' a o):aU P w (upd H a o) h':=λb u e=>by
 have d:=x.fresh g;by_cases f:b=a
 .subst f;rw[aI]at e;cases e;exact new
 .rw[aq f]at e;exact(x b u e).stay (λc v _ q=>k c v q) (λc q=>by rw[aq (bZ q d)];exact q) λc xs q=>by rw[aq (bZ q d)];exact q
end
def Rd(H:Hp)(a:Vb)(u:HO):Prop:=H a=Vo u\/∃o,H a=Vo (.frz o u)
def Rd.ok{P:Vd}{w:Ve}{H:Hp}{h:Vh}{a:Vb}{u:HO}(r:Rd H a u)(x:aU P w H h):bc P w H h a u:=by
 rcases r with r|⟨o,r⟩
 .exact x a u r
 .obtain⟨_,q⟩:=x a _ r;exact q
def gE:Option HO->Prop
 | some (.lst _)=>True
 | some (.dK _)=>True
 | some (.dT _)=>True
 | some (.set _ _)=>True
 | some (.ins _ _ _)=>True
 | some (.ext _)=>True
 | _=>False
section
variable {P:Vd} {w:Ve} {H:Hp} {h h':Vh} {x e:Vb} {o':HO}
def aU.write(ok:aU P w H h)(d:gE (H x))(j:e=x\/H e=Vo (.own x))(k:∀b u,b≠e->h.get? b=Vo u->h'.get? b=Vo u)(i:∃u,h'.get? e=Vo u)
  (new:bc P w (upd H x o') h' x o'):aU P w (upd H x o') h':=λb u q=>by
 have nown:∀c y,H c=Vo (.own y)->c≠x:=λc y r z=>by subst z;rw[r]at d;exact d
 have ntup:∀c xs,H c=Vo (.tup xs)->c≠x:=λc xs r z=>by subst z;rw[r]at d;exact d
 by_cases f:b=x
 .subst f;rw[aI]at q;cases q;exact new
 .rw[aq f]at q;by_cases a:b=e
  .have n:H b=Vo (.own x):=by
    rcases j with z|z
    .exact absurd (a.trans z) f
    .rw[a];exact z
   rw[q]at n;cases n;obtain⟨v,hv⟩:=i;exact⟨v,by rw[a];exact hv⟩
  .refine(ok b u q).stay (λc v g r=>k c v ?_ r) (λc r=>by rw[aq (nown c b r)];exact r) λc xs r=>by rw[aq (ntup c xs r)];exact r
   rcases g with rfl|g
   .exact a
   .rintro rfl;rcases j with z|z
    .exact nown c b g z
    .rw[g]at z;cases z;exact f rfl
end
structure Un(fs ex:List Vb)(H H':Hp)(h h':Vh):Prop where
 keep:∀b o,h.get? b=Vo o->H b=Vp->b∉fs->b∉ex->h'.get? b=Vo o
 slot:∀b o,h.get? b=Vo o->H b=Vp->b∈fs->b∉ex->∃sl,h'.get? b=Vo { o with slots:=sl }
 free:∀b o,h.get? b=Vo o->H b=Vp->b∉ex->H' b=Vp
 there:∀b o,h.get? b=Vo o->b∉ex->∃o',h'.get? b=Vo o'
 tups:∀b xs,H b=Vo (.tup xs)->H' b=Vo (.tup xs)
 frzs:∀b o u,H b=Vo (.frz o u)->H' b=Vo (.frz o u)
 tbls:∀b ps,H b=Vo (.tbl ps)->∃more,H' b=Vo (.tbl (ps++more))
section
variable {fs fs' ex ex':List Vb} {H H1 H2:Hp} {h h1 h2 h':Vh} {a x e:Vb} {o:HO}
def Un.any(u:Un fs ex H H1 h h1){b:Vb}{ob:Obj}(q:h.get? b=Vo ob)(n:H b=Vp)(a:b∉ex):∃sl,h1.get? b=Vo { ob with slots:=sl }:=by
 by_cases c:b∈fs
 .exact u.slot b ob q n c a
 .exact⟨ob.slots,u.keep b ob q n c a⟩
def Un.kept(k:∀b u,h.get? b=Vo u->h'.get? b=Vo u):Un fs ex H H h h':=
 ⟨λb ob q _ _ _=>k b ob q,λb ob q _ _ _=>⟨ob.slots,k b ob q⟩,λ_ _ _ n _=>n,λb ob q _=>⟨ob,k b ob q⟩,λ_ _ q=>q,λ_ _ _ q=>q,λ_ ps q=>⟨#[],by rw[q];simp⟩⟩
def Un.refl:Un fs ex H H h h:=Un.kept λ_ _ q=>q
def Un.laid(k:∀b u,h.get? b=Vo u->h'.get? b=Vo u)(d:h.objs.size<=a)(c:H a=Vp):Un fs ex H (upd H a o) h h' where
 keep:=λb u q _ _ _=>k b u q
 slot:=λb u q _ _ _=>⟨u.slots,k b u q⟩
 free:=λb u q n _=>by rw[aq (zI (zS (zo q) d))];exact n
 there:=λb u q _=>⟨u,k b u q⟩
 tups:=λb xs q=>by rw[aq (bZ q c)];exact q
 frzs:=λb u xs q=>by rw[aq (bZ q c)];exact q
 tbls:=λb ps q=>⟨#[],by rw[aq (bZ q c),q];simp⟩
def Un.write(c:gE (H x))(j:e=x\/H e=Vo (.own x))(k:∀b u,b≠e->h.get? b=Vo u->h'.get? b=Vo u)(d:∃u,h'.get? e=Vo u):Un fs ex H (upd H x o) h h':=by
 have g:∀b,H b=Vp->b≠x:=λb n z=>by subst z;rw[n]at c;exact c
 have i:∀b,H b=Vp->b≠e:=λb n z=>by
  subst z;rcases j with r|r
  .exact g b n r
  .rw[n]at r;cases r
 have f:∀b u,H b=Vo u->¬gE (Vo u)->b≠x:=λb u q nm z=>by subst z;rw[q]at c;exact nm c
 refine⟨λb u q n _ _=>k b u (i b n) q,λb u q n _ _=>⟨u.slots,k b u (i b n) q⟩,λb u q n _=>by rw[aq (g b n)];exact n,λb u q _=>?_,
  λb xs q=>by rw[aq (f b _ q λz=>z)];exact q,λb u xs q=>by rw[aq (f b _ q λz=>z)];exact q,λb ps q=>⟨#[],by rw[aq (f b _ q λz=>z),q];simp⟩⟩
 by_cases a:b=e
 .subst a;exact d
 .exact⟨u,k b u a q⟩
end
def ed(h:Vh)(H:Hp):List Vb:=(Ai h.objs.size).filter λa=>(H a).isSome
def dy(h:Vh)(H:Hp):Vh:=PySem.W.hideAll h (ed h H)
def xB(h:Vh)(H:Hp):(dy h H).objs.size=h.objs.size:=PySem.W.hideAll_size _ _
def yn{h:Vh}{H:Hp}{b:Vb}{o:Obj}(e:h.get? b=Vo o)(n:H b=Vp):(dy h H).get? b=Vo o:=
 PySem.W.hideAll_get _ e λa=>by have q:(H b).isSome=true:=(List.mem_filter.mp a).2;rw[n]at q;simp at q
def wQ{h:Vh}{H:Hp}{b:Vb}{o:Obj}(e:(dy h H).get? b=Vo o):h.get? b=Vo o/\H b=Vp:=by
 have a:h.get? b=Vo o:=PySem.W.of_hideAll (ed h H) e;refine⟨a,?_⟩;cases q:H b with
 | none=>rfl
 | some x=>
  have c:b∈ed h H:=List.mem_filter.mpr ⟨List.mem_range.mpr (zo a),by simp[q]⟩;have z:(dy h H).get? b=Vp:=PySem.W.hideAll_none (ed h H) c;rw[z]at e;cases e
structure Mod(K:zk)(mg:Vn->Option Va)(base:Vh):Prop where
 kin:K.In base
 glob:base.Ns Vj mg
 blt:∃mb,base.Ns builtinsNs mb/\∀x:Vn,x≠"__name__"->mb x=bootBuiltins x
 nolimit:base.NoLimit
structure Cx where
 prog:Vd
 w:Ve
 K:zk
 mg:Vn->Option Va
 base:Vh
 A:Vi
 N:List Vn
 s₀:Vc
 H₀:Hp
 env:Env
 outer:List Env
 stack:List Env
 ex:List Vb
 fn:Vn->Bool
 calm:Bool
 pn:List (Vb×Obj)
 xe:Va->Vc->Prop
variable {t' n:Nat}{ch fp:List Vb}{M:Model}{A:Vi}{E Q:Va->Vc->Prop}{v:V}{u:Va}{s:Vc}{pins:List (Vb×Obj)}{H:Hp}{body:List Vl}{P:Vd}{w:Ve}{tg:Vk}{h base:Vh}{us:List Va}{C:Vb}{kw:List (Vn×Va)}{mg:Vn->Option Va}
def aN(l:List Env):List Vb:=l.filterMap (·.frame)
abbrev Cx.fs(X:Cx):List Vb:=aN X.outer
def ke(sc:Scope)(x:Vn):Prop:=sc.names.lookup x=Vo .local\/sc.names.lookup x=Vo .cell\/sc.names.lookup x=Vo .free
def Loc(sc:Scope)(x:Vn):Prop:=sc.names.lookup x=Vo .local\/sc.names.lookup x=Vo .cell
def Look(env:Env)(h:Vh)(m:Vn->Option Va)(x:Vn)(u:Va):Prop:=
 (env.kindOf x=Vo .local/\m x=Vo u)\/((env.kindOf x=Vo .cell\/env.kindOf x=Vo .free)/\∃c,env.cells.lookup x=Vo c/\h.IsCell c (Vo u))
structure Cx.Ok(X:Cx):Prop where
 mod:Mod X.K X.mg X.base
 kind:X.env.scope.kind=.function
 glob:X.env.globals=Vj
 blt:X.env.builtins=builtinsNs
 above:X.s₀.heap.objs.size<=X.env.locals
 inj:∀x y c,X.env.cells.lookup x=Vo c->X.env.cells.lookup y=Vo c->x=y
 has:∀x,(X.env.kindOf x=Vo .cell\/X.env.kindOf x=Vo .free)->∃c,X.env.cells.lookup x=Vo c
 cab:∀x c,X.fn x=true->X.env.cells.lookup x=Vo c->X.s₀.heap.objs.size<=c
 hd:X.calm=true->X.A.handled=Vp
 frames:X.A.frames=Vo X.stack
 stk:X.stack=X.outer\/(X.stack=X.env::X.outer/\X.env.frame=Vo X.env.locals)
 exf:∀b∈X.ex,b≠X.env.locals/\∀x c,X.env.cells.lookup x=Vo c->c≠b
 bs:∀b o,X.base.get? b=Vo o->X.s₀.heap.get? b=Vo o/\X.H₀ b=Vp
 bsz:X.base.objs.size<=X.s₀.heap.objs.size
 noex:∀b o,X.base.get? b=Vo o->b∉X.ex
 exfs:∀b∈X.ex,b∉X.fs
 funs:X.s₀.heap.FunFrames X.base X.outer
 frf:∀b∈X.fs,X.H₀ b=Vp
structure Inv(X:Cx)(pins:List (Vb×Obj))(σ:List (Option V))(H:Hp)(s:Vc):Prop where
 ok:X.Ok
 os:s.os=X.s₀.os
 bare:AllBare s.gens
 base:Un X.fs X.ex X.H₀ H X.s₀.heap s.heap
 loc:∃m,s.heap.Ns X.env.locals m/\∀(i:Nat) (x:Vn) (v:V),X.N[i]?=Vo x->σ[i]?=Vo (Vo v)->ke X.env.scope x->∃u,RelV v u/\Look X.env s.heap m x u
 cell:∀x c,X.env.cells.lookup x=Vo c->∃v,s.heap.IsCell c v
 free:H X.env.locals=Vp
 freeC:∀x c,X.env.cells.lookup x=Vo c->H c=Vp
 pin:∀p∈X.pn++pins,s.heap.get? p.1=Vo p.2/\H p.1=Vp/\p.1≠X.env.locals/\p.1∉X.fs/\∀v,p.2.data≠.cell v
 hok:aU X.prog X.w H s.heap
 len:σ.length=X.N.length
section
variable {X:Cx} {pins:List (Vb×Obj)} {σ:List (Option V)} {H H':Hp} {s:Vc} {h':Vh}
def Cx.Ok.nofr(ok:X.Ok){b:Vb}{o:Obj}(e:X.base.get? b=Vo o):b∉X.fs:=λa=>by have:=(ok.funs.mem a).1;rw[e]at this;cases this
theorem Inv.bs(I:Inv X pins σ H s):∀b o,X.base.get? b=Vo o->s.heap.get? b=Vo o/\H b=Vp:=λb o e=>
 ⟨I.base.keep b o (I.ok.bs b o e).1 (I.ok.bs b o e).2 (I.ok.nofr e) (I.ok.noex b o e),I.base.free b o (I.ok.bs b o e).1 (I.ok.bs b o e).2 (I.ok.noex b o e)⟩
def Inv.bk(I:Inv X pins σ H s):∀b o,X.base.get? b=Vo o->s.heap.get? b=Vo o:=λb o e=>(I.bs b o e).1
theorem Inv.mod(I:Inv X pins σ H s):Mod X.K X.mg X.base:=I.ok.mod
def Inv.kIn(I:Inv X pins σ H s):X.K.In s.heap:=I.ok.mod.kin.keeps I.bk
theorem Inv.lt(I:Inv X pins σ H s):X.env.locals<s.heap.objs.size:=let ⟨_,hn,_⟩:=I.loc;hn.lt
def Inv.sz(I:Inv X pins σ H s):X.s₀.heap.objs.size<=s.heap.objs.size:=zT I.ok.above (Nat.le_of_lt I.lt)
def Inv.nofs(I:Inv X pins σ H s){a:Vb}(h:s.heap.objs.size<=a):a∉X.fs:=λb=>by obtain⟨_,o,c,_⟩:=I.ok.funs.mem b;exact absurd (zS (zo c) (zT I.sz h)) (Nat.lt_irrefl _)
def Inv.cne(I:Inv X pins σ H s):∀x c,X.env.cells.lookup x=Vo c->c≠X.env.locals:=λx c e z=>by obtain⟨v,o,d,hd⟩:=I.cell x c e;obtain⟨m,⟨o',es,ep,a,b,_⟩,_⟩:=I.loc;rw[z,a]at d;cases d;rw[b]at hd;cases hd
theorem Inv.funs(I:Inv X pins σ H s):s.heap.FunFrames X.base X.outer:=by
 have all:∀(l:List Env),(∀b∈aN l,b∈X.fs)->X.s₀.heap.FunFrames X.base l->s.heap.FunFrames X.base l:=by
  intro l;induction l with
  | nil=>intro _ _;trivial
  | cons env r g=>
   intro f hl;obtain⟨h,⟨L,o,a,i,j,hd⟩,hr⟩:=hl;have c:L∈X.fs:=f L (by unfold aN;rw[List.filterMap_cons,a];exact zw);obtain⟨sl,e⟩:=I.base.slot L o j (I.ok.frf L c) c λz=>I.ok.exfs L z c;exact⟨h,⟨L,_,a,i,e,hd⟩,g (λb d=>f b (by unfold aN;rw[List.filterMap_cons,a];exact zt _ d)) hr⟩
 exact all X.outer (λ_ d=>d) I.ok.funs
theorem Inv.stack(I:Inv X pins σ H s):s.heap.FunFrames X.base X.stack:=by
 rcases I.ok.stk with e|⟨e,a⟩
 .rw[e];exact I.funs
 .rw[e];obtain⟨m,b,_⟩:=I.loc;refine .cons (by rw[I.ok.kind];decide) a b ?_ I.funs;exact Heap.get?_none_of_le (zT I.ok.bsz I.ok.above)
def Inv.stkSub(I:Inv X pins σ H s):∀b∈aN X.stack,b∈X.env.locals::X.fs:=λb a=>by
 rcases I.ok.stk with e|⟨e,c⟩
 .rw[e]at a;exact zt _ a
 .rw[e]at a;unfold aN at a;rw[List.filterMap_cons,c]at a;exact a
def Inv.stkFree(I:Inv X pins σ H s):∀b∈aN X.stack,H b=Vp:=λb a=>by
 rcases zE.mp (I.stkSub b a)with e|a
 .rw[e];exact I.free
 .obtain⟨_,o,c,_⟩:=I.ok.funs.mem a;exact I.base.free b o c (I.ok.frf b a) λz=>I.ok.exfs b z a
def Inv.step{g':Array GenState}{t':Nat}{d':Drawn}(I:Inv X pins σ H s)
  (hch:∀b∈ch,(b∈X.ex\/X.s₀.heap.objs.size<=b)/\b≠X.env.locals/\(∀x c,X.env.cells.lookup x=Vo c->c≠b)/\∀p∈X.pn++pins,p.1≠b)
  (keep:∀b o,b≠X.env.locals->b∉X.fs->b∉ch->s.heap.get? b=Vo o->H b=Vp->h'.get? b=Vo o)
  (slot:∀b o,b≠X.env.locals->b∈X.fs->b∉ch->s.heap.get? b=Vo o->H b=Vp->∃sl,h'.get? b=Vo { o with slots:=sl }) (free:∀b o,b∉ch->s.heap.get? b=Vo o->H b=Vp->H' b=Vp)
  (there:∀b o,b∉ch->s.heap.get? b=Vo o->∃o',h'.get? b=Vo o')
  (tups:∀b xs,H b=Vo (.tup xs)->H' b=Vo (.tup xs)) (frzs:∀b o u,H b=Vo (.frz o u)->H' b=Vo (.frz o u)) (tbls:∀b ps,H b=Vo (.tbl ps)->∃more,H' b=Vo (.tbl (ps++more)))
  (ns:∀m,s.heap.Ns X.env.locals m->h'.Ns X.env.locals m) (hok:aU X.prog X.w H' h') (E:AllBare g') :
  Inv X pins σ H' { s with heap:=h',gens:=g',drawn:=d',toks:=t' }:=by
 have neL:∀b o,X.s₀.heap.get? b=Vo o->b≠X.env.locals:=λb o e=>zI (zS (zo e) I.ok.above);have neC:∀b o,X.s₀.heap.get? b=Vo o->b∉X.ex->b∉ch:=λb o e a h=>by
  rcases(hch b h).1 with z|z
  .exact a z
  .exact absurd (zS (zo e) z) (Nat.lt_irrefl _)
 have cellK:∀x c,X.env.cells.lookup x=Vo c->∀v,s.heap.IsCell c v->h'.IsCell c v:=λx c e v ⟨o,j,hd⟩=>by
  have f:c∉ch:=λz=>(hch c z).2.2.1 x c e rfl;by_cases A:c∈X.fs
  .obtain⟨sl,q⟩:=slot c o (I.cne x c e) A f j (I.freeC x c e);exact⟨_,q,hd⟩
  .exact⟨o,keep c o (I.cne x c e) A f j (I.freeC x c e),hd⟩
 refine⟨I.ok,I.os,E,⟨λb o e n h a=>?_,λb o e n h a=>?_,λb o e n a=>?_,λb o e a=>?_,λb xs e=>tups b xs (I.base.tups b xs e),λb o xs e=>frzs b o xs (I.base.frzs b o xs e),λb ps e=>?_⟩,?_,λx c e=>?_,?_,λx c e=>?_,λp B=>?_,hok,I.len⟩
 .exact keep b o (neL b o e) h (neC b o e a) (I.base.keep b o e n h a) (I.base.free b o e n a)
 .obtain⟨sl,g⟩:=I.base.slot b o e n h a;obtain⟨y,t⟩:=slot b _ (neL b o e) h (neC b o e a) g (I.base.free b o e n a);exact⟨y,t⟩
 .obtain⟨o',g⟩:=I.base.there b o e a;exact free b o' (neC b o e a) g (I.base.free b o e n a)
 .obtain⟨o',g⟩:=I.base.there b o e a;exact there b o' (neC b o e a) g
 .obtain⟨m1,g⟩:=I.base.tbls b ps e;obtain⟨F,t⟩:=tbls b _ g;exact⟨m1++F,by rw[t,Array.append_assoc]⟩
 .obtain⟨m,G,hl⟩:=I.loc;refine⟨m,ns m G,λi x v g t J=>?_⟩;obtain⟨u,r,l⟩:=hl i x v g t J;refine⟨u,r,?_⟩;rcases l with l|⟨k,c,e,z⟩
  .exact .inl l
  .exact .inr ⟨k,c,e,cellK x c e _ z⟩
 .obtain⟨v,z⟩:=I.cell x c e;exact⟨v,cellK x c e v z⟩
 .obtain⟨m,⟨o,_,_,j,_⟩,_⟩:=I.loc;exact free _ o (λz=>(hch _ z).2.1 rfl) j I.free
 .obtain⟨v,o,j,hd⟩:=I.cell x c e;exact free c o (λz=>(hch c z).2.2.1 x c e rfl) j (I.freeC x c e)
 .obtain⟨e,n,ne,C,d⟩:=I.pin p B;have f:p.1∉ch:=λz=>(hch p.1 z).2.2.2 p B rfl;exact⟨keep p.1 p.2 ne C f e n,free p.1 p.2 f e n,ne,C,d⟩
def Inv.un{t':Nat}(I:Inv X pins σ H s)(u:Un X.fs [] H H' s.heap h')(hok:aU X.prog X.w H' h'):Inv X pins σ H' { s with heap:=h',toks:=t' }:=by
 obtain⟨m,⟨o,es,ep,g,r⟩,_⟩:=id I.loc;obtain⟨sl,h⟩:=u.any g I.free (by simp);exact I.step (g':=s.gens) (d':=s.drawn) (ch:=[]) (λ_ z=>nomatch z) (λb o _ c _ e n=>u.keep b o e n c (by simp)) (λb o _ c _ e n=>u.slot b o e n c (by simp)) (λb o _ e n=>u.free b o e n (by simp)) (λb o _ e=>u.there b o e (by simp)) u.tups u.frzs u.tbls (λk i=>by obtain⟨o',d,f,a,j⟩:=i;rw[g]at a;cases a;exact⟨_,d,f,h,j⟩) hok I.bare
def Inv.call{g':Array GenState}{t':Nat}{d':Drawn}(I:Inv X pins σ H s)(u:Un (aN X.stack) ch H H' s.heap h')(hok:aU X.prog X.w H' h')(j:AllBare g')
  (hch:∀b∈ch,(b∈X.ex\/X.s₀.heap.objs.size<=b)/\b≠X.env.locals/\(∀x c,X.env.cells.lookup x=Vo c->c≠b)/\∀p∈X.pn++pins,p.1≠b) :
  Inv X pins σ H' { s with heap:=h',gens:=g',drawn:=d',toks:=t' }:=by
 obtain⟨m,⟨o,es,ep,i,r⟩,_⟩:=id I.loc;obtain⟨sl,f⟩:=u.any i I.free λz=>(hch _ z).2.1 rfl;exact I.step (ch:=ch) hch (λb o f k a e n=>u.keep b o e n (λz=>(zE.mp (I.stkSub b z)).elim f k) a) (λb o _ _ a e n=>u.any e n a) (λb o a e n=>u.free b o e n a) (λb o a e=>u.there b o e a) u.tups u.frzs u.tbls (λv q=>by obtain⟨o',g,h,d,t⟩:=q;rw[i]at d;cases d;exact⟨_,g,h,f,t⟩) hok j
def Inv.turned{t':Nat}{it:Vb}(I:Inv X pins σ H s)(k:∀b o,b≠it->s.heap.get? b=Vo o->h'.get? b=Vo o)(g:H it=Vp)(f:it≠X.env.locals)
  (h1:it∈X.ex\/X.s₀.heap.objs.size<=it) (h2:∀x c,X.env.cells.lookup x=Vo c->c≠it) (h:∀p∈X.pn++pins,p.1≠it):Inv X pins σ H { s with heap:=h',toks:=t' }:=by
 have d:∀b u,H b=Vo u->b≠it:=λb u e z=>by rw[z,g]at e;cases e
 refine I.step (g':=s.gens) (d':=s.drawn) (ch:=[it]) (λb i=>?_) (λb o _ _ a e _=>k b o (λz=>a (by simp[z])) e) (λb o _ _ a e _=>⟨o.slots,k b o (λz=>a (by simp[z])) e⟩) (λ_ _ _ _ n=>n)
  (λb o a e=>⟨o,k b o (λz=>a (by simp[z])) e⟩) (λ_ _ e=>e) (λ_ _ _ e=>e) (λb ps e=>⟨#[],by rw[e];simp⟩) (λm j=>?_) (λb u e=>?_) I.bare
 .have e:b=it:=by simpa using i
  subst e;exact⟨h1,f,h2,h⟩
 .obtain⟨o,es,ep,t,r⟩:=j;exact⟨o,es,ep,k _ o (Ne.symm f) t,r⟩
 .refine(I.hok b u e).stay (λc v a q=>k c v ?_ q) (λ_ q=>q) λ_ _ q=>q;rcases a with z|z
  .rw[z];exact d b u e
  .exact d c _ z
def Inv.tok(I:Inv X pins σ H s)(t:Nat):Inv X pins σ H { s with toks:=t }:=I.un (h':=s.heap) (t':=t) Un.refl I.hok
theorem Inv.kept{t':Nat}(I:Inv X pins σ H s)(k:∀b u,s.heap.get? b=Vo u->h'.get? b=Vo u):Inv X pins σ H { s with heap:=h',toks:=t' }:=I.un (Un.kept k) (I.hok.kept k)
theorem Inv.laid{a:Vb}{o:HO}{t':Nat}(I:Inv X pins σ H s)(k:∀b u,s.heap.get? b=Vo u->h'.get? b=Vo u)(c:s.heap.objs.size<=a)(new:bc X.prog X.w (upd H a o) h' a o):
  Inv X pins σ (upd H a o) { s with heap:=h',toks:=t' }:=I.un (Un.laid k c (I.hok.fresh c)) (I.hok.laid k c new)
theorem Inv.write{x e:Vb}{o:HO}{t':Nat}(I:Inv X pins σ H s)(c:gE (H x))(d:e=x\/H e=Vo (.own x))(k:∀b u,b≠e->s.heap.get? b=Vo u->h'.get? b=Vo u)(a:∃u,h'.get? e=Vo u)
  (new:bc X.prog X.w (upd H x o) h' x o):Inv X pins σ (upd H x o) { s with heap:=h',toks:=t' }:=I.un (Un.write c d k a) (I.hok.write c d k a new)
def Inv.pins_of{a:List (Vb×Obj)}(I:Inv X pins σ H s)(h:∀p∈a,s.heap.get? p.1=Vo p.2/\H p.1=Vp/\p.1≠X.env.locals/\p.1∉X.fs/\∀v,p.2.data≠.cell v):Inv X a σ H s:=
 ⟨I.ok,I.os,I.bare,I.base,I.loc,I.cell,I.free,I.freeC,λp b=>(zM.mp b).elim (λz=>I.pin p (Ab _ z)) (h p),I.hok,I.len⟩
def my{N:List Vn}(c:N.Nodup){i j:Nat}{x:Vn}(a:N[i]?=Vo x)(b:N[j]?=Vo x):i=j:=by obtain⟨h1,d⟩:=zy.mp a;obtain⟨h2,f⟩:=zy.mp b;exact(List.getElem_inj c).mp (d.trans f.symm)
def nQ{M:Model}{A:Vi}{E:Va->Vc->Prop}{i:Nat}{x:Vn}{Q:Unit->Vc->Prop}(I:Inv X pins σ H s)(hN:X.N.Nodup)(hi:X.N[i]?=Vo x)(B:Loc X.env.scope x)(r:RelV v u)
  (h:∀s',Inv X pins (σ.set i (Vo v)) H s'->(∃a,Heap.SameBut a s.heap s'.heap/\(a=X.env.locals\/X.env.cells.lookup x=Vo a))->Q () s') (hf:X.fn x=true\/X.env.scope.names.lookup x=Vo .local:=by first|exact .inl rfl|exact .inr rfl|assumption):Vf M A (storeName X.env x u) Q E s:=by
 obtain⟨m,Y,hl⟩:=id I.loc;have P:(X.env.scope.kind == .class || (X.env.scope.kind == .module && X.env.locals != X.env.globals))=false:=by rw[I.ok.kind];rfl
 have G:i<σ.length:=by rw[I.len];exact(zy.mp hi).1
 have cne:=I.cne;have tracked:∀{a:Vb} {h':Vh},(∃o,s.heap.get? a=Vo o/\H a=Vp)->Heap.SameBut a s.heap h'->aU X.prog X.w H h':=λ{a h'} ha f b ob e=>by
  obtain⟨_,_,C⟩:=ha;refine(I.hok b ob e).stay (λc W t q=>(f.2 c ?_).trans q) (λ_ q=>q) λ_ _ q=>q;rintro rfl;rcases t with rfl|t
  .rw[C]at e;cases e
  .rw[C]at t;cases t
 rcases B with J|J
 .refine wpAny_storeName_local J Y (λh' Z f=>?_) P;obtain⟨oL,_,_,a0,_⟩:=id Y;refine h _ ⟨I.ok,I.os,I.bare,⟨λb o e n K B=>?_,λb o e n K B=>?_,I.base.free,λb o e B=>?_,I.base.tups,I.base.frzs,I.base.tbls⟩,⟨_,Z,λj y v' g F e3=>?_⟩,λy c e=>?_,I.free,I.freeC,λp hp=>?_,tracked ⟨oL,a0,I.free⟩ f,by simpa using I.len⟩ ⟨_,f,.inl rfl⟩
  .exact(f.2 b (zI (zS (zo e) I.ok.above))).trans (I.base.keep b o e n K B)
  .obtain⟨sl,g⟩:=I.base.slot b o e n K B;exact⟨sl,(f.2 b (zI (zS (zo e) I.ok.above))).trans g⟩
  .obtain⟨o',g⟩:=I.base.there b o e B;exact⟨o',(f.2 b (zI (zS (zo e) I.ok.above))).trans g⟩
  .by_cases L:j=i
   .subst L;rw[hi]at g;cases g;rw[List.getElem?_set_self G]at F;cases F;exact⟨u,r,.inl ⟨J,by simp⟩⟩
   .rw[List.getElem?_set_ne (Ne.symm L)]at F;obtain⟨u',r',q⟩:=hl j y v' g F e3;refine⟨u',r',?_⟩;rcases q with⟨k,e⟩|⟨k,c,e,z⟩
    .refine .inl ⟨k,?_⟩;have:y≠x:=λe=>L (my hN g (e ▸ hi));simp[this,e]
    .exact .inr ⟨k,c,e,z.sameBut f (cne y c e)⟩
  .obtain⟨W,z⟩:=I.cell y c e;exact⟨W,z.sameBut f (cne y c e)⟩
  .obtain⟨e,n,ne,nf,d⟩:=I.pin p hp;exact⟨(f.2 p.1 ne).trans e,n,ne,nf,d⟩
 .have O:X.fn x=true:=by
   rcases hf with z|z
   .exact z
   .rw[z]at J;cases J
  obtain⟨c,t⟩:=I.ok.has x (.inl J);obtain⟨W,z⟩:=I.cell x c t;refine wpAny_storeName_cell I.ok.kind J t z (λh' R f=>?_);obtain⟨oc,S,T⟩:=id z;refine h { s with heap:=h' } ⟨I.ok,I.os,I.bare,⟨λb o e n K B=>?_,λb o e n K B=>?_,I.base.free,λb o e B=>?_,I.base.tups,I.base.frzs,I.base.tbls⟩,⟨m,Y.sameBut f (Ne.symm (cne x c t)),λj y v' g F e3=>?_⟩,λy c' e=>?_,I.free,I.freeC,λp hp=>?_,tracked ⟨oc,S,I.freeC x c t⟩ f,by simpa using I.len⟩ ⟨c,f,.inr t⟩
  .exact(f.2 b (zI (zS (zo e) (I.ok.cab x c O t)))).trans (I.base.keep b o e n K B)
  .obtain⟨sl,g⟩:=I.base.slot b o e n K B;exact⟨sl,(f.2 b (zI (zS (zo e) (I.ok.cab x c O t)))).trans g⟩
  .obtain⟨o',g⟩:=I.base.there b o e B;exact⟨o',(f.2 b (zI (zS (zo e) (I.ok.cab x c O t)))).trans g⟩
  .by_cases L:j=i
   .subst L;rw[hi]at g;cases g;rw[List.getElem?_set_self G]at F;cases F;exact⟨u,r,.inr ⟨.inl J,c,t,R⟩⟩
   .rw[List.getElem?_set_ne (Ne.symm L)]at F;obtain⟨u',r',q⟩:=hl j y v' g F e3;refine⟨u',r',?_⟩;rcases q with q|⟨k,c',e,z'⟩
    .exact .inl q
    .refine .inr ⟨k,c',e,z'.sameBut f ?_⟩;rintro rfl;exact L (my hN g (I.ok.inj _ _ _ e t ▸ hi))
  .by_cases U:c'=c
   .subst U;exact⟨_,R⟩
   .obtain⟨w2,z2⟩:=I.cell y c' e;exact⟨w2,z2.sameBut f U⟩
  .obtain⟨e,n,ne,nf,d⟩:=I.pin p hp;refine⟨(f.2 p.1 ?_).trans e,n,ne,nf,d⟩;intro q;rw[q,S]at e;have q':oc=p.2:=zZ e;exact d W (by rw[<-q'];exact T)
def jt{M:Model}{A:Vi}{E:Va->Vc->Prop}{i:Nat}{x:Vn}{Q:Unit->Vc->Prop}(I:Inv X pins σ H s)(a:X.N.Nodup)(hi:X.N[i]?=Vo x)(b:Loc X.env.scope x)(r:RelV v u)
  (h:∀s',Inv X pins (σ.set i (Vo v)) H s'->Q () s') (c:X.fn x=true\/X.env.scope.names.lookup x=Vo .local:=by first|exact .inl rfl|exact .inr rfl|assumption):Vf M A (storeName X.env x u) Q E s:=
 nQ I a hi b r (λs' d _=>h s' d) c
def Inv.call'{s':Vc}(I:Inv X pins σ H s)(a:s'.os=s.os)(u:Un (aN X.stack) ch H H' s.heap s'.heap)(hok:aU X.prog X.w H' s'.heap)(d:AllBare s'.gens)
  (hch:∀b∈ch,(b∈X.ex\/X.s₀.heap.objs.size<=b)/\b≠X.env.locals/\(∀x c,X.env.cells.lookup x=Vo c->c≠b)/\∀p∈X.pn++pins,p.1≠b):Inv X pins σ H' s':=by
 obtain⟨h',g',d',t',o'⟩:=s';have e:o'=s.os:=a;subst e;exact I.call (g':=g') (t':=t') (d':=d') u hok d hch
end
abbrev XK:=Va->Option Vb->Hp->Prop
abbrev St:=List (Option V)
abbrev VK:=V->Hp->Prop
abbrev TE:=St->Hp->VK->Prop
abbrev TT:=St->Hp->(Bool->Hp->Prop)->Prop
abbrev TA:=St->Hp->(List V->Hp->Prop)->Prop
structure Ends where
 nx:St->Hp->Prop
 rt:VK
 bk:St->Hp->Prop:=λ_ _=>False
 ct:St->Hp->Prop:=λ_ _=>False
abbrev TS:=Ends->St->Hp->Prop
def EP(X:Cx)(pins:List (Vb×Obj))(σ:St)(Q:VK)(u:Va)(s':Vc):Prop:=∃v H',Inv X pins σ H' s'/\RelV v u/\Q v H'
def TP(X:Cx)(pins:List (Vb×Obj))(σ:St)(Q:Bool->Hp->Prop)(b:Bool)(s':Vc):Prop:=∃H',Inv X pins σ H' s'/\Q b H'
def AP(X:Cx)(pins:List (Vb×Obj))(σ:St)(Q:List V->Hp->Prop)(us:List Va)(s':Vc):Prop:=∃vs H',Inv X pins σ H' s'/\Vals vs us/\Q vs H'
def SP(X:Cx)(pins:List (Vb×Obj))(D:Ends)(f:Flow)(s':Vc):Prop:=
 match f with
 | .next=>∃a H',Inv X pins a H' s'/\D.nx a H'
 | .brk=>∃a H',Inv X pins a H' s'/\D.bk a H'
 | .cont=>∃a H',Inv X pins a H' s'/\D.ct a H'
 | .ret u=>∃v a H',Inv X pins a H' s'/\RelV v u/\D.rt v H'
def PE(X:Cx)(e:Vk)(t:TE):Prop:=
 ∀(pins:List (Vb×Obj)) (s:Vc) (σ:St) (H:Hp) (Q:VK),Inv X pins σ H s->t σ H Q->Vf (Vg X.prog X.w) X.A (eval e X.env) (EP X pins σ Q) X.xe s
def PT(X:Cx)(e:Vk)(t:TT):Prop:=
 ∀(pins:List (Vb×Obj)) (s:Vc) (σ:St) (H:Hp) (Q:Bool->Hp->Prop),Inv X pins σ H s->t σ H Q->Vf (Vg X.prog X.w) X.A (isTrue e X.env (eval e X.env)) (TP X pins σ Q) X.xe s
def PW(X:Cx)(e:Vk)(t:TT):Prop:=
 ∀(whole:Sem Va) (pins:List (Vb×Obj)) (s:Vc) (σ:St) (H:Hp) (Q:Bool->Hp->Prop),Inv X pins σ H s->t σ H Q->Vf (Vg X.prog X.w) X.A (isTrue e X.env whole) (TP X pins σ Q) X.xe s
def PW.pt{X:Cx}{e:Vk}{t:TT}(h:PW X e t):PT X e t:=h _
def PA(X:Cx)(es:List Vk)(t:TA):Prop:=
 ∀(pos:Pos) (pins:List (Vb×Obj)) (s:Vc) (σ:St) (H:Hp) (Q:List V->Hp->Prop),Inv X pins σ H s->t σ H Q->Vf (Vg X.prog X.w) X.A (spliced (backTo pos (starEach es X.env))) (AP X pins σ Q) X.xe s
def PS(X:Cx)(st:Vl)(t:TS):Prop:=
 ∀(pins:List (Vb×Obj)) (s:Vc) (σ:St) (H:Hp) (D:Ends),Inv X pins σ H s->t D σ H->Vf (Vg X.prog X.w) X.A (exec st X.env) (SP X pins D) X.xe s
def bI(X:Cx)(st:List Vl)(t:TS):Prop:=
 ∀(pins:List (Vb×Obj)) (s:Vc) (σ:St) (H:Hp) (D:Ends),Inv X pins σ H s->t D σ H->Vf (Vg X.prog X.w) X.A (execs st X.env) (SP X pins D) X.xe s
def ai{α:Type}{t:Sem α}{Q b:α->Vc->Prop}(h:Vf M A t Q E s)(c:∀a s,Q a s->b a s):Vf M A t b E s:=wpAny_mono h c λ_ _ x=>x
section
variable {X:Cx}
def bin{a b:Vk}{ta tb:TE}(g:PE X a ta)(i:PE X b tb){σ:St}{R:V->V->Hp->Prop}(I:Inv X pins σ H s)(h:ta σ H λx H1=>tb σ H1 λy H2=>R x y H2)
  {α:Type} {Q:α->Vc->Prop} {f:Va->Va->Sem α}
  (j:∀v u s2 x y H2,Inv X pins σ H2 s2->RelV x v->RelV y u->R x y H2->Vf (Vg X.prog X.w) X.A (f v u) Q X.xe s2) :
  Vf (Vg X.prog X.w) X.A (eval a X.env) (λv c=>Vf (Vg X.prog X.w) X.A (eval b X.env) (λu d=>Vf (Vg X.prog X.w) X.A (f v u) Q X.xe d) X.xe c) X.xe s:=by
 refine ai (g pins s σ H _ I h) λv s1 ⟨x,H1,k,r1,n⟩=>?_;refine ai (i pins s1 σ H1 _ k n) λu s2 ⟨y,H2,o,p,q⟩=>?_;exact j v u s2 x y H2 o r1 p q
def jJ(i:Nat):TE:=λσ H Q=>∃v,σ[i]?=Vo (Vo v)/\Q v H
def tC(v:V):TE:=λ_ H Q=>Q v H
def xg{i:Nat}{x:Vn}{pos:Pos}(g:X.N[i]?=Vo x)(hv:ke X.env.scope x)(hd:(x == ("__debug__":Vn))=false:=by decide)(d:(x == ("__classdict__":Vn))=false:=by decide):PE X (.Name x pos) (jJ i):=by
 intro pins s σ H Q I h;obtain⟨v,e,h⟩:=h;obtain⟨m,j,hl⟩:=I.loc;obtain⟨u,r,l⟩:=hl i x v g e hv;have fin:EP X pins σ Q u s:=⟨v,H,I,r,h⟩;rcases l with⟨b,k⟩|⟨b,c,f,a⟩
 .exact wpAny_Name (wpAny_loadName_local I.ok.kind b j k fin) hd
 .rcases b with b|b
  .exact wpAny_Name (wpAny_loadName_cell I.ok.kind b f a fin) hd
  .exact wpAny_Name (wpAny_loadName_free I.ok.kind b f a fin d) hd
def af{i j pos}:PE X (.Constant (.int i) j pos) (tC (.int i)):=λ_ _ _ H _ I h=>wpAny_Constant_int ⟨.int i,H,I.tok _,⟨_,rfl⟩,h⟩
def cF{b j pos}:PE X (.Constant (.bool b) j pos) (tC (.bl b)):=λ_ _ _ H _ I h=>Constant_bool ⟨.bl b,H,I,rfl,h⟩
def gM{j pos}:PE X (.Constant .none j pos) (tC .non):=λ_ _ _ H _ I h=>Constant_none ⟨.non,H,I,rfl,h⟩
def ak{x j pos}:PE X (.Constant (.str x) j pos) (tC (.str x)):=λ_ _ _ H _ I h=>Calls.Constant_str ⟨.str x,H,I.tok _,⟨_,rfl⟩,h⟩
def Gl(X:Cx)(x:Vn):Prop:=X.env.kindOf x=Vo .globalImplicit
def eL{E:Va->Vc->Prop}{σ:St}{x:Vn}{pos:Pos}(I:Inv X pins σ H s)(a:Gl X x)(b:X.mg x=Vo u)(h:Q u s)
  (hd:(x == ("__debug__":Vn))=false:=by decide):Vf (Vg X.prog X.w) X.A (eval (.Name x pos) X.env) Q E s:=
 Calls.Name_function_global I.ok.kind a (Calls.loadGlobal_global (by rw[I.ok.glob];exact I.mod.glob.keeps I.bk) b h) hd
def fK{E:Va->Vc->Prop}{σ:St}{x:Vn}{pos:Pos}(I:Inv X pins σ H s)(a:Gl X x)(b:X.mg x=Vp)(hv:bootBuiltins x=Vo u)(h:Q u s)
  (c:x≠"__name__":=by decide) (hd:(x == ("__debug__":Vn))=false:=by decide):Vf (Vg X.prog X.w) X.A (eval (.Name x pos) X.env) Q E s:=by
 obtain⟨mb,h1,h2⟩:=I.mod.blt;exact Calls.Name_function_global I.ok.kind a (Calls.loadGlobal_builtin (by rw[I.ok.glob];exact I.mod.glob.keeps I.bk) b (by rw[I.ok.blt];exact h1.keeps I.bk) ((h2 x c).trans hv) h) hd
def bQ{x:Vn}{pos:Pos}(a:Gl X x)(b:X.mg x=Vo u)(r:RelV v u)(hd:(x == ("__debug__":Vn))=false:=by decide):PE X (.Name x pos) (tC v):=
 λ_ _ _ H _ I h=>eL I a b ⟨v,H,I,r,h⟩ hd
def eo{x:Vn}{pos:Pos}(a:Gl X x)(b:X.mg x=Vp)(hv:bootBuiltins x=Vo u)(r:RelV v u)(c:x≠"__name__":=by decide)(hd:(x == ("__debug__":Vn))=false:=by decide):PE X (.Name x pos) (tC v):=
 λ_ _ _ H _ I h=>fK I a b hv ⟨v,H,I,r,h⟩ c hd
variable {a b:Vk} {ta tb:TE} {pos:Pos}
def PC(X:Cx)(op:CmpOp)(a b:Vk)(t:TE):Prop:=
 ∀(pins:List (Vb×Obj)) (s:Vc) (σ:St) (H:Hp) (Q:VK),Inv X pins σ H s->t σ H Q ->
  Vf (Vg X.prog X.w) X.A (eval a X.env) (λv c=>Vf (Vg X.prog X.w) X.A (eval b X.env) (λu d=>Vf (Vg X.prog X.w) X.A (compareOp op v u) (EP X pins σ Q) X.xe d) X.xe c) X.xe s
def tB(t:TE):TT:=λσ H Q=>t σ H λx H1=>∃c,x=.bl c/\Q c H1
def wU{op:CmpOp}{t:TE}(h:PC X op a b t)(h1:behindInMarks op b=false:=by first|exact nobehind _ (by decide) (by decide)|rfl):PE X (.Compare a [op] [b] pos) t:=λpins s σ H Q I c=>wpAny_Compare1 (h pins s σ H Q I c) h1
def nR{op:CmpOp}{t:TE}(h:PC X op a b t)(h1:behindInMarks op b=false:=by first|exact nobehind _ (by decide) (by decide)|rfl):PT X (.Compare a [op] [b] pos) (tB t):=by intro pins s σ H Q I f;refine wpAny_isTrue_Compare1 (ai (h pins s σ H _ I f) λv s1 h1=>ai h1 λu s2 h2=>ai h2 λc j ⟨x,H1,g,r1,i⟩=>?_) h1;obtain⟨d,rfl,q⟩:=i;cases r1;exact wpAny_truthy_bool ⟨H1,g,q⟩
def bY{e:Vk}{t:TE}(h:PE X e t)(a:∀whole,isTrue e X.env whole=(do let v <-whole;standAt e.pos;holding [v] (truthy v)):=by intro _;rfl):PT X e (tB t):=by intro pins s σ H Q I b;refine isTrue_plain (ai (h pins s σ H _ I b) λv s1 ⟨x,H1,c,r1,f⟩=>?_) (a _);obtain⟨d,rfl,q⟩:=f;cases r1;exact wpAny_truthy_bool ⟨H1,c,q⟩
variable {tA tB':TT} {rest:List Vk}
def rV(t u:TT):TT:=λσ H Q=>t σ H λc H1=>if c=true then u σ H1 Q else Q false H1
def si(t u:TT):TT:=λσ H Q=>t σ H λc H1=>if c=true then Q true H1 else u σ H1 Q
def pZ(t:TT):TT:=λσ H Q=>t σ H λc H1=>Q (!c) H1
def vG(b:PT X a tA):PW X (.BoolOp .And [a] pos) tA:=by
 intro d pins s σ H Q I h;refine isTrue_and (ai (b pins s σ H Q I h) λc s1 e=>?_);cases c with
 | true=>exact isTrue_and_nil e
 | false=>exact e
def dI(b:PT X a tA):PW X (.BoolOp .Or [a] pos) tA:=by
 intro d pins s σ H Q I h;refine isTrue_or (ai (b pins s σ H Q I h) λc s1 e=>?_);cases c with
 | false=>exact isTrue_or_nil e
 | true=>exact e
def uS(g:PT X a tA)(i:PW X (.BoolOp .And (b::rest) pos) tB'):PW X (.BoolOp .And (a::b::rest) pos) (rV tA tB'):=by
 intro j pins s σ H Q I h;refine isTrue_and (ai (g pins s σ H _ I h) λc s1 ⟨H1,d,f⟩=>?_);cases c with
 | true=>exact i j pins s1 σ H1 Q d f
 | false=>exact⟨H1,d,f⟩
def dm(g:PT X a tA)(i:PW X (.BoolOp .Or (b::rest) pos) tB'):PW X (.BoolOp .Or (a::b::rest) pos) (si tA tB'):=by
 intro j pins s σ H Q I h;refine isTrue_or (ai (g pins s σ H _ I h) λc s1 ⟨H1,d,f⟩=>?_);cases c with
 | true=>exact⟨H1,d,f⟩
 | false=>exact i j pins s1 σ H1 Q d f
def bX(b:PT X a tA):PT X (.UnaryOp .Not a pos) (pZ tA):=by intro pins s σ H Q I h;exact isTrue_not (b pins s σ H (λc H1=>Q (!c) H1) I h)
def oK(ta tb:TE):TE:=λσ H Q=>ta σ H λx H1=>∃c,x=.bl c/\if c=true then tb σ H1 Q else Q (.bl false) H1
def p5(ta tb:TE):TE:=λσ H Q=>ta σ H λx H1=>∃c,x=.bl c/\if c=true then Q (.bl true) H1 else tb σ H1 Q
def nE(ta:TE):TE:=λσ H Q=>ta σ H λx H1=>∃c,x=.bl c/\Q (.bl (!c)) H1
def dM{op}{t:TE}(h:PE X a t):PE X (.BoolOp op [a] pos) t:=λpins s σ H Q I b=>BoolOp_one (h pins s σ H Q I b)
def dn(g:PE X a ta)(i:PE X (.BoolOp .And (b::rest) pos) tb):PE X (.BoolOp .And (a::b::rest) pos) (oK ta tb):=by
 intro pins s σ H Q I h;refine BoolOp_and (ai (g pins s σ H _ I h) λv s1 ⟨x,H1,f,r1,d⟩=>?_);obtain⟨c,rfl,d⟩:=d;cases r1;refine wpAny_truthy_bool ?_;cases c with
 | true=>exact i pins s1 σ H1 Q f d
 | false=>exact⟨.bl false,H1,f,rfl,d⟩
def wY(g:PE X a ta)(i:PE X (.BoolOp .Or (b::rest) pos) tb):PE X (.BoolOp .Or (a::b::rest) pos) (p5 ta tb):=by
 intro pins s σ H Q I h;refine BoolOp_or (ai (g pins s σ H _ I h) λv s1 ⟨x,H1,f,r1,d⟩=>?_);obtain⟨c,rfl,d⟩:=d;cases r1;refine wpAny_truthy_bool ?_;cases c with
 | false=>exact i pins s1 σ H1 Q f d
 | true=>exact⟨.bl true,H1,f,rfl,d⟩
def yh(d:PE X a ta):PE X (.UnaryOp .Not a pos) (nE ta):=by intro pins s σ H Q I h;refine UnaryOp_ (ai (d pins s σ H _ I h) λv s1 ⟨x,H1,f,r1,b⟩=>?_);obtain⟨c,rfl,b⟩:=b;cases r1;exact not_of (wpAny_truthy_bool ⟨.bl (!c),H1,f,rfl,b⟩)
def pM(t:TT)(ta tb:TE):TE:=λσ H Q=>t σ H λc H1=>if c=true then ta σ H1 Q else tb σ H1 Q
def vp{c:Vk}(i:PT X c tA)(j:PE X a ta)(k:PE X b tb):PE X (.IfExp c a b pos) (pM tA ta tb):=by
 intro pins s σ H Q I h;refine wpAny_IfExp (ai (i pins s σ H _ I h) λd s1 ⟨H1,f,g⟩=>?_);cases d with
 | true=>exact j pins s1 σ H1 Q f g
 | false=>exact k pins s1 σ H1 Q f g
end
def ag(K:zk)(H:Hp)(a:Vb)(xs:List V):Prop:=
 Rd H a (.lst xs) ∨
  ∃(o:Obj) (b:Array Va) (n:Nat),K.lookup a=Vo o/\o.cls=.type "list"/\o.dict=Vp/\o.data=.seq b n/\b.size<=sizeLine/\Vals xs b.toList
def ah(K:zk)(H:Hp)(a:Vb)(xs:List V):Prop:=
 Rd H a (.tup xs) ∨
  ∃(o:Obj) (b:Array Va) (n:Nat),K.lookup a=Vo o/\o.cls=.type "tuple"/\o.data=.seq b n/\b.size<=sizeLine/\Vals xs b.toList
def uq:Va->Option V
 | .none=>Vo .non
 | .bool b=>Vo (.bl b)
 | .int i _=>Vo (.int i)
 | .str x _=>Vo (.str x)
 | .bytes b _=>Vo (.byt b)
 | .float b _=>Vo (.flt b)
 | .ref a=>Vo (.ref a)
 | .type n=>Vo (.ty n)
 | _=>Vp
def RelV.abs{x:V}(r:RelV x u):uq u=Vo x:=by
 cases x with
 | non=>cases r;rfl
 | bl _=>cases r;rfl
 | int _=>obtain⟨t,rfl⟩:=r;rfl
 | str _=>obtain⟨t,rfl⟩:=r;rfl
 | byt _=>obtain⟨t,rfl⟩:=r;rfl
 | flt _=>obtain⟨t,rfl⟩:=r;rfl
 | ref _=>cases r;rfl
 | ty _=>cases r;rfl
def RelV.inj{x y:V}(r:RelV x u)(q:RelV y u):x=y:=zZ (r.abs.symm.trans q.abs)
theorem Vals.inj:∀{xs ys:List V} {us:List Va},Vals xs us->Vals ys us->xs=ys
 | _,_,_,.nil,.nil=>rfl
 | _,_,_,.cons r t,.cons a t'=>by rw[r.inj a,Vals.inj t t']
section
variable {X:Cx} {pins:List (Vb×Obj)} {σ:St} {H:Hp} {s:Vc} {a:Vb} {xs ys:List V}
def ag.of{K:zk}(h:H a=Vo (.lst xs)):ag K H a xs:=.inl (.inl h)
def ah.of{K:zk}(h:H a=Vo (.tup xs)):ah K H a xs:=.inl (.inl h)
def Inv.list(I:Inv X pins σ H s)(h:ag X.K H a xs):∃b:List Va,Vals xs b/\PlainL s.heap a b.toArray/\xs.length<=sizeLine:=by
 rcases h with h|⟨o,b,n,c,d,hd,f,g,r⟩
 .obtain⟨z,b,n,r,e⟩:=h.ok I.hok;exact⟨b,r,⟨_,n,e,rfl,rfl,rfl⟩,z⟩
 .refine⟨b.toList,r,⟨o,n,I.kIn a o c,d,hd,by simpa using f⟩,?_⟩;have e:=r.length;simp only[zu]at e;omega
def Inv.tuple(I:Inv X pins σ H s)(h:ah X.K H a xs):∃b:List Va,Vals xs b/\IsTup s.heap a b.toArray/\xs.length<=sizeLine:=by
 rcases h with h|⟨o,b,n,c,d,f,g,r⟩
 .obtain⟨z,b,r,p⟩:=h.ok I.hok;exact⟨b,r,p,z⟩
 .refine⟨b.toList,r,⟨o,I.kIn a o c,d,n,by simpa using f⟩,?_⟩;have e:=r.length;simp only[zu]at e;omega
def Inv.list_inj(I:Inv X pins σ H s)(h:ag X.K H a xs)(h':ag X.K H a ys):xs=ys:=by
 obtain⟨c,r,⟨o,n,e,_,_,d⟩,_⟩:=I.list h;obtain⟨b,i,⟨o',k,f,_,_,g⟩,_⟩:=I.list h';rw[e]at f;cases f;rw[d]at g;injection g with j _;have:c=b:=by simpa using congrArg Array.toList j
 subst this;exact r.inj i
def Inv.tuple_inj(I:Inv X pins σ H s)(h:ah X.K H a xs)(h':ah X.K H a ys):xs=ys:=by
 obtain⟨c,r,⟨o,e,_,n,d⟩,_⟩:=I.tuple h;obtain⟨b,i,⟨o',f,_,k,g⟩,_⟩:=I.tuple h';rw[e]at f;cases f;rw[d]at g;injection g with j _;have:c=b:=by simpa using congrArg Array.toList j
 subst this;exact r.inj i
end
abbrev Cx.wish(X:Cx)(E:Va->Vc->Prop):Cx:={ X with xe:=E }
abbrev Cx.nox(X:Cx):Cx:=X.wish λ_ _=>False
theorem Cx.Ok.wish{X:Cx}(ok:X.Ok)(E:Va->Vc->Prop):(X.wish E).Ok:=
 ⟨ok.mod,ok.kind,ok.glob,ok.blt,ok.above,ok.inj,ok.has,ok.cab,ok.hd,ok.frames,ok.stk,ok.exf,ok.bs,ok.bsz,ok.noex,ok.exfs,ok.funs,ok.frf⟩
def Cx.Ok.unwish{X:Cx}(ok:(X.wish E).Ok):X.Ok:=
 ⟨ok.mod,ok.kind,ok.glob,ok.blt,ok.above,ok.inj,ok.has,ok.cab,ok.hd,ok.frames,ok.stk,ok.exf,ok.bs,ok.bsz,ok.noex,ok.exfs,ok.funs,ok.frf⟩
section
variable {X:Cx} {pins:List (Vb×Obj)} {σ:St} {H:Hp} {s:Vc} {E:Va->Vc->Prop}
theorem Inv.wish(I:Inv X pins σ H s)(E:Va->Vc->Prop):Inv (X.wish E) pins σ H s:=⟨I.ok.wish E,I.os,I.bare,I.base,I.loc,I.cell,I.free,I.freeC,I.pin,I.hok,I.len⟩
theorem Inv.unwish(I:Inv (X.wish E) pins σ H s):Inv X pins σ H s:=⟨I.ok.unwish,I.os,I.bare,I.base,I.loc,I.cell,I.free,I.freeC,I.pin,I.hok,I.len⟩
theorem SP.unwish{D:Ends}{f:Flow}{s':Vc}(h:SP (X.wish E) pins D f s'):SP X pins D f s':=by
 cases f with
 | next=>obtain⟨a,H',I,q⟩:=h;exact⟨a,H',I.unwish,q⟩
 | brk=>obtain⟨a,H',I,q⟩:=h;exact⟨a,H',I.unwish,q⟩
 | cont=>obtain⟨a,H',I,q⟩:=h;exact⟨a,H',I.unwish,q⟩
 | ret u=>obtain⟨v,a,H',I,r,q⟩:=h;exact⟨v,a,H',I.unwish,r,q⟩
theorem bI.nox{st:List Vl}{t:TS}(h:bI X.nox st t):bI X st t:=λpins s σ H D I a=>
 wpAny_mono (h pins s σ H D (I.wish _) a) (λ_ _ q=>q.unwish) λ_ _ z=>False.elim z
end
section
variable {X:Cx} {st:Vl} {rest:List Vl} {t u:TS} {e:Vk} {te:TE} {pos:Pos}
def nG:TS:=λD σ H=>D.nx σ H
def pH(t u:TS):TS:=λD σ H=>t { D with nx:=u D } σ H
def aL:bI X [] nG:=λ_ _ σ H _ I h=>wpAny_execs_nil ⟨σ,H,I,h⟩
def ar(h1:PS X st t)(h2:bI X rest u):bI X (st::rest) (pH t u):=by
 intro pins s σ H D I h;refine wpAny_execs_cons (ai (h1 pins s σ H { D with nx:=u D } I h) λf s1 q=>?_);cases f with
 | next=>
  obtain⟨a,H',b,q⟩:=q;exact h2 pins s1 a H' D b q
 | ret v=>exact q
 | brk=>exact q
 | cont=>exact q
def ao(h1:PS X st t):bI X [st] t:=by
 intro pins s σ H D I h;refine wpAny_execs_cons (ai (h1 pins s σ H D I h) λf s1 q=>?_);cases f with
 | next=>exact wpAny_execs_nil q
 | ret v=>exact q
 | brk=>exact q
 | cont=>exact q
def Inv.quiet{σ:St}(I:Inv X pins σ H s):interactive X.env=false:=by simp[interactive,I.ok.kind]
def nt(te:TE):TS:=λD σ H=>te σ H λ_ H1=>D.nx σ H1
def cL(a:PE X e te)(b:swapsWith e Vp pos.line X.env=pure false:=by rfl):PS X (.Expr e pos) (nt te):=by intro pins s σ H D I h;exact wpAny_Expr_any (ai (a pins s σ H _ I h) λv s1 ⟨x,H1,c,r1,d⟩=>⟨σ,H1,c,d⟩) I.quiet b
def gX(te:TE):TS:=λD σ H=>te σ H D.rt
def ax(a:PE X e te):PS X (.Return (Vo e) pos) (gX te):=by intro pins s σ H D I h;exact wpAny_Return_some (ai (a pins s σ H _ I h) λv s1 ⟨x,H1,b,r1,c⟩=>⟨x,σ,H1,b,r1,c⟩)
def oW(c:TT)(t u:TS):TS:=λD σ H=>c σ H λb H1=>if b=true then t D σ H1 else u D σ H1
def aO{c:Vk}{a b:List Vl}{tc:TT}(i:PT X c tc)(j:bI X a t)(k:bI X b u):PS X (.If c a b pos) (oW tc t u):=by
 intro pins s σ H D I h;refine wpAny_If (ai (i pins s σ H _ I h) λd s1 ⟨H1,f,g⟩=>?_);cases d with
 | true=>exact j pins s1 σ H1 D f g
 | false=>exact k pins s1 σ H1 D f g
def vn:TS:=λ_ _ _=>False
def uw:PS X st vn:=λ_ _ _ _ _ _ h=>h.elim
end
abbrev TG:=V->St->Hp->(St->Hp->Prop)->Prop
abbrev cT:=List V->St->Hp->(St->Hp->Prop)->Prop
def PG(X:Cx)(target:Vk)(t:TG):Prop:=
 ∀(pins:List (Vb×Obj)) (s:Vc) (σ:St) (H:Hp) (v:V) (u:Va) (Q:St->Hp->Prop),Inv X pins σ H s->RelV v u->t v σ H Q ->
  Vf (Vg X.prog X.w) X.A (assign target X.env u) (λ_ s'=>∃a H',Inv X pins a H' s'/\Q a H') X.xe s
def fV(X:Cx)(ts:List Vk)(t:cT):Prop:=
 ∀(pins:List (Vb×Obj)) (s:Vc) (σ:St) (H:Hp) (vs:List V) (us:List Va) (Q:St->Hp->Prop),Inv X pins σ H s->Vals vs us->t vs σ H Q ->
  Vf (Vg X.prog X.w) X.A (assignInOrder ((assignEach ts X.env).map (·.2)) us) (λ_ s'=>∃a H',Inv X pins a H' s'/\Q a H') X.xe s
abbrev iu:=V->V->V->Hp->(Hp->Prop)->Prop
def sy(X:Cx)(t:iu):Prop:=
 ∀(pins:List (Vb×Obj)) (s:Vc) (σ:St) (H:Hp) (o i v:V) (a b u:Va) (Q:Hp->Prop),Inv X pins σ H s->RelV o a->RelV i b->RelV v u->t o i v H Q ->
  Vf (Vg X.prog X.w) X.A (setItem a b u) (λ_ s'=>∃H',Inv X pins σ H' s'/\Q H') X.xe s
section
variable {X:Cx} {pos:Pos}
def hG(i:Nat):TG:=λv σ H Q=>Q (σ.set i (Vo v)) H
def aT{i:Nat}{x:Vn}(a:X.N.Nodup)(hi:X.N[i]?=Vo x)(b:Loc X.env.scope x)(c:X.fn x=true\/X.env.scope.names.lookup x=Vo .local:=by first|exact .inl rfl|exact .inr rfl|assumption):PG X (.Name x pos) (hG i):=by intro pins s σ H v u Q I r h;exact wpAny_assign_Name (jt I a hi b r (λs' d=>⟨_,H,d,h⟩) c)
def se:cT:=λvs σ H Q=>vs=[]/\Q σ H
def oo(t:TG)(u:cT):cT:=λvs σ H Q=>∃v r,vs=v::r/\t v σ H λa H'=>u r a H' Q
def dW:fV X [] se:=by intro pins s σ H vs us Q I r h;obtain⟨e,h⟩:=h;subst e;cases r;exact assignInOrder_nil ⟨σ,H,I,h⟩
def bB{e:Vk}{es:List Vk}{t:TG}{u:cT}(h1:PG X e t)(h2:fV X es u)
  (b:(assignEach (e::es) X.env).map (·.2)=assign e X.env::(assignEach es X.env).map (·.2):=by rfl):fV X (e::es) (oo t u):=by
 intro pins s σ H vs us Q I r h;obtain⟨v,i,c,h⟩:=h;subst c;cases r with
 | cons r d=>
  rw[b];refine assignInOrder_cons (ai (h1 pins s σ H _ _ _ I r h) λ_ s1 ⟨a,H1,f,g⟩=>?_);exact h2 pins s1 a H1 _ _ Q f d g
def ir(K:zk)(n:Nat)(t:cT):TG:=λv σ H Q=>∃a xs,v=.ref a/\ah K H a xs/\xs.length=n/\t xs σ H Q
def xT{es:List Vk}{k:Nat}{t:cT}(g:X.calm=true)(h:fV X es t)
  (i:(assignEach es X.env).length=n:=by rfl) (c:(assignEach es X.env).findIdx? (·.1)=Vp:=by rfl):PG X (.Tuple es k pos) (ir X.K n t):=by
 intro pins s σ H v u Q I r d;obtain⟨a,xs,j,p,hl,d⟩:=d;subst j;cases r;obtain⟨q,f,w,z⟩:=I.tuple p;refine assign_Tuple_tuple (I.ok.hd g) w (by simp[i,<-hl,f.length]) c λh' x=>?_;have y:Inv X pins σ H { s with heap:=h' }:=I.kept (t':=s.toks) λb o e=>x b o (zI (zo e)) e;exact h pins _ σ H xs _ Q y (by simpa using f) d
def mH(to a:TE)(t:iu):TG:=λv σ H Q=>to σ H λo H1=>a σ H1 λi H2=>t o i v H2 λb=>Q σ b
def qf{o i:Vk}{to c:TE}{t:iu}(d:PE X o to)(hi:PE X i c)(f:sy X t)
  (g:∀v,assign (.Subscript o i pos) X.env v=(do
   let a <-holding [v] (eval o X.env);let b <-holding [v,a] (eval i X.env)
   standAt pos
   holding [v,a,b] (setItem a b v)
   release [v,a,b] []):=by intro _;rfl):PG X (.Subscript o i pos) (mH to c t):=by
 intro pins s σ H v u Q I r h;rw[g];refine zi (wpAny_holding (ai (d pins s σ H _ I h) λa s1 ⟨x,H1,j,r1,k⟩=>?_));refine zi (wpAny_holding (ai (hi pins s1 σ H1 _ j k) λb s2 ⟨y,H2,n,p,q⟩=>?_));refine zi (wpAny_standAt (zi (wpAny_holding (ai (f pins s2 σ H2 x y v a b u _ n r1 p r q) λ_ B ⟨w,z,A⟩=>?_))));exact wpAny_release ⟨σ,w,z,A⟩
def iE(te:TE)(g:TG):TS:=λD σ H=>te σ H λx H1=>g x σ H1 D.nx
def fc{tg e:Vk}{te:TE}{g:TG}(a:PE X e te)(b:PG X tg g)(c:swapsWithSole [tg] e pos.line X.env=pure false:=by rfl)(d:swappedStores [tg] e X.env=pure Vp:=by rfl)
  (h1:(assignEach [tg] X.env).map (·.2)=[assign tg X.env]:=by rfl):PS X (.Assign [tg] e pos) (iE te g):=by
 intro pins s σ H D I h;refine wpAny_Assign_stores (ai (a pins s σ H _ I h) λv s1 ⟨x,H1,f,r1,i⟩=>?_) c d;rw[h1];exact ai (b pins s1 σ H1 x v _ f r1 i) λ_ s2 q=>q
def bj{i:Nat}{x:Vn}{e:Vk}{te:TE}{pos':Pos}(a:X.N.Nodup)(hi:X.N[i]?=Vo x)(b:Loc X.env.scope x)(c:PE X e te)(d:swapsWith e (Vo (.Name x pos')) pos.line X.env=pure false:=by rfl)(f:X.fn x=true\/X.env.scope.names.lookup x=Vo .local:=by first|exact .inl rfl|exact .inr rfl|assumption):
  PS X (.Assign [.Name x pos'] e pos) (iE te (hG i)):=by
 intro pins s σ H D I h;refine wpAny_Assign_Name (ai (c pins s σ H _ I h) λv s1 ⟨y,H1,g,r1,j⟩=>?_) d;exact jt g a hi b r1 (λs2 k=>⟨_,H1,k,j⟩) f
def wq(c:TT)(tb:TS):TS:=λD σ H=>∃W:Nat->St->Hp->Prop,(∃m,W m σ H)/\∀m σ H,W m σ H ->
 c σ H λb H1=>if b=true then ∃N:St->Hp->Prop,(∀a H',N a H'->∃d,d<m/\W d a H')/\tb { D with nx:=N,ct:=N,bk:=D.nx } σ H1 else D.nx σ H1
def ye{c:Vk}{tc:TT}{tb:TS}(r:PassesOwn (Vg X.prog X.w) X.A X.env X.xe)(x:PT X c tc)(y:bI X body tb):PS X (.While c body [] pos) (wq tc tb):=by
 intro pins s σ H D I h;obtain⟨W,⟨z,w0⟩,turn⟩:=h;refine wpAny_While (codeAny_whileLoop (λn s'=>∃g H',Inv X pins g H' s'/\W n g H') ?_ z ⟨σ,H,I,w0⟩);rintro n s1 ⟨d,H1,B,w1⟩;refine wpAny_passesOwn r (ai (x pins s1 d H1 _ B (turn n d H1 w1)) λb s2 ⟨H2,t,j⟩=>?_);cases b with
 | true=>
  obtain⟨N,u,j⟩:=j;rw[Am rfl];refine wpAny_passesOwn r (ai (y pins s2 d H2 _ t j) λf C k=>?_);cases f with
  | next=>
   obtain⟨a,i,o,n3⟩:=k;obtain⟨p,q,w3⟩:=u a i n3;exact⟨p,q,a,i,o,w3⟩
  | cont=>
   obtain⟨a,i,o,n3⟩:=k;obtain⟨p,q,w3⟩:=u a i n3;exact⟨p,q,a,i,o,w3⟩
  | brk=>exact k
  | ret v=>exact k
 | false=>
  rw[Al zF];exact wpAny_execs_nil ⟨d,H2,t,j⟩
end
structure It where
 go:Nat->Hp->Prop
 yld:Nat->Hp->V->Hp->Prop
 stop:Nat->Hp->Prop
def bq(X:Cx)(pins:List (Vb×Obj))(H:Hp)(b:Vb):Prop:=
 H b=Vp/\b≠X.env.locals/\b∉X.fs/\(b∈X.ex\/X.s₀.heap.objs.size<=b)/\(∀x c,X.env.cells.lookup x=Vo c->c≠b)/\∀p∈X.pn++pins,p.1≠b
def Inv.fpOk{X:Cx}{σ:St}{H':Hp}{b:Vb}(I:Inv X pins σ H s)(a:s.heap.objs.size<=b)(d:H' b=Vp):bq X pins H' b:=by
 refine⟨d,Nat.ne_of_gt (zS I.lt a),I.nofs a,.inr (zT I.sz a),λx c e z=>?_,λp f z=>?_⟩
 .obtain⟨v,q⟩:=I.cell x c e;exact absurd (zS q.lt (by rw[z];exact a)) (Nat.lt_irrefl _)
 .exact absurd (zS (zo (I.pin p f).1) (by rw[z];exact a)) (Nat.lt_irrefl _)
structure Turn(P:Vd)(w:Ve)(K:zk)(tg:Vk)(J:It)(fp:List Vb)(it:Vb)(tn:Nat->Vh->Prop):Prop where
 mem:it∈fp
 obj:∀i h,tn i h->∀b∈fp,∃o,h.get? b=Vo o/\∀v,o.data≠.cell v
 keep:∀i h h',tn i h->(∀b∈fp,∀o,h.get? b=Vo o->h'.get? b=Vo o)->tn i h'
 item:∀(X:Cx),X.prog=P->X.w=w->X.K=K->X.calm=true->∀(i:Nat) (pins:List (Vb×Obj)) (s:Vc) (σ:St) (H:Hp) (E:Va->Vc->Prop),Inv X pins σ H s->(∀b∈fp,bq X pins H b)->tn i s.heap->J.go i H ->
  Vf (Vg P w) X.A (pyNext (.ref it)) (λr s1=>∃u,r=Vo u ∧
   Vf (Vg P w) X.A (letOwnedTupleGo tg (.ref it) u) (λ_ s2=>∃x H',Inv X pins σ H' s2/\RelV x u/\J.yld i H x H'/\tn (i+1) s2.heap/\∀b∈fp,H' b=Vp) E s1) E s
 done:∀(X:Cx),X.prog=P->X.w=w->X.K=K->X.calm=true->∀(i:Nat) (pins:List (Vb×Obj)) (s:Vc) (σ:St) (H:Hp) (E:Va->Vc->Prop),Inv X pins σ H s->(∀b∈fp,bq X pins H b)->tn i s.heap->J.stop i H ->
  Vf (Vg P w) X.A (pyNext (.ref it)) (λr s1=>r=Vp/\Inv X pins σ H s1) E s
 self:∀(A:Vi) (i:Nat) (s:Vc) (Q:Va->Vc->Prop) (E:Va->Vc->Prop),tn i s.heap->Q (.ref it) s->Vf (Vg P w) A (pyIter (.ref it)) Q E s
abbrev TI:=St->Hp->(It->Hp->Prop)->Prop
def q9(X:Cx)(pins:List (Vb×Obj))(σ:St)(tg:Vk)(R:It->Hp->Prop)(a:Va)(s2:Vc):Prop:=
 ∃(it:Vb) (fp:List Vb) (tn:Nat->Vh->Prop) (J:It) (H':Hp),a=.ref it/\Inv X pins σ H' s2/\Turn X.prog X.w X.K tg J fp it tn/\tn 0 s2.heap/\(∀b∈fp,bq X pins H' b)/\R J H'
def PI(X:Cx)(tg iter:Vk)(a:TI):Prop:=
 ∀(pins:List (Vb×Obj)) (s:Vc) (σ:St) (H:Hp) (R:It->Hp->Prop),Inv X pins σ H s->a σ H R ->
  Vf (Vg X.prog X.w) X.A (eval iter X.env) (λv s1=>Vf (Vg X.prog X.w) X.A (pyIter v) (q9 X pins σ tg R) X.xe s1) X.xe s
def gJ {M : Model} {A : Vi} {E : Va -> Vc -> Prop} {s : Vc} {tg : Vk} {it : Vb} {u : Va} {o : Obj} {n : String} {vs : Array Va} {Q : Unit -> Vc -> Prop} (b : s.heap.get? it = Vo o) (c : o.cls = .type n) (hd : o.data = .fields vs)
    (d : ["enumerate", "zip", "dict_itemiterator", "dict_reverseitemiterator", "odict_iterator", "itertools.zip_longest", "itertools.pairwise"].contains n = false) (a : Q () s) : Vf M A (letOwnedTupleGo tg (.ref it) u) Q E s := by
  unfold letOwnedTupleGo;cases tg <;> first
    | exact zj a
    | (cases u <;> first
        | exact zj a
        | (refine zi (wpAny_load b ?_)
           rw [c, hd];show Vf M A (if (["enumerate", "zip", "dict_itemiterator", "dict_reverseitemiterator", "odict_iterator", "itertools.zip_longest", "itertools.pairwise"].contains n && vs[0]? == Vo (rawInt _)) = true then _ else _) Q E s;rw [Al (by intro h; rw [d, Bool.false_and] at h; cases h)];exact zj a))
def cj(K:zk)(a:Vb):It:=
 ⟨λi H=>∃xs x,ag K H a xs/\xs[i]?=Vo x,λi H x H'=>H'=H/\∀xs,ag K H a xs->xs[i]?=Vo x,λi H=>∃xs,ag K H a xs/\xs.length<=i⟩
def eO(K:zk)(a:Vb):It:=
 ⟨λi H=>∃xs x,ah K H a xs/\xs[i]?=Vo x,λi H x H'=>H'=H/\∀xs,ah K H a xs->xs[i]?=Vo x,λi H=>∃xs,ah K H a xs/\xs.length<=i⟩
def cK(lo:Int)(n:Nat):It:=⟨λi _=>i<n,λi H x H'=>H'=H/\x=.int (lo+i),λi _=>n<=i⟩
def jm{K:zk}(a it:Vb):Turn P w K tg (cj K a) [it] it (λi h=>h.IsListIter it a i) where
 mem:=by simp
 obj:=λi h st b f=>by
  have e:b=it:=by simpa using f
  subst e;obtain⟨o,e,c,d⟩:=st;exact⟨o,e,λv z=>by rw[d]at z;cases z⟩
 keep:=λi h h' st k=>st.at λo e=>k it (by simp) o e
 item:=by intro X q r t N i pins s σ H E I j st y;subst q r t;obtain⟨xs,x,n,A⟩:=y;obtain⟨B,C,p,O⟩:=I.list n;obtain⟨u,Q,R⟩:=C.get A;obtain⟨F,G,S,J,L,M⟩:=j it (by simp);refine wpAny_pyNext_list_item st p.isList (x:=u) (by simpa using Q) λh' g sb=>?_;have T:Inv X pins σ H { s with heap:=h' }:=I.turned (t':=s.toks) (λb o f e=>(sb.2 b f).trans e) F G J L M;obtain⟨o,e,c,d⟩:=id g;exact⟨u,rfl,gJ (s:={ s with heap:=h' }) e c d (by decide) ⟨x,H,T,R,⟨rfl,λys U=>by rw[I.list_inj U n];exact A⟩,g,λb f=>(j b f).1⟩⟩
 done:=by intro X q r t N i pins s σ H E I j st y;subst q r t;obtain⟨xs,n,A⟩:=y;obtain⟨B,C,p,O⟩:=I.list n;obtain⟨F,G,S,J,L,M⟩:=j it (by simp);have hl:=C.length;exact wpAny_pyNext_list_end (I.ok.hd N) st p.isList (by simp;omega) λh' W=>⟨rfl,I.turned (t':=s.toks) (λb o f e=>W b o f e) F G J L M⟩
 self:=λ_ _ _ _ _ st h=>wpAny_pyIter_listiter st h
def za{K:zk}(a it:Vb):Turn P w K tg (eO K a) [it] it (λi h=>h.IsTupleIter it a i) where
 mem:=by simp
 obj:=λi h st b f=>by
  have e:b=it:=by simpa using f
  subst e;obtain⟨o,e,c,d⟩:=st;exact⟨o,e,λv z=>by rw[d]at z;cases z⟩
 keep:=λi h h' st k=>st.at λo e=>k it (by simp) o e
 item:=by intro X r t y N i pins s σ H E I n st A;subst r t y;obtain⟨xs,x,q,B⟩:=A;obtain⟨g,C,p,O⟩:=I.tuple q;obtain⟨u,Q,R⟩:=C.get B;obtain⟨F,G,S,J,L,M⟩:=n it (by simp);refine wpAny_pyNext_tuple_item st (show s.heap.IsTuple a g.toArray from p) (x:=u) (by simpa using Q) λh' j sb=>?_;have T:Inv X pins σ H { s with heap:=h' }:=I.turned (t':=s.toks) (λb o f e=>(sb.2 b f).trans e) F G J L M;obtain⟨o,e,c,d⟩:=id j;exact⟨u,rfl,gJ (s:={ s with heap:=h' }) e c d (by decide) ⟨x,H,T,R,⟨rfl,λys U=>by rw[I.tuple_inj U q];exact B⟩,j,λb f=>(n b f).1⟩⟩
 done:=by intro X r t y N i pins s σ H E I n st A;subst r t y;obtain⟨xs,q,B⟩:=A;obtain⟨g,C,p,O⟩:=I.tuple q;obtain⟨F,G,S,J,L,M⟩:=n it (by simp);have hl:=C.length;exact wpAny_pyNext_tuple_end (I.ok.hd N) st (show s.heap.IsTuple a g.toArray from p) (by simp;omega) λh' W=>⟨rfl,I.turned (t':=s.toks) (λb o f e=>W b o f e) F G J L M⟩
 self:=λ_ _ _ _ _ st h=>wpAny_pyIter_tupleiter st h
def yb{K:zk}(it:Vb)(lo:Int)(n:Nat):Turn P w K tg (cK lo n) [it] it (λi h=>IsRangeIter h it (lo+(i:Nat)*1) ((n:Int)-(i:Nat)) 1) where
 mem:=by simp
 obj:=λi h st b a=>by
  have e:b=it:=by simpa using a
  subst e;exact⟨_,st,λv z=>by have B:Data.fields _=Data.cell v:=z;cases B⟩
 keep:=λi h h' st k=>k it (by simp) _ st
 item:=by intro X f g j p i pins s σ H E I d st q;subst f g j;obtain⟨r,u,C,x,y,A⟩:=d it (by simp);have W:=Walks.range (prog:=X.prog) (w:=X.w) (I.ok.hd p) it lo 1 n;refine W.item i s _ _ q st λv h' tk hv c F=>?_;obtain⟨t,rfl⟩:=hv;have G:Inv X pins σ H { s with heap:=h',toks:=tk }:=I.turned (λb o a e=>F b o (by simpa using a) e) r u x y A;refine⟨_,rfl,gJ (s:={ s with heap:=h',toks:=tk }) (n:="range_iterator") c rfl rfl (by decide) ⟨.int (lo+i),H,G,⟨t,?_⟩,⟨rfl,rfl⟩,c,λb a=>(d b a).1⟩⟩;rw[Int.mul_one]
 done:=by intro X f g j p i pins s σ H E I d st q;subst f g j;obtain⟨r,u,C,x,y,A⟩:=d it (by simp);exact wpAny_pyNext_range_end (I.ok.hd p) st (by have:n<=i:=q;omega) λh' J=>⟨rfl,I.turned (t':=s.toks) (λb o a e=>J b o a e) r u x y A⟩
 self:=λ_ _ _ _ _ st h=>wpAny_pyIter_rangeiter st h
section
variable {X:Cx} {tg:Vk}
def i9(K:zk)(tl:TE):TI:=λσ H R=>tl σ H λx H1=>∃a,x=.ref a/\(∃xs,ag K H1 a xs)/\R (cj K a) H1
def jv(K:zk)(tl:TE):TI:=λσ H R=>tl σ H λx H1=>∃a,x=.ref a/\(∃xs,ah K H1 a xs)/\R (eO K a) H1
def uA{l:Vk}{tl:TE}(hl:PE X l tl):PI X tg l (i9 X.K tl):=by
 intro pins s σ H R I h;refine ai (hl pins s σ H _ I h) λv s1 ⟨x,H1,c,r1,d⟩=>?_;obtain⟨a,e,⟨xs,f⟩,q⟩:=d;subst e;cases r1;obtain⟨g,j,p,k⟩:=c.list f;refine wpAny_pyIter_list p.isList ?_;refine⟨s1.heap.objs.size,[s1.heap.objs.size],_,_,H1,rfl,c.kept (t':=s1.toks) λb o e=>zl _ e,jm a _,⟨_,zm _ rfl,rfl,rfl⟩,λb i=>?_,q⟩;have e:b=s1.heap.objs.size:=by simpa using i
 subst e;exact c.fpOk (zJ _) (c.hok.fresh (zJ _))
def yF{l:Vk}{tl:TE}(hl:PE X l tl):PI X tg l (jv X.K tl):=by
 intro pins s σ H R I h;refine ai (hl pins s σ H _ I h) λv s1 ⟨x,H1,c,r1,f⟩=>?_;obtain⟨a,e,⟨xs,g⟩,q⟩:=f;subst e;cases r1;obtain⟨d,j,p,k⟩:=c.tuple g;refine wpAny_pyIter_tuple (show s1.heap.IsTuple a d.toArray from p) ?_;refine⟨s1.heap.objs.size,[s1.heap.objs.size],_,_,H1,rfl,c.kept (t':=s1.toks) λb o e=>zl _ e,za a _,⟨_,zm _ rfl,rfl,rfl⟩,λb i=>?_,q⟩;have e:b=s1.heap.objs.size:=by simpa using i
 subst e;exact c.fpOk (zJ _) (c.hok.fresh (zJ _))
def rS{σ:St}{R:It->Hp->Prop}{lo hi:Int}{t u v:Tok}{tk:Nat}(I:Inv X pins σ H s)(h1:-(2 ^ 62)<=lo)(h2:lo<2 ^ 62)(c:-(2 ^ 62)<=hi)(d:hi<2 ^ 62)
  (q:R (cK lo (hi-lo).toNat) H):Vf (Vg X.prog X.w) X.A (pyIter (.ref s.heap.objs.size)) (q9 X pins σ tg R) E { s with heap:=s.heap.push { cls:=.type "range",data:=.fields #[.int lo t,.int hi u,.int 1 v] },toks:=tk }:=by
 refine wpAny_pyIter_range (IsRange.new ..) (small_one h1 h2 c d) ?_;have a:Inv X pins σ H { s with heap:=s.heap.push { cls:=.type "range",data:=.fields #[.int lo t,.int hi u,.int 1 v] },toks:=tk }:=I.kept λb o e=>zl _ e;refine⟨(s.heap.push { cls:=.type "range",data:=.fields #[.int lo t,.int hi u,.int 1 v] }).objs.size,[(s.heap.push { cls:=.type "range",data:=.fields #[.int lo t,.int hi u,.int 1 v] }).objs.size],_,_,H,rfl,
  a.kept (t':=tk) λb o e=>zl _ e,yb _ lo (hi-lo).toNat,?_,λb f=>?_,q⟩
 .have g:lo+((0:Nat):Int)*1=lo:=by simp
  have h:(((hi-lo).toNat:Nat):Int)-((0:Nat):Int)=Builtin.Range.rangeSize lo hi 1:=by rw[rangeSize_one];split<;>omega
  show IsRangeIter _ _ (lo+((0:Nat):Int)*1) ((((hi-lo).toNat:Nat):Int)-((0:Nat):Int)) 1;rw[g,h];exact zm _ rfl
 .have e:b=(s.heap.push { cls:=.type "range",data:=.fields #[.int lo t,.int hi u,.int 1 v] }).objs.size:=by simpa using f
  subst e;exact a.fpOk (zJ _) (a.hok.fresh (zJ _))
def om(ta:TA):TI:=λσ H R=>ta σ H λvs H1=>∃j:Int,vs=[.int j]/\-(2 ^ 62)<=j/\j<2 ^ 62/\R (cK 0 j.toNat) H1
def pV(ta:TA):TI:=λσ H R=>ta σ H λvs H1=>∃i j:Int,vs=[.int i,.int j]/\(-(2 ^ 62)<=i/\i<2 ^ 62/\-(2 ^ 62)<=j/\j<2 ^ 62)/\R (cK i (j-i).toNat) H1
def qu{a:Vk}{ta:TA}{p pos:Pos}(c:Gl X "range")(d:X.mg "range" = Vp)(f:PA X [a] ta)(g:starEach [a] X.env=[(false,eval a X.env)]:=by rfl):PI X tg (.Call (.Name "range" p) [a] [] pos) (om ta):=by
 intro pins s σ H R I h;refine Call_ (fK I c d boot_range (PyProof.Rows.callWith_type1 (ai (f pos pins s σ H _ I h) λus s1 ⟨vs,H1,i,r1,b⟩=>?_) g rfl));obtain⟨j,e,b,k,q⟩:=b;subst e;cases r1 with
 | cons r n=>
  cases n;obtain⟨t,rfl⟩:=r;exact call_range_1 (rS i (by omega) (by omega) b k (by simpa using q))
def tE{a b:Vk}{ta:TA}{p pos:Pos}(g:Gl X "range")(k:X.mg "range" = Vp)(n:PA X [a,b] ta)(o:starEach [a,b] X.env=[(false,eval a X.env),(false,eval b X.env)]:=by rfl)(c:starEach [b] X.env=[(false,eval b X.env)]:=by rfl):
  PI X tg (.Call (.Name "range" p) [a,b] [] pos) (pV ta):=by
 intro pins s σ H R I h;refine Call_ (fK I g k boot_range (PyProof.Rows.callWith_type1 (ai (n pos pins s σ H _ I h) λus s1 ⟨vs,H1,u,r1,d⟩=>?_) (by rw[o,c]) (by rw[c];rfl)));obtain⟨i,j,e,⟨d,v,w,x⟩,q⟩:=d;subst e;cases r1 with
 | cons r f=>
  cases f with
  | cons y f=>
   cases f;obtain⟨t,rfl⟩:=r;obtain⟨z,rfl⟩:=y;exact call_range_2 (rS u d v w x q)
def pL(d:TI)(g:TG)(tb:TS):TS:=λD σ H=>d σ H λJ H1=>∃W:Nat->Nat->St->Hp->Prop,(∃m,W 0 m σ H1)/\∀i m σ H,W i m σ H ->
 (J.stop i H/\D.nx σ H)\/(J.go i H/\∃N:St->Hp->Prop,(∀a H',N a H'->∃c,c<m/\W (i+1) c a H')/\∀x H',J.yld i H x H'->g x σ H' λb H2=>tb { D with nx:=N,ct:=N,bk:=D.nx } b H2)
def cM(fp:List Vb)(h:Vh):List (Vb×Obj):=fp.filterMap λb=>(h.get? b).map λo=>(b,o)
def iC{b:Vb}{o:Obj}(a:b∈fp)(e:h.get? b=Vo o):(b,o)∈cM fp h:=List.mem_filterMap.mpr ⟨b,a,by rw[e];rfl⟩
def jA{p:Vb×Obj}(a:p∈cM fp h):p.1∈fp/\h.get? p.1=Vo p.2:=by
 obtain⟨b,c,e⟩:=List.mem_filterMap.mp a;cases q:h.get? b with
 | none=>rw[q]at e;cases e
 | some o=>
  rw[q]at e;have d:(b,o)=p:=zZ e;subst d;exact⟨c,q⟩
def Inv.pinned{σ:St}(I:Inv X pins σ H s)(f:∀b∈fp,bq X pins H b)(g:∀b∈fp,∃o,s.heap.get? b=Vo o/\∀v,o.data≠.cell v):Inv X (pins++cM fp s.heap) σ H s:=
 I.pins_of λp h=>(zM.mp h).elim (λz=>I.pin p (Aa _ z)) λz=>by obtain⟨a,e⟩:=jA z;obtain⟨i,j,k,_⟩:=f p.1 a;obtain⟨o,c,d⟩:=g p.1 a;rw[e]at c;cases c;exact⟨e,i,j,k,d⟩
def Inv.unpinned{pl:List (Vb×Obj)}{σ:St}(I:Inv X (pins++pl) σ H s):Inv X pins σ H s:=I.pins_of λp a=>I.pin p (Aa _ (Ab _ a))
def iK{iter:Vk}{O:TI}{g:TG}{tb:TS}{pos:Pos}(z:PassesOwn (Vg X.prog X.w) X.A X.env X.xe)(P:X.calm=true)(hi:PI X tg iter O)(Z:PG X tg g)(c:bI X body tb)
  (hs:∀x,foldedSetIterable iter X.env x=pure x:=by intro _;rfl):PS X (.For tg iter body [] pos) (pL O g tb):=by
 intro pins s σ H D I h;refine wpAny_For (ai (hi pins s σ H _ I h) λv s1 h1=>ai h1 λa0 s2 h2=>?_) hs;obtain⟨it,fp,tn,J,H2,e,I2,T,F,Q,W,⟨m0,w0⟩,turn⟩:=h2;subst e;have stat:∀{H':Hp},(∀b∈fp,H' b=Vp)->∀b∈fp,bq X pins H' b:=λhn b c=>⟨hn b c,(Q b c).2⟩;refine codeAny_forLoop_any (λn s'=>∃i j H',Inv X pins j H' s'/\tn i s'.heap/\(∀b∈fp,H' b=Vp)/\W i n j H') ?_ m0 ⟨0,σ,H2,I2,F,λb c=>(Q b c).1,w0⟩;rintro n R ⟨i,k,E,S,B,fr3,w3⟩;rcases turn i n k E w3 with⟨stop,qn⟩|⟨go,N,hN,step⟩
 .refine wpAny_passesOwn z (ai (T.done X rfl rfl rfl P i pins R k E X.xe S (stat fr3) B stop) λr s4 ⟨hr,I4⟩=>?_);subst hr;exact wpAny_execs_nil ⟨k,E,I4,qn⟩
 .refine wpAny_passesOwn z (ai (T.item X rfl rfl rfl P i pins R k E X.xe S (stat fr3) B go) λr s4 ⟨u,hr,h4⟩=>?_);subst hr;refine wpAny_passesOwn z (ai h4 λ_ U ⟨x,Y,I5,r5,y5,y,G⟩=>?_);have K:=I5.pinned (stat G) (T.obj _ _ y);refine wpAny_passesOwn z (ai (Z _ U k Y x u _ K r5 (step x Y y5)) λ_ s6 ⟨L,H6,I6,q6⟩=>?_);refine wpAny_passesOwn z (ai (c _ s6 L H6 _ I6 q6) λf M t=>?_);have again:∀{a:St} {p:Hp},Inv X (pins++cM fp U.heap) a p M->N a p->∃m,m<n/\∃i j H',Inv X pins j H' M/\tn i M.heap/\(∀b∈fp,H' b=Vp)/\W i m j H':=λ{a p} q C=>by obtain⟨m',hm,w7⟩:=hN a p C;refine⟨m',hm,i+1,a,p,q.unpinned,T.keep _ _ _ y λb c o e=>(q.pin (b,o) (Aa _ (Aa _ (iC c e)))).1,λb c=>?_,w7⟩;obtain⟨o,e,d⟩:=T.obj _ _ y b c;exact(q.pin (b,o) (Aa _ (Aa _ (iC c e)))).2.1
  cases f with
  | next=>obtain⟨a,p,q,C⟩:=t;exact again q C
  | cont=>obtain⟨a,p,q,C⟩:=t;exact again q C
  | brk=>obtain⟨a,p,q,t⟩:=t;exact⟨a,p,q.unpinned,t⟩
  | ret v=>obtain⟨x7,a,p,q,r7,t⟩:=t;exact⟨x7,a,p,q.unpinned,r7,t⟩
end
def yM{K:zk}{a:Vb}{xs:List V}{g:TG}{tb:TS}{D:Ends}{σ:St}(Pv:Nat->St->Hp->Prop)(f:Pv 0 σ H)(hl:∀i σ H,i<=xs.length->Pv i σ H->ag K H a xs)
  (h:∀i x σ H,xs[i]?=Vo x->Pv i σ H->g x σ H λb H2=>tb { D with nx:=Pv (i+1),ct:=Pv (i+1),bk:=D.nx } b H2) (hd:∀σ H,Pv xs.length σ H->D.nx σ H) :
  ∃W:Nat->Nat->St->Hp->Prop,(∃m,W 0 m σ H)/\∀i m σ H,W i m σ H ->
   ((cj K a).stop i H/\D.nx σ H)\/((cj K a).go i H/\∃N:St->Hp->Prop,(∀c H',N c H'->∃d,d<m/\W (i+1) d c H')/\∀x H',(cj K a).yld i H x H'->g x σ H' λb H2=>tb { D with nx:=N,ct:=N,bk:=D.nx } b H2):=by
 refine⟨λi m σ H=>m=xs.length-i/\i<=xs.length/\Pv i σ H,⟨xs.length,by simp,Nat.zero_le _,f⟩,?_⟩;rintro i m σ H ⟨rfl,hi,p⟩;have q:=hl i σ H hi p;by_cases hlt:i<xs.length
 .refine .inr ⟨⟨xs,xs[i],q,by simp[hlt]⟩,Pv (i+1),λc H' j=>⟨xs.length-(i+1),by omega,rfl,hlt,j⟩,λx H' y=>?_⟩;obtain⟨e,y⟩:=y;subst e;exact h i x σ _ (y xs q) p
 .have e:i=xs.length:=by omega
  subst e;exact .inl ⟨⟨xs,q,zJ _⟩,hd σ H p⟩
def uQ{lo:Int}{g:TG}{tb:TS}{D:Ends}{σ:St}(Pv:Nat->St->Hp->Prop)(d:Pv 0 σ H)
  (f:∀i σ H,i<n->Pv i σ H->g (.int (lo+i)) σ H λa H2=>tb { D with nx:=Pv (i+1),ct:=Pv (i+1),bk:=D.nx } a H2) (hd:∀σ H,Pv n σ H->D.nx σ H) :
  ∃W:Nat->Nat->St->Hp->Prop,(∃m,W 0 m σ H)/\∀i m σ H,W i m σ H ->
   ((cK lo n).stop i H/\D.nx σ H)\/((cK lo n).go i H/\∃N:St->Hp->Prop,(∀b H',N b H'->∃c,c<m/\W (i+1) c b H')/\∀x H',(cK lo n).yld i H x H'->g x σ H' λa H2=>tb { D with nx:=N,ct:=N,bk:=D.nx } a H2):=by
 refine⟨λi m σ H=>m=n-i/\i<=n/\Pv i σ H,⟨n,by simp,Nat.zero_le _,d⟩,?_⟩;rintro i m σ H ⟨rfl,hi,p⟩;by_cases hlt:i<n
 .refine .inr ⟨hlt,Pv (i+1),λb H' h=>⟨n-(i+1),by omega,rfl,hlt,h⟩,λx H' y=>?_⟩;obtain⟨e,y⟩:=y;subst e y;exact f i σ _ hlt p
 .have e:i=n:=by omega
  subst e;exact .inl ⟨zJ _,hd σ H p⟩
abbrev R2:=V->V->Hp->VK->Prop
def aV(X:Cx)(f:Va->Va->Sem Va)(r:R2):Prop:=
 ∀(pins:List (Vb×Obj)) (s:Vc) (σ:St) (H:Hp) (x y:V) (v u:Va) (Q:VK),Inv X pins σ H s->RelV x v->RelV y u->r x y H Q ->
  Vf (Vg X.prog X.w) X.A (f v u) (EP X pins σ Q) X.xe s
def lP(X:Cx)(f:Va->Sem Va)(r:V->Hp->VK->Prop):Prop:=
 ∀(pins:List (Vb×Obj)) (s:Vc) (σ:St) (H:Hp) (x:V) (v:Va) (Q:VK),Inv X pins σ H s->RelV x v->r x H Q ->
  Vf (Vg X.prog X.w) X.A (f v) (EP X pins σ Q) X.xe s
def bD(X:Cx)(f:Va)(r:List V->Hp->VK->Prop):Prop:=
 ∀(pins:List (Vb×Obj)) (s:Vc) (σ:St) (H:Hp) (xs:List V) (us:List Va) (Q:VK),Inv X pins σ H s->Vals xs us->r xs H Q ->
  Vf (Vg X.prog X.w) X.A (call f us) (EP X pins σ Q) X.xe s
def vZ(X:Cx)(r:V->Hp->(Bool->Hp->Prop)->Prop):Prop:=
 ∀(pins:List (Vb×Obj)) (s:Vc) (σ:St) (H:Hp) (x:V) (v:Va) (Q:Bool->Hp->Prop),Inv X pins σ H s->RelV x v->r x H Q ->
  Vf (Vg X.prog X.w) X.A (truthy v) (TP X pins σ Q) X.xe s
def gZ(r:R2)(ta tb:TE):TE:=λσ H Q=>ta σ H λx H1=>tb σ H1 λy H2=>r x y H2 Q
def ng(r:V->Hp->VK->Prop)(ta:TE):TE:=λσ H Q=>ta σ H λx H1=>r x H1 Q
def rI(C:Int->Int->Prop)(g:Int->Int->V):R2:=λx y H Q=>∃i j,x=.int i/\y=.int j/\C i j/\Q (g i j) H
def dJ(g:Int->Int->V):R2:=λx y H Q=>∃i j,x=.int i/\y=.int j/\Q (g i j) H
def rU(g:Int->V):V->Hp->VK->Prop:=λx H Q=>∃i,x=.int i/\Q (g i) H
section
variable {X:Cx} {a b c:Vk} {ta tb tc:TE} {pos:Pos}
def mh(g:PE X a ta)(i:PE X b tb){σ:St}{R:V->V->Hp->Prop}(I:Inv X pins σ H s)
  (h:ta σ H λx H1=>tb σ H1 λy H2=>R x y H2) {Q:Va->Vc->Prop} {f:Va->Va->Sem Va}
  (j:∀v u s2 x y H2,Inv X pins σ H2 s2->RelV x v->RelV y u->R x y H2->Vf (Vg X.prog X.w) X.A (f v u) Q X.xe s2) :
  Vf (Vg X.prog X.w) X.A (eval a X.env) (λv c=>Vf (Vg X.prog X.w) X.A (eval b X.env) (λu d=>Vf (Vg X.prog X.w) X.A (f v u) Q X.xe d) X.xe c) X.xe s:=by
 refine ai (g pins s σ H _ I h) λv s1 ⟨x,H1,k,r1,n⟩=>?_;refine ai (i pins s1 σ H1 _ k n) λu s2 ⟨y,H2,o,p,q⟩=>?_;exact j v u s2 x y H2 o r1 p q
def aA{op:Operator}{r:R2}(c:aV X (binaryOp op) r)(d:PE X a ta)(f:PE X b tb):PE X (.BinOp a op b pos) (gZ r ta tb):=by intro pins s σ H Q I h;exact wpAny_BinOp (mh d f I h λv u s2 x y H2 g i j q=>c pins s2 σ H2 x y v u Q g i j q)
def tI{op:UnaryOp}{r:V->Hp->VK->Prop}(b:lP X (unaryOp op) r)(c:PE X a ta):PE X (.UnaryOp op a pos) (ng r ta):=by intro pins s σ H Q I h;exact UnaryOp_ (ai (c pins s σ H _ I h) λv s1 ⟨x,H1,d,r1,f⟩=>b pins s1 σ H1 x v Q d r1 f)
def ij{f:Va->Va->Sem Va}{C:Int->Int->Prop}{g:Int->Int->Int}
  (rule:∀(i j:Int) (t u:Tok) (s:Vc) (Q:Va->Vc->Prop) (E:Va->Vc->Prop),C i j->Q (.int (g i j) s.toks) { s with toks:=s.toks+1 }->Vf (Vg X.prog X.w) X.A (f (.int i t) (.int j u)) Q E s) :
  aV X f (rI C λi j=>.int (g i j)):=by
 intro pins s σ H x y v u Q I a b h;obtain⟨i,j,rfl,rfl,c,q⟩:=h;obtain⟨t,rfl⟩:=a;obtain⟨d,rfl⟩:=b;exact rule i j t d s _ _ c ⟨.int (g i j),H,I.tok _,⟨_,rfl⟩,q⟩
def sj{f:Va->Va->Sem Va}{g:Int->Int->Int}
  (rule:∀(i j:Int) (t u:Tok) (s:Vc) (Q:Va->Vc->Prop) (E:Va->Vc->Prop),Q (.int (g i j) s.toks) { s with toks:=s.toks+1 }->Vf (Vg X.prog X.w) X.A (f (.int i t) (.int j u)) Q E s) :
  aV X f (dJ λi j=>.int (g i j)):=by
 intro pins s σ H x y v u Q I a b h;obtain⟨i,j,rfl,rfl,q⟩:=h;obtain⟨t,rfl⟩:=a;obtain⟨c,rfl⟩:=b;exact rule i j t c s _ _ ⟨.int (g i j),H,I.tok _,⟨_,rfl⟩,q⟩
def jb{f:Va->Va->Sem Va}{g:Int->Int->Bool}
  (rule:∀(i j:Int) (t u:Tok) (s:Vc) (Q:Va->Vc->Prop) (E:Va->Vc->Prop),Q (.bool (g i j)) s->Vf (Vg X.prog X.w) X.A (f (.int i t) (.int j u)) Q E s) :
  aV X f (dJ λi j=>.bl (g i j)):=by
 intro pins s σ H x y v u Q I a b h;obtain⟨i,j,rfl,rfl,q⟩:=h;obtain⟨t,rfl⟩:=a;obtain⟨c,rfl⟩:=b;exact rule i j t c s _ _ ⟨.bl (g i j),H,I,rfl,q⟩
def sx(i j:Int):Prop:=0<=j/\j<=1000000/\i.natAbs<2 ^ 64
def iM(i j:Int):Prop:=(-(2 ^ 64)<i/\i<2 ^ 64)\/(-(2 ^ 64)<j/\j<2 ^ 64)
def iM.ok{i j:Int}(h:iM i j):IntMulOk i j:=by
 rcases h with⟨h1,h2⟩|⟨h1,h2⟩
 .exact .of_left (intBits_le_64 h1 h2)
 .exact .of_right (intBits_le_64 h1 h2)
def cu:aV X (binaryOp .Add) (dJ λi j=>.int (i+j)):=sj λ_ _ _ _ _ _ _ q=>add_int q
def kA:aV X (binaryOp .Sub) (dJ λi j=>.int (i-j)):=sj λ_ _ _ _ _ _ _ q=>sub_int q
def er:aV X (binaryOp .Mult) (rI iM λi j=>.int (i*j)):=ij λ_ _ _ _ _ _ _ a q=>mul_int q a.ok
def cP:aV X (binaryOp .Mod) (rI (λ_ j=>0<j) λi j=>.int (i % j)):=ij λi j _ _ _ _ _ a q=>by have h1:(0:Int)<j:=a;exact mod_int' (by omega) (by rw[Int.fmod_eq_emod_of_nonneg i (by omega)];exact q)
def gR:aV X (binaryOp .Pow) (rI sx λi j=>.int (i ^ j.toNat)):=ij λ_ _ _ _ _ _ _ a q=>pow_int_small a.1 a.2.1 a.2.2 q
def wB{f:Va->Sem Va}{g:Int->Int}
  (rule:∀(i:Int) (t:Tok) (s:Vc) (Q:Va->Vc->Prop) (E:Va->Vc->Prop),Q (.int (g i) s.toks) { s with toks:=s.toks+1 }->Vf (Vg X.prog X.w) X.A (f (.int i t)) Q E s) :
  lP X f (rU λi=>.int (g i)):=by
 intro pins s σ H x v Q I a h;obtain⟨i,rfl,q⟩:=h;obtain⟨t,rfl⟩:=a;exact rule i t s _ _ ⟨.int (g i),H,I.tok _,⟨_,rfl⟩,q⟩
def xi:lP X (unaryOp .USub) (rU λi=>.int (-i)):=wB λ_ _ _ _ _ q=>neg_int q
end
def nI:V->V->Bool
 | .non,.non=>true|.non,.int _=>true|.int _,.non=>true|.non,.bl _=>true|.bl _,.non=>true|.non,.str _=>true|.str _,.non=>true
 | .int _,.int _=>true|.bl _,.bl _=>true|.str _,.str _=>true|.byt _,.byt _=>true
 | .int _,.str _=>true|.str _,.int _=>true|.bl _,.str _=>true|.str _,.bl _=>true
 | _,_=>false
def kf:R2:=λx y H Q=>nI x y=true/\Q (.bl (decide (x=y))) H
def ll:R2:=λx y H Q=>nI x y=true/\Q (.bl (!decide (x=y))) H
def ny{i j:Int}:decide (V.int i=V.int j)=(i == j):=by rw[zW];simp
def pq{i j:Bool}:decide (V.bl i=V.bl j)=(i == j):=by rw[zW];simp
def gY{i j:Vn}:decide (V.str i=V.str j)=(i == j):=by rw[zW];simp
def nv{i j:Array UInt8}:decide (V.byt i=V.byt j)=(i.toList == j.toList):=by rw[zW];cases i;cases j;simp
section
variable {X:Cx} {a b c:Vk} {ta tb tc:TE} {pos:Pos}
def aW{σ:St}{Q:VK}{k a:Bool}(I:Inv X pins σ H s)(q:Q (.bl k) H)(e:k=a):EP X pins σ Q (.bool a) s:=by subst e;exact⟨.bl k,H,I,rfl,q⟩
def bE:aV X (compareOp .Eq) kf:=by
 intro pins s σ H x y v u Q I d a h;obtain⟨c,q⟩:=h;cases x with
 | non=>
  cases d;cases y with
  | non=>cases a;exact PySem.EqNone.eq_none_none (aW I q (by simp))
  | bl j=>cases a;exact PySem.EqNone.eq_none_bool (aW I q (by simp))
  | int j=>obtain⟨b,rfl⟩:=a;exact PySem.EqNone.eq_none_int (aW I q (by simp))
  | str j=>obtain⟨b,rfl⟩:=a;exact PySem.EqNone.eq_none_str (aW I q (by simp))
  | _=>exact absurd (show false=true from c) zF
 | bl i=>
  cases d;cases y with
  | non=>cases a;exact PySem.EqNone.eq_bool_none (aW I q (by simp))
  | bl j=>cases a;exact eq_bool (aW I q pq)
  | str j=>obtain⟨b,rfl⟩:=a;exact PySem.EqMixed.eq_bool_str (aW I q (by simp))
  | _=>exact absurd (show false=true from c) zF
 | int i=>
  obtain⟨t,rfl⟩:=d;cases y with
  | non=>cases a;exact PySem.EqNone.eq_int_none (aW I q (by simp))
  | int j=>obtain⟨b,rfl⟩:=a;exact eq_int (aW I q ny)
  | str j=>obtain⟨b,rfl⟩:=a;exact PySem.EqMixed.eq_int_str (aW I q (by simp))
  | _=>exact absurd (show false=true from c) zF
 | str i=>
  obtain⟨t,rfl⟩:=d;cases y with
  | non=>cases a;exact PySem.EqNone.eq_str_none (aW I q (by simp))
  | bl j=>cases a;exact PySem.EqMixed.eq_str_bool (aW I q (by simp))
  | int j=>obtain⟨b,rfl⟩:=a;exact PySem.EqMixed.eq_str_int (aW I q (by simp))
  | str j=>obtain⟨b,rfl⟩:=a;exact eq_str (aW I q gY)
  | _=>exact absurd (show false=true from c) zF
 | byt i=>
  obtain⟨t,rfl⟩:=d;cases y with
  | byt j=>obtain⟨b,rfl⟩:=a;exact PySem.W.eq_bytes (aW I q nv)
  | _=>exact absurd (show false=true from c) zF
 | _=>cases y<;>exact absurd (show false=true from c) zF
def jd:aV X (compareOp .NotEq) ll:=by
 intro pins s σ H x y v u Q I d a h;obtain⟨c,q⟩:=h;cases x with
 | non=>
  cases d;cases y with
  | non=>cases a;exact PySem.EqNone.ne_none_none (aW I q (by simp))
  | bl j=>cases a;exact PySem.EqNone.ne_none_bool (aW I q (by simp))
  | int j=>obtain⟨b,rfl⟩:=a;exact PySem.EqNone.ne_none_int (aW I q (by simp))
  | str j=>obtain⟨b,rfl⟩:=a;exact PySem.EqNone.ne_none_str (aW I q (by simp))
  | _=>exact absurd (show false=true from c) zF
 | bl i=>
  cases d;cases y with
  | non=>cases a;exact PySem.EqNone.ne_bool_none (aW I q (by simp))
  | bl j=>cases a;exact ne_bool (aW I q (congrArg not pq))
  | str j=>obtain⟨b,rfl⟩:=a;exact PySem.EqMixed.ne_bool_str (aW I q (by simp))
  | _=>exact absurd (show false=true from c) zF
 | int i=>
  obtain⟨t,rfl⟩:=d;cases y with
  | non=>cases a;exact PySem.EqNone.ne_int_none (aW I q (by simp))
  | int j=>obtain⟨b,rfl⟩:=a;exact ne_int (aW I q (congrArg not ny))
  | str j=>obtain⟨b,rfl⟩:=a;exact PySem.EqMixed.ne_int_str (aW I q (by simp))
  | _=>exact absurd (show false=true from c) zF
 | str i=>
  obtain⟨t,rfl⟩:=d;cases y with
  | non=>cases a;exact PySem.EqNone.ne_str_none (aW I q (by simp))
  | bl j=>cases a;exact PySem.EqMixed.ne_str_bool (aW I q (by simp))
  | int j=>obtain⟨b,rfl⟩:=a;exact PySem.EqMixed.ne_str_int (aW I q (by simp))
  | str j=>obtain⟨b,rfl⟩:=a;exact ne_str (aW I q (congrArg not gY))
  | _=>exact absurd (show false=true from c) zF
 | byt i=>
  obtain⟨t,rfl⟩:=d;cases y with
  | byt j=>obtain⟨b,rfl⟩:=a;exact PySem.W.ne_bytes (aW I q (congrArg not nv))
  | _=>exact absurd (show false=true from c) zF
 | _=>cases y<;>exact absurd (show false=true from c) zF
def fq:aV X (compareOp .Lt) (dJ λi j=>.bl (decide (i<j))):=jb λ_ _ _ _ _ _ _ q=>lt_int q
def ib:aV X (compareOp .LtE) (dJ λi j=>.bl (decide (i<=j))):=jb λ_ _ _ _ _ _ _ q=>le_int q
def eQ:aV X (compareOp .Gt) (dJ λi j=>.bl (decide (j<i))):=jb λ_ _ _ _ _ _ _ q=>gt_int q
def ia:aV X (compareOp .GtE) (dJ λi j=>.bl (decide (j<=i))):=jb λ_ _ _ _ _ _ _ q=>ge_int q
def xX:aV X (compareOp .In) (λx y H Q=>∃i j,x=.str i/\y=.str j/\Q (.bl (!(Builtin.Str.occurrences j i 0 j.length 1).isEmpty)) H):=by intro pins s σ H x y v u Q I a b h;obtain⟨i,j,rfl,rfl,q⟩:=h;obtain⟨t,rfl⟩:=a;obtain⟨c,rfl⟩:=b;exact in_str (aW I q rfl)
def aC(b:Vk){op:CmpOp}(h:op≠.In:=by decide)(h2:op≠.NotIn:=by decide):behindInMarks op b=false:=by
 have a:(op == CmpOp.In)=false:=by cases op<;>first|rfl|exact absurd rfl h
 have c:(op == CmpOp.NotIn)=false:=by cases op<;>first|rfl|exact absurd rfl h2
 cases b<;>simp[behindInMarks,a,c]
def cc{op:CmpOp}{r:R2}(c:aV X (compareOp op) r)(d:PE X a ta)(f:PE X b tb)(g:behindInMarks op b=false):PE X (.Compare a [op] [b] pos) (gZ r ta tb):=by intro pins s σ H Q I h;exact wpAny_Compare1 (mh d f I h λv u s2 x y H2 i j k q=>c pins s2 σ H2 x y v u Q i j k q) g
def pI(t:TE):TT:=λσ H Q=>t σ H λx H'=>∃k,x=.bl k/\Q k H'
def aK{op:CmpOp}{r:R2}(d:aV X (compareOp op) r)(f:PE X a ta)(g:PE X b tb)(i:behindInMarks op b=false):PT X (.Compare a [op] [b] pos) (pI (gZ r ta tb)):=by
 intro pins s σ H Q I h;refine wpAny_isTrue_Compare1 (ai (f pins s σ H _ I h) λv s1 ⟨x,H1,j,r1,n⟩=>ai (g pins s1 σ H1 _ j n) λu s2 ⟨y,H2,o,p,q⟩=>
  ai (d pins s2 σ H2 x y v u _ o r1 p q) λc C ⟨z,t,w,A,k,e,B⟩=>?_) i
 subst e;cases A;exact wpAny_truthy_bool ⟨t,w,B⟩
def mK(r b:R2)(ta tb tc:TE):TE:=λσ H Q=>ta σ H λx H1=>tb σ H1 λy H2=>r x y H2 λz a=>∃k,z=.bl k ∧
 (if k=true then tc σ a λc d=>b y c d Q else Q (.bl false) a)
def iq{op f:CmpOp}{r i:R2}(q:aV X (compareOp op) r)(g:aV X (compareOp f) i)(t:PE X a ta)(w:PE X b tb)(A:PE X c tc)
  (B:lastMarks [op,f] [b,c]=false:=by with_unfolding_all rfl):PE X (.Compare a [op,f] [b,c] pos) (mK r i ta tb tc):=by
 intro pins s σ H Q I h;refine Compare_chain (ai (t pins s σ H _ I h) λv s1 ⟨x,H1,C,r1,E⟩=>chain_link (ai (w pins s1 σ H1 _ C E) λu s2 ⟨y,H2,F,j,G⟩=>
  ai (q pins s2 σ H2 x y v u _ F r1 j G) λd J ⟨z,n,o,K,k,e,p⟩=>?_)) B
 subst e;cases K;refine wpAny_truthy_bool ?_;cases k with
 | false=>exact ite_ff ⟨.bl false,n,o,rfl,p⟩
 | true=>exact ite_tt (chain_last (ai (A pins J σ n _ o p) λL M ⟨N,O,P,R,S⟩=>g pins M σ O y N u L Q P j R S))
def jq(K:zk)(x:V)(H:Hp)(k:Bool):Prop:=
 match x with
 | .non=>k=false
 | .bl b=>k=b
 | .int i=>k=(i != 0)
 | .str y=>y.length<=sizeLine/\k=((y.length:Int) != 0)
 | .byt y=>y.size<=sizeLine/\k=((y.size:Int) != 0)
 | .ref p=>(∃xs,ag K H p xs/\k = !xs.isEmpty)\/(∃xs,ah K H p xs/\k = !xs.isEmpty)\/∃kvs,H p=Vo (.dK kvs)/\k = !kvs.isEmpty
 | _=>False
def y7{κ:Type}{kvs:List (κ×V)}{vs:List (κ×Va)}(r:KV kvs vs):(!vs.isEmpty) = !kvs.isEmpty:=by cases r<;>rfl
def rm{xs:List V}{a:List Va}(r:Vals xs a):(!a.toArray.isEmpty) = !xs.isEmpty:=by cases r<;>simp
def eZ:(sizeLine:Nat)<2 ^ 63:=by rw[sizeLine_eq];decide
def xJ:vZ X (λx H Q=>∃k,jq X.K x H k/\Q k H):=by
 intro pins s σ H x v Q I c h;obtain⟨k,e,q⟩:=h;have hl:=eZ;have o:sizeLine=16777216:=sizeLine_eq;cases x with
 | non=>
  cases c;have a:k=false:=e;subst a;exact truthy_none ⟨H,I,q⟩
 | bl b=>
  cases c;have a:k=b:=e;subst a;exact wpAny_truthy_bool ⟨H,I,q⟩
 | int i=>
  obtain⟨t,rfl⟩:=c;have a:k=(i != 0):=e;subst a;exact PySem.P.truthy_int ⟨H,I,q⟩
 | str y=>
  obtain⟨t,rfl⟩:=c;obtain⟨j,a⟩:y.length<=sizeLine/\k=((y.length:Int) != 0):=e;subst a;exact PySem.P.truthy_str (by omega) ⟨H,I.tok _,q⟩
 | byt y=>
  obtain⟨t,rfl⟩:=c;obtain⟨j,a⟩:y.size<=sizeLine/\k=((y.size:Int) != 0):=e;subst a;exact PySem.W.truthy_bytes (by omega) ⟨H,I.tok _,q⟩
 | ref p=>
  cases c;have a:(∃xs,ag X.K H p xs/\k = !xs.isEmpty)\/(∃xs,ah X.K H p xs/\k = !xs.isEmpty)\/∃kvs,H p=Vo (.dK kvs)/\k = !kvs.isEmpty:=e;rcases a with⟨xs,d,a⟩|⟨xs,d,a⟩|⟨kvs,d,a⟩
  .subst a;obtain⟨f,r,pl,g⟩:=I.list d;have hlen:=r.length;exact wpAny_truthy_list pl.isList (by simp only[zv];omega) ⟨H,I.tok _,by rw[rm r];exact q⟩
  .subst a;obtain⟨f,r,pl,g⟩:=I.tuple d;have hlen:=r.length;exact truthy_tuple pl (by simp only[zv];omega) ⟨H,I.tok _,by rw[rm r];exact q⟩
  .subst a;obtain⟨g,n,vs,r,m⟩:kvs.length<=sizeLine/\(p == sysModules)=false/\∃vs,KV kvs vs/\s.heap.DictOf (bK X.prog X.w) p vs:=I.hok p _ d;have hlen:kvs.length=vs.length:=Paired.length r;exact wpAny_truthy_dict n m (by omega) ⟨H,I.tok _,by rw[y7 r];exact q⟩
 | _=>exact(show False from e).elim
def xn(b:PE X a ta)(c:∀whole,isTrue a X.env whole=(do let v <-whole;standAt a.pos;holding [v] (truthy v))):
  PT X a (λσ H Q=>ta σ H λx H'=>∃k,jq X.K x H' k/\Q k H'):=by
 intro pins s σ H Q I h;exact isTrue_plain (ai (b pins s σ H _ I h) λv s1 ⟨x,H1,d,r1,f⟩=>xJ pins s1 σ H1 x v Q d r1 f) (c _)
def cz:aV X (binaryOp .Add) (λx y H Q=>∃i j,x=.str i/\y=.str j/\i.length+j.length<=sizeLine/\Q (.str (i++j)) H):=by intro pins s σ H x y v u Q I a b h;obtain⟨i,j,rfl,rfl,c,q⟩:=h;obtain⟨t,rfl⟩:=a;obtain⟨d,rfl⟩:=b;exact add_str (λd tk=>⟨.str (i++j),H,I.tok _,⟨_,rfl⟩,q⟩) c
def vals1{x:V}(r:Vals [x] us):∃u,us=[u]/\RelV x u:=by
 cases r with
 | cons r1 a=>cases a;exact⟨_,rfl,r1⟩
def vals2{x y:V}(r:Vals [x,y] us):∃u a,us=[u,a]/\RelV x u/\RelV y a:=by
 cases r with
 | cons r1 b=>
  cases b with
  | cons c d=>cases d;exact⟨_,_,rfl,r1,c⟩
def vh(b:X.calm=true):bD X (.builtin "max") (λxs H Q=>∃i j,xs=[.int i,.int j]/\Q (.int (if j>i then j else i)) H):=by
 intro pins s σ H xs us Q I r h;obtain⟨i,j,rfl,q⟩:=h;obtain⟨u,c,rfl,⟨t,rfl⟩,⟨d,rfl⟩⟩:=vals2 r;refine max_two_ints (I.ok.hd b) λh' tk k=>⟨_,H,I.kept k,?_,q⟩;by_cases a:j>i
 .rw[Am a,Am a];exact⟨_,rfl⟩
 .rw[Al a,Al a];exact⟨_,rfl⟩
def tL(b:X.calm=true):bD X (.builtin "min") (λxs H Q=>∃i j,xs=[.int i,.int j]/\Q (.int (if j<i then j else i)) H):=by
 intro pins s σ H xs us Q I r h;obtain⟨i,j,rfl,q⟩:=h;obtain⟨u,c,rfl,⟨t,rfl⟩,⟨d,rfl⟩⟩:=vals2 r;refine min_two_ints (I.ok.hd b) λh' tk k=>⟨_,H,I.kept k,?_,q⟩;by_cases a:j<i
 .rw[Am a,Am a];exact⟨_,rfl⟩
 .rw[Al a,Al a];exact⟨_,rfl⟩
def tF:bD X (.type "int") (λxs H Q=>(∃i,xs=[.int i]/\Q (.int i) H)\/∃k,xs=[.bl k]/\Q (.int (if k then 1 else 0)) H):=by
 intro pins s σ H xs us Q I r h;rcases h with⟨i,rfl,q⟩|⟨k,rfl,q⟩
 .obtain⟨u,rfl,t,rfl⟩:=vals1 r;exact call_int_int ⟨.int i,H,I,⟨_,rfl⟩,q⟩
 .obtain⟨u,rfl,r1⟩:=vals1 r;cases r1;exact call_int_bool ⟨.int (if k then 1 else 0),H,I.tok _,⟨_,rfl⟩,q⟩
def dS:bD X (.type "str") (λxs H Q=>∃i,xs=[.int i]/\i.natAbs.log2<1920/\Q (.str (toString i)) H):=by intro pins s σ H xs us Q I r h;obtain⟨i,rfl,a,q⟩:=h;obtain⟨u,rfl,t,rfl⟩:=vals1 r;exact PySem.P.str_of_int a ⟨.str _,H,I.tok _,⟨_,rfl⟩,q⟩
end
structure ObjM(h:Vh)(x dx C:Vb)(mA:Vn->Option Va):Prop where
 obj:h.get? x=Vo (PySem.W.instObj C dx)
 ns:h.Ns1 dx mA
 ne:dx≠x
def uP{dx:Vb}{mA:Vn->Option Va}(n:h.Ns1 dx mA):∃od,h.get? dx=Vo od/\∀name,PySem.W.lookIn name od=Vo (mA name):=by
 obtain⟨o,es,ep,c,hd,d,_,f⟩:=n;refine⟨o,c,λname=>?_⟩;have e:=f name;unfold nsFind findBy at e;rw[<-Array.find?_toList]at e;unfold PySem.W.lookIn;rw[hd];dsimp only;split
 .rename_i y q;rw[q]at e;exact congrArg Vo e
 .rename_i q;rw[q]at e;have a:es.toList.any (·.refKey)=false:=by rw[List.any_eq_false];intro y g;obtain⟨z,t,b⟩:=d y (Array.mem_toList_iff.mp g);simp[DictEntry.refKey,b]
  have i:¬es.toList.any (·.refKey)=true:=by rw[a];exact zF
  rw[Al i];exact congrArg Vo e
def ObjM.look{x dx:Vb}{mA:Vn->Option Va}(I:ObjM h x dx C mA):∃od,PySem.W.InstAt h x (PySem.W.instObj C dx) C (Vo od)/\∀name,PySem.W.lookIn name od=Vo (mA name):=
 let ⟨od,ho,hl⟩:=uP I.ns
 ⟨od,⟨I.obj,rfl,rfl,ho⟩,hl⟩
section
variable {prog:Vd} {w:Ve} {A:Vi} {E:Va->Vc->Prop} {s:Vc} {K:zk} {x dx C f:Vb} {mA:Vn->Option Va} {name:Vn} {v:Va}
def get_map{expr:Bool}(X:K.In s.heap)(I:ObjM s.heap x dx C mA)(b:PySem.W.plainGet K C name=true)(c:PySem.W.hasDictIn K C=true)
  (d:PySem.W.findIn K (.ref C) name=Vo Vp) (hv:mA name=Vo v) (a:PySem.W.handedIn v=true) (h:Q v { s with toks:=s.toks+1 }) :
  Vf (Vg prog w) A (getAttr (.ref x) name expr) Q E s:=by
 obtain⟨od,J,hl⟩:=I.look;exact PySem.W.get_value X J (PySem.W.plainGet_of b).1 (PySem.W.findObj_own c d rfl (by rw[hl,hv])) a h
def wz{pl:Sem Bool}{Q:Va×List Va->Vc->Prop}(X:K.In s.heap)(I:ObjM s.heap x dx C mA)(a:PySem.W.plainGet K C name=true)
  (b:PySem.W.findIn K (.ref C) name=Vo (Vo (.ref f))) (c:PySem.W.isFn K (.ref f)=true) (hv:mA name=Vp) (h:Q (.ref f,[.ref x]) s) :
  Vf (Vg prog w) A (getMethod (.ref x) name pl) Q E s:=by
 obtain⟨od,J,hl⟩:=I.look;exact PySem.W.method_fn X J (PySem.W.plainGet_of a).1 (PySem.W.plainGet_of a).2 b (beq_iff_eq.mp c) (by show(PySem.W.lookIn name od).map (·.isSome)=Vo false;rw[hl,hv];rfl) h
def yd{ns:List Vn}{Q:Unit->Vc->Prop}(X:K.In s.heap)(I:ObjM s.heap x dx C mA)
  (k:PySem.W.findIn K (.ref C) "__setattr__" = Vo (Vo (.builtin "object.__setattr__"))) (n:PySem.W.plainOver K C=true) (o:PySem.W.takerIn K C name=Vo Vp) (p:PySem.W.hasDictIn K C=true)
  (q:PySem.Within mA ns) (t:ns.length<=sizeLine)
  (h:∀h',ObjM h' x dx C (λy=>if y=name then Vo v else mA y)->Heap.SameBut dx s.heap h'->Q () { s with heap:=h',toks:=s.toks+2 }) :
  Vf (Vg prog w) A (setAttr (.ref x) name v) Q E s:=by
 obtain⟨od,J,hl⟩:=I.look;refine PySem.W.set_plain X J k (PySem.W.osa_open (s:={ s with toks:=s.toks+1 }) (r:=Vp) X J n o λb=>?_);obtain⟨cd,u,f⟩:=PySem.W.any_some p;have z:s.heap.get? x=Vo ⟨.ref C,Vo dx,.plain,#[]⟩:=I.obj;refine zi (zj (zi (zi (wpAny_loadPart z (zi (PySem.W.Looks.here (s:={ s with toks:=s.toks+1 }) (PySem.W.looks_clsIn X u) ?_))))));rw[f];refine zj (a:=Vo dx) (zi (zj (zi ?_)));refine wpAny_nsSet1 (s:={ s with toks:=s.toks+1 }) I.ns λh' c d=>?_;obtain⟨G,B,F,g,i,j⟩:=c.count (PySem.Within.cons name v q);refine zi (wpAny_lookBehind g (by rw[i];exact pastItsLine_dict (zT j (by rw[zQ];omega))) ?_);exact zj (h _ ⟨(d.2 _ (Ne.symm I.ne)).trans I.obj,c,I.ne⟩ d)
def xu{R:Result->Vc->Prop}{vs:List Va}(X:K.In s.heap)(a:PySem.W.makesIn K C=true)
  (hi:PySem.W.findIn K (.ref C) "__init__" = Vo (Vo (.ref f))) (b:PySem.W.typeIn K (.ref f)=Vo (.type "function"))
  (h:codeAny (Vg prog w) (A.under (.builtin "type.__call__" ⟨.ref C::vs,kw⟩)) (.call (.ref f) ⟨.ref (s.heap.objs.size+1)::vs,kw⟩) (PySem.W.InitBack (s.heap.objs.size+1) R)
   { s with heap:=(s.heap.push PySem.W.emptyDict).push (PySem.W.instObj C s.heap.objs.size) }) :
  codeAny (Vg prog w) A (.call (.ref C) ⟨vs,kw⟩) R s:=by
 obtain⟨c,g,d,t,os⟩:=s;exact PySem.W.make_core (PySem.W.makes_of X a) (PySem.W.looks_findIn X hi) (λself=>PySem.W.bind_fn X self b) (.inl rfl) h
end
def aY(f:Vn)(v:V):List (Vn×V)->List (Vn×V)
 | []=>[(f,v)]
 | (g,x)::r=>if g=f then(g,v)::r else(g,x)::aY f v r
theorem cW(f g:Vn)(v:V):∀fs:List (Vn×V),(aY f v fs).lookup g=if g=f then Vo v else fs.lookup g
 | []=>by
  show List.lookup g [(f,v)]=_;by_cases h:g=f
  .have a:(g == f)=true:=beq_iff_eq.mpr h;simp only[List.lookup,a,Am h]
  .have a:(g == f)=false:=beq_eq_false_iff_ne.mpr h;simp only[List.lookup,a,Al h]
 | (k,x)::r=>by
  have c:=cW f g v r;rw[show aY f v ((k,x)::r)=(if k=f then(k,v)::r else(k,x)::aY f v r)from rfl];by_cases b:k=f
  .rw[Am b];by_cases h:g=k
   .have a:(g == k)=true:=beq_iff_eq.mpr h;simp only[List.lookup,a,Am (h.trans b)]
   .have a:(g == k)=false:=beq_eq_false_iff_ne.mpr h;simp only[List.lookup,a,Al (λe:g=f=>h (e.trans b.symm))]
  .rw[Al b];by_cases h:g=k
   .have a:(g == k)=true:=beq_iff_eq.mpr h;simp only[List.lookup,a,Al (λe:g=f=>b (h.symm.trans e))]
   .have a:(g == k)=false:=beq_eq_false_iff_ne.mpr h;simp only[List.lookup,a];exact c
theorem kR(f:Vn)(v:V):∀fs:List (Vn×V),f∈(aY f v fs).map (·.1)/\∀g,g∈fs.map (·.1)->g∈(aY f v fs).map (·.1)
 | []=>⟨by simp[aY],λg h=>by simp at h⟩
 | (k,x)::r=>by
  obtain⟨i1,i2⟩:=kR f v r;rw[show aY f v ((k,x)::r)=(if k=f then(k,v)::r else(k,x)::aY f v r)from rfl];by_cases a:k=f
  .rw[Am a];subst a;exact⟨by simp,λg h=>by simpa using h⟩
  .rw[Al a];refine⟨?_,λg h=>?_⟩
   .rw[List.map_cons];exact zt _ i1
   .rw[List.map_cons]at h ⊢;rcases zE.mp h with e|e
    .exact zE.mpr (.inl e)
    .exact zt _ (i2 g e)
theorem gC(f:Vn)(v:V):∀fs:List (Vn×V),(aY f v fs).length<=fs.length+1
 | []=>by simp[aY]
 | (k,x)::r=>by
  have b:=gC f v r;rw[show aY f v ((k,x)::r)=(if k=f then(k,v)::r else(k,x)::aY f v r)from rfl];by_cases a:k=f
  .rw[Am a,zQ,zQ];omega
  .rw[Al a,zQ,zQ];omega
def bR.some_of{o:Option Va}(r:bR (Vo v) o):∃u,o=Vo u/\RelV v u:=by
 cases o with
 | none=>exact(show False from r).elim
 | some u=>exact⟨u,rfl,r⟩
def bR.none_of{o:Option Va}(r:bR Vp o):o=Vp:=by
 cases o with
 | none=>rfl
 | some u=>exact(show False from r).elim
def tQ(r:RelV v u):PySem.W.handedIn u=true:=by
 cases v with
 | non=>cases(show u=Value.none from r);rfl
 | bl b=>cases(show u=Value.bool b from r);rfl
 | int i=>obtain⟨t,e⟩:=(show ∃t,u=Value.int i t from r);cases e;rfl
 | str x=>obtain⟨t,e⟩:=(show ∃t,u=Value.str x t from r);cases e;rfl
 | byt b=>obtain⟨t,e⟩:=(show ∃t,u=Value.bytes b t from r);cases e;rfl
 | flt b=>obtain⟨t,e⟩:=(show ∃t,u=Value.float b t from r);cases e;rfl
 | ref a=>cases(show u=Value.ref a from r);rfl
 | ty n=>cases(show u=Value.type n from r);rfl
section
variable {P:Vd} {w:Ve} {H H':Hp} {h h':Vh} {a C dx:Vb} {fs fs':List (Vn×V)}
def iH(hok:aU P w H h)(e:H a=Vo (.ins C dx fs)):∃mA,ObjM h a dx C mA/\(∀f,bR (fs.lookup f) (mA f))/\PySem.Within mA (fs.map (·.1))/\fs.length<=1000/\H dx=Vo (.own a):=by obtain⟨d,z,ne,ob,mA,n,r,q⟩:=(show bc P w H h a (.ins C dx fs)from hok a _ e);exact⟨mA,⟨ob,n,ne⟩,r,q,z,d⟩
end
structure Cls(K:zk)(C:Vb):Prop where
 pg:PySem.W.plainGet K C Str.empty=true
 hd:PySem.W.hasDictIn K C=true
 po:PySem.W.plainOver K C=true
 sa:PySem.W.findIn K (.ref C) "__setattr__" = Vo (Vo (.builtin "object.__setattr__"))
def Cls.get{K:zk}(c:Cls K C)(f:Vn):PySem.W.plainGet K C f=true:=c.pg
def cS(K:zk)(C:Vb)(f:Vn):Prop:=PySem.W.findIn K (.ref C) f=Vo Vp
def cS.taker{K:zk}{f:Vn}(n:cS K C f):PySem.W.takerIn K C f=Vo Vp:=by unfold PySem.W.takerIn;rw[show PySem.W.findIn K (.ref C) f=Vo Vp from n];rfl
structure Meth(K:zk)(C:Vb)(m:Vn)(f:Vb):Prop where
 at_:PySem.W.findIn K (.ref C) m=Vo (Vo (.ref f))
 fn:PySem.W.isFn K (.ref f)=true
 kp:PySem.W.keepIn K (.ref f)=true
section
variable {X:Cx} {pins:List (Vb×Obj)} {σ:St} {H:Hp} {s:Vc} {a C dx:Vb} {fs:List (Vn×V)} {f:Vn} {v:V} {A:Vi} {E:Va->Vc->Prop}
def yw{b:Bool}(I:Inv X pins σ H s)(e:H a=Vo (.ins C dx fs))(c:Cls X.K C)(n:cS X.K C f)(l:fs.lookup f=Vo v)
  (h:∀u s',Inv X pins σ H s'->RelV v u->Q u s'):Vf (Vg X.prog X.w) A (getAttr (.ref a) f b) Q E s:=by
 obtain⟨mA,O,r,_,_,_⟩:=iH I.hok e;obtain⟨u,g,d⟩:=bR.some_of (v:=v) (o:=mA f) (by rw[<-l];exact r f);exact get_map I.kIn O (c.get f) c.hd n g (tQ d) (h u _ (I.tok _) d)
def iN{m:Vn}{g:Vb}{pl:Sem Bool}{Q:Va×List Va->Vc->Prop}(I:Inv X pins σ H s)(e:H a=Vo (.ins C dx fs))(c:Cls X.K C)(k:Meth X.K C m g)(l:fs.lookup m=Vp)
  (h:Q (.ref g,[.ref a]) s):Vf (Vg X.prog X.w) A (getMethod (.ref a) m pl) Q E s:=by
 obtain⟨mA,O,r,_,_,_⟩:=iH I.hok e;have b:mA m=none:=bR.none_of (by rw[<-l];exact r m);exact wz I.kIn O (c.get m) k.at_ k.fn b h
def uC{y:V}{Q:Unit->Vc->Prop}(I:Inv X pins σ H s)(e:H a=Vo (.ins C dx fs))(c:Cls X.K C)(n:cS X.K C f)(hl:fs.length<1000)(k:RelV y u)
  (h:∀s',Inv X pins σ (upd H a (.ins C dx (aY f y fs))) s'->Q () s'):Vf (Vg X.prog X.w) A (setAttr (.ref a) f u) Q E s:=by
 obtain⟨mA,O,r,i,_,j⟩:=iH I.hok e;have p:(fs.map (·.1)).length<=sizeLine:=by rw[zp,sizeLine_eq];omega
 refine yd I.kIn O c.sa c.po n.taker c.hd i p λh' d sb=>h _ ?_;have hd:∃o,h'.get? dx=Vo o:=let ⟨o,_,_,e',_⟩:=d.ns;⟨o,e'⟩;refine I.write (x:=a) (e:=dx) (by rw[e];exact True.intro) (.inr j) (λb q t z=>(sb.2 b t).trans z) hd ?_;refine⟨by rw[aq O.ne];exact j,?_,O.ne,d.obj,_,d.ns,λg=>?_,λg v=>?_⟩
 .have:=gC f y fs;omega
 .show bR ((aY f y fs).lookup g) (if g=f then Vo u else mA g);rw[cW];by_cases q:g=f
  .rw[Am q,Am q];exact k
  .rw[Al q,Al q];exact r g
 .by_cases q:g=f
  .rw[q];exact(kR f y fs).1
  .refine(kR f y fs).2 g (i g λz=>v ?_);show(if g=f then Vo u else mA g)=Vp;rw[Al q];exact z
def Inv.made(I:Inv X pins σ H s):Inv X pins σ (upd (upd H s.heap.objs.size (.own (s.heap.objs.size+1))) (s.heap.objs.size+1) (.ins C s.heap.objs.size []))
  { s with heap:=(s.heap.push PySem.W.emptyDict).push (PySem.W.instObj C s.heap.objs.size) }:=by
 have c:(s.heap.push PySem.W.emptyDict).get? s.heap.objs.size=Vo PySem.W.emptyDict:=zm s.heap rfl;have d:((s.heap.push PySem.W.emptyDict).push (PySem.W.instObj C s.heap.objs.size)).get? (s.heap.objs.size+1)=Vo (PySem.W.instObj C s.heap.objs.size):=by
  have:=zm (s.heap.push PySem.W.emptyDict) (o:=PySem.W.instObj C s.heap.objs.size) rfl
  rwa [Heap.size_push]at this
 have f:(s.heap.push PySem.W.emptyDict).Ns s.heap.objs.size (λ_=>Vp):=⟨PySem.W.emptyDict,#[],_,c,rfl,(λe g=>absurd g (by simp)),λ_=>rfl⟩;have h:=I.laid (a:=s.heap.objs.size) (o:=.own (s.heap.objs.size+1)) (h':=s.heap.push PySem.W.emptyDict) (t':=s.toks) (λb u q=>zl _ q) (zJ _) ⟨_,c⟩;refine h.laid (a:=s.heap.objs.size+1) (o:=.ins C s.heap.objs.size []) (t':=s.toks) (λb u q=>zl _ q) (Nat.le_of_eq (Heap.size_push _ _)) ?_;have ne:s.heap.objs.size≠s.heap.objs.size+1:=zI (Nat.lt_succ_self _);refine⟨by rw[aq ne,aI],Nat.zero_le _,ne,d,λ_=>Vp,(Heap.Ns1.of_empty f).at λo q=>zl _ q,λ_=>True.intro,λy i=>absurd rfl i⟩
def w5{prog:Vd}{env:Env}{e:Vk}{f:Vn}{pos:Pos}(b:attributeBase e f env (eval e env)=eval e env)
  (h:Vf (Vg prog w) A (eval e env) (λo a=>Vf (Vg prog w) A (getAttr o f true) Q E a) E s):Vf (Vg prog w) A (eval (.Attribute e f pos) env) Q E s:=
 Attribute_any_ h (by rw[arm_eval_Attribute,b])
end
def rA(K:zk)(ta:TE)(f:Vn):TE:=λσ H Q=>ta σ H λx H1=>∃a C dx fs v,x=.ref a/\H1 a=Vo (.ins C dx fs)/\Cls K C/\cS K C f/\fs.lookup f=Vo v/\Q v H1
def mL(K:zk)(ta tv:TE)(f:Vn):TS:=λD σ H=>tv σ H λy H1=>ta σ H1 λx H2=>∃a C dx fs,x=.ref a/\H2 a=Vo (.ins C dx fs)/\Cls K C/\cS K C f/\fs.length<1000 ∧
 D.nx σ (upd H2 a (.ins C dx (aY f y fs)))
section
variable {X:Cx} {o e value:Vk} {f:Vn} {pos pos' tpos:Pos} {ta tv:TE}
def cC(b:PE X e ta)(d:attributeBase e f X.env (eval e X.env)=eval e X.env):PE X (.Attribute e f pos) (rA X.K ta f):=by intro pins s σ H Q I h;refine w5 d (ai (b pins s σ H _ I h) λu s1 ⟨x,H1,g,i,a,C,dx,fs,v,ex,j,c,n,l,q⟩=>?_);subst ex;obtain rfl:u=Value.ref a:=i;exact yw g j c n l λp s2 k o=>⟨v,H1,k,o,q⟩
def fE(b:PE X o ta)(hv:PE X value tv)(d:swapsWith value (Vo (.Attribute o f pos')) pos.line X.env=pure false):PS X (.Assign [.Attribute o f pos'] value pos) (mL X.K ta tv f):=by intro pins s σ H D I h;refine plainObj_wpAny_Assign_Attribute (ai (hv pins s σ H _ I h) λu s1 ⟨y,H1,g,i,q⟩=>ai (b pins s1 σ H1 _ g q) λj s2 ⟨x,H2,k,p,a,C,dx,fs,ex,r,c,n,l,t⟩=>?_) d;subst ex;obtain rfl:j=Value.ref a:=p;exact uC k r c n l i λw v=>⟨σ,_,v,t⟩
def zh{pl:Sem Bool}{m:Vn}{apos:Pos}{args:List Vk}{σ:St}{te:TE}(i:PE X e te)(I:Inv X pins σ H s)
  (h:te σ H λx H1=>∃a C dx fs g,x=.ref a/\H1 a=Vo (.ins C dx fs)/\Cls X.K C/\Meth X.K C m g/\fs.lookup m=Vp ∧
   ∀s1,Inv X pins σ H1 s1->Vf (Vg X.prog X.w) X.A (callWith pos (.ref g) [.ref a] (backTo pos (starEach args X.env)) (backToKw pos (keywordEach [] X.env))) Q X.xe s1)
  (j:eval (.Call (.Attribute e m apos) args [] pos) X.env=(do
   let b <-eval e X.env
   standAt apos.atName
   let (f,first) <-holding [b] (getMethod b m pl)
   callWith pos f first (backTo pos (starEach args X.env)) (backToKw pos (keywordEach [] X.env)))) :
  Vf (Vg X.prog X.w) X.A (eval (.Call (.Attribute e m apos) args [] pos) X.env) Q X.xe s:=by
 refine PySem.W.methodCall_KW (pl:=pl) (ai (i pins s σ H _ I h) λu s1 ⟨x,H1,d,n,a,C,dx,fs,g,ex,o,c,k,l,q⟩=>?_) j;subst ex;obtain rfl:u=Value.ref a:=n;exact iN d o c k l (q s1 d)
end
section
variable {X:Cx} {pins:List (Vb×Obj)} {σ:St} {H:Hp} {s:Vc} {A:Vi} {E:Va->Vc->Prop} {Q:Va->Vc->Prop} {c:Va} {b:Bool}
inductive TyOf(K:zk)(H:Hp):V->Va->Prop where
 | non:TyOf K H .non (.type "NoneType")
 | bl (x:Bool):TyOf K H (.bl x) (.type "bool")
 | int (i:Int):TyOf K H (.int i) (.type "int")
 | str (x:Vn):TyOf K H (.str x) (.type "str")
 | flt (x:UInt64):TyOf K H (.flt x) (.type "float")
 | lst {a:Vb} {xs:List V} (e:H a=Vo (.lst xs)):TyOf K H (.ref a) (.type "list")
 | frz {a:Vb} {o:Obj} {xs:List V} (e:H a=Vo (.frz o (.lst xs))):TyOf K H (.ref a) (.type "list")
 | tup {a:Vb} {xs:List V} (e:H a=Vo (.tup xs)):TyOf K H (.ref a) (.type "tuple")
 | dK {a:Vb} {kvs:List (Key×V)} (e:H a=Vo (.dK kvs)):TyOf K H (.ref a) (.type "dict")
 | dT {a:Vb} {kvs:List (List Key×V)} (e:H a=Vo (.dT kvs)):TyOf K H (.ref a) (.type "dict")
 | ins {a C dx:Vb} {fs:List (Vn×V)} (e:H a=Vo (.ins C dx fs)) (cl:Cls K C) (c:PySem.W.findIn K (.ref C) "__class__" = Vo (Vo (.builtin "object.__class__")))
   (d:PySem.W.specialIn K (.builtin "object.__class__") "__get__" = Vo (Vo (.builtin "getset_descriptor.__get__"))) (b:PySem.W.takesIn K (.builtin "object.__class__")=Vo true)
   (f:PySem.W.mroIn K C (.type "object")=Vo true):TyOf K H (.ref a) (.ref C)
def sS{x:V}{t:Va}(I:Inv X pins σ H s)(d:RelV x u)(ty:TyOf X.K H x t)(e:PySem.W.kitOne X.K t c=Vo b)(h:∀tk,Q (.bool b) { s with toks:=tk }):
  Vf (Vg X.prog X.w) A (call (.builtin "isinstance") [u,c]) Q E s:=by
 cases ty with
 | non=>cases(show u=Value.none from d);exact PySem.W.kia_one PySem.W.kitx_none I.kIn True.intro e (λz=>nomatch z) h
 | bl y=>cases(show u=Value.bool y from d);exact PySem.W.kia_one PySem.W.kitx_bool I.kIn True.intro e (λz=>nomatch z) h
 | int i=>obtain⟨t,q⟩:=(show ∃t,u=Value.int i t from d);cases q;exact PySem.W.kia_one PySem.W.kitx_int I.kIn True.intro e (λz=>nomatch z) h
 | str y=>obtain⟨t,q⟩:=(show ∃t,u=Value.str y t from d);cases q;exact PySem.W.kia_one PySem.W.kitx_str I.kIn True.intro e (λz=>nomatch z) h
 | flt y=>obtain⟨t,q⟩:=(show ∃t,u=Value.float y t from d);cases q;exact PySem.W.kia_one PySem.W.kitx_float I.kIn True.intro e (λz=>nomatch z) h
 | @lst a xs f=>
  cases(show u=Value.ref a from d);obtain⟨_,_,n,_,h1⟩:=(show bc X.prog X.w H s.heap a (.lst xs)from I.hok a _ f);exact PySem.W.kia_one PySem.W.kitx_list I.kIn ⟨_,h1,rfl⟩ e (λz=>nomatch z) h
 | @frz a ob xs f=>
  cases(show u=Value.ref a from d);obtain⟨_,_,_,n,_,h1⟩:=(show bc X.prog X.w H s.heap a (.frz ob (.lst xs))from I.hok a _ f);exact PySem.W.kia_one PySem.W.kitx_list I.kIn ⟨_,h1,rfl⟩ e (λz=>nomatch z) h
 | @tup a xs f=>
  cases(show u=Value.ref a from d);obtain⟨_,_,_,p⟩:=(show bc X.prog X.w H s.heap a (.tup xs)from I.hok a _ f);obtain⟨o,h1,h2,_⟩:=p;exact PySem.W.kia_one PySem.W.kitx_tuple I.kIn ⟨o,h1,h2⟩ e (λz=>nomatch z) h
 | @dK a kvs f=>
  cases(show u=Value.ref a from d);obtain⟨_,_,vs,_,p⟩:=(show bc X.prog X.w H s.heap a (.dK kvs)from I.hok a _ f);obtain⟨o,es,ep,h1,h2,_⟩:=p;exact PySem.W.kia_one PySem.W.kitx_dict I.kIn ⟨o,h1,h2.1⟩ e (λz=>nomatch z) h
 | @dT a kvs f=>
  cases(show u=Value.ref a from d);obtain⟨_,_,xs,_,o,es,ep,h1,h2,_⟩:=(show bc X.prog X.w H s.heap a (.dT kvs)from I.hok a _ f);exact PySem.W.kia_one PySem.W.kitx_dict I.kIn ⟨o,h1,h2.1⟩ e (λz=>nomatch z) h
 | @ins a C dx fs f cl j k g r=>
  cases(show u=Value.ref a from d);obtain⟨mA,O,_⟩:=iH I.hok f;obtain⟨od,J,_⟩:=O.look;exact PySem.W.kia_one (PySem.W.kitx_own (cl.get _) cl.hd j k g r) I.kIn J e (λz=>nomatch z) h
end
structure Room(k:Nat)(A:Vi):Prop where
 hd:A.handled=Vp
 dp:A.depth+3*k+5<recursionLimit
 un:A.units+16*k+200<cLine
def Room.mono{j k:Nat}(r:Room k A)(h:j<=k):Room j A:=⟨r.hd,by have:=r.dp;omega,by have:=r.un;omega⟩
theorem Room.deeper{k:Nat}{A:Vi}(r:Room (k+1) A)(env:Env):Room k (A.deeper env):=
 ⟨r.hd,by have:=r.dp;show A.depth+1+3*k+5<_;omega,by have:=r.un;show A.units+3+16*k+200<_;omega⟩
def vd:(A.under (.builtin "type.__call__" ⟨.ref C::us,kw⟩)).depth=A.depth+1:=by
 first|rfl|simp [Around.under,Code.weight,Code.isCreation,Code.isGuard,Code.isCaller,Code.frames,Code.isFrame,guardIds]
def tZ:(A.under (.builtin "type.__call__" ⟨.ref C::us,kw⟩)).units=A.units+1:=by
 first|rfl|simp [Around.under,Code.cUnits,Code.frames,Code.isFrame]
def Room.make{k:Nat}(r:Room (k+1) A)(C:Vb)(us:List Va)(kw:List (Vn×Va)):Room k (A.under (.builtin "type.__call__" ⟨.ref C::us,kw⟩)):=
 ⟨r.hd,by have:=r.dp;rw[vd];omega,by have:=r.un;rw[tZ];omega⟩
theorem Room.depth{k:Nat}{A:Vi}(r:Room k A):A.depth<recursionLimit:=by have:=r.dp;omega
theorem Room.units{k:Nat}{A:Vi}(r:Room k A):A.units+64<cLine:=by have:=r.un;omega
def eP:TA:=λ_ H Q=>Q [] H
def iJ(ta:TE)(a:TA):TA:=λσ H Q=>ta σ H λx H1=>a σ H1 λxs H2=>Q (x::xs) H2
section
variable {X:Cx} {e:Vk} {es:List Vk} {te:TE} {t:TA} {pos:Pos}
def ae:PA X [] eP:=λ_ _ _ _ H Q I h=>Calls.spliced_nil ⟨[],H,I,.nil,h⟩
def aa(a:PE X e te)(hr:PA X es t)(b:starEach (e::es) X.env=(false,eval e X.env)::starEach es X.env:=by rfl):PA X (e::es) (iJ te t):=by intro pos pins s σ H Q I h;rw[b];show Vf _ _ (spliced ((false,eval e X.env)::backTo pos (starEach es X.env))) _ _ s;refine Calls.spliced_cons (ai (a pins s σ H _ I h) λu s1 ⟨x,H1,c,r1,d⟩=>?_);exact ai (hr pos pins s1 σ H1 _ c d) λus s2 ⟨xs,H2,f,g,i⟩=>⟨x::xs,H2,f,.cons r1 g,i⟩
def jK(t:TA):TE:=λσ H Q=>t σ H λxs H1=>xs.length<=sizeLine/\∀p,H1 p=Vp->Q (.ref p) (upd H1 p (.tup xs))
def qQ(t:TA):TE:=λσ H Q=>t σ H λxs H1=>xs.length<=sizeLine/\∀p,H1 p=Vp->Q (.ref p) (upd H1 p (.lst xs))
def aB{x1}(h:PA X es t):PE X (.Tuple es x1 pos) (jK t):=by intro pins s σ H Q I c;refine wpAny_Tuple_spliced (ai (h pos pins s σ H _ I c) λus s1 ⟨xs,H1,a,r,z,q⟩=>⟨by rw[<-r.length];exact z,?_⟩);have d:H1 s1.heap.objs.size=none:=a.hok.fresh (zJ _);refine⟨.ref s1.heap.objs.size,upd H1 s1.heap.objs.size (.tup xs),a.laid (t':=s1.toks) (λb u e=>zl _ e) (zJ _) ?_,rfl,q _ d⟩;exact⟨z,us,r,⟨_,zm _ rfl,rfl,_,rfl⟩⟩
def bA(h:PA X es t):PE X (.List es pos) (qQ t):=by intro pins s σ H Q I c;refine wpAny_List_spliced (ai (h pos pins s σ H _ I c) λus s1 ⟨xs,H1,a,r,z,q⟩=>⟨by rw[<-r.length];exact z,?_⟩);have d:H1 s1.heap.objs.size=none:=a.hok.fresh (zJ _);refine⟨.ref s1.heap.objs.size,upd H1 s1.heap.objs.size (.lst xs),a.laid (t':=s1.toks) (λb u e=>zl _ e) (zJ _) ?_,rfl,q _ d⟩;exact⟨z,us,0,r,zm _ rfl⟩
end
abbrev Sp:=List V->Hp->VK->XK->Prop
abbrev cO:=List Env->Hp->Vc->XK->Va->Vc->Prop
structure Env0(P:Vd)(w:Ve)(K:zk)(mg:Vn->Option Va)(base:Vh)(A:Vi)(outer:List Env)(s:Vc)(H:Hp):Prop where
 frames:A.frames=Vo outer
 mod:Mod K mg base
 bs:∀b o,base.get? b=Vo o->s.heap.get? b=Vo o/\H b=Vp
 bsz:base.objs.size<=s.heap.objs.size
 funs:s.heap.FunFrames base outer
 frf:∀b∈aN outer,H b=Vp
 hok:aU P w H s.heap
 bare:AllBare s.gens
def CE(outer:List Env)(P:Vd)(w:Ve)(H:Hp)(s:Vc)(Q:VK)(u:Va)(s':Vc):Prop:=
 ∃v H',s'.os=s.os/\AllBare s'.gens/\Un (aN outer) [] H H' s.heap s'.heap/\aU P w H' s'.heap/\RelV v u/\Q v H'
def CR(CX:cO)(outer:List Env)(P:Vd)(w:Ve)(H:Hp)(s:Vc)(Q:VK)(E:XK)(r:Result)(s':Vc):Prop:=
 match r with
 | .ok (.ret u)=>CE outer P w H s Q u s'
 | .ok _=>False
 | .error e=>CX outer H s E e s'
structure FnOk(P:Vd)(w:Ve)(K:zk)(mg:Vn->Option Va)(base:Vh)(CX:cO)(k:Nat)(f:Vb)(fd:Vm)(ps:List Vn)(sp:Sp):Prop where
 len:∀vs H Q E,sp vs H Q E->vs.length=ps.length
 run:∀(A:Vi) (outer:List Env) (s:Vc) (H:Hp) (args:Args) (us:List Va) (vs:List V) (Q:VK) (E:XK),Room k A->Env0 P w K mg base A outer s H->BindsTo s fd args (ps.zip us)->Vals vs us->sp vs H Q E ->
  codeAny (Vg P w) A (.call (.ref f) args) (CR CX outer P w H s Q E) s
def Env0.make{K:zk}{outer:List Env}(e:Env0 P w K mg base A outer s H)(C:Vb)(us:List Va)(kw:List (Vn×Va)):
  Env0 P w K mg base (A.under (.builtin "type.__call__" ⟨.ref C::us,kw⟩)) outer s H:=⟨by first|exact e.frames|(simpa[Around.under,Code.envs,Code.isFrame,pushEnvs]using e.frames),e.mod,e.bs,e.bsz,e.funs,e.frf,e.hok,e.bare⟩
section
variable {X:Cx} {pins:List (Vb×Obj)} {σ:St} {H:Hp} {s s':Vc}
def Inv.env0(I:Inv X pins σ H s):Env0 X.prog X.w X.K X.mg X.base X.A X.stack s H:=
 ⟨I.ok.frames,I.ok.mod,I.bs,zT I.ok.bsz I.sz,I.stack,I.stkFree,I.hok,I.bare⟩
def Inv.after{Q:VK}(I:Inv X pins σ H s)(h:CE X.stack X.prog X.w H s Q u s'):EP X pins σ Q u s':=by obtain⟨v,H',os,bare,un,hok,r,q⟩:=h;obtain⟨c,g,d,t,a⟩:=s';obtain rfl:a=s.os:=os;exact⟨v,H',I.call (h':=c) (g':=g) (d':=d) (t':=t) (ch:=[]) un hok bare (λb z=>absurd z (by simp)),r,q⟩
end
def mj(sp:Sp)(dvs:List V)(E:XK)(t:TA):TE:=λσ H Q=>t σ H λvs H1=>sp (vs++dvs) H1 Q E
def gF(C:Vb)(m:Vn)(sp:Sp)(dvs:List V)(E:XK)(ta:TE)(t:TA):TE:=λσ H Q=>ta σ H λx H1=>∃a dx fs,x=.ref a/\H1 a=Vo (.ins C dx fs)/\fs.lookup m=Vp ∧
 t σ H1 λvs H2=>sp (x::(vs++dvs)) H2 Q E
def jR(C:Vb)(sp:Sp)(dvs:List V)(E:XK)(t:TA):TE:=λσ H Q=>t σ H λvs H1=>∀x dx,H1 x=Vp->H1 dx=Vp->dx≠x ->
 sp (.ref x::(vs++dvs)) (upd (upd H1 dx (.own x)) x (.ins C dx [])) (λv H2=>v=.non/\Q (.ref x) H2) E
def Binds(K:zk)(fd:Vm)(ps:List Vn)(ds:List Va):Prop:=
 ∀(s:Vc) (us:List Va),K.In s.heap->(us++ds).length=ps.length->BindsTo s fd ⟨us,[]⟩ (ps.zip (us++ds))
def Binds.all{K:zk}{fd:Vm}{ps:List Vn}(h:∀us:List Va,us.length=ps.length->bindArgs fd ⟨us,[]⟩=pure (ps.zip us)):Binds K fd ps []:=λs us _ hl=>by rw[List.append_nil]at hl ⊢;exact .of_eq (h us hl)
def Passes(CX:cO)(X:Cx)(E:XK):Prop:=∀(pins:List (Vb×Obj)) (σ:St) (H:Hp) (s:Vc) (e:Va) (s':Vc),Inv X pins σ H s->CX X.stack H s E e s'->X.xe e s'
section
variable {X:Cx} {CX:cO} {k:Nat} {f C:Vb} {fd:Vm} {ps:List Vn} {sp:Sp} {dvs:List V} {ds:List Va} {E:XK} {x m:Vn} {p pos apos:Pos} {e o:Vk} {es:List Vk} {ta:TE} {t:TA}
def il{σ:St}{Q:VK}{vs:List V}(F:FnOk X.prog X.w X.K X.mg X.base CX k f fd ps sp)(hr:Room k X.A)(c:Binds X.K fd ps ds)(hd:Vals dvs ds)(d:Passes CX X E)
  (I:Inv X pins σ H s) (r:Vals vs us) (h:sp (vs++dvs) H Q E):Vf (Vg X.prog X.w) X.A (call (.ref f) us) (EP X pins σ Q) X.xe s:=by
 have b:Vals (vs++dvs) (us++ds):=r.append hd;have hl:(us++ds).length=ps.length:=by rw[<-b.length];exact F.len _ _ _ _ h
 refine wpAny_call (codeAny_mono (F.run X.A X.stack s H ⟨us,[]⟩ (us++ds) (vs++dvs) Q E hr I.env0 (c s us I.kIn hl) b h) λr s' a=>?_);cases r with
 | error e=>exact d pins σ H s e s' I a
 | ok g=>
  cases g with
  | ret u=>exact I.after a
  | next=>exact False.elim a
  | brk=>exact False.elim a
  | cont=>exact False.elim a
def tK(F:FnOk X.prog X.w X.K X.mg X.base CX k f fd ps sp)(hr:Room k X.A)(d:Gl X x)(g:X.mg x=Vo (.ref f))(i:PySem.W.keepIn X.K (.ref f)=true)(j:Binds X.K fd ps ds)(hd:Vals dvs ds)(n:Passes CX X E)
  (o:PA X (e::es) t) (a:(x == ("__debug__":Vn))=false:=by decide) (u:starEach (e::es) X.env=(false,eval e X.env)::starEach es X.env:=by rfl) (b:(backTo pos (starEach es X.env)).any (·.1)=false:=by rfl) :
  PE X (.Call (.Name x p) (e::es) [] pos) (mj sp dvs E t):=by
 intro pins s σ H Q I h;refine wpAny_Call_Name_kw (eL I d g ?_ a);refine PySem.W.callWith_K (h₀:=X.base) I.ok.mod.kin i (ai (o pos pins s σ H _ I h) λus s1 ⟨vs,H1,c,r,q⟩=>⟨c.kIn,?_⟩) u b;exact il F hr j hd n c r q
def ya{pl:Sem Bool}(p:PE X o ta)(c:Cls X.K C)(g:Meth X.K C m f)(F:FnOk X.prog X.w X.K X.mg X.base CX k f fd ps sp)(hr:Room k X.A)(v:Binds X.K fd ps ds)(hd:Vals dvs ds)(y:Passes CX X E)(z:PA X (e::es) t)
  (b:starEach (e::es) X.env=(false,eval e X.env)::starEach es X.env:=by rfl) (d:(backTo pos (starEach es X.env)).any (·.1)=false:=by rfl)
  (B:eval (.Call (.Attribute o m apos) (e::es) [] pos) X.env=(do
   let i <-eval o X.env
   standAt apos.atName
   let (f,first) <-holding [i] (getMethod i m pl)
   callWith pos f first (backTo pos (starEach (e::es) X.env)) (backToKw pos (keywordEach [] X.env))):=by rfl) :
  PE X (.Call (.Attribute o m apos) (e::es) [] pos) (gF C m sp dvs E ta t):=by
 intro pins s σ H Q I h;refine PySem.W.methodCall_KW (pl:=pl) (ai (p pins s σ H _ I h) λu s1 ⟨x,H1,j,G,a,dx,fs,ex,J,l,q⟩=>?_) B;subst ex;obtain rfl:u=Value.ref a:=G;refine iN j J c g l ?_;refine PySem.W.callWith_K (first:=[.ref a]) (h₀:=X.base) I.ok.mod.kin g.kp (ai (z pos pins s1 σ H1 _ j q) λus s2 ⟨vs,H2,n,r,L⟩=>⟨n.kIn,?_⟩) b d;exact il (us:=.ref a::us) (vs:=.ref a::vs) F hr v hd y n (.cons rfl r) L
def uT{pl:Sem Bool}(i:PE X o ta)(c:Cls X.K C)(d:Meth X.K C m f)(F:FnOk X.prog X.w X.K X.mg X.base CX k f fd ps sp)(hr:Room k X.A)(j:Binds X.K fd ps ds)(hd:Vals dvs ds)(n:Passes CX X E)
  (p:eval (.Call (.Attribute o m apos) [] [] pos) X.env=(do
   let g <-eval o X.env
   standAt apos.atName
   let (f,first) <-holding [g] (getMethod g m pl)
   callWith pos f first (backTo pos (starEach [] X.env)) (backToKw pos (keywordEach [] X.env))):=by rfl) :
  PE X (.Call (.Attribute o m apos) [] [] pos) (gF C m sp dvs E ta eP):=by
 intro pins s σ H Q I h;refine PySem.W.methodCall_KW (pl:=pl) (ai (i pins s σ H _ I h) λu s1 ⟨x,H1,b,r,a,dx,fs,ex,t,l,q⟩=>?_) p;subst ex;obtain rfl:u=Value.ref a:=r;refine iN b t c d l ?_;exact PySem.W.callWith_K0 (first:=[.ref a]) b.kIn d.kp (il (us:=[.ref a]) (vs:=[.ref a]) F hr j hd n b (.cons rfl .nil) q)
structure Mk(K:zk)(C f:Vb):Prop where
 makes:PySem.W.makesIn K C=true
 init:PySem.W.findIn K (.ref C) "__init__" = Vo (Vo (.ref f))
 fn:PySem.W.isFn K (.ref f)=true
 kp:PySem.W.keepIn K (.ref C)=true
def vQ{σ:St}{Q:VK}{vs:List V}(M:Mk X.K C f)(F:FnOk X.prog X.w X.K X.mg X.base CX k f fd ps sp)(hr:Room (k+1) X.A)(g:Binds X.K fd ps ds)(hd:Vals dvs ds)
  (i:Passes CX X E) (I:Inv X pins σ H s) (r:Vals vs us)
  (h:∀x dx,H x=Vp->H dx=Vp->dx≠x->sp (.ref x::(vs++dvs)) (upd (upd H dx (.own x)) x (.ins C dx [])) (λv H2=>v=.non/\Q (.ref x) H2) E) :
  Vf (Vg X.prog X.w) X.A (call (.ref C) us) (EP X pins σ Q) X.xe s:=by
 have c:=h (s.heap.objs.size+1) s.heap.objs.size (I.hok.fresh (Nat.le_succ _)) (I.hok.fresh (zJ _)) (zI (Nat.lt_succ_self _));have b:=Inv.made (C:=C) I;have d:Vals (V.ref (s.heap.objs.size+1)::(vs++dvs)) (Value.ref (s.heap.objs.size+1)::(us++ds)):=.cons rfl (r.append hd);have hl:(Value.ref (s.heap.objs.size+1)::us++ds).length=ps.length:=by have e:=d.length;rw[F.len _ _ _ _ c]at e;exact e.symm
 refine wpAny_call (xu (f:=f) I.kIn M.makes M.init (beq_iff_eq.mp M.fn) (codeAny_mono (F.run _ X.stack _ _ ⟨Value.ref (s.heap.objs.size+1)::us,[]⟩ (Value.ref (s.heap.objs.size+1)::(us++ds)) _ _ E (hr.make C us [])
  (b.env0.make C us []) (g _ (Value.ref (s.heap.objs.size+1)::us) b.kIn hl) d c) λr s' a=>?_))
 cases r with
 | error e=>exact i pins σ _ _ e s' b a
 | ok j=>
  cases j with
  | ret u=>
   obtain⟨v,H',n,o,ev,p⟩:=b.after a;subst ev;exact⟨o,⟨V.ref (s.heap.objs.size+1),H',n,rfl,p⟩⟩
  | next=>exact False.elim a
  | brk=>exact False.elim a
  | cont=>exact False.elim a
def xa(M:Mk X.K C f)(F:FnOk X.prog X.w X.K X.mg X.base CX k f fd ps sp)(hr:Room (k+1) X.A)(b:Gl X x)(c:X.mg x=Vo (.ref C))(d:Binds X.K fd ps ds)(hd:Vals dvs ds)(g:Passes CX X E)
  (a:(x == ("__debug__":Vn))=false:=by decide):PE X (.Call (.Name x p) [] [] pos) (jR C sp dvs E eP):=by
 intro pins s σ H Q I h;refine wpAny_Call_Name_kw (eL I b c ?_ a);exact PySem.W.callWith_K0 I.kIn M.kp (vQ (us:=[]) M F hr d hd g I .nil h)
end
structure FnScope(N P:List Vn)(sc:Scope):Prop where
 kind:sc.kind=.function
 co:sc.isCoroutine=false
 gen:sc.isGenerator=false
 nd:N.Nodup
 pre:N.take P.length=P
 par:∀x∈P,sc.names.lookup x=Vo .local\/sc.names.lookup x=Vo .cell
 nofree:∀y∈sc.names,y.2≠.free
theorem oG{kindOf:Vn->Option NameKind}{x:Vn}:∀{binds:List (Vn×Va)} {m:Vn->Option Va},(∀v,(x,v)∉binds)->bindL kindOf binds m x=m x
 | [],_,_=>rfl
 | (n,v)::r,m,h=>by
  unfold bindL;rw[oG λw a=>h w (zt _ a)];split
  .have:x≠n:=by rintro rfl;exact h v zw
   simp[this]
  .rfl
theorem p6{kindOf:Vn->Option NameKind}{x:Vn}:∀{binds:List (Vn×Va)} {m:Vn->Option Va},(∀v,(x,v)∉binds)->bindC kindOf binds m x=m x
 | [],_,_=>rfl
 | (n,v)::r,m,h=>by
  unfold bindC;rw[p6 λw a=>h w (zt _ a)];split
  .rfl
  .have:x≠n:=by rintro rfl;exact h v zw
   simp[this]
theorem qV{kindOf:Vn->Option NameKind}{x:Vn}{v:Va}:∀{P:List Vn} {vs:List Va} {i:Nat} {m:Vn->Option Va},P.Nodup->P[i]?=Vo x->vs[i]?=Vo v->kindOf x=Vo .local ->
  bindL kindOf (P.zip vs) m x=Vo v
 | [],_,_,_,_,h,_,_=>by simp at h
 | _::_,[],_,_,_,_,h,_=>by simp at h
 | p::P,w::vs,0,m,nd,h1,h2,a=>by simp at h1 h2;subst h1;subst h2;show bindL kindOf ((p,w)::P.zip vs) m p=_;unfold bindL;rw[oG λv hv=>(List.nodup_cons.mp nd).1 (List.of_mem_zip hv).1,Am a];simp
 | p::P,w::vs,i+1,m,nd,h1,h2,a=>by show bindL kindOf ((p,w)::P.zip vs) m x=_;unfold bindL;exact qV (i:=i) (List.nodup_cons.mp nd).2 (by simpa using h1) (by simpa using h2) a
theorem q5{kindOf:Vn->Option NameKind}{x:Vn}{v:Va}:∀{P:List Vn} {vs:List Va} {i:Nat} {m:Vn->Option Va},P.Nodup->P[i]?=Vo x->vs[i]?=Vo v->kindOf x≠Vo .local ->
  bindC kindOf (P.zip vs) m x=Vo v
 | [],_,_,_,_,h,_,_=>by simp at h
 | _::_,[],_,_,_,_,h,_=>by simp at h
 | p::P,w::vs,0,m,nd,h1,h2,a=>by simp at h1 h2;subst h1;subst h2;show bindC kindOf ((p,w)::P.zip vs) m p=_;unfold bindC;rw[p6 λv hv=>(List.nodup_cons.mp nd).1 (List.of_mem_zip hv).1,Al a];simp
 | p::P,w::vs,i+1,m,nd,h1,h2,a=>by show bindC kindOf ((p,w)::P.zip vs) m x=_;unfold bindC;exact q5 (i:=i) (List.nodup_cons.mp nd).2 (by simpa using h1) (by simpa using h2) a
def start(N:List Vn)(vs:List V):St:=vs.map Vo++Ac (N.length-vs.length) Vp
def aJ(CX:cO)(P:Vd)(w:Ve)(K:zk)(mg:Vn->Option Va)(base:Vh)(N:List Vn)(qual:Vn)(scope:Scope)(f:Vb)(cd:Va)(A:Vi)(outer:List Env)(s:Vc)(H:Hp)(E:XK):Cx where
 prog:=P
 w:=w
 K:=K
 mg:=mg
 base:=base
 A:=A.deeper (envOfC qual scope s.heap.objs.size f cd)
 N:=N
 s₀:=s
 H₀:=H
 env:=envOfC qual scope s.heap.objs.size f cd
 outer:=outer
 stack:=envOfC qual scope s.heap.objs.size f cd::outer
 ex:=[]
 calm:=true
 fn:=λ_=>true
 pn:=[]
 xe:=λe s'=>Vf (Vg P w) (A.deeper (envOfC qual scope s.heap.objs.size f cd)) (leaving (envOfC qual scope s.heap.objs.size f cd) e) (λ_ a=>CX outer H s E e a) (λb a=>CX outer H s E b a) s'
def qB{sc:Scope}{x:Vn}(h:sc.names.lookup x=Vo .cell):∃c,(cellsFrom n sc.names []).lookup x=Vo c:=by have q:=PySem.W.cellsFrom_some sc.names n [] (.inl h);exact Option.isSome_iff_exists.mp q
def uJ{CX:cO}{K:zk}{N ps:List Vn}{qual:Vn}{scope:Scope}{f:Vb}{cd:Va}{outer:List Env}{s1:Vc}{E:XK}{vs:List V}
  (S:FnScope N ps scope) (hd:A.handled=Vp) (d:Env0 P w K mg base A outer s H) (hl:vs.length=ps.length) (r:Vals vs us)
  (x:InCallC s s.heap.objs.size (bindL (envOfC qual scope s.heap.objs.size f cd).kindOf (ps.zip us) λ_=>Vp) (cellsFrom (s.heap.objs.size+1) scope.names []) (bindC (envOfC qual scope s.heap.objs.size f cd).kindOf (ps.zip us) λ_=>Vp) s1) :
  Inv (aJ CX P w K mg base N qual scope f cd A outer s H E) [] (start N vs) H s1:=by
 have C:ps.length<=N.length:=by have:=congrArg List.length S.pre;rw[Af]at this;omega
 obtain⟨h1,tk,rfl,t⟩:=x.done;have noA:∀b:Vb,b∉(aJ CX P w K mg base N qual scope f cd A outer s H E).ex:=λb z=>absurd (show b∈([]:List Vb)from z) (by simp);refine⟨⟨d.mod,S.kind,rfl,rfl,zJ _,λy z c h1 h2=>?_,λy g=>?_,λy c _ h=>?_,λ_=>hd,Around.frames_deeper d.frames,.inr ⟨rfl,rfl⟩,λb z=>absurd z (noA b),d.bs,d.bsz,λb _ _=>noA b,λb z=>absurd z (noA b),d.funs,d.frf⟩,
  rfl,d.bare,Un.kept t,⟨_,x.toInCall.ns,λi y v h1 h2 I=>?_⟩,λy c h=>⟨_,x.cell y c h⟩,d.hok.fresh (zJ _),λy c h=>?_,λp j=>absurd (show p∈([]:List (Vb×Obj))from j) (by simp),d.hok.kept t,?_⟩
 .exact name_of_addr x.apart (PySem.mem_of_lookup h1) (PySem.mem_of_lookup h2)
 .have g:scope.names.lookup y=Vo .cell\/scope.names.lookup y=Vo .free:=g;rcases g with g|g
  .exact qB g
  .exact absurd rfl (S.nofree _ (PySem.mem_of_lookup g))
 .exact Nat.le_of_lt (x.above y c (PySem.mem_of_lookup h))
 .have hi:i<vs.length:=by
   unfold start at h2;by_cases hi:i<vs.length
   .exact hi
   .rw[zN (by simpa using hi)]at h2;rw[List.getElem?_replicate]at h2;split at h2<;>cases h2
  have F:vs[i]?=Vo v:=by
   unfold start at h2;rw[zO (by simpa using hi),zr]at h2;cases e:vs[i]? with
   | none=>rw[e]at h2;cases h2
   | some a=>rw[e]at h2;cases h2;rfl
  obtain⟨u,B,G⟩:=r.get F;have j:ps[i]?=some y:=by rw[<-S.pre,List.getElem?_take_of_lt (by omega)];exact h1
  have o:ps.Nodup:=by rw[<-S.pre];exact S.nd.sublist (List.take_sublist _ _)
  refine⟨u,G,?_⟩;rcases S.par y (zA j)with k|k
  .exact .inl ⟨k,qV o j B k⟩
  .obtain⟨c,e⟩:=qB (n:=s.heap.objs.size+1) k;refine .inr ⟨.inl k,c,e,?_⟩;have q:=x.cell y c e;rw[q5 o j B (by show scope.names.lookup y≠_;rw[k];decide)]at q;exact q
 .exact d.hok.fresh (Nat.le_of_lt (x.above y c (PySem.mem_of_lookup h)))
 .unfold start;show _=N.length;rw[zH,zp,List.length_replicate];omega
def mz{CX:cO}{K:zk}{k:Nat}{f:Vb}{name qual:Vn}{params:Arguments}{scope:Scope}{p kV doc pm cdv ct oc:Va}{an od:Option Vb}
  {osl:Array (Option Va)} {N ps:List Vn} {sp:Sp} (lk:K.lookup f=Vo ⟨oc,od,.func (PySem.W.fnOf name qual params body scope p kV doc pm an cdv ct),osl⟩) (i:PySem.W.codeIn K cdv qual=true) (S:FnScope N ps scope)
  (len:∀vs H Q E,sp vs H Q E->vs.length=ps.length)
  (c:∀(A:Vi) (outer:List Env) (s:Vc) (H:Hp) (vs:List V) (Q:VK) (E:XK),Room k (A.deeper (envOfC qual scope s.heap.objs.size f cdv))->sp vs H Q E ->
   ∃t,bI (aJ CX P w K mg base N qual scope f cdv A outer s H E) body t/\t { nx:=λ_ H'=>Q .non H',rt:=Q } (start N vs) H) :
  FnOk P w K mg base CX (k+1) f (PySem.W.fnOf name qual params body scope p kV doc pm an cdv ct) ps sp:=by
 refine⟨len,λA outer s H args us vs Q E hr h B r hsp=>?_⟩;have hl:=len _ _ _ _ hsp;have z:K.In s.heap:=h.mod.kin.keeps λb o e=>(h.bs b o e).1;have lim:s.heap.NoLimit:=h.mod.nolimit.keeps λb o e=>(h.bs b o e).1;have d:∀y∈ps.zip us,scope.names.lookup y.1=Vo .local\/(scope.names.lookup y.1=Vo .cell/\((cellsFrom (s.heap.objs.size+1) scope.names []).lookup y.1).isSome=true):=λ⟨n,v⟩ C=>by
  rcases S.par n (List.of_mem_zip C).1 with q|q
  .exact .inl q
  .exact .inr ⟨q,PySem.W.cellsFrom_some _ _ _ (.inl q)⟩
 refine codeAny_call_function hr.depth (z _ _ lk) rfl S.co S.gen rfl (PySem.W.codeRec_of z i) (B _ _ _ _ ?_);refine wpAny_newFunctionEnv_cells S.kind d λenv F s1 x=>?_;subst F;refine⟨lim.keeps x.toInCall.keep,codeAny_func ?_⟩;obtain⟨t,G,L⟩:=c A outer s H vs Q E (hr.deeper _) hsp;have I:Inv (aJ CX P w K mg base N qual scope f cdv A outer s H E) [] (start N vs) H s1:=uJ S hr.hd h hl r x;refine wpAny_mono (G [] s1 (start N vs) H _ I L) (λM s' g=>?_) λe s' g=>g;have fin:∀{a:St} {H':Hp} {v:V} {u:Va},Inv (aJ CX P w K mg base N qual scope f cdv A outer s H E) [] a H' s'->RelV v u->Q v H'->CE outer P w H s Q u s':=
  λ{a H' v u} J j q=>⟨v,H',J.os,J.bare,J.base,J.hok,j,q⟩
 cases M with
 | ret u=>
  obtain⟨v,a,H',J,j,q⟩:=g;exact fin J j q
 | next=>
  obtain⟨a,H',J,q⟩:=g;exact fin (v:=V.non) (u:=Value.none) J rfl q
 | brk=>
  obtain⟨_,_,_,q⟩:=g;exact False.elim q
 | cont=>
  obtain⟨_,_,_,q⟩:=g;exact False.elim q
section
variable {X:Cx} {x:Vn} {p pos:Pos} {e:Vk} {es:List Vk} {t:TA} {id T:String} {r:List V->Hp->VK->Prop}
def lG(r:List V->Hp->VK->Prop)(t:TA):TE:=λσ H Q=>t σ H λvs H1=>r vs H1 Q
def aP(c:bD X (.builtin id) r)(d:Gl X x)(f:X.mg x=Vp)(hv:bootBuiltins x=Vo (.builtin id))(g:PA X (e::es) t)(i:x≠"__name__":=by decide)(a:(x == ("__debug__":Vn))=false:=by decide)
  (j:starEach (e::es) X.env=(false,eval e X.env)::starEach es X.env:=by rfl) (b:(backTo pos (starEach es X.env)).any (·.1)=false:=by rfl):PE X (.Call (.Name x p) (e::es) [] pos) (lG r t):=by
 intro pins s σ H Q I h;refine wpAny_Call_Name_kw (fK I d f hv ?_ i a);exact PyProof.Rows.callWith_builtin1 (ai (g pos pins s σ H _ I h) λus s1 ⟨vs,H1,k,r1,n⟩=>c pins s1 σ H1 vs us Q k r1 n) j b
def bt(c:bD X (.type T) r)(d:Gl X x)(f:X.mg x=Vp)(hv:bootBuiltins x=Vo (.type T))(g:PA X (e::es) t)(i:x≠"__name__":=by decide)(a:(x == ("__debug__":Vn))=false:=by decide)
  (j:starEach (e::es) X.env=(false,eval e X.env)::starEach es X.env:=by rfl) (b:(backTo pos (starEach es X.env)).any (·.1)=false:=by rfl):PE X (.Call (.Name x p) (e::es) [] pos) (lG r t):=by
 intro pins s σ H Q I h;refine wpAny_Call_Name_kw (fK I d f hv ?_ i a);exact PyProof.Rows.callWith_type1 (ai (g pos pins s σ H _ I h) λus s1 ⟨vs,H1,k,r1,n⟩=>c pins s1 σ H1 vs us Q k r1 n) j b
end
end L2
variable {t:SetTable}{xs:List L2.V}{n t' ep:Nat}{v y:L2.V}{pins:List (Vb×Obj)}{σ:L2.St}{H H':L2.Hp}{s:Vc}{p:Vn×NameKind}{ys items:Array Va}{a c C i1 i2 L:Vb}{A:Vi}{u cls a0:Va}{T:String}{h B h1 h' base:Vh}{P prog:Vd}{w:Ve}{mg:Vn->Option Va}{fd:Vm}{sp:L2.Sp}{X Y:L2.Cx}{qual:Vn}{st:Vl}{f:List Nat}{N ps own:List Vn}{env:Env}{sc out:Scope}{elt iter tg:Vk}{ifs elts:List Vk}{fp:List Vb}{o:Obj}{tn:Nat->Vh->Prop}{g:L2.TG}{tc:L2.TT}{E:Va->Vc->Prop}{tl to:L2.TE}{apos cpos:Pos}{r:L2.V->List L2.V->L2.Hp->L2.VK->Prop}{R:L2.It->L2.Hp->Prop}{tb:L2.TS}{neg:Bool}{kvs:List (Key×L2.V)}{outer:List Env}{M:Model}
namespace HT
open PySem PyProof.Rows
section
open PySem.SeqAt
open PySem.AutoSeq1 (wpAny_loadPart')
open PySem.MeetsSeq PySem.MeetsSeq2 PySem.MeetsSeq3
end
section
variable {prog:Vd} {w:Ve} {A:Vi} {E:Va->Vc->Prop} {s:Vc}
def wJ{t b:Vb}{vs ws:List Va}{Q:Va->Vc->Prop}(p:IsTup s.heap t vs.toArray)(q:IsTup s.heap b ws.toArray)(hv:vs≠[])
  (h1:ws=[]->Q (.ref t) s) (h2:ws≠[]->Q (.ref s.heap.objs.size) { s with heap:=s.heap.push { cls:=.type "tuple",data:=.seq (vs++ws).toArray } })
  (j:vs.length+ws.length<=sizeLine):Vf (Vg prog w) A (binaryOp .Add (.ref t) (.ref b)) Q E s:=by
 obtain⟨⟨cls,dd,data,sl⟩,h,k,n,hd⟩:=id p;obtain⟨⟨o,c,data2,d⟩,a,f,n2,g⟩:=id q;simp only at k hd f g;subst k hd f g;have e:vs.toArray++ws.toArray=(vs++ws).toArray:=by simp
 by_cases i:ws=[]
 .exact concat_meets ⟨_,h,rfl⟩ ⟨_,a,rfl⟩ noFill_tuple_add seq_tuple_add PySem.F.slot_tuple_add PySem.F.entry_tuple_add (PySem.F.args_tuple_add_2 _ _)
   (tuple_addW1 t b vs.toArray ws.toArray n n2 dd c sl d (by simpa using hv) (by simp[i])) ⟨h,a,h1 i⟩
 .refine concat_meets ⟨_,h,rfl⟩ ⟨_,a,rfl⟩ noFill_tuple_add seq_tuple_add PySem.F.slot_tuple_add PySem.F.entry_tuple_add (PySem.F.args_tuple_add_2 _ _)
   (tuple_addW2 t b vs.toArray ws.toArray n n2 dd c sl d (by simpa using hv) (by simpa using i) (by rw[zv,zv];exact j)) ⟨h,a,?_⟩
  rw[e];exact h2 i
def bS(n d:Nat):Option Int->Nat
 | none=>d
 | some v=>if v<0 then(v+(n:Int)).toNat else min v.toNat n
def ub(n d:Nat):bS n d Vp=d:=rfl
def xo(n d k:Nat):bS n d (Vo (k:Int))=min k n:=by show(if(k:Int)<0 then((k:Int)+(n:Int)).toNat else min (k:Int).toNat n)=min k n;rw[Al (by omega),zD]
end
end HT
namespace L2
open PySem PySem.Spec PyProof.Rows
abbrev TO:=St->Hp->(Option Int->Hp->Prop)->Prop
def PO(X:Cx)(e:Option Vk)(t:TO):Prop:=
 ∀(pins:List (Vb×Obj)) (s:Vc) (σ:St) (H:Hp) (Q:Option Int->Hp->Prop),Inv X pins σ H s->t σ H Q ->
  Vf (Vg X.prog X.w) X.A (evalPart e X.env) (λu s'=>∃o H',Inv X pins σ H' s'/\IsPart u o/\Q o H') X.xe s
def pX:TO:=λ_ H Q=>Q Vp H
def qR(t:TE):TO:=λσ H Q=>t σ H λx H1=>∃i,x=.int i/\Q (Vo i) H1
section
variable {X:Cx} {e:Vk} {te:TE} {lo hi:Option Vk} {tl th:TO} {pos p2:Pos}
def m7:PO X Vp pX:=by intro pins s σ H Q I h;rw[evalPart_none];exact zj ⟨Vp,H,I,.none,h⟩
def rT(h:PE X e te):PO X (Vo e) (qR te):=by intro pins s σ H Q I a;rw[evalPart_some];refine ai (h pins s σ H _ I a) λu s1 ⟨x,H1,b,r1,c⟩=>?_;obtain⟨i,rfl,q⟩:=c;obtain⟨t,rfl⟩:=r1;exact⟨Vo i,H1,b,.int i t,q⟩
def jC(X:Cx)(r:V->Option Int->Option Int->Hp->VK->Prop):Prop:=
 ∀(pins:List (Vb×Obj)) (s:Vc) (σ:St) (H:Hp) (x:V) (v a b:Va) (lo hi:Option Int) (sl:Vb) (Q:VK),Inv X pins σ H s->RelV x v->s.heap.IsSliceOf sl a b .none->IsPart a lo->IsPart b hi->r x lo hi H Q ->
  ∃T id,typeLookup (.type T) "__getitem__" = pure (Vo (.builtin id))/\s.TypeIs v T/\Vf (Vg X.prog X.w) X.A (getItem v (.ref sl)) (EP X pins σ Q) X.xe s
def oa(r:V->Option Int->Option Int->Hp->VK->Prop)(te:TE)(tl th:TO):TE:=λσ H Q=>te σ H λx H1=>tl σ H1 λl H2=>th σ H2 λu a=>r x l u a Q
def o4{r:V->Option Int->Option Int->Hp->VK->Prop}(hr:jC X r)(g:PE X e te)(hl:PO X lo tl)(i:PO X hi th):PE X (.Subscript e (.Slice lo hi Vp p2) pos) (oa r te tl th):=by intro pins s σ H Q I h;refine Subscript_ (ai (g pins s σ H _ I h) λv s1 ⟨x,H1,j,r1,k⟩=>?_);refine wpAny_Slice (ai (hl pins s1 σ H1 _ j k) λc s2 ⟨l,H2,n,pl,o⟩=>ai (i pins s2 σ H2 _ n o) λd a ⟨u,f,p,pu,t⟩=>?_);rw[evalPart_none];refine zj ?_;have y:Inv X pins σ f { a with heap:=a.heap.push { cls:=.type "slice",data:=.fields #[c,d,.none] } }:=p.kept (t':=a.toks) λb ob q=>zl _ q;obtain⟨T,id,z,B,C⟩:=hr pins { a with heap:=a.heap.push { cls:=.type "slice",data:=.fields #[c,d,.none] } } σ f x v c d l u a.heap.objs.size Q y r1 (Heap.IsSliceOf.new ..) pl pu t;show Vf (Vg X.prog X.w) X.A (subscriptTail e (.Slice lo hi Vp p2) v (.ref a.heap.objs.size)) (EP X pins σ Q) X.xe { a with heap:=a.heap.push { cls:=.type "slice",data:=.fields #[c,d,.none] } };exact tail_any (ops:=[.ref a.heap.objs.size,v]) B z C (by with_unfolding_all rfl)
def dP(xs:List V)(lo hi:Option Int):List V:=(xs.drop (HT.bS xs.length 0 lo)).take (HT.bS xs.length xs.length hi-HT.bS xs.length 0 lo)
def yG(xs:List V)(lo hi:Option Int):(dP xs lo hi).length<=xs.length:=by unfold dP;rw[Af,List.length_drop];omega
def wD(K:zk):R2:=λx y H Q=>∃a b xs ys,x=.ref a/\y=.ref b/\ah K H a xs/\ah K H b ys/\xs≠[]/\xs.length+ys.length<=sizeLine ∧
 (ys=[]->Q (.ref a) H)/\(ys≠[]->∀p,H p=Vp->Q (.ref p) (upd H p (.tup (xs++ys))))
def Vals.nil_iff{us:List Va}(r:Vals xs us):us=[]↔xs=[]:=by
 cases r with
 | nil=>simp
 | cons _ _=>simp
def yi:aV X (binaryOp .Add) (wD X.K):=by intro pins s σ H x y v u Q I g i h;obtain⟨a,b,xs,ys,rfl,rfl,j,k,n,d,p,r⟩:=h;cases g;cases i;obtain⟨t,r1,A,_⟩:=I.tuple j;obtain⟨f,c,p2,_⟩:=I.tuple k;refine HT.wJ A p2 (λz=>n (r1.nil_iff.mp z)) (λz=>⟨.ref a,H,I,rfl,p (c.nil_iff.mp z)⟩) (λz=>?_) (by rw[<-r1.length,<-c.length];exact d);refine⟨.ref s.heap.objs.size,_,I.laid (t':=s.toks) (o:=.tup (xs++ys)) (λb ob q=>zl _ q) (zJ _) ?_,rfl,r (λw=>z (c.nil_iff.mpr w)) _ (I.hok.fresh (zJ _))⟩;exact⟨by rw[zH];exact d,_,r1.append c,IsTup.new _ _⟩
end
def di(n:Nat)(i:Int):Option Nat:=if 0<=i then(if i<n then Vo i.toNat else Vp)else if -(n:Int)<=i then Vo (i+n).toNat else Vp
def cn{α:Type}(xs:List α)(i:Int):Option α:=(di xs.length i).bind λj=>xs[j]?
def oQ{i:Int}{j:Nat}(h:di n i=Vo j):seqIndex? i n=Vo j/\j<n/\-(n:Int)<=i/\i<n:=by
 unfold di at h;by_cases a:0<=i
 .rw[Am a]at h;by_cases h1:i<n
  .rw[Am h1]at h;have e:i.toNat=j:=zZ h;exact⟨by rw[seqIndex_of a h1,e],by omega,by omega,h1⟩
  .rw[Al h1]at h;cases h
 .rw[Al a]at h;by_cases h1:-(n:Int)<=i
  .rw[Am h1]at h;have e:(i+n).toNat=j:=zZ h;exact⟨by rw[seqIndex_neg (by omega) h1,e],by omega,h1,by omega⟩
  .rw[Al h1]at h;cases h
def kY{α:Type}{xs:List α}{i:Int}{v:α}(h:cn xs i=Vo v):∃j,seqIndex? i xs.length=Vo j/\xs[j]?=Vo v/\j<xs.length/\-(xs.length:Int)<=i/\i<xs.length:=by
 unfold cn at h;cases e:di xs.length i with
 | none=>rw[e]at h;cases h
 | some j=>
  rw[e]at h;obtain⟨h1,h2,a,b⟩:=oQ e;exact⟨j,h1,h,h2,a,b⟩
def bf{α:Type}{xs:List α}{j:Nat}{v:α}(h:xs[j]?=Vo v):cn xs (j:Int)=Vo v:=by
 have a:j<xs.length:=(zy.mp h).1;have e:di xs.length (j:Int)=Vo j:=by unfold di;rw[Am (by omega),Am (by omega)];simp
 unfold cn;rw[e];exact h
def vS(b:Vk):Prop:=∀o i,subscripted b false o i=operate [o,i] (getItem o i)
def fT(X:Cx)(r:R2):Prop:=
 ∀(value slice:Vk) (pins:List (Vb×Obj)) (s:Vc) (σ:St) (H:Hp) (x y:V) (v u:Va) (Q:VK),Inv X pins σ H s->RelV x v->RelV y u->r x y H Q ->
  subscripted slice false v u=operate [v,u] (getItem v u)->Vf (Vg X.prog X.w) X.A (subscriptTail value slice v u) (EP X pins σ Q) X.xe s
def fH(X:Cx)(id:String)(r:V->List V->Hp->VK->Prop):Prop:=
 ∀(pins:List (Vb×Obj)) (s:Vc) (σ:St) (H:Hp) (x:V) (xs:List V) (v:Va) (us:List Va) (Q:VK),Inv X pins σ H s->RelV x v->Vals xs us->r x xs H Q ->
  Vf (Vg X.prog X.w) X.A (call (.builtin id) (v::us)) (EP X pins σ Q) X.xe s
section
variable {X:Cx} {a b:Vk} {ta tb:TE} {pos:Pos}
def aj{r:R2}(hr:fT X r)(c:PE X a ta)(d:PE X b tb)(f:vS b):PE X (.Subscript a b pos) (gZ r ta tb):=by intro pins s σ H Q I h;exact Subscript_ (mh c d I h λv u s2 x y H2 g i j q=>hr a b pins s2 σ H2 x y v u Q g i j q (f _ _))
def lC(K:zk):R2:=λx y H Q=>∃p xs i v,x=.ref p/\y=.int i/\ag K H p xs/\cn xs i=Vo v/\Q v H
def jO(K:zk):R2:=λx y H Q=>∃p xs i v,x=.ref p/\y=.int i/\ah K H p xs/\cn xs i=Vo v/\Q v H
def xw:R2:=λx y H Q=>∃z i c,x=.str z/\y=.int i/\z.length<=sizeLine/\cn z.cps.toList i=Vo c/\Q (.str ⟨#[c]⟩) H
def tV:fT X (lC X.K):=by
 intro value slice pins s σ H x y v u Q I k n h d;obtain⟨p,xs,i,z,rfl,rfl,o,A,q⟩:=h;cases k;obtain⟨t,rfl⟩:=n;obtain⟨a,r,pl,E⟩:=I.list o;obtain⟨j,h1,h2,F,B,C⟩:=kY A;obtain⟨w,f,b⟩:=r.get h2;have hl:=r.length;have G:=eZ;have fin:EP X pins σ Q w s:=⟨z,H,I,b,q⟩;by_cases g:0<=i
 .have c:i.toNat=j:=by rw[seqIndex_of g C]at h1;exact zZ h1
  exact item_listR pl.isList g (by omega) (by rw[c];simpa using f) fin d
 .have c:(i+(a.toArray.size:Int)).toNat=j:=by rw[seqIndex_neg (by omega) B]at h1;rw[zv,<-hl];exact zZ h1
  exact subscriptTail_builtinR (x:=w) pl.isList.typeIs slot_list_getitem.lookup
   (wpAny_getItem_list_neg (Q:=λr s'=>r=w/\EP X pins σ Q r s') pl.isList (by omega) (by rw[zv]<;>omega) (by omega) (by rw[c];simpa using f) ⟨rfl,fin⟩) d
def w6:fT X (jO X.K):=by
 intro value slice pins s σ H x y v u Q I b c h d;obtain⟨p,xs,i,z,rfl,rfl,f,g,q⟩:=h;cases b;obtain⟨t,rfl⟩:=c;obtain⟨k,r,pl,o⟩:=I.tuple f;obtain⟨j,h1,h2,A,B,C⟩:=kY g;obtain⟨w,n,a⟩:=r.get h2;have hl:=r.length;have E:=eZ;have fin:EP X pins σ Q w s:=⟨z,H,I,a,q⟩;exact subscriptTail_builtinR (x:=w) pl.typeIs slot_tuple_getitem.lookup
  (getItem_tuple (j:=j) (Q:=λr s'=>r=w/\EP X pins σ Q r s') pl (by omega) (by omega) (by rw[zv,<-hl];exact h1) (by simpa using n) ⟨rfl,fin⟩) d
def pA:fT X xw:=by
 intro value slice pins s σ H x y v u Q I a b h d;obtain⟨z,i,c,rfl,rfl,p,f,q⟩:=h;obtain⟨t,rfl⟩:=a;obtain⟨r,rfl⟩:=b;obtain⟨j,h1,h2,w,g,k⟩:=kY f;have hl:z.cps.toList.length=z.length:=by simp[Str.length]
 rw[hl]at h1 g k;have A:=eZ;exact tail_any (typeIs_str s z t) slot_str_getitem.lookup (getItem_str (c:=c) (by have n:decide (i < -(2 ^ 63:Int))=false:=Aj (by omega);have o:decide (i ≥ 2 ^ 63)=false:=Aj (by omega);rw[n,o,Bool.or_false]) (by rw[h1];simpa using h2) ⟨.str ⟨#[c]⟩,H,I.tok _,⟨_,rfl⟩,q⟩) d
def ze(a:List Va)(n j:Nat)(u:Va):Obj.mapSeq (·.setIfInBounds j u) { cls:=.type "list",data:=.seq a.toArray n }={ cls:=.type "list",data:=.seq (a.set j u).toArray n }:=by simp[Obj.mapSeq]
theorem Inv.lst{pins:List (Vb×Obj)}{σ:St}{H:Hp}{s:Vc}{p:Vb}{xs:List V}(I:Inv X pins σ H s)(h:H p=Vo (.lst xs)):
  ∃(a:List Va) (n:Nat),Vals xs a/\s.heap.get? p=Vo { cls:=.type "list",data:=.seq a.toArray n }/\xs.length<=sizeLine:=by
 obtain⟨z,a,n,r,e⟩:=I.hok p _ h;exact⟨a,n,r,e,z⟩
def Inv.lstUpd{p:Vb}{ys:List V}{a its':List Va}{n c:Nat}{f:Obj->Obj}(I:Inv X pins σ H s)(h:H p=Vo (.lst xs))
  (g:s.heap.get? p=Vo { cls:=.type "list",data:=.seq a.toArray n }) (d:f { cls:=.type "list",data:=.seq a.toArray n }={ cls:=.type "list",data:=.seq its'.toArray c }) (r:Vals ys its') (i:ys.length<=sizeLine) (t:Nat) :
  Inv X pins σ (upd H p (.lst ys)) { s with heap:=s.heap.update p f,toks:=t }:=by
 have e:(s.heap.update p f).get? p=Vo { cls:=.type "list",data:=.seq its'.toArray c }:=by rw[Heap.get?_update_self f g (by rw[d]<;>rfl),d]
 refine I.write (x:=p) (e:=p) (by rw[h];trivial) (.inl rfl) (λb u j q=>(Heap.get?_update_other _ _ (Ne.symm j)).trans q) ⟨_,e⟩ ?_;exact⟨i,its',c,r,e⟩
def rf:V->V->V->Hp->(Hp->Prop)->Prop:=λo i v H Q=>∃p xs k j,o=.ref p/\i=.int k/\H p=Vo (.lst xs)/\di xs.length k=Vo j/\Q (upd H p (.lst (xs.set j v)))
def set_list:sy X rf:=by
 intro pins s σ H o i v E F u Q I y z A h;obtain⟨p,xs,k,j,rfl,rfl,d,B,q⟩:=h;cases y;obtain⟨t,rfl⟩:=z;obtain⟨a,n,r,b,C⟩:=I.lst d;obtain⟨h1,h2,f,g⟩:=oQ B;have hl:=r.length;have G:=eZ;have w:Inv X pins σ (upd H p (.lst (xs.set j v))) { s with heap:=s.heap.update p (Obj.mapSeq (·.setIfInBounds j u)) }:=
  I.lstUpd d b (ze a n j u) (r.set A j) (by rw[List.length_set];exact C) s.toks
 by_cases x:0<=k
 .have c:k.toNat=j:=by rw[seqIndex_of x g]at h1;exact zZ h1
  exact PySem.W.ki_setAt b x (by omega) (by rw[zv,<-hl];exact g) (by rw[c];exact⟨_,w,q⟩)
 .have c:(k+(a.toArray.size:Int)).toNat=j:=by rw[seqIndex_neg (by omega) f]at h1;rw[zv,<-hl];exact zZ h1
  exact PySem.W.ki_setBack b (by omega) (by rw[zv,<-hl];exact f) (by omega) (by rw[c];exact⟨_,w,q⟩)
def vD(lo hi:Option Int)(n:Nat):(sliceBounds lo hi Vp n).1=((HT.bS n 0 lo:Nat):Int)/\(sliceBounds lo hi Vp n).2.1=((HT.bS n n hi:Nat):Int)/\(sliceBounds lo hi Vp n).2.2=1:=by
 refine⟨?_,?_,rfl⟩
 .cases lo with
  | none=>simp[sliceBounds,HT.bS]
  | some i=>
   simp only[sliceBounds,HT.bS,Option.getD_none,show (1:Int)>0 by decide,if_true];by_cases h:i<0
   .simp only[h,if_true]<;>omega
   .simp only[h,if_false]<;>omega
 .cases hi with
  | none=>simp[sliceBounds,HT.bS]
  | some i=>
   simp only[sliceBounds,HT.bS,Option.getD_none,show (1:Int)>0 by decide,if_true];by_cases h:i<0
   .simp only[h,if_true]<;>omega
   .simp only[h,if_false]<;>omega
def yA(a:List Va)(lo hi:Option Int):slicePick a.toArray lo hi Vp=((a.drop (HT.bS a.length 0 lo)).take (HT.bS a.length a.length hi-HT.bS a.length 0 lo)).toArray:=by obtain⟨h1,h2,b⟩:=vD lo hi a.toArray.size;unfold slicePick;rw[h1,h2,b];simp only[sliceRange_one,pick_run,zv]<;>rfl
def lh(K:zk):V->Option Int->Option Int->Hp->VK->Prop:=λx lo hi H Q=>∃a xs,x=.ref a/\ag K H a xs/\∀p,H p=Vp->Q (.ref p) (upd H p (.lst (dP xs lo hi)))
def sM:jC X (lh X.K):=by intro pins s σ H x v k n lo hi sl Q I d f pl pu h;obtain⟨a,xs,rfl,g,q⟩:=h;cases d;obtain⟨i,r,c,j⟩:=I.list g;have hlen:=r.length;refine⟨"list",_,slot_list_getitem.lookup,c.isList.typeIs,?_⟩;refine wpAny_getItem_list_slice c.isList f pl pu .none (by simp) ?_ (by rw[zv]<;>omega);rw[yA,<-hlen];refine⟨.ref s.heap.objs.size,_,I.laid (t':=s.toks) (o:=.lst (dP xs lo hi)) (λb ob q=>zl _ q) (zJ _) ?_,rfl,q _ (I.hok.fresh (zJ _))⟩;exact⟨zT (yG xs lo hi) j,_,0,(r.drop (HT.bS xs.length 0 lo)).take (HT.bS xs.length xs.length hi-HT.bS xs.length 0 lo),zm _ rfl⟩
def de:V->Bool
 | .non=>true
 | .bl _=>true
 | .int _=>true
 | .str _=>true
 | _=>false
def dZ:V->V->Bool
 | .non,.non=>true
 | .bl a,.bl b=>a == b
 | .bl a,.int b=>(if a then 1 else 0) == b
 | .int a,.bl b=>a == (if b then 1 else 0)
 | .int a,.int b=>a == b
 | .str a,.str b=>a == b
 | _,_=>false
def tH{x:V}{v:Va}(f:RelV y u)(c:RelV x v)(h:de y=true)(g:de x=true):SeqAt.EqAt A s u v (dZ y x):=by
 cases y with
 | non=>
  cases f;cases x with
  | non=>cases c;exact SeqAt.EqAt.same _
  | bl b=>cases c;exact SeqAt.EqAt.none_bool b
  | int b=>obtain⟨t,rfl⟩:=c;exact SeqAt.EqAt.none_int b t
  | str b=>obtain⟨t,rfl⟩:=c;exact SeqAt.EqAt.none_str b t
  | _=>exact absurd (show false=true from g) zF
 | bl a=>
  cases f;cases x with
  | non=>cases c;exact SeqAt.EqAt.bool_none a
  | bl b=>cases c;exact SeqAt.EqAt.bool_bool a b
  | int b=>obtain⟨t,rfl⟩:=c;exact SeqAt.EqAt.bool_int a b t
  | str b=>obtain⟨t,rfl⟩:=c;exact SeqAt.EqAt.bool_str a b t
  | _=>exact absurd (show false=true from g) zF
 | int a=>
  obtain⟨d,rfl⟩:=f;cases x with
  | non=>cases c;exact SeqAt.EqAt.int_none a d
  | bl b=>cases c;exact SeqAt.EqAt.int_bool a d b
  | int b=>obtain⟨t,rfl⟩:=c;exact SeqAt.EqAt.int_int a d b t
  | str b=>obtain⟨t,rfl⟩:=c;exact SeqAt.EqAt.int_str a d b t
  | _=>exact absurd (show false=true from g) zF
 | str a=>
  obtain⟨d,rfl⟩:=f;cases x with
  | non=>cases c;exact SeqAt.EqAt.str_none a d
  | bl b=>cases c;exact SeqAt.EqAt.str_bool a d b
  | int b=>obtain⟨t,rfl⟩:=c;exact SeqAt.EqAt.str_int a d b t
  | str b=>obtain⟨t,rfl⟩:=c;exact SeqAt.EqAt.str_str a d b t
  | _=>exact absurd (show false=true from g) zF
 | _=>exact absurd (show false=true from h) zF
def dz(x:V)(u:Va):Bool:=match u with
 | .none=>dZ .non x
 | .bool b=>dZ (.bl b) x
 | .int i _=>dZ (.int i) x
 | .str z _=>dZ (.str z) x
 | _=>false
def nB{x:V}(r:RelV y u)(f:de y=true):dz x u=dZ y x:=by
 cases y with
 | non=>cases r;rfl
 | bl b=>cases r;rfl
 | int i=>obtain⟨t,rfl⟩:=r;rfl
 | str z=>obtain⟨t,rfl⟩:=r;rfl
 | _=>exact absurd (show false=true from f) zF
theorem lA{x:V}:∀{xs:List V} {us:List Va},Vals xs us->xs.all de=true->us.any (dz x)=xs.any λy=>dZ y x
 | _,_,.nil,_=>rfl
 | y::xs,u::us,.cons r t,f=>by rw[List.all_cons,zX]at f;rw[List.any_cons,List.any_cons,nB r f.1,lA t f.2]
theorem lK{A:Vi}{s:Vc}{x:V}{v:Va}(b:RelV x v)(c:de x=true):∀{xs:List V} {us:List Va},Vals xs us->xs.all de=true->∀u∈us,SeqAt.EqAt A s u v (dz x u)
 | _,_,.nil,_=>λu a=>by cases a
 | y::xs,u::us,.cons r t,f=>λd a=>by
  rw[List.all_cons,zX]at f;rcases zE.mp a with rfl|a
  .rw[nB r f.1];exact tH r b f.1 c
  .exact lK b c t f.2 d a
def bM(x:V)(xs:List V):Bool:=xs.any λy=>dZ y x
def kI(K:zk)(neg:Bool):R2:=λx y H Q=>∃p xs,y=.ref p/\(ag K H p xs\/ah K H p xs)/\de x=true/\xs.all de=true/\Q (.bl (if neg then !bM x xs else bM x xs)) H
def ue:aV X (compareOp .In) (kI X.K false):=by
 intro pins s σ H x y v u Q I d g h;obtain⟨p,xs,rfl,b,f,fs,q⟩:=h;cases g;rcases b with b|b
 .obtain⟨a,r,pl,i⟩:=I.list b;refine SeqAt.in_listAt (dz x) pl.isList (λw c=>lK d f r fs w (by simpa using c)) ⟨.bl _,H,I,rfl,?_⟩;rw[show a.toArray.any (dz x)=a.any (dz x) by simp,lA r fs];exact q
 .obtain⟨a,r,pl,i⟩:=I.tuple b;refine SeqAt.in_tupleAt (dz x) pl (λw c=>lK d f r fs w (by simpa using c)) ⟨.bl _,H,I,rfl,?_⟩;rw[show a.toArray.any (dz x)=a.any (dz x) by simp,lA r fs];exact q
def y8:bD X (.builtin "len") (λxs H Q=>∃p ys,xs=[.ref p]/\(ag X.K H p ys\/ah X.K H p ys)/\Q (.int ys.length) H):=by
 intro pins s σ H xs us Q I r h;obtain⟨p,ys,rfl,a,q⟩:=h;obtain⟨u,rfl,d⟩:=vals1 r;cases d;have g:=eZ;rcases a with a|a
 .obtain⟨b,c,pl,f⟩:=I.list a;have hlen:=c.length;exact Calls.call_len_list pl.isList (by simp only[zv]<;>omega) ⟨.int ys.length,H,I.tok _,⟨s.toks+1,by rw[zv,hlen]⟩,q⟩
 .obtain⟨b,c,pl,f⟩:=I.tuple a;have hlen:=c.length;exact len_tuple pl (by simp only[zv]<;>omega) ⟨.int ys.length,H,I.tok _,⟨s.toks+1,by rw[zv,hlen]⟩,q⟩
def lR:bD X (.builtin "len") (λxs H Q=>∃z,xs=[.str z]/\z.length<=sizeLine/\Q (.int z.length) H):=by intro pins s σ H xs us Q I r h;obtain⟨z,rfl,a,q⟩:=h;obtain⟨u,rfl,t,rfl⟩:=vals1 r;have b:=eZ;exact len_str (by omega) ⟨.int z.length,H,I.tok _,⟨_,rfl⟩,q⟩
def yl:bD X (.type "tuple") (λxs H Q=>∃p ys,xs=[.ref p]/\((ag X.K H p ys/\∀l,H l=Vp->Q (.ref l) (upd H l (.tup ys)))\/(ah X.K H p ys/\Q (.ref p) H))):=by
 intro pins s σ H xs us Q I r h;obtain⟨p,ys,rfl,h⟩:=h;obtain⟨u,rfl,i⟩:=vals1 r;cases i;rcases h with⟨c,q⟩|⟨c,q⟩
 .obtain⟨a,d,pl,f⟩:=I.list c;have hlen:=d.length;refine call_tuple_list pl.isList (λh' kp=>?_) (by simp only[zv]<;>omega);have g:Inv X pins σ H { s with heap:=h' }:=I.kept (t':=s.toks) kp;have j:Inv X pins σ (upd H h'.objs.size (.tup ys)) { s with heap:=h'.push { cls:=.type "tuple",data:=.seq a.toArray } }:=
   g.laid (t':=s.toks) (λb o e=>zl _ e) (zJ _) (show bc X.prog X.w _ _ _ (.tup ys)from⟨f,a,d,IsTup.new _ _⟩)
  exact⟨.ref h'.objs.size,_,j,rfl,q _ (g.hok.fresh (zJ _))⟩
 .obtain⟨a,d,pl,f⟩:=I.tuple c;exact call_tuple_same pl ⟨.ref p,H,I,rfl,q⟩
def fW(K:zk)(T:String)(x:V)(H:Hp):Prop:=match x with
 | .str _=>T = "str"
 | .int _=>T = "int"
 | .ref p=>(T = "list"/\∃xs,ag K H p xs)\/(T = "tuple"/\∃o,K.lookup p=Vo o/\o.cls=.type "tuple"/\o.dict=Vp) ∨
   (T = "dict"/\((∃kvs,H p=Vo (.dK kvs))\/∃kvs,H p=Vo (.dT kvs)))\/(T = "set"/\∃S n,H p=Vo (.set S n))
 | _=>False
def oH{x:V}{v:Va}(I:Inv X pins σ H s)(r:RelV x v)(ty:fW X.K T x H):
  s.TypeIs v T/\∀a,v=.ref a->∃ob,s.heap.get? a=Vo ob/\ob.dict=Vp:=by
 cases x with
 | str z=>
  obtain⟨t,rfl⟩:=r;cases(show T = "str" from ty);exact⟨typeIs_str s z t,λ_ e=>nomatch e⟩
 | int i=>
  obtain⟨t,rfl⟩:=r;cases(show T = "int" from ty);exact⟨typeIs_int s i t,λ_ e=>nomatch e⟩
 | ref p=>
  cases r;rcases ty with⟨rfl,xs,f⟩|⟨rfl,o,b,g,hd⟩|⟨rfl,b⟩|⟨rfl,S,n,b⟩
  .obtain⟨h,_,pl,_⟩:=I.list f;refine⟨pl.isList.typeIs,λa e=>?_⟩;cases e;obtain⟨o,n,e,c,hd,_⟩:=pl;exact⟨o,e,hd⟩
  .refine⟨⟨o,I.kIn p o b,g⟩,λa e=>?_⟩;cases e;exact⟨o,I.kIn _ o b,hd⟩
  .have z:∃o,s.heap.get? p=Vo o/\o.ExactDict:=by
    rcases b with⟨kvs,b⟩|⟨kvs,b⟩
    .obtain⟨_,_,_,_,o,_,_,e,ex,_⟩:=I.hok p _ b;exact⟨o,e,ex⟩
    .obtain⟨_,_,_,_,o,_,_,e,ex,_⟩:=I.hok p _ b;exact⟨o,e,ex⟩
   obtain⟨o,e,ex⟩:=z;refine⟨⟨o,e,ex.1⟩,λa d=>?_⟩;cases d;exact⟨o,e,ex.2.1⟩
  .obtain⟨o,_,_,_,e,ex,_⟩:=I.hok p _ b;refine⟨⟨o,e,ex.1⟩,λa d=>?_⟩;cases d;exact⟨o,e,ex.2.1⟩
 | _=>exact False.elim ty
def jG(K:zk)(T:String)(r:V->List V->Hp->VK->Prop)(to:TE):TE:=λσ H Q=>to σ H λx H1=>fW K T x H1/\r x [] H1 Q
def mC(K:zk)(T:String)(r:V->List V->Hp->VK->Prop)(to:TE)(t:TA):TE:=λσ H Q=>to σ H λx H1=>fW K T x H1/\t σ H1 λxs H2=>r x xs H2 Q
variable {o e:Vk} {es:List Vk} {to:TE} {t:TA} {name:Vn} {apos cpos:Pos} {T id:String} {r:V->List V->Hp->VK->Prop}
def xO(f:PlainAttrs T)(slot:Slot T name id)(c:typeOf (.builtin id)=pure (.type "method_descriptor"))(g:fH X id r)(i:PE X o to)
  (a:attributeBase o name X.env (eval o X.env)=eval o X.env:=by rfl) (b:(apos.endLine == cpos.line)=true:=by rfl):PE X (.Call (.Attribute o name apos) [] [] cpos) (jG X.K T r to):=by
 intro pins s σ H Q I h;refine wpAny_Call_method0_late a b (ai (i pins s σ H _ I h) λv s1 ⟨x,H1,d,r1,ty,j⟩=>?_);obtain⟨h1,h2⟩:=oH d r1 ty;exact⟨T,id,f,slot,c,h1,h2,Calls.callWith_builtin rfl (PySem.evalArgs_none (g pins s1 σ H1 x [] v [] Q d r1 .nil j))⟩
def vy(j:PlainAttrs T)(slot:Slot T name id)(f:typeOf (.builtin id)=pure (.type "method_descriptor"))(k:fH X id r)(n:PE X o to)(p:PA X (e::es) t)
  (b:attributeBase o name X.env (eval o X.env)=eval o X.env:=by rfl)
  (d:((backTo cpos (starEach (e::es) X.env)).all (λx=>!x.1) && (backToKw cpos (keywordEach [] X.env)).all (λx=>x.1.isSome)
   && decide ((e::es).length+([]:List Keyword).length+(if([]:List Keyword).isEmpty then 0 else 1)<30))=true:=by rfl)
  (c:(apos.endLine == cpos.line)=true:=by rfl) (q:starEach (e::es) X.env=(false,eval e X.env)::starEach es X.env:=by rfl) (a:(backTo cpos (starEach es X.env)).any (·.1)=false:=by rfl) :
  PE X (.Call (.Attribute o name apos) (e::es) [] cpos) (mC X.K T r to t):=by
 intro pins s σ H Q I h;refine wpAny_Call_method_late b d c rfl (ai (n pins s σ H _ I h) λv s1 ⟨x,H1,g,r1,ty,u⟩=>?_);obtain⟨h1,h2⟩:=oH g r1 ty;refine⟨T,id,j,slot,f,h1,h2,?_⟩;have i:=p cpos pins s1 σ H1 _ g u;rw[q]at i ⊢;refine Calls.callWith_builtin (by show(false || (backTo cpos (starEach es X.env)).any (·.1))=false;rw[a]<;>rfl) (Calls.evalArgs_plain ?_);exact ai i λus s2 ⟨vs,H2,w,y,z⟩=>k pins s2 σ H2 x vs v us Q w r1 y z
end
def jy(X:Cx)(id:String)(r:V->List V->Hp->VK->Prop):Prop:=
 ∀(pins:List (Vb×Obj)) (s:Vc) (σ:St) (H:Hp) (x:V) (xs:List V) (v:Va) (us:List Va) (Q:VK),Inv X pins σ H s->RelV x v->Vals xs us->r x xs H Q ->
  Vf (Vg X.prog X.w) X.A (call (.builtin id) (v::us)) (EP X pins σ Q) X.xe s
def Vals.one:∀{x:V} {us:List Va},Vals [x] us->∃u,us=[u]/\RelV x u:=vals1
def Vals.zero:∀{us:List Va},Vals [] us->us=[]
 | _,.nil=>rfl
theorem Vals.dropLast{xs:List V}{us:List Va}(h:Vals xs us):Vals xs.dropLast us.dropLast:=by
 induction h with
 | nil=>exact .nil
 | cons r t a=>
  cases t with
  | nil=>exact .nil
  | cons q b=>exact .cons r a
def wx{α:Type}(l:List α):l.eraseIdx (l.length-1)=l.dropLast:=by
 induction l with
 | nil=>rfl
 | cons a r c=>
  cases r with
  | nil=>rfl
  | cons b r=>
   have e:(a::b::r).length-1=((b::r).length-1)+1:=by have h1:(a::b::r).length=r.length+2:=rfl;have h2:(b::r).length=r.length+1:=rfl;omega
   rw[e,List.eraseIdx_cons_succ,c]
   all_goals rfl
section
variable {X:Cx} {pins:List (Vb×Obj)} {σ:St} {H:Hp} {s:Vc} {l b:Vb} {xs ys zs:List V}
def Inv.lset{a its':List Va}{n:Nat}{f:Array Va->Array Va}{t':Nat}(I:Inv X pins σ H s)(b:H l=Vo (.lst xs))
  (e:s.heap.get? l=Vo { cls:=.type "list",data:=.seq a.toArray n }) (c:f a.toArray=its'.toArray) (hv:Vals ys its') (d:ys.length<=sizeLine) :
  Inv X pins σ (upd H l (.lst ys)) { s with heap:=s.heap.update l (Obj.mapSeq f),toks:=t' }:=by
 have q:=PySem.IsL.update e f;rw[c]at q;refine I.write (x:=l) (e:=l) (by rw[b];exact trivial) (.inl rfl) (λi u g h=>(Heap.get?_update_other s.heap (Obj.mapSeq f) (Ne.symm g)).trans h) ⟨_,q⟩ ?_;exact⟨d,its',_,hv,q⟩
def Inv.lnew{a:List Va}{t':Nat}(I:Inv X pins σ H s)(hv:Vals ys a)(b:ys.length<=sizeLine):
  Inv X pins σ (upd H s.heap.objs.size (.lst ys)) { s with heap:=s.heap.push { cls:=.type "list",data:=.seq a.toArray },toks:=t' }:=
 I.laid (λ_ _ q=>zl _ q) (zJ _) ⟨b,a,0,hv,zm _ rfl⟩
theorem Inv.fresh(I:Inv X pins σ H s):H s.heap.objs.size=Vp:=I.hok.fresh (zJ _)
def Inv.lstM(I:Inv X pins σ H s)(b:H l=Vo (.lst xs)):xs.length<=sizeLine/\∃(a:List Va) (n:Nat),Vals xs a/\xs.length=a.length/\s.heap.get? l=Vo { cls:=.type "list",data:=.seq a.toArray n }:=by obtain⟨z,a,n,r,e⟩:=I.hok l _ b;exact⟨z,a,n,r,r.length,e⟩
def xU(h:n<=sizeLine):Builtin.List.listTooLong n=false:=by unfold Builtin.List.listTooLong;exact Aj (by omega)
end
section
variable {X:Cx}
def qX:V->List V->Hp->VK->Prop:=λx vs H Q=>∃l xs y,x=.ref l/\vs=[y]/\H l=Vo (.lst xs)/\xs.length<sizeLine/\Q .non (upd H l (.lst (xs++[y])))
def fS:jy X "list.append" qX:=by intro pins s σ H x vs v us Q I c d h;obtain⟨l,xs,y,rfl,rfl,b,g,q⟩:=h;cases c;obtain⟨u,rfl,f⟩:=d.one;obtain⟨z,a,n,r,hl,e⟩:=I.lstM b;refine call_meets F.slot_list_append ⟨_,e,rfl⟩ F.entry_list_append (F.args_list_append_2 _ _) (PySem.list_append l a.toArray n u (by rw[zv];omega)) ⟨e,?_⟩;refine⟨.non,_,I.lset (its':=a++[u]) b e (by simp) (r.append (.cons f .nil)) ?_,rfl,q⟩;rw[zH,List.length_singleton];omega
def wI:V->List V->Hp->VK->Prop:=λx vs H Q=>∃l b xs zs,x=.ref l/\vs=[.ref b]/\H l=Vo (.lst xs)/\H b=Vo (.lst zs)/\xs.length+zs.length<=sizeLine/\Q .non (upd H l (.lst (xs++zs)))
def zg:jy X "list.extend" wI:=by
 intro pins s σ H x vs v us Q I i j h;obtain⟨l,b,xs,zs,rfl,rfl,g,k,y,q⟩:=h;cases i;obtain⟨u,rfl,o⟩:=j.one;cases o;obtain⟨z,c,n,r,hl,e⟩:=I.lstM g;obtain⟨z2,a,n2,p,t,w⟩:=I.lstM k;have f:c.toArray.size+a.toArray.size<=sizeLine:=by rw[zv,zv];omega
 have d:¬(!c.toArray.isEmpty && Builtin.List.listTooLong (c.toArray.size+a.toArray.size))=true:=by rw[xU f,Bool.and_false];exact zF
 refine call_meets F.slot_list_extend ⟨_,e,rfl⟩ F.entry_list_extend (F.args_list_extend_2 _ _)
  (AutoSeq1.list_extend_list_list_0 l c.toArray n b a.toArray n2 d (by rw[zv];omega) (by omega)) ⟨e,w,?_⟩
 refine⟨.non,_,I.lset (its':=c++a) g e (by simp) (r.append p) ?_,rfl,q⟩;rw[zH];omega
def xk:V->List V->Hp->VK->Prop:=λx vs H Q=>∃l xs y,x=.ref l/\vs=[]/\H l=Vo (.lst xs)/\xs[xs.length-1]?=Vo y/\Q y (upd H l (.lst xs.dropLast))
def lW:jy X "list.pop" xk:=by
 intro pins s σ H x vs v us Q I f g h;obtain⟨l,xs,y,rfl,rfl,d,i,q⟩:=h;cases f;have b:=g.zero;subst b;obtain⟨z,a,n,r,hl,e⟩:=I.lstM d;obtain⟨u,j,k⟩:=r.get i;have c:a.toArray[a.toArray.size-1]?=some u:=by show a.toArray[a.length-1]?=some u;rw[<-Array.getElem?_toList,<-hl];exact j
 refine call_meets F.slot_list_pop ⟨_,e,rfl⟩ F.entry_list_pop (F.args_list_pop_1 _) (MeetsSeq.list_pop_last l a.toArray n u c (by rw[zv];omega)) ⟨e,?_⟩;refine⟨y,_,I.lset (its':=a.dropLast) d e ?_ r.dropLast ?_,k,q⟩
 .show a.toArray.eraseIdxIfInBounds (a.toArray.size-1)=a.dropLast.toArray;rw[zv,List.eraseIdxIfInBounds_toArray,wx]
 .rw[List.length_dropLast];omega
def rB:R2:=λx y H Q=>∃l b xs zs,x=.ref l/\y=.ref b/\H l=Vo (.lst xs)/\H b=Vo (.lst zs)/\xs.length+zs.length<=sizeLine/\∀p,H p=Vp->Q (.ref p) (upd H p (.lst (xs++zs)))
def mF:aV X (binaryOp .Add) rB:=by
 intro pins s σ H x y v u Q I d f h;obtain⟨l,b,xs,zs,rfl,rfl,g,i,t,q⟩:=h;cases d;cases f;obtain⟨z,c,n,r,hl,e⟩:=I.lstM g;obtain⟨z2,a,n2,j,k,o⟩:=I.lstM i;refine PySem.P.add_list e o ?_ (by rw[zv,zv];omega);have p:c.toArray++a.toArray=(c++a).toArray:=by simp
 rw[p];exact⟨.ref _,_,I.lnew (t':=s.toks) (r.append j) (by rw[zH];omega),rfl,q _ I.fresh⟩
end
end L2
namespace Att
open PySem PySem.W PySem.Calls PyProof.Rows
def yX{P:Params}:∀(ns:List Int) (vs:List Va),WellAll P h vs (ns.map WData.int)->IntsAre vs ns:=by
 intro ns;induction ns with
 | nil=>
  intro vs w;rw[List.map_nil]at w;cases w;exact .nil
 | cons n ns c=>
  intro vs w;rw[List.map_cons]at w;cases w with
  | cons a b=>
   cases a;exact .cons _ _ (c _ b)
def yC{l:OpenLaw}(k:l.most=Vo n){P:Params}{args:List WData}{vals:List Va}
  (b:l.row.toRowW.claim.pre args=true) (g:WellAll P h vals args) :
  ∃a vs ns,vals=[Value.ref a]/\args=[WData.list (ns.map WData.int)]/\h.get? a=Vo { cls:=.type "list",data:=.seq vs.toArray }/\IntsAre vs ns/\ns.length<=n:=by
 have i:WShape.hasAll [] args [.list .int]=true:=(pre_splitW b).1;have j:l.pre.holds [] { args:=args }=true:=(pre_splitW b).2;obtain⟨d,r,rfl,h1,h2⟩:=hasAllW_cons i;obtain rfl:=hasAllW_nil h2;obtain⟨xs,rfl,o⟩:=hasW_list h1;obtain⟨ns,rfl⟩:=items_int o;have hlen:ns.length<=n:=by
  unfold OpenLaw.pre at j;have c:(WTm.not (.lt (.lit (.int (n:Int))) (.len (.arg 0)))).holds [] { args:=[.list (ns.map .int)] }=true:=by have c:=(holds_andW j).1;rw[k]at c;exact c
  have f:=condW_of c (w_not (w_lt w_lit (w_len_list (w_arg rfl))));rw[zp]at f;refine Nat.le_of_not_lt λq=>?_;have p:(n:Int)<((ns.length:Nat):Int):=by omega
  first
   | (rw[Ak p]at f;exact absurd f (by decide))
   | (simp at f;omega)
 cases g with
 | cons w1 w2=>
  cases w2;cases w1 with
  | list s hall=>exact⟨_,_,ns,rfl,rfl,s,yX ns _ hall,hlen⟩
def zb(l:OpenLaw)(args:List WData):l.row.toRowW.claim.post args (.bool true) args=true:=
 postW_of (r:=l.row.toRowW) (X:=(true == true))
  (show WShape.has [] (.bool true) .bool=true by first|rfl|decide|simp [WShape.has,WShape.arms,WShape.armsAll])
  (show(WTm.eq .res (.lit (.bool true))).value [] { args:=args,res:=Vo (.bool true),after:=args }=Vo (.bool (true == true))from w_eq_bool (w_res rfl) w_lit) rfl
def ym{l:OpenLaw}{q:Vd}{loose:List Vn}{p:(Vn->Option Va)->Vh->Prop}{s:Ve->Vh->Prop}{d:DefRec}
  (v:l.most=Vo n) (h:d.params.defaults=[])
  (call:∀(w:Ve) (s₀ b:Vc) (mg mb:Vn->Option Va) (fa:Vb) (o:Obj) (pm cd doc:Va) (a:Vb) (vs:List Va) (ns:List Int),
   Ground q loose [] p w s₀ mg mb b.heap->s w b.heap ->
   b.heap.get? fa=Vo o->o.data=.func (docDef d.name d.params d.body d.scope pm cd doc)->b.heap.CodeRec cd d.name->mg d.name=Vo (.ref fa) ->
   b.heap.get? a=Vo { cls:=.type "list",data:=.seq vs.toArray }->IntsAre vs ns->ns.length<=n->b.gens = #[] ->
   codeAny (Vg l.prog w) callerA (.call (.ref fa) ⟨[.ref a],[]⟩) (λr s'=>r=.ok (.ret (.bool true))/\OldK b.heap s'.heap/\s'.os=b.os/\AllBare s'.gens) b) :
  WalkO q loose p s l.row.toRowW d [] (λf vs=>PySem.call f vs):=by
 intro w s₀ b mg mb G Y fa o pm cd doc x kV y hd i t j z args vals I c u A k B;obtain rfl:x=.none:=Dflts.none t h;obtain rfl:kV=.none:=Dflts.noKw t;obtain⟨a,vs,ns,rfl,rfl,g,hints,hlen⟩:=yC v c k;refine enter_call (codeAny_mono (call w s₀ b mg mb fa o pm cd doc a vs ns G Y y (fd_plain hd) i j g hints hlen z) λr s' C=>?_);obtain⟨rfl,h2,E,F⟩:=C;exact⟨.inl ⟨.bool true,.bool true,[],rfl,λ_=>rfl,.bool true,zb l _,λ_=>⟨List.Pairwise.nil,λ_ H=>(nomatch H)⟩⟩,h2,E,F⟩
end Att
namespace L2
open PySem PySem.Spec PyProof.Rows
theorem rd:∀{vs:List Va} {ns:List Int},IntsAre vs ns->Vals (ns.map V.int) vs
 | _,_,.nil=>.nil
 | _,_,.cons n t h=>.cons ⟨t,rfl⟩ (rd h)
def ju(H:Hp):Prop:=∀b,H b=Vp\/∃o xs,H b=Vo (.frz o (.lst xs))
def law_call{P:Vd}{w:Ve}{K:zk}{mb:Vn->Option Va}{CX:cO}{k:Nat}{fa:Vb}{fd:Vm}{x:Vn}{sp:Sp}{c:Vc}{vs:List Va}{ns:List Int}
  (I:K.In c.heap) (i:c.heap.Ns Vj mg) (g:c.heap.Ns builtinsNs mb) (C:∀x:Vn,x≠"__name__"->mb x=bootBuiltins x) (j:c.heap.NoLimit) (O:c.gens = #[])
  (B:c.heap.get? a=Vo { cls:=.type "list",data:=.seq vs.toArray }) (hi:IntsAre vs ns) (hl:ns.length<=sizeLine) (hr:Room k callerA)
  (F:∀base:Vh,K.In base->base.Ns Vj mg->FnOk P w K mg base CX k fa fd [x] sp) (hbind:∀(s:Vc) (u:Va),BindsTo s fd ⟨[u],[]⟩ [(x,u)])
  (hsp:∀H:Hp,ju H->ag K H a (ns.map V.int)->sp [.ref a] H (λv _=>v=.bl true) λ_ _ _=>False)
  (hCX:∀H e s',CX [] H c (λ_ _ _=>False) e s'->False) :
  codeAny (Vg P w) callerA (.call (.ref fa) ⟨[.ref a],[]⟩) (λr s'=>r=.ok (.ret (.bool true))/\OldK c.heap s'.heap/\s'.os=c.os/\AllBare s'.gens) c:=by
 have J:=rd hi;have p:=hi.length;have core:∀H:Hp,ju H->ag K H a (ns.map V.int)->aU P w H c.heap->(∀b,H b≠Vp->b=a)->(H a≠Vp->K.lookup a=Vp) ->
   codeAny (Vg P w) callerA (.call (.ref fa) ⟨[.ref a],[]⟩) (λr s'=>r=.ok (.ret (.bool true))/\OldK c.heap s'.heap/\s'.os=c.os/\AllBare s'.gens) c:=by
  intro H L Q hok M R;have f:∀{b:Vb} {o:Obj},c.heap.get? b=Vo o->H b=Vp->(dy c.heap H).get? b=Vo o:=λe n=>yn e n;have noA:∀{b:Vb} {o:Obj} {es:Array DictEntry} {ep:Nat},c.heap.get? b=Vo o->o.data=.dict es ep->H b=Vp:=λ{b o es ep} e d=>by
   cases q:H b with
   | none=>rfl
   | some u=>
    have E:b=a:=M b (by rw[q];simp);subst E;rw[B]at e;cases e;have S:Data.seq vs.toArray _=Data.dict es ep:=d;cases S
  have nsK:∀{b:Vb} {m:Vn->Option Va},c.heap.Ns b m->(dy c.heap H).Ns b m:=λ{b m} ⟨o,es,ep,e,d,r⟩=>⟨o,es,ep,f e (noA e d),d,r⟩;have t:K.In (dy c.heap H):=λb o e=>f (I b o e) (by
   cases q:H b with
   | none=>rfl
   | some u=>
    have E:b=a:=M b (by rw[q];simp);subst E;rw[R (by rw[q];simp)]at e;cases e)
  have T:Mod K mg (dy c.heap H):=⟨t,nsK i,⟨mb,nsK g,C⟩,let ⟨mc,h1,h2⟩:=j;⟨mc,nsK h1,h2⟩⟩;have U:Env0 P w K mg (dy c.heap H) callerA [] c H:=⟨rfl,T,λb o e=>wQ e,Nat.le_of_eq (xB _ _),trivial,λb g=>absurd (show b∈([]:List Vb)from g) (by simp),hok,.of_eq O⟩;refine codeAny_mono ((F _ t (nsK i)).run callerA [] c H ⟨[.ref a],[]⟩ [.ref a] [.ref a] _ _ hr U (hbind c (.ref a)) (.cons rfl .nil) (hsp H L Q)) λr s' h=>?_;cases r with
  | error e=>exact(hCX H e s' h).elim
  | ok W=>
   cases W with
   | next=>exact False.elim h
   | brk=>exact False.elim h
   | cont=>exact False.elim h
   | ret u=>
    obtain⟨v,H',os,bare,un,y,X,q⟩:=h;have Y:v=.bl true:=q;subst Y;obtain rfl:u=Value.bool true:=X;refine⟨rfl,OldK.of_keep λb o e=>?_,os,bare⟩;cases q:H b with
    | none=>exact un.keep b o e q (by intro z;exact absurd (show b∈([]:List Vb)from z) (by simp)) (by simp)
    | some u=>
     rcases L b with z|⟨ob,xs,z⟩
     .rw[q]at z;cases z
     .have z2:=un.frzs b ob _ z;obtain⟨N,_⟩:=hok b _ z;obtain⟨Z,_⟩:=y b _ z2;rw[e]at N;cases N;exact Z
 cases G:K.lookup a with
 | some o=>
  have e:=I a o G;rw[B]at e;cases e;refine core (λ_=>Vp) (λ_=>.inl rfl) (.inr ⟨_,vs.toArray,_,G,rfl,rfl,rfl,by rw[zv,p];exact hl,by simpa using J⟩) (λb u z=>by have A:(Vp:Option HO)=Vo u:=z;cases A) (λb z=>absurd rfl z) λz=>absurd rfl z
 | none=>
  refine core (λb=>if b=a then Vo (.frz { cls:=.type "list",data:=.seq vs.toArray } (.lst (ns.map V.int)))else Vp) (λb=>?_) (.inl (.inr ⟨{ cls:=.type "list",data:=.seq vs.toArray },Am rfl⟩)) (λb u z=>?_) (λb z=>?_) λ_=>G
  .by_cases g:b=a
   .exact .inr ⟨_,_,Am g⟩
   .exact .inl (Al g)
  .by_cases g:b=a
   .have A:=(Am g).symm.trans z;cases A;subst g;exact⟨B,by rw[zp];exact hl,vs,_,J,B⟩
   .have A:=(Al g).symm.trans z;cases A
  .by_cases g:b=a
   .exact g
   .exact absurd (Al g) z
def xY{l:PySem.W.OpenLaw}{k:Nat}{q:Vd}{loose:List Vn}{z:(Vn->Option Va)->Vh->Prop}{t:Ve->Vh->Prop}{d:DefRec}{K:Params->zk}{CX:Ve->cO}{sp:Ve->Sp}{x:Vn}
  (A:l.most=Vo n) (j:n<=sizeLine) (p:d.params.defaults=[]) (hr:Room k callerA)
  (B:∀(w:Ve) (h:Vh),t w h->(K w.params).In h)
  (F:∀(w:Ve) (mg:Vn->Option Va) (fa:Vb) (h:Vh),(K w.params).In h->h.Ns Vj mg->mg d.name=Vo (.ref fa) ->
   ∃fd:Vm,(∀(s:Vc) (u:Va),BindsTo s fd ⟨[u],[]⟩ [(x,u)]) ∧
    ∀base:Vh,(K w.params).In base->base.Ns Vj mg->FnOk l.prog w (K w.params) mg base (CX w) k fa fd [x] (sp w))
  (hsp:∀(w:Ve) (H:Hp) (a:Vb) (ns:List Int),ns.length<=n->ju H->ag (K w.params) H a (ns.map V.int)->sp w [.ref a] H (λv _=>v=.bl true) λ_ _ _=>False)
  (hCX:∀(w:Ve) (H:Hp) (s:Vc) (e:Va) (s':Vc),CX w [] H s (λ_ _ _=>False) e s'->False) :
  PySem.W.WalkO q loose z t l.row.toRowW d [] (λf vs=>PySem.call f vs):=by
 refine Att.ym A p λw s₀ c mg mb fa o pm cd doc a vs ns G Y N hd C r i hints hlen E=>?_;have y:=B w _ Y;obtain⟨fd,I,J⟩:=F w mg fa _ y G.T.g r;exact law_call y G.T.g G.T.b G.T.builtins G.T.nolimit E i hints (zT hlen j) hr J I (λH L M=>hsp w H a ns hlen L M) λH e s'=>hCX w H c e s'
def inClass(s:Vl)(j:Nat):Vl:=match s with
 | .ClassDef _ _ _ body _ _ _ _ _ _ _=>body.getD j (.Pass ⟨0,0,0,0⟩)
 | _=>.Pass ⟨0,0,0,0⟩
def bW(s:Vl):Arguments:=match s with
 | .FunctionDef _ a _ _ _ _ _ _ _ _=>a
 | _=>{ posonlyargs:=[],args:=[],vararg:=Vp,kwonlyargs:=[],kw_defaults:=[],kwarg:=Vp,defaults:=[] }
def bJ(s:Vl):List Vl:=match s with
 | .FunctionDef _ _ b _ _ _ _ _ _ _=>b
 | _=>[]
def ay(s:Vl):Scope:=match s with
 | .FunctionDef _ _ _ _ _ _ sc _ _ _=>sc
 | _=>{ kind:=.function,names:=[],isGenerator:=false,isCoroutine:=false }
abbrev cQ:cO:=λ_ _ _ _ _ _=>False
abbrev E0:XK:=λ_ _ _=>False
def oE:Passes cQ X E0:=λ_ _ _ _ _ _ _ h=>h.elim
structure Fun(K:zk)(x qual:Vn)(st:Vl)(f:Vb)(fd:Vm):Prop where
 ex:∃(oc:Va) (od:Option Vb) (kV doc pm:Va) (an:Option Vb) (cdv ct:Va) (osl:Array (Option Va)),
  fd=PySem.W.fnOf x qual (bW st) (bJ st) (ay st) .none kV doc pm an cdv ct/\K.lookup f=Vo ⟨oc,od,.func fd,osl⟩/\PySem.W.codeIn K cdv qual=true
 kp:PySem.W.keepIn K (.ref f)=true
section
variable {P:Vd} {w:Ve} {K:zk} {mg:Vn->Option Va} {base:Vh}
def Fun.ok{x:Vn}{f:Vb}{k:Nat}(F:Fun K x qual st f fd)(S:FnScope N ps (ay st))(len:∀vs H Q E,sp vs H Q E->vs.length=ps.length)
  (a:∀(cdv:Va) (A:Vi) (outer:List Env) (s:Vc) (H:Hp) (vs:List V) (Q:VK) (E:XK),Room k (A.deeper (envOfC qual (ay st) s.heap.objs.size f cdv))->sp vs H Q E ->
   ∃t,bI (aJ cQ P w K mg base N qual (ay st) f cdv A outer s H E).nox (bJ st) t/\t { nx:=λ_ H'=>Q .non H',rt:=Q } (start N vs) H):FnOk P w K mg base cQ (k+1) f fd ps sp:=by
 obtain⟨oc,od,kV,doc,pm,an,cdv,ct,osl,rfl,lk,b⟩:=F.ex;refine mz lk b S len λA outer s H vs Q E hr hsp=>?_;obtain⟨t,h,q⟩:=a cdv A outer s H vs Q E hr hsp;exact⟨t,h.nox,q⟩
def Fun.binds{x:Vn}{f:Vb}(F:Fun K x qual st f fd)
  (h:∀(kV doc pm:Va) (an:Option Vb) (cdv ct:Va) (us:List Va),us.length=ps.length->bindArgs (PySem.W.fnOf x qual (bW st) (bJ st) (ay st) .none kV doc pm an cdv ct) ⟨us,[]⟩=pure (ps.zip us)):Binds K fd ps []:=by
 obtain⟨oc,od,kV,doc,pm,an,cdv,ct,osl,rfl,lk,a⟩:=F.ex;exact .all (h kV doc pm an cdv ct)
def je{x:Vn}{f:Vb}{oc:Va}{od an:Option Vb}{osl:Array (Option Va)}{kV doc pm cdv ct:Va}(l:K.lookup f=Vo ⟨oc,od,.func (PySem.W.fnOf x qual (bW st) (bJ st) (ay st) .none kV doc pm an cdv ct),osl⟩)
  (c:PySem.W.codeIn K cdv qual=true) (k:PySem.W.keepIn K (.ref f)=true):Fun K x qual st f (PySem.W.fnOf x qual (bW st) (bJ st) (ay st) .none kV doc pm an cdv ct):=⟨⟨oc,od,kV,doc,pm,an,cdv,ct,osl,rfl,l,c⟩,k⟩
end
def uV{k:Nat}(hr:Room k A):A.units+1<cLine:=Nat.lt_of_le_of_lt (Nat.add_le_add_left (by decide:1<=64) _) hr.units
section
variable {X:Cx}
def pv(i:Nat){x:Vn}{pos:Pos}(b:X.N[i]?=Vo x:=by rfl)(hv:ke X.env.scope x:=by first|exact Or.inl rfl|exact Or.inr (Or.inl rfl)|exact Or.inr (Or.inr rfl))(hd:(x == ("__debug__":Vn))=false:=by decide)
  (a:(x == ("__classdict__":Vn))=false:=by decide):PE X (.Name x pos) (jJ i):=xg b hv hd a
end
def av{A B:Prop}(h:B):if false=true then A else B:=by rw[Al zF];exact h
def aw{A B:Prop}(h:A):if true=true then A else B:=by rw[Am rfl];exact h
def eM{c A B:Prop}[Decidable c](h1:c->A)(h2:¬c->B):if c then A else B:=by
 by_cases h:c
 .rw[Am h];exact h1 h
 .rw[Al h];exact h2 h
structure Blk where
 s:Vc
 H:Hp
 fp:List Vb
 C:Vb
def cp(names:List (Vn×NameKind))(cells:List (Vn×Vb)):List (Vn×Vb):=
 names.foldl (λacc p=>if p.2 == .free then(p.1,(cells.lookup p.1).getD 0)::acc else acc) []
def cb(X:Cx)(sc:Scope)(own:List Vn)(a:List Nat)(z:Blk):Cx where
 prog:=X.prog
 w:=X.w
 K:=X.K
 mg:=X.mg
 base:=X.base
 A:=X.A
 N:=own++a.map λj=>X.N.getD j ""
 s₀:=z.s
 H₀:=z.H
 env:=compEnvC sc (cp sc.names X.env.cells) z.C X.env
 outer:=X.stack
 stack:=X.stack
 ex:=z.fp
 fn:=λ_=>false
 calm:=X.calm
 pn:=[]
 xe:=λ_ _=>False
def eu(sc out:Scope):Bool:=sc.names.all λp=>p.2 != .cell && (p.2 != .local || sc.names.lookup p.1 == Vo .local) && (p.2 != .free || out.names.lookup p.1 == Vo .cell || out.names.lookup p.1 == Vo .free)
def fj(sc:Scope)(N:List Vn)(a:List Nat):Bool:=a.all λj=>decide (j<N.length) && (sc.names.lookup (N.getD j "") == Vo .free)
def bz(n:Nat)(a:List Nat)(σ:St):St:=Ac n Vp++a.map λj=>(σ[j]?).join
theorem iT(cells:List (Vn×Vb)):∀(names:List (Vn×NameKind)) (acc:List (Vn×Vb)) (x:Vn) (c:Vb),
  (names.foldl (λacc p=>if p.2 == .free then(p.1,(cells.lookup p.1).getD 0)::acc else acc) acc).lookup x=Vo c ->
  ((x,NameKind.free)∈names/\c=(cells.lookup x).getD 0)\/acc.lookup x=Vo c
 | [],acc,x,c,h=>.inr h
 | (n,k)::r,acc,x,c,h=>by
  rw[List.foldl_cons]at h;rcases iT cells r _ x c h with⟨h1,h2⟩|h1
  .exact .inl ⟨zt _ h1,h2⟩
  .cases a:(k == NameKind.free)with
   | false=>
    simp only[a]at h1;exact .inr h1
   | true=>
    simp only[a,if_true]at h1;rw[Ae]at h1;cases b:(x == n)with
    | false=>rw[b]at h1;exact .inr h1
    | true=>
     rw[b]at h1;have d:x=n:=by simpa using b
     have f:k=.free:=by simpa using a
     subst d f;exact .inl ⟨zw,(zZ h1).symm⟩
theorem pY(cells:List (Vn×Vb)):∀(names:List (Vn×NameKind)) (acc:List (Vn×Vb)) (x:Vn),
  ((x,NameKind.free)∈names\/(acc.lookup x).isSome=true)->((names.foldl (λacc p=>if p.2 == .free then(p.1,(cells.lookup p.1).getD 0)::acc else acc) acc).lookup x).isSome=true
 | [],acc,x,h=>by
  rcases h with h|h
  .simp at h
  .exact h
 | (n,k)::r,acc,x,h=>by
  rw[List.foldl_cons];apply pY cells r;rcases h with h|h
  .rcases zE.mp h with e|h
   .right;cases e;simp[Ae]
   .exact .inl h
  .right;cases a:(k == NameKind.free)with
   | false=>simpa[a]using h
   | true=>
    simp only[a,if_true,Ae];cases b:(x == n)with
    | true=>rfl
    | false=>exact h
def jW(h:∀p∈sc.names,p.2=.free->∃c,env.cells.lookup p.1=Vo c):closureFor sc env=pure (cp sc.names env.cells):=by
 have go:∀(names:List (Vn×NameKind)) (acc:List (Vn×Vb)),(∀p∈names,p.2=NameKind.free->∃c,env.cells.lookup p.1=Vo c) ->
   (forIn names acc λ(p:Vn×NameKind) (r:List (Vn×Vb))=>(match p with|(name,kind)=>if(kind == NameKind.free)=true then do let c <-cellOf env name;pure (ForInStep.yield ((name,c)::r))else pure (ForInStep.yield r):Sem _)) =
   pure (names.foldl (λacc p=>if p.2 == .free then(p.1,(env.cells.lookup p.1).getD 0)::acc else acc) acc):=by
  intro names;induction names with
  | nil=>intro acc _;rfl
  | cons p r g=>
   intro acc a;obtain⟨n,k⟩:=p;rw[List.forIn_cons,List.foldl_cons];cases b:(k == NameKind.free)with
   | false=>
    simp only[b,Ad,if_false];exact g acc λq d=>a q (zt _ d)
   | true=>
    obtain⟨c,i⟩:=a (n,k) zw (by simpa using b);have e:cellOf env n=pure c:=by unfold cellOf;rw[show env.cells.lookup n=Vo c from i]
    simp only[b,if_true,e];have f:env.cells.lookup n=Vo c:=i;rw[f];exact g _ λq d=>a q (zt _ d)
 unfold closureFor cp;have:=go sc.names [] h;simp only[this];rfl
def fi(X:Cx)(ifs:List Vk)(t:TT):Prop:=
 ∀(pins:List (Vb×Obj)) (s:Vc) (σ:St) (H:Hp) (Q:Bool->Hp->Prop),Inv X pins σ H s->t σ H Q ->
  Vf (Vg X.prog X.w) X.A (forIn ifs true λc r=>if r=true then do let ok <-isTrue c X.env (eval c X.env);pure (ForInStep.yield ok)else pure (ForInStep.yield r)) (TP X pins σ Q) X.xe s
def sk:TT:=λ_ H Q=>Q true H
def eJ:fi X [] sk:=λ_ _ _ H _ I h=>wpAny_tests_nil ⟨H,I,h⟩
def j9{c:Vk}{t:TT}(h:PT X c t):fi X [c] t:=λpins s σ H Q I a=>wpAny_tests_one (h pins s σ H Q I a)
def pF{R:Result->Vc->Prop}{n:Vc}{elt a iter:Vk}{ifs:List Vk}{sc:Scope}{ps:Pos}{b acc:Va}{ce:Env}(d:Nat->Vc->Prop)
  (step:∀k t,d k t->Vf (Vg prog w) A (pyNext b) (λgot i=>
   match got with
   | none=>R (.ok .next) i
   | some u=>Vf (Vg prog w) A (letOwnedTupleGo a b u) (λ_ o=>Vf (Vg prog w) A (assign a ce u) (λ_ p=>
     Vf (Vg prog w) A (forIn ifs true λc r=>if r=true then do let ok <-isTrue c ce (eval c ce);pure (ForInStep.yield ok)else pure (ForInStep.yield r)) (λyes j=>
      if yes=true then Vf (Vg prog w) A (eval elt ce) (λval s=>Vf (Vg prog w) A (call (.builtin "list.append") [acc,val]) (λ_ v=>∃m,m<k/\d m v) (λ_ _=>False) s) (λ_ _=>False) j
      else ∃m,m<k/\d m j) (λ_ _=>False) p) (λ_ _=>False) o) (λ_ _=>False) i) (λ_ _=>False) t)
  (k0:Nat) (start:d k0 n):codeAny (Vg prog w) A (.compLoop (.ListComp elt [⟨a,iter,ifs,0⟩] sc ps) 0 b acc ce) R n:=by
 refine codeAny_loop rfl d (λk t y=>?turn) k0 start
 case turn=>
  have nox:∀{α:Type} {m:Sem α} {Q:α->Vc->Prop} {E:Va->Vc->Prop} {z:Vc},Vf (Vg prog w) A m Q (λ_ _=>False) z->Vf (Vg prog w) A m Q E z:=λh=>wpAny_mono h (λ_ _ q=>q) λ_ _ f=>f.elim;show Vf _ A ((compTurn (.ListComp elt [⟨a,iter,ifs,0⟩] sc ps) 0 b acc ce).onRaise (λx=>do noteFrame x ce;theTreesLotGoes x)) _ _ t;apply wpAny_noted;rw[compTurn_list];refine zi (wpAny_standAt (zi (nox (wpAny_mono (step k t y) (λgot i h1=>?_) λ_ _ f=>f))));cases got with
  | none=>exact zj h1
  | some u=>
   refine zi (nox (wpAny_mono h1 (λ_ o h2=>?_) λ_ _ f=>f));refine zi (nox (wpAny_mono h2 (λ_ p B=>?_) λ_ _ f=>f));refine zi (nox (wpAny_mono B (λyes j g=>?_) λ_ _ f=>f));cases yes with
   | false=>
    rw[Al zF]at g;exact zj ⟨rfl,g⟩
   | true=>
    rw[Am rfl]at g;refine zi (zi (nox (wpAny_mono g (λval s C=>?_) λ_ _ f=>f)));exact zi (nox (wpAny_mono C (λ_ v F=>zj (zj ⟨rfl,F⟩)) λ_ _ f=>f))
section
variable {X:Cx} {pins:List (Vb×Obj)} {σ:St} {H:Hp} {s:Vc}
def br(a:List Va)(n:Nat):Obj:={ cls:=.type "list",data:=.seq a.toArray n }
def lE(h:eu sc out=true)(a:p∈sc.names)(b:p.2=.free):out.names.lookup p.1=Vo .cell\/out.names.lookup p.1=Vo .free:=by have:=zV.mp h p a;simp only[b,zX,Bool.or_eq_true,beq_iff_eq,bne_iff_ne,ne_eq,not_true,false_or]at this;exact this.2
def oV(h:eu sc out=true)(a:p∈sc.names):p.2≠.cell:=by have:=zV.mp h p a;simp only[zX,bne_iff_ne,ne_eq]at this;exact this.1.1
def tM(h:eu sc out=true)(a:p∈sc.names)(b:p.2=.local):sc.names.lookup p.1=Vo .local:=by have:=zV.mp h p a;simp only[b,zX,Bool.or_eq_true,beq_iff_eq,bne_iff_ne,ne_eq,not_true,false_or]at this;exact this.1.2
theorem fo{sc:Scope}{env:Env}{x:Vn}:∀{names:List (Vn×NameKind)} {k:NameKind},(names.map λ(p:Vn×NameKind)=>match p with|(n,k)=>if(k == NameKind.free && env.scope.kind == .function && env.kindOf n == Vo .cell)then(n,NameKind.cell)else(n,k)).lookup x=Vo k ->
  ∃c,names.lookup x=Vo c/\(c=k\/(c=.free/\k=.cell))
 | [],_,h=>by simp at h
 | (n,q)::r,k,h=>by
  rw[List.map_cons]at h;rw[Ae];cases b:(x == n)with
  | true=>
   refine⟨q,rfl,?_⟩;by_cases a:(q == NameKind.free && env.scope.kind == .function && env.kindOf n == Vo .cell)=true
   .simp only[a,if_true,Ae,b]at h;right;simp only[zX,beq_iff_eq]at a;exact⟨a.1.1,(zZ h).symm⟩
   .left;have h2:List.lookup x ((n,q)::(r.map λ(p:Vn×NameKind)=>match p with|(n,k)=>if(k == NameKind.free && env.scope.kind == .function && env.kindOf n == Vo .cell)then(n,NameKind.cell)else(n,k)))=Vo k:=by have d:=h;dsimp only at d;rw[Al a]at d;exact d
    rw[Ae,b]at h2;exact zZ h2
  | false=>
   have:List.lookup x (r.map λ(p:Vn×NameKind)=>match p with|(n,k)=>if(k == NameKind.free && env.scope.kind == .function && env.kindOf n == Vo .cell)then(n,NameKind.cell)else(n,k))=Vo k:=by
    by_cases a:(q == NameKind.free && env.scope.kind == .function && env.kindOf n == Vo .cell)=true
    .simpa only[a,if_true,Ae,b]using h
    .dsimp only at h;rw[Al a,Ae,b]at h;exact h
   exact fo (sc:=sc) this
def ix{names:List (Vn×NameKind)}{x:Vn}{k:NameKind}(h:names.lookup x=Vo k):(x,k)∈names:=PySem.mem_of_lookup h
def dE(ok:X.Ok)(a:eu sc X.env.scope=true){x:Vn}(h:(cp sc.names X.env.cells).lookup x=Vo c):X.env.cells.lookup x=Vo c:=by
 rcases iT X.env.cells sc.names [] x c h with⟨h1,h2⟩|h1
 .obtain⟨d,hd⟩:=ok.has x (lE a h1 rfl);rw[hd]at h2 ⊢;rw[h2];rfl
 .simp at h1
def iQ{x:Vn}{cells:List (Vn×Vb)}(h:(x,NameKind.free)∈sc.names):∃c,(cp sc.names cells).lookup x=Vo c:=
 Option.isSome_iff_exists.mp (pY cells sc.names [] x (.inl h))
def Inv.stk_lt(I:Inv X pins σ H s){b:Vb}(a:b∈aN X.stack):b<s.heap.objs.size:=by
 rcases zE.mp (I.stkSub b a)with e|h
 .rw[e];exact I.lt
 .obtain⟨_,o,c,_⟩:=I.ok.funs.mem h;exact zS (zo c) I.sz
def Inv.cell_lt(I:Inv X pins σ H s){x:Vn}(h:X.env.cells.lookup x=Vo c):c<s.heap.objs.size:=by obtain⟨v,q⟩:=I.cell x c h;exact q.lt
def Inv.pin_lt(I:Inv X pins σ H s){p:Vb×Obj}(h:p∈X.pn++pins):p.1<s.heap.objs.size:=zo (I.pin p h).1
def uB(I:Inv X pins σ H s){j:List Nat}{C:Nat}(n:sc.kind=.function)(d:eu sc X.env.scope=true)
  (hfp:∀b∈fp,bq X pins H b) (i:s.heap.objs.size<=C) (hlt:∀b∈fp,b<s.heap.objs.size):(cb X sc own j ⟨s,H,fp,C⟩).Ok where
 mod:=I.ok.mod
 kind:=n
 glob:=I.ok.glob
 blt:=I.ok.blt
 above:=i
 inj:=λx y c h1 h2=>I.ok.inj x y c (dE I.ok d h1) (dE I.ok d h2)
 has:=λx p=>by
  have f:(relabel sc X.env).names.lookup x=Vo .cell\/(relabel sc X.env).names.lookup x=Vo .free:=p;have go:∀k,(relabel sc X.env).names.lookup x=Vo k->(k=.cell\/k=.free)->∃c,(cp sc.names X.env.cells).lookup x=Vo c:=λk h g=>by
   obtain⟨r,h1,h2⟩:=fo (sc:=sc) (env:=X.env) h;have m:=ix h1;rcases h2 with h2|⟨h2,_⟩
   .subst h2;rcases g with e|e
    .exact absurd e (oV d m)
    .rw[e]at m;exact iQ m
   .rw[h2]at m;exact iQ m
  rcases f with h|h
  .exact go _ h (.inl rfl)
  .exact go _ h (.inr rfl)
 cab:=λx c h _=>by cases h
 hd:=I.ok.hd
 frames:=I.ok.frames
 stk:=.inl rfl
 exf:=λb a=>⟨zI (zS (hlt b a) i),λx c e=>(hfp b a).2.2.2.2.1 x c (dE I.ok d e)⟩
 bs:=I.bs
 bsz:=zT I.ok.bsz I.sz
 noex:=λb o e a=>by
  rcases(hfp b a).2.2.2.1 with z|z
  .exact I.ok.noex b o e z
  .exact absurd (zS (zo e) (zT I.ok.bsz z)) (Nat.lt_irrefl _)
 exfs:=λb a q=>by
  rcases zE.mp (I.stkSub b q)with e|h
  .exact(hfp b a).2.1 e
  .exact(hfp b a).2.2.1 h
 funs:=I.stack
 frf:=I.stkFree
def i6{a:List Nat}{i:Nat}(h:(bz n a σ)[i]?=Vo (Vo v)):∃k j,i=n+k/\a[k]?=Vo j/\σ[j]?=Vo (Vo v):=by
 unfold bz at h;by_cases hi:i<n
 .rw[zO (by simpa using hi),List.getElem?_replicate]at h;split at h<;>cases h
 .rw[zN (by simpa using Nat.le_of_not_lt hi),List.length_replicate,zr]at h;cases e:a[i-n]? with
  | none=>rw[e]at h;cases h
  | some j=>
   rw[e]at h;refine⟨i-n,j,by omega,e,?_⟩;have h':(σ[j]?).join=Vo v:=by simpa using h
   cases q:σ[j]? with
   | none=>rw[q]at h';cases h'
   | some o=>
    rw[q]at h';have:o=Vo v:=h';rw[this]
def vO(I:Inv X pins σ H s){t:List Nat}{C D:Nat}{tk:Nat}{m:Vn->Option Va}(Q:sc.kind=.function)(y:eu sc X.env.scope=true)(R:fj sc X.N t=true)
  (hfp:∀b∈fp,bq X pins H b) (hlt:∀b∈fp,b<s.heap.objs.size) (hD:D=s.heap.objs.size) (hC:C=s.heap.objs.size+1) (old:∀b o,s.heap.get? b=Vo o->h1.get? b=Vo o)
  (B:h1.get? D=Vo o) (E:∀v,o.data≠.cell v) (S:h1.Ns C m) :
  Inv (cb X sc own t ⟨s,H,fp,C⟩) [(D,o)] (bz own.length t σ) H { s with heap:=h1,toks:=tk } where
 ok:=uB I Q y hfp (show @LE.le Nat _ s.heap.objs.size C by omega) hlt
 os:=rfl
 bare:=I.bare
 base:=Un.kept old
 loc:=by
  refine⟨m,S,λi x v T U W=>?_⟩;obtain⟨k,j,rfl,M,es⟩:=i6 U;have A:(own++t.map λj=>X.N.getD j "")[own.length+k]?=Vo x:=T;rw[zN (by omega),Nat.add_sub_cancel_left,zr,M]at A;have ex:X.N.getD j "" = x:=by simpa using A
  have h:=zV.mp R j (zA M);simp only[zX,decide_eq_true_eq,beq_iff_eq]at h;have F:X.N[j]?=some x:=by rw[<-ex,List.getD_eq_getElem?_getD,zq h.1];rfl
  have a:sc.names.lookup x=some .free:=by rw[<-ex];exact h.2
  have f:=ix a;have g:=lE y f rfl;obtain⟨m0,Y,G⟩:=I.loc;obtain⟨u,r,l⟩:=G j x v F es (by rcases g with z|z;exact .inr (.inl z);exact .inr (.inr z));refine⟨u,r,?_⟩;obtain⟨c,O⟩:=iQ (cells:=X.env.cells) f;have J:=dE I.ok y O;have n:s.heap.IsCell c (Vo u):=by
   rcases l with⟨z,_⟩|⟨_,c',P,q⟩
   .have Z:X.env.scope.names.lookup x=Vo .local:=z;rcases g with w|w<;>(rw[Z]at w;cases w)
   .rw[J]at P;cases P;exact q
  have d:h1.IsCell c (Vo u):=by obtain⟨oc,K,hd⟩:=n;exact⟨oc,old c oc K,hd⟩
  right;refine⟨?_,c,O,d⟩;have L:(relabel sc X.env).names.lookup x=Vo .local\/(relabel sc X.env).names.lookup x=Vo .cell\/(relabel sc X.env).names.lookup x=Vo .free:=W;rcases L with z|z
  .obtain⟨k',z1,z2⟩:=fo (sc:=sc) (env:=X.env) z;rw[a]at z1;rcases z2 with z2|⟨_,z2⟩
   .rw[z2]at z1;cases z1
   .cases z2
  .exact z
 cell:=λx c e=>by obtain⟨v,oc,K,hd⟩:=I.cell x c (dE I.ok y e);exact⟨v,oc,old c oc K,hd⟩
 free:=I.hok.fresh (show @LE.le Nat _ s.heap.objs.size C by omega)
 freeC:=λx c e=>I.freeC x c (dE I.ok y e)
 pin:=λp hp=>by
  have e:p=(D,o):=by simpa[cb]using hp
  subst e;refine⟨B,I.hok.fresh (show @LE.le Nat _ s.heap.objs.size D by omega),?_,λz=>?_,E⟩
  .exact zI (show @LT.lt Nat _ D C by omega)
  .have h9:@LT.lt Nat _ D s.heap.objs.size:=I.stk_lt (b:=D) z;omega
 hok:=I.hok.kept old
 len:=by show(bz own.length t σ).length=(own++t.map λj=>X.N.getD j "").length;simp[bz]
def fR(J:It)(n:Nat)(h:List Nat)(g:TG)(tc:TT)(te:TE)(σ:St)(H:Hp)(Q:VK):Prop:=
 ∃W:Nat->Nat->List V->Hp->Prop,(∃m,W 0 m [] H)/\∀i m ys H',W i m ys H' ->
  (J.stop i H'/\∀p,H' p=Vp->Q (.ref p) (upd H' p (.lst ys))) ∨
  (J.go i H'/\ys.length<sizeLine/\∃N:List V->Hp->Prop,(∀a H2,N a H2->∃d,d<m/\W (i+1) d a H2)/\∀x H2,J.yld i H' x H2->g x (bz n h σ) H2 λc j=>tc c j λb f=>
   if b=true then te c f λv k=>N (ys++[v]) k else N ys f)
def iG(n:Nat)(a:List Nat)(b:TI)(g:TG)(tc:TT)(te:TE):TE:=λσ H Q=>b σ H λJ H1=>fR J n a g tc te σ H1 Q
structure TurnAt(X:Cx)(tg:Vk)(J:It)(fp:List Vb)(it:Vb)(tn:Nat->Vh->Prop):Prop where
 obj:∀i h,tn i h->∀b∈fp,∃o,h.get? b=Vo o/\∀v,o.data≠.cell v
 keep:∀i h h',tn i h->(∀b∈fp,∀o,h.get? b=Vo o->h'.get? b=Vo o)->tn i h'
 item:∀(i:Nat) (pins:List (Vb×Obj)) (s:Vc) (σ:St) (H:Hp) (E:Va->Vc->Prop),Inv X pins σ H s->(∀b∈fp,bq X pins H b)->tn i s.heap->J.go i H ->
  Vf (Vg X.prog X.w) X.A (pyNext (.ref it)) (λr s1=>∃u,r=Vo u ∧
   Vf (Vg X.prog X.w) X.A (letOwnedTupleGo tg (.ref it) u) (λ_ s2=>∃x H',Inv X pins σ H' s2/\RelV x u/\J.yld i H x H'/\tn (i+1) s2.heap/\∀b∈fp,H' b=Vp) E s1) E s
 done:∀(i:Nat) (pins:List (Vb×Obj)) (s:Vc) (σ:St) (H:Hp) (E:Va->Vc->Prop),Inv X pins σ H s->(∀b∈fp,bq X pins H b)->tn i s.heap->J.stop i H ->
  Vf (Vg X.prog X.w) X.A (pyNext (.ref it)) (λr s1=>r=Vp/\Inv X pins σ H s1) E s
 self:∀(A:Vi) (i:Nat) (s:Vc) (Q:Va->Vc->Prop) (E:Va->Vc->Prop),tn i s.heap->Q (.ref it) s->Vf (Vg X.prog X.w) A (pyIter (.ref it)) Q E s
def Turn.at_{J:It}{it:Vb}(T:Turn Y.prog Y.w Y.K tg J fp it tn)(a:Y.calm=true):TurnAt Y tg J fp it tn:=⟨T.obj,T.keep,T.item Y rfl rfl rfl a,T.done Y rfl rfl rfl a,T.self⟩
def wM{pos:Pos}{P:List Nat}{te:TE}{J:It}{it:Vb}{RR:Va->Vb->Result->Vc->Prop}{E:Va->Vc->Prop}
  {Q:VK} {W:Nat->Nat->List V->Hp->Prop} (hk:sc.kind=.function) (hb:eu sc X.env.scope=true) (hj:fj sc X.N P=true)
  (hg:∀C,PG (cb X sc own P ⟨s,H,fp,C⟩) tg g) (ht:∀C,fi (cb X sc own P ⟨s,H,fp,C⟩) ifs tc) (he:∀C,PE (cb X sc own P ⟨s,H,fp,C⟩) elt te)
  (I:Inv X pins σ H s) (T:∀C,TurnAt (cb X sc own P ⟨s,H,fp,C⟩) tg J fp it tn) (st:tn 0 s.heap) (hfp:∀b∈fp,bq X pins H b) (w0:∃m,W 0 m [] H)
  (turn:∀i m ys H',W i m ys H'->(J.stop i H'/\∀p,H' p=Vp->Q (.ref p) (upd H' p (.lst ys))) ∨
   (J.go i H'/\ys.length<sizeLine/\∃N:List V->Hp->Prop,(∀ys' H2,N ys' H2->∃m',m'<m/\W (i+1) m' ys' H2)/\∀x H2,J.yld i H' x H2->g x (bz own.length P σ) H2 λac R=>tc ac R λb H4=>
    if b=true then te ac H4 λv H5=>N (ys++[v]) H5 else N ys H4))
  (fin:∀D C s' ys H',H' D=Vp->Inv X pins σ (upd H' D (.lst ys)) s'->bq X pins (upd H' D (.lst ys)) C->(∃m,s'.heap.Ns C m)->s.heap.objs.size<=C->Q (.ref D) (upd H' D (.lst ys))->RR (.ref D) C (.ok .next) s') :
  Vf (Vg X.prog X.w) X.A (newList []) (λacc M=>Vf (Vg X.prog X.w) X.A (newFunctionEnv sc X.env.globals (cp sc.names X.env.cells) [] X.env.qual Vp .none (Vo X.env)) (λa1 ad=>
   codeAny (Vg X.prog X.w) X.A (.compStart (.ListComp elt [⟨tg,iter,ifs,0⟩] sc pos) 0 (.ref it) acc { a1 with scope:=relabel sc X.env }) (RR acc a1.locals) ad) E M) E s:=by
 have hlt:∀b∈fp,b<s.heap.objs.size:=λb f=>by obtain⟨o,e,_⟩:=(T 0).obj 0 s.heap st b f;exact zo e
 refine wpAny_newObj_type (wpAny_newFunctionEnv (λy hy=>oV hb hy) (by intro y hy;simp at hy) (λB L G=>?_) hk);dsimp only at L G ⊢;generalize a3:s.heap.push { cls:=.type "list",dict:=none,data:=.seq ([]:List Va).toArray }=H2 at L G ⊢;have b6:H2.objs.size=s.heap.objs.size+1:=by rw[<-a3,Heap.size_push]
 generalize c3:H2.objs.size=C at *;have below:∀b:Nat,b<s.heap.objs.size->b≠C:=λb f=>by omega
 have old:∀b o,s.heap.get? b=Vo o->B.get? b=Vo o:=λb o e=>G.extBut b o (below b (zo e)) (zl _ (a3 ▸ zl _ e));have b7:B.get? s.heap.objs.size=Vo (br [] 0):=G.extBut _ _ (show @Ne Nat s.heap.objs.size C by omega) (zl _ (a3 ▸ zm _ rfl));generalize a4:s.heap.objs.size=D at *;let Y:Cx:=cb X sc own P ⟨s,H,fp,C⟩;have J0:Inv Y [(D,br [] 0)] (bz own.length P σ) H { s with heap:=B,toks:=s.toks+([]:List (Vn×Va)).length }:=
  vO I hk hb hj hfp (by rw[a4];exact hlt) a4.symm (by rw[a4];exact b6) old b7 (λv z=>by cases z) L
 have a5:@Ne Nat D C:=by omega
 have statF:∀{P':List (Vb×Obj)} {H':Hp},(∀b∈fp,H' b=Vp)->(∀p∈P',p.1∉fp)->∀b∈fp,bq Y P' H' b:=λ{P' H'} hn O b f=>by
  obtain⟨f0,f1,f2,f3,f4,f5⟩:=hfp b f;refine⟨hn b f,λz=>below b (hlt b f) z,λz=>?_,.inl f,λx c e=>f4 x c (dE I.ok hb e),λp a6 z=>?_⟩
  .rcases zE.mp (I.stkSub b z)with e|h
   .exact f1 e
   .exact f2 h
  .have:p∈P':=by simpa[Y,cb]using a6
   exact O p this (by rw[z];exact f)
 have am:D∉fp:=λz=>by have h9:@LT.lt Nat _ D D:=hlt D z;omega
 have an:tn 0 B:=(T 0).keep 0 s.heap B st λb _ o e=>old b o e;have loop:∀M:Vc,M={ s with heap:=B,toks:=s.toks+([]:List (Vn×Va)).length } ->
   codeAny (Vg X.prog X.w) X.A (.compLoop (.ListComp elt [⟨tg,iter,ifs,0⟩] sc pos) 0 (.ref it) (.ref D) Y.env) (RR (.ref D) C) M:=by
  rintro M rfl;obtain⟨m0,w0⟩:=w0;refine pF (λn s'=>∃i ys t q H',Inv Y [(D,br t q)] (bz own.length P σ) H' s'/\Vals ys t/\ys.length<=sizeLine/\tn i s'.heap/\(∀b∈fp,H' b=Vp)/\W i n ys H') ?_ m0
   ⟨0,[],[],0,H,J0,.nil,Nat.zero_le _,an,λb f=>(hfp b f).1,w0⟩
  rintro n s3 ⟨i,ys,t,q,R,I3,rv,hz,ap,fr3,w3⟩;have pD:∀p∈[(D,br t q)],p.1∉fp:=λp O=>by
   have e:p=(D,br t q):=by simpa using O
   rw[e];exact am
  rcases turn i n ys R w3 with⟨stop,qn⟩|⟨go,hlen,N,hN,step⟩
  .refine ai ((T C).done i _ s3 _ R _ I3 (statF fr3 pD) ap stop) λr s4 ⟨hr,I4⟩=>?_;subst hr;show RR (.ref D) C (.ok .next) s4;have S:=I4.pin (D,br t q) (Aa _ (zB.mpr rfl));have b8:s4.heap.get? D=Vo (br t q):=S.1;have nD:R D=Vp:=S.2.1;have U:Un (aN X.stack) fp H R s.heap s4.heap:=I4.base;have neD:∀b o,s.heap.get? b=Vo o->b≠D:=λb o e=>zI (by have h9:@LT.lt Nat _ b s.heap.objs.size:=zo e;omega);have neDH:∀b o,H b=Vo o->b≠D:=λb o e=>zI (by have h9:@LT.lt Nat _ b s.heap.objs.size:=I.hok.lt e;omega);have U2:Un (aN X.stack) fp H (upd R D (.lst ys)) s.heap s4.heap:=
    ⟨U.keep,U.slot,λb o e n hx=>by rw[aq (neD b o e)];exact U.free b o e n hx,U.there,λb xs e=>by rw[aq (neDH b _ e)];exact U.tups b xs e,
     λb o u e=>by rw[aq (neDH b _ e)];exact U.frzs b o u e,λb ps e=>by rw[aq (neDH b _ e)];exact U.tbls b ps e⟩
   have as:aU X.prog X.w (upd R D (.lst ys)) s4.heap:=λb o e=>by
    by_cases f:b=D
    .subst f;rw[aI]at e;cases e;exact⟨hz,t,q,rv,b8⟩
    .rw[aq f]at e;exact(I4.hok b o e).stay (λc u _ z=>z) (λc z=>by rw[aq (bZ z nD)];exact z) λc xs z=>by rw[aq (bZ z nD)];exact z
   have IX:Inv X pins σ (upd R D (.lst ys)) s4:=I.call' (ch:=fp) I4.os U2 as I4.bare λb f=>by obtain⟨f0,f1,f2,f3,f4,f5⟩:=hfp b f;exact⟨f3,f1,f4,f5⟩
   obtain⟨m4,b9,_⟩:=I4.loc;have nC:R C=Vp:=I4.free;refine fin D C s4 ys R nD IX ?_ ⟨m4,b9⟩ (show @LE.le Nat _ D C by omega) (qn D nD);refine⟨by rw[aq (Ne.symm a5)];exact nC,?_,?_,?_,?_,?_⟩
   .have h9:@LT.lt Nat _ X.env.locals s.heap.objs.size:=I.lt;exact Nat.ne_of_gt (show @LT.lt Nat _ X.env.locals C by omega)
   .exact I.nofs (show @LE.le Nat _ s.heap.objs.size C by omega)
   .right;have h9:@LE.le Nat _ X.s₀.heap.objs.size s.heap.objs.size:=I.sz;exact(show @LE.le Nat _ X.s₀.heap.objs.size C by omega)
   .intro x c e;have h9:@LT.lt Nat _ c s.heap.objs.size:=I.cell_lt e;exact zI (show @LT.lt Nat _ c C by omega)
   .intro p O;have h9:@LT.lt Nat _ p.1 s.heap.objs.size:=I.pin_lt O;exact zI (show @LT.lt Nat _ p.1 C by omega)
  .refine ai ((T C).item i _ s3 _ R _ I3 (statF fr3 pD) ap go) λr s4 ⟨u,hr,h4⟩=>?_;subst hr;refine ai h4 λ_ s5 ⟨x,H5,I5,r5,y5,a7,be⟩=>?_;have bi:=I5.pinned (statF be pD) ((T 0).obj _ _ a7);refine ai (hg _ _ s5 _ H5 x u _ bi r5 (step x H5 y5)) λ_ s6 ⟨a0,H6,I6,q6⟩=>?_;refine ai (ht _ _ s6 a0 H6 _ I6 q6) λok s7 ⟨H7,I7,q7⟩=>?_;have back:∀{s':Vc} {b0:St} {H':Hp} {ys':List V} {its':List Va} {q':Nat},Inv Y ([(D,br its' q')]++cM fp s5.heap) b0 H' s'->Vals ys' its'->ys'.length<=sizeLine->N ys' H' ->
     ∃m,m<n/\∃i ys t q H',Inv Y [(D,br t q)] (bz own.length P σ) H' s'/\Vals ys t/\ys.length<=sizeLine/\tn i s'.heap/\(∀b∈fp,H' b=Vp)/\W i m ys H':=by
    intro s' b0 H' ys' its' q' I' bl bm nn;obtain⟨m',hm,w'⟩:=hN ys' H' nn;have hpin:∀b∈fp,∀o,s5.heap.get? b=Vo o->s'.heap.get? b=Vo o/\H' b=Vp:=λb f o e=>by have:=I'.pin (b,o) (Aa _ (Aa _ (iC f e)));exact⟨this.1,this.2.1⟩
    refine⟨m',hm,i+1,ys',its',q',H',?_,bl,bm,(T 0).keep _ _ _ a7 λb f o e=>(hpin b f o e).1,λb f=>?_,w'⟩
    .have K:=I'.unpinned;obtain⟨mm,bn,_⟩:=id K.loc;refine⟨K.ok,K.os,K.bare,K.base,⟨mm,bn,λk x v e1 e2 e3=>?_⟩,K.cell,K.free,K.freeC,K.pin,K.hok,?_⟩
     .obtain⟨m1,c4,bv⟩:=J0.loc;obtain⟨u1,r1,l1⟩:=bv k x v e1 e2 e3;refine⟨u1,r1,?_⟩;rcases l1 with⟨z,zz⟩|⟨z,c,e,zz⟩
      .exfalso;obtain⟨k',j,rfl,ej,es⟩:=i6 e2;have b1:(own++P.map λj=>X.N.getD j "")[own.length+k']?=Vo x:=e1;rw[zN (by omega),Nat.add_sub_cancel_left,zr,ej]at b1;have ex:X.N.getD j "" = x:=by simpa using b1
       have b2:=zV.mp hj j (zA ej);simp only[zX,decide_eq_true_eq,beq_iff_eq]at b2;have a8:sc.names.lookup x=some .free:=by rw[<-ex];exact b2.2
       obtain⟨k2,z1,z2⟩:=fo (sc:=sc) (env:=X.env) (show(relabel sc X.env).names.lookup x=Vo .local from z);rw[a8]at z1;rcases z2 with z2|⟨_,z2⟩
       .rw[z2]at z1;cases z1
       .cases z2
      .refine .inr ⟨z,c,e,?_⟩;have a9:X.env.cells.lookup x=Vo c:=dE I.ok hb e;obtain⟨ov,oc,b3,c5⟩:=I.cell x c a9;have b4:=old c oc b3;obtain⟨oz,bw,c0⟩:=zz;have a2:B.get? c=Vo oz:=bw;rw[b4]at a2;cases a2;have cnf:c∉fp:=λz'=>(hfp c z').2.2.2.2.1 x c a9 rfl;obtain⟨sl,hh⟩:=K.base.any b3 (I.freeC x c a9) cnf;exact⟨_,hh,c0⟩
     .show(bz own.length P σ).length=_;exact J0.len
    .obtain⟨o,e,d⟩:=(T 0).obj _ _ a7 b f;exact(hpin b f o e).2
   cases ok with
   | false=>
    rw[Al zF]at q7 ⊢;exact back I7 rv hz q7
   | true=>
    rw[Am rfl]at q7 ⊢;refine ai (he _ _ s7 a0 H7 _ I7 q7) λZ s8 ⟨v,H8,I8,r8,q8⟩=>?_;have S:=I8.pin (D,br t q) (Aa _ (Ab _ (zB.mpr rfl)));have ab:s8.heap.get? D=Vo { cls:=.type "list",data:=.seq t.toArray q }:=S.1;have hl:=rv.length;refine call_meets F.slot_list_append ⟨_,ab,rfl⟩ F.entry_list_append (F.args_list_append_2 _ _) (PySem.list_append D t.toArray q Z (by rw[zv];omega)) ⟨ab,?_⟩;have qq:=PySem.IsL.update ab (λa=>a.push Z);have eqs:t.toArray.push Z=(t++[Z]).toArray:=by simp
    rw[eqs]at qq;obtain⟨q2,c1⟩:∃q2,(s8.heap.update D (Obj.mapSeq λa=>a.push Z)).get? D=Vo (br (t++[Z]) q2):=⟨_,qq⟩;have c2:Inv Y (cM fp s5.heap) a0 H8 s8:=I8.pins_of λp O=>I8.pin p (Aa _ (Aa _ O));have b5:H8 D=Vp:=S.2.1;have I9:Inv Y (cM fp s5.heap) a0 H8 { s8 with heap:=s8.heap.update D (Obj.mapSeq λa=>a.push Z),toks:=s8.toks }:=by
     refine c2.turned (it:=D) (λb o f e=>(Heap.get?_update_other s8.heap (Obj.mapSeq λa=>a.push Z) (Ne.symm f)).trans e) b5 a5 (.inr (show @LE.le Nat _ s.heap.objs.size D by omega)) (λx c e=>?_) λp O=>?_
     .have h9:@LT.lt Nat _ c s.heap.objs.size:=I.cell_lt (dE I.ok hb e);exact zI (show @LT.lt Nat _ c D by omega)
     .have a6:p∈cM fp s5.heap:=by simpa[Y,cb]using O
      obtain⟨h1,_⟩:=jA a6;exact λz=>am (z ▸ h1)
    refine back (ys':=ys++[v]) (its':=t++[Z]) (q':=q2) (I9.pins_of λp O=>?_) (rv.append (.cons r8 .nil)) (by rw[zH,List.length_singleton];omega) q8;rcases zM.mp O with O|O
    .have e:p=(D,br (t++[Z]) q2):=by simpa using O
     subst e;refine⟨c1,b5,a5,λz=>?_,λv z=>by cases z⟩;have h9:@LT.lt Nat _ D s.heap.objs.size:=I.stk_lt (b:=D) z;omega
    .exact I9.pin p (Aa _ O)
 exact codeAny_compStart_list (loop _ rfl) ((T 0).self X.A 0 { s with heap:=B,toks:=s.toks+([]:List (Vn×Va)).length } _ _ an (loop _ rfl))
end
def qo{K:zk}{te:TE}{Q:VK}(Pv:Nat->List V->Hp->Prop)(u:xs.length<=sizeLine)(j:Pv 0 [] H)(hl:∀i ys H,i<=xs.length->Pv i ys H->ag K H a xs/\ys.length<=i)
  (k:∀i x ys H,xs[i]?=Vo x->Pv i ys H->g x (bz n f σ) H λc o=>tc c o λb h=>if b=true then te c h λv r=>Pv (i+1) (ys++[v]) r else Pv (i+1) ys h)
  (hd:∀ys H p,Pv xs.length ys H->H p=Vp->Q (.ref p) (upd H p (.lst ys))):fR (cj K a) n f g tc te σ H Q:=by
 refine⟨λi m ys H=>m=xs.length-i/\i<=xs.length/\Pv i ys H,⟨xs.length,by simp,Nat.zero_le _,j⟩,?_⟩;rintro i m ys H ⟨rfl,hi,p⟩;have q:=hl i ys H hi p;by_cases hlt:i<xs.length
 .refine .inr ⟨⟨xs,xs[i],q.1,by simp[hlt]⟩,by have:=q.2;omega,Pv (i+1),λs H' d=>⟨xs.length-(i+1),by omega,rfl,hlt,d⟩,λx H' y=>?_⟩;obtain⟨e,y⟩:=y;subst e;exact k i x ys _ (y xs q.1) p
 .have e:i=xs.length:=by omega
  subst e;exact .inl ⟨⟨xs,q.1,zJ _⟩,λd t=>hd ys H d p t⟩
def ft{K:zk}{te:TE}{Q:VK}(Pv:Nat->List V->Hp->Prop)(u:xs.length<=sizeLine)(j:Pv 0 [] H)(hl:∀i ys H,i<=xs.length->Pv i ys H->ah K H a xs/\ys.length<=i)
  (k:∀i x ys H,xs[i]?=Vo x->Pv i ys H->g x (bz n f σ) H λc o=>tc c o λb h=>if b=true then te c h λv r=>Pv (i+1) (ys++[v]) r else Pv (i+1) ys h)
  (hd:∀ys H p,Pv xs.length ys H->H p=Vp->Q (.ref p) (upd H p (.lst ys))):fR (eO K a) n f g tc te σ H Q:=by
 refine⟨λi m ys H=>m=xs.length-i/\i<=xs.length/\Pv i ys H,⟨xs.length,by simp,Nat.zero_le _,j⟩,?_⟩;rintro i m ys H ⟨rfl,hi,p⟩;have q:=hl i ys H hi p;by_cases hlt:i<xs.length
 .refine .inr ⟨⟨xs,xs[i],q.1,by simp[hlt]⟩,by have:=q.2;omega,Pv (i+1),λs H' d=>⟨xs.length-(i+1),by omega,rfl,hlt,d⟩,λx H' y=>?_⟩;obtain⟨e,y⟩:=y;subst e;exact k i x ys _ (y xs q.1) p
 .have e:i=xs.length:=by omega
  subst e;exact .inl ⟨⟨xs,q.1,zJ _⟩,λd t=>hd ys H d p t⟩
structure Cal(P:Vd)(w:Ve)(K:zk)(mg:Vn->Option Va)(base:Vh)(x:Vn)(k:Nat)(ps:List Vn)(sp:Sp):Prop where
 ex:∃(f:Vb) (fd:Vm),mg x=Vo (.ref f)/\PySem.W.keepIn K (.ref f)=true/\Binds K fd ps []/\FnOk P w K mg base cQ k f fd ps sp
structure Dfn(K:zk)(mg:Vn->Option Va)(x:Vn)(st:Vl)(ps:List Vn):Prop where
 ex:∃(f:Vb) (fd:Vm),mg x=Vo (.ref f)/\Fun K x x st f fd/\Binds K fd ps []
section
variable {P:Vd} {w:Ve} {K:zk} {mg:Vn->Option Va} {base:Vh}
theorem Dfn.ok{x:Vn}{st:Vl}{N ps:List Vn}{k:Nat}{sp:Sp}(D:Dfn K mg x st ps)(S:FnScope N ps (ay st))(len:∀vs H Q E,sp vs H Q E->vs.length=ps.length)
  (a:∀(X:Cx) (d:∃f cdv A outer s H E,X=(aJ cQ P w K mg base N x (ay st) f cdv A outer s H E).nox/\Room k X.A) (H:Hp) (vs:List V) (Q:VK) (E:XK),sp vs H Q E ->
   ∃t,bI X (bJ st) t/\t { nx:=λ_ H'=>Q .non H',rt:=Q } (start N vs) H):Cal P w K mg base x (k+1) ps sp:=by
 obtain⟨f,fd,b,F,c⟩:=D.ex;exact⟨f,fd,b,F.kp,c,F.ok S len λcdv A outer s H vs Q E hr h=>a _ ⟨f,cdv,A,outer,s,H,E,rfl,hr⟩ H vs Q E h⟩
end
section
variable {X:Cx}
def aF{x:Vn}{k j:Nat}{e:Vk}{es:List Vk}{t:TA}{p pos:Pos}(C:Cal X.prog X.w X.K X.mg X.base x j ps sp)(hr:Room k X.A)(d:PA X (e::es) t)(a:j<=k:=by decide)(g:Gl X x:=by rfl)(b:(x == ("__debug__":Vn))=false:=by decide)
  (h:starEach (e::es) X.env=(false,eval e X.env)::starEach es X.env:=by rfl) (c:(backTo pos (starEach es X.env)).any (·.1)=false:=by rfl) :
  PE X (.Call (.Name x p) (e::es) [] pos) (mj sp [] E0 t):=by
 obtain⟨f,fd,i,n,o,F⟩:=C.ex;exact tK F (hr.mono a) g i n o .nil oE d b h c
def sC:aV X (binaryOp .FloorDiv) (rI (λ_ j=>0<j/\j<2 ^ 64) λi j=>.int (i / j)):=ij λi j _ _ _ _ _ b q=>by
 have h1:(0:Int)<j:=b.1;have h2:j<2 ^ 64:=b.2;refine floordiv_int (by omega) (by rw[Int.fdiv_eq_ediv_of_nonneg i (by omega)];exact q) (.inl (PyProof.noPylong_of_log2 ?_));have c:j.natAbs≠0:=by omega
 have a:j.natAbs<2 ^ 64:=by omega
 have:=(Nat.log2_lt c).mpr a;omega
def fg(H:Hp):V->String->Prop
 | .non,n=>n = "NoneType"
 | .bl _,n=>n = "bool"
 | .int _,n=>n = "int"
 | .str _,n=>n = "str"
 | .ref a,n=>(n = "list"/\∃xs,H a=Vo (.lst xs))\/(n = "tuple"/\∃xs,H a=Vo (.tup xs))
 | _,_=>False
def fg.ty{K:zk}{x:V}{n:String}(h:fg H x n):TyOf K H x (.type n):=by
 cases x with
 | non=>cases(show n = "NoneType" from h);exact .non
 | bl b=>cases(show n = "bool" from h);exact .bl b
 | int i=>cases(show n = "int" from h);exact .int i
 | str z=>cases(show n = "str" from h);exact .str z
 | ref a=>
  rcases h with⟨rfl,xs,e⟩|⟨rfl,xs,e⟩
  .exact .lst e
  .exact .tup e
 | _=>exact False.elim h
def fu(a b c d e:Bool):String->Option Bool
 | "tuple"=>Vo a|"int"=>Vo b|"bool"=>Vo c|"list"=>Vo d|"str"=>Vo e|_=>Vp
def fL:String->String->Option Bool
 | "NoneType"=>fu false false false false false
 | "bool"=>fu false true true false false
 | "int"=>fu false true false false false
 | "str"=>fu false false false false true
 | "list"=>fu false false false true false
 | "tuple"=>fu true false false false false
 | _=>λ_=>Vp
def xt{K:zk}{n:String}{b:Bool}(h:fL n T=Vo b):PySem.W.kitOne K (.type n) (.type T)=Vo b:=by
 unfold fL at h;split at h<;>first
  | (unfold fu at h;split at h<;>first|(cases h;kernel_rfl)|cases h)
  | cases h
def oA:List V->Hp->VK->Prop:=λxs H Q=>∃x n T b,xs=[x,.ty T]/\fg H x n/\fL n T=Vo b/\Q (.bl b) H
def el:bD X (.builtin "isinstance") oA:=by intro pins s σ H xs us Q I r h;obtain⟨x,n,T,b,rfl,a,c,q⟩:=h;obtain⟨u,d,rfl,r1,f⟩:=vals2 r;cases(show d=Value.type T from f);exact sS I r1 a.ty (xt c) λtk=>⟨.bl b,H,I.tok tk,rfl,q⟩
def jg(K:zk):List V->Hp->VK->Prop:=λxs H Q=>∃p ys,xs=[.ref p]/\(ag K H p ys\/ah K H p ys)/\Q (.int ys.length) H
def vv:bD X (.builtin "len") (jg X.K):=y8
def jZ(K:zk):List V->Hp->VK->Prop:=λxs H Q=>∃p ys,xs=[.ref p]/\((ag K H p ys/\∀l,H l=Vp->Q (.ref l) (upd H l (.tup ys)))\/(ah K H p ys/\Q (.ref p) H))
def uk:bD X (.type "tuple") (jZ X.K):=yl
def qG:List V->Hp->VK->Prop:=λxs H Q=>(∃i,xs=[.int i]/\Q (.int i) H)\/∃k,xs=[.bl k]/\Q (.int (if k then 1 else 0)) H
def gn:bD X (.type "int") qG:=tF
def qF:List V->Hp->VK->Prop:=λxs H Q=>∃i j,xs=[.int i,.int j]/\Q (.int (if j>i then j else i)) H
def rn(a:X.calm=true):bD X (.builtin "max") qF:=vh a
def nN:List V->Hp->VK->Prop:=λxs H Q=>∃i j,xs=[.int i,.int j]/\Q (.int (if j<i then j else i)) H
def vq(a:X.calm=true):bD X (.builtin "min") nN:=tL a
end
def Ext(H H':Hp):Prop:=∀b o,H b=Vo o->H' b=Vo o
def Ext.rfl'(H:Hp):Ext H H:=λ_ _ h=>h
def Ext.trans{H1 H2:Hp}(a:Ext H H1)(b:Ext H1 H2):Ext H H2:=λx o h=>b x o (a x o h)
theorem Ext.none{H H':Hp}(e:Ext H H'){l:Vb}(h:H' l=Option.none):H l=Option.none:=by
 cases q:H l with
 | none=>rfl
 | some o=>rw[e l o q]at h;cases h
section
variable {X:Cx} (K:zk)
def aD(h:X.K=K:=by rfl):fT X (lC K):=by subst h;exact tV
def aE(h:X.K=K:=by rfl):fT X (jO K):=by subst h;exact w6
def nk(h:X.K=K:=by rfl):jC X (lh K):=by subst h;exact sM
def oY(h:X.K=K:=by rfl):aV X (compareOp .In) (kI K false):=by subst h;exact ue
def bV(h:X.K=K:=by rfl):bD X (.builtin "len") (jg K):=by subst h;exact vv
def fJ(h:X.K=K:=by rfl):bD X (.type "tuple") (jZ K):=by subst h;exact uk
def o5{l:Vk}(hl:PE X l tl)(h:X.K=K:=by rfl):PI X tg l (i9 K tl):=by subst h;exact uA hl
def fh{l:Vk}(hl:PE X l tl)(h:X.K=K:=by rfl):PI X tg l (jv K tl):=by subst h;exact yF hl
def ez{es:List Vk}{k:Nat}{t:cT}{pos:Pos}(b:X.calm=true)(c:fV X es t)(h:X.K=K:=by rfl)
  (d:(assignEach es X.env).length=n:=by rfl) (a:(assignEach es X.env).findIdx? (·.1)=Vp:=by rfl):PG X (.Tuple es k pos) (ir K n t):=by subst h;exact xT b c d a
def cN{o e:Vk}{es:List Vk}{t:TA}{name:Vn}{apos cpos:Pos}{id:String}(g:PlainAttrs T)(slot:Slot T name id)(f:typeOf (.builtin id)=pure (.type "method_descriptor"))(i:fH X id r)(j:PE X o to)(k:PA X (e::es) t)(h:X.K=K:=by rfl)
  (b:attributeBase o name X.env (eval o X.env)=eval o X.env:=by rfl)
  (d:((backTo cpos (starEach (e::es) X.env)).all (λx=>!x.1) && (backToKw cpos (keywordEach [] X.env)).all (λx=>x.1.isSome)
   && decide ((e::es).length+([]:List Keyword).length+(if([]:List Keyword).isEmpty then 0 else 1)<30))=true:=by rfl)
  (c:(apos.endLine == cpos.line)=true:=by rfl) (n:starEach (e::es) X.env=(false,eval e X.env)::starEach es X.env:=by rfl) (a:(backTo cpos (starEach es X.env)).any (·.1)=false:=by rfl) :
  PE X (.Call (.Attribute o name apos) (e::es) [] cpos) (mC K T r to t):=by subst h;exact vy g slot f i j k b d c n a
def rq(K:zk)(ta:TE):TT:=λσ H Q=>ta σ H λx H'=>∃k,jq K x H' k/\Q k H'
def rp{a:Vk}{ta:TE}(b:PE X a ta)(c:∀whole,isTrue a X.env whole=(do let v <-whole;standAt a.pos;holding [v] (truthy v)))(h:X.K=K:=by rfl):PT X a (rq K ta):=by subst h;exact xn b c
end
def q0(ns:List Int):TA:=λ_ H Q=>Q (ns.map V.int) H
inductive IntsE:List Vk->List Int->Prop
 | n:IntsE [] []
 | c {i j pos es ns}:IntsE es ns->IntsE (.Constant (.int i) j pos::es) (i::ns)
def yY{es:List Vk}{ns:List Int}(h:IntsE es ns):PA X es (q0 ns):=by
 induction h with
 | n=>exact ae
 | @c i j pos es ns _ a=>
  intro p pins s σ H Q I b;exact aa (e:=.Constant (.int i) j pos) af a rfl p pins s σ H Q I b
def rd_ints{ns:List Int}{R:List V->Hp->Prop}(h:R (ns.map V.int) H):q0 ns σ H R:=h
def lT(c:TT)(t u:TS):TS:=λD σ H=>∃R:St->Hp->Prop,(c σ H λb H1=>if b=true then t { D with nx:=R } σ H1 else u { D with nx:=R } σ H1)/\∀a H',R a H'->D.nx a H'
def eW{c:Vk}{a b:List Vl}{t u:TS}{pos:Pos}(g:PT X c tc)(i:bI X a t)(j:bI X b u):PS X (.If c a b pos) (lT tc t u):=by
 intro pins s σ H D I h;obtain⟨R,h,k⟩:=h;refine ai (aO g i j pins s σ H { D with nx:=R } I h) λf s1 q=>?_;cases f with
 | next=>
  obtain⟨d,H',n,q⟩:=q;exact⟨d,H',n,k d H' q⟩
 | ret v=>exact q
 | brk=>exact q
 | cont=>exact q
def rC(K:zk):V->Hp->(It->Hp->Prop)->Prop:=λx H R=>∃a,x=.ref a/\(∃xs,ag K H a xs)/\R (cj K a) H
def qT(K:zk):V->Hp->(It->Hp->Prop)->Prop:=λx H R=>∃a,x=.ref a/\(∃xs,ah K H a xs)/\R (eO K a) H
def sh:List V->Hp->(It->Hp->Prop)->Prop:=λvs H R=>∃j:Int,vs=[.int j]/\-(2 ^ 62)<=j/\j<2 ^ 62/\R (cK 0 j.toNat) H
def rW:List V->Hp->(It->Hp->Prop)->Prop:=λvs H R=>∃i j:Int,vs=[.int i,.int j]/\(-(2 ^ 62)<=i/\i<2 ^ 62/\-(2 ^ 62)<=j/\j<2 ^ 62)/\R (cK i (j-i).toNat) H
def kq(J:It)(g:TG)(tb:TS)(D:Ends)(σ:St)(H:Hp):Prop:=∃W:Nat->Nat->St->Hp->Prop,(∃m,W 0 m σ H)/\∀i m σ H,W i m σ H ->
 (J.stop i H/\D.nx σ H)\/(J.go i H/\∃N:St->Hp->Prop,(∀a H',N a H'->∃c,c<m/\W (i+1) c a H')/\∀x H',J.yld i H x H'->g x σ H' λb H2=>tb { D with nx:=N,ct:=N,bk:=D.nx } b H2)
def forL{K:zk}{D:Ends}(Pv:Nat->St->Hp->Prop)(c:Pv 0 σ H)(hl:∀i σ H,i<=xs.length->Pv i σ H->ag K H a xs)
  (d:∀i x σ H,xs[i]?=Vo x->Pv i σ H->g x σ H λb H2=>tb ⟨Pv (i+1),D.rt,D.nx,Pv (i+1)⟩ b H2) (hd:∀σ H,Pv xs.length σ H->D.nx σ H):kq (cj K a) g tb D σ H:=yM Pv c hl d hd
def forR{lo:Int}{D:Ends}(Pv:Nat->St->Hp->Prop)(b:Pv 0 σ H)
  (c:∀i σ H,i<n->Pv i σ H->g (.int (lo+i)) σ H λa H2=>tb ⟨Pv (i+1),D.rt,D.nx,Pv (i+1)⟩ a H2) (hd:∀σ H,Pv n σ H->D.nx σ H):kq (cK lo n) g tb D σ H:=uQ Pv b c hd
def fD(H:Hp)(o:HO)(R:VK):Prop:=∀p,H p=Vp->R (.ref p) (upd H p o)
section
variable {K:zk} {D:Ends} {σ:St} {H:Hp} {Q:VK} {ta tb tc te:TE} {t u:TS} {c c':TT}
def rd_seq(h:t ⟨u D,D.rt,D.bk,D.ct⟩ σ H):pH t u D σ H:=h
def rd_next(h:D.nx σ H):nG D σ H:=h
def rd_ret(h:te σ H D.rt):gX te D σ H:=h
def rd_asg(h:te σ H λx H1=>g x σ H1 D.nx):iE te g D σ H:=h
def rd_drop(h:te σ H λ_ H1=>D.nx σ H1):nt te D σ H:=h
def rd_ifS(h:c σ H λb H1=>if b=true then t D σ H1 else u D σ H1):oW c t u D σ H:=h
def dh(R:St->Hp->Prop)(h:c σ H λb H1=>if b=true then t ⟨R,D.rt,D.bk,D.ct⟩ σ H1 else u ⟨R,D.rt,D.bk,D.ct⟩ σ H1)(k:∀a H',R a H'->D.nx a H'):lT c t u D σ H:=⟨R,h,k⟩
def w8(h:c σ H λb H1=>if b=true then t D σ H1 else u D σ H1):lT c t u D σ H:=⟨D.nx,h,λ_ _ h=>h⟩
def rd_name{i:Nat}{R:St->Hp->Prop}(h:R (σ.set i (Vo v)) H):hG i v σ H R:=h
def rd_var{i:Nat}(e:σ[i]?=Vo (Vo v))(h:Q v H):jJ i σ H Q:=⟨v,e,h⟩
def rd_c(h:Q v H):tC v σ H Q:=h
def rd_op{r:R2}(h:ta σ H λx H1=>tb σ H1 λy H2=>r x y H2 Q):gZ r ta tb σ H Q:=h
def rd_un{r:V->Hp->VK->Prop}(h:ta σ H λx H1=>r x H1 Q):ng r ta σ H Q:=h
def rd_CB{r:List V->Hp->VK->Prop}{a:TA}(h:a σ H λvs H1=>r vs H1 Q):lG r a σ H Q:=h
def rd_cons{a:TA}{R:List V->Hp->Prop}(h:ta σ H λx H1=>a σ H1 λxs H2=>R (x::xs) H2):iJ ta a σ H R:=h
def rd_nil{R:List V->Hp->Prop}(h:R [] H):eP σ H R:=h
def rd_test{R:Bool->Hp->Prop}(h:te σ H λx H'=>∃k,x=.bl k/\R k H'):pI te σ H R:=h
def rd_B{R:Bool->Hp->Prop}(h:te σ H λx H'=>∃k,x=.bl k/\R k H'):tB te σ H R:=h
def rd_exb{b:Bool}{R:Bool->Prop}(h:R b):∃k,V.bl b=V.bl k/\R k:=⟨b,rfl,h⟩
def rd_not{R:Bool->Hp->Prop}(h:c σ H λb H1=>R (!b) H1):pZ c σ H R:=h
def rd_and{R:Bool->Hp->Prop}(h:c σ H λb H1=>if b=true then c' σ H1 R else R false H1):rV c c' σ H R:=h
def rd_or{R:Bool->Hp->Prop}(h:c σ H λb H1=>if b=true then R true H1 else c' σ H1 R):si c c' σ H R:=h
def rd_andV(h:ta σ H λx H1=>∃k,x=.bl k/\if k=true then tb σ H1 Q else Q (.bl false) H1):oK ta tb σ H Q:=h
def rd_orV(h:ta σ H λx H1=>∃k,x=.bl k/\if k=true then Q (.bl true) H1 else tb σ H1 Q):p5 ta tb σ H Q:=h
def rd_notV(h:ta σ H λx H1=>∃k,x=.bl k/\Q (.bl (!k)) H1):nE ta σ H Q:=h
def rd_ifE(h:c σ H λb H1=>if b=true then ta σ H1 Q else tb σ H1 Q):pM c ta tb σ H Q:=h
def rd_yes{R:Bool->Hp->Prop}(h:R true H):sk σ H R:=h
def rd_I0{g:Int->Int->V}{i j:Int}(h:Q (g i j) H):dJ g (.int i) (.int j) H Q:=⟨i,j,rfl,rfl,h⟩
def rd_I{C:Int->Int->Prop}{g:Int->Int->V}{i j:Int}(a:C i j)(h:Q (g i j) H):rI C g (.int i) (.int j) H Q:=⟨i,j,rfl,rfl,a,h⟩
def rd_U{g:Int->V}{i:Int}(h:Q (g i) H):rU g (.int i) H Q:=⟨i,rfl,h⟩
def rd_EqI{i j:Int}(h:Q (.bl (decide (i=j))) H):kf (.int i) (.int j) H Q:=⟨rfl,by
 have e:decide (V.int i=V.int j)=decide (i=j):=by rw[zW];simp
 rw[e];exact h⟩
def rd_NeI{i j:Int}(h:Q (.bl (!decide (i=j))) H):ll (.int i) (.int j) H Q:=⟨rfl,by
 have e:decide (V.int i=V.int j)=decide (i=j):=by rw[zW];simp
 rw[e];exact h⟩
def az{p:Vb}{i:Int}(e:ag K H p xs)(a:cn xs i=Vo v)(h:Q v H):lC K (.ref p) (.int i) H Q:=⟨p,xs,i,v,rfl,rfl,e,a,h⟩
def aG{p:Vb}{i:Int}(e:ah K H p xs)(a:cn xs i=Vo v)(h:Q v H):jO K (.ref p) (.int i) H Q:=⟨p,xs,i,v,rfl,rfl,e,a,h⟩
def dw{p:Vb}(e:ag K H p xs)(h:Q (.int xs.length) H):jg K [.ref p] H Q:=⟨p,xs,rfl,.inl e,h⟩
def dQ{p:Vb}(e:ah K H p xs)(h:Q (.int xs.length) H):jg K [.ref p] H Q:=⟨p,xs,rfl,.inr e,h⟩
def gg{p:Vb}(e:ag K H p xs)(h:fD H (.tup xs) Q):jZ K [.ref p] H Q:=⟨p,xs,rfl,.inl ⟨e,h⟩⟩
def eR{x:V}{n:String}{b:Bool}(a:fg H x n)(c:fL n T=Vo b)(h:Q (.bl b) H):oA [x,.ty T] H Q:=⟨x,n,T,b,rfl,a,c,h⟩
def rd_intB{k:Bool}(h:Q (.int (if k then 1 else 0)) H):qG [.bl k] H Q:=.inr ⟨k,rfl,h⟩
def rd_max2{i j:Int}(h:Q (.int (if j>i then j else i)) H):qF [.int i,.int j] H Q:=⟨i,j,rfl,h⟩
def rd_min2{i j:Int}(h:Q (.int (if j<i then j else i)) H):nN [.int i,.int j] H Q:=⟨i,j,rfl,h⟩
def rd_call{a:TA}{E:XK}(h:a σ H λvs H1=>sp (vs++[]) H1 Q E):mj sp [] E a σ H Q:=h
def rd_BM{a:TA}(h:te σ H λx H1=>fW K T x H1/\a σ H1 λxs H2=>r x xs H2 Q):mC K T r te a σ H Q:=h
def rd_tup{a:TA}(h:a σ H λxs H1=>xs.length<=sizeLine/\fD H1 (.tup xs) Q):jK a σ H Q:=h
def rd_lst{a:TA}(h:a σ H λxs H1=>xs.length<=sizeLine/\fD H1 (.lst xs) Q):qQ a σ H Q:=h
def rd_sl{r:V->Option Int->Option Int->Hp->VK->Prop}{tl th:TO}(h:te σ H λx H1=>tl σ H1 λl H2=>th σ H2 λv a=>r x l v a Q):oa r te tl th σ H Q:=h
def rd_noPart{R:Option Int->Hp->Prop}(h:R Vp H):pX σ H R:=h
def rd_part{R:Option Int->Hp->Prop}(h:te σ H λx H1=>∃i,x=.int i/\R (Vo i) H1):qR te σ H R:=h
def rd_exi{i:Int}{R:Int->Prop}(h:R i):∃k,V.int i=V.int k/\R k:=⟨i,rfl,h⟩
def rd_chain{r a:R2}(h:ta σ H λx H1=>tb σ H1 λy H2=>r x y H2 λz b=>∃k,z=.bl k/\(if k=true then tc σ b λc d=>a y c d Q else Q (.bl false) b)):mK r a ta tb tc σ H Q:=h
def rd_comp{a:List Nat}{b:TI}(h:b σ H λJ H1=>fR J n a g c te σ H1 Q):iG n a b g c te σ H Q:=h
def rd_iL(h:te σ H λx H1=>rC K x H1 R):i9 K te σ H R:=h
def rd_iT(h:te σ H λx H1=>qT K x H1 R):jv K te σ H R:=h
def lq{p:Vb}(e:ag K H p xs)(h:R (cj K p) H):rC K (.ref p) H R:=⟨p,rfl,⟨xs,e⟩,h⟩
def eY{p:Vb}(e:ah K H p xs)(h:R (eO K p) H):qT K (.ref p) H R:=⟨p,rfl,⟨xs,e⟩,h⟩
def rd_i1{a:TA}(h:a σ H λvs H1=>sh vs H1 R):om a σ H R:=h
def mT{j:Int}(h1:-(2 ^ 62)<=j/\j<2 ^ 62)(h:R (cK 0 j.toNat) H):sh [.int j] H R:=⟨j,rfl,h1.1,h1.2,h⟩
def rd_i2{a:TA}(h:a σ H λvs H1=>rW vs H1 R):pV a σ H R:=h
def vo{i j:Int}(h1:-(2 ^ 62)<=i/\i<2 ^ 62/\-(2 ^ 62)<=j/\j<2 ^ 62)(h:R (cK i (j-i).toNat) H):rW [.int i,.int j] H R:=⟨i,j,rfl,h1,h⟩
def rd_for{a:TI}(h:a σ H λJ H1=>kq J g t D σ H1):pL a g t D σ H:=h
def f6{l:Vb}(e:H l=Vo (.lst xs))(a:xs.length<sizeLine)(h:Q .non (upd H l (.lst (xs++[y])))):qX (.ref l) [y] H Q:=⟨l,xs,y,rfl,rfl,e,a,h⟩
def dC{p:Vb}(e:ag K H p xs):fW K "list" (.ref p) H:=.inl ⟨rfl,xs,e⟩
def rd_sub{a:TE}{w:iu}{R:St->Hp->Prop}(h:to σ H λo H1=>a σ H1 λi H2=>w o i v H2 λb=>R σ b):mH to a w v σ H R:=h
def j3{p:Vb}{k:Int}{j:Nat}{R:Hp->Prop}(e:H p=Vo (.lst xs))(a:di xs.length k=Vo j)(h:R (upd H p (.lst (xs.set j v)))):rf (.ref p) (.int k) v H R:=⟨p,xs,k,j,rfl,rfl,e,a,h⟩
def cZ{g:cT}{R:St->Hp->Prop}(e:ah K H a xs)(hl:xs.length=n)(h:g xs σ H R):ir K n g (.ref a) σ H R:=⟨a,xs,rfl,e,hl,h⟩
def rd_gcons{b:cT}{r:List V}{R:St->Hp->Prop}(h:g v σ H λa H'=>b r a H' R):oo g b (v::r) σ H R:=⟨v,r,rfl,h⟩
def rd_gnil{R:St->Hp->Prop}(h:R σ H):se [] σ H R:=⟨rfl,h⟩
def kj{l b:Vb}{zs:List V}(a:H l=Vo (.lst xs))(c:H b=Vo (.lst zs))(d:xs.length+zs.length<=sizeLine)(h:fD H (.lst (xs++zs)) Q):rB (.ref l) (.ref b) H Q:=⟨l,b,xs,zs,rfl,rfl,a,c,d,h⟩
def qO{lo hi:Option Int}(e:ag K H a xs)(h:fD H (.lst (dP xs lo hi)) Q):lh K (.ref a) lo hi H Q:=⟨a,xs,rfl,e,h⟩
def mQ{x:V}{p:Vb}(e:ag K H p xs\/ah K H p xs)(f:de x=true)(fs:xs.all de=true)(h:Q (.bl (if neg then !bM x xs else bM x xs)) H):kI K neg x (.ref p) H Q:=⟨p,xs,rfl,e,f,fs,h⟩
def rd_tTru{R:Bool->Hp->Prop}(h:te σ H λx H'=>∃k,jq K x H' k/\R k H'):rq K te σ H R:=h
def cE{o:HO}{R:VK}(h:∀p H',Ext H H'->H' p=Vo o->H p=Vp->R (.ref p) H'):fD H o R:=λp a=>
 h p _ (λb u e=>by rw[aq (bZ e a)];exact e) aI a
def bF{p:Vb}{o:HO}(a:H p=Vp):Ext H (upd H p o):=λb u e=>by rw[aq (bZ e a)];exact e
def ag.ext{p:Vb}(e:Ext H H')(h:ag K H p xs):ag K H' p xs:=by
 rcases h with(h|⟨o,h⟩)|h
 .exact .inl (.inl (e _ _ h))
 .exact .inl (.inr ⟨o,e _ _ h⟩)
 .exact .inr h
end
def xp{α:Type}{xs:List α}{i:Int}{v:α}(a:0<=i)(h:xs[i.toNat]?=Vo v):cn xs i=Vo v:=by
 have:=bf h
 rwa [Int.toNat_of_nonneg a]at this
def jL{i:Int}(a:0<=i)(h:i<n):di n i=Vo i.toNat:=by unfold di;rw[Am a,Am h]
def cH:V->PyData->Prop
 | .non,.none=>True
 | .bl b,.bool c=>b=c
 | .int i,.int j=>i=j
 | .str x,.str y=>x=y/\(PyData.str y).canLay0=true
 | _,_=>False
def aS(H:Hp):Nat->V->PyData->Prop
 | 0,x,d=>cH x d
 | n+1,x,d=>cH x d\/∃a xs ds,x=.ref a/\((H a=Vo (.tup xs)/\d=.tuple ds)\/(H a=Vo (.lst xs)/\d=.list ds))/\Paired (aS H n) xs ds
section
variable {X:Cx} {pins:List (Vb×Obj)} {σ:St} {H:Hp} {s:Vc}
def cH.reads{x:V}{d:PyData}(h:cH x d)(r:RelV x u):∃a,Reads s.heap u d a:=by
 cases x with
 | non=>cases d<;>first|exact False.elim h|(cases r;exact⟨_,.none⟩)
 | bl b=>cases d<;>first|exact False.elim h|(cases(show b=_ from h);cases r;exact⟨_,.bool _⟩)
 | int i=>cases d<;>first|exact False.elim h|(cases(show i=_ from h);obtain⟨t,rfl⟩:=r;exact⟨_,.int _ t⟩)
 | str z=>cases d<;>first|exact False.elim h|(cases(show z=_/\_ from h).1;obtain⟨t,rfl⟩:=r;exact⟨_,.str _ t⟩)
 | _=>cases d<;>exact False.elim h
def cH.lay{x:V}{d:PyData}(h:cH x d):d.canLay0=true/\d.depth=0:=by cases x<;>cases d<;>first|exact False.elim h|exact ⟨rfl,rfl⟩|exact ⟨h.2,rfl⟩
theorem lL{R:V->PyData->Prop}(b:∀{x:V} {d:PyData} {u:Va},R x d->RelV x u->∃a,Reads s.heap u d a):∀{xs:List V} {ds:List PyData} {us:List Va},Paired R xs ds->Vals xs us->∃a,ReadsAll s.heap us ds a
 | _,_,_,.nil,.nil=>⟨_,.nil⟩
 | _,_,_,.cons h t,.cons r rt=>by obtain⟨a,c⟩:=b h r;obtain⟨bs,f⟩:=lL b t rt;exact⟨_,.cons c f⟩
theorem aS.reads(I:Inv X pins σ H s):∀(n:Nat) {x:V} {d:PyData} {u:Va},aS H n x d->RelV x u->∃b,Reads s.heap u d b
 | 0,_,_,_,h,r=>cH.reads h r
 | n+1,x,d,u,h,r=>by
  rcases h with h|⟨a,xs,ds,rfl,p,j⟩
  .exact cH.reads h r
  .cases r;rcases p with⟨e,rfl⟩|⟨e,rfl⟩
   .obtain⟨c,f,⟨o,g,q,k,hd⟩,_⟩:=I.tuple (ah.of e);obtain⟨b,i⟩:=lL (λ{x d u}=>aS.reads I n) j f;exact⟨_,.tuple g q hd (by simpa using i)⟩
   .obtain⟨c,k,f,g,_⟩:=I.lst e;obtain⟨b,i⟩:=lL (λ{x d u}=>aS.reads I n) j f;exact⟨_,.list g rfl rfl (by simpa using i)⟩
theorem ie{R:V->PyData->Prop}{m:Nat}(a:∀{x:V} {d:PyData},R x d->d.canLay0=true/\d.depth<=m):∀{xs:List V} {ds:List PyData},Paired R xs ds->PyData.canLayAll0 ds=true/\PyData.depthAll ds<=m
 | _,_,.nil=>⟨rfl,Nat.zero_le _⟩
 | _,_,.cons h t=>by
  obtain⟨h1,h2⟩:=a h;obtain⟨b,c⟩:=ie a t;refine⟨?_,?_⟩
  .simp only[PyData.canLayAll0,h1,b,Bool.and_self]
  .simp only[PyData.depthAll];exact Nat.max_le.mpr ⟨h2,c⟩
theorem aS.lay:∀(n:Nat) {x:V} {d:PyData},aS H n x d->d.canLay0=true/\d.depth<=n
 | 0,_,_,h=>⟨(cH.lay h).1,Nat.le_of_eq (cH.lay h).2⟩
 | n+1,x,d,h=>by
  rcases h with h|⟨a,xs,ds,rfl,b,c⟩
  .exact⟨(cH.lay h).1,by rw[(cH.lay h).2];exact Nat.zero_le _⟩
  .obtain⟨h1,h2⟩:=ie (λ{x d}=>aS.lay n) c;rcases b with⟨e,rfl⟩|⟨e,rfl⟩
   .exact⟨h1,Nat.succ_le_succ h2⟩
   .exact⟨h1,Nat.succ_le_succ h2⟩
def hU(neg:Bool):R2:=λx y H Q=>∃n m d e,aS H n x d/\aS H m y e/\n<=50/\Q (.bl (if neg then !PyData.eqv d e else PyData.eqv d e)) H
def iL{k:Nat}(hr:Room k X.A):aV X (compareOp .Eq) (hU false):=by intro pins s σ H x y v u Q I a b h;obtain⟨n,m,d,e,h1,h2,c,q⟩:=h;obtain⟨g,ra⟩:=aS.reads I n h1 a;obtain⟨bs,f⟩:=aS.reads I m h2 b;have l1:=aS.lay n h1;have l2:=aS.lay m h2;have i:=hr.units;have j:min d.depth e.depth<=50:=zT (Nat.min_le_left _ _) (zT l1.2 c);exact SeqAt.compareEq_reads ra f l1.1 l2.1 (by omega) ⟨.bl _,H,I,rfl,q⟩
def gD{k:Nat}(hr:Room k X.A):aV X (compareOp .NotEq) (hU true):=by intro pins s σ H x y v u Q I a b h;obtain⟨n,m,d,e,h1,h2,c,q⟩:=h;obtain⟨g,ra⟩:=aS.reads I n h1 a;obtain⟨bs,f⟩:=aS.reads I m h2 b;have l1:=aS.lay n h1;have l2:=aS.lay m h2;have i:=hr.units;have j:min d.depth e.depth<=50:=zT (Nat.min_le_left _ _) (zT l1.2 c);exact SeqAt.compareNe_reads ra f l1.1 l2.1 (by omega) ⟨.bl _,H,I,rfl,q⟩
end
def ug(K:zk):List V->Hp->VK->Prop:=λxs H Q=>∃(p:Vb) (bs:List Bool),xs=[.ref p]/\ag K H p (bs.map V.bl)/\Q (.bl (bs.all id)) H
theorem nJ:∀{bs:List Bool} {us:List Va},Vals (bs.map V.bl) us->us=bs.map Value.bool
 | [],_,r=>by cases r;rfl
 | b::bs,_,r=>by
  cases r with
  | cons r t=>cases r;rw[nJ t];rfl
def all_range(bs:List Bool):((Ai bs.length).all λi=>bs.getD i false)=bs.all id:=by
 rw[zW,zV,zV];constructor
 .intro h b c;obtain⟨i,hi,e⟩:=List.mem_iff_getElem.mp c;have:=h i (List.mem_range.mpr hi);rw[List.getD_eq_getElem?_getD,zq hi]at this;rw[<-e];exact this
 .intro h i hi;have a:=List.mem_range.mp hi;rw[List.getD_eq_getElem?_getD,zq a];exact h _ (zP a)
def kz(K:zk)(t:X.calm=true)(w:X.K=K:=by rfl):bD X (.builtin "all") (ug K):=by
 subst w;intro pins s σ H xs us Q I r h;obtain⟨p,bs,rfl,x,q⟩:=h;obtain⟨u,rfl,y⟩:=vals1 r;cases y;obtain⟨d,k,pl,R⟩:=I.list x;have z:=nJ k;have f:p≠s.heap.objs.size:=zI (by obtain⟨o,n,e,_⟩:=pl;exact zo e);refine call_all_walk (wpAny_pyIter_list pl.isList ?_);have B:Inv X pins σ H { s with heap:=s.heap.push { cls:=.type "list_iterator",data:=.fields #[.ref p,.int 0 0] } }:=I.kept (t':=s.toks) λb o e=>zl _ e;have C:=I.fpOk (H':=H) (zJ s.heap.objs.size) I.fresh;refine⟨s.heap.objs.size,_,_,_,_,_,(λi=>bs.getD i false),rfl,Walks.list (A:=X.A.in1) (I.ok.hd t) _ p f d.toArray,⟨⟨_,zm _ rfl,rfl,rfl⟩,?_⟩,?_,λh' tk E=>?_⟩
 .exact pl.isList.push _
 .intro i v s' F S hv G;rw[z]at hv;have a:(bs.map Value.bool)[i]?=Vo v:=by simpa using hv
  rw[zr]at a;cases g:bs[i]? with
  | none=>rw[g]at a;cases a
  | some b=>
   rw[g]at a;cases a;have j:bs.getD i false=b:=by rw[List.getD_eq_getElem?_getD,g];rfl
   have c:F (bs.getD i false) s':=G;rw[j]at c;exact wpAny_truthy_bool c
 .obtain⟨J,L,T,M,N,O⟩:=C;have hl:=k.length;rw[zp]at hl;refine⟨.bl (bs.all id),H,B.turned (it:=s.heap.objs.size) (λb o P e=>E b o (by simpa using P) e) J L M N O,?_,q⟩;show Value.bool _=Value.bool _;rw[zv,<-hl,all_range]
def rE(c:TT)(tb:TS):TS:=λD σ H=>∃(W:Nat->St->Hp->Prop) (R:St->Hp->Prop),(∃m,W m σ H)/\(∀m σ H,W m σ H ->
 c σ H λb H1=>if b=true then ∃N:St->Hp->Prop,(∀a H',N a H'->∃d,d<m/\W d a H')/\tb ⟨N,D.rt,R,N⟩ σ H1 else R σ H1)/\∀σ H,R σ H->D.nx σ H
def qN{pos:Pos}{c:Vk}{body:List Vl}(b:PassesOwn (Vg X.prog X.w) X.A X.env X.xe)(d:PT X c tc)(g:bI X body tb):PS X (.While c body [] pos) (rE tc tb):=by
 intro pins s σ H D I h;obtain⟨W,R,w0,i,j⟩:=h;refine ai (ye b d g pins s σ H { D with nx:=R } I ⟨W,w0,i⟩) λf s1 q=>?_;cases f with
 | next=>
  obtain⟨a,H',k,q⟩:=q;exact⟨a,H',k,j a H' q⟩
 | ret v=>exact q
 | brk=>exact q
 | cont=>exact q
section
variable {D:Ends} {σ:St} {H:Hp} {Q:VK} {te:TE} {t:TS} {c:TT}
def mS(W:Nat->St->Hp->Prop)(R:St->Hp->Prop)(m:Nat)(f:W m σ H)(g:∀m σ H,W m σ H->c σ H λb H1=>if b=true then ∃N:St->Hp->Prop,(∀a H',N a H'->∃d,d<m/\W d a H')/\t ⟨N,D.rt,R,N⟩ σ H1 else R σ H1)(k:∀σ H,R σ H->D.nx σ H):rE c t D σ H:=⟨W,R,⟨m,f⟩,g,k⟩
end
section
variable {prog:Vd} {w:Ve} {A:Vi} {E:Va->Vc->Prop} {s:Vc}
def uW{it t:Vb}{i:Nat}{x:Va}{Q:Va->Vc->Prop}(c:s.heap.IsTupleIter it t i)(gt:s.heap.IsTuple t ys)(d:ys[i]?=Vo x)
  (q:∀h',h'.IsTupleIter it t (i+1)->Heap.SameBut it s.heap h'->Q x { s with heap:=h' }):Vf (Vg prog w) A (Builtin.SmallTypes.nextOf (.ref it)) Q E s:=by
 obtain⟨u,b,f,a⟩:=id c;obtain⟨v,g,_,k,h⟩:=gt;unfold Builtin.SmallTypes.nextOf;refine zi (Ah (name:=zY "__next__") c.typeIs F.slot_tuple_iterator_next (wpAny_call_entry F.slot_tuple_iterator_next c.typeIs F.entry_tuple_iterator_next ?_ (F.args_tuple_iterator_next_1 _)));show Vf _ _ (field (Value.ref it) 0 >>= _) _ _ s;refine zi (wpAny_field b a (x:=Value.ref t) rfl ?_);show Vf _ _ (if(Value.ref t == Value.none)=true then _ else _) _ _ s;rw[Al (show ¬(Value.ref t == Value.none)=true from zF)];show Vf _ _ (field (Value.ref it) 1 >>= _) _ _ s;refine zi (wpAny_field b a (x:=Value.int i 0) rfl ?_);show Vf _ _ (seqItems? (Value.ref t) >>= _) _ _ s;refine zi (wpAny_seqItems g h ?_);simp only[zD,d];refine zi (wpAny_setField b a (by simp) (zj ⟨x,rfl,zj (q _ ?_ (Heap.SameBut.update ..))⟩));exact⟨_,Heap.get?_update_self _ b (Obj.isFreed_of_fields (Obj.data_mapFields a _)),(Obj.cls_mapFields ..).trans f,by rw[Obj.data_mapFields a];simp[rawInt]⟩
def wF{it t:Vb}{i:Nat}{Q:Va->Vc->Prop}(f:A.handled=Vp)(b:s.heap.IsTupleIter it t i)(gt:s.heap.IsTuple t ys)(g:ys[i]?=Vp)
  (q:∀h' e,Heap.ExtBut it s.heap h'->(∃o,h'.get? e=Vo o/\o.cls=.type "StopIteration")->E (.ref e) { s with heap:=h' }):Vf (Vg prog w) A (Builtin.SmallTypes.nextOf (.ref it)) Q E s:=by
 obtain⟨u,c,n,d⟩:=id b;obtain⟨v,h,_,k,j⟩:=gt;unfold Builtin.SmallTypes.nextOf;refine zi (Ah (name:=zY "__next__") b.typeIs F.slot_tuple_iterator_next (wpAny_call_entry F.slot_tuple_iterator_next b.typeIs F.entry_tuple_iterator_next ?_ (F.args_tuple_iterator_next_1 _)));show Vf _ _ (field (Value.ref it) 0 >>= _) _ _ s;refine zi (wpAny_field c d (x:=Value.ref t) rfl ?_);show Vf _ _ (if(Value.ref t == Value.none)=true then _ else _) _ _ s;rw[Al (show ¬(Value.ref t == Value.none)=true from zF)];show Vf _ _ (field (Value.ref it) 1 >>= _) _ _ s;refine zi (wpAny_field c d (x:=Value.int i 0) rfl ?_);show Vf _ _ (seqItems? (Value.ref t) >>= _) _ _ s;refine zi (wpAny_seqItems h j ?_);simp only[zD,g];refine zi (wpAny_rule (zi (wpAny_setField c d (by simp) ?_)));show Vf _ _ (newExc (Value.type "StopIteration") [] >>= _) _ _ _;refine zi ?_;simp only[newExc,newTuple];refine zi (wpAny_newObj_type (hd:=by size_fits) ?_);refine zi (m:=firstArgMember _ _) (wpAny_of_eq (a:=Value.none) (by first|rfl|(unfold firstArgMember;rfl)) ?_);refine wpAny_newObj_type (hd:=by size_fits) ?_;simp only[raiseNew];refine zi (wpAny_handled ?_)
 first|rw [show Around.handled A.in1=Vp from f]|rw [f]
 refine zi (zj (wpAny_throw ?_));exact q _ _ (((Heap.SameBut.update ..).extBut.push _).push _) ⟨_,zm _ rfl,rfl⟩
end
structure Sub(P:Vd)(w:Ve)(K:zk)(J:It)(it:Vb)(tn:Nat->Vh->Prop):Prop where
 obj:∀i h,tn i h->∃o,h.get? it=Vo o/\∀v,o.data≠.cell v
 keep:∀i h h',tn i h->(∀o,h.get? it=Vo o->h'.get? it=Vo o)->tn i h'
 item:∀(X:Cx),X.prog=P->X.w=w->X.K=K->∀(A:Vi) (i:Nat) (pins:List (Vb×Obj)) (s:Vc) (σ:St) (H:Hp) (Q:Va->Vc->Prop) (E:Va->Vc->Prop),Inv X pins σ H s->bq X pins H it->tn i s.heap->J.go i H ->
  (∀x u h',Inv X pins σ H { s with heap:=h' }->RelV x u->J.yld i H x H->tn (i+1) h'->Heap.SameBut it s.heap h'->Q u { s with heap:=h' })->Vf (Vg P w) A (Builtin.SmallTypes.nextOf (.ref it)) Q E s
 done:∀(X:Cx),X.prog=P->X.w=w->X.K=K->∀(A:Vi),A.handled=Vp->∀(i:Nat) (pins:List (Vb×Obj)) (s:Vc) (σ:St) (H:Hp) (Q:Va->Vc->Prop) (E:Va->Vc->Prop),Inv X pins σ H s->bq X pins H it->tn i s.heap->J.stop i H ->
  (∀h' e,Heap.ExtBut it s.heap h'->(∃o,h'.get? e=Vo o/\o.cls=.type "StopIteration")->E (.ref e) { s with heap:=h' })->Vf (Vg P w) A (Builtin.SmallTypes.nextOf (.ref it)) Q E s
def yP{K:zk}(a it:Vb):Sub P w K (cj K a) it (λi h=>h.IsListIter it a i) where
 obj:=λi h st=>by obtain⟨o,e,c,d⟩:=st;exact⟨o,e,λv z=>by rw[d]at z;cases z⟩
 keep:=λi h h' st k=>st.at k
 item:=by intro X g j n A i pins s σ H Q E I C st q F;subst g j n;obtain⟨xs,x,f,r⟩:=q;obtain⟨t,y,p,G⟩:=I.list f;obtain⟨u,J,L⟩:=y.get r;obtain⟨M,N,Z,O,R,S⟩:=C;exact wpAny_nextOf_list_item st p.isList (x:=u) (by simpa using J) λh' B sb=>F x u h' (I.turned (t':=s.toks) (it:=it) (λb o T e=>(sb.2 b T).trans e) M N O R S) L ⟨rfl,λys U=>by rw[I.list_inj U f];exact r⟩ B sb
 done:=by intro X g j n A W i pins s σ H Q E I C st q Y;subst g j n;obtain⟨xs,f,r⟩:=q;obtain⟨t,y,p,G⟩:=I.list f;have hl:=y.length;exact wpAny_nextOf_list_end W st p.isList (by simp;omega) Y
def wX{K:zk}(a it:Vb):Sub P w K (eO K a) it (λi h=>h.IsTupleIter it a i) where
 obj:=λi h st=>by obtain⟨o,e,c,d⟩:=st;exact⟨o,e,λv z=>by rw[d]at z;cases z⟩
 keep:=λi h h' st k=>st.at k
 item:=by intro X j n q A i pins s σ H Q E I C st r F;subst j n q;obtain⟨xs,x,g,t⟩:=r;obtain⟨f,y,p,G⟩:=I.tuple g;obtain⟨u,J,L⟩:=y.get t;obtain⟨M,N,Z,O,R,S⟩:=C;exact uW st (show s.heap.IsTuple a f.toArray from p) (x:=u) (by simpa using J) λh' B sb=>F x u h' (I.turned (t':=s.toks) (it:=it) (λb o T e=>(sb.2 b T).trans e) M N O R S) L ⟨rfl,λys U=>by rw[I.tuple_inj U g];exact t⟩ B sb
 done:=by intro X j n q A W i pins s σ H Q E I C st r Y;subst j n q;obtain⟨xs,g,t⟩:=r;obtain⟨f,y,p,G⟩:=I.tuple g;have hl:=y.length;exact wF W st (show s.heap.IsTuple a f.toArray from p) (by simp;omega) Y
def ml(a b:It):It:=⟨λi H=>a.go i H/\b.go i H,λi H x H'=>∃p u v,x=.ref p/\H p=Vp/\H'=upd H p (.tup [u,v])/\a.yld i H u H/\b.yld i H v H,λi H=>a.stop i H\/(a.go i H/\b.stop i H)⟩
structure Apart(z TI TO i1 i2:Vb):Prop where
 a:TI≠z
 b:TO≠z
 c:i1≠z
 d:i2≠z
 e:TI≠TO
 f:TI≠i1
 g:TI≠i2
 h:TO≠i1
 i:TO≠i2
 j:i1≠i2
section
variable {X:Cx} {pins:List (Vb×Obj)} {σ:St} {H:Hp} {s:Vc}
def Inv.same{it:Vb}{k:Vh}(I:Inv X pins σ H { s with heap:=k })(f:bq X pins H it)(b:Heap.ExtBut it k h'):Inv X pins σ H { s with heap:=h' }:=by obtain⟨a,d,n,g,h,i⟩:=f;exact Inv.turned (s:={ s with heap:=k }) (t':=s.toks) (it:=it) I (λc o j e=>b c o j e) a d g h i
def yo{J1 J2:It}{z TI TO:Vb}{T U:Nat->Vh->Prop}{A:Vi}{E:Va->Vc->Prop}{a b:Va}{i:Nat}{Q:Va->Vc->Prop}(J:Sub X.prog X.w X.K J1 i1 T)(W:Sub X.prog X.w X.K J2 i2 U)(N:Apart z TI TO i1 i2)
  (I:Inv X pins σ H s) (Y:∀b∈[z,TI,TO,i1,i2],bq X pins H b) (M:IsZip s.heap z TI TO .none) (gI:IsPair s.heap TI (.ref i1) (.ref i2)) (gO:IsPair s.heap TO a b) (g1:T i s.heap) (g2:U i s.heap) (a0:J1.go i H) (go2:J2.go i H)
  (q:∀x y h',Inv X pins σ (upd H s.heap.objs.size (.tup [x,y])) { s with heap:=h' }->J1.yld i H x H->J2.yld i H y H->IsZip h' z TI TO (rawInt s.heap.objs.size)->IsPair h' TI (.ref i1) (.ref i2)->(∃a b,IsPair h' TO a b)->T (i+1) h'->U (i+1) h'->Q (.ref s.heap.objs.size) { s with heap:=h' }) :
  Vf (Vg X.prog X.w) A (Builtin.«zip.__next__» ⟨[.ref z],[]⟩) (λfin s'=>∃v,fin=.done (.ret v)/\Q v s') E s:=by
 have fz:=Y z (by simp);have fO:=Y TO (by simp);have f1:=Y i1 (by simp);have f2:=Y i2 (by simp);show Vf _ _ (field (Value.ref z) 2 >>= _) _ _ _;refine zi (wpAny_field M rfl (x:=Value.bool false) rfl ?_);show Vf _ _ (field (Value.ref z) 3 >>= _) _ _ _;refine zi (wpAny_field M rfl (x:=Value.ref TI) rfl ?_);refine zi (wpAny_seqItems gI rfl ?_);show Vf _ _ (Builtin.SmallTypes.ownedTupleIsFree (Value.ref z) >>= _) _ _ _;refine zi ?_;unfold Builtin.SmallTypes.ownedTupleIsFree;refine zi (wpAny_field M rfl (x:=Value.none) rfl (zj ?_));simp only[if_true];refine zi (wpAny_rule ?_);refine zi (wpAny_field M rfl (x:=Value.ref TO) rfl ?_);refine zi (wpAny_setField_rec M (by simp) λk1 u p=>?_)
 replace u:IsZip k1 z TI TO .ellipsis:=u
 have s1:=p.1
 replace p:=p.extBut
 have I1:Inv X pins σ H { s with heap:=k1 }:=Inv.same (show Inv X pins σ H { s with heap:=s.heap }from I) fz p;refine zi ?_;simp only[List.zipIdx_cons,List.zipIdx_nil,List.forIn_cons,List.forIn_nil];refine zi (zi (wpAny_onRaise ?_));show Vf _ _ (Builtin.SmallTypes.nextOf (Value.ref i1) >>= _) _ _ _;refine zi (J.item X rfl rfl rfl _ i pins _ σ H _ _ I1 f1 (J.keep i _ _ g1 λo e=>p _ _ N.c e) a0 λx L k2 I2 rx yx a1 B=>zj ?_)
 replace I2:Inv X pins σ H { s with heap:=k2 }:=I2
 have s2:=B.1
 replace B:=B.extBut
 have O:IsPair k2 TO a b:=B _ _ N.h (p _ _ N.b gO);refine zi (wpAny_seqItems O rfl ?_);refine zi (wpAny_updateSeq_pair O λk3 C r=>?_)
 replace C:IsPair k3 TO L b:=C
 have s3:=r.1
 replace r:=r.extBut
 have I3:Inv X pins σ H { s with heap:=k3 }:=Inv.same I2 fO r;refine zi (wpAny_letGo (zj ?_));refine zi (zi (wpAny_onRaise ?_));show Vf _ _ (Builtin.SmallTypes.nextOf (Value.ref i2) >>= _) _ _ _;refine zi (W.item X rfl rfl rfl _ i pins _ σ H _ _ I3 f2 (W.keep i _ _ g2 λo e=>r _ _ (Ne.symm N.i) (B _ _ (Ne.symm N.j) (p _ _ N.d e))) go2 λy Z k4 I4 ry yy a2 F=>zj ?_)
 replace I4:Inv X pins σ H { s with heap:=k4 }:=I4
 have s4:=F.1
 replace F:=F.extBut
 have P:IsPair k4 TO L b:=F _ _ N.i C;refine zi (wpAny_seqItems P rfl ?_);refine zi (wpAny_updateSeq_pair P λk5 k t=>?_)
 replace k:IsPair k5 TO L Z:=k
 have s5:=t.1
 replace t:=t.extBut
 have I5:Inv X pins σ H { s with heap:=k5 }:=Inv.same I4 fO t;refine zi (wpAny_letGo (zj (zj ?_)));refine zi (wpAny_seqItems k rfl ?_);refine zi (wpAny_newTuple ?_);have sz:k5.objs.size=s.heap.objs.size:=by rw[s5,s4,s3,s2,s1]
 have R:IsZip k5 z TI TO .ellipsis:=t _ _ (Ne.symm N.b) (F _ _ (Ne.symm N.d) (r _ _ (Ne.symm N.b) (B _ _ (Ne.symm N.c) u)));have a3:IsPair k5 TI (.ref i1) (.ref i2):=t _ _ N.e (F _ _ N.g (r _ _ N.e (B _ _ N.f (p _ _ N.a gI))));have a4:T (i+1) k5:=J.keep _ _ _ (J.keep _ _ _ (J.keep _ _ _ a1 λo e=>r _ _ (Ne.symm N.h) e) λo e=>F _ _ N.j e) λo e=>t _ _ (Ne.symm N.h) e;have a5:U (i+1) k5:=W.keep _ _ _ a2 λo e=>t _ _ (Ne.symm N.i) e;have lz:z<k5.objs.size:=zo R;have I6:Inv X pins σ (upd H k5.objs.size (.tup [x,y])) { s with heap:=k5.push { cls:=.type "tuple",data:=.seq #[L,Z] } }:=
  I5.laid (t':=s.toks) (o:=.tup [x,y]) (λb ob e=>zl _ e) (zJ _) ⟨by show 2<=sizeLine;decide,[L,Z],.cons rx (.cons ry .nil),IsTup.new _ _⟩
 have S:bq X pins (upd H k5.objs.size (.tup [x,y])) z:=by obtain⟨c0,c1,c2,c3,c4,c5⟩:=fz;exact⟨by rw[aq (zI lz)];exact c0,c1,c2,c3,c4,c5⟩
 show Vf _ _ (Builtin.SmallTypes.ownedTupleHandOut (Value.ref z) (Value.ref k5.objs.size) >>= _) _ _ _;refine zi ?_;unfold Builtin.SmallTypes.ownedTupleHandOut;have a6:IsZip (k5.push { cls:=.type "tuple",data:=.seq #[L,Z] }) z TI TO .ellipsis:=zl _ R;refine zi (wpAny_setField_rec a6 (by simp) λk7 G b7=>?_)
 replace G:IsZip k7 z TI TO (rawInt k5.objs.size):=G
 replace b7:=b7.extBut
 have I7:Inv X pins σ (upd H k5.objs.size (.tup [x,y])) { s with heap:=k7 }:=Inv.same I6 S b7;refine wpAny_setField_rec G (by simp) λk8 n b8=>?_
 replace n:IsZip k8 z TI TO (rawInt k5.objs.size):=n
 replace b8:=b8.extBut
 have I8:Inv X pins σ (upd H k5.objs.size (.tup [x,y])) { s with heap:=k8 }:=Inv.same I7 S b8;have up:∀b o,b≠z->k5.get? b=Vo o->k8.get? b=Vo o:=λb o ne e=>b8 _ _ ne (b7 _ _ ne (zl _ e));rw[sz]at I8 n;refine zj ⟨_,rfl,?_⟩;show Q (.ref k5.objs.size) _;rw[sz];exact q x y k8 I8 yx yy n (up _ _ N.a a3) ⟨_,_,up _ _ N.b k⟩ (J.keep _ _ _ a4 λo e=>up _ o N.c e) (W.keep _ _ _ a5 λo e=>up _ o N.d e)
def tY{G S:It}{z TI TO:Vb}{J T:Nat->Vh->Prop}{E:Va->Vc->Prop}{a b:Va}{i:Nat}{Q:Fin->Vc->Prop}(U:A.handled=Vp)(L:Sub X.prog X.w X.K G i1 J)(W:Sub X.prog X.w X.K S i2 T)(N:Apart z TI TO i1 i2)
  (I:Inv X pins σ H s) (F:∀b∈[z,TI,TO,i1,i2],bq X pins H b) (t:IsZip s.heap z TI TO .none) (gI:IsPair s.heap TI (.ref i1) (.ref i2)) (gO:IsPair s.heap TO a b) (g1:J i s.heap) (g2:T i s.heap) (st:G.stop i H\/(G.go i H/\S.stop i H))
  (q:∀h' e,Inv X pins σ H { s with heap:=h' }->(∃o,h'.get? e=Vo o/\o.cls=.type "StopIteration")->E (.ref e) { s with heap:=h' }) :
  Vf (Vg X.prog X.w) A (Builtin.«zip.__next__» ⟨[.ref z],[]⟩) Q E s:=by
 have M:=F z (by simp);have fO:=F TO (by simp);have O:=F i1 (by simp);have Y:=F i2 (by simp);show Vf _ _ (field (Value.ref z) 2 >>= _) _ _ _;refine zi (wpAny_field t rfl (x:=Value.bool false) rfl ?_);show Vf _ _ (field (Value.ref z) 3 >>= _) _ _ _;refine zi (wpAny_field t rfl (x:=Value.ref TI) rfl ?_);refine zi (wpAny_seqItems gI rfl ?_);show Vf _ _ (Builtin.SmallTypes.ownedTupleIsFree (Value.ref z) >>= _) _ _ _;refine zi ?_;unfold Builtin.SmallTypes.ownedTupleIsFree;refine zi (wpAny_field t rfl (x:=Value.none) rfl (zj ?_));simp only[if_true];refine zi (wpAny_rule ?_);refine zi (wpAny_field t rfl (x:=Value.ref TO) rfl ?_);refine zi (wpAny_setField_rec t (by simp) λk1 k r=>?_)
 replace k:IsZip k1 z TI TO .ellipsis:=k
 replace r:=r.extBut
 have P:Inv X pins σ H { s with heap:=k1 }:=Inv.same (show Inv X pins σ H { s with heap:=s.heap }from I) M r;refine zi ?_;simp only[List.zipIdx_cons,List.zipIdx_nil,List.forIn_cons,List.forIn_nil];refine zi (zi (wpAny_onRaise ?_));show Vf _ _ (Builtin.SmallTypes.nextOf (Value.ref i1) >>= _) _ _ _;have u:J i k1:=L.keep i _ _ g1 λo e=>r _ _ N.c e;rcases st with st|⟨go,st⟩
 .refine zi (L.done X rfl rfl rfl _ U i pins _ σ H _ _ P O u st λk2 e n R=>?_);obtain⟨oe,f,g⟩:=R;have v:IsZip k2 z TI TO .ellipsis:=n _ _ (Ne.symm N.c) k;have y:Inv X pins σ H { s with heap:=k2 }:=Inv.same P O n;have ne:e≠z:=λx=>by subst x;rw[v]at f;cases f;simp at g
  exact wpAny_setField_rec v (by simp) λk3 _ p=>q k3 e (Inv.same y M p.extBut) ⟨oe,p.extBut _ _ ne f,g⟩
 .refine zi (L.item X rfl rfl rfl _ i pins _ σ H _ _ P O u go λx ux k2 y rx yx a0 n=>zj ?_)
  replace y:Inv X pins σ H { s with heap:=k2 }:=y
  replace n:=n.extBut
  have B:IsPair k2 TO a b:=n _ _ N.h (r _ _ N.b gO);refine zi (wpAny_seqItems B rfl ?_);refine zi (wpAny_updateSeq_pair B λk3 a1 p=>?_)
  replace p:=p.extBut
  have Z:Inv X pins σ H { s with heap:=k3 }:=Inv.same y fO p;refine zi (wpAny_letGo (zj ?_));refine zi (zi (wpAny_onRaise ?_));show Vf _ _ (Builtin.SmallTypes.nextOf (Value.ref i2) >>= _) _ _ _;refine zi (W.done X rfl rfl rfl _ U i pins _ σ H _ _ Z Y (W.keep i _ _ g2 λo e=>p _ _ (Ne.symm N.i) (n _ _ (Ne.symm N.j) (r _ _ N.d e))) st λk4 e b4 R=>?_);obtain⟨oe,f,g⟩:=R;have C:IsZip k4 z TI TO .ellipsis:=b4 _ _ (Ne.symm N.d) (p _ _ (Ne.symm N.b) (n _ _ (Ne.symm N.c) k));have I4:Inv X pins σ H { s with heap:=k4 }:=Inv.same Z Y b4;have ne:e≠z:=λx=>by subst x;rw[C]at f;cases f;simp at g
  exact wpAny_setField_rec C (by simp) λk5 _ b5=>q k5 e (Inv.same I4 M b5.extBut) ⟨oe,b5.extBut _ _ ne f,g⟩
end
def wb{K:zk}{kk:Nat}{ps:Pos}{W Y:It}{z TI TO:Vb}{Z t2:Nat->Vh->Prop}(t:Sub P w K W i1 Z)(u:Sub P w K Y i2 t2)(N:Apart z TI TO i1 i2):
  Turn P w K (.Tuple elts kk ps) (ml W Y) [z,TI,TO,i1,i2] z (λi h=>IsZip h z TI TO .none/\IsPair h TI (.ref i1) (.ref i2)/\(∃a b,IsPair h TO a b)/\Z i h/\t2 i h) where
 mem:=by simp
 obj:=λi h st b g=>by
  obtain⟨f,j,⟨a,c,n⟩,p,q⟩:=st;simp only[zE,zU,or_false]at g;rcases g with rfl|rfl|rfl|rfl|rfl
  .exact⟨_,f,λv e=>by cases(show Data.fields _=Data.cell v from e)⟩
  .exact⟨_,j,λv e=>by cases(show Data.seq _ _=Data.cell v from e)⟩
  .exact⟨_,n,λv e=>by cases(show Data.seq _ _=Data.cell v from e)⟩
  .exact t.obj _ _ p
  .exact u.obj _ _ q
 keep:=λi h h' st k=>by obtain⟨f,j,⟨a,c,n⟩,p,q⟩:=st;exact⟨k z (by simp) _ f,k TI (by simp) _ j,⟨a,c,k TO (by simp) _ n⟩,t.keep _ _ _ p λo e=>k i1 (by simp) o e,u.keep _ _ _ q λo e=>k i2 (by simp) o e⟩
 item:=by
  intro X G J L hc i pins s σ H E I A st C;subst G J L;obtain⟨f,j,⟨a,c,n⟩,p,q⟩:=st;have B:s.TypeIs (.ref z) "zip":=⟨_,f,rfl⟩;unfold pyNext;refine zi (wpAny_attempt (Ah (name:=zY "__next__") B F.slot_zip_next (wpAny_call_entry F.slot_zip_next B F.entry_zip_next
   (yo t u N I A f j n p q C.1 C.2 λx y h' M yx yy O Q r R S=>zj ⟨_,rfl,?_⟩) (F.args_zip_next_1 _))))
  have lt:∀b∈[z,TI,TO,i1,i2],b≠s.heap.objs.size:=λb g=>by
   obtain⟨f0,f1,f2,f3,f4,f5⟩:=A b g;simp only[zE,zU,or_false]at g;rcases g with rfl|rfl|rfl|rfl|rfl
   .exact zI (zo f)
   .exact zI (zo j)
   .exact zI (zo n)
   .obtain⟨o,e,_⟩:=t.obj _ _ p;exact zI (zo e)
   .obtain⟨o,e,_⟩:=u.obj _ _ q;exact zI (zo e)
  have fz:bq X pins (upd H s.heap.objs.size (.tup [x,y])) z:=by obtain⟨c0,c1,c2,c3,c4,c5⟩:=A z (by simp);exact⟨by rw[aq (lt z (by simp))];exact c0,c1,c2,c3,c4,c5⟩
  obtain⟨a',c',r⟩:=r;refine wpAny_letOwnedTupleGo_zip (s:={ s with heap:=h' }) O λk gk bk=>?_;refine⟨.ref s.heap.objs.size,upd H s.heap.objs.size (.tup [x,y]),Inv.same M fz bk.extBut,rfl,⟨_,x,y,rfl,I.hok.fresh (zJ _),rfl,yx,yy⟩,
   ⟨gk,bk.extBut _ _ N.a Q,⟨_,_,bk.extBut _ _ N.b r⟩,t.keep _ _ _ R λo e=>bk.extBut _ _ N.c e,u.keep _ _ _ S λo e=>bk.extBut _ _ N.d e⟩,λb g=>?_⟩
  rw[aq (lt b g)];exact(A b g).1
 done:=by
  intro X G J L hc i pins s σ H E I A st C;subst G J L;obtain⟨f,j,⟨a,c,n⟩,p,q⟩:=st;have B:s.TypeIs (.ref z) "zip":=⟨_,f,rfl⟩;unfold pyNext;refine zi (wpAny_attempt (Ah (name:=zY "__next__") B F.slot_zip_next (wpAny_call_entry F.slot_zip_next B F.entry_zip_next
   (tY (I.ok.hd hc) t u N I A f j n p q C λh' e M he=>?_) (F.args_zip_next_1 _))))
  obtain⟨o,ho,U⟩:=he;refine zi (wpAny_isInstance (s:={ s with heap:=h' }) (T:="StopIteration") (b:=true) ⟨o,ho,U⟩ isSubtype_stop ?_);exact zj ⟨rfl,M⟩
 self:=λ_ _ _ _ _ st h=>wpAny_pyIter_zip st.1 h
abbrev iZ(h:Vh)(a:Vb):Vh:=h.push { cls:=.type "tuple_iterator",data:=.fields #[.ref a,.int 0 0] }
def qd:R2:=λx y H Q=>∃a b xs ys,x=.ref a/\y=.ref b/\H a=Vo (.tup xs)/\H b=Vo (.tup ys)/\xs.length+ys.length<=sizeLine/\∀p H',Ext H H'->H' p=Vo (.tup (xs++ys))->Q (.ref p) H'
def jw:aV X (binaryOp .Add) qd:=by
 intro pins s σ H x y v u Q I B C h;obtain⟨a,b,xs,ys,rfl,rfl,g,i,E,q⟩:=h;cases B;cases C;by_cases o:xs=[]
 .subst o;obtain⟨G,r1,J,_⟩:=I.tuple (ah.of g);obtain⟨r,L,p2,_⟩:=I.tuple (ah.of i);have e:=r1.nil_iff.mpr rfl;subst e;obtain⟨⟨cls,dd,data,sl⟩,t,w,n,hd⟩:=id J;obtain⟨⟨z,j,data2,k⟩,c,d,n2,f⟩:=id p2;simp only at w hd d f;subst w hd d f;refine concat_meets ⟨_,t,rfl⟩ ⟨_,c,rfl⟩ noFill_tuple_add seq_tuple_add PySem.F.slot_tuple_add PySem.F.entry_tuple_add (PySem.F.args_tuple_add_2 _ _)
   (tuple_addW0 a b _ _ n n2 dd j sl k (by simp)) ⟨t,c,⟨.ref b,H,I,rfl,q b H (λ_ _ h=>h) (by simpa using i)⟩⟩
 .refine yi pins s σ H (.ref a) (.ref b) _ _ Q I rfl rfl ⟨a,b,xs,ys,rfl,rfl,ah.of g,ah.of i,o,E,λA=>?_,λA p K=>?_⟩
  .subst A;exact q a H (λ_ _ h=>h) (by simpa using g)
  .exact q p _ (bF K) aI
def kO{Q:VK}{b:Vb}{ys:List V}(c:H a=Vo (.tup xs))(d:H b=Vo (.tup ys))(f:xs.length+ys.length<=sizeLine)(h:∀p H',Ext H H'->H' p=Vo (.tup (xs++ys))->Q (.ref p) H'):qd (.ref a) (.ref b) H Q:=⟨a,b,xs,ys,rfl,rfl,c,d,f,h⟩
mutual
inductive LitE:Vk->TE->Prop
 | non {j pos}:LitE (.Constant .none j pos) (tC .non)
 | bl {b j pos}:LitE (.Constant (.bool b) j pos) (tC (.bl b))
 | int {i j pos}:LitE (.Constant (.int i) j pos) (tC (.int i))
 | str {x j pos}:LitE (.Constant (.str x) j pos) (tC (.str x))
 | tup {es ta k pos}:LitsE es ta->LitE (.Tuple es k pos) (jK ta)
inductive LitsE:List Vk->TA->Prop
 | nil:LitsE [] eP
 | cons {e te es ta}:LitE e te->LitsE es ta->LitsE (e::es) (iJ te ta)
end
def LitE.star{e:Vk}{te:TE}(h:LitE e te)(es:List Vk)(env:Env):starEach (e::es) env=(false,eval e env)::starEach es env:=by cases h<;>rfl
section
variable {κ:Type} [DecidableEq κ]
def ba(kvs:List (κ×V))(k:κ):Option V:=(kvs.find? λkv=>decide (kv.1=k)).map (·.2)
def putK(kvs:List (κ×V))(k:κ)(v:V):List (κ×V):=
 if(kvs.any λkv=>decide (kv.1=k))=true then kvs.map (λkv=>if kv.1=k then(kv.1,v)else kv)else kvs++[(k,v)]
def ec{p:κ×V}{r:List (κ×V)}{k:κ}(e:p.1=k):ba (p::r) k=Vo p.2:=by simp[ba,List.find?_cons,e]
def du{p:κ×V}{r:List (κ×V)}{k:κ}(e:¬p.1=k):ba (p::r) k=ba r k:=by simp[ba,List.find?_cons,e]
def wy(kvs:List (κ×V))(k:κ)(v:V):(putK kvs k v).length<=kvs.length+1:=by
 unfold putK;split
 .rw[zp];omega
 .rw[zH,zQ,List.length_nil];omega
def bR.isSome_eq{o:Option V}{u:Option Va}(r:bR o u):o.isSome=u.isSome:=by
 cases o with
 | none=>cases u with
  | none=>rfl
  | some _=>exact(show False from r).elim
 | some _=>cases u with
  | none=>exact(show False from r).elim
  | some _=>rfl
def KV.val{kvs:List (κ×V)}{vs:List (κ×Va)}(r:KV kvs vs)(k:κ):bR (ba kvs k) (valueAt vs k):=by
 unfold KV at r;induction r with
 | nil=>exact True.intro
 | @cons p q ps a h t d=>
  obtain⟨h1,h2⟩:=h;by_cases e:p.1=k
  .have c:q.1=k:=h1.symm.trans e;have b:valueAt (q::a) k=Vo q.2:=by simp[valueAt,List.find?_cons,c]
   rw[ec e,b];exact h2
  .have c:¬q.1=k:=λz=>e (h1.trans z);have b:valueAt (q::a) k=valueAt a k:=by simp[valueAt,List.find?_cons,c]
   rw[du e,b];exact d
theorem KV.any{kvs:List (κ×V)}{vs:List (κ×Va)}(r:KV kvs vs)(k:κ):(kvs.any λkv=>decide (kv.1=k))=vs.any λkv=>decide (kv.1=k):=by
 unfold KV at r;induction r with
 | nil=>rfl
 | cons h t a=>rw[List.any_cons,List.any_cons,a,h.1]
def KV.repl{kvs:List (κ×V)}{vs:List (κ×Va)}(r:KV kvs vs)(k:κ)(a:RelV y u):
  KV (kvs.map λkv=>if kv.1=k then(kv.1,y)else kv) (vs.map λkv=>if kv.1=k then(kv.1,u)else kv):=by
 unfold KV at r ⊢;induction r with
 | nil=>exact .nil
 | @cons p q ps c h t b=>
  rw[List.map_cons,List.map_cons];refine .cons ?_ b;obtain⟨h1,h2⟩:=h;by_cases e:p.1=k
  .rw[Am e,Am (h1.symm.trans e)];exact⟨h1,a⟩
  .rw[Al e,Al (λz=>e (h1.trans z))];exact⟨h1,h2⟩
def KV.put{kvs:List (κ×V)}{vs:List (κ×Va)}(r:KV kvs vs)(k:κ)(a:RelV y u):KV (putK kvs k y) (stored vs k u):=by
 unfold putK stored;rw[r.any k];by_cases e:(vs.any λkv=>decide (kv.1=k))=true
 .rw[Am e,Am e];exact r.repl k a
 .rw[Al e,Al e];exact Paired.snoc r ⟨rfl,a⟩
def KV.keys{kvs:List (κ×V)}{vs:List (κ×Va)}(r:KV kvs vs):kvs.map (·.1)=vs.map (·.1):=by
 unfold KV at r;induction r with
 | nil=>rfl
 | cons h t a=>rw[List.map_cons,List.map_cons,a,h.1]
end
def fP{k:Key}(r:RelV (kV k) u):(bK P w).is k u=true:=by
 cases k with
 | inl i=>obtain⟨t,e⟩:=(show ∃t,u=Value.int i t from r);subst e;exact xE P w i t
 | inr x=>obtain⟨t,e⟩:=(show ∃t,u=Value.str x t from r);subst e;exact jT P w x t
theorem lI{P:Vd}{w:Ve}:∀{ks:List Key} {us:List Va},Vals (ks.map kV) us->ItemsAre (bK P w) ks us
 | [],_,r=>by rw[List.map_nil]at r;cases r;exact .nil
 | k::ks,_,r=>by
  rw[List.map_cons]at r;cases r with
  | cons h t=>exact .cons (fP h) (lI t)
abbrev KT(H:Hp):List (List Key×V)->List (List Key×Vb×Va)->Prop:=Paired λp q=>p.1=q.1/\H q.2.1=Vo (.tup (p.1.map kV))/\RelV p.2 q.2.2
def KT.val{kvs:List (List Key×V)}{xs:List (List Key×Vb×Va)}(r:KT H kvs xs)(k:List Key):bR (ba kvs k) ((atKey xs k).map (·.2)):=by
 induction r with
 | nil=>exact True.intro
 | @cons p q ps a h t d=>
  obtain⟨h1,_,h2⟩:=h;by_cases e:p.1=k
  .have c:q.1=k:=h1.symm.trans e;have b:atKey (q::a) k=Vo q.2:=by simp[atKey,List.find?_cons,c]
   rw[ec e,b];exact h2
  .have c:¬q.1=k:=λz=>e (h1.trans z);have b:atKey (q::a) k=atKey a k:=by simp[atKey,List.find?_cons,c]
   rw[du e,b];exact d
section
variable {P:Vd} {w:Ve} {H:Hp} {h:Vh} {a:Vb}
def nq{u:HO}(ok:aU P w H h)(e:Rd H a u):bc P w H h a u:=e.ok ok
def kl(ok:aU P w H h)(e:Rd H a (.dK kvs)):kvs.length<=sizeLine/\(a == sysModules)=false/\∃vs,KV kvs vs/\h.DictOf (bK P w) a vs:=
 show bc P w H h a (.dK kvs)from nq ok e
def xb(ok:aU P w H h)(e:H a=Vo (.dK kvs)):kvs.length<=sizeLine/\(a == sysModules)=false/\∃vs,KV kvs vs/\h.DictOf (bK P w) a vs:=kl ok (.inl e)
def mV{ks:List Key}(ok:aU P w H h)(e:H a=Vo (.tup (ks.map kV))):(tupleKind (bK P w)).is h ks a:=by obtain⟨_,b,r,o,h1,h2,n,c⟩:=(show bc P w H h a (.tup (ks.map kV))from ok a _ e);exact⟨o,b.toArray,n,h1,h2,c,by simpa using lI r⟩
def oj{kvs:List (List Key×V)}(ok:aU P w H h)(e:Rd H a (.dT kvs)):kvs.length<=sizeLine/\(a == sysModules)=false ∧
  ∃xs,KT H kvs xs/\h.DictOfH (tupleKind (bK P w)) a xs:=by
 obtain⟨z,y,xs,r,o,es,ep,h1,h2,d,f,g⟩:=(show bc P w H h a (.dT kvs)from nq ok e);refine⟨z,y,xs,r,o,es,ep,h1,h2,d,f,λx b=>?_,g⟩;have all:∀{l:List (List Key×V)} {m:List (List Key×Vb×Va)},KT H l m->∀x∈m,(tupleKind (bK P w)).is h x.1 x.2.1:=by
  intro l m q;induction q with
  | nil=>intro x b;exact nomatch b
  | @cons p q ps j c t i=>
   intro x b;rcases zE.mp b with e|b
   .subst e;exact mV ok (by rw[<-c.1];exact c.2.1)
   .exact i x b
 exact all r x b
end
def i4(H:Hp)(a:Vb)(y:V)(r:Option V):Prop:=
 (∃kvs k,Rd H a (.dK kvs)/\y=kV k/\r=ba kvs k)\/∃kvs k b,Rd H a (.dT kvs)/\y=.ref b/\H b=Vo (.tup (k.map kV))/\r=ba kvs k
section
variable {X:Cx} {pins:List (Vb×Obj)} {σ:St} {H:Hp} {s:Vc} {a:Vb} {y v:V} {u r:Va} {o:Option V} {A:Vi} {E:Va->Vc->Prop}
def Inv.big(I:Inv X pins σ H s):sysModules<s.heap.objs.size:=by have h:Vj<s.heap.objs.size:=(I.mod.glob.keeps I.bk).lt;exact Nat.lt_trans (by decide) h
def tT{Q:Va->Vc->Prop}(q:A.units+1<cLine)(I:Inv X pins σ H s)(g:i4 H a y (Vo v))(n:RelV y u)(h:∀d s',Inv X pins σ H s'->RelV v d->Q d s'):
  Vf (Vg X.prog X.w) A (getItem (.ref a) u) Q E s:=by
 rcases g with⟨kvs,k,e,f,l⟩|⟨kvs,k,b,e,f,r,l⟩
 .subst f;obtain⟨z,hd,vs,rel,dd⟩:=kl I.hok e;obtain⟨d,i,c⟩:=bR.some_of (v:=v) (o:=valueAt vs k) (by rw[l];exact rel.val k);exact wpAny_getItem_of (fP n) dd.mapOf i (h d _ (I.tok _) c)
 .subst f;cases(show u=Value.ref b from n);obtain⟨z,hd,xs,rel,dd⟩:=oj I.hok e;obtain⟨d,i,c⟩:=bR.some_of (v:=v) (o:=(atKey xs k).map (·.2)) (by rw[l];exact rel.val k);obtain⟨p,t,j⟩:=zC.mp i;refine wpAny_getItem_heap (tupleKind_room_in1 q) (mV I.hok r) dd t ?_;rw[j];exact h d _ (I.tok _) c
def uY{t':Nat}{ob:HO}(I:Inv X pins σ H s)(c:gE (H a))(d:Heap.SameBut a s.heap h')(f:∃q,h'.get? a=Vo q)(new:bc X.prog X.w (upd H a ob) h' a ob):
  Inv X pins σ (upd H a ob) { s with heap:=h',toks:=t' }:=
 I.write (x:=a) (e:=a) c (.inl rfl) (λb q g z=>(d.2 b g).trans z) f new
def vE{vs:List (Key×Va)}(z:kvs.length<=sizeLine)(hd:(a == sysModules)=false)(rel:KV kvs vs)(dd:h'.DictOf (bK P w) a vs):
  bc P w H' h' a (.dK kvs):=⟨z,hd,vs,rel,dd⟩
end
def mi(i:Vk):Prop:=∀a b,subscripted i false a b=operate [a,b] (getItem a b)
def qg{value slice:Vk}{pos:Pos}{id:String}{Q:Va->Vc->Prop}
  (hl:typeLookup (.type T) "__getitem__" = pure (Vo (.builtin id))) (k:mi slice)
  (h:Vf (Vg prog w) A (eval value env) (λo c=>Vf (Vg prog w) A (eval slice env) (λi a=>a.TypeIs o T/\Vf (Vg prog w) A (getItem o i) Q E a) E c) E s) :
  Vf (Vg prog w) A (eval (.Subscript value slice pos) env) Q E s:=by
 refine Subscript_ (wpAny_mono h (λo c f=>wpAny_mono f (λi a b=>?_) λ_ _ x=>x) λ_ _ x=>x);obtain⟨j,b⟩:=b;unfold subscriptTail;refine zi ?_;rw[getitemInPython_of_ne j.not_modules];refine zi (wpAny_specialOf j hl ?_);have fin:Vf (Vg prog w) A (subscripted slice false o i) (λr d=>Vf (Vg prog w) A (letTemporaryGo value o r >>= λ_=>pure r) Q E d) E a:=by rw[k o i];exact wpAny_operating (wpAny_mono b (λr d g=>zi (wpAny_letTemporaryGo (zj g))) λ_ _ x=>x)
 first
  | exact zj (zi fin)
  | exact zi (zj (zi fin))
  | exact zi fin
def uZ{o:Option V}(I:Inv X pins σ H s)(g:i4 H a y o):s.TypeIs (.ref a) "dict":=by
 rcases g with⟨kvs,k,e,_,_⟩|⟨kvs,k,b,e,_,_,_⟩
 .obtain⟨_,_,vs,_,dd⟩:=kl I.hok e;exact dd.typeIs
 .obtain⟨_,_,xs,_,dd⟩:=oj I.hok e;exact dd.typeIs
def qj(td ty:TE):TE:=λσ H Q=>td σ H λx H1=>ty σ H1 λy H2=>∃a v,x=.ref a/\i4 H2 a y (Vo v)/\Q v H2
section
variable {X:Cx} {o i e value:Vk} {pos pos' tpos:Pos} {td ty tv:TE}
def xM(d:X.A.units+1<cLine)(f:PE X o td)(hi:PE X i ty)(j:mi i):PE X (.Subscript o i pos) (qj td ty):=by intro pins s σ H Q I h;refine qg PySem.F.slot_dict_getitem.lookup j (ai (f pins s σ H _ I h) λu s1 ⟨x,H1,k,n,p⟩=>ai (hi pins s1 σ H1 _ k p) λw s2 ⟨y,H2,c,q,a,v,ex,g,r⟩=>?_);subst ex;obtain rfl:u=Value.ref a:=n;exact⟨uZ c g,tT d c g q λz B t b=>⟨v,H2,t,b,r⟩⟩
end
def vg(h:Vh)(a:sysModules<h.objs.size):bc P w H (h.push { cls:=.type "dict",data:=.dict #[] }) h.objs.size (.dK []):=
 ⟨Nat.zero_le _,beq_eq_false_iff_ne.mpr (Ne.symm (zI a)),[],.nil,Heap.DictOf.new h⟩
def iz:List (TE×TE)->St->Hp->(List (V×V)->Hp->Prop)->Prop
 | [],_,H,Q=>Q [] H
 | (tk,tv)::r,σ,H,Q=>tk σ H λx H1=>tv σ H1 λy H2=>iz r σ H2 λps a=>Q ((x,y)::ps) a
abbrev VV:List (V×V)->List (Va×Va)->Prop:=Paired λp q=>RelV p.1 q.1/\RelV p.2 q.2
def jh(X:Cx)(pos:Pos)(keys:List (Option Vk))(values:List Vk)(a:List (TE×TE)):Prop:=
 ∀(pins:List (Vb×Obj)) (s:Vc) (σ:St) (H:Hp) (Q:List (V×V)->Hp->Prop),Inv X pins σ H s->iz a σ H Q ->
  Vf (Vg X.prog X.w) X.A (evalPairs (pairTrees keys values X.env pos)) (λvs s'=>∃ps H',Inv X pins σ H' s'/\VV ps vs/\Q ps H') X.xe s
def tR{pos:Pos}:jh X pos [] [] []:=λpins s σ H Q I h=>pairTrees_nil_walk ⟨[],H,I,.nil,h⟩
def ji{pos:Pos}{k v:Vk}{ks:List (Option Vk)}{vs:List Vk}{tk tv:TE}{a:List (TE×TE)}(b:PE X k tk)(hv:PE X v tv)(hr:jh X pos ks vs a):
  jh X pos (Vo k::ks) (v::vs) ((tk,tv)::a):=λpins s σ H Q I h=>
 pairTrees_cons_walk (ai (b pins s σ H _ I h) λu s1 ⟨x,H1,c,d,f⟩=>ai (hv pins s1 σ H1 _ c f) λw2 s2 ⟨y,H2,g,i,j⟩=>
  ai (hr pins s2 σ H2 _ g j) λws q ⟨ps,n,o,rel,p⟩=>⟨(x,y)::ps,n,o,.cons ⟨d,i⟩ rel,p⟩)
def dR(kvs more:List (Key×V)):List (Key×V):=more.foldl (λacc kv=>putK acc kv.1 kv.2) kvs
def KV.merge:∀{more:List (Key×V)} {a:List (Key×Va)} {kvs:List (Key×V)} {vs:List (Key×Va)},KV more a->KV kvs vs->KV (dR kvs more) (merged vs a):=by
 intro more a kvs vs r;unfold KV at r;induction r generalizing kvs vs with
 | nil=>intro q;exact q
 | @cons p q ps c h t b=>
  intro r0;have e:KV (putK kvs p.1 p.2) (stored vs q.1 q.2):=by have:=r0.put p.1 h.2;rw[<-h.1];exact this
  exact b e
theorem pw:∀(more kvs:List (Key×V)),(dR kvs more).length<=kvs.length+more.length
 | [],kvs=>by show kvs.length<=kvs.length+0;omega
 | p::r,kvs=>by have h1:=pw r (putK kvs p.1 p.2);have h2:=wy kvs p.1 p.2;show(dR (putK kvs p.1 p.2) r).length<=_;rw[zQ];omega
theorem m9{P:Vd}{w:Ve}:∀{kvs:List (Key×V)} {ws:List (Va×Va)},VV (kvs.map λkv=>(kV kv.1,kv.2)) ws->∃d,Carries (bK P w) ws d/\KV kvs d
 | [],_,r=>by rw[List.map_nil]at r;cases r;exact⟨[],True.intro,.nil⟩
 | p::kvs,_,r=>by
  rw[List.map_cons]at r;cases r with
  | @cons a b g bs h t=>
   obtain⟨d,c,q⟩:=m9 (P:=P) (w:=w) t;obtain⟨i,f⟩:=b;exact⟨(p.1,f)::d,⟨fP h.1,rfl,c⟩,.cons ⟨rfl,h.2⟩ q⟩
def qY(a:List (TE×TE)):TE:=λσ H Q=>∀p,H p=Vp->iz a σ (upd H p (.dK [])) λps H2=>H2 p=Vo (.dK [])/\∃kvs:List (Key×V),ps=kvs.map (λkv=>(kV kv.1,kv.2))/\kvs.length<=15/\Q (.ref p) (upd H2 p (.dK (dR [] kvs)))
def vA{pos:Pos}{keys:List (Option Vk)}{values:List Vk}{b:List (TE×TE)}(h:jh X pos keys values b)(hall:keys.all (·.isSome)=true)(hl:keys.length=values.length)(i:keys≠[])
  (f:keys.length<=15):PE X (.Dict keys values pos) (qY b):=by
 intro pins s σ H Q I q;have j:=I.hok.fresh (zJ s.heap.objs.size);have k:=I.laid (a:=s.heap.objs.size) (o:=.dK []) (h':=s.heap.push { cls:=.type "dict",data:=.dict #[] }) (t':=s.toks) (λ_ _ q=>zl _ q) (zJ _) (vg s.heap I.big);refine wpAny_Dict_walk (knd:=bK X.prog X.w) hall hl i f (ai (h pins _ σ _ _ k (q _ j)) λws s2 ⟨ps,H2,g,rel,e,kvs,ep,lk,n⟩=>?_);subst ep;obtain⟨p,c,r⟩:=m9 (P:=X.prog) (w:=X.w) rel;obtain⟨z,hd,t,r0,dd⟩:=xb g.hok e;cases r0;refine⟨p,c,dd,λh' d u=>⟨.ref s.heap.objs.size,_,?_,rfl,n⟩⟩;have v:(dR [] kvs).length<=sizeLine:=by have h1:=pw kvs [];rw[List.length_nil]at h1;rw[sizeLine_eq];omega
 have x:∃q,h'.get? s.heap.objs.size=Vo q:=let ⟨q,_,_,hq,_⟩:=d;⟨q,hq⟩;exact uY g (by rw[e];exact True.intro) u x (vE v hd (r.merge .nil) d)
def wc:entryFor table "proto.unchain" = Vo Builtin.«proto.unchain»:=entryFor_of_fast (by kernel_rfl)
def xK(o:Obj)(f:Array Va->Array Va):(o.mapFields f).dict=o.dict:=by unfold Obj.mapFields;split<;>rfl
def aZ(h:Vh)(x:Vb)(dd:Option Vb):Prop:=∃o vs,h.get? x=Vo o/\o.data=.fields vs/\vs[2]?=Vo .none/\∀d,dd=Vo d->o.dict=Vo d
section
variable {prog:Vd} {w:Ve} {A:Vi} {E:Va->Vc->Prop} {s:Vc} {dd:Option Vb}
def vt{e:Va}{x:Vb}{Q:Va->Vc->Prop}(a:aZ s.heap x dd)(q:Q .none s):
  Vf (Vg prog w) A (runValue (.builtin "proto.unchain" ⟨[e,.ref x,.ref x,.bool false],[]⟩)) Q E s:=by
 obtain⟨o,vs,h1,h2,b,_⟩:=a;refine wpAny_runValue (codeAny_builtin wc ?_);unfold Builtin.«proto.unchain»;refine zi (wpAny_field h1 h2 b ?_);rw[Am (show(Value.none == Value.none)=true from rfl)];exact zj q
def xq{α:Type}{x:Vb}{vs:Array Va}{Q:α->Vc->Prop}(d:A.handled=Vo (.ref x))(f:aZ s.heap x dd)(b:x≠a)(c:s.heap.get? a=Vo o)(hd:o.data=.fields vs)(g:2<vs.size)
  (q:∀h',Heap.SameBut a s.heap h'->(∃o',h'.get? a=Vo o'/\o'.cls=o.cls)->E (.ref a) { s with heap:=h' }):Vf (Vg prog w) A (raiseNew (.ref a):Sem α) Q E s:=by
 unfold raiseNew;refine zi (wpAny_handled ?_);rw[d];have n1:(Value.ref x != Value.ref a)=true:=by simp[b]
 dsimp only;rw[Am n1];refine zi (wpAny_holding (vt f ?_));refine zi ?_;show Vf _ _ (setField (.ref a) 2 (.ref x)) _ _ s;refine wpAny_setField (i:=2) (x:=.ref x) c hd g ?_;refine wpAny_throw (q _ (Heap.SameBut.update ..) ⟨_,Heap.get?_update_self _ c (Obj.isFreed_of_fields (Obj.data_mapFields hd _)),Obj.cls_mapFields ..⟩)
def aZ.keeps{x:Vb}(a:aZ h x dd)(k:∀b o,h.get? b=Vo o->h'.get? b=Vo o):aZ h' x dd:=let ⟨o,vs,e,r⟩:=a;⟨o,vs,k _ _ e,r⟩
def pW{α:Type}{x:Vb}{Q:α->Vc->Prop}(d:A.handled=Vo (.ref x))(c:aZ s.heap x dd)
  (q:∀h' e,(∀b o,s.heap.get? b=Vo o->h'.get? b=Vo o)->(∃o,h'.get? e=Vo o/\o.cls=.type "StopIteration")->E (.ref e) { s with heap:=h' }) :
  Vf (Vg prog w) A (Builtin.SmallTypes.stopIteration:Sem α) Q E s:=by
 unfold Builtin.SmallTypes.stopIteration;refine zi ?_;unfold newExc newTuple;refine zi (wpAny_newObj_type ?_ (by size_fits));refine zi (wpAny_of_eq (a:=Value.none) (t:=firstArgMember _ _) (by first|rfl|(unfold firstArgMember;rfl)) (wpAny_newObj_type ?_ (by size_fits)));have lt:=zo c.choose_spec.choose_spec.1;refine xq d (c.keeps λb o e=>zl _ (zl _ e)) (zI ?_) (zm _ rfl) rfl (by simp[ownMembersOf]) λh' k z=>?_
 .rw[Heap.size_push];exact Nat.lt_succ_of_lt lt
 .obtain⟨o',z1,z2⟩:=z;refine q h' _ (λb o e=>?_) ⟨o',z1,z2⟩;have lb:=zo e;rw[k.2 b (zI (by rw[Heap.size_push];exact Nat.lt_succ_of_lt lb))];exact zl _ (zl _ e)
def n9{it:Vb}{Q:Option Va->Vc->Prop}
  (h:Vf (Vg prog w) A (callSpecial? (.ref it) "__next__") (λ_ _=>False) (λe s'=>∃p o,e=.ref p/\s'.heap.get? p=Vo o/\o.cls=.type "StopIteration"/\Q Vp s') s) :
  Vf (Vg prog w) A (pyNext (.ref it)) Q E s:=by
 unfold pyNext;refine zi (wpAny_attempt (wpAny_mono h (λ_ _ z=>z.elim) λe s' z=>?_));obtain⟨p,o,rfl,z1,z2,z3⟩:=z;exact zi (wpAny_isInstance (T:="StopIteration") (b:=true) ⟨o,z1,z2⟩ isSubtype_stop (zj z3))
def xy{it l x:Vb}{i:Nat}{Q:Option Va->Vc->Prop}(g:A.handled=Vo (.ref x))(h:aZ s.heap x dd)(a:x≠it)
  (hit:s.heap.IsListIter it l i) (hl:s.heap.IsList l items) (hi:items[i]?=Vp) (j:∀h',Heap.ExtBut it s.heap h'->Q Vp { s with heap:=h' }):Vf (Vg prog w) A (pyNext (.ref it)) Q E s:=by
 obtain⟨o,c,y,hd⟩:=id hit;obtain⟨ol,d,_,nl,f⟩:=hl;refine n9 ?_;refine Ah (name:=zY "__next__") hit.typeIs slot_listiter_next (wpAny_call_entry slot_listiter_next hit.typeIs entry_listiter_next ?_ (args_listiter_next _));have n:¬((Value.ref l == Value.none)=true):=zF;show Vf _ _ (field (.ref it) 0 >>= λq=>_) _ _ s;refine zi (wpAny_field (x:=.ref l) c hd rfl ?_);show Vf _ _ (ite ((Value.ref l == Value.none)=true) _ _) _ _ s;rw[Al n];show Vf _ _ (field (.ref it) 1 >>= λq=>_) _ _ s;refine zi (wpAny_field (x:=.int i 0) c hd rfl ?_);show Vf _ _ (seqItems? (.ref l) >>= λq=>_) _ _ s;refine zi (wpAny_seqItems d f ?_);simp only[zD,hi];have S:=Heap.SameBut.update s.heap it (Obj.mapFields (·.setIfInBounds 0 Value.none));refine zi (wpAny_rule (zi (wpAny_setField (x:=.none) c hd (by simp) ?_)));have al:aZ (s.heap.update it (Obj.mapFields (·.setIfInBounds 0 Value.none))) x dd:=by obtain⟨ox,vs,p,r⟩:=h;exact⟨ox,vs,(S.2 x a).trans p,r⟩
 refine pW (A:=A.in1) g al λh' e k z=>?_;obtain⟨t,z1,z2⟩:=z;exact⟨e,t,rfl,z1,z2,j h' λb o' u v=>k b o' ((S.2 b u).trans v)⟩
end
section
variable {M:Model} {A:Vi} {E:Va->Vc->Prop} {s:Vc} {dd:Option Vb}
def aZ.eq{x:Vb}(a:aZ h x dd)(k:h'.get? x=h.get? x):aZ h' x dd:=let ⟨o,vs,e,r⟩:=a;⟨o,vs,k.trans e,r⟩
def mf{l:List Env}{e:Vb}{t:Va}{Q:Unit->Vc->Prop}(k:B.StaysIn s.heap)(hl:s.heap.FunFrames B l)(u:s.heap.TracedAtW B e cls a0 t)(al:aZ s.heap e dd)
  (q:∀h',B.StaysIn h'->h'.FunFrames B l->h'.TracedW B e cls a0->s.heap.UpToSlots h'->aZ h' e dd->Q () { s with heap:=h' }):Vf M A (setFlight (.ref e) Vp) Q E s:=by
 obtain⟨oe,vs,T,x,ts,i,v,j,n,p,g,h,d,w⟩:=u;have z:3<ts.size:=(Array.getElem?_eq_some_iff.mp w).1;have S:=Heap.SameBut.update s.heap T (Obj.mapFields (·.setIfInBounds 3 ((Vp:Option Vb).elim Value.none λf=>rawInt f)));have r:∀b o,s.heap.get? b=Vo o->(∀us,o.data≠.fields us)->b≠T:=by rintro b o a c rfl;rw[h]at a;cases a;exact c ts d
 have n1:(Value.ref T != Value.none)=true:=by simp
 unfold setFlight;refine zi (wpAny_field i j n ?_);rw[Am n1];refine wpAny_setField h d z (q _ (λb o a=>(S.2 b ?_).trans (k b o a)) (hl.of_keeps λb o a c=>⟨o,(S.2 b (r b o a c)).trans a,rfl⟩) ?_ (λb o a c=>⟨o.slots,(S.2 b (r b o a c)).trans a⟩) (al.eq (S.2 e (Ne.symm g))))
 .rintro rfl;rw[p]at a;cases a
 .exact⟨oe,vs,T,_,_,(S.2 e (Ne.symm g)).trans i,v,j,n,p,g,Heap.get?_update_self _ h (Obj.isFreed_of_fields (Obj.data_mapFields d _)),Obj.data_mapFields d _,by simp[z]⟩
def qH{e:Vb}{oe:Obj}{vs:Array Va}{head:Va}{more:Bool}{Q:Unit->Vc->Prop}(i:A.frames=Vo (env::outer))(hl:s.heap.FunFrames B (env::outer))(I:env.frame=Vo L)
  (j:s.heap.get? e=Vo oe) (k:B.StaysIn s.heap) (n:B.get? e=Vp) (f:oe.data=.fields vs) (z:1<vs.size) (J:vs[0]?=Vo a0) (h2:vs[2]?=Vo .none) (p:∀d,dd=Vo d->oe.dict=Vo d)
  (q:∀h',Heap.NotedW B (env::outer) e oe.cls a0 (rawInt L) s.heap h'->aZ h' e dd->Q () { s with heap:=h' }) :
  Vf M A (frameOf env >>= λa=>entryPlaceOf L more >>= λpl=>EntryCells.newEntry head a .none (rawInt L) .none pl >>= λb=>setField (.ref e) 1 b) Q E s:=by
 have ne:e∉(env::outer).filterMap (·.frame):=λr=>by obtain⟨_,o,w,g⟩:=hl.mem r;rw[j]at w;cases w;exact g vs f
 refine zi (wpAny_frameOf_fun i hl I λh1 t=>zi (wpAny_entryPlaceOf λpl u=>zi ?_));unfold EntryCells.newEntry newFields;refine wpAny_newObj_type ?_ (u.sizeOk5 _ _ _ _ _);have x:(([head,.ref L,.none,rawInt L,.none]++(if pl.isEmpty then Ac 6 Value.none else pl)).toArray)[3]?=Vo (rawInt L):=by simp
 generalize ([head,.ref L,.none,rawInt L,.none]++(if pl.isEmpty then Ac 6 Value.none else pl)).toArray=ts at x ⊢;have y:h1.get? e=Vo oe:=(t.2.1 e ne).trans j;have k1:B.StaysIn h1:=λb o c=>(t.2.1 b λr=>by rw[(hl.mem r).1]at c;cases c).trans (k b o c);have C:h1.objs.size≠e:=Nat.ne_of_gt (zo y);have F:=zl (h:=h1) { cls:=.type "traceback",dict:=Vp,data:=.fields ts } y;have K:=zm h1 (o:={ cls:=.type "traceback",dict:=Vp,data:=.fields ts }) rfl;refine wpAny_setField F f z (q _ ?_ ?_)
 all_goals
  have v:=Heap.SameBut.update (h1.push { cls:=.type "traceback",dict:=Vp,data:=.fields ts }) e (Obj.mapFields (·.setIfInBounds 1 (Value.ref h1.objs.size)));have G:=Heap.get?_update_self (Obj.mapFields (·.setIfInBounds 1 (Value.ref h1.objs.size))) F (Obj.isFreed_of_fields (Obj.data_mapFields f _));have H:=Obj.data_mapFields f (·.setIfInBounds 1 (Value.ref h1.objs.size))
 .have up:∀b o,s.heap.get? b=Vo o->(∀us,o.data≠.fields us)->∃sl,((h1.push { cls:=.type "traceback",dict:=Vp,data:=.fields ts }).update e (Obj.mapFields (·.setIfInBounds 1 (Value.ref h1.objs.size)))).get? b=Vo { o with slots:=sl }:=λb o c g=>by
   obtain⟨sl,N⟩:=t.2.2 b o c;have nb:b≠e:=by rintro rfl;rw[j]at c;cases c;exact g vs f
   exact⟨sl,(v.2 b nb).trans (zl _ N)⟩
  refine⟨λb o c=>?_,hl.of_keeps λb o c g=>?_,⟨_,_,h1.objs.size,_,ts,G,⟨Obj.cls_mapFields ..,?_⟩,H,?_,k1.fresh,C,(v.2 _ C).trans K,rfl,x⟩,up⟩
  .have nb:b≠e:=by rintro rfl;rw[n]at c;cases c
   exact(v.2 b nb).trans (zl _ (k1 b o c))
  .obtain⟨sl,z⟩:=up b o c g;exact⟨_,z,rfl⟩
  .rw[Array.getElem?_setIfInBounds_ne (by decide)];exact J
  .simp[z]
 .refine⟨_,_,G,H,by rw[Array.getElem?_setIfInBounds_ne (by decide)];exact h2,λd z=>?_⟩;rw[<-p d z];exact xK ..
def m8{e:Vb}{Q:Unit->Vc->Prop}(g:A.frames=Vo (env::outer))(r:env.frame=Vo L)(w:Heap.FlyingW B (env::outer) e cls a0 s.heap)(al:aZ s.heap e dd)
  (q:∀h',Heap.HeldW B (env::outer) e cls a0 L h'->s.heap.UpToSlots h'->aZ h' e dd->Q () { s with heap:=h' }):Vf M A (noteFrame (.ref e) env) Q E s:=by
 obtain⟨k,f,hl,oe,vs,T,H,ts,h,⟨rfl,x⟩,i,t,y,C,j,n,u⟩:=w;have h2:vs[2]?=Vo .none/\∀d,dd=Vo d->oe.dict=Vo d:=by obtain⟨o',F,x1,x2,x3⟩:=al;rw[h]at x1;cases x1;rw[i]at x2;cases x2;exact x3
 have z:3<ts.size:=(Array.getElem?_eq_some_iff.mp u).1;have S:=Heap.SameBut.update s.heap T (Obj.mapFields (·.setIfInBounds 3 Value.none));have v:∀b o,s.heap.get? b=Vo o->(∀us,o.data≠.fields us)->b≠T:=by rintro b o a c rfl;rw[j]at a;cases a;exact c ts n
 have n1:(Value.ref T != Value.none)=true:=by simp
 have n2:¬((Value.none == rawInt L)=true):=by simp[rawInt]
 unfold noteFrame;simp only[r];refine zi (wpAny_field h i t ?_);rw[Am n1];refine zi (wpAny_field j n u ?_);rw[Al n2];refine zi (wpAny_setField j n z ?_);refine qH g (hl.of_keeps λb o a c=>⟨o,(S.2 b (v b o a c)).trans a,rfl⟩) r ((S.2 e (Ne.symm C)).trans h) (λb o a=>(S.2 b ?_).trans (k b o a)) f i (Array.getElem?_eq_some_iff.mp t).1 x h2.1 h2.2 λh' N p=>?_
 .rintro rfl;rw[y]at a;cases a
 .obtain⟨x1,x2,x3,G⟩:=N;exact q h' ⟨x1,f,x2,x3⟩ (λb o a c=>G b o ((S.2 b (v b o a c)).trans a) c) p
def ni{l:List Env}{e:Vb}{Q:Unit->Vc->Prop}(g:Heap.HeldW B l e cls a0 L s.heap)(al:aZ s.heap e dd)
  (q:∀h',Heap.FlyingW B l e cls a0 h'->s.heap.UpToSlots h'->aZ h' e dd->Q () { s with heap:=h' }):Vf M A (setFlight (.ref e) Vp) Q E s:=
 mf g.1 g.2.2.1 g.2.2.2 al λh' a b c d f=>q h' ⟨a,g.2.1,b,c⟩ d f
def vk{l:List Env}{e:Vb}{Q:Unit->Vc->Prop}(g:Heap.FlyingW B l e cls a0 s.heap)(al:aZ s.heap e dd)
  (q:∀h',Heap.FlyingW B l e cls a0 h'->s.heap.UpToSlots h'->aZ h' e dd->Q () { s with heap:=h' }):Vf M A (setFlight (.ref e) Vp) Q E s:=
 mf g.1 g.2.2.1 g.2.2.2.at al λh' a b c d f=>q h' ⟨a,g.2.1,b,c⟩ d f
def uz{e:Vb}{Q:Unit->Vc->Prop}(a:A.frames=Vo (env::outer))(b:env.frame=Vo L)(c:Heap.FlyingW B (env::outer) e cls a0 s.heap)(al:aZ s.heap e dd)
  (q:∀h',Heap.FlyingW B outer e cls a0 h'->s.heap.UpToSlots h'->aZ h' e dd->Q () { s with heap:=h' }):Vf M A (leaving env (.ref e)) Q E s:=by
 unfold leaving;refine zi (m8 a b c al λh1 H1 d a1=>ni (s:={ s with heap:=h1 }) H1 a1 λh2 f g a2=>?_);obtain⟨x1,x2,⟨_,_,x3⟩,h⟩:=f;exact q h2 ⟨x1,x2,x3,h⟩ (d.trans g) a2
structure MadeX(h h':Vh)(e:Vb)(cls:Va)(dd:Option Vb):Prop where
 keeps:∀b o,h.get? b=Vo o->h'.get? b=Vo o
 new:h.get? e=Vp
 there:∃oe vs t,h'.get? e=Vo oe/\oe.cls=cls/\oe.data=.fields vs/\vs[0]?=Vo (.ref t)/\vs[1]?=Vo .none/\vs[2]?=Vo .none/\1<vs.size/\∀d,dd=Vo d->oe.dict=Vo d
def MadeX.of{e:Vb}{args:List Va}(a:Heap.MadeExcOf h h' e cls args):MadeX h h' e cls Vp:=by obtain⟨t,b,_,_⟩:=a.there;exact⟨a.keeps,a.new,_,_,t,b,rfl,rfl,rfl,rfl,rfl,by simp,λ_ z=>by cases z⟩
def tm{e:Vb}{Q:Unit->Vc->Prop}(d:A.frames=Vo (env::outer))(i:env.frame=Vo L)(k:B.StaysIn h)(hl:h.FunFrames B (env::outer))(a:MadeX h s.heap e cls dd)
  (q:∀h' a0,Heap.FlyingW B outer e cls a0 h'->s.heap.UpToSlots h'->aZ h' e dd->Q () { s with heap:=h' }):Vf M A (leaving env (.ref e)) Q E s:=by
 obtain⟨oe,vs,t,j,rfl,hd,n,h1,h2,p,f⟩:=a.there;have fresh:∀b,h.get? b=Vp->B.get? b=Vp:=λb c=>by
  cases r:B.get? b with
  | none=>rfl
  | some o'=>exact absurd (k b o' r) (by rw[c];intro z;cases z)
 unfold leaving noteFrame;simp only[i];refine zi (zi (wpAny_field (x:=.none) j hd h1 ?_));rw[Al (by decide)];refine qH (a0:=.ref t) d (hl.of_keeps λb o c _=>⟨o,a.keeps b o c,rfl⟩) i j (λb o c=>a.keeps b o (k b o c)) (fresh e a.new) hd p n h2 f λh1 N a1=>?_;obtain⟨x1,x2,x3,u⟩:=N;refine mf (s:={ s with heap:=h1 }) x1 x2 x3 a1 λh2 y1 y2 y3 v w=>?_;obtain⟨_,_,g⟩:=y2;exact q h2 _ ⟨y1,fresh e a.new,g,y3⟩ (Heap.UpToSlots.trans u v) w
end
def bc.obj{o:HO}(x:bc P w H h a o):∃ob,h.get? a=Vo ob:=by
 cases o with
 | lst xs=>obtain⟨_,_,_,_,e⟩:=x;exact⟨_,e⟩
 | tup xs=>obtain⟨_,_,_,ob,e,_⟩:=x;exact⟨_,e⟩
 | dK kvs=>obtain⟨_,_,_,_,ob,es,ep,e,_⟩:=x;exact⟨_,e⟩
 | dT kvs=>obtain⟨_,_,_,_,ob,es,ep,e,_⟩:=x;exact⟨_,e⟩
 | set S n=>obtain⟨ob,es,ep,t,e,_⟩:=x;exact⟨_,e⟩
 | ins C dx fs=>obtain⟨_,_,_,e,_⟩:=x;exact⟨_,e⟩
 | own y=>exact x
 | xd fs=>obtain⟨mA,b,_⟩:=x;obtain⟨ob,es,ep,e,_⟩:=b;exact⟨_,e⟩
 | rng lo hi=>obtain⟨_,_,_,e⟩:=x;exact⟨_,e⟩
 | frz ob u=>exact⟨_,x.1⟩
 | tbl ps=>exact⟨_,x⟩
 | met f y=>exact⟨_,x⟩
 | ext φ=>exact x.2.1
structure Fly(P:Vd)(w:Ve)(outer:List Env)(H:Hp)(s:Vc)(x:Vb)(cls:Va)(da:Option Vb)(H':Hp)(s':Vc):Prop where
 os:s'.os=s.os
 bare:AllBare s'.gens
 un:Un (aN outer) [] H H' s.heap s'.heap
 hok:aU P w H' s'.heap
 new:H' x=Vp
 alone:aZ s'.heap x da
 fly:∃B a0,Heap.FlyingW B outer x cls a0 s'.heap/\(∀b o,s'.heap.get? b=Vo o->H' b≠Vp->B.get? b=Vo o) ∧
  ∀b o o',s.heap.get? b=Vo o->b∉aN outer->s'.heap.get? b=Vo o'->B.get? b=Vo o'
def aM(P:Vd)(w:Ve):cO:=λouter H s E e s'=>∃x cls da H',e=.ref x/\E cls da H'/\Fly P w outer H s x cls da H' s'
section
variable {P:Vd} {w:Ve} {K:zk} {mg:Vn->Option Va} {base:Vh} {N:List Vn} {qual:Vn} {scope:Scope} {f:Vb} {cd:Va} {A:Vi} {outer:List Env} {s₀:Vc} {H₀:Hp} {E:XK}
def qx{l:List Env}(h:env∈l)(e:env.frame=Vo a):a∈aN l:=List.mem_filterMap.mpr ⟨env,h,e⟩
def vU{tk:Nat}{e:Vb}{da:Option Vb}(I:Inv (aJ (aM P w) P w K mg base N qual scope f cd A outer s₀ H₀ E) pins σ H s)
  (v:MadeX s.heap h1 e cls da) (G:E cls da H):(aJ (aM P w) P w K mg base N qual scope f cd A outer s₀ H₀ E).xe (.ref e) { s with heap:=h1,toks:=tk }:=by
 have stk:(aJ (aM P w) P w K mg base N qual scope f cd A outer s₀ H₀ E).stack=envOfC qual scope s₀.heap.objs.size f cd::outer:=rfl;have J:∀b∈aN (envOfC qual scope s₀.heap.objs.size f cd::outer),b∈aN outer\/b=s₀.heap.objs.size:=λb c=>by
  have:=I.stkSub b c;rcases zE.mp this with z|z
  .exact .inr z
  .exact .inl z
 have x:∀env∈(envOfC qual scope s₀.heap.objs.size f cd::outer),∀a,env.frame=Vo a->a∈aN (envOfC qual scope s₀.heap.objs.size f cd::outer):=λenv L a M=>qx L M;have i:=PySem.W.funFrames_hide I.stack x;have low:∀b o,s₀.heap.get? b=Vo o->b∉aN outer->b∉aN (envOfC qual scope s₀.heap.objs.size f cd::outer):=λb o c g y=>by
  rcases J b y with z|z
  .exact g z
  .exact absurd (zo c) (by rw[z];exact Nat.lt_irrefl _)
 refine tm (B:=PySem.W.hideAll s.heap (aN (envOfC qual scope s₀.heap.objs.size f cd::outer))) (h:=s.heap) I.ok.frames rfl (λb o q=>PySem.W.of_hideAll _ q) i v λh' t x1 O Q=>?_;have up:∀b∈aN (envOfC qual scope s₀.heap.objs.size f cd::outer),∀o,s.heap.get? b=Vo o->∃sl,h'.get? b=Vo { o with slots:=sl }:=λb c o p=>by obtain⟨_,o',j,hd⟩:=i.mem c;rw[p]at j;cases j;exact O b o (v.keeps b o p) hd
 have stay:∀b o,b∉aN (envOfC qual scope s₀.heap.objs.size f cd::outer)->s.heap.get? b=Vo o->h'.get? b=Vo o:=λb o g p=>x1.1 b o (PySem.W.hideAll_get _ p g);have ed:∀b,H b≠Vp->b∉aN (envOfC qual scope s₀.heap.objs.size f cd::outer):=λb c y=>c (I.stkFree b y);have U:=I.base;have k:H e=Vp:=by
  cases r:H e with
  | none=>rfl
  | some u=>
   obtain⟨ob,z⟩:=(I.hok e u r).obj;rw[v.new]at z;cases z
 refine⟨e,cls,da,H,rfl,G,I.os,I.bare,⟨λb o q n c _=>stay b o (low b o q c) (U.keep b o q n c (by intro z;cases z)),λb o q n c _=>?_,λb o q n _=>U.free b o q n (by intro z;cases z),λb o q _=>?_,U.tups,U.frzs,U.tbls⟩,λa o q=>?_,k,Q,_,_,x1,λb o q c=>?_,λb o o' q c R=>?_⟩
 .obtain⟨sl,d⟩:=U.slot b o q n c (by intro z;cases z);obtain⟨C,F⟩:=up b (by show b∈List.filterMap _ (_::_);exact zt _ c) _ d;exact⟨C,F⟩
 .obtain⟨o1,d⟩:=U.there b o q (by intro z;cases z);by_cases c:b∈aN (envOfC qual scope s₀.heap.objs.size f cd::outer)
  .obtain⟨sl,F⟩:=up b c _ d;exact⟨_,F⟩
  .exact⟨_,stay b _ c d⟩
 .refine(I.hok a o q).stay (λb u c z=>stay b u (ed b ?_) z) (λ_ z=>z) λ_ _ z=>z;rcases c with rfl|c
  .rw[q];intro z;cases z
  .rw[c];intro z;cases z
 .obtain⟨o1,d⟩:∃o1,s.heap.get? b=Vo o1:=by
   cases r:H b with
   | none=>exact absurd r c
   | some u=>exact(I.hok b u r).obj
  have:=stay b o1 (ed b c) d;rw[q]at this;cases this;exact PySem.W.hideAll_get _ d (ed b c)
 .obtain⟨o1,d⟩:=U.there b o q (by intro z;cases z);have g:=low b o q c;have:=stay b o1 g d;rw[R]at this;cases this;exact PySem.W.hideAll_get _ d g
def lZ{y:XK}(v:∀cls da H,y cls da H->E cls da H):Passes (aM P w) (aJ (aM P w) P w K mg base N qual scope f cd A outer s₀ H₀ E) y:=by
 intro pins σ H s e s' I h;obtain⟨x,cls,da,H',rfl,L,F⟩:=h;obtain⟨B,a0,C,G,M⟩:=F.fly;have O:∀b∈aN (envOfC qual scope s₀.heap.objs.size f cd::outer),b∈aN outer\/b=s₀.heap.objs.size:=λb c=>by
  rcases zE.mp (I.stkSub b c)with z|z
  .exact .inr z
  .exact .inl z
 have low:∀b o,s₀.heap.get? b=Vo o->b∉aN outer->b∉aN (envOfC qual scope s₀.heap.objs.size f cd::outer):=λb o c Q R=>by
  rcases O b R with z|z
  .exact Q z
  .exact absurd (zo c) (by rw[z];exact Nat.lt_irrefl _)
 have U:=I.base;have no:∀b:Vb,b∉([]:List Vb):=λb z=>by cases z
 refine uz I.ok.frames rfl C F.alone λh' x1 x2 x3=>?_;have two:∀b o,s₀.heap.get? b=Vo o->∃o1 i,s.heap.get? b=Vo o1/\s'.heap.get? b=Vo i:=λb o q=>by obtain⟨o1,d⟩:=U.there b o q (no b);obtain⟨i,g⟩:=F.un.there b o1 d (no b);exact⟨o1,i,d,g⟩
 have stay:∀b o i,s₀.heap.get? b=Vo o->b∉aN outer->s'.heap.get? b=Vo i->B.get? b=Vo i:=λb o i q c S=>by obtain⟨o1,T,d,g⟩:=two b o q;exact M b o1 i d (low b o q c) S
 have r:=C.2.2.1;refine⟨x,cls,da,H',rfl,v _ _ _ L,F.os.trans I.os,F.bare,⟨λb o q n c _=>?_,λb o q n c _=>?_,λb o q n _=>?_,λb o q _=>?_,λb xs q=>F.un.tups b xs (U.tups b xs q),λb o u q=>F.un.frzs b o u (U.frzs b o u q),λb ps q=>?_⟩,λa o q=>?_,F.new,x3,B,a0,x1,λb o q c=>?_,λb o o' q c W=>?_⟩
 .have d:=U.keep b o q n c (no b);have g:=F.un.keep b o d (U.free b o q n (no b)) (low b o q c) (no b);exact x1.1 b o (stay b o o q c g)
 .obtain⟨sl,d⟩:=U.slot b o q n c (no b);have j:b∈aN (envOfC qual scope s₀.heap.objs.size f cd::outer):=by show b∈List.filterMap _ (_::_);exact zt _ c
  obtain⟨X,g⟩:=F.un.slot b _ d (U.free b o q n (no b)) j (no b);obtain⟨_,o',k,hd⟩:=r.mem j;rw[g]at k;cases k;obtain⟨t,p⟩:=x2 b _ g hd;exact⟨t,p⟩
 .obtain⟨o1,d⟩:=U.there b o q (no b);exact F.un.free b o1 d (U.free b o q n (no b)) (no b)
 .obtain⟨o1,i,d,g⟩:=two b o q;by_cases c:b∈aN outer
  .have j:b∈aN (envOfC qual scope s₀.heap.objs.size f cd::outer):=by show b∈List.filterMap _ (_::_);exact zt _ c
   obtain⟨_,o',k,hd⟩:=r.mem j;obtain⟨t,p⟩:=x2 b _ k hd;exact⟨_,p⟩
  .exact⟨_,x1.1 b i (stay b o i q c g)⟩
 .obtain⟨m1,d⟩:=U.tbls b ps q;obtain⟨Y,g⟩:=F.un.tbls b _ d;exact⟨m1++Y,by rw[g,Array.append_assoc]⟩
 .refine(F.hok a o q).stay (λb u c z=>x1.1 b u (G b u z ?_)) (λ_ z=>z) λ_ _ z=>z;rcases c with rfl|c
  .rw[q];intro z;cases z
  .rw[c];intro z;cases z
 .obtain⟨o1,d⟩:∃o1,s'.heap.get? b=Vo o1:=by
   cases J:H' b with
   | none=>exact absurd J c
   | some u=>exact(F.hok b u J).obj
  have g:=G b o1 d c;have:=x1.1 b o1 g;rw[q]at this;cases this;exact g
 .obtain⟨o1,i,d,g⟩:=two b o q;have p:=stay b o i q c g;have:=x1.1 b i p;rw[W]at this;cases this;exact p
end
section
variable {prog:Vd} {w:Ve} {A:Vi} {E:Va->Vc->Prop} {K:zk} {x D:Vb} {ox:Obj} {s:Vc}
structure InstC(h:Vh)(x:Vb)(ox:Obj)(D:Vb):Prop where
 at_:h.get? x=Vo ox
 cls:ox.cls=.ref D
def InstC.type{y:Vb}{a:Obj}(I:InstC h y a C):PySem.W.Looks M h (typeOf (.ref y)) (.ref C):=by
 have z:PySem.W.Looks M h (typeOf (.ref y)) a.cls:=(PySem.W.Looks.ld I.at_).andThen .now
 rwa [I.cls]at z
def yk(X:K.In h)(b:PySem.W.findIn K (.ref D) "__class__" = Vo (Vo (.builtin "object.__class__")))(c:PySem.W.specialIn K (.builtin "object.__class__") "__get__" = Vo (Vo (.builtin "getset_descriptor.__get__")))
  (d:PySem.W.takesIn K (.builtin "object.__class__")=Vo true):PySem.W.Looks M h (Builtin.ObjectAttr.find (.ref x) (.ref D) "__class__") (.bind (.builtin "getset_descriptor.__get__") (.builtin "object.__class__")):=by
 have f:=PySem.W.looks_findIn (M:=M) X b;have L2:PySem.W.Looks M h (Builtin.ObjectAttr.getOf (Vo (.builtin "object.__class__"))) (Vo (.builtin "getset_descriptor.__get__")):=PySem.W.looks_specialIn X c;have g:=PySem.W.looks_takesIn (M:=M) X d;refine f.andThen (L2.andThen ?_);refine PySem.W.Looks.andThen (a:=Vo (.builtin "getset_descriptor.__get__",.builtin "object.__class__")) (g.andThen ?_) (PySem.W.Looks.tag .now);rw[Am rfl];exact .now
def yT{tp:Va}{R:Result->Vc->Prop}(X:K.In s.heap)(I:InstC s.heap x ox D)(a:PySem.W.mroIn K D (.type "object")=Vo true)(b:R (.ok (.ret (.ref D))) s):
  codeAny (Vg prog w) A (.call (.builtin "getset_descriptor.__get__") ⟨[.builtin "object.__class__",.ref x,tp],[]⟩) R s:=by
 obtain⟨c,g,d,t,os⟩:=s;have f:=I.type (M:=Vg prog w);have h:=PySem.W.looks_mroIn (M:=Vg prog w) X a;refine codeAny_call_builtin PySem.W.KF.slot_gs.plain PySem.W.KF.entry_gs (PySem.W.KF.slot_gs.check _ _ _ _ _ _ _ _ PySem.W.KF.type_class (PySem.W.KF.args_gs _ _ _) ?_);unfold Builtin.«getset_descriptor.__get__» Builtin.Getset_descriptor.descrGet;rw[PySem.W.dga_obj];refine zi (zj ?_);unfold Builtin.Getset_descriptor.descrGetter Builtin.Getset_descriptor.descrCheckInstance Builtin.Getset_descriptor.descrNameAndClass isInstance;simp only[PySem.W.KF.owner_class];repeat lk
 refine⟨Code.quiet_builtin _ (by decide +kernel),codeAny_builtin PySem.W.KF.entry_class ?_⟩;unfold Builtin.«object.__class__» shownTypeOf;repeat lk
 exact b
def vM{tk:Tok}{Q:Fin->Vc->Prop}(X:K.In s.heap)(I:InstC s.heap x ox D)(a:PySem.W.findIn K (.ref D) "__class__" = Vo (Vo (.builtin "object.__class__")))(b:PySem.W.specialIn K (.builtin "object.__class__") "__get__" = Vo (Vo (.builtin "getset_descriptor.__get__")))
  (c:PySem.W.takesIn K (.builtin "object.__class__")=Vo true) (f:PySem.W.mroIn K D (.type "object")=Vo true)
  (h:Q (.done (.ret (.ref D))) s):Vf (Vg prog w) A (Builtin.«object.__getattribute__» ⟨[.ref x,.str "__class__" tk],[]⟩) Q E s:=by
 obtain⟨i,g,d,t,os⟩:=s;have j:=I.type (M:=Vg prog w);have k:=yk (M:=Vg prog w) (x:=x) X a b c;unfold Builtin.«object.__getattribute__»;refine zi (zj (zi (zj (zi (j.at (zi (k.at ?_)))))));show Vf _ _ (holding [Value.builtin "object.__class__"] (call (Value.builtin "getset_descriptor.__get__") [.builtin "object.__class__",.ref x,.ref D]) >>= ret) _ _ _;exact zi (wpAny_holding (wpAny_call (yT (s:=⟨i,g,d,t,os⟩) X I f (zj h))))
def sY{a:Va}{Q:Unit->Vc->Prop}(X:K.In s.heap)(I:InstC s.heap x ox D)(b:PySem.W.subIn K (.ref D) (.type "BaseException")=Vo true)(f:Q () s):
  Vf M A (checkBuiltinCall "BaseException.__getattribute__" ⟨[.ref x,a],[]⟩) Q E s:=by
 have k1:builtinKind "BaseException.__getattribute__" = Vo .slot:=by decide +kernel
 have k2:splitId "BaseException.__getattribute__" = Vo ("BaseException","__getattribute__"):=by decide +kernel
 have k3:=PySem.F.args_bexc_ga (.ref x) a;have c:PySem.W.Looks M s.heap (isInstance (.ref x) (.type "BaseException")) true:=(I.type (M:=M)).andThen (PySem.W.looks_subIn X b);obtain⟨h,g,d,t,os⟩:=s;simp only[checkBuiltinCall,k1,k2];refine zi (c.at ?_)
 repeat (any_goals (first|assumption|wp_step))
structure ExcK(K:zk)(D:Vb):Prop where
 lk:∃c d cd sl,K.lookup D=Vo ⟨c,d,.cls cd,sl⟩
 ga:PySem.W.findIn K (.ref D) "__getattribute__" = Vo (Vo (.builtin "BaseException.__getattribute__"))
 gt:PySem.W.findIn K (.ref D) "__getattr__" = Vo Vp
 sb:PySem.W.subIn K (.ref D) (.type "BaseException")=Vo true
 cf:PySem.W.findIn K (.ref D) "__class__" = Vo (Vo (.builtin "object.__class__"))
 cg:PySem.W.specialIn K (.builtin "object.__class__") "__get__" = Vo (Vo (.builtin "getset_descriptor.__get__"))
 ct:PySem.W.takesIn K (.builtin "object.__class__")=Vo true
 mo:PySem.W.mroIn K D (.type "object")=Vo true
def vz{Q:Option Va->Vc->Prop}(X:K.In s.heap)(I:InstC s.heap x ox D)(F:ExcK K D)
  (h:Q (Vo (.ref D)) { s with toks:=s.toks+1 }):Vf (Vg prog w) A (getAttr? (.ref x) "__class__") Q E s:=by
 obtain⟨a,g,d,t,os⟩:=s;have b:=I.type (M:=Vg prog w);have c:=PySem.W.looks_findIn (M:=Vg prog w) X F.ga;have L2:=PySem.W.looks_findIn (M:=Vg prog w) X F.gt;unfold getAttr? getAttrBy? getAttrBy;refine zi (wpAny_mkText (zi (wpAny_attempt (wpAny_holding (zi (b.at (zi (c.at ?_))))))))
 repeat (any_goals (first|assumption|wp_step|lk))
 refine codeAny_call_builtin (PySem.F.excAttr_ValueError).ga.plain PySem.F.entry_bexc_ga (sY (s:=⟨a,g,d,t+1,os⟩) X I F.sb (vM (s:=⟨a,g,d,t+1,os⟩) X I F.cf F.cg F.ct F.mo ?_))
 repeat (any_goals (first|assumption|wp_step|lk))
def kN(F:ExcK K D):PySem.W.KitX K (.ref x) (.ref D) (λh=>InstC h x ox D) where
 ty:=λ_ _ _ I=>I.type
 it:=λM h X _=>by obtain⟨c,d,cd,sl,a⟩:=F.lk;intro i j o s' k q;unfold isType loadHead;exact zi (wpAny_loadPart (k _ _ (X _ _ a)) (zj q))
 ne:=λh tp dd f n sl X b=>by obtain⟨c,d,cd,g,a⟩:=F.lk;rw[Bool.eq_false_iff];intro q;cases(show D=tp from Value.ref.inj (eq_of_beq q));have z:=X _ _ a;rw[b]at z;cases z
 ca:=λX I k=>vz X I F k
end
abbrev bG(X:Cx)(x:Vb)(oe:Obj):Cx:={ X with A:=X.A.mark (Vo (.ref x)),calm:=false,pn:=(x,oe)::X.pn,xe:=λ_ _=>False }
abbrev lF(X:Cx)(x:Vb):Cx:={ X with A:=X.A.mark (Vo (.ref x)),calm:=false,xe:=λ_ _=>False }
section
variable {X:Cx} {pins:List (Vb×Obj)} {σ:St} {H:Hp} {s:Vc} {x:Vb} {oe:Obj}
def Cx.Ok.marked(ok:X.Ok)(x:Vb):(lF X x).Ok:=
 ⟨ok.mod,ok.kind,ok.glob,ok.blt,ok.above,ok.inj,ok.has,ok.cab,(λz=>Bool.noConfusion z),ok.frames,ok.stk,ok.exf,ok.bs,ok.bsz,ok.noex,ok.exfs,ok.funs,ok.frf⟩
theorem Inv.marked(I:Inv X pins σ H s)(x:Vb):Inv (lF X x) pins σ H s:=⟨I.ok.marked x,I.os,I.bare,I.base,I.loc,I.cell,I.free,I.freeC,I.pin,I.hok,I.len⟩
def Inv.pinH(I:Inv X pins σ H s)(h1:s.heap.get? x=Vo oe)(h2:H x=Vp)(b:x≠X.env.locals)(c:x∉X.fs)(d:∀v,oe.data≠.cell v):Inv (bG X x oe) pins σ H s:=
  ⟨⟨I.ok.mod,I.ok.kind,I.ok.glob,I.ok.blt,I.ok.above,I.ok.inj,I.ok.has,I.ok.cab,(λz=>Bool.noConfusion z),I.ok.frames,I.ok.stk,I.ok.exf,I.ok.bs,I.ok.bsz,I.ok.noex,I.ok.exfs,I.ok.funs,I.ok.frf⟩,I.os,I.bare,I.base,I.loc,I.cell,I.free,I.freeC,
    λp a=>by
      rcases zE.mp a with rfl|a
      . exact ⟨h1,h2,b,c,d⟩
      . exact I.pin p a,I.hok,I.len⟩
def Inv.unpinH(ok:X.Ok)(I:Inv (bG X x oe) pins σ H s):Inv X pins σ H s:=⟨ok,I.os,I.bare,I.base,I.loc,I.cell,I.free,I.freeC,λp a=>I.pin p (zt _ a),I.hok,I.len⟩
def jx(K:zk)(x D:Vb):List V->Hp->VK->Prop:=λxs H Q=>∃b:Bool,((∃C,xs=[.ref x,.ref C]/\PySem.W.kitOne K (.ref D) (.ref C)=Vo b)\/(∃T,xs=[.ref x,.ty T]/\PySem.W.kitOne K (.ref D) (.type T)=Vo b) ∨
 ∃(p:Vb) (a:List Vb),xs=[.ref x,.ref p]/\H p=Vo (.tup (a.map V.ref))/\PySem.W.kitAny K (.ref D) (a.map Value.ref)=Vo b)/\Q (.bl b) H
theorem oB:∀{Cs:List Vb} {us:List Va},Vals (Cs.map V.ref) us->us=Cs.map Value.ref
 | [],_,r=>by cases r;rfl
 | _::_,_,r=>by
  cases r with
  | cons r t=>cases r;rw[oB t];rfl
def fC{D:Vb}(F:ExcK X.K D)(j:oe.cls=.ref D):bD (bG X x oe) (.builtin "isinstance") (jx X.K x D):=by
 intro pins s σ H xs us Q I r h;obtain⟨b,h,q⟩:=h;have p:=(I.pin (x,oe) (Ab _ zw)).1;have J:InstC s.heap x oe D:=⟨p,j⟩;rcases h with⟨C,rfl,a⟩|⟨T,rfl,a⟩|⟨tp,v,rfl,k,a⟩
 .obtain⟨u,c,rfl,r1,d⟩:=vals2 r;cases(show u=Value.ref x from r1);cases(show c=Value.ref C from d);exact PySem.W.kia_one (kN F) I.kIn J a (λz=>nomatch z) λtk=>⟨.bl b,H,I.tok tk,rfl,q⟩
 .obtain⟨u,c,rfl,r1,d⟩:=vals2 r;cases(show u=Value.ref x from r1);cases(show c=Value.type T from d);exact PySem.W.kia_one (kN F) I.kIn J a (λz=>nomatch z) λtk=>⟨.bl b,H,I.tok tk,rfl,q⟩
 .obtain⟨u,c,rfl,r1,d⟩:=vals2 r;cases(show u=Value.ref x from r1);cases(show c=Value.ref tp from d);obtain⟨o,t,⟨⟨cls,dd,data,sl⟩,i,f,n,g⟩,_⟩:=I.tuple (ah.of k);simp only at f g;subst f g;rw[oB t]at i;exact PySem.W.kia_tup (kN F) I.kIn J i a (λz=>nomatch z) λtk=>⟨.bl b,H,I.tok tk,rfl,q⟩
end
def m5(cls:Va)(E:XK)(t:TA):TS:=λ_ σ H=>t σ H λvs H1=>vs.length<=sizeLine/\E cls Vp H1
def w9{K:zk}{x:Vn}{bm:List Va}{a:String}(X:K.In h)(G:h.Ns Vj mg)(e:PySem.W.nsIn K Vj x=Vo (Vo (.ref C)))(q:PySem.W.excIn K C bm a=true):OwnCls x C bm a mg h:=by
 constructor
 .exact PySem.W.mg_of X G e
 .unfold PySem.W.excIn at q;cases hl:K.lookup C with
  | none=>rw[hl]at q;cases q
  | some o=>
   rw[hl]at q;obtain⟨cl,dd,data,sl⟩:=o;split at q
   .rename_i d;cases d;split at q
    .rename_i _ cd _ _ C' bm' k0 k1 k2 k3 n k5 hm hs;simp only[zX,beq_iff_eq,Bool.not_eq_true']at q;obtain⟨⟨⟨⟨⟨rfl,rfl⟩,b⟩,f⟩,o0⟩,c⟩:=q;obtain⟨nm,bs,mro,ns,g,hd,sn,sub,ab,col,del⟩:=cd
     try dsimp only at hm b o0 c
     subst hm b;obtain⟨l⟩:=sl;simp only at hs;subst hs;exact⟨_,_,_,_,_,_,_,_,_,_,_,_,_,_,_,_,_,X _ _ hl,.of_isNs (PySem.W.isNs_of_in X o0),PySem.W.nsMap_none_of_in X o0 c,PySem.W.tail_of_in X f⟩
    .cases q
   .cases q
section
variable {P:Vd} {w:Ve} {K:zk} {mg:Vn->Option Va} {base:Vh} {N:List Vn} {qual:Vn} {scope:Scope} {f:Vb} {cd:Va} {A:Vi} {outer:List Env} {s₀:Vc} {H₀:Hp} {E:XK}
def fG{x:Vn}{B a d:String}{bm:List Va}{np cpos pos:Pos}{e:Vk}{es:List Vk}{t:TA}(O:OwnCls x C bm a mg base)(FB:ExcBaseFacts B a d bm)
  (k:PA (aJ (aM P w) P w K mg base N qual scope f cd A outer s₀ H₀ E) (e::es) t) (n:Gl (aJ (aM P w) P w K mg base N qual scope f cd A outer s₀ H₀ E) x:=by rfl) (hd:(x == ("__debug__":Vn))=false:=by decide)
  (g:starEach (e::es) (aJ (aM P w) P w K mg base N qual scope f cd A outer s₀ H₀ E).env=(false,eval e (aJ (aM P w) P w K mg base N qual scope f cd A outer s₀ H₀ E).env)::starEach es (aJ (aM P w) P w K mg base N qual scope f cd A outer s₀ H₀ E).env:=by rfl)
  (i:(backTo cpos (starEach es (aJ (aM P w) P w K mg base N qual scope f cd A outer s₀ H₀ E).env)).any (·.1)=false:=by rfl) :
  PS (aJ (aM P w) P w K mg base N qual scope f cd A outer s₀ H₀ E) (.Raise (Vo (.Call (.Name x np) (e::es) [] cpos)) Vp pos) (m5 (.ref C) E t):=by
 intro pins s σ H D I h;obtain⟨tl,o,nm,q,bs,hdct,sn,sub,ab,col,dd,k0,k1,k2,k3,k5,mN,p,u,j,T⟩:=O.obj;refine wpAny_Raise_call_subT (newId:=a) (k5:=k5) (k3:=k3) (k2:=k2) (k1:=k1) (k0:=k0) (dd:=dd) (col:=col) (ab:=ab) (sub:=sub) (sn:=sn) (hdct:=hdct) (bs:=bs) (q:=q) (nm:=nm) (C:=C) (N:=o) (bm:=tl) FB (mN:=mN) (T.hasType FB.hasBase) (I.ok.hd rfl) (by rw[g];show(false || (backTo cpos (starEach es _)).any (·.1))=false;rw[i];rfl) j (eL I n O.bound ⟨rfl,?_⟩ hd);rw[g];have b:=k cpos pins s σ H _ I h;rw[g]at b;exact Calls.evalArgs_plain (ai b λus s1 ⟨vs,H1,c,r,z,q⟩=>⟨rfl,by rw[<-r.length];exact z,c.bk _ _ p,u.keeps c.bk,T.keeps c.bk,λh' e v=>vU (tk:=s1.toks) c (MadeX.of v) q⟩)
end
def iR{i:Nat}{x:Vn}{pos:Pos}{Q:Unit->Vc->Prop}(I:Inv X pins σ H s)(J:X.N.Nodup)(hi:X.N[i]?=Vo x)(K:X.env.kindOf x=Vo .local)
  (h:∀s',Inv X pins (σ.set i Vp) H s'->Q () s'):Vf M A (do bindName X.env x .none;unbindBehindTheSuite X.env x pos) Q E s:=by
 obtain⟨m,F,hl⟩:=id I.loc;have g:i<σ.length:=by rw[I.len];exact(zy.mp hi).1
 have cne:=I.cne;refine wpAny_nameGoes_keeps K F (by rw[I.ok.kind];rfl) λh' v w a=>?_;obtain⟨W,_,_,L,_⟩:=id F;have low:∀{b:Vb} {o:Obj},X.s₀.heap.get? b=Vo o->b≠X.env.locals:=λe=>zI (zS (zo e) I.ok.above);refine h _ ⟨I.ok,I.os,I.bare,⟨λb o e n B r=>(a.2 b (low e)).trans (I.base.keep b o e n B r),λb o e n B r=>?_,I.base.free,λb o e r=>?_,I.base.tups,I.base.frzs,I.base.tbls⟩,⟨_,w,λj y O f t P=>?_⟩,λy c e=>?_,I.free,I.freeC,λp R=>?_,λb ob e=>?_,by simpa using I.len⟩
 .obtain⟨sl,f⟩:=I.base.slot b o e n B r;exact⟨sl,(a.2 b (low e)).trans f⟩
 .obtain⟨o',f⟩:=I.base.there b o e r;exact⟨o',(a.2 b (low e)).trans f⟩
 .by_cases C:j=i
  .subst C;rw[List.getElem?_set_self g]at t;cases t
  .rw[List.getElem?_set_ne (Ne.symm C)]at t;obtain⟨S,T,q⟩:=hl j y O f t P;refine⟨S,T,?_⟩;rcases q with⟨k,e⟩|⟨k,c,e,z⟩
   .refine .inl ⟨k,?_⟩;have:y≠x:=λe=>C (my J f (e ▸ hi));simp[this,e]
   .exact .inr ⟨k,c,e,z.sameBut a (cne y c e)⟩
 .obtain⟨G,z⟩:=I.cell y c e;exact⟨G,z.sameBut a (cne y c e)⟩
 .obtain⟨e,n,ne,U,d⟩:=I.pin p R;exact⟨(a.2 p.1 ne).trans e,n,ne,U,d⟩
 .refine(I.hok b ob e).stay (λc G u q=>(a.2 c ?_).trans q) (λ_ q=>q) λ_ _ q=>q;rintro rfl;rcases u with rfl|u
  .rw[I.free]at e;cases e
  .rw[I.free]at u;cases u
section
def PB(Y:Cx)(st:Vl)(t:Ends->(St->XK)->St->Hp->Prop):Prop:=
 ∀(pins:List (Vb×Obj)) (s:Vc) (σ:St) (H:Hp) (D:Ends) (E:St->XK),Inv Y.nox pins σ H s->t D E σ H ->
  Vf (Vg Y.prog Y.w) Y.A (exec st Y.env) (SP Y.nox pins D) (λe s'=>∃a H1 s1,Inv Y.nox pins a H1 s1/\aM Y.prog Y.w Y.stack H1 s1 (E a) e s') s
def iX(Y:Cx)(st:List Vl)(t:Ends->(St->XK)->St->Hp->Prop):Prop:=
 ∀(pins:List (Vb×Obj)) (s:Vc) (σ:St) (H:Hp) (D:Ends) (E:St->XK),Inv Y.nox pins σ H s->t D E σ H ->
  Vf (Vg Y.prog Y.w) Y.A (execs st Y.env) (SP Y.nox pins D) (λe s'=>∃a H1 s1,Inv Y.nox pins a H1 s1/\aM Y.prog Y.w Y.stack H1 s1 (E a) e s') s
def qt:Ends->(St->XK)->St->Hp->Prop:=λD _ σ H=>D.nx σ H
def vb:iX Y [] qt:=λ_ _ σ H _ _ I h=>wpAny_execs_nil ⟨σ,H,I,h⟩
def ot(t u:Ends->(St->XK)->St->Hp->Prop):Ends->(St->XK)->St->Hp->Prop:=λD E σ H=>t ⟨u D E,D.rt,D.bk,D.ct⟩ E σ H
def tj{rest:List Vl}{t u:Ends->(St->XK)->St->Hp->Prop}(h1:PB Y st t)(h2:iX Y rest u):iX Y (st::rest) (ot t u):=by
 intro pins s σ H D E I h;refine wpAny_execs_cons (ai (h1 pins s σ H ⟨u D E,D.rt,D.bk,D.ct⟩ E I h) λf s1 q=>?_);cases f with
 | next=>
  obtain⟨a,H',b,q⟩:=q;exact h2 pins s1 a H' D E b q
 | brk=>exact q
 | cont=>exact q
 | ret v=>exact q
end
structure CalX(P:Vd)(w:Ve)(K:zk)(mg:Vn->Option Va)(base:Vh)(x:Vn)(k:Nat)(ps:List Vn)(sp:Sp):Prop where
 ex:∃(f:Vb) (fd:Vm),mg x=Vo (.ref f)/\PySem.W.keepIn K (.ref f)=true/\Binds K fd ps []/\FnOk P w K mg base (aM P w) k f fd ps sp
def Fly.lands{l:List Env}{x:Vb}{s':Vc}{f:Vh}{da:Option Vb}(F:Fly P w l H s x cls da H' s')(t:Heap.FlyingW B l x cls a0 s'.heap)(v:∀b o,s'.heap.get? b=Vo o->H' b≠Vp->B.get? b=Vo o)
  (k:∀b o o',s.heap.get? b=Vo o->b∉aN l->s'.heap.get? b=Vo o'->B.get? b=Vo o') (d:Heap.FlyingW B l x cls a0 f) (sm:s'.heap.UpToSlots f):Un (aN l) [] H H' s.heap f/\aU P w H' f:=by
 have no:∀b:Vb,b∉([]:List Vb):=λb z=>by cases z
 have i:=t.2.2.1;have up:∀b∈aN l,∀o,s'.heap.get? b=Vo o->∃sl,f.get? b=Vo { o with slots:=sl }:=λb c o p=>by obtain⟨_,o',g,hd⟩:=i.mem c;rw[p]at g;cases g;exact sm b o p hd
 refine⟨⟨λb o q n c _=>d.1 b o (k b o o q c (F.un.keep b o q n c (no b))),λb o q n c _=>?_,F.un.free,λb o q _=>?_,F.un.tups,F.un.frzs,F.un.tbls⟩,λa o q=>?_⟩
 .obtain⟨sl,y⟩:=F.un.slot b o q n c (no b);obtain⟨j,h⟩:=up b c _ y;exact⟨j,h⟩
 .obtain⟨r,h⟩:=F.un.there b o q (no b);by_cases c:b∈aN l
  .obtain⟨sl,A⟩:=up b c _ h;exact⟨_,A⟩
  .exact⟨_,d.1 b r (k b o r q c h)⟩
 .refine(F.hok a o q).stay (λb u c z=>d.1 b u (v b u z ?_)) (λ_ z=>z) λ_ _ z=>z;rcases c with rfl|c
  .rw[q];intro z;cases z
  .rw[c];intro z;cases z
def oq(K:zk)(C:Vb)(i:Nat)(tb:Ends->(St->XK)->St->Hp->Prop)(ts:Vb->Vb->Option Vb->TS):TS:=λD σ H=>
 tb D (λc cls da H1=>∃b,cls=.ref b/\PySem.W.exmOne K (.ref b) (.ref C)=Vo true/\ExcK K b/\∀x,H1 x=Vp ->
  ts x b da ⟨λa H'=>D.nx (a.set i Vp) H',D.rt,λa H'=>D.bk (a.set i Vp) H',λa H'=>D.ct (a.set i Vp) H'⟩ (c.set i (Vo (.ref x))) H1) σ H
def uF{i:Nat}{c n:Vn}{body:List Vl}{b0:Vl}{j:List Vl}{np R pos:Pos}{tb:Ends->(St->XK)->St->Hp->Prop}{ts:Vb->Vb->Option Vb->TS}
  (k:Y.stack=Y.env::Y.outer) (p:Y.env.frame=Vo Y.env.locals) (S:Y.N.Nodup) (hi:Y.N[i]?=Vo n) (hk:Y.env.kindOf n=Vo .local) (hx:Y.env.scope.names.lookup n=Vo .local) (hm:Y.mg c=Vo (.ref C)) (hg:Gl Y c) (hd:(c == ("__debug__":Vn))=false)
  (hb:iX Y body tb) (hs:∀(x:Vb) (oe:Obj) (t:Vb) (da:Option Vb),ExcK Y.K t->oe.cls=.ref t->(∃vs,oe.data=.fields vs/\vs[2]?=Vo .none)->(∀d,da=Vo d->oe.dict=Vo d)->bI (bG Y x oe) (b0::j) (ts x t da)) :
  PS Y.nox (.Try body [.ExceptHandler (Vo (.Name c np)) (Vo n) (b0::j) R] [] [] pos) (oq Y.K C i tb ts):=by
 intro pins s σ H D I h;refine wpAny_Try_except (wpAny_mono (hb pins s σ H _ _ I h) (λf s1 q=>?_) λe s1 q=>?_)
 .cases f with
  | next=>exact wpAny_execs_nil q
  | brk=>exact q
  | cont=>exact q
  | ret v=>exact q
 obtain⟨a3,H1,s2,I1,x,cls,da,H',rfl,⟨t,rfl,hex,hK,hts⟩,F⟩:=q;obtain⟨B,a0,fl,f1,f2⟩:=F.fly;have ok:Y.nox.Ok:=I1.ok;have a4:Y.A.frames=some (Y.env::Y.outer):=by rw[<-k];exact ok.frames
 have a5:Heap.FlyingW B (Y.env::Y.outer) x (.ref t) a0 s1.heap:=by rw[<-k];exact fl
 refine m8 a4 p a5 F.alone λh4 a6 a7 a8=>ni (s:={ s1 with heap:=h4 }) a6 a8 λh5 E a9 ab=>?_;have y:s1.heap.UpToSlots h5:=a7.trans a9;have T:∀G,Heap.FlyingW B (Y.env::Y.outer) x (.ref t) a0 G->s1.heap.UpToSlots G->∀g tk dr,g=s1.gens->Inv Y.nox pins a3 H' ⟨G,g,dr,tk,s1.os⟩:=λG r J g tk dr eg=>by obtain⟨un,hok⟩:=F.lands fl f1 f2 (by rw[k];exact r) J;exact I1.call' (s':=⟨G,g,dr,tk,s1.os⟩) F.os un hok (by rw[eg];exact F.bare) (λb z=>by cases z)
 have I5:=T h5 E y s1.gens s1.toks s1.drawn rfl;have ac:PySem.W.Looks (Vg Y.prog Y.w) h5 (typeOf (.ref x)) (.ref t):=by obtain⟨ob,hob,hc⟩:=E.there;exact InstC.type ⟨hob,hc⟩
 refine wpAny_handleBy_cons (codeAny_handlers_test ?_) (by intro q;cases q);refine eL (X:=lF Y.nox x) (I5.marked x) hg hm ?_ hd;refine(PySem.W.exm_one (M:=Vg Y.prog Y.w) I5.kIn ac hex).here ?_;dsimp only;rw[Am rfl];refine codeAny_handlers_suite_as (vk (s:={ s1 with heap:=h5 }) E ab λG r J U=>?_);have I6:=T G r (y.trans J) s1.gens s1.toks s1.drawn rfl;obtain⟨oe,vs,he,hc,Z,_⟩:=r.first;have a1:x∉aN (Y.env::Y.outer):=λad=>by obtain⟨_,o,ho,am⟩:=r.2.2.1.mem ad;rw[he]at ho;cases ho;exact am vs Z
 have I7:=I6.pinH (x:=x) he F.new (λz=>a1 (qx (env:=Y.env) zw (by rw[p,z]))) (λz=>a1 (by show x∈List.filterMap _ _;rw[List.filterMap_cons,p];exact zt _ z)) (λv z=>by rw[Z]at z;cases z);refine jt (X:=bG Y.nox x oe) (v:=.ref x) I7 S hi (.inl hx) rfl (λs8 I8=>?_) (.inr hx);refine wpAny_mono (hs x oe t da hK hc (by obtain⟨o',a2,x1,x2,x3,_⟩:=U;rw[he]at x1;cases x1;exact⟨a2,x2,x3⟩) (by obtain⟨o',a2,x1,_,_,x4⟩:=U;rw[he]at x1;cases x1;exact x4) pins s8 _ H' _ I8 (hts x F.new)) (λf s9 q=>?_) λ_ _ z=>z.elim;cases f with
 | next=>
  obtain⟨L,O,P,q⟩:=q;exact iR (X:=Y.nox) (Inv.unpinH ok P) S hi hk λQ a=>⟨_,O,a,q⟩
 | brk=>
  obtain⟨L,O,P,q⟩:=q;exact iR (X:=Y.nox) (Inv.unpinH ok P) S hi hk λQ a=>⟨_,O,a,q⟩
 | cont=>
  obtain⟨L,O,P,q⟩:=q;exact iR (X:=Y.nox) (Inv.unpinH ok P) S hi hk λQ a=>⟨_,O,a,q⟩
 | ret u=>
  obtain⟨v,L,O,P,rv,q⟩:=q;exact iR (X:=Y.nox) (Inv.unpinH ok P) S hi hk λQ a=>⟨v,_,O,a,rv,q⟩
def Dfn.okX{K:zk}{x:Vn}{k:Nat}(D:Dfn K mg x st ps)(S:FnScope N ps (ay st))(len:∀vs H Q E,sp vs H Q E->vs.length=ps.length)
  (a:∀(f:Vb) (cdv:Va) (A:Vi) (outer:List Env) (s:Vc) (H:Hp) (vs:List V) (Q:VK) (E:XK),Room k (A.deeper (envOfC x (ay st) s.heap.objs.size f cdv))->sp vs H Q E ->
   ∃t,bI (aJ (aM P w) P w K mg base N x (ay st) f cdv A outer s H E) (bJ st) t/\t { nx:=λ_ H'=>Q .non H',rt:=Q } (start N vs) H):CalX P w K mg base x (k+1) ps sp:=by
 obtain⟨f,fd,c,F,d⟩:=D.ex;obtain⟨oc,od,kV,doc,pm,an,cdv,ct,osl,rfl,lk,b⟩:=F.ex;exact⟨f,_,c,F.kp,d,mz lk b S len λA outer s H vs Q E hr h=>a f cdv A outer s H vs Q E hr h⟩
abbrev ki:List Va:=[.type "ValueError",.type "Exception",.type "BaseException",.type "object"]
def cA(K:zk)(x:Vn):Vb:=match PySem.W.nsIn K Vj x with
 | some (Vo (.ref C))=>C
 | _=>0
def jY(K:zk)(x:Vn):Bool:=
 PySem.W.excIn K (cA K x) ki "ValueError.__new__" && (match K.lookup (cA K x)with|some ⟨_,_,.cls _,_⟩=>true|_=>false) && PySem.W.findIn K (.ref (cA K x)) "__getattribute__" == Vo (Vo (.builtin "BaseException.__getattribute__")) &&
 PySem.W.findIn K (.ref (cA K x)) "__getattr__" == Vo Vp && PySem.W.subIn K (.ref (cA K x)) (.type "BaseException") == Vo true && PySem.W.findIn K (.ref (cA K x)) "__class__" == Vo (Vo (.builtin "object.__class__")) &&
 PySem.W.specialIn K (.builtin "object.__class__") "__get__" == Vo (Vo (.builtin "getset_descriptor.__get__")) && PySem.W.takesIn K (.builtin "object.__class__") == Vo true && PySem.W.mroIn K (cA K x) (.type "object") == Vo true
structure Xf(K:zk)(mg:Vn->Option Va)(base:Vh)(all raised:List Vn):Prop where
 cl:∀x∈all,mg x=Vo (.ref (cA K x))
 own:∀x∈raised,OwnCls x (cA K x) ki "ValueError.__new__" mg base
 exk:∀x∈raised,ExcK K (cA K x)
 up:∀x∈raised,PySem.W.exmOne K (.ref (cA K x)) (.ref (cA K "StairError"))=Vo true
 kv:∀x∈raised,PySem.W.kitOne K (.ref (cA K x)) (.type "ValueError")=Vo true
 kc:∀x∈raised,∀y∈all,PySem.W.kitOne K (.ref (cA K x)) (.ref (cA K y))=Vo (x == y || y == ("StairError":Vn))
def lQ(K:zk)(all raised:List Vn):Bool:=
 all.all (λx=>PySem.W.nsIn K Vj x == Vo (Vo (.ref (cA K x)))) && raised.all (λx=>all.contains x && jY K x && PySem.W.exmOne K (.ref (cA K x)) (.ref (cA K "StairError")) == Vo true && PySem.W.kitOne K (.ref (cA K x)) (.type "ValueError") == Vo true &&
  all.all λy=>PySem.W.kitOne K (.ref (cA K x)) (.ref (cA K y)) == Vo (x == y || y == ("StairError":Vn)))
def wd{K:zk}{all raised:List Vn}(X:K.In base)(G:base.Ns Vj mg)(h:lQ K all raised=true):Xf K mg base all raised:=by
 unfold lQ at h;rw[zX,zV,zV]at h;obtain⟨h1,h2⟩:=h;have n1:∀x∈all,PySem.W.nsIn K Vj x=Vo (Vo (.ref (cA K x))):=λx a=>eq_of_beq (h1 x a);have b:∀x∈raised,((((x∈all/\jY K x=true)/\PySem.W.exmOne K (.ref (cA K x)) (.ref (cA K "StairError"))=Vo true)/\PySem.W.kitOne K (.ref (cA K x)) (.type "ValueError")=Vo true)/\∀y∈all,PySem.W.kitOne K (.ref (cA K x)) (.ref (cA K y))=Vo (x == y || y == ("StairError":Vn))):=λx a=>by have:=h2 x a;simp only[zX,beq_iff_eq,List.contains_iff_mem,zV]at this;exact this
 have f:∀x∈raised,PySem.W.excIn K (cA K x) ki "ValueError.__new__" = true/\ExcK K (cA K x):=λx a=>by
  have:=(b x a).1.1.1.2;unfold jY at this;simp only[zX,beq_iff_eq]at this;obtain⟨⟨⟨⟨⟨⟨⟨⟨a1,a2⟩,a3⟩,a4⟩,a5⟩,a6⟩,a7⟩,a8⟩,a9⟩:=this;refine⟨a1,?_,a3,a4,a5,a6,a7,a8,a9⟩;cases hl:K.lookup (cA K x)with
  | none=>rw[hl]at a2;cases a2
  | some o=>
   rw[hl]at a2;obtain⟨c,d,data,sl⟩:=o;cases data<;>first|exact ⟨_,_,_,_,rfl⟩|cases a2
 exact⟨λx a=>PySem.W.mg_of X G (n1 x a),λx a=>w9 X G (n1 x (b x a).1.1.1.1) (f x a).1,λx a=>(f x a).2,λx a=>(b x a).1.1.2,λx a=>(b x a).1.2,λx a=>(b x a).2⟩
theorem pJ{K:zk}{t:Va}:∀{Cs:List Vb},(∀C∈Cs,PySem.W.kitOne K t (.ref C)=Vo false)->PySem.W.kitAny K t (Cs.map Value.ref)=Vo false
 | [],_=>rfl
 | C::Cs,h=>by show(match PySem.W.kitOne K t (.ref C)with|some true=>Vo true|some false=>PySem.W.kitAny K t (Cs.map Value.ref)|none=>Vp)=Vo false;rw[h C zw];exact pJ λD a=>h D (zt _ a)
section
variable {K:zk} {D:Ends} {σ:St} {H:Hp} {Q:VK} {E:XK} {C x:Vb}
def rd_raise{t:TA}(h:t σ H λvs H1=>vs.length<=sizeLine/\E cls Vp H1):m5 cls E t D σ H:=h
def f9{b:Bool}(c:PySem.W.kitOne K (.ref C) (.ref a)=Vo b)(h:Q (.bl b) H):jx K x C [.ref x,.ref a] H Q:=⟨b,.inl ⟨a,rfl,c⟩,h⟩
def vK{p:Vb}{Cs:List Vb}{b:Bool}(a:H p=Vo (.tup (Cs.map V.ref)))(c:PySem.W.kitAny K (.ref C) (Cs.map Value.ref)=Vo b)(h:Q (.bl b) H):jx K x C [.ref x,.ref p] H Q:=⟨b,.inr (.inr ⟨p,Cs,rfl,a,c⟩),h⟩
end
section
variable {K:zk} {D:Ends} {σ:St} {H:Hp} {E:St->XK} {C:Vb} {i:Nat} {t u tb:Ends->(St->XK)->St->Hp->Prop} {ts:Vb->Vb->Option Vb->TS} {c:TT}
def rd_bseq(h:t ⟨u D E,D.rt,D.bk,D.ct⟩ E σ H):ot t u D E σ H:=h
def rd_bnext(h:D.nx σ H):qt D E σ H:=h
end
end L2
namespace Tb
open PySem
end Tb
namespace Tb
open PySem
end Tb
namespace L2
open PySem PySem.Spec PyProof.Rows
namespace SF
end SF
end L2
namespace PyProof.Rows
open PySem
end PyProof.Rows
namespace L2
open PySem PySem.Spec PyProof.Rows
open AutoSeq1 (wpAny_loadPart')in
abbrev Row3:=Vn×Tok×Va
def iO(w:Ve)(e:Row3):DictEntry:=⟨PyData.keyHash w.params e.1,.str e.1 e.2.1,e.2.2⟩
def cY(w:Ve)(l:List Row3)(ep:Nat):Obj:={ cls:=.type "dict",dict:=Vp,data:=.dict (l.map (iO w)).toArray ep,slots:=#[] }
structure GDict(w:Ve)(K:zk)(a:Vb)(kvs:List (Key×V)):Prop where
 has:∃l ep,K.lookup a=Vo (cY w l ep)/\KV kvs (l.map λe=>((Sum.inr e.1:Key),e.2.2))
 nd:(kvs.map (·.1)).Nodup
 sm:(a == sysModules)=false
theorem sA{P:Vd}{w:Ve}:∀l:List Row3,Pairs (bK P w) (l.map (iO w)) (l.map λe=>((Sum.inr e.1:Key),e.2.2))
 | []=>.nil
 | e::l=>.cons (jT P w e.1 e.2.1) rfl (sA l)
def tu(l:List Row3):KeysOf (bK P w) (l.map (iO w)).toArray:=λe b=>by
 have a:e∈l.map (iO w):=by simpa using b
 obtain⟨x,_,rfl⟩:=List.mem_map.mp a;exact⟨.inr x.1,jT P w x.1 x.2.1,rfl⟩
def GDict.at(D:GDict X.w X.K a kvs)(I:Inv X pins σ H s):∃vs,KV kvs vs/\s.heap.DictOf (bK X.prog X.w) a vs:=by obtain⟨l,ep,hl,r⟩:=D.has;refine⟨_,r,cY X.w l ep,_,ep,I.kIn _ _ hl,⟨rfl,rfl,rfl⟩,rfl,tu l,sA l,?_⟩;rw[<-r.keys];exact D.nd
section
variable {X:Cx} {x:Vn} {a:Vb} {kvs:List (Key×V)} {i:Vk} {ty:TE} {p pos:Pos}
def qh(kvs:List (Key×V))(ty:TE):TE:=λσ H Q=>ty σ H λy H1=>∃k v,y=kV k/\ba kvs k=Vo v/\Q v H1
def lr(neg:Bool)(kvs:List (Key×V))(ty:TE):TE:=λσ H Q=>ty σ H λy H1=>∃k,y=kV k/\Q (.bl (if neg then !(ba kvs k).isSome else(ba kvs k).isSome)) H1
def gK(d:Gl X x)(f:X.mg x=some (.ref a))(D:GDict X.w X.K a kvs)(hi:PE X i ty)(g:mi i)(hd:(x == ("__debug__":Vn))=false:=by decide):PE X (.Subscript (.Name x p) i pos) (qh kvs ty):=by intro pins s σ H Q I h;refine qg PySem.F.slot_dict_getitem.lookup g (eL I d f (ai (hi pins s σ H _ I h) λt s2 ⟨y,H2,c,j,k,v,n,hv,q⟩=>?_) hd);subst n;obtain⟨vs,rel,dd⟩:=D.at c;obtain⟨u,r,b⟩:=bR.some_of (v:=v) (o:=valueAt vs k) (by rw[<-hv];exact rel.val k);exact⟨dd.typeIs,wpAny_getItem_of (fP j) dd.mapOf r ⟨v,H2,c.tok _,b,q⟩⟩
def m6(c:Gl X x)(d:X.mg x=some (.ref a))(D:GDict X.w X.K a kvs)(hi:PE X i ty)(hd:(x == ("__debug__":Vn))=false:=by decide):PC X .In i (.Name x p) (lr false kvs ty):=by intro pins s σ H Q I h;refine ai (hi pins s σ H _ I h) λj s1 ⟨y,H1,b,f,k,g,q⟩=>eL b c d ?_ hd;subst g;obtain⟨vs,rel,dd⟩:=D.at b;refine wpAny_in_of (fP f) D.sm dd.mapOf ?_;rw[<-(rel.val k).isSome_eq];exact⟨.bl (ba kvs k).isSome,H1,b.tok _,rfl,q⟩
def rd_gget{Q:VK}(h:ty σ H λy H1=>∃k v,y=kV k/\ba kvs k=Vo v/\Q v H1):qh kvs ty σ H Q:=h
def rd_gin{Q:VK}(h:ty σ H λy H1=>∃k,y=kV k/\Q (.bl (if neg then !(ba kvs k).isSome else(ba kvs k).isSome)) H1):lr neg kvs ty σ H Q:=h
def ef{R:V->Prop}{z:Vn}(hv:ba kvs (.inr z)=Vo v)(h:R v):∃k v,V.str z=kV k/\ba kvs k=Vo v/\R v:=⟨.inr z,v,rfl,hv,h⟩
def qS:R2:=λx y H Q=>∃a b,x=.str a/\y=.str b/\Q (.bl (!decide (b.cps.toList<a.cps.toList))) H
def qv:aV X (compareOp .LtE) qS:=by intro pins s σ H x y v u Q I c d h;obtain⟨a,b,rfl,rfl,q⟩:=h;obtain⟨t,rfl⟩:=c;obtain⟨f,rfl⟩:=d;exact PySem.P.le_str ⟨.bl _,H,I,rfl,q⟩
def rd_leS{a b:Vn}{Q:VK}(h:Q (.bl (!decide (b.cps.toList<a.cps.toList))) H):qS (.str a) (.str b) H Q:=⟨a,b,rfl,rfl,h⟩
def rd_disp{a:List (TE×TE)}{Q:VK}(h:∀p,H p=Vp->iz a σ (upd H p (.dK [])) λps H2=>H2 p=Vo (.dK [])/\∃kvs:List (Key×V),ps=kvs.map (λkv=>(kV kv.1,kv.2))/\kvs.length<=15/\Q (.ref p) (upd H2 p (.dK (dR [] kvs)))):qY a σ H Q:=h
def rd_dget{td:TE}{Q:VK}(h:td σ H λx H1=>ty σ H1 λy H2=>∃a v,x=.ref a/\i4 H2 a y (Vo v)/\Q v H2):qj td ty σ H Q:=h
end
section
variable {X:Cx}
def LitE.pe{e:Vk}{te:TE}(h:LitE e te):PE X e te:=
 LitE.rec (motive_1:=λe te _=>PE X e te) (motive_2:=λes ta _=>PA X es ta) gM cF af ak (λ_ c=>aB c) ae (λh _ a b=>aa a b (h.star _ _)) h
def sH{e:Vk}{te:TE}{es:List Vk}{t:TA}(h:LitE e te)(hr:PA X es t):PA X (e::es) (iJ te t):=aa h.pe hr (h.star _ _)
end
def gN(z:Vn):It:=⟨λi _=>i<z.cps.size,λi H x H'=>H'=H/\∃c,z.cps[i]?=Vo c/\x=.str ⟨#[c]⟩,λi _=>z.cps.size<=i⟩
def yO{K:zk}(z:Vn)(t:Tok)(it:Vb):Turn P w K tg (gN z) [it] it (λi h=>h.IsStrIter it (strIterType z) z t i) where
 mem:=by simp
 obj:=λi h st b j=>by
  have e:b=it:=by simpa using j
  subst e;obtain⟨o,e,c,d⟩:=st;exact⟨o,e,λv z=>by rw[d]at z;cases z⟩
 keep:=λi h h' st k=>by obtain⟨o,e,r⟩:=st;exact⟨o,k it (by simp) o e,r⟩
 item:=by
  intro X q y B C i pins s σ H E I p st F;subst q y B;have n:z.cps[i]?=Vo z.cps[i]:=Array.getElem?_eq_getElem F;obtain⟨G,J,R,L,M,N⟩:=p it (by simp);have fin:∀(ty:String),ty=strIterType z->["enumerate","zip","dict_itemiterator","dict_reverseitemiterator","odict_iterator","itertools.zip_longest","itertools.pairwise"].contains ty=false->∀h',h'.IsStrIter it ty z t (i+1)->Heap.SameBut it s.heap h' ->
    ∃u,Vo (Value.str ⟨#[z.cps[i]]⟩ s.toks)=Vo u/\Vf (Vg X.prog X.w) X.A (letOwnedTupleGo tg (.ref it) u) (λ_ s2=>∃x H',Inv X pins σ H' s2/\RelV x u/\(gN z).yld i H x H'/\s2.heap.IsStrIter it (strIterType z) z t (i+1)/\∀b∈[it],H' b=Vp) E { s with heap:=h',toks:=s.toks+1 }:=by
   intro ty O S h' a sb;have T:Inv X pins σ H { s with heap:=h',toks:=s.toks+1 }:=I.turned (λb o j e=>(sb.2 b j).trans e) G J L M N;obtain⟨o,e,c,d⟩:=id a;exact⟨_,rfl,gJ (s:={ s with heap:=h',toks:=s.toks+1 }) e c d S ⟨.str ⟨#[z.cps[i]]⟩,H,T,⟨_,rfl⟩,⟨rfl,_,n,rfl⟩,by rw[<-O];exact a,λb j=>(p b j).1⟩⟩
  cases g:z.cps.all (· < 128)with
  | true=>
   have f:strIterType z = "str_ascii_iterator":=by unfold strIterType;rw[g];rfl
   rw[f]at st;exact wpAny_pyNext_ascii_item st n λh' a sb=>fin _ f.symm (by decide) h' a sb
  | false=>
   have f:strIterType z = "str_iterator":=by unfold strIterType;rw[g];rfl
   rw[f]at st;exact wpAny_pyNext_wide_item st n λh' a sb=>fin _ f.symm (by decide) h' a sb
 done:=by
  intro X q y B C i pins s σ H E I p st F;subst q y B;have n:z.cps[i]?=Vp:=Array.getElem?_eq_none F;obtain⟨G,J,R,L,M,N⟩:=p it (by simp);have fin:∀h',Heap.ExtBut it s.heap h'->(Vp:Option Va)=Vp/\Inv X pins σ H { s with heap:=h' }:=λh' U=>⟨rfl,I.turned (t':=s.toks) (λb o j e=>U b o j e) G J L M N⟩;cases g:z.cps.all (· < 128)with
  | true=>
   have f:strIterType z = "str_ascii_iterator":=by unfold strIterType;rw[g];rfl
   rw[f]at st;exact wpAny_pyNext_ascii_end (I.ok.hd C) st n fin
  | false=>
   have f:strIterType z = "str_iterator":=by unfold strIterType;rw[g];rfl
   rw[f]at st;exact wpAny_pyNext_wide_end (I.ok.hd C) st n fin
 self:=λA i s Q E st h=>by
  cases g:z.cps.all (· < 128)with
  | true=>
   have f:strIterType z = "str_ascii_iterator":=by unfold strIterType;rw[g];rfl
   rw[f]at st;exact wpAny_pyIter_striter_ascii st h
  | false=>
   have f:strIterType z = "str_iterator":=by unfold strIterType;rw[g];rfl
   rw[f]at st;exact wpAny_pyIter_striter_wide st h
section
variable {X:Cx} {tg:Vk}
def rM(tl:TE):TI:=λσ H R=>tl σ H λx H1=>∃z,x=.str z/\R (gN z) H1
def vx{l:Vk}(hl:PE X l tl):PI X tg l (rM tl):=by
 intro pins s σ H R I h;refine ai (hl pins s σ H _ I h) λv s1 ⟨x,H1,a,r1,c⟩=>?_;obtain⟨z,rfl,q⟩:=c;obtain⟨t,rfl⟩:=r1;refine wpAny_pyIter_strU ?_;refine⟨s1.heap.objs.size,[s1.heap.objs.size],_,_,H1,rfl,a.kept (t':=s1.toks) λb o e=>zl _ e,yO z t _,⟨_,zm _ rfl,rfl,rfl⟩,λb d=>?_,q⟩;have e:b=s1.heap.objs.size:=by simpa using d
 subst e;exact a.fpOk (zJ _) (a.hok.fresh (zJ _))
end
def rd_iS{te:TE}(h:te σ H λx H1=>∃z,x=.str z/\R (gN z) H1):rM te σ H R:=h
section
variable {X:Cx}
theorem sD:∀{zs:List Vn} {us:List Va},Vals (zs.map V.str) us->StrsAre us zs
 | [],_,r=>by cases r;exact .nil
 | z::zs,_,r=>by
  cases r with
  | cons h t=>
   obtain⟨t',rfl⟩:=h;exact .cons z t' (sD t)
def lD(K:zk){o:Vk}{name:Vn}{apos cpos:Pos}{id:String}(d:PlainAttrs T)(slot:Slot T name id)(c:typeOf (.builtin id)=pure (.type "method_descriptor"))(f:fH X id r)(g:PE X o to)(h:X.K=K:=by rfl)
  (a:attributeBase o name X.env (eval o X.env)=eval o X.env:=by rfl) (b:(apos.endLine == cpos.line)=true:=by rfl):PE X (.Call (.Attribute o name apos) [] [] cpos) (jG K T r to):=by
 subst h;exact xO d slot c f g a b
end
def rd_bm0{K:zk}{Q:VK}(h:to σ H λx H1=>fW K T x H1/\r x [] H1 Q):jG K T r to σ H Q:=h
def mI(a b:Vn)(te:TE):TE:=λσ H Q=>te σ H λv H1=>∃i:Int,v=.int i/\i.natAbs.log2<1920/\(Str.empty++a++(toString i:Vn)).length<=sizeLine/\(Str.empty++a++(toString i:Vn)++b).length<=sizeLine/\∀z,Q (.str z) H1
def vL{a b:Vn}{j:Nat}{e:Vk}{te:TE}{o p2 p pos:Pos}(r:PE X e te)(u:(Str.empty++a).length<=sizeLine:=by decide +kernel):PE X (.JoinedStr [.Constant (.str a) j o,.FormattedValue e (-1) Vp p2,.Constant (.str b) n p] pos) (mI a b te):=by intro pins s σ H Q I h;refine JoinedStr_many (joinParts_cons (ai ((ak:PE X (.Constant (.str a) j o) (tC (.str a))) pins s σ H (λv H1=>v=V.str a/\H1=H) I ⟨rfl,rfl⟩) λv s1 ⟨x,H1,w,r1,d,f⟩=>?_));subst d f;obtain⟨t,rfl⟩:=r1;refine⟨u,joinParts_cons (FormattedValue_plain (ai (r pins s1 σ H1 _ w h) λv s2 ⟨y,H2,z,A,i,B,hl,g,c,q⟩=>?_))⟩;subst B;obtain⟨F,rfl⟩:=A;refine formatField_int_small hl ⟨g,joinParts_cons (ai ((ak:PE X (.Constant (.str b) n p) (tC (.str b))) pins _ σ H2 (λv k=>v=V.str b/\k=H2) (z.tok _) ⟨rfl,rfl⟩) λv G ⟨x,k,C,E,d,f⟩=>?_)⟩;subst d f;obtain⟨J,rfl⟩:=E;exact⟨c,joinParts_nil ⟨.str _,k,C.tok _,⟨_,rfl⟩,q _⟩ c⟩
def rd_fs3{a b:Vn}{te:TE}{Q:VK}(h:te σ H λv H1=>∃i:Int,v=.int i/\i.natAbs.log2<1920/\(Str.empty++a++(toString i:Vn)).length<=sizeLine/\(Str.empty++a++(toString i:Vn)++b).length<=sizeLine/\∀z,Q (.str z) H1):mI a b te σ H Q:=h
def vc{K:zk}{i:Nat}{tb:Ends->(St->XK)->St->Hp->Prop}{ts:Vb->Vb->Option Vb->TS}{D:Ends}(P:Vb->St->Hp->Prop)(h1:∀E:St->XK,(∀a c H1,P c a H1->E a (.ref c) Vp H1)->tb D E σ H)
  (h2:∀a c H1,P c a H1->PySem.W.exmOne K (.ref c) (.ref C)=Vo true/\ExcK K c/\∀x,H1 x=Vp->ts x c Vp ⟨λb H'=>D.nx (b.set i Vp) H',D.rt,λb H'=>D.bk (b.set i Vp) H',λb H'=>D.ct (b.set i Vp) H'⟩ (a.set i (Vo (.ref x))) H1):oq K C i tb ts D σ H:=
 h1 _ λa c H1 p=>⟨c,rfl,h2 a c H1 p⟩
section
variable {prog:Vd} {w:Ve} {A:Vi} {E:Va->Vc->Prop} {s:Vc} {dd:Option Vb}
def uf{it t x:Vb}{i:Nat}{Q:Option Va->Vc->Prop}(g:A.handled=Vo (.ref x))(h:aZ s.heap x dd)(a:x≠it)
  (hit:IsTupIter s.heap it t i) (j:IsTup s.heap t items) (hi:items[i]?=Vp) (n:∀h',Heap.ExtBut it s.heap h'->Q Vp { s with heap:=h' }):Vf (Vg prog w) A (pyNext (.ref it)) Q E s:=by
 obtain⟨o,c,C,hd⟩:=id hit;obtain⟨ol,d,_,nl,f⟩:=j;refine n9 ?_;refine Ah (name:=zY "__next__") hit.typeIs slot_tupleiter_next (wpAny_call_entry slot_tupleiter_next hit.typeIs entry_tupleiter_next ?_ (args_tupleiter_next _));have p:¬((Value.ref t == Value.none)=true):=zF;show Vf _ _ (field (.ref it) 0 >>= λq=>_) _ _ s;refine zi (wpAny_field (x:=.ref t) c hd rfl ?_);show Vf _ _ (ite ((Value.ref t == Value.none)=true) _ _) _ _ s;rw[Al p];show Vf _ _ (field (.ref it) 1 >>= λq=>_) _ _ s;refine zi (wpAny_field (x:=.int i 0) c hd rfl ?_);show Vf _ _ (seqItems? (.ref t) >>= λq=>_) _ _ s;refine zi (wpAny_seqItems d f ?_);simp only[zD,hi];have S:=Heap.SameBut.update s.heap it (Obj.mapFields (·.setIfInBounds 0 Value.none));refine zi (wpAny_rule (zi (wpAny_setField (x:=.none) c hd (by simp) ?_)));have al:aZ (s.heap.update it (Obj.mapFields (·.setIfInBounds 0 Value.none))) x dd:=by obtain⟨ox,vs,u,r⟩:=h;exact⟨ox,vs,(S.2 x a).trans u,r⟩
 refine pW (A:=A.in1) g al λh' e k z=>?_;obtain⟨v,z1,z2⟩:=z;exact⟨e,v,rfl,z1,z2,n h' λb o' y B=>k b o' ((S.2 b y).trans B)⟩
def uN{t x:Vb}{Q:List Va->Vc->Prop}(p:A.handled=Vo (.ref x))(k:aZ s.heap x dd)(c:IsTup s.heap t items)
  (q:∀h',Heap.ExtBut s.heap.objs.size s.heap h'->Q items.toList { s with heap:=h' }):Vf (Vg prog w) A (unpackItems (.ref t) items.size Vp) Q E s:=by
 have hlt:t≠s.heap.objs.size:=by obtain⟨o,g,_⟩:=c;exact zI (zo g)
 have d:x≠s.heap.objs.size:=by obtain⟨o,_,g,_⟩:=k;exact zI (zo g)
 unfold unpackItems;refine zi ?_;unfold notIterableAtAll;refine zi (wpAny_specialOf c.typeIs slot_tuple_iter.lookup ?_);refine zj ?_;simp only[Ad,if_false];refine zi (wpAny_holding (iter_tuple c ?_));refine zi (wpAny_holding (draw_tuple hlt items.size 0 _ _ ⟨_,zm _ rfl,rfl,rfl⟩ (c.push _) (by omega) λh1 f a=>?_));rw[show List.take items.size (List.drop 0 items.toList)=items.toList by rw[List.drop_zero];exact List.take_of_length_le (by simp),Al (by simp)];have h:IsTup h1 t items:=(c.push _).extBut a.extBut hlt;have i:aZ h1 x dd:=by obtain⟨ox,vs,u,r⟩:=k;exact⟨ox,vs,(a.2 x d).trans (zl _ u),r⟩
 refine zi (wpAny_holding (uf p i d f h (by simp) λh2 j=>?_));simp only[Option.isSome_none,Ad,if_false];exact zj (q h2 λb o n e=>j b o n (a.extBut b o n (zl _ e)))
def xH{x1}{pos:Pos}{t x:Vb}{Q:Unit->Vc->Prop}(b:A.handled=Vo (.ref x))(c:aZ s.heap x dd)(d:IsTup s.heap t items)
  (f:(assignEach elts env).length=items.size) (a:(assignEach elts env).findIdx? (·.1)=Vp)
  (h:∀h',Heap.ExtBut s.heap.objs.size s.heap h'->Vf (Vg prog w) A (assignInOrder ((assignEach elts env).map (·.2)) items.toList) Q E { s with heap:=h' }) :
  Vf (Vg prog w) A (assign (.Tuple elts x1 pos) env (.ref t)) Q E s:=by
 rw[assign_Tuple];refine zi (wpAny_standAt ?_);unfold unpack;rw[f,a];exact zi (wpAny_holding (uN b c d h))
end
def iy(X:Cx):Prop:=∃x,X.A.handled=Vo (.ref x)/\∀pins σ H s,Inv X pins σ H s->aZ s.heap x Vp
def Hz(X:Cx)(x:Vb)(oe:Obj)(z:Blk):Prop:=z.s.heap.get? x=Vo oe/\z.H x=Vp/\x∉z.fp/\x∉aN X.stack
section
variable {X:Cx} {x:Vb} {oe:Obj}
def qL{b:List Nat}{z:Blk}(a:∃vs,oe.data=.fields vs/\vs[2]?=Vo .none)(h:Hz (bG X x oe) x oe z):iy (cb (bG X x oe) sc own b z):=by obtain⟨vs,hd,h2⟩:=a;exact⟨x,rfl,λpins σ H s I=>⟨oe,vs,I.base.keep x oe h.1 h.2.1 h.2.2.2 h.2.2.1,hd,h2,λ_ z=>by cases z⟩⟩
def sO{es:List Vk}{k:Nat}{t:cT}{pos:Pos}(K:zk)(i:iy Y)(h:fV Y es t)(j:Y.K=K:=by rfl)
  (p:(assignEach es Y.env).length=n:=by rfl) (c:(assignEach es Y.env).findIdx? (·.1)=Vp:=by rfl):PG Y (.Tuple es k pos) (ir K n t):=by
 subst j;intro pins s σ H v u Q I r d;obtain⟨a,xs,q,w,hl,d⟩:=d;subst q;cases r;obtain⟨x,f,al⟩:=i;obtain⟨y,g,z,B⟩:=I.tuple w;refine xH f (al _ _ _ _ I) z (by simp[p,<-hl,g.length]) c λh' f=>?_;have A:Inv Y pins σ H { s with heap:=h' }:=I.kept (t':=s.toks) λb o e=>f b o (zI (zo e)) e;exact h pins _ σ H xs _ Q A (by simpa using g) d
def wK(G:iy Y)(a it:Vb)(hit:∀x,Y.A.handled=Vo (.ref x)->x≠it):TurnAt Y tg (cj Y.K a) [it] it (λi h=>h.IsListIter it a i) where
 obj:=(jm (P:=Y.prog) (w:=Y.w) (K:=Y.K) (tg:=tg) a it).obj
 keep:=(jm (P:=Y.prog) (w:=Y.w) (K:=Y.K) (tg:=tg) a it).keep
 item:=by intro i pins s σ H E I j st n;obtain⟨xs,x,k,q⟩:=n;obtain⟨r,t,p,J⟩:=I.list k;obtain⟨u,L,M⟩:=t.get q;obtain⟨v,y,N,z,B,C⟩:=j it (by simp);refine wpAny_pyNext_list_item st p.isList (x:=u) (by simpa using L) λh' f sb=>?_;have O:Inv Y pins σ H { s with heap:=h' }:=I.turned (t':=s.toks) (λb o g e=>(sb.2 b g).trans e) v y z B C;obtain⟨o,e,c,d⟩:=id f;exact⟨u,rfl,gJ (s:={ s with heap:=h' }) e c d (by decide) ⟨x,H,O,M,⟨rfl,λys Q=>by rw[I.list_inj Q k];exact q⟩,f,λb g=>(j b g).1⟩⟩
 done:=by intro i pins s σ H E I j st n;obtain⟨xs,k,q⟩:=n;obtain⟨r,t,p,J⟩:=I.list k;obtain⟨v,y,N,z,B,C⟩:=j it (by simp);have hl:=t.length;obtain⟨x,F,al⟩:=G;exact xy F (al _ _ _ _ I) (hit x F) st p.isList (by simp;omega) λh' R=>⟨rfl,I.turned (t':=s.toks) (λb o g e=>R b o g e) v y z B C⟩
 self:=(jm (P:=Y.prog) (w:=Y.w) (K:=Y.K) (tg:=tg) a it).self
def vj(K:zk){pos:Pos}(own:List Vn)(d:List Nat){u:TE}{te:TE}(i:∃vs,oe.data=.fields vs/\vs[2]?=Vo .none)(hi:PE (bG X x oe) iter u)
  (E:∀z,iy (cb (bG X x oe) sc own d z)->PG (cb (bG X x oe) sc own d z) tg g) (F:∀z,fi (cb (bG X x oe) sc own d z) ifs tc)
  (G:∀z,PE (cb (bG X x oe) sc own d z) elt te) (L:X.K=K:=by rfl) (B:sc.kind=.function:=by rfl) (j:eu sc (bG X x oe).env.scope=true:=by rfl) (M:fj sc (bG X x oe).N d=true:=by rfl)
  (O:∀y,foldedSetIterable iter (bG X x oe).env y=pure y:=by intro _;rfl):PE (bG X x oe) (.ListComp elt [⟨tg,iter,ifs,0⟩] sc pos) (iG own.length d (i9 K u) g tc te):=by
 subst L;intro pins s σ H Q I h;rw[eval_ListComp];refine wpAny_comprehension_free (use:=Vp) rfl O (jW λp c P=>I.ok.has p.1 (lE j c P)) B (λp c hl=>tM j c hl) (ai (hi pins s σ H _ I h) λv s1 h1=>?_);obtain⟨v1,H1,f,r1,a,rfl,⟨xs,R⟩,W,w0,turn⟩:=h1;cases r1;obtain⟨S,rv,p,k⟩:=f.list R;refine wpAny_pyIter_list p.isList ?_;have T:Inv (bG X x oe) pins σ H1 { s1 with heap:=s1.heap.push { cls:=.type "list_iterator",data:=.fields #[.ref a,.int 0 0] } }:=f.kept (t':=s1.toks) λb o e=>zl _ e;have c:=f.pin (x,oe) (Ab _ zw);have k:∀C,Hz (bG X x oe) x oe ⟨{ s1 with heap:=s1.heap.push { cls:=.type "list_iterator",data:=.fields #[.ref a,.int 0 0] } },H1,[s1.heap.objs.size],C⟩:=λC=>by
  refine⟨zl _ c.1,c.2.1,λz=>?_,λz=>?_⟩
  .have:x=s1.heap.objs.size:=by simpa using z
   exact absurd (zo c.1) (by rw[this];exact Nat.lt_irrefl _)
  .rcases zE.mp (f.stkSub x z)with e|e
   .exact c.2.2.1 e
   .exact c.2.2.2.1 e
 refine wM (it:=s1.heap.objs.size) (fp:=[s1.heap.objs.size]) (J:=cj X.K a) (W:=W) (RR:=λacc C=>compPost (Vg X.prog X.w) (bG X x oe).A (bG X x oe).xe Vp (EP (bG X x oe) pins σ Q) acc C) B j M (λC=>E _ (qL i (k C))) (λC=>F _) (λC=>G _) T
  (λC=>wK (qL i (k C)) a s1.heap.objs.size λU n=>by cases(show Vo (Value.ref x)=Vo (Value.ref U)from n);exact zI (zo c.1)) ⟨_,zm _ rfl,rfl,rfl⟩ (λb j=>?_) w0 turn ?_
 .have e:b=s1.heap.objs.size:=by simpa using j
  subst e;exact f.fpOk (zJ _) (f.hok.fresh (zJ _))
 intro D C s' ys H' nD Y Z ⟨m,hm⟩ _ q;refine⟨m,hm,λh' r=>?_⟩;obtain⟨f0,f1,f2,f3,f4,f5⟩:=Z;exact⟨.ref D,_,Y.turned (t':=s'.toks) (it:=C) (λb o t e=>(r.2 b t).trans e) f0 f1 f3 f4 f5,rfl,q⟩
end
section
variable {X:Cx}
def uv(K:zk):V->List V->Hp->VK->Prop:=λx vs H Q=>∃sep l zs,x=.str sep/\vs=[.ref l]/\ag K H l (List.map V.str zs)/\(zs.map (·.length)).sum+zs.length*sep.length<=1000000/\Q (.str (Txt.join sep zs)) H
def ic(K:zk)(a:X.K=K:=by rfl):fH X "str.join" (uv K):=by subst a;intro pins s σ H x vs v us Q I b c h;obtain⟨sep,l,zs,rfl,rfl,hl,d,q⟩:=h;obtain⟨t,rfl⟩:=b;obtain⟨u,rfl,f⟩:=vals1 c;cases f;obtain⟨g,r,pl,i⟩:=I.list hl;exact PyProof.Rows.join_list pl.isList (by simpa using sD r) (zT d (by decide)) λj k=>⟨.str _,H,I.tok _,⟨_,rfl⟩,q⟩
end
theorem jf{x:Vn}{c:Vb}:∀(names:List (Vn×NameKind)) (n:Nat) (acc:List (Vn×Vb)),(cellsFrom n names acc).lookup x=Vo c->acc.lookup x=Vo c\/(n<=c/\(x,NameKind.cell)∈names)
 | [],_,_,h=>.inl h
 | (y,k)::r,n,acc,h=>by
  unfold cellsFrom at h;by_cases a:(k == NameKind.cell)=true
  .rw[Am a]at h;have b:k=.cell:=by simpa using a
   subst b;rcases jf r (n+1) ((y,n)::acc) h with h|⟨h1,h2⟩
   .rw[Ae]at h;cases d:x == y with
    | true=>
     rw[d]at h;cases h;rw[beq_iff_eq.mp d];exact .inr ⟨zJ _,zw⟩
    | false=>rw[d]at h;exact .inl h
   .exact .inr ⟨Nat.le_of_succ_le h1,zt _ h2⟩
  .rw[Al a]at h;rcases jf r n acc h with h|⟨h1,h2⟩
   .exact .inl h
   .exact .inr ⟨h1,zt _ h2⟩
theorem kG{x y:Vn}{c:Vb}:∀(names:List (Vn×NameKind)) (n:Nat) (acc:List (Vn×Vb)),(∀x c,acc.lookup x=Vo c->@LT.lt Nat _ c n)->(∀x y c,acc.lookup x=Vo c->acc.lookup y=Vo c->x=y)->(cellsFrom n names acc).lookup x=Vo c->(cellsFrom n names acc).lookup y=Vo c->x=y
 | [],_,_,_,hi,h1,h2=>hi _ _ _ h1 h2
 | (z,k)::r,n,acc,b,hi,h1,h2=>by
  unfold cellsFrom at h1 h2;by_cases f:(k == NameKind.cell)=true
  .rw[Am f]at h1 h2;refine kG r (n+1) ((z,n)::acc) (λx c h=>?_) (λx y c h1 h2=>?_) h1 h2
   .rw[Ae]at h;cases e:x == z with
    | true=>rw[e]at h;cases h;exact Nat.lt_succ_self _
    | false=>rw[e]at h;exact Nat.lt_succ_of_lt (b x c h)
   .rw[Ae]at h1 h2;cases d:x == z with
    | true=>
     rw[d]at h1;cases h1;cases a:y == z with
     | true=>rw[beq_iff_eq.mp d,beq_iff_eq.mp a]
     | false=>rw[a]at h2;exact absurd (b _ _ h2) (Nat.lt_irrefl _)
    | false=>
     rw[d]at h1;cases a:y == z with
     | true=>rw[a]at h2;cases h2;exact absurd (b _ _ h1) (Nat.lt_irrefl _)
     | false=>rw[a]at h2;exact hi _ _ _ h1 h2
  .rw[Al f]at h1 h2;exact kG r n acc b hi h1 h2
theorem lM{x:Vn}{c:Vb}:∀(names:List (Vn×NameKind)) (h:Vh) (acc:List (Vn×Vb)),(cellsFrom h.objs.size names acc).lookup x=Vo c->acc.lookup x=Vo c\/(pushCells h names).IsCell c Vp
 | [],_,_,e=>.inl e
 | (y,k)::r,h,acc,e=>by
  unfold cellsFrom at e;unfold pushCells;by_cases a:(k == NameKind.cell)=true
  .rw[Am a]at e ⊢;rw[<-Heap.size_push h { cls:=.type "cell",data:=.cell none }]at e;rcases lM r (h.push { cls:=.type "cell",data:=.cell none }) ((y,h.objs.size)::acc) e with e|e
   .rw[Ae]at e;cases b:x == y with
    | true=>
     rw[b]at e;cases e;exact .inr ⟨_,pushCells_keeps _ _ _ _ (zm _ rfl),rfl⟩
    | false=>rw[b]at e;exact .inl e
   .exact .inr e
  .rw[Al a]at e ⊢;exact lM r h acc e
section
variable {M:Model} {A:Vi} {E:Va->Vc->Prop} {s:Vc}
def we{scope:Scope}{globals:Vb}{closure:List (Vn×Vb)}{func:Option Vb}{code:Va}{outer:Env}{builtins:Vb}{Q:Env->Vc->Prop}
  (b:Q (newEnv scope s.heap.objs.size globals (cellsFrom (s.heap.objs.size+1) scope.names closure) qual func code (Vo outer) builtins) { s with heap:=pushCells (s.heap.push { cls:=.type "dict",data:=.dict #[] }) scope.names }) :
  Vf M A (newFunctionEnv scope globals closure [] qual func code (Vo outer) builtins) Q E s:=by
 simp only[newFunctionEnv,Option.isSome_some,if_true];refine zi (wpAny_alloc ?_);refine zi (wpAny_layCells _ (λname kind cells=>by cases a:kind == NameKind.cell<;>simp[a]) _ _ _ _ ?_);rw[show ({ s with heap:=s.heap.push { cls:=.type "dict",data:=.dict #[] } }:Vc).heap.objs.size=s.heap.objs.size+1 from Heap.size_push ..];refine zi ?_;rw[List.forIn_nil];exact zj (zj b)
end
def ff(X:Cx)(sc:Scope)(C:Vb):List (Vn×Vb):=cellsFrom (Nat.succ C) sc.names (cp sc.names X.env.cells)
def bO(X:Cx)(sc:Scope)(own:List Vn)(a:List Nat)(z:Blk):Cx where
 prog:=X.prog
 w:=X.w
 K:=X.K
 mg:=X.mg
 base:=X.base
 A:=X.A
 N:=own++a.map λj=>X.N.getD j ""
 s₀:=z.s
 H₀:=z.H
 env:=compEnvC sc (ff X sc z.C) z.C X.env
 outer:=X.stack
 stack:=X.stack
 ex:=z.fp
 fn:=λx=>sc.names.lookup x == Vo .cell
 calm:=X.calm
 pn:=[]
 xe:=λ_ _=>False
def cJ(sc out:Scope):Bool:=sc.names.all λp=>(p.2 != .cell || sc.names.lookup p.1 == Vo .cell) && (p.2 != .local || sc.names.lookup p.1 == Vo .local) && (p.2 != .free || out.names.lookup p.1 == Vo .cell || out.names.lookup p.1 == Vo .free) && (p.2 != .free || sc.names.lookup p.1 == Vo .free)
def jj(h:cJ sc out=true)(a:p∈sc.names)(b:p.2=.free):out.names.lookup p.1=Vo .cell\/out.names.lookup p.1=Vo .free:=by have:=zV.mp h p a;simp[b]at this;exact this.1
def xN(h:cJ sc out=true){x:Vn}(a:(x,NameKind.free)∈sc.names)(h2:sc.names.lookup x=Vo .cell):False:=by have:=zV.mp h _ a;simp[h2]at this
def uU(h:cJ sc out=true)(a:p∈sc.names)(b:p.2=.cell):sc.names.lookup p.1=Vo .cell:=by have:=zV.mp h p a;simp[b]at this;exact this
def qk(h:cJ sc out=true)(a:p∈sc.names)(b:p.2=.local):sc.names.lookup p.1=Vo .local:=by have:=zV.mp h p a;simp[b]at this;exact this
section
variable {X:Cx} {pins:List (Vb×Obj)} {σ:St} {H:Hp} {s:Vc}
def gQ(ok:X.Ok)(a:cJ sc X.env.scope=true){x:Vn}(h:(cp sc.names X.env.cells).lookup x=Vo c):X.env.cells.lookup x=Vo c:=by
 rcases iT X.env.cells sc.names [] x c h with⟨h1,h2⟩|h1
 .obtain⟨d,hd⟩:=ok.has x (jj a h1 rfl);rw[hd]at h2 ⊢;rw[h2];rfl
 .simp at h1
def fZ(ok:X.Ok)(a:cJ sc X.env.scope=true){x:Vn}(h:(ff X sc C).lookup x=Vo c):X.env.cells.lookup x=Vo c\/(@LT.lt Nat _ C c/\sc.names.lookup x=Vo .cell):=by
 rcases jf _ _ _ h with h|⟨h1,h2⟩
 .exact .inl (gQ ok a h)
 .exact .inr ⟨h1,uU a h2 rfl⟩
def jS{x:Vn}(h:(x,NameKind.free)∈sc.names):∃c,(ff X sc C).lookup x=Vo c:=by obtain⟨c,a⟩:=iQ (cells:=X.env.cells) h;exact Option.isSome_iff_exists.mp (PySem.W.cellsFrom_some sc.names _ _ (.inr (by rw[a];rfl)))
def wR(I:Inv X pins σ H s)(a:cJ sc X.env.scope=true){x:Vn}(h:(cp sc.names X.env.cells).lookup x=Vo c):@LT.lt Nat _ c s.heap.objs.size:=I.cell_lt (gQ I.ok a h)
def tJ(I:Inv X pins σ H s){p:List Nat}{C:Nat}(q:sc.kind=.function)(d:cJ sc X.env.scope=true)
  (hfp:∀b∈fp,bq X pins H b) (f:s.heap.objs.size<=C) (hlt:∀b∈fp,b<s.heap.objs.size):(bO X sc own p ⟨s,H,fp,C⟩).Ok where
 mod:=I.ok.mod
 kind:=q
 glob:=I.ok.glob
 blt:=I.ok.blt
 above:=f
 inj:=λx y c h1 h2=>kG sc.names _ _ (λx c e=>Nat.lt_succ_of_le (zT (Nat.le_of_lt (wR I d e)) f)) (λx y c g r=>I.ok.inj x y c (gQ I.ok d g) (gQ I.ok d r)) h1 h2
 has:=λx i=>by
  have j:(relabel sc X.env).names.lookup x=Vo .cell\/(relabel sc X.env).names.lookup x=Vo .free:=i;have go:∀k,(relabel sc X.env).names.lookup x=Vo k->(k=.cell\/k=.free)->∃c,(ff X sc C).lookup x=Vo c:=λk h n=>by
   obtain⟨v,h1,h2⟩:=fo (sc:=sc) (env:=X.env) h;have m:=ix h1;rcases h2 with h2|⟨h2,_⟩
   .subst h2;rcases n with e|e
    .rw[e]at h1;exact Option.isSome_iff_exists.mp (PySem.W.cellsFrom_some sc.names _ _ (.inl h1))
    .rw[e]at m;exact jS m
   .rw[h2]at m;exact jS m
  rcases j with h|h
  .exact go _ h (.inl rfl)
  .exact go _ h (.inr rfl)
 cab:=λx c h e=>by
  have i:sc.names.lookup x=Vo .cell:=by simpa[bO]using h
  have t:(ff X sc C).lookup x=Vo c:=e;rcases jf _ _ _ t with g|⟨g,_⟩
  .rcases iT X.env.cells sc.names [] x c g with⟨h1,_⟩|h1
   .exact(xN d h1 i).elim
   .simp at h1
  .exact zT f (Nat.le_of_succ_le g)
 hd:=I.ok.hd
 frames:=I.ok.frames
 stk:=.inl rfl
 exf:=λb a=>⟨zI (zS (hlt b a) f),λx c e=>by
  rcases fZ I.ok d (C:=C) e with e|⟨e,_⟩
  .exact(hfp b a).2.2.2.2.1 x c e
  .exact Nat.ne_of_gt (Nat.lt_trans (zS (hlt b a) f) e)⟩
 bs:=I.bs
 bsz:=zT I.ok.bsz I.sz
 noex:=λb o e a=>by
  rcases(hfp b a).2.2.2.1 with z|z
  .exact I.ok.noex b o e z
  .exact absurd (zS (zo e) (zT I.ok.bsz z)) (Nat.lt_irrefl _)
 exfs:=λb a u=>by
  rcases zE.mp (I.stkSub b u)with e|h
  .exact(hfp b a).2.1 e
  .exact(hfp b a).2.2.1 h
 funs:=I.stack
 frf:=I.stkFree
def yU(I:Inv X pins σ H s){t:List Nat}{C D:Nat}{tk:Nat}{m:Vn->Option Va}(R:sc.kind=.function)(y:cJ sc X.env.scope=true)(S:fj sc X.N t=true)
  (hfp:∀b∈fp,bq X pins H b) (hlt:∀b∈fp,b<s.heap.objs.size) (hD:D=s.heap.objs.size) (hC:C=s.heap.objs.size+1) (old:∀b o,s.heap.get? b=Vo o->h1.get? b=Vo o)
  (B:h1.get? D=Vo o) (E:∀v,o.data≠.cell v) (T:h1.Ns C m) (F:∀x c,(ff X sc C).lookup x=Vo c->(cp sc.names X.env.cells).lookup x=Vo c\/h1.IsCell c Vp) :
  Inv (bO X sc own t ⟨s,H,fp,C⟩) [(D,o)] (bz own.length t σ) H { s with heap:=h1,toks:=tk } where
 ok:=tJ I R y hfp (show @LE.le Nat _ s.heap.objs.size C by omega) hlt
 os:=rfl
 bare:=I.bare
 base:=Un.kept old
 loc:=by
  refine⟨m,T,λi x v U W Y=>?_⟩;obtain⟨k,j,rfl,O,es⟩:=i6 W;have A:(own++t.map λj=>X.N.getD j "")[own.length+k]?=Vo x:=U;rw[zN (by omega),Nat.add_sub_cancel_left,zr,O]at A;have ex:X.N.getD j "" = x:=by simpa using A
  have h:=zV.mp S j (zA O);simp only[zX,decide_eq_true_eq,beq_iff_eq]at h;have G:X.N[j]?=some x:=by rw[<-ex,List.getD_eq_getElem?_getD,zq h.1];rfl
  have a:sc.names.lookup x=some .free:=by rw[<-ex];exact h.2
  have f:=ix a;have g:=jj y f rfl;obtain⟨m0,Z,J⟩:=I.loc;obtain⟨u,r,l⟩:=J j x v G es (by rcases g with z|z;exact .inr (.inl z);exact .inr (.inr z));refine⟨u,r,?_⟩;obtain⟨c,P⟩:=jS (X:=X) (C:=C) f;have K:X.env.cells.lookup x=Vo c:=by
   rcases fZ I.ok y P with e|⟨_,e⟩
   .exact e
   .rw[a]at e;cases e
  have n:s.heap.IsCell c (Vo u):=by
   rcases l with⟨z,_⟩|⟨_,c',Q,q⟩
   .have z':X.env.scope.names.lookup x=Vo .local:=z;rcases g with w|w<;>(rw[z']at w;cases w)
   .rw[K]at Q;cases Q;exact q
  have d:h1.IsCell c (Vo u):=by obtain⟨oc,L,hd⟩:=n;exact⟨oc,old c oc L,hd⟩
  right;refine⟨?_,c,P,d⟩;have M:(relabel sc X.env).names.lookup x=Vo .local\/(relabel sc X.env).names.lookup x=Vo .cell\/(relabel sc X.env).names.lookup x=Vo .free:=Y;rcases M with z|z
  .obtain⟨k',z1,z2⟩:=fo (sc:=sc) (env:=X.env) z;rw[a]at z1;rcases z2 with z2|⟨_,z2⟩
   .rw[z2]at z1;cases z1
   .cases z2
  .exact z
 cell:=λx c e=>by
  rcases F x c e with e|e
  .obtain⟨v,oc,L,hd⟩:=I.cell x c (gQ I.ok y e);exact⟨v,oc,old c oc L,hd⟩
  .exact⟨Vp,e⟩
 free:=I.hok.fresh (show @LE.le Nat _ s.heap.objs.size C by omega)
 freeC:=λx c e=>by
  rcases fZ I.ok y (C:=C) e with e|⟨e,_⟩
  .exact I.freeC x c e
  .exact I.hok.fresh (show @LE.le Nat _ s.heap.objs.size c by omega)
 pin:=λp hp=>by
  have e:p=(D,o):=by simpa[bO]using hp
  subst e;refine⟨B,I.hok.fresh (show @LE.le Nat _ s.heap.objs.size D by omega),?_,λz=>?_,E⟩
  .exact zI (show @LT.lt Nat _ D C by omega)
  .have h9:@LT.lt Nat _ D s.heap.objs.size:=I.stk_lt (b:=D) z;omega
 hok:=I.hok.kept old
 len:=by show(bz own.length t σ).length=(own++t.map λj=>X.N.getD j "").length;simp[bz]
def mR{pos:Pos}{L:List Nat}{te:TE}{J:It}{it:Vb}{RR:Va->Vb->Result->Vc->Prop}{E:Va->Vc->Prop}
  {Q:VK} {W:Nat->Nat->List V->Hp->Prop} (hk:sc.kind=.function) (hb:cJ sc X.env.scope=true) (hj:fj sc X.N L=true)
  (hg:∀C,PG (bO X sc own L ⟨s,H,fp,C⟩) tg g) (ht:∀C,fi (bO X sc own L ⟨s,H,fp,C⟩) ifs tc) (he:∀C,PE (bO X sc own L ⟨s,H,fp,C⟩) elt te)
  (I:Inv X pins σ H s) (T:∀C,TurnAt (bO X sc own L ⟨s,H,fp,C⟩) tg J fp it tn) (st:tn 0 s.heap) (hfp:∀b∈fp,bq X pins H b) (w0:∃m,W 0 m [] H)
  (turn:∀i m ys H',W i m ys H'->(J.stop i H'/\∀p,H' p=Vp->Q (.ref p) (upd H' p (.lst ys))) ∨
   (J.go i H'/\ys.length<sizeLine/\∃N:List V->Hp->Prop,(∀ys' H2,N ys' H2->∃m',m'<m/\W (i+1) m' ys' H2)/\∀x H2,J.yld i H' x H2->g x (bz own.length L σ) H2 λab M=>tc ab M λb H4=>
    if b=true then te ab H4 λv H5=>N (ys++[v]) H5 else N ys H4))
  (fin:∀D C s' ys H',H' D=Vp->Inv X pins σ (upd H' D (.lst ys)) s'->bq X pins (upd H' D (.lst ys)) C->(∃m,s'.heap.Ns C m)->s.heap.objs.size<=C->Q (.ref D) (upd H' D (.lst ys))->RR (.ref D) C (.ok .next) s') :
  Vf (Vg X.prog X.w) X.A (newList []) (λacc G=>Vf (Vg X.prog X.w) X.A (newFunctionEnv sc X.env.globals (cp sc.names X.env.cells) [] X.env.qual Vp .none (Vo X.env)) (λa2 ac=>
   codeAny (Vg X.prog X.w) X.A (.compStart (.ListComp elt [⟨tg,iter,ifs,0⟩] sc pos) 0 (.ref it) acc { a2 with scope:=relabel sc X.env }) (RR acc a2.locals) ac) E G) E s:=by
 have hlt:∀b∈fp,b<s.heap.objs.size:=λb f=>by obtain⟨o,e,_⟩:=(T 0).obj 0 s.heap st b f;exact zo e
 refine wpAny_newObj_type (we ?_);dsimp only;generalize a4:s.heap.push { cls:=.type "list",dict:=none,data:=.seq ([]:List Va).toArray }=H2 at *;have b5:H2.objs.size=s.heap.objs.size+1:=by rw[<-a4,Heap.size_push]
 have S:(pushCells (H2.push { cls:=.type "dict",data:=.dict #[] }) sc.names).Ns H2.objs.size (λ_=>none):=(Heap.Ns.new H2 (.type "dict")).keeps (pushCells_keeps _ _);have Z:∀x c,(ff X sc H2.objs.size).lookup x=some c->(cp sc.names X.env.cells).lookup x=some c\/(pushCells (H2.push { cls:=.type "dict",data:=.dict #[] }) sc.names).IsCell c none:=λx c e=>by have e':(cellsFrom (H2.objs.size+1) sc.names (cp sc.names X.env.cells)).lookup x=some c:=e;rw[<-Heap.size_push H2 { cls:=.type "dict",data:=.dict #[] }]at e';exact lM _ _ _ e'
 have old:∀b o,s.heap.get? b=Vo o->(pushCells (H2.push { cls:=.type "dict",data:=.dict #[] }) sc.names).get? b=Vo o:=λb o e=>pushCells_keeps _ _ b o (zl _ (a4 ▸ zl _ e));have b6:(pushCells (H2.push { cls:=.type "dict",data:=.dict #[] }) sc.names).get? s.heap.objs.size=Vo (br [] 0):=pushCells_keeps _ _ _ _ (zl _ (a4 ▸ zm _ rfl));generalize pushCells (H2.push { cls:=.type "dict",data:=.dict #[] }) sc.names=B at *;generalize c2:H2.objs.size=C at *;have below:∀b:Nat,b<s.heap.objs.size->b≠C:=λb f=>by omega
 generalize a0:s.heap.objs.size=D at *;let Y:Cx:=bO X sc own L ⟨s,H,fp,C⟩;have J0:Inv Y [(D,br [] 0)] (bz own.length L σ) H { s with heap:=B }:=
  yU I hk hb hj hfp (by rw[a0];exact hlt) a0.symm (by rw[a0];exact b5) old b6 (λv z=>by cases z) S Z
 have a5:@Ne Nat D C:=by omega
 have statF:∀{P':List (Vb×Obj)} {H':Hp},(∀b∈fp,H' b=Vp)->(∀p∈P',p.1∉fp)->∀b∈fp,bq Y P' H' b:=λ{P' H'} hn K b f=>by
  obtain⟨f0,f1,f2,f3,f4,f5⟩:=hfp b f;refine⟨hn b f,λz=>below b (hlt b f) z,λz=>?_,.inl f,λx c e=>?_,λp a6 z=>?_⟩
  .rcases zE.mp (I.stkSub b z)with e|h
   .exact f1 e
   .exact f2 h
  .rcases fZ I.ok hb (C:=C) e with e|⟨e,_⟩
   .exact f4 x c e
   .have h9:@LT.lt Nat _ b s.heap.objs.size:=by rw[a0];exact hlt b f
    exact Nat.ne_of_gt (show @LT.lt Nat _ b c by omega)
  .have:p∈P':=by simpa[Y,bO]using a6
   exact K p this (by rw[z];exact f)
 have ad:D∉fp:=λz=>by have h9:@LT.lt Nat _ D D:=hlt D z;omega
 have am:tn 0 B:=(T 0).keep 0 s.heap B st λb _ o e=>old b o e;have loop:∀G:Vc,G={ s with heap:=B } ->
   codeAny (Vg X.prog X.w) X.A (.compLoop (.ListComp elt [⟨tg,iter,ifs,0⟩] sc pos) 0 (.ref it) (.ref D) Y.env) (RR (.ref D) C) G:=by
  rintro G rfl;obtain⟨m0,w0⟩:=w0;refine pF (λn s'=>∃i ys t q H',Inv Y [(D,br t q)] (bz own.length L σ) H' s'/\Vals ys t/\ys.length<=sizeLine/\tn i s'.heap/\(∀b∈fp,H' b=Vp)/\W i n ys H') ?_ m0
   ⟨0,[],[],0,H,J0,.nil,Nat.zero_le _,am,λb f=>(hfp b f).1,w0⟩
  rintro n s3 ⟨i,ys,t,q,M,I3,rv,hz,an,fr3,w3⟩;have pD:∀p∈[(D,br t q)],p.1∉fp:=λp K=>by
   have e:p=(D,br t q):=by simpa using K
   rw[e];exact ad
  rcases turn i n ys M w3 with⟨stop,qn⟩|⟨go,hlen,N,hN,step⟩
  .refine ai ((T C).done i _ s3 _ M _ I3 (statF fr3 pD) an stop) λr s4 ⟨hr,I4⟩=>?_;subst hr;show RR (.ref D) C (.ok .next) s4;have O:=I4.pin (D,br t q) (Aa _ (zB.mpr rfl));have b7:s4.heap.get? D=Vo (br t q):=O.1;have nD:M D=Vp:=O.2.1;have U:Un (aN X.stack) fp H M s.heap s4.heap:=I4.base;have neD:∀b o,s.heap.get? b=Vo o->b≠D:=λb o e=>zI (by have h9:@LT.lt Nat _ b s.heap.objs.size:=zo e;omega);have neDH:∀b o,H b=Vo o->b≠D:=λb o e=>zI (by have h9:@LT.lt Nat _ b s.heap.objs.size:=I.hok.lt e;omega);have U2:Un (aN X.stack) fp H (upd M D (.lst ys)) s.heap s4.heap:=
    ⟨U.keep,U.slot,λb o e n hx=>by rw[aq (neD b o e)];exact U.free b o e n hx,U.there,λb xs e=>by rw[aq (neDH b _ e)];exact U.tups b xs e,
     λb o u e=>by rw[aq (neDH b _ e)];exact U.frzs b o u e,λb ps e=>by rw[aq (neDH b _ e)];exact U.tbls b ps e⟩
   have ap:aU X.prog X.w (upd M D (.lst ys)) s4.heap:=λb o e=>by
    by_cases f:b=D
    .subst f;rw[aI]at e;cases e;exact⟨hz,t,q,rv,b7⟩
    .rw[aq f]at e;exact(I4.hok b o e).stay (λc u _ z=>z) (λc z=>by rw[aq (bZ z nD)];exact z) λc xs z=>by rw[aq (bZ z nD)];exact z
   have IX:Inv X pins σ (upd M D (.lst ys)) s4:=I.call' (ch:=fp) I4.os U2 ap I4.bare λb f=>by obtain⟨f0,f1,f2,f3,f4,f5⟩:=hfp b f;exact⟨f3,f1,f4,f5⟩
   obtain⟨m4,b8,_⟩:=I4.loc;have nC:M C=Vp:=I4.free;refine fin D C s4 ys M nD IX ?_ ⟨m4,b8⟩ (show @LE.le Nat _ D C by omega) (qn D nD);refine⟨by rw[aq (Ne.symm a5)];exact nC,?_,?_,?_,?_,?_⟩
   .have h9:@LT.lt Nat _ X.env.locals s.heap.objs.size:=I.lt;exact Nat.ne_of_gt (show @LT.lt Nat _ X.env.locals C by omega)
   .exact I.nofs (show @LE.le Nat _ s.heap.objs.size C by omega)
   .right;have h9:@LE.le Nat _ X.s₀.heap.objs.size s.heap.objs.size:=I.sz;exact(show @LE.le Nat _ X.s₀.heap.objs.size C by omega)
   .intro x c e;have h9:@LT.lt Nat _ c s.heap.objs.size:=I.cell_lt e;exact zI (show @LT.lt Nat _ c C by omega)
   .intro p K;have h9:@LT.lt Nat _ p.1 s.heap.objs.size:=I.pin_lt K;exact zI (show @LT.lt Nat _ p.1 C by omega)
  .refine ai ((T C).item i _ s3 _ M _ I3 (statF fr3 pD) an go) λr s4 ⟨u,hr,h4⟩=>?_;subst hr;refine ai h4 λ_ s5 ⟨x,H5,I5,r5,y5,a7,b9⟩=>?_;have be:=I5.pinned (statF b9 pD) ((T 0).obj _ _ a7);refine ai (hg _ _ s5 _ H5 x u _ be r5 (step x H5 y5)) λ_ s6 ⟨a1,H6,I6,q6⟩=>?_;refine ai (ht _ _ s6 a1 H6 _ I6 q6) λok s7 ⟨H7,I7,q7⟩=>?_;have back:∀{s':Vc} {as:St} {H':Hp} {ys':List V} {its':List Va} {q':Nat},Inv Y ([(D,br its' q')]++cM fp s5.heap) as H' s'->Vals ys' its'->ys'.length<=sizeLine->N ys' H' ->
     ∃m,m<n/\∃i ys t q H',Inv Y [(D,br t q)] (bz own.length L σ) H' s'/\Vals ys t/\ys.length<=sizeLine/\tn i s'.heap/\(∀b∈fp,H' b=Vp)/\W i m ys H':=by
    intro s' as H' ys' its' q' I' bi bl nn;obtain⟨m',hm,w'⟩:=hN ys' H' nn;have hpin:∀b∈fp,∀o,s5.heap.get? b=Vo o->s'.heap.get? b=Vo o/\H' b=Vp:=λb f o e=>by have:=I'.pin (b,o) (Aa _ (Aa _ (iC f e)));exact⟨this.1,this.2.1⟩
    refine⟨m',hm,i+1,ys',its',q',H',?_,bi,bl,(T 0).keep _ _ _ a7 λb f o e=>(hpin b f o e).1,λb f=>?_,w'⟩
    .have y:=I'.unpinned;obtain⟨mm,bm,_⟩:=id y.loc;refine⟨y.ok,y.os,y.bare,y.base,⟨mm,bm,λk x v e1 e2 e3=>?_⟩,y.cell,y.free,y.freeC,y.pin,y.hok,?_⟩
     .obtain⟨m1,c3,bn⟩:=J0.loc;obtain⟨u1,r1,l1⟩:=bn k x v e1 e2 e3;refine⟨u1,r1,?_⟩;obtain⟨k',j,rfl,ej,es⟩:=i6 e2;have b0:(own++L.map λj=>X.N.getD j "")[own.length+k']?=Vo x:=e1;rw[zN (by omega),Nat.add_sub_cancel_left,zr,ej]at b0;have ex:X.N.getD j "" = x:=by simpa using b0
      have b1:=zV.mp hj j (zA ej);simp only[zX,decide_eq_true_eq,beq_iff_eq]at b1;have P:sc.names.lookup x=some .free:=by rw[<-ex];exact b1.2
      rcases l1 with⟨z,zz⟩|⟨z,c,e,zz⟩
      .exfalso;obtain⟨k2,z1,z2⟩:=fo (sc:=sc) (env:=X.env) (show(relabel sc X.env).names.lookup x=Vo .local from z);rw[P]at z1;rcases z2 with z2|⟨_,z2⟩
       .rw[z2]at z1;cases z1
       .cases z2
      .refine .inr ⟨z,c,e,?_⟩;have a8:X.env.cells.lookup x=Vo c:=by
        rcases fZ I.ok hb (C:=C) e with e|⟨_,e⟩
        .exact e
        .rw[P]at e;cases e
       obtain⟨ov,oc,b2,c4⟩:=I.cell x c a8;have b3:=old c oc b2;obtain⟨oz,bv,bw⟩:=zz;have a3:B.get? c=Vo oz:=bv;rw[b3]at a3;cases a3;have cnf:c∉fp:=λz'=>(hfp c z').2.2.2.2.1 x c a8 rfl;obtain⟨sl,hh⟩:=y.base.any b2 (I.freeC x c a8) cnf;exact⟨_,hh,bw⟩
     .show(bz own.length L σ).length=_;exact J0.len
    .obtain⟨o,e,d⟩:=(T 0).obj _ _ a7 b f;exact(hpin b f o e).2
   cases ok with
   | false=>
    rw[Al zF]at q7 ⊢;exact back I7 rv hz q7
   | true=>
    rw[Am rfl]at q7 ⊢;refine ai (he _ _ s7 a1 H7 _ I7 q7) λR s8 ⟨v,H8,I8,r8,q8⟩=>?_;have O:=I8.pin (D,br t q) (Aa _ (Ab _ (zB.mpr rfl)));have a9:s8.heap.get? D=Vo { cls:=.type "list",data:=.seq t.toArray q }:=O.1;have hl:=rv.length;refine call_meets F.slot_list_append ⟨_,a9,rfl⟩ F.entry_list_append (F.args_list_append_2 _ _) (PySem.list_append D t.toArray q R (by rw[zv];omega)) ⟨a9,?_⟩;have qq:=PySem.IsL.update a9 (λa=>a.push R);have eqs:t.toArray.push R=(t++[R]).toArray:=by simp
    rw[eqs]at qq;obtain⟨q2,c0⟩:∃q2,(s8.heap.update D (Obj.mapSeq λa=>a.push R)).get? D=Vo (br (t++[R]) q2):=⟨_,qq⟩;have c1:Inv Y (cM fp s5.heap) a1 H8 s8:=I8.pins_of λp K=>I8.pin p (Aa _ (Aa _ K));have b4:H8 D=Vp:=O.2.1;have I9:Inv Y (cM fp s5.heap) a1 H8 { s8 with heap:=s8.heap.update D (Obj.mapSeq λa=>a.push R),toks:=s8.toks }:=by
     refine c1.turned (it:=D) (λb o f e=>(Heap.get?_update_other s8.heap (Obj.mapSeq λa=>a.push R) (Ne.symm f)).trans e) b4 a5 (.inr (show @LE.le Nat _ s.heap.objs.size D by omega)) (λx c e=>?_) λp K=>?_
     .rcases fZ I.ok hb (C:=C) e with e|⟨e,_⟩
      .have h9:@LT.lt Nat _ c s.heap.objs.size:=I.cell_lt e;exact zI (show @LT.lt Nat _ c D by omega)
      .exact Nat.ne_of_gt (show @LT.lt Nat _ D c by omega)
     .have a6:p∈cM fp s5.heap:=by simpa[Y,bO]using K
      obtain⟨h1,_⟩:=jA a6;exact λz=>ad (z ▸ h1)
    refine back (ys':=ys++[v]) (its':=t++[R]) (q':=q2) (I9.pins_of λp K=>?_) (rv.append (.cons r8 .nil)) (by rw[zH,List.length_singleton];omega) q8;rcases zM.mp K with K|K
    .have e:p=(D,br (t++[R]) q2):=by simpa using K
     subst e;refine⟨c0,b4,a5,λz=>?_,λv z=>by cases z⟩;have h9:@LT.lt Nat _ D s.heap.objs.size:=I.stk_lt (b:=D) z;omega
    .exact I9.pin p (Aa _ K)
 exact codeAny_compStart_list (loop _ rfl) ((T 0).self X.A 0 { s with heap:=B } _ _ am (loop _ rfl))
def eh{pos:Pos}(own:List Vn)(a:List Nat){k:TI}{te:TE}(hi:PI X tg iter k)(t:∀z,PG (bO X sc own a z) tg g)(u:∀z,fi (bO X sc own a z) ifs tc)
  (y:∀z,PE (bO X sc own a z) elt te) (B:X.calm=true:=by rfl) (n:sc.kind=.function:=by rfl) (c:cJ sc X.env.scope=true:=by rfl) (E:fj sc X.N a=true:=by rfl)
  (F:∀x,foldedSetIterable iter X.env x=pure x:=by intro _;rfl):PE X (.ListComp elt [⟨tg,iter,ifs,0⟩] sc pos) (iG own.length a k g tc te):=by
 intro pins s σ H Q I h;rw[eval_ListComp];refine wpAny_comprehension_free (use:=Vp) rfl F (jW λp d G=>I.ok.has p.1 (jj c d G)) n (λp d hl=>qk c d hl) (ai (hi pins s σ H _ I h) λv s1 h1=>ai h1 λK s2 h2=>?_);obtain⟨it,fp,tn,J,H2,e,L,T,f,r,W,w0,turn⟩:=h2;subst e;refine mR (RR:=λacc C=>compPost (Vg X.prog X.w) X.A X.xe Vp (EP X pins σ Q) acc C) n c E (λ_=>t _) (λ_=>u _) (λ_=>y _) L (λC=>Turn.at_ (Y:=bO X sc own a ⟨_,_,_,C⟩) T B) f r w0 turn ?_;intro D C s' ys H' nD M O ⟨m,P⟩ _ q;refine⟨m,P,λh' i=>?_⟩;obtain⟨R,S,r,U,Z,f5⟩:=O;exact⟨.ref D,_,M.turned (t':=s'.toks) (it:=C) (λb o j e=>(i.2 b j).trans e) R S U Z f5,rfl,q⟩
end
end L2
namespace L2.Og.Tb
open PySem
def nx(m i:Nat):Nat:=(i*5+1) % (m+1)
def it(m:Nat):Nat->Nat->Nat
 | 0,i=>i
 | n+1,i=>it m n (nx m i)
theorem jl(m:Nat):∀a b i,it m (a+b) i=it m b (it m a i)
 | 0,b,i=>by rw[Nat.zero_add];rfl
 | a+1,b,i=>by rw[Nat.succ_add];exact jl m a b (nx m i)
def lg(m:Nat):Nat->Nat->List Nat
 | 0,_=>[]
 | n+1,i=>i::lg m n (nx m i)
theorem o9{m:Nat}:∀{n i j:Nat},j∈lg m n i->∃k,k<n/\it m k i=j
 | 0,_,_,h=>by cases h
 | n+1,i,j,h=>by
  rcases zE.mp h with rfl|h
  .exact⟨0,Nat.succ_pos _,rfl⟩
  .obtain⟨k,a,e⟩:=o9 h;exact⟨k+1,Nat.succ_lt_succ a,e⟩
def good(m:Nat):Bool:=(Ai (m+1)).all (λj=>(lg m (m+1) 0).contains j) && it m (m+1) 0 == 0
def vF:good 7=true:=by decide +kernel
def wH:good 31=true:=by decide +kernel
def yW:good 127=true:=by decide +kernel
def yR:good 511=true:=by decide +kernel
def Mask(m:Nat):Prop:=m=7\/m=31\/m=127\/m=511
theorem Mask.good{m:Nat}(h:Mask m):good m=true:=by
 rcases h with rfl|rfl|rfl|rfl
 .exact vF
 .exact wH
 .exact yW
 .exact yR
def nu{m:Nat}(h:Mask m){j:Nat}(a:j<=m):∃k,k<=m/\it m k 0=j:=by have:=h.good;unfold Tb.good at this;rw[zX,zV]at this;have h1:=this.1 j (List.mem_range.mpr (by omega));rw[List.contains_iff_mem]at h1;obtain⟨k,b,e⟩:=o9 h1;exact⟨k,by omega,e⟩
def round0{m:Nat}(h:Mask m):it m (m+1) 0=0:=by have:=h.good;unfold Tb.good at this;rw[zX]at this;exact eq_of_beq this.2
def reach{m:Nat}(h:Mask m){i j:Nat}(hi:i<=m)(f:j<=m):∃k,k<=m/\it m k i=j:=by
 obtain⟨a,g,c⟩:=nu h hi;obtain⟨b,n,d⟩:=nu h f;rcases Nat.lt_or_ge b a with hlt|hge
 .refine⟨m+1-a+b,by omega,?_⟩;rw[<-c,<-jl,show a+(m+1-a+b)=(m+1)+b by omega,jl,round0 h];exact d
 .refine⟨b-a,by omega,?_⟩;rw[<-c,<-jl,show a+(b-a)=b by omega];exact d
def lp(m:Nat):Nat->Nat×Nat->Nat×Nat
 | 0,s=>s
 | n+1,s=>lp m n (SetTable.leap m s.1 s.2)
theorem kS(m:Nat):∀n s,lp m (n+1) s=SetTable.leap m (lp m n s).1 (lp m n s).2
 | 0,s=>rfl
 | n+1,s=>by show lp m (n+1) (SetTable.leap m s.1 s.2)=_;rw[kS m n];rfl
theorem nz(m:Nat):∀n s,(lp m n s).2=s.2 / 32 ^ n
 | 0,s=>by simp[lp]
 | n+1,s=>by rw[kS m n s];show(lp m n s).2 / 32=_;rw[nz m n s,Nat.div_div_eq_div_mul,Nat.pow_succ]
def oJ(m:Nat):∀n s,s.1<=m->(lp m n s).1<=m
 | 0,s,h=>h
 | n+1,s,h=>by rw[kS m n s];show(_ % (m+1))<=m;have:=Nat.mod_lt ((lp m n s).1*5+1+(lp m n s).2 / 32) (show 0<m+1 by omega);omega
theorem qK(m:Nat):∀n i,(lp m n (i,0)).1=it m n i
 | 0,i=>rfl
 | n+1,i=>by show(lp m n (SetTable.leap m i 0)).1=it m n (nx m i);have:SetTable.leap m i 0=(nx m i,0):=rfl;rw[this];exact qK m n _
theorem nj(m:Nat):∀a b s,lp m (a+b) s=lp m b (lp m a s)
 | 0,b,s=>by rw[Nat.zero_add];rfl
 | a+1,b,s=>by rw[Nat.succ_add];exact nj m a b _
def nr{m:Nat}(h:Mask m){i p j:Nat}(hi:i<=m)(a:p<2 ^ 64)(b:j<=m):∃n,n<=m+13/\(lp m n (i,p)).1=j:=by
 have c:(lp m 13 (i,p)).2=0:=by rw[nz];exact Nat.div_eq_of_lt (zS a (by decide))
 obtain⟨k,d,e⟩:=reach h (oJ m 13 (i,p) hi) b;refine⟨13+k,by omega,?_⟩;rw[nj];have:lp m 13 (i,p)=((lp m 13 (i,p)).1,0):=by rw[<-c]
 rw[this,qK];exact e
def nc(h:Int):SetTable.bits h<2 ^ 64:=by unfold SetTable.bits;have h1:=Int.emod_lt_of_pos h (show(0:Int)<2 ^ 64 by decide);have h2:=Int.emod_nonneg h (show(2:Int) ^ 64≠0 by decide);omega
def bL(t:SetTable):Nat->SetTable.Probe->SetTable.Probe
 | 0,p=>p
 | n+1,p=>bL t n (t.advance p)
theorem kZ(t:SetTable):∀a b p,bL t (a+b) p=bL t b (bL t a p)
 | 0,b,p=>by rw[Nat.zero_add];rfl
 | a+1,b,p=>by rw[Nat.succ_add];exact kZ t a b _
def at_(t:SetTable)(s:Nat×Nat):SetTable.Probe:={ j:=s.1,more:=SetTable.runEnd t.mask s.1-s.1,i:=s.1,perturb:=s.2,dummy:=Vp }
theorem rR(t:SetTable):∀(r:Nat) (p:SetTable.Probe),p.more=r->bL t (r+1) p={ p with j:=(SetTable.leap t.mask p.i p.perturb).1,more:=SetTable.runEnd t.mask (SetTable.leap t.mask p.i p.perturb).1-(SetTable.leap t.mask p.i p.perturb).1,i:=(SetTable.leap t.mask p.i p.perturb).1,perturb:=(SetTable.leap t.mask p.i p.perturb).2 }
 | 0,p,h=>by show t.advance p=_;unfold SetTable.advance;rw[Al (by omega)]
 | r+1,p,h=>by
  show bL t (r+1) (t.advance p)=_;have e:t.advance p={ p with j:=p.j+1,more:=p.more-1 }:=by unfold SetTable.advance;rw[Am (by omega)]
  rw[e,rR t r _ (by show p.more-1=r;omega)]
def vw(t:SetTable)(s:Nat×Nat):∃k,k<=10/\bL t k (at_ t s)=at_ t (SetTable.leap t.mask s.1 s.2):=by
 refine⟨SetTable.runEnd t.mask s.1-s.1+1,?_,?_⟩
 .unfold SetTable.runEnd;split<;>omega
 .exact(rR t (SetTable.runEnd t.mask s.1-s.1) (at_ t s) rfl).trans rfl
theorem nO(t:SetTable):∀(n:Nat) (s:Nat×Nat),∃k,k<=10*n/\bL t k (at_ t s)=at_ t (lp t.mask n s)
 | 0,s=>⟨0,zJ _,rfl⟩
 | n+1,s=>by obtain⟨k1,h1,a⟩:=vw t s;obtain⟨k2,h2,b⟩:=nO t n (SetTable.leap t.mask s.1 s.2);refine⟨k1+k2,by omega,?_⟩;rw[kZ,a,b];rfl
def x9(t:SetTable)(h:Int):t.probeStart h=at_ t (SetTable.bits h % (t.mask+1),SetTable.bits h):=rfl
def uO(a:Mask t.mask){j:Nat}(b:j<=t.mask)(h:Int):∃K,K<10*SetTable.turns t.mask/\(bL t K (t.probeStart h)).j=j:=by
 have h1:SetTable.bits h % (t.mask+1)<=t.mask:=by have:=Nat.mod_lt (SetTable.bits h) (show 0<t.mask+1 by omega);omega
 obtain⟨n,d,e⟩:=nr a h1 (nc h) b;obtain⟨K,f,c⟩:=nO t n (SetTable.bits h % (t.mask+1),SetTable.bits h);refine⟨K,by unfold SetTable.turns;omega,?_⟩;rw[x9,c];exact e
def qA{j i:Nat}(h:t.slot j=.live i):t.place[i]?=Vo j:=by
 unfold SetTable.slot at h;dsimp only at h;split at h
 .rename_i hq;cases h;exact eq_of_beq hq
 .split at h<;>cases h
def pP(j:Nat):SetTable.has #[] j=false:=rfl
def mW(hd:t.dummies = #[])(j:Nat):t.slot j=.empty\/∃i,t.slot j=.live i:=by
 unfold SetTable.slot;dsimp only;split
 .exact .inr ⟨_,rfl⟩
 .rw[hd,pP];exact .inl rfl
theorem o3:∀(n:Nat) (l:List Nat),(∀j,j<n->j∈l)->n<=l.length
 | 0,l,_=>Nat.zero_le _
 | n+1,l,h=>by have a:=h n (Nat.lt_succ_self n);have:=o3 n (l.erase n) λj b=>(List.mem_erase_of_ne (by omega)).mpr (h j (by omega));rw[List.length_erase_of_mem a]at this;have:0<l.length:=List.length_pos_of_mem a;omega
def vW(hd:t.dummies = #[])(h:t.place.size<=t.mask):∃j,j<=t.mask/\t.slot j=.empty:=by
 rcases Classical.em (∃j,j<=t.mask/\t.slot j=.empty)with h1|h1
 .exact h1
 .exfalso;have:=o3 (t.mask+1) t.place.toList λj a=>by
   rcases mW hd j with h2|⟨i,h2⟩
   .exact absurd ⟨j,by omega,h2⟩ h1
   .have:=qA h2;rw[<-Array.getElem?_toList]at this;exact zA this
  rw[zu]at this;omega
theorem kg(t:SetTable):∀n p,(bL t n p).dummy=p.dummy
 | 0,p=>rfl
 | n+1,p=>by show(bL t n (t.advance p)).dummy=_;rw[kg t n];unfold SetTable.advance;split<;>rfl
def xF(hd:t.dummies = #[])(hash:Nat->Int)(h:Int):∀(K fuel:Nat) (p:SetTable.Probe),K<fuel->p.dummy=Vp->t.slot (bL t K p).j=.empty ->
  (∃j,SetTable.probe.go t hash h fuel p=Vo (.empty j Vp))\/∃k j i,k<K/\SetTable.probe.go t hash h fuel p=Vo (.candidate j i (bL t (k+1) p))/\t.slot j=.live i:=by
 intro K;induction K with
 | zero=>
  intro fuel p n a b;obtain⟨f,rfl⟩:∃f,fuel=f+1:=⟨fuel-1,by omega⟩;refine .inl ⟨p.j,?_⟩;have c:t.slot p.j=.empty:=b;unfold SetTable.probe.go;rw[c];dsimp only;rw[a]
 | succ K o=>
  intro fuel p n a b;obtain⟨f,rfl⟩:∃f,fuel=f+1:=⟨fuel-1,by omega⟩;unfold SetTable.probe.go;rcases mW hd p.j with h1|⟨i,h1⟩
  .rw[h1];dsimp only;rw[a];exact .inl ⟨p.j,rfl⟩
  .rw[h1];dsimp only;by_cases g:(hash i == h)=true
   .rw[Am g];exact .inr ⟨0,p.j,i,Nat.succ_pos _,rfl,h1⟩
   .rw[Al g];have d:(t.advance p).dummy=Vp:=by have:=kg t 1 p;rw[a]at this;exact this
    rcases o f (t.advance p) (by omega) d b with⟨j,e⟩|⟨k,j,q,r,e,hl⟩
    .exact .inl ⟨j,e⟩
    .exact .inr ⟨k+1,j,q,by omega,e,hl⟩
theorem oC{α:Type}:∀{l:List (Option α)} {j:Nat} {k:α},l[j]?=Vo Vp->((l.set j (Vo k)).filterMap id).Perm (k::l.filterMap id)
 | [],j,k,h=>by cases h
 | x::l,0,k,h=>by
  have:x=Vp:=by simpa using h
  subst this;exact .refl _
 | x::l,j+1,k,h=>by
  have h':l[j]?=Vo Vp:=by simpa using h
  have a:=oC (k:=k) h';cases x with
  | none=>exact a
  | some y=>exact(List.Perm.cons y a).trans (.swap _ _ _)
def xG{α:Type}(l:List (Option α)):(l.filterMap id).length+(l.filter (·.isNone)).length=l.length:=by
 induction l with
 | nil=>rfl
 | cons x l a=>
  cases x<;>simp at a ⊢<;>omega
def uD{m:Nat}(r:Mask m)(owner:Array (Option Nat))(d:owner.size=m+1){j:Nat}(f:owner[j]?=Vo Vp):∀(fuel n i p:Nat),i<=m->n<fuel->(lp m n (i,p)).1=j ->
  ∃a,SetTable.layClean.free m owner fuel i p=Vo a/\owner[a]?=Vo Vp:=by
 intro fuel;induction fuel with
 | zero=>intro n i p _ h;omega
 | succ fuel g=>
  intro n i p hi s b;unfold SetTable.layClean.free;split
  .rename_i k hk;have h1:=List.find?_some hk;have h2:=List.mem_range.mp (List.mem_of_find?_eq_some hk);refine⟨i+k,rfl,?_⟩;have c:i+k<owner.size:=by rw[d];unfold SetTable.runEnd at h2;split at h2<;>omega
   rw[Array.getElem?_eq_getElem c];have:owner.getD (i+k) (Vo 0)=owner[i+k]:=by rw[Array.getD_eq_getD_getElem?,Array.getElem?_eq_getElem c];rfl
   rw[this]at h1;congr 1;cases o:owner[i+k]with
   | none=>rfl
   | some y=>rw[o]at h1;cases h1
  .rename_i hk;cases n with
   | zero=>
    exfalso;have q:i=j:=b;have:=List.find?_eq_none.mp hk 0 (List.mem_range.mpr (by unfold SetTable.runEnd;split<;>omega));rw[Nat.add_zero,q,Array.getD_eq_getD_getElem?,f]at this;simp at this
   | succ n=>
    have:=oJ m 1 (i,p) hi;exact g n (SetTable.leap m i p).1 (SetTable.leap m i p).2 this (by omega) b
def ig(mask:Nat)(acc:Option (Array (Option Nat)×Nat))(h:Int):Option (Array (Option Nat)×Nat):=do
 let (owner,k) <-acc;let j <-SetTable.layClean.free mask owner (SetTable.turns mask) (SetTable.bits h % (mask+1)) (SetTable.bits h)
 pure (owner.setIfInBounds j (Vo k),k+1)
def uI{l:List (Option Nat)}(h:(l.filterMap id).length<l.length):∃j:Nat,l[j]?=Vo Vp:=by
 have:=xG l;have h1:0<(l.filter (·.isNone)).length:=by omega
 obtain⟨x,b⟩:=List.exists_mem_of_length_pos h1;obtain⟨a,c⟩:=List.mem_filter.mp b;have:x=Vp:=by cases x<;>simp_all
 subst this;obtain⟨j,d⟩:=List.getElem?_of_mem a;exact⟨j,d⟩
theorem pR{m:Nat}(d:Mask m):∀(b:List Int) (owner:Array (Option Nat)) (k:Nat),owner.size=m+1->(owner.toList.filterMap id).Perm (Ai k)->k+b.length<=m ->
  ∃a,b.foldl (ig m) (Vo (owner,k))=Vo (a,k+b.length)/\a.size=m+1/\(a.toList.filterMap id).Perm (Ai (k+b.length))
 | [],owner,k,h1,h2,o=>⟨owner,rfl,h1,h2⟩
 | h::b,owner,k,h1,h2,o=>by
  rw[zQ]at o ⊢;have hlt:(owner.toList.filterMap id).length<owner.toList.length:=by rw[h2.length_eq,List.length_range,zu,h1];omega
  obtain⟨j,f⟩:=uI hlt;rw[Array.getElem?_toList]at f;have g:j<=m:=by have:=(Array.getElem?_eq_some_iff.mp f).1;omega
  have hi:SetTable.bits h % (m+1)<=m:=by have:=Nat.mod_lt (SetTable.bits h) (show 0<m+1 by omega);omega
  obtain⟨n,v,p⟩:=nr d hi (nc h) g;obtain⟨i,q,c⟩:=uD d owner h1 f (SetTable.turns m) n _ _ hi (by unfold SetTable.turns;omega) p;have step:ig m (Vo (owner,k)) h=Vo (owner.setIfInBounds i (Vo k),k+1):=by unfold ig;simp[q]
  rw[List.foldl_cons,step];have r:((owner.setIfInBounds i (some k)).toList.filterMap id).Perm (Ai (k+1)):=by rw[Array.toList_setIfInBounds];rw[<-Array.getElem?_toList]at c;refine(oC c).trans ?_;rw[List.range_succ];exact(List.Perm.cons k h2).trans (List.perm_append_comm (l₁:=[k]) (l₂:=Ai k))
  obtain⟨o',s,t,u⟩:=pR d b (owner.setIfInBounds i (Vo k)) (k+1) (by simpa using h1) r (by omega);exact⟨o',by rw[s];congr 2;omega,t,by rw[show k+(b.length+1)=k+1+b.length by omega];exact u⟩
def tW(t:SetTable){hashes:Array Int}{wanted m:Nat}(g:Mask m)(h:SetTable.sizeAbove wanted-1=m)(n:hashes.size<=m):
  ∃t' order,t.relaid hashes wanted=Vo (t',order)/\t'.place.size=hashes.size/\t'.dummies = #[]/\t'.mask=m/\order.toList.Perm (Ai hashes.size):=by
 obtain⟨o',f,k,d⟩:=pR g hashes.toList (Array.replicate (m+1) none) 0 (by simp) (by simp) (by rw[zu];omega);rw[zu,Nat.zero_add]at f d;have b:SetTable.layClean m hashes=some o':=by show(hashes.foldl (ig m) (some (Array.replicate (m+1) none,0))).map (·.1)=some o';rw[<-Array.foldl_toList,f];rfl
 have a:((Ai (m+1)).filterMap λj=>(o'.getD j Vp).map (j,·)).map (·.2)=o'.toList.filterMap id:=by
  rw[List.map_filterMap];have:o'.toList=(Ai (m+1)).map λj=>o'.getD j Vp:=by
   apply List.ext_getElem
   .rw[zu,zp,List.length_range,k]
   .intro i h1 h2;rw[zu]at h1;simp[h1]
  rw[this,List.filterMap_map];congr 1;funext j;show((o'.getD j Vp).map (j,·)).map (·.2)=o'.getD j Vp;cases o'.getD j Vp<;>rfl
 have c:t.relaid hashes wanted=Vo (({ mask:=m,place:=(((Ai (m+1)).filterMap λj=>(o'.getD j Vp).map (j,·)).map (·.1)).toArray,dummies:=#[],finger:=t.finger,led:=t.led,moves:=t.movedTo m,plain:=t.plain }:SetTable),(((Ai (m+1)).filterMap λj=>(o'.getD j Vp).map (j,·)).map (·.2)).toArray):=by unfold SetTable.relaid;rw[h];unfold SetTable.laid;rw[b];rfl
 refine⟨_,_,c,?_,rfl,rfl,?_⟩
 .show(((Ai (m+1)).filterMap λj=>(o'.getD j Vp).map (j,·)).map (·.1)).toArray.size=_;rw[zv,zp];have:=congrArg List.length a;rw[zp,d.length_eq,List.length_range]at this;exact this
 .show(((Ai (m+1)).filterMap λj=>(o'.getD j Vp).map (j,·)).map (·.2)).toArray.toList.Perm _;rw[List.toList_toArray,a];exact d
def jN{α:Type}(xs:Array α)(p:Nat)(x:α):(SetTable.insertAt xs p x).size=xs.size+1:=by unfold SetTable.insertAt;simp;omega
def wC{α:Type}{xs:Array α}{p:Nat}{x e:α}(h:e∈(SetTable.insertAt xs p x).toList):e=x\/e∈xs.toList:=by
 unfold SetTable.insertAt at h;simp only[Array.toList_append,Array.toList_push,Array.toList_extract,zM,zB]at h;rcases h with(h|h)|h
 .exact .inr (List.mem_of_mem_take (by simpa using h))
 .exact .inl h
 .exact .inr (List.mem_of_mem_drop (List.mem_of_mem_take h))
def yg:SetTable.sizeAbove 20-1=31:=by decide +kernel
def tU:SetTable.sizeAbove 76-1=127:=by decide +kernel
def xZ:SetTable.sizeAbove 308-1=511:=by decide +kernel
end L2.Og.Tb
namespace L2.Og
open PySem PySem.Spec PyProof.Rows
section
variable {P:Vd} {w:Ve} {A:Vi} {E:Va->Vc->Prop} {s:Vc} {K:Type} [DecidableEq K] {knd:KeyKind P w K}
def nL{ks:List K}{vs:List Va}(h:ItemsAre knd ks vs):∀v∈vs,∀b,v≠.ref b:=λv hv b e=>by have:=h.byValue v hv;subst e;cases this
def vm(n:Nat){v:Va}(h:∀b,v≠.ref b):ofAClassStatement n v=pure false:=by
 cases v with
 | ref b=>exact absurd rfl (h b)
 | _=>unfold ofAClassStatement;rfl
def nX{ks:List K}{b:Vb}{Q:Bool->Vc->Prop}(a:IsTupleKey knd s.heap ks b)(h:Q false s):Vf (Vg P w) A (ofAClassStatement 8 (.ref b)) Q E s:=by
 have c:=a.typeIs;obtain⟨o,items,n,d,g,hd,hi⟩:=a;unfold ofAClassStatement;refine zi (wpAny_typeOf c ?_);dsimp only;refine zi (zj ?_);simp only[Bool.not_true,Ad,if_false];refine zi (wpAny_seqItems d hd ?_);dsimp only;refine zi ?_;rw[<-Array.forIn_toList];refine wpAny_forIn_list _ (λrest r s'=>r.1=none/\s'=s/\∀v∈rest,∀b,v≠.ref b) _ ?_ ?_ _ _ ⟨rfl,rfl,nL hi⟩
 .rintro v rest r s' ⟨hr,rfl,hall⟩;rw[vm _ (hall v zw)];refine zi (zj ?_);simp only[Ad,if_false];exact zj ⟨rfl,rfl,λu f=>hall u (zt _ f)⟩
 .rintro⟨r1,i⟩ s' ⟨hr,rfl,_⟩;simp only at hr;subst hr;exact zj h
def wg{ks:List K}{b:Vb}{l:List Va}{Q:Bool->Vc->Prop}(f:IsTupleKey knd s.heap ks b)(hl:∀y∈l,∃a c,y=.ref a/\IsTupleKey knd s.heap c a)(h:Q false s):Vf (Vg P w) A (searchCouldBeSeen (.ref b) l) Q E s:=by
 unfold searchCouldBeSeen;refine zi ?_;refine wpAny_forIn_list _ (λrest r s'=>r.1=Vp/\s'=s/\∀y∈rest,∃a c,y=.ref a/\IsTupleKey knd s.heap c a) _ ?_ ?_ _ _ ⟨rfl,rfl,hl⟩
 .rintro v rest r s' ⟨hr,rfl,hall⟩;obtain⟨a,c,rfl,d⟩:=hall v zw;have next:∀y∈rest,∃a c,y=.ref a/\IsTupleKey knd s'.heap c a:=λy g=>hall y (zt _ g)
  dsimp only;split
  .exact zj ⟨rfl,rfl,next⟩
  .refine zi (wpAny_eqIsQuiet_tuple f ?_);simp only[Bool.not_true,Ad,if_false];refine zi (wpAny_eqIsQuiet_tuple d ?_);simp only[Bool.not_true,Ad,if_false];refine zi (nX f ?_);simp only[Ad,if_false];refine zi (nX d ?_);simp only[Ad,if_false];exact zj ⟨rfl,rfl,next⟩
 .rintro⟨r1,i⟩ s' ⟨hr,rfl,_⟩;simp only at hr;subst hr;exact zj h
def zf{b:Vb}{k:List K}{h:Int}{es:Array (Int×Va)}(R:A.units<cLine)(F:IsTupleKey knd s.heap k b)(G:s.heap.get? a=Vo o)(hd:o.data=.set es ep t)(q:t.fits es.size=true)(W:Tb.Mask t.mask)(H:t.dummies = #[])
  (hall:∀e∈es.toList,∃n d,e.2=.ref n/\IsTupleKey knd s.heap d n/\d≠k) {Q:SetFound->Vc->Prop} (X:∀j,Q (.free j false) s) :
  ∀(K fuel:Nat) (c:Option SetTable.Probe),K<fuel->K<10*SetTable.turns t.mask->(c.getD (t.probeStart h)).dummy=Vp->t.slot (Tb.bL t K (c.getD (t.probeStart h))).j=.empty ->
   Vf (Vg P w) A (setSearchFrom a (.ref b) h true fuel c) Q E s:=by
 intro K;induction K using Nat.strongRecOn with
 | ind K Y=>
  intro fuel c Z hK u S;obtain⟨f,rfl⟩:∃f,fuel=f+1:=⟨fuel-1,by omega⟩;unfold setSearchFrom;refine zi (Ag G hd q ?_);dsimp only;have hg:t.gaveWay=false:=by unfold SetTable.gaveWay;rcases W with e|e|e|e<;>rw[e]<;>rfl
  have I:t.place.size=es.size:=by simp only[SetTable.fits,zX,beq_iff_eq]at q;exact q.1
  have v:t.sameMemory t.moves t.mask=Vo true:=by unfold SetTable.sameMemory;rw[Am (beq_self_eq_true _)]
  rw[hg];simp only[Ad,if_false];generalize hr:t.probe _ h (c.getD (t.probeStart h))=r;obtain⟨g,hr⟩:∃g,SetTable.probe.go t g h (10*SetTable.turns t.mask) (c.getD (t.probeStart h))=r:=⟨_,hr⟩;rcases Tb.xF H g h K _ _ hK u S with⟨j,e⟩|⟨d,j,i,a0,e,hl⟩
  .rw[e]at hr;subst hr;exact zj (X j)
  .rw[e]at hr;subst hr;have J:=Tb.qA hl;have hi:i<es.size:=by rw[<-I];exact(Array.getElem?_eq_some_iff.mp J).1
   have z:es[i]∈es.toList:=by simp
   obtain⟨n,k2,L,B,C⟩:=hall _ z;have p:es[i]?=some (es[i].1,.ref n):=by rw[Array.getElem?_eq_getElem hi,<-L]
   have M:∀y∈((es.filter λx=>x.1 == h).toList.map λx=>x.2),∃n d,y=Value.ref n/\IsTupleKey knd s.heap d n:=λy L=>by
    obtain⟨T,N,rfl⟩:=List.mem_map.mp L;have O:T∈es.toList:=by have:=Array.mem_toList_iff.mp N;exact Array.mem_toList_iff.mpr (Array.mem_filter.mp this).1
    obtain⟨b3,k3,h1,h2,_⟩:=hall T O;exact⟨b3,k3,h1,h2⟩
   have again:Vf (Vg P w) A (setSearchFrom a (.ref b) h true f (Vo (Tb.bL t (d+1) (c.getD (t.probeStart h))))) Q E s:=by
    refine Y (K-(d+1)) (by omega) f _ (by omega) (by omega) ?_ ?_
    .show(Tb.bL t (d+1) _).dummy=Vp;rw[Tb.kg];exact u
    .show t.slot (Tb.bL t (K-(d+1)) (Tb.bL t (d+1) _)).j=_;rw[<-Tb.kZ,show d+1+(K-(d+1))=K by omega];exact S
   have same:isSame (Value.ref n) (Value.ref n)=pure true:=by unfold isSame;simp
   dsimp only;cases U:t.led
   .simp only[Bool.not_false,if_true];refine zi (wg F M ?_);simp only[Ad,if_false];rw[p];dsimp only;refine zi (wpAny_holding (wpAny_eqBool_tuple R B F ?_));rw[Aj C];refine zi (Ag G hd q ?_);dsimp only;simp only[Bool.and_false,Ad,if_false,v,if_true,hl,p,same];exact zi (zj (zi (zj again)))
   .simp only[Bool.not_true,Ad,if_false];rw[p];dsimp only;refine zi (wpAny_holding (wpAny_eqBool_tuple R B F ?_));rw[Aj C];refine zi (Ag G hd q ?_);dsimp only;simp only[Bool.and_false,Ad,if_false,v,if_true,hl,p,same];exact zi (zj (zi (zj again)))
def dg(knd:KeyKind P w K)(h:Vh)(a:Vb)(ks:List (List K)):Prop:=
 ∃o es ep t,h.get? a=Vo o/\o.ExactSet/\o.data=.set es ep t/\t.place.size=es.size/\t.dummies = #[]/\Tb.Mask t.mask/\es.size*5<t.mask*3/\es.size=ks.length/\∀e∈es.toList,∃b k,e.2=.ref b/\k∈ks/\IsTupleKey knd h k b
def j6{b:Vb}{k:List K}{es:Array (Int×Va)}(g:IsTupleKey knd h k b)(i:h.get? a=Vo o)(hd:o.data=.set es ep t)(j:Heap.SameBut a h h'):IsTupleKey knd h' k b:=by
 obtain⟨o',items,n,c,p,d,hi⟩:=g;have f:b≠a:=by rintro rfl;rw[i]at c;cases c;rw[hd]at d;cases d
 exact⟨o',items,n,(j.2 b f).trans c,p,d,hi⟩
def wu(n:Nat){v:Va}(h:∀b,v≠.ref b):∃c,hashByValue n v=pure c:=by
 cases v with
 | ref b=>exact absurd rfl (h b)
 | _=>exact⟨_,by cases n<;>unfold hashByValue<;>rfl⟩
def xm{ks:List K}{b:Vb}{Q:Bool->Vc->Prop}(d:IsTupleKey knd s.heap ks b)(h:∀c,Q c s):Vf (Vg P w) A (hashByValue 8 (.ref b)) Q E s:=by
 have f:=d.typeIs;obtain⟨o,items,n,g,j,hd,hi⟩:=d;unfold hashByValue;refine zi (wpAny_specialOf f F.slot_tuple_hash.lookup ?_);dsimp only;refine zi (wpAny_seqItems g hd ?_);dsimp only[Option.getD_some];refine zi ?_;rw[<-Array.forIn_toList];refine wpAny_forIn_list _ (λrest r s'=>(r.1=none\/∃c,r.1=some c)/\s'=s/\∀v∈rest,∀b,v≠.ref b) _ ?_ ?_ _ _ ⟨.inl rfl,rfl,nL hi⟩
 .rintro v rest r s' ⟨hr,rfl,hall⟩;obtain⟨c,a⟩:=wu 7 (hall v zw);rw[a];refine zi (zj ?_);cases c
  .show Vf _ _ (pure (ForInStep.done (Vo false,()))) _ _ _;exact zj (zj (h false))
  .simp only[Bool.not_true,Ad,if_false];exact zj ⟨.inl rfl,rfl,λu i=>hall u (zt _ i)⟩
 .rintro⟨r1,k⟩ s' ⟨hr,rfl,_⟩;simp only at hr;rcases hr with rfl|⟨c,rfl⟩
  .exact zj (h true)
  .exact zj (h c)
def yr{α:Type}{es:Array α}{order:Array Nat}(h:order.toList.Perm (Ai es.size)):(order.filterMap (es[·]?)).size=es.size/\∀e∈(order.filterMap (es[·]?)).toList,e∈es.toList:=by
 have key:∀l:List Nat,(∀i∈l,i<es.size)->(l.filterMap (es[·]?)).length=l.length/\∀e∈l.filterMap (es[·]?),e∈es.toList:=by
  intro l;induction l with
  | nil=>intro _;exact⟨rfl,λe b=>by cases b⟩
  | cons x l c=>
   intro hl;obtain⟨i1,i2⟩:=c λi hi=>hl i (zt _ hi);have d:=hl x zw;have e:(x::l).filterMap (es[·]?)=es[x]::l.filterMap (es[·]?):=by rw[List.filterMap_cons];simp[d]
   rw[e];refine⟨by rw[zQ,zQ,i1],λy a=>?_⟩;rcases zE.mp a with rfl|a
   .simp
   .exact i2 y a
 have hlt:∀i∈order.toList,i<es.size:=λi hi=>List.mem_range.mp (h.mem_iff.mp hi);obtain⟨k1,k2⟩:=key order.toList hlt;rw[Array.toList_filterMap];refine⟨?_,k2⟩;rw[<-zu,Array.toList_filterMap,k1,h.length_eq,List.length_range]
def yZ{es c:Array (Int×Va)}{d:SetTable}{ks1:List (List K)}{Q:Bool->Vc->Prop}(M:s.heap.get? a=Vo o)(hex:o.ExactSet)(hd:o.data=.set es ep t)(j:c.size=n+1)(x:d.place.size=c.size)(u:d.dummies = #[])
  (y:Tb.Mask d.mask) (z:n*5<d.mask*3) (Z:n<200) (hlen:ks1.length=n+1) (B:∀e∈c.toList,∃b k,e.2=.ref b/\k∈ks1/\IsTupleKey knd s.heap k b)
  (h:∀h',Heap.SameBut a s.heap h'->dg knd h' a ks1->Q true { s with heap:=h' }) :
  Vf (Vg P w) A (do
   storeSet a c d
   if(!false && d.tooFull)=true then do
    setRelay a (SetTable.grown (n+1))
    pure true
   else pure true) Q E s:=by
 have N:n+1<=sizeLine:=zT (show n+1<=1000 by omega) (by decide);refine zi (wpAny_storeSet_of M hd ?_ (by omega));have i:(s.heap.update a (Obj.putSet c d)).get? a=Vo { o with data:=.set c (ep+1) d }:=by have:=Heap.get?_update_self (Obj.putSet c d) M (by rw[putSet_of c d hd];rfl);rw[putSet_of c d hd]at this;exact this
 have g:=Heap.SameBut.update s.heap a (Obj.putSet c d);generalize s.heap.update a (Obj.putSet c d)=h1 at i g;have p:∀e∈c.toList,∃b k,e.2=.ref b/\k∈ks1/\IsTupleKey knd h1 k b:=λe O=>by obtain⟨b,k,z1,z2,z3⟩:=B e O;exact⟨b,k,z1,z2,j6 z3 M hd g⟩
 have f:d.fill=n+1:=by unfold SetTable.fill;rw[u,x,j];rfl
 by_cases H:d.tooFull=true
 .rw[H];simp only[Bool.not_false,Bool.and_self,if_true];have C:d.mask*3<=(n+1)*5:=by unfold SetTable.tooFull at H;rw[f]at H;simpa using H
  obtain⟨m,T,U,W,hlt⟩:∃m,Tb.Mask m/\SetTable.sizeAbove (SetTable.grown (n+1))-1=m/\n+1<=m/\(n+1)*5<m*3/\SetTable.sizeAbove (SetTable.grown (n+1))<=sizeLine:=by
   have X:SetTable.grown (n+1)=(n+1)*4:=by unfold SetTable.grown;rw[Al (by omega)]
   rw[X];rcases y with e|e|e|e<;>rw[e]at z C
   .obtain rfl:n=4:=by omega
    exact⟨31,.inr (.inl rfl),Tb.yg,by omega,by omega,by decide +kernel⟩
   .obtain rfl:n=18:=by omega
    exact⟨127,.inr (.inr (.inl rfl)),Tb.tU,by omega,by omega,by decide +kernel⟩
   .obtain rfl:n=76:=by omega
    exact⟨511,.inr (.inr (.inr rfl)),Tb.xZ,by omega,by omega,by decide +kernel⟩
   .omega
  have F:d.fits c.size=true:=by simp only[SetTable.fits,zX,beq_iff_eq,decide_eq_true_eq];refine⟨x,?_⟩;rw[f];rcases y with e|e|e|e<;>omega
  obtain⟨G,order,I,J,R,L,q⟩:=Tb.tW d (hashes:=c.map (·.1)) T U (by rw[Array.size_map];omega);rw[Array.size_map]at J q;obtain⟨r1,Y⟩:=yr q;refine zi ?_;unfold setRelay;refine zi (Ag (s:={ s with heap:=h1 }) i rfl F ?_);dsimp only;rw[Al (Nat.not_lt.mpr hlt.2),I];refine zi ?_;show Vf _ _ (do
   if(order.filterMap (c[·]?)).size != c.size then unsupported "internal:set-table-lost-an-element"
   pure (order.filterMap (c[·]?),G)) _ _ _
  rw[r1];simp only[bne_self_eq_false,Ad,if_false];refine zj ?_;dsimp only;refine wpAny_storeSet_of (s:={ s with heap:=h1 }) i rfl ?_ (by rw[r1];omega);have S:(h1.update a (Obj.putSet (order.filterMap (c[·]?)) G)).get? a=Vo { o with data:=.set (order.filterMap (c[·]?)) (ep+1+1) G }:=by have:=Heap.get?_update_self (Obj.putSet (order.filterMap (c[·]?)) G) i (by rw[putSet_of _ _ (o:={ o with data:=.set c (ep+1) d }) rfl];rfl);rw[putSet_of _ _ (o:={ o with data:=.set c (ep+1) d }) rfl]at this;exact this
  have v:=Heap.SameBut.update h1 a (Obj.putSet (order.filterMap (c[·]?)) G);refine zj (h _ (g.trans v) ⟨_,_,_,G,S,hex,rfl,by rw[r1];exact J,R,by rw[L];exact T,by rw[r1,L,j];exact hlt.1,by rw[r1,j,hlen],λe O=>?_⟩);obtain⟨b,k,z1,z2,z3⟩:=p e (Y e O);exact⟨b,k,z1,z2,j6 z3 i rfl v⟩
 .have r:d.tooFull=false:=by simpa using H
  rw[r];simp only[Bool.and_false,Ad,if_false];have C:(n+1)*5<d.mask*3:=by unfold SetTable.tooFull at r;rw[f]at r;simpa using r
  exact zj (h h1 g ⟨_,c,_,d,i,hex,rfl,x,u,y,by rw[j];exact C,by rw[j,hlen],p⟩)
def xh{b:Vb}{k:List K}{ks:List (List K)}{d:Int}{Q:Bool->Vc->Prop}(L:A.units<cLine)(C:IsTupleKey knd s.heap k b)(M:dg knd s.heap a ks)(r:k∉ks)(O:ks.length<200)
  (h:∀h',Heap.SameBut a s.heap h'->dg knd h' a (k::ks)->Q true { s with heap:=h' }):Vf (Vg P w) A (setAddHashed a (.ref b) d) Q E s:=by
 obtain⟨o,es,ep,t,x,hex,hd,y,f,B,p,hlen,hall⟩:=M;have hle:es.size<=t.mask:=by omega
 have F:t.fits es.size=true:=by simp only[SetTable.fits,zX,beq_iff_eq,decide_eq_true_eq];refine⟨y,?_⟩;unfold SetTable.fill;rw[f,y];simpa using hle
 obtain⟨W,G,H⟩:=Tb.vW f (by rw[y];exact hle);obtain⟨N,R,S⟩:=Tb.uO B G d;have q:∀e∈es.toList,∃g i,e.2=.ref g/\IsTupleKey knd s.heap i g/\i≠k:=λe u=>by obtain⟨g,i,h1,h2,T⟩:=hall e u;exact⟨g,i,h1,T,λz=>r (z ▸ h2)⟩
 unfold setAddHashed setAddHashedIn;refine wpAny_holding (zi (Ag x hd F ?_));dsimp only;have I:byScan (.ref b) es=false:=rfl;rw[I];simp only[Ad,if_false];unfold setSearch;have J:10*SetTable.turns t.mask<100000:=by unfold SetTable.turns;rcases B with e|e|e|e<;>rw[e]<;>decide
 refine zi (zf L C x hd F B f q (λj=>?_) N 100000 Vp (by omega) R rfl (by show t.slot (Tb.bL t N (t.probeStart d)).j=_;rw[S];exact H));dsimp only;refine zi (Ag x hd F ?_);dsimp only;have n:(t.put j).1.place.size=es.size+1/\(t.put j).1.dummies = #[]/\(t.put j).1.mask=t.mask:=by
  refine⟨?_,?_,rfl⟩
  .show(SetTable.insertAt t.place (SetTable.below t.place j) j).size=_;rw[Tb.jN,y]
  .show(if SetTable.has t.dummies j=true then _ else t.dummies) = #[];rw[f,Tb.pP];rfl
 have v:∀e∈(SetTable.insertAt es (t.put j).2 (d,Value.ref b)).toList,∃g i,e.2=.ref g/\i∈k::ks/\IsTupleKey knd s.heap i g:=λe u=>by
  rcases Tb.wC u with rfl|u
  .exact⟨b,k,rfl,zw,C⟩
  .obtain⟨g,i,z1,z2,z3⟩:=hall e u;exact⟨g,i,z1,zt _ z2,z3⟩
 have fin:∀c:Bool,Vf (Vg P w) A (do
   storeSet a (SetTable.insertAt es (t.put j).2 (d,Value.ref b)) (if c=true then(t.put j).1 else{ (t.put j).1 with plain:=false })
   if(!false && (if c=true then(t.put j).1 else{ (t.put j).1 with plain:=false }).tooFull)=true then do
    setRelay a (SetTable.grown (es.size+1))
    pure true
   else pure true) Q E s:=λc=>by
  refine yZ (ks1:=k::ks) x hex hd (Tb.jN _ _ _) ?_ ?_ ?_ ?_ (by omega) (by rw[zQ,hlen]) v h
  .rw[Tb.jN];cases c<;>exact n.1
  .cases c<;>exact n.2.1
  .cases c<;>exact B
  .cases c<;>exact p
 cases U:(t.put j).1.plain
 .simp only[Ad,if_false];exact zi (zj (fin true))
 .simp only[if_true];exact zi (xm C fin)
end
section
variable {P:Vd} {w:Ve} {A:Vi} {K:Type} [DecidableEq K] {knd:KeyKind P w K} {I:Vb} {fp wr:List Vb} {G:Array GenState->Array GenState->Prop} {n:Nat} {Pz:Nat->Va->Prop} {St:Nat->Vc->Prop}
def dg.moved{ks:List (List K)}{wr:List Vb}(g:dg knd h a ks)(f:∀b o,b∉wr->h.get? b=Vo o->h'.get? b=Vo o)(i:a∉wr)(j:∀b∈wr,∀o,h.get? b=Vo o->∃vs,o.data=.fields vs):dg knd h' a ks:=by obtain⟨o,es,ep,t,n,hex,hd,h1,h2,p,q,r,hall⟩:=g;refine⟨o,es,ep,t,f a o i n,hex,hd,h1,h2,p,q,r,λe s=>?_⟩;obtain⟨b,k,z1,z2,o',items,m,c,u,d,hi⟩:=hall e s;refine⟨b,k,z1,z2,o',items,m,f b o' (λv=>?_) c,u,d,hi⟩;obtain⟨vs,hv⟩:=j b v o' c;rw[d]at hv;cases hv
def yN(W:WalksS P w A.in1 I fp wr G n Pz St)(S:Vb)(hS:S∉fp)(hu:A.in1.units<cLine)(bs:List Vb)(kk:List (List K))(H:kk.length=n)(J:kk.Nodup)(a1:n<200)
  (t:∀i v,Pz i v->∃b,v=.ref b/\bs[i]?=Vo b) (hwr:∀i s,St i s->∀b∈wr,∀o,s.heap.get? b=Vo o->∃vs,o.data=.fields vs) {R:Result->Vc->Prop} :
  ∀(m i:Nat) (s:Vc),n-i=m->i<=n->St i s->dg knd s.heap S (kk.take i).reverse->(∀(j:Nat) (b:Vb) (k:List K),bs[j]?=Vo b->kk[j]?=Vo k->IsTupleKey knd s.heap k b) ->
   (∀s',Moved (S::wr) G s s'->dg knd s'.heap S kk.reverse->R (.ok (.ret .none)) s') ->
   codeAny (Vg P w) A (.builtin "set.update.loop" ⟨[.ref S,.ref I],[]⟩) R s:=by
 have u:S∉wr:=λz=>hS (W.sub _ z);have more:∀b∈wr,b∈S::wr:=λb z=>zt _ z;intro m;induction m with
 | zero=>
  intro i s hm hi d a f L;obtain rfl:i=n:=by omega
  refine codeAny_builtin F.entry_set_update_loop ?_;rw[Around.under_plainId F.plain_set_update_loop _];show Vf _ A.in1 (pyNext (.ref I) >>= _) _ _ s;refine zi (W.done s _ _ d λs' r=>?_);rw[<-H,zR]at a;exact zj (L s' (r.mono more) (a.moved r.heap u (hwr _ s d)))
 | succ m ih=>
  intro i s hm hi d a f L;have hlt:i<n:=by omega
  refine codeAny_builtin F.entry_set_update_loop ?_;rw[Around.under_plainId F.plain_set_update_loop _];show Vf _ A.in1 (pyNext (.ref I) >>= _) _ _ s;refine zi (W.item i s _ _ hlt d λv s' hP x r=>?_);obtain⟨b,rfl,hb⟩:=t i v hP;have h:kk[i]?=Vo kk[i]:=zq (by omega);have g:=a.moved r.heap u (hwr _ s d);have hkeys':∀(j:Nat) (b:Vb) (k:List K),bs[j]?=Vo b->kk[j]?=Vo k->IsTupleKey knd s'.heap k b:=λj b k M N=>by obtain⟨o',items,q,y,B,C,O⟩:=f j b k M N;refine⟨o',items,q,r.heap b o' (λQ=>?_) y,B,C,O⟩;obtain⟨vs,hv⟩:=hwr _ s d b Q o' y;rw[C]at hv;cases hv
  show Vf _ A.in1 (holding [Value.ref b] (setAdd S (.ref b)) >>= _) _ _ s';refine zi (wpAny_holding ?_);unfold setAdd;refine wpAny_holding (zi (wpAny_pyHash_tuple hu (hkeys' i b _ hb h) ?_));have E:kk[i]∉(kk.take i).reverse:=by rw[List.mem_reverse];intro z;obtain⟨q,hq,e⟩:=List.mem_iff_getElem.mp z;rw[Af]at hq;rw[List.getElem_take]at e;have:=(List.getElem_inj J).mp e;omega
  have T:(kk.take (i+1)).reverse=kk[i]::(kk.take i).reverse:=by rw[List.take_add_one,h,List.reverse_append];rfl
  refine xh (s:={ s' with toks:=s'.toks+(kk[i].length+1) }) hu (hkeys' i b _ hb h) g E (by rw[List.length_reverse,Af];omega) λh' sb p=>?_;obtain⟨oS,a2,a3,tS,U,_,X,_⟩:=id g;refine zj ⟨plainId_quiet F.plain_set_update_loop _,ih (i+1) _ (by omega) hlt (W.frame _ s' _ _ x (Nat.le_add_right _ _) λc B o e=>?_) (by rw[T];exact p) (λj c k M N=>j6 (hkeys' j c k M N) U X sb) λY Z a0=>?_⟩
  .rw[sb.2 c (λz:c=S=>hS (z ▸ B))];exact e
  .refine L Y (Moved.trans W.gtrans ((r.mono more).then_heap (Nat.le_add_right _ _) λc o B e=>?_) Z) a0;rw[sb.2 c (λz:c=S=>B (by rw[z];exact zw))];exact e
end
end L2.Og
namespace L2.Og
open PySem PySem.Spec PyProof.Rows
section
variable {P:Vd} {w:Ve} {A:Vi} {E:Va->Vc->Prop} {s:Vc} {K:Type} [DecidableEq K] {knd:KeyKind P w K}
abbrev dF(led:Bool):Obj:={ cls:=.type "set",dict:=Vp,data:=.set #[] 0 (.fresh 0 0 led) }
def pb(knd:KeyKind P w K)(s:Vc)(kk:List (List K))(h':Vh):Prop:=
 dg knd h' s.heap.objs.size kk.reverse/\∀b o,b<s.heap.objs.size->s.heap.get? b=Vo o->h'.get? b=Vo o
def ud:isSubtype (.type "tuple") (.type "frozenset")=pure false:=by
 rw[isSubtype_type]
 kernel_rfl
def v7{t:Vb}{bs:List Vb}{kk:List (List K)}{Q:Va->Vc->Prop}(W:A.handled=Vp)(hu:A.units+5<cLine)(gt:s.heap.IsTuple t ys)(y:ys.toList=bs.map Value.ref)
  (X:kk.length=ys.size) (C:kk.Nodup) (Y:ys.size<200) (g:∀(j:Nat) (b:Vb) (k:List K),bs[j]?=Vo b->kk[j]?=Vo k->IsTupleKey knd s.heap k b)
  (h:∀(h':Vh) (tk:Nat),pb knd s kk h'->Q (.ref s.heap.objs.size) { s with heap:=h',toks:=tk }):Vf (Vg P w) A (call (.type "set") [.ref t]) Q E s:=by
 have x1:=F.called_set.notType;have x2:=F.called_set.canCreate;have x3:=F.typeCall_set_1 (.ref t);have x4:=F.called_set.made;have x5:=F.called_set.sub;obtain⟨c,tl,x6⟩:=F.called_set.mro;refine wpAny_call (codeAny_of_tree ?_);show Vf _ _ (callAny (.type "set") _) _ _ _;refine zj ⟨Code.quiet_builtin _ (by decide +kernel),codeAny_builtin F.entry_type_call ?_⟩;rw[Around.under_plain (weight_type_call_type "set" [.ref t] []) rfl]
 repeat (any_goals (first|assumption|wp_step))
 refine codeAny_mono (code_set_new_1 (.ref t) (E:=E) (Q₁:=λv s1=>∃led,v=.ref s.heap.objs.size/\s1={ s with heap:=s.heap.push (dF led) }) λled=>⟨led,rfl,rfl⟩) λr s1 hr=>?_;cases r with
 | error e=>exact hr
 | ok Z=>
  cases Z with
  | ret v=>
   obtain⟨led,rfl,rfl⟩:=hr;have U:(s.heap.push (dF led)).get? s.heap.objs.size=Vo (dF led):=zm _ rfl;have hT:Shared.TypeIs { s with heap:=s.heap.push (dF led) } (.ref s.heap.objs.size) "set":=⟨_,U,rfl⟩;have x7:=F.called_set.init.lookup;have x8:=F.called_set.init.bind (.ref s.heap.objs.size)
   repeat (any_goals (first|assumption|wp_step))
   refine codeAny_mono (codeAny_call_builtin (R:=wants (λr s2=>r=.none/\∃h' tk,s2={ s with heap:=h',toks:=tk }/\pb knd s kk h') E) F.called_set.init.plain F.entry_set_init (check_set_init_1 hT ?_)) λr2 s2 a=>?_
   .have G:(s.heap.push (dF led)).IsTuple t ys:=gt.push _;have hlt:t<s.heap.objs.size:=by obtain⟨o,f,_⟩:=gt;exact zo f
    obtain⟨ol,a0,n,nl,p⟩:=id G;obtain⟨c0,d0,dt,sl⟩:=ol;simp only at n p;subst n p;have y1:=F.sub_tuple_set;have y2:=ud;have y3:(Value.type "tuple" == Value.type "dict")=false:=by decide
    unfold Builtin.«set.__init__» noKeywords Builtin.Frozenset.updateFrom;generalize hit:pyIter=PI
    wp_walk
    subst hit;refine wpAny_pyIter_tuple G ?_;refine zi (wpAny_runValue ?_);have u:(s.heap.push (dF led)).objs.size=s.heap.objs.size+1:=Heap.size_push _ _;have H:A.in1.in1.in1.handled=Vp:=by simp[W]
    have I:t≠(s.heap.push (dF led)).objs.size:=by rw[u];exact zI (Nat.lt_succ_of_lt hlt)
    have J:s.heap.objs.size∉[(s.heap.push (dF led)).objs.size,t]:=by
     intro z;rcases zE.mp z with z|z
     .rw[u]at z;exact zI (Nat.lt_succ_self _) z
     .exact Nat.ne_of_gt hlt (zB.mp z)
    have L:∀i:Nat,ys[i]?=(bs[i]?).map Value.ref:=λi=>by rw[<-Array.getElem?_toList,y,zr]
    refine yN (knd:=knd) ((Walks.tuple H _ t I ys).toS) s.heap.objs.size J (by simp only[Around.in1_units];omega) bs kk X C Y (λi v hv=>?_) (λi s' hs b M o f=>?_) (ys.size-0) 0 _ (by omega) (Nat.zero_le _) ⟨⟨_,zm _ rfl,rfl,rfl⟩,G.push _⟩ ⟨dF led,#[],0,_,zl _ U,⟨rfl,rfl,rfl⟩,rfl,rfl,rfl,  .inl rfl,(show 0*5<7*3 by decide),rfl,λe he=>by simp at he⟩ (λj b k u e2=>?_) λs' B d=>?_
    .have x:ys[i]?=Vo v:=hv;rw[L i]at x;obtain⟨b,e,rfl⟩:=zC.mp x;exact⟨b,rfl,e⟩
    .cases zB.mp M;obtain⟨o',N,_,O⟩:=hs.1;rw[N]at f;cases f;exact⟨_,O⟩
    .obtain⟨o,items,q,f,r⟩:=g j b k u e2;exact⟨o,items,q,zl _ (zl _ f),r⟩
    .obtain⟨h',g',d',S,T⟩:=s';have q1:g'=s.gens:=B.gens;have q2:d'=s.drawn:=B.drawn;have q3:T=s.os:=B.os;subst q1 q2 q3;show Vf _ _ _ _ _ _;refine zj ?_;show Vf _ _ (ret Value.none) _ _ _;refine zj ⟨rfl,h',S,rfl,d,λb o y e=>B.heap b o (λz=>?_) (zl _ (zl _ e))⟩;rcases zE.mp z with z|z
     .exact zI y z
     .have z:=zB.mp z;rw[u]at z;exact zI (Nat.lt_succ_of_lt y) z
   .cases r2 with
    | error e=>exact a
    | ok f2=>
     cases f2 with
     | ret r=>
      obtain⟨rfl,h',tk,rfl,d⟩:=a
      repeat (any_goals (first|assumption|wp_step))
      exact h _ _ d
     | _=>exact a.elim
  | _=>exact hr.elim
end
end L2.Og
namespace L2.Og
open PySem PySem.Spec PyProof.Rows
def fI(a:Vb)(n:Nat):HO:=.ext λh=>∃o es ep t,h.get? a=Vo o/\o.ExactSet/\o.data=.set es ep t/\t.fits es.size=true/\es.size=n
def tN{ks:List (List Key)}(S:dg (bK P w) h a ks):bc P w H h a (fI a ks.length):=by
 obtain⟨o,es,ep,t,i,hex,hd,j,b,p,c,hlen,_⟩:=S;refine⟨⟨o,es,ep,t,i,hex,hd,?_,hlen⟩,⟨o,i⟩,λh1 h2 z k=>?_⟩
 .simp only[SetTable.fits,zX,beq_iff_eq,decide_eq_true_eq];refine⟨j,?_⟩;unfold SetTable.fill;rw[b,j];have:es.size<=t.mask:=by omega
  simpa using this
 .obtain⟨o',d,f,n,g,r⟩:=z;exact⟨o',d,f,n,k _ g,r⟩
def bC(H:Hp)(p:Vb)(kk:List (List Key)):Prop:=∃bs:List Vb,H p=Vo (.tup (bs.map V.ref))/\bs.length=kk.length/\∀(j:Nat) (b:Vb) (k:List Key),bs[j]?=Vo b->kk[j]?=Vo k->H b=Vo (.tup (k.map kV))
theorem rg:∀{bs:List Vb} {us:List Va},Vals (bs.map V.ref) us->us=bs.map Value.ref
 | [],_,.nil=>rfl
 | b::bs,_,.cons r t=>by rw[List.map_cons,<-rg (bs:=bs) t];exact congrArg (· :: _) r
section
variable {X:Cx}
def mM:List V->Hp->VK->Prop:=λxs H Q=>∃p a,xs=[.ref p]/\bC H p a/\a.Nodup/\a.length<200/\∀l,H l=Vp->Q (.ref l) (upd H l (fI l a.length))
def call_setT{k:Nat}(hr:Room k X.A):bD X (.type "set") mM:=by
 intro pins s σ H xs us Q I r h;obtain⟨p,kk,rfl,⟨bs,h1,h2,d⟩,a,f,q⟩:=h;obtain⟨u,rfl,g⟩:=vals1 r;cases g;obtain⟨_,i,t,gt⟩:=I.hok p _ h1;have v:=rg t;subst v;have F:=hr.units;have x:=hr.hd;refine v7 (knd:=bK X.prog X.w) (kk:=kk) (bs:=bs) x (by omega) (show s.heap.IsTuple p _ from gt) rfl (by simp[h2]) a (by simp[h2];exact f) (λj b k y z=>?_) λh' tk c=>?_
 .obtain⟨_,G,B,o,C,E,n,hd⟩:=I.hok b _ (d j b k y z);exact⟨o,_,n,C,E,hd,lI B⟩
 .have hok:=tN (H:=upd H s.heap.objs.size (fI s.heap.objs.size kk.length)) c.1;rw[List.length_reverse]at hok;exact⟨.ref s.heap.objs.size,_,I.laid (t':=tk) (λb o e=>c.2 b o (zo e) e) (zJ _) hok,rfl,q _ (I.hok.fresh (zJ _))⟩
def nW:List V->Hp->VK->Prop:=λxs H Q=>∃p n,xs=[.ref p]/\H p=Vo (fI p n)/\n<200/\Q (.int n) H
def call_lenSet:bD X (.builtin "len") nW:=by intro pins s σ H xs us Q I r h;obtain⟨p,n,rfl,a,g,q⟩:=h;obtain⟨u,rfl,b⟩:=vals1 r;cases b;obtain⟨⟨o,es,ep,t,c,hex,hd,d,f⟩,_⟩:=I.hok p _ a;refine call_len_set c hex hd d (by omega) ⟨.int n,H,I.tok _,⟨s.toks+1,by rw[f]⟩,q⟩
def rd_setOf{Q:VK}{p:Vb}{kk:List (List Key)}(h:bC H p kk)(a:kk.Nodup)(b:kk.length<200)(q:∀l H',Ext H H'->H' l=Vo (fI l kk.length)->Q (.ref l) H'):mM [.ref p] H Q:=
 ⟨p,kk,rfl,h,a,b,λl hl=>q l _ (bF hl) aI⟩
def rd_lenSet{Q:VK}{p:Vb}(h:H p=Vo (fI p n))(a:n<200)(q:Q (.int n) H):nW [.ref p] H Q:=⟨p,n,rfl,h,a,q⟩
end
end L2.Og
namespace L2.Ti
open PySem PySem.Spec PyProof.Rows
end L2.Ti
namespace L2
open PySem PySem.Spec PyProof.Rows
section
variable {X:Cx} {pins:List (Vb×Obj)} {σ:St} {H:Hp} {s:Vc}
def mP{i:Nat}{y:Vn}{py:Pos}{pos c:Pos}(own:List Vn)(d:List Nat){O:TI}{te:TE}(Z:X.N.Nodup)(f:X.N[i]?=Vo y)(hx:Loc X.env.scope y)
  (hi:PI X tg iter O) (hg:∀z,PG (bO X sc own d z) tg g) (ht:∀z,fi (bO X sc own d z) ifs tc)
  (he:∀z,PE (bO X sc own d z) elt te) (j:swapsWith (.ListComp elt [⟨tg,iter,ifs,0⟩] sc pos) (Vo (.Name y py)) c.line X.env=pure true:=by rfl) (hc:X.calm=true:=by rfl) (P:sc.kind=.function:=by rfl) (k:cJ sc X.env.scope=true:=by rfl) (hj:fj sc X.N d=true:=by rfl)
  (hs:∀x,foldedSetIterable iter X.env x=pure x:=by intro _;rfl) (n:X.fn y=true\/X.env.scope.names.lookup y=Vo .local:=by first|exact .inl rfl|exact .inr rfl|assumption) :
  PS X (.Assign [.Name y py] (.ListComp elt [⟨tg,iter,ifs,0⟩] sc pos) c) (iE (iG own.length d O g tc te) (hG i)):=by
 intro pins s σ H r I h;rw[exec_Assign_Name_used _ _ _ _ j];refine zi (wpAny_standAt (zi ?_));show Vf _ X.A (do let _ <-comprehension (.ListComp elt [⟨tg,iter,ifs,0⟩] sc pos) sc X.env _ (newList []) false (eval iter X.env) (some (assign (.Name y py) X.env))) _ _ s;refine zi (wpAny_mono (wpAny_comprehension_free (use:=some (assign (.Name y py) X.env)) (Q:=λ_ s'=>SP X pins r .next s') rfl hs (jW λp t n=>I.ok.has p.1 (jj k t n)) P (λp t hl=>qk k t hl)
  (ai (hi pins s σ H _ I h) λv s1 h1=>ai h1 λa0 s2 h2=>?_)) (λ_ s' hq=>zj (zj hq)) λ_ _ e=>e)
 obtain⟨it,fp,tn,J,H2,e,I2,T,u,R,W,w0,turn⟩:=h2;subst e;refine mR (Q:=λx H1=>hG i x σ H1 r.nx) (RR:=λacc C=>compPost (Vg X.prog X.w) X.A X.xe (Vo (assign (.Name y py) X.env)) (λ_ s'=>SP X pins r .next s') acc C) P k hj (λ_=>hg _) (λ_=>ht _) (λ_=>he _) I2 (λC=>Turn.at_ (Y:=bO X sc own d ⟨_,_,_,C⟩) T hc) u R w0 turn ?_;intro D C s' ys H' nD I' hC ⟨m,hm⟩ a1 q;show Vf _ X.A (assign (.Name y py) X.env (.ref D)) _ _ _;refine wpAny_assign_Name (nQ I' Z f hx (v:=.ref D) rfl (λB E ⟨a,F,G⟩=>?_) n);obtain⟨f0,S,R,f3,U,f5⟩:=hC;have K:a≠C:=by
  rcases G with rfl|G
  .exact Ne.symm S
  .exact U y a G
 refine⟨m,hm.sameBut F (Ne.symm K),λh' L=>?_⟩;exact⟨_,_,E.turned (t':=B.toks) (it:=C) (λb o M e=>(L.2 b M).trans e) f0 S f3 U f5,q⟩
end
section
variable {X:Cx}
theorem qm:∀(l:List (Vn×Tok)),Vals ((l.map (·.1)).map V.str) (strValues l)
 | []=>.nil
 | (x,t)::l=>.cons ⟨t,rfl⟩ (qm l)
def xc:V->List V->Hp->VK->Prop:=λx vs H Q=>∃z y:Vn,x=.str z/\vs=[.str y]/\(y.length == 0)=false/\z.length+2<=sizeLine/\∀l,H l=Vp->Q (.ref l) (upd H l (.lst ((Txt.split z y).map V.str)))
def wA:fH X "str.split" xc:=by
 intro pins s σ H x vs v us Q I d f h;obtain⟨z,y,rfl,rfl,c,j,q⟩:=h;obtain⟨t,rfl⟩:=d;obtain⟨u,rfl,t',rfl⟩:=vals1 f;have fin:∀(l:List (Vn×Tok)) (k:Nat),l.map (·.1)=Txt.split z y->EP X pins σ Q (.ref s.heap.objs.size) { s with toks:=k,heap:=s.heap.push { cls:=.type "list",data:=.seq (strValues l).toArray } }:=λl k e=>by
  have n:=split_le z y;have rel:=qm l;have g:l.length=(Txt.split z y).length:=by rw[<-e,zp]
  rw[e]at rel;refine⟨.ref s.heap.objs.size,_,I.laid (t':=k) (o:=.lst ((Txt.split z y).map V.str)) (λb o i=>zl _ i) (zJ _) ⟨by rw[zp];omega,_,_,rel,zm _ rfl⟩,rfl,q _ (I.hok.fresh (zJ _))⟩
 cases h1:(decide (z.length<y.length) || decide (Builtin.Str.strKind z<Builtin.Str.strKind y))
 .cases a:(Builtin.Str.occurrences z y 0 z.length (z.length+1)).isEmpty
  .have e:Txt.split z y=Builtin.Str.partsBetween z (Builtin.Str.occurrences z y 0 z.length (z.length+1)) y.length:=(Al (ne_true_of_eq_false h1)).trans (Al (ne_true_of_eq_false a));refine call_meets F.slot_str_split (typeIs_str _ _ _) F.entry_str_split (F.args_str_split_2 _ _) (meets_str_split_sep z y t t' h1 c a (by omega) (by rw[<-e];have:=split_le z y;omega)) ?_;show wants (EP X pins σ Q) X.xe _ { s with toks:=_,heap:=s.heap.push { cls:=.type "list",data:=.seq (strsFrom s.toks (Builtin.Str.partsBetween z (Builtin.Str.occurrences z y 0 z.length (z.length+1)) y.length)).toArray } };rw[strsFrom_eq];exact fin _ _ ((numbered_texts _ _).trans e.symm)
  .exact call_meets F.slot_str_split (typeIs_str _ _ _) F.entry_str_split (F.args_str_split_2 _ _) (meets_str_split_not_found z y t t' h1 c a) (fin [(z,t)] s.toks ((Al (ne_true_of_eq_false h1)).trans (Am a)).symm)
 .exact call_meets F.slot_str_split (typeIs_str _ _ _) F.entry_str_split (F.args_str_split_2 _ _) (meets_str_split_cannot_occur z y t t' h1) (fin [(z,t)] s.toks (Am h1).symm)
def qE:bD X (.type "int") (λxs H Q=>∃z n,xs=[.str z]/\PySem.intText? z=Vo n/\z.length<=640/\Q (.int n) H):=by intro pins s σ H xs us Q I r h;obtain⟨z,n,rfl,a,hl,q⟩:=h;obtain⟨u,rfl,t,rfl⟩:=vals1 r;exact PySem.W.KIN.call_text a hl ⟨.int n,H,I.tok _,⟨_,rfl⟩,q⟩
end
def uE{z:Vn}{te:TE}{Q:VK}(Pv:Nat->List V->Hp->Prop)(w:z.cps.size<=sizeLine)(j:Pv 0 [] H)(hl:∀i ys H,i<=z.cps.size->Pv i ys H->ys.length<=i)
  (k:∀i c ys H,z.cps[i]?=Vo c->Pv i ys H->g (.str ⟨#[c]⟩) (bz n f σ) H λa o=>tc a o λb h=>if b=true then te a h λv r=>Pv (i+1) (ys++[v]) r else Pv (i+1) ys h)
  (hd:∀ys H p,Pv z.cps.size ys H->H p=Vp->Q (.ref p) (upd H p (.lst ys))):fR (gN z) n f g tc te σ H Q:=by
 refine⟨λi m ys H=>m=z.cps.size-i/\i<=z.cps.size/\Pv i ys H,⟨_,rfl,Nat.zero_le _,j⟩,?_⟩;rintro i m ys H ⟨rfl,hi,p⟩;have q:=hl i ys H hi p;rcases Nat.lt_or_ge i z.cps.size with l|l
 .refine .inr ⟨l,by omega,Pv (i+1),λs H' d=>⟨z.cps.size-(i+1),by omega,rfl,l,d⟩,?_⟩;rintro x H' ⟨rfl,c,t,rfl⟩;exact k i c ys H' t p
 .have:i=z.cps.size:=by omega
  subst this;exact .inl ⟨l,λd u=>hd ys H d p u⟩
end L2
namespace L2
open PySem PySem.Spec PyProof.Rows PySem.SeqAt PySem.MeetsSeq
structure MDfn(K:zk)(C:Vb)(m qual:Vn)(st:Vl)(ps:List Vn):Prop where
 ex:∃(f:Vb) (fd:Vm),Meth K C m f/\Fun K m qual st f fd/\Binds K fd ps []
structure MetX(P:Vd)(w:Ve)(K:zk)(mg:Vn->Option Va)(base:Vh)(C:Vb)(m:Vn)(k:Nat)(ps:List Vn)(sp:Sp):Prop where
 ex:∃(f:Vb) (fd:Vm),Meth K C m f/\Binds K fd ps []/\FnOk P w K mg base (aM P w) k f fd ps sp
def MDfn.okX{K:zk}{m:Vn}{k:Nat}(D:MDfn K C m qual st ps)(S:FnScope N ps (ay st))(len:∀vs H Q E,sp vs H Q E->vs.length=ps.length)
  (a:∀(f:Vb) (cdv:Va) (A:Vi) (outer:List Env) (s:Vc) (H:Hp) (vs:List V) (Q:VK) (E:XK),Room k (A.deeper (envOfC qual (ay st) s.heap.objs.size f cdv))->sp vs H Q E ->
   ∃t,bI (aJ (aM P w) P w K mg base N qual (ay st) f cdv A outer s H E) (bJ st) t/\t { nx:=λ_ H'=>Q .non H',rt:=Q } (start N vs) H):MetX P w K mg base C m (k+1) ps sp:=by
 obtain⟨f,fd,c,F,d⟩:=D.ex;obtain⟨oc,od,kV,doc,pm,an,cdv,ct,osl,rfl,lk,b⟩:=F.ex;exact⟨f,_,c,d,mz lk b S len λA outer s H vs Q E hr h=>a f cdv A outer s H vs Q E hr h⟩
section
variable {P:Vd} {w:Ve} {K:zk} {mg:Vn->Option Va} {base:Vh} {N:List Vn} {qual:Vn} {scope:Scope} {f:Vb} {cd:Va} {A:Vi} {outer:List Env} {s₀:Vc} {H₀:Hp} {E:XK}
variable {C:Vb} {m:Vn} {k j:Nat} {ps:List Vn} {sp:Sp} {o e:Vk} {es:List Vk} {ta:TE} {t:TA} {apos pos:Pos} {pl:Sem Bool}
def wa(M:MetX P w K mg base C m j ps sp)(c:Cls K C)(hr:Room k (aJ (aM P w) P w K mg base N qual scope f cd A outer s₀ H₀ E).A)(i:PE (aJ (aM P w) P w K mg base N qual scope f cd A outer s₀ H₀ E) o ta)
  (n:PA (aJ (aM P w) P w K mg base N qual scope f cd A outer s₀ H₀ E) (e::es) t) (a:j<=k:=by decide)
  (b:starEach (e::es) (aJ (aM P w) P w K mg base N qual scope f cd A outer s₀ H₀ E).env=(false,eval e (aJ (aM P w) P w K mg base N qual scope f cd A outer s₀ H₀ E).env)::starEach es (aJ (aM P w) P w K mg base N qual scope f cd A outer s₀ H₀ E).env:=by rfl)
  (d:(backTo pos (starEach es (aJ (aM P w) P w K mg base N qual scope f cd A outer s₀ H₀ E).env)).any (·.1)=false:=by rfl)
  (p:eval (.Call (.Attribute o m apos) (e::es) [] pos) (aJ (aM P w) P w K mg base N qual scope f cd A outer s₀ H₀ E).env=(do
   let g <-eval o (aJ (aM P w) P w K mg base N qual scope f cd A outer s₀ H₀ E).env
   standAt apos.atName
   let (g9,first) <-holding [g] (getMethod g m pl)
   callWith pos g9 first (backTo pos (starEach (e::es) (aJ (aM P w) P w K mg base N qual scope f cd A outer s₀ H₀ E).env)) (backToKw pos (keywordEach [] (aJ (aM P w) P w K mg base N qual scope f cd A outer s₀ H₀ E).env))):=by rfl) :
  PE (aJ (aM P w) P w K mg base N qual scope f cd A outer s₀ H₀ E) (.Call (.Attribute o m apos) (e::es) [] pos) (gF C m sp [] E ta t):=by
 obtain⟨s,fd,q,r,F⟩:=M.ex;exact ya i c q F (hr.mono a) r .nil (lZ λ_ _ _ h=>h) n b d p
def rH(M:MetX P w K mg base C m j ps sp)(c:Cls K C)(hr:Room k (aJ (aM P w) P w K mg base N qual scope f cd A outer s₀ H₀ E).A)(d:PE (aJ (aM P w) P w K mg base N qual scope f cd A outer s₀ H₀ E) o ta)(a:j<=k:=by decide)
  (g:eval (.Call (.Attribute o m apos) [] [] pos) (aJ (aM P w) P w K mg base N qual scope f cd A outer s₀ H₀ E).env=(do
   let b <-eval o (aJ (aM P w) P w K mg base N qual scope f cd A outer s₀ H₀ E).env
   standAt apos.atName
   let (g9,first) <-holding [b] (getMethod b m pl)
   callWith pos g9 first (backTo pos (starEach [] (aJ (aM P w) P w K mg base N qual scope f cd A outer s₀ H₀ E).env)) (backToKw pos (keywordEach [] (aJ (aM P w) P w K mg base N qual scope f cd A outer s₀ H₀ E).env))):=by rfl) :
  PE (aJ (aM P w) P w K mg base N qual scope f cd A outer s₀ H₀ E) (.Call (.Attribute o m apos) [] [] pos) (gF C m sp [] E ta eP):=by
 obtain⟨p,fd,i,n,F⟩:=M.ex;exact uT d c i F (hr.mono a) n .nil (lZ λ_ _ _ h=>h) g
def rd_meth{Q:VK}(h:ta σ H λx H1=>∃a dx fs,x=.ref a/\H1 a=Vo (.ins C dx fs)/\fs.lookup m=Vp/\t σ H1 λvs H2=>sp (x::(vs++[])) H2 Q E):gF C m sp [] E ta t σ H Q:=h
end
def mY(C:Vb)(m:Vn)(i:Nat)(sp:Sp)(ta:TE)(t:TA):Ends->(St->XK)->St->Hp->Prop:=λD E σ H=>ta σ H λx H1=>∃a dx fs,x=.ref a/\H1 a=Vo (.ins C dx fs)/\fs.lookup m=Vp/\t σ H1 λvs H2=>sp (x::vs) H2 (λv b=>D.nx (σ.set i (Vo v)) b) (E σ)
def xQ{m y:Vn}{i k j:Nat}{o e:Vk}{es:List Vk}{ta:TE}{t:TA}{apos pos b d:Pos}{pl:Sem Bool}(M:MetX Y.prog Y.w Y.K Y.mg Y.base C m j ps sp)(c:Cls Y.K C)(hr:Room k Y.A)(T:Y.N.Nodup)(hi:Y.N[i]?=Vo y)(U:Loc Y.env.scope y)(hob:PE Y.nox o ta)(Z:PA Y.nox (e::es) t)(B:j<=k:=by decide)
  (he:starEach (e::es) Y.env=(false,eval e Y.env)::starEach es Y.env:=by rfl) (G:(backTo pos (starEach es Y.env)).any (·.1)=false:=by rfl) (hs:swapsWith (.Call (.Attribute o m apos) (e::es) [] pos) (Vo (.Name y d)) b.line Y.env=pure false:=by rfl)
  (ht:eval (.Call (.Attribute o m apos) (e::es) [] pos) Y.env=(do
   let J <-eval o Y.env
   standAt apos.atName
   let (g9,first) <-holding [J] (getMethod J m pl)
   callWith pos g9 first (backTo pos (starEach (e::es) Y.env)) (backToKw pos (keywordEach [] Y.env))):=by rfl)
  (hf:Y.fn y=true\/Y.env.scope.names.lookup y=Vo .local:=by first|exact .inl rfl|exact .inr rfl|assumption) :
  PB Y (.Assign [.Name y d] (.Call (.Attribute o m apos) (e::es) [] pos) b) (mY C m i sp ta t):=by
 intro pins s σ H D E I h;obtain⟨f,fd,L,hb,F⟩:=M.ex;refine wpAny_Assign_Name (PySem.W.methodCall_KW (pl:=pl) (wpAny_mono (hob pins s σ H _ I h) (λu s1 ⟨x,H1,O,rx,a,dx,fs,ex,ea,l,q⟩=>?_) λ_ _ z=>z.elim) ht) hs;subst ex;obtain rfl:u=Value.ref a:=rx;refine iN (X:=Y.nox) O ea c L l ?_;refine PySem.W.callWith_K (first:=[.ref a]) (h₀:=Y.base) I.ok.mod.kin L.kp (wpAny_mono (Z pos pins s1 σ H1 _ O q) (λus s2 ⟨vs,H2,g,r,P⟩=>⟨g.kIn,?_⟩) λ_ _ z=>z.elim) he G;have R:Vals (V.ref a::vs) (Value.ref a::us):=.cons rfl r;have hl:(Value.ref a::us).length=ps.length:=by rw[<-R.length];exact F.len _ _ _ _ P
 have n:=hb s2 (Value.ref a::us) g.kIn (by rw[List.append_nil];exact hl);rw[List.append_nil]at n;refine wpAny_call (codeAny_mono (F.run Y.A Y.stack s2 H2 ⟨Value.ref a::us,[]⟩ (Value.ref a::us) (V.ref a::vs) _ (E σ) (hr.mono B) g.env0 n R P) λr s' p=>?_);cases r with
 | error e=>exact⟨σ,H2,s2,g,p⟩
 | ok fl=>
  cases fl with
  | ret u=>
   obtain⟨v,H3,I3,r3,q3⟩:=g.after p;exact wpAny_mono (jt (X:=Y.nox) (Q:=λ_ S=>SP Y.nox pins D .next S) (E:=λ_ _=>False) I3 T hi U r3 (λS I4=>⟨_,H3,I4,q3⟩) hf) (λ_ _ z=>z) λ_ _ z=>z.elim
  | next=>exact False.elim p
  | brk=>exact False.elim p
  | cont=>exact False.elim p
def rd_basgM{m:Vn}{i:Nat}{ta:TE}{t:TA}{D:Ends}{E:St->XK}(h:ta σ H λx H1=>∃a dx fs,x=.ref a/\H1 a=Vo (.ins C dx fs)/\fs.lookup m=Vp/\t σ H1 λvs H2=>sp (x::vs) H2 (λv b=>D.nx (σ.set i (Vo v)) b) (E σ)):mY C m i sp ta t D E σ H:=h
structure MkD(P:Vd)(w:Ve)(K:zk)(mg:Vn->Option Va)(base:Vh)(x:Vn)(k:Nat)(sp:Sp):Prop where
 ex:∃(f:Vb) (fd:Vm),mg x=Vo (.ref (cA K x))/\Mk K (cA K x) f/\Binds K fd ["self"] []/\FnOk P w K mg base cQ k f fd ["self"] sp
def oI{x:Vn}{k j:Nat}{p pos:Pos}(M:MkD X.prog X.w X.K X.mg X.base x j sp)(hr:Room (k+1) X.A)(a:j<=k:=by decide)(c:Gl X x:=by rfl)(b:(x == ("__debug__":Vn))=false:=by decide):PE X (.Call (.Name x p) [] [] pos) (jR (cA X.K x) sp [] E0 eP):=by obtain⟨f,fd,d,M,g,F⟩:=M.ex;exact xa M F (hr.mono (Nat.succ_le_succ a)) c d g .nil oE b
def rd_make{Q:VK}(h:∀x dx,H x=Vp->H dx=Vp->dx≠x->sp [.ref x] (upd (upd H dx (.own x)) x (.ins C dx [])) (λv H2=>v=.non/\Q (.ref x) H2) E0):jR C sp [] E0 eP σ H Q:=h
def Cal.toX{K:zk}{x:Vn}{k:Nat}(h:Cal P w K mg base x k ps sp):CalX P w K mg base x k ps sp:=by
 obtain⟨f,fd,a,b,c,F⟩:=h.ex;refine⟨f,fd,a,b,c,F.len,λA outer s H args us vs Q E r1 g i j n=>codeAny_mono (F.run A outer s H args us vs Q E r1 g i j n) λr s' d=>?_⟩;cases r with
 | error e=>exact False.elim d
 | ok o=>cases o<;>exact d
section
variable {P:Vd} {w:Ve} {K:zk} {mg:Vn->Option Va} {base:Vh} {N:List Vn} {qual:Vn} {scope:Scope} {f:Vb} {cd:Va} {A:Vi} {outer:List Env} {s₀:Vc} {H₀:Hp} {E:XK}
def qZ(P:Vd)(w:Ve)(K:zk)(mg:Vn->Option Va)(base:Vh)(k:Nat)(E:XK)(a:TE)(t:TA):TE:=λσ H Q=>a σ H λy H1=>∃(x:Vn) (j:Nat) (ps:List Vn) (sp:Sp),y=.ref (cA K x)/\mg x=Vo (.ref (cA K x))/\CalX P w K mg base x j ps sp/\j<=k/\t σ H1 λvs H2=>sp vs H2 Q E
def mO{b i e:Vk}{es:List Vk}{k:Nat}{n:TE}{t:TA}{p pos:Pos}(hr:Room k (aJ (aM P w) P w K mg base N qual scope f cd A outer s₀ H₀ E).A)(v:PE (aJ (aM P w) P w K mg base N qual scope f cd A outer s₀ H₀ E) (.Subscript b i p) n)
  (z:PA (aJ (aM P w) P w K mg base N qual scope f cd A outer s₀ H₀ E) (e::es) t)
  (B:starEach (e::es) (aJ (aM P w) P w K mg base N qual scope f cd A outer s₀ H₀ E).env=(false,eval e (aJ (aM P w) P w K mg base N qual scope f cd A outer s₀ H₀ E).env)::starEach es (aJ (aM P w) P w K mg base N qual scope f cd A outer s₀ H₀ E).env:=by rfl)
  (c:(backTo pos (starEach es (aJ (aM P w) P w K mg base N qual scope f cd A outer s₀ H₀ E).env)).any (·.1)=false:=by rfl) :
  PE (aJ (aM P w) P w K mg base N qual scope f cd A outer s₀ H₀ E) (.Call (.Subscript b i p) (e::es) [] pos) (qZ P w K mg base k E n t):=by
 intro pins s σ H Q I h;show Vf _ _ (eval (.Subscript b i p) _ >>= λd=>callWith pos d [] (backTo pos (starEach (e::es) _)) (backToKw pos (keywordEach [] _))) _ _ s;refine zi (ai (v pins s σ H _ I h) λd s1 ⟨y,H1,o,G,x,j,ps,sp,J,L,C,g,q⟩=>?_);subst J;obtain rfl:d=Value.ref (cA K x):=G;obtain⟨S,fd,a,M,O,F⟩:=C.ex;rw[L]at a;cases a;refine PySem.W.callWith_K (h₀:=base) o.ok.mod.kin M (ai (z pos pins s1 σ H1 _ o q) λus s2 ⟨vs,H2,u,r,R⟩=>⟨u.kIn,?_⟩) B c;exact il F (hr.mono g) O .nil (lZ λ_ _ _ h=>h) u r (by rw[List.append_nil];exact R)
end
def rd_calS{K:zk}{k:Nat}{E:XK}{a:TE}{t:TA}{Q:VK}(h:a σ H λy H1=>∃(x:Vn) (j:Nat) (ps:List Vn) (sp:Sp),y=.ref (cA K x)/\mg x=Vo (.ref (cA K x))/\CalX P w K mg base x j ps sp/\j<=k/\t σ H1 λvs H2=>sp vs H2 Q E):qZ P w K mg base k E a t σ H Q:=h
def rd_fld{K:zk}{ta:TE}{f:Vn}{Q:VK}(h:ta σ H λx H1=>∃a C dx fs v,x=.ref a/\H1 a=Vo (.ins C dx fs)/\Cls K C/\cS K C f/\fs.lookup f=Vo v/\Q v H1):rA K ta f σ H Q:=h
def rd_sfld{K:zk}{ta tv:TE}{f:Vn}{D:Ends}(h:tv σ H λy H1=>ta σ H1 λx H2=>∃a C dx fs,x=.ref a/\H2 a=Vo (.ins C dx fs)/\Cls K C/\cS K C f/\fs.length<1000/\D.nx σ (upd H2 a (.ins C dx (aY f y fs)))):mL K ta tv f D σ H:=h
def xr{x:Vn}{i:Vk}{ty:TE}{p:Pos}(c:Gl X x)(d:X.mg x=some (.ref a))(D:GDict X.w X.K a kvs)(hi:PE X i ty)(hd:(x == ("__debug__":Vn))=false:=by decide):PC X .NotIn i (.Name x p) (lr true kvs ty):=by intro pins s σ H Q I h;refine ai (hi pins s σ H _ I h) λj s1 ⟨y,H1,b,f,k,g,q⟩=>eL b c d ?_ hd;subst g;obtain⟨vs,rel,dd⟩:=D.at b;refine wpAny_notIn_of (fP f) D.sm dd.mapOf ?_;rw[<-(rel.val k).isSome_eq];exact⟨.bl (!(ba kvs k).isSome),H1,b.tok _,rfl,q⟩
abbrev iP(h:Vh)(a b:Vb):Vh:=(iZ h a).push { cls:=.type "list_iterator",data:=.fields #[.ref b,.int 0 0] }
abbrev i8(h:Vh)(a b:Vb):Vh:=(iP h a b).push { cls:=.type "tuple",data:=.seq #[.ref h.objs.size,.ref (iZ h a).objs.size] }
abbrev i5(h:Vh)(a b:Vb):Vh:=(i8 h a b).push { cls:=.type "tuple",data:=.seq #[.none,.none] }
abbrev gf(h:Vh)(a b:Vb):Vh:=(i5 h a b).push { cls:=.type "zip",data:=.fields #[.none,.bool false,.bool false,.ref (iP h a b).objs.size,.ref (i8 h a b).objs.size] }
def uh(a b:Vb)(xs ys:Array Va):Meets (Builtin.«zip.__new__» ⟨[.type "zip",.ref a,.ref b],[]⟩) (λ_ R s=>s.heap.IsTuple a xs/\s.heap.IsList b ys/\R (.ok (.ret (.ref (i5 s.heap a b).objs.size))) { s with heap:=gf s.heap a b }):=
 .of_wp λprog w A R s q=>by
  obtain⟨c,g,d,tk,os⟩:=s;obtain⟨ga,h,q⟩:=q;have f:=sub_zip;have i:Heap.IsTuple (Shared.heap ⟨c,g,d,tk,os⟩) a xs:=ga;have j:Heap.IsList (Shared.heap ⟨c.push { cls:=.type "tuple_iterator",data:=.fields #[.ref a,.int 0 0] },g,d,tk,os⟩) b ys:=Heap.IsList.push h _
  wp_walk using wpAny_pyIter_tuple i,wpAny_pyIter_list j
  exact⟨_,rfl,q⟩
def sU{prog:Vd}{w:Ve}{A:Vi}{E:Va->Vc->Prop}{b:Vb}{xs:Array Va}{Q:Va->Vc->Prop}(ga:s.heap.IsTuple a xs)(d:s.heap.IsList b ys)
  (q:∀h',IsZip h' (s.heap.objs.size+4) (s.heap.objs.size+2) (s.heap.objs.size+3) .none->IsPair h' (s.heap.objs.size+2) (.ref s.heap.objs.size) (.ref (s.heap.objs.size+1))->IsPair h' (s.heap.objs.size+3) .none .none ->
   h'.IsTupleIter s.heap.objs.size a 0->h'.IsListIter (s.heap.objs.size+1) b 0->(∀c o,s.heap.get? c=Vo o->h'.get? c=Vo o)->Q (.ref (s.heap.objs.size+4)) { s with heap:=h' }) :
  Vf (Vg prog w) A (call (.type "zip") [.ref a,.ref b]) Q E s:=by
 refine callType_new F.called_zip (by decide) (F.typeCall_zip_2 _ _) (F.newCall_zip_2 _ _) (λob=>F.args_object_init_3 ob _ _) F.entry_zip_new (uh a b xs ys) ⟨ga,d,?_⟩;have n1:(iZ s.heap a).objs.size=s.heap.objs.size+1:=Heap.size_push ..;have n2:(iP s.heap a b).objs.size=s.heap.objs.size+2:=by rw[Heap.size_push,n1]
 have n3:(i8 s.heap a b).objs.size=s.heap.objs.size+3:=by rw[Heap.size_push,n2]
 have n4:(i5 s.heap a b).objs.size=s.heap.objs.size+4:=by rw[Heap.size_push,n3]
 have k5:(gf s.heap a b).get? (i5 s.heap a b).objs.size=Vo _:=zm _ rfl;have k4:(gf s.heap a b).get? (i8 s.heap a b).objs.size=Vo _:=zl _ (zm _ rfl);have k3:(gf s.heap a b).get? (iP s.heap a b).objs.size=Vo _:=zl _ (zl _ (zm _ rfl));have k2:(gf s.heap a b).get? (iZ s.heap a).objs.size=Vo _:=zl _ (zl _ (zl _ (zm _ rfl)));have k1:(gf s.heap a b).get? s.heap.objs.size=Vo _:=zl _ (zl _ (zl _ (zl _ (zm _ rfl))));show _/\_;rw[n2,n3,n4]at k5;rw[n1,n2]at k3;rw[n3]at k4;rw[n1]at k2;rw[n4];exact⟨⟨_,k5,rfl⟩,q _ k5 k3 k4 ⟨_,k1,rfl,rfl⟩ ⟨_,k2,rfl,rfl⟩ λc o x=>zl _ (zl _ (zl _ (zl _ (zl _ x))))⟩
section
variable {K:zk} {σ:St} {H:Hp} {Q:VK}
def rK(K:zk):List V->Hp->(It->Hp->Prop)->Prop:=λvs H R=>∃a b xs ys,vs=[.ref a,.ref b]/\ah K H a xs/\ag K H b ys/\R (ml (eO K a) (cj K b)) H
def o8(K:zk)(ta:TA):TI:=λσ H R=>ta σ H λvs H1=>rK K vs H1 R
def wj{kk:Nat}{ps:Pos}(K:zk){a b:Vk}{ta:TA}{p pos:Pos}(o:Gl X "zip")(t:X.mg "zip" = Vp)(u:PA X [a,b] ta)(v:X.K=K:=by rfl)(w:starEach [a,b] X.env=[(false,eval a X.env),(false,eval b X.env)]:=by rfl)(c:starEach [b] X.env=[(false,eval b X.env)]:=by rfl):
  PI X (.Tuple elts kk ps) (.Call (.Name "zip" p) [a,b] [] pos) (o8 K ta):=by
 subst v;intro pins s σ H R I h;refine Call_ (fK I o t PyProof.Rows.boot_zip (PyProof.Rows.callWith_type1 (ai (u pos pins s σ H _ I h) λus s1 ⟨vs,H1,d,r1,x⟩=>?_) (by rw[w,c]) (by rw[c];rfl)));obtain⟨l,m,xs,ys,e,ga,y,q⟩:=x;subst e;cases r1 with
 | cons r f=>
  cases f with
  | cons z f=>
   cases f;cases r;cases z;obtain⟨g,_,A,_⟩:=d.tuple ga;obtain⟨i,_,p2,_⟩:=d.list y;refine sU (show s1.heap.IsTuple l g.toArray from A) p2.isList λh' j B C E F k=>?_;refine wpAny_pyIter_zip (s:={ s1 with heap:=h' }) j ?_;have N:Apart (s1.heap.objs.size+4) (s1.heap.objs.size+2) (s1.heap.objs.size+3) s1.heap.objs.size (s1.heap.objs.size+1):=by constructor<;>(intro h;have h':@Eq Nat _ _:=h;omega)
   refine⟨s1.heap.objs.size+4,[s1.heap.objs.size+4,s1.heap.objs.size+2,s1.heap.objs.size+3,s1.heap.objs.size,s1.heap.objs.size+1],_,_,H1,rfl,d.kept (t':=s1.toks) k,wb (wX l _) (yP m _) N,⟨j,B,⟨_,_,C⟩,E,F⟩,λb n=>?_,q⟩;have le:@LE.le Nat _ s1.heap.objs.size b:=by
    simp only[zE,zU,or_false]at n;rcases n with rfl|rfl|rfl|rfl|rfl
    .exact Nat.le_add_right _ _
    .exact Nat.le_add_right _ _
    .exact Nat.le_add_right _ _
    .exact zJ _
    .exact Nat.le_add_right _ _
   exact d.fpOk le (d.hok.fresh le)
def rd_zipM{a:TA}(h:a σ H λvs H1=>rK K vs H1 R):o8 K a σ H R:=h
def yK{b:Vb}{ys:List V}{k:List Nat}{te:TE}(Pv:Nat->List V->Hp->Prop)(G:xs.length<=sizeLine)(r:Pv 0 [] H)(hl:∀i zs H,Pv i zs H->ah K H a xs/\ag K H b ys/\zs.length<=i)
  (s:∀i u v zs H p H',xs[i]?=Vo u->ys[i]?=Vo v->Pv i zs H->Ext H H'->H' p=Vo (.tup [u,v])->H p=Vp->g (.ref p) (bz n k σ) H' λc t=>tc c t λb o=>if b=true then te c o λv w=>Pv (i+1) (zs++[v]) w else Pv (i+1) zs o)
  (hd:∀zs H p,Pv (min xs.length ys.length) zs H->H p=Vp->Q (.ref p) (upd H p (.lst zs))):fR (ml (eO K a) (cj K b)) n k g tc te σ H Q:=by
 refine⟨λi m zs H=>m=min xs.length ys.length-i/\i<=min xs.length ys.length/\Pv i zs H,⟨min xs.length ys.length,by simp,Nat.zero_le _,r⟩,?_⟩;rintro i m zs H ⟨rfl,hi,p⟩;obtain⟨d,f,I⟩:=hl i zs H p;by_cases hlt:i<min xs.length ys.length
 .have z:i<xs.length:=by omega
  have A:i<ys.length:=by omega
  refine .inr ⟨⟨⟨xs,xs[i],d,by simp[z]⟩,⟨ys,ys[i],f,by simp[A]⟩⟩,by omega,Pv (i+1),λB H' j=>⟨min xs.length ys.length-(i+1),by omega,rfl,hlt,j⟩,λx H' y=>?_⟩;obtain⟨pp,u,v,rfl,q,rfl,C,E⟩:=y;exact s i u v zs H pp _ (C.2 xs d) (E.2 ys f) p (bF q) aI q
 .have e:i=min xs.length ys.length:=by omega
  refine .inl ⟨?_,λj F=>hd zs H j (e ▸ p) F⟩;by_cases h:xs.length<=i
  .exact .inl ⟨xs,d,h⟩
  .exact .inr ⟨⟨xs,xs[i]'(by omega),d,zq (by omega)⟩,⟨ys,f,by omega⟩⟩
end
section
variable {X:Cx}
def kn(neg:Bool):R2:=λx y H Q=>∃n p xs d ds,aS H n x d/\y=.ref p/\H p=Vo (.tup xs)/\Paired (aS H n) xs ds/\n<=50/\Q (.bl (if neg then !(ds.any λe=>PyData.eqv e d)else ds.any λe=>PyData.eqv e d)) H
def rF{k:Nat}(hr:Room k X.A):aV X (compareOp .In) (kn false):=by intro pins s σ H x y v u Q I b c h;obtain⟨n,p,xs,d,ds,h1,rfl,h2,a,f,q⟩:=h;have g:aS H (n+1) (.ref p) (.tuple ds):=.inr ⟨p,xs,ds,rfl,.inl ⟨h2,rfl⟩,a⟩;obtain⟨j,ra⟩:=aS.reads I n h1 b;obtain⟨bs,i⟩:=aS.reads I (n+1) g c;have l1:=aS.lay n h1;have l2:=ie (λ{x d}=>aS.lay (H:=H) n) a;have o:=hr.units;have r:min (PyData.depthAll ds) d.depth<=50:=zT (Nat.min_le_right _ _) (zT l1.2 f);exact SeqAt.in_tuple_reads i ra l2.1 l1.1 (by omega) ⟨.bl _,H,I,rfl,q⟩
def qP{k:Nat}(hr:Room k X.A):aV X (compareOp .NotIn) (kn true):=by intro pins s σ H x y v u Q I b c h;obtain⟨n,p,xs,d,ds,h1,rfl,h2,a,f,q⟩:=h;have g:aS H (n+1) (.ref p) (.tuple ds):=.inr ⟨p,xs,ds,rfl,.inl ⟨h2,rfl⟩,a⟩;obtain⟨j,ra⟩:=aS.reads I n h1 b;obtain⟨bs,i⟩:=aS.reads I (n+1) g c;have l1:=aS.lay n h1;have l2:=ie (λ{x d}=>aS.lay (H:=H) n) a;have o:=hr.units;have r:min (PyData.depthAll ds) d.depth<=50:=zT (Nat.min_le_right _ _) (zT l1.2 f);exact SeqAt.notIn_tuple_reads i ra l2.1 l1.1 (by omega) ⟨.bl _,H,I,rfl,q⟩
def i3{x:V}{p:Vb}{d:PyData}{ds:List PyData}{Q:VK}(h1:aS H n x d)(h2:H p=Vo (.tup xs))(a:Paired (aS H n) xs ds)(b:n<=50)(q:Q (.bl (if neg then !(ds.any λe=>PyData.eqv e d)else ds.any λe=>PyData.eqv e d)) H):kn neg x (.ref p) H Q:=
 ⟨n,p,xs,d,ds,h1,rfl,h2,a,b,q⟩
end
end L2
namespace Tx
open PySem
abbrev aH(n:Int):Vn:=zY (toString n)
theorem qC{c:Nat}:∀{p q X Y:List Nat},c∉p->c∉q->p++c::X=q++c::Y->p=q/\X=Y
 | [],[],_,_,_,_,h=>⟨rfl,(List.cons.inj h).2⟩
 | [],b::q,_,_,_,d,h=>absurd (show c∈b::q by rw[(List.cons.inj h).1];exact zw) d
 | a::p,[],_,_,f,_,h=>absurd (show c∈a::p by rw[<-(List.cons.inj h).1];exact zw) f
 | a::p,b::q,_,_,f,d,h=>by obtain⟨e,h⟩:=List.cons.inj h;obtain⟨g,i⟩:=qC (λz=>f (zt _ z)) (λz=>d (zt _ z)) h;exact⟨by rw[e,g],i⟩
def gL(c:Nat)(p q:Vn)(r:List Vn):(Str.join ⟨#[c]⟩ (p::q::r)).cps.toList=p.cps.toList++c::(Str.join ⟨#[c]⟩ (q::r)).cps.toList:=by show((p++(⟨#[c]⟩:Vn))++Str.join ⟨#[c]⟩ (q::r)).cps.toList=_;rw[Str.cps_append,Str.cps_append];simp
def sE{p q:Vn}(h:p.cps.toList=q.cps.toList):p=q:=Str.ext' (Array.toList_inj.mp h)
theorem rX{c:Nat}:∀{ps a:List Vn},ps≠[]->a≠[]->(∀p∈ps,c∉p.cps.toList)->(∀q∈a,c∉q.cps.toList)->Str.join ⟨#[c]⟩ ps=Str.join ⟨#[c]⟩ a->ps=a
 | [],_,h,_,_,_,_=>absurd rfl h
 | _::_,[],_,h,_,_,_=>absurd rfl h
 | [p],[q],_,_,_,_,h=>by rw[show p=q from h]
 | [p],q::f::a,_,_,b,_,h=>by have e:p.cps.toList=_:=(congrArg (λz:Vn=>z.cps.toList) h).trans (gL c q f a);exact absurd (by rw[e];simp) (b p zw)
 | p::p2::ps,[q],_,_,_,d,h=>by have e:q.cps.toList=_:=(congrArg (λz:Vn=>z.cps.toList) h.symm).trans (gL c p p2 ps);exact absurd (by rw[e];simp) (d q zw)
 | p::p2::ps,q::f::a,_,_,b,d,h=>by have e:=(gL c p p2 ps).symm.trans ((congrArg (λz:Vn=>z.cps.toList) h).trans (gL c q f a));obtain⟨i,j⟩:=qC (b p zw) (d q zw) e;rw[sE i,rX (List.cons_ne_nil _ _) (List.cons_ne_nil _ _) (λz g=>b z (zt _ g)) (λz g=>d z (zt _ g)) (sE j)]
def ui{c:Nat}(a:ps≠[])(b:∀p∈ps,c∉p.cps.toList):Txt.split (Str.join ⟨#[c]⟩ ps) ⟨#[c]⟩=ps:=
 rX (λh=>by have:=PyProof.Rows.split_pos (Str.join ⟨#[c]⟩ ps) ⟨#[c]⟩;rw[h]at this;cases this) a (StrLaws.split_free _ c) b (StrLaws.join_split _ _)
def fQ(c:Nat)(ps:List Vn):Txt.join ⟨#[c]⟩ ps=Str.join ⟨#[c]⟩ ps:=StrLaws.glued_eq_join _ _
def hZ{n:Int}(h:0<=n){c:Nat}(a:c∈(aH n).cps.toList):48<=c/\c<=57:=by obtain⟨m,rfl⟩:=Int.eq_ofNat_of_zero_le h;rw[W.KIN.signs_num]at a;obtain⟨ch,hch,rfl⟩:=List.mem_map.mp a;exact PyProof.Rows.digit_range (Nat.isDigit_of_mem_toDigits (by decide) (by decide) hch)
def uX{n:Int}(h:0<=n):1<=(aH n).length:=by obtain⟨m,rfl⟩:=Int.eq_ofNat_of_zero_le h;have:(aH (m:Nat)).cps.toList.length=(aH (m:Nat)).length:=zu;rw[<-this,W.KIN.signs_num,zp];exact PyProof.Rows.tDigits_len_ge 10 m
def cq{n:Int}(h:0<=n)(a:n<1000000):(aH n).length<=6:=by obtain⟨m,rfl⟩:=Int.eq_ofNat_of_zero_le h;have:(aH (m:Nat)).cps.toList.length=(aH (m:Nat)).length:=zu;rw[<-this,W.KIN.signs_num,zp];exact PyProof.Rows.digits10_le (by decide) (show m<10 ^ 6 by omega)
def xx(m:Nat):1<=m->∀r,Nat.toDigits 10 m≠'0'::r:=by
 induction m using Nat.strongRecOn with
 | _ m b=>
  intro h1 r e;by_cases h:m<10
  .rw[Nat.toDigits_of_lt_base h]at e;have c:=(List.cons.inj e).1;have:∀d:Nat,d<10->1<=d->Nat.digitChar d≠'0':=by decide
   exact this m h h1 c
  .have f:m % 10<10:=Nat.mod_lt m (by decide);have t:Nat.toDigits 10 (m / 10)++Nat.toDigits 10 (m % 10)=Nat.toDigits 10 (10*(m / 10)+m % 10):=Nat.toDigits_append_toDigits (by decide) (by omega) f;rw[Nat.div_add_mod]at t;rw[<-t]at e;cases k:Nat.toDigits 10 (m / 10)with
   | nil=>have:=PyProof.Rows.tDigits_len_ge 10 (m / 10);rw[k]at this;cases this
   | cons a l=>
    rw[k]at e;have g:a='0':=(List.cons.inj e).1;exact b (m / 10) (by omega) (by omega) l (by rw[k,g])
def uM{n:Int}(h:0<=n):aH n=⟨#[48]⟩\/∀r,(aH n).cps.toList≠48::r:=by
 obtain⟨m,rfl⟩:=Int.eq_ofNat_of_zero_le h;by_cases b:m=0
 .subst b;exact .inl (by decide)
 .refine .inr λr e=>?_;rw[W.KIN.signs_num]at e;cases k:Nat.toDigits 10 m with
  | nil=>rw[k]at e;cases e
  | cons a l=>
   rw[k]at e;have c:a.toNat=48:=(List.cons.inj e).1;have:a='0':=Char.toNat_inj.mp c;exact xx m (by omega) l (by rw[k,this])
def kE{n:Int}(h:0<=n)(a:n<1000000):intText? (aH n)=Vo n:=W.KIN.num_reads h (by omega)
def rh{n:Int}(h:0<=n){c:Nat}(a:c<48\/57<c):c∉(aH n).cps.toList:=λz=>by have:=hZ h z;omega
end Tx
namespace St
end St
namespace St
end St
namespace St
end St
namespace St
end St
namespace St
end St
namespace Bfs
end Bfs
namespace Bfs
end Bfs
namespace Bfs
end Bfs
namespace My
open PySem L2 St
def stq (i : Nat) : Vl := PySem.Challenge.pw_stairrooms_k64_whole_desk_deeds.main.body.getD i (.Pass ⟨0, 0, 0, 0⟩)
local macro_rules|`(tactic| walk_at "cond") => `(tactic| first|decide|omega|(dsimp only; omega)|(unfold iM; omega)|(unfold sx; exact ⟨by decide, by decide, by decide⟩)|(dsimp only; exact ⟨by omega, by omega⟩)|exact .inr ⟨by decide, by decide⟩|exact .inl ⟨by decide, by decide⟩|(unfold SmallR; omega))
local macro_rules|`(tactic| walk_at"") => do
 let ts <- ("seq ret retN asg drop ifS next name var c op un CB cons nil ints test B exb not and or andV orV notV ifE yes I0 I U EqI NeI EqB NeB call BM tup lst sl noPart part exi chain comp iL iT i1 i2 i3 for tTru intB max2 min2 sub gcons gnil aug ipI zip rev par par2 lam calV raise fs try bseq bnext bplain bif bcall enum gget gin revL leS disp dget lrev disp1 din dnin dput min3 iS iD bm0 revS iD2 iLT thaw iD3 iDL dgt2 fs3 fs5 zipM fld sfld meth make calS basgM gget gin".splitOn " ").toArray.mapM λn =>
  let i := Lean.mkIdent (.mkSimple ("rd_" ++ n))
  if n == "var" || n == "aug" then `(tacticSeq| ((with_reducible apply $i); (exact rfl)))
  else if n == "I" then `(tacticSeq| ((with_reducible apply $i); (walk_at "cond")))
  else `(tacticSeq| with_reducible refine $i ?_)
 `(tactic| repeat (first $[| $ts]*|dsimp only))
def bC(H:Hp)(p:Vb)(kk:List (List Key)):Prop:=∃bs:List Vb,H p=Vo (.tup (bs.map V.ref))/\bs.length=kk.length/\∀(j:Nat) (b:Vb) (k:List Key),bs[j]?=Vo b->kk[j]?=Vo k->H b=Vo (.tup (k.map kV))
def bC.ext{H H':Hp}{p:Vb}{kk:List (List Key)}(e:Ext H H')(h:bC H p kk):bC H' p kk:=by obtain⟨bs,h1,h2,a⟩:=h;exact⟨bs,e _ _ h1,h2,λj b k c d=>e _ _ (a j b k c d)⟩
structure Blt(mg:Vn->Option Va):Prop where
 len_:mg "len" = Vp
 isinstance_:mg "isinstance" = Vp
 tuple_:mg "tuple" = Vp
 list_:mg "list" = Vp
 int_:mg "int" = Vp
 bool_:mg "bool" = Vp
 range_:mg "range" = Vp
 zip_:mg "zip" = Vp
 max_:mg "max" = Vp
 min_:mg "min" = Vp
 abs_:mg "abs" = Vp
 all_:mg "all" = Vp
 ValueError_:mg "ValueError" = Vp
 enumerate_:mg "enumerate" = Vp
 set_:mg "set" = Vp
 str_:mg "str" = Vp
 reversed_:mg "reversed" = Vp
 any_:mg "any" = Vp
 sorted_:mg "sorted" = Vp
abbrev cR:List Vn:=["Desk","Endless","NoDeed","NoHouse","NoLine","NoPlace","NoStair","NoText","NoWalk","NoWay","NotBare","StairError","TooGreat"]
abbrev cU:List Vn:=["NoPlace","NoWay","TooGreat","NoDeed","NoLine"]
def isInt:V->Bool
 | .int _=>true
 | _=>false
def vP{H:Hp}{v:V}{n:String}(h:fg H v n):∃b c,fL n "int" = Vo b/\fL n "bool" = Vo c/\(b && !c)=isInt v:=by
 cases v with
 | non=>cases(show n = "NoneType" from h);exact⟨_,_,rfl,rfl,rfl⟩
 | bl b=>cases(show n = "bool" from h);exact⟨_,_,rfl,rfl,rfl⟩
 | int i=>cases(show n = "int" from h);exact⟨_,_,rfl,rfl,rfl⟩
 | str z=>cases(show n = "str" from h);exact⟨_,_,rfl,rfl,rfl⟩
 | ref a=>rcases h with⟨rfl,xs,e⟩|⟨rfl,xs,e⟩<;>exact⟨_,_,rfl,rfl,rfl⟩
 | _=>exact False.elim h
def kP(K:zk):Sp:=λvs H Q _=>∃v n,vs=[v]/\fg H v n/\Q (.bl (isInt v)) H
abbrev lJ:Vl:=stq 16
def pC:FnScope ["thing"] ["thing"] (ay lJ):=⟨rfl,rfl,rfl,by decide +kernel,rfl,by decide +kernel,by decide +kernel⟩
def uR{P:Vd}{w:Ve}{K:zk}{mg:Vn->Option Va}{base:Vh}(D:Dfn K mg "is_whole" lJ ["thing"])(T:Blt mg):Cal P w K mg base "is_whole" 1 ["thing"] (kP K):=by
 have nd:=(pC).nd;refine D.ok pC (λvs H Q E h=>?_) (λX d H vs Q E h=>?_)
 .obtain⟨v,n,rfl,_⟩:=h;rfl
 .obtain⟨f,cdv,A,outer,s,H0,E0,rfl,hr⟩:=d;obtain⟨v,n,rfl,a,q⟩:=h;obtain⟨b,c,g,i,e⟩:=vP a;refine⟨_,(ao (ax (dn (aP el rfl T.isinstance_ PyProof.Rows.boot_isinstance (aa (pv 0) (aa (eo (v:=.ty "int") rfl T.int_ PyProof.Rows.boot_int rfl) ae))) (dM (yh (aP el rfl T.isinstance_ PyProof.Rows.boot_isinstance (aa (pv 0) (aa (eo (v:=.ty "bool") rfl T.bool_ PyProof.Rows.boot_bool rfl) ae)))))))),?_⟩;walk_at"";refine eR a g ?_;walk_at"";cases b with
  | false=>refine av ?_;rw[<-e]at q;exact q
  | true=>
   refine aw ?_;walk_at"";refine eR a i ?_;walk_at"";rw[<-e]at q;exact q
structure Way where
 room:Int
 deed:Vn
 other:Int
 sign:Vn
 deriving DecidableEq
abbrev Way.key(w:Way):List Key:=[.inl w.room,.inr w.deed,.inl w.other,.inr w.sign]
abbrev Way.vs(w:Way):List V:=[.int w.room,.str w.deed,.int w.other,.str w.sign]
variable {w:Way}{ws:List Way}{n ep:Nat}{a p l1 l2 f l3 t u la sp lb:Vb}{z nm:Vn}{H H' H0:Hp}{xs:List V}{Q:VK}{P:Vd}{mg:Vn->Option Va}{base:Vh}{st:Vl}
def Way.key_inj{u:Way}(h:w.key=u.key):w=u:=by cases w;cases u;simp only[Way.key,List.cons.injEq,Sum.inl.injEq,Sum.inr.injEq]at h;obtain⟨rfl,rfl,rfl,rfl,_⟩:=h;rfl
def fm(z:Vn):Prop:=∃c:Nat,97<=c/\c<=122/\z=⟨#[c]⟩
def cw(z:Vn):Prop:=z = "up"\/z = "down"\/z = "stay"\/z = "zero"
structure Way.Ok(m:Int)(w:Way):Prop where
 r0:0<=w.room
 r1:w.room<m
 o0:0<=w.other
 o1:w.other<m
 dd:cw w.deed
 sg:fm w.sign
structure HOuse(m:Int)(ws:List Way):Prop where
 m1:1<=m
 m12:m<=12
 few:ws.length<=100
 ok:∀w∈ws,w.Ok m
 nd:ws.Nodup
def HOuse.keys{m:Int}(h:HOuse m ws):(ws.map Way.key).Nodup:=by have:=h.nd;unfold List.Nodup at this ⊢;rw[List.pairwise_map];exact this.imp λne e=>ne (Way.key_inj e)
def bN(H:Hp)(v:V)(m:Int)(ws:List Way):Prop:=∃p q,v=.ref p/\H p=Vo (.tup [.int m,.ref q])/\bC H q (ws.map Way.key)
theorem bN.ext{H H':Hp}{v:V}{m:Int}{ws:List Way}(e:Ext H H')(h:bN H v m ws):bN H' v m ws:=by obtain⟨p,q,rfl,h1,h2⟩:=h;exact⟨p,q,rfl,e _ _ h1,h2.ext e⟩
def ee(h:n<=1000):n<=sizeLine:=zT h (by decide)
def kD(K:zk):Sp:=λvs H Q _=>∃i m,vs=[.int i,.int m]/\Q (.bl (decide (0<=i) && decide (i<m))) H
abbrev jH:Vl:=stq 32
def oO:FnScope ["thing","many"] ["thing","many"] (ay jH):=⟨rfl,rfl,rfl,by decide +kernel,rfl,by decide +kernel,by decide +kernel⟩
def yQ{P:Vd}{w:Ve}{K:zk}{mg:Vn->Option Va}{base:Vh}(D:Dfn K mg "is_room" jH ["thing","many"])(T:Blt mg)(a:Cal P w K mg base "is_whole" 1 ["thing"] (kP K)):Cal P w K mg base "is_room" 2 ["thing","many"] (kD K):=by
 have nd:=(oO).nd;refine D.ok oO (λvs H Q E h=>?_) (λX c H vs Q E h=>?_)
 .obtain⟨i,m,rfl,_⟩:=h;rfl
 .obtain⟨f,cdv,A,outer,s,H0,E0,rfl,hr⟩:=c;obtain⟨i,m,rfl,q⟩:=h;refine⟨_,(ao (ax (dn (aF a hr (aa (pv 0) ae)) (dM (iq ib fq af (pv 0) (pv 1)))))),?_⟩;walk_at"";refine⟨_,"int",rfl,rfl,?_⟩;refine rd_exb ?_;refine aw ?_;walk_at"";cases b:decide (0<=i)with
  | false=>
   rw[b]at q;refine av ?_;exact q
  | true=>
   rw[b]at q;refine aw ?_;walk_at"";exact q
def qI{i m:Int}(a:0<=i)(h1:i<m):(decide (0<=i) && decide (i<m))=true:=by rw[Ak a,Ak h1];rfl
def dj:List (Key×V):=[(.inr "up",.str "down"),(.inr "down",.str "up"),(.inr "stay",.str "stay"),(.inr "zero",.str "zero")]
def oF{w:Ve}{K:zk}{b c d f g i j k:Tok}(h:K.lookup a=Vo (cY w [("up",b,.str "down" c),("down",d,.str "up" f),("stay",g,.str "stay" i),("zero",j,.str "zero" k)] ep))(n:(a == sysModules)=false):GDict w K a dj:=
 ⟨⟨_,_,h,.cons ⟨rfl,⟨_,rfl⟩⟩ (.cons ⟨rfl,⟨_,rfl⟩⟩ (.cons ⟨rfl,⟨_,rfl⟩⟩ (.cons ⟨rfl,⟨_,rfl⟩⟩ .nil)))⟩,by decide +kernel,n⟩
def eS(z:Vn):Vn:=if z = "up" then "down" else if z = "down" then "up" else z
def lu(h:cw z):ba dj (.inr z)=Vo (.str (eS z)):=by rcases h with rfl|rfl|rfl|rfl<;>decide +kernel
def me(K:zk):Sp:=λvs H Q _=>∃z,vs=[.str z]/\cw z/\Q (.bl true) H
abbrev jF:Vl:=stq 33
def pT:FnScope ["thing"] ["thing"] (ay jF):=⟨rfl,rfl,rfl,by decide +kernel,rfl,by decide +kernel,by decide +kernel⟩
def vJ{P:Vd}{w:Ve}{K:zk}{mg:Vn->Option Va}{base:Vh}(D:Dfn K mg "is_deed" jF ["thing"])(T:Blt mg)(c:∃a,mg "TURNED" = Vo (.ref a)/\GDict w K a dj):Cal P w K mg base "is_deed" 1 ["thing"] (me K):=by
 have nd:=(pT).nd;refine D.ok pT (λvs H Q E h=>?_) (λX j H vs Q E h=>?_)
 .obtain⟨z,rfl,_⟩:=h;rfl
 .obtain⟨f,cdv,A,outer,s,H0,E0,rfl,hr⟩:=j;obtain⟨i,d,g⟩:=c;obtain⟨z,rfl,k,q⟩:=h;refine⟨_,(ao (ax (dn (aP el rfl T.isinstance_ PyProof.Rows.boot_isinstance (aa (pv 0) (aa (eo (v:=.ty "str") rfl T.str_ PyProof.Rows.boot_str rfl) ae))) (dM (wU (m6 rfl d g (pv 0)) (by with_unfolding_all rfl)))))),?_⟩;walk_at"";refine eR (n:="str") rfl (b:=true) rfl ?_;walk_at"";refine aw ?_;walk_at"";refine⟨.inr z,rfl,?_⟩;rw[lu k];exact q
def sR{c:Nat}(h:97<=c):(!decide (([c]:List Nat)<(zY "a").cps.toList))=true:=by
 have e:(zY "a").cps.toList=[97]:=by decide +kernel
 rw[e,Aj (λz=>by
  rw[List.cons_lt_cons_iff]at z;rcases z with z|⟨_,z⟩
  .omega
  .cases z)]
 rfl
def vC{c:Nat}(h:c<=122):(!decide ((zY "z").cps.toList<([c]:List Nat)))=true:=by
 have e:(zY "z").cps.toList=[122]:=by decide +kernel
 rw[e,Aj (λz=>by
  rw[List.cons_lt_cons_iff]at z;rcases z with z|⟨_,z⟩
  .omega
  .cases z)]
 rfl
def kL(K:zk):Sp:=λvs H Q _=>∃z,vs=[.str z]/\fm z/\Q (.bl true) H
abbrev lN:Vl:=stq 34
def rD:FnScope ["thing"] ["thing"] (ay lN):=⟨rfl,rfl,rfl,by decide +kernel,rfl,by decide +kernel,by decide +kernel⟩
def uj{P:Vd}{w:Ve}{K:zk}{mg:Vn->Option Va}{base:Vh}(D:Dfn K mg "is_sign" lN ["thing"])(T:Blt mg):Cal P w K mg base "is_sign" 1 ["thing"] (kL K):=by
 have nd:=(rD).nd;refine D.ok rD (λvs H Q E h=>?_) (λX g H vs Q E h=>?_)
 .obtain⟨z,rfl,_⟩:=h;rfl
 .obtain⟨f,cdv,A,outer,s,H0,E0,rfl,hr⟩:=g;obtain⟨z,rfl,⟨c,a,d,rfl⟩,q⟩:=h;refine⟨_,(ao (ax (dn (aP el rfl T.isinstance_ PyProof.Rows.boot_isinstance (aa (pv 0) (aa (eo (v:=.ty "str") rfl T.str_ PyProof.Rows.boot_str rfl) ae))) (dn (cc bE (aP lR rfl T.len_ PySem.boot_len (aa (pv 0) ae)) af (aC _)) (dM (iq qv qv ak (pv 0) ak)))))),?_⟩;walk_at"";refine eR (n:="str") rfl (b:=true) rfl ?_;walk_at"";refine aw ?_;walk_at"";refine⟨_,rfl,ee (show 1<=1000 by decide),?_⟩;walk_at"";refine aw ?_;walk_at"";rw[sR a];refine aw ?_;walk_at"";rw[vC d];exact q
def kM(h:H p=Vo (.tup xs)):fg H (.ref p) "tuple":=.inr ⟨rfl,xs,h⟩
def oi(K:zk):Sp:=λvs H Q _=>∃p w m,vs=[.ref p,.int m]/\H p=Vo (.tup (Way.vs w))/\w.Ok m/\Q (.bl true) H
abbrev ky:Vl:=stq 35
def pB:FnScope ["thing","many"] ["thing","many"] (ay ky):=⟨rfl,rfl,rfl,by decide +kernel,rfl,by decide +kernel,by decide +kernel⟩
def xl{P:Vd}{w:Ve}{K:zk}{mg:Vn->Option Va}{base:Vh}(D:Dfn K mg "is_way" ky ["thing","many"])(T:Blt mg)(c:Cal P w K mg base "is_sign" 1 ["thing"] (kL K))(d:Cal P w K mg base "is_deed" 1 ["thing"] (me K))(a:Cal P w K mg base "is_room" 2 ["thing","many"] (kD K)):Cal P w K mg base "is_way" 3 ["thing","many"] (oi K):=by
 have nd:=(pB).nd;refine D.ok pB (λvs H Q E h=>?_) (λX i H vs Q E h=>?_)
 .obtain⟨p,w,m,rfl,_⟩:=h;rfl
 .obtain⟨f,cdv,A,outer,s,H0,E0,rfl,hr⟩:=i;obtain⟨p,w,m,rfl,g,ok,q⟩:=h;refine⟨_,(ar (aO (PW.pt (dm (bX (bY (aP el rfl T.isinstance_ PyProof.Rows.boot_isinstance (aa (pv 0) (aa (eo (v:=.ty "tuple") rfl T.tuple_ PyProof.Rows.boot_tuple rfl) ae))))) (dI (aK jd (aP (bV K) rfl T.len_ PySem.boot_len (aa (pv 0) ae)) af (aC _))))) (ao (ax cF)) aL)
    (ar (aO (PW.pt (dm (bX (bY (aF a hr (aa (aj (aE K) (pv 0) af (λ_ _=>rfl)) (aa (pv 1) ae))))) (dI (bX (bY (aF a hr (aa (aj (aE K) (pv 0) af (λ_ _=>rfl)) (aa (pv 1) ae)))))))) (ao (ax cF)) aL)
    (ao (ax (dn (aF d hr (aa (aj (aE K) (pv 0) af (λ_ _=>rfl)) ae)) (dM (aF c hr (aa (aj (aE K) (pv 0) af (λ_ _=>rfl)) ae)))))))),?_⟩
  walk_at"";refine eR (kM g) (b:=true) rfl ?_;walk_at"";refine av ?_;walk_at"";refine dQ (ah.of g) ?_;walk_at"";refine av ?_;walk_at"";refine aG (ah.of g) (v:=.int w.room) rfl ?_;walk_at"";refine⟨_,_,rfl,?_⟩;rw[qI ok.r0  ok.r1];walk_at"";refine av ?_;walk_at"";refine aG (ah.of g) (v:=.int w.other) rfl ?_;walk_at"";refine⟨_,_,rfl,?_⟩;rw[qI ok.o0  ok.o1];walk_at"";refine av ?_;walk_at"";refine aG (ah.of g) (v:=.str w.deed) rfl ?_;walk_at"";refine⟨_,rfl,ok.dd,?_⟩;walk_at"";refine aw ?_;walk_at"";refine aG (ah.of g) (v:=.str w.sign) rfl ?_;walk_at"";exact⟨_,rfl,ok.sg,q⟩
def bC.item{bs:List Vb}(h:∀(j:Nat) (b:Vb) (k:List Key),bs[j]?=Vo b->(ws.map Way.key)[j]?=Vo k->H b=Vo (.tup (k.map kV))){j:Nat}{b:Vb}(a:bs[j]?=Vo b)(c:ws[j]?=Vo w):H b=Vo (.tup w.vs):=
 h j b w.key a (by rw[zr,c];rfl)
def nK(K:zk):Sp:=λvs H Q _=>∃q ws m,vs=[.ref q,.int m]/\bC H q (ws.map Way.key)/\HOuse m ws/\∀H',Ext H H'->Q (.bl true) H'
abbrev kh:Vl:=stq 36
def rP:FnScope ["thing","many"] ["thing","many"] (ay kh):=⟨rfl,rfl,rfl,by decide +kernel,rfl,by decide +kernel,by decide +kernel⟩
def xR{P:Vd}{w:Ve}{K:zk}{mg:Vn->Option Va}{base:Vh}(D:Dfn K mg "are_ways" kh ["thing","many"])(T:Blt mg)(a:∃t,mg "GREATEST_WAYS" = Vo (.int 100 t))(d:Cal P w K mg base "is_way" 3 ["thing","many"] (oi K)):Cal P w K mg base "are_ways" 4 ["thing","many"] (nK K):=by
 have nd:=(rP).nd;refine D.ok rP (λvs H Q E h=>?_) (λX B H vs Q E h=>?_)
 .obtain⟨p,w,m,rfl,_⟩:=h;rfl
 .obtain⟨f,cdv,A,outer,s,H0,E0,rfl,hr⟩:=B;obtain⟨g,c⟩:=a;obtain⟨q,ws,m,rfl,n,ok,C⟩:=h;obtain⟨bs,h1,h2,F⟩:=id n;rw[zp]at h2;have o:=ok.few;refine⟨_,(ar (aO (PW.pt (dm (bX (bY (aP el rfl T.isinstance_ PyProof.Rows.boot_isinstance (aa (pv 0) (aa (eo (v:=.ty "tuple") rfl T.tuple_ PyProof.Rows.boot_tuple rfl) ae))))) (dI (aK eQ (aP (bV K) rfl T.len_ PySem.boot_len (aa (pv 0) ae)) (bQ (v:=.int 100) rfl c ⟨_,rfl⟩) (aC _))))) (ao (ax cF)) aL)
    (ao (ax (dn (aP (kz K rfl) rfl T.all_ PyProof.Rows.boot_all (aa (eh ["way"] [1] (fh K (pv 0)) (λ_=>(aT (i:=0) (show(["way","many"]:List Vn).Nodup from by decide +kernel) rfl (Or.inl rfl) (Or.inr rfl))) (λ_=>eJ) (λ_=>(aF d hr (aa (pv 0) (aa (pv 1) ae))))) ae)) (dM (cc bE (aP Og.call_lenSet rfl T.len_ PySem.boot_len (aa (bt (Og.call_setT hr) rfl T.set_ PyProof.Rows.boot_set (aa (pv 0) ae)) ae)) (aP (bV K) rfl T.len_ PySem.boot_len (aa (pv 0) ae)) (aC _))))))),?_⟩
  walk_at"";refine eR (kM h1) (b:=true) rfl ?_;walk_at"";refine av ?_;walk_at"";refine dQ (ah.of h1) ?_;walk_at"";rw[Aj (show ¬((100:Int)<((bs.map V.ref).length:Nat)) by rw[zp];omega)];refine av ?_;walk_at"";refine eY (ah.of h1) ?_;refine ft (xs:=bs.map V.ref) (λi ys H'=>Ext H H'/\ys=(Ac i true).map V.bl) (ee (by rw[zp];omega)) ⟨λ_ _ z=>z,rfl⟩ (λi ys H' hi h=>⟨ah.of (h.1 _ _ h1),by rw[h.2];simp⟩) ?_ ?_
  .rintro i x ys H' r ⟨e,rfl⟩;rw[zr]at r;obtain⟨b,u,rfl⟩:=zC.mp r;have hi:i<ws.length:=by rw[<-h2];exact(zy.mp u).1
   have j:ws[i]?=Vo ws[i]:=zq hi;walk_at"";refine aw ?_;walk_at"";refine⟨b,ws[i],m,rfl,e _ _ (bC.item F u j),ok.ok _ (zP hi),e,?_⟩;rw[List.replicate_succ',zG];rfl
  .rintro ys H' p ⟨e,rfl⟩ G;walk_at"";have k:Ext H (upd H' p (.lst ((Ac (bs.map V.ref).length true).map V.bl))):=e.trans (bF G);refine⟨p,Ac (bs.map V.ref).length true,rfl,ag.of aI,?_⟩;rw[show (Ac (bs.map V.ref).length true).all id=true by simp];walk_at"";refine aw ?_;walk_at"";refine Og.rd_setOf (n.ext k) ok.keys (by rw[zp];omega) λl H2 y hl=>?_;walk_at"";refine Og.rd_lenSet hl (by rw[zp];omega) ?_;walk_at"";refine dQ (ah.of ((k.trans y) _ _ h1)) ?_;walk_at"";rw[show decide (((((ws.map Way.key).length:Nat):Int))=((bs.map V.ref).length:Nat))=true by rw[zp,zp,h2];simp];exact C _ (k.trans y)
def sr(K:zk):Sp:=λvs H Q _=>∃v m ws,vs=[v]/\bN H v m ws/\HOuse m ws/\∀H',Ext H H'->Q (.bl true) H'
abbrev jM:Vl:=stq 37
def pf:FnScope ["thing"] ["thing"] (ay jM):=⟨rfl,rfl,rfl,by decide +kernel,rfl,by decide +kernel,by decide +kernel⟩
def uH{P:Vd}{w:Ve}{K:zk}{mg:Vn->Option Va}{base:Vh}(D:Dfn K mg "is_house" jM ["thing"])(T:Blt mg)(a:∃t,mg "GREATEST_MANY" = Vo (.int 12 t))(d:Cal P w K mg base "are_ways" 4 ["thing","many"] (nK K))(g:Cal P w K mg base "is_whole" 1 ["thing"] (kP K)):Cal P w K mg base "is_house" 5 ["thing"] (sr K):=by
 have nd:=(pf).nd;refine D.ok pf (λvs H Q E h=>?_) (λX j H vs Q E h=>?_)
 .obtain⟨p,w,m,rfl,_⟩:=h;rfl
 .obtain⟨f,cdv,A,outer,s,H0,E0,rfl,hr⟩:=j;obtain⟨i,c⟩:=a;obtain⟨v,m,ws,rfl,⟨p,r,rfl,h1,h2⟩,ok,q⟩:=h;have m1:=ok.m1;have k:=ok.m12;refine⟨_,(ar (aO (PW.pt (dm (bX (bY (aP el rfl T.isinstance_ PyProof.Rows.boot_isinstance (aa (pv 0) (aa (eo (v:=.ty "tuple") rfl T.tuple_ PyProof.Rows.boot_tuple rfl) ae))))) (dI (aK jd (aP (bV K) rfl T.len_ PySem.boot_len (aa (pv 0) ae)) af (aC _))))) (ao (ax cF)) aL)
    (ao (ax (dn (aF g hr (aa (aj (aE K) (pv 0) af (λ_ _=>rfl)) ae)) (dn (iq ib ib af (aj (aE K) (pv 0) af (λ_ _=>rfl)) (bQ (v:=.int 12) rfl c ⟨_,rfl⟩)) (dM (aF d hr (aa (aj (aE K) (pv 0) af (λ_ _=>rfl)) (aa (aj (aE K) (pv 0) af (λ_ _=>rfl)) ae))))))))),?_⟩
  walk_at"";refine eR (kM h1) (b:=true) rfl ?_;walk_at"";refine av ?_;walk_at"";refine dQ (ah.of h1) ?_;walk_at"";refine av ?_;walk_at"";refine aG (ah.of h1) (v:=.int m) rfl ?_;walk_at"";refine⟨_,"int",rfl,rfl,?_⟩;refine rd_exb (aw ?_);walk_at"";refine aG (ah.of h1) (v:=.int m) rfl ?_;walk_at"";rw[Ak m1];refine aw ?_;walk_at"";rw[Ak k];refine aw ?_;walk_at"";refine aG (ah.of h1) (v:=.ref r) rfl ?_;walk_at"";refine aG (ah.of h1) (v:=.int m) rfl ?_;walk_at"";exact⟨r,ws,m,rfl,h2,ok,q⟩
def lH(K:zk):Sp:=λvs H Q _=>∃v m ws,vs=[v]/\bN H v m ws/\HOuse m ws/\∀H',Ext H H'->Q .non H'
abbrev jz:Vl:=stq 38
def oM:FnScope ["thing"] ["thing"] (ay jz):=⟨rfl,rfl,rfl,by decide +kernel,rfl,by decide +kernel,by decide +kernel⟩
def wo{P:Vd}{w:Ve}{K:zk}{mg:Vn->Option Va}{base:Vh}(D:Dfn K mg "refuse_no_house" jz ["thing"])(T:Blt mg)(a:Cal P w K mg base "is_house" 5 ["thing"] (sr K)):Cal P w K mg base "refuse_no_house" 6 ["thing"] (lH K):=by
 have nd:=(oM).nd;refine D.ok oM (λvs H Q E h=>?_) (λX b H vs Q E h=>?_)
 .obtain⟨p,w,m,rfl,_⟩:=h;rfl
 .obtain⟨f,cdv,A,outer,s,H0,E0,rfl,hr⟩:=b;obtain⟨v,m,ws,rfl,h1,ok,q⟩:=h;refine⟨_,(ao (aO (bX (bY (aF a hr (aa (pv 0) ae)))) (ao uw) aL)),?_⟩;walk_at"";refine⟨v,m,ws,rfl,h1,ok,λH' e=>?_⟩;refine rd_exb (av ?_);walk_at"";exact q H' e
def bb(h:n<=1000000):n<=sizeLine:=zT h (by decide)
def au{o:HO}(h:∀p H',Ext H H'->H' p=Vo o->H p=Vp->Q (.ref p) H')(a:xs.length<=1000000:=by simp):xs.length<=sizeLine/\fD H o Q:=⟨bb a,cE h⟩
def sf(K:zk):Sp:=λvs H Q _=>∃(a:Vb) (ns:List Int) (k:Int),vs=[.ref a,.int k]/\ag K H a (ns.map V.int)/\ns.length<=63/\0<=k/\∀z,Q (.int z) H
def sJ{ns:List Int}{i:Int}(a:0<=i)(h:i<ns.length):∃z,cn (ns.map V.int) i=Vo (.int z)/\ns[i.toNat]?=Vo z:=by
 have hi:i.toNat<ns.length:=by omega
 refine⟨ns[i.toNat],xp a ?_,zq hi⟩;rw[zr,zq hi];rfl
abbrev kr:Vl:=stq 126
def pN:FnScope ["_law_script","_law_k"] ["_law_script","_law_k"] (ay kr):=⟨rfl,rfl,rfl,by decide +kernel,rfl,by decide +kernel,by decide +kernel⟩
def sL{P:Vd}{w:Ve}{K:zk}{mg:Vn->Option Va}{base:Vh}(D:Dfn K mg "_law_cell" kr ["_law_script","_law_k"])(T:Blt mg):Cal P w K mg base "_law_cell" 1 ["_law_script","_law_k"] (sf K):=by
 have nd:=(pN).nd;refine D.ok pN (λvs H Q E h=>?_) (λX i H vs Q E h=>?_)
 .obtain⟨a,ns,k,rfl,_⟩:=h;rfl
 .obtain⟨f,cdv,A,outer,s,H0,E0,rfl,hr⟩:=i;obtain⟨a,ns,k,rfl,b,hl,j,q⟩:=h;refine⟨_,(ar (aO (aK bE (aP (bV K) rfl T.len_ PySem.boot_len (aa (pv 0) ae)) af (aC _)) (ao (ax (aA er af (aA cu (pv 1) af)))) aL)
    (ar (aO (aK fq (pv 1) (aP (bV K) rfl T.len_ PySem.boot_len (aa (pv 0) ae)) (aC _)) (ao (ax (aj (aD K) (pv 0) (pv 1) (λ_ _=>rfl)))) aL)
    (ao (ax (aA cu (aj (aD K) (pv 0) (aA cP (pv 1) (aP (bV K) rfl T.len_ PySem.boot_len (aa (pv 0) ae))) (λ_ _=>rfl)) (aA er af (pv 1))))))),?_⟩
  walk_at"";refine dw b ?_;walk_at"";rw[zp];by_cases d:(ns.length:Int)=0
  .rw[Ak d];refine aw ?_;walk_at"";exact q _
  .rw[Aj d];refine av ?_;walk_at"";refine dw b ?_;walk_at"";rw[zp];by_cases h1:k<ns.length
   .rw[Ak h1];refine aw ?_;obtain⟨z,c,_⟩:=sJ j h1;walk_at"";refine az b c ?_;exact q _
   .rw[Aj h1];refine av ?_;walk_at"";refine dw b ?_;rw[zp];have g:(0:Int)<ns.length:=by omega
    refine rd_I g ?_;obtain⟨z,c,_⟩:=sJ (ns:=ns) (Int.emod_nonneg k (by omega)) (Int.emod_lt_of_pos k g);refine az b c ?_;walk_at"";exact q _
def qr(K:zk):Sp:=λvs H Q _=>∃c k p,vs=[.int c,.int k,.int p]/\0<=k/\k<100000/\0<p/\∀z,0<=z->z<p->Q (.int z) H
abbrev kJ:Vl:=stq 127
def mX:FnScope ["_law_cell_here","_law_k","_law_prime","_law_far"] ["_law_cell_here","_law_k","_law_prime"] (ay kJ):=⟨rfl,rfl,rfl,by decide +kernel,rfl,by decide +kernel,by decide +kernel⟩
def vX{P:Vd}{w:Ve}{K:zk}{mg:Vn->Option Va}{base:Vh}(D:Dfn K mg "_law_mixed" kJ ["_law_cell_here","_law_k","_law_prime"])(T:Blt mg):Cal P w K mg base "_law_mixed" 1 ["_law_cell_here","_law_k","_law_prime"] (qr K):=by
 have nd:=(mX).nd;refine D.ok mX (λvs H Q E h=>?_) (λX a H vs Q E h=>?_)
 .obtain⟨c,k,p,rfl,_⟩:=h;rfl
 .obtain⟨f,cdv,A,outer,s,H0,E0,rfl,hr⟩:=a;obtain⟨c,k,p,rfl,g,b,d,q⟩:=h;refine⟨_,(ar (bj (i:=3) nd rfl (Or.inl rfl) (aA cP (aA er (aA cu (aA cu (aA cu (pv 0) (aA er (aA er af (pv 1)) (pv 1))) (aA er af (pv 1))) af) af) af))
    (ar (bj (i:=3) nd rfl (Or.inl rfl) (aA cP (aA er (pv 3) (pv 3)) af))
    (ao (ax (aA cP (aA er (pv 3) af) (pv 2)))))),?_⟩
  walk_at"";exact q _ (Int.emod_nonneg _ (by omega)) (Int.emod_lt_of_pos _ d)
def iU{H2:Hp}{q:Vb}{o:HO}(e:Ext H H2)(c:H q=Vp):Ext H (upd H2 q o):=λb u a=>by rw[aq (bZ a c)];exact e b u a
def iA(K:zk):Sp:=λvs H Q _=>∃(c:Int) (w:Vb) (ws:List Int) (p:Int),vs=[.int c,.ref w,.int p]/\H w=Vo (.lst (ws.map V.int))/\(∀x∈ws,0<x/\x<2 ^ 40)/\ws.length<=10000/\0<p ∧
 ∀(q:Vb) (ds:List Int) (H':Hp),Ext H H'->H' q=Vo (.lst (ds.map V.int))->H q=Vp->ds.length=ws.length->(∀(i:Nat) d x,ds[i]?=Vo d->ws[i]?=Vo x->0<=d/\d<x)->Q (.ref q) H'
def kC{K:zk}{c:Int}{w:Vb}{p:Int}{xe:XK}(ws:List Int)(h1:H w=Vo (.lst (ws.map V.int)))(h2:∀x∈ws,0<x/\x<2 ^ 40)(a:ws.length<=10000)(b:0<p)
  (k:∀(q:Vb) (ds:List Int) (H':Hp),Ext H H'->H' q=Vo (.lst (ds.map V.int))->H q=Vp->ds.length=ws.length->(∀(i:Nat) d x,ds[i]?=Vo d->ws[i]?=Vo x->0<=d/\d<x)->Q (.ref q) H'):iA K [.int c,.ref w,.int p] H Q xe:=⟨c,w,ws,p,rfl,h1,h2,a,b,k⟩
abbrev kT:Vl:=stq 128
def rJ:FnScope ["_law_cell_here","_law_widths","_law_prime","_law_left","_law_found","_law_k"] ["_law_cell_here","_law_widths","_law_prime"] (ay kT):=⟨rfl,rfl,rfl,by decide +kernel,rfl,by decide +kernel,by decide +kernel⟩
def wN{P:Vd}{w:Ve}{K:zk}{mg:Vn->Option Va}{base:Vh}(D:Dfn K mg "_law_draws" kT ["_law_cell_here","_law_widths","_law_prime"])(T:Blt mg)(a:Cal P w K mg base "_law_mixed" 1 ["_law_cell_here","_law_k","_law_prime"] (qr K)):Cal P w K mg base "_law_draws" 2 ["_law_cell_here","_law_widths","_law_prime"] (iA K):=by
 have nd:=(rJ).nd;refine D.ok rJ (λvs H Q E h=>?_) (λX M H vs Q E h=>?_)
 .obtain⟨c,w,ws,p,rfl,_⟩:=h;rfl
 .obtain⟨f,cdv,A,outer,s,H0,E0,rfl,hr⟩:=M;obtain⟨c,w,ws,p,rfl,F,y,hlen,N,q⟩:=h;refine⟨_,(ar (bj (i:=3) nd rfl (Or.inl rfl) af)
    (ar (eW (aK ia (pv 0) (aA gR af af) (aC _)) (ao (bj (i:=3) nd rfl (Or.inl rfl) (aA kA (pv 0) (aA gR af af)))) aL)
    (ar (bj (i:=4) nd rfl (Or.inl rfl) (bA ae))
    (ar (iK PassesOwn.never rfl (qu rfl T.range_ (aa (aP (bV K) rfl T.len_ PySem.boot_len (aa (pv 1) ae)) ae)) (aT (i:=5) nd rfl (Or.inl rfl)) (ao (eW (aK eQ (pv 3) af (aC _)) (ar (cL (cN K zx zK zL fS (pv 4) (aa (aA cP (pv 3) (aj (aD K) (pv 1) (pv 5) (λ_ _=>rfl))) ae)))
    (ao (bj (i:=3) nd rfl (Or.inl rfl) (aA sC (pv 3) (aj (aD K) (pv 1) (pv 5) (λ_ _=>rfl)))))) (ao (cL (cN K zx zK zL fS (pv 4) (aa (aA cP (aF a hr (aa (pv 0) (aa (pv 5) (aa (pv 2) ae)))) (aj (aD K) (pv 1) (pv 5) (λ_ _=>rfl))) ae)))))))
    (ao (ax (pv 4))))))),?_⟩
  walk_at"";refine dh (λB H'=>H'=H/\∃l,B=[Vo (.int c),Vo (.ref w),Vo (.int p),Vo (.int l),Vp,Vp]) ?_ ?_
  .walk_at"";refine eM (λh=>?_) (λh=>?_)
   .walk_at"";exact⟨rfl,_,rfl⟩
   .walk_at"";exact⟨rfl,_,rfl⟩
  rintro B H' ⟨rfl,l,rfl⟩;walk_at"";refine au λf H1 L O g=>?_;walk_at"";refine dw (ag.of (L _ _ F)) ?_;rw[zp];walk_at"";refine mT (by omega) ?_;refine forR (λi σ H2=>Ext H' H2/\∃(l:Int) (k:Option V) (ds:List Int),σ=[Vo (.int c),Vo (.ref w),Vo (.int p),Vo (.int l),Vo (.ref f),k]/\H2 f=Vo (.lst (ds.map V.int))/\ds.length=i/\∀(i:Nat) d x,ds[i]?=Vo d->ws[i]?=Vo x->0<=d/\d<x)
   ⟨L,l,Vp,[],rfl,O,rfl,λi d x hd=>by simp at hd⟩ ?_ ?_
  .rintro i σ H2 hi ⟨o,l,k,ds,rfl,b,n,G⟩;rw[zD]at hi;have C:ws[i]?=Vo ws[i]:=zq hi;have W:=y ws[i] (zP hi);have r:cn (ws.map V.int) (0+(i:Int))=Vo (.int ws[i]):=by rw[Int.zero_add];exact bf (by rw[zr,C];rfl)
   have next:∀d,0<=d->d<ws[i]->∀(j:Nat) (v x:Int),(ds++[d])[j]?=Vo v->ws[j]?=Vo x->0<=v/\v<x:=λd R h1 j v x t u=>by
    rcases Nat.lt_or_ge j ds.length with h|h
    .rw[zO h]at t;exact G j v x t u
    .rw[zN h]at t;have I:j-ds.length=0:=by
      rcases Nat.eq_zero_or_pos (j-ds.length)with h|h
      .exact h
      .rw[List.getElem?_eq_none (by simp;omega)]at t;cases t
     rw[I]at t;have J:j=i:=by omega
     subst J;rw[C]at u;cases u;have:d=v:=by simpa using t
     rw[<-this];exact⟨R,h1⟩
   walk_at"";refine w8 ?_;walk_at"";refine eM (λh=>?_) (λh=>?_)
   .have h':1<l:=by simpa using h
    walk_at"";refine⟨dC (ag.of b),?_⟩;walk_at"";refine az (ag.of (o _ _ F)) r ?_;refine rd_I (show 0<ws[i] by omega) ?_;walk_at"";refine f6 b (by rw[zp];exact Nat.lt_of_le_of_lt (show ds.length<=10000 by omega) (by decide)) ?_;walk_at"";refine az (ag.of (iU o g _ _ F)) r ?_;refine rd_I (show 0<ws[i]/\ws[i]<2 ^ 64 by omega) ?_;walk_at"";refine⟨iU o g,_,_,ds++[l % ws[i]],rfl,?_,by rw[zH,n];rfl,next _ (Int.emod_nonneg _ (by omega)) (Int.emod_lt_of_pos _ (by omega))⟩;rw[aI,zG];rfl
   .walk_at"";refine⟨dC (ag.of b),?_⟩;walk_at"";refine⟨c,0+(i:Int),p,rfl,by omega,by omega,N,λz S U=>?_⟩;walk_at"";refine az (ag.of (o _ _ F)) r ?_;refine rd_I (show 0<ws[i] by omega) ?_;walk_at"";refine f6 b (by rw[zp];exact Nat.lt_of_le_of_lt (show ds.length<=10000 by omega) (by decide)) ?_;walk_at"";refine⟨iU o g,_,_,ds++[z % ws[i]],rfl,?_,by rw[zH,n];rfl,next _ (Int.emod_nonneg _ (by omega)) (Int.emod_lt_of_pos _ (by omega))⟩;rw[aI,zG];rfl
  .rintro σ H2 ⟨o,l,k,ds,rfl,b,n,G⟩;walk_at"";exact q f ds H2 o b g (by rw[n,zD]) G
def nV(K:zk):Sp:=λvs H Q _=>∃c w,vs=[.int c,.int w]/\0<w/\w<2 ^ 64/\∀z,Q (.int z) H
abbrev lO:Vl:=stq 129
def pO:FnScope ["_law_cell_here","_law_width"] ["_law_cell_here","_law_width"] (ay lO):=⟨rfl,rfl,rfl,by decide +kernel,rfl,by decide +kernel,by decide +kernel⟩
def tG{P:Vd}{w:Ve}{K:zk}{mg:Vn->Option Va}{base:Vh}(D:Dfn K mg "_law_spare" lO ["_law_cell_here","_law_width"])(T:Blt mg):Cal P w K mg base "_law_spare" 1 ["_law_cell_here","_law_width"] (nV K):=by
 have nd:=(pO).nd;refine D.ok pO (λvs H Q E h=>?_) (λX a H vs Q E h=>?_)
 .obtain⟨c,w,rfl,_⟩:=h;rfl
 .obtain⟨f,cdv,A,outer,s,H0,E0,rfl,hr⟩:=a;obtain⟨c,w,rfl,h1,h2,q⟩:=h;refine⟨_,(ar (aO (aK ia (pv 0) (aA gR af af) (aC _)) (ao (ax (aA cu (aA sC (aA kA (pv 0) (aA gR af af)) (pv 1)) (aA gR af af)))) aL)
    (ao (ax (aA cu (pv 0) af)))),?_⟩
  walk_at"";refine eM (λh=>?_) (λh=>?_)
  .walk_at"";exact q _
  .walk_at"";exact q _
def bu(H:Hp)(bs:List Vb)(ws:List Way):Prop:=bs.length=ws.length/\∀(j:Nat) (b:Vb) (w:Way),bs[j]?=Vo b->ws[j]?=Vo w->H b=Vo (.tup w.vs)
def bu.ext{bs:List Vb}(e:Ext H H')(h:bu H bs ws):bu H' bs ws:=⟨h.1,λj b w a c=>e _ _ (h.2 j b w a c)⟩
def bu.nil(H:Hp):bu H [] []:=⟨rfl,λj b w e=>by simp at e⟩
def bu.snoc{bs:List Vb}{b:Vb}(h:bu H bs ws)(g:H b=Vo (.tup w.vs)):bu H (bs++[b]) (ws++[w]):=by
 refine⟨by simp[h.1],λj i n a c=>?_⟩;rcases Nat.lt_or_ge j bs.length with d|d
 .rw[zO d]at a;rw[zO (by rw[<-h.1];exact d)]at c;exact h.2 j i n a c
 .rw[zN d]at a;rw[zN (by rw[<-h.1];exact d),<-h.1]at c;cases f:j-bs.length with
  | zero=>
   rw[f]at a c;cases a;cases c;exact g
  | succ k=>rw[f]at a;simp at a
def bu.ways{bs:List Vb}(h:bu H bs ws)(c:H p=Vo (.tup (bs.map V.ref))):bC H p (ws.map Way.key):=
 ⟨bs,c,by rw[zp];exact h.1,λj b k d a=>by rw[zr]at a;obtain⟨w,f,rfl⟩:=zC.mp a;exact h.2 j b w d f⟩
def bC.al(h:bC H p (ws.map Way.key)):∃bs:List Vb,H p=Vo (.tup (bs.map V.ref))/\bu H bs ws:=by obtain⟨bs,h1,h2,a⟩:=h;rw[zp]at h2;exact⟨bs,h1,h2,λj b w c d=>bC.item a c d⟩
abbrev Way.D(w:Way):PyData:=.tuple [.int w.room,.str w.deed,.int w.other,.str w.sign]
structure Way.Lay(w:Way):Prop where
 d:(PyData.str w.deed).canLay0=true
 s:(PyData.str w.sign).canLay0=true
def rL:∀c:Fin 123,97<=c.1->(PyData.str ⟨#[c.1]⟩).canLay0=true:=by decide +kernel
def Way.Ok.lay{m:Int}(h:w.Ok m):w.Lay:=by
 constructor
 .rcases h.dd with e|e|e|e<;>rw[e]<;>decide +kernel
 .obtain⟨c,h1,h2,e⟩:=h.sg;rw[e];exact rL ⟨c,Nat.lt_succ_of_le h2⟩ h1
def Way.rep{b:Vb}(h:H b=Vo (.tup w.vs))(l:w.Lay):aS H 1 (.ref b) w.D:=
 .inr ⟨b,w.vs,_,rfl,.inl ⟨h,rfl⟩,.cons rfl (.cons ⟨rfl,l.d⟩ (.cons rfl (.cons ⟨rfl,l.s⟩ .nil)))⟩
theorem Way.eqv(w u:Way):PyData.eqv w.D u.D=decide (w=u):=by
 simp only[PyData.eqv,PyData.eqvAll];by_cases h:w=u
 .subst h;simp
 .rw[Aj h];obtain⟨a,b,c,d⟩:=w;obtain⟨g,i,c',j⟩:=u;simp only[Way.mk.injEq,not_and]at h;simp only[Bool.and_true,Bool.and_eq_false_iff,beq_eq_false_iff_ne];by_cases h1:a=g
  .by_cases h2:b=i
   .by_cases f:c=c'
    .exact .inr (.inr (.inr (h h1 h2 f)))
    .exact .inr (.inr (.inl f))
   .exact .inr (.inl h2)
  .exact .inl h1
theorem bu.reps{H:Hp}:∀{bs:List Vb} {ws:List Way},bu H bs ws->(∀w∈ws,w.Lay)->Paired (aS H 1) (bs.map V.ref) (ws.map Way.D)
 | [],[],_,_=>.nil
 | [],_::_,h,_=>by cases h.1
 | _::_,[],h,_=>by cases h.1
 | b::bs,w::ws,h,l=>.cons (Way.rep (h.2 0 b w rfl rfl) (l w zw)) (bu.reps ⟨Nat.succ.inj h.1,λj b w a c=>h.2 (j+1) b w a c⟩ λu d=>l u (zt _ d))
def ip(ws:List Way)(w:Way):((ws.map Way.D).any λe=>PyData.eqv e w.D)=decide (w∈ws):=by
 rw[List.any_map];induction ws with
 | nil=>rfl
 | cons u ws a=>
  rw[List.any_cons,a,Function.comp_apply,Way.eqv];by_cases h:w∈ws
  .simp[h]
  .by_cases e:u=w
   .simp[e]
   .have:¬w=u:=λz=>e z.symm;simp[h,e,this]
def bN.mk{q:Vb}{m:Int}(h1:H p=Vo (.tup [.int m,.ref q]))(h2:bC H q (ws.map Way.key)):bN H (.ref p) m ws:=⟨p,q,rfl,h1,h2⟩
def Way.turn(w:Way):Way:=⟨w.other,eS w.deed,w.room,w.sign⟩
def uK(h:cw z):cw (eS z):=by
 rcases h with rfl|rfl|rfl|rfl
 .exact .inr (.inl (by decide +kernel))
 .exact .inl (by decide +kernel)
 .exact .inr (.inr (.inl (by decide +kernel)))
 .exact .inr (.inr (.inr (by decide +kernel)))
def tO(h:cw z):eS (eS z)=z:=by rcases h with rfl|rfl|rfl|rfl<;>decide +kernel
def Way.turn_turn{m:Int}(h:w.Ok m):w.turn.turn=w:=by obtain⟨a,b,c,d⟩:=w;show(⟨a,eS (eS b),c,d⟩:Way)=_;rw[tO h.dd]
theorem Way.Ok.turn{m:Int}{w:Way}(h:w.Ok m):w.turn.Ok m:=⟨h.o0,h.o1,h.r0,h.r1,uK h.dd,h.sg⟩
theorem HOuse.turn{m:Int}{ws:List Way}(h:HOuse m ws):HOuse m (ws.map Way.turn) where
 m1:=h.m1
 m12:=h.m12
 few:=by rw[zp];exact h.few
 ok:=λw c=>by obtain⟨u,d,rfl⟩:=List.mem_map.mp c;exact(h.ok u d).turn
 nd:=by have nd:=h.nd;unfold List.Nodup at nd ⊢;rw[List.pairwise_map];refine nd.imp_of_mem λ{a b} f g ne e=>ne ?_;rw[<-Way.turn_turn (h.ok a f),<-Way.turn_turn (h.ok b g),e]
def nY(K:zk):Sp:=λvs H Q _=>∃p w,vs=[.ref p]/\H p=Vo (.tup (Way.vs w))/\cw w.deed/\∀v H',Ext H H'->H' v=Vo (.tup (Way.vs w.turn))->Q (.ref v) H'
abbrev ka:Vl:=stq 40
def rQ:FnScope ["way"] ["way"] (ay ka):=⟨rfl,rfl,rfl,by decide +kernel,rfl,by decide +kernel,by decide +kernel⟩
def yp{P:Vd}{w:Ve}{K:zk}{mg:Vn->Option Va}{base:Vh}(D:Dfn K mg "turned_way" ka ["way"])(T:Blt mg)(b:∃a,mg "TURNED" = Vo (.ref a)/\GDict w K a dj):Cal P w K mg base "turned_way" 1 ["way"] (nY K):=by
 have nd:=(rQ).nd;refine D.ok rQ (λvs H Q E h=>?_) (λX j H vs Q E h=>?_)
 .obtain⟨p,w,rfl,_⟩:=h;rfl
 .obtain⟨f,cdv,A,outer,s,H0,E0,rfl,hr⟩:=j;obtain⟨g,c,d⟩:=b;obtain⟨p,w,rfl,i,od,q⟩:=h;refine⟨_,(ao (ax (aB (aa (aj (aE K) (pv 0) af (λ_ _=>rfl)) (aa (gK rfl c d (aj (aE K) (pv 0) af (λ_ _=>rfl)) (λ_ _=>rfl)) (aa (aj (aE K) (pv 0) af (λ_ _=>rfl)) (aa (aj (aE K) (pv 0) af (λ_ _=>rfl)) ae))))))),?_⟩;walk_at"";refine aG (ah.of i) (v:=.int w.other) rfl ?_;walk_at"";refine aG (ah.of i) (v:=.str w.deed) rfl ?_;walk_at"";refine ef (lu od) ?_;walk_at"";refine aG (ah.of i) (v:=.int w.room) rfl ?_;walk_at"";refine aG (ah.of i) (v:=.str w.sign) rfl ?_;walk_at"";exact⟨bb (by simp),cE λv H' e hv _=>q v H' e hv⟩
def rj(K:zk):Sp:=λvs H Q _=>∃v m ws,vs=[v]/\bN H v m ws/\HOuse m ws/\∀u H',Ext H H'->bN H' u m (List.map Way.turn ws)->Q u H'
abbrev ma:Vl:=stq 41
def rz:FnScope ["house"] ["house"] (ay ma):=⟨rfl,rfl,rfl,by decide +kernel,rfl,by decide +kernel,by decide +kernel⟩
def tD{P:Vd}{w:Ve}{K:zk}{mg:Vn->Option Va}{base:Vh}(D:Dfn K mg "turned_about" ma ["house"])(T:Blt mg)(c:Cal P w K mg base "turned_way" 1 ["way"] (nY K))(a:Cal P w K mg base "refuse_no_house" 6 ["thing"] (lH K)):Cal P w K mg base "turned_about" 7 ["house"] (rj K):=by
 have nd:=(rz).nd;refine D.ok rz (λvs H Q E h=>?_) (λX M H vs Q E h=>?_)
 .obtain⟨v,m,ws,rfl,_⟩:=h;rfl
 .obtain⟨f,cdv,A,outer,s,H0,E0,rfl,hr⟩:=M;obtain⟨v,m,ws,rfl,h1,ok,q⟩:=h;have z:=ok.few;refine⟨_,(ar (cL (aF a hr (aa (pv 0) ae)))
    (ao (ax (aB (aa (aj (aE K) (pv 0) af (λ_ _=>rfl)) (aa (bt (fJ K) rfl T.tuple_ PyProof.Rows.boot_tuple (aa (eh ["way"] [] (fh K (aj (aE K) (pv 0) af (λ_ _=>rfl))) (λ_=>(aT (i:=0) (show(["way"]:List Vn).Nodup from by decide +kernel) rfl (Or.inl rfl) (Or.inr rfl))) (λ_=>eJ) (λ_=>(aF c hr (aa (pv 0) ae)))) ae)) ae)))))),?_⟩
  walk_at"";refine⟨v,m,ws,rfl,h1,ok,λH1 B=>?_⟩;obtain⟨p,r,rfl,C,N⟩:=h1.ext B;obtain⟨bs,F,al⟩:=bC.al N;walk_at"";refine aG (ah.of C) (v:=.int m) rfl ?_;walk_at"";refine aG (ah.of C) (v:=.ref r) rfl ?_;refine eY (ah.of F) ?_;refine ft (xs:=bs.map V.ref) (λi ys H'=>Ext H1 H'/\∃cs,ys=cs.map V.ref/\bu H' cs ((ws.take i).map Way.turn)) (ee (by rw[zp,al.1];omega)) ⟨Ext.rfl' _,[],rfl,bu.nil _⟩ (λi ys H' hi h=>⟨ah.of (h.1 _ _ F),?_⟩) ?_ ?_
  .obtain⟨_,cs,rfl,O,_⟩:=h;rw[zp,O,zp,Af];exact Nat.min_le_left _ _
  .rintro i x ys H' G ⟨y,cs,rfl,d⟩;rw[zr]at G;obtain⟨b,I,rfl⟩:=zC.mp G;have hi:i<ws.length:=by rw[<-al.1];exact(zy.mp I).1
   have g:ws[i]?=Vo ws[i]:=zq hi;walk_at"";refine aw ?_;walk_at"";refine⟨b,ws[i],rfl,y _ _ (al.2 i b _ I g),(ok.ok _ (zP hi)).dd,λv W j hv=>?_⟩;refine⟨y.trans j,cs++[v],by rw[zG];rfl,?_⟩;rw[List.take_add_one,g,zG];exact(d.ext j).snoc hv
  .rintro ys H' l ⟨y,cs,rfl,d⟩ hl;rw[zp,al.1,zR]at d;walk_at"";have j:Ext H1 (upd H' l (.lst (cs.map V.ref))):=y.trans (bF hl);have k:=d.ext (bF (o:=.lst (cs.map V.ref)) hl);have n:upd H' l (.lst (cs.map V.ref)) l=Vo (.lst (cs.map V.ref)):=aI;generalize upd H' l (.lst (cs.map V.ref))=Y at j k n ⊢;refine gg (ag.of n) (cE λt Z J R _=>?_);walk_at"";refine au λu S L U _=>?_;exact q _ S (B.trans (j.trans (J.trans L))) (bN.mk U (((k.ext J).ways R).ext L))
def dG{n:Int}(h:0<=n)(b:n<1000000):n.natAbs.log2<1920:=by
 by_cases a:n.natAbs=0
 .rw[a];decide
 .exact zS ((Nat.log2_lt a).mpr (show n.natAbs<2 ^ 20 by omega)) (by decide)
open Tx in
abbrev cv(w:Way):Vn:=Txt.join " " [aH w.room,w.deed,aH w.other,w.sign]
open Tx in
def aX(m:Int)(ws:List Way):Vn:=aH m++(":":Vn)++Txt.join "," (ws.map λw=>(" ":Vn)++cv w)
def xV(a b c d:Vn):(Txt.join " " [a,b,c,d]).length=a.length+b.length+c.length+d.length+3:=by show(Txt.join ⟨#[32]⟩ [a,b,c,d]).length=_;rw[Tx.fQ];show(a++(⟨#[32]⟩:Vn)++(b++(⟨#[32]⟩:Vn)++(c++(⟨#[32]⟩:Vn)++d))).length=_;rw[Str.length_append,Str.length_append,Str.length_append,Str.length_append,Str.length_append,Str.length_append];show a.length+1+(b.length+1+(c.length+1+d.length))=_;omega
def iF(h:cw z):z.length<=4:=by rcases h with rfl|rfl|rfl|rfl<;>decide
def iw(h:fm z):z.length=1:=by obtain⟨c,_,_,rfl⟩:=h;rfl
def kx{m:Int}(ok:w.Ok m)(a:m<=12):(cv w).length<=20:=by rw[xV];have h1:=Tx.cq ok.r0 (by have:=ok.r1;omega);have h2:=Tx.cq ok.o0 (by have:=ok.o1;omega);have b:=iF ok.dd;have c:=iw ok.sg;omega
theorem ku{k:Nat}:∀{zs:List Vn},(∀z∈zs,z.length<=k)->(zs.map (·.length)).sum<=k*zs.length
 | [],_=>Nat.zero_le _
 | z::zs,h=>by have h1:=h z zw;have h2:=ku (k:=k) λx a=>h x (zt z a);rw[List.map_cons,List.sum_cons,zQ,Nat.mul_succ];omega
def kB(c:Nat){k:Nat}{zs:List Vn}(h:∀z∈zs,z.length<=k):(Txt.join ⟨#[c]⟩ zs).length<=(k+1)*zs.length:=by rw[Tx.fQ];have h1:=StrLaws.join_length_le ⟨#[c]⟩ zs;have h2:=ku h;have a:(⟨#[c]⟩:Vn).length=1:=rfl;rw[a,Nat.mul_one]at h1;rw[Nat.succ_mul];omega
def ou{c:Nat}{k:Nat}{zs:List Vn}(h:∀z∈zs,z.length<=k)(a:zs.length<=n)(f:(k+1)*n<=1000000):(zs.map (·.length)).sum+zs.length*(⟨#[c]⟩:Vn).length<=1000000:=by have h2:=ku h;have b:(⟨#[c]⟩:Vn).length=1:=rfl;have d:=Nat.mul_le_mul_left (k+1) a;rw[Nat.succ_mul]at d;rw[b];omega
def rO(K:zk):Sp:=λvs H Q _=>∃b w m,vs=[.ref b]/\H b=Vo (.tup (Way.vs w))/\w.Ok m/\m<=12/\∀H',Ext H H'->Q (.str (cv w)) H'
abbrev jP:Vl:=stq 89
def rN:FnScope ["way"] ["way"] (ay jP):=⟨rfl,rfl,rfl,by decide +kernel,rfl,by decide +kernel,by decide +kernel⟩
def yq{P:Vd}{w:Ve}{K:zk}{mg:Vn->Option Va}{base:Vh}(D:Dfn K mg "way_text" jP ["way"])(T:Blt mg):Cal P w K mg base "way_text" 1 ["way"] (rO K):=by
 have nd:=(rN).nd;refine D.ok rN (λvs H Q E h=>?_) (λX c H vs Q E h=>?_)
 .obtain⟨b,w,m,rfl,_⟩:=h;rfl
 .obtain⟨f,cdv,A,outer,s,H0,E0,rfl,hr⟩:=c;obtain⟨b,w,m,rfl,a,ok,m12,q⟩:=h;have r1:=ok.r1;have o1:=ok.o1;refine⟨_,(ao (ax (cN K PySem.F.plainAttrs_str PySem.F.slot_str_join PySem.F.type_str_join (ic K) ak (aa (bA (aa (bt dS rfl T.str_ PyProof.Rows.boot_str (aa (aj (aE K) (pv 0) af (λ_ _=>rfl)) ae)) (aa (aj (aE K) (pv 0) af (λ_ _=>rfl)) (aa (bt dS rfl T.str_ PyProof.Rows.boot_str (aa (aj (aE K) (pv 0) af (λ_ _=>rfl)) ae)) (aa (aj (aE K) (pv 0) af (λ_ _=>rfl)) ae))))) ae)))),?_⟩;walk_at"";refine⟨rfl,?_⟩;walk_at"";refine aG (ah.of a) rfl ?_;walk_at"";refine⟨_,rfl,dG ok.r0 (by omega),?_⟩;walk_at"";refine aG (ah.of a) rfl ?_;walk_at"";refine aG (ah.of a) rfl ?_;walk_at"";refine⟨_,rfl,dG ok.o0 (by omega),?_⟩;walk_at"";refine aG (ah.of a) rfl ?_;walk_at"";refine au λl H1 d hl _=>?_;walk_at"";refine⟨_,l,[Tx.aH w.room,w.deed,Tx.aH w.other,w.sign],rfl,rfl,ag.of hl,?_,q H1 d⟩;have h1:=Tx.cq ok.r0 (by omega);have h2:=Tx.cq ok.o0 (by omega);have g:=iF ok.dd;have i:=iw ok.sg;show(Tx.aH w.room).length+(w.deed.length+((Tx.aH w.other).length+(w.sign.length+0)))+4*1<=1000000;omega
def j5(K:zk):Sp:=λvs H Q _=>∃v m ws,vs=[v]/\bN H v m ws/\HOuse m ws/\∀H',Ext H H'->Q (.str (aX m ws)) H'
abbrev jX:Vl:=stq 90
def o7:FnScope ["house"] ["house"] (ay jX):=⟨rfl,rfl,rfl,by decide +kernel,rfl,by decide +kernel,by decide +kernel⟩
def xW{P:Vd}{w:Ve}{K:zk}{mg:Vn->Option Va}{base:Vh}(D:Dfn K mg "shown_house" jX ["house"])(T:Blt mg)(d:Cal P w K mg base "way_text" 1 ["way"] (rO K))(a:Cal P w K mg base "refuse_no_house" 6 ["thing"] (lH K)):Cal P w K mg base "shown_house" 7 ["house"] (j5 K):=by
 have nd:=(o7).nd;refine D.ok o7 (λvs H Q E h=>?_) (λX L H vs Q E h=>?_)
 .obtain⟨v,m,ws,rfl,_⟩:=h;rfl
 .obtain⟨f,cdv,A,outer,s,H0,E0,rfl,hr⟩:=L;obtain⟨v,m,ws,rfl,hv,ok,q⟩:=h;have m1:=ok.m1;have m12:=ok.m12;refine⟨_,(ar (cL (aF a hr (aa (pv 0) ae)))
    (ao (ax (aA cz (aA cz (bt dS rfl T.str_ PyProof.Rows.boot_str (aa (aj (aE K) (pv 0) af (λ_ _=>rfl)) ae)) ak) (cN K PySem.F.plainAttrs_str PySem.F.slot_str_join PySem.F.type_str_join (ic K) ak (aa (eh ["way"] [] (fh K (aj (aE K) (pv 0) af (λ_ _=>rfl))) (λ_=>(aT (i:=0) (show(["way"]:List Vn).Nodup from by decide +kernel) rfl (Or.inl rfl) (Or.inr rfl))) (λ_=>eJ) (λ_=>(aA cz ak (aF d hr (aa (pv 0) ae))))) ae)))))),?_⟩
  walk_at"";refine⟨v,m,ws,rfl,hv,ok,λH1 B=>?_⟩;obtain⟨p,r,rfl,C,M⟩:=id (hv.ext B);obtain⟨bs,G,al⟩:=bC.al M;have g:=ok.few;have lm:(zY (toString m)).length<=6:=Tx.cq (by omega) (by omega);have hl:∀w∈ws,((" ":Vn)++cv w).length<=21:=λw j=>by rw[Str.length_append];have:=kx (ok.ok w j) m12;have:(zY " ").length=1:=rfl;omega
  walk_at"";refine aG (ah.of C) rfl ?_;walk_at"";refine⟨_,rfl,dG (by omega) (by omega),?_⟩;walk_at"";refine⟨_,_,rfl,rfl,bb (by have:(zY ":").length=1:=rfl;omega),?_⟩;walk_at"";refine⟨rfl,?_⟩;walk_at"";refine aG (ah.of C) (v:=.ref r) rfl ?_;refine eY (ah.of G) ?_;refine ft (xs:=bs.map V.ref) (λi ys H'=>Ext H1 H'/\ys=((ws.take i).map λw=>(" ":Vn)++cv w).map V.str) (ee (by rw[zp,al.1];omega)) ⟨Ext.rfl' _,rfl⟩ (λi ys H' hi h=>⟨ah.of (h.1 _ _ G),?_⟩) ?_ ?_
  .rw[h.2,zp,zp,Af];exact Nat.min_le_left _ _
  .rintro i x ys H' I ⟨t,rfl⟩;rw[zr]at I;obtain⟨b,J,rfl⟩:=zC.mp I;have hi:i<ws.length:=by rw[<-al.1];exact(zy.mp J).1
   have j:ws[i]?=Vo ws[i]:=zq hi;have k:=ok.ok _ (zA j);have y:=t _ _ (al.2 i b _ J j);walk_at"";refine aw ?_;walk_at"";refine⟨b,_,m,rfl,y,k,m12,λU u=>?_⟩;walk_at"";refine⟨_,_,rfl,rfl,bb (by have:=kx k m12;have:(zY " ").length=1:=rfl;omega),?_⟩;walk_at"";refine⟨t.trans u,?_⟩;rw[List.take_add_one,j,zG,zG];rfl
  .rintro ys H' l ⟨t,rfl⟩ N;rw[zp,al.1,zR];have u:Ext H1 (upd H' l (.lst ((ws.map λw=>(" ":Vn)++cv w).map V.str))):=t.trans (bF N);have o:upd H' l (.lst ((ws.map λw=>(" ":Vn)++cv w).map V.str)) l=Vo (.lst ((ws.map λw=>(" ":Vn)++cv w).map V.str)):=aI;generalize upd H' l (.lst ((ws.map λw=>(" ":Vn)++cv w).map V.str))=O at u o ⊢;walk_at"";have hall:∀z∈ws.map (λw=>(" ":Vn)++cv w),z.length<=21:=λz R=>by obtain⟨w,j,rfl⟩:=List.mem_map.mp R;exact hl w j
   refine⟨_,l,_,rfl,rfl,ag.of o,ou (c:=44) hall (n:=100) (by rw[zp];exact g) (by decide),?_⟩;have S:=kB 44 hall;rw[zp]at S;refine⟨_,_,rfl,rfl,bb ?_,q O (B.trans u)⟩;rw[Str.length_append];have h1:(zY ":").length=1:=rfl;have h2:=Nat.mul_le_mul_left 22 g;show(zY (toString m)).length+(zY ":").length+(Txt.join ⟨#[44]⟩ _).length<=1000000;omega
def gY{a b:Vn}:decide (V.str a=V.str b)=decide (a=b):=by
 by_cases h:a=b
 .subst h;simp
 .rw[Aj h,Aj (λz=>h (V.str.inj z))]
def bo{a b:Vn}(h:Q (.bl (decide (a=b))) H):kf (.str a) (.str b) H Q:=⟨rfl,by rw[gY];exact h⟩
def uc{a b:Vn}(h:Q (.bl (!decide (a=b))) H):ll (.str a) (.str b) H Q:=⟨rfl,by rw[gY];exact h⟩
def cI(c:Nat):Bool:=decide (48<=c/\c<=57)
def dN(z:Vn):Bool:=decide (1<=z.length) && (decide (z.length<=6) && ((z.cps.toList.map cI).all id && (decide (z = "0") || decide (z.cps.toList[0]?≠Vo 48))))
def yH(c:Nat):(!(Builtin.Str.occurrences (zY "0123456789") ⟨#[c]⟩ 0 (zY "0123456789").length 1).isEmpty)=cI c:=by rw[StrLaws.found_one,show (zY "0123456789").cps.toList=[48,49,50,51,52,53,54,55,56,57] by decide +kernel];unfold cI;rw[decide_eq_decide];simp only[zE,zU,or_false];omega
def j7(K:zk):Sp:=λvs H Q _=>∃z:Vn,vs=[.str z]/\z.length<=1000000/\∀H',Ext H H'->Q (.bl (dN z)) H'
abbrev jI:Vl:=stq 93
def ow:FnScope ["word"] ["word"] (ay jI):=⟨rfl,rfl,rfl,by decide +kernel,rfl,by decide +kernel,by decide +kernel⟩
def yV{P:Vd}{w:Ve}{K:zk}{mg:Vn->Option Va}{base:Vh}(D:Dfn K mg "is_number_word" jI ["word"])(T:Blt mg)(d:∃t,mg "FIGURES" = Vo (.str "0123456789" t))(a:∃t,mg "MOST_FIGURES" = Vo (.int 6 t)):Cal P w K mg base "is_number_word" 1 ["word"] (j7 K):=by
 have nd:=(ow).nd;refine D.ok ow (λvs H Q E h=>?_) (λX G H vs Q E h=>?_)
 .obtain⟨n,rfl,_⟩:=h;rfl
 .obtain⟨f,cdv,A,outer,s,H0,E0,rfl,hr⟩:=G;obtain⟨o,g⟩:=d;obtain⟨j,b⟩:=a;obtain⟨z,rfl,u,q⟩:=h;refine⟨_,(ar (aO (PW.pt (dm (aK fq (aP lR rfl T.len_ PySem.boot_len (aa (pv 0) ae)) af (aC _)) (dm (aK eQ (aP lR rfl T.len_ PySem.boot_len (aa (pv 0) ae)) (bQ (v:=.int 6) rfl b ⟨_,rfl⟩) (aC _)) (dI (bX (bY (aP (kz K rfl) rfl T.all_ PyProof.Rows.boot_all (aa (eh ["sign"] [] (vx (pv 0)) (λ_=>(aT (i:=0) (show(["sign"]:List Vn).Nodup from by decide +kernel) rfl (Or.inl rfl) (Or.inr rfl))) (λ_=>eJ) (λ_=>(cc xX (pv 0) (bQ (v:=.str "0123456789") rfl g ⟨_,rfl⟩) (by with_unfolding_all rfl)))) ae)))))))) (ao (ax cF)) aL)
    (ao (ax (wY (cc bE (pv 0) ak (aC _)) (dM (cc jd (aj pA (pv 0) af (λ_ _=>rfl)) ak (aC _))))))),?_⟩
  walk_at"";refine⟨z,rfl,bb u,?_⟩;walk_at"";by_cases h1:(z.length:Int)<1
  .rw[Ak h1];refine aw (aw ?_);walk_at"";have:=q H (Ext.rfl' _);unfold dN at this;rw[Aj (show ¬1<=z.length by omega)]at this;exact this
  rw[Aj h1];refine av ?_;walk_at"";refine⟨z,rfl,bb u,?_⟩;walk_at"";by_cases h2:(6:Int)<z.length
  .rw[Ak h2];refine aw (aw ?_);walk_at"";have:=q H (Ext.rfl' _);unfold dN at this;rw[Aj (show ¬z.length<=6 by omega),Bool.false_and,Bool.and_false]at this;exact this
  rw[Aj h2];refine av ?_;walk_at"";refine⟨z,rfl,?_⟩;have I:z.cps.size=z.length:=rfl;refine uE (λi ys H'=>H'=H/\ys=((z.cps.toList.take i).map cI).map V.bl) (bb (by omega)) ⟨rfl,rfl⟩ ?_ ?_ ?_
  .rintro i ys H' _ ⟨rfl,rfl⟩;rw[zp,zp,Af];exact Nat.min_le_left _ _
  .rintro i c ys H' p ⟨rfl,rfl⟩;walk_at"";refine aw ?_;walk_at"";refine⟨_,_,rfl,rfl,rfl,?_⟩;rw[yH,List.take_add_one,Array.getElem?_toList,p,zG,zG];rfl
  rintro ys H' r ⟨rfl,rfl⟩ x;rw[<-zu,zR];have B:Ext H' (upd H' r (.lst ((z.cps.toList.map cI).map V.bl))):=bF x;have C:(upd H' r (.lst ((z.cps.toList.map cI).map V.bl))) r=_:=aI;generalize upd H' r (.lst ((z.cps.toList.map cI).map V.bl))=H1 at B C;have k:=q H1 B;unfold dN at k;rw[Ak (show 1<=z.length by omega),Ak (show z.length<=6 by omega),Bool.true_and,Bool.true_and]at k;walk_at"";refine⟨r,_,rfl,ag.of C,?_⟩;walk_at"";cases hall:(z.cps.toList.map cI).all id with
  | false=>
   rw[hall,Bool.false_and]at k;refine aw ?_;walk_at"";exact k
  | true=>
   rw[hall,Bool.true_and]at k;refine av ?_;walk_at"";refine bo ?_;refine⟨_,rfl,?_⟩;by_cases F:z = "0"
   .rw[Ak F]at k ⊢;exact aw k
   rw[Aj F]at k ⊢;rw[Bool.false_or]at k;refine av ?_;walk_at"";have hl:0<z.cps.toList.length:=by rw[zu];omega
   have p:z.cps.toList[0]?=Vo z.cps.toList[0]:=zq hl;generalize z.cps.toList[0]=c at p;refine⟨z,0,c,rfl,rfl,bb u,bf p,?_⟩;walk_at"";refine uc ?_;rw[p]at k;have J:(!decide ((⟨#[c]⟩:Vn)=zY "0"))=decide (Vo c≠Vo 48):=by
    have:(zY "0")=⟨#[48]⟩:=rfl;rw[this];by_cases y:c=48
    .subst y;decide
    .rw[Ak (show Vo c≠Vo 48 from λe=>y (zZ e)),Aj (λe=>y (by injection e with e;simpa using e))];rfl
   rw[J];exact k
def jc{n:Int}(h:0<=n)(b:n<1000000):dN (Tx.aH n)=true:=by
 unfold dN;have hd:((Tx.aH n).cps.toList.map cI).all id=true:=by rw[List.all_map,zV];intro c d;exact Ak (Tx.hZ h d)
 rw[Ak (Tx.uX h),Ak (Tx.cq h b),hd];rcases Tx.uM h with e|e
 .rw[Ak (show Tx.aH n = "0" from e)];rfl
 .have:(Tx.aH n).cps.toList[0]?≠Vo 48:=λz=>by
   cases k:(Tx.aH n).cps.toList with
   | nil=>rw[k]at z;cases z
   | cons a l=>rw[k]at z;cases z;exact e l k
  rw[Ak this,Bool.or_true];rfl
structure DeskK(K:zk)(mg:Vn->Option Va):Prop where
 cl:Cls K (cA K "Desk")
 nH:cS K (cA K "Desk") "house"
 nP:cS K (cA K "Desk") "past"
 nU:cS K (cA K "Desk") "undone"
 df:∀x∈(["rooms_deed","way_deed","close_deed","turn_deed","show_ask"]:List Vn),mg x=Vo (.ref (cA K x))
def dH(z:Vn):Option (List Vn):=
 if z = "rooms" then Vo ["many"]else if z = "way" then Vo ["number","deed","number","sign"]else if z = "close" then Vo ["number","deed","number","sign"]else if z = "turn" then Vo []else if z = "undo" then Vo []else if z = "redo" then Vo []else if z = "show" then Vo []else
 if z = "reach" then Vo ["number","number","number","number"]else if z = "forward" then Vo ["number","number","number"]else if z = "backward" then Vo ["number","number","number"]else if z = "most" then Vo ["number","number"]else if z = "fate" then Vo ["number","number"]else if z = "word" then Vo ["number","number"]else Vp
def sF(K:zk)(kvs:List (Key×V)):Prop:=∀z:Vn,match dH z with
 | some ks=>∃b,ba kvs (.inr z)=Vo (.ref b)/\∀H,ah K H b (ks.map V.str)
 | none=>ba kvs (.inr z)=Vp
def ph(h:n<=xs.length):dP xs (Vo (n:Int)) Vp=xs.drop n:=by unfold dP;rw[HT.ub,HT.xo,Nat.min_eq_left h];exact List.take_of_length_le (by rw[List.length_drop];exact zJ _)
inductive Cmd
 | rooms (n:Int)
 | way (w:Way)
 | close (w:Way)
 | turn
 | undo
 | redo
 | show
def Cmd.head:Cmd->Vn
 | .rooms _=>"rooms"
 | .way _=>"way"
 | .close _=>"close"
 | .turn=>"turn"
 | .undo=>"undo"
 | .redo=>"redo"
 | .show=>"show"
def f7(w:Way):List Vn:=[Tx.aH w.room,w.deed,Tx.aH w.other,w.sign]
def Cmd.tail:Cmd->List Vn
 | .rooms n=>[Tx.aH n]
 | .way w=>f7 w
 | .close w=>f7 w
 | _=>[]
abbrev Cmd.words(c:Cmd):List Vn:=c.head::c.tail
def Cmd.line(c:Cmd):Vn:=Txt.join " " c.words
def Cmd.kinds:Cmd->List Vn
 | .rooms _=>["many"]
 | .way _=>["number","deed","number","sign"]
 | .close _=>["number","deed","number","sign"]
 | _=>[]
def Cmd.parts:Cmd->List V
 | .rooms n=>[.int n]
 | .way w=>Way.vs w
 | .close w=>Way.vs w
 | _=>[]
structure WayL(w:Way):Prop where
 r0:0<=w.room
 r6:w.room<1000000
 o0:0<=w.other
 o6:w.other<1000000
 dd:cw w.deed
 sg:fm w.sign
def Cmd.Ok:Cmd->Prop
 | .rooms n=>1<=n/\n<=12
 | .way w=>WayL w
 | .close w=>WayL w
 | _=>True
def Cmd.kinds_of(c:Cmd):dH c.head=Vo c.kinds:=by
 cases c with
 | rooms n=>show dH "rooms" = Vo (["many"]:List Vn);decide +kernel
 | way w=>show dH "way" = Vo (["number","deed","number","sign"]:List Vn);decide +kernel
 | close w=>show dH "close" = Vo (["number","deed","number","sign"]:List Vn);decide +kernel
 | turn=>show dH "turn" = Vo ([]:List Vn);decide +kernel
 | undo=>show dH "undo" = Vo ([]:List Vn);decide +kernel
 | redo=>show dH "redo" = Vo ([]:List Vn);decide +kernel
 | «show»=>show dH "show" = Vo ([]:List Vn);decide +kernel
def Cmd.head_low(c:Cmd):c.head.length<=6/\32∉c.head.cps.toList:=by
 cases c with
 | rooms n=>show(zY "rooms").length<=6/\32∉(zY "rooms").cps.toList;exact⟨by decide,by decide⟩
 | way w=>show(zY "way").length<=6/\32∉(zY "way").cps.toList;exact⟨by decide,by decide⟩
 | close w=>show(zY "close").length<=6/\32∉(zY "close").cps.toList;exact⟨by decide,by decide⟩
 | turn=>show(zY "turn").length<=6/\32∉(zY "turn").cps.toList;exact⟨by decide,by decide⟩
 | undo=>show(zY "undo").length<=6/\32∉(zY "undo").cps.toList;exact⟨by decide,by decide⟩
 | redo=>show(zY "redo").length<=6/\32∉(zY "redo").cps.toList;exact⟨by decide,by decide⟩
 | «show»=>show(zY "show").length<=6/\32∉(zY "show").cps.toList;exact⟨by decide,by decide⟩
def gh(k z:Vn)(v:V):Prop:=(k = "many"/\∃n:Int,1<=n/\n<=12/\z=Tx.aH n/\v=.int n)\/(k = "number"/\∃n:Int,0<=n/\n<1000000/\z=Tx.aH n/\v=.int n)\/(k = "deed"/\cw z/\v=.str z)\/(k = "sign"/\fm z/\v=.str z)
def Cmd.at_{c:Cmd}(ok:c.Ok):c.kinds.length=c.tail.length/\c.parts.length=c.tail.length/\∀(i:Nat) (k z:Vn),c.kinds[i]?=Vo k->c.tail[i]?=Vo z->∃v,c.parts[i]?=Vo v/\gh k z v:=by
 have four:∀{w:Way},WayL w->∀(i:Nat) (k z:Vn),(["number","deed","number","sign"]:List Vn)[i]?=Vo k->(f7 w)[i]?=Vo z->∃v,(Way.vs w)[i]?=Vo v/\gh k z v:=λ{w} ok i k z h1 h2=>by
  match i,h1,h2 with
  | 0,h1,h2=>cases h1;cases h2;exact⟨_,rfl,.inr (.inl ⟨rfl,_,ok.r0,ok.r6,rfl,rfl⟩)⟩
  | 1,h1,h2=>cases h1;cases h2;exact⟨_,rfl,.inr (.inr (.inl ⟨rfl,ok.dd,rfl⟩))⟩
  | 2,h1,h2=>cases h1;cases h2;exact⟨_,rfl,.inr (.inl ⟨rfl,_,ok.o0,ok.o6,rfl,rfl⟩)⟩
  | 3,h1,h2=>cases h1;cases h2;exact⟨_,rfl,.inr (.inr (.inr ⟨rfl,ok.sg,rfl⟩))⟩
  | i+4,h1,h2=>cases h1
 cases c with
 | rooms n=>
  refine⟨rfl,rfl,λi k z h1 h2=>?_⟩
  match i,h1,h2 with
  | 0,h1,h2=>cases h1;cases h2;exact⟨_,rfl,.inl ⟨rfl,n,ok.1,ok.2,rfl,rfl⟩⟩
  | i+1,h1,h2=>cases h1
 | way w=>exact⟨rfl,rfl,four ok⟩
 | close w=>exact⟨rfl,rfl,four ok⟩
 | turn=>exact⟨rfl,rfl,λi k z h1=>by cases h1⟩
 | undo=>exact⟨rfl,rfl,λi k z h1=>by cases h1⟩
 | redo=>exact⟨rfl,rfl,λi k z h1=>by cases h1⟩
 | «show»=>exact⟨rfl,rfl,λi k z h1=>by cases h1⟩
def gh.low{k:Vn}{v:V}(h:gh k z v):z.length<=6/\32∉z.cps.toList:=by
 rcases h with⟨_,n,h1,h2,rfl,_⟩|⟨_,n,h1,h2,rfl,_⟩|⟨_,h,_⟩|⟨_,⟨c,h1,h2,rfl⟩,_⟩
 .exact⟨Tx.cq (by omega) (by omega),Tx.rh (by omega) (by omega)⟩
 .exact⟨Tx.cq h1 h2,Tx.rh h1 (by omega)⟩
 .rcases h with rfl|rfl|rfl|rfl<;>exact⟨by decide,by decide⟩
 .refine⟨(by show 1<=6;decide),λa=>?_⟩;have:32=c:=by simpa using a
  omega
def Cmd.tail_low{c:Cmd}(ok:c.Ok):c.tail.length<=4/\∀z∈c.tail,z.length<=6/\32∉z.cps.toList:=by obtain⟨h1,_,h2⟩:=Cmd.at_ ok;refine⟨by cases c<;>simp[Cmd.tail,f7],λz a=>?_⟩;obtain⟨i,hi⟩:=List.getElem?_of_mem a;have b:=zq (show i<c.kinds.length by rw[h1];exact(zy.mp hi).1);obtain⟨v,_,d⟩:=h2 i _ z b hi;exact d.low
theorem Cmd.split{c:Cmd}(ok:c.Ok):Txt.split c.line " " = c.words:=by
 show Txt.split (Txt.join ⟨#[32]⟩ c.words) ⟨#[32]⟩=c.words;rw[Tx.fQ];refine Tx.ui (List.cons_ne_nil _ _) λp a=>?_;rcases zE.mp a with rfl|h
 .exact c.head_low.2
 .exact((Cmd.tail_low ok).2 p h).2
def Cmd.line_len{c:Cmd}(ok:c.Ok):c.line.length<=1000:=by
 have h1:=Cmd.tail_low ok;have a:=c.head_low.1;have:=kB 32 (k:=6) (zs:=c.words) λz b=>by
  rcases zE.mp b with rfl|h
  .exact a
  .exact(h1.2 z h).1
 have h2:c.words.length=c.tail.length+1:=rfl;have d:(6+1)*c.words.length<=7*5:=Nat.mul_le_mul_left 7 (by omega);exact zT this (zT d (by decide))
def sZ(h:cw z):dN z=false:=by rcases h with rfl|rfl|rfl|rfl<;>decide +kernel
def zc(h:fm z):dN z=false:=by obtain⟨c,h1,h2,rfl⟩:=h;have:cI c=false:=Aj (by omega);unfold dN;show(_ && (_ && (([c].map cI).all id && _)))=false;rw[show ([c].map cI).all id=false by rw[List.map_cons,this];rfl];simp
def pE(K:zk):Sp:=λvs H Q _=>∃k z v,vs=[.str k,.str z]/\gh k z v/\∀H',Ext H H'->Q (.bl true) H'
abbrev lX:Vl:=stq 108
def mZ:FnScope ["kind","word"] ["kind","word"] (ay lX):=⟨rfl,rfl,rfl,by decide +kernel,rfl,by decide +kernel,by decide +kernel⟩
def vH{P:Vd}{w:Ve}{K:zk}{mg:Vn->Option Va}{base:Vh}(D:Dfn K mg "is_word_of" lX ["kind","word"])(T:Blt mg)(b:∃t,mg "GREATEST_MANY" = Vo (.int 12 t))(a:Cal P w K mg base "is_number_word" 1 ["word"] (j7 K))(d:Cal P w K mg base "is_sign" 1 ["thing"] (kL K))(g:Cal P w K mg base "is_deed" 1 ["thing"] (me K)):Cal P w K mg base "is_word_of" 2 ["kind","word"] (pE K):=by
 have nd:=(mZ).nd;refine D.ok mZ (λvs H Q E h=>?_) (λX u H vs Q E h=>?_)
 .obtain⟨k,z,v,rfl,_⟩:=h;rfl
 .obtain⟨f,cdv,A,outer,s,H0,E0,rfl,hr⟩:=u;obtain⟨i,c⟩:=b;obtain⟨k,z,v,rfl,r,q⟩:=h;have hl:=r.low;refine⟨_,(ar (aO (aK bE (pv 0) ak (aC _)) (ao (ax (aF g hr (aa (pv 1) ae)))) aL)
    (ar (aO (aK bE (pv 0) ak (aC _)) (ao (ax (aF d hr (aa (pv 1) ae)))) aL)
    (ar (aO (aK bE (pv 0) ak (aC _)) (ao (ax (dn (aF a hr (aa (pv 1) ae)) (dM (iq ib ib af (bt qE rfl T.int_ PyProof.Rows.boot_int (aa (pv 1) ae)) (bQ (v:=.int 12) rfl c ⟨_,rfl⟩)))))) aL)
    (ao (ax (aF a hr (aa (pv 1) ae))))))),?_⟩
  walk_at"";refine bo ?_;rcases r with⟨rfl,n,n1,j,rfl,_⟩|⟨rfl,n,x,y,rfl,_⟩|⟨rfl,o,_⟩|⟨rfl,o,_⟩
  .refine rd_exb (av ?_);walk_at"";refine bo ?_;refine rd_exb (av ?_);walk_at"";refine bo ?_;refine rd_exb (aw ?_);walk_at"";refine⟨_,rfl,by omega,λH1 p=>?_⟩;rw[jc (by omega) (by omega)];walk_at"";refine aw ?_;walk_at"";refine⟨_,n,rfl,Tx.kE (by omega) (by omega),by omega,?_⟩;walk_at"";rw[Ak n1];refine aw ?_;walk_at"";rw[Ak j];exact q H1 p
  .refine rd_exb (av ?_);walk_at"";refine bo ?_;refine rd_exb (av ?_);walk_at"";refine bo ?_;refine rd_exb (av ?_);walk_at"";refine⟨_,rfl,by omega,λH1 p=>?_⟩;rw[jc x y];exact q H1 p
  .refine rd_exb (aw ?_);walk_at"";exact⟨_,rfl,o,q _ (Ext.rfl' _)⟩
  .refine rd_exb (av ?_);walk_at"";refine bo ?_;refine rd_exb (aw ?_);walk_at"";exact⟨_,rfl,o,q _ (Ext.rfl' _)⟩
def p8(K:zk):Sp:=λvs H Q _=>∃l c,vs=[.ref l]/\H l=Vo (.lst (c.words.map V.str))/\Cmd.Ok c/\∀H',Ext H H'->Q (.bl true) H'
abbrev jU:Vl:=stq 109
def oU:FnScope ["words"] ["words"] (ay jU):=⟨rfl,rfl,rfl,by decide +kernel,rfl,by decide +kernel,by decide +kernel⟩
def ur{P:Vd}{w:Ve}{K:zk}{mg:Vn->Option Va}{base:Vh}(D:Dfn K mg "is_line" jU ["words"])(T:Blt mg)(t:∃a,mg "LINES" = Vo (.ref a)/\∃kvs,GDict w K a kvs/\sF K kvs)(o:Cal P w K mg base "is_word_of" 2 ["kind","word"] (pE K)):Cal P w K mg base "is_line" 3 ["words"] (p8 K):=by
 have nd:=(oU).nd;refine D.ok oU (λvs H Q E h=>?_) (λX M H vs Q E h=>?_)
 .obtain⟨l,c,rfl,_⟩:=h;rfl
 .obtain⟨f,cdv,A,outer,s,H0,E0,rfl,hr⟩:=M;obtain⟨F,d,C,g,r⟩:=t;obtain⟨l,c,rfl,hl,ok,q⟩:=h;obtain⟨k1,k2,k3⟩:=Cmd.at_ ok;obtain⟨k4,_⟩:=Cmd.tail_low ok;have G:=r c.head;rw[Cmd.kinds_of]at G;obtain⟨b,x,y⟩:=G;refine⟨_,(ar (aO (PW.pt (dm (nR (xr rfl d g (aj (aD K) (pv 0) af (λ_ _=>rfl))) (by with_unfolding_all rfl)) (dI (aK jd (aP (bV K) rfl T.len_ PySem.boot_len (aa (gK rfl d g (aj (aD K) (pv 0) af (λ_ _=>rfl)) (λ_ _=>rfl)) ae)) (aA kA (aP (bV K) rfl T.len_ PySem.boot_len (aa (pv 0) ae)) af) (aC _))))) (ao (ax cF)) aL)
    (ao (ax (aP (kz K rfl) rfl T.all_ PyProof.Rows.boot_all (aa (eh ["kind","word"] [] (wj K rfl T.zip_ (aa (gK rfl d g (aj (aD K) (pv 0) af (λ_ _=>rfl)) (λ_ _=>rfl)) (aa (o4 (nk K) (pv 0) (rT af) m7) ae))) (λ_=>(ez (n:=2) K rfl (bB (aT (i:=0) (show(["kind","word"]:List Vn).Nodup from by decide +kernel) rfl (Or.inl rfl) (Or.inr rfl)) (bB (aT (i:=1) (show(["kind","word"]:List Vn).Nodup from by decide +kernel) rfl (Or.inl rfl) (Or.inr rfl)) dW)))) (λ_=>eJ) (λ_=>(aF o hr (aa (pv 0) (aa (pv 1) ae))))) ae))))),?_⟩
  walk_at"";refine az (ag.of hl) (v:=.str c.head) (bf (j:=0) rfl) ?_;refine⟨.inr c.head,rfl,?_⟩;rw[x];refine rd_exb (av ?_);walk_at"";refine az (ag.of hl) (v:=.str c.head) (bf (j:=0) rfl) ?_;refine ef x ?_;walk_at"";refine dQ (y _) ?_;walk_at"";refine dw (ag.of hl) ?_;walk_at"";rw[zp,zp,Ak (show((c.kinds.length:Nat):Int)=((c.words.length:Nat):Int)-1 by show _=((c.tail.length+1:Nat):Int)-1;omega)];refine av ?_;walk_at"";refine az (ag.of hl) (v:=.str c.head) (bf (j:=0) rfl) ?_;refine ef x ?_;walk_at"";refine qO (ag.of hl) (cE λl2 H2 N B _=>?_);rw[show dP (c.words.map V.str) (Vo 1) Vp=c.tail.map V.str from ph (xs:=c.words.map V.str) (n:=1) (by simp)]at B;refine⟨b,l2,_,_,rfl,y _,ag.of B,?_⟩;refine yK (xs:=c.kinds.map V.str) (ys:=c.tail.map V.str) (λi zs H'=>Ext H2 H'/\zs=(Ac i true).map V.bl) (bb (by rw[zp];omega)) ⟨Ext.rfl' _,rfl⟩ (λi zs H' h=>⟨y _,ag.of (h.1 _ _ B),by rw[h.2];simp⟩) ?_ ?_
  .rintro i u v zs O p Y L hv ⟨I,rfl⟩ R J _;rw[zr]at L hv;obtain⟨k,G,rfl⟩:=zC.mp L;obtain⟨z,S,rfl⟩:=zC.mp hv;obtain⟨v,_,U⟩:=k3 i k z G S;refine cZ (ah.of J) rfl ?_;walk_at"";refine aw ?_;walk_at"";refine⟨k,z,v,rfl,U,λZ W=>?_⟩;refine⟨I.trans (R.trans W),?_⟩;rw[List.replicate_succ',zG];rfl
  .rintro zs O p ⟨I,rfl⟩ J;walk_at"";refine⟨p,_,rfl,ag.of aI,?_⟩;rw[show (Ac (min (c.kinds.map V.str).length (c.tail.map V.str).length) true).all id=true by simp];exact q _ (N.trans (I.trans (bF J)))
def qp(K:zk):Sp:=λvs H Q _=>∃k z v,vs=[.str z]/\gh k z v/\∀H',Ext H H'->Q v H'
abbrev kd:Vl:=stq 110
def sG:FnScope ["word"] ["word"] (ay kd):=⟨rfl,rfl,rfl,by decide +kernel,rfl,by decide +kernel,by decide +kernel⟩
def w4{P:Vd}{w:Ve}{K:zk}{mg:Vn->Option Va}{base:Vh}(D:Dfn K mg "value_of" kd ["word"])(T:Blt mg)(a:Cal P w K mg base "is_number_word" 1 ["word"] (j7 K)):Cal P w K mg base "value_of" 2 ["word"] (qp K):=by
 have nd:=(sG).nd;refine D.ok sG (λvs H Q E h=>?_) (λX j H vs Q E h=>?_)
 .obtain⟨k,z,v,rfl,_⟩:=h;rfl
 .obtain⟨f,cdv,A,outer,s,H0,E0,rfl,hr⟩:=j;obtain⟨k,z,v,rfl,d,q⟩:=h;have hl:=d.low;refine⟨_,(ao (ax (vp (bY (aF a hr (aa (pv 0) ae))) (bt qE rfl T.int_ PyProof.Rows.boot_int (aa (pv 0) ae)) (pv 0)))),?_⟩;walk_at"";refine⟨z,rfl,by omega,λH1 b=>?_⟩;rcases d with⟨_,n,n1,o,rfl,rfl⟩|⟨_,n,g,i,rfl,rfl⟩|⟨_,c,rfl⟩|⟨_,c,rfl⟩
  .rw[jc (by omega) (by omega)];walk_at"";refine aw ?_;walk_at"";exact⟨_,n,rfl,Tx.kE (by omega) (by omega),by omega,q H1 b⟩
  .rw[jc g i];walk_at"";refine aw ?_;walk_at"";exact⟨_,n,rfl,Tx.kE g i,by omega,q H1 b⟩
  .rw[sZ c];walk_at"";refine av ?_;walk_at"";exact q H1 b
  .rw[zc c];walk_at"";refine av ?_;walk_at"";exact q H1 b
abbrev HV:=Int×List Way
def aR(H:Hp)(v:V)(h:HV):Prop:=bN H v h.1 h.2/\HOuse h.1 h.2
theorem aR.ext{H H':Hp}{v:V}{h:HV}(e:Ext H H')(x:aR H v h):aR H' v h:=⟨x.1.ext e,x.2⟩
def Res(K:zk)(H:Hp)(Q:VK)(E:XK):Except Vn HV->Prop
 | .error nm=>∀H',Ext H H'->E (.ref (cA K nm)) Vp H'
 | .ok h=>∀u H',Ext H H'->aR H' u h->Q u H'
def bH(h:HV)(w:Way):Except Vn HV:=if ¬(w.room<h.1/\w.other<h.1)then .error "NoPlace" else if w∈h.2 then .error "NoWay" else if 100<=h.2.length then .error "TooGreat" else .ok (h.1,h.2++[w])
def bT(h:HV)(w:Way):Except Vn HV:=if w∈h.2 then .ok (h.1,h.2.filter λu=>decide (u≠w))else .error "NoWay"
def WayL.lay(h:WayL w):w.Lay:=by
 constructor
 .rcases h.dd with e|e|e|e<;>rw[e]<;>decide +kernel
 .obtain⟨c,h1,h2,e⟩:=h.sg;rw[e];exact rL ⟨c,Nat.lt_succ_of_le h2⟩ h1
def qc{h h':HV}(b:HOuse h.1 h.2)(wl:WayL w)(e:bH h w=.ok h'):HOuse h'.1 h'.2:=by
 unfold bH at e;split at e
 .cases e
 rename_i h1;split at e
 .cases e
 rename_i h2;split at e
 .cases e
 rename_i h3;cases e;obtain⟨r1,o1⟩:=Classical.not_not.mp h1;refine⟨b.m1,b.m12,by rw[zH,List.length_singleton];omega,λu d=>?_,?_⟩
 .rcases zM.mp d with z|z
  .exact b.ok u z
  .rw[zB.mp z];exact⟨wl.r0,r1,wl.o0,o1,wl.dd,wl.sg⟩
 .rw[List.nodup_append];exact⟨b.nd,by simp,λa f c g z=>h2 (by rw[<-zB.mp g,<-z];exact f)⟩
def qW(K:zk):Sp:=λvs H Q _=>∃v l n,vs=[v,.ref l]/\H l=Vo (.lst [.int n])/\1<=n/\n<=12/\∀u H',Ext H H'->aR H' u (n,[])->Q u H'
abbrev lj:Vl:=stq 111
def qM:FnScope ["house","parts"] ["house","parts"] (ay lj):=⟨rfl,rfl,rfl,by decide +kernel,rfl,by decide +kernel,by decide +kernel⟩
def yc{P:Vd}{w:Ve}{K:zk}{mg:Vn->Option Va}{base:Vh}(D:Dfn K mg "rooms_deed" lj ["house","parts"])(T:Blt mg):Cal P w K mg base "rooms_deed" 1 ["house","parts"] (qW K):=by
 have nd:=(qM).nd;refine D.ok qM (λvs H Q E h=>?_) (λX d H vs Q E h=>?_)
 .obtain⟨v,l,n,rfl,_⟩:=h;rfl
 .obtain⟨f,cdv,A,outer,s,H0,E0,rfl,hr⟩:=d;obtain⟨v,l,n,rfl,hl,n1,a,q⟩:=h;refine⟨_,(ao (ax (aB (aa (aj (aD K) (pv 1) af (λ_ _=>rfl)) (aa (aB ae) ae))))),?_⟩;walk_at"";refine az (ag.of hl) (v:=.int n) (bf (j:=0) rfl) ?_;walk_at"";refine au λt H1 g i _=>?_;walk_at"";refine au λu H2 c o _=>?_;exact q _ H2 (g.trans c) ⟨⟨u,t,rfl,o,[],c _ _ i,rfl,λj b k h=>by simp at h⟩,⟨n1,a,Nat.zero_le _,λw h=>(nomatch h),List.nodup_nil⟩⟩
def mn(K:zk):Sp:=λvs H Q E=>∃v h l w,vs=[v,.ref l]/\aR H v h/\H l=Vo (.lst (Way.vs w))/\WayL w/\Res K H Q E (bH h w)
abbrev kU:Vl:=stq 112
def r9:FnScope ["house","parts","way"] ["house","parts"] (ay kU):=⟨rfl,rfl,rfl,by decide +kernel,rfl,by decide +kernel,by decide +kernel⟩
def yE{w:Ve}{K:zk}(D:Dfn K mg "way_deed" kU ["house","parts"])(T:Blt mg)(b:∃t,mg "GREATEST_WAYS" = Vo (.int 100 t))(B:Xf K mg base cR cU)(c:Cal P w K mg base "is_room" 2 ["thing","many"] (kD K)):CalX P w K mg base "way_deed" 3 ["house","parts"] (mn K):=by
 have nd:=(r9).nd;refine D.okX r9 (λvs H Q E h=>?_) (λf cdv A outer s H vs Q E hr h=>?_)
 .obtain⟨v,h,l,w,rfl,_⟩:=h;rfl
 .obtain⟨g,a⟩:=b;obtain⟨v,h,l,w,rfl,⟨hv,ok⟩,hl,wl,r⟩:=h;obtain⟨m,ws⟩:=h;obtain⟨p,t,rfl,o,W⟩:=id hv;obtain⟨bs,C,al⟩:=bC.al W;have R:=ok.few;refine⟨_,(ar (bj (i:=2) nd rfl (Or.inl rfl) (bt (fJ K) rfl T.tuple_ PyProof.Rows.boot_tuple (aa (pv 1) ae)))
    (ar (aO (PW.pt (dm (bX (bY (aF c hr (aa (aj (aE K) (pv 2) af (λ_ _=>rfl)) (aa (aj (aE K) (pv 0) af (λ_ _=>rfl)) ae))))) (dI (bX (bY (aF c hr (aa (aj (aE K) (pv 2) af (λ_ _=>rfl)) (aa (aj (aE K) (pv 0) af (λ_ _=>rfl)) ae)))))))) (ao (fG (B.own "NoPlace" (by decide +kernel)) PySem.F.excBase_ValueError (aa ak ae))) aL)
    (ar (aO (aK (rF hr) (pv 2) (aj (aE K) (pv 0) af (λ_ _=>rfl)) (by with_unfolding_all rfl)) (ao (fG (B.own "NoWay" (by decide +kernel)) PySem.F.excBase_ValueError (aa ak ae))) aL)
    (ar (aO (aK ia (aP (bV K) rfl T.len_ PySem.boot_len (aa (aj (aE K) (pv 0) af (λ_ _=>rfl)) ae)) (bQ (v:=.int 100) rfl a ⟨_,rfl⟩) (aC _)) (ao (fG (B.own "TooGreat" (by decide +kernel)) PySem.F.excBase_ValueError (aa (vL (bQ (v:=.int 100) rfl a ⟨_,rfl⟩)) ae))) aL)
    (ao (ax (aB (aa (aj (aE K) (pv 0) af (λ_ _=>rfl)) (aa (aA jw (aj (aE K) (pv 0) af (λ_ _=>rfl)) (aB (aa (pv 2) ae))) ae))))))))),?_⟩
  walk_at"";refine gg (ag.of hl) (cE λS H1 d k _=>?_);walk_at"";refine aG (ah.of k) (v:=.int w.room) rfl ?_;walk_at"";refine aG (ah.of (d _ _ o)) (v:=.int m) rfl ?_;refine⟨_,_,rfl,?_⟩;walk_at"";rw[Ak wl.r0,Bool.true_and];unfold bH at r;by_cases hr:w.room<m
  rotate_left
  .rw[Aj hr];rw[Am (λz=>hr z.1)]at r;refine aw ?_;walk_at"";exact⟨by decide,r H1 d⟩
  rw[Ak hr];refine av ?_;walk_at"";refine aG (ah.of k) (v:=.int w.other) rfl ?_;walk_at"";refine aG (ah.of (d _ _ o)) (v:=.int m) rfl ?_;refine⟨_,_,rfl,?_⟩;walk_at"";rw[Ak wl.o0,Bool.true_and];by_cases q:w.other<m
  rotate_left
  .rw[Aj q];rw[Am (λz=>q z.2)]at r;refine aw ?_;walk_at"";exact⟨by decide,r H1 d⟩
  rw[Ak q];refine av ?_;rw[Al (λz=>z ⟨hr,q⟩)]at r;walk_at"";refine aG (ah.of (d _ _ o)) (v:=.ref t) rfl ?_;refine i3 (Way.rep k wl.lay) (d _ _ C) ((al.ext d).reps λu G=>(ok.ok u G).lay) (by decide) ?_;simp only[if_false,ip];refine rd_exb ?_;by_cases x:w∈ws
  .rw[Ak x];rw[Am x]at r;refine aw ?_;walk_at"";exact⟨by decide,r H1 d⟩
  rw[Aj x];rw[Al x]at r;refine av ?_;walk_at"";refine aG (ah.of (d _ _ o)) (v:=.ref t) rfl ?_;walk_at"";refine dQ (ah.of (d _ _ C)) ?_;walk_at"";rw[zp,al.1];by_cases j:100<=ws.length
  .rw[Ak (show(100:Int)<=((ws.length:Nat):Int) by omega)];rw[Am j]at r;refine aw ?_;walk_at"";exact⟨by decide,by decide +kernel,by decide +kernel,λz=>⟨bb (by simp),r H1 d⟩⟩
  rw[Aj (show ¬(100:Int)<=((ws.length:Nat):Int) by omega)];rw[Al j]at r;refine av ?_;walk_at"";refine aG (ah.of (d _ _ o)) (v:=.int m) rfl ?_;walk_at"";refine aG (ah.of (d _ _ o)) (v:=.ref t) rfl ?_;walk_at"";refine au λY H2 U I _=>?_;have n:=d.trans U;refine kO (n _ _ C) I (bb (by rw[zp,al.1];simp;omega)) λX Z J L=>?_;walk_at"";refine au λu M y G _=>?_;have N:bu M (bs++[S]) (ws++[w]):=(al.ext (n.trans (J.trans y))).snoc ((U.trans (J.trans y)) _ _ k);have O:M X=Vo (.tup ((bs++[S]).map V.ref)):=by rw[zG];exact y _ _ L
  exact r _ M (n.trans (J.trans y)) ⟨bN.mk G (N.ways O),qc (h:=(m,ws)) ok wl (by unfold bH;rw[Al (λz=>z ⟨hr,q⟩),Al x,Al j])⟩
def pS{h h':HV}(a:HOuse h.1 h.2)(e:bT h w=.ok h'):HOuse h'.1 h'.2:=by
 unfold bT at e;split at e
 .cases e;exact⟨a.m1,a.m12,zT (List.length_filter_le _ _) a.few,λu b=>a.ok u (List.mem_filter.mp b).1,List.Pairwise.filter _ a.nd⟩
 .cases e
def km(K:zk):Sp:=λvs H Q E=>∃v h l w,vs=[v,.ref l]/\aR H v h/\H l=Vo (.lst (Way.vs w))/\WayL w/\Res K H Q E (bT h w)
abbrev kW:Vl:=stq 113
def pj:FnScope ["house","parts","way"] ["house","parts"] (ay kW):=⟨rfl,rfl,rfl,by decide +kernel,rfl,by decide +kernel,by decide +kernel⟩
def sW{w:Ve}{K:zk}(D:Dfn K mg "close_deed" kW ["house","parts"])(T:Blt mg)(W:Xf K mg base cR cU):CalX P w K mg base "close_deed" 1 ["house","parts"] (km K):=by
 have nd:=(pj).nd;refine D.okX pj (λvs H Q E h=>?_) (λf cdv A outer s H vs Q E hr h=>?_)
 .obtain⟨v,h,l,w,rfl,_⟩:=h;rfl
 .obtain⟨v,h,l,w,rfl,⟨hv,ok⟩,hl,wl,r⟩:=h;obtain⟨m,ws⟩:=h;obtain⟨p,t,rfl,I,X⟩:=id hv;obtain⟨bs,J,al⟩:=bC.al X;have M:=ok.few;refine⟨_,(ar (bj (i:=2) nd rfl (Or.inr rfl) (bt (fJ K) rfl T.tuple_ PyProof.Rows.boot_tuple (aa (pv 1) ae)))
    (ar (aO (aK (qP hr) (pv 2) (aj (aE K) (pv 0) af (λ_ _=>rfl)) (by with_unfolding_all rfl)) (ao (fG (W.own "NoWay" (by decide +kernel)) PySem.F.excBase_ValueError (aa ak ae))) aL)
    (ao (ax (aB (aa (aj (aE K) (pv 0) af (λ_ _=>rfl)) (aa (bt (fJ K) rfl T.tuple_ PyProof.Rows.boot_tuple (aa (eh ["other"] [2] (fh K (aj (aE K) (pv 0) af (λ_ _=>rfl))) (λ_=>(aT (i:=0) (show(["other","way"]:List Vn).Nodup from by decide +kernel) rfl (Or.inl rfl) (Or.inr rfl))) (λ_=>(j9 (aK (gD hr) (pv 0) (pv 1) (aC _)))) (λ_=>(pv 0))) ae)) ae))))))),?_⟩
  walk_at"";refine gg (ag.of hl) (cE λwt H1 c n _=>?_);walk_at"";refine aG (ah.of (c _ _ I)) (v:=.ref t) rfl ?_;refine i3 (Way.rep n wl.lay) (c _ _ J) ((al.ext c).reps λu L=>(ok.ok u L).lay) (by decide) ?_;simp only[if_true,ip];refine rd_exb ?_;have d:∀h',bT (m,ws) w=.ok h'->HOuse h'.1 h'.2:=λh'=>pS (h:=(m,ws)) ok;unfold bT at r d;by_cases C:w∈ws
  rotate_left
  .rw[Aj C];rw[Al C]at r;refine aw ?_;walk_at"";exact⟨by decide,r H1 c⟩
  rw[Ak C];rw[Am C]at r d;refine av ?_;walk_at"";refine aG (ah.of (c _ _ I)) (v:=.int m) rfl ?_;walk_at"";refine aG (ah.of (c _ _ I)) (v:=.ref t) rfl ?_;refine eY (ah.of (c _ _ J)) ?_;refine ft (xs:=bs.map V.ref) (λi ys H'=>Ext H1 H'/\∃cs,ys=cs.map V.ref/\bu H' cs ((ws.take i).filter λu=>decide (u≠w))) (ee (by rw[zp,al.1];omega)) ⟨Ext.rfl' _,[],rfl,bu.nil _⟩ (λi ys H' hi h=>⟨ah.of ((c.trans h.1) _ _ J),?_⟩) ?_ ?_
  .obtain⟨_,cs,rfl,Y,_⟩:=h;rw[zp,Y];exact zT (List.length_filter_le _ _) (by rw[Af];exact Nat.min_le_left _ _)
  .rintro i x ys H' N ⟨k,cs,rfl,a⟩;rw[zr]at N;obtain⟨b,O,rfl⟩:=zC.mp N;have hi:i<ws.length:=by rw[<-al.1];exact(zy.mp O).1
   have g:ws[i]?=Vo ws[i]:=zq hi;have j:=(c.trans k) _ _ (al.2 i b _ O g);have q:=(ok.ok _ (zP hi)).lay;rw[List.take_add_one,g,List.filter_append];generalize ws[i]=u at g j q;walk_at"";refine⟨1,1,_,_,Way.rep j q,Way.rep (k _ _ n) wl.lay,by decide,?_⟩;rw[Way.eqv];simp only[if_true];refine rd_exb ?_;by_cases G:u=w
   .rw[Ak G];refine av ?_;refine⟨k,cs,rfl,?_⟩;have:List.filter (λu=>decide (u≠w)) (Vo u).toList=[]:=by subst G;simp
    rw[this,List.append_nil];exact a
   .rw[Aj G];refine aw ?_;walk_at"";refine⟨k,cs++[b],by rw[zG];rfl,?_⟩;have:List.filter (λu=>decide (u≠w)) (Vo u).toList=[u]:=by simp[G]
    rw[this];exact a.snoc j
  .rintro ys H' l2 ⟨k,cs,rfl,a⟩ y;rw[zp,al.1,zR]at a;walk_at"";have R:Ext H1 (upd H' l2 (.lst (cs.map V.ref))):=k.trans (bF y);have z:=a.ext (bF (o:=.lst (cs.map V.ref)) y);have B:upd H' l2 (.lst (cs.map V.ref)) l2=Vo (.lst (cs.map V.ref)):=aI;generalize upd H' l2 (.lst (cs.map V.ref))=H4 at R z B ⊢;refine gg (ag.of B) (cE λt2 H5 S Z _=>?_);walk_at"";refine au λu H6 U L _=>?_;exact r _ H6 (c.trans (R.trans (S.trans U))) ⟨bN.mk L (((z.ext S).ways Z).ext U),d _ rfl⟩
def nF(K:zk):Sp:=λvs H Q _=>∃v h p,vs=[v,p]/\aR H v h/\∀u H',Ext H H'->aR H' u (h.1,h.2.map Way.turn)->Q u H'
abbrev mB:Vl:=stq 114
def pz:FnScope ["house","parts"] ["house","parts"] (ay mB):=⟨rfl,rfl,rfl,by decide +kernel,rfl,by decide +kernel,by decide +kernel⟩
def sN{P:Vd}{w:Ve}{K:zk}{mg:Vn->Option Va}{base:Vh}(D:Dfn K mg "turn_deed" mB ["house","parts"])(T:Blt mg)(a:Cal P w K mg base "turned_about" 7 ["house"] (rj K)):Cal P w K mg base "turn_deed" 8 ["house","parts"] (nF K):=by
 have nd:=(pz).nd;refine D.ok pz (λvs H Q E h=>?_) (λX b H vs Q E h=>?_)
 .obtain⟨v,h,p,rfl,_⟩:=h;rfl
 .obtain⟨f,cdv,A,outer,s,H0,E0,rfl,hr⟩:=b;obtain⟨v,h,p,rfl,⟨hv,ok⟩,q⟩:=h;refine⟨_,(ao (ax (aF a hr (aa (pv 0) ae)))),?_⟩;walk_at"";exact⟨v,_,_,rfl,hv,ok,λu H' e c=>q u H' e ⟨c,ok.turn⟩⟩
def p4(K:zk):Sp:=λvs H Q _=>∃v h p,vs=[v,p]/\aR H v h/\∀H',Ext H H'->Q (.str (aX h.1 h.2)) H'
abbrev jB:Vl:=stq 115
def qy:FnScope ["house","parts"] ["house","parts"] (ay jB):=⟨rfl,rfl,rfl,by decide +kernel,rfl,by decide +kernel,by decide +kernel⟩
def sT{P:Vd}{w:Ve}{K:zk}{mg:Vn->Option Va}{base:Vh}(D:Dfn K mg "show_ask" jB ["house","parts"])(T:Blt mg)(a:Cal P w K mg base "shown_house" 7 ["house"] (j5 K)):Cal P w K mg base "show_ask" 8 ["house","parts"] (p4 K):=by
 have nd:=(qy).nd;refine D.ok qy (λvs H Q E h=>?_) (λX b H vs Q E h=>?_)
 .obtain⟨v,h,p,rfl,_⟩:=h;rfl
 .obtain⟨f,cdv,A,outer,s,H0,E0,rfl,hr⟩:=b;obtain⟨v,h,p,rfl,⟨hv,ok⟩,q⟩:=h;refine⟨_,(ao (ax (aF a hr (aa (pv 0) ae)))),?_⟩;walk_at"";exact⟨v,_,_,rfl,hv,ok,q⟩
structure Dk where
 cur:HV
 past:List HV
 und:List HV
def Dk.doD(d:Dk)(h:HV):Dk:=⟨h,d.past++[d.cur],[]⟩
def bp(v:V)(l1 l2:Vb):List (Vn×V):=aY "undone" (.ref l2) (aY "past" (.ref l1) (aY "house" v []))
def nZ:¬(("house":Vn) = "past"):=by decide +kernel
def lU:¬(("house":Vn) = "undone"):=by decide +kernel
def lY:¬(("past":Vn) = "undone"):=by decide +kernel
def gq(v:V)(l1 l2:Vb):bp v l1 l2=([("house",v),("past",.ref l1),("undone",.ref l2)]:List (Vn×V)):=by
 unfold bp;show aY "undone" (.ref l2) (aY "past" (.ref l1) ([("house",v)]:List (Vn×V)))=_;rw[show aY "past" (.ref l1) ([("house",v)]:List (Vn×V))=([("house",v),("past",.ref l1)]:List (Vn×V)) by show(if("house":Vn) = "past" then _ else(("house":Vn),v)::_)=_;rw[Al nZ];rfl]
 show(if("house":Vn) = "undone" then _ else(("house":Vn),v)::(if("past":Vn) = "undone" then _ else(("past":Vn),V.ref l1)::_))=_;rw[Al lU,Al lY];rfl
def dv(v:V)(l1 l2:Vb):(bp v l1 l2).lookup ("house":Vn)=Vo v:=by unfold bp;rw[cW,Al lU,cW,Al nZ,cW,Am rfl]
def jo(v:V)(l1 l2:Vb):(bp v l1 l2).lookup ("past":Vn)=Vo (.ref l1):=by unfold bp;rw[cW,Al lY,cW,Am rfl]
def j4(v:V)(l1 l2:Vb):(bp v l1 l2).lookup ("undone":Vn)=Vo (.ref l2):=by unfold bp;rw[cW,Am rfl]
def eX(v:V)(l1 l2:Vb){m:Vn}(h1:¬m = "undone")(h2:¬m = "past")(a:¬m = "house"):(bp v l1 l2).lookup m=Vp:=by unfold bp;rw[cW,Al h1,cW,Al h2,cW,Al a];rfl
def iV(v:V)(l1 l2:Vb):(bp v l1 l2).length<1000:=by rw[gq];show 3<1000;decide
def j8(v u:V)(l1 l2:Vb):aY "house" u (bp v l1 l2)=bp u l1 l2:=by rw[gq,gq];show(if("house":Vn) = "house" then(("house":Vn),u)::_ else _)=_;rw[Am rfl]
def vI(v:V)(l1 l2 l3:Vb):aY "undone" (.ref l3) (bp v l1 l2)=bp v l1 l3:=by rw[gq,gq];show(if("house":Vn) = "undone" then _ else(("house":Vn),v)::(if("past":Vn) = "undone" then _ else(("past":Vn),V.ref l1)::(if("undone":Vn) = "undone" then(("undone":Vn),V.ref l3)::_ else _)))=_;rw[Al lU,Al lY,Am rfl]
structure DkAt(K:zk)(H:Hp)(p l1 l2:Vb)(d:Dk):Prop where
 ob:∃dx v,H p=Vo (.ins (cA K "Desk") dx (bp v l1 l2))/\aR H v d.cur
 ps:∃vs,H l1=Vo (.lst vs)/\Paired (aR H) vs d.past
 un:∃vs,H l2=Vo (.lst vs)/\Paired (aR H) vs d.und
 ne:l1≠l2
def Tk(H H':Hp):Prop:=∀b xs,H b=Vo (.tup xs)->H' b=Vo (.tup xs)
def aR.tk{v:V}{h:HV}(e:Tk H H')(x:aR H v h):aR H' v h:=by obtain⟨⟨p,q,rfl,h1,bs,h2,a,c⟩,ok⟩:=x;exact⟨⟨p,q,rfl,e _ _ h1,bs,e _ _ h2,a,λj b k d f=>e _ _ (c j b k d f)⟩,ok⟩
def bx(e:Tk H H'){vs:List V}{a:List HV}(h:Paired (aR H) vs a):Paired (aR H') vs a:=Paired.mapP h λ_ _ x=>x.tk e
theorem DkAt.ext{K:zk}{H H':Hp}{p l1 l2:Vb}{d:Dk}(e:Ext H H')(h:DkAt K H p l1 l2 d):DkAt K H' p l1 l2 d:=by obtain⟨⟨dx,v,a1,a2⟩,⟨vs,a,b⟩,⟨us,c1,c2⟩,ne⟩:=h;exact⟨⟨dx,v,e _ _ a1,a2.ext e⟩,⟨vs,e _ _ a,bx (λ_ _ z=>e _ _ z) b⟩,⟨us,e _ _ c1,bx (λ_ _ z=>e _ _ z) c2⟩,ne⟩
def qi{α β:Type}{F:α->β->Prop}{d:List α}{R:List β}{z:β}(h:Paired F d (R++[z])):∃c b,d=c++[b]/\Paired F c R/\F b z:=by
 induction R generalizing d with
 | nil=>
  cases h with
  | cons a t=>
   cases t;exact⟨[],_,rfl,.nil,a⟩
 | cons r R f=>
  cases h with
  | cons a t=>
   obtain⟨c,b,rfl,h1,h2⟩:=f t;exact⟨_::c,b,rfl,.cons a h1,h2⟩
def iS(h:n<=24100):n<sizeLine:=Nat.lt_of_le_of_lt h (by decide)
def Fr(H H':Hp)(p l1 l2:Vb):Prop:=∀b o,H b=Vo o->b≠p->b≠l1->b≠l2->H' b=Vo o
def Fr.of(e:Ext H H'):Fr H H' p l1 l2:=λb o z _ _ _=>e b o z
def ko(K:zk):Sp:=λvs H Q _=>∃p dx,vs=[.ref p]/\H p=Vo (.ins (cA K "Desk") dx [])/\∀l1 l2 H',H l1=Vp->H l2=Vp->DkAt K H' p l1 l2 ⟨(1,[]),[],[]⟩->(∀b o,H b=Vo o->b≠p->H' b=Vo o)->Q .non H'
abbrev gp:Vl:=inClass (stq 124) 0
def pd:FnScope ["self"] ["self"] (ay gp):=⟨rfl,rfl,rfl,by decide +kernel,rfl,by decide +kernel,by decide +kernel⟩
def v9{w:Ve}{K:zk}{fd:Vm}(F:Fun K "__init__" "Desk.__init__" gp f fd)(T:Blt mg)(TD:DeskK K mg):FnOk P w K mg base cQ 1 f fd ["self"] (ko K):=by
 have nd:=(pd).nd;refine F.ok pd (λvs H Q E h=>?_) (λcdv A outer s H vs Q E hr h=>?_)
 .obtain⟨p,dx,rfl,_⟩:=h;rfl
 .obtain⟨p,dx,rfl,C,q⟩:=h;refine⟨_,(ar (fE (pv 0) (aB (aa af (aa (aB ae) ae))) rfl)
    (ar (fE (pv 0) (bA ae) rfl)
    (ao (fE (pv 0) (bA ae) rfl)))),?_⟩
  walk_at"";refine au λt H1 I J _=>?_;walk_at"";refine au λu H2 G L _=>?_;walk_at"";have d:=I.trans G;refine⟨p,_,dx,_,rfl,d _ _ C,TD.cl,TD.nH,(by decide),?_⟩;have hv:aR H2 (.ref u) (1,[]):=⟨⟨u,t,rfl,L,[],G _ _ J,rfl,λj b k h=>by simp at h⟩,⟨by decide,by decide,Nat.zero_le _,λw h=>(nomatch h),List.nodup_nil⟩⟩;walk_at"";refine au λl1 M n r c=>?_;walk_at"";refine⟨p,_,dx,_,rfl,n _ _ aI,TD.cl,TD.nP,(by have:=gC "house" (V.ref u) [];exact Nat.lt_of_le_of_lt this (by decide)),?_⟩;walk_at"";refine au λl2 N v x a=>?_;walk_at"";refine⟨p,_,dx,_,rfl,v _ _ aI,TD.cl,TD.nU,(by have h1:=gC "house" (V.ref u) [];have h2:=gC "past" (V.ref l1) (aY "house" (V.ref u) []);have R:([]:List (Vn×V)).length=0:=rfl;omega),?_⟩;walk_at"";have y:=d _ _ C;have n1:l1≠p:=λe=>by rw[e,aI]at c;cases c
  have n2:l2≠p:=λe=>by rw[e,aI]at a;cases a
  have i:H2 l1=Vp:=by rw[aq n1]at c;exact c
  have g:upd M p (.ins (cA K "Desk") dx (aY "past" (.ref l1) (aY "house" (.ref u) []))) l1=Vo (.lst []):=by rw[aq n1];exact r
  have all:∀b o,H2 b=Vo o->b≠p->upd N p (.ins (cA K "Desk") dx (aY "undone" (.ref l2) (aY "past" (.ref l1) (aY "house" (.ref u) [])))) b=Vo o:=λb o z nb=>by rw[aq nb];refine v _ _ ?_;rw[aq nb];refine n _ _ ?_;rw[aq nb];exact z
  have n3:l1≠l2:=λe=>by rw[<-e,g]at a;cases a
  refine q l1 l2 _ (d.none i) ?_ ⟨⟨dx,.ref u,aI,hv.tk λb xs z=>all b _ z (bh z y (by intro z;cases z))⟩,⟨[],by rw[aq n1];exact v _ _ g,.nil⟩,⟨[],by rw[aq n2];exact x,.nil⟩,n3⟩ λb o O B=>all b o (d _ _ O) B;refine d.none ?_;rw[aq n2]at a;have:=n.none a
  rwa [aq n2]at this
def lS(K:zk):Sp:=λvs H Q _=>∃p l1 l2 d v h,vs=[.ref p,v]/\DkAt K H p l1 l2 d/\aR H v h/\d.past.length<=10000/\∀l3 H',H l3=Vp->DkAt K H' p l1 l3 (d.doD h)->Fr H H' p l1 l2->Q .non H'
abbrev fY:Vl:=inClass (stq 124) 2
def n8:FnScope ["self","house"] ["self","house"] (ay fY):=⟨rfl,rfl,rfl,by decide +kernel,rfl,by decide +kernel,by decide +kernel⟩
def yz{w:Ve}{K:zk}(D:MDfn K (cA K "Desk") "do" "Desk.do" fY ["self","house"])(T:Blt mg)(TD:DeskK K mg):MetX P w K mg base (cA K "Desk") "do" 1 ["self","house"] (lS K):=by
 have nd:=(n8).nd;refine D.okX n8 (λvs H Q E h=>?_) (λf cdv A outer s H vs Q E hr h=>?_)
 .obtain⟨p,l1,l2,d,v,h,rfl,_⟩:=h;rfl
 .obtain⟨p,l1,l2,d,v,h,rfl,D,hv,hl,q⟩:=h;obtain⟨⟨dx,c,a1,a2⟩,⟨vs,i,n⟩,⟨us,c1,c2⟩,ne⟩:=id D;have g:p≠l1:=bh a1 i (by intro z;cases z);have t:=Paired.length n;refine⟨_,(ar (cL (cN K zx zK zL fS (cC (pv 0) rfl) (aa (cC (pv 0) rfl) ae)))
    (ar (fE (pv 0) (pv 1) rfl)
    (ao (fE (pv 0) (bA ae) rfl)))),?_⟩
  walk_at"";refine⟨p,_,dx,_,_,rfl,a1,TD.cl,TD.nP,jo _ _ _,?_⟩;refine⟨dC (ag.of i),?_⟩;walk_at"";refine⟨p,_,dx,_,_,rfl,a1,TD.cl,TD.nH,dv _ _ _,?_⟩;walk_at"";refine f6 i (iS (by omega)) ?_;walk_at"";have ap:upd H l1 (.lst (vs++[c])) p=Vo (.ins (cA K "Desk") dx (bp c l1 l2)):=by rw[aq g];exact a1
  refine⟨p,_,dx,_,rfl,ap,TD.cl,TD.nH,iV _ _ _,?_⟩;rw[j8];walk_at"";refine au λl3 r j k a=>?_;walk_at"";refine⟨p,_,dx,_,rfl,j _ _ aI,TD.cl,TD.nU,iV _ _ _,?_⟩;rw[vI];have n1:l3≠p:=λe=>by rw[e,aI]at a;cases a
  have n2:l3≠l1:=λe=>by rw[e,aq g.symm,aI]at a;cases a
  have all:∀b o,H b=Vo o->b≠p->b≠l1->upd r p (.ins (cA K "Desk") dx (bp v l1 l3)) b=Vo o:=λb o z nb nl=>by rw[aq nb];refine j _ _ ?_;rw[aq nb,aq nl];exact z
  have tk:Tk H (upd r p (.ins (cA K "Desk") dx (bp v l1 l3))):=λb xs z=>all b _ z (bh z a1 (by intro z;cases z)) (bh z i (by intro z;cases z));refine q l3 _ ?_ ⟨⟨dx,v,aI,hv.tk tk⟩,⟨vs++[c],?_,Paired.snoc (bx tk n) (a2.tk tk)⟩,⟨[],by rw[aq n1];exact k,.nil⟩,n2.symm⟩ λb o z n1 n2 _=>all b o z n1 n2
  .rw[aq n1,aq n2]at a;exact a
  .rw[aq g.symm];refine j _ _ ?_;rw[aq g.symm,aI]
def kQ(K:zk):Sp:=λvs H Q E=>∃p l1 l2 d,vs=[.ref p]/\DkAt K H p l1 l2 d/\d.und.length<=10000/\(d.past=[]->∀H',Ext H H'->E (.ref (cA K "NoDeed")) Vp H') ∧
 ∀ps h,d.past=ps++[h]->∀H',DkAt K H' p l1 l2 ⟨h,ps,d.und++[d.cur]⟩->Fr H H' p l1 l2->Q .non H'
abbrev fU:Vl:=inClass (stq 124) 3
def qz:FnScope ["self"] ["self"] (ay fU):=⟨rfl,rfl,rfl,by decide +kernel,rfl,by decide +kernel,by decide +kernel⟩
def vV{w:Ve}{K:zk}(D:MDfn K (cA K "Desk") "undo" "Desk.undo" fU ["self"])(T:Blt mg)(u:Xf K mg base cR cU)(TD:DeskK K mg):MetX P w K mg base (cA K "Desk") "undo" 1 ["self"] (kQ K):=by
 have nd:=(qz).nd;refine D.okX qz (λvs H Q E h=>?_) (λf cdv A outer s H vs Q E hr h=>?_)
 .obtain⟨p,l1,l2,d,rfl,_⟩:=h;rfl
 .obtain⟨p,l1,l2,d,rfl,D,hl,v,q⟩:=h;obtain⟨⟨dx,c,a1,a2⟩,⟨vs,g,k⟩,⟨us,c1,c2⟩,ne⟩:=id D;have i:p≠l1:=bh a1 g (by intro z;cases z);have j:p≠l2:=bh a1 c1 (by intro z;cases z);have ul:=Paired.length c2;refine⟨_,(ar (aO (bX (rp K (cC (pv 0) rfl) (λ_=>rfl))) (ao (fG (u.own "NoDeed" (by decide +kernel)) PySem.F.excBase_ValueError (aa ak ae))) aL)
    (ar (cL (cN K zx zK zL fS (cC (pv 0) rfl) (aa (cC (pv 0) rfl) ae)))
    (ao (fE (pv 0) (lD K zx PySem.F.slot_list_pop PySem.F.type_list_pop lW (cC (pv 0) rfl)) rfl)))),?_⟩
  walk_at"";refine⟨p,_,dx,_,_,rfl,a1,TD.cl,TD.nP,jo _ _ _,?_⟩;by_cases n:d.past=[]
  .have:vs=[]:=by rw[n]at k;cases k;rfl
   subst this;refine⟨false,.inl ⟨_,ag.of g,rfl⟩,?_⟩;refine aw ?_;walk_at"";exact⟨by decide,v n _ (Ext.rfl' _)⟩
  obtain⟨ps,h,r⟩:∃ps h,d.past=ps++[h]:=⟨d.past.dropLast,d.past.getLast n,(List.dropLast_concat_getLast n).symm⟩;have q:=q ps h r;rw[r]at k;obtain⟨a,w,rfl,x,y⟩:∃a w,vs=a++[w]/\Paired (aR H) a ps/\aR H w h:=qi k;refine⟨true,.inl ⟨_,ag.of g,by simp⟩,?_⟩;refine av ?_;walk_at"";refine⟨p,_,dx,_,_,rfl,a1,TD.cl,TD.nU,j4 _ _ _,?_⟩;refine⟨dC (ag.of c1),?_⟩;walk_at"";refine⟨p,_,dx,_,_,rfl,a1,TD.cl,TD.nH,dv _ _ _,?_⟩;walk_at"";refine f6 c1 (iS (by omega)) ?_;walk_at"";have a3:upd H l2 (.lst (us++[c])) p=Vo (.ins (cA K "Desk") dx (bp c l1 l2)):=by rw[aq j];exact a1
  have t:upd H l2 (.lst (us++[c])) l1=Vo (.lst (a++[w])):=by rw[aq ne];exact g
  refine⟨p,_,dx,_,_,rfl,a3,TD.cl,TD.nP,jo _ _ _,?_⟩;refine⟨dC (ag.of t),?_⟩;walk_at"";refine⟨l1,_,w,rfl,rfl,t,by rw[zH,List.length_singleton,Nat.add_sub_cancel,zN (zJ _),Nat.sub_self];rfl,?_⟩;rw[List.dropLast_concat];walk_at"";have a4:upd (upd H l2 (.lst (us++[c]))) l1 (.lst a) p=Vo (.ins (cA K "Desk") dx (bp c l1 l2)):=by rw[aq i];exact a3
  refine⟨p,_,dx,_,rfl,a4,TD.cl,TD.nH,iV _ _ _,?_⟩;rw[j8];have all:∀b o,H b=Vo o->b≠p->b≠l1->b≠l2->upd (upd (upd H l2 (.lst (us++[c]))) l1 (.lst a)) p (.ins (cA K "Desk") dx (bp w l1 l2)) b=Vo o:=λb o z n1 n2 n3=>by rw[aq n1,aq n2,aq n3];exact z
  have tk:Tk H (upd (upd (upd H l2 (.lst (us++[c]))) l1 (.lst a)) p (.ins (cA K "Desk") dx (bp w l1 l2))):=λb xs z=>all b _ z (bh z a1 (by intro z;cases z)) (bh z g (by intro z;cases z)) (bh z c1 (by intro z;cases z));exact q _ ⟨⟨dx,w,aI,y.tk tk⟩,⟨a,by rw[aq i.symm,aI],bx tk x⟩,⟨us++[c],by rw[aq j.symm,aq ne.symm,aI],Paired.snoc (bx tk c2) (a2.tk tk)⟩,ne⟩ all
def mD(K:zk):Sp:=λvs H Q E=>∃p l1 l2 d,vs=[.ref p]/\DkAt K H p l1 l2 d/\d.past.length<=10000/\(d.und=[]->∀H',Ext H H'->E (.ref (cA K "NoDeed")) Vp H') ∧
 ∀us h,d.und=us++[h]->∀H',DkAt K H' p l1 l2 ⟨h,d.past++[d.cur],us⟩->Fr H H' p l1 l2->Q .non H'
abbrev fM:Vl:=inClass (stq 124) 4
def rY:FnScope ["self"] ["self"] (ay fM):=⟨rfl,rfl,rfl,by decide +kernel,rfl,by decide +kernel,by decide +kernel⟩
def xC{w:Ve}{K:zk}(D:MDfn K (cA K "Desk") "redo" "Desk.redo" fM ["self"])(T:Blt mg)(t:Xf K mg base cR cU)(TD:DeskK K mg):MetX P w K mg base (cA K "Desk") "redo" 1 ["self"] (mD K):=by
 have nd:=(rY).nd;refine D.okX rY (λvs H Q E h=>?_) (λf cdv A outer s H vs Q E hr h=>?_)
 .obtain⟨p,l1,l2,d,rfl,_⟩:=h;rfl
 .obtain⟨p,l1,l2,d,rfl,D,hl,u,q⟩:=h;obtain⟨⟨dx,c,a1,a2⟩,⟨us,j,n⟩,⟨vs,c1,c2⟩,ne⟩:=id D;have g:p≠l1:=bh a1 j (by intro z;cases z);have i:p≠l2:=bh a1 c1 (by intro z;cases z);have ul:=Paired.length n;refine⟨_,(ar (aO (bX (rp K (cC (pv 0) rfl) (λ_=>rfl))) (ao (fG (t.own "NoDeed" (by decide +kernel)) PySem.F.excBase_ValueError (aa ak ae))) aL)
    (ar (cL (cN K zx zK zL fS (cC (pv 0) rfl) (aa (cC (pv 0) rfl) ae)))
    (ao (fE (pv 0) (lD K zx PySem.F.slot_list_pop PySem.F.type_list_pop lW (cC (pv 0) rfl)) rfl)))),?_⟩
  walk_at"";refine⟨p,_,dx,_,_,rfl,a1,TD.cl,TD.nU,j4 _ _ _,?_⟩;by_cases k:d.und=[]
  .have:vs=[]:=by rw[k]at c2;cases c2;rfl
   subst this;refine⟨false,.inl ⟨_,ag.of c1,rfl⟩,?_⟩;refine aw ?_;walk_at"";exact⟨by decide,u k _ (Ext.rfl' _)⟩
  obtain⟨ps,h,r⟩:∃ps h,d.und=ps++[h]:=⟨d.und.dropLast,d.und.getLast k,(List.dropLast_concat_getLast k).symm⟩;have q:=q ps h r;rw[r]at c2;obtain⟨a,w,rfl,c3,c4⟩:∃a w,vs=a++[w]/\Paired (aR H) a ps/\aR H w h:=qi c2;refine⟨true,.inl ⟨_,ag.of c1,by simp⟩,?_⟩;refine av ?_;walk_at"";refine⟨p,_,dx,_,_,rfl,a1,TD.cl,TD.nP,jo _ _ _,?_⟩;refine⟨dC (ag.of j),?_⟩;walk_at"";refine⟨p,_,dx,_,_,rfl,a1,TD.cl,TD.nH,dv _ _ _,?_⟩;walk_at"";refine f6 j (iS (by omega)) ?_;walk_at"";have a3:upd H l1 (.lst (us++[c])) p=Vo (.ins (cA K "Desk") dx (bp c l1 l2)):=by rw[aq g];exact a1
  have c5:upd H l1 (.lst (us++[c])) l2=Vo (.lst (a++[w])):=by rw[aq ne.symm];exact c1
  refine⟨p,_,dx,_,_,rfl,a3,TD.cl,TD.nU,j4 _ _ _,?_⟩;refine⟨dC (ag.of c5),?_⟩;walk_at"";refine⟨l2,_,w,rfl,rfl,c5,by rw[zH,List.length_singleton,Nat.add_sub_cancel,zN (zJ _),Nat.sub_self];rfl,?_⟩;rw[List.dropLast_concat];walk_at"";have a4:upd (upd H l1 (.lst (us++[c]))) l2 (.lst a) p=Vo (.ins (cA K "Desk") dx (bp c l1 l2)):=by rw[aq i];exact a3
  refine⟨p,_,dx,_,rfl,a4,TD.cl,TD.nH,iV _ _ _,?_⟩;rw[j8];have all:∀b o,H b=Vo o->b≠p->b≠l1->b≠l2->upd (upd (upd H l1 (.lst (us++[c]))) l2 (.lst a)) p (.ins (cA K "Desk") dx (bp w l1 l2)) b=Vo o:=λb o z n1 n2 n3=>by rw[aq n1,aq n3,aq n2];exact z
  have tk:Tk H (upd (upd (upd H l1 (.lst (us++[c]))) l2 (.lst a)) p (.ins (cA K "Desk") dx (bp w l1 l2))):=λb xs z=>all b _ z (bh z a1 (by intro z;cases z)) (bh z j (by intro z;cases z)) (bh z c1 (by intro z;cases z));exact q _ ⟨⟨dx,w,aI,c4.tk tk⟩,⟨us++[c],by rw[aq g.symm,aq ne,aI],Paired.snoc (bx tk n) (a2.tk tk)⟩,⟨a,by rw[aq i.symm,aI],bx tk c3⟩,ne⟩ all
def aQ(d:Dk):Cmd->Except Vn (Vn×Dk)
 | .rooms n=>.ok (aX n [],d.doD (n,[]))
 | .way w=>match bH d.cur w with
  | .error z=>.error z
  | .ok h=>.ok (aX h.1 h.2,d.doD h)
 | .close w=>match bT d.cur w with
  | .error z=>.error z
  | .ok h=>.ok (aX h.1 h.2,d.doD h)
 | .turn=>.ok (aX d.cur.1 (d.cur.2.map Way.turn),d.doD (d.cur.1,d.cur.2.map Way.turn))
 | .undo=>match d.past.getLast? with
  | none=>.error "NoDeed"
  | some h=>.ok (aX h.1 h.2,⟨h,d.past.dropLast,d.und++[d.cur]⟩)
 | .redo=>match d.und.getLast? with
  | none=>.error "NoDeed"
  | some h=>.ok (aX h.1 h.2,⟨h,d.past++[d.cur],d.und.dropLast⟩)
 | .show=>.ok (aX d.cur.1 d.cur.2,d)
def fF(K:zk):List (Key×V):=[(.inr "rooms",.ref (cA K "rooms_deed")),(.inr "way",.ref (cA K "way_deed")),(.inr "close",.ref (cA K "close_deed")),(.inr "turn",.ref (cA K "turn_deed"))]
def hI(K:zk):List (Key×V):=[(.inr "show",.ref (cA K "show_ask")),(.inr "reach",.ref (cA K "reach_ask")),(.inr "forward",.ref (cA K "forward_ask")),(.inr "backward",.ref (cA K "backward_ask")),(.inr "most",.ref (cA K "most_ask")),(.inr "fate",.ref (cA K "fate_ask")),(.inr "word",.ref (cA K "word_ask"))]
def wV{K:zk}(h:z∈(["rooms","way","close","turn","undo","redo"]:List Vn)):ba (hI K) (.inr z)=Vp:=by
 have n:∀y∈(["show","reach","forward","backward","most","fate","word"]:List Vn),∀z∈(["rooms","way","close","turn","undo","redo"]:List Vn),y≠z:=by decide +kernel
 unfold hI
 repeat rw [du (λe=>n _ (by simp) z h (Sum.inr.inj e))]
 rfl
def jr(K:zk):ba (fF K) (.inr "rooms")=Vo (.ref (cA K "rooms_deed"))/\ba (fF K) (.inr "way")=Vo (.ref (cA K "way_deed"))/\ba (fF K) (.inr "close")=Vo (.ref (cA K "close_deed"))/\ba (fF K) (.inr "turn")=Vo (.ref (cA K "turn_deed")):=by
 have n:("rooms":Vn)≠"way"/\("rooms":Vn)≠"close"/\("rooms":Vn)≠"turn"/\("way":Vn)≠"close"/\("way":Vn)≠"turn"/\("close":Vn)≠"turn":=by decide +kernel
 obtain⟨n1,n2,n3,n4,n5,a⟩:=n;unfold fF;refine⟨ec rfl,?_,?_,?_⟩
 .rw[du (λe=>n1 (Sum.inr.inj e)),ec rfl]
 .rw[du (λe=>n2 (Sum.inr.inj e)),du (λe=>n4 (Sum.inr.inj e)),ec rfl]
 .rw[du (λe=>n3 (Sum.inr.inj e)),du (λe=>n5 (Sum.inr.inj e)),du (λe=>a (Sum.inr.inj e)),ec rfl]
def Told(K:zk)(H:Hp)(p l1 l2:Vb)(Q:VK)(E:XK):Except Vn (Vn×Dk)->Prop
 | .error nm=>∀H',Ext H H'->E (.ref (cA K nm)) Vp H'
 | .ok (z,d')=>∀l3 H',(l3=l2\/H l3=Vp)->DkAt K H' p l1 l3 d'->Fr H H' p l1 l2->Q (.str z) H'
def kF(K:zk):Sp:=λvs H Q E=>∃p l1 l2 d c,vs=[.ref p,.str (Cmd.line c)]/\DkAt K H p l1 l2 d/\c.Ok/\d.past.length<=10000/\d.und.length<=10000/\Told K H p l1 l2 Q E (aQ d c)
abbrev fN:Vl:=inClass (stq 124) 1
def qJ:FnScope ["self","line","words","parts"] ["self","line"] (ay fN):=⟨rfl,rfl,rfl,by decide +kernel,rfl,by decide +kernel,by decide +kernel⟩
def sP{w:Ve}{K:zk}(D:MDfn K (cA K "Desk") "tell" "Desk.tell" fN ["self","line"])(T:Blt mg)(W:∃a,mg "DEEDS" = Vo (.ref a)/\GDict w K a (fF K))(a0:∃a,mg "ASKS" = Vo (.ref a)/\GDict w K a (hI K))(XF:Xf K mg base cR cU)(TD:DeskK K mg)(x:MetX P w K mg base (cA K "Desk") "undo" 1 ["self"] (kQ K))(y:MetX P w K mg base (cA K "Desk") "redo" 1 ["self"] (mD K))(J:MetX P w K mg base (cA K "Desk") "do" 1 ["self","house"] (lS K))(q:Cal P w K mg base "shown_house" 7 ["house"] (j5 K))(B:Cal P w K mg base "rooms_deed" 1 ["house","parts"] (qW K))(G:Cal P w K mg base "turn_deed" 8 ["house","parts"] (nF K))(L:Cal P w K mg base "show_ask" 8 ["house","parts"] (p4 K))(M:Cal P w K mg base "value_of" 2 ["word"] (qp K))(N:Cal P w K mg base "is_line" 3 ["words"] (p8 K))(I:CalX P w K mg base "way_deed" 3 ["house","parts"] (mn K))(t:CalX P w K mg base "close_deed" 1 ["house","parts"] (km K)):MetX P w K mg base (cA K "Desk") "tell" 9 ["self","line"] (kF K):=by
 have nd:=(qJ).nd;refine D.okX qJ (λvs H Q E h=>?_) (λf cdv A outer s H vs Q E hr h=>?_)
 .obtain⟨p,l1,l2,d,c,rfl,_⟩:=h;rfl
 .obtain⟨a6,X,Y⟩:=W;obtain⟨ab,O,R⟩:=a0;obtain⟨p,l1,l2,d,c,rfl,D,ok,f1,f2,r⟩:=h;obtain⟨k1,k2,k3⟩:=Cmd.at_ ok;obtain⟨k4,_⟩:=Cmd.tail_low ok;have am:=Cmd.line_len ok;refine⟨_,(ar (bj (i:=2) nd rfl (Or.inl rfl) (cN K PySem.F.plainAttrs_str PySem.F.slot_str_split PySem.F.type_str_split wA (pv 1) (aa ak ae)))
    (ar (aO (bX (bY (aF N hr (aa (pv 2) ae)))) (ao (fG (XF.own "NoLine" (by decide +kernel)) PySem.F.excBase_ValueError (aa ak ae))) aL)
    (ar (mP (i:=3) ["word"] [] nd rfl (Or.inl rfl) (o5 K (o4 (nk K) (pv 2) (rT af) m7)) (λ_=>(aT (i:=0) (show(["word"]:List Vn).Nodup from by decide +kernel) rfl (Or.inl rfl) (Or.inr rfl))) (λ_=>eJ) (λ_=>(aF M hr (aa (pv 0) ae))))
    (ar (aO (nR (m6 rfl O R (aj (aD K) (pv 2) af (λ_ _=>rfl))) (by with_unfolding_all rfl)) (ao (ax (mO hr (gK rfl O R (aj (aD K) (pv 2) af (λ_ _=>rfl)) (λ_ _=>rfl)) (aa (cC (pv 0) rfl) (aa (pv 3) ae))))) aL)
    (ar (eW (aK bE (aj (aD K) (pv 2) af (λ_ _=>rfl)) ak (aC _)) (ao (cL (rH x TD.cl hr (pv 0)))) (ao (eW (aK bE (aj (aD K) (pv 2) af (λ_ _=>rfl)) ak (aC _)) (ao (cL (rH y TD.cl hr (pv 0)))) (ao (cL (wa J TD.cl hr (pv 0) (aa (mO hr (gK rfl X Y (aj (aD K) (pv 2) af (λ_ _=>rfl)) (λ_ _=>rfl)) (aa (cC (pv 0) rfl) (aa (pv 3) ae))) ae)))))))
    (ao (ax (aF q hr (aa (cC (pv 0) rfl) ae))))))))),?_⟩
  walk_at"";refine⟨rfl,?_⟩;walk_at"";refine⟨_,_,rfl,rfl,rfl,bb (by omega),λwl a7=>?_⟩;rw[Cmd.split ok];have e1:Ext H (upd H wl (.lst (c.words.map V.str))):=bF a7;have h1:upd H wl (.lst (c.words.map V.str)) wl=Vo (.lst (c.words.map V.str)):=aI;generalize upd H wl (.lst (c.words.map V.str))=H1 at e1 h1 ⊢;walk_at"";refine⟨wl,c,rfl,h1,ok,λH2 e2=>?_⟩;walk_at"";refine av ?_;walk_at"";have h2:=e2 _ _ h1;refine qO (ag.of h2) (cE λl3 H3 e3 S _=>?_);rw[show dP (c.words.map V.str) (Vo 1) Vp=c.tail.map V.str from ph (xs:=c.words.map V.str) (n:=1) (by simp)]at S;refine lq (ag.of S) ?_;refine qo (xs:=c.tail.map V.str) (λi ys H'=>Ext H3 H'/\ys=c.parts.take i) (bb (by rw[zp];omega)) ⟨Ext.rfl' _,rfl⟩ (λi ys H' _ h=>⟨ag.of (h.1 _ _ S),by rw[h.2,Af];exact Nat.min_le_left _ _⟩) ?_ ?_
  .rintro i u ys H4 hu ⟨e4,rfl⟩;rw[zr]at hu;obtain⟨z,hz,rfl⟩:=zC.mp hu;have hk:=zq (show i<c.kinds.length by rw[k1];exact(zy.mp hz).1);obtain⟨v,hv,hw⟩:=k3 i _ z hk hz;walk_at"";refine aw ?_;walk_at"";refine⟨_,z,v,rfl,hw,λH5 Z=>⟨e4.trans Z,?_⟩⟩;rw[List.take_add_one,hv];rfl
  rintro ys H4 pt ⟨e4,rfl⟩ a4;rw[zp,<-k2,zR];have Z:=(e1.trans (e2.trans (e3.trans e4))).trans (bF (o:=.lst c.parts) a4);have a3:upd H4 pt (.lst c.parts) pt=some (.lst c.parts):=aI;have g:=((e3.trans e4).trans (bF (o:=.lst c.parts) a4)) _ _ h2;generalize upd H4 pt (.lst c.parts)=H5 at Z a3 g ⊢;clear e4 e3 S h2 e2 h1 e1 a4 a7;have D5:=D.ext Z;obtain⟨⟨dx,v,a1,a2⟩,_,_,_⟩:=id D5;walk_at"";refine az (ag.of g) (v:=.str c.head) (bf (j:=0) rfl) ?_;refine⟨.inr c.head,rfl,?_⟩;by_cases a5:c=.show
  .subst a5;refine rd_exb (aw ?_);walk_at"";refine az (ag.of g) (v:=.str "show") (bf (j:=0) rfl) ?_;refine ef (ec rfl) ?_;refine⟨"show_ask",_,_,_,rfl,TD.df _ (by simp),L.toX,by decide,?_⟩;walk_at"";refine⟨p,_,dx,_,_,rfl,a1,TD.cl,TD.nH,dv _ _ _,?_⟩;walk_at"";have r2:Told K H p l1 l2 Q E (.ok (aX d.cur.1 d.cur.2,d)):=r;clear r;exact⟨v,d.cur,_,rfl,a2,λC k=>r2 l2 C (.inl rfl) (D5.ext k) (Fr.of (Z.trans k))⟩
  have a8:ba (hI K) (.inr c.head)=Vp:=wV (by
   cases c with
   | rooms n=>exact .head _
   | way w=>exact .tail _ (.head _)
   | close w=>exact .tail _ (.tail _ (.head _))
   | turn=>exact .tail _ (.tail _ (.tail _ (.head _)))
   | undo=>exact .tail _ (.tail _ (.tail _ (.tail _ (.head _))))
   | redo=>exact .tail _ (.tail _ (.tail _ (.tail _ (.tail _ (.head _)))))
   | «show»=>exact absurd rfl a5)
  rw[a8];refine rd_exb (av ?_);clear a8;walk_at"";refine dh (λσ H'=>σ=[Vo (.ref p),Vo (.str c.line),Vo (.ref wl),Vo (.ref pt)]/\∃l3 d',aQ d c=.ok (aX d'.cur.1 d'.cur.2,d')/\(l3=l2\/H l3=Vp)/\DkAt K H' p l1 l3 d'/\Fr H H' p l1 l2) ?_ ?_
  rotate_left
  .rintro σ C ⟨rfl,l3,d',hd,S,D6,fr6⟩;obtain⟨⟨ac,v',ad,a9⟩,_,_,_⟩:=id D6;rw[hd]at r;walk_at"";refine⟨p,_,ac,_,_,rfl,ad,TD.cl,TD.nH,dv _ _ _,?_⟩;walk_at"";exact⟨v',_,_,rfl,a9.1,a9.2,λH7 e7=>r l3 H7 S (D6.ext e7) (λb o z n1 n2 n3=>e7 _ _ (fr6 b o z n1 n2 n3))⟩
  have U:∀{C l3 d'},aQ d c=.ok (aX d'.cur.1 d'.cur.2,d')->(l3=l2\/H5 l3=Vp)->DkAt K C p l1 l3 d'->Fr H5 C p l1 l2->∃l3 d',aQ d c=.ok (aX d'.cur.1 d'.cur.2,d')/\(l3=l2\/H l3=Vp)/\DkAt K C p l1 l3 d'/\Fr H C p l1 l2:=λ{C l3 d'} h1 h2 h3 h4=>⟨l3,d',h1,h2.imp id λz=>Z.none z,h3,λb o z n1 n2 n3=>h4 b o (Z _ _ z) n1 n2 n3⟩;walk_at"";refine az (ag.of g) (v:=.str c.head) (bf (j:=0) rfl) ?_;walk_at"";refine bo ?_;cases c with
  | «show»=>exact absurd rfl a5
  | undo=>
   refine rd_exb (aw ?_);walk_at"";refine⟨p,dx,_,rfl,a1,eX _ _ _ (by decide +kernel) (by decide +kernel) (by decide +kernel),?_⟩;walk_at"";refine⟨p,l1,l2,d,rfl,D5,f2,λh0 C k=>?_,λps h hp C D6 fr=>?_⟩
   .rw[show aQ d .undo=.error "NoDeed" by show(match d.past.getLast? with|none=>_|some h=>_)=_;rw[h0];rfl]at r;exact r _ (Z.trans k)
   .refine⟨rfl,U ?_ (.inl rfl) D6 fr⟩;show(match d.past.getLast? with|none=>_|some h=>_)=_;rw[hp,List.getLast?_concat];show Except.ok (_,(⟨h,(ps++[h]).dropLast,_⟩:Dk))=_;rw[List.dropLast_concat]
  | redo=>
   refine rd_exb (av ?_);walk_at"";refine dh _ ?_ (λσ H' h=>h);walk_at"";refine az (ag.of g) (v:=.str "redo") (bf (j:=0) rfl) ?_;walk_at"";refine bo ?_;refine rd_exb (aw ?_);walk_at"";refine⟨p,dx,_,rfl,a1,eX _ _ _ (by decide +kernel) (by decide +kernel) (by decide +kernel),?_⟩;walk_at"";refine⟨p,l1,l2,d,rfl,D5,f1,λh0 C k=>?_,λus h hp C D6 fr=>?_⟩
   .rw[show aQ d .redo=.error "NoDeed" by show(match d.und.getLast? with|none=>_|some h=>_)=_;rw[h0];rfl]at r;exact r _ (Z.trans k)
   .refine⟨rfl,U ?_ (.inl rfl) D6 fr⟩;show(match d.und.getLast? with|none=>_|some h=>_)=_;rw[hp,List.getLast?_concat];show Except.ok (_,(⟨h,_,(us++[h]).dropLast⟩:Dk))=_;rw[List.dropLast_concat]
  | turn=>
   refine rd_exb (av ?_);walk_at"";refine dh _ ?_ (λσ H' h=>h);walk_at"";refine az (ag.of g) (v:=.str "turn") (bf (j:=0) rfl) ?_;walk_at"";refine bo ?_;refine rd_exb (av ?_);walk_at"";refine⟨_,dx,_,rfl,a1,eX _ _ _ (by decide +kernel) (by decide +kernel) (by decide +kernel),?_⟩;walk_at"";refine az (ag.of g) (v:=.str "turn") (bf (j:=0) rfl) ?_;refine ef (jr K).2.2.2 ?_;refine⟨"turn_deed",_,_,_,rfl,TD.df _ (by simp),G.toX,by decide,?_⟩;walk_at"";refine⟨_,_,dx,_,_,rfl,a1,TD.cl,TD.nH,dv _ _ _,?_⟩;walk_at"";refine⟨v,d.cur,_,rfl,a2,λu C k hu=>?_⟩;have hD:aQ d .turn=.ok (aX (d.doD (d.cur.1,d.cur.2.map Way.turn)).cur.1 (d.doD (d.cur.1,d.cur.2.map Way.turn)).cur.2,d.doD (d.cur.1,d.cur.2.map Way.turn)):=rfl;exact⟨p,l1,l2,d,u,(d.cur.1,d.cur.2.map Way.turn),rfl,D5.ext k,hu,f1,λl3 H7 h3 D7 fr=>⟨rfl,U hD (.inr (k.none h3)) D7 λb o z n1 n2 n3=>fr b o (k _ _ z) n1 n2 n3⟩⟩
  | rooms n=>
   refine rd_exb (av ?_);walk_at"";refine dh _ ?_ (λσ H' h=>h);walk_at"";refine az (ag.of g) (v:=.str "rooms") (bf (j:=0) rfl) ?_;walk_at"";refine bo ?_;refine rd_exb (av ?_);walk_at"";refine⟨_,dx,_,rfl,a1,eX _ _ _ (by decide +kernel) (by decide +kernel) (by decide +kernel),?_⟩;walk_at"";refine az (ag.of g) (v:=.str "rooms") (bf (j:=0) rfl) ?_;refine ef (jr K).1 ?_;refine⟨"rooms_deed",_,_,_,rfl,TD.df _ (by simp),B.toX,by decide,?_⟩;walk_at"";refine⟨_,_,dx,_,_,rfl,a1,TD.cl,TD.nH,dv _ _ _,?_⟩;walk_at"";refine⟨v,pt,n,rfl,a3,ok.1,ok.2,λu C k hu=>?_⟩;have hD:aQ d (.rooms n)=.ok (aX (d.doD (n,[])).cur.1 (d.doD (n,[])).cur.2,d.doD (n,[])):=rfl;exact⟨p,l1,l2,d,u,(n,[]),rfl,D5.ext k,hu,f1,λl3 H7 h3 D7 fr=>⟨rfl,U hD (.inr (k.none h3)) D7 λb o z n1 n2 n3=>fr b o (k _ _ z) n1 n2 n3⟩⟩
  | way w=>
   refine rd_exb (av ?_);walk_at"";refine dh _ ?_ (λσ H' h=>h);walk_at"";refine az (ag.of g) (v:=.str "way") (bf (j:=0) rfl) ?_;walk_at"";refine bo ?_;refine rd_exb (av ?_);walk_at"";refine⟨_,dx,_,rfl,a1,eX _ _ _ (by decide +kernel) (by decide +kernel) (by decide +kernel),?_⟩;walk_at"";refine az (ag.of g) (v:=.str "way") (bf (j:=0) rfl) ?_;refine ef (jr K).2.1 ?_;refine⟨"way_deed",_,_,_,rfl,TD.df _ (by simp),I,by decide,?_⟩;walk_at"";refine⟨_,_,dx,_,_,rfl,a1,TD.cl,TD.nH,dv _ _ _,?_⟩;walk_at"";refine⟨v,d.cur,pt,w,rfl,a2,a3,ok,?_⟩;have hD:aQ d (.way w)=match bH d.cur w with|.error z=>.error z|.ok h=>.ok (aX h.1 h.2,d.doD h):=rfl
   cases he:bH d.cur w with
   | error nm=>
    rw[hD,he]at r;exact λC k=>r C (Z.trans k)
   | ok h=>
    rw[he]at hD;have hE:aQ d (.way w)=.ok (aX (d.doD h).cur.1 (d.doD h).cur.2,d.doD h):=hD;intro u C k hu;exact⟨p,l1,l2,d,u,h,rfl,D5.ext k,hu,f1,λl3 H7 h3 D7 fr=>⟨rfl,U (d':=d.doD h) hE (.inr (k.none h3)) D7 λb o z n1 n2 n3=>fr b o (k _ _ z) n1 n2 n3⟩⟩
  | close w=>
   refine rd_exb (av ?_);walk_at"";refine dh _ ?_ (λσ H' h=>h);walk_at"";refine az (ag.of g) (v:=.str "close") (bf (j:=0) rfl) ?_;walk_at"";refine bo ?_;refine rd_exb (av ?_);walk_at"";refine⟨_,dx,_,rfl,a1,eX _ _ _ (by decide +kernel) (by decide +kernel) (by decide +kernel),?_⟩;walk_at"";refine az (ag.of g) (v:=.str "close") (bf (j:=0) rfl) ?_;refine ef (jr K).2.2.1 ?_;refine⟨"close_deed",_,_,_,rfl,TD.df _ (by simp),t,by decide,?_⟩;walk_at"";refine⟨_,_,dx,_,_,rfl,a1,TD.cl,TD.nH,dv _ _ _,?_⟩;walk_at"";refine⟨v,d.cur,pt,w,rfl,a2,a3,ok,?_⟩;have hD:aQ d (.close w)=match bT d.cur w with|.error z=>.error z|.ok h=>.ok (aX h.1 h.2,d.doD h):=rfl
   cases he:bT d.cur w with
   | error nm=>
    rw[hD,he]at r;exact λC k=>r C (Z.trans k)
   | ok h=>
    rw[he]at hD;have hE:aQ d (.close w)=.ok (aX (d.doD h).cur.1 (d.doD h).cur.2,d.doD h):=hD;intro u C k hu;exact⟨p,l1,l2,d,u,h,rfl,D5.ext k,hu,f1,λl3 H7 h3 D7 fr=>⟨rfl,U (d':=d.doD h) hE (.inr (k.none h3)) D7 λb o z n1 n2 n3=>fr b o (k _ _ z) n1 n2 n3⟩⟩
local macro_rules|`(tactic| walk_at "ra") => do
 let ts <- ("seq asg c name".splitOn " ").toArray.mapM λn =>
  let i := Lean.mkIdent (.mkSimple ("rd_" ++ n))
  `(tacticSeq| with_reducible refine $i ?_)
 `(tactic| repeat (first $[| $ts]*|dsimp only))
def gU{α β:Type}{F:α->β->Prop}{cs:List α}{ts:List β}(h:Paired F cs ts):∀{i:Nat} {c:α},cs[i]?=Vo c->∃t,ts[i]?=Vo t/\F c t:=by
 induction h with
 | nil=>intro i c e;simp at e
 | cons h t a=>
  intro i c e;cases i with
  | zero=>cases e;exact⟨_,rfl,h⟩
  | succ i=>exact a e
def sV(H:Hp)(c:Vb)(t:Vn×Bool):Prop:=H c=Vo (.tup [.str t.1,.bl t.2])
def named(ts:List (Vn×Bool))(i:Nat):List Vn:=((ts.take i).filter (·.2)).map (·.1)
def xD{ts:List (Vn×Bool)}{i:Nat}{t:Vn×Bool}(h:ts[i]?=Vo t):named ts (i+1)=named ts i++if t.2=true then[t.1]else[]:=by unfold named;rw[List.take_succ,h];simp only[Option.toList_some,List.filter_append,zG];congr 1;obtain⟨a,b⟩:=t;cases b<;>rfl
def tP(ts:List (Vn×Bool))(i:Nat):(named ts i).length<=i:=by unfold named;rw[zp];exact zT (List.length_filter_le _ _) (by rw[Af];omega)
def cG:List Vn:=["NoPlace","NoWay","TooGreat","NoDeed"]
def hV(nm:Vn):List (Vn×Bool):=[("NoLine",nm == "NoLine"),("NoPlace",nm == "NoPlace"),("TooGreat",nm == "TooGreat"),("NoWay",nm == "NoWay"),("NoDeed",nm == "NoDeed"),("NoText",nm == "NoText"),("other",false)]
def vf(h:nm∈cG):named (hV nm) 7=[nm]:=by
 have:∀y∈cG,named (hV y) 7=[y]:=by decide +kernel
 exact this nm h
def jV(h:nm∈cG):nm∈cU:=by
 have:∀y∈cG,y∈cU:=by decide +kernel
 exact this nm h
def fk{K:zk}(a:Xf K mg base cR cU){y:Vn}(h:nm∈cG)(b:y∈cR)(c:(y == ("StairError":Vn))=false):PySem.W.kitOne K (.ref (cA K nm)) (.ref (cA K y))=Vo (nm == y):=by rw[a.kc nm (jV h) y b,c,Bool.or_false]
def rl{d:Dk}{c:Cmd}(h:aQ d c=.error nm):nm∈cG:=by
 have a:∀(x:HV) (w:Way),bH x w=.error nm->nm∈cG:=λx w e=>by
  unfold bH at e;split at e
  .cases e;exact .head _
  split at e
  .cases e;exact .tail _ (.head _)
  split at e
  .cases e;exact .tail _ (.tail _ (.head _))
  .cases e
 have b:∀(x:HV) (w:Way),bT x w=.error nm->nm∈cG:=λx w e=>by
  unfold bT at e;split at e
  .cases e
  .cases e;exact .tail _ (.head _)
 cases c with
 | rooms n=>cases h
 | turn=>cases h
 | «show»=>cases h
 | way w=>
  have h:(match bH d.cur w with|.error z=>Except.error z|.ok h=>Except.ok (aX h.1 h.2,d.doD h))=.error nm:=h;cases e:bH d.cur w with
  | error z=>rw[e]at h;cases h;exact a _ _ e
  | ok x=>rw[e]at h;cases h
 | close w=>
  have h:(match bT d.cur w with|.error z=>Except.error z|.ok h=>Except.ok (aX h.1 h.2,d.doD h))=.error nm:=h;cases e:bT d.cur w with
  | error z=>rw[e]at h;cases h;exact b _ _ e
  | ok x=>rw[e]at h;cases h
 | undo=>
  unfold aQ at h;cases e:d.past.getLast? with
  | none=>rw[e]at h;cases h;exact .tail _ (.tail _ (.tail _ (.head _)))
  | some x=>rw[e]at h;cases h
 | redo=>
  unfold aQ at h;cases e:d.und.getLast? with
  | none=>rw[e]at h;cases h;exact .tail _ (.tail _ (.tail _ (.head _)))
  | some x=>rw[e]at h;cases h
def cD(K:zk)(H:Hp)(p l1 l2:Vb)(Q:VK):Except Vn (Vn×Dk)->Prop
 | .error nm=>∀t H',Ext H H'->H' t=Vo (.tup [.str "refused",.str nm])->Q (.ref t) H'
 | .ok (z,d')=>∀t l3 H',(l3=l2\/H l3=Vp)->DkAt K H' p l1 l3 d'->Fr H H' p l1 l2->H' t=Vo (.tup [.str "told",.str z])->Q (.ref t) H'
def gw(K:zk):Sp:=λvs H Q _=>∃p l1 l2 d c,vs=[.ref p,.str (Cmd.line c)]/\DkAt K H p l1 l2 d/\c.Ok/\d.past.length<=10000/\d.und.length<=10000/\cD K H p l1 l2 Q (aQ d c)
abbrev mq:Vl:=stq 130
def pU:FnScope ["_law_desk","_law_line","_law_found","e","_law_kinds"] ["_law_desk","_law_line"] (ay mq):=⟨rfl,rfl,rfl,by decide +kernel,rfl,by decide +kernel,by decide +kernel⟩
def vi{P:Vd}{w:Ve}{K:zk}{mg:Vn->Option Va}{base:Vh}(D:Dfn K mg "_law_tell" mq ["_law_desk","_law_line"])(T:Blt mg)(g:Xf K mg base cR cU)(TD:DeskK K mg)(j:MetX P w K mg base (cA K "Desk") "tell" 9 ["self","line"] (kF K)):Cal P w K mg base "_law_tell" 10 ["_law_desk","_law_line"] (gw K):=by
 have nd:=(pU).nd;refine D.ok pU (λvs H Q E h=>?_) (λX hX H vs Q E h=>?_)
 .obtain⟨p,l1,l2,d,c,rfl,_⟩:=h;rfl
 .obtain⟨f,cdv,A,outer,s,H0,E0,rfl,hr⟩:=hX;obtain⟨p,l1,l2,d,c,rfl,D,ok,f1,f2,r⟩:=h;obtain⟨⟨dx,v,a1,a2⟩,_,_,_⟩:=id D;refine⟨_,(ar (uF (i:=3) rfl rfl nd rfl rfl rfl (g.cl "StairError" (by decide +kernel)) rfl (by decide) (tj (xQ (i:=2) j TD.cl hr nd rfl (Or.inl rfl) (pv 0) (aa (pv 1) ae)) vb) (λx oe Dx da B k ab an=>(ar (bj (i:=4) nd rfl (Or.inl rfl) (bA (aa (aB (aa ak (aa (aP (fC B k) rfl T.isinstance_ PyProof.Rows.boot_isinstance (aa (pv 3) (aa (bQ (v:=.ref (cA K "NoLine")) rfl (g.cl "NoLine" (by decide +kernel)) rfl) ae))) ae))) (aa (aB (aa ak (aa (aP (fC B k) rfl T.isinstance_ PyProof.Rows.boot_isinstance (aa (pv 3) (aa (bQ (v:=.ref (cA K "NoPlace")) rfl (g.cl "NoPlace" (by decide +kernel)) rfl) ae))) ae))) ae))))
    (ar (bj (i:=4) nd rfl (Or.inl rfl) (aA mF (pv 4) (bA (aa (aB (aa ak (aa (aP (fC B k) rfl T.isinstance_ PyProof.Rows.boot_isinstance (aa (pv 3) (aa (bQ (v:=.ref (cA K "TooGreat")) rfl (g.cl "TooGreat" (by decide +kernel)) rfl) ae))) ae))) (aa (aB (aa ak (aa (aP (fC B k) rfl T.isinstance_ PyProof.Rows.boot_isinstance (aa (pv 3) (aa (bQ (v:=.ref (cA K "NoWay")) rfl (g.cl "NoWay" (by decide +kernel)) rfl) ae))) ae))) ae)))))
    (ar (bj (i:=4) nd rfl (Or.inl rfl) (aA mF (pv 4) (bA (aa (aB (aa ak (aa (aP (fC B k) rfl T.isinstance_ PyProof.Rows.boot_isinstance (aa (pv 3) (aa (bQ (v:=.ref (cA K "NoDeed")) rfl (g.cl "NoDeed" (by decide +kernel)) rfl) ae))) ae))) (aa (aB (aa ak (aa (aP (fC B k) rfl T.isinstance_ PyProof.Rows.boot_isinstance (aa (pv 3) (aa (bQ (v:=.ref (cA K "NoText")) rfl (g.cl "NoText" (by decide +kernel)) rfl) ae))) ae))) ae)))))
    (ar (bj (i:=4) nd rfl (Or.inl rfl) (aA mF (pv 4) (bA (aa (aB (aa ak (aa (aP (fC B k) rfl T.isinstance_ PyProof.Rows.boot_isinstance (aa (pv 3) (aa (aB (aa (bQ (v:=.ref (cA K "Endless")) rfl (g.cl "Endless" (by decide +kernel)) rfl) (aa (bQ (v:=.ref (cA K "NoHouse")) rfl (g.cl "NoHouse" (by decide +kernel)) rfl) (aa (bQ (v:=.ref (cA K "NoStair")) rfl (g.cl "NoStair" (by decide +kernel)) rfl) (aa (bQ (v:=.ref (cA K "NotBare")) rfl (g.cl "NotBare" (by decide +kernel)) rfl) (aa (bQ (v:=.ref (cA K "NoWalk")) rfl (g.cl "NoWalk" (by decide +kernel)) rfl) ae)))))) ae))) ae))) ae))))
    (ao (ax (aB (aa ak (aa (cN K PySem.F.plainAttrs_str PySem.F.slot_str_join PySem.F.type_str_join (ic K) ak (aa (vj K ["_law_word","_law_here"] [] ab (pv 4) (λ_ hh=>(sO (n:=2) K hh (bB (aT (i:=0) (show(["_law_word","_law_here"]:List Vn).Nodup from by decide +kernel) rfl (Or.inl rfl) (Or.inr rfl)) (bB (aT (i:=1) (show(["_law_word","_law_here"]:List Vn).Nodup from by decide +kernel) rfl (Or.inl rfl) (Or.inr rfl)) dW)))) (λ_=>(j9 (bY (pv 1)))) (λ_=>(pv 0))) ae)) ae)))))))))))
    (ar (aO (bX (bY (aP el rfl T.isinstance_ PyProof.Rows.boot_isinstance (aa (pv 2) (aa (eo (v:=.ty "str") rfl T.str_ PyProof.Rows.boot_str rfl) ae))))) (ao (ax (aB (aa ak (aa gM ae))))) aL)
    (ao (ax (aB (aa ak (aa (pv 2) ae))))))),?_⟩
  walk_at "ra";refine vc (λDx I H1=>Ext H H1/\(∃nm,aQ d c=.error nm/\Dx=cA K nm)/\I=[Vo (.ref p),Vo (.str c.line),Vp,Vp,Vp]) (λE9 hE=>?_) ?_
  .walk_at"";refine⟨p,dx,_,rfl,a1,eX _ _ _ (by decide +kernel) (by decide +kernel) (by decide +kernel),?_⟩;walk_at"";refine⟨p,l1,l2,d,c,rfl,D,ok,f1,f2,?_⟩;cases G:aQ d c with
   | error nm=>exact λH1 e1=>hE _ _ _ ⟨e1,⟨nm,G,rfl⟩,rfl⟩
   | ok x=>
    obtain⟨z,d'⟩:=x;rw[G]at r;intro l3 H1 h3 D1 fr;walk_at"";refine eR (n:="str") rfl (b:=true) rfl ?_;walk_at"";refine av ?_;walk_at"";refine au λt H2 J L _=>?_;exact r t l3 H2 h3 (D1.ext J) (λb o z n1 n2 n3=>J _ _ (fr b o z n1 n2 n3)) L
  .rintro I Dx H1 ⟨M,⟨nm,G,rfl⟩,rfl⟩;rw[G]at r;have a:=rl G;have r:∀t H',Ext H H'->H' t=Vo (.tup [.str "refused",.str nm])->Q (.ref t) H':=r;clear G;refine⟨g.up nm (jV a),g.exk nm (jV a),λx hx=>?_⟩;walk_at"";refine f9 (fk g a (y:="NoLine") (by decide +kernel) (by decide +kernel)) ?_;walk_at"";refine au λc1 H2 J N _=>?_;walk_at"";refine f9 (fk g a (y:="NoPlace") (by decide +kernel) (by decide +kernel)) ?_;walk_at"";refine au λc2 H3 e3 O _=>?_;walk_at"";refine au λap H4 e4 R _=>?_;walk_at"";refine f9 (fk g a (y:="TooGreat") (by decide +kernel) (by decide +kernel)) ?_;walk_at"";refine au λc3 H5 e5 S _=>?_;walk_at"";refine f9 (fk g a (y:="NoWay") (by decide +kernel) (by decide +kernel)) ?_;walk_at"";refine au λc4 H6 e6 U _=>?_;walk_at"";refine au λas H7 e7 W _=>?_;walk_at"";refine kj ((e5.trans (e6.trans e7)) _ _ R) W (bb (by simp)) (cE λb0 H8 e8 Y _=>?_);walk_at"";refine f9 (fk g a (y:="NoDeed") (by decide +kernel) (by decide +kernel)) ?_;walk_at"";refine au λc5 H9 e9 Z _=>?_;walk_at"";refine f9 (fk g a (y:="NoText") (by decide +kernel) (by decide +kernel)) ?_;walk_at"";refine au λc6 HA eA a0 _=>?_;walk_at"";refine au λb4 HB eB a3 _=>?_;walk_at"";refine kj ((e9.trans (eA.trans eB)) _ _ Y) a3 (bb (by simp)) (cE λb5 HC eC a4 _=>?_);walk_at"";refine au λta HD eD a5 _=>?_;walk_at"";refine vK (Cs:=(["Endless","NoHouse","NoStair","NotBare","NoWalk"]:List Vn).map (cA K)) a5 (pJ λC hC=>?_) ?_
   .obtain⟨y,hy,rfl⟩:=List.mem_map.mp hC;have h1:∀y∈(["Endless","NoHouse","NoStair","NotBare","NoWalk"]:List Vn),y∈cR/\(y == ("StairError":Vn))=false/\∀x∈cG,(x == y)=false:=by decide +kernel
    obtain⟨b1,b2,b3⟩:=h1 y hy;exact(fk g a b1 b2).trans (by rw[b3 nm a])
   walk_at"";refine au λc7 HE eE a6 _=>?_;walk_at"";refine au λb6 HF eF a7 _=>?_;walk_at"";refine kj ((eD.trans (eE.trans eF)) _ _ a4) a7 (bb (by simp)) (cE λac HG eG q _=>?_);have eFG:=eF.trans eG;have a8:=eE.trans eFG;have eBG:=eB.trans (eC.trans (eD.trans a8));have eAG:=eA.trans eBG;have a9:=e8.trans (e9.trans eAG);have e7G:=e7.trans a9;have e6G:=e6.trans e7G;have e4G:=e4.trans (e5.trans e6G);have pk:Paired (sV HG) [c1,c2,c3,c4,c5,c6,c7] (hV nm):=.cons ((e3.trans e4G) _ _ N) (.cons (e4G _ _ O) (.cons (e6G _ _ S) (.cons (e7G _ _ U) (.cons (eAG _ _ Z) (.cons (eBG _ _ a0) (.cons (eFG _ _ a6) .nil))))));have q:HG ac=Vo (.lst (List.map V.ref [c1,c2,c3,c4,c5,c6,c7])):=q;have ad:Ext H HG:=M.trans (J.trans (e3.trans e4G));clear eFG a8 eBG eAG a9 e7G e6G e4G J e3 e4 e5 e6 e7 e8 e9 eA eB eC eD eE eF eG N O S U Z a0 a6 R W Y a3 a4 a7 a5 M;walk_at"";refine⟨rfl,?_⟩;walk_at"";refine lq (ag.of q) ?_;refine qo (xs:=List.map V.ref [c1,c2,c3,c4,c5,c6,c7]) (λi ys H'=>H'=HG/\ys=List.map V.str (named (hV nm) i)) (bb (by simp)) ⟨rfl,rfl⟩ (λi ys H' hi h=>⟨by rw[h.1];exact ag.of q,by rw[h.2,zp];exact tP _ _⟩) ?_ ?_
   .rintro i u ys H' hu ⟨rfl,rfl⟩;rw[zr]at hu;obtain⟨c,k,rfl⟩:=zC.mp hu;obtain⟨t,L,hk⟩:=gU pk k;rw[xD L];obtain⟨b7,b⟩:=t;refine cZ (ah.of hk) rfl ?_;walk_at"";cases b with
    | true=>
     refine aw ?_;walk_at"";exact⟨rfl,by rw[zG];rfl⟩
    | false=>
     refine av ?_;exact⟨rfl,by simp⟩
   .rintro ys H' l8 ⟨rfl,rfl⟩ am;walk_at"";rw[show named (hV nm) (List.map V.ref [c1,c2,c3,c4,c5,c6,c7]).length=[nm]from vf a];have hj:∀y∈cG,Txt.join (zY " ") [y]=y/\([y].map (·.length)).sum+[y].length*(zY " ").length<=1000000:=by decide +kernel
    obtain⟨j1,j2⟩:=hj nm a;refine⟨_,l8,[nm],rfl,rfl,ag.of aI,j2,?_⟩;rw[j1];walk_at"";refine au λt HI eI L _=>?_;exact r t HI (ad.trans ((bF am).trans eI)) L
abbrev nS(w:Way):List Vn:=[⟨#[]⟩,Tx.aH w.room,w.deed,Tx.aH w.other,w.sign]
def qw(w:Way):(" ":Vn)++cv w=Str.join ⟨#[32]⟩ (nS w):=by show(⟨#[32]⟩:Vn)++Txt.join ⟨#[32]⟩ [Tx.aH w.room,w.deed,Tx.aH w.other,w.sign]=(⟨#[]⟩:Vn)++(⟨#[32]⟩:Vn)++Str.join ⟨#[32]⟩ [Tx.aH w.room,w.deed,Tx.aH w.other,w.sign];rw[Tx.fQ];rfl
abbrev cX(ws:List Way):List Vn:=ws.map λw=>(" ":Vn)++cv w
def mU{m:Int}(ok:w.Ok m)(a:m<=12):((" ":Vn)++cv w).length<=21:=by rw[Str.length_append];have:=kx ok a;have:(zY " ").length=1:=rfl;omega
def uo{m:Int}(ok:∀w∈ws,w.Ok m)(a:m<=12)(b:ws.length<=100):(Txt.join "," (cX ws)).length<=2200:=by
 have h:=kB 44 (k:=21) (zs:=cX ws) λz c=>by obtain⟨w,d,rfl⟩:=List.mem_map.mp c;exact mU (ok w d) a
 rw[zp]at h;have:=Nat.mul_le_mul_left 22 b;show(Txt.join ⟨#[44]⟩ (cX ws)).length<=2200;omega
def wm(w:Way):(" ":Vn)++Tx.aH w.room++(" ":Vn)++w.deed++(" ":Vn)++Tx.aH w.other++(" ":Vn)++w.sign=(" ":Vn)++cv w:=by rw[qw];show(⟨#[32]⟩:Vn)++Tx.aH w.room++(⟨#[32]⟩:Vn)++w.deed++(⟨#[32]⟩:Vn)++Tx.aH w.other++(⟨#[32]⟩:Vn)++w.sign=(⟨#[]⟩:Vn)++(⟨#[32]⟩:Vn)++(Tx.aH w.room++(⟨#[32]⟩:Vn)++(w.deed++(⟨#[32]⟩:Vn)++(Tx.aH w.other++(⟨#[32]⟩:Vn)++w.sign)));simp only[Str.append_assoc];exact(Str.empty_append _).symm
def mE(K:zk):Sp:=λvs H Q _=>∃v m ws,vs=[v]/\bN H v m ws/\HOuse m ws/\∀H',Ext H H'->Q (.str (aX m ws)) H'
abbrev lV:Vl:=stq 131
def sI:FnScope ["_law_house","_law_words"] ["_law_house"] (ay lV):=⟨rfl,rfl,rfl,by decide +kernel,rfl,by decide +kernel,by decide +kernel⟩
def tw{P:Vd}{w:Ve}{K:zk}{mg:Vn->Option Va}{base:Vh}(D:Dfn K mg "_law_house_text" lV ["_law_house"])(T:Blt mg):Cal P w K mg base "_law_house_text" 1 ["_law_house"] (mE K):=by
 have nd:=(sI).nd;refine D.ok sI (λvs H Q E h=>?_) (λX G H vs Q E h=>?_)
 .obtain⟨v,m,ws,rfl,_⟩:=h;rfl
 .obtain⟨f,cdv,A,outer,s,H0,E0,rfl,hr⟩:=G;obtain⟨v,m,ws,rfl,hv,ok,q⟩:=h;have m1:=ok.m1;have m12:=ok.m12;have d:=ok.few;obtain⟨p,r,rfl,u,I⟩:=id hv;obtain⟨bs,y,al⟩:=bC.al I;refine⟨_,(ar (mP (i:=1) ["_law_room","_law_deed","_law_other","_law_sign"] [] nd rfl (Or.inl rfl) (fh K (aj (aE K) (pv 0) af (λ_ _=>rfl))) (λ_=>(ez (n:=4) K rfl (bB (aT (i:=0) (show(["_law_room","_law_deed","_law_other","_law_sign"]:List Vn).Nodup from by decide +kernel) rfl (Or.inl rfl) (Or.inr rfl)) (bB (aT (i:=1) (show(["_law_room","_law_deed","_law_other","_law_sign"]:List Vn).Nodup from by decide +kernel) rfl (Or.inl rfl) (Or.inr rfl)) (bB (aT (i:=2) (show(["_law_room","_law_deed","_law_other","_law_sign"]:List Vn).Nodup from by decide +kernel) rfl (Or.inl rfl) (Or.inr rfl)) (bB (aT (i:=3) (show(["_law_room","_law_deed","_law_other","_law_sign"]:List Vn).Nodup from by decide +kernel) rfl (Or.inl rfl) (Or.inr rfl)) dW)))))) (λ_=>eJ) (λ_=>(aA cz (aA cz (aA cz (aA cz (aA cz (aA cz (aA cz ak (bt dS rfl T.str_ PyProof.Rows.boot_str (aa (pv 0) ae))) ak) (pv 1)) ak) (bt dS rfl T.str_ PyProof.Rows.boot_str (aa (pv 2) ae))) ak) (pv 3))))
    (ao (ax (aA cz (aA cz (bt dS rfl T.str_ PyProof.Rows.boot_str (aa (aj (aE K) (pv 0) af (λ_ _=>rfl)) ae)) ak) (cN K PySem.F.plainAttrs_str PySem.F.slot_str_join PySem.F.type_str_join (ic K) ak (aa (pv 1) ae)))))),?_⟩
  walk_at"";refine aG (ah.of u) (v:=.ref r) rfl ?_;refine eY (ah.of y) ?_;refine ft (xs:=bs.map V.ref) (λi ys H'=>H'=H/\ys=(cX (ws.take i)).map V.str) (ee (by rw[zp,al.1];omega)) ⟨rfl,rfl⟩ (λi ys H' hi h=>⟨by rw[h.1];exact ah.of y,?_⟩) ?_ ?_
  .rw[h.2,zp,zp,Af];exact Nat.min_le_left _ _
  .rintro i x ys H' B ⟨rfl,rfl⟩;rw[zr]at B;obtain⟨b,C,rfl⟩:=zC.mp B;have hi:i<ws.length:=by rw[<-al.1];exact(zy.mp C).1
   have g:ws[i]?=Vo ws[i]:=zq hi;have a:=ok.ok _ (zA g);have o:=al.2 i b _ C g;have r1:=a.r1;have o1:=a.o1;have l1:(zY (toString ws[i].room)).length<=6:=Tx.cq a.r0 (by omega);have l2:(zY (toString ws[i].other)).length<=6:=Tx.cq a.o0 (by omega);have l3:=iF a.dd;have l4:=iw a.sg;have l5:(zY " ").length=1:=rfl;walk_at"";refine cZ (ah.of o) rfl ?_;walk_at"";refine aw ?_;walk_at"";refine⟨_,rfl,dG a.r0 (by omega),?_⟩;walk_at"";refine⟨_,_,rfl,rfl,bb (by omega),?_⟩;walk_at"";refine⟨_,_,rfl,rfl,bb (by simp only[Str.length_append];omega),?_⟩;walk_at"";refine⟨_,_,rfl,rfl,bb (by simp only[Str.length_append];omega),?_⟩;walk_at"";refine⟨_,_,rfl,rfl,bb (by simp only[Str.length_append];omega),?_⟩;walk_at"";refine⟨_,rfl,dG a.o0 (by omega),?_⟩;walk_at"";refine⟨_,_,rfl,rfl,bb (by simp only[Str.length_append];omega),?_⟩;walk_at"";refine⟨_,_,rfl,rfl,bb (by simp only[Str.length_append];omega),?_⟩;walk_at"";refine⟨_,_,rfl,rfl,bb (by simp only[Str.length_append];omega),?_⟩;refine⟨rfl,?_⟩;have e:=wm ws[i];unfold Tx.aH at e;rw[e];unfold cX;rw[List.take_add_one,g,zG,zG];rfl
  .rintro ys H' l ⟨rfl,rfl⟩ J;rw[zp,al.1,zR];have t:Ext H' (upd H' l (.lst ((cX ws).map V.str))):=bF J;have j:upd H' l (.lst ((cX ws).map V.str)) l=Vo (.lst ((cX ws).map V.str)):=aI;generalize upd H' l (.lst ((cX ws).map V.str))=L at t j ⊢;have lm:(zY (toString m)).length<=6:=Tx.cq (by omega) (by omega);have l1:(zY ":").length=1:=rfl;have N:=uo ok.ok m12 d;walk_at"";refine aG (ah.of (t _ _ u)) rfl ?_;walk_at"";refine⟨_,rfl,dG (by omega) (by omega),?_⟩;walk_at"";refine⟨_,_,rfl,rfl,bb (by omega),?_⟩;walk_at"";refine⟨rfl,?_⟩;walk_at"";refine⟨_,l,_,rfl,rfl,ag.of j,ou (c:=44) (k:=21) (λz M=>?_) (n:=100) (by rw[zp];exact d) (by decide),?_⟩
   .obtain⟨w,g,rfl⟩:=List.mem_map.mp M;exact mU (ok.ok w g) m12
   .exact⟨_,_,rfl,rfl,bb (by simp only[Str.length_append];omega),q L t⟩
def WayL.line_len(h:WayL w)(a:z.length<=6):([z,Tx.aH w.room,w.deed,Tx.aH w.other,w.sign].map (·.length)).sum+5*(zY " ").length<=1000000:=by have h1:=Tx.cq h.r0 h.r6;have h2:=Tx.cq h.o0 h.o6;have b:=iF h.dd;have c:=iw h.sg;have d:(zY " ").length=1:=rfl;simp only[List.map_cons,List.map_nil,List.sum_cons,List.sum_nil];omega
def oP(K:zk):Sp:=λvs H Q _=>∃z b w,vs=[.str z,.ref b]/\H b=Vo (.tup (Way.vs w))/\WayL w/\z.length<=6/\∀H',Ext H H'->Q (.str (Txt.join " " (z::f7 w))) H'
abbrev lB:Vl:=stq 132
def sd:FnScope ["_law_word","_law_way"] ["_law_word","_law_way"] (ay lB):=⟨rfl,rfl,rfl,by decide +kernel,rfl,by decide +kernel,by decide +kernel⟩
def yf{P:Vd}{w:Ve}{K:zk}{mg:Vn->Option Va}{base:Vh}(D:Dfn K mg "_law_way_line" lB ["_law_word","_law_way"])(T:Blt mg):Cal P w K mg base "_law_way_line" 1 ["_law_word","_law_way"] (oP K):=by
 have nd:=(sd).nd;refine D.ok sd (λvs H Q E h=>?_) (λX c H vs Q E h=>?_)
 .obtain⟨z,b,w,rfl,_⟩:=h;rfl
 .obtain⟨f,cdv,A,outer,s,H0,E0,rfl,hr⟩:=c;obtain⟨z,b,w,rfl,a,wl,d,q⟩:=h;refine⟨_,(ao (ax (cN K PySem.F.plainAttrs_str PySem.F.slot_str_join PySem.F.type_str_join (ic K) ak (aa (bA (aa (pv 0) (aa (bt dS rfl T.str_ PyProof.Rows.boot_str (aa (aj (aE K) (pv 1) af (λ_ _=>rfl)) ae)) (aa (aj (aE K) (pv 1) af (λ_ _=>rfl)) (aa (bt dS rfl T.str_ PyProof.Rows.boot_str (aa (aj (aE K) (pv 1) af (λ_ _=>rfl)) ae)) (aa (aj (aE K) (pv 1) af (λ_ _=>rfl)) ae)))))) ae)))),?_⟩;walk_at"";refine⟨rfl,?_⟩;walk_at"";refine aG (ah.of a) rfl ?_;walk_at"";refine⟨_,rfl,dG wl.r0 wl.r6,?_⟩;walk_at"";refine aG (ah.of a) rfl ?_;walk_at"";refine aG (ah.of a) rfl ?_;walk_at"";refine⟨_,rfl,dG wl.o0 wl.o6,?_⟩;walk_at"";refine aG (ah.of a) rfl ?_;walk_at"";refine au λl H1 g hl _=>?_;walk_at"";refine⟨_,l,z::f7 w,rfl,rfl,ag.of hl,wl.line_len d,?_⟩;exact q H1 g
def rG(K:zk):Sp:=λvs H Q _=>∃v h,vs=[v]/\aR H v h/\∀u H',Ext H H'->aR H' u (h.1,h.2.map Way.turn)->Q u H'
abbrev kK:Vl:=stq 133
def oX:FnScope ["_law_house","_law_deeds"] ["_law_house"] (ay kK):=⟨rfl,rfl,rfl,by decide +kernel,rfl,by decide +kernel,by decide +kernel⟩
def vY{P:Vd}{w:Ve}{K:zk}{mg:Vn->Option Va}{base:Vh}(D:Dfn K mg "_law_turned" kK ["_law_house"])(T:Blt mg):Cal P w K mg base "_law_turned" 1 ["_law_house"] (rG K):=by
 have nd:=(oX).nd;refine D.ok oX (λvs H Q E h=>?_) (λX N H vs Q E h=>?_)
 .obtain⟨v,h,rfl,_⟩:=h;rfl
 .obtain⟨f,cdv,A,outer,s,H0,E0,rfl,hr⟩:=N;obtain⟨v,h,rfl,⟨h1,ok⟩,q⟩:=h;obtain⟨m,ws⟩:=h;have B:=ok.few;obtain⟨p,r,rfl,C,O⟩:=h1;obtain⟨bs,F,al⟩:=bC.al O;refine⟨_,(ar (bj (i:=1) nd rfl (Or.inr rfl) (vA (ji ak ak (ji ak ak (ji ak ak (ji ak ak tR)))) rfl rfl (by decide) (by decide)))
    (ao (ax (aB (aa (aj (aE K) (pv 0) af (λ_ _=>rfl)) (aa (bt (fJ K) rfl T.tuple_ PyProof.Rows.boot_tuple (aa (eh ["_law_room","_law_deed","_law_other","_law_sign"] [1] (fh K (aj (aE K) (pv 0) af (λ_ _=>rfl))) (λ_=>(ez (n:=4) K rfl (bB (aT (i:=0) (show(["_law_room","_law_deed","_law_other","_law_sign","_law_deeds"]:List Vn).Nodup from by decide +kernel) rfl (Or.inl rfl) (Or.inr rfl)) (bB (aT (i:=1) (show(["_law_room","_law_deed","_law_other","_law_sign","_law_deeds"]:List Vn).Nodup from by decide +kernel) rfl (Or.inl rfl) (Or.inr rfl)) (bB (aT (i:=2) (show(["_law_room","_law_deed","_law_other","_law_sign","_law_deeds"]:List Vn).Nodup from by decide +kernel) rfl (Or.inl rfl) (Or.inr rfl)) (bB (aT (i:=3) (show(["_law_room","_law_deed","_law_other","_law_sign","_law_deeds"]:List Vn).Nodup from by decide +kernel) rfl (Or.inl rfl) (Or.inr rfl)) dW)))))) (λ_=>eJ) (λ_=>(aB (aa (pv 2) (aa (xM (uV hr) (pv 4) (pv 1) (λ_ _=>rfl)) (aa (pv 0) (aa (pv 3) ae))))))) ae)) ae)))))),?_⟩
  walk_at"";intro dp d;show _/\_;refine⟨aI,dj,rfl,by decide,?_⟩;have G:upd (upd H dp (.dK [])) dp (.dK (dR [] dj)) dp=Vo (.dK dj):=aI;have c:Ext H (upd (upd H dp (.dK [])) dp (.dK (dR [] dj))):=iU (bF d) d;generalize upd (upd H dp (.dK [])) dp (.dK (dR [] dj))=H1 at G c ⊢;walk_at"";refine aG (ah.of (c _ _ C)) (v:=.int m) rfl ?_;walk_at"";refine aG (ah.of (c _ _ C)) (v:=.ref r) rfl ?_;refine eY (ah.of (c _ _ F)) ?_;refine ft (xs:=bs.map V.ref) (λi ys H'=>Ext H1 H'/\∃cs,ys=cs.map V.ref/\bu H' cs ((ws.take i).map Way.turn)) (ee (by rw[zp,al.1];omega)) ⟨Ext.rfl' _,[],rfl,bu.nil _⟩ (λi ys H' hi h=>⟨ah.of (h.1 _ _ (c _ _ F)),?_⟩) ?_ ?_
  .obtain⟨_,cs,rfl,R,_⟩:=h;rw[zp,R,zp,Af];exact Nat.min_le_left _ _
  .rintro i x ys H' I ⟨g,cs,rfl,a⟩;rw[zr]at I;obtain⟨b,J,rfl⟩:=zC.mp I;have hi:i<ws.length:=by rw[<-al.1];exact(zy.mp J).1
   have j:ws[i]?=Vo ws[i]:=zq hi;have S:=g _ _ (c _ _ (al.2 i b _ J j));refine cZ (ah.of S) rfl ?_;walk_at"";refine aw ?_;walk_at"";refine⟨dp,.str (eS ws[i].deed),rfl,.inl ⟨dj,.inr ws[i].deed,.inl (g _ _ G),rfl,(lu (ok.ok _ (zP hi)).dd).symm⟩,?_⟩;walk_at"";refine au λv Z k hv _=>?_;refine⟨g.trans k,cs++[v],by rw[zG];rfl,?_⟩;rw[List.take_add_one,j,zG];exact(a.ext k).snoc hv
  .rintro ys H' l ⟨g,cs,rfl,a⟩ hl;rw[zp,al.1,zR]at a;walk_at"";have k:Ext H1 (upd H' l (.lst (cs.map V.ref))):=g.trans (bF hl);have y:=a.ext (bF (o:=.lst (cs.map V.ref)) hl);have z:upd H' l (.lst (cs.map V.ref)) l=Vo (.lst (cs.map V.ref)):=aI;generalize upd H' l (.lst (cs.map V.ref))=H4 at k y z ⊢;refine gg (ag.of z) (cE λt H5 L U _=>?_);walk_at"";refine au λu W M Y _=>?_;exact q _ W (c.trans (k.trans (L.trans M))) ⟨bN.mk Y (((y.ext L).ways U).ext M),ok.turn⟩
theorem mem_join{c x:Nat}:∀{ps:List Vn},x∈(Str.join ⟨#[c]⟩ ps).cps.toList->x=c\/∃p∈ps,x∈p.cps.toList
 | [],h=>by cases h
 | [p],h=>.inr ⟨p,zw,h⟩
 | p::q::r,h=>by
  rw[Tx.gL]at h;rcases zM.mp h with h|h
  .exact .inr ⟨p,zw,h⟩
  .rcases zE.mp h with h|h
   .exact .inl h
   .rcases mem_join h with h|⟨y,a,h⟩
    .exact .inl h
    .exact .inr ⟨y,zt _ a,h⟩
def vB(h:cw z):∀c∈z.cps.toList,97<=c/\c<=122:=by rcases h with rfl|rfl|rfl|rfl<;>decide +kernel
def sign_sign(h:fm z):∀c∈z.cps.toList,97<=c/\c<=122:=by
 obtain⟨c,h1,h2,rfl⟩:=h;intro x a;have:x=c:=by simpa using a
 omega
def yS{m:Int}(ok:w.Ok m){p:Vn}(b:p∈nS w){c:Nat}(a:c∈p.cps.toList):(48<=c/\c<=57)\/(97<=c/\c<=122):=by
 simp only[zE,zU,or_false]at b;rcases b with rfl|rfl|rfl|rfl|rfl
 .cases a
 .exact .inl (Tx.hZ ok.r0 a)
 .exact .inr (vB ok.dd c a)
 .exact .inl (Tx.hZ ok.o0 a)
 .exact .inr (sign_sign ok.sg c a)
def xA(h:∀c∈z.cps.toList,c<1114112):(PyData.str z).canLay0=true:=by show PyData.strOk z=true;unfold PyData.strOk;rw[Array.all_eq_true_iff_forall_mem];exact λc a=>Ak (h c (Array.mem_toList_iff.mpr a))
def gr{m:Int}(ok:HOuse m ws):(PyData.str (aX m ws)).canLay0=true:=by
 refine xA λc b=>?_;have m1:=ok.m1;have m12:=ok.m12;have e:aX m ws=Str.join ⟨#[58]⟩ [Tx.aH m,Txt.join ⟨#[44]⟩ (cX ws)]:=rfl;rw[e,Tx.fQ]at b;rcases mem_join b with h|⟨p,a,h⟩
 .omega
 .simp only[zE,zU,or_false]at a;rcases a with rfl|rfl
  .have:=Tx.hZ (by omega) h;omega
  .rcases mem_join h with h|⟨p,a,h⟩
   .omega
   .obtain⟨w,d,rfl⟩:=List.mem_map.mp a;rw[qw]at h;rcases mem_join h with h|⟨p,a,h⟩
    .omega
    .have:=yS (ok.ok w d) a h;omega
structure Apt(H:Hp)(l1 l2 b:Vb)(xs:List V):Prop where
 at_:H b=Vo (.lst xs)
 n1:b≠l1
 n2:b≠l2
def Apt.step{K:zk}{b:Vb}{d:Dk}(D:DkAt K H p l1 l2 d)(fr:Fr H H' p l1 l2)(c:l3=l2\/H l3=Vp)(a:Apt H l1 l2 b xs):Apt H' l1 l3 b xs:=by
 obtain⟨⟨dx,v,a1,a2⟩,_,_,_⟩:=D;refine⟨fr b _ a.at_ (bh a.at_ a1 (by intro z;cases z)) a.n1 a.n2,a.n1,λe=>?_⟩;rcases c with h|h
 .exact a.n2 (e.trans h)
 .rw[<-e,a.at_]at h;cases h
def Fr.tk{K:zk}{d:Dk}(D:DkAt K H p l1 l2 d)(fr:Fr H H' p l1 l2):Tk H H':=by obtain⟨⟨dx,v,a1,a2⟩,⟨vs,a,_⟩,⟨us,c1,_⟩,_⟩:=D;exact λb xs z=>fr b _ z (bh z a1 (by intro z;cases z)) (bh z a (by intro z;cases z)) (bh z c1 (by intro z;cases z))
def gj{a b:Vn}(h:H t=Vo (.tup [.str a,.str b]))(la:(PyData.str a).canLay0=true)(lb:(PyData.str b).canLay0=true):aS H 1 (.ref t) (.tuple [.str a,.str b]):=
 .inr ⟨t,[.str a,.str b],_,rfl,.inl ⟨h,rfl⟩,.cons ⟨rfl,la⟩ (.cons ⟨rfl,lb⟩ .nil)⟩
def kX(a b c d:Vn):PyData.eqv (.tuple [.str a,.str b]) (.tuple [.str c,.str d])=(decide (a=c) && decide (b=d)):=by simp only[PyData.eqv,PyData.eqvAll];by_cases h1:a=c<;>by_cases h2:b=d<;>simp[h1,h2]
theorem cD.ok{K:zk}{H:Hp}{p l1 l2:Vb}{Q:VK}{d d':Dk}{c:Cmd}{z:Vn}(e:aQ d c=.ok (z,d'))
  (k:∀t l3 H',(l3=l2\/H l3=Vp)->DkAt K H' p l1 l3 d'->Fr H H' p l1 l2->H' t=Vo (.tup [.str "told",.str z])->Q (.ref t) H'):cD K H p l1 l2 Q (aQ d c):=by rw[e];exact k
def cD.no{K:zk}{d:Dk}{c:Cmd}(e:aQ d c=.error z)
  (k:∀t H',Ext H H'->H' t=Vo (.tup [.str "refused",.str z])->Q (.ref t) H'):cD K H p l1 l2 Q (aQ d c):=by rw[e];exact k
def fw:(PyData.str "told").canLay0=true/\(PyData.str "refused").canLay0=true:=by decide +kernel
def xf{h:HV}(r:w.room<h.1/\w.other<h.1)(n:w∉h.2)(l:h.2.length<100):bH h w=.ok (h.1,h.2++[w]):=by unfold bH;rw[Al (λz=>z r),Al n,Al (by omega)]
def pG{h:HV}(n:w∈h.2):bT h w=.ok (h.1,h.2.filter λu=>decide (u≠w)):=by unfold bT;rw[Am n]
def wO{h:HV}(n:w∉h.2):bT h w=.error "NoWay":=by unfold bT;rw[Al n]
def xI{h:HV}(r:w.room<h.1/\w.other<h.1)(n:w∉h.2)(l:100<=h.2.length):bH h w=.error "TooGreat":=by unfold bH;rw[Al (λz=>z r),Al n,Am l]
def yt{h:HV}(r:w.room<h.1/\w.other<h.1)(n:w∈h.2):bH h w=.error "NoWay":=by unfold bH;rw[Al (λz=>z r),Am n]
def wW{h:HV}(r:¬(w.room<h.1/\w.other<h.1)):bH h w=.error "NoPlace":=by unfold bH;rw[Am r]
def mG{a b:Vn}(c:H t=Vo (.tup [.str a,.str b]))(d:H u=Vo (.tup [.str a,.str b]))(la:(PyData.str a).canLay0=true)(lb:(PyData.str b).canLay0=true)(k:Q (.bl false) H):hU true (.ref t) (.ref u) H Q:=
 ⟨1,1,_,_,gj c la lb,gj d la lb,by decide,by rw[kX];simpa using k⟩
def nA:("show":Vn)=Cmd.line .show:=by decide +kernel
def tq(n:Int):("rooms ":Vn)++Tx.aH n=Cmd.line (.rooms n):=by
 have:Cmd.line (.rooms n)=(("rooms":Vn)++(" ":Vn))++Tx.aH n:=by show Txt.join ⟨#[32]⟩ [("rooms":Vn),Tx.aH n]=_;rw[Tx.fQ];rfl
 rw[this,show ("rooms":Vn)++(" ":Vn) = "rooms " by decide +kernel]
def jk:("turn":Vn)=Cmd.line .turn/\("undo":Vn)=Cmd.line .undo/\("redo":Vn)=Cmd.line .redo:=by decide +kernel
def WayL.of{m:Int}(ok:w.Ok m)(h:m<=12):WayL w:=⟨ok.r0,by have:=ok.r1;omega,ok.o0,by have:=ok.o1;omega,ok.dd,ok.sg⟩
def wL{ds:List Int}(h:ds.length=8):∃a b c d e f g i,ds=[a,b,c,d,e,f,g,i]:=by
 match ds,h with
 | [a,b,c,d,e,f,g,i],_=>exact⟨a,b,c,d,e,f,g,i,rfl⟩
def yL:∀c:Fin 26,("abcdefghijklmnopqrstuvwxyz":Vn).cps.toList[c.1]?=Vo (97+c.1):=by decide +kernel
def sX{d:Int}(h:0<=d/\d<5):∃z,cn [V.str "up",V.str "down",V.str "stay",V.str "zero",V.str "up"] d=Vo (.str z)/\cw z:=by
 obtain⟨k,rfl⟩:∃k:Nat,d=(k:Int):=⟨d.toNat,by omega⟩;have a:k<5:=by omega
 match k,a with
 | 0,_=>exact⟨_,rfl,.inl rfl⟩
 | 1,_=>exact⟨_,rfl,.inr (.inl rfl)⟩
 | 2,_=>exact⟨_,rfl,.inr (.inr (.inl rfl))⟩
 | 3,_=>exact⟨_,rfl,.inr (.inr (.inr rfl))⟩
 | 4,_=>exact⟨_,rfl,.inl rfl⟩
def uL{d:Int}(h:0<=d/\d<2):∃n:Int,cn [V.int 26,V.int 3] d=Vo (.int n)/\0<n/\n<=26:=by
 obtain⟨k,rfl⟩:∃k:Nat,d=(k:Int):=⟨d.toNat,by omega⟩;have a:k<2:=by omega
 match k,a with
 | 0,_=>exact⟨26,rfl,by decide,by decide⟩
 | 1,_=>exact⟨3,rfl,by decide,by decide⟩
def eV(H:Hp):Cmd->V->Prop
 | .rooms n,x=>x=.int n
 | .way w,x=>∃b,x=.ref b/\H b=Vo (.tup (Way.vs w))
 | .close w,x=>∃b,x=.ref b/\H b=Vo (.tup (Way.vs w))
 | .turn,x=>x=.non
 | .undo,x=>x=.non
 | .redo,x=>x=.non
 | .show,_=>False
def qU(K:zk):Sp:=λvs H Q _=>∃v h c p,vs=[v,.int c,.int p]/\aR H v h/\0<p/\∀t x cm H',Ext H H'->cm.Ok->H' t=Vo (.tup [.str cm.head,x])->eV H' cm x->Q (.ref t) H'
abbrev jE:Vl:=stq 134
def nM:FnScope ["_law_house","_law_cell_here","_law_prime","_law_draws_here","_law_many","_law_ways","_law_way","_law_sign"] ["_law_house","_law_cell_here","_law_prime"] (ay jE):=⟨rfl,rfl,rfl,by decide +kernel,rfl,by decide +kernel,by decide +kernel⟩
def yj{P:Vd}{w:Ve}{K:zk}{mg:Vn->Option Va}{base:Vh}(D:Dfn K mg "_law_plan" jE ["_law_house","_law_cell_here","_law_prime"])(T:Blt mg)(d:Cal P w K mg base "_law_draws" 2 ["_law_cell_here","_law_widths","_law_prime"] (iA K)):Cal P w K mg base "_law_plan" 3 ["_law_house","_law_cell_here","_law_prime"] (qU K):=by
 have nd:=(nM).nd;refine D.ok nM (λvs H Q E h=>?_) (λX hX H vs Q E h=>?_)
 .obtain⟨v,h,c,p,rfl,_⟩:=h;rfl
 .obtain⟨f,cdv,A,outer,s,H0,E0,rfl,hr⟩:=hX;obtain⟨v,h,c,p,rfl,⟨hv,ok⟩,hp,q⟩:=h;obtain⟨m,ws⟩:=h;have m1:1<=m:=ok.m1;have m12:m<=12:=ok.m12;have as:ws.length<=100:=ok.few;refine⟨_,(@ar _ _ _ _ _ (@bj _ _ 3 _ _ _ _ nd rfl (Or.inl rfl) (aF d hr (@aa _ _ _ _ _ (pv 1) (@aa _ _ _ _ _ (@bA _ _ _ _ (yY (.c (.c (.c (.c (.c (.c (.c (.c .n)))))))))) (@aa _ _ _ _ _ (pv 2) ae rfl) rfl) rfl)) rfl (Or.inl rfl))
    (@ar _ _ _ _ _ (@fc _ _ _ _ _ _ (pv 0) (ez (n:=2) K rfl (bB (aT (i:=4) nd rfl (Or.inl rfl)) (bB (aT (i:=5) nd rfl (Or.inl rfl)) dW))) rfl rfl rfl)
    (@ar _ _ _ _ _ (@bj _ _ 6 _ _ _ _ nd rfl (Or.inl rfl) (@aB _ _ _ _ _ (@aa _ _ _ _ _ (aA cP (@aj _ _ _ _ _ _ _ (aD K) (pv 3) af (λ_ _=>rfl)) (aA cu (pv 4) (bt gn rfl T.int_ PyProof.Rows.boot_int (@aa _ _ _ _ _ (cc bE (@aj _ _ _ _ _ _ _ (aD K) (pv 3) af (λ_ _=>rfl)) af (aC _)) ae rfl)))) (@aa _ _ _ _ _ (@aj _ _ _ _ _ _ _ (aD K) (@bA _ _ _ _ (@aa _ _ _ _ _ ak (@aa _ _ _ _ _ ak (@aa _ _ _ _ _ ak (@aa _ _ _ _ _ ak (@aa _ _ _ _ _ ak ae rfl) rfl) rfl) rfl) rfl)) (@aj _ _ _ _ _ _ _ (aD K) (pv 3) af (λ_ _=>rfl)) (λ_ _=>rfl)) ae rfl) rfl)) rfl (Or.inl rfl))
    (@ar _ _ _ _ _ (@bj _ _ 7 _ _ _ _ nd rfl (Or.inl rfl) (@aj _ _ _ _ _ _ _ pA ak (aA cP (@aj _ _ _ _ _ _ _ (aD K) (pv 3) af (λ_ _=>rfl)) (@aj _ _ _ _ _ _ _ (aD K) (@bA _ _ _ _ (@aa _ _ _ _ _ af (@aa _ _ _ _ _ af ae rfl) rfl)) (@aj _ _ _ _ _ _ _ (aD K) (pv 3) af (λ_ _=>rfl)) (λ_ _=>rfl))) (λ_ _=>rfl)) rfl (Or.inl rfl))
    (@ar _ _ _ _ _ (@bj _ _ 6 _ _ _ _ nd rfl (Or.inl rfl) (aA jw (pv 6) (@aB _ _ _ _ _ (@aa _ _ _ _ _ (aA cP (@aj _ _ _ _ _ _ _ (aD K) (pv 3) af (λ_ _=>rfl)) (aA cu (pv 4) (bt gn rfl T.int_ PyProof.Rows.boot_int (@aa _ _ _ _ _ (cc bE (@aj _ _ _ _ _ _ _ (aD K) (pv 3) af (λ_ _=>rfl)) af (aC _)) ae rfl)))) (@aa _ _ _ _ _ (pv 7) ae rfl) rfl))) rfl (Or.inl rfl))
    (@ar _ _ _ _ _ (@aO _ _ _ _ _ _ _ _ (aK fq (@aj _ _ _ _ _ _ _ (aD K) (pv 3) af (λ_ _=>rfl)) af (aC _)) (@ao _ _ _ (@ax _ _ _ _ (@aB _ _ _ _ _ (@aa _ _ _ _ _ ak (@aa _ _ _ _ _ (pv 6) ae rfl) rfl)))) aL)
    (@ar _ _ _ _ _ (@aO _ _ _ _ _ _ _ _ (aK fq (@aj _ _ _ _ _ _ _ (aD K) (pv 3) af (λ_ _=>rfl)) af (aC _)) (@ar _ _ _ _ _ (eW (PW.pt (uS (aK eQ (aP (bV K) rfl T.len_ PySem.boot_len (@aa _ _ _ _ _ (pv 5) ae rfl)) af (aC _)) (vG (aK eQ (@aj _ _ _ _ _ _ _ (aD K) (pv 3) af (λ_ _=>rfl)) af (aC _))))) (@ao _ _ _ (@bj _ _ 6 _ _ _ _ nd rfl (Or.inl rfl) (@aj _ _ _ _ _ _ _ (aE K) (pv 5) (aA cP (@aj _ _ _ _ _ _ _ (aD K) (pv 3) af (λ_ _=>rfl)) (aP (bV K) rfl T.len_ PySem.boot_len (@aa _ _ _ _ _ (pv 5) ae rfl))) (λ_ _=>rfl)) rfl (Or.inl rfl))) aL)
    (@ao _ _ _ (@ax _ _ _ _ (@aB _ _ _ _ _ (@aa _ _ _ _ _ (@aj _ _ _ _ _ _ _ (aD K) (@bA _ _ _ _ (@aa _ _ _ _ _ ak (@aa _ _ _ _ _ ak ae rfl) rfl)) (bt gn rfl T.int_ PyProof.Rows.boot_int (@aa _ _ _ _ _ (cc bE (@aj _ _ _ _ _ _ _ (aD K) (pv 3) af (λ_ _=>rfl)) af (aC _)) ae rfl)) (λ_ _=>rfl)) (@aa _ _ _ _ _ (pv 6) ae rfl) rfl))))) aL)
    (@ar _ _ _ _ _ (@aO _ _ _ _ _ _ _ _ (aK bE (@aj _ _ _ _ _ _ _ (aD K) (pv 3) af (λ_ _=>rfl)) af (aC _)) (@ao _ _ _ (@ax _ _ _ _ (@aB _ _ _ _ _ (@aa _ _ _ _ _ ak (@aa _ _ _ _ _ (aA cu af (aA cP (@aj _ _ _ _ _ _ _ (aD K) (pv 3) af (λ_ _=>rfl)) af)) ae rfl) rfl)))) aL)
    (@ar _ _ _ _ _ (@aO _ _ _ _ _ _ _ _ (aK fq (@aj _ _ _ _ _ _ _ (aD K) (pv 3) af (λ_ _=>rfl)) af (aC _)) (@ao _ _ _ (@ax _ _ _ _ (@aB _ _ _ _ _ (@aa _ _ _ _ _ ak (@aa _ _ _ _ _ gM ae rfl) rfl)))) aL)
    (@ao _ _ _ (@ax _ _ _ _ (@aB _ _ _ _ _ (@aa _ _ _ _ _ (@aj _ _ _ _ _ _ _ (aD K) (@bA _ _ _ _ (@aa _ _ _ _ _ ak (@aa _ _ _ _ _ ak ae rfl) rfl)) (bt gn rfl T.int_ PyProof.Rows.boot_int (@aa _ _ _ _ _ (cc eQ (@aj _ _ _ _ _ _ _ (aD K) (pv 3) af (λ_ _=>rfl)) af (aC _)) ae rfl)) (λ_ _=>rfl)) (@aa _ _ _ _ _ gM ae rfl) rfl))))))))))))),?_⟩
  walk_at"";refine au λw H1 e1 O hw=>?_;walk_at"";refine kC [24,14,5,14,26,100,30,2] O (by decide) (by decide) hp λdq ds H2 e2 hd ad hl u=>?_;obtain⟨N,d1,d2,d3,R,C,S,d7,rfl⟩:=wL hl;have b0:=u 0 _ _ rfl rfl;have b1:=u 1 _ _ rfl rfl;have b2:=u 2 _ _ rfl rfl;have b3:=u 3 _ _ rfl rfl;have b4:=u 4 _ _ rfl rfl;have b5:=u 5 _ _ rfl rfl;have b6:=u 6 _ _ rfl rfl;have b7:=u 7 _ _ rfl rfl;clear u hl ad O;have U:=e1.trans e2;obtain⟨pv,t,rfl,g1,g2⟩:=id (hv.ext U);obtain⟨bs,g3,al⟩:=bC.al g2;have W:bs.length=ws.length:=al.1;walk_at"";refine cZ (ah.of g1) rfl ?_;walk_at"";refine az (ag.of hd) (v:=.int d1) rfl ?_;walk_at"";refine az (ag.of hd) (v:=.int S) rfl ?_;walk_at"";refine au λdl H3 e3 Y _=>?_;walk_at"";refine az (ag.of (e3 _ _ hd)) (v:=.int d2) rfl ?_;obtain⟨zd,hz,Z⟩:=sX b2;refine az (ag.of Y) (v:=.str zd) hz ?_;walk_at"";refine au λt1 H4 e4 a0 _=>?_;walk_at"";have x:=e4 _ _ (e3 _ _ hd);refine az (ag.of x) (v:=.int R) rfl ?_;walk_at"";refine au λnl H5 e5 a1 _=>?_;walk_at"";refine az (ag.of (e5 _ _ x)) (v:=.int d7) rfl ?_;obtain⟨n7,h7,p7,q7⟩:=uL b7;refine az (ag.of a1) (v:=.int n7) h7 ?_;refine rd_I p7 ?_;have am:=Int.emod_nonneg R (show n7≠0 by omega);have an:=Int.emod_lt_of_pos R p7;obtain⟨k4,a2⟩:∃k:Nat,R % n7=(k:Int):=⟨(R % n7).toNat,by omega⟩;rw[a2];refine⟨_,_,97+k4,rfl,rfl,(by decide),bf (yL ⟨k4,by omega⟩),?_⟩;walk_at"";have F:=e5 _ _ x;refine az (ag.of F) (v:=.int d3) rfl ?_;walk_at"";refine az (ag.of F) (v:=.int S) rfl ?_;walk_at"";refine au λt2 H6 e6 a3 _=>?_;refine kO ((e5.trans e6) _ _ a0) a3 (bb (by simp)) λt3 H7 e7 a4=>?_;have key:∃w:Way,WayL w/\H7 t3=Vo (.tup (Way.vs w)):=by refine⟨⟨_,_,_,_⟩,⟨Int.emod_nonneg _ ?_,Int.lt_of_lt_of_le (Int.emod_lt_of_pos _ ?_) ?_,Int.emod_nonneg _ ?_,Int.lt_of_lt_of_le (Int.emod_lt_of_pos _ ?_) ?_,Z,⟨97+k4,by omega,by omega,rfl⟩⟩,a4⟩<;>split<;>omega
  obtain⟨w,wl,G⟩:=key;have z:=e3.trans (e4.trans (e5.trans (e6.trans e7)));have g:=z _ _ hd;have I:=z _ _ g3;have ap:=al.ext z;have J:=U.trans z;clear a0 a3 a4 a1 Y x F hd e3 e4 e5 e6 e7 a2 am an p7 q7 h7 hz Z al g3;walk_at"";refine az (ag.of g) (v:=.int N) rfl ?_;walk_at"";refine eM (λh=>?_) (λh=>?_)
  .walk_at"";refine au λtt L o a _=>?_;exact q tt (.ref t3) (.way w) L (J.trans o) wl a ⟨t3,rfl,o _ _ G⟩
  walk_at"";refine az (ag.of g) (v:=.int N) rfl ?_;walk_at"";refine eM (λh=>?_) (λh=>?_)
  .walk_at"";refine dh (λa5 H'=>H'=H7/\∃b w,WayL w/\H7 b=Vo (.tup (Way.vs w))/\a5=[Vo (.ref pv),Vo (.int c),Vo (.int p),Vo (.ref dq),Vo (.int m),Vo (.ref t),Vo (.ref b),Vo (.str ⟨#[97+k4]⟩)]) ?_ ?_
   .walk_at"";refine dQ (ah.of I) ?_;walk_at"";rw[zp,W];by_cases h0:(0:Int)<((ws.length:Nat):Int)
    rotate_left
    .rw[Aj h0];refine av ?_;walk_at"";exact⟨rfl,t3,w,wl,G,rfl⟩
    rw[Ak h0];refine aw ?_;walk_at"";refine az (ag.of g) (v:=.int S) rfl ?_;walk_at"";refine eM (λh6=>?_) (λh6=>?_)
    .walk_at"";refine az (ag.of g) (v:=.int C) rfl ?_;walk_at"";refine dQ (ah.of I) ?_;rw[zp,W];refine rd_I h0 ?_;have b8:=Int.emod_nonneg C (show((ws.length:Nat):Int)≠0 by omega);have b9:=Int.emod_lt_of_pos C h0;obtain⟨y,hy⟩:∃y:Nat,C % ((ws.length:Nat):Int)=(y:Int):=⟨(C % ((ws.length:Nat):Int)).toNat,by omega⟩;rw[hy];have a6:y<bs.length:=by omega
     have a7:y<ws.length:=by omega
     refine aG (ah.of I) (v:=.ref bs[y]) (bf (j:=y) (by rw[zr,zq a6];rfl)) ?_;walk_at"";exact⟨rfl,bs[y],ws[y],WayL.of (ok.ok _ (zP a7)) m12,ap.2 y _ _ (zq a6) (zq a7),rfl⟩
    .walk_at"";exact⟨rfl,t3,w,wl,G,rfl⟩
   .rintro a5 H' ⟨hH,b,w2,a8,a9,rfl⟩;subst hH;walk_at"";refine au λul L o r _=>?_;walk_at"";refine az (ag.of (o _ _ g)) (v:=.int S) rfl ?_;walk_at"";by_cases ab:S=29
    .rw[Ak ab];refine az (ag.of r) (v:=.str "way") rfl ?_;walk_at"";refine au λtt M B a _=>?_;exact q tt (.ref b) (.way w2) M (J.trans (o.trans B)) a8 a ⟨b,rfl,(o.trans B) _ _ a9⟩
    .rw[Aj ab];refine az (ag.of r) (v:=.str "close") rfl ?_;walk_at"";refine au λtt M B a _=>?_;exact q tt (.ref b) (.close w2) M (J.trans (o.trans B)) a8 a ⟨b,rfl,(o.trans B) _ _ a9⟩
  walk_at"";refine az (ag.of g) (v:=.int N) rfl ?_;walk_at"";refine eM (λh=>?_) (λh=>?_)
  .walk_at"";refine az (ag.of g) (v:=.int C) rfl ?_;walk_at"";refine au λtt L o a _=>?_;exact q tt _ (.rooms (1+C % 12)) L (J.trans o) ⟨by omega,by omega⟩ a rfl
  walk_at"";refine az (ag.of g) (v:=.int N) rfl ?_;walk_at"";refine eM (λh=>?_) (λh=>?_)
  .walk_at"";refine au λtt L o a _=>?_;exact q tt _ .turn L (J.trans o) trivial a rfl
  walk_at"";refine au λul L o r _=>?_;walk_at"";refine az (ag.of (o _ _ g)) (v:=.int N) rfl ?_;walk_at"";by_cases ac:21<N
  .rw[Ak ac];refine az (ag.of r) (v:=.str "redo") rfl ?_;walk_at"";refine au λtt M B a _=>?_;exact q tt _ .redo M (J.trans (o.trans B)) trivial a rfl
  .rw[Aj ac];refine az (ag.of r) (v:=.str "undo") rfl ?_;walk_at"";refine au λtt M B a _=>?_;exact q tt _ .undo M (J.trans (o.trans B)) trivial a rfl
def gy(h:HV):Cmd->Except Vn HV
 | .rooms n=>.ok (n,[])
 | .way w=>bH h w
 | .close w=>bT h w
 | .turn=>.ok (h.1,h.2.map Way.turn)
 | _=>.error "NoDeed"
def eU(H:Hp)(Q:VK):Except Vn HV->Prop
 | .error nm=>∀t H',Ext H H'->H' t=Vo (.tup [.str "refused",.str nm])->Q (.ref t) H'
 | .ok h=>∀t u H',Ext H H'->H' t=Vo (.tup [.str "told",u])->aR H' u h->Q (.ref t) H'
def Cmd.Due:Cmd->Prop
 | .rooms _=>True
 | .way _=>True
 | .close _=>True
 | .turn=>True
 | _=>False
def oZ(K:zk):Sp:=λvs H Q _=>∃b us i v h cm x,vs=[.ref b,.int ((i:Nat):Int),.str (Cmd.head cm),x]/\H b=Vo (.lst us)/\us[i]?=Vo v/\aR H v h/\cm.Ok/\eV H cm x/\cm.Due/\eU H Q (gy h cm)
abbrev mr:Vl:=stq 135
def pQ:FnScope ["_law_book","_law_here","_law_deed","_law_way","_law_many","_law_ways"] ["_law_book","_law_here","_law_deed","_law_way"] (ay mr):=⟨rfl,rfl,rfl,by decide +kernel,rfl,by decide +kernel,by decide +kernel⟩
def ua{P:Vd}{w:Ve}{K:zk}{mg:Vn->Option Va}{base:Vh}(D:Dfn K mg "_law_due" mr ["_law_book","_law_here","_law_deed","_law_way"])(T:Blt mg)(c:Cal P w K mg base "_law_turned" 1 ["_law_house"] (rG K)):Cal P w K mg base "_law_due" 2 ["_law_book","_law_here","_law_deed","_law_way"] (oZ K):=by
 have nd:=(pQ).nd;refine D.ok pQ (λvs H Q E h=>?_) (λX hX H vs Q E h=>?_)
 .obtain⟨b,us,i,v,h,cm,x,rfl,_⟩:=h;rfl
 .obtain⟨f,cdv,A,outer,s,H0,E0,rfl,hr⟩:=hX;obtain⟨b,us,i,v,h,cm,x,rfl,N,O,hv,C,L,dc,r⟩:=h;obtain⟨m,ws⟩:=h;obtain⟨⟨px,t,rfl,g1,g2⟩,ok⟩:=id hv;obtain⟨bs,M,al⟩:=bC.al g2;have F:bs.length=ws.length:=al.1;have m1:1<=m:=ok.m1;have m12:m<=12:=ok.m12;have a6:ws.length<=100:=ok.few;refine⟨_,(ar (fc (aj (aD K) (pv 0) (pv 1) (λ_ _=>rfl)) (ez (n:=2) K rfl (bB (aT (i:=4) nd rfl (Or.inl rfl)) (bB (aT (i:=5) nd rfl (Or.inl rfl)) dW))))
    (ar (aO (aK bE (pv 2) ak (aC _)) (ao (ax (aB (aa ak (aa (aB (aa (pv 3) (aa (aB ae) ae))) ae))))) aL)
    (ar (aO (aK bE (pv 2) ak (aC _)) (ao (ax (aB (aa ak (aa (aF c hr (aa (aj (aD K) (pv 0) (pv 1) (λ_ _=>rfl)) ae)) ae))))) aL)
    (ar (aO (aK bE (pv 2) ak (aC _)) (ar (aO (aK (qP hr) (pv 3) (pv 5) (by with_unfolding_all rfl)) (ao (ax (aB (aa ak (aa ak ae))))) aL)
    (ao (ax (aB (aa ak (aa (aB (aa (pv 4) (aa (bt (fJ K) rfl T.tuple_ PyProof.Rows.boot_tuple (aa (eh ["_law_other"] [3] (fh K (pv 5)) (λ_=>(aT (i:=0) (show(["_law_other","_law_way"]:List Vn).Nodup from by decide +kernel) rfl (Or.inl rfl) (Or.inr rfl))) (λ_=>(j9 (aK (gD hr) (pv 0) (pv 1) (aC _)))) (λ_=>(pv 0))) ae)) ae))) ae)))))) aL)
    (ar (aO (aK ia (aP (rn rfl) rfl T.max_ PyProof.Rows.boot_max (aa (aj (aE K) (pv 3) af (λ_ _=>rfl)) (aa (aj (aE K) (pv 3) af (λ_ _=>rfl)) ae))) (pv 4) (aC _)) (ao (ax (aB (aa ak (aa ak ae))))) aL)
    (ar (aO (aK (rF hr) (pv 3) (pv 5) (by with_unfolding_all rfl)) (ao (ax (aB (aa ak (aa ak ae))))) aL)
    (ar (aO (aK bE (aP (bV K) rfl T.len_ PySem.boot_len (aa (pv 5) ae)) af (aC _)) (ao (ax (aB (aa ak (aa ak ae))))) aL)
    (ao (ax (aB (aa ak (aa (aB (aa (pv 4) (aa (aA jw (pv 5) (aB (aa (pv 3) ae))) ae))) ae)))))))))))),?_⟩
  walk_at"";refine az (ag.of N) (v:=.ref px) (bf (j:=i) O) ?_;refine cZ (ah.of g1) rfl ?_;walk_at"";refine bo ?_;cases cm with
  | undo=>exact False.elim dc
  | redo=>exact False.elim dc
  | «show»=>exact False.elim dc
  | rooms n=>
   obtain rfl:x=.int n:=L;refine rd_exb (aw ?_);walk_at"";refine au λt0 H1 e1 a1 _=>?_;walk_at"";refine au λu H2 p y _=>?_;walk_at"";refine au λtt q d a _=>?_;exact r tt (.ref u) q (e1.trans (p.trans d)) a ⟨bN.mk (d _ _ y) ⟨[],(p.trans d) _ _ a1,rfl,λj b k h=>by simp at h⟩,⟨C.1,C.2,Nat.zero_le _,λw h=>(nomatch h),List.nodup_nil⟩⟩
  | turn=>
   refine rd_exb (av ?_);walk_at"";refine bo ?_;refine rd_exb (aw ?_);walk_at"";refine az (ag.of N) (v:=.ref px) (bf (j:=i) O) ?_;walk_at"";refine⟨.ref px,(m,ws),rfl,hv,λu H1 e1 y=>?_⟩;walk_at"";refine au λtt q d a _=>?_;exact r tt u q (e1.trans d) a (y.ext d)
  | close w=>
   obtain⟨wt,rfl,g⟩:=L;have wl:WayL w:=C;refine rd_exb (av ?_);walk_at"";refine bo ?_;refine rd_exb (av ?_);walk_at"";refine bo ?_;refine rd_exb (aw ?_);walk_at"";refine i3 (Way.rep g wl.lay) M (al.reps λu y=>(ok.ok u y).lay) (by decide) ?_;simp only[if_true,ip];refine rd_exb ?_;by_cases z:w∈ws
   rotate_left
   .rw[Aj z];have r:eU H Q (.error "NoWay"):=by rw[<-wO (h:=(m,ws)) z];exact r
    refine aw ?_;walk_at"";refine au λtt q d a _=>?_;exact r tt q d a
   rw[Ak z];have R:=pS (h:=(m,ws)) ok (pG (h:=(m,ws)) z);have r:eU H Q (.ok (m,ws.filter λu=>decide (u≠w))):=by rw[<-pG (h:=(m,ws)) z];exact r
   refine av ?_;walk_at"";refine eY (ah.of M) ?_;refine ft (xs:=bs.map V.ref) (λi ys H'=>Ext H H'/\∃cs,ys=cs.map V.ref/\bu H' cs ((ws.take i).filter λu=>decide (u≠w))) (ee (by rw[zp,F];omega)) ⟨Ext.rfl' _,[],rfl,bu.nil _⟩ (λi ys H' hi h=>⟨ah.of (h.1 _ _ M),?_⟩) ?_ ?_
   .obtain⟨_,cs,rfl,hc,_⟩:=h;rw[zp,hc];exact zT (List.length_filter_le _ _) (by rw[Af];exact Nat.min_le_left _ _)
   .rintro i x ys H' L ⟨p,cs,rfl,B⟩;rw[zr]at L;obtain⟨b,N,rfl⟩:=zC.mp L;have hi:i<ws.length:=by rw[<-al.1];exact(zy.mp N).1
    have G:=zq hi;have I:=p _ _ (al.2 i b _ N G);have S:=(ok.ok _ (zP hi)).lay;rw[List.take_add_one,G,List.filter_append];generalize ws[i]=u at G I S;walk_at"";refine⟨1,1,_,_,Way.rep I S,Way.rep (p _ _ g) wl.lay,by decide,?_⟩;rw[Way.eqv];simp only[if_true];refine rd_exb ?_;by_cases he:u=w
    .rw[Ak he];refine av ?_;refine⟨p,cs,rfl,?_⟩;have:List.filter (λu=>decide (u≠w)) (Vo u).toList=[]:=by rw[he];simp
     rw[this,List.append_nil];exact B
    .rw[Aj he];refine aw ?_;walk_at"";refine⟨p,cs++[b],by rw[zG];rfl,?_⟩;have:List.filter (λu=>decide (u≠w)) (Vo u).toList=[u]:=by simp[he]
     rw[this];exact B.snoc I
   .rintro ys H' l2 ⟨p,cs,rfl,B⟩ U;rw[zp,al.1,zR]at B;walk_at"";have d:Ext H (upd H' l2 (.lst (cs.map V.ref))):=p.trans (bF U);have W:=B.ext (bF (o:=.lst (cs.map V.ref)) U);have Y:upd H' l2 (.lst (cs.map V.ref)) l2=Vo (.lst (cs.map V.ref)):=aI;generalize upd H' l2 (.lst (cs.map V.ref))=H4 at d W Y ⊢;refine gg (ag.of Y) (cE λt2 H5 Z ht _=>?_);walk_at"";refine au λu H6 e6 y _=>?_;walk_at"";refine au λtt H7 e7 a _=>?_;exact r tt (.ref u) H7 (d.trans (Z.trans (e6.trans e7))) a (aR.ext e7 ⟨bN.mk y (((W.ext Z).ways ht).ext e6),R⟩)
  | way w=>
   obtain⟨wt,rfl,g⟩:=L;have wl:WayL w:=C;refine rd_exb (av ?_);walk_at"";refine bo ?_;refine rd_exb (av ?_);walk_at"";refine bo ?_;refine rd_exb (av ?_);walk_at"";refine aG (ah.of g) (v:=.int w.room) rfl ?_;walk_at"";refine aG (ah.of g) (v:=.int w.other) rfl ?_;walk_at"";by_cases hr:w.room<m/\w.other<m
   rotate_left
   .have r:eU H Q (.error "NoPlace"):=by rw[<-wW (h:=(m,ws)) hr];exact r
    rw[Ak (show m<=if w.other>w.room then w.other else w.room by split<;>omega)];refine aw ?_;walk_at"";refine au λtt q d a _=>?_;exact r tt q d a
   rw[Aj (show ¬m<=if w.other>w.room then w.other else w.room by split<;>omega)];refine av ?_;walk_at"";refine i3 (Way.rep g wl.lay) M (al.reps λu y=>(ok.ok u y).lay) (by decide) ?_;simp only[if_false,ip];refine rd_exb ?_;by_cases z:w∈ws
   .rw[Ak z];have r:eU H Q (.error "NoWay"):=by rw[<-yt (h:=(m,ws)) hr z];exact r
    refine aw ?_;walk_at"";refine au λtt q d a _=>?_;exact r tt q d a
   rw[Aj z];refine av ?_;walk_at"";refine dQ (ah.of M) ?_;walk_at"";rw[zp,F];by_cases a7:ws.length=100
   .rw[Ak (show((ws.length:Nat):Int)=100 by omega)];have r:eU H Q (.error "TooGreat"):=by rw[<-xI (h:=(m,ws)) hr z (by show 100<=ws.length;omega)];exact r
    refine aw ?_;walk_at"";refine au λtt q d a _=>?_;exact r tt q d a
   rw[Aj (show ¬((ws.length:Nat):Int)=100 by omega)];have ew:=xf (h:=(m,ws)) hr z (by show ws.length<100;omega);have a2:=qc (h:=(m,ws)) ok wl ew;have r:eU H Q (.ok (m,ws++[w])):=by rw[<-ew];exact r
   refine av ?_;walk_at"";refine au λt2 H2 p a3 _=>?_;refine kO (p _ _ M) a3 (bb (by rw[zp,F];simp;omega)) λt3 q d a4=>?_;walk_at"";refine au λu H4 e4 y _=>?_;walk_at"";refine au λtt H5 Z a _=>?_;have J:=p.trans (d.trans e4);have a0:bu H4 (bs++[wt]) (ws++[w]):=(al.ext J).snoc (J _ _ g);have a5:H4 t3=Vo (.tup ((bs++[wt]).map V.ref)):=by rw[zG];exact e4 _ _ a4
   exact r tt (.ref u) H5 (J.trans Z) a (aR.ext Z ⟨bN.mk y (a0.ways a5),a2⟩)
def cV(d:Dk)(cm:Cmd):Dk:=match aQ d cm with
 | .ok (_,a)=>a
 | .error _=>d
def i7{d:Dk}{cm:Cmd}(h:cm.Due):aQ d cm=match gy d.cur cm with
  | .error z=>.error z
  | .ok h=>.ok (aX h.1 h.2,d.doD h):=by
 cases cm<;>first|rfl|exact False.elim h
def Dk.book(d:Dk):List HV:=d.past++[d.cur]++d.und.reverse
structure SpotAt(K:zk)(H:Hp)(s p b hl l1 l2:Vb)(d:Dk):Prop where
 tp:H s=Vo (.tup [.ref p,.ref b,.ref hl])
 dk:DkAt K H p l1 l2 d
 bk:∃vs,H b=Vo (.lst vs)/\Paired (aR H) vs d.book
 hr:H hl=Vo (.lst [.int ((d.past.length:Nat):Int)])
 n1:b≠l1
 n2:b≠l2
 n3:hl≠l1
 n4:hl≠l2
 n5:b≠hl
theorem SpotAt.ext{K:zk}{H H':Hp}{s p b hl l1 l2:Vb}{d:Dk}(e:Ext H H')(h:SpotAt K H s p b hl l1 l2 d):SpotAt K H' s p b hl l1 l2 d:=by obtain⟨vs,a,c⟩:=h.bk;exact⟨e _ _ h.tp,h.dk.ext e,⟨vs,e _ _ a,bx (λ_ _ z=>e _ _ z) c⟩,e _ _ h.hr,h.n1,h.n2,h.n3,h.n4,h.n5⟩
def gG{d:Dk}{cm:Cmd}(e:aQ d cm=.error z):cV d cm=d:=by unfold cV;rw[e]
def fX{d d':Dk}{cm:Cmd}(e:aQ d cm=.ok (z,d')):cV d cm=d':=by unfold cV;rw[e]
def hJ{d:Dk}(h:d.past=[]):aQ d .undo=.error "NoDeed":=by unfold aQ;rw[h];rfl
def ik{d:Dk}(h:d.und=[]):aQ d .redo=.error "NoDeed":=by unfold aQ;rw[h];rfl
def gP{d:Dk}{ps:List HV}{h:HV}(e:d.past=ps++[h]):aQ d .undo=.ok (aX h.1 h.2,⟨h,ps,d.und++[d.cur]⟩):=by unfold aQ;rw[e];simp only[List.getLast?_concat,List.dropLast_concat]
def iB{d:Dk}{us:List HV}{h:HV}(e:d.und=us++[h]):aQ d .redo=.ok (aX h.1 h.2,⟨h,d.past++[d.cur],us⟩):=by unfold aQ;rw[e];simp only[List.getLast?_concat,List.dropLast_concat]
def wZ{d:Dk}{ps:List HV}{h:HV}(e:d.past=ps++[h]):(⟨h,ps,d.und++[d.cur]⟩:Dk).book=d.book:=by unfold Dk.book;rw[e];simp
def yD{d:Dk}{us:List HV}{h:HV}(e:d.und=us++[h]):(⟨h,d.past++[d.cur],us⟩:Dk).book=d.book:=by unfold Dk.book;rw[e];simp
def iI(d:Dk):d.book.length=d.past.length+1+d.und.length:=by unfold Dk.book;rw[zH,zH,List.length_reverse,List.length_singleton]
def DkAt.upd_lst{K:zk}{d:Dk}{ys:List V}(D:DkAt K H p l1 l2 d)(c:H a=Vo (.lst xs))(n1:a≠l1)(n2:a≠l2):DkAt K (upd H a (.lst ys)) p l1 l2 d:=by
 have tk:Tk H (upd H a (.lst ys)):=λb zs z=>by rw[aq (bh z c (by intro z;cases z))];exact z
 obtain⟨⟨dx,v,a1,a2⟩,⟨vs,f,g⟩,⟨us,c1,c2⟩,ne⟩:=D;exact⟨⟨dx,v,by rw[aq (bh a1 c (by intro z;cases z))];exact a1,a2.tk tk⟩,⟨vs,by rw[aq n1.symm];exact f,bx tk g⟩,⟨us,by rw[aq n2.symm];exact c1,bx tk c2⟩,ne⟩
theorem oh{α β:Type}{F:α->β->Prop}:∀{a:List α} {bs:List β},Paired F a bs->∀n,Paired F (a.take n) (bs.take n)
 | _,_,.nil,n=>by rw[List.take_nil,List.take_nil];exact .nil
 | _,_,.cons h t,0=>.nil
 | _,_,.cons h t,n+1=>.cons h (oh t n)
def DkAt.but{K:zk}{g:Vb}{d:Dk}{ys:List V}(D:DkAt K H p l1 l2 d)(h:H a=Vo (.lst xs))(i:H g=Vo (.lst ys))(n1:a≠l1)(n2:a≠l2)(n3:g≠l1)(n4:g≠l2)(f:∀c,c≠a->c≠g->H' c=H c):DkAt K H' p l1 l2 d:=by
 have tk:Tk H H':=λb zs z=>by rw[f b (bh z h (by intro z;cases z)) (bh z i (by intro z;cases z))];exact z
 obtain⟨⟨dx,v,a1,a2⟩,⟨vs,j,k⟩,⟨us,c1,c2⟩,ne⟩:=D;exact⟨⟨dx,v,by rw[f p (bh a1 h (by intro z;cases z)) (bh a1 i (by intro z;cases z))];exact a1,a2.tk tk⟩,⟨vs,by rw[f l1 n1.symm n3.symm];exact j,bx tk k⟩,⟨us,by rw[f l2 n2.symm n4.symm];exact c1,bx tk c2⟩,ne⟩
def su(h:z∈cG):(PyData.str z).canLay0=true:=by
 have:∀y∈cG,(PyData.str y).canLay0=true:=by decide +kernel
 exact this z h
def mx:(PyData.str "NoDeed").canLay0=true:=su (show("NoDeed":Vn)∈cG by decide +kernel)
def md(a:H t=Vo (.tup [.str "refused",.str nm]))(b:H u=Vo (.tup [.str "refused",.str nm]))(l:(PyData.str nm).canLay0=true)(k:Q (.bl true) H):hU false (.ref t) (.ref u) H Q:=
 ⟨1,1,_,_,gj a fw.2 l,gj b fw.2 l,by decide,by rw[kX];simpa using k⟩
def jD(a:H t=Vo (.tup [.str "told",.str z]))(b:H u=Vo (.tup [.str "told",.str z]))(l:(PyData.str z).canLay0=true)(k:Q (.bl true) H):hU false (.ref t) (.ref u) H Q:=
 ⟨1,1,_,_,gj a fw.1 l,gj b fw.1 l,by decide,by rw[kX];simpa using k⟩
def eV.ext(e:Ext H H'):∀{cm:Cmd} {x:V},eV H cm x->eV H' cm x
 | .rooms _,_,h=>h
 | .way _,_,⟨b,h1,h2⟩=>⟨b,h1,e _ _ h2⟩
 | .close _,_,⟨b,h1,h2⟩=>⟨b,h1,e _ _ h2⟩
 | .turn,_,h=>h
 | .undo,_,h=>h
 | .redo,_,h=>h
 | .show,_,h=>h
def yI{cm:Cmd}(h:cm.Due):bM (V.str cm.head) [V.str "undo",V.str "redo"]=false:=by
 cases cm with
 | rooms n=>show bM (V.str "rooms") [V.str "undo",V.str "redo"]=false;decide +kernel
 | way w=>show bM (V.str "way") [V.str "undo",V.str "redo"]=false;decide +kernel
 | close w=>show bM (V.str "close") [V.str "undo",V.str "redo"]=false;decide +kernel
 | turn=>show bM (V.str "turn") [V.str "undo",V.str "redo"]=false;decide +kernel
 | undo=>exact False.elim h
 | redo=>exact False.elim h
 | «show»=>exact False.elim h
def v5:Cmd->Vn
 | .rooms n=>Cmd.line (.rooms n)
 | cm=>cm.head
def g0(H H':Hp)(p l1 l2 b hl:Vb):Prop:=∀c o,H c=Vo o->c≠p->c≠l1->c≠l2->c≠b->c≠hl->H' c=Vo o
def iY(K:zk):Sp:=λvs H Q _=>∃s p b hl l1 l2 d cm x,vs=[.ref s,.str (Cmd.head cm),x]/\SpotAt K H s p b hl l1 l2 d/\cm.Ok/\eV H cm x/\d.past.length<=1000/\d.und.length<=1000/\∀l3 H',(l3=l2\/H l3=Vp)->SpotAt K H' s p b hl l1 l3 (cV d cm)->g0 H H' p l1 l2 b hl->Q (.bl true) H'
abbrev jQ:Vl:=stq 136
def oR:FnScope ["_law_spot","_law_deed","_law_way","_law_desk","_law_book","_law_here","_law_there","_law_line","_law_word","_law_due_here"] ["_law_spot","_law_deed","_law_way"] (ay jQ):=⟨rfl,rfl,rfl,by decide +kernel,rfl,by decide +kernel,by decide +kernel⟩
def yB{P:Vd}{w:Ve}{K:zk}{mg:Vn->Option Va}{base:Vh}(D:Dfn K mg "_law_step" jQ ["_law_spot","_law_deed","_law_way"])(T:Blt mg)(a:Cal P w K mg base "_law_tell" 10 ["_law_desk","_law_line"] (gw K))(g:Cal P w K mg base "_law_house_text" 1 ["_law_house"] (mE K))(N:Cal P w K mg base "_law_due" 2 ["_law_book","_law_here","_law_deed","_law_way"] (oZ K))(y:Cal P w K mg base "_law_way_line" 1 ["_law_word","_law_way"] (oP K)):Cal P w K mg base "_law_step" 11 ["_law_spot","_law_deed","_law_way"] (iY K):=by
 have nd:=(oR).nd;refine D.ok oR (λvs H Q E h=>?_) (λX hX H vs Q E h=>?_)
 .obtain⟨s,p,b,hl,l1,l2,d,cm,x,rfl,_⟩:=h;rfl
 .obtain⟨f,cdv,A,outer,s,H0,E0,rfl,hr⟩:=hX;obtain⟨s9,p,b,hl,l1,l2,d,cm,x,rfl,S,W,hx,f1,f2,q⟩:=h;refine⟨_,(ar (fc (pv 0) (ez (n:=3) K rfl (bB (aT (i:=3) nd rfl (Or.inl rfl)) (bB (aT (i:=4) nd rfl (Or.inl rfl)) (bB (aT (i:=5) nd rfl (Or.inl rfl)) dW)))))
    (ar (aO (aK (oY K) (pv 1) (aB (aa ak (aa ak ae))) (by with_unfolding_all rfl)) (ar (bj (i:=6) nd rfl (Or.inl rfl) (aA cu (aj (aD K) (pv 5) af (λ_ _=>rfl)) (aj (aD K) (bA (aa (tI xi af) (aa af ae))) (bt gn rfl T.int_ PyProof.Rows.boot_int (aa (cc bE (pv 1) ak (aC _)) ae)) (λ_ _=>rfl))))
    (ar (aO (PW.pt (dm (aK fq (pv 6) af (aC _)) (dI (aK ia (pv 6) (aP (bV K) rfl T.len_ PySem.boot_len (aa (pv 4) ae)) (aC _))))) (ao (ax (cc (iL hr) (aF a hr (aa (pv 3) (aa (pv 1) ae))) (aB (aa ak (aa ak ae))) (aC _)))) aL)
    (ar (fc (pv 6) (qf (pv 5) af set_list))
    (ao (ax (cc (iL hr) (aF a hr (aa (pv 3) (aa (pv 1) ae))) (aB (aa ak (aa (aF g hr (aa (aj (aD K) (pv 4) (pv 6) (λ_ _=>rfl)) ae)) ae))) (aC _))))))) aL)
    (ar (bj (i:=7) nd rfl (Or.inl rfl) (pv 1))
    (ar (eW (aK bE (pv 1) ak (aC _)) (ao (bj (i:=7) nd rfl (Or.inl rfl) (aA cz ak (bt dS rfl T.str_ PyProof.Rows.boot_str (aa (pv 2) ae))))) aL)
    (ar (eW (aK (oY K) (pv 1) (aB (aa ak (aa ak ae))) (by with_unfolding_all rfl)) (ao (bj (i:=7) nd rfl (Or.inl rfl) (aF y hr (aa (pv 1) (aa (pv 2) ae))))) aL)
    (ar (fc (aF N hr (aa (pv 4) (aa (aj (aD K) (pv 5) af (λ_ _=>rfl)) (aa (pv 1) (aa (pv 2) ae))))) (ez (n:=2) K rfl (bB (aT (i:=8) nd rfl (Or.inl rfl)) (bB (aT (i:=9) nd rfl (Or.inl rfl)) dW))))
    (ar (aO (aK bE (pv 8) ak (aC _)) (ao (ax (cc (iL hr) (aF a hr (aa (pv 3) (aa (pv 7) ae))) (aB (aa (pv 8) (aa (pv 9) ae))) (aC _)))) aL)
    (ar (qN PassesOwn.never (aK eQ (aP (bV K) rfl T.len_ PySem.boot_len (aa (pv 4) ae)) (aA cu (aj (aD K) (pv 5) af (λ_ _=>rfl)) af) (aC _)) (ao (cL (lD K zx PySem.F.slot_list_pop PySem.F.type_list_pop lW (pv 4)))))
    (ar (cL (cN K zx zK zL fS (pv 4) (aa (pv 9) ae)))
    (ar (fc (aA cu (aj (aD K) (pv 5) af (λ_ _=>rfl)) af) (qf (pv 5) af set_list))
    (ao (ax (cc (iL hr) (aF a hr (aa (pv 3) (aa (pv 7) ae))) (aB (aa ak (aa (aF g hr (aa (pv 9) ae)) ae))) (aC _)))))))))))))),?_⟩
  walk_at"";refine cZ (ah.of S.tp) rfl ?_;walk_at"";refine au λit H1 e1 hit _=>?_;refine mQ (.inr (ah.of hit)) rfl rfl ?_;have S1:=S.ext e1;by_cases dc:cm.Due
  .refine rd_exb ?_;rw[yI dc];refine av ?_;walk_at"";refine dh (λa2 H'=>H'=H1/\a2=[Vo (.ref s9),Vo (.str cm.head),Vo x,Vo (.ref p),Vo (.ref b),Vo (.ref hl),Vp,Vo (.str (v5 cm)),Vp,Vp]) ?_ ?_
   .cases cm with
    | undo=>exact False.elim dc
    | redo=>exact False.elim dc
    | «show»=>exact False.elim dc
    | rooms n=>
     obtain rfl:x=.int n:=hx;walk_at"";refine bo ?_;refine rd_exb (aw ?_);walk_at"";have n1:1<=n:=W.1;have n2:n<=12:=W.2;refine⟨_,rfl,dG (by omega) (by omega),?_⟩;walk_at"";rw[show zY (toString n)=Tx.aH n from rfl];refine⟨_,_,rfl,rfl,bb (by have:=Tx.cq (n:=n) (by omega) (by omega);have h6:(zY "rooms ").length=6:=rfl;omega),?_⟩;rw[tq];exact⟨rfl,rfl⟩
    | turn=>
     walk_at"";refine bo ?_;refine rd_exb (av ?_);walk_at"";exact⟨rfl,rfl⟩
    | way w=>
     walk_at"";refine bo ?_;refine rd_exb (av ?_);walk_at"";exact⟨rfl,rfl⟩
    | close w=>
     walk_at"";refine bo ?_;refine rd_exb (av ?_);walk_at"";exact⟨rfl,rfl⟩
   rintro a2 H' ⟨hH,rfl⟩;subst hH;walk_at"";refine dh (λa2 H2=>Ext H' H2/\a2=[Vo (.ref s9),Vo (.str cm.head),Vo x,Vo (.ref p),Vo (.ref b),Vo (.ref hl),Vp,Vo (.str cm.line),Vp,Vp]) ?_ ?_
   .walk_at"";refine au λwt H2 J ad _=>?_;refine mQ (.inr (ah.of ad)) rfl rfl ?_;cases cm with
    | undo=>exact False.elim dc
    | redo=>exact False.elim dc
    | «show»=>exact False.elim dc
    | rooms n=>
     refine rd_exb ?_;rw[show bM (V.str (Cmd.head (.rooms n))) [V.str "way",V.str "close"]=false from(show bM (V.str "rooms") [V.str "way",V.str "close"]=false by decide +kernel)];refine av ?_;walk_at"";exact⟨J,rfl⟩
    | turn=>
     refine rd_exb ?_;rw[show bM (V.str (Cmd.head .turn)) [V.str "way",V.str "close"]=false from(show bM (V.str "turn") [V.str "way",V.str "close"]=false by decide +kernel)];refine av ?_;walk_at"";exact⟨J,by rw[<-show Cmd.head .turn=Cmd.line .turn from jk.1];rfl⟩
    | way w=>
     obtain⟨bw,rfl,a6⟩:=hx;refine rd_exb ?_;rw[show bM (V.str (Cmd.head (.way w))) [V.str "way",V.str "close"]=true from(show bM (V.str "way") [V.str "way",V.str "close"]=true by decide +kernel)];refine aw ?_;walk_at"";refine⟨"way",bw,w,rfl,J _ _ (e1 _ _ a6),W,by decide,λY O=>?_⟩;exact⟨J.trans O,rfl⟩
    | close w=>
     obtain⟨bw,rfl,a6⟩:=hx;refine rd_exb ?_;rw[show bM (V.str (Cmd.head (.close w))) [V.str "way",V.str "close"]=true from(show bM (V.str "close") [V.str "way",V.str "close"]=true by decide +kernel)];refine aw ?_;walk_at"";refine⟨"close",bw,w,rfl,J _ _ (e1 _ _ a6),W,by decide,λY O=>?_⟩;exact⟨J.trans O,rfl⟩
   rintro a2 H2 ⟨J,rfl⟩;walk_at"";have j:=S1.ext J;have am:=(hx.ext e1).ext J;refine az (ag.of j.hr) (v:=.int ((d.past.length:Nat):Int)) rfl ?_;walk_at"";obtain⟨vs,v1,v2⟩:=j.bk;have vl:=Paired.length v2;rw[iI]at vl;have a3:d.book[d.past.length]?=Vo d.cur:=by unfold Dk.book;simp
   have R:d.past.length<vs.length:=by omega
   obtain⟨h',z1,z2⟩:=gU v2 (zq R);rw[a3]at z1;cases z1;refine⟨b,vs,d.past.length,_,d.cur,cm,x,rfl,v1,zq R,z2,W,am,dc,?_⟩;cases he:gy d.cur cm with
   | error nm=>
    have et:aQ d cm=.error nm:=by rw[i7 dc,he]
    intro t Y O ht;refine cZ (ah.of ht) rfl ?_;walk_at"";refine bo ?_;refine rd_exb (aw ?_);walk_at"";have I:=j.ext O;refine⟨p,l1,l2,d,cm,rfl,I.dk,W,by omega,by omega,cD.no et ?_⟩;intro t5 L e4 an;walk_at"";refine au λu H5 e5 hu _=>?_;refine md (e5 _ _ an) hu (su (rl et)) ?_;have eH:=e1.trans (J.trans (O.trans (e4.trans e5)));exact q l2 H5 (.inl rfl) (by rw[gG et];exact I.ext (e4.trans e5)) (λc o z _ _ _ _ _=>eH _ _ z)
   | ok h=>
    have et:aQ d cm=.ok (aX h.1 h.2,d.doD h):=by rw[i7 dc,he]
    intro t u Y O ht hu;refine cZ (ah.of ht) rfl ?_;walk_at"";refine bo ?_;refine rd_exb (av ?_);walk_at"";have I:=j.ext O;have v3:=O _ _ v1;refine mS (λM σ H'=>∃k,σ=[Vo (.ref s9),Vo (.str cm.head),Vo x,Vo (.ref p),Vo (.ref b),Vo (.ref hl),Vp,Vo (.str cm.line),Vo (.str "told"),Vo u]/\d.past.length+1<=k/\k<=vs.length/\k=M/\H' b=Vo (.lst (vs.take k))/\∀c,c≠b->H' c=Y c)
     (λσ H'=>σ=[Vo (.ref s9),Vo (.str cm.head),Vo x,Vo (.ref p),Vo (.ref b),Vo (.ref hl),Vp,Vo (.str cm.line),Vo (.str "told"),Vo u]/\H' b=Vo (.lst (vs.take (d.past.length+1)))/\∀c,c≠b->H' c=Y c) vs.length ⟨vs.length,rfl,by omega,zJ _,rfl,by rw[zR];exact v3,λ_ _=>rfl⟩ ?_ ?_
    .rintro M σ L ⟨k,rfl,k1,k2,rfl,Z,a1⟩;have a7:L hl=Vo (.lst [.int ((d.past.length:Nat):Int)]):=by rw[a1 hl I.n5.symm];exact I.hr
     walk_at"";refine dw (ag.of Z) ?_;walk_at"";refine az (ag.of a7) (v:=.int ((d.past.length:Nat):Int)) rfl ?_;walk_at"";rw[Af,Nat.min_eq_left k2];by_cases hk:((d.past.length:Nat):Int)+1<((k:Nat):Int)
     .rw[Ak hk];refine aw ⟨_,λ_ _ h=>h,?_⟩;walk_at"";refine⟨dC (ag.of Z),?_⟩;have ap:k-1<vs.length:=by omega
      refine⟨b,_,vs[k-1],rfl,rfl,Z,(by rw[Af,Nat.min_eq_left k2,List.getElem?_take_of_lt (by omega),zq ap]),?_⟩;exact⟨k-1,by omega,k-1,rfl,by omega,by omega,rfl,by rw[aI,List.dropLast_eq_take,List.take_take,Af,Nat.min_eq_left k2,Nat.min_eq_left (by omega)],λc n=>by rw[aq n];exact a1 c n⟩
     .rw[Aj hk];refine av ?_;exact⟨rfl,by rw[show d.past.length+1=k by omega];exact Z,a1⟩
    rintro σ L ⟨rfl,Z,a1⟩;walk_at"";have a7:L hl=Vo (.lst [.int ((d.past.length:Nat):Int)]):=by rw[a1 hl I.n5.symm];exact I.hr
    refine⟨dC (ag.of Z),?_⟩;walk_at"";refine f6 Z (iS (by rw[Af];omega)) ?_;walk_at"";have ab:upd L b (.lst (vs.take (d.past.length+1)++[u])) hl=Vo (.lst [.int ((d.past.length:Nat):Int)]):=by rw[aq I.n5.symm];exact a7
    refine az (ag.of ab) (v:=.int ((d.past.length:Nat):Int)) rfl ?_;walk_at"";refine j3 ab (jL (by omega) (by simp)) ?_;have h6:(upd (upd L b (.lst (vs.take (d.past.length+1)++[u]))) hl (.lst [.int (((d.past.length:Nat):Int)+1)])) hl=Vo (.lst [.int (((d.past.length:Nat):Int)+1)]):=aI;have b6:(upd (upd L b (.lst (vs.take (d.past.length+1)++[u]))) hl (.lst [.int (((d.past.length:Nat):Int)+1)])) b=Vo (.lst (vs.take (d.past.length+1)++[u])):=by rw[aq I.n5,aI]
    have U:∀c,c≠b->c≠hl->(upd (upd L b (.lst (vs.take (d.past.length+1)++[u]))) hl (.lst [.int (((d.past.length:Nat):Int)+1)])) c=Y c:=λc n1 n2=>by rw[aq n2,aq n1];exact a1 c n1
    show(gX _) _ _ (upd (upd L b (.lst (vs.take (d.past.length+1)++[u]))) hl (.lst [.int (((d.past.length:Nat):Int)+1)]));generalize (upd (upd L b (.lst (vs.take (d.past.length+1)++[u]))) hl (.lst [.int (((d.past.length:Nat):Int)+1)]))=H6 at h6 b6 U ⊢;have D6:=I.dk.but v3 I.hr I.n1 I.n2 I.n3 I.n4 U;have tk6:Tk Y H6:=λc xs z=>by rw[U c (bh z v3 (by intro z;cases z)) (bh z I.hr (by intro z;cases z))];exact z
    walk_at"";refine⟨p,l1,l2,d,cm,rfl,D6,W,by omega,by omega,cD.ok et ?_⟩;intro t7 l4 H7 h4 D7 fr as;have B:=Apt.step D6 fr h4 ⟨b6,I.n1,I.n2⟩;have C:=Apt.step D6 fr h4 ⟨h6,I.n3,I.n4⟩;have tk7:Tk Y H7:=λc xs z=>fr.tk D6 _ _ (tk6 _ _ z);have a5:=hu.tk tk7;walk_at"";refine⟨u,h.1,h.2,rfl,a5.1,a5.2,λH8 e8=>?_⟩;walk_at"";refine au λuu H9 e9 b0 _=>?_;have a0:=e8.trans e9;refine jD (a0 _ _ as) b0 (gr a5.2) ?_;have ac:=e1.trans (J.trans O);have no6:∀c,H6 c=Vp->Y c=Vp:=λc z=>by rw[U c (λe=>by rw[e,b6]at z;cases z) (λe=>by rw[e,h6]at z;cases z)]at z;exact z
    refine q l4 H9 (h4.imp id λz=>ac.none (no6 _ z)) ?_ λc o z n1 n2 n3 n4 n5=>a0 _ _ (fr c o (by rw[U c n4 n5];exact ac _ _ z) n1 n2 n3);rw[fX et];have pt:=oh (bx (tk7) (bx (λ_ _ z=>O _ _ z) v2)) (d.past.length+1);rw[show d.book.take (d.past.length+1)=d.past++[d.cur]from List.take_left' (by simp)]at pt;have pn:=bx (λ_ _ z=>a0 _ _ z) (Paired.snoc pt a5);refine⟨a0 _ _ (tk7 _ _ I.tp),D7.ext a0,⟨_,a0 _ _ B.at_,?_⟩,?_,B.n1,B.n2,C.n1,C.n2,I.n5⟩
    .show Paired _ _ (d.past++[d.cur]++[h]++[].reverse);rw[List.reverse_nil,List.append_nil];exact pn
    .show H9 hl=Vo (.lst [.int (((d.past++[d.cur]).length:Nat):Int)]);rw[show (((d.past++[d.cur]).length:Nat):Int)=((d.past.length:Nat):Int)+1 by rw[zH,List.length_singleton];omega];exact a0 _ _ C.at_
  cases cm with
  | «show»=>exact False.elim hx
  | undo=>
   refine rd_exb ?_;rw[show bM (V.str (Cmd.head .undo)) [V.str "undo",V.str "redo"]=true by decide +kernel];refine aw ?_;walk_at"";refine az (ag.of S1.hr) (v:=.int ((d.past.length:Nat):Int)) rfl ?_;walk_at"";refine au λsl H2 J a8 _=>?_;walk_at"";refine bo ?_;walk_at"";rw[show decide (Cmd.undo.head=zY "redo")=false by decide +kernel];refine az (ag.of a8) (v:=.int (-1)) rfl ?_;walk_at"";have j:=S1.ext J;rw[show Cmd.head .undo=Cmd.line .undo from jk.2.1];by_cases h0:d.past=[]
   .have hn:d.past.length=0:=by rw[h0];rfl
    rw[Ak (show((d.past.length:Nat):Int) + -1<0 by omega)];refine aw (aw ?_);walk_at"";refine⟨p,l1,l2,d,.undo,rfl,j.dk,trivial,by omega,by omega,cD.no (hJ h0) ?_⟩;intro t Y O ht;walk_at"";refine au λu L e4 hu _=>?_;refine md (e4 _ _ ht) hu mx ?_;have a9:=e1.trans (J.trans (O.trans e4));exact q l2 L (.inl rfl) (by rw[gG (hJ h0)];exact j.ext (O.trans e4)) (λc o z _ _ _ _ _=>a9 _ _ z)
   .obtain⟨ps,h,G⟩:∃ps h,d.past=ps++[h]:=⟨d.past.dropLast,d.past.getLast h0,(List.dropLast_concat_getLast h0).symm⟩;have hn:d.past.length=ps.length+1:=by rw[G,zH];rfl
    obtain⟨vs,v1,v2⟩:=j.bk;have vl:=Paired.length v2;rw[iI]at vl;rw[Aj (show ¬((d.past.length:Nat):Int) + -1<0 by omega)];refine av ?_;walk_at"";refine dw (ag.of v1) ?_;walk_at"";rw[Aj (show ¬((vs.length:Nat):Int)<=((d.past.length:Nat):Int) + -1 by omega)];refine av ?_;walk_at"";refine j3 j.hr (jL (by omega) (by simp)) ?_;have D3:=j.dk.upd_lst (ys:=[.int (((d.past.length:Nat):Int) + -1)]) j.hr j.n3 j.n4;have v3:upd H2 hl (.lst [.int (((d.past.length:Nat):Int) + -1)]) b=Vo (.lst vs):=by rw[aq j.n5];exact v1
    have h3:upd H2 hl (.lst [.int (((d.past.length:Nat):Int) + -1)]) hl=Vo (.lst [.int (((d.past.length:Nat):Int) + -1)]):=aI;have fr3:∀c o,H2 c=Vo o->c≠hl->upd H2 hl (.lst [.int (((d.past.length:Nat):Int) + -1)]) c=Vo o:=λc o z n=>by rw[aq n];exact z
    have no3:∀c,upd H2 hl (.lst [.int (((d.past.length:Nat):Int) + -1)]) c=Vp->H2 c=Vp:=λc z=>by rw[aq (λe=>by rw[e,h3]at z;cases z)]at z;exact z
    show(gX _) _ _ (upd H2 hl (.lst [.int (((d.past.length:Nat):Int) + -1)]));generalize upd H2 hl (.lst [.int (((d.past.length:Nat):Int) + -1)])=Y at D3 v3 h3 fr3 no3 ⊢;rw[show ((d.past.length:Nat):Int) + -1=((ps.length:Nat):Int) by omega]at h3;have tk3:Tk H2 Y:=λc xs z=>fr3 c _ z (bh z j.hr (by intro z;cases z));walk_at"";refine⟨p,l1,l2,d,.undo,rfl,D3,trivial,by omega,by omega,cD.ok (gP G) ?_⟩;intro t l4 L h4 D4 fr ht;have B:=Apt.step D3 fr h4 ⟨v3,j.n1,j.n2⟩;have C:=Apt.step D3 fr h4 ⟨h3,j.n3,j.n4⟩;have tk4:Tk H2 L:=λc xs z=>fr.tk D3 _ _ (tk3 _ _ z);have v4:=bx tk4 v2;have a3:d.book[ps.length]?=Vo h:=by unfold Dk.book;rw[G];simp
    have R:ps.length<vs.length:=by omega
    obtain⟨h',z1,z2⟩:=gU v4 (zq R);rw[a3]at z1;cases z1;walk_at"";refine az (ag.of B.at_) (v:=vs[ps.length]) (by rw[show ((d.past.length:Nat):Int) + -1=((ps.length:Nat):Int) by omega];exact bf (zq R)) ?_;walk_at"";refine⟨_,h.1,h.2,rfl,z2.1,z2.2,λH5 e5=>?_⟩;walk_at"";refine au λu H6 e6 hu _=>?_;have r:=e5.trans e6;refine jD (r _ _ ht) hu (gr z2.2) ?_;have a4:=e1.trans J;refine q l4 H6 (h4.imp id λz=>a4.none (no3 _ z)) ?_ λc o z n1 n2 n3 n4 n5=>r _ _ (fr c o (fr3 c o (a4 _ _ z) n5) n1 n2 n3);rw[fX (gP G)];exact⟨r _ _ (tk4 _ _ j.tp),D4.ext r,⟨vs,r _ _ B.at_,by rw[wZ G];exact bx (λ_ _ z=>r _ _ z) v4⟩,r _ _ C.at_,B.n1,B.n2,C.n1,C.n2,j.n5⟩
  | redo=>
   refine rd_exb ?_;rw[show bM (V.str (Cmd.head .redo)) [V.str "undo",V.str "redo"]=true by decide +kernel];refine aw ?_;walk_at"";refine az (ag.of S1.hr) (v:=.int ((d.past.length:Nat):Int)) rfl ?_;walk_at"";refine au λsl H2 J a8 _=>?_;walk_at"";refine bo ?_;walk_at"";rw[show decide (Cmd.redo.head=zY "redo")=true by decide +kernel];refine az (ag.of a8) (v:=.int 1) rfl ?_;walk_at"";have j:=S1.ext J;rw[show Cmd.head .redo=Cmd.line .redo from jk.2.2];rw[Aj (show ¬((d.past.length:Nat):Int)+1<0 by omega)];refine av ?_;walk_at"";obtain⟨vs,v1,v2⟩:=j.bk;have vl:=Paired.length v2;rw[iI]at vl;refine dw (ag.of v1) ?_;walk_at"";by_cases h0:d.und=[]
   .have hn:d.und.length=0:=by rw[h0];rfl
    rw[Ak (show((vs.length:Nat):Int)<=((d.past.length:Nat):Int)+1 by omega)];refine aw ?_;walk_at"";refine⟨p,l1,l2,d,.redo,rfl,j.dk,trivial,by omega,by omega,cD.no (ik h0) ?_⟩;intro t Y O ht;walk_at"";refine au λu L e4 hu _=>?_;refine md (e4 _ _ ht) hu mx ?_;have a9:=e1.trans (J.trans (O.trans e4));exact q l2 L (.inl rfl) (by rw[gG (ik h0)];exact j.ext (O.trans e4)) (λc o z _ _ _ _ _=>a9 _ _ z)
   .obtain⟨ps,h,G⟩:∃ps h,d.und=ps++[h]:=⟨d.und.dropLast,d.und.getLast h0,(List.dropLast_concat_getLast h0).symm⟩;have hn:d.und.length=ps.length+1:=by rw[G,zH];rfl
    rw[Aj (show ¬((vs.length:Nat):Int)<=((d.past.length:Nat):Int)+1 by omega)];refine av ?_;walk_at"";refine j3 j.hr (jL (by omega) (by simp)) ?_;have D3:=j.dk.upd_lst (ys:=[.int (((d.past.length:Nat):Int)+1)]) j.hr j.n3 j.n4;have v3:upd H2 hl (.lst [.int (((d.past.length:Nat):Int)+1)]) b=Vo (.lst vs):=by rw[aq j.n5];exact v1
    have h3:upd H2 hl (.lst [.int (((d.past.length:Nat):Int)+1)]) hl=Vo (.lst [.int (((d.past.length:Nat):Int)+1)]):=aI;have fr3:∀c o,H2 c=Vo o->c≠hl->upd H2 hl (.lst [.int (((d.past.length:Nat):Int)+1)]) c=Vo o:=λc o z n=>by rw[aq n];exact z
    have no3:∀c,upd H2 hl (.lst [.int (((d.past.length:Nat):Int)+1)]) c=Vp->H2 c=Vp:=λc z=>by rw[aq (λe=>by rw[e,h3]at z;cases z)]at z;exact z
    show(gX _) _ _ (upd H2 hl (.lst [.int (((d.past.length:Nat):Int)+1)]));generalize upd H2 hl (.lst [.int (((d.past.length:Nat):Int)+1)])=Y at D3 v3 h3 fr3 no3 ⊢;rw[show ((d.past.length:Nat):Int)+1=(((d.past++[d.cur]).length:Nat):Int) by rw[zH,List.length_singleton];omega]at h3;have tk3:Tk H2 Y:=λc xs z=>fr3 c _ z (bh z j.hr (by intro z;cases z));walk_at"";refine⟨p,l1,l2,d,.redo,rfl,D3,trivial,by omega,by omega,cD.ok (iB G) ?_⟩;intro t l4 L h4 D4 fr ht;have B:=Apt.step D3 fr h4 ⟨v3,j.n1,j.n2⟩;have C:=Apt.step D3 fr h4 ⟨h3,j.n3,j.n4⟩;have tk4:Tk H2 L:=λc xs z=>fr.tk D3 _ _ (tk3 _ _ z);have v4:=bx tk4 v2;have a3:d.book[d.past.length+1]?=Vo h:=by unfold Dk.book;rw[G,List.reverse_append];simp
    have R:d.past.length+1<vs.length:=by omega
    obtain⟨h',z1,z2⟩:=gU v4 (zq R);rw[a3]at z1;cases z1;walk_at"";refine az (ag.of B.at_) (v:=vs[d.past.length+1]) (by rw[show ((d.past.length:Nat):Int)+1=((d.past.length+1:Nat):Int) by omega];exact bf (zq R)) ?_;walk_at"";refine⟨_,h.1,h.2,rfl,z2.1,z2.2,λH5 e5=>?_⟩;walk_at"";refine au λu H6 e6 hu _=>?_;have r:=e5.trans e6;refine jD (r _ _ ht) hu (gr z2.2) ?_;have a4:=e1.trans J;refine q l4 H6 (h4.imp id λz=>a4.none (no3 _ z)) ?_ λc o z n1 n2 n3 n4 n5=>r _ _ (fr c o (fr3 c o (a4 _ _ z) n5) n1 n2 n3);rw[fX (iB G)];exact⟨r _ _ (tk4 _ _ j.tp),D4.ext r,⟨vs,r _ _ B.at_,by rw[yD G];exact bx (λ_ _ z=>r _ _ z) v4⟩,r _ _ C.at_,B.n1,B.n2,C.n1,C.n2,j.n5⟩
  | rooms n=>exact absurd trivial dc
  | turn=>exact absurd trivial dc
  | way w=>exact absurd trivial dc
  | close w=>exact absurd trivial dc
def cB{K:zk}{x:Vn}{C:Vb}(h:PySem.W.nsIn K Vj x=Vo (Vo (.ref C))):cA K x=C:=by unfold cA;rw[h]
def mw(K:zk):Bool:=
 PySem.W.nsIn K Vj "Desk" == Vo (Vo (.ref (cA K "Desk"))) && PySem.W.plainGet K (cA K "Desk") Str.empty && PySem.W.hasDictIn K (cA K "Desk") && PySem.W.plainOver K (cA K "Desk") &&
 PySem.W.findIn K (.ref (cA K "Desk")) "__setattr__" == Vo (Vo (.builtin "object.__setattr__")) && PySem.W.findIn K (.ref (cA K "Desk")) "house" == Vo Vp && PySem.W.findIn K (.ref (cA K "Desk")) "past" == Vo Vp && PySem.W.findIn K (.ref (cA K "Desk")) "undone" == Vo Vp &&
 PySem.W.makesIn K (cA K "Desk") && PySem.W.keepIn K (.ref (cA K "Desk")) && (["rooms_deed","way_deed","close_deed","turn_deed","show_ask"]:List Vn).all λx=>PySem.W.nsIn K Vj x == Vo (Vo (.ref (cA K x)))
def xP{K:zk}{h:Vh}(X:K.In h)(G:h.Ns Vj mg)(b:mw K=true):DeskK K mg/\mg "Desk" = Vo (.ref (cA K "Desk"))/\PySem.W.makesIn K (cA K "Desk")=true/\PySem.W.keepIn K (.ref (cA K "Desk"))=true:=by unfold mw at b;simp only[zX,beq_iff_eq,zV]at b;obtain⟨⟨⟨⟨⟨⟨⟨⟨⟨⟨h1,h2⟩,a⟩,c⟩,d⟩,f⟩,g⟩,i⟩,j⟩,k⟩,n⟩:=b;exact⟨⟨⟨h2,a,c,d⟩,f,g,i,λx o=>PySem.W.mg_of X G (n x o)⟩,PySem.W.mg_of X G h1,j,k⟩
def iW{K:zk}{C:Vb}{m qual:Vn}{oc:Va}{od an:Option Vb}{osl:Array (Option Va)}{kV doc pm cdv ct:Va}{ps:List Vn}(nD:PySem.W.nsIn K Vj "Desk" = Vo (Vo (.ref C)))(a:PySem.W.findIn K (.ref C) m=Vo (Vo (.ref f)))
  (l:K.lookup f=Vo ⟨oc,od,.func (PySem.W.fnOf m qual (bW st) (bJ st) (ay st) .none kV doc pm an cdv ct),osl⟩) (c:PySem.W.codeIn K cdv qual=true) (k:PySem.W.keepIn K (.ref f)=true) (i:PySem.W.isFn K (.ref f)=true)
  (b:Fun K m qual st f (PySem.W.fnOf m qual (bW st) (bJ st) (ay st) .none kV doc pm an cdv ct)->Binds K (PySem.W.fnOf m qual (bW st) (bJ st) (ay st) .none kV doc pm an cdv ct) ps []):MDfn K (cA K "Desk") m qual st ps:=by
 have F:=je (st:=st) l c k;exact⟨⟨f,_,⟨by rw[cB nD];exact a,i,k⟩,F,b F⟩⟩
def bg(K:zk)(b:Vb)(ks:List Vn):Prop:=∃(od:Option Vb) (a:Array Va) (n:Nat) (sl:Array (Option Va)),K.lookup b=Vo ⟨.type "tuple",od,.seq a n,sl⟩/\a.size<=sizeLine/\Vals (ks.map V.str) a.toList
def bg.sq{K:zk}{b:Vb}{ks:List Vn}(h:bg K b ks)(H:Hp):ah K H b (ks.map V.str):=by obtain⟨od,a,n,sl,h1,h2,c⟩:=h;exact .inr ⟨_,a,n,h1,rfl,rfl,h2,c⟩
def kH(K:zk):List (Vn×Vb×List Vn)->Prop
 | []=>True
 | r::t=>bg K r.2.1 r.2.2/\kH K t
def gW:List (Vn×Vb×List Vn)->Vn->Option (List Vn)
 | [],_=>Vp
 | r::t,z=>if z=r.1 then Vo r.2.2 else gW t z
theorem pK{K:zk}(z:Vn):∀{rows:List (Vn×Vb×List Vn)},kH K rows->match gW rows z with
  | some ks=>∃b,ba (rows.map λr=>((.inr r.1:Key),V.ref r.2.1)) (.inr z)=Vo (.ref b)/\∀H,ah K H b (ks.map V.str)
  | none=>ba (rows.map λr=>((.inr r.1:Key),V.ref r.2.1)) (.inr z)=Vp
 | [],_=>rfl
 | r::t,h=>by
  by_cases e:z=r.1
  .rw[show gW (r::t) z=Vo r.2.2 from Am e];exact⟨r.2.1,by rw[List.map_cons,e];exact ec rfl,h.1.sq⟩
  .rw[show gW (r::t) z=gW t z from Al e,List.map_cons,du (λx=>e (Sum.inr.inj x).symm)];exact pK z h.2
def vT{w:Ve}{K:zk}{r1 b c d:Vb}{f g i j:Tok}(h:K.lookup a=Vo (cY w [("rooms",f,.ref r1),("way",g,.ref b),("close",i,.ref c),("turn",j,.ref d)] ep))(k:(a == sysModules)=false)
  (n1:PySem.W.nsIn K Vj "rooms_deed" = Vo (Vo (.ref r1))) (n2:PySem.W.nsIn K Vj "way_deed" = Vo (Vo (.ref b))) (n3:PySem.W.nsIn K Vj "close_deed" = Vo (Vo (.ref c))) (n4:PySem.W.nsIn K Vj "turn_deed" = Vo (Vo (.ref d))):GDict w K a (fF K):=by
 obtain rfl:=cB n1;obtain rfl:=cB n2;obtain rfl:=cB n3;obtain rfl:=cB n4;exact⟨⟨_,_,h,.cons ⟨rfl,rfl⟩ (.cons ⟨rfl,rfl⟩ (.cons ⟨rfl,rfl⟩ (.cons ⟨rfl,rfl⟩ .nil)))⟩,(show([.inr "rooms",.inr "way",.inr "close",.inr "turn"]:List Key).Nodup by decide +kernel),k⟩
def uG{w:Ve}{K:zk}{r1 b c d r6 g:Vb}{i j k n o p q:Tok}(h:K.lookup a=Vo (cY w [("show",i,.ref r1),("reach",j,.ref b),("forward",k,.ref c),("backward",n,.ref d),("most",o,.ref f),("fate",p,.ref r6),("word",q,.ref g)] ep))(r:(a == sysModules)=false)
  (n1:PySem.W.nsIn K Vj "show_ask" = Vo (Vo (.ref r1))) (n2:PySem.W.nsIn K Vj "reach_ask" = Vo (Vo (.ref b))) (n3:PySem.W.nsIn K Vj "forward_ask" = Vo (Vo (.ref c))) (n4:PySem.W.nsIn K Vj "backward_ask" = Vo (Vo (.ref d))) (n5:PySem.W.nsIn K Vj "most_ask" = Vo (Vo (.ref f))) (s:PySem.W.nsIn K Vj "fate_ask" = Vo (Vo (.ref r6))) (t:PySem.W.nsIn K Vj "word_ask" = Vo (Vo (.ref g))):GDict w K a (hI K):=by
 obtain rfl:=cB n1;obtain rfl:=cB n2;obtain rfl:=cB n3;obtain rfl:=cB n4;obtain rfl:=cB n5;obtain rfl:=cB s;obtain rfl:=cB t;exact⟨⟨_,_,h,.cons ⟨rfl,rfl⟩ (.cons ⟨rfl,rfl⟩ (.cons ⟨rfl,rfl⟩ (.cons ⟨rfl,rfl⟩ (.cons ⟨rfl,rfl⟩ (.cons ⟨rfl,rfl⟩ (.cons ⟨rfl,rfl⟩ .nil))))))⟩,(show([.inr "show",.inr "reach",.inr "forward",.inr "backward",.inr "most",.inr "fate",.inr "word"]:List Key).Nodup by decide +kernel),r⟩
def vN{w:Ve}{K:zk}{g i j k n o q s b c d:Vb}{B C E F G H I J L M t u v:Tok}(h:K.lookup a=Vo (cY w [("rooms",B,.ref f),("way",C,.ref g),("close",E,.ref i),("turn",F,.ref j),("undo",G,.ref k),("redo",H,.ref n),("show",I,.ref o),("reach",J,.ref p),("forward",L,.ref q),("backward",M,.ref s),("most",t,.ref b),("fate",u,.ref c),("word",v,.ref d)] ep))(N:(a == sysModules)=false)
  (O:bg K f ["many"]) (P:bg K g ["number","deed","number","sign"]) (Q:bg K i ["number","deed","number","sign"]) (S:bg K j []) (T:bg K k []) (U:bg K n []) (W:bg K o []) (X:bg K p ["number","number","number","number"]) (Y:bg K q ["number","number","number"]) (Z:bg K s ["number","number","number"]) (x:bg K b ["number","number"]) (y:bg K c ["number","number"]) (A:bg K d ["number","number"]):∃kvs,GDict w K a kvs/\sF K kvs:=by
 have R:kH K [("rooms",f,["many"]),("way",g,["number","deed","number","sign"]),("close",i,["number","deed","number","sign"]),("turn",j,[]),("undo",k,[]),("redo",n,[]),("show",o,[]),("reach",p,["number","number","number","number"]),("forward",q,["number","number","number"]),("backward",s,["number","number","number"]),("most",b,["number","number"]),("fate",c,["number","number"]),("word",d,["number","number"])]:=⟨O,P,Q,S,T,U,W,X,Y,Z,x,y,A,trivial⟩;refine⟨([("rooms",f,["many"]),("way",g,["number","deed","number","sign"]),("close",i,["number","deed","number","sign"]),("turn",j,[]),("undo",k,[]),("redo",n,[]),("show",o,[]),("reach",p,["number","number","number","number"]),("forward",q,["number","number","number"]),("backward",s,["number","number","number"]),("most",b,["number","number"]),("fate",c,["number","number"]),("word",d,["number","number"])]:List (Vn×Vb×List Vn)).map (λ(r:Vn×Vb×List Vn)=>((.inr r.1:Key),V.ref r.2.1)),⟨⟨_,_,h,.cons ⟨rfl,rfl⟩ (.cons ⟨rfl,rfl⟩ (.cons ⟨rfl,rfl⟩ (.cons ⟨rfl,rfl⟩ (.cons ⟨rfl,rfl⟩ (.cons ⟨rfl,rfl⟩ (.cons ⟨rfl,rfl⟩ (.cons ⟨rfl,rfl⟩ (.cons ⟨rfl,rfl⟩ (.cons ⟨rfl,rfl⟩ (.cons ⟨rfl,rfl⟩ (.cons ⟨rfl,rfl⟩ (.cons ⟨rfl,rfl⟩ .nil))))))))))))⟩,(show([.inr "rooms",.inr "way",.inr "close",.inr "turn",.inr "undo",.inr "redo",.inr "show",.inr "reach",.inr "forward",.inr "backward",.inr "most",.inr "fate",.inr "word"]:List Key).Nodup by decide +kernel),N⟩,λz=>?_⟩;exact pK z R
structure Sp5 where
 s:Vb
 p:Vb
 b:Vb
 hl:Vb
 l1:Vb
def Sp5.all(A:Sp5)(la:Vb):List Vb:=[A.p,A.l1,la,A.b,A.hl]
abbrev cx(K:zk)(H:Hp)(A:Sp5)(la:Vb)(d:Dk):Prop:=SpotAt K H A.s A.p A.b A.hl A.l1 la d
def gH{K:zk}{A:Sp5}{d:Dk}(S:cx K H A la d)(h:a∈A.all la):∃o,H a=Vo o/\∀xs,o≠.tup xs:=by
 obtain⟨⟨dx,v,a1,_⟩,⟨vs,b,_⟩,⟨us,c1,_⟩,_⟩:=S.dk;obtain⟨ws,c,_⟩:=S.bk;simp only[Sp5.all,zE,zU,or_false]at h;rcases h with rfl|rfl|rfl|rfl|rfl
 .exact⟨_,a1,λ_ z=>by cases z⟩
 .exact⟨_,b,λ_ z=>by cases z⟩
 .exact⟨_,c1,λ_ z=>by cases z⟩
 .exact⟨_,c,λ_ z=>by cases z⟩
 .exact⟨_,S.hr,λ_ z=>by cases z⟩
def ja{A:Sp5}(fr:g0 H H' A.p A.l1 la A.b A.hl){c:Vb}{o:HO}(z:H c=Vo o)(n:c∉A.all la):H' c=Vo o:=by simp only[Sp5.all,zE,zU,or_false,not_or]at n;exact fr c o z n.1 n.2.1 n.2.2.1 n.2.2.2.1 n.2.2.2.2
def wG{K:zk}{A:Sp5}{d:Dk}(S:cx K H A la d)(fr:g0 H H' A.p A.l1 la A.b A.hl):Tk H H':=λb xs z=>ja fr z λh=>by obtain⟨o,h1,h2⟩:=gH S h;rw[z]at h1;cases h1;exact h2 _ rfl
def DkAt.hold{K:zk}{d:Dk}(D:DkAt K H p l1 l2 d)(k0:∀o,H p=Vo o->H' p=Vo o)(k1:∀o,H l1=Vo o->H' l1=Vo o)(k2:∀o,H l2=Vo o->H' l2=Vo o)(tk:Tk H H'):DkAt K H' p l1 l2 d:=by obtain⟨⟨dx,v,a1,a2⟩,⟨vs,a,b⟩,⟨us,c1,c2⟩,ne⟩:=D;exact⟨⟨dx,v,k0 _ a1,a2.tk tk⟩,⟨vs,k1 _ a,bx tk b⟩,⟨us,k2 _ c1,bx tk c2⟩,ne⟩
structure Two(K:zk)(H0 H:Hp)(sp:Vb)(xs:List V)(A:Sp5)(la:Vb)(dA:Dk)(B:Sp5)(lb:Vb)(dB:Dk):Prop where
 a:cx K H A la dA
 b:cx K H B lb dB
 o:∀c∈A.all la,c∉B.all lb
 l:H sp=Vo (.lst xs)
 na:sp∉A.all la
 nb:sp∉B.all lb
 e:Ext H0 H
 fa:∀c∈A.all la,H0 c=Vp
 fb:∀c∈B.all lb,H0 c=Vp
def Two.swap{K:zk}{A:Sp5}{dA:Dk}{B:Sp5}{dB:Dk}(T:Two K H0 H sp xs A la dA B lb dB):Two K H0 H sp xs B lb dB A la dA:=
 ⟨T.b,T.a,λc h g=>T.o c g h,T.l,T.nb,T.na,T.e,T.fb,T.fa⟩
theorem Two.ext{K:zk}{H0 H H':Hp}{sp:Vb}{xs:List V}{A:Sp5}{la:Vb}{dA:Dk}{B:Sp5}{lb:Vb}{dB:Dk}(e:Ext H H')(T:Two K H0 H sp xs A la dA B lb dB):Two K H0 H' sp xs A la dA B lb dB:=
 ⟨T.a.ext e,T.b.ext e,T.o,e _ _ T.l,T.na,T.nb,T.e.trans e,T.fa,T.fb⟩
def qD{A:Sp5}{c:Vb}(h:c∈A.all l3):c=l3\/c∈A.all la:=by
 simp only[Sp5.all,zE,zU,or_false]at h ⊢;rcases h with h|h|h|h|h
 .exact .inr (.inl h)
 .exact .inr (.inr (.inl h))
 .exact .inl h
 .exact .inr (.inr (.inr (.inr (.inl h))))
 .exact .inr (.inr (.inr (.inr (.inr h))))
def Two.step{K:zk}{A:Sp5}{dA d':Dk}{B:Sp5}{dB:Dk}(T:Two K H0 H sp xs A la dA B lb dB)(d:l3=la\/H l3=Vp)(S:cx K H' A l3 d')(fr:g0 H H' A.p A.l1 la A.b A.hl):Two K H0 H' sp xs A l3 d' B lb dB:=by
 have tk:=wG T.a fr;have f:∀{c o},c∈B.all lb->H c=Vo o->H' c=Vo o:=λi z=>ja fr z λg=>T.o _ g i;have has:∀{c o},H c=Vo o->c∉A.all la->c∉A.all l3:=λz n g=>by
  rcases qD (la:=la) g with e|g
  .rcases d with d|d
   .exact n (by rw[e,d];simp[Sp5.all])
   .rw[<-e,z]at d;cases d
  .exact n g
 have j:B.p∈B.all lb:=by simp[Sp5.all]
 have m1:B.l1∈B.all lb:=by simp[Sp5.all]
 have k:lb∈B.all lb:=by simp[Sp5.all]
 have q:B.b∈B.all lb:=by simp[Sp5.all]
 have r:B.hl∈B.all lb:=by simp[Sp5.all]
 obtain⟨vs,v1,v2⟩:=T.b.bk;refine⟨S,⟨tk _ _ T.b.tp,T.b.dk.hold (λo z=>f j z) (λo z=>f m1 z) (λo z=>f k z) tk,⟨vs,f q v1,bx tk v2⟩,f r T.b.hr,T.b.n1,T.b.n2,T.b.n3,T.b.n4,T.b.n5⟩,?_,ja fr T.l T.na,has T.l T.na,T.nb,?_,?_,T.fb⟩
 .intro c h g;obtain⟨o,s,_⟩:=gH T.b g;exact has s (λz=>T.o c z g) h
 .intro c o z;exact ja fr (T.e _ _ z) λg=>by rw[T.fa c g]at z;cases z
 .intro c h;rcases qD (la:=la) h with e|h
  .rcases d with d|d
   .exact T.fa c (by rw[e,d];simp[Sp5.all])
   .rw[e];exact T.e.none d
  .exact T.fa c h
def cx.tell{K:zk}{A:Sp5}{d:Dk}(S:cx K H A la d)(g:l3=la\/H l3=Vp)(D:DkAt K H' A.p A.l1 l3 d)(fr:Fr H H' A.p A.l1 la):cx K H' A l3 d/\g0 H H' A.p A.l1 la A.b A.hl:=by obtain⟨vs,v1,v2⟩:=S.bk;have tk:=fr.tk S.dk;have a:=Apt.step S.dk fr g ⟨v1,S.n1,S.n2⟩;have f:=Apt.step S.dk fr g ⟨S.hr,S.n3,S.n4⟩;exact⟨⟨tk _ _ S.tp,D,⟨vs,a.at_,bx tk v2⟩,f.at_,a.n1,a.n2,f.n1,f.n2,S.n5⟩,λc o z h n1 n2 _ _=>fr c o z h n1 n2⟩
def cx.here{K:zk}{A:Sp5}{d:Dk}(S:cx K H A la d):∃vs v,H A.b=Vo (.lst vs)/\vs[d.past.length]?=Vo v/\aR H v d.cur:=by
 obtain⟨vs,v1,v2⟩:=S.bk;have f:=Paired.length v2;rw[iI]at f;have c:d.book[d.past.length]?=Vo d.cur:=by unfold Dk.book;simp
 have a:d.past.length<vs.length:=by omega
 obtain⟨h',z1,z2⟩:=gU v2 (zq a);rw[c]at z1;cases z1;exact⟨vs,vs[d.past.length],v1,zq a,z2⟩
def xj{d:Dk}:aQ d .show=.ok (aX d.cur.1 d.cur.2,d):=rfl
def Dk.sz(d:Dk):Nat:=d.past.length+d.und.length
def v8(d:Dk)(cm:Cmd):(cV d cm).sz<=d.sz+1:=by
 unfold Dk.sz;cases e:aQ d cm with
 | error z=>rw[gG e];omega
 | ok r=>
  obtain⟨z,g⟩:=r;rw[fX e];have hd:∀h,(d.doD h).past.length+(d.doD h).und.length<=d.past.length+d.und.length+1:=λh=>by show(d.past++[d.cur]).length+0<=_;rw[zH,List.length_singleton];omega
  by_cases b:cm.Due
  .rw[i7 b]at e;cases f:gy d.cur cm with
   | error z=>rw[f]at e;cases e
   | ok h=>rw[f]at e;cases e;exact hd h
  .cases cm with
   | rooms n=>exact absurd trivial b
   | way w=>exact absurd trivial b
   | close w=>exact absurd trivial b
   | turn=>exact absurd trivial b
   | undo=>
    by_cases c:d.past=[]
    .rw[hJ c]at e;cases e
    .have a:=(List.dropLast_concat_getLast c).symm;rw[gP a]at e;cases e;have:=congrArg List.length a;simp only[zH,List.length_singleton]at this ⊢;omega
   | redo=>
    by_cases c:d.und=[]
    .rw[ik c]at e;cases e
    .have a:=(List.dropLast_concat_getLast c).symm;rw[iB a]at e;cases e;have:=congrArg List.length a;simp only[zH,List.length_singleton]at this ⊢;omega
   | «show»=>cases e;omega
def Off.mk{K:zk}{A B:Sp5}{d:Dk}(S:cx K H A la d)(h:∀c∈B.all lb,H c=Vp):∀c∈A.all la,c∉B.all lb:=λc a g=>by obtain⟨o,z,_⟩:=gH S a;rw[h c g]at z;cases z
def rZ{K:zk}{H1 H2 o q r i:Hp}{b hl s:Vb}(v:Ext H0 H1)(D:DkAt K H1 p l1 l2 ⟨(1,[]),[],[]⟩)(E:H0 p=Vp)(F:H0 l1=Vp)(G:H0 l2=Vp)
  (H:Ext H1 H2) (I:H2 t=Vo (.tup [])) (z:Ext H2 o) (J:o u=Vo (.tup [.int 1,.ref t])) (d:Ext o q) (A:q b=Vo (.lst [.ref u])) (nb:o b=Vp) (n:Ext q r) (L:r hl=Vo (.lst [.int 0])) (f:q hl=Vp) (g:Ext r i) (M:i s=Vo (.tup [.ref p,.ref b,.ref hl])) :
  Ext H0 i/\cx K i ⟨s,p,b,hl,l1⟩ l2 ⟨(1,[]),[],[]⟩/\∀c∈Sp5.all ⟨s,p,b,hl,l1⟩ l2,H0 c=Vp:=by
 have a:=H.trans z;obtain⟨_,⟨vs,B,_⟩,⟨us,c1,_⟩,_⟩:=id D;have hv:aR i (.ref u) (1,[]):=⟨⟨u,t,rfl,(d.trans (n.trans g)) _ _ J,[],(z.trans (d.trans (n.trans g))) _ _ I,rfl,λj b k h=>by simp at h⟩,⟨by decide,by decide,Nat.zero_le _,λw h=>(nomatch h),List.nodup_nil⟩⟩;have x:=(n.trans g) _ _ A;have y:=g _ _ L;refine⟨v.trans (a.trans (d.trans (n.trans g))),⟨M,D.ext (a.trans (d.trans (n.trans g))),⟨[.ref u],x,.cons hv .nil⟩,y,?_,?_,?_,?_,?_⟩,?_⟩
 .show b≠l1;rintro rfl;rw[a _ _ B]at nb;cases nb
 .show b≠l2;rintro rfl;rw[a _ _ c1]at nb;cases nb
 .show hl≠l1;rintro rfl;rw[(a.trans d) _ _ B]at f;cases f
 .show hl≠l2;rintro rfl;rw[(a.trans d) _ _ c1]at f;cases f
 .show b≠hl;rintro rfl;rw[A]at f;cases f
 .intro c C;simp only[Sp5.all,zE,zU,or_false]at C;rcases C with rfl|rfl|rfl|rfl|rfl
  .exact E
  .exact F
  .exact G
  .exact(v.trans a).none nb
  .exact(v.trans (a.trans d)).none f
def mJ{H1:Hp}{dx:Vb}{o1 a:HO}(d:H p=Vp)(c:H dx=Vp)(n1:upd (upd H dx o1) p a l1=Vp)(n2:upd (upd H dx o1) p a l2=Vp)(fr:∀b o,upd (upd H dx o1) p a b=Vo o->b≠p->H1 b=Vo o):Ext H H1/\H l1=Vp/\H l2=Vp:=by
 have up:∀{b o},H b=Vo o->upd (upd H dx o1) p a b=Vo o:=λz=>by rw[aq (bZ z d),aq (bZ z c)];exact z
 refine⟨λb o z=>fr b o (up z) (bZ z d),?_,?_⟩
 .cases z:H l1 with
  | none=>rfl
  | some o=>rw[up z]at n1;cases n1
 .cases z:H l2 with
  | none=>rfl
  | some o=>rw[up z]at n2;cases n2
def og{α:Type}{xs ys:List α}(h:xs≠[]):(xs++ys).head?=xs.head?:=by
 cases xs with
 | nil=>exact absurd rfl h
 | cons a t=>rfl
def Dk.Gd(d:Dk)(n:Nat):Prop:=d.sz<=n/\(d.past++[d.cur]).head?=Vo (1,[])
def Dk.Gd.up{d:Dk}{m:Nat}(h:d.Gd n)(l:n<=m):d.Gd m:=⟨zT h.1 l,h.2⟩
def p9{d:Dk}(g:d.Gd n)(cm:Cmd):(cV d cm).Gd (n+1):=by
 refine⟨by have:=v8 d cm;have:=g.1;omega,?_⟩;have ne:d.past++[d.cur]≠[]:=by simp
 cases e:aQ d cm with
 | error z=>rw[gG e];exact g.2
 | ok r=>
  obtain⟨z,i⟩:=r;rw[fX e];have hd:∀h,((d.doD h).past++[(d.doD h).cur]).head?=Vo (1,[]):=λh=>by show(d.past++[d.cur]++[h]).head?=_;rw[og ne];exact g.2
  by_cases b:cm.Due
  .rw[i7 b]at e;cases f:gy d.cur cm with
   | error z=>rw[f]at e;cases e
   | ok h=>rw[f]at e;cases e;exact hd h
  .cases cm with
   | rooms n=>exact absurd trivial b
   | way w=>exact absurd trivial b
   | close w=>exact absurd trivial b
   | turn=>exact absurd trivial b
   | undo=>
    by_cases a:d.past=[]
    .rw[hJ a]at e;cases e
    .have c:=(List.dropLast_concat_getLast a).symm;rw[gP c]at e;cases e;rw[<-c,<-og a];exact g.2
   | redo=>
    by_cases a:d.und=[]
    .rw[ik a]at e;cases e
    .rw[iB (List.dropLast_concat_getLast a).symm]at e;cases e;exact hd _
   | «show»=>cases e;exact g.2
def y9{d:Dk}(g:d.Gd n){m:Nat}(h:d.past.length=m+1):(cV d .undo).Gd n/\(cV d .undo).past.length=m:=by
 have b:d.past≠[]:=λe=>by rw[e]at h;cases h
 refine⟨⟨?_,(p9 g .undo).2⟩,?_⟩<;>have a:=(List.dropLast_concat_getLast b).symm<;>have hl:=congrArg List.length a<;>rw[zH,List.length_singleton]at hl<;>rw[fX (gP a)]
 .have:=g.1;unfold Dk.sz at this ⊢;simp only[zH,List.length_singleton];omega
 .show d.past.dropLast.length=m;omega
def oN{d:Dk}(g:d.Gd n)(h:d.past=[]):d.cur=(1,[]):=by have:=g.2;rw[h]at this;exact zZ this
def bU(K:zk)(H0 H:Hp)(sp:Vb)(A B:Sp5)(n:Nat):Prop:=∃la dA lb dB,Two K H0 H sp [.ref A.s,.ref B.s] A la dA B lb dB/\dA.Gd n/\dB.Gd n
def dO(K:zk)(H0 H:Hp)(sp:Vb)(A B:Sp5)(n:Nat)(X:Sp5):Prop:=∃Y c a d b,Two K H0 H sp [.ref A.s,.ref B.s] X c a Y d b/\a.Gd n/\b.Gd n/\((X=A/\Y=B)\/(X=B/\Y=A))
def bU.one{K:zk}{A B:Sp5}(h:bU K H0 H sp A B n)(k:Nat)(a:k<2):∃X:Sp5,dO K H0 H sp A B n X/\[V.ref A.s,V.ref B.s][k]?=Vo (.ref X.s):=by
 obtain⟨la,dA,lb,dB,T,h1,h2⟩:=h
 match k,a with
 | 0,_=>exact⟨A,⟨B,la,dA,lb,dB,T,h1,h2,.inl ⟨rfl,rfl⟩⟩,rfl⟩
 | 1,_=>exact⟨B,⟨A,lb,dB,la,dA,T.swap,h2,h1,.inr ⟨rfl,rfl⟩⟩,rfl⟩
def dO.both{K:zk}{A B X:Sp5}(h:dO K H0 H sp A B n X):bU K H0 H sp A B n:=by
 obtain⟨Y,b,c,d,f,T,h1,h2,a|a⟩:=h
 .obtain⟨rfl,rfl⟩:=a;exact⟨_,_,_,_,T,h1,h2⟩
 .obtain⟨rfl,rfl⟩:=a;exact⟨_,_,_,_,T.swap,h2,h1⟩
theorem bU.e{K:zk}{H0 H:Hp}{sp:Vb}{A B:Sp5}{n:Nat}(h:bU K H0 H sp A B n):Ext H0 H:=by obtain⟨_,_,_,_,T,_⟩:=h;exact T.e
theorem bU.ext{K:zk}{H0 H H':Hp}{sp:Vb}{A B:Sp5}{n:Nat}(e:Ext H H')(h:bU K H0 H sp A B n):bU K H0 H' sp A B n:=by obtain⟨la,dA,lb,dB,T,h⟩:=h;exact⟨la,dA,lb,dB,T.ext e,h⟩
theorem bU.up{K:zk}{H0 H:Hp}{sp:Vb}{A B:Sp5}{n m:Nat}(h:bU K H0 H sp A B n)(l:n<=m):bU K H0 H sp A B m:=by obtain⟨la,dA,lb,dB,T,h1,h2⟩:=h;exact⟨la,dA,lb,dB,T,h1.up l,h2.up l⟩
theorem bU.l{K:zk}{H0 H:Hp}{sp:Vb}{A B:Sp5}{n:Nat}(h:bU K H0 H sp A B n):H sp=Vo (.lst [.ref A.s,.ref B.s]):=by obtain⟨_,_,_,_,T,_⟩:=h;exact T.l
theorem dO.step{K:zk}{H0 H:Hp}{sp:Vb}{A B X:Sp5}{n:Nat}{Q:VK}{E:XK}{cm:Cmd}{x:V}(h:dO K H0 H sp A B n X)(r:n<=900)(d:cm.Ok)(f:eV H cm x)(q:∀H',dO K H0 H' sp A B (n+1) X->Q (.bl true) H'):iY K [.ref X.s,.str cm.head,x] H Q E:=by obtain⟨Y,i,c,j,k,T,h1,h2,o⟩:=h;have t:c.past.length+c.und.length<=n:=h1.1;exact⟨X.s,X.p,X.b,X.hl,X.l1,i,c,cm,x,rfl,T.a,d,f,by omega,by omega,λl3 H' g S fr=>q H' ⟨Y,l3,cV c cm,j,k,T.step g S fr,p9 h1 cm,h2.up (by omega),o⟩⟩
def bP(K:zk)(H0 H:Hp)(sp:Vb)(A B:Sp5)(n:Nat)(X:Sp5)(M:Nat):Prop:=∃Y c a d b,Two K H0 H sp [.ref A.s,.ref B.s] X c a Y d b/\a.Gd n/\b.Gd n/\((X=A/\Y=B)\/(X=B/\Y=A))/\a.past.length=M
def bP.one{K:zk}{A B X:Sp5}{M:Nat}(h:bP K H0 H sp A B n X M):dO K H0 H sp A B n X:=by obtain⟨Y,a,b,c,d,T,h1,h2,f,_⟩:=h;exact⟨Y,a,b,c,d,T,h1,h2,f⟩
def dO.m{K:zk}{A B X:Sp5}(h:dO K H0 H sp A B n X):∃M,bP K H0 H sp A B n X M:=by obtain⟨Y,a,b,c,d,T,h1,h2,f⟩:=h;exact⟨_,Y,a,b,c,d,T,h1,h2,f,rfl⟩
theorem bP.undo{K:zk}{H0 H:Hp}{sp:Vb}{A B X:Sp5}{n M:Nat}{Q:VK}{E:XK}(h:bP K H0 H sp A B n X (M+1))(t:n<=900)(q:∀H',bP K H0 H' sp A B n X M->Q (.bl true) H'):iY K [.ref X.s,.str "undo",.non] H Q E:=by obtain⟨Y,d,c,f,i,T,h1,h2,j,k⟩:=h;have u:c.past.length+c.und.length<=n:=h1.1;obtain⟨o,r⟩:=y9 h1 k;exact⟨X.s,X.p,X.b,X.hl,X.l1,d,c,.undo,.non,rfl,T.a,trivial,rfl,by omega,by omega,λl3 H' g S fr=>q H' ⟨Y,l3,cV c .undo,f,i,T.step g S fr,o,h2,j,r⟩⟩
structure Sees(H:Hp)(X:Sp5)(M:Nat)(vs:List V)(v:V)(h:HV):Prop where
 tp:H X.s=Vo (.tup [.ref X.p,.ref X.b,.ref X.hl])
 hr:H X.hl=Vo (.lst [.int ((M:Nat):Int)])
 bk:H X.b=Vo (.lst vs)
 at_:vs[M]?=Vo v
 hv:aR H v h
theorem Sees.ext{H H':Hp}{X:Sp5}{M:Nat}{vs:List V}{v:V}{h:HV}(e:Ext H H')(s:Sees H X M vs v h):Sees H' X M vs v h:=⟨e _ _ s.tp,e _ _ s.hr,e _ _ s.bk,s.at_,s.hv.ext e⟩
def bP.sees{K:zk}{A B X:Sp5}{M:Nat}(h:bP K H0 H sp A B n X M):∃vs v h,Sees H X M vs v h/\(M=0->h=(1,[])):=by obtain⟨Y,c,b,d,f,T,h1,h2,g,rfl⟩:=h;obtain⟨vs,v,v1,v2,v3⟩:=T.a.here;exact⟨vs,v,b.cur,⟨T.a.tp,T.a.hr,v1,v2,v3⟩,λe=>oN h1 (List.eq_nil_of_length_eq_zero e)⟩
theorem bP.ext{K:zk}{H0 H H':Hp}{sp:Vb}{A B X:Sp5}{n M:Nat}(e:Ext H H')(h:bP K H0 H sp A B n X M):bP K H0 H' sp A B n X M:=by obtain⟨Y,a,b,c,d,T,h⟩:=h;exact⟨Y,a,b,c,d,T.ext e,h⟩
theorem bP.show{K:zk}{H0 H:Hp}{sp:Vb}{A B X:Sp5}{n M:Nat}{Q:VK}{E:XK}(h:bP K H0 H sp A B n X M)(o:n<=900)(q:∀t H' vs v h,bP K H0 H' sp A B n X M->Sees H' X M vs v h->(M=0->h=(1,[]))->H' t=Vo (.tup [.str "told",.str (aX h.1 h.2)])->Q (.ref t) H'):gw K [.ref X.p,.str (Cmd.line .show)] H Q E:=by obtain⟨Y,d,b,f,i,T,h1,h2,j,rfl⟩:=h;have r:b.past.length+b.und.length<=n:=h1.1;refine⟨X.p,X.l1,d,b,.show,rfl,T.a.dk,trivial,by omega,by omega,cD.ok xj ?_⟩;intro t l3 H' g D fr k;obtain⟨S,c⟩:=T.a.tell g D fr;obtain⟨vs,v,v1,v2,v3⟩:=cx.here S;exact q t H' vs v b.cur ⟨Y,l3,b,f,i,T.step g S c,h1,h2,j,rfl⟩ ⟨S.tp,S.hr,v1,v2,v3⟩ (λe=>oN h1 (List.eq_nil_of_length_eq_zero e)) k
def bP.none{K:zk}{A B X:Sp5}{E:XK}(h:bP K H0 H sp A B n X 0)(f:n<=900)(q:∀t H',Ext H H'->H' t=Vo (.tup [.str "refused",.str "NoDeed"])->Q (.ref t) H'):gw K [.ref X.p,.str (Cmd.line .undo)] H Q E:=by obtain⟨Y,c,b,g,i,T,h1,h2,j,d⟩:=h;have k:b.past.length+b.und.length<=n:=h1.1;exact⟨X.p,X.l1,c,b,.undo,rfl,T.a.dk,trivial,by omega,by omega,cD.no (hJ (List.eq_nil_of_length_eq_zero d)) q⟩
def va:("1:":Vn)=aX 1 []:=by decide +kernel
def iD(K:zk):Sp:=λvs H Q _=>∃(a:Vb) (ns:List Int),vs=[.ref a]/\ag K H a (ns.map V.int)/\ns.length<=63/\∀H',Q (.bl true) H'
abbrev dU:Vl:=stq 137
def sv:FnScope ["_law_script","_law_spots","_law_k","_law_many","_law_cell_here","_law_spot","_law_deed","_law_way"] ["_law_script"] (ay dU):=⟨rfl,rfl,rfl,by decide +kernel,rfl,by decide +kernel,by decide +kernel⟩
def yJ{w:Ve}{K:zk}{fd:Vm}(F:Fun K "law" "law" dU f fd)(T:Blt mg)(TD:DeskK K mg)(L:MkD P w K mg base "Desk" 1 (ko K))(d:Cal P w K mg base "_law_tell" 10 ["_law_desk","_law_line"] (gw K))(j:Cal P w K mg base "_law_step" 11 ["_law_spot","_law_deed","_law_way"] (iY K))(y:Cal P w K mg base "_law_house_text" 1 ["_law_house"] (mE K))(J:Cal P w K mg base "_law_plan" 3 ["_law_house","_law_cell_here","_law_prime"] (qU K))(I:Cal P w K mg base "_law_spare" 1 ["_law_cell_here","_law_width"] (nV K))(r:Cal P w K mg base "_law_draws" 2 ["_law_cell_here","_law_widths","_law_prime"] (iA K))(C:Cal P w K mg base "_law_cell" 1 ["_law_script","_law_k"] (sf K)):FnOk P w K mg base cQ 12 f fd ["_law_script"] (iD K):=by
 have nd:=(sv).nd;refine F.ok sv (λvs H Q E h=>?_) (λcdv A outer s H vs Q E hr h=>?_)
 .obtain⟨a,ns,rfl,_⟩:=h;rfl
 .obtain⟨a,ns,rfl,ha,hlen,q⟩:=h;refine⟨_,(ar (bj (i:=1) nd rfl (Or.inl rfl) (bA (aa (aB (aa (oI L hr) (aa (bA (sH (.tup (.cons .int (.cons (.tup .nil) .nil))) ae)) (aa (bA (aa af ae)) ae)))) (aa (aB (aa (oI L hr) (aa (bA (sH (.tup (.cons .int (.cons (.tup .nil) .nil))) ae)) (aa (bA (aa af ae)) ae)))) ae))))
    (ar (iK PassesOwn.never rfl (qu rfl T.range_ (aa af ae)) (aT (i:=2) nd rfl (Or.inl rfl)) (ar (bj (i:=3) nd rfl (Or.inl rfl) (aA cu af (aj (aD K) (aF r hr (aa (aF C hr (aa (pv 0) (aa (pv 2) ae))) (aa (bA (aa af (aa af ae))) (aa af ae)))) af (λ_ _=>rfl))))
    (ao (aO (bX (bY (aF j hr (aa (aj (aD K) (pv 1) (pv 2) (λ_ _=>rfl)) (aa ak (aa (pv 3) ae)))))) (ao (ax cF)) aL))))
    (ar (iK PassesOwn.never rfl (tE rfl T.range_ (aa af (aa (aP (rn rfl) rfl T.max_ PyProof.Rows.boot_max (aa af (aa (aP (vq rfl) rfl T.min_ PyProof.Rows.boot_min (aa af (aa (aP (bV K) rfl T.len_ PySem.boot_len (aa (pv 0) ae)) ae))) ae))) ae))) (aT (i:=2) nd rfl (Or.inl rfl)) (ar (bj (i:=4) nd rfl (Or.inl rfl) (aF C hr (aa (pv 0) (aa (pv 2) ae))))
    (ar (bj (i:=5) nd rfl (Or.inl rfl) (aj (aD K) (pv 1) (bt gn rfl T.int_ PyProof.Rows.boot_int (aa (cc bE (aj (aD K) (aF r hr (aa (pv 4) (aa (bA (aa af ae)) (aa af ae)))) af (λ_ _=>rfl)) af (aC _)) ae)) (λ_ _=>rfl)))
    (ar (fc (aF J hr (aa (aj (aD K) (aj (aE K) (pv 5) af (λ_ _=>rfl)) (aj (aD K) (aj (aE K) (pv 5) af (λ_ _=>rfl)) af (λ_ _=>rfl)) (λ_ _=>rfl)) (aa (aF I hr (aa (pv 4) (aa af ae))) (aa af ae)))) (ez (n:=2) K rfl (bB (aT (i:=6) nd rfl (Or.inl rfl)) (bB (aT (i:=7) nd rfl (Or.inl rfl)) dW))))
    (ar (aO (bX (bY (aF j hr (aa (pv 5) (aa (pv 6) (aa (pv 7) ae)))))) (ao (ax cF)) aL)
    (ao (aO (aK (gD hr) (aF d hr (aa (aj (aE K) (pv 5) af (λ_ _=>rfl)) (aa ak ae))) (aB (aa ak (aa (aF y hr (aa (aj (aD K) (aj (aE K) (pv 5) af (λ_ _=>rfl)) (aj (aD K) (aj (aE K) (pv 5) af (λ_ _=>rfl)) af (λ_ _=>rfl)) (λ_ _=>rfl)) ae)) ae))) (aC _)) (ao (ax cF)) aL)))))))
    (ar (iK PassesOwn.never rfl (o5 K (pv 1)) (aT (i:=5) nd rfl (Or.inl rfl)) (ar (qN PassesOwn.never (aK eQ (aj (aD K) (aj (aE K) (pv 5) af (λ_ _=>rfl)) af (λ_ _=>rfl)) af (aC _)) (ao (aO (bX (bY (aF j hr (aa (pv 5) (aa ak (aa gM ae)))))) (ao (ax cF)) aL)))
    (ao (aO (PW.pt (dm (aK (gD hr) (aF d hr (aa (aj (aE K) (pv 5) af (λ_ _=>rfl)) (aa ak ae))) (aB (aa ak (aa ak ae))) (aC _)) (dI (aK (gD hr) (aF d hr (aa (aj (aE K) (pv 5) af (λ_ _=>rfl)) (aa ak ae))) (aB (aa ak (aa ak ae))) (aC _))))) (ao (ax cF)) aL))))
    (ao (ax cF)))))),?_⟩
  walk_at"";intro p dx hp Z a2;refine⟨p,dx,rfl,aI,λl1 l2 H1 n1 n2 D fr=>⟨rfl,?_⟩⟩;obtain⟨e1,m1,m2⟩:=mJ hp Z n1 n2 fr;clear fr n1 n2 a2;walk_at"";refine au λt H2 e2 U _=>?_;walk_at"";refine au λu H3 e3 hu _=>?_;walk_at"";refine au λb H4 e4 hb nb=>?_;walk_at"";refine au λhl H5 e5 hh nh=>?_;walk_at"";refine au λs H6 e6 hs _=>?_;obtain⟨eA,SA,fA⟩:=rZ e1 D hp m1 m2 e2 U e3 hu e4 hb nb e5 hh nh e6 hs;clear e1 D hp m1 m2 e2 U e3 hu e4 hb nb e5 hh nh e6 hs Z;walk_at"";intro p' ac hp Z a2;refine⟨p',ac,rfl,aI,λa6 ad b2 n1 n2 D fr=>⟨rfl,?_⟩⟩;obtain⟨e1,m1,m2⟩:=mJ hp Z n1 n2 fr;clear fr n1 n2 a2;walk_at"";refine au λt' b3 e2 U _=>?_;walk_at"";refine au λu' b4 e3 hu _=>?_;walk_at"";refine au λb' b5 e4 hb nb=>?_;walk_at"";refine au λa7 b6 e5 hh nh=>?_;walk_at"";refine au λs' b7 e6 hs _=>?_;obtain⟨eB,SB,fB⟩:=rZ e1 D hp m1 m2 e2 U e3 hu e4 hb nb e5 hh nh e6 hs;clear e1 D hp m1 m2 e2 U e3 hu e4 hb nb e5 hh nh e6 hs Z;walk_at"";refine au λsp H7 e7 hsp a3=>?_;have G:bU K H H7 sp ⟨s,p,b,hl,l1⟩ ⟨s',p',b',a7,a6⟩ 0:=by
   refine⟨l2,_,ad,_,⟨SA.ext (eB.trans e7),SB.ext e7,Off.mk SA fB,hsp,λg=>?_,λg=>?_,eA.trans (eB.trans e7),fA,λc g=>eA.none (fB c g)⟩,⟨zJ _,rfl⟩,⟨zJ _,rfl⟩⟩
   .obtain⟨o,z,_⟩:=gH (SA.ext eB) g;rw[a3]at z;cases z
   .obtain⟨o,z,_⟩:=gH SB g;rw[a3]at z;cases z
  generalize (⟨s,p,b,hl,l1⟩:Sp5)=A at G;clear SA SB fA fB eA eB e7 hsp a3;generalize (⟨s',p',b',a7,a6⟩:Sp5)=B at G;walk_at"";refine mT (by omega) ?_;refine forR (λi σ H'=>∃k1 k2,σ=[Vo (.ref a),Vo (.ref sp),k1,k2,Vp,Vp,Vp,Vp]/\bU K H H' sp A B i) ⟨Vp,Vp,rfl,G⟩ ?_ ?_
  .clear G;rintro i σ H8 hi ⟨k1,k2,rfl,G⟩;have hi:i<2:=hi;walk_at"";refine⟨a,ns,_,rfl,ha.ext G.e,hlen,by omega,λz=>?_⟩;walk_at"";refine au λw H2 e2 a0 hw=>?_;walk_at"";refine kC [12,3] a0 (by decide) (by decide) (by decide) λdq ds H3 e3 hd a4 hl hb=>?_;obtain⟨R,d1,rfl⟩:∃R d1,ds=[R,d1]:=by
    match ds,hl with
    | [R,d1],_=>exact⟨R,d1,rfl⟩
   have b0:=hb 0 _ _ rfl rfl;have W:=G.ext (e2.trans e3);clear hb hl a4 a0 G e2 e3;walk_at"";refine az (ag.of hd) (v:=.int R) rfl ?_;walk_at"";obtain⟨X,O,hX⟩:=W.one i hi;refine az (ag.of W.l) (v:=.ref X.s) (by rw[Int.zero_add];exact bf hX) ?_;walk_at"";refine O.step (cm:=.rooms (1+R)) (x:=.int (1+R)) (by omega) ⟨by omega,by omega⟩ rfl λH9 O9=>?_;walk_at"";refine av ?_;exact⟨_,_,rfl,O9.both⟩
  clear G;rintro σ H8 ⟨k1,k2,rfl,G⟩;walk_at"";refine dw (ha.ext G.e) ?_;walk_at"";refine vo ⟨by decide,by decide,by split<;>(try split)<;>omega,by split<;>(try split)<;>omega⟩ ?_;have hN:((if(if((List.map V.int ns).length:Int)<50 then((List.map V.int ns).length:Int)else 50)>9 then(if((List.map V.int ns).length:Int)<50 then((List.map V.int ns).length:Int)else 50)else 9)-2:Int).toNat<=48:=by split<;>(try split)<;>omega
  generalize Int.toNat _=N at hN ⊢;refine forR (λi σ H'=>∃k1 k2 k3 k4 k5 k6,σ=[Vo (.ref a),Vo (.ref sp),k1,k2,k3,k4,k5,k6]/\bU K H H' sp A B (2+i)) ⟨k1,k2,Vp,Vp,Vp,Vp,rfl,G⟩ ?_ ?_
  .clear G k1 k2;rintro i σ H8 hi ⟨k1,k2,k3,k4,k5,k6,rfl,G⟩;walk_at"";refine⟨a,ns,_,rfl,ha.ext G.e,hlen,by omega,λz=>?_⟩;walk_at"";refine au λw H2 e2 a0 hw=>?_;walk_at"";refine kC [3] a0 (by decide) (by decide) (by decide) λdq ds H3 e3 hd a4 hl hb=>?_;obtain⟨R,rfl⟩:∃R,ds=[R]:=by
    match ds,hl with
    | [R],_=>exact⟨R,rfl⟩
   have W:=G.ext (e2.trans e3);clear hb hl a4 a0 G e2 e3;walk_at"";refine az (ag.of hd) (v:=.int R) rfl ?_;walk_at"";have hx:∃k:Nat,k<2/\(if decide (R=2)=true then(1:Int)else 0)=((k:Nat):Int):=by
    by_cases h:R=2
    .exact⟨1,by decide,by simp[h]⟩
    .exact⟨0,by decide,by simp[h]⟩
   obtain⟨k,hk,ek⟩:=hx;rw[ek];clear ek;obtain⟨X,O,hX⟩:=W.one k hk;refine az (ag.of W.l) (v:=.ref X.s) (bf hX) ?_;clear W hd hX;obtain⟨M,O⟩:=O.m;obtain⟨vs,v,h,S,_⟩:=O.sees;walk_at"";refine aG (ah.of S.tp) (v:=.ref X.b) rfl ?_;walk_at"";refine aG (ah.of S.tp) (v:=.ref X.hl) rfl ?_;walk_at"";refine az (ag.of S.hr) (v:=.int ((M:Nat):Int)) rfl ?_;refine az (ag.of S.bk) (v:=v) (bf S.at_) ?_;walk_at"";refine⟨z,3,rfl,by decide,by decide,λz2=>?_⟩;walk_at"";refine⟨v,h,z2,_,rfl,S.hv,by decide,λt x cm H9 e9 am U hx=>?_⟩;have O9:=O.ext e9;clear O S e9;refine cZ (ah.of U) rfl ?_;walk_at"";refine O9.one.step (by omega) am hx λa8 a5=>?_;clear O9 U hx;obtain⟨M,O⟩:=a5.m;obtain⟨vs,v,h,S,_⟩:=O.sees;walk_at"";refine av ?_;walk_at"";refine aG (ah.of S.tp) (v:=.ref X.p) rfl ?_;walk_at"";rw[nA];refine O.show (by omega) λt an vs v h O S _ U=>?_;walk_at"";refine aG (ah.of S.tp) (v:=.ref X.b) rfl ?_;walk_at"";refine aG (ah.of S.tp) (v:=.ref X.hl) rfl ?_;walk_at"";refine az (ag.of S.hr) (v:=.int ((M:Nat):Int)) rfl ?_;refine az (ag.of S.bk) (v:=v) (bf S.at_) ?_;walk_at"";refine⟨v,h.1,h.2,rfl,S.hv.1,S.hv.2,λap a9=>?_⟩;walk_at"";refine au λu2 as a1 Y _=>?_;refine mG ((a9.trans a1) _ _ U) Y fw.1 (gr S.hv.2) ?_;refine rd_exb (av ?_);exact⟨_,_,_,_,_,_,rfl,(O.one.both.ext (a9.trans a1)).up (by omega)⟩
  clear G k1 k2;rintro σ H8 ⟨k1,k2,k3,k4,k5,k6,rfl,G⟩;walk_at"";refine lq (ag.of G.l) ?_;refine forL (xs:=[.ref A.s,.ref B.s]) (λi σ H'=>∃k,σ=[Vo (.ref a),Vo (.ref sp),k1,k2,k3,k,k5,k6]/\bU K H H' sp A B (2+N)) ⟨_,rfl,G⟩ (λi σ H' _ h=>?_) ?_ ?_
  .obtain⟨_,_,h⟩:=h;exact ag.of h.l
  .clear G k4;rintro i x σ H8 hx ⟨k,rfl,G⟩;have hi:i<2:=(zy.mp hx).1;obtain⟨X,O,hX⟩:=G.one i hi;rw[hX]at hx;cases hx;clear G;obtain⟨M,O⟩:=O.m;walk_at"";refine mS (λM σ H'=>σ=[Vo (.ref a),Vo (.ref sp),k1,k2,k3,Vo (.ref X.s),k5,k6]/\bP K H H' sp A B (2+N) X M) (λσ H'=>σ=[Vo (.ref a),Vo (.ref sp),k1,k2,k3,Vo (.ref X.s),k5,k6]/\bP K H H' sp A B (2+N) X 0) M ⟨rfl,O⟩ ?_ ?_
   .clear O M;rintro M σ H9 ⟨rfl,O⟩;obtain⟨vs,v,h,S,_⟩:=O.sees;walk_at"";refine aG (ah.of S.tp) (v:=.ref X.hl) rfl ?_;walk_at"";refine az (ag.of S.hr) (v:=.int ((M:Nat):Int)) rfl ?_;walk_at""
    match M,O with
    | 0,O=>
     refine av ?_;exact⟨rfl,O⟩
    | M+1,O=>
     rw[Ak (show(0:Int)<((M+1:Nat):Int) by omega)];refine aw ⟨_,λ_ _ h=>h,?_⟩;walk_at"";refine O.undo (by omega) λa8 a5=>?_;walk_at"";refine av ?_;exact⟨M,by omega,rfl,a5⟩
   clear O M;rintro σ H9 ⟨rfl,O⟩;obtain⟨vs,v,h,S,_⟩:=O.sees;walk_at"";refine aG (ah.of S.tp) (v:=.ref X.p) rfl ?_;walk_at"";rw[jk.2.1];refine O.none (by omega) λt a8 b1 U=>?_;walk_at"";refine au λu2 an ab Y _=>?_;have e:=b1.trans ab;refine mG (ab _ _ U) Y fw.2 mx ?_;have O:=O.ext e;have S:=S.ext e;refine rd_exb (av ?_);walk_at"";refine aG (ah.of S.tp) (v:=.ref X.p) rfl ?_;walk_at"";rw[nA];refine O.show (by omega) λt ap vs v h O S e U=>?_;obtain rfl:=e rfl;walk_at"";refine au λu2 as a1 Y _=>?_;rw[va]at Y;refine mG (a1 _ _ U) Y fw.1 (gr S.hv.2) ?_;refine rd_exb (av ?_);exact⟨_,rfl,(O.ext a1).one.both⟩
  rintro σ H8 ⟨k,rfl,G⟩;walk_at"";exact q _
abbrev Dq(K:zk)(mg:Vn->Option Va)(x:Vn)(st:Vl):Prop:=∃(f:Vb) (fd:Vm),mg x=Vo (.ref f)/\Fun K x x st f fd
def dq{K:zk}{h:Vh}{mg:Vn->Option Va}(X:K.In h)(G:h.Ns Vj mg){x:Vn}{st:Vl}{f:Vb}{od an:Option Vb}{sl:Array (Option Va)}{oc kV b pm cd ct:Va}(a:PySem.W.nsIn K Vj x=Vo (Vo (.ref f)))(l:K.lookup f=Vo ⟨oc,od,.func (PySem.W.fnOf x x (bW st) (bJ st) (ay st) .none kV b pm an cd ct),sl⟩)(c:PySem.W.codeIn K cd x=true)(k:PySem.W.keepIn K (.ref f)=true):Dq K mg x st:=⟨f,_,PySem.W.mg_of X G a,je (st:=st) l c k⟩
abbrev bd(x:Vn)(st:Vl)(us:List Va)(r:List (Vn×Va)):Prop:=∀(kV doc pm:Va) (an:Option Vb) (cdv ct:Va),bindArgs (PySem.W.fnOf x x (bW st) (bJ st) (ay st) .none kV doc pm an cdv ct) ⟨us,[]⟩=pure r
def ck{K:zk}{x:Vn}(b:Vn)(d:Dq K mg x st)(h:∀c,bd x st [c] [(b,c)]):Dfn K mg x st [b]:=let ⟨f,fd,a,F⟩:=d;⟨f,fd,a,F,F.binds (ps:=[b]) λ_ _ _ _ _ _ us hl=>match us,hl with|[_],_=>h _ _ _ _ _ _ _⟩
def cy{K:zk}{x:Vn}(b c:Vn)(d:Dq K mg x st)(h:∀g i,bd x st [g,i] [(b,g),(c,i)]):Dfn K mg x st [b,c]:=let ⟨f,fd,a,F⟩:=d;⟨f,fd,a,F,F.binds (ps:=[b,c]) λ_ _ _ _ _ _ us hl=>match us,hl with|[_,_],_=>h _ _ _ _ _ _ _ _⟩
def jn{K:zk}{x:Vn}(b c p2:Vn)(d:Dq K mg x st)(h:∀g i j,bd x st [g,i,j] [(b,g),(c,i),(p2,j)]):Dfn K mg x st [b,c,p2]:=let ⟨f,fd,a,F⟩:=d;⟨f,fd,a,F,F.binds (ps:=[b,c,p2]) λ_ _ _ _ _ _ us hl=>match us,hl with|[_,_,_],_=>h _ _ _ _ _ _ _ _ _⟩
def sQ{K:zk}{x:Vn}(b c p2 g:Vn)(d:Dq K mg x st)(h:∀i j k n,bd x st [i,j,k,n] [(b,i),(c,j),(p2,k),(g,n)]):Dfn K mg x st [b,c,p2,g]:=let ⟨f,fd,a,F⟩:=d;⟨f,fd,a,F,F.binds (ps:=[b,c,p2,g]) λ_ _ _ _ _ _ us hl=>match us,hl with|[_,_,_,_],_=>h _ _ _ _ _ _ _ _ _ _⟩
def all_mk{l:PySem.W.OpenLaw}{w:Ve}{K:zk}{h:Vh}{fa:Vb}(X:K.In h)(G:h.Ns Vj mg)(ep:mg "law" = Vo (.ref fa))
  (d0:Dq K mg "way_text" jP)
  (d1:Dq K mg "is_sign" lN)
  (d2:Dq K mg "is_deed" jF)
  (d3:Dq K mg "is_whole" lJ)
  (d4:Dq K mg "is_room" jH)
  (d5:Dq K mg "is_way" ky)
  (d6:Dq K mg "are_ways" kh)
  (d7:Dq K mg "is_house" jM)
  (d8:Dq K mg "refuse_no_house" jz)
  (d9:Dq K mg "shown_house" jX)
  {CD:Vb} (nD:PySem.W.nsIn K Vj "Desk" = Vo (Vo (.ref CD))) (hdk:mw K=true)
  {g:Vb} {a7 a8:Option Vb} {a9:Array (Option Va)} {ab ac ad am n an:Va} (a10:PySem.W.findIn K (.ref CD) "undo" = Vo (Vo (.ref g))) (l10:K.lookup g=Vo ⟨ab,a7,.func (PySem.W.fnOf "undo" "Desk.undo" (bW fU) (bJ fU) (ay fU) .none ac ad am a8 n an),a9⟩) (c10:PySem.W.codeIn K n "Desk.undo" = true) (k10:PySem.W.keepIn K (.ref g)=true) (i10:PySem.W.isFn K (.ref g)=true)
  {i:Vb} {ap as:Option Vb} {b0:Array (Option Va)} {b1 b2 b3 b4 o b5:Va} (a11:PySem.W.findIn K (.ref CD) "redo" = Vo (Vo (.ref i))) (l11:K.lookup i=Vo ⟨b1,ap,.func (PySem.W.fnOf "redo" "Desk.redo" (bW fM) (bJ fM) (ay fM) .none b2 b3 b4 as o b5),b0⟩) (c11:PySem.W.codeIn K o "Desk.redo" = true) (k11:PySem.W.keepIn K (.ref i)=true) (i11:PySem.W.isFn K (.ref i)=true)
  {j:Vb} {b6 b7:Option Vb} {b8:Array (Option Va)} {b9 be bi bl p bm:Va} (a12:PySem.W.findIn K (.ref CD) "do" = Vo (Vo (.ref j))) (l12:K.lookup j=Vo ⟨b9,b6,.func (PySem.W.fnOf "do" "Desk.do" (bW fY) (bJ fY) (ay fY) .none be bi bl b7 p bm),b8⟩) (c12:PySem.W.codeIn K p "Desk.do" = true) (k12:PySem.W.keepIn K (.ref j)=true) (i12:PySem.W.isFn K (.ref j)=true)
  (es:Dq K mg "rooms_deed" lj)
  (et:Dq K mg "way_deed" kU)
  (ev:Dq K mg "close_deed" kW)
  (ew:Dq K mg "turned_way" ka)
  (ex:Dq K mg "turned_about" ma)
  (ey:Dq K mg "turn_deed" mB)
  (f0:Dq K mg "show_ask" jB)
  (f1:Dq K mg "is_number_word" jI)
  (f2:Dq K mg "value_of" kd)
  (f3:Dq K mg "is_word_of" lX)
  (f4:Dq K mg "is_line" jU)
  {k:Vb} {bn bv:Option Vb} {bw:Array (Option Va)} {c0 c1 c2 c3 q c4:Va} (a24:PySem.W.findIn K (.ref CD) "tell" = Vo (Vo (.ref k))) (l24:K.lookup k=Vo ⟨c0,bn,.func (PySem.W.fnOf "tell" "Desk.tell" (bW fN) (bJ fN) (ay fN) .none c1 c2 c3 bv q c4),bw⟩) (c24:PySem.W.codeIn K q "Desk.tell" = true) (k24:PySem.W.keepIn K (.ref k)=true) (i24:PySem.W.isFn K (.ref k)=true)
  (f5:Dq K mg "_law_tell" mq)
  (f8:Dq K mg "_law_house_text" lV)
  (fb:Dq K mg "_law_turned" kK)
  (fe:Dq K mg "_law_due" mr)
  (fl:Dq K mg "_law_way_line" lB)
  (fn:Dq K mg "_law_step" jQ)
  (fp:Dq K mg "_law_mixed" kJ)
  (fr:Dq K mg "_law_draws" kT)
  (fv:Dq K mg "_law_plan" jE)
  (fx:Dq K mg "_law_spare" lO)
  (fy:Dq K mg "_law_cell" kr)
  {a:Vb} {c5 c6:Option Vb} {c7:Array (Option Va)} {c8 c9 ca cd r ce:Va} (a36:PySem.W.findIn K (.ref CD) "__init__" = Vo (Vo (.ref a))) (l36:K.lookup a=Vo ⟨c8,c5,.func (PySem.W.fnOf "__init__" "Desk.__init__" (bW gp) (bJ gp) (ay gp) .none c9 ca cd c6 r ce),c7⟩) (c36:PySem.W.codeIn K r "Desk.__init__" = true) (k36:PySem.W.keepIn K (.ref a)=true) (i36:PySem.W.isFn K (.ref a)=true)
  {a3:Vb} {cf t:Option Vb} {cg:Array (Option Va)} {ch u x y b z:Va} (a37:PySem.W.nsIn K Vj "law" = Vo (Vo (.ref a3))) (l37:K.lookup a3=Vo ⟨ch,cf,.func (PySem.W.fnOf "law" "law" (bW dU) (bJ dU) (ay dU) .none u x y t b z),cg⟩) (c37:PySem.W.codeIn K b "law" = true) (k37:PySem.W.keepIn K (.ref a3)=true)
  (z0:PySem.W.nsIn K Vj "len" = Vo Vp)
  (z1:PySem.W.nsIn K Vj "isinstance" = Vo Vp)
  (z2:PySem.W.nsIn K Vj "tuple" = Vo Vp)
  (z3:PySem.W.nsIn K Vj "list" = Vo Vp)
  (z4:PySem.W.nsIn K Vj "int" = Vo Vp)
  (z5:PySem.W.nsIn K Vj "bool" = Vo Vp)
  (z6:PySem.W.nsIn K Vj "range" = Vo Vp)
  (z7:PySem.W.nsIn K Vj "zip" = Vo Vp)
  (z8:PySem.W.nsIn K Vj "max" = Vo Vp)
  (z9:PySem.W.nsIn K Vj "min" = Vo Vp)
  (z10:PySem.W.nsIn K Vj "abs" = Vo Vp)
  (z11:PySem.W.nsIn K Vj "all" = Vo Vp)
  (z12:PySem.W.nsIn K Vj "ValueError" = Vo Vp)
  (z13:PySem.W.nsIn K Vj "enumerate" = Vo Vp)
  (z14:PySem.W.nsIn K Vj "set" = Vo Vp)
  (z15:PySem.W.nsIn K Vj "str" = Vo Vp)
  (z16:PySem.W.nsIn K Vj "reversed" = Vo Vp)
  (z17:PySem.W.nsIn K Vj "any" = Vo Vp)
  (z18:PySem.W.nsIn K Vj "sorted" = Vo Vp)
  {t0:Tok} (v0:PySem.W.nsIn K Vj "GREATEST_WAYS" = Vo (Vo (.int 100 t0)))
  {t1:Tok} (v1:PySem.W.nsIn K Vj "GREATEST_MANY" = Vo (Vo (.int 12 t1)))
  {t2:Tok} (v2:PySem.W.nsIn K Vj "FIGURES" = Vo (Vo (.str "0123456789" t2)))
  {t3:Tok} (v3:PySem.W.nsIn K Vj "MOST_FIGURES" = Vo (Vo (.int 6 t3)))
  {e0:Vb} {ci cl cm co cr cs ct da:Tok} {fz:Nat} (x0:PySem.W.nsIn K Vj "TURNED" = Vo (Vo (.ref e0))) (y0:K.lookup e0=Vo (cY w [("up",ci,.str "down" cl),("down",cm,.str "up" co),("stay",cr,.str "stay" cs),("zero",ct,.str "zero" da)] fz)) (w0:(e0 == sysModules)=false)
  {e1 A B C E H I J L M N c d f:Vb} {db dc dd df dk dl dp dr ds dt a4 a5 a6:Tok} {g1:Nat} (x1:PySem.W.nsIn K Vj "LINES" = Vo (Vo (.ref e1))) (y1:K.lookup e1=Vo (cY w [("rooms",db,.ref A),("way",dc,.ref B),("close",dd,.ref C),("turn",df,.ref E),("undo",dk,.ref H),("redo",dl,.ref I),("show",dp,.ref J),("reach",dr,.ref L),("forward",ds,.ref M),("backward",dt,.ref N),("most",a4,.ref c),("fate",a5,.ref d),("word",a6,.ref f)] g1)) (w1:(e1 == sysModules)=false) (n1_0:bg K A ["many"]) (n1_1:bg K B ["number","deed","number","sign"]) (n1_2:bg K C ["number","deed","number","sign"]) (n1_3:bg K E []) (n1_4:bg K H []) (n1_5:bg K I []) (n1_6:bg K J []) (n1_7:bg K L ["number","number","number","number"]) (n1_8:bg K M ["number","number","number"]) (n1_9:bg K N ["number","number","number"]) (n1_10:bg K c ["number","number"]) (n1_11:bg K d ["number","number"]) (n1_12:bg K f ["number","number"])
  {e2 O P Q R:Vb} {dx e4 e5 e6:Tok} {g2:Nat} (x2:PySem.W.nsIn K Vj "DEEDS" = Vo (Vo (.ref e2))) (y2:K.lookup e2=Vo (cY w [("rooms",dx,.ref O),("way",e4,.ref P),("close",e5,.ref Q),("turn",e6,.ref R)] g2)) (w2:(e2 == sysModules)=false) (n2_0:PySem.W.nsIn K Vj "rooms_deed" = Vo (Vo (.ref O))) (n2_1:PySem.W.nsIn K Vj "way_deed" = Vo (Vo (.ref P))) (n2_2:PySem.W.nsIn K Vj "close_deed" = Vo (Vo (.ref Q))) (n2_3:PySem.W.nsIn K Vj "turn_deed" = Vo (Vo (.ref R)))
  {e3 S U Y Z a0 a1 a2:Vb} {e7 e8 e9 ea eb eg ei:Tok} {g3:Nat} (x3:PySem.W.nsIn K Vj "ASKS" = Vo (Vo (.ref e3))) (y3:K.lookup e3=Vo (cY w [("show",e7,.ref S),("reach",e8,.ref U),("forward",e9,.ref Y),("backward",ea,.ref Z),("most",eb,.ref a0),("fate",eg,.ref a1),("word",ei,.ref a2)] g3)) (w3:(e3 == sysModules)=false) (n3_0:PySem.W.nsIn K Vj "show_ask" = Vo (Vo (.ref S))) (n3_1:PySem.W.nsIn K Vj "reach_ask" = Vo (Vo (.ref U))) (n3_2:PySem.W.nsIn K Vj "forward_ask" = Vo (Vo (.ref Y))) (n3_3:PySem.W.nsIn K Vj "backward_ask" = Vo (Vo (.ref Z))) (n3_4:PySem.W.nsIn K Vj "most_ask" = Vo (Vo (.ref a0))) (n3_5:PySem.W.nsIn K Vj "fate_ask" = Vo (Vo (.ref a1))) (n3_6:PySem.W.nsIn K Vj "word_ask" = Vo (Vo (.ref a2)))
  (hxf:lQ K cR cU=true)
  : ∃fd:Vm,(∀(s:Vc) (v:Va),BindsTo s fd ⟨[v],[]⟩ [("_law_script",v)])/\∀base:Vh,K.In base->base.Ns Vj mg->FnOk l.prog w K mg base cQ 12 fa fd ["_law_script"] (iD K):=by
 have e:=ep.symm.trans (PySem.W.mg_of X G a37);cases e;have T:Blt mg:=⟨PySem.W.mg_none_of X G z0,PySem.W.mg_none_of X G z1,PySem.W.mg_none_of X G z2,PySem.W.mg_none_of X G z3,PySem.W.mg_none_of X G z4,PySem.W.mg_none_of X G z5,PySem.W.mg_none_of X G z6,PySem.W.mg_none_of X G z7,PySem.W.mg_none_of X G z8,PySem.W.mg_none_of X G z9,PySem.W.mg_none_of X G z10,PySem.W.mg_none_of X G z11,PySem.W.mg_none_of X G z12,PySem.W.mg_none_of X G z13,PySem.W.mg_none_of X G z14,PySem.W.mg_none_of X G z15,PySem.W.mg_none_of X G z16,PySem.W.mg_none_of X G z17,PySem.W.mg_none_of X G z18⟩;have D0:=ck "way" d0 λ_ _ _ _ _ _ _=>rfl;have D1:=ck "thing" d1 λ_ _ _ _ _ _ _=>rfl;have D2:=ck "thing" d2 λ_ _ _ _ _ _ _=>rfl;have D3:=ck "thing" d3 λ_ _ _ _ _ _ _=>rfl;have D4:=cy "thing" "many" d4 λ_ _ _ _ _ _ _ _=>rfl;have D5:=cy "thing" "many" d5 λ_ _ _ _ _ _ _ _=>rfl;have D6:=cy "thing" "many" d6 λ_ _ _ _ _ _ _ _=>rfl;have D7:=ck "thing" d7 λ_ _ _ _ _ _ _=>rfl;have D8:=ck "thing" d8 λ_ _ _ _ _ _ _=>rfl;have D9:=ck "house" d9 λ_ _ _ _ _ _ _=>rfl;have g4:=cy "house" "parts" es λ_ _ _ _ _ _ _ _=>rfl;have g5:=cy "house" "parts" et λ_ _ _ _ _ _ _ _=>rfl;have g6:=cy "house" "parts" ev λ_ _ _ _ _ _ _ _=>rfl;have g7:=ck "way" ew λ_ _ _ _ _ _ _=>rfl;have g8:=ck "house" ex λ_ _ _ _ _ _ _=>rfl;have g9:=cy "house" "parts" ey λ_ _ _ _ _ _ _ _=>rfl;have ga:=cy "house" "parts" f0 λ_ _ _ _ _ _ _ _=>rfl;have gb:=ck "word" f1 λ_ _ _ _ _ _ _=>rfl;have gc:=ck "word" f2 λ_ _ _ _ _ _ _=>rfl;have gd:=cy "kind" "word" f3 λ_ _ _ _ _ _ _ _=>rfl;have ge:=ck "words" f4 λ_ _ _ _ _ _ _=>rfl;have gi:=cy "_law_desk" "_law_line" f5 λ_ _ _ _ _ _ _ _=>rfl;have gk:=ck "_law_house" f8 λ_ _ _ _ _ _ _=>rfl;have gl:=ck "_law_house" fb λ_ _ _ _ _ _ _=>rfl;have go:=sQ "_law_book" "_law_here" "_law_deed" "_law_way" fe λ_ _ _ _ _ _ _ _ _ _=>rfl;have gs:=cy "_law_word" "_law_way" fl λ_ _ _ _ _ _ _ _=>rfl;have gt:=jn "_law_spot" "_law_deed" "_law_way" fn λ_ _ _ _ _ _ _ _ _=>rfl;have gu:=jn "_law_cell_here" "_law_k" "_law_prime" fp λ_ _ _ _ _ _ _ _ _=>rfl;have gv:=jn "_law_cell_here" "_law_widths" "_law_prime" fr λ_ _ _ _ _ _ _ _ _=>rfl;have gx:=jn "_law_house" "_law_cell_here" "_law_prime" fv λ_ _ _ _ _ _ _ _ _=>rfl;have gz:=cy "_law_cell_here" "_law_width" fx λ_ _ _ _ _ _ _ _=>rfl;have h0:=cy "_law_script" "_law_k" fy λ_ _ _ _ _ _ _ _=>rfl;refine⟨PySem.W.fnOf "law" "law" (bW dU) (bJ dU) (ay dU) .none u x y t b z,λs v=>.of_eq rfl,λbase KB GB=>?_⟩;have XF:Xf K mg base cR cU:=wd KB GB hxf;obtain⟨TD,h1,h2,h3⟩:=xP X G hdk;have C0:=@yq l.prog w K mg base D0 T;have C1:=@uj l.prog w K mg base D1 T;have C2:=@vJ l.prog w K mg base D2 T ⟨_,PySem.W.mg_of X G x0,oF y0 w0⟩;have C3:=@uR l.prog w K mg base D3 T;have C4:=@yQ l.prog w K mg base D4 T C3;have C5:=@xl l.prog w K mg base D5 T C1 C2 C4;have C6:=@xR l.prog w K mg base D6 T ⟨_,PySem.W.mg_of X G v0⟩ C5;have C7:=@uH l.prog w K mg base D7 T ⟨_,PySem.W.mg_of X G v1⟩ C6 C3;have C8:=@wo l.prog w K mg base D8 T C7;have C9:=@xW l.prog w K mg base D9 T C0 C8;have h4:MetX l.prog w K mg base (cA K "Desk") "undo" 1 ["self"] (kQ K):=vV (iW (st:=fU) nD a10 l10 c10 k10 i10 λF=>F.binds (ps:=["self"]) λ_ _ _ _ _ _ us hl=>match us,hl with|[_],_=>rfl) T XF TD;have h5:MetX l.prog w K mg base (cA K "Desk") "redo" 1 ["self"] (mD K):=xC (iW (st:=fM) nD a11 l11 c11 k11 i11 λF=>F.binds (ps:=["self"]) λ_ _ _ _ _ _ us hl=>match us,hl with|[_],_=>rfl) T XF TD;have h6:MetX l.prog w K mg base (cA K "Desk") "do" 1 ["self","house"] (lS K):=yz (iW (st:=fY) nD a12 l12 c12 k12 i12 λF=>F.binds (ps:=["self","house"]) λ_ _ _ _ _ _ us hl=>match us,hl with|[_,_],_=>rfl) T TD;have h7:=@yc l.prog w K mg base g4 T;have h8:CalX l.prog w K mg base "way_deed" 3 ["house","parts"] (mn K):=yE g5 T ⟨_,PySem.W.mg_of X G v0⟩ XF C4;have h9:CalX l.prog w K mg base "close_deed" 1 ["house","parts"] (km K):=sW g6 T XF;have ha:=@yp l.prog w K mg base g7 T ⟨_,PySem.W.mg_of X G x0,oF y0 w0⟩;have hb:=@tD l.prog w K mg base g8 T ha C8;have hc:=@sN l.prog w K mg base g9 T hb;have hd:=@sT l.prog w K mg base ga T C9;have ej:=@yV l.prog w K mg base gb T ⟨_,PySem.W.mg_of X G v2⟩ ⟨_,PySem.W.mg_of X G v3⟩;have he:=@w4 l.prog w K mg base gc T ej;have hf:=@vH l.prog w K mg base gd T ⟨_,PySem.W.mg_of X G v1⟩ ej C1 C2;have hg:=@ur l.prog w K mg base ge T ⟨_,PySem.W.mg_of X G x1,vN y1 w1 n1_0 n1_1 n1_2 n1_3 n1_4 n1_5 n1_6 n1_7 n1_8 n1_9 n1_10 n1_11 n1_12⟩ hf;have hh:MetX l.prog w K mg base (cA K "Desk") "tell" 9 ["self","line"] (kF K):=sP (iW (st:=fN) nD a24 l24 c24 k24 i24 λF=>F.binds (ps:=["self","line"]) λ_ _ _ _ _ _ us hl=>match us,hl with|[_,_],_=>rfl) T ⟨_,PySem.W.mg_of X G x2,vT y2 w2 n2_0 n2_1 n2_2 n2_3⟩ ⟨_,PySem.W.mg_of X G x3,uG y3 w3 n3_0 n3_1 n3_2 n3_3 n3_4 n3_5 n3_6⟩ XF TD h4 h5 h6 C9 h7 hc hd he hg h8 h9;have ek:=@vi l.prog w K mg base gi T XF TD hh;have em:=@tw l.prog w K mg base gk T;have hi:=@vY l.prog w K mg base gl T;have hj:=@ua l.prog w K mg base go T hi;have hk:=@yf l.prog w K mg base gs T;have hm:=@yB l.prog w K mg base gt T ek em hj hk;have hn:=@vX l.prog w K mg base gu T;have en:=@wN l.prog w K mg base gv T hn;have ho:=@yj l.prog w K mg base gx T en;have hp:=@tG l.prog w K mg base gz T;have hq:=@sL l.prog w K mg base h0 T;have hr:MkD l.prog w K mg base "Desk" 1 (ko K):=let F:=je (st:=gp) l36 c36 k36;⟨⟨a,_,h1,⟨h2,by rw[cB nD];exact a36,i36,h3⟩,F.binds (ps:=["self"]) λ_ _ _ _ _ _ us hl=>match us,hl with|[_],_=>rfl,v9 F T TD⟩⟩;exact yJ (je (st:=dU) l37 c37 k37) T TD hr ek hm em ho hp en hq
def walk{l:PySem.W.OpenLaw}{q:Vd}{loose:List Vn}{g:(Vn->Option Va)->Vh->Prop}{c:Ve->Vh->Prop}{d:DefRec}{K:Params->zk}(i:l.most=Vo 63)(b:d.params.defaults=[])
  (j:∀(w:Ve) (h:Vh),c w h->(K w.params).In h)
  (F:∀(w:Ve) (mg:Vn->Option Va) (fa:Vb) (h:Vh),(K w.params).In h->h.Ns Vj mg->mg d.name=Vo (.ref fa) ->
   ∃fd:Vm,(∀(s:Vc) (u:Va),BindsTo s fd ⟨[u],[]⟩ [("_law_script",u)])/\∀base:Vh,(K w.params).In base->base.Ns Vj mg->FnOk l.prog w (K w.params) mg base cQ 12 fa fd ["_law_script"] (iD (K w.params))) :
  PySem.W.WalkO q loose g c l.row.toRowW d [] (λf vs=>PySem.call f vs):=
 L2.xY (n:=63) (k:=12) (x:="_law_script") (CX:=λ_=>cQ) (sp:=λw=>iD (K w.params)) i (by decide) b ⟨rfl,by decide,by decide⟩ j F (λ_ _ a ns hl _ o=>⟨a,ns,rfl,o,hl,λ_=>rfl⟩) λ_ _ _ _ _ z=>z
end My
end
open PySem PySem.W PyProof.Rows
set_option maxRecDepth 100000 in
set_option maxHeartbeats 0 in
theorem PySem.Challenge.cw_stairrooms_k64_whole_desk_deeds_holds : PySem.Challenge.rw_stairrooms_k64_whole_desk_deeds.Holds := by
 refine My.top ?_
 k_fill
 refine My.walk (l := PySem.Challenge.rw_stairrooms_k64_whole_desk_deeds) rfl rfl (λw h Y => by first|exact PySem.W.kIn_of Y|exact PySem.W.km_in_of Y) ?F
 case F =>
  intro w mg fa h KX G hmg;have q := @My.dq _ _ _ KX G
  refine' My.all_mk KX G hmg (q ?a0 ?l0 ?c0 ?k0) (q ?a1 ?l1 ?c1 ?k1) (q ?a2 ?l2 ?c2 ?k2) (q ?a3 ?l3 ?c3 ?k3) (q ?a4 ?l4 ?c4 ?k4) (q ?a5 ?l5 ?c5 ?k5) (q ?a6 ?l6 ?c6 ?k6) (q ?a7 ?l7 ?c7 ?k7) (q ?a8 ?l8 ?c8 ?k8) (q ?a9 ?l9 ?c9 ?k9) ?nD ?hdk ?a10 ?l10 ?c10 ?k10 ?i10 ?a11 ?l11 ?c11 ?k11 ?i11 ?a12 ?l12 ?c12 ?k12 ?i12 (q ?a13 ?l13 ?c13 ?k13) (q ?a14 ?l14 ?c14 ?k14) (q ?a15 ?l15 ?c15 ?k15) (q ?a16 ?l16 ?c16 ?k16) (q ?a17 ?l17 ?c17 ?k17) (q ?a18 ?l18 ?c18 ?k18) (q ?a19 ?l19 ?c19 ?k19) (q ?a20 ?l20 ?c20 ?k20) (q ?a21 ?l21 ?c21 ?k21) (q ?a22 ?l22 ?c22 ?k22) (q ?a23 ?l23 ?c23 ?k23) ?a24 ?l24 ?c24 ?k24 ?i24 (q ?a25 ?l25 ?c25 ?k25) (q ?a26 ?l26 ?c26 ?k26) (q ?a27 ?l27 ?c27 ?k27) (q ?a28 ?l28 ?c28 ?k28) (q ?a29 ?l29 ?c29 ?k29) (q ?a30 ?l30 ?c30 ?k30) (q ?a31 ?l31 ?c31 ?k31) (q ?a32 ?l32 ?c32 ?k32) (q ?a33 ?l33 ?c33 ?k33) (q ?a34 ?l34 ?c34 ?k34) (q ?a35 ?l35 ?c35 ?k35) ?a36 ?l36 ?c36 ?k36 ?i36 ?a37 ?l37 ?c37 ?k37 ?z0 ?z1 ?z2 ?z3 ?z4 ?z5 ?z6 ?z7 ?z8 ?z9 ?z10 ?z11 ?z12 ?z13 ?z14 ?z15 ?z16 ?z17 ?z18 ?v0 ?v1 ?v2 ?v3 ?x0 ?y0 ?w0 ?x1 ?y1 ?w1 ?n1_0 ?n1_1 ?n1_2 ?n1_3 ?n1_4 ?n1_5 ?n1_6 ?n1_7 ?n1_8 ?n1_9 ?n1_10 ?n1_11 ?n1_12 ?x2 ?y2 ?w2 ?n2_0 ?n2_1 ?n2_2 ?n2_3 ?x3 ?y3 ?w3 ?n3_0 ?n3_1 ?n3_2 ?n3_3 ?n3_4 ?n3_5 ?n3_6 ?hxf
  (case nD => k_is); (case hdk => first|kernel_rfl|k_is)
  case a0|l0|c0|k0|a1|l1|c1|k1|a2|l2|c2|k2|a3|l3|c3|k3|a4|l4|c4|k4|a5|l5|c5|k5|a6|l6|c6|k6|a7|l7|c7|k7|a8|l8|c8|k8|a9|l9|c9|k9|a10|l10|c10|k10|i10|a11|l11|c11|k11|i11|a12|l12|c12|k12|i12|a13|l13|c13|k13|a14|l14|c14|k14|a15|l15|c15|k15|a16|l16|c16|k16|a17|l17|c17|k17|a18|l18|c18|k18|a19|l19|c19|k19|a20|l20|c20|k20|a21|l21|c21|k21|a22|l22|c22|k22|a23|l23|c23|k23|a24|l24|c24|k24|i24|a25|l25|c25|k25|a26|l26|c26|k26|a27|l27|c27|k27|a28|l28|c28|k28|a29|l29|c29|k29|a30|l30|c30|k30|a31|l31|c31|k31|a32|l32|c32|k32|a33|l33|c33|k33|a34|l34|c34|k34|a35|l35|c35|k35|a36|l36|c36|k36|i36|a37|l37|c37|k37|z0|z1|z2|z3|z4|z5|z6|z7|z8|z9|z10|z11|z12|z13|z14|z15|z16|z17|z18|v0|v1|v2|v3=>k_is
  (case x0 => k_is); (case y0 => k_is); (case w0 => first|rfl|k_is)
  (case x1 => k_is); (case y1 => k_is); (case w1 => first|rfl|k_is)
  (case n1_0 => refine ⟨_, _, _, _, by k_is, by decide, ?_⟩; repeat (first|exact .nil|refine .cons ⟨_, rfl⟩ ?_))
  (case n1_1 => refine ⟨_, _, _, _, by k_is, by decide, ?_⟩; repeat (first|exact .nil|refine .cons ⟨_, rfl⟩ ?_))
  (case n1_2 => refine ⟨_, _, _, _, by k_is, by decide, ?_⟩; repeat (first|exact .nil|refine .cons ⟨_, rfl⟩ ?_))
  (case n1_3 => refine ⟨_, _, _, _, by k_is, by decide, ?_⟩; repeat (first|exact .nil|refine .cons ⟨_, rfl⟩ ?_))
  (case n1_4 => refine ⟨_, _, _, _, by k_is, by decide, ?_⟩; repeat (first|exact .nil|refine .cons ⟨_, rfl⟩ ?_))
  (case n1_5 => refine ⟨_, _, _, _, by k_is, by decide, ?_⟩; repeat (first|exact .nil|refine .cons ⟨_, rfl⟩ ?_))
  (case n1_6 => refine ⟨_, _, _, _, by k_is, by decide, ?_⟩; repeat (first|exact .nil|refine .cons ⟨_, rfl⟩ ?_))
  (case n1_7 => refine ⟨_, _, _, _, by k_is, by decide, ?_⟩; repeat (first|exact .nil|refine .cons ⟨_, rfl⟩ ?_))
  (case n1_8 => refine ⟨_, _, _, _, by k_is, by decide, ?_⟩; repeat (first|exact .nil|refine .cons ⟨_, rfl⟩ ?_))
  (case n1_9 => refine ⟨_, _, _, _, by k_is, by decide, ?_⟩; repeat (first|exact .nil|refine .cons ⟨_, rfl⟩ ?_))
  (case n1_10 => refine ⟨_, _, _, _, by k_is, by decide, ?_⟩; repeat (first|exact .nil|refine .cons ⟨_, rfl⟩ ?_))
  (case n1_11 => refine ⟨_, _, _, _, by k_is, by decide, ?_⟩; repeat (first|exact .nil|refine .cons ⟨_, rfl⟩ ?_))
  (case n1_12 => refine ⟨_, _, _, _, by k_is, by decide, ?_⟩; repeat (first|exact .nil|refine .cons ⟨_, rfl⟩ ?_))
  (case x2 => k_is); (case y2 => k_is); (case w2 => first|rfl|k_is)
  (case n2_0 => k_is)
  (case n2_1 => k_is)
  (case n2_2 => k_is)
  (case n2_3 => k_is)
  (case x3 => k_is); (case y3 => k_is); (case w3 => first|rfl|k_is)
  (case n3_0 => k_is)
  (case n3_1 => k_is)
  (case n3_2 => k_is)
  (case n3_3 => k_is)
  (case n3_4 => k_is)
  (case n3_5 => k_is)
  (case n3_6 => k_is)
  (case hxf => first|kernel_rfl|k_is)
