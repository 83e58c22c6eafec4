import PyProof.Rows.All
import Wide.All
import OpenK.AllK
import Wide.FinOn
import Lean
import PyProof.EqAt
import PyProof.EqKinds
import PyProof.TupleCall
import KE.KLam
import PySem.Challenge.RW_stairrooms_k70_whole_show_told_again
set_option Elab.async false
namespace PySem.W.Fast
def tw4208853614479791689:=0
def tw3420148174509624291:=0
def tw16163632591093844035:=0
def tw4380926443036816414:=0
def tw5426816638048678664:=0
def tw757948830483213822:=0
def tw897556049694929739:=0
def tw12652175548128746145:=0
def tw16398102544092031521:=0
def tw16386913830018001124:=0
def tw9478813727029378433:=0
def tw253724354142678732:=0
def tw18060356025533540190:=0
def tw11258306804293243132:=0
def tw11774656981024081848:=0
def tw4373642396805675364:=0
def tw14757225000569427560:=0
def tw16680486814083243770:=0
def tw16661892316655955262:=0
def tw5830895008884556760:=0
def tw317520914050522945:=0
def tw14424131277925039975:=0
def tw12604261892636925892:=0
def tw8325147438673079581:=0
def tw1324101839160434027:=0
def tw17260584022165661726:=0
def tw16040925991244642869:=0
def tw911810538002268367:=0
def tw5824247625822886979:=0
def tw17179734013377141832:=0
def tw667802956278000784:=0
def tw10760031201136348398:=0
def tw6492568839464336172:=0
def tw14309114003992510232:=0
def tw3634083293858476255:=0
def tw11040902395418374828:=0
def tw3809979766996421824:=0
def tw4221310431163856405:=0
def tw11855722608778128229:=0
def tw4552664393077241836:=0
def tw15415030129712708594:=0
def tw6592538181826838868:=0
def tw6460737211137875664:=0
def tw10166892954511498249:=0
def tw14702557882293241901:=0
def tw9002392303285804385:=0
def tw4918694162171632466:=0
def tw2118206036794627490:=0
def tw18228486841462369349:=0
def tw6361435309067004012:=0
def tw2988816611894080751:=0
def tw18202286969598045364:=0
def tw13679643304169797691:=0
def tw1901431897052156422:=0
def tw9779106197386186623:=0
def tw3501889831259424984:=0
def tw5440877638980047782:=0
def tw3608133595379548684:=0
def tw17364283921595539524:=0
def tw11296645311156999791:=0
def tw3015604971527890583:=0
def tw11544267442128300576:=0
def tw2122511160286549640:=0
def tw13959506387132580666:=0
def tw1311390456105013778:=0
def tw12310720753968129801:=0
def tw7387496920539170626:=0
def tw6239051749967209662:=0
def tw16178294753266878621:=0
def tw11029396596865941829:=0
def tw7091575474642696731:=0
def tw6034192224097964318:=0
def tw2801974123689400889:=0
def tw13261574445939288711:=0
def tw11833150644254248257:=0
def tw621812022307901172:=0
def tw3855638733940352994:=0
def tw10805502978675567416:=0
def tw4264358708234735246:=0
def tw3924725502804413793:=0
def tw14836224472968703893:=0
def tw12390782021942118942:=0
def tw11408623696531555632:=0
def tw8125729627420895708:=0
def tw3773624442522805073:=0
def tw3093781508513788219:=0
def tw11655376856063916228:=0
def tw9867131338692390694:=0
def tw447717403241242290:=0
def tw1536147683505774889:=0
def tw13600393200600852390:=0
def tw12664327836493813462:=0
def tw9028414481108622758:=0
def tw8562296191053873827:=0
def tw6406724726538629663:=0
def tw5670356516853789790:=0
def tw4688525537532491644:=0
def tw16967094079153205249:=0
def tw16176690743668362219:=0
def tw11971130579796114034:=0
def tw1057306937073154610:=0
def tw9834661911540460081:=0
def tw8385567426930851361:=0
def tw6584469308530667732:=0
def tw439055297870408345:=0
def tw3299272117925849540:=0
def tw2904058922640873309:=0
def tw17263339626445266389:=0
def tw16982485362242456822:=0
def tw16949064816178058999:=0
def tw1166579804314216963:=0
def tw10932722520931459696:=0
def tw992215161807817386:=0
def tw82748431570670151:=0
def tw6690677384477064843:=0
def tw4801039527111802282:=0
def tw1930558828605614237:=0
def tw18147453742554186446:=0
def tw17109937557647268800:=0
def tw17002439396945247550:=0
def tw15732654264858244716:=0
def tw14075074499185348901:=0
def tw13956058649364723422:=0
def tw1322433467843712534:=0
def tw12065540673060277790:=0
def tw10548826715568245312:=0
def tw10240230265299486439:=0
def tw8744267035563872481:=0
def tw7393957277229836691:=0
def tw689209177001064519:=0
def tw6878535200312667207:=0
def tw6619962110570900069:=0
def tw6403897618177400563:=0
def tw3437034172105787373:=0
def tw2308842233520690658:=0
def tw2168224380260717174:=0
def tw18133197322224867361:=0
def tw17405974757215459542:=0
def tw15968237232650601322:=0
def tw1516094112815808067:=0
def tw14832175709080873599:=0
def tw13894333538876106382:=0
def tw1358744676988583611:=0
def tw13580389790971816817:=0
def tw12289990805704456368:=0
def tw11872690636868124001:=0
def tw10576813361638309727:=0
def tw8863156965792605256:=0
def tw8576866337993464856:=0
def tw7202327286928840429:=0
def tw6463597329013779217:=0
def tw3319072228906548485:=0
def tw3121732170634265723:=0
def tw2762985067018713519:=0
def tw15801317192440724364:=0
def tw15699315692412800413:=0
def tw1565553194782554189:=0
def tw15269425654929456476:=0
def tw1059446635175154315:=0
def tw10154314827766144001:=0
def tw902582806634263858:=0
def tw705330452703051597:=0
def tw6620348973694338139:=0
def tw6588169051226274246:=0
def tw6093179522131556990:=0
def tw55107133691585252:=0
def tw4992925186480290751:=0
def tw4837878490209854375:=0
def tw4708572616275660465:=0
def tw4102359912796715673:=0
def tw3975676623463710300:=0
def tw3542057141095300096:=0
def tw3457502311278330140:=0
def tw1882481057627660943:=0
def tw1754243070517289278:=0
def tw16552895970294378026:=0
def tw16291823179772653766:=0
def tw15524740491475941218:=0
def tw15415129679944277146:=0
def tw14882510809304047780:=0
def tw1465564398378206461:=0
def tw13587954947775276195:=0
def tw12898871719091480922:=0
def tw10388815045332656835:=0
def tw8938549127931359579:=0
def tw8185630143887121337:=0
def tw8128315874942280492:=0
def tw6056548384089880543:=0
def tw18066811921283522515:=0
def tw17949153669898374660:=0
def tw16681148162138885154:=0
def tw16099248178681743328:=0
def tw16091142467832092619:=0
def tw15856698116174445793:=0
def tw14988306749868862141:=0
def tw14800109303040266240:=0
def tw1304240117979556626:=0
def tw12770933533733738652:=0
def tw11858878876565515630:=0
def tw11735653163353574974:=0
def tw11672800155852956706:=0
def tw11383850339681254435:=0
def tw10178320482404669705:=0
def tw10150324261921262226:=0
def tw9281662355237421915:=0
def tw9248597171148506525:=0
def tw7575712259109976473:=0
def tw7260967713776090138:=0
def tw6967400520518718212:=0
def tw6266016949813577251:=0
def tw5136782093820589260:=0
def tw477595423994022719:=0
def tw4746302684295054048:=0
def tw4248219703154640514:=0
def tw2648121624305032702:=0
def tw1898551579183717137:=0
def tw18416646843746589632:=0
def tw16080655234471338842:=0
def tw15582316898162467603:=0
def tw15414259988211055499:=0
def tw1539576199135281160:=0
def tw14785510111872020634:=0
def tw14560837491469231475:=0
def tw14221084762423404224:=0
def tw12170451868844119946:=0
def tw12124443520851957044:=0
def tw11469663846147530161:=0
def tw11382435949477896220:=0
def tw11137867353881252704:=0
def tw10500720501580190231:=0
def tw931510637493425866:=0
def tw8708482821940700748:=0
def tw8568187914498332850:=0
def tw8186763794367992775:=0
def tw7750769465160294860:=0
def tw7627118995241731642:=0
def tw7341270039093922885:=0
def tw7134983793405793177:=0
def tw7115244209674446852:=0
def tw6583481740336291847:=0
def tw6393150591798677637:=0
def tw6178244272827954729:=0
def tw6121026886529796221:=0
def tw5140171473248983199:=0
def tw4376635405753832992:=0
def tw4337561567144917162:=0
def tw3941131271490555836:=0
def tw3866599564448483793:=0
def tw3797301031838899788:=0
def tw3711315289400063114:=0
def tw3104486758596841148:=0
def tw1901317781093569649:=0
def tw18420665075302107787:=0
def tw18174231678347352628:=0
def tw18032779900021213040:=0
def tw17990003072128590093:=0
def tw17729564300890611173:=0
def tw17652695096001567504:=0
def tw17628590533929976792:=0
def tw17571631200592639834:=0
def tw17438179399263098937:=0
def tw17329969520162680104:=0
def tw17258839070269863901:=0
def tw17065142239566038489:=0
def tw16964212798373946863:=0
def tw16924412733494049589:=0
def tw16503717402094505217:=0
def tw16477329177891185698:=0
def tw16283258727396688951:=0
def tw16245695487900975421:=0
def tw16221219022901355867:=0
def tw15729792075999087868:=0
def tw15565656631415577005:=0
def tw15313973635310571597:=0
def tw15186367229040268510:=0
def tw15170883547044141151:=0
def tw1488474676173749703:=0
def tw14793259975867257014:=0
def tw14775263502782431712:=0
def tw14670137783204244808:=0
def tw14221475358252599964:=0
def tw14025392896863203041:=0
def tw13838018814042065490:=0
def tw13434078879106917863:=0
def tw13135487405686255751:=0
def tw12951820434879171755:=0
def tw12357872333080808881:=0
def tw11930047750849440119:=0
def tw11787554532782738252:=0
def tw11364142691922409913:=0
def tw11339562753883754242:=0
def tw11137535781475439334:=0
def tw10769681086646498438:=0
def tw1069010634818593453:=0
def tw1004593339420490729:=0
def tw999255627539997526:=0
def tw976709547398631384:=0
def tw974001917477778970:=0
def tw8247069255634196442:=0
def tw8201457069280204918:=0
def tw8035931760809384120:=0
def tw762384175361060421:=0
def tw7175792842613744815:=0
def tw7036346233635388438:=0
def tw684117499851941213:=0
def tw5425565988235752197:=0
def tw501385587569502014:=0
def tw4933930183700603765:=0
def tw3566807236516140644:=0
def tw3306689782225908076:=0
def tw3008007984704827758:=0
def tw2800321189394573348:=0
def tw18189657841938801392:=0
def tw18127141830633905074:=0
def tw17939888687896264705:=0
def tw17843839365795533554:=0
def tw178370783828623596:=0
def tw17235446214152045:=0
def tw16865412676593439493:=0
def tw1682181479755940848:=0
def tw16306601271817509428:=0
def tw16029895960380650870:=0
def tw15831574140416324556:=0
def tw15660991250957307376:=0
def tw14876317631354250296:=0
def tw14750251384015127882:=0
def tw14646051411932343840:=0
def tw1436422560964186160:=0
def tw13392218115919352882:=0
def tw12969595849073868859:=0
def tw11788803944947964044:=0
def tw9556445936838501458:=0
def tw9539095207651657643:=0
def tw9145153853609440834:=0
def tw8487562230406468105:=0
def tw7937346951877118417:=0
def tw7258929849126983957:=0
def tw6704578965310311189:=0
def tw6169767553621521813:=0
def tw6130821448147606368:=0
def tw5950158449063615346:=0
def tw5708804837514111757:=0
def tw4664008279301310266:=0
def tw2780415966309772251:=0
def tw2696157109874119690:=0
def tw17915051066750267265:=0
def tw1751447207448873119:=0
def tw17259577006381911698:=0
def tw1692235544166657602:=0
def tw16821967185522334815:=0
def tw16118308844857193260:=0
def tw15881911615934975264:=0
def tw14109453767193502313:=0
def tw1382559312744143635:=0
def tw12052897999499962743:=0
def tw10276969695076772373:=0
def tw10118012357411222232:=0
def tw10035081181641441020:=0
def tw9842035976387663078:=0
def tw9642658117253805749:=0
def tw9471332836791655:=0
def tw9308319285386913480:=0
def tw6617364818316592001:=0
def tw6520993039526896910:=0
def tw6089560412477784131:=0
def tw5608068228827378640:=0
def tw404968458719316295:=0
def tw3841998164913821987:=0
def tw3625882601150649006:=0
def tw1921160878016633958:=0
def tw1906729888136766467:=0
def tw18324572440802094995:=0
def tw18109355491918435820:=0
def tw17733047304165068773:=0
def tw167336832753583806:=0
def tw15676261240554180864:=0
def tw15444655221641699211:=0
def tw15227536787642769132:=0
def tw15197701262192620583:=0
def tw15073084007737812838:=0
def tw14931363111589739018:=0
def tw14585778381282314952:=0
def tw14318957944991924802:=0
def tw14292392306617517729:=0
def tw13634232280679192043:=0
def tw1348930903838789814:=0
def tw1333033107083303026:=0
def tw12261729195969336472:=0
def tw12141280797297536670:=0
def tw119775208399524090:=0
def tw11950575282948044451:=0
def tw10602856759635532317:=0
def tw1024123932853393264:=0
def tw10066667694815067579:=0
def tw9916047131747534395:=0
def tw9578026534446552097:=0
def tw9467629813166748578:=0
def tw940465597526089649:=0
def tw9337504207740955038:=0
def tw9085195453500331236:=0
def tw9004807901523433782:=0
def tw8835519533490355076:=0
def tw8783073200307453229:=0
def tw8677169583234457159:=0
def tw8539956084285006220:=0
def tw8530023553290701249:=0
def tw8521597775319928436:=0
def tw837507559583589549:=0
def tw8365684759685357752:=0
def tw8340926499216404060:=0
def tw8338600121835276020:=0
def tw8229460734390689525:=0
def tw8151795987920825625:=0
def tw8147721191793257292:=0
def tw8143298780573084396:=0
def tw8057538161448419100:=0
def tw8039774922555296384:=0
def tw800831887125934919:=0
def tw790865764145957086:=0
def tw7863108119856694670:=0
def tw7796508728722278515:=0
def tw7693350481814642131:=0
def tw7387049268277325576:=0
def tw7383744862196479187:=0
def tw720755081136891062:=0
def tw7176572640101177836:=0
def tw6919964502871595589:=0
def tw6690671887076279761:=0
def tw6658185936689682968:=0
def tw6008010531490865865:=0
def tw5956051100702781606:=0
def tw590611807225418770:=0
def tw5801790884207270852:=0
def tw5766181095882713430:=0
def tw5669588431854456260:=0
def tw5643517080389645038:=0
def tw5442971307982108685:=0
def tw5168400519034163868:=0
def tw4997450903056089975:=0
def tw4769826392853288355:=0
def tw4732811752034325442:=0
def tw4672492687276399408:=0
def tw4599613092869839139:=0
def tw4532786408525356839:=0
def tw4417070962139673907:=0
def tw4307926830116509514:=0
def tw4237640369940289380:=0
def tw4202673366249849491:=0
def tw4169430970946328830:=0
def tw4058686603036108463:=0
def tw3823650005643028596:=0
def tw3711776433476670718:=0
def tw3606794102148988539:=0
def tw3415376743198261602:=0
def tw3220723017206680370:=0
def tw3196363977017356276:=0
def tw3161077796674850459:=0
def tw3154977719449785152:=0
def tw3027349785267461129:=0
def tw2651210568008831048:=0
def tw2646939245297550942:=0
def tw2642144764089699081:=0
def tw2365589340776583484:=0
def tw2342838551658309370:=0
def tw2323472592885037881:=0
def tw2135739184021596844:=0
def tw2084367668108250050:=0
def tw2064118905727727203:=0
def tw1980078614172103820:=0
def tw18438895364323578133:=0
def tw18406689318668271181:=0
def tw18353754962900487674:=0
def tw18243320616058850534:=0
def tw18097320179759895155:=0
def tw17994301212061070119:=0
def tw17963879024589997906:=0
def tw17925923492730016652:=0
def tw17923257353744980054:=0
def tw17651429341429293936:=0
def tw17584191335013195612:=0
def tw17238752558760652402:=0
def tw17234483976792478675:=0
def tw17104333970416622323:=0
def tw16980547499210933930:=0
def tw16844485081735603738:=0
def tw16840622159041910090:=0
def tw16835956152608702361:=0
def tw16743919102785911483:=0
def tw16661212229125270991:=0
def tw16575673167688372683:=0
def tw16469943266984779137:=0
def tw16288524480538194225:=0
def tw16194716560986651551:=0
def tw16010564223820826558:=0
def tw1599608497217551579:=0
def tw15829181571673270705:=0
def tw15738021625795601203:=0
def tw15641575440650329080:=0
def tw15438610589593914328:=0
def tw15291515778787918541:=0
def tw15104015179872336855:=0
def tw14905269560852764671:=0
def tw14550693921475344484:=0
def tw14538086128319557123:=0
def tw14429984225472846677:=0
def tw14397947794671477899:=0
def tw14324394720252608761:=0
def tw13996213523464280658:=0
def tw13853986760110017063:=0
def tw13817142068744991791:=0
def tw13814131451427507189:=0
def tw13786455662358949411:=0
def tw13769731409856085057:=0
def tw13732165248360646341:=0
def tw1372833672288217791:=0
def tw13573848267779960677:=0
def tw13501672401922333513:=0
def tw13329179401031811672:=0
def tw13298203722689827917:=0
def tw13170554741523819223:=0
def tw13040376429104872777:=0
def tw12996499756298277263:=0
def tw12993445975515111361:=0
def tw1296409530997820298:=0
def tw12685479241261802335:=0
def tw12661369023874259431:=0
def tw12585790354688115527:=0
def tw12441502783428931068:=0
def tw12340981958623863397:=0
def tw12038977606169228428:=0
def tw11883736081812832149:=0
def tw11860059332995364445:=0
def tw11801650391622900179:=0
def tw11733558587685641503:=0
def tw11711933507911999672:=0
def tw11646202046503260017:=0
def tw11644868132232139897:=0
def tw1147197816589727344:=0
def tw11304072722765767021:=0
def tw11284571818005725494:=0
def tw11263300996269092271:=0
def tw1118635096375682459:=0
def tw11061817912359866892:=0
def tw10897373541712964772:=0
def tw10846541316933110243:=0
def tw10787819557663234410:=0
def tw10785498421680218836:=0
def tw10747110127714012418:=0
def tw1073818698688927204:=0
def tw10698238366409207256:=0
def tw10307936806763208701:=0
def tw10121643642846045468:=0
def tw10017577030591726147:=0
def tw9602979466950630956:=0
def tw912290570786946579:=0
def tw8777541643666118068:=0
def tw8722415481117505015:=0
def tw8572175281459272771:=0
def tw8444893750286939596:=0
def tw8282170167223215797:=0
def tw8125407811402774585:=0
def tw7956301941440062040:=0
def tw7552210041123771490:=0
def tw684210181549580303:=0
def tw6744984778823417519:=0
def tw6340304130596135008:=0
def tw6158425238486604569:=0
def tw5920227957080817638:=0
def tw5861546300858528307:=0
def tw5533809914848052129:=0
def tw5096499008420852698:=0
def tw4939278323791658419:=0
def tw4138905410403352593:=0
def tw4088347019790499076:=0
def tw397431815971221653:=0
def tw3830783680494933951:=0
def tw3816595399192403062:=0
def tw3612554134655720397:=0
def tw3489630239825696145:=0
def tw343839832772155065:=0
def tw3410111710019587186:=0
def tw2904033067149887106:=0
def tw2470030994460905622:=0
def tw2217001567337907910:=0
def tw2093290091728733057:=0
def tw18334927389422029420:=0
def tw18159918767601648018:=0
def tw17831088686795452451:=0
def tw17795394019121955329:=0
def tw17716863462265859512:=0
def tw17694846207451314135:=0
def tw17581992280946622230:=0
def tw17423125552162021742:=0
def tw17405045028177135956:=0
def tw17316194541674470379:=0
def tw17186049221098573887:=0
def tw1703860651114587486:=0
def tw17018876735161736770:=0
def tw16669810761675009345:=0
def tw16219145617115034907:=0
def tw15860708213811878519:=0
def tw15769360928889565510:=0
def tw15659586693977764946:=0
def tw1488503510874697304:=0
def tw14849095896601040367:=0
def tw14598121482242819015:=0
def tw14566858309784005721:=0
def tw1443262904182790944:=0
def tw14415884991196681418:=0
def tw13921919005729749812:=0
def tw13809386149585982481:=0
def tw13746588304753895505:=0
def tw1283506980011859969:=0
def tw1218770742548784908:=0
def tw11583934061965207798:=0
def tw11344577156118076396:=0
def tw11282886037220131173:=0
def tw11166862733661299840:=0
def tw10143209758796899180:=0
def tw10063842601507977493:=0
def tw9936902662144560194:=0
def tw9930359092145622687:=0
def tw9892624805917520583:=0
def tw9802983821206752271:=0
def tw9623524494010043433:=0
def tw959215790333943517:=0
def tw9591621326534694922:=0
def tw9590536906216307355:=0
def tw9583254098639418403:=0
def tw9456409991113330330:=0
def tw9404376500200941770:=0
def tw92919152876705750:=0
def tw9119751986894142981:=0
def tw8755266905418455375:=0
def tw8612541938085228305:=0
def tw8604979696160575008:=0
def tw8462929888207567711:=0
def tw8377945894465552080:=0
def tw8089249423132065445:=0
def tw8047032804361144261:=0
def tw8037652997034423971:=0
def tw7980446502605500991:=0
def tw7904445426397662059:=0
def tw7897135418779063302:=0
def tw7875707854763748492:=0
def tw7848866751621661257:=0
def tw7720199258136328419:=0
def tw7693860341393672654:=0
def tw7687211529486759510:=0
def tw7620779201999659187:=0
def tw7616961570073629773:=0
def tw7574902415414485744:=0
def tw7476190041661452162:=0
def tw7316228966491291649:=0
def tw7310920118516755766:=0
def tw7259079589770855615:=0
def tw7240639191980452486:=0
def tw7239762555138251476:=0
def tw7174068339476759842:=0
def tw7074213860272172147:=0
def tw7072709004142627037:=0
def tw7066129841112748787:=0
def tw698542696526539648:=0
def tw6976374140160972476:=0
def tw6942357351460751399:=0
def tw6862412981468502264:=0
def tw6787905781562076304:=0
def tw6743822951217308217:=0
def tw6680830925899447215:=0
def tw6502013626171302762:=0
def tw6429728187070590260:=0
def tw6394967358973809932:=0
def tw6329672369177362234:=0
def tw6181847661251503008:=0
def tw6112935292994349818:=0
def tw5994711959094706394:=0
def tw5821001088122574322:=0
def tw5819105399919881484:=0
def tw5725444066816760673:=0
def tw5717963241065829162:=0
def tw5689819888249312427:=0
def tw5628952712892413060:=0
def tw5612490812926955764:=0
def tw5581984692328104656:=0
def tw5581349078452510653:=0
def tw5430882940802126740:=0
def tw5350998768358884751:=0
def tw5295854211047901153:=0
def tw5215882272569172211:=0
def tw5213485622955226937:=0
def tw512557566824241540:=0
def tw5102186755607942603:=0
def tw5060445219760521703:=0
def tw5051596291613938045:=0
def tw5019332986140449700:=0
def tw5010354932100547165:=0
def tw4930073243635710979:=0
def tw4855646995411632120:=0
def tw4841996503232482665:=0
def tw4721787911493776067:=0
def tw4566636315000093172:=0
def tw4540096454399951189:=0
def tw4396202689630218944:=0
def tw4355615645706949100:=0
def tw4256779784062091372:=0
def tw4116505084229542129:=0
def tw4090099033456441411:=0
def tw405987165440772289:=0
def tw3855077825024126993:=0
def tw3760063030202703356:=0
def tw3725507860900426652:=0
def tw3624387153200950280:=0
def tw3497212847013558094:=0
def tw3465091326942903629:=0
def tw3427924564325372817:=0
def tw3268437569422444630:=0
def tw3258786278723069861:=0
def tw3255010964159781038:=0
def tw3182821167057557991:=0
def tw3096949930750721708:=0
def tw3017139974649574989:=0
def tw2980206271122236284:=0
def tw2973379562459248654:=0
def tw2892474909125967260:=0
def tw2792723481025802335:=0
def tw2773274263299585572:=0
def tw2520694231678862498:=0
def tw2448602276733661166:=0
def tw2433480451663381876:=0
def tw2391854224791940314:=0
def tw2355404199824840798:=0
def tw2313535712752964479:=0
def tw2290825904406445385:=0
def tw2264417401548668637:=0
def tw2248526150547823735:=0
def tw2212462317411977730:=0
def tw2187499721780371684:=0
def tw2110420063795541324:=0
def tw2045930578084102194:=0
def tw2027406687892281398:=0
def tw1994766901024307645:=0
def tw1963361818967390675:=0
def tw1923656493189036919:=0
def tw1875788394568091543:=0
def tw18341061495759717185:=0
def tw1818218476948158209:=0
def tw18038851775406917655:=0
def tw18027970315504703877:=0
def tw17908656721387608039:=0
def tw17887424493272649068:=0
def tw17843169823834903998:=0
def tw17744632191838401134:=0
def tw17723765623042550390:=0
def tw176977295656723065:=0
def tw17690871460500525271:=0
def tw17645572048654386869:=0
def tw17644514534155135092:=0
def tw17415715754555401154:=0
def tw17389396115470475288:=0
def tw17375602352810135561:=0
def tw17357414001117552268:=0
def tw17218974888202052536:=0
def tw17051166181914805469:=0
def tw16988158499489311127:=0
def tw16969296292759627995:=0
def tw1691102865124860179:=0
def tw16855797853226630161:=0
def tw16826725409987885975:=0
def tw16801269517542960672:=0
def tw16761591470956491853:=0
def tw16702496124019576060:=0
def tw16632375998614247822:=0
def tw16526325248041854055:=0
def tw16507177298177948937:=0
def tw16408023001231065620:=0
def tw1629198167979442983:=0
def tw16291882091215157828:=0
def tw16235577574615639896:=0
def tw16204094875209007955:=0
def tw15853727897521883275:=0
def tw15834326765199268030:=0
def tw15786528573266890262:=0
def tw15684333381371067565:=0
def tw156604256827902990:=0
def tw15641155157065175805:=0
def tw15615506901333172577:=0
def tw15593639298716513902:=0
def tw15368797641703779891:=0
def tw15319796435752655959:=0
def tw15268917627751355144:=0
def tw15266785391687444539:=0
def tw15250516977012177893:=0
def tw1523954634173995102:=0
def tw15079235818583598491:=0
def tw15003257448840769609:=0
def tw14999770152523916156:=0
def tw14977234088687162302:=0
def tw1492062709326496596:=0
def tw14736829792906978706:=0
def tw14650229311272632197:=0
def tw1462485287220791352:=0
def tw1460478622569836974:=0
def tw14526562022302103730:=0
def tw14451425568386719407:=0
def tw14330286943426774435:=0
def tw14322595565739780087:=0
def tw14321144422957734134:=0
def tw14316703349718095352:=0
def tw1428814744893504695:=0
def tw14221021371670925377:=0
def tw13888251672469135178:=0
def tw13847991401066540787:=0
def tw13841191037290658594:=0
def tw13820470126673855253:=0
def tw13788262537284159298:=0
def tw13611136168108132581:=0
def tw13385619842731796546:=0
def tw13377348862722427871:=0
def tw13185835248587936794:=0
def tw13140385074510843379:=0
def tw13055914441102849027:=0
def tw13021086612755893400:=0
def tw12992001612654045271:=0
def tw12878273097781070547:=0
def tw12865433501954476891:=0
def tw12840604464936152123:=0
def tw12820798865115190907:=0
def tw12801111013253028214:=0
def tw12725217407329787103:=0
def tw12685030140052518048:=0
def tw12679859039530741841:=0
def tw12650994420537281789:=0
def tw12626095124700806591:=0
def tw12296552071639831032:=0
def tw12150866365501820893:=0
def tw12078363514133923244:=0
def tw11985937269989024962:=0
def tw11892039915525360660:=0
def tw11846370373574997029:=0
def tw11701492411309977178:=0
def tw11687504721054253588:=0
def tw11665305186481523908:=0
def tw11612187849094769778:=0
def tw11609425286787412919:=0
def tw11605670760853518920:=0
def tw11599022089905024566:=0
def tw11365700717142005424:=0
def tw11362101791794971524:=0
def tw11196368748255784950:=0
def tw11083616581157620123:=0
def tw11030641428109492703:=0
def tw10902710062712846231:=0
def tw10866342542880356408:=0
def tw10607476577711411036:=0
def tw10424792985553544811:=0
def tw1031021603403437821:=0
def tw10275949009854564666:=0
def tw10263077061500514125:=0
def tw10241033358962818077:=0
def tw10095913671755900038:=0
def tw10053539800044614232:=0
def tw10044013261082468525:=0
end PySem.W.Fast
section
open PySem PySem.W PyProof.Rows
set_option maxRecDepth 100000 in
set_option maxHeartbeats 0 in
open_top My.top for PySem.Challenge.rw_stairrooms_k70_whole_show_told_again
end
set_option linter.all false
set_option maxRecDepth 100000
set_option maxHeartbeats 4000000
open PySem renaming Value->Va,Addr->Vb,Shared->Vc,Program->Vd,World->Ve,wpAny->Vf,model->Vg,Heap->Vh,Around->Vi,mainGlobals->Vj,Expr->Vk,Stmt->Vl,FuncData->Vm,Str->Vn
open Option renaming some->Vo,none->Vp
open PySem renaming wpAny_bind->ze,wpAny_pure->zf,wpAny_setState_of->Ad,wpAny_callSpecial?_slot->Ae
open PySem.W renaming Frag->zg
open PySem.Heap renaming get?_push_of_some->zh,get?_push_size->zi,lt_size->zj
open List renaming length_map->zk,getElem?_eq_getElem->zl,getElem?_map->zm,mem_cons_of_mem->zo,size_toArray->zq,mem_cons_self->zr,getElem?_eq_some_iff->zu,mem_of_getElem?->zv,mem_singleton->zw,mem_cons->zA,map_append->zC,length_append->zD,mem_append->zI,getElem?_append_right->zJ,getElem?_append_left->zK,getElem_mem->zL,length_cons->zM,take_length->zN,not_mem_nil->zQ,all_eq_true->zR,mem_append_right->zW,mem_append_left->zX,replicate->zY,lookup_cons->Ab,length_take->Ac,range->Af
open Array renaming length_toList->zp
open PySem.F renaming plainAttrs_list->zt,slot_list_append->zG,type_list_append->zH
open Option renaming map_eq_some_iff->zx
open Int renaming toNat_natCast->zy
open Bool renaming false_ne_true->zB,eq_iff_iff->zS,and_eq_true->zT,false_eq_true->zZ
open Nat renaming ne_of_lt->zE,le_refl->zF,lt_of_lt_of_le->zO,le_trans->zP,lt_or_ge->Aa
open PySem.Str renaming ofString->zU
open Option.some renaming inj->zV
abbrev Ag:=@decide_eq_false
abbrev Ah:=@decide_eq_true
abbrev Ai:=@if_neg
abbrev Aj:=@if_pos
noncomputable section
namespace L2
open PySem PySem.Spec PyProof.Rows
abbrev Key:=Sum Int Vn
def fY:Key->Va->Bool
 | .inl k,v=>Value.isInt k v
 | .inr x,v=>Value.isStrOf x v
def tE(w:Ve):Key->Int
 | .inl k=>hashInt k
 | .inr x=>hashStr w x
def dW:∀{k:Key} {v:Va},fY k v=true->(∃i t,k=Sum.inl i/\v=Value.int i t)\/(∃x t,k=Sum.inr x/\v=Value.str x t)
 | .inl i,v,h=>by obtain⟨t,e⟩:=Value.isInt_shape (k:=i) (v:=v) h;exact .inl ⟨i,t,rfl,e⟩
 | .inr x,v,h=>by obtain⟨t,e⟩:=Value.isStrOf_shape (x:=x) (v:=v) h;exact .inr ⟨x,t,rfl,e⟩
def uF(i:Int)(t:Tok):fY (.inl i) (.int i t)=true:=by simp[fY,Value.isInt]
def wX(x:Vn)(t:Tok):fY (.inr x) (.str x t)=true:=by simp[fY,Value.isStrOf]
def vx(a b:Int):decide ((Sum.inl a:Key)=Sum.inl b)=(a == b):=by
 by_cases e:a=b
 .subst e;simp
 .have h:¬(Sum.inl a:Key)=Sum.inl b:=λq=>e (Sum.inl.inj q);rw[Ag h];exact(beq_eq_false_iff_ne.mpr e).symm
def uW(a b:Vn):decide ((Sum.inr a:Key)=Sum.inr b)=decide (a=b):=by
 by_cases e:a=b
 .subst e;simp
 .have h:¬(Sum.inr a:Key)=Sum.inr b:=λq=>e (Sum.inr.inj q);rw[Ag h,Ag e]
def yb(a:Int)(b:Vn):decide ((Sum.inl a:Key)=Sum.inr b)=false:=Ag (λq=>nomatch q)
def yJ(a:Vn)(b:Int):decide ((Sum.inr a:Key)=Sum.inl b)=false:=Ag (λq=>nomatch q)
def cS(prog:Vd)(w:Ve):PySem.KeyKind prog w Key where
 is:=fY
 hash:=tE w
 inj:=λv a b g f=>by
  rcases dW g with⟨i,t,rfl,rfl⟩|⟨x,t,rfl,rfl⟩
  .rcases dW f with⟨j,u,rfl,e⟩|⟨y,u,rfl,e⟩
   .injection e with c _;rw[c]
   .exact nomatch e
  .rcases dW f with⟨j,u,rfl,e⟩|⟨y,u,rfl,e⟩
   .exact nomatch e
   .injection e with c _;rw[c]
 byValue:=λk v h=>by rcases dW h with⟨i,t,rfl,rfl⟩|⟨x,t,rfl,rfl⟩<;>rfl
 pyHash:=λd h=>by
  rcases dW d with⟨i,t,rfl,rfl⟩|⟨x,t,rfl,rfl⟩
  .exact wpAny_pyHash_int h
  .exact wpAny_pyHash_str h
 eqBool:=λl d h=>by
  rcases dW l with⟨i,t,rfl,rfl⟩|⟨x,t,rfl,rfl⟩
  .rcases dW d with⟨j,u,rfl,rfl⟩|⟨y,u,rfl,rfl⟩
   .rw[vx]at h;exact wpAny_eqBool_int h
   .rw[yb]at h;exact SeqAt.EqAt.int_str i t y u _ _ _ _ h
  .rcases dW d with⟨j,u,rfl,rfl⟩|⟨y,u,rfl,rfl⟩
   .rw[yJ]at h;exact SeqAt.EqAt.str_int x t j u _ _ _ _ h
   .rw[uW]at h;exact wpAny_eqBool_str h
 «strs»:=λk x t v h=>by
  rcases dW h with⟨i,u,rfl,e⟩|⟨y,u,rfl,e⟩
  .exact nomatch e
  .injection e with c _
   subst c;cases v<;>rfl
def xZ(prog:Vd)(w:Ve)(i:Int)(t:Tok):(cS prog w).is (.inl i) (.int i t)=true:=uF i t
def lj(prog:Vd)(w:Ve)(x:Vn)(t:Tok):(cS prog w).is (.inr x) (.str x t)=true:=wX x t
inductive V where
 | non|bl (b:Bool)|int (i:Int)|str (x:Vn)|byt (b:Array UInt8)|flt (b:UInt64)|ref (a:Vb)|ty (n:String)
 deriving DecidableEq
def RelV:V->Va->Prop
 | .non,u=>u=Value.none
 | .bl b,u=>u=Value.bool b
 | .int i,u=>∃t,u=Value.int i t
 | .str x,u=>∃t,u=Value.str x t
 | .byt b,u=>∃t,u=Value.bytes b t
 | .flt b,u=>∃t,u=Value.float b t
 | .ref a,u=>u=Value.ref a
 | .ty n,u=>u=Value.type n
abbrev Vals:List V->List Va->Prop:=Paired RelV
theorem Vals.length{xs:List V}{us:List Va}(r:Vals xs us):xs.length=us.length:=Paired.length r
theorem Vals.get:∀{xs:List V} {us:List Va} {i:Nat} {x:V},Vals xs us->xs[i]?=Vo x->∃u,us[i]?=Vo u/\RelV x u
 | _,_,_,_,.nil,e=>by simp at e
 | _,_,0,_,.cons r _,e=>by simp at e;subst e;exact⟨_,rfl,r⟩
 | _,_,i+1,x,.cons _ t,e=>by obtain⟨u,h1,h2⟩:=Vals.get (i:=i) (x:=x) t (by simpa using e);exact⟨u,by simpa using h1,h2⟩
theorem Vals.append:∀{xs ys:List V} {us ws:List Va},Vals xs us->Vals ys ws->Vals (xs++ys) (us++ws)
 | _,_,_,_,.nil,s=>s
 | _,_,_,_,.cons r t,s=>.cons r (Vals.append t s)
theorem Vals.take:∀{xs:List V} {us:List Va} (n:Nat),Vals xs us->Vals (xs.take n) (us.take n)
 | _,_,0,_=>.nil
 | _,_,_+1,.nil=>.nil
 | _,_,n+1,.cons r t=>.cons r (Vals.take n t)
theorem Vals.drop:∀{xs:List V} {us:List Va} (n:Nat),Vals xs us->Vals (xs.drop n) (us.drop n)
 | _,_,0,r=>r
 | _,_,_+1,.nil=>.nil
 | _,_,n+1,.cons _ t=>Vals.drop n t
def cH:Option V->Option Va->Prop
 | some v,Vo u=>RelV v u
 | none,Vp=>True
 | _,_=>False
def KV{κ:Type}:List (κ×V)->List (κ×Va)->Prop:=Paired λ(p:κ×V) (q:κ×Va)=>p.1=q.1/\RelV p.2 q.2
def kV:Key->V
 | .inl i=>.int i
 | .inr x=>.str x
inductive HO where
 | lst (xs:List V)
 | tup (xs:List V)
 | dK (kvs:List (Key×V))|dT (kvs:List (List Key×V))
 | set (S:Int->Bool) (n:Nat)
 | ins (C dx:Vb) (fs:List (Vn×V))
 | own (x:Vb)
 | xd (fs:List (Vn×V))
 | met (f x:Vb)
 | rng (lo hi:Int)
 | frz (o:Obj) (u:HO)
 | tbl (ps:Array Va)
 | ext (φ:Vh->Prop)
abbrev Hp:=Vb->Option HO
def upd(H:Hp)(a:Vb)(o:HO):Hp:=λb=>if b=a then Vo o else H b
def aM{H:Hp}{a:Vb}{o:HO}:upd H a o a=Vo o:=by unfold upd;rw[Aj rfl]
def au{H:Hp}{a b:Vb}{o:HO}(h:b≠a):upd H a o b=H b:=by unfold upd;rw[Ai h]
def bw{H:Hp}{a b:Vb}{o u:HO}(h:H a=Vo o)(h':H b=Vo u)(d:o≠u):a≠b:=by intro e;subst e;rw[h]at h';exact d (zV h')
def bt{H:Hp}{a b:Vb}{o:HO}(h:H a=Vo o)(h':H b=Vp):a≠b:=by intro e;subst e;rw[h]at h';cases h'
section
variable (P:Vd) (w:Ve)
def bH(H:Hp)(h:Vh)(a:Vb):HO->Prop
 | .lst xs=>xs.length<=sizeLine/\∃(b:List Va) (n:Nat),Vals xs b/\h.get? a=Vo { cls:=.type "list",data:=.seq b.toArray n }
 | .tup xs=>xs.length<=sizeLine/\∃b:List Va,Vals xs b/\IsTup h a b.toArray
 | .dK kvs=>kvs.length<=sizeLine/\(a == sysModules)=false/\∃vs,KV kvs vs/\h.DictOf (cS P w) a vs
 | .dT kvs=>kvs.length<=sizeLine/\(a == sysModules)=false/\∃xs:List (List Key×Vb×Va),
   Paired (λ(p:List Key×V) (q:List Key×Vb×Va)=>p.1=q.1/\H q.2.1=Vo (.tup (p.1.map kV))/\RelV p.2 q.2.2) kvs xs ∧
   ∃o es ep,h.get? a=Vo o/\o.ExactDict/\o.data=.dict es ep/\es.toList=xs.map (entryOfKey (tupleKind (cS P w)))/\(xs.map (·.1)).Nodup
 | .set S n=>h.SetOf (intKind P w) a S n
 | .ins C dx fs=>H dx=Vo (.own a)/\fs.length<=1000/\dx≠a/\h.get? a=Vo (PySem.W.instObj C dx) ∧
   ∃mA,h.Ns1 dx mA/\(∀f,cH (fs.lookup f) (mA f))/\PySem.Within mA (fs.map (·.1))
 | .own _=>∃o,h.get? a=Vo o
 | .xd fs=>∃mA,h.Ns1 a mA/\∀f,cH (fs.lookup f) (mA f)
 | .rng lo hi=>∃t u v,h.get? a=Vo { cls:=.type "range",data:=.fields #[.int lo t,.int hi u,.int 1 v] }
 | .frz o u=>h.get? a=Vo o/\bH H h a u
 | .tbl ps=>h.get? a=Vo { cls:=.none,data:=.fields ps }
 | .met f x=>h.get? a=Vo (PySem.W.methodObj (.ref f) (.ref x))
 | .ext φ=>φ h/\(∃o,h.get? a=Vo o)/\∀h1 h2:Vh,φ h1->(∀o,h1.get? a=Vo o->h2.get? a=Vo o)->φ h2
def bq(H:Hp)(h:Vh):Prop:=∀a o,H a=Vo o->bH P w H h a o
end
section
variable {P:Vd} {w:Ve} {H H':Hp} {h h':Vh} {a:Vb} {o:HO}
theorem bH.lt(x:bH P w H h a o):a<h.objs.size:=by
 cases o with
 | lst xs=>obtain⟨_,_,_,_,e⟩:=x;exact zj e
 | tup xs=>obtain⟨_,_,_,p⟩:=x;exact p.lt
 | dK kvs=>obtain⟨_,_,_,_,o,_,_,e,_⟩:=x;exact zj e
 | dT kvs=>obtain⟨_,_,_,_,o,_,_,e,_⟩:=x;exact zj e
 | set S n=>obtain⟨o,_,_,_,e,_⟩:=x;exact zj e
 | ins C dx fs=>obtain⟨_,_,_,e,_⟩:=x;exact zj e
 | own y=>obtain⟨_,e⟩:=x;exact zj e
 | xd fs=>obtain⟨_,⟨_,_,_,e,_⟩,_⟩:=x;exact zj e
 | rng lo hi=>obtain⟨_,_,_,e⟩:=x;exact zj e
 | frz ob u=>obtain⟨e,_⟩:=x;exact zj e
 | tbl ps=>exact zj (show h.get? a=Vo _ from x)
 | met f y=>exact zj (show h.get? a=Vo _ from x)
 | ext φ=>obtain⟨_,⟨_,e⟩,_⟩:=x;exact zj e
theorem Paired.mapP{α β:Type}{F G:α->β->Prop}:∀{l₁:List α} {l₂:List β},Paired F l₁ l₂->(∀a b,F a b->G a b)->Paired G l₁ l₂
 | _,_,.nil,_=>.nil
 | _,_,.cons r t,f=>.cons (f _ _ r) (Paired.mapP t f)
def bH.stay(x:bH P w H h a o)(k:∀b u,(b=a\/H b=Vo (.own a))->h.get? b=Vo u->h'.get? b=Vo u)
  (i:∀b,H b=Vo (.own a)->H' b=Vo (.own a)) (j:∀b xs,H b=Vo (.tup xs)->H' b=Vo (.tup xs)):bH P w H' h' a o:=by
 induction o with
 | lst xs=>obtain⟨z,g,n,r,e⟩:=x;exact⟨z,g,n,r,k _ _ (.inl rfl) e⟩
 | tup xs=>obtain⟨z,g,r,ob,e,c⟩:=x;exact⟨z,g,r,ob,k _ _ (.inl rfl) e,c⟩
 | dK kvs=>obtain⟨z,y,vs,r,ob,es,ep,e,c⟩:=x;exact⟨z,y,vs,r,ob,es,ep,k _ _ (.inl rfl) e,c⟩
 | dT kvs=>
  obtain⟨z,y,xs,r,ob,es,ep,e,c⟩:=x;exact⟨z,y,xs,Paired.mapP r λp q z=>⟨z.1,j _ _ z.2.1,z.2.2⟩,ob,es,ep,k _ _ (.inl rfl) e,c⟩
 | set S n=>obtain⟨ob,es,ep,t,e,c⟩:=x;exact⟨ob,es,ep,t,k _ _ (.inl rfl) e,c⟩
 | ins C dx fs=>
  obtain⟨d,z,ne,e,mA,⟨od,es,ep,l,c⟩,r⟩:=x;exact⟨i _ d,z,ne,k _ _ (.inl rfl) e,mA,⟨od,es,ep,k _ _ (.inr d) l,c⟩,r⟩
 | own y=>obtain⟨ob,e⟩:=x;exact⟨ob,k _ _ (.inl rfl) e⟩
 | xd fs=>obtain⟨mA,⟨od,es,ep,e,c⟩,r⟩:=x;exact⟨mA,⟨od,es,ep,k _ _ (.inl rfl) e,c⟩,r⟩
 | rng lo hi=>obtain⟨t,u,v,e⟩:=x;exact⟨t,u,v,k _ _ (.inl rfl) e⟩
 | frz ob u m=>obtain⟨e,q⟩:=x;exact⟨k _ _ (.inl rfl) e,m q⟩
 | tbl ps=>
  have e:h.get? a=Vo { cls:=.none,data:=.fields ps }:=x;show h'.get? a=Vo { cls:=.none,data:=.fields ps };exact k a _ (.inl rfl) e
 | met f y=>
  have e:h.get? a=Vo (PySem.W.methodObj (.ref f) (.ref y)):=x;show h'.get? a=Vo (PySem.W.methodObj (.ref f) (.ref y));exact k a _ (.inl rfl) e
 | ext φ=>obtain⟨p,⟨o,e⟩,st⟩:=x;exact⟨st _ _ p λo q=>k _ _ (.inl rfl) q,⟨o,k _ _ (.inl rfl) e⟩,st⟩
theorem bq.lt(x:bq P w H h)(e:H a=Vo o):a<h.objs.size:=(x a o e).lt
def bq.fresh(x:bq P w H h)(e:h.objs.size<=a):H a=Vp:=by
 cases q:H a with
 | none=>rfl
 | some u=>exact absurd (zO (x.lt q) e) (Nat.lt_irrefl _)
def bq.kept(x:bq P w H h)(k:∀b u,h.get? b=Vo u->h'.get? b=Vo u):bq P w H h':=λa o e=>
 (x a o e).stay (λb u _ q=>k b u q) (λ_ q=>q) λ_ _ q=>q
def bq.laid(x:bq P w H h)(k:∀b u,h.get? b=Vo u->h'.get? b=Vo u)(g:h.objs.size<=a)(new:bH P w (upd H a o) h' a o):bq P w (upd H a o) h':=λb u e=>by
 have d:=x.fresh g;by_cases f:b=a
 .subst f;rw[aM]at e;cases e;exact new
 .rw[au f]at e;exact(x b u e).stay (λc v _ q=>k c v q) (λc q=>by rw[au (bt q d)];exact q) λc xs q=>by rw[au (bt q d)];exact q
end
def Rd(H:Hp)(a:Vb)(u:HO):Prop:=H a=Vo u\/∃o,H a=Vo (.frz o u)
def Rd.ok{P:Vd}{w:Ve}{H:Hp}{h:Vh}{a:Vb}{u:HO}(r:Rd H a u)(x:bq P w H h):bH P w H h a u:=by
 rcases r with r|⟨o,r⟩
 .exact x a u r
 .obtain⟨_,q⟩:=x a _ r;exact q
def iz:Option HO->Prop
 | some (.lst _)=>True
 | some (.dK _)=>True
 | some (.dT _)=>True
 | some (.set _ _)=>True
 | some (.ins _ _ _)=>True
 | some (.ext _)=>True
 | _=>False
section
variable {P:Vd} {w:Ve} {H:Hp} {h h':Vh} {x e:Vb} {o':HO}
def bq.write(ok:bq P w H h)(d:iz (H x))(j:e=x\/H e=Vo (.own x))(k:∀b u,b≠e->h.get? b=Vo u->h'.get? b=Vo u)(i:∃u,h'.get? e=Vo u)
  (new:bH P w (upd H x o') h' x o'):bq P w (upd H x o') h':=λb u q=>by
 have nown:∀c y,H c=Vo (.own y)->c≠x:=λc y r z=>by subst z;rw[r]at d;exact d
 have ntup:∀c xs,H c=Vo (.tup xs)->c≠x:=λc xs r z=>by subst z;rw[r]at d;exact d
 by_cases f:b=x
 .subst f;rw[aM]at q;cases q;exact new
 .rw[au f]at q;by_cases a:b=e
  .have l:H b=Vo (.own x):=by
    rcases j with z|z
    .exact absurd (a.trans z) f
    .rw[a];exact z
   rw[q]at l;cases l;obtain⟨v,m⟩:=i;exact⟨v,by rw[a];exact m⟩
  .refine(ok b u q).stay (λc v g r=>k c v ?_ r) (λc r=>by rw[au (nown c b r)];exact r) λc xs r=>by rw[au (ntup c xs r)];exact r
   rcases g with rfl|g
   .exact a
   .rintro rfl;rcases j with z|z
    .exact nown c b g z
    .rw[g]at z;cases z;exact f rfl
end
structure Un(fs ex:List Vb)(H H':Hp)(h h':Vh):Prop where
 keep:∀b o,h.get? b=Vo o->H b=Vp->b∉fs->b∉ex->h'.get? b=Vo o
 slot:∀b o,h.get? b=Vo o->H b=Vp->b∈fs->b∉ex->∃sl,h'.get? b=Vo { o with slots:=sl }
 free:∀b o,h.get? b=Vo o->H b=Vp->b∉ex->H' b=Vp
 there:∀b o,h.get? b=Vo o->b∉ex->∃o',h'.get? b=Vo o'
 tups:∀b xs,H b=Vo (.tup xs)->H' b=Vo (.tup xs)
 frzs:∀b o u,H b=Vo (.frz o u)->H' b=Vo (.frz o u)
 tbls:∀b ps,H b=Vo (.tbl ps)->∃more,H' b=Vo (.tbl (ps++more))
section
variable {fs fs' ex ex':List Vb} {H H1 H2:Hp} {h h1 h2 h':Vh} {a x e:Vb} {o:HO}
def Un.any(u:Un fs ex H H1 h h1){b:Vb}{ob:Obj}(q:h.get? b=Vo ob)(n:H b=Vp)(a:b∉ex):∃sl,h1.get? b=Vo { ob with slots:=sl }:=by
 by_cases c:b∈fs
 .exact u.slot b ob q n c a
 .exact⟨ob.slots,u.keep b ob q n c a⟩
def Un.kept(k:∀b u,h.get? b=Vo u->h'.get? b=Vo u):Un fs ex H H h h':=
 ⟨λb ob q _ _ _=>k b ob q,λb ob q _ _ _=>⟨ob.slots,k b ob q⟩,λ_ _ _ n _=>n,λb ob q _=>⟨ob,k b ob q⟩,λ_ _ q=>q,λ_ _ _ q=>q,λ_ ps q=>⟨#[],by rw[q];simp⟩⟩
def Un.refl:Un fs ex H H h h:=Un.kept λ_ _ q=>q
def Un.laid(k:∀b u,h.get? b=Vo u->h'.get? b=Vo u)(d:h.objs.size<=a)(c:H a=Vp):Un fs ex H (upd H a o) h h' where
 keep:=λb u q _ _ _=>k b u q
 slot:=λb u q _ _ _=>⟨u.slots,k b u q⟩
 free:=λb u q n _=>by rw[au (zE (zO (zj q) d))];exact n
 there:=λb u q _=>⟨u,k b u q⟩
 tups:=λb xs q=>by rw[au (bt q c)];exact q
 frzs:=λb u xs q=>by rw[au (bt q c)];exact q
 tbls:=λb ps q=>⟨#[],by rw[au (bt q c),q];simp⟩
def Un.write(c:iz (H x))(j:e=x\/H e=Vo (.own x))(k:∀b u,b≠e->h.get? b=Vo u->h'.get? b=Vo u)(d:∃u,h'.get? e=Vo u):Un fs ex H (upd H x o) h h':=by
 have g:∀b,H b=Vp->b≠x:=λb n z=>by subst z;rw[n]at c;exact c
 have i:∀b,H b=Vp->b≠e:=λb n z=>by
  subst z;rcases j with r|r
  .exact g b n r
  .rw[n]at r;cases r
 have f:∀b u,H b=Vo u->¬iz (Vo u)->b≠x:=λb u q nm z=>by subst z;rw[q]at c;exact nm c
 refine⟨λb u q n _ _=>k b u (i b n) q,λb u q n _ _=>⟨u.slots,k b u (i b n) q⟩,λb u q n _=>by rw[au (g b n)];exact n,λb u q _=>?_,
  λb xs q=>by rw[au (f b _ q λz=>z)];exact q,λb u xs q=>by rw[au (f b _ q λz=>z)];exact q,λb ps q=>⟨#[],by rw[au (f b _ q λz=>z),q];simp⟩⟩
 by_cases a:b=e
 .subst a;exact d
 .exact⟨u,k b u a q⟩
end
def ez(h:Vh)(H:Hp):List Vb:=(Af h.objs.size).filter λa=>(H a).isSome
def dY(h:Vh)(H:Hp):Vh:=PySem.W.hideAll h (ez h H)
def sL(h:Vh)(H:Hp):(dY h H).objs.size=h.objs.size:=PySem.W.hideAll_size _ _
def yp{h:Vh}{H:Hp}{b:Vb}{o:Obj}(e:h.get? b=Vo o)(n:H b=Vp):(dY h H).get? b=Vo o:=
 PySem.W.hideAll_get _ e λa=>by have q:(H b).isSome=true:=(List.mem_filter.mp a).2;rw[n]at q;simp at q
def wV{h:Vh}{H:Hp}{b:Vb}{o:Obj}(e:(dY h H).get? b=Vo o):h.get? b=Vo o/\H b=Vp:=by
 have a:h.get? b=Vo o:=PySem.W.of_hideAll (ez h H) e;refine⟨a,?_⟩;cases q:H b with
 | none=>rfl
 | some x=>
  have c:b∈ez h H:=List.mem_filter.mpr ⟨List.mem_range.mpr (zj a),by simp[q]⟩;have z:(dY h H).get? b=Vp:=PySem.W.hideAll_none (ez h H) c;rw[z]at e;cases e
structure Mod(K:zg)(mg:Vn->Option Va)(base:Vh):Prop where
 kin:K.In base
 glob:base.Ns Vj mg
 blt:∃mb,base.Ns builtinsNs mb/\∀x:Vn,x≠"__name__"->mb x=bootBuiltins x
 nolimit:base.NoLimit
structure Cx where
 prog:Vd
 w:Ve
 K:zg
 mg:Vn->Option Va
 base:Vh
 A:Vi
 N:List Vn
 s₀:Vc
 H₀:Hp
 env:Env
 outer:List Env
 stack:List Env
 ex:List Vb
 fn:Vn->Bool
 calm:Bool
 pn:List (Vb×Obj)
 xe:Va->Vc->Prop
variable {t' n:Nat}{ch fp:List Vb}{M:Model}{A:Vi}{E Q:Va->Vc->Prop}{v:V}{u:Va}{s:Vc}{pins:List (Vb×Obj)}{H:Hp}{body:List Vl}{P:Vd}{w:Ve}{tg:Vk}{h base:Vh}{xs:List V}{us:List Va}{C:Vb}{kw:List (Vn×Va)}{mg:Vn->Option Va}
def aP(l:List Env):List Vb:=l.filterMap (·.frame)
abbrev Cx.fs(X:Cx):List Vb:=aP X.outer
def jB(sc:Scope)(x:Vn):Prop:=sc.names.lookup x=Vo .local\/sc.names.lookup x=Vo .cell\/sc.names.lookup x=Vo .free
def Loc(sc:Scope)(x:Vn):Prop:=sc.names.lookup x=Vo .local\/sc.names.lookup x=Vo .cell
def Look(env:Env)(h:Vh)(m:Vn->Option Va)(x:Vn)(u:Va):Prop:=
 (env.kindOf x=Vo .local/\m x=Vo u)\/((env.kindOf x=Vo .cell\/env.kindOf x=Vo .free)/\∃c,env.cells.lookup x=Vo c/\h.IsCell c (Vo u))
structure Cx.Ok(X:Cx):Prop where
 mod:Mod X.K X.mg X.base
 kind:X.env.scope.kind=.function
 glob:X.env.globals=Vj
 blt:X.env.builtins=builtinsNs
 above:X.s₀.heap.objs.size<=X.env.locals
 inj:∀x y c,X.env.cells.lookup x=Vo c->X.env.cells.lookup y=Vo c->x=y
 has:∀x,(X.env.kindOf x=Vo .cell\/X.env.kindOf x=Vo .free)->∃c,X.env.cells.lookup x=Vo c
 cab:∀x c,X.fn x=true->X.env.cells.lookup x=Vo c->X.s₀.heap.objs.size<=c
 hd:X.calm=true->X.A.handled=Vp
 frames:X.A.frames=Vo X.stack
 stk:X.stack=X.outer\/(X.stack=X.env::X.outer/\X.env.frame=Vo X.env.locals)
 exf:∀b∈X.ex,b≠X.env.locals/\∀x c,X.env.cells.lookup x=Vo c->c≠b
 bs:∀b o,X.base.get? b=Vo o->X.s₀.heap.get? b=Vo o/\X.H₀ b=Vp
 bsz:X.base.objs.size<=X.s₀.heap.objs.size
 noex:∀b o,X.base.get? b=Vo o->b∉X.ex
 exfs:∀b∈X.ex,b∉X.fs
 funs:X.s₀.heap.FunFrames X.base X.outer
 frf:∀b∈X.fs,X.H₀ b=Vp
structure Inv(X:Cx)(pins:List (Vb×Obj))(σ:List (Option V))(H:Hp)(s:Vc):Prop where
 ok:X.Ok
 os:s.os=X.s₀.os
 bare:AllBare s.gens
 base:Un X.fs X.ex X.H₀ H X.s₀.heap s.heap
 loc:∃m,s.heap.Ns X.env.locals m/\∀(i:Nat) (x:Vn) (v:V),X.N[i]?=Vo x->σ[i]?=Vo (Vo v)->jB X.env.scope x->∃u,RelV v u/\Look X.env s.heap m x u
 cell:∀x c,X.env.cells.lookup x=Vo c->∃v,s.heap.IsCell c v
 free:H X.env.locals=Vp
 freeC:∀x c,X.env.cells.lookup x=Vo c->H c=Vp
 pin:∀p∈X.pn++pins,s.heap.get? p.1=Vo p.2/\H p.1=Vp/\p.1≠X.env.locals/\p.1∉X.fs/\∀v,p.2.data≠.cell v
 hok:bq X.prog X.w H s.heap
 len:σ.length=X.N.length
section
variable {X:Cx} {pins:List (Vb×Obj)} {σ:List (Option V)} {H H':Hp} {s:Vc} {h':Vh}
def Cx.Ok.nofr(ok:X.Ok){b:Vb}{o:Obj}(e:X.base.get? b=Vo o):b∉X.fs:=λa=>by have:=(ok.funs.mem a).1;rw[e]at this;cases this
theorem Inv.bs(I:Inv X pins σ H s):∀b o,X.base.get? b=Vo o->s.heap.get? b=Vo o/\H b=Vp:=λb o e=>
 ⟨I.base.keep b o (I.ok.bs b o e).1 (I.ok.bs b o e).2 (I.ok.nofr e) (I.ok.noex b o e),I.base.free b o (I.ok.bs b o e).1 (I.ok.bs b o e).2 (I.ok.noex b o e)⟩
def Inv.bk(I:Inv X pins σ H s):∀b o,X.base.get? b=Vo o->s.heap.get? b=Vo o:=λb o e=>(I.bs b o e).1
theorem Inv.mod(I:Inv X pins σ H s):Mod X.K X.mg X.base:=I.ok.mod
def Inv.kIn(I:Inv X pins σ H s):X.K.In s.heap:=I.ok.mod.kin.keeps I.bk
theorem Inv.lt(I:Inv X pins σ H s):X.env.locals<s.heap.objs.size:=let ⟨_,hn,_⟩:=I.loc;hn.lt
def Inv.sz(I:Inv X pins σ H s):X.s₀.heap.objs.size<=s.heap.objs.size:=zP I.ok.above (Nat.le_of_lt I.lt)
def Inv.nofs(I:Inv X pins σ H s){a:Vb}(h:s.heap.objs.size<=a):a∉X.fs:=λb=>by obtain⟨_,o,c,_⟩:=I.ok.funs.mem b;exact absurd (zO (zj c) (zP I.sz h)) (Nat.lt_irrefl _)
def Inv.cne(I:Inv X pins σ H s):∀x c,X.env.cells.lookup x=Vo c->c≠X.env.locals:=λx c e z=>by obtain⟨v,o,d,hd⟩:=I.cell x c e;obtain⟨m,⟨o',es,ep,a,b,_⟩,_⟩:=I.loc;rw[z,a]at d;cases d;rw[b]at hd;cases hd
theorem Inv.funs(I:Inv X pins σ H s):s.heap.FunFrames X.base X.outer:=by
 have all:∀(l:List Env),(∀b∈aP l,b∈X.fs)->X.s₀.heap.FunFrames X.base l->s.heap.FunFrames X.base l:=by
  intro l;induction l with
  | nil=>intro _ _;trivial
  | cons env r g=>
   intro f h;obtain⟨i,⟨L,o,a,j,k,hd⟩,m⟩:=h;have c:L∈X.fs:=f L (by unfold aP;rw[List.filterMap_cons,a];exact zr);obtain⟨sl,e⟩:=I.base.slot L o k (I.ok.frf L c) c λz=>I.ok.exfs L z c;exact⟨i,⟨L,_,a,j,e,hd⟩,g (λb d=>f b (by unfold aP;rw[List.filterMap_cons,a];exact zo _ d)) m⟩
 exact all X.outer (λ_ d=>d) I.ok.funs
theorem Inv.stack(I:Inv X pins σ H s):s.heap.FunFrames X.base X.stack:=by
 rcases I.ok.stk with e|⟨e,a⟩
 .rw[e];exact I.funs
 .rw[e];obtain⟨m,b,_⟩:=I.loc;refine .cons (by rw[I.ok.kind];decide) a b ?_ I.funs;exact Heap.get?_none_of_le (zP I.ok.bsz I.ok.above)
def Inv.stkSub(I:Inv X pins σ H s):∀b∈aP X.stack,b∈X.env.locals::X.fs:=λb a=>by
 rcases I.ok.stk with e|⟨e,c⟩
 .rw[e]at a;exact zo _ a
 .rw[e]at a;unfold aP at a;rw[List.filterMap_cons,c]at a;exact a
def Inv.stkFree(I:Inv X pins σ H s):∀b∈aP X.stack,H b=Vp:=λb a=>by
 rcases zA.mp (I.stkSub b a)with e|a
 .rw[e];exact I.free
 .obtain⟨_,o,c,_⟩:=I.ok.funs.mem a;exact I.base.free b o c (I.ok.frf b a) λz=>I.ok.exfs b z a
def Inv.step{g':Array GenState}{t':Nat}{d':Drawn}(I:Inv X pins σ H s)
  (hch:∀b∈ch,(b∈X.ex\/X.s₀.heap.objs.size<=b)/\b≠X.env.locals/\(∀x c,X.env.cells.lookup x=Vo c->c≠b)/\∀p∈X.pn++pins,p.1≠b)
  (keep:∀b o,b≠X.env.locals->b∉X.fs->b∉ch->s.heap.get? b=Vo o->H b=Vp->h'.get? b=Vo o)
  (slot:∀b o,b≠X.env.locals->b∈X.fs->b∉ch->s.heap.get? b=Vo o->H b=Vp->∃sl,h'.get? b=Vo { o with slots:=sl }) (free:∀b o,b∉ch->s.heap.get? b=Vo o->H b=Vp->H' b=Vp)
  (there:∀b o,b∉ch->s.heap.get? b=Vo o->∃o',h'.get? b=Vo o')
  (tups:∀b xs,H b=Vo (.tup xs)->H' b=Vo (.tup xs)) (frzs:∀b o u,H b=Vo (.frz o u)->H' b=Vo (.frz o u)) (tbls:∀b ps,H b=Vo (.tbl ps)->∃more,H' b=Vo (.tbl (ps++more)))
  (ns:∀m,s.heap.Ns X.env.locals m->h'.Ns X.env.locals m) (hok:bq X.prog X.w H' h') (E:AllBare g') :
  Inv X pins σ H' { s with heap:=h',gens:=g',drawn:=d',toks:=t' }:=by
 have neL:∀b o,X.s₀.heap.get? b=Vo o->b≠X.env.locals:=λb o e=>zE (zO (zj e) I.ok.above);have neC:∀b o,X.s₀.heap.get? b=Vo o->b∉X.ex->b∉ch:=λb o e a h=>by
  rcases(hch b h).1 with z|z
  .exact a z
  .exact absurd (zO (zj e) z) (Nat.lt_irrefl _)
 have cellK:∀x c,X.env.cells.lookup x=Vo c->∀v,s.heap.IsCell c v->h'.IsCell c v:=λx c e v ⟨o,j,hd⟩=>by
  have f:c∉ch:=λz=>(hch c z).2.2.1 x c e rfl;by_cases A:c∈X.fs
  .obtain⟨sl,q⟩:=slot c o (I.cne x c e) A f j (I.freeC x c e);exact⟨_,q,hd⟩
  .exact⟨o,keep c o (I.cne x c e) A f j (I.freeC x c e),hd⟩
 refine⟨I.ok,I.os,E,⟨λb o e n h a=>?_,λb o e n h a=>?_,λb o e n a=>?_,λb o e a=>?_,λb xs e=>tups b xs (I.base.tups b xs e),λb o xs e=>frzs b o xs (I.base.frzs b o xs e),λb ps e=>?_⟩,?_,λx c e=>?_,?_,λx c e=>?_,λp B=>?_,hok,I.len⟩
 .exact keep b o (neL b o e) h (neC b o e a) (I.base.keep b o e n h a) (I.base.free b o e n a)
 .obtain⟨sl,g⟩:=I.base.slot b o e n h a;obtain⟨y,t⟩:=slot b _ (neL b o e) h (neC b o e a) g (I.base.free b o e n a);exact⟨y,t⟩
 .obtain⟨o',g⟩:=I.base.there b o e a;exact free b o' (neC b o e a) g (I.base.free b o e n a)
 .obtain⟨o',g⟩:=I.base.there b o e a;exact there b o' (neC b o e a) g
 .obtain⟨m1,g⟩:=I.base.tbls b ps e;obtain⟨F,t⟩:=tbls b _ g;exact⟨m1++F,by rw[t,Array.append_assoc]⟩
 .obtain⟨m,G,J⟩:=I.loc;refine⟨m,ns m G,λi x v g t K=>?_⟩;obtain⟨u,r,l⟩:=J i x v g t K;refine⟨u,r,?_⟩;rcases l with l|⟨k,c,e,z⟩
  .exact .inl l
  .exact .inr ⟨k,c,e,cellK x c e _ z⟩
 .obtain⟨v,z⟩:=I.cell x c e;exact⟨v,cellK x c e v z⟩
 .obtain⟨m,⟨o,_,_,j,_⟩,_⟩:=I.loc;exact free _ o (λz=>(hch _ z).2.1 rfl) j I.free
 .obtain⟨v,o,j,hd⟩:=I.cell x c e;exact free c o (λz=>(hch c z).2.2.1 x c e rfl) j (I.freeC x c e)
 .obtain⟨e,n,ne,C,d⟩:=I.pin p B;have f:p.1∉ch:=λz=>(hch p.1 z).2.2.2 p B rfl;exact⟨keep p.1 p.2 ne C f e n,free p.1 p.2 f e n,ne,C,d⟩
def Inv.un{t':Nat}(I:Inv X pins σ H s)(u:Un X.fs [] H H' s.heap h')(hok:bq X.prog X.w H' h'):Inv X pins σ H' { s with heap:=h',toks:=t' }:=by
 obtain⟨m,⟨o,es,ep,g,r⟩,_⟩:=id I.loc;obtain⟨sl,h⟩:=u.any g I.free (by simp);exact I.step (g':=s.gens) (d':=s.drawn) (ch:=[]) (λ_ z=>nomatch z) (λb o _ c _ e n=>u.keep b o e n c (by simp)) (λb o _ c _ e n=>u.slot b o e n c (by simp)) (λb o _ e n=>u.free b o e n (by simp)) (λb o _ e=>u.there b o e (by simp)) u.tups u.frzs u.tbls (λk i=>by obtain⟨o',d,f,a,j⟩:=i;rw[g]at a;cases a;exact⟨_,d,f,h,j⟩) hok I.bare
def Inv.call{g':Array GenState}{t':Nat}{d':Drawn}(I:Inv X pins σ H s)(u:Un (aP X.stack) ch H H' s.heap h')(hok:bq X.prog X.w H' h')(j:AllBare g')
  (hch:∀b∈ch,(b∈X.ex\/X.s₀.heap.objs.size<=b)/\b≠X.env.locals/\(∀x c,X.env.cells.lookup x=Vo c->c≠b)/\∀p∈X.pn++pins,p.1≠b) :
  Inv X pins σ H' { s with heap:=h',gens:=g',drawn:=d',toks:=t' }:=by
 obtain⟨m,⟨o,es,ep,i,r⟩,_⟩:=id I.loc;obtain⟨sl,f⟩:=u.any i I.free λz=>(hch _ z).2.1 rfl;exact I.step (ch:=ch) hch (λb o f k a e n=>u.keep b o e n (λz=>(zA.mp (I.stkSub b z)).elim f k) a) (λb o _ _ a e n=>u.any e n a) (λb o a e n=>u.free b o e n a) (λb o a e=>u.there b o e a) u.tups u.frzs u.tbls (λt l=>by obtain⟨o',g,h,d,q⟩:=l;rw[i]at d;cases d;exact⟨_,g,h,f,q⟩) hok j
def Inv.turned{t':Nat}{it:Vb}(I:Inv X pins σ H s)(k:∀b o,b≠it->s.heap.get? b=Vo o->h'.get? b=Vo o)(g:H it=Vp)(f:it≠X.env.locals)
  (h1:it∈X.ex\/X.s₀.heap.objs.size<=it) (h2:∀x c,X.env.cells.lookup x=Vo c->c≠it) (h:∀p∈X.pn++pins,p.1≠it):Inv X pins σ H { s with heap:=h',toks:=t' }:=by
 have d:∀b u,H b=Vo u->b≠it:=λb u e z=>by rw[z,g]at e;cases e
 refine I.step (g':=s.gens) (d':=s.drawn) (ch:=[it]) (λb i=>?_) (λb o _ _ a e _=>k b o (λz=>a (by simp[z])) e) (λb o _ _ a e _=>⟨o.slots,k b o (λz=>a (by simp[z])) e⟩) (λ_ _ _ _ n=>n)
  (λb o a e=>⟨o,k b o (λz=>a (by simp[z])) e⟩) (λ_ _ e=>e) (λ_ _ _ e=>e) (λb ps e=>⟨#[],by rw[e];simp⟩) (λm j=>?_) (λb u e=>?_) I.bare
 .have e:b=it:=by simpa using i
  subst e;exact⟨h1,f,h2,h⟩
 .obtain⟨o,es,ep,l,r⟩:=j;exact⟨o,es,ep,k _ o (Ne.symm f) l,r⟩
 .refine(I.hok b u e).stay (λc v a q=>k c v ?_ q) (λ_ q=>q) λ_ _ q=>q;rcases a with z|z
  .rw[z];exact d b u e
  .exact d c _ z
def Inv.tok(I:Inv X pins σ H s)(t:Nat):Inv X pins σ H { s with toks:=t }:=I.un (h':=s.heap) (t':=t) Un.refl I.hok
theorem Inv.kept{t':Nat}(I:Inv X pins σ H s)(k:∀b u,s.heap.get? b=Vo u->h'.get? b=Vo u):Inv X pins σ H { s with heap:=h',toks:=t' }:=I.un (Un.kept k) (I.hok.kept k)
theorem Inv.laid{a:Vb}{o:HO}{t':Nat}(I:Inv X pins σ H s)(k:∀b u,s.heap.get? b=Vo u->h'.get? b=Vo u)(c:s.heap.objs.size<=a)(new:bH X.prog X.w (upd H a o) h' a o):
  Inv X pins σ (upd H a o) { s with heap:=h',toks:=t' }:=I.un (Un.laid k c (I.hok.fresh c)) (I.hok.laid k c new)
theorem Inv.write{x e:Vb}{o:HO}{t':Nat}(I:Inv X pins σ H s)(c:iz (H x))(d:e=x\/H e=Vo (.own x))(k:∀b u,b≠e->s.heap.get? b=Vo u->h'.get? b=Vo u)(a:∃u,h'.get? e=Vo u)
  (new:bH X.prog X.w (upd H x o) h' x o):Inv X pins σ (upd H x o) { s with heap:=h',toks:=t' }:=I.un (Un.write c d k a) (I.hok.write c d k a new)
def Inv.pins_of{a:List (Vb×Obj)}(I:Inv X pins σ H s)(h:∀p∈a,s.heap.get? p.1=Vo p.2/\H p.1=Vp/\p.1≠X.env.locals/\p.1∉X.fs/\∀v,p.2.data≠.cell v):Inv X a σ H s:=
 ⟨I.ok,I.os,I.bare,I.base,I.loc,I.cell,I.free,I.freeC,λp b=>(zI.mp b).elim (λz=>I.pin p (zX _ z)) (h p),I.hok,I.len⟩
def jX{N:List Vn}(c:N.Nodup){i j:Nat}{x:Vn}(a:N[i]?=Vo x)(b:N[j]?=Vo x):i=j:=by obtain⟨h1,d⟩:=zu.mp a;obtain⟨h2,e⟩:=zu.mp b;exact(List.getElem_inj c).mp (d.trans e.symm)
def oN{M:Model}{A:Vi}{E:Va->Vc->Prop}{i:Nat}{x:Vn}{Q:Unit->Vc->Prop}(I:Inv X pins σ H s)(hN:X.N.Nodup)(hi:X.N[i]?=Vo x)(t:Loc X.env.scope x)(r:RelV v u)
  (h:∀s',Inv X pins (σ.set i (Vo v)) H s'->(∃a,Heap.SameBut a s.heap s'.heap/\(a=X.env.locals\/X.env.cells.lookup x=Vo a))->Q () s') (hf:X.fn x=true\/X.env.scope.names.lookup x=Vo .local:=by first|exact .inl rfl|exact .inr rfl|assumption):Vf M A (storeName X.env x u) Q E s:=by
 obtain⟨m,W,hl⟩:=id I.loc;have O:(X.env.scope.kind == .class || (X.env.scope.kind == .module && X.env.locals != X.env.globals))=false:=by rw[I.ok.kind];rfl
 have F:i<σ.length:=by rw[I.len];exact(zu.mp hi).1
 have cne:=I.cne;have tracked:∀{a:Vb} {h':Vh},(∃o,s.heap.get? a=Vo o/\H a=Vp)->Heap.SameBut a s.heap h'->bq X.prog X.w H h':=λ{a h'} ha f b ob e=>by
  obtain⟨_,_,B⟩:=ha;refine(I.hok b ob e).stay (λc U l q=>(f.2 c ?_).trans q) (λ_ q=>q) λ_ _ q=>q;rintro rfl;rcases l with rfl|l
  .rw[B]at e;cases e
  .rw[B]at l;cases l
 rcases t with G|G
 .refine wpAny_storeName_local G W (λh' Y f=>?_) O;obtain⟨oL,_,_,Z,_⟩:=id W;refine h _ ⟨I.ok,I.os,I.bare,⟨λb o e n J t=>?_,λb o e n J t=>?_,I.base.free,λb o e t=>?_,I.base.tups,I.base.frzs,I.base.tbls⟩,⟨_,Y,λj y v' g C e3=>?_⟩,λy c e=>?_,I.free,I.freeC,λp hp=>?_,tracked ⟨oL,Z,I.free⟩ f,by simpa using I.len⟩ ⟨_,f,.inl rfl⟩
  .exact(f.2 b (zE (zO (zj e) I.ok.above))).trans (I.base.keep b o e n J t)
  .obtain⟨sl,g⟩:=I.base.slot b o e n J t;exact⟨sl,(f.2 b (zE (zO (zj e) I.ok.above))).trans g⟩
  .obtain⟨o',g⟩:=I.base.there b o e t;exact⟨o',(f.2 b (zE (zO (zj e) I.ok.above))).trans g⟩
  .by_cases K:j=i
   .subst K;rw[hi]at g;cases g;rw[List.getElem?_set_self F]at C;cases C;exact⟨u,r,.inl ⟨G,by simp⟩⟩
   .rw[List.getElem?_set_ne (Ne.symm K)]at C;obtain⟨u',r',q⟩:=hl j y v' g C e3;refine⟨u',r',?_⟩;rcases q with⟨k,e⟩|⟨k,c,e,z⟩
    .refine .inl ⟨k,?_⟩;have:y≠x:=λe=>K (jX hN g (e ▸ hi));simp[this,e]
    .exact .inr ⟨k,c,e,z.sameBut f (cne y c e)⟩
  .obtain⟨U,z⟩:=I.cell y c e;exact⟨U,z.sameBut f (cne y c e)⟩
  .obtain⟨e,n,ne,nf,d⟩:=I.pin p hp;exact⟨(f.2 p.1 ne).trans e,n,ne,nf,d⟩
 .have L:X.fn x=true:=by
   rcases hf with z|z
   .exact z
   .rw[z]at G;cases G
  obtain⟨c,l⟩:=I.ok.has x (.inl G);obtain⟨U,z⟩:=I.cell x c l;refine wpAny_storeName_cell I.ok.kind G l z (λh' P f=>?_);obtain⟨oc,R,S⟩:=id z;refine h { s with heap:=h' } ⟨I.ok,I.os,I.bare,⟨λb o e n J t=>?_,λb o e n J t=>?_,I.base.free,λb o e t=>?_,I.base.tups,I.base.frzs,I.base.tbls⟩,⟨m,W.sameBut f (Ne.symm (cne x c l)),λj y v' g C e3=>?_⟩,λy c' e=>?_,I.free,I.freeC,λp hp=>?_,tracked ⟨oc,R,I.freeC x c l⟩ f,by simpa using I.len⟩ ⟨c,f,.inr l⟩
  .exact(f.2 b (zE (zO (zj e) (I.ok.cab x c L l)))).trans (I.base.keep b o e n J t)
  .obtain⟨sl,g⟩:=I.base.slot b o e n J t;exact⟨sl,(f.2 b (zE (zO (zj e) (I.ok.cab x c L l)))).trans g⟩
  .obtain⟨o',g⟩:=I.base.there b o e t;exact⟨o',(f.2 b (zE (zO (zj e) (I.ok.cab x c L l)))).trans g⟩
  .by_cases K:j=i
   .subst K;rw[hi]at g;cases g;rw[List.getElem?_set_self F]at C;cases C;exact⟨u,r,.inr ⟨.inl G,c,l,P⟩⟩
   .rw[List.getElem?_set_ne (Ne.symm K)]at C;obtain⟨u',r',q⟩:=hl j y v' g C e3;refine⟨u',r',?_⟩;rcases q with q|⟨k,c',e,z'⟩
    .exact .inl q
    .refine .inr ⟨k,c',e,z'.sameBut f ?_⟩;rintro rfl;exact K (jX hN g (I.ok.inj _ _ _ e l ▸ hi))
  .by_cases T:c'=c
   .subst T;exact⟨_,P⟩
   .obtain⟨w2,z2⟩:=I.cell y c' e;exact⟨w2,z2.sameBut f T⟩
  .obtain⟨e,n,ne,nf,d⟩:=I.pin p hp;refine⟨(f.2 p.1 ?_).trans e,n,ne,nf,d⟩;intro q;rw[q,R]at e;have q':oc=p.2:=zV e;exact d U (by rw[<-q'];exact S)
def fJ{M:Model}{A:Vi}{E:Va->Vc->Prop}{i:Nat}{x:Vn}{Q:Unit->Vc->Prop}(I:Inv X pins σ H s)(a:X.N.Nodup)(hi:X.N[i]?=Vo x)(b:Loc X.env.scope x)(r:RelV v u)
  (h:∀s',Inv X pins (σ.set i (Vo v)) H s'->Q () s') (c:X.fn x=true\/X.env.scope.names.lookup x=Vo .local:=by first|exact .inl rfl|exact .inr rfl|assumption):Vf M A (storeName X.env x u) Q E s:=
 oN I a hi b r (λs' d _=>h s' d) c
def Inv.call'{s':Vc}(I:Inv X pins σ H s)(a:s'.os=s.os)(u:Un (aP X.stack) ch H H' s.heap s'.heap)(hok:bq X.prog X.w H' s'.heap)(d:AllBare s'.gens)
  (hch:∀b∈ch,(b∈X.ex\/X.s₀.heap.objs.size<=b)/\b≠X.env.locals/\(∀x c,X.env.cells.lookup x=Vo c->c≠b)/\∀p∈X.pn++pins,p.1≠b):Inv X pins σ H' s':=by
 obtain⟨h',g',d',t',o'⟩:=s';have e:o'=s.os:=a;subst e;exact I.call (g':=g') (t':=t') (d':=d') u hok d hch
end
abbrev XK:=Va->Option Vb->Hp->Prop
abbrev St:=List (Option V)
abbrev VK:=V->Hp->Prop
abbrev TE:=St->Hp->VK->Prop
abbrev TT:=St->Hp->(Bool->Hp->Prop)->Prop
abbrev TA:=St->Hp->(List V->Hp->Prop)->Prop
structure Ends where
 nx:St->Hp->Prop
 rt:VK
 bk:St->Hp->Prop:=λ_ _=>False
 ct:St->Hp->Prop:=λ_ _=>False
abbrev TS:=Ends->St->Hp->Prop
def EP(X:Cx)(pins:List (Vb×Obj))(σ:St)(Q:VK)(u:Va)(s':Vc):Prop:=∃v H',Inv X pins σ H' s'/\RelV v u/\Q v H'
def TP(X:Cx)(pins:List (Vb×Obj))(σ:St)(Q:Bool->Hp->Prop)(b:Bool)(s':Vc):Prop:=∃H',Inv X pins σ H' s'/\Q b H'
def AP(X:Cx)(pins:List (Vb×Obj))(σ:St)(Q:List V->Hp->Prop)(us:List Va)(s':Vc):Prop:=∃vs H',Inv X pins σ H' s'/\Vals vs us/\Q vs H'
def SP(X:Cx)(pins:List (Vb×Obj))(D:Ends)(f:Flow)(s':Vc):Prop:=
 match f with
 | .next=>∃a H',Inv X pins a H' s'/\D.nx a H'
 | .brk=>∃a H',Inv X pins a H' s'/\D.bk a H'
 | .cont=>∃a H',Inv X pins a H' s'/\D.ct a H'
 | .ret u=>∃v a H',Inv X pins a H' s'/\RelV v u/\D.rt v H'
def PE(X:Cx)(e:Vk)(t:TE):Prop:=
 ∀(pins:List (Vb×Obj)) (s:Vc) (σ:St) (H:Hp) (Q:VK),Inv X pins σ H s->t σ H Q->Vf (Vg X.prog X.w) X.A (eval e X.env) (EP X pins σ Q) X.xe s
def PT(X:Cx)(e:Vk)(t:TT):Prop:=
 ∀(pins:List (Vb×Obj)) (s:Vc) (σ:St) (H:Hp) (Q:Bool->Hp->Prop),Inv X pins σ H s->t σ H Q->Vf (Vg X.prog X.w) X.A (isTrue e X.env (eval e X.env)) (TP X pins σ Q) X.xe s
def PW(X:Cx)(e:Vk)(t:TT):Prop:=
 ∀(whole:Sem Va) (pins:List (Vb×Obj)) (s:Vc) (σ:St) (H:Hp) (Q:Bool->Hp->Prop),Inv X pins σ H s->t σ H Q->Vf (Vg X.prog X.w) X.A (isTrue e X.env whole) (TP X pins σ Q) X.xe s
def PW.pt{X:Cx}{e:Vk}{t:TT}(h:PW X e t):PT X e t:=h _
def PA(X:Cx)(es:List Vk)(t:TA):Prop:=
 ∀(pos:Pos) (pins:List (Vb×Obj)) (s:Vc) (σ:St) (H:Hp) (Q:List V->Hp->Prop),Inv X pins σ H s->t σ H Q->Vf (Vg X.prog X.w) X.A (spliced (backTo pos (starEach es X.env))) (AP X pins σ Q) X.xe s
def PS(X:Cx)(st:Vl)(t:TS):Prop:=
 ∀(pins:List (Vb×Obj)) (s:Vc) (σ:St) (H:Hp) (D:Ends),Inv X pins σ H s->t D σ H->Vf (Vg X.prog X.w) X.A (exec st X.env) (SP X pins D) X.xe s
def bM(X:Cx)(st:List Vl)(t:TS):Prop:=
 ∀(pins:List (Vb×Obj)) (s:Vc) (σ:St) (H:Hp) (D:Ends),Inv X pins σ H s->t D σ H->Vf (Vg X.prog X.w) X.A (execs st X.env) (SP X pins D) X.xe s
def ao{α:Type}{t:Sem α}{Q b:α->Vc->Prop}(h:Vf M A t Q E s)(c:∀a s,Q a s->b a s):Vf M A t b E s:=wpAny_mono h c λ_ _ x=>x
section
variable {X:Cx}
def bin{a b:Vk}{ta tb:TE}(e:PE X a ta)(g:PE X b tb){σ:St}{R:V->V->Hp->Prop}(I:Inv X pins σ H s)(h:ta σ H λx H1=>tb σ H1 λy H2=>R x y H2)
  {α:Type} {Q:α->Vc->Prop} {f:Va->Va->Sem α}
  (i:∀v u s2 x y H2,Inv X pins σ H2 s2->RelV x v->RelV y u->R x y H2->Vf (Vg X.prog X.w) X.A (f v u) Q X.xe s2) :
  Vf (Vg X.prog X.w) X.A (eval a X.env) (λv c=>Vf (Vg X.prog X.w) X.A (eval b X.env) (λu d=>Vf (Vg X.prog X.w) X.A (f v u) Q X.xe d) X.xe c) X.xe s:=by
 refine ao (e pins s σ H _ I h) λv s1 ⟨x,H1,j,r1,k⟩=>?_;refine ao (g pins s1 σ H1 _ j k) λu s2 ⟨y,H2,l,m,n⟩=>?_;exact i v u s2 x y H2 l r1 m n
def lL(i:Nat):TE:=λσ H Q=>∃v,σ[i]?=Vo (Vo v)/\Q v H
def tC(v:V):TE:=λ_ H Q=>Q v H
def tF{i:Nat}{x:Vn}{pos:Pos}(g:X.N[i]?=Vo x)(j:jB X.env.scope x)(hd:(x == ("__debug__":Vn))=false:=by decide)(d:(x == ("__classdict__":Vn))=false:=by decide):PE X (.Name x pos) (lL i):=by
 intro pins s σ H Q I h;obtain⟨v,e,h⟩:=h;obtain⟨m,k,n⟩:=I.loc;obtain⟨u,r,l⟩:=n i x v g e j;have fin:EP X pins σ Q u s:=⟨v,H,I,r,h⟩;rcases l with⟨b,o⟩|⟨b,c,f,a⟩
 .exact wpAny_Name (wpAny_loadName_local I.ok.kind b k o fin) hd
 .rcases b with b|b
  .exact wpAny_Name (wpAny_loadName_cell I.ok.kind b f a fin) hd
  .exact wpAny_Name (wpAny_loadName_free I.ok.kind b f a fin d) hd
def af{i j pos}:PE X (.Constant (.int i) j pos) (tC (.int i)):=λ_ _ _ H _ I h=>wpAny_Constant_int ⟨.int i,H,I.tok _,⟨_,rfl⟩,h⟩
def cQ{b j pos}:PE X (.Constant (.bool b) j pos) (tC (.bl b)):=λ_ _ _ H _ I h=>Constant_bool ⟨.bl b,H,I,rfl,h⟩
def hI{j pos}:PE X (.Constant .none j pos) (tC .non):=λ_ _ _ H _ I h=>Constant_none ⟨.non,H,I,rfl,h⟩
def ar{x j pos}:PE X (.Constant (.str x) j pos) (tC (.str x)):=λ_ _ _ H _ I h=>Calls.Constant_str ⟨.str x,H,I.tok _,⟨_,rfl⟩,h⟩
def Gl(X:Cx)(x:Vn):Prop:=X.env.kindOf x=Vo .globalImplicit
def ek{E:Va->Vc->Prop}{σ:St}{x:Vn}{pos:Pos}(I:Inv X pins σ H s)(a:Gl X x)(b:X.mg x=Vo u)(h:Q u s)
  (hd:(x == ("__debug__":Vn))=false:=by decide):Vf (Vg X.prog X.w) X.A (eval (.Name x pos) X.env) Q E s:=
 Calls.Name_function_global I.ok.kind a (Calls.loadGlobal_global (by rw[I.ok.glob];exact I.mod.glob.keeps I.bk) b h) hd
def gJ{E:Va->Vc->Prop}{σ:St}{x:Vn}{pos:Pos}(I:Inv X pins σ H s)(a:Gl X x)(b:X.mg x=Vp)(c:bootBuiltins x=Vo u)(h:Q u s)
  (d:x≠"__name__":=by decide) (hd:(x == ("__debug__":Vn))=false:=by decide):Vf (Vg X.prog X.w) X.A (eval (.Name x pos) X.env) Q E s:=by
 obtain⟨mb,h1,h2⟩:=I.mod.blt;exact Calls.Name_function_global I.ok.kind a (Calls.loadGlobal_builtin (by rw[I.ok.glob];exact I.mod.glob.keeps I.bk) b (by rw[I.ok.blt];exact h1.keeps I.bk) ((h2 x d).trans c) h) hd
def bW{x:Vn}{pos:Pos}(a:Gl X x)(b:X.mg x=Vo u)(r:RelV v u)(hd:(x == ("__debug__":Vn))=false:=by decide):PE X (.Name x pos) (tC v):=
 λ_ _ _ H _ I h=>ek I a b ⟨v,H,I,r,h⟩ hd
def eu{x:Vn}{pos:Pos}(a:Gl X x)(b:X.mg x=Vp)(c:bootBuiltins x=Vo u)(r:RelV v u)(d:x≠"__name__":=by decide)(hd:(x == ("__debug__":Vn))=false:=by decide):PE X (.Name x pos) (tC v):=
 λ_ _ _ H _ I h=>gJ I a b c ⟨v,H,I,r,h⟩ d hd
variable {a b:Vk} {ta tb:TE} {pos:Pos}
def PC(X:Cx)(op:CmpOp)(a b:Vk)(t:TE):Prop:=
 ∀(pins:List (Vb×Obj)) (s:Vc) (σ:St) (H:Hp) (Q:VK),Inv X pins σ H s->t σ H Q ->
  Vf (Vg X.prog X.w) X.A (eval a X.env) (λv c=>Vf (Vg X.prog X.w) X.A (eval b X.env) (λu d=>Vf (Vg X.prog X.w) X.A (compareOp op v u) (EP X pins σ Q) X.xe d) X.xe c) X.xe s
def tB(t:TE):TT:=λσ H Q=>t σ H λx H1=>∃c,x=.bl c/\Q c H1
def yd{op:CmpOp}{t:TE}(h:PC X op a b t)(h1:behindInMarks op b=false:=by first|exact nobehind _ (by decide) (by decide)|rfl):PE X (.Compare a [op] [b] pos) t:=λpins s σ H Q I c=>wpAny_Compare1 (h pins s σ H Q I c) h1
def nL{op:CmpOp}{t:TE}(h:PC X op a b t)(h1:behindInMarks op b=false:=by first|exact nobehind _ (by decide) (by decide)|rfl):PT X (.Compare a [op] [b] pos) (tB t):=by intro pins s σ H Q I e;refine wpAny_isTrue_Compare1 (ao (h pins s σ H _ I e) λv s1 h1=>ao h1 λu s2 h2=>ao h2 λc i ⟨x,H1,f,r1,g⟩=>?_) h1;obtain⟨d,rfl,q⟩:=g;cases r1;exact wpAny_truthy_bool ⟨H1,f,q⟩
def cv{e:Vk}{t:TE}(h:PE X e t)(a:∀whole,isTrue e X.env whole=(do let v <-whole;standAt e.pos;holding [v] (truthy v)):=by intro _;rfl):PT X e (tB t):=by intro pins s σ H Q I b;refine isTrue_plain (ao (h pins s σ H _ I b) λv s1 ⟨x,H1,c,r1,f⟩=>?_) (a _);obtain⟨d,rfl,q⟩:=f;cases r1;exact wpAny_truthy_bool ⟨H1,c,q⟩
variable {tA tB':TT} {rest:List Vk}
def rV(t u:TT):TT:=λσ H Q=>t σ H λc H1=>if c=true then Q true H1 else u σ H1 Q
def qL(t:TT):TT:=λσ H Q=>t σ H λc H1=>Q (!c) H1
def cV(b:PT X a tA):PW X (.BoolOp .Or [a] pos) tA:=by
 intro d pins s σ H Q I h;refine isTrue_or (ao (b pins s σ H Q I h) λc s1 e=>?_);cases c with
 | false=>exact isTrue_or_nil e
 | true=>exact e
def cK(f:PT X a tA)(g:PW X (.BoolOp .Or (b::rest) pos) tB'):PW X (.BoolOp .Or (a::b::rest) pos) (rV tA tB'):=by
 intro i pins s σ H Q I h;refine isTrue_or (ao (f pins s σ H _ I h) λc s1 ⟨H1,d,e⟩=>?_);cases c with
 | true=>exact⟨H1,d,e⟩
 | false=>exact g i pins s1 σ H1 Q d e
def cq(b:PT X a tA):PT X (.UnaryOp .Not a pos) (qL tA):=by intro pins s σ H Q I h;exact isTrue_not (b pins s σ H (λc H1=>Q (!c) H1) I h)
def qF(ta tb:TE):TE:=λσ H Q=>ta σ H λx H1=>∃c,x=.bl c/\if c=true then tb σ H1 Q else Q (.bl false) H1
def oE(ta tb:TE):TE:=λσ H Q=>ta σ H λx H1=>∃c,x=.bl c/\if c=true then Q (.bl true) H1 else tb σ H1 Q
def nB(ta:TE):TE:=λσ H Q=>ta σ H λx H1=>∃c,x=.bl c/\Q (.bl (!c)) H1
def dF{op}{t:TE}(h:PE X a t):PE X (.BoolOp op [a] pos) t:=λpins s σ H Q I b=>BoolOp_one (h pins s σ H Q I b)
def dm(f:PE X a ta)(g:PE X (.BoolOp .And (b::rest) pos) tb):PE X (.BoolOp .And (a::b::rest) pos) (qF ta tb):=by
 intro pins s σ H Q I h;refine BoolOp_and (ao (f pins s σ H _ I h) λv s1 ⟨x,H1,e,r1,d⟩=>?_);obtain⟨c,rfl,d⟩:=d;cases r1;refine wpAny_truthy_bool ?_;cases c with
 | true=>exact g pins s1 σ H1 Q e d
 | false=>exact⟨.bl false,H1,e,rfl,d⟩
def wz(f:PE X a ta)(g:PE X (.BoolOp .Or (b::rest) pos) tb):PE X (.BoolOp .Or (a::b::rest) pos) (oE ta tb):=by
 intro pins s σ H Q I h;refine BoolOp_or (ao (f pins s σ H _ I h) λv s1 ⟨x,H1,e,r1,d⟩=>?_);obtain⟨c,rfl,d⟩:=d;cases r1;refine wpAny_truthy_bool ?_;cases c with
 | false=>exact g pins s1 σ H1 Q e d
 | true=>exact⟨.bl true,H1,e,rfl,d⟩
def uS(d:PE X a ta):PE X (.UnaryOp .Not a pos) (nB ta):=by intro pins s σ H Q I h;refine UnaryOp_ (ao (d pins s σ H _ I h) λv s1 ⟨x,H1,e,r1,b⟩=>?_);obtain⟨c,rfl,b⟩:=b;cases r1;exact not_of (wpAny_truthy_bool ⟨.bl (!c),H1,e,rfl,b⟩)
def mV(t:TT)(ta tb:TE):TE:=λσ H Q=>t σ H λc H1=>if c=true then ta σ H1 Q else tb σ H1 Q
def w9{c:Vk}(g:PT X c tA)(i:PE X a ta)(j:PE X b tb):PE X (.IfExp c a b pos) (mV tA ta tb):=by
 intro pins s σ H Q I h;refine wpAny_IfExp (ao (g pins s σ H _ I h) λd s1 ⟨H1,e,f⟩=>?_);cases d with
 | true=>exact i pins s1 σ H1 Q e f
 | false=>exact j pins s1 σ H1 Q e f
end
def ag(K:zg)(H:Hp)(a:Vb)(xs:List V):Prop:=
 Rd H a (.lst xs) ∨
  ∃(o:Obj) (b:Array Va) (n:Nat),K.lookup a=Vo o/\o.cls=.type "list"/\o.dict=Vp/\o.data=.seq b n/\b.size<=sizeLine/\Vals xs b.toList
def ah(K:zg)(H:Hp)(a:Vb)(xs:List V):Prop:=
 Rd H a (.tup xs) ∨
  ∃(o:Obj) (b:Array Va) (n:Nat),K.lookup a=Vo o/\o.cls=.type "tuple"/\o.data=.seq b n/\b.size<=sizeLine/\Vals xs b.toList
def vF:Va->Option V
 | .none=>Vo .non
 | .bool b=>Vo (.bl b)
 | .int i _=>Vo (.int i)
 | .str x _=>Vo (.str x)
 | .bytes b _=>Vo (.byt b)
 | .float b _=>Vo (.flt b)
 | .ref a=>Vo (.ref a)
 | .type n=>Vo (.ty n)
 | _=>Vp
def RelV.abs{x:V}(r:RelV x u):vF u=Vo x:=by
 cases x with
 | non=>cases r;rfl
 | bl _=>cases r;rfl
 | int _=>obtain⟨t,rfl⟩:=r;rfl
 | str _=>obtain⟨t,rfl⟩:=r;rfl
 | byt _=>obtain⟨t,rfl⟩:=r;rfl
 | flt _=>obtain⟨t,rfl⟩:=r;rfl
 | ref _=>cases r;rfl
 | ty _=>cases r;rfl
def RelV.inj{x y:V}(r:RelV x u)(q:RelV y u):x=y:=zV (r.abs.symm.trans q.abs)
theorem Vals.inj:∀{xs ys:List V} {us:List Va},Vals xs us->Vals ys us->xs=ys
 | _,_,_,.nil,.nil=>rfl
 | _,_,_,.cons r t,.cons a t'=>by rw[r.inj a,Vals.inj t t']
section
variable {X:Cx} {pins:List (Vb×Obj)} {σ:St} {H:Hp} {s:Vc} {a:Vb} {xs ys:List V}
def ag.of{K:zg}(h:H a=Vo (.lst xs)):ag K H a xs:=.inl (.inl h)
def ah.of{K:zg}(h:H a=Vo (.tup xs)):ah K H a xs:=.inl (.inl h)
def Inv.list(I:Inv X pins σ H s)(h:ag X.K H a xs):∃b:List Va,Vals xs b/\PlainL s.heap a b.toArray/\xs.length<=sizeLine:=by
 rcases h with h|⟨o,b,n,c,d,hd,f,g,r⟩
 .obtain⟨z,b,n,r,e⟩:=h.ok I.hok;exact⟨b,r,⟨_,n,e,rfl,rfl,rfl⟩,z⟩
 .refine⟨b.toList,r,⟨o,n,I.kIn a o c,d,hd,by simpa using f⟩,?_⟩;have e:=r.length;simp only[zp]at e;omega
def Inv.tuple(I:Inv X pins σ H s)(h:ah X.K H a xs):∃b:List Va,Vals xs b/\IsTup s.heap a b.toArray/\xs.length<=sizeLine:=by
 rcases h with h|⟨o,b,n,c,d,f,g,r⟩
 .obtain⟨z,b,r,p⟩:=h.ok I.hok;exact⟨b,r,p,z⟩
 .refine⟨b.toList,r,⟨o,I.kIn a o c,d,n,by simpa using f⟩,?_⟩;have e:=r.length;simp only[zp]at e;omega
def Inv.list_inj(I:Inv X pins σ H s)(h:ag X.K H a xs)(h':ag X.K H a ys):xs=ys:=by
 obtain⟨c,r,⟨o,n,e,_,_,d⟩,_⟩:=I.list h;obtain⟨b,i,⟨o',k,f,_,_,g⟩,_⟩:=I.list h';rw[e]at f;cases f;rw[d]at g;injection g with j _;have:c=b:=by simpa using congrArg Array.toList j
 subst this;exact r.inj i
def Inv.tuple_inj(I:Inv X pins σ H s)(h:ah X.K H a xs)(h':ah X.K H a ys):xs=ys:=by
 obtain⟨c,r,⟨o,e,_,n,d⟩,_⟩:=I.tuple h;obtain⟨b,i,⟨o',f,_,k,g⟩,_⟩:=I.tuple h';rw[e]at f;cases f;rw[d]at g;injection g with j _;have:c=b:=by simpa using congrArg Array.toList j
 subst this;exact r.inj i
end
abbrev Cx.wish(X:Cx)(E:Va->Vc->Prop):Cx:={ X with xe:=E }
abbrev Cx.nox(X:Cx):Cx:=X.wish λ_ _=>False
theorem Cx.Ok.wish{X:Cx}(ok:X.Ok)(E:Va->Vc->Prop):(X.wish E).Ok:=
 ⟨ok.mod,ok.kind,ok.glob,ok.blt,ok.above,ok.inj,ok.has,ok.cab,ok.hd,ok.frames,ok.stk,ok.exf,ok.bs,ok.bsz,ok.noex,ok.exfs,ok.funs,ok.frf⟩
def Cx.Ok.unwish{X:Cx}(ok:(X.wish E).Ok):X.Ok:=
 ⟨ok.mod,ok.kind,ok.glob,ok.blt,ok.above,ok.inj,ok.has,ok.cab,ok.hd,ok.frames,ok.stk,ok.exf,ok.bs,ok.bsz,ok.noex,ok.exfs,ok.funs,ok.frf⟩
section
variable {X:Cx} {pins:List (Vb×Obj)} {σ:St} {H:Hp} {s:Vc} {E:Va->Vc->Prop}
theorem Inv.wish(I:Inv X pins σ H s)(E:Va->Vc->Prop):Inv (X.wish E) pins σ H s:=⟨I.ok.wish E,I.os,I.bare,I.base,I.loc,I.cell,I.free,I.freeC,I.pin,I.hok,I.len⟩
theorem Inv.unwish(I:Inv (X.wish E) pins σ H s):Inv X pins σ H s:=⟨I.ok.unwish,I.os,I.bare,I.base,I.loc,I.cell,I.free,I.freeC,I.pin,I.hok,I.len⟩
theorem SP.unwish{D:Ends}{f:Flow}{s':Vc}(h:SP (X.wish E) pins D f s'):SP X pins D f s':=by
 cases f with
 | next=>obtain⟨a,H',I,q⟩:=h;exact⟨a,H',I.unwish,q⟩
 | brk=>obtain⟨a,H',I,q⟩:=h;exact⟨a,H',I.unwish,q⟩
 | cont=>obtain⟨a,H',I,q⟩:=h;exact⟨a,H',I.unwish,q⟩
 | ret u=>obtain⟨v,a,H',I,r,q⟩:=h;exact⟨v,a,H',I.unwish,r,q⟩
theorem bM.nox{st:List Vl}{t:TS}(h:bM X.nox st t):bM X st t:=λpins s σ H D I a=>
 wpAny_mono (h pins s σ H D (I.wish _) a) (λ_ _ q=>q.unwish) λ_ _ z=>False.elim z
end
section
variable {X:Cx} {st:Vl} {rest:List Vl} {t u:TS} {e:Vk} {te:TE} {pos:Pos}
def qC:TS:=λD σ H=>D.nx σ H
def om(t u:TS):TS:=λD σ H=>t { D with nx:=u D } σ H
def aQ:bM X [] qC:=λ_ _ σ H _ I h=>wpAny_execs_nil ⟨σ,H,I,h⟩
def ai(h1:PS X st t)(h2:bM X rest u):bM X (st::rest) (om t u):=by
 intro pins s σ H D I h;refine wpAny_execs_cons (ao (h1 pins s σ H { D with nx:=u D } I h) λf s1 q=>?_);cases f with
 | next=>
  obtain⟨a,H',b,q⟩:=q;exact h2 pins s1 a H' D b q
 | ret v=>exact q
 | brk=>exact q
 | cont=>exact q
def aj(h1:PS X st t):bM X [st] t:=by
 intro pins s σ H D I h;refine wpAny_execs_cons (ao (h1 pins s σ H D I h) λf s1 q=>?_);cases f with
 | next=>exact wpAny_execs_nil q
 | ret v=>exact q
 | brk=>exact q
 | cont=>exact q
def Inv.quiet{σ:St}(I:Inv X pins σ H s):interactive X.env=false:=by simp[interactive,I.ok.kind]
def mU(te:TE):TS:=λD σ H=>te σ H λ_ H1=>D.nx σ H1
def bD(a:PE X e te)(b:swapsWith e Vp pos.line X.env=pure false:=by rfl):PS X (.Expr e pos) (mU te):=by intro pins s σ H D I h;exact wpAny_Expr_any (ao (a pins s σ H _ I h) λv s1 ⟨x,H1,c,r1,d⟩=>⟨σ,H1,c,d⟩) I.quiet b
def nY(te:TE):TS:=λD σ H=>te σ H D.rt
def ay(a:PE X e te):PS X (.Return (Vo e) pos) (nY te):=by intro pins s σ H D I h;exact wpAny_Return_some (ao (a pins s σ H _ I h) λv s1 ⟨x,H1,b,r1,c⟩=>⟨x,σ,H1,b,r1,c⟩)
def oF(c:TT)(t u:TS):TS:=λD σ H=>c σ H λb H1=>if b=true then t D σ H1 else u D σ H1
def aT{c:Vk}{a b:List Vl}{tc:TT}(g:PT X c tc)(i:bM X a t)(j:bM X b u):PS X (.If c a b pos) (oF tc t u):=by
 intro pins s σ H D I h;refine wpAny_If (ao (g pins s σ H _ I h) λd s1 ⟨H1,e,f⟩=>?_);cases d with
 | true=>exact i pins s1 σ H1 D e f
 | false=>exact j pins s1 σ H1 D e f
def yf:TS:=λ_ _ _=>False
def gX:PS X st yf:=λ_ _ _ _ _ _ h=>h.elim
end
abbrev TG:=V->St->Hp->(St->Hp->Prop)->Prop
abbrev cG:=List V->St->Hp->(St->Hp->Prop)->Prop
def PG(X:Cx)(target:Vk)(t:TG):Prop:=
 ∀(pins:List (Vb×Obj)) (s:Vc) (σ:St) (H:Hp) (v:V) (u:Va) (Q:St->Hp->Prop),Inv X pins σ H s->RelV v u->t v σ H Q ->
  Vf (Vg X.prog X.w) X.A (assign target X.env u) (λ_ s'=>∃a H',Inv X pins a H' s'/\Q a H') X.xe s
def ff(X:Cx)(ts:List Vk)(t:cG):Prop:=
 ∀(pins:List (Vb×Obj)) (s:Vc) (σ:St) (H:Hp) (vs:List V) (us:List Va) (Q:St->Hp->Prop),Inv X pins σ H s->Vals vs us->t vs σ H Q ->
  Vf (Vg X.prog X.w) X.A (assignInOrder ((assignEach ts X.env).map (·.2)) us) (λ_ s'=>∃a H',Inv X pins a H' s'/\Q a H') X.xe s
section
variable {X:Cx} {pos:Pos}
def gK(i:Nat):TG:=λv σ H Q=>Q (σ.set i (Vo v)) H
def aW{i:Nat}{x:Vn}(a:X.N.Nodup)(hi:X.N[i]?=Vo x)(b:Loc X.env.scope x)(c:X.fn x=true\/X.env.scope.names.lookup x=Vo .local:=by first|exact .inl rfl|exact .inr rfl|assumption):PG X (.Name x pos) (gK i):=by intro pins s σ H v u Q I r h;exact wpAny_assign_Name (fJ I a hi b r (λs' d=>⟨_,H,d,h⟩) c)
def mZ:cG:=λvs σ H Q=>vs=[]/\Q σ H
def o9(t:TG)(u:cG):cG:=λvs σ H Q=>∃v r,vs=v::r/\t v σ H λa H'=>u r a H' Q
def gn:ff X [] mZ:=by intro pins s σ H vs us Q I r h;obtain⟨e,h⟩:=h;subst e;cases r;exact assignInOrder_nil ⟨σ,H,I,h⟩
def bX{e:Vk}{es:List Vk}{t:TG}{u:cG}(h1:PG X e t)(h2:ff X es u)
  (b:(assignEach (e::es) X.env).map (·.2)=assign e X.env::(assignEach es X.env).map (·.2):=by rfl):ff X (e::es) (o9 t u):=by
 intro pins s σ H vs us Q I r h;obtain⟨v,i,c,h⟩:=h;subst c;cases r with
 | cons r d=>
  rw[b];refine assignInOrder_cons (ao (h1 pins s σ H _ _ _ I r h) λ_ s1 ⟨a,H1,f,g⟩=>?_);exact h2 pins s1 a H1 _ _ Q f d g
def jf(K:zg)(n:Nat)(t:cG):TG:=λv σ H Q=>∃a xs,v=.ref a/\ah K H a xs/\xs.length=n/\t xs σ H Q
def wG{es:List Vk}{k:Nat}{t:cG}(g:X.calm=true)(h:ff X es t)
  (i:(assignEach es X.env).length=n:=by rfl) (c:(assignEach es X.env).findIdx? (·.1)=Vp:=by rfl):PG X (.Tuple es k pos) (jf X.K n t):=by
 intro pins s σ H v u Q I r d;obtain⟨a,xs,j,l,m,d⟩:=d;subst j;cases r;obtain⟨p,f,q,y⟩:=I.tuple l;refine assign_Tuple_tuple (I.ok.hd g) q (by simp[i,<-m,f.length]) c λh' w=>?_;have x:Inv X pins σ H { s with heap:=h' }:=I.kept (t':=s.toks) λb o e=>w b o (zE (zj e)) e;exact h pins _ σ H xs _ Q x (by simpa using f) d
def iO(te:TE)(g:TG):TS:=λD σ H=>te σ H λx H1=>g x σ H1 D.nx
def rl{tg e:Vk}{te:TE}{g:TG}(a:PE X e te)(b:PG X tg g)(c:swapsWithSole [tg] e pos.line X.env=pure false:=by rfl)(d:swappedStores [tg] e X.env=pure Vp:=by rfl)
  (h1:(assignEach [tg] X.env).map (·.2)=[assign tg X.env]:=by rfl):PS X (.Assign [tg] e pos) (iO te g):=by
 intro pins s σ H D I h;refine wpAny_Assign_stores (ao (a pins s σ H _ I h) λv s1 ⟨x,H1,f,r1,i⟩=>?_) c d;rw[h1];exact ao (b pins s1 σ H1 x v _ f r1 i) λ_ s2 q=>q
def aL{i:Nat}{x:Vn}{e:Vk}{te:TE}{pos':Pos}(a:X.N.Nodup)(hi:X.N[i]?=Vo x)(b:Loc X.env.scope x)(c:PE X e te)(d:swapsWith e (Vo (.Name x pos')) pos.line X.env=pure false:=by rfl)(f:X.fn x=true\/X.env.scope.names.lookup x=Vo .local:=by first|exact .inl rfl|exact .inr rfl|assumption):
  PS X (.Assign [.Name x pos'] e pos) (iO te (gK i)):=by
 intro pins s σ H D I h;refine wpAny_Assign_Name (ao (c pins s σ H _ I h) λv s1 ⟨y,H1,g,r1,j⟩=>?_) d;exact fJ g a hi b r1 (λs2 k=>⟨_,H1,k,j⟩) f
def oR(i j:Nat)(ta:TA):TS:=λD σ H=>ta σ H λvs H1=>∃v w,vs=[v,w]/\D.nx ((σ.set i (Vo v)).set j (Vo w)) H1
def sd{i j:Nat}{x y:Vn}{a b:Vk}{ta:TA}{f py pt:Pos}{kt k2 pt2}(z:X.calm=true)(n:X.N.Nodup)(hi:X.N[i]?=Vo x)(B:X.N[j]?=Vo y)(g:i≠j)
  (r:X.env.scope.names.lookup x=Vo .local) (t:X.env.scope.names.lookup y=Vo .local) (C:PA X [a,b] ta)
  (E:swappedStores [.Tuple [.Name x f,.Name y py] kt pt] (.Tuple [a,b] k2 pt2) X.env=pure (Vo [x,y]))
  (F:swapsWithSole [.Tuple [.Name x f,.Name y py] kt pt] (.Tuple [a,b] k2 pt2) pos.line X.env=pure false:=by rfl) :
  PS X (.Assign [.Tuple [.Name x f,.Name y py] kt pt] (.Tuple [a,b] k2 pt2) pos) (oR i j ta):=by
 intro pins s σ H D I h;rw[exec_Assign_arm];refine ze (wpAny_standAt ?_);rw[F];refine ze (zf ?_);rw[Ai (by decide)];refine ze (Tuple_ (ao (C _ pins s σ H _ I h) λus s1 ⟨vs,H1,G,r1,k⟩=>?_));obtain⟨v,w,J,k⟩:=k;subst J;obtain⟨c,d,rfl,K,l⟩:∃c d,us=[c,d]/\RelV v c/\RelV w d:=by
  cases r1 with
  | cons p q=>
   cases q with
   | cons L M=>
    cases M;exact⟨_,_,rfl,p,L⟩
 refine wpAny_newObj_type ?_ (by show 2<=sizeLine;decide);have O:Inv X pins σ H1 { s1 with heap:=s1.heap.push { cls:=.type "tuple",data:=.seq [c,d].toArray } }:=G.kept (t':=s1.toks) λb o e=>zh _ e;rw[E];refine ze (zf ?_);show Vf (Vg X.prog X.w) X.A (do rule "assign.swapped-stores";let items <-unpackItems (.ref s1.heap.objs.size) 2 none;assignInOrder [λv=>bindName X.env y v,λv=>bindName X.env x v] items.reverse;pure Flow.next) _ _ _;refine ze (wpAny_rule (ze (unpackItems_tuple (items:=#[c,d]) (I.ok.hd z) (IsTup.new s1.heap _) λh' m=>?_)));have P:=O.kept (h':=h') (t':=s1.toks) λb o e=>m b o (zE (zj e)) e;show Vf _ _ (assignInOrder [λv=>bindName X.env y v,λv=>bindName X.env x v] [d,c] >>= λ_=>pure Flow.next) _ _ _;refine ze (assignInOrder_cons (wpAny_bindName (fJ P n B (.inl t) l (λs2 Q=>?_) (.inr t))));refine assignInOrder_cons (wpAny_bindName (fJ Q n hi (.inl r) K (λR u=>assignInOrder_nil (zf ?_)) (.inr r)));rw[List.set_comm _ _ (Ne.symm g)]at u;exact⟨_,H1,u,k⟩
def sX(c:TT)(tb:TS):TS:=λD σ H=>∃W:Nat->St->Hp->Prop,(∃m,W m σ H)/\∀m σ H,W m σ H ->
 c σ H λb H1=>if b=true then ∃N:St->Hp->Prop,(∀a H',N a H'->∃d,d<m/\W d a H')/\tb { D with nx:=N,ct:=N,bk:=D.nx } σ H1 else D.nx σ H1
def xo{c:Vk}{tc:TT}{tb:TS}(p:PassesOwn (Vg X.prog X.w) X.A X.env X.xe)(t:PT X c tc)(u:bM X body tb):PS X (.While c body [] pos) (sX tc tb):=by
 intro pins s σ H D I h;obtain⟨W,⟨x,w0⟩,turn⟩:=h;refine wpAny_While (codeAny_whileLoop (λn s'=>∃e H',Inv X pins e H' s'/\W n e H') ?_ x ⟨σ,H,I,w0⟩);rintro n s1 ⟨d,H1,y,w1⟩;refine wpAny_passesOwn p (ao (t pins s1 d H1 _ y (turn n d H1 w1)) λb s2 ⟨H2,q,i⟩=>?_);cases b with
 | true=>
  obtain⟨N,r,i⟩:=i;rw[Aj rfl];refine wpAny_passesOwn p (ao (u pins s2 d H2 _ q i) λf z j=>?_);cases f with
  | next=>
   obtain⟨a,g,k,l⟩:=j;obtain⟨m,o,w3⟩:=r a g l;exact⟨m,o,a,g,k,w3⟩
  | cont=>
   obtain⟨a,g,k,l⟩:=j;obtain⟨m,o,w3⟩:=r a g l;exact⟨m,o,a,g,k,w3⟩
  | brk=>exact j
  | ret v=>exact j
 | false=>
  rw[Ai zB];exact wpAny_execs_nil ⟨d,H2,q,i⟩
end
structure It where
 go:Nat->Hp->Prop
 yld:Nat->Hp->V->Hp->Prop
 stop:Nat->Hp->Prop
def bA(X:Cx)(pins:List (Vb×Obj))(H:Hp)(b:Vb):Prop:=
 H b=Vp/\b≠X.env.locals/\b∉X.fs/\(b∈X.ex\/X.s₀.heap.objs.size<=b)/\(∀x c,X.env.cells.lookup x=Vo c->c≠b)/\∀p∈X.pn++pins,p.1≠b
def Inv.fpOk{X:Cx}{σ:St}{H':Hp}{b:Vb}(I:Inv X pins σ H s)(a:s.heap.objs.size<=b)(d:H' b=Vp):bA X pins H' b:=by
 refine⟨d,Nat.ne_of_gt (zO I.lt a),I.nofs a,.inr (zP I.sz a),λx c e z=>?_,λp f z=>?_⟩
 .obtain⟨v,q⟩:=I.cell x c e;exact absurd (zO q.lt (by rw[z];exact a)) (Nat.lt_irrefl _)
 .exact absurd (zO (zj (I.pin p f).1) (by rw[z];exact a)) (Nat.lt_irrefl _)
structure Turn(P:Vd)(w:Ve)(K:zg)(tg:Vk)(J:It)(fp:List Vb)(it:Vb)(tn:Nat->Vh->Prop):Prop where
 mem:it∈fp
 obj:∀i h,tn i h->∀b∈fp,∃o,h.get? b=Vo o/\∀v,o.data≠.cell v
 keep:∀i h h',tn i h->(∀b∈fp,∀o,h.get? b=Vo o->h'.get? b=Vo o)->tn i h'
 item:∀(X:Cx),X.prog=P->X.w=w->X.K=K->X.calm=true->∀(i:Nat) (pins:List (Vb×Obj)) (s:Vc) (σ:St) (H:Hp) (E:Va->Vc->Prop),Inv X pins σ H s->(∀b∈fp,bA X pins H b)->tn i s.heap->J.go i H ->
  Vf (Vg P w) X.A (pyNext (.ref it)) (λr s1=>∃u,r=Vo u ∧
   Vf (Vg P w) X.A (letOwnedTupleGo tg (.ref it) u) (λ_ s2=>∃x H',Inv X pins σ H' s2/\RelV x u/\J.yld i H x H'/\tn (i+1) s2.heap/\∀b∈fp,H' b=Vp) E s1) E s
 done:∀(X:Cx),X.prog=P->X.w=w->X.K=K->X.calm=true->∀(i:Nat) (pins:List (Vb×Obj)) (s:Vc) (σ:St) (H:Hp) (E:Va->Vc->Prop),Inv X pins σ H s->(∀b∈fp,bA X pins H b)->tn i s.heap->J.stop i H ->
  Vf (Vg P w) X.A (pyNext (.ref it)) (λr s1=>r=Vp/\Inv X pins σ H s1) E s
 self:∀(A:Vi) (i:Nat) (s:Vc) (Q:Va->Vc->Prop) (E:Va->Vc->Prop),tn i s.heap->Q (.ref it) s->Vf (Vg P w) A (pyIter (.ref it)) Q E s
abbrev TI:=St->Hp->(It->Hp->Prop)->Prop
def qw(X:Cx)(pins:List (Vb×Obj))(σ:St)(tg:Vk)(R:It->Hp->Prop)(a:Va)(s2:Vc):Prop:=
 ∃(it:Vb) (fp:List Vb) (tn:Nat->Vh->Prop) (J:It) (H':Hp),a=.ref it/\Inv X pins σ H' s2/\Turn X.prog X.w X.K tg J fp it tn/\tn 0 s2.heap/\(∀b∈fp,bA X pins H' b)/\R J H'
def PI(X:Cx)(tg iter:Vk)(a:TI):Prop:=
 ∀(pins:List (Vb×Obj)) (s:Vc) (σ:St) (H:Hp) (R:It->Hp->Prop),Inv X pins σ H s->a σ H R ->
  Vf (Vg X.prog X.w) X.A (eval iter X.env) (λv s1=>Vf (Vg X.prog X.w) X.A (pyIter v) (qw X pins σ tg R) X.xe s1) X.xe s
def gP {M : Model} {A : Vi} {E : Va -> Vc -> Prop} {s : Vc} {tg : Vk} {it : Vb} {u : Va} {o : Obj} {n : String} {vs : Array Va} {Q : Unit -> Vc -> Prop} (b : s.heap.get? it = Vo o) (c : o.cls = .type n) (hd : o.data = .fields vs)
    (d : ["enumerate", "zip", "dict_itemiterator", "dict_reverseitemiterator", "odict_iterator", "itertools.zip_longest", "itertools.pairwise"].contains n = false) (a : Q () s) : Vf M A (letOwnedTupleGo tg (.ref it) u) Q E s := by
  unfold letOwnedTupleGo;cases tg <;> first
    | exact zf a
    | (cases u <;> first
        | exact zf a
        | (refine ze (wpAny_load b ?_)
           rw [c, hd];show Vf M A (if (["enumerate", "zip", "dict_itemiterator", "dict_reverseitemiterator", "odict_iterator", "itertools.zip_longest", "itertools.pairwise"].contains n && vs[0]? == Vo (rawInt _)) = true then _ else _) Q E s;rw [Ai (by intro h; rw [d, Bool.false_and] at h; cases h)];exact zf a))
def cD(K:zg)(a:Vb):It:=
 ⟨λi H=>∃xs x,ag K H a xs/\xs[i]?=Vo x,λi H x H'=>H'=H/\∀xs,ag K H a xs->xs[i]?=Vo x,λi H=>∃xs,ag K H a xs/\xs.length<=i⟩
def cP(K:zg)(a:Vb):It:=
 ⟨λi H=>∃xs x,ah K H a xs/\xs[i]?=Vo x,λi H x H'=>H'=H/\∀xs,ah K H a xs->xs[i]?=Vo x,λi H=>∃xs,ah K H a xs/\xs.length<=i⟩
def dP(lo:Int)(n:Nat):It:=⟨λi _=>i<n,λi H x H'=>H'=H/\x=.int (lo+i),λi _=>n<=i⟩
def iI{K:zg}(a it:Vb):Turn P w K tg (cD K a) [it] it (λi h=>h.IsListIter it a i) where
 mem:=by simp
 obj:=λi h st b f=>by
  have e:b=it:=by simpa using f
  subst e;obtain⟨o,e,c,d⟩:=st;exact⟨o,e,λv z=>by rw[d]at z;cases z⟩
 keep:=λi h h' st k=>st.at λo e=>k it (by simp) o e
 item:=by intro X m n q L i pins s σ H E I j st r;subst m n q;obtain⟨xs,x,l,t⟩:=r;obtain⟨y,A,p,M⟩:=I.list l;obtain⟨u,N,O⟩:=A.get t;obtain⟨B,C,Q,F,G,J⟩:=j it (by simp);refine wpAny_pyNext_list_item st p.isList (x:=u) (by simpa using N) λh' g sb=>?_;have R:Inv X pins σ H { s with heap:=h' }:=I.turned (t':=s.toks) (λb o f e=>(sb.2 b f).trans e) B C F G J;obtain⟨o,e,c,d⟩:=id g;exact⟨u,rfl,gP (s:={ s with heap:=h' }) e c d (by decide) ⟨x,H,R,O,⟨rfl,λys S=>by rw[I.list_inj S l];exact t⟩,g,λb f=>(j b f).1⟩⟩
 done:=by intro X m n q L i pins s σ H E I j st r;subst m n q;obtain⟨xs,l,t⟩:=r;obtain⟨y,A,p,M⟩:=I.list l;obtain⟨B,C,Q,F,G,J⟩:=j it (by simp);have U:=A.length;exact wpAny_pyNext_list_end (I.ok.hd L) st p.isList (by simp;omega) λh' T=>⟨rfl,I.turned (t':=s.toks) (λb o f e=>T b o f e) B C F G J⟩
 self:=λ_ _ _ _ _ st h=>wpAny_pyIter_listiter st h
def tX{K:zg}(a it:Vb):Turn P w K tg (cP K a) [it] it (λi h=>h.IsTupleIter it a i) where
 mem:=by simp
 obj:=λi h st b f=>by
  have e:b=it:=by simpa using f
  subst e;obtain⟨o,e,c,d⟩:=st;exact⟨o,e,λv z=>by rw[d]at z;cases z⟩
 keep:=λi h h' st k=>st.at λo e=>k it (by simp) o e
 item:=by intro X n q r L i pins s σ H E I l st t;subst n q r;obtain⟨xs,x,m,y⟩:=t;obtain⟨g,A,p,M⟩:=I.tuple m;obtain⟨u,N,O⟩:=A.get y;obtain⟨B,C,Q,F,G,J⟩:=l it (by simp);refine wpAny_pyNext_tuple_item st (show s.heap.IsTuple a g.toArray from p) (x:=u) (by simpa using N) λh' j sb=>?_;have R:Inv X pins σ H { s with heap:=h' }:=I.turned (t':=s.toks) (λb o f e=>(sb.2 b f).trans e) B C F G J;obtain⟨o,e,c,d⟩:=id j;exact⟨u,rfl,gP (s:={ s with heap:=h' }) e c d (by decide) ⟨x,H,R,O,⟨rfl,λys S=>by rw[I.tuple_inj S m];exact y⟩,j,λb f=>(l b f).1⟩⟩
 done:=by intro X n q r L i pins s σ H E I l st t;subst n q r;obtain⟨xs,m,y⟩:=t;obtain⟨g,A,p,M⟩:=I.tuple m;obtain⟨B,C,Q,F,G,J⟩:=l it (by simp);have U:=A.length;exact wpAny_pyNext_tuple_end (I.ok.hd L) st (show s.heap.IsTuple a g.toArray from p) (by simp;omega) λh' T=>⟨rfl,I.turned (t':=s.toks) (λb o f e=>T b o f e) B C F G J⟩
 self:=λ_ _ _ _ _ st h=>wpAny_pyIter_tupleiter st h
def vC{K:zg}(it:Vb)(lo:Int)(n:Nat):Turn P w K tg (dP lo n) [it] it (λi h=>IsRangeIter h it (lo+(i:Nat)*1) ((n:Int)-(i:Nat)) 1) where
 mem:=by simp
 obj:=λi h st b a=>by
  have e:b=it:=by simpa using a
  subst e;exact⟨_,st,λv z=>by have y:Data.fields _=Data.cell v:=z;cases y⟩
 keep:=λi h h' st k=>k it (by simp) _ st
 item:=by intro X f g j l i pins s σ H E I d st m;subst f g j;obtain⟨p,q,A,r,u,x⟩:=d it (by simp);have W:=Walks.range (prog:=X.prog) (w:=X.w) (I.ok.hd l) it lo 1 n;refine W.item i s _ _ m st λv h' tk B c C=>?_;obtain⟨t,rfl⟩:=B;have F:Inv X pins σ H { s with heap:=h',toks:=tk }:=I.turned (λb o a e=>C b o (by simpa using a) e) p q r u x;refine⟨_,rfl,gP (s:={ s with heap:=h',toks:=tk }) (n:="range_iterator") c rfl rfl (by decide) ⟨.int (lo+i),H,F,⟨t,?_⟩,⟨rfl,rfl⟩,c,λb a=>(d b a).1⟩⟩;rw[Int.mul_one]
 done:=by intro X f g j l i pins s σ H E I d st m;subst f g j;obtain⟨p,q,A,r,u,x⟩:=d it (by simp);exact wpAny_pyNext_range_end (I.ok.hd l) st (by have:n<=i:=m;omega) λh' G=>⟨rfl,I.turned (t':=s.toks) (λb o a e=>G b o a e) p q r u x⟩
 self:=λ_ _ _ _ _ st h=>wpAny_pyIter_rangeiter st h
section
variable {X:Cx} {tg:Vk}
def jl(K:zg)(tl:TE):TI:=λσ H R=>tl σ H λx H1=>∃a,x=.ref a/\(∃xs,ag K H1 a xs)/\R (cD K a) H1
def lW(K:zg)(tl:TE):TI:=λσ H R=>tl σ H λx H1=>∃a,x=.ref a/\(∃xs,ah K H1 a xs)/\R (cP K a) H1
def sN{l:Vk}{tl:TE}(d:PE X l tl):PI X tg l (jl X.K tl):=by
 intro pins s σ H R I h;refine ao (d pins s σ H _ I h) λv s1 ⟨x,H1,c,r1,f⟩=>?_;obtain⟨a,e,⟨xs,g⟩,q⟩:=f;subst e;cases r1;obtain⟨i,k,p,m⟩:=c.list g;refine wpAny_pyIter_list p.isList ?_;refine⟨s1.heap.objs.size,[s1.heap.objs.size],_,_,H1,rfl,c.kept (t':=s1.toks) λb o e=>zh _ e,iI a _,⟨_,zi _ rfl,rfl,rfl⟩,λb j=>?_,q⟩;have e:b=s1.heap.objs.size:=by simpa using j
 subst e;exact c.fpOk (zF _) (c.hok.fresh (zF _))
def wj{l:Vk}{tl:TE}(f:PE X l tl):PI X tg l (lW X.K tl):=by
 intro pins s σ H R I h;refine ao (f pins s σ H _ I h) λv s1 ⟨x,H1,c,r1,g⟩=>?_;obtain⟨a,e,⟨xs,i⟩,q⟩:=g;subst e;cases r1;obtain⟨d,k,p,m⟩:=c.tuple i;refine wpAny_pyIter_tuple (show s1.heap.IsTuple a d.toArray from p) ?_;refine⟨s1.heap.objs.size,[s1.heap.objs.size],_,_,H1,rfl,c.kept (t':=s1.toks) λb o e=>zh _ e,tX a _,⟨_,zi _ rfl,rfl,rfl⟩,λb j=>?_,q⟩;have e:b=s1.heap.objs.size:=by simpa using j
 subst e;exact c.fpOk (zF _) (c.hok.fresh (zF _))
def xA{σ:St}{R:It->Hp->Prop}{lo hi:Int}{t u v:Tok}{tk:Nat}(I:Inv X pins σ H s)(h1:-(2 ^ 62)<=lo)(h2:lo<2 ^ 62)(c:-(2 ^ 62)<=hi)(d:hi<2 ^ 62)
  (q:R (dP lo (hi-lo).toNat) H):Vf (Vg X.prog X.w) X.A (pyIter (.ref s.heap.objs.size)) (qw X pins σ tg R) E { s with heap:=s.heap.push { cls:=.type "range",data:=.fields #[.int lo t,.int hi u,.int 1 v] },toks:=tk }:=by
 refine wpAny_pyIter_range (IsRange.new ..) (small_one h1 h2 c d) ?_;have a:Inv X pins σ H { s with heap:=s.heap.push { cls:=.type "range",data:=.fields #[.int lo t,.int hi u,.int 1 v] },toks:=tk }:=I.kept λb o e=>zh _ e;refine⟨(s.heap.push { cls:=.type "range",data:=.fields #[.int lo t,.int hi u,.int 1 v] }).objs.size,[(s.heap.push { cls:=.type "range",data:=.fields #[.int lo t,.int hi u,.int 1 v] }).objs.size],_,_,H,rfl,
  a.kept (t':=tk) λb o e=>zh _ e,vC _ lo (hi-lo).toNat,?_,λb f=>?_,q⟩
 .have g:lo+((0:Nat):Int)*1=lo:=by simp
  have h:(((hi-lo).toNat:Nat):Int)-((0:Nat):Int)=Builtin.Range.rangeSize lo hi 1:=by rw[rangeSize_one];split<;>omega
  show IsRangeIter _ _ (lo+((0:Nat):Int)*1) ((((hi-lo).toNat:Nat):Int)-((0:Nat):Int)) 1;rw[g,h];exact zi _ rfl
 .have e:b=(s.heap.push { cls:=.type "range",data:=.fields #[.int lo t,.int hi u,.int 1 v] }).objs.size:=by simpa using f
  subst e;exact a.fpOk (zF _) (a.hok.fresh (zF _))
def nM(ta:TA):TI:=λσ H R=>ta σ H λvs H1=>∃j:Int,vs=[.int j]/\-(2 ^ 62)<=j/\j<2 ^ 62/\R (dP 0 j.toNat) H1
def fR{a:Vk}{ta:TA}{p pos:Pos}(c:Gl X "range")(d:X.mg "range" = Vp)(f:PA X [a] ta)(g:starEach [a] X.env=[(false,eval a X.env)]:=by rfl):PI X tg (.Call (.Name "range" p) [a] [] pos) (nM ta):=by
 intro pins s σ H R I h;refine Call_ (gJ I c d boot_range (PyProof.Rows.callWith_type1 (ao (f pos pins s σ H _ I h) λus s1 ⟨vs,H1,i,r1,b⟩=>?_) g rfl));obtain⟨j,e,b,k,q⟩:=b;subst e;cases r1 with
 | cons r l=>
  cases l;obtain⟨t,rfl⟩:=r;exact call_range_1 (xA i (by omega) (by omega) b k (by simpa using q))
def rQ(d:TI)(g:TG)(tb:TS):TS:=λD σ H=>d σ H λJ H1=>∃W:Nat->Nat->St->Hp->Prop,(∃m,W 0 m σ H1)/\∀i m σ H,W i m σ H ->
 (J.stop i H/\D.nx σ H)\/(J.go i H/\∃N:St->Hp->Prop,(∀a H',N a H'->∃c,c<m/\W (i+1) c a H')/\∀x H',J.yld i H x H'->g x σ H' λb H2=>tb { D with nx:=N,ct:=N,bk:=D.nx } b H2)
def cU(fp:List Vb)(h:Vh):List (Vb×Obj):=fp.filterMap λb=>(h.get? b).map λo=>(b,o)
def ik{b:Vb}{o:Obj}(a:b∈fp)(e:h.get? b=Vo o):(b,o)∈cU fp h:=List.mem_filterMap.mpr ⟨b,a,by rw[e];rfl⟩
def lZ{p:Vb×Obj}(a:p∈cU fp h):p.1∈fp/\h.get? p.1=Vo p.2:=by
 obtain⟨b,c,e⟩:=List.mem_filterMap.mp a;cases q:h.get? b with
 | none=>rw[q]at e;cases e
 | some o=>
  rw[q]at e;have d:(b,o)=p:=zV e;subst d;exact⟨c,q⟩
def Inv.pinned{σ:St}(I:Inv X pins σ H s)(f:∀b∈fp,bA X pins H b)(g:∀b∈fp,∃o,s.heap.get? b=Vo o/\∀v,o.data≠.cell v):Inv X (pins++cU fp s.heap) σ H s:=
 I.pins_of λp h=>(zI.mp h).elim (λz=>I.pin p (zW _ z)) λz=>by obtain⟨a,e⟩:=lZ z;obtain⟨i,j,k,_⟩:=f p.1 a;obtain⟨o,c,d⟩:=g p.1 a;rw[e]at c;cases c;exact⟨e,i,j,k,d⟩
def Inv.unpinned{pl:List (Vb×Obj)}{σ:St}(I:Inv X (pins++pl) σ H s):Inv X pins σ H s:=I.pins_of λp a=>I.pin p (zW _ (zX _ a))
def dH{iter:Vk}{P:TI}{g:TG}{tb:TS}{pos:Pos}(y:PassesOwn (Vg X.prog X.w) X.A X.env X.xe)(Q:X.calm=true)(hi:PI X tg iter P)(hg:PG X tg g)(c:bM X body tb)
  (hs:∀x,foldedSetIterable iter X.env x=pure x:=by intro _;rfl):PS X (.For tg iter body [] pos) (rQ P g tb):=by
 intro pins s σ H D I h;refine wpAny_For (ao (hi pins s σ H _ I h) λv s1 h1=>ao h1 λa0 s2 h2=>?_) hs;obtain⟨it,fp,tn,J,H2,e,I2,T,F,R,W,⟨m0,w0⟩,turn⟩:=h2;subst e;have stat:∀{H':Hp},(∀b∈fp,H' b=Vp)->∀b∈fp,bA X pins H' b:=λhn b c=>⟨hn b c,(R b c).2⟩;refine codeAny_forLoop_any (λn s'=>∃i j H',Inv X pins j H' s'/\tn i s'.heap/\(∀b∈fp,H' b=Vp)/\W i n j H') ?_ m0 ⟨0,σ,H2,I2,F,λb c=>(R b c).1,w0⟩;rintro n S ⟨i,k,E,U,z,B,w3⟩;rcases turn i n k E w3 with⟨stop,qn⟩|⟨go,N,hN,step⟩
 .refine wpAny_passesOwn y (ao (T.done X rfl rfl rfl Q i pins S k E X.xe U (stat B) z stop) λr s4 ⟨G,I4⟩=>?_);subst G;exact wpAny_execs_nil ⟨k,E,I4,qn⟩
 .refine wpAny_passesOwn y (ao (T.item X rfl rfl rfl Q i pins S k E X.xe U (stat B) z go) λr s4 ⟨u,G,h4⟩=>?_);subst G;refine wpAny_passesOwn y (ao h4 λ_ Y ⟨x,Z,I5,r5,y5,t,K⟩=>?_);have L:=I5.pinned (stat K) (T.obj _ _ t);refine wpAny_passesOwn y (ao (hg _ Y k Z x u _ L r5 (step x Z y5)) λ_ s6 ⟨M,H6,I6,q6⟩=>?_);refine wpAny_passesOwn y (ao (c _ s6 M H6 _ I6 q6) λf O q=>?_);have again:∀{a:St} {l:Hp},Inv X (pins++cU fp Y.heap) a l O->N a l->∃m,m<n/\∃i j H',Inv X pins j H' O/\tn i O.heap/\(∀b∈fp,H' b=Vp)/\W i m j H':=λ{a l} p C=>by obtain⟨m',hm,w7⟩:=hN a l C;refine⟨m',hm,i+1,a,l,p.unpinned,T.keep _ _ _ t λb c o e=>(p.pin (b,o) (zW _ (zW _ (ik c e)))).1,λb c=>?_,w7⟩;obtain⟨o,e,d⟩:=T.obj _ _ t b c;exact(p.pin (b,o) (zW _ (zW _ (ik c e)))).2.1
  cases f with
  | next=>obtain⟨a,l,p,C⟩:=q;exact again p C
  | cont=>obtain⟨a,l,p,C⟩:=q;exact again p C
  | brk=>obtain⟨a,l,p,q⟩:=q;exact⟨a,l,p.unpinned,q⟩
  | ret v=>obtain⟨x7,a,l,p,r7,q⟩:=q;exact⟨x7,a,l,p.unpinned,r7,q⟩
end
def tZ{K:zg}{a:Vb}{g:TG}{tb:TS}{D:Ends}{σ:St}(Pv:Nat->St->Hp->Prop)(f:Pv 0 σ H)(h:∀i σ H,i<=xs.length->Pv i σ H->ag K H a xs)
  (j:∀i x σ H,xs[i]?=Vo x->Pv i σ H->g x σ H λb H2=>tb { D with nx:=Pv (i+1),ct:=Pv (i+1),bk:=D.nx } b H2) (hd:∀σ H,Pv xs.length σ H->D.nx σ H) :
  ∃W:Nat->Nat->St->Hp->Prop,(∃m,W 0 m σ H)/\∀i m σ H,W i m σ H ->
   ((cD K a).stop i H/\D.nx σ H)\/((cD K a).go i H/\∃N:St->Hp->Prop,(∀c H',N c H'->∃d,d<m/\W (i+1) d c H')/\∀x H',(cD K a).yld i H x H'->g x σ H' λb H2=>tb { D with nx:=N,ct:=N,bk:=D.nx } b H2):=by
 refine⟨λi m σ H=>m=xs.length-i/\i<=xs.length/\Pv i σ H,⟨xs.length,by simp,Nat.zero_le _,f⟩,?_⟩;rintro i m σ H ⟨rfl,hi,p⟩;have q:=h i σ H hi p;by_cases hlt:i<xs.length
 .refine .inr ⟨⟨xs,xs[i],q,by simp[hlt]⟩,Pv (i+1),λc H' k=>⟨xs.length-(i+1),by omega,rfl,hlt,k⟩,λx H' y=>?_⟩;obtain⟨e,y⟩:=y;subst e;exact j i x σ _ (y xs q) p
 .have e:i=xs.length:=by omega
  subst e;exact .inl ⟨⟨xs,q,zF _⟩,hd σ H p⟩
def xp{K:zg}{a:Vb}{g:TG}{tb:TS}{D:Ends}{σ:St}(Pv:Nat->St->Hp->Prop)(f:Pv 0 σ H)(h:∀i σ H,i<=xs.length->Pv i σ H->ah K H a xs)
  (j:∀i x σ H,xs[i]?=Vo x->Pv i σ H->g x σ H λb H2=>tb { D with nx:=Pv (i+1),ct:=Pv (i+1),bk:=D.nx } b H2) (hd:∀σ H,Pv xs.length σ H->D.nx σ H) :
  ∃W:Nat->Nat->St->Hp->Prop,(∃m,W 0 m σ H)/\∀i m σ H,W i m σ H ->
   ((cP K a).stop i H/\D.nx σ H)\/((cP K a).go i H/\∃N:St->Hp->Prop,(∀c H',N c H'->∃d,d<m/\W (i+1) d c H')/\∀x H',(cP K a).yld i H x H'->g x σ H' λb H2=>tb { D with nx:=N,ct:=N,bk:=D.nx } b H2):=by
 refine⟨λi m σ H=>m=xs.length-i/\i<=xs.length/\Pv i σ H,⟨xs.length,by simp,Nat.zero_le _,f⟩,?_⟩;rintro i m σ H ⟨rfl,hi,p⟩;have q:=h i σ H hi p;by_cases hlt:i<xs.length
 .refine .inr ⟨⟨xs,xs[i],q,by simp[hlt]⟩,Pv (i+1),λc H' k=>⟨xs.length-(i+1),by omega,rfl,hlt,k⟩,λx H' y=>?_⟩;obtain⟨e,y⟩:=y;subst e;exact j i x σ _ (y xs q) p
 .have e:i=xs.length:=by omega
  subst e;exact .inl ⟨⟨xs,q,zF _⟩,hd σ H p⟩
def uc{lo:Int}{g:TG}{tb:TS}{D:Ends}{σ:St}(Pv:Nat->St->Hp->Prop)(d:Pv 0 σ H)
  (f:∀i σ H,i<n->Pv i σ H->g (.int (lo+i)) σ H λa H2=>tb { D with nx:=Pv (i+1),ct:=Pv (i+1),bk:=D.nx } a H2) (hd:∀σ H,Pv n σ H->D.nx σ H) :
  ∃W:Nat->Nat->St->Hp->Prop,(∃m,W 0 m σ H)/\∀i m σ H,W i m σ H ->
   ((dP lo n).stop i H/\D.nx σ H)\/((dP lo n).go i H/\∃N:St->Hp->Prop,(∀b H',N b H'->∃c,c<m/\W (i+1) c b H')/\∀x H',(dP lo n).yld i H x H'->g x σ H' λa H2=>tb { D with nx:=N,ct:=N,bk:=D.nx } a H2):=by
 refine⟨λi m σ H=>m=n-i/\i<=n/\Pv i σ H,⟨n,by simp,Nat.zero_le _,d⟩,?_⟩;rintro i m σ H ⟨rfl,hi,p⟩;by_cases hlt:i<n
 .refine .inr ⟨hlt,Pv (i+1),λb H' h=>⟨n-(i+1),by omega,rfl,hlt,h⟩,λx H' y=>?_⟩;obtain⟨e,y⟩:=y;subst e y;exact f i σ _ hlt p
 .have e:i=n:=by omega
  subst e;exact .inl ⟨zF _,hd σ H p⟩
abbrev R2:=V->V->Hp->VK->Prop
def aU(X:Cx)(f:Va->Va->Sem Va)(r:R2):Prop:=
 ∀(pins:List (Vb×Obj)) (s:Vc) (σ:St) (H:Hp) (x y:V) (v u:Va) (Q:VK),Inv X pins σ H s->RelV x v->RelV y u->r x y H Q ->
  Vf (Vg X.prog X.w) X.A (f v u) (EP X pins σ Q) X.xe s
def jR(X:Cx)(f:Va->Sem Va)(r:V->Hp->VK->Prop):Prop:=
 ∀(pins:List (Vb×Obj)) (s:Vc) (σ:St) (H:Hp) (x:V) (v:Va) (Q:VK),Inv X pins σ H s->RelV x v->r x H Q ->
  Vf (Vg X.prog X.w) X.A (f v) (EP X pins σ Q) X.xe s
def cc(X:Cx)(f:Va)(r:List V->Hp->VK->Prop):Prop:=
 ∀(pins:List (Vb×Obj)) (s:Vc) (σ:St) (H:Hp) (xs:List V) (us:List Va) (Q:VK),Inv X pins σ H s->Vals xs us->r xs H Q ->
  Vf (Vg X.prog X.w) X.A (call f us) (EP X pins σ Q) X.xe s
def vm(X:Cx)(r:V->Hp->(Bool->Hp->Prop)->Prop):Prop:=
 ∀(pins:List (Vb×Obj)) (s:Vc) (σ:St) (H:Hp) (x:V) (v:Va) (Q:Bool->Hp->Prop),Inv X pins σ H s->RelV x v->r x H Q ->
  Vf (Vg X.prog X.w) X.A (truthy v) (TP X pins σ Q) X.xe s
def gw(r:R2)(ta tb:TE):TE:=λσ H Q=>ta σ H λx H1=>tb σ H1 λy H2=>r x y H2 Q
def qj(r:V->Hp->VK->Prop)(ta:TE):TE:=λσ H Q=>ta σ H λx H1=>r x H1 Q
def rI(C:Int->Int->Prop)(g:Int->Int->V):R2:=λx y H Q=>∃i j,x=.int i/\y=.int j/\C i j/\Q (g i j) H
def dJ(g:Int->Int->V):R2:=λx y H Q=>∃i j,x=.int i/\y=.int j/\Q (g i j) H
def rU(g:Int->V):V->Hp->VK->Prop:=λx H Q=>∃i,x=.int i/\Q (g i) H
section
variable {X:Cx} {a b c:Vk} {ta tb tc:TE} {pos:Pos}
def lq(e:PE X a ta)(g:PE X b tb){σ:St}{R:V->V->Hp->Prop}(I:Inv X pins σ H s)
  (h:ta σ H λx H1=>tb σ H1 λy H2=>R x y H2) {Q:Va->Vc->Prop} {f:Va->Va->Sem Va}
  (i:∀v u s2 x y H2,Inv X pins σ H2 s2->RelV x v->RelV y u->R x y H2->Vf (Vg X.prog X.w) X.A (f v u) Q X.xe s2) :
  Vf (Vg X.prog X.w) X.A (eval a X.env) (λv c=>Vf (Vg X.prog X.w) X.A (eval b X.env) (λu d=>Vf (Vg X.prog X.w) X.A (f v u) Q X.xe d) X.xe c) X.xe s:=by
 refine ao (e pins s σ H _ I h) λv s1 ⟨x,H1,j,r1,k⟩=>?_;refine ao (g pins s1 σ H1 _ j k) λu s2 ⟨y,H2,l,m,n⟩=>?_;exact i v u s2 x y H2 l r1 m n
def aq{op:Operator}{r:R2}(c:aU X (binaryOp op) r)(d:PE X a ta)(e:PE X b tb):PE X (.BinOp a op b pos) (gw r ta tb):=by intro pins s σ H Q I h;exact wpAny_BinOp (lq d e I h λv u s2 x y H2 f g i q=>c pins s2 σ H2 x y v u Q f g i q)
def pE{op:UnaryOp}{r:V->Hp->VK->Prop}(b:jR X (unaryOp op) r)(c:PE X a ta):PE X (.UnaryOp op a pos) (qj r ta):=by intro pins s σ H Q I h;exact UnaryOp_ (ao (c pins s σ H _ I h) λv s1 ⟨x,H1,d,r1,e⟩=>b pins s1 σ H1 x v Q d r1 e)
def ib{f:Va->Va->Sem Va}{C:Int->Int->Prop}{g:Int->Int->Int}
  (rule:∀(i j:Int) (t u:Tok) (s:Vc) (Q:Va->Vc->Prop) (E:Va->Vc->Prop),C i j->Q (.int (g i j) s.toks) { s with toks:=s.toks+1 }->Vf (Vg X.prog X.w) X.A (f (.int i t) (.int j u)) Q E s) :
  aU X f (rI C λi j=>.int (g i j)):=by
 intro pins s σ H x y v u Q I a b h;obtain⟨i,j,rfl,rfl,c,q⟩:=h;obtain⟨t,rfl⟩:=a;obtain⟨d,rfl⟩:=b;exact rule i j t d s _ _ c ⟨.int (g i j),H,I.tok _,⟨_,rfl⟩,q⟩
def qi{f:Va->Va->Sem Va}{g:Int->Int->Int}
  (rule:∀(i j:Int) (t u:Tok) (s:Vc) (Q:Va->Vc->Prop) (E:Va->Vc->Prop),Q (.int (g i j) s.toks) { s with toks:=s.toks+1 }->Vf (Vg X.prog X.w) X.A (f (.int i t) (.int j u)) Q E s) :
  aU X f (dJ λi j=>.int (g i j)):=by
 intro pins s σ H x y v u Q I a b h;obtain⟨i,j,rfl,rfl,q⟩:=h;obtain⟨t,rfl⟩:=a;obtain⟨c,rfl⟩:=b;exact rule i j t c s _ _ ⟨.int (g i j),H,I.tok _,⟨_,rfl⟩,q⟩
def iB{f:Va->Va->Sem Va}{g:Int->Int->Bool}
  (rule:∀(i j:Int) (t u:Tok) (s:Vc) (Q:Va->Vc->Prop) (E:Va->Vc->Prop),Q (.bool (g i j)) s->Vf (Vg X.prog X.w) X.A (f (.int i t) (.int j u)) Q E s) :
  aU X f (dJ λi j=>.bl (g i j)):=by
 intro pins s σ H x y v u Q I a b h;obtain⟨i,j,rfl,rfl,q⟩:=h;obtain⟨t,rfl⟩:=a;obtain⟨c,rfl⟩:=b;exact rule i j t c s _ _ ⟨.bl (g i j),H,I,rfl,q⟩
def p9(i j:Int):Prop:=0<=j/\j<=1000000/\i.natAbs<2 ^ 64
def i8(i j:Int):Prop:=(-(2 ^ 64)<i/\i<2 ^ 64)\/(-(2 ^ 64)<j/\j<2 ^ 64)
def i8.ok{i j:Int}(h:i8 i j):IntMulOk i j:=by
 rcases h with⟨h1,h2⟩|⟨h1,h2⟩
 .exact .of_left (intBits_le_64 h1 h2)
 .exact .of_right (intBits_le_64 h1 h2)
def aX:aU X (binaryOp .Add) (dJ λi j=>.int (i+j)):=qi λ_ _ _ _ _ _ _ q=>add_int q
def du:aU X (binaryOp .Sub) (dJ λi j=>.int (i-j)):=qi λ_ _ _ _ _ _ _ q=>sub_int q
def dD:aU X (binaryOp .Mult) (rI i8 λi j=>.int (i*j)):=ib λ_ _ _ _ _ _ _ a q=>mul_int q a.ok
def cp:aU X (binaryOp .Mod) (rI (λ_ j=>0<j) λi j=>.int (i % j)):=ib λi j _ _ _ _ _ a q=>by have h1:(0:Int)<j:=a;exact mod_int' (by omega) (by rw[Int.fmod_eq_emod_of_nonneg i (by omega)];exact q)
def gZ:aU X (binaryOp .Pow) (rI p9 λi j=>.int (i ^ j.toNat)):=ib λ_ _ _ _ _ _ _ a q=>pow_int_small a.1 a.2.1 a.2.2 q
def wO{f:Va->Sem Va}{g:Int->Int}
  (rule:∀(i:Int) (t:Tok) (s:Vc) (Q:Va->Vc->Prop) (E:Va->Vc->Prop),Q (.int (g i) s.toks) { s with toks:=s.toks+1 }->Vf (Vg X.prog X.w) X.A (f (.int i t)) Q E s) :
  jR X f (rU λi=>.int (g i)):=by
 intro pins s σ H x v Q I a h;obtain⟨i,rfl,q⟩:=h;obtain⟨t,rfl⟩:=a;exact rule i t s _ _ ⟨.int (g i),H,I.tok _,⟨_,rfl⟩,q⟩
def oZ:jR X (unaryOp .USub) (rU λi=>.int (-i)):=wO λ_ _ _ _ _ q=>neg_int q
end
def n8:V->V->Bool
 | .non,.non=>true|.non,.int _=>true|.int _,.non=>true|.non,.bl _=>true|.bl _,.non=>true|.non,.str _=>true|.str _,.non=>true
 | .int _,.int _=>true|.bl _,.bl _=>true|.str _,.str _=>true|.byt _,.byt _=>true
 | .int _,.str _=>true|.str _,.int _=>true|.bl _,.str _=>true|.str _,.bl _=>true
 | _,_=>false
def mx:R2:=λx y H Q=>n8 x y=true/\Q (.bl (decide (x=y))) H
def lM:R2:=λx y H Q=>n8 x y=true/\Q (.bl (!decide (x=y))) H
def ni{i j:Int}:decide (V.int i=V.int j)=(i == j):=by rw[zS];simp
def nz{i j:Bool}:decide (V.bl i=V.bl j)=(i == j):=by rw[zS];simp
def gN{i j:Vn}:decide (V.str i=V.str j)=(i == j):=by rw[zS];simp
def pY{i j:Array UInt8}:decide (V.byt i=V.byt j)=(i.toList == j.toList):=by rw[zS];cases i;cases j;simp
section
variable {X:Cx} {a b c:Vk} {ta tb tc:TE} {pos:Pos}
def aZ{σ:St}{Q:VK}{k a:Bool}(I:Inv X pins σ H s)(q:Q (.bl k) H)(e:k=a):EP X pins σ Q (.bool a) s:=by subst e;exact⟨.bl k,H,I,rfl,q⟩
def cn:aU X (compareOp .Eq) mx:=by
 intro pins s σ H x y v u Q I d a h;obtain⟨c,q⟩:=h;cases x with
 | non=>
  cases d;cases y with
  | non=>cases a;exact PySem.EqNone.eq_none_none (aZ I q (by simp))
  | bl j=>cases a;exact PySem.EqNone.eq_none_bool (aZ I q (by simp))
  | int j=>obtain⟨b,rfl⟩:=a;exact PySem.EqNone.eq_none_int (aZ I q (by simp))
  | str j=>obtain⟨b,rfl⟩:=a;exact PySem.EqNone.eq_none_str (aZ I q (by simp))
  | _=>exact absurd (show false=true from c) zB
 | bl i=>
  cases d;cases y with
  | non=>cases a;exact PySem.EqNone.eq_bool_none (aZ I q (by simp))
  | bl j=>cases a;exact eq_bool (aZ I q nz)
  | str j=>obtain⟨b,rfl⟩:=a;exact PySem.EqMixed.eq_bool_str (aZ I q (by simp))
  | _=>exact absurd (show false=true from c) zB
 | int i=>
  obtain⟨t,rfl⟩:=d;cases y with
  | non=>cases a;exact PySem.EqNone.eq_int_none (aZ I q (by simp))
  | int j=>obtain⟨b,rfl⟩:=a;exact eq_int (aZ I q ni)
  | str j=>obtain⟨b,rfl⟩:=a;exact PySem.EqMixed.eq_int_str (aZ I q (by simp))
  | _=>exact absurd (show false=true from c) zB
 | str i=>
  obtain⟨t,rfl⟩:=d;cases y with
  | non=>cases a;exact PySem.EqNone.eq_str_none (aZ I q (by simp))
  | bl j=>cases a;exact PySem.EqMixed.eq_str_bool (aZ I q (by simp))
  | int j=>obtain⟨b,rfl⟩:=a;exact PySem.EqMixed.eq_str_int (aZ I q (by simp))
  | str j=>obtain⟨b,rfl⟩:=a;exact eq_str (aZ I q gN)
  | _=>exact absurd (show false=true from c) zB
 | byt i=>
  obtain⟨t,rfl⟩:=d;cases y with
  | byt j=>obtain⟨b,rfl⟩:=a;exact PySem.W.eq_bytes (aZ I q pY)
  | _=>exact absurd (show false=true from c) zB
 | _=>cases y<;>exact absurd (show false=true from c) zB
def cT:aU X (compareOp .NotEq) lM:=by
 intro pins s σ H x y v u Q I d a h;obtain⟨c,q⟩:=h;cases x with
 | non=>
  cases d;cases y with
  | non=>cases a;exact PySem.EqNone.ne_none_none (aZ I q (by simp))
  | bl j=>cases a;exact PySem.EqNone.ne_none_bool (aZ I q (by simp))
  | int j=>obtain⟨b,rfl⟩:=a;exact PySem.EqNone.ne_none_int (aZ I q (by simp))
  | str j=>obtain⟨b,rfl⟩:=a;exact PySem.EqNone.ne_none_str (aZ I q (by simp))
  | _=>exact absurd (show false=true from c) zB
 | bl i=>
  cases d;cases y with
  | non=>cases a;exact PySem.EqNone.ne_bool_none (aZ I q (by simp))
  | bl j=>cases a;exact ne_bool (aZ I q (congrArg not nz))
  | str j=>obtain⟨b,rfl⟩:=a;exact PySem.EqMixed.ne_bool_str (aZ I q (by simp))
  | _=>exact absurd (show false=true from c) zB
 | int i=>
  obtain⟨t,rfl⟩:=d;cases y with
  | non=>cases a;exact PySem.EqNone.ne_int_none (aZ I q (by simp))
  | int j=>obtain⟨b,rfl⟩:=a;exact ne_int (aZ I q (congrArg not ni))
  | str j=>obtain⟨b,rfl⟩:=a;exact PySem.EqMixed.ne_int_str (aZ I q (by simp))
  | _=>exact absurd (show false=true from c) zB
 | str i=>
  obtain⟨t,rfl⟩:=d;cases y with
  | non=>cases a;exact PySem.EqNone.ne_str_none (aZ I q (by simp))
  | bl j=>cases a;exact PySem.EqMixed.ne_str_bool (aZ I q (by simp))
  | int j=>obtain⟨b,rfl⟩:=a;exact PySem.EqMixed.ne_str_int (aZ I q (by simp))
  | str j=>obtain⟨b,rfl⟩:=a;exact ne_str (aZ I q (congrArg not gN))
  | _=>exact absurd (show false=true from c) zB
 | byt i=>
  obtain⟨t,rfl⟩:=d;cases y with
  | byt j=>obtain⟨b,rfl⟩:=a;exact PySem.W.ne_bytes (aZ I q (congrArg not pY))
  | _=>exact absurd (show false=true from c) zB
 | _=>cases y<;>exact absurd (show false=true from c) zB
def lK:aU X (compareOp .Lt) (dJ λi j=>.bl (decide (i<j))):=iB λ_ _ _ _ _ _ _ q=>lt_int q
def gL:aU X (compareOp .LtE) (dJ λi j=>.bl (decide (i<=j))):=iB λ_ _ _ _ _ _ _ q=>le_int q
def jd:aU X (compareOp .Gt) (dJ λi j=>.bl (decide (j<i))):=iB λ_ _ _ _ _ _ _ q=>gt_int q
def lx:aU X (compareOp .GtE) (dJ λi j=>.bl (decide (j<=i))):=iB λ_ _ _ _ _ _ _ q=>ge_int q
def yB:aU X (compareOp .In) (λx y H Q=>∃i j,x=.str i/\y=.str j/\Q (.bl (!(Builtin.Str.occurrences j i 0 j.length 1).isEmpty)) H):=by intro pins s σ H x y v u Q I a b h;obtain⟨i,j,rfl,rfl,q⟩:=h;obtain⟨t,rfl⟩:=a;obtain⟨c,rfl⟩:=b;exact in_str (aZ I q rfl)
def lD:aU X (compareOp .Is) (λx y H Q=>y=.non/\Q (.bl (decide (x=.non))) H):=by
 intro pins s σ H x y v u Q I a b h;obtain⟨rfl,q⟩:=h;cases b;refine is_none_gen (aZ I q ?_);cases x<;>first
  | (cases a;rfl)
  | (obtain⟨t,rfl⟩:=a;rfl)
def aI(b:Vk){op:CmpOp}(h:op≠.In:=by decide)(h2:op≠.NotIn:=by decide):behindInMarks op b=false:=by
 have a:(op == CmpOp.In)=false:=by cases op<;>first|rfl|exact absurd rfl h
 have c:(op == CmpOp.NotIn)=false:=by cases op<;>first|rfl|exact absurd rfl h2
 cases b<;>simp[behindInMarks,a,c]
def fE{op:CmpOp}{r:R2}(c:aU X (compareOp op) r)(d:PE X a ta)(e:PE X b tb)(f:behindInMarks op b=false):PE X (.Compare a [op] [b] pos) (gw r ta tb):=by intro pins s σ H Q I h;exact wpAny_Compare1 (lq d e I h λv u s2 x y H2 g i j q=>c pins s2 σ H2 x y v u Q g i j q) f
def rC(t:TE):TT:=λσ H Q=>t σ H λx H'=>∃k,x=.bl k/\Q k H'
def aN{op:CmpOp}{r:R2}(d:aU X (compareOp op) r)(f:PE X a ta)(g:PE X b tb)(i:behindInMarks op b=false):PT X (.Compare a [op] [b] pos) (rC (gw r ta tb)):=by
 intro pins s σ H Q I h;refine wpAny_isTrue_Compare1 (ao (f pins s σ H _ I h) λv s1 ⟨x,H1,j,r1,l⟩=>ao (g pins s1 σ H1 _ j l) λu s2 ⟨y,H2,m,n,o⟩=>
  ao (d pins s2 σ H2 x y v u _ m r1 n o) λc A ⟨z,p,q,t,k,e,w⟩=>?_) i
 subst e;cases t;exact wpAny_truthy_bool ⟨p,q,w⟩
def qS(r b:R2)(ta tb tc:TE):TE:=λσ H Q=>ta σ H λx H1=>tb σ H1 λy H2=>r x y H2 λz a=>∃k,z=.bl k ∧
 (if k=true then tc σ a λc d=>b y c d Q else Q (.bl false) a)
def ig{op f:CmpOp}{r i:R2}(o:aU X (compareOp op) r)(g:aU X (compareOp f) i)(p:PE X a ta)(q:PE X b tb)(t:PE X c tc)
  (w:lastMarks [op,f] [b,c]=false:=by with_unfolding_all rfl):PE X (.Compare a [op,f] [b,c] pos) (qS r i ta tb tc):=by
 intro pins s σ H Q I h;refine Compare_chain (ao (p pins s σ H _ I h) λv s1 ⟨x,H1,A,r1,B⟩=>chain_link (ao (q pins s1 σ H1 _ A B) λu s2 ⟨y,H2,C,j,E⟩=>
  ao (o pins s2 σ H2 x y v u _ C r1 j E) λd F ⟨z,l,m,G,k,e,n⟩=>?_)) w
 subst e;cases G;refine wpAny_truthy_bool ?_;cases k with
 | false=>exact ite_ff ⟨.bl false,l,m,rfl,n⟩
 | true=>exact ite_tt (chain_last (ao (t pins F σ l _ m n) λJ K ⟨L,M,N,O,P⟩=>g pins K σ M y L u J Q N j O P))
def iK(K:zg)(x:V)(H:Hp)(k:Bool):Prop:=
 match x with
 | .non=>k=false
 | .bl b=>k=b
 | .int i=>k=(i != 0)
 | .str y=>y.length<=sizeLine/\k=((y.length:Int) != 0)
 | .byt y=>y.size<=sizeLine/\k=((y.size:Int) != 0)
 | .ref p=>(∃xs,ag K H p xs/\k = !xs.isEmpty)\/(∃xs,ah K H p xs/\k = !xs.isEmpty)\/∃kvs,H p=Vo (.dK kvs)/\k = !kvs.isEmpty
 | _=>False
def yF{κ:Type}{kvs:List (κ×V)}{vs:List (κ×Va)}(r:KV kvs vs):(!vs.isEmpty) = !kvs.isEmpty:=by cases r<;>rfl
def oK{a:List Va}(r:Vals xs a):(!a.toArray.isEmpty) = !xs.isEmpty:=by cases r<;>simp
def fV:(sizeLine:Nat)<2 ^ 63:=by rw[sizeLine_eq];decide
def xV:vm X (λx H Q=>∃k,iK X.K x H k/\Q k H):=by
 intro pins s σ H x v Q I c h;obtain⟨k,e,q⟩:=h;have n:=fV;have o:sizeLine=16777216:=sizeLine_eq;cases x with
 | non=>
  cases c;have a:k=false:=e;subst a;exact truthy_none ⟨H,I,q⟩
 | bl b=>
  cases c;have a:k=b:=e;subst a;exact wpAny_truthy_bool ⟨H,I,q⟩
 | int i=>
  obtain⟨t,rfl⟩:=c;have a:k=(i != 0):=e;subst a;exact PySem.P.truthy_int ⟨H,I,q⟩
 | str y=>
  obtain⟨t,rfl⟩:=c;obtain⟨j,a⟩:y.length<=sizeLine/\k=((y.length:Int) != 0):=e;subst a;exact PySem.P.truthy_str (by omega) ⟨H,I.tok _,q⟩
 | byt y=>
  obtain⟨t,rfl⟩:=c;obtain⟨j,a⟩:y.size<=sizeLine/\k=((y.size:Int) != 0):=e;subst a;exact PySem.W.truthy_bytes (by omega) ⟨H,I.tok _,q⟩
 | ref p=>
  cases c;have a:(∃xs,ag X.K H p xs/\k = !xs.isEmpty)\/(∃xs,ah X.K H p xs/\k = !xs.isEmpty)\/∃kvs,H p=Vo (.dK kvs)/\k = !kvs.isEmpty:=e;rcases a with⟨xs,d,a⟩|⟨xs,d,a⟩|⟨kvs,d,a⟩
  .subst a;obtain⟨f,r,pl,g⟩:=I.list d;have hlen:=r.length;exact wpAny_truthy_list pl.isList (by simp only[zq];omega) ⟨H,I.tok _,by rw[oK r];exact q⟩
  .subst a;obtain⟨f,r,pl,g⟩:=I.tuple d;have hlen:=r.length;exact truthy_tuple pl (by simp only[zq];omega) ⟨H,I.tok _,by rw[oK r];exact q⟩
  .subst a;obtain⟨g,l,vs,r,m⟩:kvs.length<=sizeLine/\(p == sysModules)=false/\∃vs,KV kvs vs/\s.heap.DictOf (cS X.prog X.w) p vs:=I.hok p _ d;have hlen:kvs.length=vs.length:=Paired.length r;exact wpAny_truthy_dict l m (by omega) ⟨H,I.tok _,by rw[yF r];exact q⟩
 | _=>exact(show False from e).elim
def ue(b:PE X a ta)(c:∀whole,isTrue a X.env whole=(do let v <-whole;standAt a.pos;holding [v] (truthy v))):
  PT X a (λσ H Q=>ta σ H λx H'=>∃k,iK X.K x H' k/\Q k H'):=by
 intro pins s σ H Q I h;exact isTrue_plain (ao (b pins s σ H _ I h) λv s1 ⟨x,H1,d,r1,e⟩=>xV pins s1 σ H1 x v Q d r1 e) (c _)
def cw:aU X (binaryOp .Add) (λx y H Q=>∃i j,x=.str i/\y=.str j/\i.length+j.length<=sizeLine/\Q (.str (i++j)) H):=by intro pins s σ H x y v u Q I a b h;obtain⟨i,j,rfl,rfl,c,q⟩:=h;obtain⟨t,rfl⟩:=a;obtain⟨d,rfl⟩:=b;exact add_str (λd tk=>⟨.str (i++j),H,I.tok _,⟨_,rfl⟩,q⟩) c
def vals1{x:V}(r:Vals [x] us):∃u,us=[u]/\RelV x u:=by
 cases r with
 | cons r1 a=>cases a;exact⟨_,rfl,r1⟩
def vals2{x y:V}(r:Vals [x,y] us):∃u a,us=[u,a]/\RelV x u/\RelV y a:=by
 cases r with
 | cons r1 b=>
  cases b with
  | cons c d=>cases d;exact⟨_,_,rfl,r1,c⟩
def cJ:cc X (.type "str") (λxs H Q=>∃i,xs=[.int i]/\i.natAbs.log2<1920/\Q (.str (toString i)) H):=by intro pins s σ H xs us Q I r h;obtain⟨i,rfl,a,q⟩:=h;obtain⟨u,rfl,t,rfl⟩:=vals1 r;exact PySem.P.str_of_int a ⟨.str _,H,I.tok _,⟨_,rfl⟩,q⟩
end
structure ObjM(h:Vh)(x dx C:Vb)(mA:Vn->Option Va):Prop where
 obj:h.get? x=Vo (PySem.W.instObj C dx)
 ns:h.Ns1 dx mA
 ne:dx≠x
def xC{dx:Vb}{mA:Vn->Option Va}(n:h.Ns1 dx mA):∃od,h.get? dx=Vo od/\∀name,PySem.W.lookIn name od=Vo (mA name):=by
 obtain⟨o,es,ep,c,hd,d,_,f⟩:=n;refine⟨o,c,λname=>?_⟩;have e:=f name;unfold nsFind findBy at e;rw[<-Array.find?_toList]at e;unfold PySem.W.lookIn;rw[hd];dsimp only;split
 .rename_i y q;rw[q]at e;exact congrArg Vo e
 .rename_i q;rw[q]at e;have a:es.toList.any (·.refKey)=false:=by rw[List.any_eq_false];intro y g;obtain⟨z,t,b⟩:=d y (Array.mem_toList_iff.mp g);simp[DictEntry.refKey,b]
  have i:¬es.toList.any (·.refKey)=true:=by rw[a];exact zB
  rw[Ai i];exact congrArg Vo e
def ObjM.look{x dx:Vb}{mA:Vn->Option Va}(I:ObjM h x dx C mA):∃od,PySem.W.InstAt h x (PySem.W.instObj C dx) C (Vo od)/\∀name,PySem.W.lookIn name od=Vo (mA name):=
 let ⟨od,ho,hl⟩:=xC I.ns
 ⟨od,⟨I.obj,rfl,rfl,ho⟩,hl⟩
section
variable {prog:Vd} {w:Ve} {A:Vi} {E:Va->Vc->Prop} {s:Vc} {K:zg} {x dx C f:Vb} {mA:Vn->Option Va} {name:Vn} {v:Va}
def get_map{expr:Bool}(X:K.In s.heap)(I:ObjM s.heap x dx C mA)(b:PySem.W.plainGet K C name=true)(c:PySem.W.hasDictIn K C=true)
  (d:PySem.W.findIn K (.ref C) name=Vo Vp) (e:mA name=Vo v) (a:PySem.W.handedIn v=true) (h:Q v { s with toks:=s.toks+1 }) :
  Vf (Vg prog w) A (getAttr (.ref x) name expr) Q E s:=by
 obtain⟨od,J,f⟩:=I.look;exact PySem.W.get_value X J (PySem.W.plainGet_of b).1 (PySem.W.findObj_own c d rfl (by rw[f,e])) a h
def vK{pl:Sem Bool}{Q:Va×List Va->Vc->Prop}(X:K.In s.heap)(I:ObjM s.heap x dx C mA)(a:PySem.W.plainGet K C name=true)
  (b:PySem.W.findIn K (.ref C) name=Vo (Vo (.ref f))) (c:PySem.W.isFn K (.ref f)=true) (d:mA name=Vp) (h:Q (.ref f,[.ref x]) s) :
  Vf (Vg prog w) A (getMethod (.ref x) name pl) Q E s:=by
 obtain⟨od,J,e⟩:=I.look;exact PySem.W.method_fn X J (PySem.W.plainGet_of a).1 (PySem.W.plainGet_of a).2 b (beq_iff_eq.mp c) (by show(PySem.W.lookIn name od).map (·.isSome)=Vo false;rw[e,d];rfl) h
def uE{ns:List Vn}{Q:Unit->Vc->Prop}(X:K.In s.heap)(I:ObjM s.heap x dx C mA)
  (j:PySem.W.findIn K (.ref C) "__setattr__" = Vo (Vo (.builtin "object.__setattr__"))) (k:PySem.W.plainOver K C=true) (l:PySem.W.takerIn K C name=Vo Vp) (m:PySem.W.hasDictIn K C=true)
  (n:PySem.Within mA ns) (o:ns.length<=sizeLine)
  (h:∀h',ObjM h' x dx C (λy=>if y=name then Vo v else mA y)->Heap.SameBut dx s.heap h'->Q () { s with heap:=h',toks:=s.toks+2 }) :
  Vf (Vg prog w) A (setAttr (.ref x) name v) Q E s:=by
 obtain⟨od,J,z⟩:=I.look;refine PySem.W.set_plain X J j (PySem.W.osa_open (s:={ s with toks:=s.toks+1 }) (r:=Vp) X J k l λb=>?_);obtain⟨cd,p,e⟩:=PySem.W.any_some m;have q:s.heap.get? x=Vo ⟨.ref C,Vo dx,.plain,#[]⟩:=I.obj;refine ze (zf (ze (ze (wpAny_loadPart q (ze (PySem.W.Looks.here (s:={ s with toks:=s.toks+1 }) (PySem.W.looks_clsIn X p) ?_))))));rw[e];refine zf (a:=Vo dx) (ze (zf (ze ?_)));refine wpAny_nsSet1 (s:={ s with toks:=s.toks+1 }) I.ns λh' c d=>?_;obtain⟨B,t,u,f,g,i⟩:=c.count (PySem.Within.cons name v n);refine ze (wpAny_lookBehind f (by rw[g];exact pastItsLine_dict (zP i (by rw[zM];omega))) ?_);exact zf (h _ ⟨(d.2 _ (Ne.symm I.ne)).trans I.obj,c,I.ne⟩ d)
def wq{R:Result->Vc->Prop}{vs:List Va}(X:K.In s.heap)(a:PySem.W.makesIn K C=true)
  (hi:PySem.W.findIn K (.ref C) "__init__" = Vo (Vo (.ref f))) (b:PySem.W.typeIn K (.ref f)=Vo (.type "function"))
  (h:codeAny (Vg prog w) (A.under (.builtin "type.__call__" ⟨.ref C::vs,kw⟩)) (.call (.ref f) ⟨.ref (s.heap.objs.size+1)::vs,kw⟩) (PySem.W.InitBack (s.heap.objs.size+1) R)
   { s with heap:=(s.heap.push PySem.W.emptyDict).push (PySem.W.instObj C s.heap.objs.size) }) :
  codeAny (Vg prog w) A (.call (.ref C) ⟨vs,kw⟩) R s:=by
 obtain⟨c,g,d,t,os⟩:=s;exact PySem.W.make_core (PySem.W.makes_of X a) (PySem.W.looks_findIn X hi) (λself=>PySem.W.bind_fn X self b) (.inl rfl) h
end
def bf(f:Vn)(v:V):List (Vn×V)->List (Vn×V)
 | []=>[(f,v)]
 | (g,x)::r=>if g=f then(g,v)::r else(g,x)::bf f v r
theorem de(f g:Vn)(v:V):∀fs:List (Vn×V),(bf f v fs).lookup g=if g=f then Vo v else fs.lookup g
 | []=>by
  show List.lookup g [(f,v)]=_;by_cases h:g=f
  .have a:(g == f)=true:=beq_iff_eq.mpr h;simp only[List.lookup,a,Aj h]
  .have a:(g == f)=false:=beq_eq_false_iff_ne.mpr h;simp only[List.lookup,a,Ai h]
 | (k,x)::r=>by
  have c:=de f g v r;rw[show bf f v ((k,x)::r)=(if k=f then(k,v)::r else(k,x)::bf f v r)from rfl];by_cases b:k=f
  .rw[Aj b];by_cases h:g=k
   .have a:(g == k)=true:=beq_iff_eq.mpr h;simp only[List.lookup,a,Aj (h.trans b)]
   .have a:(g == k)=false:=beq_eq_false_iff_ne.mpr h;simp only[List.lookup,a,Ai (λe:g=f=>h (e.trans b.symm))]
  .rw[Ai b];by_cases h:g=k
   .have a:(g == k)=true:=beq_iff_eq.mpr h;simp only[List.lookup,a,Ai (λe:g=f=>b (h.symm.trans e))]
   .have a:(g == k)=false:=beq_eq_false_iff_ne.mpr h;simp only[List.lookup,a];exact c
theorem mn(f:Vn)(v:V):∀fs:List (Vn×V),f∈(bf f v fs).map (·.1)/\∀g,g∈fs.map (·.1)->g∈(bf f v fs).map (·.1)
 | []=>⟨by simp[bf],λg h=>by simp at h⟩
 | (k,x)::r=>by
  obtain⟨i1,i2⟩:=mn f v r;rw[show bf f v ((k,x)::r)=(if k=f then(k,v)::r else(k,x)::bf f v r)from rfl];by_cases a:k=f
  .rw[Aj a];subst a;exact⟨by simp,λg h=>by simpa using h⟩
  .rw[Ai a];refine⟨?_,λg h=>?_⟩
   .rw[List.map_cons];exact zo _ i1
   .rw[List.map_cons]at h ⊢;rcases zA.mp h with e|e
    .exact zA.mpr (.inl e)
    .exact zo _ (i2 g e)
theorem gE(f:Vn)(v:V):∀fs:List (Vn×V),(bf f v fs).length<=fs.length+1
 | []=>by simp[bf]
 | (k,x)::r=>by
  have b:=gE f v r;rw[show bf f v ((k,x)::r)=(if k=f then(k,v)::r else(k,x)::bf f v r)from rfl];by_cases a:k=f
  .rw[Aj a,zM,zM];omega
  .rw[Ai a,zM,zM];omega
def cH.some_of{o:Option Va}(r:cH (Vo v) o):∃u,o=Vo u/\RelV v u:=by
 cases o with
 | none=>exact(show False from r).elim
 | some u=>exact⟨u,rfl,r⟩
def cH.none_of{o:Option Va}(r:cH Vp o):o=Vp:=by
 cases o with
 | none=>rfl
 | some u=>exact(show False from r).elim
def vM(r:RelV v u):PySem.W.handedIn u=true:=by
 cases v with
 | non=>cases(show u=Value.none from r);rfl
 | bl b=>cases(show u=Value.bool b from r);rfl
 | int i=>obtain⟨t,e⟩:=(show ∃t,u=Value.int i t from r);cases e;rfl
 | str x=>obtain⟨t,e⟩:=(show ∃t,u=Value.str x t from r);cases e;rfl
 | byt b=>obtain⟨t,e⟩:=(show ∃t,u=Value.bytes b t from r);cases e;rfl
 | flt b=>obtain⟨t,e⟩:=(show ∃t,u=Value.float b t from r);cases e;rfl
 | ref a=>cases(show u=Value.ref a from r);rfl
 | ty n=>cases(show u=Value.type n from r);rfl
section
variable {P:Vd} {w:Ve} {H H':Hp} {h h':Vh} {a C dx:Vb} {fs fs':List (Vn×V)}
def iy(hok:bq P w H h)(e:H a=Vo (.ins C dx fs)):∃mA,ObjM h a dx C mA/\(∀f,cH (fs.lookup f) (mA f))/\PySem.Within mA (fs.map (·.1))/\fs.length<=1000/\H dx=Vo (.own a):=by obtain⟨d,z,ne,ob,mA,n,r,q⟩:=(show bH P w H h a (.ins C dx fs)from hok a _ e);exact⟨mA,⟨ob,n,ne⟩,r,q,z,d⟩
end
structure Cls(K:zg)(C:Vb):Prop where
 pg:PySem.W.plainGet K C Str.empty=true
 hd:PySem.W.hasDictIn K C=true
 po:PySem.W.plainOver K C=true
 sa:PySem.W.findIn K (.ref C) "__setattr__" = Vo (Vo (.builtin "object.__setattr__"))
def Cls.get{K:zg}(c:Cls K C)(f:Vn):PySem.W.plainGet K C f=true:=c.pg
def cY(K:zg)(C:Vb)(f:Vn):Prop:=PySem.W.findIn K (.ref C) f=Vo Vp
def cY.taker{K:zg}{f:Vn}(n:cY K C f):PySem.W.takerIn K C f=Vo Vp:=by unfold PySem.W.takerIn;rw[show PySem.W.findIn K (.ref C) f=Vo Vp from n];rfl
structure Meth(K:zg)(C:Vb)(m:Vn)(f:Vb):Prop where
 at_:PySem.W.findIn K (.ref C) m=Vo (Vo (.ref f))
 fn:PySem.W.isFn K (.ref f)=true
 kp:PySem.W.keepIn K (.ref f)=true
section
variable {X:Cx} {pins:List (Vb×Obj)} {σ:St} {H:Hp} {s:Vc} {a C dx:Vb} {fs:List (Vn×V)} {f:Vn} {v:V} {A:Vi} {E:Va->Vc->Prop}
def za{b:Bool}(I:Inv X pins σ H s)(e:H a=Vo (.ins C dx fs))(c:Cls X.K C)(n:cY X.K C f)(l:fs.lookup f=Vo v)
  (h:∀u s',Inv X pins σ H s'->RelV v u->Q u s'):Vf (Vg X.prog X.w) A (getAttr (.ref a) f b) Q E s:=by
 obtain⟨mA,O,r,_,_,_⟩:=iy I.hok e;obtain⟨u,g,d⟩:=cH.some_of (v:=v) (o:=mA f) (by rw[<-l];exact r f);exact get_map I.kIn O (c.get f) c.hd n g (vM d) (h u _ (I.tok _) d)
def jc{m:Vn}{g:Vb}{pl:Sem Bool}{Q:Va×List Va->Vc->Prop}(I:Inv X pins σ H s)(e:H a=Vo (.ins C dx fs))(c:Cls X.K C)(k:Meth X.K C m g)(l:fs.lookup m=Vp)
  (h:Q (.ref g,[.ref a]) s):Vf (Vg X.prog X.w) A (getMethod (.ref a) m pl) Q E s:=by
 obtain⟨mA,O,r,_,_,_⟩:=iy I.hok e;have b:mA m=none:=cH.none_of (by rw[<-l];exact r m);exact vK I.kIn O (c.get m) k.at_ k.fn b h
def xl{y:V}{Q:Unit->Vc->Prop}(I:Inv X pins σ H s)(e:H a=Vo (.ins C dx fs))(c:Cls X.K C)(n:cY X.K C f)(t:fs.length<1000)(k:RelV y u)
  (h:∀s',Inv X pins σ (upd H a (.ins C dx (bf f y fs))) s'->Q () s'):Vf (Vg X.prog X.w) A (setAttr (.ref a) f u) Q E s:=by
 obtain⟨mA,O,r,i,_,j⟩:=iy I.hok e;have l:(fs.map (·.1)).length<=sizeLine:=by rw[zk,sizeLine_eq];omega
 refine uE I.kIn O c.sa c.po n.taker c.hd i l λh' d sb=>h _ ?_;have hd:∃o,h'.get? dx=Vo o:=let ⟨o,_,_,e',_⟩:=d.ns;⟨o,e'⟩;refine I.write (x:=a) (e:=dx) (by rw[e];exact True.intro) (.inr j) (λb q m z=>(sb.2 b m).trans z) hd ?_;refine⟨by rw[au O.ne];exact j,?_,O.ne,d.obj,_,d.ns,λg=>?_,λg p=>?_⟩
 .have:=gE f y fs;omega
 .show cH ((bf f y fs).lookup g) (if g=f then Vo u else mA g);rw[de];by_cases q:g=f
  .rw[Aj q,Aj q];exact k
  .rw[Ai q,Ai q];exact r g
 .by_cases q:g=f
  .rw[q];exact(mn f y fs).1
  .refine(mn f y fs).2 g (i g λz=>p ?_);show(if g=f then Vo u else mA g)=Vp;rw[Ai q];exact z
def Inv.made(I:Inv X pins σ H s):Inv X pins σ (upd (upd H s.heap.objs.size (.own (s.heap.objs.size+1))) (s.heap.objs.size+1) (.ins C s.heap.objs.size []))
  { s with heap:=(s.heap.push PySem.W.emptyDict).push (PySem.W.instObj C s.heap.objs.size) }:=by
 have c:(s.heap.push PySem.W.emptyDict).get? s.heap.objs.size=Vo PySem.W.emptyDict:=zi s.heap rfl;have d:((s.heap.push PySem.W.emptyDict).push (PySem.W.instObj C s.heap.objs.size)).get? (s.heap.objs.size+1)=Vo (PySem.W.instObj C s.heap.objs.size):=by
  have:=zi (s.heap.push PySem.W.emptyDict) (o:=PySem.W.instObj C s.heap.objs.size) rfl
  rwa [Heap.size_push]at this
 have f:(s.heap.push PySem.W.emptyDict).Ns s.heap.objs.size (λ_=>Vp):=⟨PySem.W.emptyDict,#[],_,c,rfl,(λe g=>absurd g (by simp)),λ_=>rfl⟩;have h:=I.laid (a:=s.heap.objs.size) (o:=.own (s.heap.objs.size+1)) (h':=s.heap.push PySem.W.emptyDict) (t':=s.toks) (λb u q=>zh _ q) (zF _) ⟨_,c⟩;refine h.laid (a:=s.heap.objs.size+1) (o:=.ins C s.heap.objs.size []) (t':=s.toks) (λb u q=>zh _ q) (Nat.le_of_eq (Heap.size_push _ _)) ?_;have ne:s.heap.objs.size≠s.heap.objs.size+1:=zE (Nat.lt_succ_self _);refine⟨by rw[au ne,aM],Nat.zero_le _,ne,d,λ_=>Vp,(Heap.Ns1.of_empty f).at λo q=>zh _ q,λ_=>True.intro,λy i=>absurd rfl i⟩
def xt{prog:Vd}{env:Env}{e:Vk}{f:Vn}{pos:Pos}(b:attributeBase e f env (eval e env)=eval e env)
  (h:Vf (Vg prog w) A (eval e env) (λo a=>Vf (Vg prog w) A (getAttr o f true) Q E a) E s):Vf (Vg prog w) A (eval (.Attribute e f pos) env) Q E s:=
 Attribute_any_ h (by rw[arm_eval_Attribute,b])
end
def pX(K:zg)(ta:TE)(f:Vn):TE:=λσ H Q=>ta σ H λx H1=>∃a C dx fs v,x=.ref a/\H1 a=Vo (.ins C dx fs)/\Cls K C/\cY K C f/\fs.lookup f=Vo v/\Q v H1
def rR(K:zg)(ta tv:TE)(f:Vn):TS:=λD σ H=>tv σ H λy H1=>ta σ H1 λx H2=>∃a C dx fs,x=.ref a/\H2 a=Vo (.ins C dx fs)/\Cls K C/\cY K C f/\fs.length<1000 ∧
 D.nx σ (upd H2 a (.ins C dx (bf f y fs)))
section
variable {X:Cx} {o e value:Vk} {f:Vn} {pos pos' tpos:Pos} {ta tv:TE}
def cL(b:PE X e ta)(d:attributeBase e f X.env (eval e X.env)=eval e X.env):PE X (.Attribute e f pos) (pX X.K ta f):=by intro pins s σ H Q I h;refine xt d (ao (b pins s σ H _ I h) λu s1 ⟨x,H1,g,i,a,C,dx,fs,v,ex,j,c,n,l,q⟩=>?_);subst ex;obtain rfl:u=Value.ref a:=i;exact za g j c n l λo s2 k m=>⟨v,H1,k,m,q⟩
def fx(b:PE X o ta)(d:PE X value tv)(e:swapsWith value (Vo (.Attribute o f pos')) pos.line X.env=pure false):PS X (.Assign [.Attribute o f pos'] value pos) (rR X.K ta tv f):=by intro pins s σ H D I h;refine plainObj_wpAny_Assign_Attribute (ao (d pins s σ H _ I h) λu s1 ⟨y,H1,g,i,q⟩=>ao (b pins s1 σ H1 _ g q) λj s2 ⟨x,H2,k,m,a,C,dx,fs,ex,p,c,n,l,r⟩=>?_) e;subst ex;obtain rfl:j=Value.ref a:=m;exact xl k p c n l i λv t=>⟨σ,_,t,r⟩
def zc{pl:Sem Bool}{m:Vn}{apos:Pos}{args:List Vk}{σ:St}{te:TE}(i:PE X e te)(I:Inv X pins σ H s)
  (h:te σ H λx H1=>∃a C dx fs g,x=.ref a/\H1 a=Vo (.ins C dx fs)/\Cls X.K C/\Meth X.K C m g/\fs.lookup m=Vp ∧
   ∀s1,Inv X pins σ H1 s1->Vf (Vg X.prog X.w) X.A (callWith pos (.ref g) [.ref a] (backTo pos (starEach args X.env)) (backToKw pos (keywordEach [] X.env))) Q X.xe s1)
  (j:eval (.Call (.Attribute e m apos) args [] pos) X.env=(do
   let b <-eval e X.env
   standAt apos.atName
   let (f,first) <-holding [b] (getMethod b m pl)
   callWith pos f first (backTo pos (starEach args X.env)) (backToKw pos (keywordEach [] X.env)))) :
  Vf (Vg X.prog X.w) X.A (eval (.Call (.Attribute e m apos) args [] pos) X.env) Q X.xe s:=by
 refine PySem.W.methodCall_KW (pl:=pl) (ao (i pins s σ H _ I h) λu s1 ⟨x,H1,d,n,a,C,dx,fs,g,ex,o,c,k,l,q⟩=>?_) j;subst ex;obtain rfl:u=Value.ref a:=n;exact jc d o c k l (q s1 d)
end
section
variable {X:Cx} {pins:List (Vb×Obj)} {σ:St} {H:Hp} {s:Vc} {A:Vi} {E:Va->Vc->Prop} {Q:Va->Vc->Prop} {c:Va} {b:Bool}
inductive TyOf(K:zg)(H:Hp):V->Va->Prop where
 | non:TyOf K H .non (.type "NoneType")
 | bl (x:Bool):TyOf K H (.bl x) (.type "bool")
 | int (i:Int):TyOf K H (.int i) (.type "int")
 | str (x:Vn):TyOf K H (.str x) (.type "str")
 | flt (x:UInt64):TyOf K H (.flt x) (.type "float")
 | lst {a:Vb} {xs:List V} (e:H a=Vo (.lst xs)):TyOf K H (.ref a) (.type "list")
 | frz {a:Vb} {o:Obj} {xs:List V} (e:H a=Vo (.frz o (.lst xs))):TyOf K H (.ref a) (.type "list")
 | tup {a:Vb} {xs:List V} (e:H a=Vo (.tup xs)):TyOf K H (.ref a) (.type "tuple")
 | dK {a:Vb} {kvs:List (Key×V)} (e:H a=Vo (.dK kvs)):TyOf K H (.ref a) (.type "dict")
 | dT {a:Vb} {kvs:List (List Key×V)} (e:H a=Vo (.dT kvs)):TyOf K H (.ref a) (.type "dict")
 | ins {a C dx:Vb} {fs:List (Vn×V)} (e:H a=Vo (.ins C dx fs)) (cl:Cls K C) (c:PySem.W.findIn K (.ref C) "__class__" = Vo (Vo (.builtin "object.__class__")))
   (d:PySem.W.specialIn K (.builtin "object.__class__") "__get__" = Vo (Vo (.builtin "getset_descriptor.__get__"))) (b:PySem.W.takesIn K (.builtin "object.__class__")=Vo true)
   (f:PySem.W.mroIn K C (.type "object")=Vo true):TyOf K H (.ref a) (.ref C)
def sP{x:V}{t:Va}(I:Inv X pins σ H s)(d:RelV x u)(ty:TyOf X.K H x t)(e:PySem.W.kitOne X.K t c=Vo b)(h:∀tk,Q (.bool b) { s with toks:=tk }):
  Vf (Vg X.prog X.w) A (call (.builtin "isinstance") [u,c]) Q E s:=by
 cases ty with
 | non=>cases(show u=Value.none from d);exact PySem.W.kia_one PySem.W.kitx_none I.kIn True.intro e (λz=>nomatch z) h
 | bl y=>cases(show u=Value.bool y from d);exact PySem.W.kia_one PySem.W.kitx_bool I.kIn True.intro e (λz=>nomatch z) h
 | int i=>obtain⟨t,q⟩:=(show ∃t,u=Value.int i t from d);cases q;exact PySem.W.kia_one PySem.W.kitx_int I.kIn True.intro e (λz=>nomatch z) h
 | str y=>obtain⟨t,q⟩:=(show ∃t,u=Value.str y t from d);cases q;exact PySem.W.kia_one PySem.W.kitx_str I.kIn True.intro e (λz=>nomatch z) h
 | flt y=>obtain⟨t,q⟩:=(show ∃t,u=Value.float y t from d);cases q;exact PySem.W.kia_one PySem.W.kitx_float I.kIn True.intro e (λz=>nomatch z) h
 | @lst a xs f=>
  cases(show u=Value.ref a from d);obtain⟨_,_,n,_,h1⟩:=(show bH X.prog X.w H s.heap a (.lst xs)from I.hok a _ f);exact PySem.W.kia_one PySem.W.kitx_list I.kIn ⟨_,h1,rfl⟩ e (λz=>nomatch z) h
 | @frz a ob xs f=>
  cases(show u=Value.ref a from d);obtain⟨_,_,_,n,_,h1⟩:=(show bH X.prog X.w H s.heap a (.frz ob (.lst xs))from I.hok a _ f);exact PySem.W.kia_one PySem.W.kitx_list I.kIn ⟨_,h1,rfl⟩ e (λz=>nomatch z) h
 | @tup a xs f=>
  cases(show u=Value.ref a from d);obtain⟨_,_,_,p⟩:=(show bH X.prog X.w H s.heap a (.tup xs)from I.hok a _ f);obtain⟨o,h1,h2,_⟩:=p;exact PySem.W.kia_one PySem.W.kitx_tuple I.kIn ⟨o,h1,h2⟩ e (λz=>nomatch z) h
 | @dK a kvs f=>
  cases(show u=Value.ref a from d);obtain⟨_,_,vs,_,p⟩:=(show bH X.prog X.w H s.heap a (.dK kvs)from I.hok a _ f);obtain⟨o,es,ep,h1,h2,_⟩:=p;exact PySem.W.kia_one PySem.W.kitx_dict I.kIn ⟨o,h1,h2.1⟩ e (λz=>nomatch z) h
 | @dT a kvs f=>
  cases(show u=Value.ref a from d);obtain⟨_,_,xs,_,o,es,ep,h1,h2,_⟩:=(show bH X.prog X.w H s.heap a (.dT kvs)from I.hok a _ f);exact PySem.W.kia_one PySem.W.kitx_dict I.kIn ⟨o,h1,h2.1⟩ e (λz=>nomatch z) h
 | @ins a C dx fs f cl j k g l=>
  cases(show u=Value.ref a from d);obtain⟨mA,O,_⟩:=iy I.hok f;obtain⟨od,J,_⟩:=O.look;exact PySem.W.kia_one (PySem.W.kitx_own (cl.get _) cl.hd j k g l) I.kIn J e (λz=>nomatch z) h
end
structure Room(k:Nat)(A:Vi):Prop where
 hd:A.handled=Vp
 dp:A.depth+3*k+5<recursionLimit
 un:A.units+16*k+200<cLine
def Room.mono{j k:Nat}(r:Room k A)(h:j<=k):Room j A:=⟨r.hd,by have:=r.dp;omega,by have:=r.un;omega⟩
theorem Room.deeper{k:Nat}{A:Vi}(r:Room (k+1) A)(env:Env):Room k (A.deeper env):=
 ⟨r.hd,by have:=r.dp;show A.depth+1+3*k+5<_;omega,by have:=r.un;show A.units+3+16*k+200<_;omega⟩
def wm:(A.under (.builtin "type.__call__" ⟨.ref C::us,kw⟩)).depth=A.depth+1:=by
 first|rfl|simp [Around.under,Code.weight,Code.isCreation,Code.isGuard,Code.isCaller,Code.frames,Code.isFrame,guardIds]
def v8:(A.under (.builtin "type.__call__" ⟨.ref C::us,kw⟩)).units=A.units+1:=by
 first|rfl|simp [Around.under,Code.cUnits,Code.frames,Code.isFrame]
def Room.make{k:Nat}(r:Room (k+1) A)(C:Vb)(us:List Va)(kw:List (Vn×Va)):Room k (A.under (.builtin "type.__call__" ⟨.ref C::us,kw⟩)):=
 ⟨r.hd,by have:=r.dp;rw[wm];omega,by have:=r.un;rw[v8];omega⟩
theorem Room.depth{k:Nat}{A:Vi}(r:Room k A):A.depth<recursionLimit:=by have:=r.dp;omega
theorem Room.units{k:Nat}{A:Vi}(r:Room k A):A.units+64<cLine:=by have:=r.un;omega
def eo:TA:=λ_ H Q=>Q [] H
def kZ(ta:TE)(a:TA):TA:=λσ H Q=>ta σ H λx H1=>a σ H1 λxs H2=>Q (x::xs) H2
section
variable {X:Cx} {e:Vk} {es:List Vk} {te:TE} {t:TA} {pos:Pos}
def ae:PA X [] eo:=λ_ _ _ _ H Q I h=>Calls.spliced_nil ⟨[],H,I,.nil,h⟩
def aa(a:PE X e te)(b:PA X es t)(c:starEach (e::es) X.env=(false,eval e X.env)::starEach es X.env:=by rfl):PA X (e::es) (kZ te t):=by intro pos pins s σ H Q I h;rw[c];show Vf _ _ (spliced ((false,eval e X.env)::backTo pos (starEach es X.env))) _ _ s;refine Calls.spliced_cons (ao (a pins s σ H _ I h) λu s1 ⟨x,H1,d,r1,f⟩=>?_);exact ao (b pos pins s1 σ H1 _ d f) λus s2 ⟨xs,H2,g,i,j⟩=>⟨x::xs,H2,g,.cons r1 i,j⟩
def kQ(t:TA):TE:=λσ H Q=>t σ H λxs H1=>xs.length<=sizeLine/\∀p,H1 p=Vp->Q (.ref p) (upd H1 p (.tup xs))
def o5(t:TA):TE:=λσ H Q=>t σ H λxs H1=>xs.length<=sizeLine/\∀p,H1 p=Vp->Q (.ref p) (upd H1 p (.lst xs))
def aJ{x1}(h:PA X es t):PE X (.Tuple es x1 pos) (kQ t):=by intro pins s σ H Q I c;refine wpAny_Tuple_spliced (ao (h pos pins s σ H _ I c) λus s1 ⟨xs,H1,a,r,z,q⟩=>⟨by rw[<-r.length];exact z,?_⟩);have d:H1 s1.heap.objs.size=none:=a.hok.fresh (zF _);refine⟨.ref s1.heap.objs.size,upd H1 s1.heap.objs.size (.tup xs),a.laid (t':=s1.toks) (λb u e=>zh _ e) (zF _) ?_,rfl,q _ d⟩;exact⟨z,us,r,⟨_,zi _ rfl,rfl,_,rfl⟩⟩
def bp(h:PA X es t):PE X (.List es pos) (o5 t):=by intro pins s σ H Q I c;refine wpAny_List_spliced (ao (h pos pins s σ H _ I c) λus s1 ⟨xs,H1,a,r,z,q⟩=>⟨by rw[<-r.length];exact z,?_⟩);have d:H1 s1.heap.objs.size=none:=a.hok.fresh (zF _);refine⟨.ref s1.heap.objs.size,upd H1 s1.heap.objs.size (.lst xs),a.laid (t':=s1.toks) (λb u e=>zh _ e) (zF _) ?_,rfl,q _ d⟩;exact⟨z,us,0,r,zi _ rfl⟩
end
abbrev Sp:=List V->Hp->VK->XK->Prop
abbrev cW:=List Env->Hp->Vc->XK->Va->Vc->Prop
structure Env0(P:Vd)(w:Ve)(K:zg)(mg:Vn->Option Va)(base:Vh)(A:Vi)(outer:List Env)(s:Vc)(H:Hp):Prop where
 frames:A.frames=Vo outer
 mod:Mod K mg base
 bs:∀b o,base.get? b=Vo o->s.heap.get? b=Vo o/\H b=Vp
 bsz:base.objs.size<=s.heap.objs.size
 funs:s.heap.FunFrames base outer
 frf:∀b∈aP outer,H b=Vp
 hok:bq P w H s.heap
 bare:AllBare s.gens
def CE(outer:List Env)(P:Vd)(w:Ve)(H:Hp)(s:Vc)(Q:VK)(u:Va)(s':Vc):Prop:=
 ∃v H',s'.os=s.os/\AllBare s'.gens/\Un (aP outer) [] H H' s.heap s'.heap/\bq P w H' s'.heap/\RelV v u/\Q v H'
def CR(CX:cW)(outer:List Env)(P:Vd)(w:Ve)(H:Hp)(s:Vc)(Q:VK)(E:XK)(r:Result)(s':Vc):Prop:=
 match r with
 | .ok (.ret u)=>CE outer P w H s Q u s'
 | .ok _=>False
 | .error e=>CX outer H s E e s'
structure FnOk(P:Vd)(w:Ve)(K:zg)(mg:Vn->Option Va)(base:Vh)(CX:cW)(k:Nat)(f:Vb)(fd:Vm)(ps:List Vn)(sp:Sp):Prop where
 len:∀vs H Q E,sp vs H Q E->vs.length=ps.length
 run:∀(A:Vi) (outer:List Env) (s:Vc) (H:Hp) (args:Args) (us:List Va) (vs:List V) (Q:VK) (E:XK),Room k A->Env0 P w K mg base A outer s H->BindsTo s fd args (ps.zip us)->Vals vs us->sp vs H Q E ->
  codeAny (Vg P w) A (.call (.ref f) args) (CR CX outer P w H s Q E) s
def Env0.make{K:zg}{outer:List Env}(e:Env0 P w K mg base A outer s H)(C:Vb)(us:List Va)(kw:List (Vn×Va)):
  Env0 P w K mg base (A.under (.builtin "type.__call__" ⟨.ref C::us,kw⟩)) outer s H:=⟨by first|exact e.frames|(simpa[Around.under,Code.envs,Code.isFrame,pushEnvs]using e.frames),e.mod,e.bs,e.bsz,e.funs,e.frf,e.hok,e.bare⟩
section
variable {X:Cx} {pins:List (Vb×Obj)} {σ:St} {H:Hp} {s s':Vc}
def Inv.env0(I:Inv X pins σ H s):Env0 X.prog X.w X.K X.mg X.base X.A X.stack s H:=
 ⟨I.ok.frames,I.ok.mod,I.bs,zP I.ok.bsz I.sz,I.stack,I.stkFree,I.hok,I.bare⟩
def Inv.after{Q:VK}(I:Inv X pins σ H s)(h:CE X.stack X.prog X.w H s Q u s'):EP X pins σ Q u s':=by obtain⟨v,H',os,bare,un,hok,r,q⟩:=h;obtain⟨c,g,d,t,a⟩:=s';obtain rfl:a=s.os:=os;exact⟨v,H',I.call (h':=c) (g':=g) (d':=d) (t':=t) (ch:=[]) un hok bare (λb z=>absurd z (by simp)),r,q⟩
end
def jO(sp:Sp)(dvs:List V)(E:XK)(t:TA):TE:=λσ H Q=>t σ H λvs H1=>sp (vs++dvs) H1 Q E
def gq(C:Vb)(m:Vn)(sp:Sp)(dvs:List V)(E:XK)(ta:TE)(t:TA):TE:=λσ H Q=>ta σ H λx H1=>∃a dx fs,x=.ref a/\H1 a=Vo (.ins C dx fs)/\fs.lookup m=Vp ∧
 t σ H1 λvs H2=>sp (x::(vs++dvs)) H2 Q E
def kW(C:Vb)(sp:Sp)(dvs:List V)(E:XK)(t:TA):TE:=λσ H Q=>t σ H λvs H1=>∀x dx,H1 x=Vp->H1 dx=Vp->dx≠x ->
 sp (.ref x::(vs++dvs)) (upd (upd H1 dx (.own x)) x (.ins C dx [])) (λv H2=>v=.non/\Q (.ref x) H2) E
def Binds(K:zg)(fd:Vm)(ps:List Vn)(ds:List Va):Prop:=
 ∀(s:Vc) (us:List Va),K.In s.heap->(us++ds).length=ps.length->BindsTo s fd ⟨us,[]⟩ (ps.zip (us++ds))
def Binds.all{K:zg}{fd:Vm}{ps:List Vn}(h:∀us:List Va,us.length=ps.length->bindArgs fd ⟨us,[]⟩=pure (ps.zip us)):Binds K fd ps []:=λs us _ a=>by rw[List.append_nil]at a ⊢;exact .of_eq (h us a)
def Passes(CX:cW)(X:Cx)(E:XK):Prop:=∀(pins:List (Vb×Obj)) (σ:St) (H:Hp) (s:Vc) (e:Va) (s':Vc),Inv X pins σ H s->CX X.stack H s E e s'->X.xe e s'
section
variable {X:Cx} {CX:cW} {k:Nat} {f C:Vb} {fd:Vm} {ps:List Vn} {sp:Sp} {dvs:List V} {ds:List Va} {E:XK} {x m:Vn} {p pos apos:Pos} {e o:Vk} {es:List Vk} {ta:TE} {t:TA}
def hZ{σ:St}{Q:VK}{vs:List V}(F:FnOk X.prog X.w X.K X.mg X.base CX k f fd ps sp)(c:Room k X.A)(d:Binds X.K fd ps ds)(hd:Vals dvs ds)(g:Passes CX X E)
  (I:Inv X pins σ H s) (r:Vals vs us) (h:sp (vs++dvs) H Q E):Vf (Vg X.prog X.w) X.A (call (.ref f) us) (EP X pins σ Q) X.xe s:=by
 have b:Vals (vs++dvs) (us++ds):=r.append hd;have i:(us++ds).length=ps.length:=by rw[<-b.length];exact F.len _ _ _ _ h
 refine wpAny_call (codeAny_mono (F.run X.A X.stack s H ⟨us,[]⟩ (us++ds) (vs++dvs) Q E c I.env0 (d s us I.kIn i) b h) λr s' a=>?_);cases r with
 | error e=>exact g pins σ H s e s' I a
 | ok j=>
  cases j with
  | ret u=>exact I.after a
  | next=>exact False.elim a
  | brk=>exact False.elim a
  | cont=>exact False.elim a
def ua(F:FnOk X.prog X.w X.K X.mg X.base CX k f fd ps sp)(d:Room k X.A)(g:Gl X x)(i:X.mg x=Vo (.ref f))(j:PySem.W.keepIn X.K (.ref f)=true)(l:Binds X.K fd ps ds)(hd:Vals dvs ds)(m:Passes CX X E)
  (n:PA X (e::es) t) (a:(x == ("__debug__":Vn))=false:=by decide) (o:starEach (e::es) X.env=(false,eval e X.env)::starEach es X.env:=by rfl) (b:(backTo pos (starEach es X.env)).any (·.1)=false:=by rfl) :
  PE X (.Call (.Name x p) (e::es) [] pos) (jO sp dvs E t):=by
 intro pins s σ H Q I h;refine wpAny_Call_Name_kw (ek I g i ?_ a);refine PySem.W.callWith_K (h₀:=X.base) I.ok.mod.kin j (ao (n pos pins s σ H _ I h) λus s1 ⟨vs,H1,c,r,q⟩=>⟨c.kIn,?_⟩) o b;exact hZ F d l hd m c r q
def tQ{pl:Sem Bool}(p:PE X o ta)(c:Cls X.K C)(g:Meth X.K C m f)(F:FnOk X.prog X.w X.K X.mg X.base CX k f fd ps sp)(v:Room k X.A)(y:Binds X.K fd ps ds)(hd:Vals dvs ds)(z:Passes CX X E)(B:PA X (e::es) t)
  (b:starEach (e::es) X.env=(false,eval e X.env)::starEach es X.env:=by rfl) (d:(backTo pos (starEach es X.env)).any (·.1)=false:=by rfl)
  (G:eval (.Call (.Attribute o m apos) (e::es) [] pos) X.env=(do
   let i <-eval o X.env
   standAt apos.atName
   let (f,first) <-holding [i] (getMethod i m pl)
   callWith pos f first (backTo pos (starEach (e::es) X.env)) (backToKw pos (keywordEach [] X.env))):=by rfl) :
  PE X (.Call (.Attribute o m apos) (e::es) [] pos) (gq C m sp dvs E ta t):=by
 intro pins s σ H Q I h;refine PySem.W.methodCall_KW (pl:=pl) (ao (p pins s σ H _ I h) λu s1 ⟨x,H1,j,J,a,dx,fs,ex,L,l,q⟩=>?_) G;subst ex;obtain rfl:u=Value.ref a:=J;refine jc j L c g l ?_;refine PySem.W.callWith_K (first:=[.ref a]) (h₀:=X.base) I.ok.mod.kin g.kp (ao (B pos pins s1 σ H1 _ j q) λus s2 ⟨vs,H2,n,r,M⟩=>⟨n.kIn,?_⟩) b d;exact hZ (us:=.ref a::us) (vs:=.ref a::vs) F v y hd z n (.cons rfl r) M
def vb{pl:Sem Bool}(g:PE X o ta)(c:Cls X.K C)(d:Meth X.K C m f)(F:FnOk X.prog X.w X.K X.mg X.base CX k f fd ps sp)(i:Room k X.A)(j:Binds X.K fd ps ds)(hd:Vals dvs ds)(n:Passes CX X E)
  (p:eval (.Call (.Attribute o m apos) [] [] pos) X.env=(do
   let e <-eval o X.env
   standAt apos.atName
   let (f,first) <-holding [e] (getMethod e m pl)
   callWith pos f first (backTo pos (starEach [] X.env)) (backToKw pos (keywordEach [] X.env))):=by rfl) :
  PE X (.Call (.Attribute o m apos) [] [] pos) (gq C m sp dvs E ta eo):=by
 intro pins s σ H Q I h;refine PySem.W.methodCall_KW (pl:=pl) (ao (g pins s σ H _ I h) λu s1 ⟨x,H1,b,r,a,dx,fs,ex,t,l,q⟩=>?_) p;subst ex;obtain rfl:u=Value.ref a:=r;refine jc b t c d l ?_;exact PySem.W.callWith_K0 (first:=[.ref a]) b.kIn d.kp (hZ (us:=[.ref a]) (vs:=[.ref a]) F i j hd n b (.cons rfl .nil) q)
structure Mk(K:zg)(C f:Vb):Prop where
 makes:PySem.W.makesIn K C=true
 init:PySem.W.findIn K (.ref C) "__init__" = Vo (Vo (.ref f))
 fn:PySem.W.isFn K (.ref f)=true
 kp:PySem.W.keepIn K (.ref C)=true
def xj{σ:St}{Q:VK}{vs:List V}(M:Mk X.K C f)(F:FnOk X.prog X.w X.K X.mg X.base CX k f fd ps sp)(g:Room (k+1) X.A)(i:Binds X.K fd ps ds)(hd:Vals dvs ds)
  (j:Passes CX X E) (I:Inv X pins σ H s) (r:Vals vs us)
  (h:∀x dx,H x=Vp->H dx=Vp->dx≠x->sp (.ref x::(vs++dvs)) (upd (upd H dx (.own x)) x (.ins C dx [])) (λv H2=>v=.non/\Q (.ref x) H2) E) :
  Vf (Vg X.prog X.w) X.A (call (.ref C) us) (EP X pins σ Q) X.xe s:=by
 have c:=h (s.heap.objs.size+1) s.heap.objs.size (I.hok.fresh (Nat.le_succ _)) (I.hok.fresh (zF _)) (zE (Nat.lt_succ_self _));have b:=Inv.made (C:=C) I;have d:Vals (V.ref (s.heap.objs.size+1)::(vs++dvs)) (Value.ref (s.heap.objs.size+1)::(us++ds)):=.cons rfl (r.append hd);have l:(Value.ref (s.heap.objs.size+1)::us++ds).length=ps.length:=by have e:=d.length;rw[F.len _ _ _ _ c]at e;exact e.symm
 refine wpAny_call (wq (f:=f) I.kIn M.makes M.init (beq_iff_eq.mp M.fn) (codeAny_mono (F.run _ X.stack _ _ ⟨Value.ref (s.heap.objs.size+1)::us,[]⟩ (Value.ref (s.heap.objs.size+1)::(us++ds)) _ _ E (g.make C us [])
  (b.env0.make C us []) (i _ (Value.ref (s.heap.objs.size+1)::us) b.kIn l) d c) λr s' a=>?_))
 cases r with
 | error e=>exact j pins σ _ _ e s' b a
 | ok m=>
  cases m with
  | ret u=>
   obtain⟨v,H',n,o,ev,p⟩:=b.after a;subst ev;exact⟨o,⟨V.ref (s.heap.objs.size+1),H',n,rfl,p⟩⟩
  | next=>exact False.elim a
  | brk=>exact False.elim a
  | cont=>exact False.elim a
def tR(M:Mk X.K C f)(F:FnOk X.prog X.w X.K X.mg X.base CX k f fd ps sp)(b:Room (k+1) X.A)(c:Gl X x)(d:X.mg x=Vo (.ref C))(e:Binds X.K fd ps ds)(hd:Vals dvs ds)(g:Passes CX X E)
  (a:(x == ("__debug__":Vn))=false:=by decide):PE X (.Call (.Name x p) [] [] pos) (kW C sp dvs E eo):=by
 intro pins s σ H Q I h;refine wpAny_Call_Name_kw (ek I c d ?_ a);exact PySem.W.callWith_K0 I.kIn M.kp (xj (us:=[]) M F b e hd g I .nil h)
end
structure FnScope(N P:List Vn)(sc:Scope):Prop where
 kind:sc.kind=.function
 co:sc.isCoroutine=false
 gen:sc.isGenerator=false
 nd:N.Nodup
 pre:N.take P.length=P
 par:∀x∈P,sc.names.lookup x=Vo .local\/sc.names.lookup x=Vo .cell
 nofree:∀y∈sc.names,y.2≠.free
theorem ny{kindOf:Vn->Option NameKind}{x:Vn}:∀{binds:List (Vn×Va)} {m:Vn->Option Va},(∀v,(x,v)∉binds)->bindL kindOf binds m x=m x
 | [],_,_=>rfl
 | (n,v)::r,m,h=>by
  unfold bindL;rw[ny λw a=>h w (zo _ a)];split
  .have:x≠n:=by rintro rfl;exact h v zr
   simp[this]
  .rfl
theorem rh{kindOf:Vn->Option NameKind}{x:Vn}:∀{binds:List (Vn×Va)} {m:Vn->Option Va},(∀v,(x,v)∉binds)->bindC kindOf binds m x=m x
 | [],_,_=>rfl
 | (n,v)::r,m,h=>by
  unfold bindC;rw[rh λw a=>h w (zo _ a)];split
  .rfl
  .have:x≠n:=by rintro rfl;exact h v zr
   simp[this]
theorem nK{kindOf:Vn->Option NameKind}{x:Vn}{v:Va}:∀{P:List Vn} {vs:List Va} {i:Nat} {m:Vn->Option Va},P.Nodup->P[i]?=Vo x->vs[i]?=Vo v->kindOf x=Vo .local ->
  bindL kindOf (P.zip vs) m x=Vo v
 | [],_,_,_,_,h,_,_=>by simp at h
 | _::_,[],_,_,_,_,h,_=>by simp at h
 | p::P,w::vs,0,m,nd,h1,h2,a=>by simp at h1 h2;subst h1;subst h2;show bindL kindOf ((p,w)::P.zip vs) m p=_;unfold bindL;rw[ny λv b=>(List.nodup_cons.mp nd).1 (List.of_mem_zip b).1,Aj a];simp
 | p::P,w::vs,i+1,m,nd,h1,h2,a=>by show bindL kindOf ((p,w)::P.zip vs) m x=_;unfold bindL;exact nK (i:=i) (List.nodup_cons.mp nd).2 (by simpa using h1) (by simpa using h2) a
theorem oU{kindOf:Vn->Option NameKind}{x:Vn}{v:Va}:∀{P:List Vn} {vs:List Va} {i:Nat} {m:Vn->Option Va},P.Nodup->P[i]?=Vo x->vs[i]?=Vo v->kindOf x≠Vo .local ->
  bindC kindOf (P.zip vs) m x=Vo v
 | [],_,_,_,_,h,_,_=>by simp at h
 | _::_,[],_,_,_,_,h,_=>by simp at h
 | p::P,w::vs,0,m,nd,h1,h2,a=>by simp at h1 h2;subst h1;subst h2;show bindC kindOf ((p,w)::P.zip vs) m p=_;unfold bindC;rw[rh λv b=>(List.nodup_cons.mp nd).1 (List.of_mem_zip b).1,Ai a];simp
 | p::P,w::vs,i+1,m,nd,h1,h2,a=>by show bindC kindOf ((p,w)::P.zip vs) m x=_;unfold bindC;exact oU (i:=i) (List.nodup_cons.mp nd).2 (by simpa using h1) (by simpa using h2) a
def start(N:List Vn)(vs:List V):St:=vs.map Vo++zY (N.length-vs.length) Vp
def aH(CX:cW)(P:Vd)(w:Ve)(K:zg)(mg:Vn->Option Va)(base:Vh)(N:List Vn)(qual:Vn)(scope:Scope)(f:Vb)(cd:Va)(A:Vi)(outer:List Env)(s:Vc)(H:Hp)(E:XK):Cx where
 prog:=P
 w:=w
 K:=K
 mg:=mg
 base:=base
 A:=A.deeper (envOfC qual scope s.heap.objs.size f cd)
 N:=N
 s₀:=s
 H₀:=H
 env:=envOfC qual scope s.heap.objs.size f cd
 outer:=outer
 stack:=envOfC qual scope s.heap.objs.size f cd::outer
 ex:=[]
 calm:=true
 fn:=λ_=>true
 pn:=[]
 xe:=λe s'=>Vf (Vg P w) (A.deeper (envOfC qual scope s.heap.objs.size f cd)) (leaving (envOfC qual scope s.heap.objs.size f cd) e) (λ_ a=>CX outer H s E e a) (λb a=>CX outer H s E b a) s'
def nX{sc:Scope}{x:Vn}(h:sc.names.lookup x=Vo .cell):∃c,(cellsFrom n sc.names []).lookup x=Vo c:=by have q:=PySem.W.cellsFrom_some sc.names n [] (.inl h);exact Option.isSome_iff_exists.mp q
def vi{CX:cW}{K:zg}{N ps:List Vn}{qual:Vn}{scope:Scope}{f:Vb}{cd:Va}{outer:List Env}{s1:Vc}{E:XK}{vs:List V}
  (S:FnScope N ps scope) (hd:A.handled=Vp) (d:Env0 P w K mg base A outer s H) (F:vs.length=ps.length) (r:Vals vs us)
  (x:InCallC s s.heap.objs.size (bindL (envOfC qual scope s.heap.objs.size f cd).kindOf (ps.zip us) λ_=>Vp) (cellsFrom (s.heap.objs.size+1) scope.names []) (bindC (envOfC qual scope s.heap.objs.size f cd).kindOf (ps.zip us) λ_=>Vp) s1) :
  Inv (aH CX P w K mg base N qual scope f cd A outer s H E) [] (start N vs) H s1:=by
 have t:ps.length<=N.length:=by have:=congrArg List.length S.pre;rw[Ac]at this;omega
 obtain⟨h1,tk,rfl,m⟩:=x.done;have noA:∀b:Vb,b∉(aH CX P w K mg base N qual scope f cd A outer s H E).ex:=λb z=>absurd (show b∈([]:List Vb)from z) (by simp);refine⟨⟨d.mod,S.kind,rfl,rfl,zF _,λy z c h1 h2=>?_,λy g=>?_,λy c _ h=>?_,λ_=>hd,Around.frames_deeper d.frames,.inr ⟨rfl,rfl⟩,λb z=>absurd z (noA b),d.bs,d.bsz,λb _ _=>noA b,λb z=>absurd z (noA b),d.funs,d.frf⟩,
  rfl,d.bare,Un.kept m,⟨_,x.toInCall.ns,λi y v h1 h2 G=>?_⟩,λy c h=>⟨_,x.cell y c h⟩,d.hok.fresh (zF _),λy c h=>?_,λp j=>absurd (show p∈([]:List (Vb×Obj))from j) (by simp),d.hok.kept m,?_⟩
 .exact name_of_addr x.apart (PySem.mem_of_lookup h1) (PySem.mem_of_lookup h2)
 .have g:scope.names.lookup y=Vo .cell\/scope.names.lookup y=Vo .free:=g;rcases g with g|g
  .exact nX g
  .exact absurd rfl (S.nofree _ (PySem.mem_of_lookup g))
 .exact Nat.le_of_lt (x.above y c (PySem.mem_of_lookup h))
 .have hi:i<vs.length:=by
   unfold start at h2;by_cases hi:i<vs.length
   .exact hi
   .rw[zJ (by simpa using hi)]at h2;rw[List.getElem?_replicate]at h2;split at h2<;>cases h2
  have B:vs[i]?=Vo v:=by
   unfold start at h2;rw[zK (by simpa using hi),zm]at h2;cases e:vs[i]? with
   | none=>rw[e]at h2;cases h2
   | some a=>rw[e]at h2;cases h2;rfl
  obtain⟨u,o,C⟩:=r.get B;have j:ps[i]?=some y:=by rw[<-S.pre,List.getElem?_take_of_lt (by omega)];exact h1
  have l:ps.Nodup:=by rw[<-S.pre];exact S.nd.sublist (List.take_sublist _ _)
  refine⟨u,C,?_⟩;rcases S.par y (zv j)with k|k
  .exact .inl ⟨k,nK l j o k⟩
  .obtain⟨c,e⟩:=nX (n:=s.heap.objs.size+1) k;refine .inr ⟨.inl k,c,e,?_⟩;have q:=x.cell y c e;rw[oU l j o (by show scope.names.lookup y≠_;rw[k];decide)]at q;exact q
 .exact d.hok.fresh (Nat.le_of_lt (x.above y c (PySem.mem_of_lookup h)))
 .unfold start;show _=N.length;rw[zD,zk,List.length_replicate];omega
def kf{CX:cW}{K:zg}{k:Nat}{f:Vb}{name qual:Vn}{params:Arguments}{scope:Scope}{m kV doc pm cdv ct oc:Va}{an od:Option Vb}
  {osl:Array (Option Va)} {N ps:List Vn} {sp:Sp} (lk:K.lookup f=Vo ⟨oc,od,.func (PySem.W.fnOf name qual params body scope m kV doc pm an cdv ct),osl⟩) (i:PySem.W.codeIn K cdv qual=true) (S:FnScope N ps scope)
  (len:∀vs H Q E,sp vs H Q E->vs.length=ps.length)
  (c:∀(A:Vi) (outer:List Env) (s:Vc) (H:Hp) (vs:List V) (Q:VK) (E:XK),Room k (A.deeper (envOfC qual scope s.heap.objs.size f cdv))->sp vs H Q E ->
   ∃t,bM (aH CX P w K mg base N qual scope f cdv A outer s H E) body t/\t { nx:=λ_ H'=>Q .non H',rt:=Q } (start N vs) H) :
  FnOk P w K mg base CX (k+1) f (PySem.W.fnOf name qual params body scope m kV doc pm an cdv ct) ps sp:=by
 refine⟨len,λA outer s H args us vs Q E j h z r hsp=>?_⟩;have B:=len _ _ _ _ hsp;have p:K.In s.heap:=h.mod.kin.keeps λb o e=>(h.bs b o e).1;have lim:s.heap.NoLimit:=h.mod.nolimit.keeps λb o e=>(h.bs b o e).1;have d:∀y∈ps.zip us,scope.names.lookup y.1=Vo .local\/(scope.names.lookup y.1=Vo .cell/\((cellsFrom (s.heap.objs.size+1) scope.names []).lookup y.1).isSome=true):=λ⟨n,v⟩ C=>by
  rcases S.par n (List.of_mem_zip C).1 with q|q
  .exact .inl q
  .exact .inr ⟨q,PySem.W.cellsFrom_some _ _ _ (.inl q)⟩
 refine codeAny_call_function j.depth (p _ _ lk) rfl S.co S.gen rfl (PySem.W.codeRec_of p i) (z _ _ _ _ ?_);refine wpAny_newFunctionEnv_cells S.kind d λenv F s1 x=>?_;subst F;refine⟨lim.keeps x.toInCall.keep,codeAny_func ?_⟩;obtain⟨t,G,L⟩:=c A outer s H vs Q E (j.deeper _) hsp;have I:Inv (aH CX P w K mg base N qual scope f cdv A outer s H E) [] (start N vs) H s1:=vi S j.hd h B r x;refine wpAny_mono (G [] s1 (start N vs) H _ I L) (λM s' g=>?_) λe s' g=>g;have fin:∀{a:St} {H':Hp} {v:V} {u:Va},Inv (aH CX P w K mg base N qual scope f cdv A outer s H E) [] a H' s'->RelV v u->Q v H'->CE outer P w H s Q u s':=
  λ{a H' v u} J l q=>⟨v,H',J.os,J.bare,J.base,J.hok,l,q⟩
 cases M with
 | ret u=>
  obtain⟨v,a,H',J,l,q⟩:=g;exact fin J l q
 | next=>
  obtain⟨a,H',J,q⟩:=g;exact fin (v:=V.non) (u:=Value.none) J rfl q
 | brk=>
  obtain⟨_,_,_,q⟩:=g;exact False.elim q
 | cont=>
  obtain⟨_,_,_,q⟩:=g;exact False.elim q
section
variable {X:Cx} {x:Vn} {p pos:Pos} {e:Vk} {es:List Vk} {t:TA} {id T:String} {r:List V->Hp->VK->Prop}
def jJ(r:List V->Hp->VK->Prop)(t:TA):TE:=λσ H Q=>t σ H λvs H1=>r vs H1 Q
def aS(c:cc X (.builtin id) r)(d:Gl X x)(f:X.mg x=Vp)(g:bootBuiltins x=Vo (.builtin id))(i:PA X (e::es) t)(j:x≠"__name__":=by decide)(a:(x == ("__debug__":Vn))=false:=by decide)
  (k:starEach (e::es) X.env=(false,eval e X.env)::starEach es X.env:=by rfl) (b:(backTo pos (starEach es X.env)).any (·.1)=false:=by rfl):PE X (.Call (.Name x p) (e::es) [] pos) (jJ r t):=by
 intro pins s σ H Q I h;refine wpAny_Call_Name_kw (gJ I d f g ?_ j a);exact PyProof.Rows.callWith_builtin1 (ao (i pos pins s σ H _ I h) λus s1 ⟨vs,H1,l,r1,m⟩=>c pins s1 σ H1 vs us Q l r1 m) k b
def bz(c:cc X (.type T) r)(d:Gl X x)(f:X.mg x=Vp)(g:bootBuiltins x=Vo (.type T))(i:PA X (e::es) t)(j:x≠"__name__":=by decide)(a:(x == ("__debug__":Vn))=false:=by decide)
  (k:starEach (e::es) X.env=(false,eval e X.env)::starEach es X.env:=by rfl) (b:(backTo pos (starEach es X.env)).any (·.1)=false:=by rfl):PE X (.Call (.Name x p) (e::es) [] pos) (jJ r t):=by
 intro pins s σ H Q I h;refine wpAny_Call_Name_kw (gJ I d f g ?_ j a);exact PyProof.Rows.callWith_type1 (ao (i pos pins s σ H _ I h) λus s1 ⟨vs,H1,l,r1,m⟩=>c pins s1 σ H1 vs us Q l r1 m) k b
end
end L2
variable {t:SetTable}{v:L2.V}{xs:List L2.V}{n m ep:Nat}{pins:List (Vb×Obj)}{σ:L2.St}{H:L2.Hp}{s:Vc}{T:String}{h B h1 h' base:Vh}{P prog:Vd}{w:Ve}{mg:Vn->Option Va}{a c C i1 i2 L:Vb}{fd:Vm}{sp:L2.Sp}{X Y:L2.Cx}{qual:Vn}{st:Vl}{N ps own:List Vn}{A:Vi}{env:Env}{sc out:Scope}{elt iter tg:Vk}{ifs elts:List Vk}{p:Vn×NameKind}{fp:List Vb}{o:Obj}{tn:Nat->Vh->Prop}{g:L2.TG}{tc:L2.TT}{E:Va->Vc->Prop}{l outer:List Env}{tl to:L2.TE}{apos cpos p2:Pos}{r:L2.V->List L2.V->L2.Hp->L2.VK->Prop}{R:L2.It->L2.Hp->Prop}{tb:L2.TS}{ys items:Array Va}{cls a0:Va}{M:Model}{neg:Bool}
namespace HT
open PySem PyProof.Rows
section
open PySem.SeqAt
open PySem.AutoSeq1 (wpAny_loadPart')
open PySem.MeetsSeq PySem.MeetsSeq2 PySem.MeetsSeq3
end
section
variable {prog:Vd} {w:Ve} {A:Vi} {E:Va->Vc->Prop} {s:Vc}
def sZ{t b:Vb}{vs ws:List Va}{Q:Va->Vc->Prop}(o:IsTup s.heap t vs.toArray)(p:IsTup s.heap b ws.toArray)(k:vs≠[])
  (h1:ws=[]->Q (.ref t) s) (h2:ws≠[]->Q (.ref s.heap.objs.size) { s with heap:=s.heap.push { cls:=.type "tuple",data:=.seq (vs++ws).toArray } })
  (j:vs.length+ws.length<=sizeLine):Vf (Vg prog w) A (binaryOp .Add (.ref t) (.ref b)) Q E s:=by
 obtain⟨⟨cls,dd,data,sl⟩,h,l,n,hd⟩:=id o;obtain⟨⟨m,c,data2,d⟩,a,f,n2,g⟩:=id p;simp only at l hd f g;subst l hd f g;have e:vs.toArray++ws.toArray=(vs++ws).toArray:=by simp
 by_cases i:ws=[]
 .exact concat_meets ⟨_,h,rfl⟩ ⟨_,a,rfl⟩ noFill_tuple_add seq_tuple_add PySem.F.slot_tuple_add PySem.F.entry_tuple_add (PySem.F.args_tuple_add_2 _ _)
   (tuple_addW1 t b vs.toArray ws.toArray n n2 dd c sl d (by simpa using k) (by simp[i])) ⟨h,a,h1 i⟩
 .refine concat_meets ⟨_,h,rfl⟩ ⟨_,a,rfl⟩ noFill_tuple_add seq_tuple_add PySem.F.slot_tuple_add PySem.F.entry_tuple_add (PySem.F.args_tuple_add_2 _ _)
   (tuple_addW2 t b vs.toArray ws.toArray n n2 dd c sl d (by simpa using k) (by simpa using i) (by rw[zq,zq];exact j)) ⟨h,a,?_⟩
  rw[e];exact h2 i
def cb(n d:Nat):Option Int->Nat
 | none=>d
 | some v=>if v<0 then(v+(n:Int)).toNat else min v.toNat n
def uT(n d:Nat):cb n d Vp=d:=rfl
def lR(n d k:Nat):cb n d (Vo (k:Int))=min k n:=by show(if(k:Int)<0 then((k:Int)+(n:Int)).toNat else min (k:Int).toNat n)=min k n;rw[Ai (by omega),zy]
def kq{v:Va}{o:Option Int}{Q:Option Int->Vc->Prop}(p:IsPart v o)(h:Q o s):Vf (Vg prog w) A (Builtin.Slice.slicePartIndex v) Q E s:=by
 cases p with
 | none=>exact slicePart_none h
 | int i t=>exact slicePart_int h
end
end HT
namespace L2
open PySem PySem.Spec PyProof.Rows
abbrev TO:=St->Hp->(Option Int->Hp->Prop)->Prop
def PO(X:Cx)(e:Option Vk)(t:TO):Prop:=
 ∀(pins:List (Vb×Obj)) (s:Vc) (σ:St) (H:Hp) (Q:Option Int->Hp->Prop),Inv X pins σ H s->t σ H Q ->
  Vf (Vg X.prog X.w) X.A (evalPart e X.env) (λu s'=>∃o H',Inv X pins σ H' s'/\IsPart u o/\Q o H') X.xe s
def pT:TO:=λ_ H Q=>Q Vp H
def qY(t:TE):TO:=λσ H Q=>t σ H λx H1=>∃i,x=.int i/\Q (Vo i) H1
section
variable {X:Cx} {e:Vk} {te:TE} {lo hi:Option Vk} {tl th:TO} {pos p2:Pos}
def oJ:PO X Vp pT:=by intro pins s σ H Q I h;rw[evalPart_none];exact zf ⟨Vp,H,I,.none,h⟩
def fM(h:PE X e te):PO X (Vo e) (qY te):=by intro pins s σ H Q I a;rw[evalPart_some];refine ao (h pins s σ H _ I a) λu s1 ⟨x,H1,b,r1,c⟩=>?_;obtain⟨i,rfl,q⟩:=c;obtain⟨t,rfl⟩:=r1;exact⟨Vo i,H1,b,.int i t,q⟩
def lC(X:Cx)(r:V->Option Int->Option Int->Hp->VK->Prop):Prop:=
 ∀(pins:List (Vb×Obj)) (s:Vc) (σ:St) (H:Hp) (x:V) (v a b:Va) (lo hi:Option Int) (sl:Vb) (Q:VK),Inv X pins σ H s->RelV x v->s.heap.IsSliceOf sl a b .none->IsPart a lo->IsPart b hi->r x lo hi H Q ->
  ∃T id,typeLookup (.type T) "__getitem__" = pure (Vo (.builtin id))/\s.TypeIs v T/\Vf (Vg X.prog X.w) X.A (getItem v (.ref sl)) (EP X pins σ Q) X.xe s
def m8(r:V->Option Int->Option Int->Hp->VK->Prop)(te:TE)(tl th:TO):TE:=λσ H Q=>te σ H λx H1=>tl σ H1 λl H2=>th σ H2 λu a=>r x l u a Q
def j4{r:V->Option Int->Option Int->Hp->VK->Prop}(g:lC X r)(i:PE X e te)(j:PO X lo tl)(k:PO X hi th):PE X (.Subscript e (.Slice lo hi Vp p2) pos) (m8 r te tl th):=by intro pins s σ H Q I h;refine Subscript_ (ao (i pins s σ H _ I h) λv s1 ⟨x,H1,m,r1,n⟩=>?_);refine wpAny_Slice (ao (j pins s1 σ H1 _ m n) λc s2 ⟨l,H2,o,pl,p⟩=>ao (k pins s2 σ H2 _ o p) λd a ⟨u,f,t,pu,y⟩=>?_);rw[evalPart_none];refine zf ?_;have z:Inv X pins σ f { a with heap:=a.heap.push { cls:=.type "slice",data:=.fields #[c,d,.none] } }:=t.kept (t':=a.toks) λb ob q=>zh _ q;obtain⟨T,id,B,C,E⟩:=g pins { a with heap:=a.heap.push { cls:=.type "slice",data:=.fields #[c,d,.none] } } σ f x v c d l u a.heap.objs.size Q z r1 (Heap.IsSliceOf.new ..) pl pu y;show Vf (Vg X.prog X.w) X.A (subscriptTail e (.Slice lo hi Vp p2) v (.ref a.heap.objs.size)) (EP X pins σ Q) X.xe { a with heap:=a.heap.push { cls:=.type "slice",data:=.fields #[c,d,.none] } };exact tail_any (ops:=[.ref a.heap.objs.size,v]) C B E (by with_unfolding_all rfl)
def dh(xs:List V)(lo hi:Option Int):List V:=(xs.drop (HT.cb xs.length 0 lo)).take (HT.cb xs.length xs.length hi-HT.cb xs.length 0 lo)
def yI(xs:List V)(lo hi:Option Int):(dh xs lo hi).length<=xs.length:=by unfold dh;rw[Ac,List.length_drop];omega
def yj(K:zg):R2:=λx y H Q=>∃a b xs ys,x=.ref a/\y=.ref b/\ah K H a xs/\ah K H b ys/\xs≠[]/\xs.length+ys.length<=sizeLine ∧
 (ys=[]->Q (.ref a) H)/\(ys≠[]->∀p,H p=Vp->Q (.ref p) (upd H p (.tup (xs++ys))))
def Vals.nil_iff{us:List Va}(r:Vals xs us):us=[]↔xs=[]:=by
 cases r with
 | nil=>simp
 | cons _ _=>simp
def uu:aU X (binaryOp .Add) (yj X.K):=by intro pins s σ H x y v u Q I f g h;obtain⟨a,b,xs,ys,rfl,rfl,i,j,k,d,l,m⟩:=h;cases f;cases g;obtain⟨n,r1,p,_⟩:=I.tuple i;obtain⟨e,c,p2,_⟩:=I.tuple j;refine HT.sZ p p2 (λz=>k (r1.nil_iff.mp z)) (λz=>⟨.ref a,H,I,rfl,l (c.nil_iff.mp z)⟩) (λz=>?_) (by rw[<-r1.length,<-c.length];exact d);refine⟨.ref s.heap.objs.size,_,I.laid (t':=s.toks) (o:=.tup (xs++ys)) (λb ob q=>zh _ q) (zF _) ?_,rfl,m (λw=>z (c.nil_iff.mpr w)) _ (I.hok.fresh (zF _))⟩;exact⟨by rw[zD];exact d,_,r1.append c,IsTup.new _ _⟩
end
def gf(n:Nat)(i:Int):Option Nat:=if 0<=i then(if i<n then Vo i.toNat else Vp)else if -(n:Int)<=i then Vo (i+n).toNat else Vp
def bR{α:Type}(xs:List α)(i:Int):Option α:=(gf xs.length i).bind λj=>xs[j]?
def yA{i:Int}{j:Nat}(h:gf n i=Vo j):seqIndex? i n=Vo j/\j<n/\-(n:Int)<=i/\i<n:=by
 unfold gf at h;by_cases a:0<=i
 .rw[Aj a]at h;by_cases h1:i<n
  .rw[Aj h1]at h;have e:i.toNat=j:=zV h;exact⟨by rw[seqIndex_of a h1,e],by omega,by omega,h1⟩
  .rw[Ai h1]at h;cases h
 .rw[Ai a]at h;by_cases h1:-(n:Int)<=i
  .rw[Aj h1]at h;have e:(i+n).toNat=j:=zV h;exact⟨by rw[seqIndex_neg (by omega) h1,e],by omega,h1,by omega⟩
  .rw[Ai h1]at h;cases h
def lg{α:Type}{xs:List α}{i:Int}{v:α}(h:bR xs i=Vo v):∃j,seqIndex? i xs.length=Vo j/\xs[j]?=Vo v/\j<xs.length/\-(xs.length:Int)<=i/\i<xs.length:=by
 unfold bR at h;cases e:gf xs.length i with
 | none=>rw[e]at h;cases h
 | some j=>
  rw[e]at h;obtain⟨h1,h2,a,b⟩:=yA e;exact⟨j,h1,h,h2,a,b⟩
def bC{α:Type}{xs:List α}{j:Nat}{v:α}(h:xs[j]?=Vo v):bR xs (j:Int)=Vo v:=by
 have a:j<xs.length:=(zu.mp h).1;have e:gf xs.length (j:Int)=Vo j:=by unfold gf;rw[Aj (by omega),Aj (by omega)];simp
 unfold bR;rw[e];exact h
def yG(b:Vk):Prop:=∀o i,subscripted b false o i=operate [o,i] (getItem o i)
def fN(X:Cx)(r:R2):Prop:=
 ∀(value slice:Vk) (pins:List (Vb×Obj)) (s:Vc) (σ:St) (H:Hp) (x y:V) (v u:Va) (Q:VK),Inv X pins σ H s->RelV x v->RelV y u->r x y H Q ->
  subscripted slice false v u=operate [v,u] (getItem v u)->Vf (Vg X.prog X.w) X.A (subscriptTail value slice v u) (EP X pins σ Q) X.xe s
def gg(X:Cx)(id:String)(r:V->List V->Hp->VK->Prop):Prop:=
 ∀(pins:List (Vb×Obj)) (s:Vc) (σ:St) (H:Hp) (x:V) (xs:List V) (v:Va) (us:List Va) (Q:VK),Inv X pins σ H s->RelV x v->Vals xs us->r x xs H Q ->
  Vf (Vg X.prog X.w) X.A (call (.builtin id) (v::us)) (EP X pins σ Q) X.xe s
section
variable {X:Cx} {a b:Vk} {ta tb:TE} {pos:Pos}
def ak{r:R2}(c:fN X r)(d:PE X a ta)(e:PE X b tb)(f:yG b):PE X (.Subscript a b pos) (gw r ta tb):=by intro pins s σ H Q I h;exact Subscript_ (lq d e I h λv u s2 x y H2 g i j q=>c a b pins s2 σ H2 x y v u Q g i j q (f _ _))
def kK(K:zg):R2:=λx y H Q=>∃p xs i v,x=.ref p/\y=.int i/\ag K H p xs/\bR xs i=Vo v/\Q v H
def kB(K:zg):R2:=λx y H Q=>∃p xs i v,x=.ref p/\y=.int i/\ah K H p xs/\bR xs i=Vo v/\Q v H
def wF:R2:=λx y H Q=>∃z i c,x=.str z/\y=.int i/\z.length<=sizeLine/\bR z.cps.toList i=Vo c/\Q (.str ⟨#[c]⟩) H
def vG:fN X (kK X.K):=by
 intro value slice pins s σ H x y v u Q I g k h d;obtain⟨p,xs,i,z,rfl,rfl,l,m,q⟩:=h;cases g;obtain⟨t,rfl⟩:=k;obtain⟨a,r,pl,B⟩:=I.list l;obtain⟨j,h1,h2,C,n,o⟩:=lg m;obtain⟨w,e,b⟩:=r.get h2;have A:=r.length;have E:=fV;have fin:EP X pins σ Q w s:=⟨z,H,I,b,q⟩;by_cases f:0<=i
 .have c:i.toNat=j:=by rw[seqIndex_of f o]at h1;exact zV h1
  exact item_listR pl.isList f (by omega) (by rw[c];simpa using e) fin d
 .have c:(i+(a.toArray.size:Int)).toNat=j:=by rw[seqIndex_neg (by omega) n]at h1;rw[zq,<-A];exact zV h1
  exact subscriptTail_builtinR (x:=w) pl.isList.typeIs slot_list_getitem.lookup
   (wpAny_getItem_list_neg (Q:=λr s'=>r=w/\EP X pins σ Q r s') pl.isList (by omega) (by rw[zq]<;>omega) (by omega) (by rw[c];simpa using e) ⟨rfl,fin⟩) d
def y8:fN X (kB X.K):=by
 intro value slice pins s σ H x y v u Q I b c h d;obtain⟨p,xs,i,z,rfl,rfl,e,f,q⟩:=h;cases b;obtain⟨t,rfl⟩:=c;obtain⟨g,r,pl,m⟩:=I.tuple e;obtain⟨j,h1,h2,n,o,A⟩:=lg f;obtain⟨w,k,a⟩:=r.get h2;have l:=r.length;have B:=fV;have fin:EP X pins σ Q w s:=⟨z,H,I,a,q⟩;exact subscriptTail_builtinR (x:=w) pl.typeIs slot_tuple_getitem.lookup
  (getItem_tuple (j:=j) (Q:=λr s'=>r=w/\EP X pins σ Q r s') pl (by omega) (by omega) (by rw[zq,<-l];exact h1) (by simpa using k) ⟨rfl,fin⟩) d
def my:fN X wF:=by
 intro value slice pins s σ H x y v u Q I a b h d;obtain⟨z,i,c,rfl,rfl,n,e,q⟩:=h;obtain⟨t,rfl⟩:=a;obtain⟨o,rfl⟩:=b;obtain⟨j,h1,h2,p,f,g⟩:=lg e;have k:z.cps.toList.length=z.length:=by simp[Str.length]
 rw[k]at h1 f g;have r:=fV;exact tail_any (typeIs_str s z t) slot_str_getitem.lookup (getItem_str (c:=c) (by have l:decide (i < -(2 ^ 63:Int))=false:=Ag (by omega);have m:decide (i ≥ 2 ^ 63)=false:=Ag (by omega);rw[l,m,Bool.or_false]) (by rw[h1];simpa using h2) ⟨.str ⟨#[c]⟩,H,I.tok _,⟨_,rfl⟩,q⟩) d
theorem Inv.lst{pins:List (Vb×Obj)}{σ:St}{H:Hp}{s:Vc}{p:Vb}{xs:List V}(I:Inv X pins σ H s)(h:H p=Vo (.lst xs)):
  ∃(a:List Va) (n:Nat),Vals xs a/\s.heap.get? p=Vo { cls:=.type "list",data:=.seq a.toArray n }/\xs.length<=sizeLine:=by
 obtain⟨z,a,n,r,e⟩:=I.hok p _ h;exact⟨a,n,r,e,z⟩
def va(lo hi:Option Int)(n:Nat):(sliceBounds lo hi Vp n).1=((HT.cb n 0 lo:Nat):Int)/\(sliceBounds lo hi Vp n).2.1=((HT.cb n n hi:Nat):Int)/\(sliceBounds lo hi Vp n).2.2=1:=by
 refine⟨?_,?_,rfl⟩
 .cases lo with
  | none=>simp[sliceBounds,HT.cb]
  | some i=>
   simp only[sliceBounds,HT.cb,Option.getD_none,show (1:Int)>0 by decide,if_true];by_cases h:i<0
   .simp only[h,if_true]<;>omega
   .simp only[h,if_false]<;>omega
 .cases hi with
  | none=>simp[sliceBounds,HT.cb]
  | some i=>
   simp only[sliceBounds,HT.cb,Option.getD_none,show (1:Int)>0 by decide,if_true];by_cases h:i<0
   .simp only[h,if_true]<;>omega
   .simp only[h,if_false]<;>omega
def tV(a:List Va)(lo hi:Option Int):slicePick a.toArray lo hi Vp=((a.drop (HT.cb a.length 0 lo)).take (HT.cb a.length a.length hi-HT.cb a.length 0 lo)).toArray:=by obtain⟨h1,h2,b⟩:=va lo hi a.toArray.size;unfold slicePick;rw[h1,h2,b];simp only[sliceRange_one,pick_run,zq]<;>rfl
def kL(K:zg):V->Option Int->Option Int->Hp->VK->Prop:=λx lo hi H Q=>∃a xs,x=.ref a/\ag K H a xs/\∀p,H p=Vp->Q (.ref p) (upd H p (.lst (dh xs lo hi)))
def yV:lC X (kL X.K):=by intro pins s σ H x v j k lo hi sl Q I d e pl pu h;obtain⟨a,xs,rfl,f,q⟩:=h;cases d;obtain⟨g,r,c,i⟩:=I.list f;have hlen:=r.length;refine⟨"list",_,slot_list_getitem.lookup,c.isList.typeIs,?_⟩;refine wpAny_getItem_list_slice c.isList e pl pu .none (by simp) ?_ (by rw[zq]<;>omega);rw[tV,<-hlen];refine⟨.ref s.heap.objs.size,_,I.laid (t':=s.toks) (o:=.lst (dh xs lo hi)) (λb ob q=>zh _ q) (zF _) ?_,rfl,q _ (I.hok.fresh (zF _))⟩;exact⟨zP (yI xs lo hi) i,_,0,(r.drop (HT.cb xs.length 0 lo)).take (HT.cb xs.length xs.length hi-HT.cb xs.length 0 lo),zi _ rfl⟩
def xR:cc X (.builtin "len") (λxs H Q=>∃p ys,xs=[.ref p]/\(ag X.K H p ys\/ah X.K H p ys)/\Q (.int ys.length) H):=by
 intro pins s σ H xs us Q I r h;obtain⟨p,ys,rfl,a,q⟩:=h;obtain⟨u,rfl,d⟩:=vals1 r;cases d;have f:=fV;rcases a with a|a
 .obtain⟨b,c,pl,e⟩:=I.list a;have hlen:=c.length;exact Calls.call_len_list pl.isList (by simp only[zq]<;>omega) ⟨.int ys.length,H,I.tok _,⟨s.toks+1,by rw[zq,hlen]⟩,q⟩
 .obtain⟨b,c,pl,e⟩:=I.tuple a;have hlen:=c.length;exact len_tuple pl (by simp only[zq]<;>omega) ⟨.int ys.length,H,I.tok _,⟨s.toks+1,by rw[zq,hlen]⟩,q⟩
def mr:cc X (.builtin "len") (λxs H Q=>∃z,xs=[.str z]/\z.length<=sizeLine/\Q (.int z.length) H):=by intro pins s σ H xs us Q I r h;obtain⟨z,rfl,a,q⟩:=h;obtain⟨u,rfl,t,rfl⟩:=vals1 r;have b:=fV;exact len_str (by omega) ⟨.int z.length,H,I.tok _,⟨_,rfl⟩,q⟩
def ve:cc X (.type "tuple") (λxs H Q=>∃p ys,xs=[.ref p]/\((ag X.K H p ys/\∀l,H l=Vp->Q (.ref l) (upd H l (.tup ys)))\/(ah X.K H p ys/\Q (.ref p) H))):=by
 intro pins s σ H xs us Q I r h;obtain⟨p,ys,rfl,h⟩:=h;obtain⟨u,rfl,i⟩:=vals1 r;cases i;rcases h with⟨c,q⟩|⟨c,q⟩
 .obtain⟨a,d,pl,f⟩:=I.list c;have hlen:=d.length;refine call_tuple_list pl.isList (λh' kp=>?_) (by simp only[zq]<;>omega);have g:Inv X pins σ H { s with heap:=h' }:=I.kept (t':=s.toks) kp;have j:Inv X pins σ (upd H h'.objs.size (.tup ys)) { s with heap:=h'.push { cls:=.type "tuple",data:=.seq a.toArray } }:=
   g.laid (t':=s.toks) (λb o e=>zh _ e) (zF _) (show bH X.prog X.w _ _ _ (.tup ys)from⟨f,a,d,IsTup.new _ _⟩)
  exact⟨.ref h'.objs.size,_,j,rfl,q _ (g.hok.fresh (zF _))⟩
 .obtain⟨a,d,pl,f⟩:=I.tuple c;exact call_tuple_same pl ⟨.ref p,H,I,rfl,q⟩
def fq(K:zg)(T:String)(x:V)(H:Hp):Prop:=match x with
 | .str _=>T = "str"
 | .int _=>T = "int"
 | .ref p=>(T = "list"/\∃xs,ag K H p xs)\/(T = "tuple"/\∃o,K.lookup p=Vo o/\o.cls=.type "tuple"/\o.dict=Vp) ∨
   (T = "dict"/\((∃kvs,H p=Vo (.dK kvs))\/∃kvs,H p=Vo (.dT kvs)))\/(T = "set"/\∃S n,H p=Vo (.set S n))
 | _=>False
def rW{x:V}{v:Va}(I:Inv X pins σ H s)(r:RelV x v)(ty:fq X.K T x H):
  s.TypeIs v T/\∀a,v=.ref a->∃ob,s.heap.get? a=Vo ob/\ob.dict=Vp:=by
 cases x with
 | str z=>
  obtain⟨t,rfl⟩:=r;cases(show T = "str" from ty);exact⟨typeIs_str s z t,λ_ e=>nomatch e⟩
 | int i=>
  obtain⟨t,rfl⟩:=r;cases(show T = "int" from ty);exact⟨typeIs_int s i t,λ_ e=>nomatch e⟩
 | ref p=>
  cases r;rcases ty with⟨rfl,xs,f⟩|⟨rfl,o,b,g,hd⟩|⟨rfl,b⟩|⟨rfl,S,n,b⟩
  .obtain⟨h,_,pl,_⟩:=I.list f;refine⟨pl.isList.typeIs,λa e=>?_⟩;cases e;obtain⟨o,n,e,c,hd,_⟩:=pl;exact⟨o,e,hd⟩
  .refine⟨⟨o,I.kIn p o b,g⟩,λa e=>?_⟩;cases e;exact⟨o,I.kIn _ o b,hd⟩
  .have z:∃o,s.heap.get? p=Vo o/\o.ExactDict:=by
    rcases b with⟨kvs,b⟩|⟨kvs,b⟩
    .obtain⟨_,_,_,_,o,_,_,e,ex,_⟩:=I.hok p _ b;exact⟨o,e,ex⟩
    .obtain⟨_,_,_,_,o,_,_,e,ex,_⟩:=I.hok p _ b;exact⟨o,e,ex⟩
   obtain⟨o,e,ex⟩:=z;refine⟨⟨o,e,ex.1⟩,λa d=>?_⟩;cases d;exact⟨o,e,ex.2.1⟩
  .obtain⟨o,_,_,_,e,ex,_⟩:=I.hok p _ b;refine⟨⟨o,e,ex.1⟩,λa d=>?_⟩;cases d;exact⟨o,e,ex.2.1⟩
 | _=>exact False.elim ty
def kx(K:zg)(T:String)(r:V->List V->Hp->VK->Prop)(to:TE):TE:=λσ H Q=>to σ H λx H1=>fq K T x H1/\r x [] H1 Q
def jV(K:zg)(T:String)(r:V->List V->Hp->VK->Prop)(to:TE)(t:TA):TE:=λσ H Q=>to σ H λx H1=>fq K T x H1/\t σ H1 λxs H2=>r x xs H2 Q
variable {o e:Vk} {es:List Vk} {to:TE} {t:TA} {name:Vn} {apos cpos:Pos} {T id:String} {r:V->List V->Hp->VK->Prop}
def wg(e:PlainAttrs T)(slot:Slot T name id)(c:typeOf (.builtin id)=pure (.type "method_descriptor"))(f:gg X id r)(g:PE X o to)
  (a:attributeBase o name X.env (eval o X.env)=eval o X.env:=by rfl) (b:(apos.endLine == cpos.line)=true:=by rfl):PE X (.Call (.Attribute o name apos) [] [] cpos) (kx X.K T r to):=by
 intro pins s σ H Q I h;refine wpAny_Call_method0_late a b (ao (g pins s σ H _ I h) λv s1 ⟨x,H1,d,r1,ty,i⟩=>?_);obtain⟨h1,h2⟩:=rW d r1 ty;exact⟨T,id,e,slot,c,h1,h2,Calls.callWith_builtin rfl (PySem.evalArgs_none (f pins s1 σ H1 x [] v [] Q d r1 .nil i))⟩
def uG(j:PlainAttrs T)(slot:Slot T name id)(f:typeOf (.builtin id)=pure (.type "method_descriptor"))(k:gg X id r)(l:PE X o to)(m:PA X (e::es) t)
  (b:attributeBase o name X.env (eval o X.env)=eval o X.env:=by rfl)
  (d:((backTo cpos (starEach (e::es) X.env)).all (λx=>!x.1) && (backToKw cpos (keywordEach [] X.env)).all (λx=>x.1.isSome)
   && decide ((e::es).length+([]:List Keyword).length+(if([]:List Keyword).isEmpty then 0 else 1)<30))=true:=by rfl)
  (c:(apos.endLine == cpos.line)=true:=by rfl) (n:starEach (e::es) X.env=(false,eval e X.env)::starEach es X.env:=by rfl) (a:(backTo cpos (starEach es X.env)).any (·.1)=false:=by rfl) :
  PE X (.Call (.Attribute o name apos) (e::es) [] cpos) (jV X.K T r to t):=by
 intro pins s σ H Q I h;refine wpAny_Call_method_late b d c rfl (ao (l pins s σ H _ I h) λv s1 ⟨x,H1,g,r1,ty,p⟩=>?_);obtain⟨h1,h2⟩:=rW g r1 ty;refine⟨T,id,j,slot,f,h1,h2,?_⟩;have i:=m cpos pins s1 σ H1 _ g p;rw[n]at i ⊢;refine Calls.callWith_builtin (by show(false || (backTo cpos (starEach es X.env)).any (·.1))=false;rw[a]<;>rfl) (Calls.evalArgs_plain ?_);exact ao i λus s2 ⟨vs,H2,q,u,w⟩=>k pins s2 σ H2 x vs v us Q q r1 u w
end
def mh(X:Cx)(id:String)(r:V->List V->Hp->VK->Prop):Prop:=
 ∀(pins:List (Vb×Obj)) (s:Vc) (σ:St) (H:Hp) (x:V) (xs:List V) (v:Va) (us:List Va) (Q:VK),Inv X pins σ H s->RelV x v->Vals xs us->r x xs H Q ->
  Vf (Vg X.prog X.w) X.A (call (.builtin id) (v::us)) (EP X pins σ Q) X.xe s
def Vals.one:∀{x:V} {us:List Va},Vals [x] us->∃u,us=[u]/\RelV x u:=vals1
def Vals.zero:∀{us:List Va},Vals [] us->us=[]
 | _,.nil=>rfl
theorem Vals.dropLast{xs:List V}{us:List Va}(h:Vals xs us):Vals xs.dropLast us.dropLast:=by
 induction h with
 | nil=>exact .nil
 | cons r t a=>
  cases t with
  | nil=>exact .nil
  | cons q b=>exact .cons r a
theorem Vals.rep{xs:List V}{us:List Va}(h:Vals xs us):∀k:Nat,Vals (zY k xs).flatten (zY k us).flatten
 | 0=>.nil
 | k+1=>by rw[List.replicate_succ,List.replicate_succ,List.flatten_cons,List.flatten_cons];exact Vals.append h (Vals.rep h k)
def yE{α:Type}(l:List α):l.eraseIdx (l.length-1)=l.dropLast:=by
 induction l with
 | nil=>rfl
 | cons a r c=>
  cases r with
  | nil=>rfl
  | cons b r=>
   have e:(a::b::r).length-1=((b::r).length-1)+1:=by have h1:(a::b::r).length=r.length+2:=rfl;have h2:(b::r).length=r.length+1:=rfl;omega
   rw[e,List.eraseIdx_cons_succ,c]
   all_goals rfl
theorem foldl_rep(a:List Va):∀(k:Nat) (acc:List Va),
  List.foldl (λx1 x2=>x1++x2) acc.toArray (zY k a.toArray)=(acc++(zY k a).flatten).toArray
 | 0,acc=>by simp
 | k+1,acc=>by
  have e:acc.toArray++a.toArray=(acc++a).toArray:=by simp
  have b:(acc++a)++(zY k a).flatten=acc++(zY (k+1) a).flatten:=by rw[List.replicate_succ,List.flatten_cons,List.append_assoc]
  rw[<-b,<-foldl_rep a k (acc++a),<-e,List.replicate_succ,List.foldl_cons]
section
variable {X:Cx} {pins:List (Vb×Obj)} {σ:St} {H:Hp} {s:Vc} {l b:Vb} {xs ys zs:List V}
def Inv.lset{a its':List Va}{n:Nat}{f:Array Va->Array Va}{t':Nat}(I:Inv X pins σ H s)(b:H l=Vo (.lst xs))
  (e:s.heap.get? l=Vo { cls:=.type "list",data:=.seq a.toArray n }) (c:f a.toArray=its'.toArray) (d:Vals ys its') (g:ys.length<=sizeLine) :
  Inv X pins σ (upd H l (.lst ys)) { s with heap:=s.heap.update l (Obj.mapSeq f),toks:=t' }:=by
 have q:=PySem.IsL.update e f;rw[c]at q;refine I.write (x:=l) (e:=l) (by rw[b];exact trivial) (.inl rfl) (λj u h i=>(Heap.get?_update_other s.heap (Obj.mapSeq f) (Ne.symm h)).trans i) ⟨_,q⟩ ?_;exact⟨g,its',_,d,q⟩
def Inv.lnew{a:List Va}{t':Nat}(I:Inv X pins σ H s)(b:Vals ys a)(c:ys.length<=sizeLine):
  Inv X pins σ (upd H s.heap.objs.size (.lst ys)) { s with heap:=s.heap.push { cls:=.type "list",data:=.seq a.toArray },toks:=t' }:=
 I.laid (λ_ _ q=>zh _ q) (zF _) ⟨c,a,0,b,zi _ rfl⟩
theorem Inv.fresh(I:Inv X pins σ H s):H s.heap.objs.size=Vp:=I.hok.fresh (zF _)
def Inv.lstM(I:Inv X pins σ H s)(b:H l=Vo (.lst xs)):xs.length<=sizeLine/\∃(a:List Va) (n:Nat),Vals xs a/\xs.length=a.length/\s.heap.get? l=Vo { cls:=.type "list",data:=.seq a.toArray n }:=by obtain⟨z,a,n,r,e⟩:=I.hok l _ b;exact⟨z,a,n,r,r.length,e⟩
def oW(h:n<=sizeLine):Builtin.List.listTooLong n=false:=by unfold Builtin.List.listTooLong;exact Ag (by omega)
end
section
variable {X:Cx}
def pO:V->List V->Hp->VK->Prop:=λx vs H Q=>∃l xs y,x=.ref l/\vs=[y]/\H l=Vo (.lst xs)/\xs.length<sizeLine/\Q .non (upd H l (.lst (xs++[y])))
def bU:mh X "list.append" pO:=by intro pins s σ H x vs v us Q I c d h;obtain⟨l,xs,y,rfl,rfl,b,g,q⟩:=h;cases c;obtain⟨u,rfl,f⟩:=d.one;obtain⟨z,a,n,r,i,e⟩:=I.lstM b;refine call_meets F.slot_list_append ⟨_,e,rfl⟩ F.entry_list_append (F.args_list_append_2 _ _) (PySem.list_append l a.toArray n u (by rw[zq];omega)) ⟨e,?_⟩;refine⟨.non,_,I.lset (its':=a++[u]) b e (by simp) (r.append (.cons f .nil)) ?_,rfl,q⟩;rw[zD,List.length_singleton];omega
def sE:V->List V->Hp->VK->Prop:=λx vs H Q=>∃l b xs zs,x=.ref l/\vs=[.ref b]/\H l=Vo (.lst xs)/\H b=Vo (.lst zs)/\xs.length+zs.length<=sizeLine/\Q .non (upd H l (.lst (xs++zs)))
def zd:mh X "list.extend" sE:=by
 intro pins s σ H x vs v us Q I i j h;obtain⟨l,b,xs,zs,rfl,rfl,g,k,w,q⟩:=h;cases i;obtain⟨u,rfl,m⟩:=j.one;cases m;obtain⟨z,c,n,r,y,e⟩:=I.lstM g;obtain⟨z2,a,n2,o,p,t⟩:=I.lstM k;have f:c.toArray.size+a.toArray.size<=sizeLine:=by rw[zq,zq];omega
 have d:¬(!c.toArray.isEmpty && Builtin.List.listTooLong (c.toArray.size+a.toArray.size))=true:=by rw[oW f,Bool.and_false];exact zB
 refine call_meets F.slot_list_extend ⟨_,e,rfl⟩ F.entry_list_extend (F.args_list_extend_2 _ _)
  (AutoSeq1.list_extend_list_list_0 l c.toArray n b a.toArray n2 d (by rw[zq];omega) (by omega)) ⟨e,t,?_⟩
 refine⟨.non,_,I.lset (its':=c++a) g e (by simp) (r.append o) ?_,rfl,q⟩;rw[zD];omega
def sD:V->List V->Hp->VK->Prop:=λx vs H Q=>∃l xs y,x=.ref l/\vs=[]/\H l=Vo (.lst xs)/\xs[xs.length-1]?=Vo y/\Q y (upd H l (.lst xs.dropLast))
def rf:mh X "list.pop" sD:=by
 intro pins s σ H x vs v us Q I f g h;obtain⟨l,xs,y,rfl,rfl,d,i,q⟩:=h;cases f;have b:=g.zero;subst b;obtain⟨z,a,n,r,j,e⟩:=I.lstM d;obtain⟨u,k,m⟩:=r.get i;have c:a.toArray[a.toArray.size-1]?=some u:=by show a.toArray[a.length-1]?=some u;rw[<-Array.getElem?_toList,<-j];exact k
 refine call_meets F.slot_list_pop ⟨_,e,rfl⟩ F.entry_list_pop (F.args_list_pop_1 _) (MeetsSeq.list_pop_last l a.toArray n u c (by rw[zq];omega)) ⟨e,?_⟩;refine⟨y,_,I.lset (its':=a.dropLast) d e ?_ r.dropLast ?_,m,q⟩
 .show a.toArray.eraseIdxIfInBounds (a.toArray.size-1)=a.dropLast.toArray;rw[zq,List.eraseIdxIfInBounds_toArray,yE]
 .rw[List.length_dropLast];omega
def pI:R2:=λx y H Q=>∃l b xs zs,x=.ref l/\y=.ref b/\H l=Vo (.lst xs)/\H b=Vo (.lst zs)/\xs.length+zs.length<=sizeLine/\∀p,H p=Vp->Q (.ref p) (upd H p (.lst (xs++zs)))
def jh:aU X (binaryOp .Add) pI:=by
 intro pins s σ H x y v u Q I d f h;obtain⟨l,b,xs,zs,rfl,rfl,g,i,p,q⟩:=h;cases d;cases f;obtain⟨z,c,n,r,t,e⟩:=I.lstM g;obtain⟨z2,a,n2,j,k,m⟩:=I.lstM i;refine PySem.P.add_list e m ?_ (by rw[zq,zq];omega);have o:c.toArray++a.toArray=(c++a).toArray:=by simp
 rw[o];exact⟨.ref _,_,I.lnew (t':=s.toks) (r.append j) (by rw[zD];omega),rfl,q _ I.fresh⟩
def qo:R2:=λx y H Q=>∃l k xs,x=.ref l/\y=.int k/\H l=Vo (.lst xs)/\-(2 ^ 63)<=k/\k<2 ^ 63/\xs.length*k.toNat<=sizeLine ∧
 ∀p,H p=Vp->Q (.ref p) (upd H p (.lst (zY k.toNat xs).flatten))
def len_rep{α:Type}(xs:List α)(k:Nat):(zY k xs).flatten.length=k*xs.length:=by
 induction k with
 | zero=>simp
 | succ k a=>rw[List.replicate_succ,List.flatten_cons,zD,a,Nat.succ_mul,Nat.add_comm]
def wY:aU X (binaryOp .Mult) qo:=by
 intro pins s σ H x y v u Q I j o h;obtain⟨l,k,xs,rfl,rfl,p,h1,h2,i,q⟩:=h;cases j;obtain⟨t,rfl⟩:=o;obtain⟨z,b,n,r,w,e⟩:=I.lstM p;have hlen:b.toArray.size*k.toNat<=sizeLine:=by rw[zq,<-w];exact i
 have d:¬b.toArray.size*k.toNat>(2 ^ 63-1) / 8:=by
  have:(sizeLine:Nat)<=(2 ^ 63-1) / 8:=by decide
  omega
 have f:¬(!Builtin.List.listFitsIndex k)=true:=by rw[fitsIndex_both h1 h2];exact zB
 have c:¬Builtin.List.listTooLong (b.toArray.size*k.toNat)=true:=by rw[oW hlen];exact zB
 have g:List.foldl (λx1 x2=>x1++x2) #[] (zY (if b.toArray.isEmpty=true then 0 else k.toNat) b.toArray)=(zY k.toNat b).flatten.toArray:=by
  have A:∀m:Nat,List.foldl (λx1 x2=>x1++x2) #[] (zY m b.toArray)=(zY m b).flatten.toArray:=λm=>by have:=foldl_rep b m [];rw[List.nil_append]at this;exact this
  rw[A];cases b with
  | nil=>simp
  | cons a B=>rw[Ai (by simp)]
 refine wpAny_binaryOp_repeat_ref (T:="list") (U:="int") (by decide) ⟨_,e,rfl⟩ (λs'=>typeIs_int s' k t) noFill_list_mul F.fills_int_mul F.slot_int_rmul repeat_list F.slot_int_index.lookup
  (call_meets F.slot_int_rmul (typeIs_int s k t) F.entry_int_rmul (F.args_int_rmul_2 _ _) (int___rmul___int_list k t l b.toArray n)
   ⟨e,rfl,⟨_,e,rfl⟩,call_meets F.slot_list_mul ⟨_,e,rfl⟩ F.entry_list_mul (F.args_list_mul_2 _ _) (AutoListH.list___mul___list_int_3 l b.toArray n k t f d c) ⟨e,?_⟩⟩)
 rw[g];exact⟨.ref _,_,I.lnew (t':=s.toks) (r.rep k.toNat) (by rw[len_rep,Nat.mul_comm];exact i),rfl,q _ I.fresh⟩
end
end L2
namespace Att
open PySem PySem.W PySem.Calls PyProof.Rows
def vw{P:Params}:∀(ns:List Int) (vs:List Va),WellAll P h vs (ns.map WData.int)->IntsAre vs ns:=by
 intro ns;induction ns with
 | nil=>
  intro vs w;rw[List.map_nil]at w;cases w;exact .nil
 | cons n ns c=>
  intro vs w;rw[List.map_cons]at w;cases w with
  | cons a b=>
   cases a;exact .cons _ _ (c _ b)
def xk{l:OpenLaw}(j:l.most=Vo n){P:Params}{args:List WData}{vals:List Va}
  (b:l.row.toRowW.claim.pre args=true) (f:WellAll P h vals args) :
  ∃a vs ns,vals=[Value.ref a]/\args=[WData.list (ns.map WData.int)]/\h.get? a=Vo { cls:=.type "list",data:=.seq vs.toArray }/\IntsAre vs ns/\ns.length<=n:=by
 have g:WShape.hasAll [] args [.list .int]=true:=(pre_splitW b).1;have i:l.pre.holds [] { args:=args }=true:=(pre_splitW b).2;obtain⟨d,r,rfl,h1,h2⟩:=hasAllW_cons g;obtain rfl:=hasAllW_nil h2;obtain⟨xs,rfl,k⟩:=hasW_list h1;obtain⟨ns,rfl⟩:=items_int k;have hlen:ns.length<=n:=by
  unfold OpenLaw.pre at i;have c:(WTm.not (.lt (.lit (.int (n:Int))) (.len (.arg 0)))).holds [] { args:=[.list (ns.map .int)] }=true:=by have c:=(holds_andW i).1;rw[j]at c;exact c
  have e:=condW_of c (w_not (w_lt w_lit (w_len_list (w_arg rfl))));rw[zk]at e;refine Nat.le_of_not_lt λq=>?_;have m:(n:Int)<((ns.length:Nat):Int):=by omega
  first
   | (rw[Ah m]at e;exact absurd e (by decide))
   | (simp at e;omega)
 cases f with
 | cons w1 w2=>
  cases w2;cases w1 with
  | list o hall=>exact⟨_,_,ns,rfl,rfl,o,vw ns _ hall,hlen⟩
def uJ(l:OpenLaw)(args:List WData):l.row.toRowW.claim.post args (.bool true) args=true:=
 postW_of (r:=l.row.toRowW) (X:=(true == true))
  (show WShape.has [] (.bool true) .bool=true by first|rfl|decide|simp [WShape.has,WShape.arms,WShape.armsAll])
  (show(WTm.eq .res (.lit (.bool true))).value [] { args:=args,res:=Vo (.bool true),after:=args }=Vo (.bool (true == true))from w_eq_bool (w_res rfl) w_lit) rfl
def xI{l:OpenLaw}{q:Vd}{loose:List Vn}{m:(Vn->Option Va)->Vh->Prop}{p:Ve->Vh->Prop}{d:DefRec}
  (t:l.most=Vo n) (h:d.params.defaults=[])
  (call:∀(w:Ve) (s₀ b:Vc) (mg mb:Vn->Option Va) (c:Vb) (o:Obj) (pm cd doc:Va) (a:Vb) (vs:List Va) (ns:List Int),
   Ground q loose [] m w s₀ mg mb b.heap->p w b.heap ->
   b.heap.get? c=Vo o->o.data=.func (docDef d.name d.params d.body d.scope pm cd doc)->b.heap.CodeRec cd d.name->mg d.name=Vo (.ref c) ->
   b.heap.get? a=Vo { cls:=.type "list",data:=.seq vs.toArray }->IntsAre vs ns->ns.length<=n->b.gens = #[] ->
   codeAny (Vg l.prog w) callerA (.call (.ref c) ⟨[.ref a],[]⟩) (λr s'=>r=.ok (.ret (.bool true))/\OldK b.heap s'.heap/\s'.os=b.os/\AllBare s'.gens) b) :
  WalkO q loose m p l.row.toRowW d [] (λf vs=>PySem.call f vs):=by
 intro w s₀ b mg mb G Y c o pm cd doc u kV v hd i hD j x args vals F e s y k z;obtain rfl:u=.none:=Dflts.none hD h;obtain rfl:kV=.none:=Dflts.noKw hD;obtain⟨a,vs,ns,rfl,rfl,g,hints,hlen⟩:=xk t e k;refine enter_call (codeAny_mono (call w s₀ b mg mb c o pm cd doc a vs ns G Y v (fd_plain hd) i j g hints hlen x) λr s' A=>?_);obtain⟨rfl,h2,B,C⟩:=A;exact⟨.inl ⟨.bool true,.bool true,[],rfl,λ_=>rfl,.bool true,uJ l _,λ_=>⟨List.Pairwise.nil,λ_ E=>(nomatch E)⟩⟩,h2,B,C⟩
end Att
namespace L2
open PySem PySem.Spec PyProof.Rows
theorem mO:∀{vs:List Va} {ns:List Int},IntsAre vs ns->Vals (ns.map V.int) vs
 | _,_,.nil=>.nil
 | _,_,.cons n t h=>.cons ⟨t,rfl⟩ (mO h)
def lH(H:Hp):Prop:=∀b,H b=Vp\/∃o xs,H b=Vo (.frz o (.lst xs))
def law_call{P:Vd}{w:Ve}{K:zg}{mb:Vn->Option Va}{CX:cW}{k:Nat}{B:Vb}{fd:Vm}{x:Vn}{sp:Sp}{c:Vc}{vs:List Va}{ns:List Int}
  (I:K.In c.heap) (i:c.heap.Ns Vj mg) (g:c.heap.Ns builtinsNs mb) (C:∀x:Vn,x≠"__name__"->mb x=bootBuiltins x) (j:c.heap.NoLimit) (Q:c.gens = #[])
  (A:c.heap.get? a=Vo { cls:=.type "list",data:=.seq vs.toArray }) (hi:IntsAre vs ns) (J:ns.length<=sizeLine) (R:Room k callerA)
  (F:∀base:Vh,K.In base->base.Ns Vj mg->FnOk P w K mg base CX k B fd [x] sp) (hbind:∀(s:Vc) (u:Va),BindsTo s fd ⟨[u],[]⟩ [(x,u)])
  (hsp:∀H:Hp,lH H->ag K H a (ns.map V.int)->sp [.ref a] H (λv _=>v=.bl true) λ_ _ _=>False)
  (hCX:∀H e s',CX [] H c (λ_ _ _=>False) e s'->False) :
  codeAny (Vg P w) callerA (.call (.ref B) ⟨[.ref a],[]⟩) (λr s'=>r=.ok (.ret (.bool true))/\OldK c.heap s'.heap/\s'.os=c.os/\AllBare s'.gens) c:=by
 have L:=mO hi;have l:=hi.length;have core:∀H:Hp,lH H->ag K H a (ns.map V.int)->bq P w H c.heap->(∀b,H b≠Vp->b=a)->(H a≠Vp->K.lookup a=Vp) ->
   codeAny (Vg P w) callerA (.call (.ref B) ⟨[.ref a],[]⟩) (λr s'=>r=.ok (.ret (.bool true))/\OldK c.heap s'.heap/\s'.os=c.os/\AllBare s'.gens) c:=by
  intro H M S hok N T;have f:∀{b:Vb} {o:Obj},c.heap.get? b=Vo o->H b=Vp->(dY c.heap H).get? b=Vo o:=λe n=>yp e n;have noA:∀{b:Vb} {o:Obj} {es:Array DictEntry} {ep:Nat},c.heap.get? b=Vo o->o.data=.dict es ep->H b=Vp:=λ{b o es ep} e d=>by
   cases q:H b with
   | none=>rfl
   | some u=>
    have E:b=a:=N b (by rw[q];simp);subst E;rw[A]at e;cases e;have U:Data.seq vs.toArray _=Data.dict es ep:=d;cases U
  have nsK:∀{b:Vb} {m:Vn->Option Va},c.heap.Ns b m->(dY c.heap H).Ns b m:=λ{b m} ⟨o,es,ep,e,d,r⟩=>⟨o,es,ep,f e (noA e d),d,r⟩;have p:K.In (dY c.heap H):=λb o e=>f (I b o e) (by
   cases q:H b with
   | none=>rfl
   | some u=>
    have E:b=a:=N b (by rw[q];simp);subst E;rw[T (by rw[q];simp)]at e;cases e)
  have W:Mod K mg (dY c.heap H):=⟨p,nsK i,⟨mb,nsK g,C⟩,let ⟨mc,h1,h2⟩:=j;⟨mc,nsK h1,h2⟩⟩;have X:Env0 P w K mg (dY c.heap H) callerA [] c H:=⟨rfl,W,λb o e=>wV e,Nat.le_of_eq (sL _ _),trivial,λb g=>absurd (show b∈([]:List Vb)from g) (by simp),hok,.of_eq Q⟩;refine codeAny_mono ((F _ p (nsK i)).run callerA [] c H ⟨[.ref a],[]⟩ [.ref a] [.ref a] _ _ R X (hbind c (.ref a)) (.cons rfl .nil) (hsp H M S)) λr s' h=>?_;cases r with
  | error e=>exact(hCX H e s' h).elim
  | ok Y=>
   cases Y with
   | next=>exact False.elim h
   | brk=>exact False.elim h
   | cont=>exact False.elim h
   | ret u=>
    obtain⟨v,H',os,bare,un,t,Z,q⟩:=h;have q':v=.bl true:=q;subst q';obtain rfl:u=Value.bool true:=Z;refine⟨rfl,OldK.of_keep λb o e=>?_,os,bare⟩;cases q:H b with
    | none=>exact un.keep b o e q (by intro z;exact absurd (show b∈([]:List Vb)from z) (by simp)) (by simp)
    | some u=>
     rcases M b with z|⟨ob,xs,z⟩
     .rw[q]at z;cases z
     .have z2:=un.frzs b ob _ z;obtain⟨O,_⟩:=hok b _ z;obtain⟨e2,_⟩:=t b _ z2;rw[e]at O;cases O;exact e2
 cases G:K.lookup a with
 | some o=>
  have e:=I a o G;rw[A]at e;cases e;refine core (λ_=>Vp) (λ_=>.inl rfl) (.inr ⟨_,vs.toArray,_,G,rfl,rfl,rfl,by rw[zq,l];exact J,by simpa using L⟩) (λb u z=>by have y:(Vp:Option HO)=Vo u:=z;cases y) (λb z=>absurd rfl z) λz=>absurd rfl z
 | none=>
  refine core (λb=>if b=a then Vo (.frz { cls:=.type "list",data:=.seq vs.toArray } (.lst (ns.map V.int)))else Vp) (λb=>?_) (.inl (.inr ⟨{ cls:=.type "list",data:=.seq vs.toArray },Aj rfl⟩)) (λb u z=>?_) (λb z=>?_) λ_=>G
  .by_cases g:b=a
   .exact .inr ⟨_,_,Aj g⟩
   .exact .inl (Ai g)
  .by_cases g:b=a
   .have y:=(Aj g).symm.trans z;cases y;subst g;exact⟨A,by rw[zk];exact J,vs,_,L,A⟩
   .have y:=(Ai g).symm.trans z;cases y
  .by_cases g:b=a
   .exact g
   .exact absurd (Ai g) z
def yK{l:PySem.W.OpenLaw}{k:Nat}{q:Vd}{loose:List Vn}{z:(Vn->Option Va)->Vh->Prop}{t:Ve->Vh->Prop}{d:DefRec}{K:Params->zg}{CX:Ve->cW}{sp:Ve->Sp}{x:Vn}
  (A:l.most=Vo n) (m:n<=sizeLine) (p:d.params.defaults=[]) (B:Room k callerA)
  (C:∀(w:Ve) (h:Vh),t w h->(K w.params).In h)
  (F:∀(w:Ve) (mg:Vn->Option Va) (j:Vb) (h:Vh),(K w.params).In h->h.Ns Vj mg->mg d.name=Vo (.ref j) ->
   ∃fd:Vm,(∀(s:Vc) (u:Va),BindsTo s fd ⟨[u],[]⟩ [(x,u)]) ∧
    ∀base:Vh,(K w.params).In base->base.Ns Vj mg->FnOk l.prog w (K w.params) mg base (CX w) k j fd [x] (sp w))
  (hsp:∀(w:Ve) (H:Hp) (a:Vb) (ns:List Int),ns.length<=n->lH H->ag (K w.params) H a (ns.map V.int)->sp w [.ref a] H (λv _=>v=.bl true) λ_ _ _=>False)
  (hCX:∀(w:Ve) (H:Hp) (s:Vc) (e:Va) (s':Vc),CX w [] H s (λ_ _ _=>False) e s'->False) :
  PySem.W.WalkO q loose z t l.row.toRowW d [] (λf vs=>PySem.call f vs):=by
 refine Att.xI A p λw s₀ c mg mb j o pm cd doc a vs ns G Y O hd E r i hints hlen I=>?_;have y:=C w _ Y;obtain⟨fd,J,L⟩:=F w mg j _ y G.T.g r;exact law_call y G.T.g G.T.b G.T.builtins G.T.nolimit I i hints (zP hlen m) B L J (λH M N=>hsp w H a ns hlen M N) λH e s'=>hCX w H c e s'
def inClass(s:Vl)(j:Nat):Vl:=match s with
 | .ClassDef _ _ _ body _ _ _ _ _ _ _=>body.getD j (.Pass ⟨0,0,0,0⟩)
 | _=>.Pass ⟨0,0,0,0⟩
def cj(s:Vl):Arguments:=match s with
 | .FunctionDef _ a _ _ _ _ _ _ _ _=>a
 | _=>{ posonlyargs:=[],args:=[],vararg:=Vp,kwonlyargs:=[],kw_defaults:=[],kwarg:=Vp,defaults:=[] }
def bN(s:Vl):List Vl:=match s with
 | .FunctionDef _ _ b _ _ _ _ _ _ _=>b
 | _=>[]
def aw(s:Vl):Scope:=match s with
 | .FunctionDef _ _ _ _ _ _ sc _ _ _=>sc
 | _=>{ kind:=.function,names:=[],isGenerator:=false,isCoroutine:=false }
abbrev dk:cW:=λ_ _ _ _ _ _=>False
abbrev E0:XK:=λ_ _ _=>False
def qV:Passes dk X E0:=λ_ _ _ _ _ _ _ h=>h.elim
structure Fun(K:zg)(x qual:Vn)(st:Vl)(f:Vb)(fd:Vm):Prop where
 ex:∃(oc:Va) (od:Option Vb) (kV doc pm:Va) (an:Option Vb) (cdv ct:Va) (osl:Array (Option Va)),
  fd=PySem.W.fnOf x qual (cj st) (bN st) (aw st) .none kV doc pm an cdv ct/\K.lookup f=Vo ⟨oc,od,.func fd,osl⟩/\PySem.W.codeIn K cdv qual=true
 kp:PySem.W.keepIn K (.ref f)=true
section
variable {P:Vd} {w:Ve} {K:zg} {mg:Vn->Option Va} {base:Vh}
def Fun.ok{x:Vn}{f:Vb}{k:Nat}(F:Fun K x qual st f fd)(S:FnScope N ps (aw st))(len:∀vs H Q E,sp vs H Q E->vs.length=ps.length)
  (a:∀(cdv:Va) (A:Vi) (outer:List Env) (s:Vc) (H:Hp) (vs:List V) (Q:VK) (E:XK),Room k (A.deeper (envOfC qual (aw st) s.heap.objs.size f cdv))->sp vs H Q E ->
   ∃t,bM (aH dk P w K mg base N qual (aw st) f cdv A outer s H E).nox (bN st) t/\t { nx:=λ_ H'=>Q .non H',rt:=Q } (start N vs) H):FnOk P w K mg base dk (k+1) f fd ps sp:=by
 obtain⟨oc,od,kV,doc,pm,an,cdv,ct,osl,rfl,lk,b⟩:=F.ex;refine kf lk b S len λA outer s H vs Q E c hsp=>?_;obtain⟨t,h,q⟩:=a cdv A outer s H vs Q E c hsp;exact⟨t,h.nox,q⟩
def Fun.binds{x:Vn}{f:Vb}(F:Fun K x qual st f fd)
  (h:∀(kV doc pm:Va) (an:Option Vb) (cdv ct:Va) (us:List Va),us.length=ps.length->bindArgs (PySem.W.fnOf x qual (cj st) (bN st) (aw st) .none kV doc pm an cdv ct) ⟨us,[]⟩=pure (ps.zip us)):Binds K fd ps []:=by
 obtain⟨oc,od,kV,doc,pm,an,cdv,ct,osl,rfl,lk,a⟩:=F.ex;exact .all (h kV doc pm an cdv ct)
def i5{x:Vn}{f:Vb}{oc:Va}{od an:Option Vb}{osl:Array (Option Va)}{kV doc pm cdv ct:Va}(l:K.lookup f=Vo ⟨oc,od,.func (PySem.W.fnOf x qual (cj st) (bN st) (aw st) .none kV doc pm an cdv ct),osl⟩)
  (c:PySem.W.codeIn K cdv qual=true) (k:PySem.W.keepIn K (.ref f)=true):Fun K x qual st f (PySem.W.fnOf x qual (cj st) (bN st) (aw st) .none kV doc pm an cdv ct):=⟨⟨oc,od,kV,doc,pm,an,cdv,ct,osl,rfl,l,c⟩,k⟩
end
section
variable {X:Cx}
def pv(i:Nat){x:Vn}{pos:Pos}(b:X.N[i]?=Vo x:=by rfl)(c:jB X.env.scope x:=by first|exact Or.inl rfl|exact Or.inr (Or.inl rfl)|exact Or.inr (Or.inr rfl))(hd:(x == ("__debug__":Vn))=false:=by decide)
  (a:(x == ("__classdict__":Vn))=false:=by decide):PE X (.Name x pos) (lL i):=tF b c hd a
end
def ax{A B:Prop}(h:B):if false=true then A else B:=by rw[Ai zB];exact h
def aC{A B:Prop}(h:A):if true=true then A else B:=by rw[Aj rfl];exact h
def dN{c A B:Prop}[Decidable c](h1:c->A)(h2:¬c->B):if c then A else B:=by
 by_cases h:c
 .rw[Aj h];exact h1 h
 .rw[Ai h];exact h2 h
structure Blk where
 s:Vc
 H:Hp
 fp:List Vb
 C:Vb
def cE(names:List (Vn×NameKind))(cells:List (Vn×Vb)):List (Vn×Vb):=
 names.foldl (λacc p=>if p.2 == .free then(p.1,(cells.lookup p.1).getD 0)::acc else acc) []
def cy(X:Cx)(sc:Scope)(own:List Vn)(a:List Nat)(z:Blk):Cx where
 prog:=X.prog
 w:=X.w
 K:=X.K
 mg:=X.mg
 base:=X.base
 A:=X.A
 N:=own++a.map λj=>X.N.getD j ""
 s₀:=z.s
 H₀:=z.H
 env:=compEnvC sc (cE sc.names X.env.cells) z.C X.env
 outer:=X.stack
 stack:=X.stack
 ex:=z.fp
 fn:=λ_=>false
 calm:=X.calm
 pn:=[]
 xe:=λ_ _=>False
def ef(sc out:Scope):Bool:=sc.names.all λp=>p.2 != .cell && (p.2 != .local || sc.names.lookup p.1 == Vo .local) && (p.2 != .free || out.names.lookup p.1 == Vo .cell || out.names.lookup p.1 == Vo .free)
def eU(sc:Scope)(N:List Vn)(a:List Nat):Bool:=a.all λj=>decide (j<N.length) && (sc.names.lookup (N.getD j "") == Vo .free)
def bG(n:Nat)(a:List Nat)(σ:St):St:=zY n Vp++a.map λj=>(σ[j]?).join
theorem iW(cells:List (Vn×Vb)):∀(names:List (Vn×NameKind)) (acc:List (Vn×Vb)) (x:Vn) (c:Vb),
  (names.foldl (λacc p=>if p.2 == .free then(p.1,(cells.lookup p.1).getD 0)::acc else acc) acc).lookup x=Vo c ->
  ((x,NameKind.free)∈names/\c=(cells.lookup x).getD 0)\/acc.lookup x=Vo c
 | [],acc,x,c,h=>.inr h
 | (n,k)::r,acc,x,c,h=>by
  rw[List.foldl_cons]at h;rcases iW cells r _ x c h with⟨h1,h2⟩|h1
  .exact .inl ⟨zo _ h1,h2⟩
  .cases a:(k == NameKind.free)with
   | false=>
    simp only[a]at h1;exact .inr h1
   | true=>
    simp only[a,if_true]at h1;rw[Ab]at h1;cases b:(x == n)with
    | false=>rw[b]at h1;exact .inr h1
    | true=>
     rw[b]at h1;have d:x=n:=by simpa using b
     have e:k=.free:=by simpa using a
     subst d e;exact .inl ⟨zr,(zV h1).symm⟩
theorem o4(cells:List (Vn×Vb)):∀(names:List (Vn×NameKind)) (acc:List (Vn×Vb)) (x:Vn),
  ((x,NameKind.free)∈names\/(acc.lookup x).isSome=true)->((names.foldl (λacc p=>if p.2 == .free then(p.1,(cells.lookup p.1).getD 0)::acc else acc) acc).lookup x).isSome=true
 | [],acc,x,h=>by
  rcases h with h|h
  .simp at h
  .exact h
 | (n,k)::r,acc,x,h=>by
  rw[List.foldl_cons];apply o4 cells r;rcases h with h|h
  .rcases zA.mp h with e|h
   .right;cases e;simp[Ab]
   .exact .inl h
  .right;cases a:(k == NameKind.free)with
   | false=>simpa[a]using h
   | true=>
    simp only[a,if_true,Ab];cases b:(x == n)with
    | true=>rfl
    | false=>exact h
def lJ(h:∀p∈sc.names,p.2=.free->∃c,env.cells.lookup p.1=Vo c):closureFor sc env=pure (cE sc.names env.cells):=by
 have go:∀(names:List (Vn×NameKind)) (acc:List (Vn×Vb)),(∀p∈names,p.2=NameKind.free->∃c,env.cells.lookup p.1=Vo c) ->
   (forIn names acc λ(p:Vn×NameKind) (r:List (Vn×Vb))=>(match p with|(name,kind)=>if(kind == NameKind.free)=true then do let c <-cellOf env name;pure (ForInStep.yield ((name,c)::r))else pure (ForInStep.yield r):Sem _)) =
   pure (names.foldl (λacc p=>if p.2 == .free then(p.1,(env.cells.lookup p.1).getD 0)::acc else acc) acc):=by
  intro names;induction names with
  | nil=>intro acc _;rfl
  | cons p r g=>
   intro acc a;obtain⟨n,k⟩:=p;rw[List.forIn_cons,List.foldl_cons];cases b:(k == NameKind.free)with
   | false=>
    simp only[b,zZ,if_false];exact g acc λq d=>a q (zo _ d)
   | true=>
    obtain⟨c,i⟩:=a (n,k) zr (by simpa using b);have e:cellOf env n=pure c:=by unfold cellOf;rw[show env.cells.lookup n=Vo c from i]
    simp only[b,if_true,e];have f:env.cells.lookup n=Vo c:=i;rw[f];exact g _ λq d=>a q (zo _ d)
 unfold closureFor cE;have:=go sc.names [] h;simp only[this];rfl
def eX(X:Cx)(ifs:List Vk)(t:TT):Prop:=
 ∀(pins:List (Vb×Obj)) (s:Vc) (σ:St) (H:Hp) (Q:Bool->Hp->Prop),Inv X pins σ H s->t σ H Q ->
  Vf (Vg X.prog X.w) X.A (forIn ifs true λc r=>if r=true then do let ok <-isTrue c X.env (eval c X.env);pure (ForInStep.yield ok)else pure (ForInStep.yield r)) (TP X pins σ Q) X.xe s
def ri:TT:=λ_ H Q=>Q true H
def eQ:eX X [] ri:=λ_ _ _ H _ I h=>wpAny_tests_nil ⟨H,I,h⟩
def kh{c:Vk}{t:TT}(h:PT X c t):eX X [c] t:=λpins s σ H Q I a=>wpAny_tests_one (h pins s σ H Q I a)
def r9{R:Result->Vc->Prop}{j:Vc}{elt a iter:Vk}{ifs:List Vk}{sc:Scope}{ps:Pos}{b acc:Va}{ce:Env}(d:Nat->Vc->Prop)
  (step:∀k t,d k t->Vf (Vg prog w) A (pyNext b) (λgot g=>
   match got with
   | none=>R (.ok .next) g
   | some u=>Vf (Vg prog w) A (letOwnedTupleGo a b u) (λ_ l=>Vf (Vg prog w) A (assign a ce u) (λ_ n=>
     Vf (Vg prog w) A (forIn ifs true λc r=>if r=true then do let ok <-isTrue c ce (eval c ce);pure (ForInStep.yield ok)else pure (ForInStep.yield r)) (λyes i=>
      if yes=true then Vf (Vg prog w) A (eval elt ce) (λval o=>Vf (Vg prog w) A (call (.builtin "list.append") [acc,val]) (λ_ p=>∃m,m<k/\d m p) (λ_ _=>False) o) (λ_ _=>False) i
      else ∃m,m<k/\d m i) (λ_ _=>False) n) (λ_ _=>False) l) (λ_ _=>False) g) (λ_ _=>False) t)
  (k0:Nat) (start:d k0 j):codeAny (Vg prog w) A (.compLoop (.ListComp elt [⟨a,iter,ifs,0⟩] sc ps) 0 b acc ce) R j:=by
 refine codeAny_loop rfl d (λk t s=>?turn) k0 start
 case turn=>
  have nox:∀{α:Type} {m:Sem α} {Q:α->Vc->Prop} {E:Va->Vc->Prop} {z:Vc},Vf (Vg prog w) A m Q (λ_ _=>False) z->Vf (Vg prog w) A m Q E z:=λh=>wpAny_mono h (λ_ _ q=>q) λ_ _ f=>f.elim;show Vf _ A ((compTurn (.ListComp elt [⟨a,iter,ifs,0⟩] sc ps) 0 b acc ce).onRaise (λx=>do noteFrame x ce;theTreesLotGoes x)) _ _ t;apply wpAny_noted;rw[compTurn_list];refine ze (wpAny_standAt (ze (nox (wpAny_mono (step k t s) (λgot g h1=>?_) λ_ _ f=>f))));cases got with
  | none=>exact zf h1
  | some u=>
   refine ze (nox (wpAny_mono h1 (λ_ l h2=>?_) λ_ _ f=>f));refine ze (nox (wpAny_mono h2 (λ_ n v=>?_) λ_ _ f=>f));refine ze (nox (wpAny_mono v (λyes i e=>?_) λ_ _ f=>f));cases yes with
   | false=>
    rw[Ai zB]at e;exact zf ⟨rfl,e⟩
   | true=>
    rw[Aj rfl]at e;refine ze (ze (nox (wpAny_mono e (λval o y=>?_) λ_ _ f=>f)));exact ze (nox (wpAny_mono y (λ_ p B=>zf (zf ⟨rfl,B⟩)) λ_ _ f=>f))
section
variable {X:Cx} {pins:List (Vb×Obj)} {σ:St} {H:Hp} {s:Vc}
def bE(a:List Va)(n:Nat):Obj:={ cls:=.type "list",data:=.seq a.toArray n }
def kN(h:ef sc out=true)(a:p∈sc.names)(b:p.2=.free):out.names.lookup p.1=Vo .cell\/out.names.lookup p.1=Vo .free:=by have:=zR.mp h p a;simp only[b,zT,Bool.or_eq_true,beq_iff_eq,bne_iff_ne,ne_eq,not_true,false_or]at this;exact this.2
def mW(h:ef sc out=true)(a:p∈sc.names):p.2≠.cell:=by have:=zR.mp h p a;simp only[zT,bne_iff_ne,ne_eq]at this;exact this.1.1
def vJ(h:ef sc out=true)(a:p∈sc.names)(b:p.2=.local):sc.names.lookup p.1=Vo .local:=by have:=zR.mp h p a;simp only[b,zT,Bool.or_eq_true,beq_iff_eq,bne_iff_ne,ne_eq,not_true,false_or]at this;exact this.1.2
theorem eW{sc:Scope}{env:Env}{x:Vn}:∀{names:List (Vn×NameKind)} {k:NameKind},(names.map λ(p:Vn×NameKind)=>match p with|(n,k)=>if(k == NameKind.free && env.scope.kind == .function && env.kindOf n == Vo .cell)then(n,NameKind.cell)else(n,k)).lookup x=Vo k ->
  ∃c,names.lookup x=Vo c/\(c=k\/(c=.free/\k=.cell))
 | [],_,h=>by simp at h
 | (n,q)::r,k,h=>by
  rw[List.map_cons]at h;rw[Ab];cases b:(x == n)with
  | true=>
   refine⟨q,rfl,?_⟩;by_cases a:(q == NameKind.free && env.scope.kind == .function && env.kindOf n == Vo .cell)=true
   .simp only[a,if_true,Ab,b]at h;right;simp only[zT,beq_iff_eq]at a;exact⟨a.1.1,(zV h).symm⟩
   .left;have h2:List.lookup x ((n,q)::(r.map λ(p:Vn×NameKind)=>match p with|(n,k)=>if(k == NameKind.free && env.scope.kind == .function && env.kindOf n == Vo .cell)then(n,NameKind.cell)else(n,k)))=Vo k:=by have d:=h;dsimp only at d;rw[Ai a]at d;exact d
    rw[Ab,b]at h2;exact zV h2
  | false=>
   have:List.lookup x (r.map λ(p:Vn×NameKind)=>match p with|(n,k)=>if(k == NameKind.free && env.scope.kind == .function && env.kindOf n == Vo .cell)then(n,NameKind.cell)else(n,k))=Vo k:=by
    by_cases a:(q == NameKind.free && env.scope.kind == .function && env.kindOf n == Vo .cell)=true
    .simpa only[a,if_true,Ab,b]using h
    .dsimp only at h;rw[Ai a,Ab,b]at h;exact h
   exact eW (sc:=sc) this
def jj{names:List (Vn×NameKind)}{x:Vn}{k:NameKind}(h:names.lookup x=Vo k):(x,k)∈names:=PySem.mem_of_lookup h
def dO(ok:X.Ok)(a:ef sc X.env.scope=true){x:Vn}(h:(cE sc.names X.env.cells).lookup x=Vo c):X.env.cells.lookup x=Vo c:=by
 rcases iW X.env.cells sc.names [] x c h with⟨h1,h2⟩|h1
 .obtain⟨d,hd⟩:=ok.has x (kN a h1 rfl);rw[hd]at h2 ⊢;rw[h2];rfl
 .simp at h1
def iV{x:Vn}{cells:List (Vn×Vb)}(h:(x,NameKind.free)∈sc.names):∃c,(cE sc.names cells).lookup x=Vo c:=
 Option.isSome_iff_exists.mp (o4 cells sc.names [] x (.inl h))
def Inv.stk_lt(I:Inv X pins σ H s){b:Vb}(a:b∈aP X.stack):b<s.heap.objs.size:=by
 rcases zA.mp (I.stkSub b a)with e|h
 .rw[e];exact I.lt
 .obtain⟨_,o,c,_⟩:=I.ok.funs.mem h;exact zO (zj c) I.sz
def Inv.cell_lt(I:Inv X pins σ H s){x:Vn}(h:X.env.cells.lookup x=Vo c):c<s.heap.objs.size:=by obtain⟨v,q⟩:=I.cell x c h;exact q.lt
def Inv.pin_lt(I:Inv X pins σ H s){p:Vb×Obj}(h:p∈X.pn++pins):p.1<s.heap.objs.size:=zj (I.pin p h).1
def sx(I:Inv X pins σ H s){j:List Nat}{C:Nat}(l:sc.kind=.function)(d:ef sc X.env.scope=true)
  (hfp:∀b∈fp,bA X pins H b) (i:s.heap.objs.size<=C) (hlt:∀b∈fp,b<s.heap.objs.size):(cy X sc own j ⟨s,H,fp,C⟩).Ok where
 mod:=I.ok.mod
 kind:=l
 glob:=I.ok.glob
 blt:=I.ok.blt
 above:=i
 inj:=λx y c h1 h2=>I.ok.inj x y c (dO I.ok d h1) (dO I.ok d h2)
 has:=λx n=>by
  have f:(relabel sc X.env).names.lookup x=Vo .cell\/(relabel sc X.env).names.lookup x=Vo .free:=n;have go:∀k,(relabel sc X.env).names.lookup x=Vo k->(k=.cell\/k=.free)->∃c,(cE sc.names X.env.cells).lookup x=Vo c:=λk h g=>by
   obtain⟨q,h1,h2⟩:=eW (sc:=sc) (env:=X.env) h;have m:=jj h1;rcases h2 with h2|⟨h2,_⟩
   .subst h2;rcases g with e|e
    .exact absurd e (mW d m)
    .rw[e]at m;exact iV m
   .rw[h2]at m;exact iV m
  rcases f with h|h
  .exact go _ h (.inl rfl)
  .exact go _ h (.inr rfl)
 cab:=λx c h _=>by cases h
 hd:=I.ok.hd
 frames:=I.ok.frames
 stk:=.inl rfl
 exf:=λb a=>⟨zE (zO (hlt b a) i),λx c e=>(hfp b a).2.2.2.2.1 x c (dO I.ok d e)⟩
 bs:=I.bs
 bsz:=zP I.ok.bsz I.sz
 noex:=λb o e a=>by
  rcases(hfp b a).2.2.2.1 with z|z
  .exact I.ok.noex b o e z
  .exact absurd (zO (zj e) (zP I.ok.bsz z)) (Nat.lt_irrefl _)
 exfs:=λb a p=>by
  rcases zA.mp (I.stkSub b p)with e|h
  .exact(hfp b a).2.1 e
  .exact(hfp b a).2.2.1 h
 funs:=I.stack
 frf:=I.stkFree
def i4{a:List Nat}{i:Nat}(h:(bG n a σ)[i]?=Vo (Vo v)):∃k j,i=n+k/\a[k]?=Vo j/\σ[j]?=Vo (Vo v):=by
 unfold bG at h;by_cases hi:i<n
 .rw[zK (by simpa using hi),List.getElem?_replicate]at h;split at h<;>cases h
 .rw[zJ (by simpa using Nat.le_of_not_lt hi),List.length_replicate,zm]at h;cases e:a[i-n]? with
  | none=>rw[e]at h;cases h
  | some j=>
   rw[e]at h;refine⟨i-n,j,by omega,e,?_⟩;have h':(σ[j]?).join=Vo v:=by simpa using h
   cases q:σ[j]? with
   | none=>rw[q]at h';cases h'
   | some o=>
    rw[q]at h';have:o=Vo v:=h';rw[this]
def yW(I:Inv X pins σ H s){t:List Nat}{C D:Nat}{tk:Nat}{m:Vn->Option Va}(Q:sc.kind=.function)(y:ef sc X.env.scope=true)(R:eU sc X.N t=true)
  (hfp:∀b∈fp,bA X pins H b) (hlt:∀b∈fp,b<s.heap.objs.size) (hD:D=s.heap.objs.size) (hC:C=s.heap.objs.size+1) (old:∀b o,s.heap.get? b=Vo o->h1.get? b=Vo o)
  (B:h1.get? D=Vo o) (E:∀v,o.data≠.cell v) (S:h1.Ns C m) :
  Inv (cy X sc own t ⟨s,H,fp,C⟩) [(D,o)] (bG own.length t σ) H { s with heap:=h1,toks:=tk } where
 ok:=sx I Q y hfp (show @LE.le Nat _ s.heap.objs.size C by omega) hlt
 os:=rfl
 bare:=I.bare
 base:=Un.kept old
 loc:=by
  refine⟨m,S,λi x v T U W=>?_⟩;obtain⟨k,j,rfl,M,es⟩:=i4 U;have A:(own++t.map λj=>X.N.getD j "")[own.length+k]?=Vo x:=T;rw[zJ (by omega),Nat.add_sub_cancel_left,zm,M]at A;have ex:X.N.getD j "" = x:=by simpa using A
  have h:=zR.mp R j (zv M);simp only[zT,decide_eq_true_eq,beq_iff_eq]at h;have F:X.N[j]?=some x:=by rw[<-ex,List.getD_eq_getElem?_getD,zl h.1];rfl
  have a:sc.names.lookup x=some .free:=by rw[<-ex];exact h.2
  have f:=jj a;have g:=kN y f rfl;obtain⟨m0,Y,G⟩:=I.loc;obtain⟨u,r,l⟩:=G j x v F es (by rcases g with z|z;exact .inr (.inl z);exact .inr (.inr z));refine⟨u,r,?_⟩;obtain⟨c,O⟩:=iV (cells:=X.env.cells) f;have J:=dO I.ok y O;have n:s.heap.IsCell c (Vo u):=by
   rcases l with⟨z,_⟩|⟨_,c',P,q⟩
   .have Z:X.env.scope.names.lookup x=Vo .local:=z;rcases g with w|w<;>(rw[Z]at w;cases w)
   .rw[J]at P;cases P;exact q
  have d:h1.IsCell c (Vo u):=by obtain⟨oc,K,hd⟩:=n;exact⟨oc,old c oc K,hd⟩
  right;refine⟨?_,c,O,d⟩;have L:(relabel sc X.env).names.lookup x=Vo .local\/(relabel sc X.env).names.lookup x=Vo .cell\/(relabel sc X.env).names.lookup x=Vo .free:=W;rcases L with z|z
  .obtain⟨k',z1,z2⟩:=eW (sc:=sc) (env:=X.env) z;rw[a]at z1;rcases z2 with z2|⟨_,z2⟩
   .rw[z2]at z1;cases z1
   .cases z2
  .exact z
 cell:=λx c e=>by obtain⟨v,oc,K,hd⟩:=I.cell x c (dO I.ok y e);exact⟨v,oc,old c oc K,hd⟩
 free:=I.hok.fresh (show @LE.le Nat _ s.heap.objs.size C by omega)
 freeC:=λx c e=>I.freeC x c (dO I.ok y e)
 pin:=λp hp=>by
  have e:p=(D,o):=by simpa[cy]using hp
  subst e;refine⟨B,I.hok.fresh (show @LE.le Nat _ s.heap.objs.size D by omega),?_,λz=>?_,E⟩
  .exact zE (show @LT.lt Nat _ D C by omega)
  .have h9:@LT.lt Nat _ D s.heap.objs.size:=I.stk_lt (b:=D) z;omega
 hok:=I.hok.kept old
 len:=by show(bG own.length t σ).length=(own++t.map λj=>X.N.getD j "").length;simp[bG]
def fQ(J:It)(n:Nat)(f:List Nat)(g:TG)(tc:TT)(te:TE)(σ:St)(H:Hp)(Q:VK):Prop:=
 ∃W:Nat->Nat->List V->Hp->Prop,(∃m,W 0 m [] H)/\∀i m ys H',W i m ys H' ->
  (J.stop i H'/\∀p,H' p=Vp->Q (.ref p) (upd H' p (.lst ys))) ∨
  (J.go i H'/\ys.length<sizeLine/\∃N:List V->Hp->Prop,(∀a H2,N a H2->∃d,d<m/\W (i+1) d a H2)/\∀x H2,J.yld i H' x H2->g x (bG n f σ) H2 λc h=>tc c h λb e=>
   if b=true then te c e λv j=>N (ys++[v]) j else N ys e)
def iC(n:Nat)(a:List Nat)(b:TI)(g:TG)(tc:TT)(te:TE):TE:=λσ H Q=>b σ H λJ H1=>fQ J n a g tc te σ H1 Q
structure TurnAt(X:Cx)(tg:Vk)(J:It)(fp:List Vb)(it:Vb)(tn:Nat->Vh->Prop):Prop where
 obj:∀i h,tn i h->∀b∈fp,∃o,h.get? b=Vo o/\∀v,o.data≠.cell v
 keep:∀i h h',tn i h->(∀b∈fp,∀o,h.get? b=Vo o->h'.get? b=Vo o)->tn i h'
 item:∀(i:Nat) (pins:List (Vb×Obj)) (s:Vc) (σ:St) (H:Hp) (E:Va->Vc->Prop),Inv X pins σ H s->(∀b∈fp,bA X pins H b)->tn i s.heap->J.go i H ->
  Vf (Vg X.prog X.w) X.A (pyNext (.ref it)) (λr s1=>∃u,r=Vo u ∧
   Vf (Vg X.prog X.w) X.A (letOwnedTupleGo tg (.ref it) u) (λ_ s2=>∃x H',Inv X pins σ H' s2/\RelV x u/\J.yld i H x H'/\tn (i+1) s2.heap/\∀b∈fp,H' b=Vp) E s1) E s
 done:∀(i:Nat) (pins:List (Vb×Obj)) (s:Vc) (σ:St) (H:Hp) (E:Va->Vc->Prop),Inv X pins σ H s->(∀b∈fp,bA X pins H b)->tn i s.heap->J.stop i H ->
  Vf (Vg X.prog X.w) X.A (pyNext (.ref it)) (λr s1=>r=Vp/\Inv X pins σ H s1) E s
 self:∀(A:Vi) (i:Nat) (s:Vc) (Q:Va->Vc->Prop) (E:Va->Vc->Prop),tn i s.heap->Q (.ref it) s->Vf (Vg X.prog X.w) A (pyIter (.ref it)) Q E s
def Turn.at_{J:It}{it:Vb}(T:Turn Y.prog Y.w Y.K tg J fp it tn)(a:Y.calm=true):TurnAt Y tg J fp it tn:=⟨T.obj,T.keep,T.item Y rfl rfl rfl a,T.done Y rfl rfl rfl a,T.self⟩
def sU{pos:Pos}{O:List Nat}{te:TE}{J:It}{it:Vb}{RR:Va->Vb->Result->Vc->Prop}{E:Va->Vc->Prop}
  {Q:VK} {W:Nat->Nat->List V->Hp->Prop} (hk:sc.kind=.function) (hb:ef sc X.env.scope=true) (hj:eU sc X.N O=true)
  (hg:∀C,PG (cy X sc own O ⟨s,H,fp,C⟩) tg g) (ht:∀C,eX (cy X sc own O ⟨s,H,fp,C⟩) ifs tc) (he:∀C,PE (cy X sc own O ⟨s,H,fp,C⟩) elt te)
  (I:Inv X pins σ H s) (T:∀C,TurnAt (cy X sc own O ⟨s,H,fp,C⟩) tg J fp it tn) (st:tn 0 s.heap) (hfp:∀b∈fp,bA X pins H b) (w0:∃m,W 0 m [] H)
  (turn:∀i m ys H',W i m ys H'->(J.stop i H'/\∀p,H' p=Vp->Q (.ref p) (upd H' p (.lst ys))) ∨
   (J.go i H'/\ys.length<sizeLine/\∃N:List V->Hp->Prop,(∀ys' H2,N ys' H2->∃m',m'<m/\W (i+1) m' ys' H2)/\∀x H2,J.yld i H' x H2->g x (bG own.length O σ) H2 λab P=>tc ab P λb H4=>
    if b=true then te ab H4 λv H5=>N (ys++[v]) H5 else N ys H4))
  (fin:∀D C s' ys H',H' D=Vp->Inv X pins σ (upd H' D (.lst ys)) s'->bA X pins (upd H' D (.lst ys)) C->(∃m,s'.heap.Ns C m)->s.heap.objs.size<=C->Q (.ref D) (upd H' D (.lst ys))->RR (.ref D) C (.ok .next) s') :
  Vf (Vg X.prog X.w) X.A (newList []) (λacc L=>Vf (Vg X.prog X.w) X.A (newFunctionEnv sc X.env.globals (cE sc.names X.env.cells) [] X.env.qual Vp .none (Vo X.env)) (λa0 ac=>
   codeAny (Vg X.prog X.w) X.A (.compStart (.ListComp elt [⟨tg,iter,ifs,0⟩] sc pos) 0 (.ref it) acc { a0 with scope:=relabel sc X.env }) (RR acc a0.locals) ac) E L) E s:=by
 have hlt:∀b∈fp,b<s.heap.objs.size:=λb f=>by obtain⟨o,e,_⟩:=(T 0).obj 0 s.heap st b f;exact zj e
 refine wpAny_newObj_type (wpAny_newFunctionEnv (λy hy=>mW hb hy) (by intro y hy;simp at hy) (λt K B=>?_) hk);dsimp only at K B ⊢;generalize a2:s.heap.push { cls:=.type "list",dict:=none,data:=.seq ([]:List Va).toArray }=H2 at K B ⊢;have b6:H2.objs.size=s.heap.objs.size+1:=by rw[<-a2,Heap.size_push]
 generalize c1:H2.objs.size=C at *;have below:∀b:Nat,b<s.heap.objs.size->b≠C:=λb f=>by omega
 have old:∀b o,s.heap.get? b=Vo o->t.get? b=Vo o:=λb o e=>B.extBut b o (below b (zj e)) (zh _ (a2 ▸ zh _ e));have b7:t.get? s.heap.objs.size=Vo (bE [] 0):=B.extBut _ _ (show @Ne Nat s.heap.objs.size C by omega) (zh _ (a2 ▸ zi _ rfl));generalize a3:s.heap.objs.size=D at *;let Y:Cx:=cy X sc own O ⟨s,H,fp,C⟩;have J0:Inv Y [(D,bE [] 0)] (bG own.length O σ) H { s with heap:=t,toks:=s.toks+([]:List (Vn×Va)).length }:=
  yW I hk hb hj hfp (by rw[a3];exact hlt) a3.symm (by rw[a3];exact b6) old b7 (λv z=>by cases z) K
 have a4:@Ne Nat D C:=by omega
 have statF:∀{P':List (Vb×Obj)} {H':Hp},(∀b∈fp,H' b=Vp)->(∀p∈P',p.1∉fp)->∀b∈fp,bA Y P' H' b:=λ{P' H'} hn M b f=>by
  obtain⟨f0,f1,f2,f3,f4,f5⟩:=hfp b f;refine⟨hn b f,λz=>below b (hlt b f) z,λz=>?_,.inl f,λx c e=>f4 x c (dO I.ok hb e),λp a5 z=>?_⟩
  .rcases zA.mp (I.stkSub b z)with e|h
   .exact f1 e
   .exact f2 h
  .have:p∈P':=by simpa[Y,cy]using a5
   exact M p this (by rw[z];exact f)
 have ad:D∉fp:=λz=>by have h9:@LT.lt Nat _ D D:=hlt D z;omega
 have am:tn 0 t:=(T 0).keep 0 s.heap t st λb _ o e=>old b o e;have loop:∀L:Vc,L={ s with heap:=t,toks:=s.toks+([]:List (Vn×Va)).length } ->
   codeAny (Vg X.prog X.w) X.A (.compLoop (.ListComp elt [⟨tg,iter,ifs,0⟩] sc pos) 0 (.ref it) (.ref D) Y.env) (RR (.ref D) C) L:=by
  rintro L rfl;obtain⟨m0,w0⟩:=w0;refine r9 (λn s'=>∃i ys l q H',Inv Y [(D,bE l q)] (bG own.length O σ) H' s'/\Vals ys l/\ys.length<=sizeLine/\tn i s'.heap/\(∀b∈fp,H' b=Vp)/\W i n ys H') ?_ m0
   ⟨0,[],[],0,H,J0,.nil,Nat.zero_le _,am,λb f=>(hfp b f).1,w0⟩
  rintro n s3 ⟨i,ys,l,q,P,I3,rv,hz,an,ap,w3⟩;have pD:∀p∈[(D,bE l q)],p.1∉fp:=λp M=>by
   have e:p=(D,bE l q):=by simpa using M
   rw[e];exact ad
  rcases turn i n ys P w3 with⟨stop,qn⟩|⟨go,hlen,N,hN,step⟩
  .refine ao ((T C).done i _ s3 _ P _ I3 (statF ap pD) an stop) λr s4 ⟨hr,I4⟩=>?_;subst hr;show RR (.ref D) C (.ok .next) s4;have R:=I4.pin (D,bE l q) (zW _ (zw.mpr rfl));have b8:s4.heap.get? D=Vo (bE l q):=R.1;have nD:P D=Vp:=R.2.1;have U:Un (aP X.stack) fp H P s.heap s4.heap:=I4.base;have neD:∀b o,s.heap.get? b=Vo o->b≠D:=λb o e=>zE (by have h9:@LT.lt Nat _ b s.heap.objs.size:=zj e;omega);have neDH:∀b o,H b=Vo o->b≠D:=λb o e=>zE (by have h9:@LT.lt Nat _ b s.heap.objs.size:=I.hok.lt e;omega);have U2:Un (aP X.stack) fp H (upd P D (.lst ys)) s.heap s4.heap:=
    ⟨U.keep,U.slot,λb o e n hx=>by rw[au (neD b o e)];exact U.free b o e n hx,U.there,λb xs e=>by rw[au (neDH b _ e)];exact U.tups b xs e,
     λb o u e=>by rw[au (neDH b _ e)];exact U.frzs b o u e,λb ps e=>by rw[au (neDH b _ e)];exact U.tbls b ps e⟩
   have as:bq X.prog X.w (upd P D (.lst ys)) s4.heap:=λb o e=>by
    by_cases f:b=D
    .subst f;rw[aM]at e;cases e;exact⟨hz,l,q,rv,b8⟩
    .rw[au f]at e;exact(I4.hok b o e).stay (λc u _ z=>z) (λc z=>by rw[au (bt z nD)];exact z) λc xs z=>by rw[au (bt z nD)];exact z
   have IX:Inv X pins σ (upd P D (.lst ys)) s4:=I.call' (ch:=fp) I4.os U2 as I4.bare λb f=>by obtain⟨f0,f1,f2,f3,f4,f5⟩:=hfp b f;exact⟨f3,f1,f4,f5⟩
   obtain⟨m4,b9,_⟩:=I4.loc;have nC:P C=Vp:=I4.free;refine fin D C s4 ys P nD IX ?_ ⟨m4,b9⟩ (show @LE.le Nat _ D C by omega) (qn D nD);refine⟨by rw[au (Ne.symm a4)];exact nC,?_,?_,?_,?_,?_⟩
   .have h9:@LT.lt Nat _ X.env.locals s.heap.objs.size:=I.lt;exact Nat.ne_of_gt (show @LT.lt Nat _ X.env.locals C by omega)
   .exact I.nofs (show @LE.le Nat _ s.heap.objs.size C by omega)
   .right;have h9:@LE.le Nat _ X.s₀.heap.objs.size s.heap.objs.size:=I.sz;exact(show @LE.le Nat _ X.s₀.heap.objs.size C by omega)
   .intro x c e;have h9:@LT.lt Nat _ c s.heap.objs.size:=I.cell_lt e;exact zE (show @LT.lt Nat _ c C by omega)
   .intro p M;have h9:@LT.lt Nat _ p.1 s.heap.objs.size:=I.pin_lt M;exact zE (show @LT.lt Nat _ p.1 C by omega)
  .refine ao ((T C).item i _ s3 _ P _ I3 (statF ap pD) an go) λr s4 ⟨u,hr,h4⟩=>?_;subst hr;refine ao h4 λ_ s5 ⟨x,H5,I5,r5,y5,a6,ba⟩=>?_;have bb:=I5.pinned (statF ba pD) ((T 0).obj _ _ a6);refine ao (hg _ _ s5 _ H5 x u _ bb r5 (step x H5 y5)) λ_ s6 ⟨Z,H6,I6,q6⟩=>?_;refine ao (ht _ _ s6 Z H6 _ I6 q6) λok s7 ⟨H7,I7,q7⟩=>?_;have back:∀{s':Vc} {b0:St} {H':Hp} {ys':List V} {its':List Va} {q':Nat},Inv Y ([(D,bE its' q')]++cU fp s5.heap) b0 H' s'->Vals ys' its'->ys'.length<=sizeLine->N ys' H' ->
     ∃m,m<n/\∃i ys l q H',Inv Y [(D,bE l q)] (bG own.length O σ) H' s'/\Vals ys l/\ys.length<=sizeLine/\tn i s'.heap/\(∀b∈fp,H' b=Vp)/\W i m ys H':=by
    intro s' b0 H' ys' its' q' I' bc be nn;obtain⟨m',hm,w'⟩:=hN ys' H' nn;have hpin:∀b∈fp,∀o,s5.heap.get? b=Vo o->s'.heap.get? b=Vo o/\H' b=Vp:=λb f o e=>by have:=I'.pin (b,o) (zW _ (zW _ (ik f e)));exact⟨this.1,this.2.1⟩
    refine⟨m',hm,i+1,ys',its',q',H',?_,bc,be,(T 0).keep _ _ _ a6 λb f o e=>(hpin b f o e).1,λb f=>?_,w'⟩
    .have G:=I'.unpinned;obtain⟨mm,bi,_⟩:=id G.loc;refine⟨G.ok,G.os,G.bare,G.base,⟨mm,bi,λk x v e1 e2 e3=>?_⟩,G.cell,G.free,G.freeC,G.pin,G.hok,?_⟩
     .obtain⟨m1,c2,bl⟩:=J0.loc;obtain⟨u1,r1,l1⟩:=bl k x v e1 e2 e3;refine⟨u1,r1,?_⟩;rcases l1 with⟨z,zz⟩|⟨z,c,e,zz⟩
      .exfalso;obtain⟨k',j,rfl,ej,es⟩:=i4 e2;have b1:(own++O.map λj=>X.N.getD j "")[own.length+k']?=Vo x:=e1;rw[zJ (by omega),Nat.add_sub_cancel_left,zm,ej]at b1;have ex:X.N.getD j "" = x:=by simpa using b1
       have b2:=zR.mp hj j (zv ej);simp only[zT,decide_eq_true_eq,beq_iff_eq]at b2;have a7:sc.names.lookup x=some .free:=by rw[<-ex];exact b2.2
       obtain⟨k2,z1,z2⟩:=eW (sc:=sc) (env:=X.env) (show(relabel sc X.env).names.lookup x=Vo .local from z);rw[a7]at z1;rcases z2 with z2|⟨_,z2⟩
       .rw[z2]at z1;cases z1
       .cases z2
      .refine .inr ⟨z,c,e,?_⟩;have a8:X.env.cells.lookup x=Vo c:=dO I.ok hb e;obtain⟨ov,oc,b3,c3⟩:=I.cell x c a8;have b4:=old c oc b3;obtain⟨oz,bm,bn⟩:=zz;have a1:t.get? c=Vo oz:=bm;rw[b4]at a1;cases a1;have cnf:c∉fp:=λz'=>(hfp c z').2.2.2.2.1 x c a8 rfl;obtain⟨sl,hh⟩:=G.base.any b3 (I.freeC x c a8) cnf;exact⟨_,hh,bn⟩
     .show(bG own.length O σ).length=_;exact J0.len
    .obtain⟨o,e,d⟩:=(T 0).obj _ _ a6 b f;exact(hpin b f o e).2
   cases ok with
   | false=>
    rw[Ai zB]at q7 ⊢;exact back I7 rv hz q7
   | true=>
    rw[Aj rfl]at q7 ⊢;refine ao (he _ _ s7 Z H7 _ I7 q7) λS s8 ⟨v,H8,I8,r8,q8⟩=>?_;have R:=I8.pin (D,bE l q) (zW _ (zX _ (zw.mpr rfl)));have a9:s8.heap.get? D=Vo { cls:=.type "list",data:=.seq l.toArray q }:=R.1;have hl:=rv.length;refine call_meets F.slot_list_append ⟨_,a9,rfl⟩ F.entry_list_append (F.args_list_append_2 _ _) (PySem.list_append D l.toArray q S (by rw[zq];omega)) ⟨a9,?_⟩;have qq:=PySem.IsL.update a9 (λa=>a.push S);have eqs:l.toArray.push S=(l++[S]).toArray:=by simp
    rw[eqs]at qq;obtain⟨q2,bv⟩:∃q2,(s8.heap.update D (Obj.mapSeq λa=>a.push S)).get? D=Vo (bE (l++[S]) q2):=⟨_,qq⟩;have c0:Inv Y (cU fp s5.heap) Z H8 s8:=I8.pins_of λp M=>I8.pin p (zW _ (zW _ M));have b5:H8 D=Vp:=R.2.1;have I9:Inv Y (cU fp s5.heap) Z H8 { s8 with heap:=s8.heap.update D (Obj.mapSeq λa=>a.push S),toks:=s8.toks }:=by
     refine c0.turned (it:=D) (λb o f e=>(Heap.get?_update_other s8.heap (Obj.mapSeq λa=>a.push S) (Ne.symm f)).trans e) b5 a4 (.inr (show @LE.le Nat _ s.heap.objs.size D by omega)) (λx c e=>?_) λp M=>?_
     .have h9:@LT.lt Nat _ c s.heap.objs.size:=I.cell_lt (dO I.ok hb e);exact zE (show @LT.lt Nat _ c D by omega)
     .have a5:p∈cU fp s5.heap:=by simpa[Y,cy]using M
      obtain⟨h1,_⟩:=lZ a5;exact λz=>ad (z ▸ h1)
    refine back (ys':=ys++[v]) (its':=l++[S]) (q':=q2) (I9.pins_of λp M=>?_) (rv.append (.cons r8 .nil)) (by rw[zD,List.length_singleton];omega) q8;rcases zI.mp M with M|M
    .have e:p=(D,bE (l++[S]) q2):=by simpa using M
     subst e;refine⟨bv,b5,a4,λz=>?_,λv z=>by cases z⟩;have h9:@LT.lt Nat _ D s.heap.objs.size:=I.stk_lt (b:=D) z;omega
    .exact I9.pin p (zW _ M)
 exact codeAny_compStart_list (loop _ rfl) ((T 0).self X.A 0 { s with heap:=t,toks:=s.toks+([]:List (Vn×Va)).length } _ _ am (loop _ rfl))
end
def kA{K:zg}{f:List Nat}{te:TE}{Q:VK}(Pv:Nat->List V->Hp->Prop)(u:xs.length<=sizeLine)(j:Pv 0 [] H)(k:∀i ys H,i<=xs.length->Pv i ys H->ag K H a xs/\ys.length<=i)
  (l:∀i x ys H,xs[i]?=Vo x->Pv i ys H->g x (bG n f σ) H λc o=>tc c o λb h=>if b=true then te c h λv r=>Pv (i+1) (ys++[v]) r else Pv (i+1) ys h)
  (hd:∀ys H p,Pv xs.length ys H->H p=Vp->Q (.ref p) (upd H p (.lst ys))):fQ (cD K a) n f g tc te σ H Q:=by
 refine⟨λi m ys H=>m=xs.length-i/\i<=xs.length/\Pv i ys H,⟨xs.length,by simp,Nat.zero_le _,j⟩,?_⟩;rintro i m ys H ⟨rfl,hi,p⟩;have q:=k i ys H hi p;by_cases hlt:i<xs.length
 .refine .inr ⟨⟨xs,xs[i],q.1,by simp[hlt]⟩,by have:=q.2;omega,Pv (i+1),λs H' d=>⟨xs.length-(i+1),by omega,rfl,hlt,d⟩,λx H' y=>?_⟩;obtain⟨e,y⟩:=y;subst e;exact l i x ys _ (y xs q.1) p
 .have e:i=xs.length:=by omega
  subst e;exact .inl ⟨⟨xs,q.1,zF _⟩,λd t=>hd ys H d p t⟩
def fP{K:zg}{f:List Nat}{te:TE}{Q:VK}(Pv:Nat->List V->Hp->Prop)(u:xs.length<=sizeLine)(j:Pv 0 [] H)(k:∀i ys H,i<=xs.length->Pv i ys H->ah K H a xs/\ys.length<=i)
  (l:∀i x ys H,xs[i]?=Vo x->Pv i ys H->g x (bG n f σ) H λc o=>tc c o λb h=>if b=true then te c h λv r=>Pv (i+1) (ys++[v]) r else Pv (i+1) ys h)
  (hd:∀ys H p,Pv xs.length ys H->H p=Vp->Q (.ref p) (upd H p (.lst ys))):fQ (cP K a) n f g tc te σ H Q:=by
 refine⟨λi m ys H=>m=xs.length-i/\i<=xs.length/\Pv i ys H,⟨xs.length,by simp,Nat.zero_le _,j⟩,?_⟩;rintro i m ys H ⟨rfl,hi,p⟩;have q:=k i ys H hi p;by_cases hlt:i<xs.length
 .refine .inr ⟨⟨xs,xs[i],q.1,by simp[hlt]⟩,by have:=q.2;omega,Pv (i+1),λs H' d=>⟨xs.length-(i+1),by omega,rfl,hlt,d⟩,λx H' y=>?_⟩;obtain⟨e,y⟩:=y;subst e;exact l i x ys _ (y xs q.1) p
 .have e:i=xs.length:=by omega
  subst e;exact .inl ⟨⟨xs,q.1,zF _⟩,λd t=>hd ys H d p t⟩
structure Cal(P:Vd)(w:Ve)(K:zg)(mg:Vn->Option Va)(base:Vh)(x:Vn)(k:Nat)(ps:List Vn)(sp:Sp):Prop where
 ex:∃(f:Vb) (fd:Vm),mg x=Vo (.ref f)/\PySem.W.keepIn K (.ref f)=true/\Binds K fd ps []/\FnOk P w K mg base dk k f fd ps sp
structure Dfn(K:zg)(mg:Vn->Option Va)(x:Vn)(st:Vl)(ps:List Vn):Prop where
 ex:∃(f:Vb) (fd:Vm),mg x=Vo (.ref f)/\Fun K x x st f fd/\Binds K fd ps []
section
variable {P:Vd} {w:Ve} {K:zg} {mg:Vn->Option Va} {base:Vh}
theorem Dfn.ok{x:Vn}{st:Vl}{N ps:List Vn}{k:Nat}{sp:Sp}(D:Dfn K mg x st ps)(S:FnScope N ps (aw st))(len:∀vs H Q E,sp vs H Q E->vs.length=ps.length)
  (a:∀(X:Cx) (e:∃f cdv A outer s H E,X=(aH dk P w K mg base N x (aw st) f cdv A outer s H E).nox/\Room k X.A) (H:Hp) (vs:List V) (Q:VK) (E:XK),sp vs H Q E ->
   ∃t,bM X (bN st) t/\t { nx:=λ_ H'=>Q .non H',rt:=Q } (start N vs) H):Cal P w K mg base x (k+1) ps sp:=by
 obtain⟨f,fd,b,F,c⟩:=D.ex;exact⟨f,fd,b,F.kp,c,F.ok S len λcdv A outer s H vs Q E d h=>a _ ⟨f,cdv,A,outer,s,H,E,rfl,d⟩ H vs Q E h⟩
end
section
variable {X:Cx}
def az{x:Vn}{k j:Nat}{e:Vk}{es:List Vk}{t:TA}{p pos:Pos}(C:Cal X.prog X.w X.K X.mg X.base x j ps sp)(d:Room k X.A)(g:PA X (e::es) t)(a:j<=k:=by decide)(h:Gl X x:=by rfl)(b:(x == ("__debug__":Vn))=false:=by decide)
  (i:starEach (e::es) X.env=(false,eval e X.env)::starEach es X.env:=by rfl) (c:(backTo pos (starEach es X.env)).any (·.1)=false:=by rfl) :
  PE X (.Call (.Name x p) (e::es) [] pos) (jO sp [] E0 t):=by
 obtain⟨f,fd,l,m,n,F⟩:=C.ex;exact ua F (d.mono a) h l m n .nil qV g b i c
def nW:aU X (binaryOp .FloorDiv) (rI (λ_ j=>0<j/\j<2 ^ 64) λi j=>.int (i / j)):=ib λi j _ _ _ _ _ b q=>by
 have h1:(0:Int)<j:=b.1;have h2:j<2 ^ 64:=b.2;refine floordiv_int (by omega) (by rw[Int.fdiv_eq_ediv_of_nonneg i (by omega)];exact q) (.inl (PyProof.noPylong_of_log2 ?_));have c:j.natAbs≠0:=by omega
 have a:j.natAbs<2 ^ 64:=by omega
 have:=(Nat.log2_lt c).mpr a;omega
def eY(H:Hp):V->String->Prop
 | .non,n=>n = "NoneType"
 | .bl _,n=>n = "bool"
 | .int _,n=>n = "int"
 | .str _,n=>n = "str"
 | .ref a,n=>(n = "list"/\∃xs,H a=Vo (.lst xs))\/(n = "tuple"/\∃xs,H a=Vo (.tup xs))
 | _,_=>False
def eY.ty{K:zg}{x:V}{n:String}(h:eY H x n):TyOf K H x (.type n):=by
 cases x with
 | non=>cases(show n = "NoneType" from h);exact .non
 | bl b=>cases(show n = "bool" from h);exact .bl b
 | int i=>cases(show n = "int" from h);exact .int i
 | str z=>cases(show n = "str" from h);exact .str z
 | ref a=>
  rcases h with⟨rfl,xs,e⟩|⟨rfl,xs,e⟩
  .exact .lst e
  .exact .tup e
 | _=>exact False.elim h
def fc(a b c d e:Bool):String->Option Bool
 | "tuple"=>Vo a|"int"=>Vo b|"bool"=>Vo c|"list"=>Vo d|"str"=>Vo e|_=>Vp
def fL:String->String->Option Bool
 | "NoneType"=>fc false false false false false
 | "bool"=>fc false true true false false
 | "int"=>fc false true false false false
 | "str"=>fc false false false false true
 | "list"=>fc false false false true false
 | "tuple"=>fc true false false false false
 | _=>λ_=>Vp
def xq{K:zg}{n:String}{b:Bool}(h:fL n T=Vo b):PySem.W.kitOne K (.type n) (.type T)=Vo b:=by
 unfold fL at h;split at h<;>first
  | (unfold fc at h;split at h<;>first|(cases h;kernel_rfl)|cases h)
  | cases h
def rn:List V->Hp->VK->Prop:=λxs H Q=>∃x n T b,xs=[x,.ty T]/\eY H x n/\fL n T=Vo b/\Q (.bl b) H
def eP:cc X (.builtin "isinstance") rn:=by intro pins s σ H xs us Q I r h;obtain⟨x,n,T,b,rfl,a,c,q⟩:=h;obtain⟨u,d,rfl,r1,e⟩:=vals2 r;cases(show d=Value.type T from e);exact sP I r1 a.ty (xq c) λtk=>⟨.bl b,H,I.tok tk,rfl,q⟩
def iY(K:zg):List V->Hp->VK->Prop:=λxs H Q=>∃p ys,xs=[.ref p]/\(ag K H p ys\/ah K H p ys)/\Q (.int ys.length) H
def xX:cc X (.builtin "len") (iY X.K):=xR
def lS(K:zg):List V->Hp->VK->Prop:=λxs H Q=>∃p ys,xs=[.ref p]/\((ag K H p ys/\∀l,H l=Vp->Q (.ref l) (upd H l (.tup ys)))\/(ah K H p ys/\Q (.ref p) H))
def tq:cc X (.type "tuple") (lS X.K):=ve
end
def Ext(H H':Hp):Prop:=∀b o,H b=Vo o->H' b=Vo o
def Ext.rfl'(H:Hp):Ext H H:=λ_ _ h=>h
def Ext.trans{H1 H2:Hp}(a:Ext H H1)(b:Ext H1 H2):Ext H H2:=λx o h=>b x o (a x o h)
theorem Ext.none{H H':Hp}(e:Ext H H'){l:Vb}(h:H' l=Option.none):H l=Option.none:=by
 cases q:H l with
 | none=>rfl
 | some o=>rw[e l o q]at h;cases h
section
variable {X:Cx} (K:zg)
def aG(h:X.K=K:=by rfl):fN X (kK K):=by subst h;exact vG
def aE(h:X.K=K:=by rfl):fN X (kB K):=by subst h;exact y8
def jz(h:X.K=K:=by rfl):lC X (kL K):=by subst h;exact yV
def cz(h:X.K=K:=by rfl):cc X (.builtin "len") (iY K):=by subst h;exact xX
def eh(h:X.K=K:=by rfl):cc X (.type "tuple") (lS K):=by subst h;exact tq
def jk{l:Vk}(a:PE X l tl)(h:X.K=K:=by rfl):PI X tg l (jl K tl):=by subst h;exact sN a
def fh{l:Vk}(a:PE X l tl)(h:X.K=K:=by rfl):PI X tg l (lW K tl):=by subst h;exact wj a
def iT{es:List Vk}{k:Nat}{t:cG}{pos:Pos}(b:X.calm=true)(c:ff X es t)(h:X.K=K:=by rfl)
  (d:(assignEach es X.env).length=n:=by rfl) (a:(assignEach es X.env).findIdx? (·.1)=Vp:=by rfl):PG X (.Tuple es k pos) (jf K n t):=by subst h;exact wG b c d a
def bj{o e:Vk}{es:List Vk}{t:TA}{name:Vn}{apos cpos:Pos}{id:String}(g:PlainAttrs T)(slot:Slot T name id)(f:typeOf (.builtin id)=pure (.type "method_descriptor"))(i:gg X id r)(j:PE X o to)(k:PA X (e::es) t)(h:X.K=K:=by rfl)
  (b:attributeBase o name X.env (eval o X.env)=eval o X.env:=by rfl)
  (d:((backTo cpos (starEach (e::es) X.env)).all (λx=>!x.1) && (backToKw cpos (keywordEach [] X.env)).all (λx=>x.1.isSome)
   && decide ((e::es).length+([]:List Keyword).length+(if([]:List Keyword).isEmpty then 0 else 1)<30))=true:=by rfl)
  (c:(apos.endLine == cpos.line)=true:=by rfl) (l:starEach (e::es) X.env=(false,eval e X.env)::starEach es X.env:=by rfl) (a:(backTo cpos (starEach es X.env)).any (·.1)=false:=by rfl) :
  PE X (.Call (.Attribute o name apos) (e::es) [] cpos) (jV K T r to t):=by subst h;exact uG g slot f i j k b d c l a
def qh(K:zg)(ta:TE):TT:=λσ H Q=>ta σ H λx H'=>∃k,iK K x H' k/\Q k H'
def ow{a:Vk}{ta:TE}(b:PE X a ta)(c:∀whole,isTrue a X.env whole=(do let v <-whole;standAt a.pos;holding [v] (truthy v)))(h:X.K=K:=by rfl):PT X a (qh K ta):=by subst h;exact ue b c
end
def ot(ns:List Int):TA:=λ_ H Q=>Q (ns.map V.int) H
inductive IntsE:List Vk->List Int->Prop
 | n:IntsE [] []
 | c {i j pos es ns}:IntsE es ns->IntsE (.Constant (.int i) j pos::es) (i::ns)
def gM{es:List Vk}{ns:List Int}(h:IntsE es ns):PA X es (ot ns):=by
 induction h with
 | n=>exact ae
 | @c i j pos es ns _ a=>
  intro p pins s σ H Q I b;exact aa (e:=.Constant (.int i) j pos) af a rfl p pins s σ H Q I b
def rd_ints{ns:List Int}{R:List V->Hp->Prop}(h:R (ns.map V.int) H):ot ns σ H R:=h
def j8(c:TT)(t u:TS):TS:=λD σ H=>∃R:St->Hp->Prop,(c σ H λb H1=>if b=true then t { D with nx:=R } σ H1 else u { D with nx:=R } σ H1)/\∀a H',R a H'->D.nx a H'
def dI{c:Vk}{a b:List Vl}{t u:TS}{pos:Pos}(e:PT X c tc)(g:bM X a t)(i:bM X b u):PS X (.If c a b pos) (j8 tc t u):=by
 intro pins s σ H D I h;obtain⟨R,h,j⟩:=h;refine ao (aT e g i pins s σ H { D with nx:=R } I h) λf s1 q=>?_;cases f with
 | next=>
  obtain⟨d,H',k,q⟩:=q;exact⟨d,H',k,j d H' q⟩
 | ret v=>exact q
 | brk=>exact q
 | cont=>exact q
def p8(K:zg):V->Hp->(It->Hp->Prop)->Prop:=λx H R=>∃a,x=.ref a/\(∃xs,ag K H a xs)/\R (cD K a) H
def sk(K:zg):V->Hp->(It->Hp->Prop)->Prop:=λx H R=>∃a,x=.ref a/\(∃xs,ah K H a xs)/\R (cP K a) H
def rF:List V->Hp->(It->Hp->Prop)->Prop:=λvs H R=>∃j:Int,vs=[.int j]/\-(2 ^ 62)<=j/\j<2 ^ 62/\R (dP 0 j.toNat) H
def i3(J:It)(g:TG)(tb:TS)(D:Ends)(σ:St)(H:Hp):Prop:=∃W:Nat->Nat->St->Hp->Prop,(∃m,W 0 m σ H)/\∀i m σ H,W i m σ H ->
 (J.stop i H/\D.nx σ H)\/(J.go i H/\∃N:St->Hp->Prop,(∀a H',N a H'->∃c,c<m/\W (i+1) c a H')/\∀x H',J.yld i H x H'->g x σ H' λb H2=>tb { D with nx:=N,ct:=N,bk:=D.nx } b H2)
def forL{K:zg}{D:Ends}(Pv:Nat->St->Hp->Prop)(c:Pv 0 σ H)(d:∀i σ H,i<=xs.length->Pv i σ H->ag K H a xs)
  (e:∀i x σ H,xs[i]?=Vo x->Pv i σ H->g x σ H λb H2=>tb ⟨Pv (i+1),D.rt,D.nx,Pv (i+1)⟩ b H2) (hd:∀σ H,Pv xs.length σ H->D.nx σ H):i3 (cD K a) g tb D σ H:=tZ Pv c d e hd
def yl{K:zg}{D:Ends}(Pv:Nat->St->Hp->Prop)(c:Pv 0 σ H)(d:∀i σ H,i<=xs.length->Pv i σ H->ah K H a xs)
  (e:∀i x σ H,xs[i]?=Vo x->Pv i σ H->g x σ H λb H2=>tb ⟨Pv (i+1),D.rt,D.nx,Pv (i+1)⟩ b H2) (hd:∀σ H,Pv xs.length σ H->D.nx σ H):i3 (cP K a) g tb D σ H:=xp Pv c d e hd
def forR{lo:Int}{D:Ends}(Pv:Nat->St->Hp->Prop)(b:Pv 0 σ H)
  (c:∀i σ H,i<n->Pv i σ H->g (.int (lo+i)) σ H λa H2=>tb ⟨Pv (i+1),D.rt,D.nx,Pv (i+1)⟩ a H2) (hd:∀σ H,Pv n σ H->D.nx σ H):i3 (dP lo n) g tb D σ H:=uc Pv b c hd
def cI(H:Hp)(o:HO)(R:VK):Prop:=∀p,H p=Vp->R (.ref p) (upd H p o)
section
variable {K:zg} {D:Ends} {σ:St} {H:Hp} {Q:VK} {ta tb tc te:TE} {t u:TS} {c c':TT}
def rd_seq(h:t ⟨u D,D.rt,D.bk,D.ct⟩ σ H):om t u D σ H:=h
def rd_next(h:D.nx σ H):qC D σ H:=h
def rd_ret(h:te σ H D.rt):nY te D σ H:=h
def rd_asg(h:te σ H λx H1=>g x σ H1 D.nx):iO te g D σ H:=h
def rd_drop(h:te σ H λ_ H1=>D.nx σ H1):mU te D σ H:=h
def rd_ifS(h:c σ H λb H1=>if b=true then t D σ H1 else u D σ H1):oF c t u D σ H:=h
def cZ(R:St->Hp->Prop)(h:c σ H λb H1=>if b=true then t ⟨R,D.rt,D.bk,D.ct⟩ σ H1 else u ⟨R,D.rt,D.bk,D.ct⟩ σ H1)(k:∀a H',R a H'->D.nx a H'):j8 c t u D σ H:=⟨R,h,k⟩
def qH(h:c σ H λb H1=>if b=true then t D σ H1 else u D σ H1):j8 c t u D σ H:=⟨D.nx,h,λ_ _ h=>h⟩
def rd_name{i:Nat}{R:St->Hp->Prop}(h:R (σ.set i (Vo v)) H):gK i v σ H R:=h
def rd_var{i:Nat}(e:σ[i]?=Vo (Vo v))(h:Q v H):lL i σ H Q:=⟨v,e,h⟩
def rd_c(h:Q v H):tC v σ H Q:=h
def rd_op{r:R2}(h:ta σ H λx H1=>tb σ H1 λy H2=>r x y H2 Q):gw r ta tb σ H Q:=h
def rd_un{r:V->Hp->VK->Prop}(h:ta σ H λx H1=>r x H1 Q):qj r ta σ H Q:=h
def rd_CB{r:List V->Hp->VK->Prop}{a:TA}(h:a σ H λvs H1=>r vs H1 Q):jJ r a σ H Q:=h
def rd_cons{a:TA}{R:List V->Hp->Prop}(h:ta σ H λx H1=>a σ H1 λxs H2=>R (x::xs) H2):kZ ta a σ H R:=h
def rd_nil{R:List V->Hp->Prop}(h:R [] H):eo σ H R:=h
def rd_test{R:Bool->Hp->Prop}(h:te σ H λx H'=>∃k,x=.bl k/\R k H'):rC te σ H R:=h
def rd_B{R:Bool->Hp->Prop}(h:te σ H λx H'=>∃k,x=.bl k/\R k H'):tB te σ H R:=h
def rd_exb{b:Bool}{R:Bool->Prop}(h:R b):∃k,V.bl b=V.bl k/\R k:=⟨b,rfl,h⟩
def rd_not{R:Bool->Hp->Prop}(h:c σ H λb H1=>R (!b) H1):qL c σ H R:=h
def rd_or{R:Bool->Hp->Prop}(h:c σ H λb H1=>if b=true then R true H1 else c' σ H1 R):rV c c' σ H R:=h
def rd_andV(h:ta σ H λx H1=>∃k,x=.bl k/\if k=true then tb σ H1 Q else Q (.bl false) H1):qF ta tb σ H Q:=h
def rd_orV(h:ta σ H λx H1=>∃k,x=.bl k/\if k=true then Q (.bl true) H1 else tb σ H1 Q):oE ta tb σ H Q:=h
def rd_notV(h:ta σ H λx H1=>∃k,x=.bl k/\Q (.bl (!k)) H1):nB ta σ H Q:=h
def rd_ifE(h:c σ H λb H1=>if b=true then ta σ H1 Q else tb σ H1 Q):mV c ta tb σ H Q:=h
def rd_yes{R:Bool->Hp->Prop}(h:R true H):ri σ H R:=h
def rd_I0{g:Int->Int->V}{i j:Int}(h:Q (g i j) H):dJ g (.int i) (.int j) H Q:=⟨i,j,rfl,rfl,h⟩
def rd_I{C:Int->Int->Prop}{g:Int->Int->V}{i j:Int}(a:C i j)(h:Q (g i j) H):rI C g (.int i) (.int j) H Q:=⟨i,j,rfl,rfl,a,h⟩
def rd_U{g:Int->V}{i:Int}(h:Q (g i) H):rU g (.int i) H Q:=⟨i,rfl,h⟩
def rd_EqI{i j:Int}(h:Q (.bl (decide (i=j))) H):mx (.int i) (.int j) H Q:=⟨rfl,by
 have e:decide (V.int i=V.int j)=decide (i=j):=by rw[zS];simp
 rw[e];exact h⟩
def rd_NeI{i j:Int}(h:Q (.bl (!decide (i=j))) H):lM (.int i) (.int j) H Q:=⟨rfl,by
 have e:decide (V.int i=V.int j)=decide (i=j):=by rw[zS];simp
 rw[e];exact h⟩
def aB{p:Vb}{i:Int}(e:ag K H p xs)(a:bR xs i=Vo v)(h:Q v H):kK K (.ref p) (.int i) H Q:=⟨p,xs,i,v,rfl,rfl,e,a,h⟩
def aD{p:Vb}{i:Int}(e:ah K H p xs)(a:bR xs i=Vo v)(h:Q v H):kB K (.ref p) (.int i) H Q:=⟨p,xs,i,v,rfl,rfl,e,a,h⟩
def fD{p:Vb}(e:ag K H p xs)(h:Q (.int xs.length) H):iY K [.ref p] H Q:=⟨p,xs,rfl,.inl e,h⟩
def eL{p:Vb}(e:ah K H p xs)(h:Q (.int xs.length) H):iY K [.ref p] H Q:=⟨p,xs,rfl,.inr e,h⟩
def er{p:Vb}(e:ag K H p xs)(h:cI H (.tup xs) Q):lS K [.ref p] H Q:=⟨p,xs,rfl,.inl ⟨e,h⟩⟩
def eJ{x:V}{n:String}{b:Bool}(a:eY H x n)(c:fL n T=Vo b)(h:Q (.bl b) H):rn [x,.ty T] H Q:=⟨x,n,T,b,rfl,a,c,h⟩
def rd_call{a:TA}{E:XK}(h:a σ H λvs H1=>sp (vs++[]) H1 Q E):jO sp [] E a σ H Q:=h
def rd_BM{a:TA}(h:te σ H λx H1=>fq K T x H1/\a σ H1 λxs H2=>r x xs H2 Q):jV K T r te a σ H Q:=h
def rd_tup{a:TA}(h:a σ H λxs H1=>xs.length<=sizeLine/\cI H1 (.tup xs) Q):kQ a σ H Q:=h
def rd_lst{a:TA}(h:a σ H λxs H1=>xs.length<=sizeLine/\cI H1 (.lst xs) Q):o5 a σ H Q:=h
def rd_sl{r:V->Option Int->Option Int->Hp->VK->Prop}{tl th:TO}(h:te σ H λx H1=>tl σ H1 λl H2=>th σ H2 λv a=>r x l v a Q):m8 r te tl th σ H Q:=h
def rd_noPart{R:Option Int->Hp->Prop}(h:R Vp H):pT σ H R:=h
def rd_part{R:Option Int->Hp->Prop}(h:te σ H λx H1=>∃i,x=.int i/\R (Vo i) H1):qY te σ H R:=h
def rd_exi{i:Int}{R:Int->Prop}(h:R i):∃k,V.int i=V.int k/\R k:=⟨i,rfl,h⟩
def rd_chain{r a:R2}(h:ta σ H λx H1=>tb σ H1 λy H2=>r x y H2 λz b=>∃k,z=.bl k/\(if k=true then tc σ b λc d=>a y c d Q else Q (.bl false) b)):qS r a ta tb tc σ H Q:=h
def rd_comp{a:List Nat}{b:TI}(h:b σ H λJ H1=>fQ J n a g c te σ H1 Q):iC n a b g c te σ H Q:=h
def rd_iL(h:te σ H λx H1=>p8 K x H1 R):jl K te σ H R:=h
def rd_iT(h:te σ H λx H1=>sk K x H1 R):lW K te σ H R:=h
def gU{p:Vb}(e:ag K H p xs)(h:R (cD K p) H):p8 K (.ref p) H R:=⟨p,rfl,⟨xs,e⟩,h⟩
def fw{p:Vb}(e:ah K H p xs)(h:R (cP K p) H):sk K (.ref p) H R:=⟨p,rfl,⟨xs,e⟩,h⟩
def rd_i1{a:TA}(h:a σ H λvs H1=>rF vs H1 R):nM a σ H R:=h
def fX{j:Int}(h1:-(2 ^ 62)<=j/\j<2 ^ 62)(h:R (dP 0 j.toNat) H):rF [.int j] H R:=⟨j,rfl,h1.1,h1.2,h⟩
def rd_for{a:TI}(h:a σ H λJ H1=>i3 J g t D σ H1):rQ a g t D σ H:=h
def bQ{l:Vb}{y:V}(e:H l=Vo (.lst xs))(a:xs.length<sizeLine)(h:Q .non (upd H l (.lst (xs++[y])))):pO (.ref l) [y] H Q:=⟨l,xs,y,rfl,rfl,e,a,h⟩
def dn{p:Vb}(e:ag K H p xs):fq K "list" (.ref p) H:=.inl ⟨rfl,xs,e⟩
def gR{g:cG}{R:St->Hp->Prop}(e:ah K H a xs)(b:xs.length=n)(h:g xs σ H R):jf K n g (.ref a) σ H R:=⟨a,xs,rfl,e,b,h⟩
def rd_gcons{b:cG}{r:List V}{R:St->Hp->Prop}(h:g v σ H λa H'=>b r a H' R):o9 g b (v::r) σ H R:=⟨v,r,rfl,h⟩
def rd_gnil{R:St->Hp->Prop}(h:R σ H):mZ [] σ H R:=⟨rfl,h⟩
def iQ{l b:Vb}{zs:List V}(a:H l=Vo (.lst xs))(c:H b=Vo (.lst zs))(d:xs.length+zs.length<=sizeLine)(h:cI H (.lst (xs++zs)) Q):pI (.ref l) (.ref b) H Q:=⟨l,b,xs,zs,rfl,rfl,a,c,d,h⟩
def tH{l:Vb}{k:Int}(e:H l=Vo (.lst xs))(b:0<=k/\k<10 ^ 6)(a:xs.length*k.toNat<=sizeLine)(h:cI H (.lst (zY k.toNat xs).flatten) Q):qo (.ref l) (.int k) H Q:=
 ⟨l,k,xs,rfl,rfl,e,by omega,by omega,a,h⟩
def lO{lo hi:Option Int}(e:ag K H a xs)(h:cI H (.lst (dh xs lo hi)) Q):kL K (.ref a) lo hi H Q:=⟨a,xs,rfl,e,h⟩
def rd_tTru{R:Bool->Hp->Prop}(h:te σ H λx H'=>∃k,iK K x H' k/\R k H'):qh K te σ H R:=h
def bF{o:HO}{R:VK}(h:∀p H',Ext H H'->H' p=Vo o->H p=Vp->R (.ref p) H'):cI H o R:=λp a=>
 h p _ (λb u e=>by rw[au (bt e a)];exact e) aM a
def bL{p:Vb}{o:HO}(a:H p=Vp):Ext H (upd H p o):=λb u e=>by rw[au (bt e a)];exact e
def ag.ext{H':Hp}{p:Vb}(e:Ext H H')(h:ag K H p xs):ag K H' p xs:=by
 rcases h with(h|⟨o,h⟩)|h
 .exact .inl (.inl (e _ _ h))
 .exact .inl (.inr ⟨o,e _ _ h⟩)
 .exact .inr h
end
def ya{α:Type}{xs:List α}{i:Int}{v:α}(a:0<=i)(h:xs[i.toNat]?=Vo v):bR xs i=Vo v:=by
 have:=bC h
 rwa [Int.toNat_of_nonneg a]at this
def cX:V->PyData->Prop
 | .non,.none=>True
 | .bl b,.bool c=>b=c
 | .int i,.int j=>i=j
 | .str x,.str y=>x=y/\(PyData.str y).canLay0=true
 | _,_=>False
def aF(H:Hp):Nat->V->PyData->Prop
 | 0,x,d=>cX x d
 | n+1,x,d=>cX x d\/∃a xs ds,x=.ref a/\((H a=Vo (.tup xs)/\d=.tuple ds)\/(H a=Vo (.lst xs)/\d=.list ds))/\Paired (aF H n) xs ds
section
variable {X:Cx} {pins:List (Vb×Obj)} {σ:St} {H:Hp} {s:Vc}
def cX.reads{x:V}{d:PyData}{u:Va}(h:cX x d)(r:RelV x u):∃a,Reads s.heap u d a:=by
 cases x with
 | non=>cases d<;>first|exact False.elim h|(cases r;exact⟨_,.none⟩)
 | bl b=>cases d<;>first|exact False.elim h|(cases(show b=_ from h);cases r;exact⟨_,.bool _⟩)
 | int i=>cases d<;>first|exact False.elim h|(cases(show i=_ from h);obtain⟨t,rfl⟩:=r;exact⟨_,.int _ t⟩)
 | str z=>cases d<;>first|exact False.elim h|(cases(show z=_/\_ from h).1;obtain⟨t,rfl⟩:=r;exact⟨_,.str _ t⟩)
 | _=>cases d<;>exact False.elim h
def cX.lay{x:V}{d:PyData}(h:cX x d):d.canLay0=true/\d.depth=0:=by cases x<;>cases d<;>first|exact False.elim h|exact ⟨rfl,rfl⟩|exact ⟨h.2,rfl⟩
theorem mF{R:V->PyData->Prop}(b:∀{x:V} {d:PyData} {u:Va},R x d->RelV x u->∃a,Reads s.heap u d a):∀{xs:List V} {ds:List PyData} {us:List Va},Paired R xs ds->Vals xs us->∃a,ReadsAll s.heap us ds a
 | _,_,_,.nil,.nil=>⟨_,.nil⟩
 | _,_,_,.cons h t,.cons r rt=>by obtain⟨a,c⟩:=b h r;obtain⟨bs,e⟩:=mF b t rt;exact⟨_,.cons c e⟩
theorem aF.reads(I:Inv X pins σ H s):∀(n:Nat) {x:V} {d:PyData} {u:Va},aF H n x d->RelV x u->∃b,Reads s.heap u d b
 | 0,_,_,_,h,r=>cX.reads h r
 | n+1,x,d,u,h,r=>by
  rcases h with h|⟨a,xs,ds,rfl,l,j⟩
  .exact cX.reads h r
  .cases r;rcases l with⟨e,rfl⟩|⟨e,rfl⟩
   .obtain⟨c,f,⟨o,g,m,k,hd⟩,_⟩:=I.tuple (ah.of e);obtain⟨b,i⟩:=mF (λ{x d u}=>aF.reads I n) j f;exact⟨_,.tuple g m hd (by simpa using i)⟩
   .obtain⟨c,k,f,g,_⟩:=I.lst e;obtain⟨b,i⟩:=mF (λ{x d u}=>aF.reads I n) j f;exact⟨_,.list g rfl rfl (by simpa using i)⟩
theorem fT{R:V->PyData->Prop}{m:Nat}(a:∀{x:V} {d:PyData},R x d->d.canLay0=true/\d.depth<=m):∀{xs:List V} {ds:List PyData},Paired R xs ds->PyData.canLayAll0 ds=true/\PyData.depthAll ds<=m
 | _,_,.nil=>⟨rfl,Nat.zero_le _⟩
 | _,_,.cons h t=>by
  obtain⟨h1,h2⟩:=a h;obtain⟨b,c⟩:=fT a t;refine⟨?_,?_⟩
  .simp only[PyData.canLayAll0,h1,b,Bool.and_self]
  .simp only[PyData.depthAll];exact Nat.max_le.mpr ⟨h2,c⟩
theorem aF.lay:∀(n:Nat) {x:V} {d:PyData},aF H n x d->d.canLay0=true/\d.depth<=n
 | 0,_,_,h=>⟨(cX.lay h).1,Nat.le_of_eq (cX.lay h).2⟩
 | n+1,x,d,h=>by
  rcases h with h|⟨a,xs,ds,rfl,b,c⟩
  .exact⟨(cX.lay h).1,by rw[(cX.lay h).2];exact Nat.zero_le _⟩
  .obtain⟨h1,h2⟩:=fT (λ{x d}=>aF.lay n) c;rcases b with⟨e,rfl⟩|⟨e,rfl⟩
   .exact⟨h1,Nat.succ_le_succ h2⟩
   .exact⟨h1,Nat.succ_le_succ h2⟩
def lV(neg:Bool):R2:=λx y H Q=>∃n m d e,aF H n x d/\aF H m y e/\n<=50/\Q (.bl (if neg then !PyData.eqv d e else PyData.eqv d e)) H
def qr{k:Nat}(a:Room k X.A):aU X (compareOp .Eq) (lV false):=by intro pins s σ H x y v u Q I b c h;obtain⟨n,m,d,e,h1,h2,f,q⟩:=h;obtain⟨i,ra⟩:=aF.reads I n h1 b;obtain⟨bs,g⟩:=aF.reads I m h2 c;have l1:=aF.lay n h1;have l2:=aF.lay m h2;have j:=a.units;have l:min d.depth e.depth<=50:=zP (Nat.min_le_left _ _) (zP l1.2 f);exact SeqAt.compareEq_reads ra g l1.1 l2.1 (by omega) ⟨.bl _,H,I,rfl,q⟩
def gD{k:Nat}(a:Room k X.A):aU X (compareOp .NotEq) (lV true):=by intro pins s σ H x y v u Q I b c h;obtain⟨n,m,d,e,h1,h2,f,q⟩:=h;obtain⟨i,ra⟩:=aF.reads I n h1 b;obtain⟨bs,g⟩:=aF.reads I m h2 c;have l1:=aF.lay n h1;have l2:=aF.lay m h2;have j:=a.units;have l:min d.depth e.depth<=50:=zP (Nat.min_le_left _ _) (zP l1.2 f);exact SeqAt.compareNe_reads ra g l1.1 l2.1 (by omega) ⟨.bl _,H,I,rfl,q⟩
end
def tK(K:zg):List V->Hp->VK->Prop:=λxs H Q=>∃(p:Vb) (bs:List Bool),xs=[.ref p]/\ag K H p (bs.map V.bl)/\Q (.bl (bs.all id)) H
theorem pZ:∀{bs:List Bool} {us:List Va},Vals (bs.map V.bl) us->us=bs.map Value.bool
 | [],_,r=>by cases r;rfl
 | b::bs,_,r=>by
  cases r with
  | cons r t=>cases r;rw[pZ t];rfl
def all_range(bs:List Bool):((Af bs.length).all λi=>bs.getD i false)=bs.all id:=by
 rw[zS,zR,zR];constructor
 .intro h b c;obtain⟨i,hi,e⟩:=List.mem_iff_getElem.mp c;have:=h i (List.mem_range.mpr hi);rw[List.getD_eq_getElem?_getD,zl hi]at this;rw[<-e];exact this
 .intro h i hi;have a:=List.mem_range.mp hi;rw[List.getD_eq_getElem?_getD,zl a];exact h _ (zL a)
def jQ(K:zg)(t:X.calm=true)(w:X.K=K:=by rfl):cc X (.builtin "all") (tK K):=by
 subst w;intro pins s σ H xs us Q I r h;obtain⟨p,bs,rfl,x,q⟩:=h;obtain⟨u,rfl,y⟩:=vals1 r;cases y;obtain⟨d,k,pl,R⟩:=I.list x;have z:=pZ k;have f:p≠s.heap.objs.size:=zE (by obtain⟨o,n,e,_⟩:=pl;exact zj e);refine call_all_walk (wpAny_pyIter_list pl.isList ?_);have B:Inv X pins σ H { s with heap:=s.heap.push { cls:=.type "list_iterator",data:=.fields #[.ref p,.int 0 0] } }:=I.kept (t':=s.toks) λb o e=>zh _ e;have C:=I.fpOk (H':=H) (zF s.heap.objs.size) I.fresh;refine⟨s.heap.objs.size,_,_,_,_,_,(λi=>bs.getD i false),rfl,Walks.list (A:=X.A.in1) (I.ok.hd t) _ p f d.toArray,⟨⟨_,zi _ rfl,rfl,rfl⟩,?_⟩,?_,λh' tk E=>?_⟩
 .exact pl.isList.push _
 .intro i v s' F S l G;rw[z]at l;have a:(bs.map Value.bool)[i]?=Vo v:=by simpa using l
  rw[zm]at a;cases g:bs[i]? with
  | none=>rw[g]at a;cases a
  | some b=>
   rw[g]at a;cases a;have j:bs.getD i false=b:=by rw[List.getD_eq_getElem?_getD,g];rfl
   have c:F (bs.getD i false) s':=G;rw[j]at c;exact wpAny_truthy_bool c
 .obtain⟨J,L,T,M,N,O⟩:=C;have m:=k.length;rw[zk]at m;refine⟨.bl (bs.all id),H,B.turned (it:=s.heap.objs.size) (λb o P e=>E b o (by simpa using P) e) J L M N O,?_,q⟩;show Value.bool _=Value.bool _;rw[zq,<-m,all_range]
def pL(c:TT)(tb:TS):TS:=λD σ H=>∃(W:Nat->St->Hp->Prop) (R:St->Hp->Prop),(∃m,W m σ H)/\(∀m σ H,W m σ H ->
 c σ H λb H1=>if b=true then ∃N:St->Hp->Prop,(∀a H',N a H'->∃d,d<m/\W d a H')/\tb ⟨N,D.rt,R,N⟩ σ H1 else R σ H1)/\∀σ H,R σ H->D.nx σ H
def xP{pos:Pos}{c:Vk}{body:List Vl}(b:PassesOwn (Vg X.prog X.w) X.A X.env X.xe)(d:PT X c tc)(e:bM X body tb):PS X (.While c body [] pos) (pL tc tb):=by
 intro pins s σ H D I h;obtain⟨W,R,w0,g,i⟩:=h;refine ao (xo b d e pins s σ H { D with nx:=R } I ⟨W,w0,g⟩) λf s1 q=>?_;cases f with
 | next=>
  obtain⟨a,H',j,q⟩:=q;exact⟨a,H',j,i a H' q⟩
 | ret v=>exact q
 | brk=>exact q
 | cont=>exact q
section
variable {D:Ends} {σ:St} {H:Hp} {Q:VK} {te:TE} {t:TS} {c:TT}
def sJ(W:Nat->St->Hp->Prop)(R:St->Hp->Prop)(m:Nat)(e:W m σ H)(f:∀m σ H,W m σ H->c σ H λb H1=>if b=true then ∃N:St->Hp->Prop,(∀a H',N a H'->∃d,d<m/\W d a H')/\t ⟨N,D.rt,R,N⟩ σ H1 else R σ H1)(k:∀σ H,R σ H->D.nx σ H):pL c t D σ H:=⟨W,R,⟨m,e⟩,f,k⟩
end
section
variable {prog:Vd} {w:Ve} {A:Vi} {E:Va->Vc->Prop} {s:Vc}
def xc{it t:Vb}{i:Nat}{x:Va}{Q:Va->Vc->Prop}(c:s.heap.IsTupleIter it t i)(gt:s.heap.IsTuple t ys)(d:ys[i]?=Vo x)
  (q:∀h',h'.IsTupleIter it t (i+1)->Heap.SameBut it s.heap h'->Q x { s with heap:=h' }):Vf (Vg prog w) A (Builtin.SmallTypes.nextOf (.ref it)) Q E s:=by
 obtain⟨u,b,e,a⟩:=id c;obtain⟨v,f,_,k,g⟩:=gt;unfold Builtin.SmallTypes.nextOf;refine ze (Ae (name:=zU "__next__") c.typeIs F.slot_tuple_iterator_next (wpAny_call_entry F.slot_tuple_iterator_next c.typeIs F.entry_tuple_iterator_next ?_ (F.args_tuple_iterator_next_1 _)));show Vf _ _ (field (Value.ref it) 0 >>= _) _ _ s;refine ze (wpAny_field b a (x:=Value.ref t) rfl ?_);show Vf _ _ (if(Value.ref t == Value.none)=true then _ else _) _ _ s;rw[Ai (show ¬(Value.ref t == Value.none)=true from zB)];show Vf _ _ (field (Value.ref it) 1 >>= _) _ _ s;refine ze (wpAny_field b a (x:=Value.int i 0) rfl ?_);show Vf _ _ (seqItems? (Value.ref t) >>= _) _ _ s;refine ze (wpAny_seqItems f g ?_);simp only[zy,d];refine ze (wpAny_setField b a (by simp) (zf ⟨x,rfl,zf (q _ ?_ (Heap.SameBut.update ..))⟩));exact⟨_,Heap.get?_update_self _ b (Obj.isFreed_of_fields (Obj.data_mapFields a _)),(Obj.cls_mapFields ..).trans e,by rw[Obj.data_mapFields a];simp[rawInt]⟩
def vv{it t:Vb}{i:Nat}{Q:Va->Vc->Prop}(f:A.handled=Vp)(b:s.heap.IsTupleIter it t i)(gt:s.heap.IsTuple t ys)(g:ys[i]?=Vp)
  (q:∀h' e,Heap.ExtBut it s.heap h'->(∃o,h'.get? e=Vo o/\o.cls=.type "StopIteration")->E (.ref e) { s with heap:=h' }):Vf (Vg prog w) A (Builtin.SmallTypes.nextOf (.ref it)) Q E s:=by
 obtain⟨u,c,l,d⟩:=id b;obtain⟨v,h,_,k,j⟩:=gt;unfold Builtin.SmallTypes.nextOf;refine ze (Ae (name:=zU "__next__") b.typeIs F.slot_tuple_iterator_next (wpAny_call_entry F.slot_tuple_iterator_next b.typeIs F.entry_tuple_iterator_next ?_ (F.args_tuple_iterator_next_1 _)));show Vf _ _ (field (Value.ref it) 0 >>= _) _ _ s;refine ze (wpAny_field c d (x:=Value.ref t) rfl ?_);show Vf _ _ (if(Value.ref t == Value.none)=true then _ else _) _ _ s;rw[Ai (show ¬(Value.ref t == Value.none)=true from zB)];show Vf _ _ (field (Value.ref it) 1 >>= _) _ _ s;refine ze (wpAny_field c d (x:=Value.int i 0) rfl ?_);show Vf _ _ (seqItems? (Value.ref t) >>= _) _ _ s;refine ze (wpAny_seqItems h j ?_);simp only[zy,g];refine ze (wpAny_rule (ze (wpAny_setField c d (by simp) ?_)));show Vf _ _ (newExc (Value.type "StopIteration") [] >>= _) _ _ _;refine ze ?_;simp only[newExc,newTuple];refine ze (wpAny_newObj_type (hd:=by size_fits) ?_);refine ze (m:=firstArgMember _ _) (wpAny_of_eq (a:=Value.none) (by first|rfl|(unfold firstArgMember;rfl)) ?_);refine wpAny_newObj_type (hd:=by size_fits) ?_;simp only[raiseNew];refine ze (wpAny_handled ?_)
 first|rw [show Around.handled A.in1=Vp from f]|rw [f]
 refine ze (zf (wpAny_throw ?_));exact q _ _ (((Heap.SameBut.update ..).extBut.push _).push _) ⟨_,zi _ rfl,rfl⟩
end
structure Sub(P:Vd)(w:Ve)(K:zg)(J:It)(it:Vb)(tn:Nat->Vh->Prop):Prop where
 obj:∀i h,tn i h->∃o,h.get? it=Vo o/\∀v,o.data≠.cell v
 keep:∀i h h',tn i h->(∀o,h.get? it=Vo o->h'.get? it=Vo o)->tn i h'
 item:∀(X:Cx),X.prog=P->X.w=w->X.K=K->∀(A:Vi) (i:Nat) (pins:List (Vb×Obj)) (s:Vc) (σ:St) (H:Hp) (Q:Va->Vc->Prop) (E:Va->Vc->Prop),Inv X pins σ H s->bA X pins H it->tn i s.heap->J.go i H ->
  (∀x u h',Inv X pins σ H { s with heap:=h' }->RelV x u->J.yld i H x H->tn (i+1) h'->Heap.SameBut it s.heap h'->Q u { s with heap:=h' })->Vf (Vg P w) A (Builtin.SmallTypes.nextOf (.ref it)) Q E s
 done:∀(X:Cx),X.prog=P->X.w=w->X.K=K->∀(A:Vi),A.handled=Vp->∀(i:Nat) (pins:List (Vb×Obj)) (s:Vc) (σ:St) (H:Hp) (Q:Va->Vc->Prop) (E:Va->Vc->Prop),Inv X pins σ H s->bA X pins H it->tn i s.heap->J.stop i H ->
  (∀h' e,Heap.ExtBut it s.heap h'->(∃o,h'.get? e=Vo o/\o.cls=.type "StopIteration")->E (.ref e) { s with heap:=h' })->Vf (Vg P w) A (Builtin.SmallTypes.nextOf (.ref it)) Q E s
def uK{K:zg}(a it:Vb):Sub P w K (cD K a) it (λi h=>h.IsListIter it a i) where
 obj:=λi h st=>by obtain⟨o,e,c,d⟩:=st;exact⟨o,e,λv z=>by rw[d]at z;cases z⟩
 keep:=λi h h' st k=>st.at k
 item:=by intro X g j l A i pins s σ H Q E I y st m B;subst g j l;obtain⟨xs,x,f,n⟩:=m;obtain⟨q,r,p,C⟩:=I.list f;obtain⟨u,F,G⟩:=r.get n;obtain⟨J,L,W,M,N,O⟩:=y;exact wpAny_nextOf_list_item st p.isList (x:=u) (by simpa using F) λh' t sb=>B x u h' (I.turned (t':=s.toks) (it:=it) (λb o R e=>(sb.2 b R).trans e) J L M N O) G ⟨rfl,λys S=>by rw[I.list_inj S f];exact n⟩ t sb
 done:=by intro X g j l A T i pins s σ H Q E I y st m U;subst g j l;obtain⟨xs,f,n⟩:=m;obtain⟨q,r,p,C⟩:=I.list f;have Y:=r.length;exact wpAny_nextOf_list_end T st p.isList (by simp;omega) U
def tD{K:zg}(a it:Vb):Sub P w K (cP K a) it (λi h=>h.IsTupleIter it a i) where
 obj:=λi h st=>by obtain⟨o,e,c,d⟩:=st;exact⟨o,e,λv z=>by rw[d]at z;cases z⟩
 keep:=λi h h' st k=>st.at k
 item:=by intro X j l m A i pins s σ H Q E I y st n B;subst j l m;obtain⟨xs,x,g,q⟩:=n;obtain⟨f,r,p,C⟩:=I.tuple g;obtain⟨u,F,G⟩:=r.get q;obtain⟨J,L,W,M,N,O⟩:=y;exact xc st (show s.heap.IsTuple a f.toArray from p) (x:=u) (by simpa using F) λh' t sb=>B x u h' (I.turned (t':=s.toks) (it:=it) (λb o R e=>(sb.2 b R).trans e) J L M N O) G ⟨rfl,λys S=>by rw[I.tuple_inj S g];exact q⟩ t sb
 done:=by intro X j l m A T i pins s σ H Q E I y st n U;subst j l m;obtain⟨xs,g,q⟩:=n;obtain⟨f,r,p,C⟩:=I.tuple g;have Y:=r.length;exact vv T st (show s.heap.IsTuple a f.toArray from p) (by simp;omega) U
def jm(a b:It):It:=⟨λi H=>a.go i H/\b.go i H,λi H x H'=>∃p u v,x=.ref p/\H p=Vp/\H'=upd H p (.tup [u,v])/\a.yld i H u H/\b.yld i H v H,λi H=>a.stop i H\/(a.go i H/\b.stop i H)⟩
structure Apart(z TI TO i1 i2:Vb):Prop where
 a:TI≠z
 b:TO≠z
 c:i1≠z
 d:i2≠z
 e:TI≠TO
 f:TI≠i1
 g:TI≠i2
 h:TO≠i1
 i:TO≠i2
 j:i1≠i2
section
variable {X:Cx} {pins:List (Vb×Obj)} {σ:St} {H:Hp} {s:Vc}
def Inv.same{it:Vb}{k:Vh}(I:Inv X pins σ H { s with heap:=k })(f:bA X pins H it)(b:Heap.ExtBut it k h'):Inv X pins σ H { s with heap:=h' }:=by obtain⟨a,d,l,g,h,i⟩:=f;exact Inv.turned (s:={ s with heap:=k }) (t':=s.toks) (it:=it) I (λc o j e=>b c o j e) a d g h i
def tj{J1 J2:It}{z TI TO:Vb}{R S:Nat->Vh->Prop}{A:Vi}{E:Va->Vc->Prop}{a b:Va}{i:Nat}{Q:Va->Vc->Prop}(F:Sub X.prog X.w X.K J1 i1 R)(T:Sub X.prog X.w X.K J2 i2 S)(N:Apart z TI TO i1 i2)
  (I:Inv X pins σ H s) (U:∀b∈[z,TI,TO,i1,i2],bA X pins H b) (J:IsZip s.heap z TI TO .none) (gI:IsPair s.heap TI (.ref i1) (.ref i2)) (gO:IsPair s.heap TO a b) (g1:R i s.heap) (g2:S i s.heap) (a0:J1.go i H) (go2:J2.go i H)
  (q:∀x y h',Inv X pins σ (upd H s.heap.objs.size (.tup [x,y])) { s with heap:=h' }->J1.yld i H x H->J2.yld i H y H->IsZip h' z TI TO (rawInt s.heap.objs.size)->IsPair h' TI (.ref i1) (.ref i2)->(∃a b,IsPair h' TO a b)->R (i+1) h'->S (i+1) h'->Q (.ref s.heap.objs.size) { s with heap:=h' }) :
  Vf (Vg X.prog X.w) A (Builtin.«zip.__next__» ⟨[.ref z],[]⟩) (λfin s'=>∃v,fin=.done (.ret v)/\Q v s') E s:=by
 have fz:=U z (by simp);have fO:=U TO (by simp);have f1:=U i1 (by simp);have f2:=U i2 (by simp);show Vf _ _ (field (Value.ref z) 2 >>= _) _ _ _;refine ze (wpAny_field J rfl (x:=Value.bool false) rfl ?_);show Vf _ _ (field (Value.ref z) 3 >>= _) _ _ _;refine ze (wpAny_field J rfl (x:=Value.ref TI) rfl ?_);refine ze (wpAny_seqItems gI rfl ?_);show Vf _ _ (Builtin.SmallTypes.ownedTupleIsFree (Value.ref z) >>= _) _ _ _;refine ze ?_;unfold Builtin.SmallTypes.ownedTupleIsFree;refine ze (wpAny_field J rfl (x:=Value.none) rfl (zf ?_));simp only[if_true];refine ze (wpAny_rule ?_);refine ze (wpAny_field J rfl (x:=Value.ref TO) rfl ?_);refine ze (wpAny_setField_rec J (by simp) λk1 r m=>?_)
 replace r:IsZip k1 z TI TO .ellipsis:=r
 have s1:=m.1
 replace m:=m.extBut
 have I1:Inv X pins σ H { s with heap:=k1 }:=Inv.same (show Inv X pins σ H { s with heap:=s.heap }from I) fz m;refine ze ?_;simp only[List.zipIdx_cons,List.zipIdx_nil,List.forIn_cons,List.forIn_nil];refine ze (ze (wpAny_onRaise ?_));show Vf _ _ (Builtin.SmallTypes.nextOf (Value.ref i1) >>= _) _ _ _;refine ze (F.item X rfl rfl rfl _ i pins _ σ H _ _ I1 f1 (F.keep i _ _ g1 λo e=>m _ _ N.c e) a0 λx G k2 I2 rx yx a1 t=>zf ?_)
 replace I2:Inv X pins σ H { s with heap:=k2 }:=I2
 have s2:=t.1
 replace t:=t.extBut
 have L:IsPair k2 TO a b:=t _ _ N.h (m _ _ N.b gO);refine ze (wpAny_seqItems L rfl ?_);refine ze (wpAny_updateSeq_pair L λk3 u n=>?_)
 replace u:IsPair k3 TO G b:=u
 have s3:=n.1
 replace n:=n.extBut
 have I3:Inv X pins σ H { s with heap:=k3 }:=Inv.same I2 fO n;refine ze (wpAny_letGo (zf ?_));refine ze (ze (wpAny_onRaise ?_));show Vf _ _ (Builtin.SmallTypes.nextOf (Value.ref i2) >>= _) _ _ _;refine ze (T.item X rfl rfl rfl _ i pins _ σ H _ _ I3 f2 (T.keep i _ _ g2 λo e=>n _ _ (Ne.symm N.i) (t _ _ (Ne.symm N.j) (m _ _ N.d e))) go2 λy W k4 I4 ry yy a2 B=>zf ?_)
 replace I4:Inv X pins σ H { s with heap:=k4 }:=I4
 have s4:=B.1
 replace B:=B.extBut
 have M:IsPair k4 TO G b:=B _ _ N.i u;refine ze (wpAny_seqItems M rfl ?_);refine ze (wpAny_updateSeq_pair M λk5 k p=>?_)
 replace k:IsPair k5 TO G W:=k
 have s5:=p.1
 replace p:=p.extBut
 have I5:Inv X pins σ H { s with heap:=k5 }:=Inv.same I4 fO p;refine ze (wpAny_letGo (zf (zf ?_)));refine ze (wpAny_seqItems k rfl ?_);refine ze (wpAny_newTuple ?_);have sz:k5.objs.size=s.heap.objs.size:=by rw[s5,s4,s3,s2,s1]
 have O:IsZip k5 z TI TO .ellipsis:=p _ _ (Ne.symm N.b) (B _ _ (Ne.symm N.d) (n _ _ (Ne.symm N.b) (t _ _ (Ne.symm N.c) r)));have a3:IsPair k5 TI (.ref i1) (.ref i2):=p _ _ N.e (B _ _ N.g (n _ _ N.e (t _ _ N.f (m _ _ N.a gI))));have a4:R (i+1) k5:=F.keep _ _ _ (F.keep _ _ _ (F.keep _ _ _ a1 λo e=>n _ _ (Ne.symm N.h) e) λo e=>B _ _ N.j e) λo e=>p _ _ (Ne.symm N.h) e;have a5:S (i+1) k5:=T.keep _ _ _ a2 λo e=>p _ _ (Ne.symm N.i) e;have lz:z<k5.objs.size:=zj O;have I6:Inv X pins σ (upd H k5.objs.size (.tup [x,y])) { s with heap:=k5.push { cls:=.type "tuple",data:=.seq #[G,W] } }:=
  I5.laid (t':=s.toks) (o:=.tup [x,y]) (λb ob e=>zh _ e) (zF _) ⟨by show 2<=sizeLine;decide,[G,W],.cons rx (.cons ry .nil),IsTup.new _ _⟩
 have P:bA X pins (upd H k5.objs.size (.tup [x,y])) z:=by obtain⟨c0,c1,c2,c3,c4,c5⟩:=fz;exact⟨by rw[au (zE lz)];exact c0,c1,c2,c3,c4,c5⟩
 show Vf _ _ (Builtin.SmallTypes.ownedTupleHandOut (Value.ref z) (Value.ref k5.objs.size) >>= _) _ _ _;refine ze ?_;unfold Builtin.SmallTypes.ownedTupleHandOut;have a6:IsZip (k5.push { cls:=.type "tuple",data:=.seq #[G,W] }) z TI TO .ellipsis:=zh _ O;refine ze (wpAny_setField_rec a6 (by simp) λk7 C Y=>?_)
 replace C:IsZip k7 z TI TO (rawInt k5.objs.size):=C
 replace Y:=Y.extBut
 have I7:Inv X pins σ (upd H k5.objs.size (.tup [x,y])) { s with heap:=k7 }:=Inv.same I6 P Y;refine wpAny_setField_rec C (by simp) λk8 l Z=>?_
 replace l:IsZip k8 z TI TO (rawInt k5.objs.size):=l
 replace Z:=Z.extBut
 have I8:Inv X pins σ (upd H k5.objs.size (.tup [x,y])) { s with heap:=k8 }:=Inv.same I7 P Z;have up:∀b o,b≠z->k5.get? b=Vo o->k8.get? b=Vo o:=λb o ne e=>Z _ _ ne (Y _ _ ne (zh _ e));rw[sz]at I8 l;refine zf ⟨_,rfl,?_⟩;show Q (.ref k5.objs.size) _;rw[sz];exact q x y k8 I8 yx yy l (up _ _ N.a a3) ⟨_,_,up _ _ N.b k⟩ (F.keep _ _ _ a4 λo e=>up _ o N.c e) (T.keep _ _ _ a5 λo e=>up _ o N.d e)
def v9{C P:It}{z TI TO:Vb}{F R:Nat->Vh->Prop}{E:Va->Vc->Prop}{a b:Va}{i:Nat}{Q:Fin->Vc->Prop}(S:A.handled=Vp)(G:Sub X.prog X.w X.K C i1 F)(T:Sub X.prog X.w X.K P i2 R)(N:Apart z TI TO i1 i2)
  (I:Inv X pins σ H s) (B:∀b∈[z,TI,TO,i1,i2],bA X pins H b) (p:IsZip s.heap z TI TO .none) (gI:IsPair s.heap TI (.ref i1) (.ref i2)) (gO:IsPair s.heap TO a b) (g1:F i s.heap) (g2:R i s.heap) (st:C.stop i H\/(C.go i H/\P.stop i H))
  (q:∀h' e,Inv X pins σ H { s with heap:=h' }->(∃o,h'.get? e=Vo o/\o.cls=.type "StopIteration")->E (.ref e) { s with heap:=h' }) :
  Vf (Vg X.prog X.w) A (Builtin.«zip.__next__» ⟨[.ref z],[]⟩) Q E s:=by
 have J:=B z (by simp);have fO:=B TO (by simp);have L:=B i1 (by simp);have U:=B i2 (by simp);show Vf _ _ (field (Value.ref z) 2 >>= _) _ _ _;refine ze (wpAny_field p rfl (x:=Value.bool false) rfl ?_);show Vf _ _ (field (Value.ref z) 3 >>= _) _ _ _;refine ze (wpAny_field p rfl (x:=Value.ref TI) rfl ?_);refine ze (wpAny_seqItems gI rfl ?_);show Vf _ _ (Builtin.SmallTypes.ownedTupleIsFree (Value.ref z) >>= _) _ _ _;refine ze ?_;unfold Builtin.SmallTypes.ownedTupleIsFree;refine ze (wpAny_field p rfl (x:=Value.none) rfl (zf ?_));simp only[if_true];refine ze (wpAny_rule ?_);refine ze (wpAny_field p rfl (x:=Value.ref TO) rfl ?_);refine ze (wpAny_setField_rec p (by simp) λk1 k n=>?_)
 replace k:IsZip k1 z TI TO .ellipsis:=k
 replace n:=n.extBut
 have M:Inv X pins σ H { s with heap:=k1 }:=Inv.same (show Inv X pins σ H { s with heap:=s.heap }from I) J n;refine ze ?_;simp only[List.zipIdx_cons,List.zipIdx_nil,List.forIn_cons,List.forIn_nil];refine ze (ze (wpAny_onRaise ?_));show Vf _ _ (Builtin.SmallTypes.nextOf (Value.ref i1) >>= _) _ _ _;have r:F i k1:=G.keep i _ _ g1 λo e=>n _ _ N.c e;rcases st with st|⟨go,st⟩
 .refine ze (G.done X rfl rfl rfl _ S i pins _ σ H _ _ M L r st λk2 e l O=>?_);obtain⟨oe,f,g⟩:=O;have t:IsZip k2 z TI TO .ellipsis:=l _ _ (Ne.symm N.c) k;have u:Inv X pins σ H { s with heap:=k2 }:=Inv.same M L l;have ne:e≠z:=λx=>by subst x;rw[t]at f;cases f;simp at g
  exact wpAny_setField_rec t (by simp) λk3 _ m=>q k3 e (Inv.same u J m.extBut) ⟨oe,m.extBut _ _ ne f,g⟩
 .refine ze (G.item X rfl rfl rfl _ i pins _ σ H _ _ M L r go λx ux k2 u rx yx a0 l=>zf ?_)
  replace u:Inv X pins σ H { s with heap:=k2 }:=u
  replace l:=l.extBut
  have v:IsPair k2 TO a b:=l _ _ N.h (n _ _ N.b gO);refine ze (wpAny_seqItems v rfl ?_);refine ze (wpAny_updateSeq_pair v λk3 a1 m=>?_)
  replace m:=m.extBut
  have W:Inv X pins σ H { s with heap:=k3 }:=Inv.same u fO m;refine ze (wpAny_letGo (zf ?_));refine ze (ze (wpAny_onRaise ?_));show Vf _ _ (Builtin.SmallTypes.nextOf (Value.ref i2) >>= _) _ _ _;refine ze (T.done X rfl rfl rfl _ S i pins _ σ H _ _ W U (T.keep i _ _ g2 λo e=>m _ _ (Ne.symm N.i) (l _ _ (Ne.symm N.j) (n _ _ N.d e))) st λk4 e Y O=>?_);obtain⟨oe,f,g⟩:=O;have y:IsZip k4 z TI TO .ellipsis:=Y _ _ (Ne.symm N.d) (m _ _ (Ne.symm N.b) (l _ _ (Ne.symm N.c) k));have I4:Inv X pins σ H { s with heap:=k4 }:=Inv.same W U Y;have ne:e≠z:=λx=>by subst x;rw[y]at f;cases f;simp at g
  exact wpAny_setField_rec y (by simp) λk5 _ Z=>q k5 e (Inv.same I4 J Z.extBut) ⟨oe,Z.extBut _ _ ne f,g⟩
end
def uw{K:zg}{kk:Nat}{ps:Pos}{S U:It}{z TI TO:Vb}{W Y:Nat->Vh->Prop}(q:Sub P w K S i1 W)(r:Sub P w K U i2 Y)(N:Apart z TI TO i1 i2):
  Turn P w K (.Tuple elts kk ps) (jm S U) [z,TI,TO,i1,i2] z (λi h=>IsZip h z TI TO .none/\IsPair h TI (.ref i1) (.ref i2)/\(∃a b,IsPair h TO a b)/\W i h/\Y i h) where
 mem:=by simp
 obj:=λi h st b g=>by
  obtain⟨f,j,⟨a,c,l⟩,m,n⟩:=st;simp only[zA,zQ,or_false]at g;rcases g with rfl|rfl|rfl|rfl|rfl
  .exact⟨_,f,λv e=>by cases(show Data.fields _=Data.cell v from e)⟩
  .exact⟨_,j,λv e=>by cases(show Data.seq _ _=Data.cell v from e)⟩
  .exact⟨_,l,λv e=>by cases(show Data.seq _ _=Data.cell v from e)⟩
  .exact q.obj _ _ m
  .exact r.obj _ _ n
 keep:=λi h h' st k=>by obtain⟨f,j,⟨a,c,l⟩,m,n⟩:=st;exact⟨k z (by simp) _ f,k TI (by simp) _ j,⟨a,c,k TO (by simp) _ l⟩,q.keep _ _ _ m λo e=>k i1 (by simp) o e,r.keep _ _ _ n λo e=>k i2 (by simp) o e⟩
 item:=by
  intro X B C G Z i pins s σ H E I t st A;subst B C G;obtain⟨f,j,⟨a,c,l⟩,m,n⟩:=st;have u:s.TypeIs (.ref z) "zip":=⟨_,f,rfl⟩;unfold pyNext;refine ze (wpAny_attempt (Ae (name:=zU "__next__") u F.slot_zip_next (wpAny_call_entry F.slot_zip_next u F.entry_zip_next
   (tj q r N I t f j l m n A.1 A.2 λx y h' J yx yy L M p O Q=>zf ⟨_,rfl,?_⟩) (F.args_zip_next_1 _))))
  have lt:∀b∈[z,TI,TO,i1,i2],b≠s.heap.objs.size:=λb g=>by
   obtain⟨f0,f1,f2,f3,f4,f5⟩:=t b g;simp only[zA,zQ,or_false]at g;rcases g with rfl|rfl|rfl|rfl|rfl
   .exact zE (zj f)
   .exact zE (zj j)
   .exact zE (zj l)
   .obtain⟨o,e,_⟩:=q.obj _ _ m;exact zE (zj e)
   .obtain⟨o,e,_⟩:=r.obj _ _ n;exact zE (zj e)
  have fz:bA X pins (upd H s.heap.objs.size (.tup [x,y])) z:=by obtain⟨c0,c1,c2,c3,c4,c5⟩:=t z (by simp);exact⟨by rw[au (lt z (by simp))];exact c0,c1,c2,c3,c4,c5⟩
  obtain⟨a',c',p⟩:=p;refine wpAny_letOwnedTupleGo_zip (s:={ s with heap:=h' }) L λk gk bk=>?_;refine⟨.ref s.heap.objs.size,upd H s.heap.objs.size (.tup [x,y]),Inv.same J fz bk.extBut,rfl,⟨_,x,y,rfl,I.hok.fresh (zF _),rfl,yx,yy⟩,
   ⟨gk,bk.extBut _ _ N.a M,⟨_,_,bk.extBut _ _ N.b p⟩,q.keep _ _ _ O λo e=>bk.extBut _ _ N.c e,r.keep _ _ _ Q λo e=>bk.extBut _ _ N.d e⟩,λb g=>?_⟩
  rw[au (lt b g)];exact(t b g).1
 done:=by
  intro X B C G Z i pins s σ H E I t st A;subst B C G;obtain⟨f,j,⟨a,c,l⟩,m,n⟩:=st;have u:s.TypeIs (.ref z) "zip":=⟨_,f,rfl⟩;unfold pyNext;refine ze (wpAny_attempt (Ae (name:=zU "__next__") u F.slot_zip_next (wpAny_call_entry F.slot_zip_next u F.entry_zip_next
   (v9 (I.ok.hd Z) q r N I t f j l m n A λh' e J he=>?_) (F.args_zip_next_1 _))))
  obtain⟨o,ho,R⟩:=he;refine ze (wpAny_isInstance (s:={ s with heap:=h' }) (T:="StopIteration") (b:=true) ⟨o,ho,R⟩ isSubtype_stop ?_);exact zf ⟨rfl,J⟩
 self:=λ_ _ _ _ _ st h=>wpAny_pyIter_zip st.1 h
abbrev iq(h:Vh)(a:Vb):Vh:=h.push { cls:=.type "tuple_iterator",data:=.fields #[.ref a,.int 0 0] }
def pM:R2:=λx y H Q=>∃a b xs ys,x=.ref a/\y=.ref b/\H a=Vo (.tup xs)/\H b=Vo (.tup ys)/\xs.length+ys.length<=sizeLine/\∀p H',Ext H H'->H' p=Vo (.tup (xs++ys))->Q (.ref p) H'
def tI:aU X (binaryOp .Add) pM:=by
 intro pins s σ H x y v u Q I z A h;obtain⟨a,b,xs,ys,rfl,rfl,g,i,B,q⟩:=h;cases z;cases A;by_cases l:xs=[]
 .subst l;obtain⟨C,r1,E,_⟩:=I.tuple (ah.of g);obtain⟨m,J,p2,_⟩:=I.tuple (ah.of i);have e:=r1.nil_iff.mpr rfl;subst e;obtain⟨⟨cls,dd,data,sl⟩,o,r,n,hd⟩:=id E;obtain⟨⟨t,j,data2,k⟩,c,d,n2,f⟩:=id p2;simp only at r hd d f;subst r hd d f;refine concat_meets ⟨_,o,rfl⟩ ⟨_,c,rfl⟩ noFill_tuple_add seq_tuple_add PySem.F.slot_tuple_add PySem.F.entry_tuple_add (PySem.F.args_tuple_add_2 _ _)
   (tuple_addW0 a b _ _ n n2 dd j sl k (by simp)) ⟨o,c,⟨.ref b,H,I,rfl,q b H (λ_ _ h=>h) (by simpa using i)⟩⟩
 .refine uu pins s σ H (.ref a) (.ref b) _ _ Q I rfl rfl ⟨a,b,xs,ys,rfl,rfl,ah.of g,ah.of i,l,B,λw=>?_,λw p G=>?_⟩
  .subst w;exact q a H (λ_ _ h=>h) (by simpa using g)
  .exact q p _ (bL G) aM
def tY{Q:VK}{b:Vb}{ys:List V}(c:H a=Vo (.tup xs))(d:H b=Vo (.tup ys))(e:xs.length+ys.length<=sizeLine)(h:∀p H',Ext H H'->H' p=Vo (.tup (xs++ys))->Q (.ref p) H'):pM (.ref a) (.ref b) H Q:=⟨a,b,xs,ys,rfl,rfl,c,d,e,h⟩
def eR{α:Type}(xs:List α):List α:=(Af xs.length).filterMap λ(k:Nat)=>xs[((xs.length:Int)-1+(k:Int)*(-1)).toNat]?
def uI{α:Type}(xs:List α):(eR xs).length<=xs.length:=by unfold eR;exact zP (List.length_filterMap_le _ _) (by simp)
theorem Vals.pick{xs:List V}{us:List Va}(r:Vals xs us)(f:Nat->Nat):∀l:List Nat,Vals (l.filterMap λk=>xs[f k]?) (l.filterMap λk=>us[f k]?)
 | []=>.nil
 | k::l=>by
  have a:=Vals.pick r f l;have d:=r.length;rcases Aa (f k) xs.length with h|h
  .obtain⟨u,b,c⟩:=r.get (i:=f k) (zl h);rw[List.filterMap_cons,List.filterMap_cons,zl h,b];exact .cons c a
  .rw[List.filterMap_cons,List.filterMap_cons,List.getElem?_eq_none h,List.getElem?_eq_none (show us.length<=f k by omega)];exact a
def vc{sl:Vb}{tk:Tok}{Q:Int×Int×Nat->Vc->Prop}(c:s.heap.IsSliceOf sl .none .none (.int (-1) tk))(q:Q ((n:Int)-1,-1,n) s):
  Vf (Vg prog w) A (Builtin.Slice.sliceApplied (.ref sl) (pure (n:Int))) Q E s:=by
 obtain⟨u,a,d,b⟩:=id c;unfold Builtin.Slice.sliceApplied Builtin.Slice.sliceFields;refine ze (ze (wpAny_field a b (x:=Value.none) rfl (ze (wpAny_field a b (x:=Value.none) rfl (ze (wpAny_field a b (x:=Value.int (-1) tk) rfl (zf ?_)))))));refine ze (HT.kq (.int (-1) tk) ?_);show Vf _ _ (if((-1:Int) == 0)=true then _ else _) _ _ s;rw[Ai (by decide)];refine ze (HT.kq .none (ze (HT.kq .none (ze (zf ?_)))));have e:Builtin.Slice.slicePlaces ((n:Int)-1) (-1) (-1)=n:=by
  unfold Builtin.Slice.slicePlaces;rw[Ai (by decide)];split
  .rw[show (- -1:Int)=1 by decide,Int.ediv_one];omega
  .omega
 show Vf _ _ (pure ((n:Int)-1,(-1:Int),Builtin.Slice.slicePlaces ((n:Int)-1) (-1) (-1))) _ _ s;rw[e];exact zf q
def xg{prog:Vd}{w:Ve}{A:Vi}{E:Va->Vc->Prop}{t sl:Vb}{tk:Tok}{Q:Va->Vc->Prop}(gt:IsTup s.heap t ys)(c:s.heap.IsSliceOf sl .none .none (.int (-1) tk))(b:ys.size<=sizeLine)
  (q:Q (.ref s.heap.objs.size) { s with heap:=s.heap.push { cls:=.type "tuple",data:=.seq ((Af ys.size).filterMap λ(k:Nat)=>ys[((ys.size:Int)-1+(k:Int)*(-1)).toNat]?).toArray } }):Vf (Vg prog w) A (getItem (.ref t) (.ref sl)) Q E s:=by
 have a:sizeOk (.seq ((Af ys.size).filterMap λ(k:Nat)=>ys[((ys.size:Int)-1+(k:Int)*(-1)).toNat]?).toArray):=by show((Af ys.size).filterMap λ(k:Nat)=>ys[((ys.size:Int)-1+(k:Int)*(-1)).toNat]?).toArray.size<=sizeLine;rw[zq];exact zP (List.length_filterMap_le _ _) (by simpa using b)
 obtain⟨u,d,e,g⟩:=id c;have f:s.TypeIs (.ref sl) "slice":=⟨u,d,e⟩;unfold getItem
 try with_reducible refine wpAny_holding ?_
 first|refine ze (zf ?_)|skip
 refine ze (wpAny_sequenceKey gt.typeIs (by decide) ?_);refine ze (Ae (name:=zU "__getitem__") gt.typeIs PyProof.Rows.slot_tuple_getitem (wpAny_call_entry PyProof.Rows.slot_tuple_getitem gt.typeIs entry_tuple_getitem ?_ (args_tuple_getitem _ _)));show Vf _ _ (Builtin.Tuple.tupleItemsOf (Value.ref t) >>= _) _ _ s;refine ze (tupleItemsOf_ gt ?_);refine ze (wpAny_typeOf f ?_);rw[Aj (by decide)];refine ze (vc c ?_);show Vf _ _ (if(((ys.size:Int)-1 == 0) && ((-1:Int) == 1) && (ys.size == ys.size))=true then _ else _) _ _ s;rw[Ai (by simp)]
 first
  | exact ze (m:=Builtin.Tuple.tupleExact _) (wpAny_newObj_type (zf ⟨_,rfl,zf q⟩) a)
  | exact ze (m:=Builtin.Tuple.tupleExact _) (wpAny_newObj_type (ze (zf (zf ⟨_,rfl,zf q⟩))) a)
  | exact ze (ze (m:=Builtin.Tuple.tupleExact _) (wpAny_newObj_type (zf (zf ⟨_,rfl,zf q⟩)) a))
  | exact ze (ze (m:=Builtin.Tuple.tupleExact _) (wpAny_newObj_type (zf ⟨_,rfl,zf q⟩) a))
def j3:V->Hp->VK->Prop:=λx H Q=>∃a xs,x=.ref a/\H a=Vo (.tup xs)/\cI H (.tup (eR xs)) Q
def mX(te:TE)(ts:TO):TE:=λσ H Q=>te σ H λx H1=>ts σ H1 λk H2=>k=Vo (-1)/\j3 x H2 Q
def yQ{e st:Vk}{te:TE}{ts:TO}{pos:Pos}(j:PE X e te)(l:PO X (Vo st) ts):PE X (.Subscript e (.Slice Vp Vp (Vo st) p2) pos) (mX te ts):=by
 intro pins s σ H Q I h;refine Subscript_ (ao (j pins s σ H _ I h) λv s1 ⟨x,H1,m,r1,n⟩=>?_);refine wpAny_Slice ?_;rw[evalPart_none];refine zf (zf ?_);refine ao (l pins s1 σ H1 _ m n) λvs s2 ⟨k,H2,p,t,u⟩=>?_;obtain⟨rfl,a,xs,rfl,y,q⟩:=u;cases t with
 | int i tk=>
 cases r1;have c:Inv X pins σ H2 { s2 with heap:=s2.heap.push { cls:=.type "slice",data:=.fields #[.none,.none,.int (-1) tk] } }:=p.kept (t':=s2.toks) λb ob q=>zh _ q;obtain⟨d,r,f,g⟩:=c.tuple (ah.of y);have hlen:d.toArray.size=xs.length:=by rw[zq];exact r.length.symm
 show Vf (Vg X.prog X.w) X.A (subscriptTail e (.Slice Vp Vp (Vo st) p2) (.ref a) (.ref s2.heap.objs.size)) (EP X pins σ Q) X.xe { s2 with heap:=s2.heap.push { cls:=.type "slice",data:=.fields #[.none,.none,.int (-1) tk] } };refine tail_any (ops:=[.ref a,.ref s2.heap.objs.size]) f.typeIs PyProof.Rows.slot_tuple_getitem.lookup (xg f (Heap.IsSliceOf.new ..) (by rw[hlen];exact g) ?_) (by with_unfolding_all rfl);refine⟨.ref _,_,c.laid (t':=s2.toks) (o:=.tup (eR xs)) (λb ob e=>zh _ e) (zF _) ⟨zP (uI xs) g,_,?_,IsTup.new _ _⟩,rfl,q _ (c.hok.fresh (zF _))⟩;unfold eR;rw[hlen];have:=Vals.pick r (λk=>((xs.length:Int)-1+(k:Int)*(-1)).toNat) (Af xs.length);simpa using this
def rd_rev{te:TE}{ts:TO}{Q:VK}(h:te σ H λx H1=>ts σ H1 λk H2=>k=Vo (-1)/\j3 x H2 Q):mX te ts σ H Q:=h
def xn{Q:VK}(e:H a=Vo (.tup xs))(h:cI H (.tup (eR xs)) Q):j3 (.ref a) H Q:=⟨a,xs,rfl,e,h⟩
mutual
inductive LitE:Vk->TE->Prop
 | non {j pos}:LitE (.Constant .none j pos) (tC .non)
 | bl {b j pos}:LitE (.Constant (.bool b) j pos) (tC (.bl b))
 | int {i j pos}:LitE (.Constant (.int i) j pos) (tC (.int i))
 | str {x j pos}:LitE (.Constant (.str x) j pos) (tC (.str x))
 | tup {es ta k pos}:LitsE es ta->LitE (.Tuple es k pos) (kQ ta)
inductive LitsE:List Vk->TA->Prop
 | nil:LitsE [] eo
 | cons {e te es ta}:LitE e te->LitsE es ta->LitsE (e::es) (kZ te ta)
end
section
variable {prog:Vd} {w:Ve} {A:Vi} {E:Va->Vc->Prop}
theorem qf{it l:Vb}{ys:Array Va}(ne:l≠it):∀(n i:Nat) (s:Vc) (Q:List Va->Vc->Prop),s.heap.IsListIter it l i->s.heap.IsList l ys->i+n<=ys.size ->
  (∀h',h'.IsListIter it l (i+n)->Heap.SameBut it s.heap h'->Q ((ys.toList.drop i).take n) { s with heap:=h' })->Vf (Vg prog w) A (draw (.ref it) n) Q E s
 | 0,i,s,Q,a,_,_,q=>by show Vf _ _ (pure []) Q E s;exact zf (by simpa using q s.heap a (Heap.SameBut.refl ..))
 | n+1,i,s,Q,a,gl,le,q=>by
  have lt:i<ys.size:=by omega
  show Vf _ _ (pyNext (Value.ref it) >>= _) Q E s;refine ze (wpAny_pyNext_list_item a gl (x:=ys[i]) (by simp[lt]) λk1 c b=>?_);refine ze (wpAny_holding (qf ne n (i+1) _ _ c (gl.extBut b.extBut ne) (by omega) λk2 d f=>zf ?_));have e:ys.toList.drop i=ys[i]::ys.toList.drop (i+1):=by simp[List.drop_eq_getElem_cons,lt]
  have:=q k2 (by rw[show i+(n+1)=i+1+n by omega];exact d) (b.trans f);rw[e,List.take_succ_cons]at this;exact this
def yo{l:Vb}{Q:List Va->Vc->Prop}(c:A.handled=Vp)(gl:s.heap.IsList l ys)
  (q:∀h',Heap.ExtBut s.heap.objs.size s.heap h'->Q ys.toList { s with heap:=h' }):Vf (Vg prog w) A (unpackItems (.ref l) ys.size Vp) Q E s:=by
 have lt:l≠s.heap.objs.size:=by obtain⟨o,e,_⟩:=gl;exact zE (zj e)
 unfold unpackItems;refine ze ?_;unfold notIterableAtAll;refine ze (wpAny_specialOf gl.typeIs slot_list_iter.lookup ?_);refine zf ?_;simp only[zZ,if_false];refine ze (wpAny_holding (wpAny_pyIter_list gl ?_));refine ze (wpAny_holding (qf lt ys.size 0 _ _ ⟨_,zi _ rfl,rfl,rfl⟩ (gl.push _) (by omega) λk1 d a=>?_));rw[show List.take ys.size (List.drop 0 ys.toList)=ys.toList by rw[List.drop_zero];exact List.take_of_length_le (by simp),Ai (by simp)];refine ze (wpAny_holding (wpAny_pyNext_list_end c d ((gl.push _).extBut a.extBut lt) (by simp) λk2 f=>?_));simp only[Option.isSome_none,zZ,if_false];exact zf (q k2 λb o nb e=>f b o nb (a.extBut b o nb (zh _ e)))
def tM{es:List Vk}{k:Nat}{pos:Pos}{l:Vb}{Q:Unit->Vc->Prop}(b:A.handled=Vp)(gl:s.heap.IsList l ys)(c:(assignEach es env).length=ys.size)(a:(assignEach es env).findIdx? (·.1)=Vp)
  (h:∀h',Heap.ExtBut s.heap.objs.size s.heap h'->Vf (Vg prog w) A (assignInOrder ((assignEach es env).map (·.2)) ys.toList) Q E { s with heap:=h' }):Vf (Vg prog w) A (assign (.Tuple es k pos) env (.ref l)) Q E s:=by
 rw[arm_assign_Tuple];refine ze (wpAny_standAt ?_);unfold unpack;rw[c,a];exact ze (wpAny_holding (yo b gl h))
end
section
variable {X:Cx} {pos:Pos}
def rZ(K:zg)(n:Nat)(t:cG):TG:=λv σ H Q=>∃a xs,v=.ref a/\ag K H a xs/\xs.length=n/\t xs σ H Q
def yY{es:List Vk}{k:Nat}{t:cG}(K:zg)(g:X.calm=true)(h:ff X es t)(i:X.K=K:=by rfl)
  (j:(assignEach es X.env).length=n:=by rfl) (c:(assignEach es X.env).findIdx? (·.1)=Vp:=by rfl):PG X (.Tuple es k pos) (rZ K n t):=by
 subst i;intro pins s σ H v u Q I r d;obtain⟨a,xs,l,m,p,d⟩:=d;subst l;cases r;obtain⟨q,f,w,z⟩:=I.list m;refine tM (I.ok.hd g) w.isList (by simp[j,<-p,f.length]) c λh' x=>?_;have y:Inv X pins σ H { s with heap:=h' }:=I.kept (t':=s.toks) λb o e=>x b o (zE (zj e)) e;exact h pins _ σ H xs _ Q y (by simpa using f) d
end
def yt{K:zg}{g:cG}{R:St->Hp->Prop}(e:ag K H a xs)(b:xs.length=n)(h:g xs σ H R):rZ K n g (.ref a) σ H R:=⟨a,xs,rfl,e,b,h⟩
def rd_par{i j:Nat}{ta:TA}{D:Ends}(h:ta σ H λvs H1=>∃v w,vs=[v,w]/\D.nx ((σ.set i (Vo v)).set j (Vo w)) H1):oR i j ta D σ H:=h
def rd_par2{w:V}{R:V->V->Prop}(h:R v w):∃a b,[v,w]=[a,b]/\R a b:=⟨v,w,rfl,h⟩
section
variable {κ:Type} [DecidableEq κ]
def bu(kvs:List (κ×V))(k:κ):Option V:=(kvs.find? λkv=>decide (kv.1=k)).map (·.2)
def fg{p:κ×V}{r:List (κ×V)}{k:κ}(e:p.1=k):bu (p::r) k=Vo p.2:=by simp[bu,List.find?_cons,e]
def dS{p:κ×V}{r:List (κ×V)}{k:κ}(e:¬p.1=k):bu (p::r) k=bu r k:=by simp[bu,List.find?_cons,e]
def cH.isSome_eq{o:Option V}{u:Option Va}(r:cH o u):o.isSome=u.isSome:=by
 cases o with
 | none=>cases u with
  | none=>rfl
  | some _=>exact(show False from r).elim
 | some _=>cases u with
  | none=>exact(show False from r).elim
  | some _=>rfl
def KV.val{kvs:List (κ×V)}{vs:List (κ×Va)}(r:KV kvs vs)(k:κ):cH (bu kvs k) (valueAt vs k):=by
 unfold KV at r;induction r with
 | nil=>exact True.intro
 | @cons p q ps a h t d=>
  obtain⟨h1,h2⟩:=h;by_cases e:p.1=k
  .have c:q.1=k:=h1.symm.trans e;have b:valueAt (q::a) k=Vo q.2:=by simp[valueAt,List.find?_cons,c]
   rw[fg e,b];exact h2
  .have c:¬q.1=k:=λz=>e (h1.trans z);have b:valueAt (q::a) k=valueAt a k:=by simp[valueAt,List.find?_cons,c]
   rw[dS e,b];exact d
def KV.keys{kvs:List (κ×V)}{vs:List (κ×Va)}(r:KV kvs vs):kvs.map (·.1)=vs.map (·.1):=by
 unfold KV at r;induction r with
 | nil=>rfl
 | cons h t a=>rw[List.map_cons,List.map_cons,a,h.1]
end
def ja{k:Key}{u:Va}(r:RelV (kV k) u):(cS P w).is k u=true:=by
 cases k with
 | inl i=>obtain⟨t,e⟩:=(show ∃t,u=Value.int i t from r);subst e;exact xZ P w i t
 | inr x=>obtain⟨t,e⟩:=(show ∃t,u=Value.str x t from r);subst e;exact lj P w x t
theorem nG{P:Vd}{w:Ve}:∀{ks:List Key} {us:List Va},Vals (ks.map kV) us->ItemsAre (cS P w) ks us
 | [],_,r=>by rw[List.map_nil]at r;cases r;exact .nil
 | k::ks,_,r=>by
  rw[List.map_cons]at r;cases r with
  | cons h t=>exact .cons (ja h) (nG t)
def rG(i:Vk):Prop:=∀a b,subscripted i false a b=operate [a,b] (getItem a b)
def vz{value slice:Vk}{pos:Pos}{id:String}{Q:Va->Vc->Prop}
  (j:typeLookup (.type T) "__getitem__" = pure (Vo (.builtin id))) (k:rG slice)
  (h:Vf (Vg prog w) A (eval value env) (λo c=>Vf (Vg prog w) A (eval slice env) (λi a=>a.TypeIs o T/\Vf (Vg prog w) A (getItem o i) Q E a) E c) E s) :
  Vf (Vg prog w) A (eval (.Subscript value slice pos) env) Q E s:=by
 refine Subscript_ (wpAny_mono h (λo c e=>wpAny_mono e (λi a b=>?_) λ_ _ x=>x) λ_ _ x=>x);obtain⟨g,b⟩:=b;unfold subscriptTail;refine ze ?_;rw[getitemInPython_of_ne g.not_modules];refine ze (wpAny_specialOf g j ?_);have fin:Vf (Vg prog w) A (subscripted slice false o i) (λr d=>Vf (Vg prog w) A (letTemporaryGo value o r >>= λ_=>pure r) Q E d) E a:=by rw[k o i];exact wpAny_operating (wpAny_mono b (λr d f=>ze (wpAny_letTemporaryGo (zf f))) λ_ _ x=>x)
 first
  | exact zf (ze fin)
  | exact ze (zf (ze fin))
  | exact ze fin
def vY:entryFor table "proto.unchain" = Vo Builtin.«proto.unchain»:=entryFor_of_fast (by kernel_rfl)
def wH(o:Obj)(f:Array Va->Array Va):(o.mapFields f).dict=o.dict:=by unfold Obj.mapFields;split<;>rfl
def bg(h:Vh)(x:Vb)(dd:Option Vb):Prop:=∃o vs,h.get? x=Vo o/\o.data=.fields vs/\vs[2]?=Vo .none/\∀d,dd=Vo d->o.dict=Vo d
section
variable {prog:Vd} {w:Ve} {A:Vi} {E:Va->Vc->Prop} {s:Vc} {dd:Option Vb}
def xx{e:Va}{x:Vb}{Q:Va->Vc->Prop}(a:bg s.heap x dd)(q:Q .none s):
  Vf (Vg prog w) A (runValue (.builtin "proto.unchain" ⟨[e,.ref x,.ref x,.bool false],[]⟩)) Q E s:=by
 obtain⟨o,vs,h1,h2,b,_⟩:=a;refine wpAny_runValue (codeAny_builtin vY ?_);unfold Builtin.«proto.unchain»;refine ze (wpAny_field h1 h2 b ?_);rw[Aj (show(Value.none == Value.none)=true from rfl)];exact zf q
def yi{α:Type}{x:Vb}{vs:Array Va}{Q:α->Vc->Prop}(d:A.handled=Vo (.ref x))(e:bg s.heap x dd)(b:x≠a)(c:s.heap.get? a=Vo o)(hd:o.data=.fields vs)(f:2<vs.size)
  (q:∀h',Heap.SameBut a s.heap h'->(∃o',h'.get? a=Vo o'/\o'.cls=o.cls)->E (.ref a) { s with heap:=h' }):Vf (Vg prog w) A (raiseNew (.ref a):Sem α) Q E s:=by
 unfold raiseNew;refine ze (wpAny_handled ?_);rw[d];have n1:(Value.ref x != Value.ref a)=true:=by simp[b]
 dsimp only;rw[Aj n1];refine ze (wpAny_holding (xx e ?_));refine ze ?_;show Vf _ _ (setField (.ref a) 2 (.ref x)) _ _ s;refine wpAny_setField (i:=2) (x:=.ref x) c hd f ?_;refine wpAny_throw (q _ (Heap.SameBut.update ..) ⟨_,Heap.get?_update_self _ c (Obj.isFreed_of_fields (Obj.data_mapFields hd _)),Obj.cls_mapFields ..⟩)
def bg.keeps{x:Vb}(a:bg h x dd)(k:∀b o,h.get? b=Vo o->h'.get? b=Vo o):bg h' x dd:=let ⟨o,vs,e,r⟩:=a;⟨o,vs,k _ _ e,r⟩
def pw{α:Type}{x:Vb}{Q:α->Vc->Prop}(d:A.handled=Vo (.ref x))(c:bg s.heap x dd)
  (q:∀h' e,(∀b o,s.heap.get? b=Vo o->h'.get? b=Vo o)->(∃o,h'.get? e=Vo o/\o.cls=.type "StopIteration")->E (.ref e) { s with heap:=h' }) :
  Vf (Vg prog w) A (Builtin.SmallTypes.stopIteration:Sem α) Q E s:=by
 unfold Builtin.SmallTypes.stopIteration;refine ze ?_;unfold newExc newTuple;refine ze (wpAny_newObj_type ?_ (by size_fits));refine ze (wpAny_of_eq (a:=Value.none) (t:=firstArgMember _ _) (by first|rfl|(unfold firstArgMember;rfl)) (wpAny_newObj_type ?_ (by size_fits)));have lt:=zj c.choose_spec.choose_spec.1;refine yi d (c.keeps λb o e=>zh _ (zh _ e)) (zE ?_) (zi _ rfl) rfl (by simp[ownMembersOf]) λh' k z=>?_
 .rw[Heap.size_push];exact Nat.lt_succ_of_lt lt
 .obtain⟨o',z1,z2⟩:=z;refine q h' _ (λb o e=>?_) ⟨o',z1,z2⟩;have f:=zj e;rw[k.2 b (zE (by rw[Heap.size_push];exact Nat.lt_succ_of_lt f))];exact zh _ (zh _ e)
def qB{it:Vb}{Q:Option Va->Vc->Prop}
  (h:Vf (Vg prog w) A (callSpecial? (.ref it) "__next__") (λ_ _=>False) (λe s'=>∃p o,e=.ref p/\s'.heap.get? p=Vo o/\o.cls=.type "StopIteration"/\Q Vp s') s) :
  Vf (Vg prog w) A (pyNext (.ref it)) Q E s:=by
 unfold pyNext;refine ze (wpAny_attempt (wpAny_mono h (λ_ _ z=>z.elim) λe s' z=>?_));obtain⟨p,o,rfl,z1,z2,z3⟩:=z;exact ze (wpAny_isInstance (T:="StopIteration") (b:=true) ⟨o,z1,z2⟩ isSubtype_stop (zf z3))
def x9{it l x:Vb}{i:Nat}{Q:Option Va->Vc->Prop}(g:A.handled=Vo (.ref x))(h:bg s.heap x dd)(a:x≠it)
  (hit:s.heap.IsListIter it l i) (j:s.heap.IsList l items) (hi:items[i]?=Vp) (m:∀h',Heap.ExtBut it s.heap h'->Q Vp { s with heap:=h' }):Vf (Vg prog w) A (pyNext (.ref it)) Q E s:=by
 obtain⟨o,c,y,hd⟩:=id hit;obtain⟨ol,d,_,nl,f⟩:=j;refine qB ?_;refine Ae (name:=zU "__next__") hit.typeIs slot_listiter_next (wpAny_call_entry slot_listiter_next hit.typeIs entry_listiter_next ?_ (args_listiter_next _));have n:¬((Value.ref l == Value.none)=true):=zB;show Vf _ _ (field (.ref it) 0 >>= λq=>_) _ _ s;refine ze (wpAny_field (x:=.ref l) c hd rfl ?_);show Vf _ _ (ite ((Value.ref l == Value.none)=true) _ _) _ _ s;rw[Ai n];show Vf _ _ (field (.ref it) 1 >>= λq=>_) _ _ s;refine ze (wpAny_field (x:=.int i 0) c hd rfl ?_);show Vf _ _ (seqItems? (.ref l) >>= λq=>_) _ _ s;refine ze (wpAny_seqItems d f ?_);simp only[zy,hi];have S:=Heap.SameBut.update s.heap it (Obj.mapFields (·.setIfInBounds 0 Value.none));refine ze (wpAny_rule (ze (wpAny_setField (x:=.none) c hd (by simp) ?_)));have al:bg (s.heap.update it (Obj.mapFields (·.setIfInBounds 0 Value.none))) x dd:=by obtain⟨ox,vs,p,r⟩:=h;exact⟨ox,vs,(S.2 x a).trans p,r⟩
 refine pw (A:=A.in1) g al λh' e k z=>?_;obtain⟨t,z1,z2⟩:=z;exact⟨e,t,rfl,z1,z2,m h' λb o' u v=>k b o' ((S.2 b u).trans v)⟩
end
section
variable {M:Model} {A:Vi} {E:Va->Vc->Prop} {s:Vc} {dd:Option Vb}
def bg.eq{x:Vb}(a:bg h x dd)(k:h'.get? x=h.get? x):bg h' x dd:=let ⟨o,vs,e,r⟩:=a;⟨o,vs,k.trans e,r⟩
def kC{e:Vb}{r:Va}{Q:Unit->Vc->Prop}(k:B.StaysIn s.heap)(t:s.heap.FunFrames B l)(u:s.heap.TracedAtW B e cls a0 r)(al:bg s.heap e dd)
  (q:∀h',B.StaysIn h'->h'.FunFrames B l->h'.TracedW B e cls a0->s.heap.UpToSlots h'->bg h' e dd->Q () { s with heap:=h' }):Vf M A (setFlight (.ref e) Vp) Q E s:=by
 obtain⟨oe,vs,T,x,ts,i,v,j,m,n,g,h,d,w⟩:=u;have z:3<ts.size:=(Array.getElem?_eq_some_iff.mp w).1;have S:=Heap.SameBut.update s.heap T (Obj.mapFields (·.setIfInBounds 3 ((Vp:Option Vb).elim Value.none λf=>rawInt f)));have p:∀b o,s.heap.get? b=Vo o->(∀us,o.data≠.fields us)->b≠T:=by rintro b o a c rfl;rw[h]at a;cases a;exact c ts d
 have n1:(Value.ref T != Value.none)=true:=by simp
 unfold setFlight;refine ze (wpAny_field i j m ?_);rw[Aj n1];refine wpAny_setField h d z (q _ (λb o a=>(S.2 b ?_).trans (k b o a)) (t.of_keeps λb o a c=>⟨o,(S.2 b (p b o a c)).trans a,rfl⟩) ?_ (λb o a c=>⟨o.slots,(S.2 b (p b o a c)).trans a⟩) (al.eq (S.2 e (Ne.symm g))))
 .rintro rfl;rw[n]at a;cases a
 .exact⟨oe,vs,T,_,_,(S.2 e (Ne.symm g)).trans i,v,j,m,n,g,Heap.get?_update_self _ h (Obj.isFreed_of_fields (Obj.data_mapFields d _)),Obj.data_mapFields d _,by simp[z]⟩
def nR{e:Vb}{oe:Obj}{vs:Array Va}{head:Va}{more:Bool}{Q:Unit->Vc->Prop}(j:A.frames=Vo (env::outer))(i:s.heap.FunFrames B (env::outer))(H:env.frame=Vo L)
  (l:s.heap.get? e=Vo oe) (k:B.StaysIn s.heap) (m:B.get? e=Vp) (f:oe.data=.fields vs) (z:1<vs.size) (I:vs[0]?=Vo a0) (h2:vs[2]?=Vo .none) (n:∀d,dd=Vo d->oe.dict=Vo d)
  (q:∀h',Heap.NotedW B (env::outer) e oe.cls a0 (rawInt L) s.heap h'->bg h' e dd->Q () { s with heap:=h' }) :
  Vf M A (frameOf env >>= λa=>entryPlaceOf L more >>= λpl=>EntryCells.newEntry head a .none (rawInt L) .none pl >>= λb=>setField (.ref e) 1 b) Q E s:=by
 have ne:e∉(env::outer).filterMap (·.frame):=λp=>by obtain⟨_,o,v,g⟩:=i.mem p;rw[l]at v;cases v;exact g vs f
 refine ze (wpAny_frameOf_fun j i H λh1 r=>ze (wpAny_entryPlaceOf λpl t=>ze ?_));unfold EntryCells.newEntry newFields;refine wpAny_newObj_type ?_ (t.sizeOk5 _ _ _ _ _);have w:(([head,.ref L,.none,rawInt L,.none]++(if pl.isEmpty then zY 6 Value.none else pl)).toArray)[3]?=Vo (rawInt L):=by simp
 generalize ([head,.ref L,.none,rawInt L,.none]++(if pl.isEmpty then zY 6 Value.none else pl)).toArray=ts at w ⊢;have x:h1.get? e=Vo oe:=(r.2.1 e ne).trans l;have k1:B.StaysIn h1:=λb o c=>(r.2.1 b λp=>by rw[(i.mem p).1]at c;cases c).trans (k b o c);have y:h1.objs.size≠e:=Nat.ne_of_gt (zj x);have C:=zh (h:=h1) { cls:=.type "traceback",dict:=Vp,data:=.fields ts } x;have J:=zi h1 (o:={ cls:=.type "traceback",dict:=Vp,data:=.fields ts }) rfl;refine wpAny_setField C f z (q _ ?_ ?_)
 all_goals
  have u:=Heap.SameBut.update (h1.push { cls:=.type "traceback",dict:=Vp,data:=.fields ts }) e (Obj.mapFields (·.setIfInBounds 1 (Value.ref h1.objs.size)));have F:=Heap.get?_update_self (Obj.mapFields (·.setIfInBounds 1 (Value.ref h1.objs.size))) C (Obj.isFreed_of_fields (Obj.data_mapFields f _));have G:=Obj.data_mapFields f (·.setIfInBounds 1 (Value.ref h1.objs.size))
 .have up:∀b o,s.heap.get? b=Vo o->(∀us,o.data≠.fields us)->∃sl,((h1.push { cls:=.type "traceback",dict:=Vp,data:=.fields ts }).update e (Obj.mapFields (·.setIfInBounds 1 (Value.ref h1.objs.size)))).get? b=Vo { o with slots:=sl }:=λb o c g=>by
   obtain⟨sl,K⟩:=r.2.2 b o c;have nb:b≠e:=by rintro rfl;rw[l]at c;cases c;exact g vs f
   exact⟨sl,(u.2 b nb).trans (zh _ K)⟩
  refine⟨λb o c=>?_,i.of_keeps λb o c g=>?_,⟨_,_,h1.objs.size,_,ts,F,⟨Obj.cls_mapFields ..,?_⟩,G,?_,k1.fresh,y,(u.2 _ y).trans J,rfl,w⟩,up⟩
  .have nb:b≠e:=by rintro rfl;rw[m]at c;cases c
   exact(u.2 b nb).trans (zh _ (k1 b o c))
  .obtain⟨sl,z⟩:=up b o c g;exact⟨_,z,rfl⟩
  .rw[Array.getElem?_setIfInBounds_ne (by decide)];exact I
  .simp[z]
 .refine⟨_,_,F,G,by rw[Array.getElem?_setIfInBounds_ne (by decide)];exact h2,λd z=>?_⟩;rw[<-n d z];exact wH ..
def pJ{e:Vb}{Q:Unit->Vc->Prop}(g:A.frames=Vo (env::outer))(n:env.frame=Vo L)(u:Heap.FlyingW B (env::outer) e cls a0 s.heap)(al:bg s.heap e dd)
  (q:∀h',Heap.HeldW B (env::outer) e cls a0 L h'->s.heap.UpToSlots h'->bg h' e dd->Q () { s with heap:=h' }):Vf M A (noteFrame (.ref e) env) Q E s:=by
 obtain⟨k,f,v,oe,vs,T,G,ts,h,⟨rfl,w⟩,i,p,x,y,j,l,r⟩:=u;have h2:vs[2]?=Vo .none/\∀d,dd=Vo d->oe.dict=Vo d:=by obtain⟨o',C,x1,x2,x3⟩:=al;rw[h]at x1;cases x1;rw[i]at x2;cases x2;exact x3
 have z:3<ts.size:=(Array.getElem?_eq_some_iff.mp r).1;have S:=Heap.SameBut.update s.heap T (Obj.mapFields (·.setIfInBounds 3 Value.none));have t:∀b o,s.heap.get? b=Vo o->(∀us,o.data≠.fields us)->b≠T:=by rintro b o a c rfl;rw[j]at a;cases a;exact c ts l
 have n1:(Value.ref T != Value.none)=true:=by simp
 have n2:¬((Value.none == rawInt L)=true):=by simp[rawInt]
 unfold noteFrame;simp only[n];refine ze (wpAny_field h i p ?_);rw[Aj n1];refine ze (wpAny_field j l r ?_);rw[Ai n2];refine ze (wpAny_setField j l z ?_);refine nR g (v.of_keeps λb o a c=>⟨o,(S.2 b (t b o a c)).trans a,rfl⟩) n ((S.2 e (Ne.symm y)).trans h) (λb o a=>(S.2 b ?_).trans (k b o a)) f i (Array.getElem?_eq_some_iff.mp p).1 w h2.1 h2.2 λh' N m=>?_
 .rintro rfl;rw[x]at a;cases a
 .obtain⟨x1,x2,x3,F⟩:=N;exact q h' ⟨x1,f,x2,x3⟩ (λb o a c=>F b o ((S.2 b (t b o a c)).trans a) c) m
def oQ{e:Vb}{Q:Unit->Vc->Prop}(g:Heap.HeldW B l e cls a0 L s.heap)(al:bg s.heap e dd)
  (q:∀h',Heap.FlyingW B l e cls a0 h'->s.heap.UpToSlots h'->bg h' e dd->Q () { s with heap:=h' }):Vf M A (setFlight (.ref e) Vp) Q E s:=
 kC g.1 g.2.2.1 g.2.2.2 al λh' a b c d f=>q h' ⟨a,g.2.1,b,c⟩ d f
def wN{e:Vb}{Q:Unit->Vc->Prop}(g:Heap.FlyingW B l e cls a0 s.heap)(al:bg s.heap e dd)
  (q:∀h',Heap.FlyingW B l e cls a0 h'->s.heap.UpToSlots h'->bg h' e dd->Q () { s with heap:=h' }):Vf M A (setFlight (.ref e) Vp) Q E s:=
 kC g.1 g.2.2.1 g.2.2.2.at al λh' a b c d f=>q h' ⟨a,g.2.1,b,c⟩ d f
def sC{e:Vb}{Q:Unit->Vc->Prop}(a:A.frames=Vo (env::outer))(b:env.frame=Vo L)(c:Heap.FlyingW B (env::outer) e cls a0 s.heap)(al:bg s.heap e dd)
  (q:∀h',Heap.FlyingW B outer e cls a0 h'->s.heap.UpToSlots h'->bg h' e dd->Q () { s with heap:=h' }):Vf M A (leaving env (.ref e)) Q E s:=by
 unfold leaving;refine ze (pJ a b c al λh1 H1 d a1=>oQ (s:={ s with heap:=h1 }) H1 a1 λh2 f g a2=>?_);obtain⟨x1,x2,⟨_,_,x3⟩,h⟩:=f;exact q h2 ⟨x1,x2,x3,h⟩ (d.trans g) a2
structure MadeX(h h':Vh)(e:Vb)(cls:Va)(dd:Option Vb):Prop where
 keeps:∀b o,h.get? b=Vo o->h'.get? b=Vo o
 new:h.get? e=Vp
 there:∃oe vs t,h'.get? e=Vo oe/\oe.cls=cls/\oe.data=.fields vs/\vs[0]?=Vo (.ref t)/\vs[1]?=Vo .none/\vs[2]?=Vo .none/\1<vs.size/\∀d,dd=Vo d->oe.dict=Vo d
def MadeX.of{e:Vb}{args:List Va}(a:Heap.MadeExcOf h h' e cls args):MadeX h h' e cls Vp:=by obtain⟨t,b,_,_⟩:=a.there;exact⟨a.keeps,a.new,_,_,t,b,rfl,rfl,rfl,rfl,rfl,by simp,λ_ z=>by cases z⟩
def wx{e:Vb}{Q:Unit->Vc->Prop}(d:A.frames=Vo (env::outer))(i:env.frame=Vo L)(k:B.StaysIn h)(l:h.FunFrames B (env::outer))(a:MadeX h s.heap e cls dd)
  (q:∀h' a0,Heap.FlyingW B outer e cls a0 h'->s.heap.UpToSlots h'->bg h' e dd->Q () { s with heap:=h' }):Vf M A (leaving env (.ref e)) Q E s:=by
 obtain⟨oe,vs,t,j,rfl,hd,m,h1,h2,n,f⟩:=a.there;have fresh:∀b,h.get? b=Vp->B.get? b=Vp:=λb c=>by
  cases p:B.get? b with
  | none=>rfl
  | some o'=>exact absurd (k b o' p) (by rw[c];intro z;cases z)
 unfold leaving noteFrame;simp only[i];refine ze (ze (wpAny_field (x:=.none) j hd h1 ?_));rw[Ai (by decide)];refine nR (a0:=.ref t) d (l.of_keeps λb o c _=>⟨o,a.keeps b o c,rfl⟩) i j (λb o c=>a.keeps b o (k b o c)) (fresh e a.new) hd n m h2 f λh1 N a1=>?_;obtain⟨x1,x2,x3,r⟩:=N;refine kC (s:={ s with heap:=h1 }) x1 x2 x3 a1 λh2 y1 y2 y3 u v=>?_;obtain⟨_,_,g⟩:=y2;exact q h2 _ ⟨y1,fresh e a.new,g,y3⟩ (Heap.UpToSlots.trans r u) v
end
def bH.obj{o:HO}(x:bH P w H h a o):∃ob,h.get? a=Vo ob:=by
 cases o with
 | lst xs=>obtain⟨_,_,_,_,e⟩:=x;exact⟨_,e⟩
 | tup xs=>obtain⟨_,_,_,ob,e,_⟩:=x;exact⟨_,e⟩
 | dK kvs=>obtain⟨_,_,_,_,ob,es,ep,e,_⟩:=x;exact⟨_,e⟩
 | dT kvs=>obtain⟨_,_,_,_,ob,es,ep,e,_⟩:=x;exact⟨_,e⟩
 | set S n=>obtain⟨ob,es,ep,t,e,_⟩:=x;exact⟨_,e⟩
 | ins C dx fs=>obtain⟨_,_,_,e,_⟩:=x;exact⟨_,e⟩
 | own y=>exact x
 | xd fs=>obtain⟨mA,b,_⟩:=x;obtain⟨ob,es,ep,e,_⟩:=b;exact⟨_,e⟩
 | rng lo hi=>obtain⟨_,_,_,e⟩:=x;exact⟨_,e⟩
 | frz ob u=>exact⟨_,x.1⟩
 | tbl ps=>exact⟨_,x⟩
 | met f y=>exact⟨_,x⟩
 | ext φ=>exact x.2.1
structure Fly(P:Vd)(w:Ve)(outer:List Env)(H:Hp)(s:Vc)(x:Vb)(cls:Va)(da:Option Vb)(H':Hp)(s':Vc):Prop where
 os:s'.os=s.os
 bare:AllBare s'.gens
 un:Un (aP outer) [] H H' s.heap s'.heap
 hok:bq P w H' s'.heap
 new:H' x=Vp
 alone:bg s'.heap x da
 fly:∃B a0,Heap.FlyingW B outer x cls a0 s'.heap/\(∀b o,s'.heap.get? b=Vo o->H' b≠Vp->B.get? b=Vo o) ∧
  ∀b o o',s.heap.get? b=Vo o->b∉aP outer->s'.heap.get? b=Vo o'->B.get? b=Vo o'
def aK(P:Vd)(w:Ve):cW:=λouter H s E e s'=>∃x cls da H',e=.ref x/\E cls da H'/\Fly P w outer H s x cls da H' s'
section
variable {P:Vd} {w:Ve} {K:zg} {mg:Vn->Option Va} {base:Vh} {N:List Vn} {qual:Vn} {scope:Scope} {f:Vb} {cd:Va} {A:Vi} {outer:List Env} {s₀:Vc} {H₀:Hp} {E:XK}
def nc(h:env∈l)(e:env.frame=Vo a):a∈aP l:=List.mem_filterMap.mpr ⟨env,h,e⟩
def yO{tk:Nat}{e:Vb}{da:Option Vb}(I:Inv (aH (aK P w) P w K mg base N qual scope f cd A outer s₀ H₀ E) pins σ H s)
  (p:MadeX s.heap h1 e cls da) (C:E cls da H):(aH (aK P w) P w K mg base N qual scope f cd A outer s₀ H₀ E).xe (.ref e) { s with heap:=h1,toks:=tk }:=by
 have stk:(aH (aK P w) P w K mg base N qual scope f cd A outer s₀ H₀ E).stack=envOfC qual scope s₀.heap.objs.size f cd::outer:=rfl;have F:∀b∈aP (envOfC qual scope s₀.heap.objs.size f cd::outer),b∈aP outer\/b=s₀.heap.objs.size:=λb c=>by
  have:=I.stkSub b c;rcases zA.mp this with z|z
  .exact .inr z
  .exact .inl z
 have r:∀env∈(envOfC qual scope s₀.heap.objs.size f cd::outer),∀a,env.frame=Vo a->a∈aP (envOfC qual scope s₀.heap.objs.size f cd::outer):=λenv G a J=>nc G J;have i:=PySem.W.funFrames_hide I.stack r;have low:∀b o,s₀.heap.get? b=Vo o->b∉aP outer->b∉aP (envOfC qual scope s₀.heap.objs.size f cd::outer):=λb o c g v=>by
  rcases F b v with z|z
  .exact g z
  .exact absurd (zj c) (by rw[z];exact Nat.lt_irrefl _)
 refine wx (B:=PySem.W.hideAll s.heap (aP (envOfC qual scope s₀.heap.objs.size f cd::outer))) (h:=s.heap) I.ok.frames rfl (λb o q=>PySem.W.of_hideAll _ q) i p λh' t x1 L M=>?_;have up:∀b∈aP (envOfC qual scope s₀.heap.objs.size f cd::outer),∀o,s.heap.get? b=Vo o->∃sl,h'.get? b=Vo { o with slots:=sl }:=λb c o l=>by obtain⟨_,o',j,hd⟩:=i.mem c;rw[l]at j;cases j;exact L b o (p.keeps b o l) hd
 have stay:∀b o,b∉aP (envOfC qual scope s₀.heap.objs.size f cd::outer)->s.heap.get? b=Vo o->h'.get? b=Vo o:=λb o g l=>x1.1 b o (PySem.W.hideAll_get _ l g);have ez:∀b,H b≠Vp->b∉aP (envOfC qual scope s₀.heap.objs.size f cd::outer):=λb c v=>c (I.stkFree b v);have U:=I.base;have k:H e=Vp:=by
  cases m:H e with
  | none=>rfl
  | some u=>
   obtain⟨ob,z⟩:=(I.hok e u m).obj;rw[p.new]at z;cases z
 refine⟨e,cls,da,H,rfl,C,I.os,I.bare,⟨λb o q n c _=>stay b o (low b o q c) (U.keep b o q n c (by intro z;cases z)),λb o q n c _=>?_,λb o q n _=>U.free b o q n (by intro z;cases z),λb o q _=>?_,U.tups,U.frzs,U.tbls⟩,λa o q=>?_,k,M,_,_,x1,λb o q c=>?_,λb o o' q c O=>?_⟩
 .obtain⟨sl,d⟩:=U.slot b o q n c (by intro z;cases z);obtain⟨x,y⟩:=up b (by show b∈List.filterMap _ (_::_);exact zo _ c) _ d;exact⟨x,y⟩
 .obtain⟨o1,d⟩:=U.there b o q (by intro z;cases z);by_cases c:b∈aP (envOfC qual scope s₀.heap.objs.size f cd::outer)
  .obtain⟨sl,y⟩:=up b c _ d;exact⟨_,y⟩
  .exact⟨_,stay b _ c d⟩
 .refine(I.hok a o q).stay (λb u c z=>stay b u (ez b ?_) z) (λ_ z=>z) λ_ _ z=>z;rcases c with rfl|c
  .rw[q];intro z;cases z
  .rw[c];intro z;cases z
 .obtain⟨o1,d⟩:∃o1,s.heap.get? b=Vo o1:=by
   cases m:H b with
   | none=>exact absurd m c
   | some u=>exact(I.hok b u m).obj
  have:=stay b o1 (ez b c) d;rw[q]at this;cases this;exact PySem.W.hideAll_get _ d (ez b c)
 .obtain⟨o1,d⟩:=U.there b o q (by intro z;cases z);have g:=low b o q c;have:=stay b o1 g d;rw[O]at this;cases this;exact PySem.W.hideAll_get _ d g
def kJ{t:XK}(r:∀cls da H,t cls da H->E cls da H):Passes (aK P w) (aH (aK P w) P w K mg base N qual scope f cd A outer s₀ H₀ E) t:=by
 intro pins σ H s e s' I h;obtain⟨x,cls,da,H',rfl,G,F⟩:=h;obtain⟨B,a0,v,y,J⟩:=F.fly;have L:∀b∈aP (envOfC qual scope s₀.heap.objs.size f cd::outer),b∈aP outer\/b=s₀.heap.objs.size:=λb c=>by
  rcases zA.mp (I.stkSub b c)with z|z
  .exact .inr z
  .exact .inl z
 have low:∀b o,s₀.heap.get? b=Vo o->b∉aP outer->b∉aP (envOfC qual scope s₀.heap.objs.size f cd::outer):=λb o c M O=>by
  rcases L b O with z|z
  .exact M z
  .exact absurd (zj c) (by rw[z];exact Nat.lt_irrefl _)
 have U:=I.base;have no:∀b:Vb,b∉([]:List Vb):=λb z=>by cases z
 refine sC I.ok.frames rfl v F.alone λh' x1 x2 x3=>?_;have two:∀b o,s₀.heap.get? b=Vo o->∃o1 i,s.heap.get? b=Vo o1/\s'.heap.get? b=Vo i:=λb o q=>by obtain⟨o1,d⟩:=U.there b o q (no b);obtain⟨i,g⟩:=F.un.there b o1 d (no b);exact⟨o1,i,d,g⟩
 have stay:∀b o i,s₀.heap.get? b=Vo o->b∉aP outer->s'.heap.get? b=Vo i->B.get? b=Vo i:=λb o i q c Q=>by obtain⟨o1,R,d,g⟩:=two b o q;exact J b o1 i d (low b o q c) Q
 have m:=v.2.2.1;refine⟨x,cls,da,H',rfl,r _ _ _ G,F.os.trans I.os,F.bare,⟨λb o q n c _=>?_,λb o q n c _=>?_,λb o q n _=>?_,λb o q _=>?_,λb xs q=>F.un.tups b xs (U.tups b xs q),λb o u q=>F.un.frzs b o u (U.frzs b o u q),λb ps q=>?_⟩,λa o q=>?_,F.new,x3,B,a0,x1,λb o q c=>?_,λb o o' q c S=>?_⟩
 .have d:=U.keep b o q n c (no b);have g:=F.un.keep b o d (U.free b o q n (no b)) (low b o q c) (no b);exact x1.1 b o (stay b o o q c g)
 .obtain⟨sl,d⟩:=U.slot b o q n c (no b);have j:b∈aP (envOfC qual scope s₀.heap.objs.size f cd::outer):=by show b∈List.filterMap _ (_::_);exact zo _ c
  obtain⟨T,g⟩:=F.un.slot b _ d (U.free b o q n (no b)) j (no b);obtain⟨_,o',k,hd⟩:=m.mem j;rw[g]at k;cases k;obtain⟨p,l⟩:=x2 b _ g hd;exact⟨p,l⟩
 .obtain⟨o1,d⟩:=U.there b o q (no b);exact F.un.free b o1 d (U.free b o q n (no b)) (no b)
 .obtain⟨o1,i,d,g⟩:=two b o q;by_cases c:b∈aP outer
  .have j:b∈aP (envOfC qual scope s₀.heap.objs.size f cd::outer):=by show b∈List.filterMap _ (_::_);exact zo _ c
   obtain⟨_,o',k,hd⟩:=m.mem j;obtain⟨p,l⟩:=x2 b _ k hd;exact⟨_,l⟩
  .exact⟨_,x1.1 b i (stay b o i q c g)⟩
 .obtain⟨m1,d⟩:=U.tbls b ps q;obtain⟨W,g⟩:=F.un.tbls b _ d;exact⟨m1++W,by rw[g,Array.append_assoc]⟩
 .refine(F.hok a o q).stay (λb u c z=>x1.1 b u (y b u z ?_)) (λ_ z=>z) λ_ _ z=>z;rcases c with rfl|c
  .rw[q];intro z;cases z
  .rw[c];intro z;cases z
 .obtain⟨o1,d⟩:∃o1,s'.heap.get? b=Vo o1:=by
   cases C:H' b with
   | none=>exact absurd C c
   | some u=>exact(F.hok b u C).obj
  have g:=y b o1 d c;have:=x1.1 b o1 g;rw[q]at this;cases this;exact g
 .obtain⟨o1,i,d,g⟩:=two b o q;have l:=stay b o i q c g;have:=x1.1 b i l;rw[S]at this;cases this;exact l
end
section
variable {prog:Vd} {w:Ve} {A:Vi} {E:Va->Vc->Prop} {K:zg} {x D:Vb} {ox:Obj} {s:Vc}
structure InstC(h:Vh)(x:Vb)(ox:Obj)(D:Vb):Prop where
 at_:h.get? x=Vo ox
 cls:ox.cls=.ref D
def InstC.type{y:Vb}{a:Obj}(I:InstC h y a C):PySem.W.Looks M h (typeOf (.ref y)) (.ref C):=by
 have z:PySem.W.Looks M h (typeOf (.ref y)) a.cls:=(PySem.W.Looks.ld I.at_).andThen .now
 rwa [I.cls]at z
def wI(X:K.In h)(b:PySem.W.findIn K (.ref D) "__class__" = Vo (Vo (.builtin "object.__class__")))(c:PySem.W.specialIn K (.builtin "object.__class__") "__get__" = Vo (Vo (.builtin "getset_descriptor.__get__")))
  (d:PySem.W.takesIn K (.builtin "object.__class__")=Vo true):PySem.W.Looks M h (Builtin.ObjectAttr.find (.ref x) (.ref D) "__class__") (.bind (.builtin "getset_descriptor.__get__") (.builtin "object.__class__")):=by
 have e:=PySem.W.looks_findIn (M:=M) X b;have L2:PySem.W.Looks M h (Builtin.ObjectAttr.getOf (Vo (.builtin "object.__class__"))) (Vo (.builtin "getset_descriptor.__get__")):=PySem.W.looks_specialIn X c;have f:=PySem.W.looks_takesIn (M:=M) X d;refine e.andThen (L2.andThen ?_);refine PySem.W.Looks.andThen (a:=Vo (.builtin "getset_descriptor.__get__",.builtin "object.__class__")) (f.andThen ?_) (PySem.W.Looks.tag .now);rw[Aj rfl];exact .now
def uq{a:Va}{R:Result->Vc->Prop}(X:K.In s.heap)(I:InstC s.heap x ox D)(b:PySem.W.mroIn K D (.type "object")=Vo true)(c:R (.ok (.ret (.ref D))) s):
  codeAny (Vg prog w) A (.call (.builtin "getset_descriptor.__get__") ⟨[.builtin "object.__class__",.ref x,a],[]⟩) R s:=by
 obtain⟨e,g,d,t,os⟩:=s;have f:=I.type (M:=Vg prog w);have h:=PySem.W.looks_mroIn (M:=Vg prog w) X b;refine codeAny_call_builtin PySem.W.KF.slot_gs.plain PySem.W.KF.entry_gs (PySem.W.KF.slot_gs.check _ _ _ _ _ _ _ _ PySem.W.KF.type_class (PySem.W.KF.args_gs _ _ _) ?_);unfold Builtin.«getset_descriptor.__get__» Builtin.Getset_descriptor.descrGet;rw[PySem.W.dga_obj];refine ze (zf ?_);unfold Builtin.Getset_descriptor.descrGetter Builtin.Getset_descriptor.descrCheckInstance Builtin.Getset_descriptor.descrNameAndClass isInstance;simp only[PySem.W.KF.owner_class];repeat lk
 refine⟨Code.quiet_builtin _ (by decide +kernel),codeAny_builtin PySem.W.KF.entry_class ?_⟩;unfold Builtin.«object.__class__» shownTypeOf;repeat lk
 exact c
def wU{tk:Tok}{Q:Fin->Vc->Prop}(X:K.In s.heap)(I:InstC s.heap x ox D)(a:PySem.W.findIn K (.ref D) "__class__" = Vo (Vo (.builtin "object.__class__")))(b:PySem.W.specialIn K (.builtin "object.__class__") "__get__" = Vo (Vo (.builtin "getset_descriptor.__get__")))
  (c:PySem.W.takesIn K (.builtin "object.__class__")=Vo true) (e:PySem.W.mroIn K D (.type "object")=Vo true)
  (f:Q (.done (.ret (.ref D))) s):Vf (Vg prog w) A (Builtin.«object.__getattribute__» ⟨[.ref x,.str "__class__" tk],[]⟩) Q E s:=by
 obtain⟨h,g,d,t,os⟩:=s;have i:=I.type (M:=Vg prog w);have j:=wI (M:=Vg prog w) (x:=x) X a b c;unfold Builtin.«object.__getattribute__»;refine ze (zf (ze (zf (ze (i.at (ze (j.at ?_)))))));show Vf _ _ (holding [Value.builtin "object.__class__"] (call (Value.builtin "getset_descriptor.__get__") [.builtin "object.__class__",.ref x,.ref D]) >>= ret) _ _ _;exact ze (wpAny_holding (wpAny_call (uq (s:=⟨h,g,d,t,os⟩) X I e (zf f))))
def xF{a:Va}{Q:Unit->Vc->Prop}(X:K.In s.heap)(I:InstC s.heap x ox D)(b:PySem.W.subIn K (.ref D) (.type "BaseException")=Vo true)(e:Q () s):
  Vf M A (checkBuiltinCall "BaseException.__getattribute__" ⟨[.ref x,a],[]⟩) Q E s:=by
 have k1:builtinKind "BaseException.__getattribute__" = Vo .slot:=by decide +kernel
 have k2:splitId "BaseException.__getattribute__" = Vo ("BaseException","__getattribute__"):=by decide +kernel
 have k3:=PySem.F.args_bexc_ga (.ref x) a;have c:PySem.W.Looks M s.heap (isInstance (.ref x) (.type "BaseException")) true:=(I.type (M:=M)).andThen (PySem.W.looks_subIn X b);obtain⟨f,g,d,t,os⟩:=s;simp only[checkBuiltinCall,k1,k2];refine ze (c.at ?_)
 repeat (any_goals (first|assumption|wp_step))
structure ExcK(K:zg)(D:Vb):Prop where
 lk:∃c d cd sl,K.lookup D=Vo ⟨c,d,.cls cd,sl⟩
 ga:PySem.W.findIn K (.ref D) "__getattribute__" = Vo (Vo (.builtin "BaseException.__getattribute__"))
 gt:PySem.W.findIn K (.ref D) "__getattr__" = Vo Vp
 sb:PySem.W.subIn K (.ref D) (.type "BaseException")=Vo true
 cf:PySem.W.findIn K (.ref D) "__class__" = Vo (Vo (.builtin "object.__class__"))
 cg:PySem.W.specialIn K (.builtin "object.__class__") "__get__" = Vo (Vo (.builtin "getset_descriptor.__get__"))
 ct:PySem.W.takesIn K (.builtin "object.__class__")=Vo true
 mo:PySem.W.mroIn K D (.type "object")=Vo true
def vH{Q:Option Va->Vc->Prop}(X:K.In s.heap)(I:InstC s.heap x ox D)(F:ExcK K D)
  (h:Q (Vo (.ref D)) { s with toks:=s.toks+1 }):Vf (Vg prog w) A (getAttr? (.ref x) "__class__") Q E s:=by
 obtain⟨a,g,d,t,os⟩:=s;have b:=I.type (M:=Vg prog w);have c:=PySem.W.looks_findIn (M:=Vg prog w) X F.ga;have L2:=PySem.W.looks_findIn (M:=Vg prog w) X F.gt;unfold getAttr? getAttrBy? getAttrBy;refine ze (wpAny_mkText (ze (wpAny_attempt (wpAny_holding (ze (b.at (ze (c.at ?_))))))))
 repeat (any_goals (first|assumption|wp_step|lk))
 refine codeAny_call_builtin (PySem.F.excAttr_ValueError).ga.plain PySem.F.entry_bexc_ga (xF (s:=⟨a,g,d,t+1,os⟩) X I F.sb (wU (s:=⟨a,g,d,t+1,os⟩) X I F.cf F.cg F.ct F.mo ?_))
 repeat (any_goals (first|assumption|wp_step|lk))
def kS(F:ExcK K D):PySem.W.KitX K (.ref x) (.ref D) (λh=>InstC h x ox D) where
 ty:=λ_ _ _ I=>I.type
 it:=λM h X _=>by obtain⟨c,d,cd,sl,a⟩:=F.lk;intro i j l s' k q;unfold isType loadHead;exact ze (wpAny_loadPart (k _ _ (X _ _ a)) (zf q))
 ne:=λh e dd f n sl X b=>by obtain⟨c,d,cd,g,a⟩:=F.lk;rw[Bool.eq_false_iff];intro q;cases(show D=e from Value.ref.inj (eq_of_beq q));have z:=X _ _ a;rw[b]at z;cases z
 ca:=λX I k=>vH X I F k
end
abbrev bK(X:Cx)(x:Vb)(oe:Obj):Cx:={ X with A:=X.A.mark (Vo (.ref x)),calm:=false,pn:=(x,oe)::X.pn,xe:=λ_ _=>False }
abbrev kb(X:Cx)(x:Vb):Cx:={ X with A:=X.A.mark (Vo (.ref x)),calm:=false,xe:=λ_ _=>False }
section
variable {X:Cx} {pins:List (Vb×Obj)} {σ:St} {H:Hp} {s:Vc} {x:Vb} {oe:Obj}
def Cx.Ok.marked(ok:X.Ok)(x:Vb):(kb X x).Ok:=
 ⟨ok.mod,ok.kind,ok.glob,ok.blt,ok.above,ok.inj,ok.has,ok.cab,(λz=>Bool.noConfusion z),ok.frames,ok.stk,ok.exf,ok.bs,ok.bsz,ok.noex,ok.exfs,ok.funs,ok.frf⟩
theorem Inv.marked(I:Inv X pins σ H s)(x:Vb):Inv (kb X x) pins σ H s:=⟨I.ok.marked x,I.os,I.bare,I.base,I.loc,I.cell,I.free,I.freeC,I.pin,I.hok,I.len⟩
def Inv.pinH(I:Inv X pins σ H s)(h1:s.heap.get? x=Vo oe)(h2:H x=Vp)(b:x≠X.env.locals)(c:x∉X.fs)(d:∀v,oe.data≠.cell v):Inv (bK X x oe) pins σ H s:=
  ⟨⟨I.ok.mod,I.ok.kind,I.ok.glob,I.ok.blt,I.ok.above,I.ok.inj,I.ok.has,I.ok.cab,(λz=>Bool.noConfusion z),I.ok.frames,I.ok.stk,I.ok.exf,I.ok.bs,I.ok.bsz,I.ok.noex,I.ok.exfs,I.ok.funs,I.ok.frf⟩,I.os,I.bare,I.base,I.loc,I.cell,I.free,I.freeC,
    λp a=>by
      rcases zA.mp a with rfl|a
      . exact ⟨h1,h2,b,c,d⟩
      . exact I.pin p a,I.hok,I.len⟩
def Inv.unpinH(ok:X.Ok)(I:Inv (bK X x oe) pins σ H s):Inv X pins σ H s:=⟨ok,I.os,I.bare,I.base,I.loc,I.cell,I.free,I.freeC,λp a=>I.pin p (zo _ a),I.hok,I.len⟩
def jW(K:zg)(x D:Vb):List V->Hp->VK->Prop:=λxs H Q=>∃b:Bool,((∃C,xs=[.ref x,.ref C]/\PySem.W.kitOne K (.ref D) (.ref C)=Vo b)\/(∃T,xs=[.ref x,.ty T]/\PySem.W.kitOne K (.ref D) (.type T)=Vo b) ∨
 ∃(p:Vb) (a:List Vb),xs=[.ref x,.ref p]/\H p=Vo (.tup (a.map V.ref))/\PySem.W.kitAny K (.ref D) (a.map Value.ref)=Vo b)/\Q (.bl b) H
theorem qk:∀{Cs:List Vb} {us:List Va},Vals (Cs.map V.ref) us->us=Cs.map Value.ref
 | [],_,r=>by cases r;rfl
 | _::_,_,r=>by
  cases r with
  | cons r t=>cases r;rw[qk t];rfl
def fm{D:Vb}(F:ExcK X.K D)(i:oe.cls=.ref D):cc (bK X x oe) (.builtin "isinstance") (jW X.K x D):=by
 intro pins s σ H xs us Q I r h;obtain⟨b,h,q⟩:=h;have p:=(I.pin (x,oe) (zX _ zr)).1;have J:InstC s.heap x oe D:=⟨p,i⟩;rcases h with⟨C,rfl,a⟩|⟨T,rfl,a⟩|⟨j,o,rfl,k,a⟩
 .obtain⟨u,c,rfl,r1,d⟩:=vals2 r;cases(show u=Value.ref x from r1);cases(show c=Value.ref C from d);exact PySem.W.kia_one (kS F) I.kIn J a (λz=>nomatch z) λtk=>⟨.bl b,H,I.tok tk,rfl,q⟩
 .obtain⟨u,c,rfl,r1,d⟩:=vals2 r;cases(show u=Value.ref x from r1);cases(show c=Value.type T from d);exact PySem.W.kia_one (kS F) I.kIn J a (λz=>nomatch z) λtk=>⟨.bl b,H,I.tok tk,rfl,q⟩
 .obtain⟨u,c,rfl,r1,d⟩:=vals2 r;cases(show u=Value.ref x from r1);cases(show c=Value.ref j from d);obtain⟨l,m,⟨⟨cls,dd,data,sl⟩,g,e,n,f⟩,_⟩:=I.tuple (ah.of k);simp only at e f;subst e f;rw[qk m]at g;exact PySem.W.kia_tup (kS F) I.kIn J g a (λz=>nomatch z) λtk=>⟨.bl b,H,I.tok tk,rfl,q⟩
end
def pN(cls:Va)(E:XK)(t:TA):TS:=λ_ σ H=>t σ H λvs H1=>vs.length<=sizeLine/\E cls Vp H1
def wK{K:zg}{x:Vn}{bm:List Va}{a:String}(X:K.In h)(G:h.Ns Vj mg)(e:PySem.W.nsIn K Vj x=Vo (Vo (.ref C)))(q:PySem.W.excIn K C bm a=true):OwnCls x C bm a mg h:=by
 constructor
 .exact PySem.W.mg_of X G e
 .unfold PySem.W.excIn at q;cases b:K.lookup C with
  | none=>rw[b]at q;cases q
  | some o=>
   rw[b]at q;obtain⟨cl,dd,data,sl⟩:=o;split at q
   .rename_i f;cases f;split at q
    .rename_i _ cd _ _ C' bm' k0 k1 k2 k3 n k5 hm hs;simp only[zT,beq_iff_eq,Bool.not_eq_true']at q;obtain⟨⟨⟨⟨⟨rfl,rfl⟩,c⟩,g⟩,o0⟩,d⟩:=q;obtain⟨nm,bs,mro,ns,i,hd,sn,sub,ab,col,del⟩:=cd
     try dsimp only at hm c o0 d
     subst hm c;obtain⟨l⟩:=sl;simp only at hs;subst hs;exact⟨_,_,_,_,_,_,_,_,_,_,_,_,_,_,_,_,_,X _ _ b,.of_isNs (PySem.W.isNs_of_in X o0),PySem.W.nsMap_none_of_in X o0 d,PySem.W.tail_of_in X g⟩
    .cases q
   .cases q
section
variable {P:Vd} {w:Ve} {K:zg} {mg:Vn->Option Va} {base:Vh} {N:List Vn} {qual:Vn} {scope:Scope} {f:Vb} {cd:Va} {A:Vi} {outer:List Env} {s₀:Vc} {H₀:Hp} {E:XK}
def fo{x:Vn}{B a d:String}{bm:List Va}{np cpos pos:Pos}{e:Vk}{es:List Vk}{t:TA}(O:OwnCls x C bm a mg base)(FB:ExcBaseFacts B a d bm)
  (k:PA (aH (aK P w) P w K mg base N qual scope f cd A outer s₀ H₀ E) (e::es) t) (l:Gl (aH (aK P w) P w K mg base N qual scope f cd A outer s₀ H₀ E) x:=by rfl) (hd:(x == ("__debug__":Vn))=false:=by decide)
  (g:starEach (e::es) (aH (aK P w) P w K mg base N qual scope f cd A outer s₀ H₀ E).env=(false,eval e (aH (aK P w) P w K mg base N qual scope f cd A outer s₀ H₀ E).env)::starEach es (aH (aK P w) P w K mg base N qual scope f cd A outer s₀ H₀ E).env:=by rfl)
  (i:(backTo cpos (starEach es (aH (aK P w) P w K mg base N qual scope f cd A outer s₀ H₀ E).env)).any (·.1)=false:=by rfl) :
  PS (aH (aK P w) P w K mg base N qual scope f cd A outer s₀ H₀ E) (.Raise (Vo (.Call (.Name x np) (e::es) [] cpos)) Vp pos) (pN (.ref C) E t):=by
 intro pins s σ H D I h;obtain⟨tl,m,nm,q,bs,hdct,sn,sub,ab,col,dd,k0,k1,k2,k3,k5,mN,n,o,j,T⟩:=O.obj;refine wpAny_Raise_call_subT (newId:=a) (k5:=k5) (k3:=k3) (k2:=k2) (k1:=k1) (k0:=k0) (dd:=dd) (col:=col) (ab:=ab) (sub:=sub) (sn:=sn) (hdct:=hdct) (bs:=bs) (q:=q) (nm:=nm) (C:=C) (N:=m) (bm:=tl) FB (mN:=mN) (T.hasType FB.hasBase) (I.ok.hd rfl) (by rw[g];show(false || (backTo cpos (starEach es _)).any (·.1))=false;rw[i];rfl) j (ek I l O.bound ⟨rfl,?_⟩ hd);rw[g];have b:=k cpos pins s σ H _ I h;rw[g]at b;exact Calls.evalArgs_plain (ao b λus s1 ⟨vs,H1,c,r,z,q⟩=>⟨rfl,by rw[<-r.length];exact z,c.bk _ _ n,o.keeps c.bk,T.keeps c.bk,λh' e p=>yO (tk:=s1.toks) c (MadeX.of p) q⟩)
end
def ir{i:Nat}{x:Vn}{pos:Pos}{Q:Unit->Vc->Prop}(I:Inv X pins σ H s)(G:X.N.Nodup)(hi:X.N[i]?=Vo x)(J:X.env.kindOf x=Vo .local)
  (h:∀s',Inv X pins (σ.set i Vp) H s'->Q () s'):Vf M A (do bindName X.env x .none;unbindBehindTheSuite X.env x pos) Q E s:=by
 obtain⟨m,C,K⟩:=id I.loc;have g:i<σ.length:=by rw[I.len];exact(zu.mp hi).1
 have cne:=I.cne;refine wpAny_nameGoes_keeps J C (by rw[I.ok.kind];rfl) λh' v u a=>?_;obtain⟨W,_,_,L,_⟩:=id C;have low:∀{b:Vb} {o:Obj},X.s₀.heap.get? b=Vo o->b≠X.env.locals:=λe=>zE (zO (zj e) I.ok.above);refine h _ ⟨I.ok,I.os,I.bare,⟨λb o e n w l=>(a.2 b (low e)).trans (I.base.keep b o e n w l),λb o e n w l=>?_,I.base.free,λb o e l=>?_,I.base.tups,I.base.frzs,I.base.tbls⟩,⟨_,u,λj y O f r P=>?_⟩,λy c e=>?_,I.free,I.freeC,λp R=>?_,λb ob e=>?_,by simpa using I.len⟩
 .obtain⟨sl,f⟩:=I.base.slot b o e n w l;exact⟨sl,(a.2 b (low e)).trans f⟩
 .obtain⟨o',f⟩:=I.base.there b o e l;exact⟨o',(a.2 b (low e)).trans f⟩
 .by_cases B:j=i
  .subst B;rw[List.getElem?_set_self g]at r;cases r
  .rw[List.getElem?_set_ne (Ne.symm B)]at r;obtain⟨S,T,q⟩:=K j y O f r P;refine⟨S,T,?_⟩;rcases q with⟨k,e⟩|⟨k,c,e,z⟩
   .refine .inl ⟨k,?_⟩;have:y≠x:=λe=>B (jX G f (e ▸ hi));simp[this,e]
   .exact .inr ⟨k,c,e,z.sameBut a (cne y c e)⟩
 .obtain⟨F,z⟩:=I.cell y c e;exact⟨F,z.sameBut a (cne y c e)⟩
 .obtain⟨e,n,ne,U,d⟩:=I.pin p R;exact⟨(a.2 p.1 ne).trans e,n,ne,U,d⟩
 .refine(I.hok b ob e).stay (λc F t q=>(a.2 c ?_).trans q) (λ_ q=>q) λ_ _ q=>q;rintro rfl;rcases t with rfl|t
  .rw[I.free]at e;cases e
  .rw[I.free]at t;cases t
section
def PB(Y:Cx)(st:Vl)(t:Ends->(St->XK)->St->Hp->Prop):Prop:=
 ∀(pins:List (Vb×Obj)) (s:Vc) (σ:St) (H:Hp) (D:Ends) (E:St->XK),Inv Y.nox pins σ H s->t D E σ H ->
  Vf (Vg Y.prog Y.w) Y.A (exec st Y.env) (SP Y.nox pins D) (λe s'=>∃a H1 s1,Inv Y.nox pins a H1 s1/\aK Y.prog Y.w Y.stack H1 s1 (E a) e s') s
def ic(Y:Cx)(st:List Vl)(t:Ends->(St->XK)->St->Hp->Prop):Prop:=
 ∀(pins:List (Vb×Obj)) (s:Vc) (σ:St) (H:Hp) (D:Ends) (E:St->XK),Inv Y.nox pins σ H s->t D E σ H ->
  Vf (Vg Y.prog Y.w) Y.A (execs st Y.env) (SP Y.nox pins D) (λe s'=>∃a H1 s1,Inv Y.nox pins a H1 s1/\aK Y.prog Y.w Y.stack H1 s1 (E a) e s') s
def rg:Ends->(St->XK)->St->Hp->Prop:=λD _ σ H=>D.nx σ H
def vp:ic Y [] rg:=λ_ _ σ H _ _ I h=>wpAny_execs_nil ⟨σ,H,I,h⟩
def pV(t u:Ends->(St->XK)->St->Hp->Prop):Ends->(St->XK)->St->Hp->Prop:=λD E σ H=>t ⟨u D E,D.rt,D.bk,D.ct⟩ E σ H
def xr{rest:List Vl}{t u:Ends->(St->XK)->St->Hp->Prop}(h1:PB Y st t)(h2:ic Y rest u):ic Y (st::rest) (pV t u):=by
 intro pins s σ H D E I h;refine wpAny_execs_cons (ao (h1 pins s σ H ⟨u D E,D.rt,D.bk,D.ct⟩ E I h) λf s1 q=>?_);cases f with
 | next=>
  obtain⟨a,H',b,q⟩:=q;exact h2 pins s1 a H' D E b q
 | brk=>exact q
 | cont=>exact q
 | ret v=>exact q
end
structure CalX(P:Vd)(w:Ve)(K:zg)(mg:Vn->Option Va)(base:Vh)(x:Vn)(k:Nat)(ps:List Vn)(sp:Sp):Prop where
 ex:∃(f:Vb) (fd:Vm),mg x=Vo (.ref f)/\PySem.W.keepIn K (.ref f)=true/\Binds K fd ps []/\FnOk P w K mg base (aK P w) k f fd ps sp
def Fly.lands{x:Vb}{H':Hp}{s':Vc}{e:Vh}{da:Option Vb}(F:Fly P w l H s x cls da H' s')(p:Heap.FlyingW B l x cls a0 s'.heap)(r:∀b o,s'.heap.get? b=Vo o->H' b≠Vp->B.get? b=Vo o)
  (j:∀b o o',s.heap.get? b=Vo o->b∉aP l->s'.heap.get? b=Vo o'->B.get? b=Vo o') (d:Heap.FlyingW B l x cls a0 e) (sm:s'.heap.UpToSlots e):Un (aP l) [] H H' s.heap e/\bq P w H' e:=by
 have no:∀b:Vb,b∉([]:List Vb):=λb z=>by cases z
 have h:=p.2.2.1;have up:∀b∈aP l,∀o,s'.heap.get? b=Vo o->∃sl,e.get? b=Vo { o with slots:=sl }:=λb c o k=>by obtain⟨_,o',f,hd⟩:=h.mem c;rw[k]at f;cases f;exact sm b o k hd
 refine⟨⟨λb o q n c _=>d.1 b o (j b o o q c (F.un.keep b o q n c (no b))),λb o q n c _=>?_,F.un.free,λb o q _=>?_,F.un.tups,F.un.frzs,F.un.tbls⟩,λa o q=>?_⟩
 .obtain⟨sl,t⟩:=F.un.slot b o q n c (no b);obtain⟨i,g⟩:=up b c _ t;exact⟨i,g⟩
 .obtain⟨m,g⟩:=F.un.there b o q (no b);by_cases c:b∈aP l
  .obtain⟨sl,v⟩:=up b c _ g;exact⟨_,v⟩
  .exact⟨_,d.1 b m (j b o m q c g)⟩
 .refine(F.hok a o q).stay (λb u c z=>d.1 b u (r b u z ?_)) (λ_ z=>z) λ_ _ z=>z;rcases c with rfl|c
  .rw[q];intro z;cases z
  .rw[c];intro z;cases z
def rN(K:zg)(C:Vb)(i:Nat)(tb:Ends->(St->XK)->St->Hp->Prop)(ts:Vb->Vb->Option Vb->TS):TS:=λD σ H=>
 tb D (λc cls da H1=>∃b,cls=.ref b/\PySem.W.exmOne K (.ref b) (.ref C)=Vo true/\ExcK K b/\∀x,H1 x=Vp ->
  ts x b da ⟨λa H'=>D.nx (a.set i Vp) H',D.rt,λa H'=>D.bk (a.set i Vp) H',λa H'=>D.ct (a.set i Vp) H'⟩ (c.set i (Vo (.ref x))) H1) σ H
def uV{i:Nat}{c n:Vn}{body:List Vl}{b0:Vl}{j:List Vl}{np P pos:Pos}{tb:Ends->(St->XK)->St->Hp->Prop}{ts:Vb->Vb->Option Vb->TS}
  (k:Y.stack=Y.env::Y.outer) (l:Y.env.frame=Vo Y.env.locals) (Q:Y.N.Nodup) (hi:Y.N[i]?=Vo n) (hk:Y.env.kindOf n=Vo .local) (hx:Y.env.scope.names.lookup n=Vo .local) (hm:Y.mg c=Vo (.ref C)) (hg:Gl Y c) (hd:(c == ("__debug__":Vn))=false)
  (hb:ic Y body tb) (hs:∀(x:Vb) (oe:Obj) (p:Vb) (da:Option Vb),ExcK Y.K p->oe.cls=.ref p->(∃vs,oe.data=.fields vs/\vs[2]?=Vo .none)->(∀d,da=Vo d->oe.dict=Vo d)->bM (bK Y x oe) (b0::j) (ts x p da)) :
  PS Y.nox (.Try body [.ExceptHandler (Vo (.Name c np)) (Vo n) (b0::j) P] [] [] pos) (rN Y.K C i tb ts):=by
 intro pins s σ H D I h;refine wpAny_Try_except (wpAny_mono (hb pins s σ H _ _ I h) (λf s1 q=>?_) λe s1 q=>?_)
 .cases f with
  | next=>exact wpAny_execs_nil q
  | brk=>exact q
  | cont=>exact q
  | ret v=>exact q
 obtain⟨a1,H1,s2,I1,x,cls,da,H',rfl,⟨p,rfl,hex,hK,hts⟩,F⟩:=q;obtain⟨B,a0,fl,f1,f2⟩:=F.fly;have ok:Y.nox.Ok:=I1.ok;have a2:Y.A.frames=some (Y.env::Y.outer):=by rw[<-k];exact ok.frames
 have a3:Heap.FlyingW B (Y.env::Y.outer) x (.ref p) a0 s1.heap:=by rw[<-k];exact fl
 refine pJ a2 l a3 F.alone λh4 a4 a5 a6=>oQ (s:={ s1 with heap:=h4 }) a4 a6 λh5 t a7 a8=>?_;have r:s1.heap.UpToSlots h5:=a5.trans a7;have R:∀y,Heap.FlyingW B (Y.env::Y.outer) x (.ref p) a0 y->s1.heap.UpToSlots y->∀g tk dr,g=s1.gens->Inv Y.nox pins a1 H' ⟨y,g,dr,tk,s1.os⟩:=λy m E g tk dr eg=>by obtain⟨un,hok⟩:=F.lands fl f1 f2 (by rw[k];exact m) E;exact I1.call' (s':=⟨y,g,dr,tk,s1.os⟩) F.os un hok (by rw[eg];exact F.bare) (λb z=>by cases z)
 have I5:=R h5 t r s1.gens s1.toks s1.drawn rfl;have a9:PySem.W.Looks (Vg Y.prog Y.w) h5 (typeOf (.ref x)) (.ref p):=by obtain⟨ob,hob,hc⟩:=t.there;exact InstC.type ⟨hob,hc⟩
 refine wpAny_handleBy_cons (codeAny_handlers_test ?_) (by intro q;cases q);refine ek (X:=kb Y.nox x) (I5.marked x) hg hm ?_ hd;refine(PySem.W.exm_one (M:=Vg Y.prog Y.w) I5.kIn a9 hex).here ?_;dsimp only;rw[Aj rfl];refine codeAny_handlers_suite_as (wN (s:={ s1 with heap:=h5 }) t a8 λy m E S=>?_);have I6:=R y m (r.trans E) s1.gens s1.toks s1.drawn rfl;obtain⟨oe,vs,he,hc,T,_⟩:=m.first;have U:x∉aP (Y.env::Y.outer):=λab=>by obtain⟨_,o,ho,ac⟩:=m.2.2.1.mem ab;rw[he]at ho;cases ho;exact ac vs T
 have I7:=I6.pinH (x:=x) he F.new (λz=>U (nc (env:=Y.env) zr (by rw[l,z]))) (λz=>U (by show x∈List.filterMap _ _;rw[List.filterMap_cons,l];exact zo _ z)) (λv z=>by rw[T]at z;cases z);refine fJ (X:=bK Y.nox x oe) (v:=.ref x) I7 Q hi (.inl hx) rfl (λs8 I8=>?_) (.inr hx);refine wpAny_mono (hs x oe p da hK hc (by obtain⟨o',Z,x1,x2,x3,_⟩:=S;rw[he]at x1;cases x1;exact⟨Z,x2,x3⟩) (by obtain⟨o',Z,x1,_,_,x4⟩:=S;rw[he]at x1;cases x1;exact x4) pins s8 _ H' _ I8 (hts x F.new)) (λf s9 q=>?_) λ_ _ z=>z.elim;cases f with
 | next=>
  obtain⟨G,J,L,q⟩:=q;exact ir (X:=Y.nox) (Inv.unpinH ok L) Q hi hk λO a=>⟨_,J,a,q⟩
 | brk=>
  obtain⟨G,J,L,q⟩:=q;exact ir (X:=Y.nox) (Inv.unpinH ok L) Q hi hk λO a=>⟨_,J,a,q⟩
 | cont=>
  obtain⟨G,J,L,q⟩:=q;exact ir (X:=Y.nox) (Inv.unpinH ok L) Q hi hk λO a=>⟨_,J,a,q⟩
 | ret u=>
  obtain⟨v,G,J,L,rv,q⟩:=q;exact ir (X:=Y.nox) (Inv.unpinH ok L) Q hi hk λO a=>⟨v,_,J,a,rv,q⟩
def Dfn.okX{K:zg}{x:Vn}{k:Nat}(D:Dfn K mg x st ps)(S:FnScope N ps (aw st))(len:∀vs H Q E,sp vs H Q E->vs.length=ps.length)
  (a:∀(f:Vb) (cdv:Va) (A:Vi) (outer:List Env) (s:Vc) (H:Hp) (vs:List V) (Q:VK) (E:XK),Room k (A.deeper (envOfC x (aw st) s.heap.objs.size f cdv))->sp vs H Q E ->
   ∃t,bM (aH (aK P w) P w K mg base N x (aw st) f cdv A outer s H E) (bN st) t/\t { nx:=λ_ H'=>Q .non H',rt:=Q } (start N vs) H):CalX P w K mg base x (k+1) ps sp:=by
 obtain⟨f,fd,c,F,d⟩:=D.ex;obtain⟨oc,od,kV,doc,pm,an,cdv,ct,osl,rfl,lk,b⟩:=F.ex;exact⟨f,_,c,F.kp,d,kf lk b S len λA outer s H vs Q E e h=>a f cdv A outer s H vs Q E e h⟩
abbrev j6:List Va:=[.type "ValueError",.type "Exception",.type "BaseException",.type "object"]
def cA(K:zg)(x:Vn):Vb:=match PySem.W.nsIn K Vj x with
 | some (Vo (.ref C))=>C
 | _=>0
def ly(K:zg)(x:Vn):Bool:=
 PySem.W.excIn K (cA K x) j6 "ValueError.__new__" && (match K.lookup (cA K x)with|some ⟨_,_,.cls _,_⟩=>true|_=>false) && PySem.W.findIn K (.ref (cA K x)) "__getattribute__" == Vo (Vo (.builtin "BaseException.__getattribute__")) &&
 PySem.W.findIn K (.ref (cA K x)) "__getattr__" == Vo Vp && PySem.W.subIn K (.ref (cA K x)) (.type "BaseException") == Vo true && PySem.W.findIn K (.ref (cA K x)) "__class__" == Vo (Vo (.builtin "object.__class__")) &&
 PySem.W.specialIn K (.builtin "object.__class__") "__get__" == Vo (Vo (.builtin "getset_descriptor.__get__")) && PySem.W.takesIn K (.builtin "object.__class__") == Vo true && PySem.W.mroIn K (cA K x) (.type "object") == Vo true
structure Xf(K:zg)(mg:Vn->Option Va)(base:Vh)(all raised:List Vn):Prop where
 cl:∀x∈all,mg x=Vo (.ref (cA K x))
 own:∀x∈raised,OwnCls x (cA K x) j6 "ValueError.__new__" mg base
 exk:∀x∈raised,ExcK K (cA K x)
 up:∀x∈raised,PySem.W.exmOne K (.ref (cA K x)) (.ref (cA K "StairError"))=Vo true
 kv:∀x∈raised,PySem.W.kitOne K (.ref (cA K x)) (.type "ValueError")=Vo true
 kc:∀x∈raised,∀y∈all,PySem.W.kitOne K (.ref (cA K x)) (.ref (cA K y))=Vo (x == y || y == ("StairError":Vn))
def jU(K:zg)(all raised:List Vn):Bool:=
 all.all (λx=>PySem.W.nsIn K Vj x == Vo (Vo (.ref (cA K x)))) && raised.all (λx=>all.contains x && ly K x && PySem.W.exmOne K (.ref (cA K x)) (.ref (cA K "StairError")) == Vo true && PySem.W.kitOne K (.ref (cA K x)) (.type "ValueError") == Vo true &&
  all.all λy=>PySem.W.kitOne K (.ref (cA K x)) (.ref (cA K y)) == Vo (x == y || y == ("StairError":Vn)))
def wD{K:zg}{all raised:List Vn}(X:K.In base)(G:base.Ns Vj mg)(h:jU K all raised=true):Xf K mg base all raised:=by
 unfold jU at h;rw[zT,zR,zR]at h;obtain⟨h1,h2⟩:=h;have n1:∀x∈all,PySem.W.nsIn K Vj x=Vo (Vo (.ref (cA K x))):=λx a=>eq_of_beq (h1 x a);have b:∀x∈raised,((((x∈all/\ly K x=true)/\PySem.W.exmOne K (.ref (cA K x)) (.ref (cA K "StairError"))=Vo true)/\PySem.W.kitOne K (.ref (cA K x)) (.type "ValueError")=Vo true)/\∀y∈all,PySem.W.kitOne K (.ref (cA K x)) (.ref (cA K y))=Vo (x == y || y == ("StairError":Vn))):=λx a=>by have:=h2 x a;simp only[zT,beq_iff_eq,List.contains_iff_mem,zR]at this;exact this
 have e:∀x∈raised,PySem.W.excIn K (cA K x) j6 "ValueError.__new__" = true/\ExcK K (cA K x):=λx a=>by
  have:=(b x a).1.1.1.2;unfold ly at this;simp only[zT,beq_iff_eq]at this;obtain⟨⟨⟨⟨⟨⟨⟨⟨a1,a2⟩,a3⟩,a4⟩,a5⟩,a6⟩,a7⟩,a8⟩,a9⟩:=this;refine⟨a1,?_,a3,a4,a5,a6,a7,a8,a9⟩;cases f:K.lookup (cA K x)with
  | none=>rw[f]at a2;cases a2
  | some o=>
   rw[f]at a2;obtain⟨c,d,data,sl⟩:=o;cases data<;>first|exact ⟨_,_,_,_,rfl⟩|cases a2
 exact⟨λx a=>PySem.W.mg_of X G (n1 x a),λx a=>wK X G (n1 x (b x a).1.1.1.1) (e x a).1,λx a=>(e x a).2,λx a=>(b x a).1.1.2,λx a=>(b x a).1.2,λx a=>(b x a).2⟩
theorem rM{K:zg}{t:Va}:∀{Cs:List Vb},(∀C∈Cs,PySem.W.kitOne K t (.ref C)=Vo false)->PySem.W.kitAny K t (Cs.map Value.ref)=Vo false
 | [],_=>rfl
 | C::Cs,h=>by show(match PySem.W.kitOne K t (.ref C)with|some true=>Vo true|some false=>PySem.W.kitAny K t (Cs.map Value.ref)|none=>Vp)=Vo false;rw[h C zr];exact rM λD hD=>h D (zo _ hD)
section
variable {K:zg} {D:Ends} {σ:St} {H:Hp} {Q:VK} {E:XK} {C x:Vb}
def rd_raise{t:TA}(h:t σ H λvs H1=>vs.length<=sizeLine/\E cls Vp H1):pN cls E t D σ H:=h
def f6{b:Bool}(c:PySem.W.kitOne K (.ref C) (.ref a)=Vo b)(h:Q (.bl b) H):jW K x C [.ref x,.ref a] H Q:=⟨b,.inl ⟨a,rfl,c⟩,h⟩
def wQ{p:Vb}{Cs:List Vb}{b:Bool}(a:H p=Vo (.tup (Cs.map V.ref)))(c:PySem.W.kitAny K (.ref C) (Cs.map Value.ref)=Vo b)(h:Q (.bl b) H):jW K x C [.ref x,.ref p] H Q:=⟨b,.inr (.inr ⟨p,Cs,rfl,a,c⟩),h⟩
end
section
variable {K:zg} {D:Ends} {σ:St} {H:Hp} {E:St->XK} {C:Vb} {i:Nat} {t u tb:Ends->(St->XK)->St->Hp->Prop} {ts:Vb->Vb->Option Vb->TS} {c:TT}
def rd_bseq(h:t ⟨u D E,D.rt,D.bk,D.ct⟩ E σ H):pV t u D E σ H:=h
def rd_bnext(h:D.nx σ H):rg D E σ H:=h
end
end L2
namespace Tb
open PySem
end Tb
namespace Tb
open PySem
end Tb
namespace L2
open PySem PySem.Spec PyProof.Rows
namespace SF
end SF
end L2
namespace PyProof.Rows
open PySem
end PyProof.Rows
namespace L2
open PySem PySem.Spec PyProof.Rows
section
variable {X:Cx}
def lT(neg:Bool):R2:=λx y H Q=>∃n p xs d ds,aF H n x d/\y=.ref p/\H p=Vo (.lst xs)/\Paired (aF H n) xs ds/\n<=50/\Q (.bl (if neg then !(ds.any λe=>PyData.eqv e d)else ds.any λe=>PyData.eqv e d)) H
def zb{k:Nat}(b:Room k X.A):aU X (compareOp .In) (lT false):=by intro pins s σ H x y v u Q I c e h;obtain⟨n,p,xs,d,ds,h1,rfl,h2,a,f,q⟩:=h;have g:aF H (n+1) (.ref p) (.list ds):=.inr ⟨p,xs,ds,rfl,.inr ⟨h2,rfl⟩,a⟩;obtain⟨j,ra⟩:=aF.reads I n h1 c;obtain⟨bs,i⟩:=aF.reads I (n+1) g e;have l1:=aF.lay n h1;have l2:=fT (λ{x d}=>aF.lay (H:=H) n) a;have l:=b.units;have m:min (PyData.depthAll ds) d.depth<=50:=zP (Nat.min_le_right _ _) (zP l1.2 f);exact SeqAt.in_list_reads i ra l2.1 l1.1 (by omega) ⟨.bl _,H,I,rfl,q⟩
def uQ{k:Nat}(b:Room k X.A):aU X (compareOp .NotIn) (lT true):=by intro pins s σ H x y v u Q I c e h;obtain⟨n,p,xs,d,ds,h1,rfl,h2,a,f,q⟩:=h;have g:aF H (n+1) (.ref p) (.list ds):=.inr ⟨p,xs,ds,rfl,.inr ⟨h2,rfl⟩,a⟩;obtain⟨j,ra⟩:=aF.reads I n h1 c;obtain⟨bs,i⟩:=aF.reads I (n+1) g e;have l1:=aF.lay n h1;have l2:=fT (λ{x d}=>aF.lay (H:=H) n) a;have l:=b.units;have m:min (PyData.depthAll ds) d.depth<=50:=zP (Nat.min_le_right _ _) (zP l1.2 f);exact SeqAt.notIn_list_reads i ra l2.1 l1.1 (by omega) ⟨.bl _,H,I,rfl,q⟩
def wC{x:V}{p:Vb}{d:PyData}{ds:List PyData}{Q:VK}(h1:aF H n x d)(h2:H p=Vo (.lst xs))(a:Paired (aF H n) xs ds)(b:n<=50)(q:Q (.bl (if neg then !(ds.any λe=>PyData.eqv e d)else ds.any λe=>PyData.eqv e d)) H):lT neg x (.ref p) H Q:=
 ⟨n,p,xs,d,ds,h1,rfl,h2,a,b,q⟩
end
abbrev Row3:=Vn×Tok×Va
def je(w:Ve)(e:Row3):DictEntry:=⟨PyData.keyHash w.params e.1,.str e.1 e.2.1,e.2.2⟩
def dw(w:Ve)(l:List Row3)(ep:Nat):Obj:={ cls:=.type "dict",dict:=Vp,data:=.dict (l.map (je w)).toArray ep,slots:=#[] }
structure GDict(w:Ve)(K:zg)(a:Vb)(kvs:List (Key×V)):Prop where
 has:∃l ep,K.lookup a=Vo (dw w l ep)/\KV kvs (l.map λe=>((Sum.inr e.1:Key),e.2.2))
 nd:(kvs.map (·.1)).Nodup
 sm:(a == sysModules)=false
theorem qK{P:Vd}{w:Ve}:∀l:List Row3,Pairs (cS P w) (l.map (je w)) (l.map λe=>((Sum.inr e.1:Key),e.2.2))
 | []=>.nil
 | e::l=>.cons (lj P w e.1 e.2.1) rfl (qK l)
def w8(l:List Row3):KeysOf (cS P w) (l.map (je w)).toArray:=λe b=>by
 have a:e∈l.map (je w):=by simpa using b
 obtain⟨x,_,rfl⟩:=List.mem_map.mp a;exact⟨.inr x.1,lj P w x.1 x.2.1,rfl⟩
def GDict.at{kvs:List (Key×V)}(D:GDict X.w X.K a kvs)(I:Inv X pins σ H s):∃vs,KV kvs vs/\s.heap.DictOf (cS X.prog X.w) a vs:=by obtain⟨l,ep,b,r⟩:=D.has;refine⟨_,r,dw X.w l ep,_,ep,I.kIn _ _ b,⟨rfl,rfl,rfl⟩,rfl,w8 l,qK l,?_⟩;rw[<-r.keys];exact D.nd
section
variable {X:Cx} {x:Vn} {a:Vb} {kvs:List (Key×V)} {i:Vk} {ty:TE} {p pos:Pos}
def mK(kvs:List (Key×V))(ty:TE):TE:=λσ H Q=>ty σ H λy H1=>∃k v,y=kV k/\bu kvs k=Vo v/\Q v H1
def lG(neg:Bool)(kvs:List (Key×V))(ty:TE):TE:=λσ H Q=>ty σ H λy H1=>∃k,y=kV k/\Q (.bl (if neg then !(bu kvs k).isSome else(bu kvs k).isSome)) H1
def gF(d:Gl X x)(e:X.mg x=some (.ref a))(D:GDict X.w X.K a kvs)(hi:PE X i ty)(f:rG i)(hd:(x == ("__debug__":Vn))=false:=by decide):PE X (.Subscript (.Name x p) i pos) (mK kvs ty):=by intro pins s σ H Q I h;refine vz PySem.F.slot_dict_getitem.lookup f (ek I d e (ao (hi pins s σ H _ I h) λn s2 ⟨y,H2,c,g,k,v,j,l,q⟩=>?_) hd);subst j;obtain⟨vs,rel,dd⟩:=D.at c;obtain⟨r,m,b⟩:=cH.some_of (v:=v) (o:=valueAt vs k) (by rw[<-l];exact rel.val k);exact⟨dd.typeIs,wpAny_getItem_of (ja g) dd.mapOf m ⟨v,H2,c.tok _,b,q⟩⟩
def mS(c:Gl X x)(d:X.mg x=some (.ref a))(D:GDict X.w X.K a kvs)(hi:PE X i ty)(hd:(x == ("__debug__":Vn))=false:=by decide):PC X .In i (.Name x p) (lG false kvs ty):=by intro pins s σ H Q I h;refine ao (hi pins s σ H _ I h) λg s1 ⟨y,H1,b,e,k,f,q⟩=>ek b c d ?_ hd;subst f;obtain⟨vs,rel,dd⟩:=D.at b;refine wpAny_in_of (ja e) D.sm dd.mapOf ?_;rw[<-(rel.val k).isSome_eq];exact⟨.bl (bu kvs k).isSome,H1,b.tok _,rfl,q⟩
def rd_gget{Q:VK}(h:ty σ H λy H1=>∃k v,y=kV k/\bu kvs k=Vo v/\Q v H1):mK kvs ty σ H Q:=h
def rd_gin{Q:VK}(h:ty σ H λy H1=>∃k,y=kV k/\Q (.bl (if neg then !(bu kvs k).isSome else(bu kvs k).isSome)) H1):lG neg kvs ty σ H Q:=h
def eM{R:V->Prop}{z:Vn}(a:bu kvs (.inr z)=Vo v)(h:R v):∃k v,V.str z=kV k/\bu kvs k=Vo v/\R v:=⟨.inr z,v,rfl,a,h⟩
def qI:R2:=λx y H Q=>∃a b,x=.str a/\y=.str b/\Q (.bl (!decide (b.cps.toList<a.cps.toList))) H
def rp:aU X (compareOp .LtE) qI:=by intro pins s σ H x y v u Q I c d h;obtain⟨a,b,rfl,rfl,q⟩:=h;obtain⟨t,rfl⟩:=c;obtain⟨e,rfl⟩:=d;exact PySem.P.le_str ⟨.bl _,H,I,rfl,q⟩
def rd_leS{a b:Vn}{Q:VK}(h:Q (.bl (!decide (b.cps.toList<a.cps.toList))) H):qI (.str a) (.str b) H Q:=⟨a,b,rfl,rfl,h⟩
theorem fI{α β:Type}{f g:α->Option β}:∀{l:List α},(∀x∈l,f x=g x)->l.filterMap f=l.filterMap g
 | [],_=>rfl
 | x::l,h=>by rw[List.filterMap_cons,List.filterMap_cons,h x zr,fI λy a=>h y (zo _ a)]
def xT(n:Nat)(xs:List Va)(h:xs.length=n):(Af n).filterMap (λi:Nat=>xs[((n:Int)-1+(i:Int)*(-1)).toNat]?)=xs.reverse:=by
 refine List.ext_getElem? λi=>?_;have e:(Af n).filterMap (λi:Nat=>xs[((n:Int)-1+(i:Int)*(-1)).toNat]?)=(Af n).map (λi:Nat=>xs.reverse.getD i .none):=by
  rw[<-List.filterMap_eq_map];refine fI λi hi=>?_;have hi:=List.mem_range.mp hi;have:((n:Int)-1+(i:Int)*(-1)).toNat=n-1-i:=by omega
  rw[this,Function.comp_apply,List.getD_eq_getElem?_getD,List.getElem?_reverse (by omega),h,zl (show n-1-i<xs.length by omega)];rfl
 rw[e,zm];by_cases hi:i<n
 .rw[zl (by simpa using hi),zl (by simpa[h]using hi)];simp[List.getD_eq_getElem?_getD,h,hi]
 .rw[List.getElem?_eq_none (by simpa using hi),List.getElem?_eq_none (by simpa[h]using hi)];rfl
def vE(a:List Va):slicePick a.toArray Vp Vp (Vo (-1))=a.reverse.toArray:=by
 unfold slicePick;have e:sliceBounds Vp Vp (Vo (-1)) a.toArray.size=((a.length:Int)-1,-1,-1):=by unfold sliceBounds;simp
 rw[e];refine congrArg List.toArray ?_;rw[<-xT a.length a rfl];unfold sliceRange;simp only;rw[Ai (by decide),List.filterMap_map];have b:(if(a.length:Int)-1 > -1 then((a.length:Int)-1 - -1 - -1-1) / - -1 else 0).toNat=a.length:=by rw[show (- -1:Int)=1 by decide,Int.ediv_one];split<;>omega
 rw[b];refine fI λi hi=>?_;rw[Function.comp_apply,show (a.length:Int)-1 + -1*(i:Int)=(a.length:Int)-1+(i:Int) * -1 by omega];simp
def Vals.rev{us:List Va}(r:Vals xs us):Vals xs.reverse us.reverse:=by
 induction r with
 | nil=>exact .nil
 | cons h t a=>
  rw[List.reverse_cons,List.reverse_cons];exact Vals.append a (.cons h .nil)
def ju(K:zg):V->Hp->VK->Prop:=λx H Q=>∃a xs,x=.ref a/\ag K H a xs/\cI H (.lst xs.reverse) Q
def pR(K:zg)(te:TE)(ts:TO):TE:=λσ H Q=>te σ H λx H1=>ts σ H1 λk H2=>k=Vo (-1)/\ju K x H2 Q
def sI{e st:Vk}{te:TE}{ts:TO}(K:zg)(f:PE X e te)(g:PO X (Vo st) ts)(j:X.K=K:=by rfl):PE X (.Subscript e (.Slice Vp Vp (Vo st) p2) pos) (pR K te ts):=by
 subst j;intro pins s σ H Q I h;refine Subscript_ (ao (f pins s σ H _ I h) λv s1 ⟨x,H1,l,r1,m⟩=>?_);refine wpAny_Slice ?_;rw[evalPart_none];refine zf (zf ?_);refine ao (g pins s1 σ H1 _ l m) λvs s2 ⟨k,H2,n,p,t⟩=>?_;obtain⟨rfl,a,xs,rfl,u,q⟩:=t;cases p with
 | int i tk=>
 cases r1;have c:Inv X pins σ H2 { s2 with heap:=s2.heap.push { cls:=.type "slice",data:=.fields #[.none,.none,.int (-1) tk] } }:=n.kept (t':=s2.toks) λb ob q=>zh _ q;obtain⟨y,r,d,z⟩:=c.list u;have hlen:=r.length;show Vf (Vg X.prog X.w) X.A (subscriptTail e (.Slice Vp Vp (Vo st) p2) (.ref a) (.ref s2.heap.objs.size)) (EP X pins σ Q) X.xe { s2 with heap:=s2.heap.push { cls:=.type "slice",data:=.fields #[.none,.none,.int (-1) tk] } };refine tail_any (ops:=[.ref a,.ref s2.heap.objs.size]) d.isList.typeIs slot_list_getitem.lookup (wpAny_getItem_list_slice d.isList (Heap.IsSliceOf.new ..) .none .none (.int (-1) tk) (by decide) ?_ (by rw[zq];omega)) (by with_unfolding_all rfl);rw[vE];exact⟨.ref _,_,c.laid (t':=s2.toks) (o:=.lst xs.reverse) (λb ob e=>zh _ e) (zF _) ⟨by rw[List.length_reverse];exact z,_,0,r.rev,zi _ rfl⟩,rfl,q _ (c.hok.fresh (zF _))⟩
def rd_revL{K:zg}{te:TE}{ts:TO}{Q:VK}(h:te σ H λx H1=>ts σ H1 λk H2=>k=Vo (-1)/\ju K x H2 Q):pR K te ts σ H Q:=h
def sA{K:zg}{Q:VK}(e:ag K H a xs)(h:cI H (.lst xs.reverse) Q):ju K (.ref a) H Q:=⟨a,xs,rfl,e,h⟩
end
def gp(z:Vn):It:=⟨λi _=>i<z.cps.size,λi H x H'=>H'=H/\∃c,z.cps[i]?=Vo c/\x=.str ⟨#[c]⟩,λi _=>z.cps.size<=i⟩
def xK{K:zg}(z:Vn)(t:Tok)(it:Vb):Turn P w K tg (gp z) [it] it (λi h=>h.IsStrIter it (strIterType z) z t i) where
 mem:=by simp
 obj:=λi h st b j=>by
  have e:b=it:=by simpa using j
  subst e;obtain⟨o,e,c,d⟩:=st;exact⟨o,e,λv z=>by rw[d]at z;cases z⟩
 keep:=λi h h' st k=>by obtain⟨o,e,r⟩:=st;exact⟨o,k it (by simp) o e,r⟩
 item:=by
  intro X n p q y i pins s σ H E I m st B;subst n p q;have l:z.cps[i]?=Vo z.cps[i]:=Array.getElem?_eq_getElem B;obtain⟨C,F,N,G,J,L⟩:=m it (by simp);have fin:∀(ty:String),ty=strIterType z->["enumerate","zip","dict_itemiterator","dict_reverseitemiterator","odict_iterator","itertools.zip_longest","itertools.pairwise"].contains ty=false->∀h',h'.IsStrIter it ty z t (i+1)->Heap.SameBut it s.heap h' ->
    ∃u,Vo (Value.str ⟨#[z.cps[i]]⟩ s.toks)=Vo u/\Vf (Vg X.prog X.w) X.A (letOwnedTupleGo tg (.ref it) u) (λ_ s2=>∃x H',Inv X pins σ H' s2/\RelV x u/\(gp z).yld i H x H'/\s2.heap.IsStrIter it (strIterType z) z t (i+1)/\∀b∈[it],H' b=Vp) E { s with heap:=h',toks:=s.toks+1 }:=by
   intro ty M O h' a sb;have R:Inv X pins σ H { s with heap:=h',toks:=s.toks+1 }:=I.turned (λb o j e=>(sb.2 b j).trans e) C F G J L;obtain⟨o,e,c,d⟩:=id a;exact⟨_,rfl,gP (s:={ s with heap:=h',toks:=s.toks+1 }) e c d O ⟨.str ⟨#[z.cps[i]]⟩,H,R,⟨_,rfl⟩,⟨rfl,_,l,rfl⟩,by rw[<-M];exact a,λb j=>(m b j).1⟩⟩
  cases g:z.cps.all (· < 128)with
  | true=>
   have f:strIterType z = "str_ascii_iterator":=by unfold strIterType;rw[g];rfl
   rw[f]at st;exact wpAny_pyNext_ascii_item st l λh' a sb=>fin _ f.symm (by decide) h' a sb
  | false=>
   have f:strIterType z = "str_iterator":=by unfold strIterType;rw[g];rfl
   rw[f]at st;exact wpAny_pyNext_wide_item st l λh' a sb=>fin _ f.symm (by decide) h' a sb
 done:=by
  intro X n p q y i pins s σ H E I m st B;subst n p q;have l:z.cps[i]?=Vp:=Array.getElem?_eq_none B;obtain⟨C,F,N,G,J,L⟩:=m it (by simp);have fin:∀h',Heap.ExtBut it s.heap h'->(Vp:Option Va)=Vp/\Inv X pins σ H { s with heap:=h' }:=λh' S=>⟨rfl,I.turned (t':=s.toks) (λb o j e=>S b o j e) C F G J L⟩;cases g:z.cps.all (· < 128)with
  | true=>
   have f:strIterType z = "str_ascii_iterator":=by unfold strIterType;rw[g];rfl
   rw[f]at st;exact wpAny_pyNext_ascii_end (I.ok.hd y) st l fin
  | false=>
   have f:strIterType z = "str_iterator":=by unfold strIterType;rw[g];rfl
   rw[f]at st;exact wpAny_pyNext_wide_end (I.ok.hd y) st l fin
 self:=λA i s Q E st h=>by
  cases g:z.cps.all (· < 128)with
  | true=>
   have f:strIterType z = "str_ascii_iterator":=by unfold strIterType;rw[g];rfl
   rw[f]at st;exact wpAny_pyIter_striter_ascii st h
  | false=>
   have f:strIterType z = "str_iterator":=by unfold strIterType;rw[g];rfl
   rw[f]at st;exact wpAny_pyIter_striter_wide st h
section
variable {X:Cx} {tg:Vk}
def pP(tl:TE):TI:=λσ H R=>tl σ H λx H1=>∃z,x=.str z/\R (gp z) H1
def uv{l:Vk}(c:PE X l tl):PI X tg l (pP tl):=by
 intro pins s σ H R I h;refine ao (c pins s σ H _ I h) λv s1 ⟨x,H1,a,r1,d⟩=>?_;obtain⟨z,rfl,q⟩:=d;obtain⟨t,rfl⟩:=r1;refine wpAny_pyIter_strU ?_;refine⟨s1.heap.objs.size,[s1.heap.objs.size],_,_,H1,rfl,a.kept (t':=s1.toks) λb o e=>zh _ e,xK z t _,⟨_,zi _ rfl,rfl,rfl⟩,λb f=>?_,q⟩;have e:b=s1.heap.objs.size:=by simpa using f
 subst e;exact a.fpOk (zF _) (a.hok.fresh (zF _))
end
def rd_iS{te:TE}(h:te σ H λx H1=>∃z,x=.str z/\R (gp z) H1):pP te σ H R:=h
section
variable {X:Cx}
theorem m7:∀{zs:List Vn} {us:List Va},Vals (zs.map V.str) us->StrsAre us zs
 | [],_,r=>by cases r;exact .nil
 | z::zs,_,r=>by
  cases r with
  | cons h t=>
   obtain⟨t',rfl⟩:=h;exact .cons z t' (m7 t)
def oX(K:zg){o:Vk}{name:Vn}{apos cpos:Pos}{id:String}(d:PlainAttrs T)(slot:Slot T name id)(c:typeOf (.builtin id)=pure (.type "method_descriptor"))(e:gg X id r)(f:PE X o to)(h:X.K=K:=by rfl)
  (a:attributeBase o name X.env (eval o X.env)=eval o X.env:=by rfl) (b:(apos.endLine == cpos.line)=true:=by rfl):PE X (.Call (.Attribute o name apos) [] [] cpos) (kx K T r to):=by
 subst h;exact wg d slot c e f a b
end
def rd_bm0{K:zg}{Q:VK}(h:to σ H λx H1=>fq K T x H1/\r x [] H1 Q):kx K T r to σ H Q:=h
def rD(a b:Vn)(te:TE):TE:=λσ H Q=>te σ H λv H1=>∃i:Int,v=.int i/\i.natAbs.log2<1920/\(Str.empty++a++(toString i:Vn)).length<=sizeLine/\(Str.empty++a++(toString i:Vn)++b).length<=sizeLine/\∀z,Q (.str z) H1
def vZ{a b:Vn}{j l:Nat}{e:Vk}{te:TE}{m n pos:Pos}(o:PE X e te)(p:(Str.empty++a).length<=sizeLine:=by decide +kernel):PE X (.JoinedStr [.Constant (.str a) j m,.FormattedValue e (-1) Vp p2,.Constant (.str b) l n] pos) (rD a b te):=by intro pins s σ H Q I h;refine JoinedStr_many (joinParts_cons (ao ((ar:PE X (.Constant (.str a) j m) (tC (.str a))) pins s σ H (λv H1=>v=V.str a/\H1=H) I ⟨rfl,rfl⟩) λv s1 ⟨x,H1,r,r1,d,f⟩=>?_));subst d f;obtain⟨t,rfl⟩:=r1;refine⟨p,joinParts_cons (FormattedValue_plain (ao (o pins s1 σ H1 _ r h) λv s2 ⟨y,H2,u,w,i,z,A,g,c,q⟩=>?_))⟩;subst z;obtain⟨E,rfl⟩:=w;refine formatField_int_small A ⟨g,joinParts_cons (ao ((ar:PE X (.Constant (.str b) l n) (tC (.str b))) pins _ σ H2 (λv k=>v=V.str b/\k=H2) (u.tok _) ⟨rfl,rfl⟩) λv F ⟨x,k,B,C,d,f⟩=>?_)⟩;subst d f;obtain⟨G,rfl⟩:=C;exact⟨c,joinParts_nil ⟨.str _,k,B.tok _,⟨_,rfl⟩,q _⟩ c⟩
def rd_fs3{a b:Vn}{te:TE}{Q:VK}(h:te σ H λv H1=>∃i:Int,v=.int i/\i.natAbs.log2<1920/\(Str.empty++a++(toString i:Vn)).length<=sizeLine/\(Str.empty++a++(toString i:Vn)++b).length<=sizeLine/\∀z,Q (.str z) H1):rD a b te σ H Q:=h
def vQ{K:zg}{i:Nat}{tb:Ends->(St->XK)->St->Hp->Prop}{ts:Vb->Vb->Option Vb->TS}{D:Ends}(P:Vb->St->Hp->Prop)(h1:∀E:St->XK,(∀a c H1,P c a H1->E a (.ref c) Vp H1)->tb D E σ H)
  (h2:∀a c H1,P c a H1->PySem.W.exmOne K (.ref c) (.ref C)=Vo true/\ExcK K c/\∀x,H1 x=Vp->ts x c Vp ⟨λb H'=>D.nx (b.set i Vp) H',D.rt,λb H'=>D.bk (b.set i Vp) H',λb H'=>D.ct (b.set i Vp) H'⟩ (a.set i (Vo (.ref x))) H1):rN K C i tb ts D σ H:=
 h1 _ λa c H1 p=>⟨c,rfl,h2 a c H1 p⟩
section
variable {prog:Vd} {w:Ve} {A:Vi} {E:Va->Vc->Prop} {s:Vc} {dd:Option Vb}
def tU{it t x:Vb}{i:Nat}{Q:Option Va->Vc->Prop}(g:A.handled=Vo (.ref x))(h:bg s.heap x dd)(a:x≠it)
  (hit:IsTupIter s.heap it t i) (j:IsTup s.heap t items) (hi:items[i]?=Vp) (l:∀h',Heap.ExtBut it s.heap h'->Q Vp { s with heap:=h' }):Vf (Vg prog w) A (pyNext (.ref it)) Q E s:=by
 obtain⟨o,c,y,hd⟩:=id hit;obtain⟨ol,d,_,nl,f⟩:=j;refine qB ?_;refine Ae (name:=zU "__next__") hit.typeIs slot_tupleiter_next (wpAny_call_entry slot_tupleiter_next hit.typeIs entry_tupleiter_next ?_ (args_tupleiter_next _));have m:¬((Value.ref t == Value.none)=true):=zB;show Vf _ _ (field (.ref it) 0 >>= λq=>_) _ _ s;refine ze (wpAny_field (x:=.ref t) c hd rfl ?_);show Vf _ _ (ite ((Value.ref t == Value.none)=true) _ _) _ _ s;rw[Ai m];show Vf _ _ (field (.ref it) 1 >>= λq=>_) _ _ s;refine ze (wpAny_field (x:=.int i 0) c hd rfl ?_);show Vf _ _ (seqItems? (.ref t) >>= λq=>_) _ _ s;refine ze (wpAny_seqItems d f ?_);simp only[zy,hi];have S:=Heap.SameBut.update s.heap it (Obj.mapFields (·.setIfInBounds 0 Value.none));refine ze (wpAny_rule (ze (wpAny_setField (x:=.none) c hd (by simp) ?_)));have al:bg (s.heap.update it (Obj.mapFields (·.setIfInBounds 0 Value.none))) x dd:=by obtain⟨ox,vs,n,r⟩:=h;exact⟨ox,vs,(S.2 x a).trans n,r⟩
 refine pw (A:=A.in1) g al λh' e k z=>?_;obtain⟨p,z1,z2⟩:=z;exact⟨e,p,rfl,z1,z2,l h' λb o' u v=>k b o' ((S.2 b u).trans v)⟩
def xJ{t x:Vb}{Q:List Va->Vc->Prop}(m:A.handled=Vo (.ref x))(k:bg s.heap x dd)(c:IsTup s.heap t items)
  (n:∀h',Heap.ExtBut s.heap.objs.size s.heap h'->Q items.toList { s with heap:=h' }):Vf (Vg prog w) A (unpackItems (.ref t) items.size Vp) Q E s:=by
 have hlt:t≠s.heap.objs.size:=by obtain⟨o,g,_⟩:=c;exact zE (zj g)
 have d:x≠s.heap.objs.size:=by obtain⟨o,_,g,_⟩:=k;exact zE (zj g)
 unfold unpackItems;refine ze ?_;unfold notIterableAtAll;refine ze (wpAny_specialOf c.typeIs slot_tuple_iter.lookup ?_);refine zf ?_;simp only[zZ,if_false];refine ze (wpAny_holding (iter_tuple c ?_));refine ze (wpAny_holding (draw_tuple hlt items.size 0 _ _ ⟨_,zi _ rfl,rfl,rfl⟩ (c.push _) (by omega) λh1 f a=>?_));rw[show List.take items.size (List.drop 0 items.toList)=items.toList by rw[List.drop_zero];exact List.take_of_length_le (by simp),Ai (by simp)];have h:IsTup h1 t items:=(c.push _).extBut a.extBut hlt;have i:bg h1 x dd:=by obtain⟨ox,vs,p,r⟩:=k;exact⟨ox,vs,(a.2 x d).trans (zh _ p),r⟩
 refine ze (wpAny_holding (tU m i d f h (by simp) λh2 j=>?_));simp only[Option.isSome_none,zZ,if_false];exact zf (n h2 λb o l e=>j b o l (a.extBut b o l (zh _ e)))
def yq{x1}{pos:Pos}{t x:Vb}{Q:Unit->Vc->Prop}(b:A.handled=Vo (.ref x))(c:bg s.heap x dd)(d:IsTup s.heap t items)
  (e:(assignEach elts env).length=items.size) (a:(assignEach elts env).findIdx? (·.1)=Vp)
  (h:∀h',Heap.ExtBut s.heap.objs.size s.heap h'->Vf (Vg prog w) A (assignInOrder ((assignEach elts env).map (·.2)) items.toList) Q E { s with heap:=h' }) :
  Vf (Vg prog w) A (assign (.Tuple elts x1 pos) env (.ref t)) Q E s:=by
 rw[assign_Tuple];refine ze (wpAny_standAt ?_);unfold unpack;rw[e,a];exact ze (wpAny_holding (xJ b c d h))
end
def iE(X:Cx):Prop:=∃x,X.A.handled=Vo (.ref x)/\∀pins σ H s,Inv X pins σ H s->bg s.heap x Vp
def Hz(X:Cx)(x:Vb)(oe:Obj)(z:Blk):Prop:=z.s.heap.get? x=Vo oe/\z.H x=Vp/\x∉z.fp/\x∉aP X.stack
section
variable {X:Cx} {x:Vb} {oe:Obj}
def qU{b:List Nat}{z:Blk}(a:∃vs,oe.data=.fields vs/\vs[2]?=Vo .none)(h:Hz (bK X x oe) x oe z):iE (cy (bK X x oe) sc own b z):=by obtain⟨vs,hd,h2⟩:=a;exact⟨x,rfl,λpins σ H s I=>⟨oe,vs,I.base.keep x oe h.1 h.2.1 h.2.2.2 h.2.2.1,hd,h2,λ_ z=>by cases z⟩⟩
def xu{es:List Vk}{k:Nat}{t:cG}{pos:Pos}(K:zg)(i:iE Y)(h:ff Y es t)(j:Y.K=K:=by rfl)
  (l:(assignEach es Y.env).length=n:=by rfl) (c:(assignEach es Y.env).findIdx? (·.1)=Vp:=by rfl):PG Y (.Tuple es k pos) (jf K n t):=by
 subst j;intro pins s σ H v u Q I r d;obtain⟨a,xs,m,p,q,d⟩:=d;subst m;cases r;obtain⟨x,f,al⟩:=i;obtain⟨w,g,y,A⟩:=I.tuple p;refine yq f (al _ _ _ _ I) y (by simp[l,<-q,g.length]) c λh' f=>?_;have z:Inv Y pins σ H { s with heap:=h' }:=I.kept (t':=s.toks) λb o e=>f b o (zE (zj e)) e;exact h pins _ σ H xs _ Q z (by simpa using g) d
def tW(C:iE Y)(a it:Vb)(hit:∀x,Y.A.handled=Vo (.ref x)->x≠it):TurnAt Y tg (cD Y.K a) [it] it (λi h=>h.IsListIter it a i) where
 obj:=(iI (P:=Y.prog) (w:=Y.w) (K:=Y.K) (tg:=tg) a it).obj
 keep:=(iI (P:=Y.prog) (w:=Y.w) (K:=Y.K) (tg:=tg) a it).keep
 item:=by intro i pins s σ H E I j st l;obtain⟨xs,x,k,m⟩:=l;obtain⟨n,q,p,F⟩:=I.list k;obtain⟨u,G,J⟩:=q.get m;obtain⟨r,t,L,v,y,z⟩:=j it (by simp);refine wpAny_pyNext_list_item st p.isList (x:=u) (by simpa using G) λh' f sb=>?_;have M:Inv Y pins σ H { s with heap:=h' }:=I.turned (t':=s.toks) (λb o g e=>(sb.2 b g).trans e) r t v y z;obtain⟨o,e,c,d⟩:=id f;exact⟨u,rfl,gP (s:={ s with heap:=h' }) e c d (by decide) ⟨x,H,M,J,⟨rfl,λys N=>by rw[I.list_inj N k];exact m⟩,f,λb g=>(j b g).1⟩⟩
 done:=by intro i pins s σ H E I j st l;obtain⟨xs,k,m⟩:=l;obtain⟨n,q,p,F⟩:=I.list k;obtain⟨r,t,L,v,y,z⟩:=j it (by simp);have Q:=q.length;obtain⟨x,B,al⟩:=C;exact x9 B (al _ _ _ _ I) (hit x B) st p.isList (by simp;omega) λh' O=>⟨rfl,I.turned (t':=s.toks) (λb o g e=>O b o g e) r t v y z⟩
 self:=(iI (P:=Y.prog) (w:=Y.w) (K:=Y.K) (tg:=tg) a it).self
def xN(K:zg){pos:Pos}(own:List Vn)(d:List Nat){t:TE}{te:TE}(i:∃vs,oe.data=.fields vs/\vs[2]?=Vo .none)(hi:PE (bK X x oe) iter t)
  (B:∀z,iE (cy (bK X x oe) sc own d z)->PG (cy (bK X x oe) sc own d z) tg g) (E:∀z,eX (cy (bK X x oe) sc own d z) ifs tc)
  (F:∀z,PE (cy (bK X x oe) sc own d z) elt te) (G:X.K=K:=by rfl) (u:sc.kind=.function:=by rfl) (j:ef sc (bK X x oe).env.scope=true:=by rfl) (L:eU sc (bK X x oe).N d=true:=by rfl)
  (M:∀y,foldedSetIterable iter (bK X x oe).env y=pure y:=by intro _;rfl):PE (bK X x oe) (.ListComp elt [⟨tg,iter,ifs,0⟩] sc pos) (iC own.length d (jl K t) g tc te):=by
 subst G;intro pins s σ H Q I h;rw[eval_ListComp];refine wpAny_comprehension_free (use:=Vp) rfl M (lJ λp c O=>I.ok.has p.1 (kN j c O)) u (λp c P=>vJ j c P) (ao (hi pins s σ H _ I h) λv s1 h1=>?_);obtain⟨v1,H1,f,r1,a,rfl,⟨xs,R⟩,W,w0,turn⟩:=h1;cases r1;obtain⟨S,rv,p,k⟩:=f.list R;refine wpAny_pyIter_list p.isList ?_;have T:Inv (bK X x oe) pins σ H1 { s1 with heap:=s1.heap.push { cls:=.type "list_iterator",data:=.fields #[.ref a,.int 0 0] } }:=f.kept (t':=s1.toks) λb o e=>zh _ e;have c:=f.pin (x,oe) (zX _ zr);have k:∀C,Hz (bK X x oe) x oe ⟨{ s1 with heap:=s1.heap.push { cls:=.type "list_iterator",data:=.fields #[.ref a,.int 0 0] } },H1,[s1.heap.objs.size],C⟩:=λC=>by
  refine⟨zh _ c.1,c.2.1,λz=>?_,λz=>?_⟩
  .have:x=s1.heap.objs.size:=by simpa using z
   exact absurd (zj c.1) (by rw[this];exact Nat.lt_irrefl _)
  .rcases zA.mp (f.stkSub x z)with e|e
   .exact c.2.2.1 e
   .exact c.2.2.2.1 e
 refine sU (it:=s1.heap.objs.size) (fp:=[s1.heap.objs.size]) (J:=cD X.K a) (W:=W) (RR:=λacc C=>compPost (Vg X.prog X.w) (bK X x oe).A (bK X x oe).xe Vp (EP (bK X x oe) pins σ Q) acc C) u j L (λC=>B _ (qU i (k C))) (λC=>E _) (λC=>F _) T
  (λC=>tW (qU i (k C)) a s1.heap.objs.size λU l=>by cases(show Vo (Value.ref x)=Vo (Value.ref U)from l);exact zE (zj c.1)) ⟨_,zi _ rfl,rfl,rfl⟩ (λb j=>?_) w0 turn ?_
 .have e:b=s1.heap.objs.size:=by simpa using j
  subst e;exact f.fpOk (zF _) (f.hok.fresh (zF _))
 intro D C s' ys H' nD Y Z ⟨m,hm⟩ _ q;refine⟨m,hm,λh' n=>?_⟩;obtain⟨f0,f1,f2,f3,f4,f5⟩:=Z;exact⟨.ref D,_,Y.turned (t':=s'.toks) (it:=C) (λb o r e=>(n.2 b r).trans e) f0 f1 f3 f4 f5,rfl,q⟩
end
section
variable {X:Cx}
def wc(K:zg):V->List V->Hp->VK->Prop:=λx vs H Q=>∃sep l zs,x=.str sep/\vs=[.ref l]/\ag K H l (List.map V.str zs)/\(zs.map (·.length)).sum+zs.length*sep.length<=1000000/\Q (.str (Txt.join sep zs)) H
def fZ(K:zg)(a:X.K=K:=by rfl):gg X "str.join" (wc K):=by subst a;intro pins s σ H x vs v us Q I b c h;obtain⟨sep,l,zs,rfl,rfl,d,e,q⟩:=h;obtain⟨t,rfl⟩:=b;obtain⟨u,rfl,f⟩:=vals1 c;cases f;obtain⟨g,r,pl,i⟩:=I.list d;exact PyProof.Rows.join_list pl.isList (by simpa using m7 r) (zP e (by decide)) λj k=>⟨.str _,H,I.tok _,⟨_,rfl⟩,q⟩
end
theorem iF{x:Vn}{c:Vb}:∀(names:List (Vn×NameKind)) (n:Nat) (acc:List (Vn×Vb)),(cellsFrom n names acc).lookup x=Vo c->acc.lookup x=Vo c\/(n<=c/\(x,NameKind.cell)∈names)
 | [],_,_,h=>.inl h
 | (y,k)::r,n,acc,h=>by
  unfold cellsFrom at h;by_cases a:(k == NameKind.cell)=true
  .rw[Aj a]at h;have b:k=.cell:=by simpa using a
   subst b;rcases iF r (n+1) ((y,n)::acc) h with h|⟨h1,h2⟩
   .rw[Ab]at h;cases d:x == y with
    | true=>
     rw[d]at h;cases h;rw[beq_iff_eq.mp d];exact .inr ⟨zF _,zr⟩
    | false=>rw[d]at h;exact .inl h
   .exact .inr ⟨Nat.le_of_succ_le h1,zo _ h2⟩
  .rw[Ai a]at h;rcases iF r n acc h with h|⟨h1,h2⟩
   .exact .inl h
   .exact .inr ⟨h1,zo _ h2⟩
theorem lQ{x y:Vn}{c:Vb}:∀(names:List (Vn×NameKind)) (n:Nat) (acc:List (Vn×Vb)),(∀x c,acc.lookup x=Vo c->@LT.lt Nat _ c n)->(∀x y c,acc.lookup x=Vo c->acc.lookup y=Vo c->x=y)->(cellsFrom n names acc).lookup x=Vo c->(cellsFrom n names acc).lookup y=Vo c->x=y
 | [],_,_,_,hi,h1,h2=>hi _ _ _ h1 h2
 | (z,k)::r,n,acc,b,hi,h1,h2=>by
  unfold cellsFrom at h1 h2;by_cases f:(k == NameKind.cell)=true
  .rw[Aj f]at h1 h2;refine lQ r (n+1) ((z,n)::acc) (λx c h=>?_) (λx y c h1 h2=>?_) h1 h2
   .rw[Ab]at h;cases e:x == z with
    | true=>rw[e]at h;cases h;exact Nat.lt_succ_self _
    | false=>rw[e]at h;exact Nat.lt_succ_of_lt (b x c h)
   .rw[Ab]at h1 h2;cases d:x == z with
    | true=>
     rw[d]at h1;cases h1;cases a:y == z with
     | true=>rw[beq_iff_eq.mp d,beq_iff_eq.mp a]
     | false=>rw[a]at h2;exact absurd (b _ _ h2) (Nat.lt_irrefl _)
    | false=>
     rw[d]at h1;cases a:y == z with
     | true=>rw[a]at h2;cases h2;exact absurd (b _ _ h1) (Nat.lt_irrefl _)
     | false=>rw[a]at h2;exact hi _ _ _ h1 h2
  .rw[Ai f]at h1 h2;exact lQ r n acc b hi h1 h2
theorem kT{x:Vn}{c:Vb}:∀(names:List (Vn×NameKind)) (h:Vh) (acc:List (Vn×Vb)),(cellsFrom h.objs.size names acc).lookup x=Vo c->acc.lookup x=Vo c\/(pushCells h names).IsCell c Vp
 | [],_,_,e=>.inl e
 | (y,k)::r,h,acc,e=>by
  unfold cellsFrom at e;unfold pushCells;by_cases a:(k == NameKind.cell)=true
  .rw[Aj a]at e ⊢;rw[<-Heap.size_push h { cls:=.type "cell",data:=.cell none }]at e;rcases kT r (h.push { cls:=.type "cell",data:=.cell none }) ((y,h.objs.size)::acc) e with e|e
   .rw[Ab]at e;cases b:x == y with
    | true=>
     rw[b]at e;cases e;exact .inr ⟨_,pushCells_keeps _ _ _ _ (zi _ rfl),rfl⟩
    | false=>rw[b]at e;exact .inl e
   .exact .inr e
  .rw[Ai a]at e ⊢;exact kT r h acc e
section
variable {M:Model} {A:Vi} {E:Va->Vc->Prop} {s:Vc}
def ub{scope:Scope}{globals:Vb}{closure:List (Vn×Vb)}{func:Option Vb}{code:Va}{outer:Env}{builtins:Vb}{Q:Env->Vc->Prop}
  (b:Q (newEnv scope s.heap.objs.size globals (cellsFrom (s.heap.objs.size+1) scope.names closure) qual func code (Vo outer) builtins) { s with heap:=pushCells (s.heap.push { cls:=.type "dict",data:=.dict #[] }) scope.names }) :
  Vf M A (newFunctionEnv scope globals closure [] qual func code (Vo outer) builtins) Q E s:=by
 simp only[newFunctionEnv,Option.isSome_some,if_true];refine ze (wpAny_alloc ?_);refine ze (wpAny_layCells _ (λname kind cells=>by cases a:kind == NameKind.cell<;>simp[a]) _ _ _ _ ?_);rw[show ({ s with heap:=s.heap.push { cls:=.type "dict",data:=.dict #[] } }:Vc).heap.objs.size=s.heap.objs.size+1 from Heap.size_push ..];refine ze ?_;rw[List.forIn_nil];exact zf (zf b)
end
def fu(X:Cx)(sc:Scope)(C:Vb):List (Vn×Vb):=cellsFrom (Nat.succ C) sc.names (cE sc.names X.env.cells)
def bS(X:Cx)(sc:Scope)(own:List Vn)(a:List Nat)(z:Blk):Cx where
 prog:=X.prog
 w:=X.w
 K:=X.K
 mg:=X.mg
 base:=X.base
 A:=X.A
 N:=own++a.map λj=>X.N.getD j ""
 s₀:=z.s
 H₀:=z.H
 env:=compEnvC sc (fu X sc z.C) z.C X.env
 outer:=X.stack
 stack:=X.stack
 ex:=z.fp
 fn:=λx=>sc.names.lookup x == Vo .cell
 calm:=X.calm
 pn:=[]
 xe:=λ_ _=>False
def cO(sc out:Scope):Bool:=sc.names.all λp=>(p.2 != .cell || sc.names.lookup p.1 == Vo .cell) && (p.2 != .local || sc.names.lookup p.1 == Vo .local) && (p.2 != .free || out.names.lookup p.1 == Vo .cell || out.names.lookup p.1 == Vo .free) && (p.2 != .free || sc.names.lookup p.1 == Vo .free)
def i6(h:cO sc out=true)(a:p∈sc.names)(b:p.2=.free):out.names.lookup p.1=Vo .cell\/out.names.lookup p.1=Vo .free:=by have:=zR.mp h p a;simp[b]at this;exact this.1
def vT(h:cO sc out=true){x:Vn}(a:(x,NameKind.free)∈sc.names)(h2:sc.names.lookup x=Vo .cell):False:=by have:=zR.mp h _ a;simp[h2]at this
def vy(h:cO sc out=true)(a:p∈sc.names)(b:p.2=.cell):sc.names.lookup p.1=Vo .cell:=by have:=zR.mp h p a;simp[b]at this;exact this
def nE(h:cO sc out=true)(a:p∈sc.names)(b:p.2=.local):sc.names.lookup p.1=Vo .local:=by have:=zR.mp h p a;simp[b]at this;exact this
section
variable {X:Cx} {pins:List (Vb×Obj)} {σ:St} {H:Hp} {s:Vc}
def gY(ok:X.Ok)(a:cO sc X.env.scope=true){x:Vn}(h:(cE sc.names X.env.cells).lookup x=Vo c):X.env.cells.lookup x=Vo c:=by
 rcases iW X.env.cells sc.names [] x c h with⟨h1,h2⟩|h1
 .obtain⟨d,hd⟩:=ok.has x (i6 a h1 rfl);rw[hd]at h2 ⊢;rw[h2];rfl
 .simp at h1
def f7(ok:X.Ok)(a:cO sc X.env.scope=true){x:Vn}(h:(fu X sc C).lookup x=Vo c):X.env.cells.lookup x=Vo c\/(@LT.lt Nat _ C c/\sc.names.lookup x=Vo .cell):=by
 rcases iF _ _ _ h with h|⟨h1,h2⟩
 .exact .inl (gY ok a h)
 .exact .inr ⟨h1,vy a h2 rfl⟩
def ma{x:Vn}(h:(x,NameKind.free)∈sc.names):∃c,(fu X sc C).lookup x=Vo c:=by obtain⟨c,a⟩:=iV (cells:=X.env.cells) h;exact Option.isSome_iff_exists.mp (PySem.W.cellsFrom_some sc.names _ _ (.inr (by rw[a];rfl)))
def wZ(I:Inv X pins σ H s)(a:cO sc X.env.scope=true){x:Vn}(h:(cE sc.names X.env.cells).lookup x=Vo c):@LT.lt Nat _ c s.heap.objs.size:=I.cell_lt (gY I.ok a h)
def ug(I:Inv X pins σ H s){n:List Nat}{C:Nat}(p:sc.kind=.function)(d:cO sc X.env.scope=true)
  (hfp:∀b∈fp,bA X pins H b) (f:s.heap.objs.size<=C) (hlt:∀b∈fp,b<s.heap.objs.size):(bS X sc own n ⟨s,H,fp,C⟩).Ok where
 mod:=I.ok.mod
 kind:=p
 glob:=I.ok.glob
 blt:=I.ok.blt
 above:=f
 inj:=λx y c h1 h2=>lQ sc.names _ _ (λx c e=>Nat.lt_succ_of_le (zP (Nat.le_of_lt (wZ I d e)) f)) (λx y c g q=>I.ok.inj x y c (gY I.ok d g) (gY I.ok d q)) h1 h2
 has:=λx i=>by
  have j:(relabel sc X.env).names.lookup x=Vo .cell\/(relabel sc X.env).names.lookup x=Vo .free:=i;have go:∀k,(relabel sc X.env).names.lookup x=Vo k->(k=.cell\/k=.free)->∃c,(fu X sc C).lookup x=Vo c:=λk h l=>by
   obtain⟨u,h1,h2⟩:=eW (sc:=sc) (env:=X.env) h;have m:=jj h1;rcases h2 with h2|⟨h2,_⟩
   .subst h2;rcases l with e|e
    .rw[e]at h1;exact Option.isSome_iff_exists.mp (PySem.W.cellsFrom_some sc.names _ _ (.inl h1))
    .rw[e]at m;exact ma m
   .rw[h2]at m;exact ma m
  rcases j with h|h
  .exact go _ h (.inl rfl)
  .exact go _ h (.inr rfl)
 cab:=λx c h e=>by
  have i:sc.names.lookup x=Vo .cell:=by simpa[bS]using h
  have r:(fu X sc C).lookup x=Vo c:=e;rcases iF _ _ _ r with g|⟨g,_⟩
  .rcases iW X.env.cells sc.names [] x c g with⟨h1,_⟩|h1
   .exact(vT d h1 i).elim
   .simp at h1
  .exact zP f (Nat.le_of_succ_le g)
 hd:=I.ok.hd
 frames:=I.ok.frames
 stk:=.inl rfl
 exf:=λb a=>⟨zE (zO (hlt b a) f),λx c e=>by
  rcases f7 I.ok d (C:=C) e with e|⟨e,_⟩
  .exact(hfp b a).2.2.2.2.1 x c e
  .exact Nat.ne_of_gt (Nat.lt_trans (zO (hlt b a) f) e)⟩
 bs:=I.bs
 bsz:=zP I.ok.bsz I.sz
 noex:=λb o e a=>by
  rcases(hfp b a).2.2.2.1 with z|z
  .exact I.ok.noex b o e z
  .exact absurd (zO (zj e) (zP I.ok.bsz z)) (Nat.lt_irrefl _)
 exfs:=λb a t=>by
  rcases zA.mp (I.stkSub b t)with e|h
  .exact(hfp b a).2.1 e
  .exact(hfp b a).2.2.1 h
 funs:=I.stack
 frf:=I.stkFree
def sM(I:Inv X pins σ H s){t:List Nat}{C D:Nat}{tk:Nat}{m:Vn->Option Va}(R:sc.kind=.function)(y:cO sc X.env.scope=true)(S:eU sc X.N t=true)
  (hfp:∀b∈fp,bA X pins H b) (hlt:∀b∈fp,b<s.heap.objs.size) (hD:D=s.heap.objs.size) (hC:C=s.heap.objs.size+1) (old:∀b o,s.heap.get? b=Vo o->h1.get? b=Vo o)
  (B:h1.get? D=Vo o) (E:∀v,o.data≠.cell v) (T:h1.Ns C m) (F:∀x c,(fu X sc C).lookup x=Vo c->(cE sc.names X.env.cells).lookup x=Vo c\/h1.IsCell c Vp) :
  Inv (bS X sc own t ⟨s,H,fp,C⟩) [(D,o)] (bG own.length t σ) H { s with heap:=h1,toks:=tk } where
 ok:=ug I R y hfp (show @LE.le Nat _ s.heap.objs.size C by omega) hlt
 os:=rfl
 bare:=I.bare
 base:=Un.kept old
 loc:=by
  refine⟨m,T,λi x v U W Y=>?_⟩;obtain⟨k,j,rfl,O,es⟩:=i4 W;have A:(own++t.map λj=>X.N.getD j "")[own.length+k]?=Vo x:=U;rw[zJ (by omega),Nat.add_sub_cancel_left,zm,O]at A;have ex:X.N.getD j "" = x:=by simpa using A
  have h:=zR.mp S j (zv O);simp only[zT,decide_eq_true_eq,beq_iff_eq]at h;have G:X.N[j]?=some x:=by rw[<-ex,List.getD_eq_getElem?_getD,zl h.1];rfl
  have a:sc.names.lookup x=some .free:=by rw[<-ex];exact h.2
  have f:=jj a;have g:=i6 y f rfl;obtain⟨m0,Z,J⟩:=I.loc;obtain⟨u,r,l⟩:=J j x v G es (by rcases g with z|z;exact .inr (.inl z);exact .inr (.inr z));refine⟨u,r,?_⟩;obtain⟨c,P⟩:=ma (X:=X) (C:=C) f;have K:X.env.cells.lookup x=Vo c:=by
   rcases f7 I.ok y P with e|⟨_,e⟩
   .exact e
   .rw[a]at e;cases e
  have n:s.heap.IsCell c (Vo u):=by
   rcases l with⟨z,_⟩|⟨_,c',Q,q⟩
   .have z':X.env.scope.names.lookup x=Vo .local:=z;rcases g with w|w<;>(rw[z']at w;cases w)
   .rw[K]at Q;cases Q;exact q
  have d:h1.IsCell c (Vo u):=by obtain⟨oc,L,hd⟩:=n;exact⟨oc,old c oc L,hd⟩
  right;refine⟨?_,c,P,d⟩;have M:(relabel sc X.env).names.lookup x=Vo .local\/(relabel sc X.env).names.lookup x=Vo .cell\/(relabel sc X.env).names.lookup x=Vo .free:=Y;rcases M with z|z
  .obtain⟨k',z1,z2⟩:=eW (sc:=sc) (env:=X.env) z;rw[a]at z1;rcases z2 with z2|⟨_,z2⟩
   .rw[z2]at z1;cases z1
   .cases z2
  .exact z
 cell:=λx c e=>by
  rcases F x c e with e|e
  .obtain⟨v,oc,L,hd⟩:=I.cell x c (gY I.ok y e);exact⟨v,oc,old c oc L,hd⟩
  .exact⟨Vp,e⟩
 free:=I.hok.fresh (show @LE.le Nat _ s.heap.objs.size C by omega)
 freeC:=λx c e=>by
  rcases f7 I.ok y (C:=C) e with e|⟨e,_⟩
  .exact I.freeC x c e
  .exact I.hok.fresh (show @LE.le Nat _ s.heap.objs.size c by omega)
 pin:=λp hp=>by
  have e:p=(D,o):=by simpa[bS]using hp
  subst e;refine⟨B,I.hok.fresh (show @LE.le Nat _ s.heap.objs.size D by omega),?_,λz=>?_,E⟩
  .exact zE (show @LT.lt Nat _ D C by omega)
  .have h9:@LT.lt Nat _ D s.heap.objs.size:=I.stk_lt (b:=D) z;omega
 hok:=I.hok.kept old
 len:=by show(bG own.length t σ).length=(own++t.map λj=>X.N.getD j "").length;simp[bG]
def o8{pos:Pos}{K:List Nat}{te:TE}{J:It}{it:Vb}{RR:Va->Vb->Result->Vc->Prop}{E:Va->Vc->Prop}
  {Q:VK} {W:Nat->Nat->List V->Hp->Prop} (hk:sc.kind=.function) (hb:cO sc X.env.scope=true) (hj:eU sc X.N K=true)
  (hg:∀C,PG (bS X sc own K ⟨s,H,fp,C⟩) tg g) (ht:∀C,eX (bS X sc own K ⟨s,H,fp,C⟩) ifs tc) (he:∀C,PE (bS X sc own K ⟨s,H,fp,C⟩) elt te)
  (I:Inv X pins σ H s) (T:∀C,TurnAt (bS X sc own K ⟨s,H,fp,C⟩) tg J fp it tn) (st:tn 0 s.heap) (hfp:∀b∈fp,bA X pins H b) (w0:∃m,W 0 m [] H)
  (turn:∀i m ys H',W i m ys H'->(J.stop i H'/\∀p,H' p=Vp->Q (.ref p) (upd H' p (.lst ys))) ∨
   (J.go i H'/\ys.length<sizeLine/\∃N:List V->Hp->Prop,(∀ys' H2,N ys' H2->∃m',m'<m/\W (i+1) m' ys' H2)/\∀x H2,J.yld i H' x H2->g x (bG own.length K σ) H2 λa9 L=>tc a9 L λb H4=>
    if b=true then te a9 H4 λv H5=>N (ys++[v]) H5 else N ys H4))
  (fin:∀D C s' ys H',H' D=Vp->Inv X pins σ (upd H' D (.lst ys)) s'->bA X pins (upd H' D (.lst ys)) C->(∃m,s'.heap.Ns C m)->s.heap.objs.size<=C->Q (.ref D) (upd H' D (.lst ys))->RR (.ref D) C (.ok .next) s') :
  Vf (Vg X.prog X.w) X.A (newList []) (λacc B=>Vf (Vg X.prog X.w) X.A (newFunctionEnv sc X.env.globals (cE sc.names X.env.cells) [] X.env.qual Vp .none (Vo X.env)) (λa1 ab=>
   codeAny (Vg X.prog X.w) X.A (.compStart (.ListComp elt [⟨tg,iter,ifs,0⟩] sc pos) 0 (.ref it) acc { a1 with scope:=relabel sc X.env }) (RR acc a1.locals) ab) E B) E s:=by
 have hlt:∀b∈fp,b<s.heap.objs.size:=λb f=>by obtain⟨o,e,_⟩:=(T 0).obj 0 s.heap st b f;exact zj e
 refine wpAny_newObj_type (ub ?_);dsimp only;generalize a3:s.heap.push { cls:=.type "list",dict:=none,data:=.seq ([]:List Va).toArray }=H2 at *;have b5:H2.objs.size=s.heap.objs.size+1:=by rw[<-a3,Heap.size_push]
 have R:(pushCells (H2.push { cls:=.type "dict",data:=.dict #[] }) sc.names).Ns H2.objs.size (λ_=>none):=(Heap.Ns.new H2 (.type "dict")).keeps (pushCells_keeps _ _);have S:∀x c,(fu X sc H2.objs.size).lookup x=some c->(cE sc.names X.env.cells).lookup x=some c\/(pushCells (H2.push { cls:=.type "dict",data:=.dict #[] }) sc.names).IsCell c none:=λx c e=>by have e':(cellsFrom (H2.objs.size+1) sc.names (cE sc.names X.env.cells)).lookup x=some c:=e;rw[<-Heap.size_push H2 { cls:=.type "dict",data:=.dict #[] }]at e';exact kT _ _ _ e'
 have old:∀b o,s.heap.get? b=Vo o->(pushCells (H2.push { cls:=.type "dict",data:=.dict #[] }) sc.names).get? b=Vo o:=λb o e=>pushCells_keeps _ _ b o (zh _ (a3 ▸ zh _ e));have b6:(pushCells (H2.push { cls:=.type "dict",data:=.dict #[] }) sc.names).get? s.heap.objs.size=Vo (bE [] 0):=pushCells_keeps _ _ _ _ (zh _ (a3 ▸ zi _ rfl));generalize pushCells (H2.push { cls:=.type "dict",data:=.dict #[] }) sc.names=y at *;generalize c0:H2.objs.size=C at *;have below:∀b:Nat,b<s.heap.objs.size->b≠C:=λb f=>by omega
 generalize Z:s.heap.objs.size=D at *;let Y:Cx:=bS X sc own K ⟨s,H,fp,C⟩;have J0:Inv Y [(D,bE [] 0)] (bG own.length K σ) H { s with heap:=y }:=
  sM I hk hb hj hfp (by rw[Z];exact hlt) Z.symm (by rw[Z];exact b5) old b6 (λv z=>by cases z) R S
 have a4:@Ne Nat D C:=by omega
 have statF:∀{P':List (Vb×Obj)} {H':Hp},(∀b∈fp,H' b=Vp)->(∀p∈P',p.1∉fp)->∀b∈fp,bA Y P' H' b:=λ{P' H'} hn G b f=>by
  obtain⟨f0,f1,f2,f3,f4,f5⟩:=hfp b f;refine⟨hn b f,λz=>below b (hlt b f) z,λz=>?_,.inl f,λx c e=>?_,λp a5 z=>?_⟩
  .rcases zA.mp (I.stkSub b z)with e|h
   .exact f1 e
   .exact f2 h
  .rcases f7 I.ok hb (C:=C) e with e|⟨e,_⟩
   .exact f4 x c e
   .have h9:@LT.lt Nat _ b s.heap.objs.size:=by rw[Z];exact hlt b f
    exact Nat.ne_of_gt (show @LT.lt Nat _ b c by omega)
  .have:p∈P':=by simpa[Y,bS]using a5
   exact G p this (by rw[z];exact f)
 have ac:D∉fp:=λz=>by have h9:@LT.lt Nat _ D D:=hlt D z;omega
 have ad:tn 0 y:=(T 0).keep 0 s.heap y st λb _ o e=>old b o e;have loop:∀B:Vc,B={ s with heap:=y } ->
   codeAny (Vg X.prog X.w) X.A (.compLoop (.ListComp elt [⟨tg,iter,ifs,0⟩] sc pos) 0 (.ref it) (.ref D) Y.env) (RR (.ref D) C) B:=by
  rintro B rfl;obtain⟨m0,w0⟩:=w0;refine r9 (λn s'=>∃i ys l q H',Inv Y [(D,bE l q)] (bG own.length K σ) H' s'/\Vals ys l/\ys.length<=sizeLine/\tn i s'.heap/\(∀b∈fp,H' b=Vp)/\W i n ys H') ?_ m0
   ⟨0,[],[],0,H,J0,.nil,Nat.zero_le _,ad,λb f=>(hfp b f).1,w0⟩
  rintro n s3 ⟨i,ys,l,q,L,I3,rv,hz,am,an,w3⟩;have pD:∀p∈[(D,bE l q)],p.1∉fp:=λp G=>by
   have e:p=(D,bE l q):=by simpa using G
   rw[e];exact ac
  rcases turn i n ys L w3 with⟨stop,qn⟩|⟨go,hlen,N,hN,step⟩
  .refine ao ((T C).done i _ s3 _ L _ I3 (statF an pD) am stop) λr s4 ⟨hr,I4⟩=>?_;subst hr;show RR (.ref D) C (.ok .next) s4;have M:=I4.pin (D,bE l q) (zW _ (zw.mpr rfl));have b7:s4.heap.get? D=Vo (bE l q):=M.1;have nD:L D=Vp:=M.2.1;have U:Un (aP X.stack) fp H L s.heap s4.heap:=I4.base;have neD:∀b o,s.heap.get? b=Vo o->b≠D:=λb o e=>zE (by have h9:@LT.lt Nat _ b s.heap.objs.size:=zj e;omega);have neDH:∀b o,H b=Vo o->b≠D:=λb o e=>zE (by have h9:@LT.lt Nat _ b s.heap.objs.size:=I.hok.lt e;omega);have U2:Un (aP X.stack) fp H (upd L D (.lst ys)) s.heap s4.heap:=
    ⟨U.keep,U.slot,λb o e n hx=>by rw[au (neD b o e)];exact U.free b o e n hx,U.there,λb xs e=>by rw[au (neDH b _ e)];exact U.tups b xs e,
     λb o u e=>by rw[au (neDH b _ e)];exact U.frzs b o u e,λb ps e=>by rw[au (neDH b _ e)];exact U.tbls b ps e⟩
   have ap:bq X.prog X.w (upd L D (.lst ys)) s4.heap:=λb o e=>by
    by_cases f:b=D
    .subst f;rw[aM]at e;cases e;exact⟨hz,l,q,rv,b7⟩
    .rw[au f]at e;exact(I4.hok b o e).stay (λc u _ z=>z) (λc z=>by rw[au (bt z nD)];exact z) λc xs z=>by rw[au (bt z nD)];exact z
   have IX:Inv X pins σ (upd L D (.lst ys)) s4:=I.call' (ch:=fp) I4.os U2 ap I4.bare λb f=>by obtain⟨f0,f1,f2,f3,f4,f5⟩:=hfp b f;exact⟨f3,f1,f4,f5⟩
   obtain⟨m4,b8,_⟩:=I4.loc;have nC:L C=Vp:=I4.free;refine fin D C s4 ys L nD IX ?_ ⟨m4,b8⟩ (show @LE.le Nat _ D C by omega) (qn D nD);refine⟨by rw[au (Ne.symm a4)];exact nC,?_,?_,?_,?_,?_⟩
   .have h9:@LT.lt Nat _ X.env.locals s.heap.objs.size:=I.lt;exact Nat.ne_of_gt (show @LT.lt Nat _ X.env.locals C by omega)
   .exact I.nofs (show @LE.le Nat _ s.heap.objs.size C by omega)
   .right;have h9:@LE.le Nat _ X.s₀.heap.objs.size s.heap.objs.size:=I.sz;exact(show @LE.le Nat _ X.s₀.heap.objs.size C by omega)
   .intro x c e;have h9:@LT.lt Nat _ c s.heap.objs.size:=I.cell_lt e;exact zE (show @LT.lt Nat _ c C by omega)
   .intro p G;have h9:@LT.lt Nat _ p.1 s.heap.objs.size:=I.pin_lt G;exact zE (show @LT.lt Nat _ p.1 C by omega)
  .refine ao ((T C).item i _ s3 _ L _ I3 (statF an pD) am go) λr s4 ⟨u,hr,h4⟩=>?_;subst hr;refine ao h4 λ_ s5 ⟨x,H5,I5,r5,y5,a6,b9⟩=>?_;have ba:=I5.pinned (statF b9 pD) ((T 0).obj _ _ a6);refine ao (hg _ _ s5 _ H5 x u _ ba r5 (step x H5 y5)) λ_ s6 ⟨a0,H6,I6,q6⟩=>?_;refine ao (ht _ _ s6 a0 H6 _ I6 q6) λok s7 ⟨H7,I7,q7⟩=>?_;have back:∀{s':Vc} {as:St} {H':Hp} {ys':List V} {its':List Va} {q':Nat},Inv Y ([(D,bE its' q')]++cU fp s5.heap) as H' s'->Vals ys' its'->ys'.length<=sizeLine->N ys' H' ->
     ∃m,m<n/\∃i ys l q H',Inv Y [(D,bE l q)] (bG own.length K σ) H' s'/\Vals ys l/\ys.length<=sizeLine/\tn i s'.heap/\(∀b∈fp,H' b=Vp)/\W i m ys H':=by
    intro s' as H' ys' its' q' I' bb bc nn;obtain⟨m',hm,w'⟩:=hN ys' H' nn;have hpin:∀b∈fp,∀o,s5.heap.get? b=Vo o->s'.heap.get? b=Vo o/\H' b=Vp:=λb f o e=>by have:=I'.pin (b,o) (zW _ (zW _ (ik f e)));exact⟨this.1,this.2.1⟩
    refine⟨m',hm,i+1,ys',its',q',H',?_,bb,bc,(T 0).keep _ _ _ a6 λb f o e=>(hpin b f o e).1,λb f=>?_,w'⟩
    .have t:=I'.unpinned;obtain⟨mm,be,_⟩:=id t.loc;refine⟨t.ok,t.os,t.bare,t.base,⟨mm,be,λk x v e1 e2 e3=>?_⟩,t.cell,t.free,t.freeC,t.pin,t.hok,?_⟩
     .obtain⟨m1,c1,bi⟩:=J0.loc;obtain⟨u1,r1,l1⟩:=bi k x v e1 e2 e3;refine⟨u1,r1,?_⟩;obtain⟨k',j,rfl,ej,es⟩:=i4 e2;have b0:(own++K.map λj=>X.N.getD j "")[own.length+k']?=Vo x:=e1;rw[zJ (by omega),Nat.add_sub_cancel_left,zm,ej]at b0;have ex:X.N.getD j "" = x:=by simpa using b0
      have b1:=zR.mp hj j (zv ej);simp only[zT,decide_eq_true_eq,beq_iff_eq]at b1;have O:sc.names.lookup x=some .free:=by rw[<-ex];exact b1.2
      rcases l1 with⟨z,zz⟩|⟨z,c,e,zz⟩
      .exfalso;obtain⟨k2,z1,z2⟩:=eW (sc:=sc) (env:=X.env) (show(relabel sc X.env).names.lookup x=Vo .local from z);rw[O]at z1;rcases z2 with z2|⟨_,z2⟩
       .rw[z2]at z1;cases z1
       .cases z2
      .refine .inr ⟨z,c,e,?_⟩;have a7:X.env.cells.lookup x=Vo c:=by
        rcases f7 I.ok hb (C:=C) e with e|⟨_,e⟩
        .exact e
        .rw[O]at e;cases e
       obtain⟨ov,oc,b2,c2⟩:=I.cell x c a7;have b3:=old c oc b2;obtain⟨oz,bl,bm⟩:=zz;have a2:y.get? c=Vo oz:=bl;rw[b3]at a2;cases a2;have cnf:c∉fp:=λz'=>(hfp c z').2.2.2.2.1 x c a7 rfl;obtain⟨sl,hh⟩:=t.base.any b2 (I.freeC x c a7) cnf;exact⟨_,hh,bm⟩
     .show(bG own.length K σ).length=_;exact J0.len
    .obtain⟨o,e,d⟩:=(T 0).obj _ _ a6 b f;exact(hpin b f o e).2
   cases ok with
   | false=>
    rw[Ai zB]at q7 ⊢;exact back I7 rv hz q7
   | true=>
    rw[Aj rfl]at q7 ⊢;refine ao (he _ _ s7 a0 H7 _ I7 q7) λP s8 ⟨v,H8,I8,r8,q8⟩=>?_;have M:=I8.pin (D,bE l q) (zW _ (zX _ (zw.mpr rfl)));have a8:s8.heap.get? D=Vo { cls:=.type "list",data:=.seq l.toArray q }:=M.1;have hl:=rv.length;refine call_meets F.slot_list_append ⟨_,a8,rfl⟩ F.entry_list_append (F.args_list_append_2 _ _) (PySem.list_append D l.toArray q P (by rw[zq];omega)) ⟨a8,?_⟩;have qq:=PySem.IsL.update a8 (λa=>a.push P);have eqs:l.toArray.push P=(l++[P]).toArray:=by simp
    rw[eqs]at qq;obtain⟨q2,bn⟩:∃q2,(s8.heap.update D (Obj.mapSeq λa=>a.push P)).get? D=Vo (bE (l++[P]) q2):=⟨_,qq⟩;have bv:Inv Y (cU fp s5.heap) a0 H8 s8:=I8.pins_of λp G=>I8.pin p (zW _ (zW _ G));have b4:H8 D=Vp:=M.2.1;have I9:Inv Y (cU fp s5.heap) a0 H8 { s8 with heap:=s8.heap.update D (Obj.mapSeq λa=>a.push P),toks:=s8.toks }:=by
     refine bv.turned (it:=D) (λb o f e=>(Heap.get?_update_other s8.heap (Obj.mapSeq λa=>a.push P) (Ne.symm f)).trans e) b4 a4 (.inr (show @LE.le Nat _ s.heap.objs.size D by omega)) (λx c e=>?_) λp G=>?_
     .rcases f7 I.ok hb (C:=C) e with e|⟨e,_⟩
      .have h9:@LT.lt Nat _ c s.heap.objs.size:=I.cell_lt e;exact zE (show @LT.lt Nat _ c D by omega)
      .exact Nat.ne_of_gt (show @LT.lt Nat _ D c by omega)
     .have a5:p∈cU fp s5.heap:=by simpa[Y,bS]using G
      obtain⟨h1,_⟩:=lZ a5;exact λz=>ac (z ▸ h1)
    refine back (ys':=ys++[v]) (its':=l++[P]) (q':=q2) (I9.pins_of λp G=>?_) (rv.append (.cons r8 .nil)) (by rw[zD,List.length_singleton];omega) q8;rcases zI.mp G with G|G
    .have e:p=(D,bE (l++[P]) q2):=by simpa using G
     subst e;refine⟨bn,b4,a4,λz=>?_,λv z=>by cases z⟩;have h9:@LT.lt Nat _ D s.heap.objs.size:=I.stk_lt (b:=D) z;omega
    .exact I9.pin p (zW _ G)
 exact codeAny_compStart_list (loop _ rfl) ((T 0).self X.A 0 { s with heap:=y } _ _ ad (loop _ rfl))
def eO{pos:Pos}(own:List Vn)(a:List Nat){k:TI}{te:TE}(hi:PI X tg iter k)(r:∀z,PG (bS X sc own a z) tg g)(t:∀z,eX (bS X sc own a z) ifs tc)
  (u:∀z,PE (bS X sc own a z) elt te) (y:X.calm=true:=by rfl) (l:sc.kind=.function:=by rfl) (c:cO sc X.env.scope=true:=by rfl) (B:eU sc X.N a=true:=by rfl)
  (E:∀x,foldedSetIterable iter X.env x=pure x:=by intro _;rfl):PE X (.ListComp elt [⟨tg,iter,ifs,0⟩] sc pos) (iC own.length a k g tc te):=by
 intro pins s σ H Q I h;rw[eval_ListComp];refine wpAny_comprehension_free (use:=Vp) rfl E (lJ λp d F=>I.ok.has p.1 (i6 c d F)) l (λp d G=>nE c d G) (ao (hi pins s σ H _ I h) λv s1 h1=>ao h1 λK s2 h2=>?_);obtain⟨it,fp,tn,J,H2,e,L,T,f,n,W,w0,turn⟩:=h2;subst e;refine o8 (RR:=λacc C=>compPost (Vg X.prog X.w) X.A X.xe Vp (EP X pins σ Q) acc C) l c B (λ_=>r _) (λ_=>t _) (λ_=>u _) L (λC=>Turn.at_ (Y:=bS X sc own a ⟨_,_,_,C⟩) T y) f n w0 turn ?_;intro D C s' ys H' nD M O ⟨m,P⟩ _ q;refine⟨m,P,λh' i=>?_⟩;obtain⟨R,S,n,U,Z,f5⟩:=O;exact⟨.ref D,_,M.turned (t':=s'.toks) (it:=C) (λb o j e=>(i.2 b j).trans e) R S U Z f5,rfl,q⟩
end
end L2
namespace L2.Og.Tb
open PySem
def nx(m i:Nat):Nat:=(i*5+1) % (m+1)
def it(m:Nat):Nat->Nat->Nat
 | 0,i=>i
 | n+1,i=>it m n (nx m i)
theorem iA(m:Nat):∀a b i,it m (a+b) i=it m b (it m a i)
 | 0,b,i=>by rw[Nat.zero_add];rfl
 | a+1,b,i=>by rw[Nat.succ_add];exact iA m a b (nx m i)
def jr(m:Nat):Nat->Nat->List Nat
 | 0,_=>[]
 | n+1,i=>i::jr m n (nx m i)
theorem ph{m:Nat}:∀{n i j:Nat},j∈jr m n i->∃k,k<n/\it m k i=j
 | 0,_,_,h=>by cases h
 | n+1,i,j,h=>by
  rcases zA.mp h with rfl|h
  .exact⟨0,Nat.succ_pos _,rfl⟩
  .obtain⟨k,a,e⟩:=ph h;exact⟨k+1,Nat.succ_lt_succ a,e⟩
def good(m:Nat):Bool:=(Af (m+1)).all (λj=>(jr m (m+1) 0).contains j) && it m (m+1) 0 == 0
def yk:good 7=true:=by decide +kernel
def vh:good 31=true:=by decide +kernel
def wW:good 127=true:=by decide +kernel
def wM:good 511=true:=by decide +kernel
def Mask(m:Nat):Prop:=m=7\/m=31\/m=127\/m=511
theorem Mask.good{m:Nat}(h:Mask m):good m=true:=by
 rcases h with rfl|rfl|rfl|rfl
 .exact yk
 .exact vh
 .exact wW
 .exact wM
def nh(h:Mask m){j:Nat}(a:j<=m):∃k,k<=m/\it m k 0=j:=by have:=h.good;unfold Tb.good at this;rw[zT,zR]at this;have h1:=this.1 j (List.mem_range.mpr (by omega));rw[List.contains_iff_mem]at h1;obtain⟨k,b,e⟩:=ph h1;exact⟨k,by omega,e⟩
def round0(h:Mask m):it m (m+1) 0=0:=by have:=h.good;unfold Tb.good at this;rw[zT]at this;exact eq_of_beq this.2
def reach(h:Mask m){i j:Nat}(hi:i<=m)(e:j<=m):∃k,k<=m/\it m k i=j:=by
 obtain⟨a,f,c⟩:=nh h hi;obtain⟨b,g,d⟩:=nh h e;rcases Aa b a with hlt|hge
 .refine⟨m+1-a+b,by omega,?_⟩;rw[<-c,<-iA,show a+(m+1-a+b)=(m+1)+b by omega,iA,round0 h];exact d
 .refine⟨b-a,by omega,?_⟩;rw[<-c,<-iA,show a+(b-a)=b by omega];exact d
def lp(m:Nat):Nat->Nat×Nat->Nat×Nat
 | 0,s=>s
 | n+1,s=>lp m n (SetTable.leap m s.1 s.2)
theorem ml(m:Nat):∀n s,lp m (n+1) s=SetTable.leap m (lp m n s).1 (lp m n s).2
 | 0,s=>rfl
 | n+1,s=>by show lp m (n+1) (SetTable.leap m s.1 s.2)=_;rw[ml m n];rfl
theorem oA(m:Nat):∀n s,(lp m n s).2=s.2 / 32 ^ n
 | 0,s=>by simp[lp]
 | n+1,s=>by rw[ml m n s];show(lp m n s).2 / 32=_;rw[oA m n s,Nat.div_div_eq_div_mul,Nat.pow_succ]
def p6(m:Nat):∀n s,s.1<=m->(lp m n s).1<=m
 | 0,s,h=>h
 | n+1,s,h=>by rw[ml m n s];show(_ % (m+1))<=m;have:=Nat.mod_lt ((lp m n s).1*5+1+(lp m n s).2 / 32) (show 0<m+1 by omega);omega
theorem og(m:Nat):∀n i,(lp m n (i,0)).1=it m n i
 | 0,i=>rfl
 | n+1,i=>by show(lp m n (SetTable.leap m i 0)).1=it m n (nx m i);have:SetTable.leap m i 0=(nx m i,0):=rfl;rw[this];exact og m n _
theorem sh(m:Nat):∀a b s,lp m (a+b) s=lp m b (lp m a s)
 | 0,b,s=>by rw[Nat.zero_add];rfl
 | a+1,b,s=>by rw[Nat.succ_add];exact sh m a b _
def rP(h:Mask m){i p j:Nat}(hi:i<=m)(a:p<2 ^ 64)(b:j<=m):∃n,n<=m+13/\(lp m n (i,p)).1=j:=by
 have c:(lp m 13 (i,p)).2=0:=by rw[oA];exact Nat.div_eq_of_lt (zO a (by decide))
 obtain⟨k,d,e⟩:=reach h (p6 m 13 (i,p) hi) b;refine⟨13+k,by omega,?_⟩;rw[sh];have:lp m 13 (i,p)=((lp m 13 (i,p)).1,0):=by rw[<-c]
 rw[this,og];exact e
def ou(h:Int):SetTable.bits h<2 ^ 64:=by unfold SetTable.bits;have h1:=Int.emod_lt_of_pos h (show(0:Int)<2 ^ 64 by decide);have h2:=Int.emod_nonneg h (show(2:Int) ^ 64≠0 by decide);omega
def bT(t:SetTable):Nat->SetTable.Probe->SetTable.Probe
 | 0,p=>p
 | n+1,p=>bT t n (t.advance p)
theorem jx(t:SetTable):∀a b p,bT t (a+b) p=bT t b (bT t a p)
 | 0,b,p=>by rw[Nat.zero_add];rfl
 | a+1,b,p=>by rw[Nat.succ_add];exact jx t a b _
def at_(t:SetTable)(s:Nat×Nat):SetTable.Probe:={ j:=s.1,more:=SetTable.runEnd t.mask s.1-s.1,i:=s.1,perturb:=s.2,dummy:=Vp }
theorem mM(t:SetTable):∀(r:Nat) (p:SetTable.Probe),p.more=r->bT t (r+1) p={ p with j:=(SetTable.leap t.mask p.i p.perturb).1,more:=SetTable.runEnd t.mask (SetTable.leap t.mask p.i p.perturb).1-(SetTable.leap t.mask p.i p.perturb).1,i:=(SetTable.leap t.mask p.i p.perturb).1,perturb:=(SetTable.leap t.mask p.i p.perturb).2 }
 | 0,p,h=>by show t.advance p=_;unfold SetTable.advance;rw[Ai (by omega)]
 | r+1,p,h=>by
  show bT t (r+1) (t.advance p)=_;have e:t.advance p={ p with j:=p.j+1,more:=p.more-1 }:=by unfold SetTable.advance;rw[Aj (by omega)]
  rw[e,mM t r _ (by show p.more-1=r;omega)]
def vU(t:SetTable)(s:Nat×Nat):∃k,k<=10/\bT t k (at_ t s)=at_ t (SetTable.leap t.mask s.1 s.2):=by
 refine⟨SetTable.runEnd t.mask s.1-s.1+1,?_,?_⟩
 .unfold SetTable.runEnd;split<;>omega
 .exact(mM t (SetTable.runEnd t.mask s.1-s.1) (at_ t s) rfl).trans rfl
theorem q0(t:SetTable):∀(n:Nat) (s:Nat×Nat),∃k,k<=10*n/\bT t k (at_ t s)=at_ t (lp t.mask n s)
 | 0,s=>⟨0,zF _,rfl⟩
 | n+1,s=>by obtain⟨k1,h1,a⟩:=vU t s;obtain⟨k2,h2,b⟩:=q0 t n (SetTable.leap t.mask s.1 s.2);refine⟨k1+k2,by omega,?_⟩;rw[jx,a,b];rfl
def tu(t:SetTable)(h:Int):t.probeStart h=at_ t (SetTable.bits h % (t.mask+1),SetTable.bits h):=rfl
def yS(a:Mask t.mask){j:Nat}(b:j<=t.mask)(h:Int):∃K,K<10*SetTable.turns t.mask/\(bT t K (t.probeStart h)).j=j:=by
 have h1:SetTable.bits h % (t.mask+1)<=t.mask:=by have:=Nat.mod_lt (SetTable.bits h) (show 0<t.mask+1 by omega);omega
 obtain⟨n,d,e⟩:=rP a h1 (ou h) b;obtain⟨K,f,c⟩:=q0 t n (SetTable.bits h % (t.mask+1),SetTable.bits h);refine⟨K,by unfold SetTable.turns;omega,?_⟩;rw[tu,c];exact e
def oO{j i:Nat}(h:t.slot j=.live i):t.place[i]?=Vo j:=by
 unfold SetTable.slot at h;dsimp only at h;split at h
 .rename_i hq;cases h;exact eq_of_beq hq
 .split at h<;>cases h
def nQ(j:Nat):SetTable.has #[] j=false:=rfl
def ro(hd:t.dummies = #[])(j:Nat):t.slot j=.empty\/∃i,t.slot j=.live i:=by
 unfold SetTable.slot;dsimp only;split
 .exact .inr ⟨_,rfl⟩
 .rw[hd,nQ];exact .inl rfl
theorem q5:∀(n:Nat) (l:List Nat),(∀j,j<n->j∈l)->n<=l.length
 | 0,l,_=>Nat.zero_le _
 | n+1,l,h=>by have a:=h n (Nat.lt_succ_self n);have:=q5 n (l.erase n) λj b=>(List.mem_erase_of_ne (by omega)).mpr (h j (by omega));rw[List.length_erase_of_mem a]at this;have:0<l.length:=List.length_pos_of_mem a;omega
def vk(hd:t.dummies = #[])(h:t.place.size<=t.mask):∃j,j<=t.mask/\t.slot j=.empty:=by
 rcases Classical.em (∃j,j<=t.mask/\t.slot j=.empty)with h1|h1
 .exact h1
 .exfalso;have:=q5 (t.mask+1) t.place.toList λj a=>by
   rcases ro hd j with h2|⟨i,h2⟩
   .exact absurd ⟨j,by omega,h2⟩ h1
   .have:=oO h2;rw[<-Array.getElem?_toList]at this;exact zv this
  rw[zp]at this;omega
theorem mE(t:SetTable):∀n p,(bT t n p).dummy=p.dummy
 | 0,p=>rfl
 | n+1,p=>by show(bT t n (t.advance p)).dummy=_;rw[mE t n];unfold SetTable.advance;split<;>rfl
def wB(hd:t.dummies = #[])(hash:Nat->Int)(h:Int):∀(K fuel:Nat) (p:SetTable.Probe),K<fuel->p.dummy=Vp->t.slot (bT t K p).j=.empty ->
  (∃j,SetTable.probe.go t hash h fuel p=Vo (.empty j Vp))\/∃k j i,k<K/\SetTable.probe.go t hash h fuel p=Vo (.candidate j i (bT t (k+1) p))/\t.slot j=.live i:=by
 intro K;induction K with
 | zero=>
  intro fuel p l a b;obtain⟨f,rfl⟩:∃f,fuel=f+1:=⟨fuel-1,by omega⟩;refine .inl ⟨p.j,?_⟩;have c:t.slot p.j=.empty:=b;unfold SetTable.probe.go;rw[c];dsimp only;rw[a]
 | succ K m=>
  intro fuel p l a b;obtain⟨f,rfl⟩:∃f,fuel=f+1:=⟨fuel-1,by omega⟩;unfold SetTable.probe.go;rcases ro hd p.j with h1|⟨i,h1⟩
  .rw[h1];dsimp only;rw[a];exact .inl ⟨p.j,rfl⟩
  .rw[h1];dsimp only;by_cases g:(hash i == h)=true
   .rw[Aj g];exact .inr ⟨0,p.j,i,Nat.succ_pos _,rfl,h1⟩
   .rw[Ai g];have d:(t.advance p).dummy=Vp:=by have:=mE t 1 p;rw[a]at this;exact this
    rcases m f (t.advance p) (by omega) d b with⟨j,e⟩|⟨k,j,n,q,e,o⟩
    .exact .inl ⟨j,e⟩
    .exact .inr ⟨k+1,j,n,by omega,e,o⟩
theorem qu{α:Type}:∀{l:List (Option α)} {j:Nat} {k:α},l[j]?=Vo Vp->((l.set j (Vo k)).filterMap id).Perm (k::l.filterMap id)
 | [],j,k,h=>by cases h
 | x::l,0,k,h=>by
  have:x=Vp:=by simpa using h
  subst this;exact .refl _
 | x::l,j+1,k,h=>by
  have h':l[j]?=Vo Vp:=by simpa using h
  have a:=qu (k:=k) h';cases x with
  | none=>exact a
  | some y=>exact(List.Perm.cons y a).trans (.swap _ _ _)
def uN{α:Type}(l:List (Option α)):(l.filterMap id).length+(l.filter (·.isNone)).length=l.length:=by
 induction l with
 | nil=>rfl
 | cons x l a=>
  cases x<;>simp at a ⊢<;>omega
def we(o:Mask m)(owner:Array (Option Nat))(d:owner.size=m+1){j:Nat}(e:owner[j]?=Vo Vp):∀(fuel n i p:Nat),i<=m->n<fuel->(lp m n (i,p)).1=j ->
  ∃a,SetTable.layClean.free m owner fuel i p=Vo a/\owner[a]?=Vo Vp:=by
 intro fuel;induction fuel with
 | zero=>intro n i p _ h;omega
 | succ fuel f=>
  intro n i p hi q b;unfold SetTable.layClean.free;split
  .rename_i k hk;have h1:=List.find?_some hk;have h2:=List.mem_range.mp (List.mem_of_find?_eq_some hk);refine⟨i+k,rfl,?_⟩;have c:i+k<owner.size:=by rw[d];unfold SetTable.runEnd at h2;split at h2<;>omega
   rw[Array.getElem?_eq_getElem c];have:owner.getD (i+k) (Vo 0)=owner[i+k]:=by rw[Array.getD_eq_getD_getElem?,Array.getElem?_eq_getElem c];rfl
   rw[this]at h1;congr 1;cases g:owner[i+k]with
   | none=>rfl
   | some y=>rw[g]at h1;cases h1
  .rename_i hk;cases n with
   | zero=>
    exfalso;have l:i=j:=b;have:=List.find?_eq_none.mp hk 0 (List.mem_range.mpr (by unfold SetTable.runEnd;split<;>omega));rw[Nat.add_zero,l,Array.getD_eq_getD_getElem?,e]at this;simp at this
   | succ n=>
    have:=p6 m 1 (i,p) hi;exact f n (SetTable.leap m i p).1 (SetTable.leap m i p).2 this (by omega) b
def iU(mask:Nat)(acc:Option (Array (Option Nat)×Nat))(h:Int):Option (Array (Option Nat)×Nat):=do
 let (owner,k) <-acc;let j <-SetTable.layClean.free mask owner (SetTable.turns mask) (SetTable.bits h % (mask+1)) (SetTable.bits h)
 pure (owner.setIfInBounds j (Vo k),k+1)
def yU{l:List (Option Nat)}(h:(l.filterMap id).length<l.length):∃j:Nat,l[j]?=Vo Vp:=by
 have:=uN l;have h1:0<(l.filter (·.isNone)).length:=by omega
 obtain⟨x,b⟩:=List.exists_mem_of_length_pos h1;obtain⟨a,c⟩:=List.mem_filter.mp b;have:x=Vp:=by cases x<;>simp_all
 subst this;obtain⟨j,d⟩:=List.getElem?_of_mem a;exact⟨j,d⟩
theorem nO{m:Nat}(d:Mask m):∀(b:List Int) (owner:Array (Option Nat)) (k:Nat),owner.size=m+1->(owner.toList.filterMap id).Perm (Af k)->k+b.length<=m ->
  ∃a,b.foldl (iU m) (Vo (owner,k))=Vo (a,k+b.length)/\a.size=m+1/\(a.toList.filterMap id).Perm (Af (k+b.length))
 | [],owner,k,h1,h2,i=>⟨owner,rfl,h1,h2⟩
 | h::b,owner,k,h1,h2,i=>by
  rw[zM]at i ⊢;have hlt:(owner.toList.filterMap id).length<owner.toList.length:=by rw[h2.length_eq,List.length_range,zp,h1];omega
  obtain⟨j,e⟩:=yU hlt;rw[Array.getElem?_toList]at e;have f:j<=m:=by have:=(Array.getElem?_eq_some_iff.mp e).1;omega
  have hi:SetTable.bits h % (m+1)<=m:=by have:=Nat.mod_lt (SetTable.bits h) (show 0<m+1 by omega);omega
  obtain⟨n,t,l⟩:=rP d hi (ou h) f;obtain⟨g,o,c⟩:=we d owner h1 e (SetTable.turns m) n _ _ hi (by unfold SetTable.turns;omega) l;have step:iU m (Vo (owner,k)) h=Vo (owner.setIfInBounds g (Vo k),k+1):=by unfold iU;simp[o]
  rw[List.foldl_cons,step];have p:((owner.setIfInBounds g (some k)).toList.filterMap id).Perm (Af (k+1)):=by rw[Array.toList_setIfInBounds];rw[<-Array.getElem?_toList]at c;refine(qu c).trans ?_;rw[List.range_succ];exact(List.Perm.cons k h2).trans (List.perm_append_comm (l₁:=[k]) (l₂:=Af k))
  obtain⟨o',q,r,s⟩:=nO d b (owner.setIfInBounds g (Vo k)) (k+1) (by simpa using h1) p (by omega);exact⟨o',by rw[q];congr 2;omega,r,by rw[show k+(b.length+1)=k+1+b.length by omega];exact s⟩
def yw(t:SetTable){hashes:Array Int}{wanted:Nat}(f:Mask m)(g:SetTable.sizeAbove wanted-1=m)(k:hashes.size<=m):
  ∃t' order,t.relaid hashes wanted=Vo (t',order)/\t'.place.size=hashes.size/\t'.dummies = #[]/\t'.mask=m/\order.toList.Perm (Af hashes.size):=by
 obtain⟨o',e,h,d⟩:=nO f hashes.toList (Array.replicate (m+1) none) 0 (by simp) (by simp) (by rw[zp];omega);rw[zp,Nat.zero_add]at e d;have b:SetTable.layClean m hashes=some o':=by show(hashes.foldl (iU m) (some (Array.replicate (m+1) none,0))).map (·.1)=some o';rw[<-Array.foldl_toList,e];rfl
 have a:((Af (m+1)).filterMap λj=>(o'.getD j Vp).map (j,·)).map (·.2)=o'.toList.filterMap id:=by
  rw[List.map_filterMap];have:o'.toList=(Af (m+1)).map λj=>o'.getD j Vp:=by
   apply List.ext_getElem
   .rw[zp,zk,List.length_range,h]
   .intro i h1 h2;rw[zp]at h1;simp[h1]
  rw[this,List.filterMap_map];congr 1;funext j;show((o'.getD j Vp).map (j,·)).map (·.2)=o'.getD j Vp;cases o'.getD j Vp<;>rfl
 have c:t.relaid hashes wanted=Vo (({ mask:=m,place:=(((Af (m+1)).filterMap λj=>(o'.getD j Vp).map (j,·)).map (·.1)).toArray,dummies:=#[],finger:=t.finger,led:=t.led,moves:=t.movedTo m,plain:=t.plain }:SetTable),(((Af (m+1)).filterMap λj=>(o'.getD j Vp).map (j,·)).map (·.2)).toArray):=by unfold SetTable.relaid;rw[g];unfold SetTable.laid;rw[b];rfl
 refine⟨_,_,c,?_,rfl,rfl,?_⟩
 .show(((Af (m+1)).filterMap λj=>(o'.getD j Vp).map (j,·)).map (·.1)).toArray.size=_;rw[zq,zk];have:=congrArg List.length a;rw[zk,d.length_eq,List.length_range]at this;exact this
 .show(((Af (m+1)).filterMap λj=>(o'.getD j Vp).map (j,·)).map (·.2)).toArray.toList.Perm _;rw[List.toList_toArray,a];exact d
def jZ{α:Type}(xs:Array α)(p:Nat)(x:α):(SetTable.insertAt xs p x).size=xs.size+1:=by unfold SetTable.insertAt;simp;omega
def xh{α:Type}{xs:Array α}{p:Nat}{x e:α}(h:e∈(SetTable.insertAt xs p x).toList):e=x\/e∈xs.toList:=by
 unfold SetTable.insertAt at h;simp only[Array.toList_append,Array.toList_push,Array.toList_extract,zI,zw]at h;rcases h with(h|h)|h
 .exact .inr (List.mem_of_mem_take (by simpa using h))
 .exact .inl h
 .exact .inr (List.mem_of_mem_drop (List.mem_of_mem_take h))
def vN:SetTable.sizeAbove 20-1=31:=by decide +kernel
def uh:SetTable.sizeAbove 76-1=127:=by decide +kernel
def yX:SetTable.sizeAbove 308-1=511:=by decide +kernel
end L2.Og.Tb
namespace L2.Og
open PySem PySem.Spec PyProof.Rows
section
variable {P:Vd} {w:Ve} {A:Vi} {E:Va->Vc->Prop} {s:Vc} {K:Type} [DecidableEq K] {knd:KeyKind P w K}
def nV{ks:List K}{vs:List Va}(h:ItemsAre knd ks vs):∀v∈vs,∀b,v≠.ref b:=λv a b e=>by have:=h.byValue v a;subst e;cases this
def sH(n:Nat){v:Va}(h:∀b,v≠.ref b):ofAClassStatement n v=pure false:=by
 cases v with
 | ref b=>exact absurd rfl (h b)
 | _=>unfold ofAClassStatement;rfl
def qQ{ks:List K}{b:Vb}{Q:Bool->Vc->Prop}(c:IsTupleKey knd s.heap ks b)(h:Q false s):Vf (Vg P w) A (ofAClassStatement 8 (.ref b)) Q E s:=by
 have d:=c.typeIs;obtain⟨o,items,n,e,g,hd,hi⟩:=c;unfold ofAClassStatement;refine ze (wpAny_typeOf d ?_);dsimp only;refine ze (zf ?_);simp only[Bool.not_true,zZ,if_false];refine ze (wpAny_seqItems e hd ?_);dsimp only;refine ze ?_;rw[<-Array.forIn_toList];refine wpAny_forIn_list _ (λrest r s'=>r.1=none/\s'=s/\∀v∈rest,∀b,v≠.ref b) _ ?_ ?_ _ _ ⟨rfl,rfl,nV hi⟩
 .rintro v rest r s' ⟨a,rfl,hall⟩;rw[sH _ (hall v zr)];refine ze (zf ?_);simp only[zZ,if_false];exact zf ⟨rfl,rfl,λu f=>hall u (zo _ f)⟩
 .rintro⟨r1,i⟩ s' ⟨a,rfl,_⟩;simp only at a;subst a;exact zf h
def tJ{ks:List K}{b:Vb}{l:List Va}{Q:Bool->Vc->Prop}(f:IsTupleKey knd s.heap ks b)(g:∀y∈l,∃a c,y=.ref a/\IsTupleKey knd s.heap c a)(h:Q false s):Vf (Vg P w) A (searchCouldBeSeen (.ref b) l) Q E s:=by
 unfold searchCouldBeSeen;refine ze ?_;refine wpAny_forIn_list _ (λrest r s'=>r.1=Vp/\s'=s/\∀y∈rest,∃a c,y=.ref a/\IsTupleKey knd s.heap c a) _ ?_ ?_ _ _ ⟨rfl,rfl,g⟩
 .rintro v rest r s' ⟨e,rfl,hall⟩;obtain⟨a,c,rfl,d⟩:=hall v zr;have next:∀y∈rest,∃a c,y=.ref a/\IsTupleKey knd s'.heap c a:=λy i=>hall y (zo _ i)
  dsimp only;split
  .exact zf ⟨rfl,rfl,next⟩
  .refine ze (wpAny_eqIsQuiet_tuple f ?_);simp only[Bool.not_true,zZ,if_false];refine ze (wpAny_eqIsQuiet_tuple d ?_);simp only[Bool.not_true,zZ,if_false];refine ze (qQ f ?_);simp only[zZ,if_false];refine ze (qQ d ?_);simp only[zZ,if_false];exact zf ⟨rfl,rfl,next⟩
 .rintro⟨r1,j⟩ s' ⟨e,rfl,_⟩;simp only at e;subst e;exact zf h
def sQ{b:Vb}{k:List K}{h:Int}{es:Array (Int×Va)}(R:A.units<cLine)(C:IsTupleKey knd s.heap k b)(F:s.heap.get? a=Vo o)(hd:o.data=.set es ep t)(p:t.fits es.size=true)(W:Tb.Mask t.mask)(G:t.dummies = #[])
  (hall:∀e∈es.toList,∃l d,e.2=.ref l/\IsTupleKey knd s.heap d l/\d≠k) {Q:SetFound->Vc->Prop} (X:∀j,Q (.free j false) s) :
  ∀(K fuel:Nat) (c:Option SetTable.Probe),K<fuel->K<10*SetTable.turns t.mask->(c.getD (t.probeStart h)).dummy=Vp->t.slot (Tb.bT t K (c.getD (t.probeStart h))).j=.empty ->
   Vf (Vg P w) A (setSearchFrom a (.ref b) h true fuel c) Q E s:=by
 intro K;induction K using Nat.strongRecOn with
 | ind K Y=>
  intro fuel c Z hK q S;obtain⟨f,rfl⟩:∃f,fuel=f+1:=⟨fuel-1,by omega⟩;unfold setSearchFrom;refine ze (Ad F hd p ?_);dsimp only;have hg:t.gaveWay=false:=by unfold SetTable.gaveWay;rcases W with e|e|e|e<;>rw[e]<;>rfl
  have H:t.place.size=es.size:=by simp only[SetTable.fits,zT,beq_iff_eq]at p;exact p.1
  have u:t.sameMemory t.moves t.mask=Vo true:=by unfold SetTable.sameMemory;rw[Aj (beq_self_eq_true _)]
  rw[hg];simp only[zZ,if_false];generalize n:t.probe _ h (c.getD (t.probeStart h))=r;obtain⟨g,n⟩:∃g,SetTable.probe.go t g h (10*SetTable.turns t.mask) (c.getD (t.probeStart h))=r:=⟨_,n⟩;rcases Tb.wB G g h K _ _ hK q S with⟨j,e⟩|⟨d,j,i,a0,e,I⟩
  .rw[e]at n;subst n;exact zf (X j)
  .rw[e]at n;subst n;have J:=Tb.oO I;have hi:i<es.size:=by rw[<-H];exact(Array.getElem?_eq_some_iff.mp J).1
   have v:es[i]∈es.toList:=by simp
   obtain⟨l,k2,L,z,B⟩:=hall _ v;have m:es[i]?=some (es[i].1,.ref l):=by rw[Array.getElem?_eq_getElem hi,<-L]
   have M:∀y∈((es.filter λx=>x.1 == h).toList.map λx=>x.2),∃l d,y=Value.ref l/\IsTupleKey knd s.heap d l:=λy L=>by
    obtain⟨T,N,rfl⟩:=List.mem_map.mp L;have O:T∈es.toList:=by have:=Array.mem_toList_iff.mp N;exact Array.mem_toList_iff.mpr (Array.mem_filter.mp this).1
    obtain⟨b3,k3,h1,h2,_⟩:=hall T O;exact⟨b3,k3,h1,h2⟩
   have again:Vf (Vg P w) A (setSearchFrom a (.ref b) h true f (Vo (Tb.bT t (d+1) (c.getD (t.probeStart h))))) Q E s:=by
    refine Y (K-(d+1)) (by omega) f _ (by omega) (by omega) ?_ ?_
    .show(Tb.bT t (d+1) _).dummy=Vp;rw[Tb.mE];exact q
    .show t.slot (Tb.bT t (K-(d+1)) (Tb.bT t (d+1) _)).j=_;rw[<-Tb.jx,show d+1+(K-(d+1))=K by omega];exact S
   have same:isSame (Value.ref l) (Value.ref l)=pure true:=by unfold isSame;simp
   dsimp only;cases U:t.led
   .simp only[Bool.not_false,if_true];refine ze (tJ C M ?_);simp only[zZ,if_false];rw[m];dsimp only;refine ze (wpAny_holding (wpAny_eqBool_tuple R z C ?_));rw[Ag B];refine ze (Ad F hd p ?_);dsimp only;simp only[Bool.and_false,zZ,if_false,u,if_true,I,m,same];exact ze (zf (ze (zf again)))
   .simp only[Bool.not_true,zZ,if_false];rw[m];dsimp only;refine ze (wpAny_holding (wpAny_eqBool_tuple R z C ?_));rw[Ag B];refine ze (Ad F hd p ?_);dsimp only;simp only[Bool.and_false,zZ,if_false,u,if_true,I,m,same];exact ze (zf (ze (zf again)))
def dy(knd:KeyKind P w K)(h:Vh)(a:Vb)(ks:List (List K)):Prop:=
 ∃o es ep t,h.get? a=Vo o/\o.ExactSet/\o.data=.set es ep t/\t.place.size=es.size/\t.dummies = #[]/\Tb.Mask t.mask/\es.size*5<t.mask*3/\es.size=ks.length/\∀e∈es.toList,∃b k,e.2=.ref b/\k∈ks/\IsTupleKey knd h k b
def md{b:Vb}{k:List K}{es:Array (Int×Va)}(f:IsTupleKey knd h k b)(g:h.get? a=Vo o)(hd:o.data=.set es ep t)(i:Heap.SameBut a h h'):IsTupleKey knd h' k b:=by
 obtain⟨o',items,n,c,j,d,hi⟩:=f;have e:b≠a:=by rintro rfl;rw[g]at c;cases c;rw[hd]at d;cases d
 exact⟨o',items,n,(i.2 b e).trans c,j,d,hi⟩
def xS(n:Nat){v:Va}(h:∀b,v≠.ref b):∃c,hashByValue n v=pure c:=by
 cases v with
 | ref b=>exact absurd rfl (h b)
 | _=>exact⟨_,by cases n<;>unfold hashByValue<;>rfl⟩
def sW{ks:List K}{b:Vb}{Q:Bool->Vc->Prop}(e:IsTupleKey knd s.heap ks b)(h:∀c,Q c s):Vf (Vg P w) A (hashByValue 8 (.ref b)) Q E s:=by
 have f:=e.typeIs;obtain⟨o,items,n,g,j,hd,hi⟩:=e;unfold hashByValue;refine ze (wpAny_specialOf f F.slot_tuple_hash.lookup ?_);dsimp only;refine ze (wpAny_seqItems g hd ?_);dsimp only[Option.getD_some];refine ze ?_;rw[<-Array.forIn_toList];refine wpAny_forIn_list _ (λrest r s'=>(r.1=none\/∃c,r.1=some c)/\s'=s/\∀v∈rest,∀b,v≠.ref b) _ ?_ ?_ _ _ ⟨.inl rfl,rfl,nV hi⟩
 .rintro v rest r s' ⟨a,rfl,hall⟩;obtain⟨c,d⟩:=xS 7 (hall v zr);rw[d];refine ze (zf ?_);cases c
  .show Vf _ _ (pure (ForInStep.done (Vo false,()))) _ _ _;exact zf (zf (h false))
  .simp only[Bool.not_true,zZ,if_false];exact zf ⟨.inl rfl,rfl,λu i=>hall u (zo _ i)⟩
 .rintro⟨r1,k⟩ s' ⟨a,rfl,_⟩;simp only at a;rcases a with rfl|⟨c,rfl⟩
  .exact zf (h true)
  .exact zf (h c)
def y7{α:Type}{es:Array α}{order:Array Nat}(h:order.toList.Perm (Af es.size)):(order.filterMap (es[·]?)).size=es.size/\∀e∈(order.filterMap (es[·]?)).toList,e∈es.toList:=by
 have key:∀l:List Nat,(∀i∈l,i<es.size)->(l.filterMap (es[·]?)).length=l.length/\∀e∈l.filterMap (es[·]?),e∈es.toList:=by
  intro l;induction l with
  | nil=>intro _;exact⟨rfl,λe c=>by cases c⟩
  | cons x l d=>
   intro b;obtain⟨i1,i2⟩:=d λi hi=>b i (zo _ hi);have f:=b x zr;have e:(x::l).filterMap (es[·]?)=es[x]::l.filterMap (es[·]?):=by rw[List.filterMap_cons];simp[f]
   rw[e];refine⟨by rw[zM,zM,i1],λy a=>?_⟩;rcases zA.mp a with rfl|a
   .simp
   .exact i2 y a
 have hlt:∀i∈order.toList,i<es.size:=λi hi=>List.mem_range.mp (h.mem_iff.mp hi);obtain⟨k1,k2⟩:=key order.toList hlt;rw[Array.toList_filterMap];refine⟨?_,k2⟩;rw[<-zp,Array.toList_filterMap,k1,h.length_eq,List.length_range]
def xQ{es c:Array (Int×Va)}{d:SetTable}{ks1:List (List K)}{Q:Bool->Vc->Prop}(L:s.heap.get? a=Vo o)(hex:o.ExactSet)(hd:o.data=.set es ep t)(j:c.size=n+1)(v:d.place.size=c.size)(r:d.dummies = #[])
  (x:Tb.Mask d.mask) (y:n*5<d.mask*3) (Y:n<200) (hlen:ks1.length=n+1) (z:∀e∈c.toList,∃b k,e.2=.ref b/\k∈ks1/\IsTupleKey knd s.heap k b)
  (h:∀h',Heap.SameBut a s.heap h'->dy knd h' a ks1->Q true { s with heap:=h' }) :
  Vf (Vg P w) A (do
   storeSet a c d
   if(!false && d.tooFull)=true then do
    setRelay a (SetTable.grown (n+1))
    pure true
   else pure true) Q E s:=by
 have M:n+1<=sizeLine:=zP (show n+1<=1000 by omega) (by decide);refine ze (wpAny_storeSet_of L hd ?_ (by omega));have i:(s.heap.update a (Obj.putSet c d)).get? a=Vo { o with data:=.set c (ep+1) d }:=by have:=Heap.get?_update_self (Obj.putSet c d) L (by rw[putSet_of c d hd];rfl);rw[putSet_of c d hd]at this;exact this
 have g:=Heap.SameBut.update s.heap a (Obj.putSet c d);generalize s.heap.update a (Obj.putSet c d)=h1 at i g;have l:∀e∈c.toList,∃b k,e.2=.ref b/\k∈ks1/\IsTupleKey knd h1 k b:=λe N=>by obtain⟨b,k,z1,z2,z3⟩:=z e N;exact⟨b,k,z1,z2,md z3 L hd g⟩
 have f:d.fill=n+1:=by unfold SetTable.fill;rw[r,v,j];rfl
 by_cases G:d.tooFull=true
 .rw[G];simp only[Bool.not_false,Bool.and_self,if_true];have B:d.mask*3<=(n+1)*5:=by unfold SetTable.tooFull at G;rw[f]at G;simpa using G
  obtain⟨m,S,T,U,hlt⟩:∃m,Tb.Mask m/\SetTable.sizeAbove (SetTable.grown (n+1))-1=m/\n+1<=m/\(n+1)*5<m*3/\SetTable.sizeAbove (SetTable.grown (n+1))<=sizeLine:=by
   have W:SetTable.grown (n+1)=(n+1)*4:=by unfold SetTable.grown;rw[Ai (by omega)]
   rw[W];rcases x with e|e|e|e<;>rw[e]at y B
   .obtain rfl:n=4:=by omega
    exact⟨31,.inr (.inl rfl),Tb.vN,by omega,by omega,by decide +kernel⟩
   .obtain rfl:n=18:=by omega
    exact⟨127,.inr (.inr (.inl rfl)),Tb.uh,by omega,by omega,by decide +kernel⟩
   .obtain rfl:n=76:=by omega
    exact⟨511,.inr (.inr (.inr rfl)),Tb.yX,by omega,by omega,by decide +kernel⟩
   .omega
  have C:d.fits c.size=true:=by simp only[SetTable.fits,zT,beq_iff_eq,decide_eq_true_eq];refine⟨v,?_⟩;rw[f];rcases x with e|e|e|e<;>omega
  obtain⟨F,order,H,I,O,J,p⟩:=Tb.yw d (hashes:=c.map (·.1)) S T (by rw[Array.size_map];omega);rw[Array.size_map]at I p;obtain⟨r1,X⟩:=y7 p;refine ze ?_;unfold setRelay;refine ze (Ad (s:={ s with heap:=h1 }) i rfl C ?_);dsimp only;rw[Ai (Nat.not_lt.mpr hlt.2),H];refine ze ?_;show Vf _ _ (do
   if(order.filterMap (c[·]?)).size != c.size then unsupported "internal:set-table-lost-an-element"
   pure (order.filterMap (c[·]?),F)) _ _ _
  rw[r1];simp only[bne_self_eq_false,zZ,if_false];refine zf ?_;dsimp only;refine wpAny_storeSet_of (s:={ s with heap:=h1 }) i rfl ?_ (by rw[r1];omega);have R:(h1.update a (Obj.putSet (order.filterMap (c[·]?)) F)).get? a=Vo { o with data:=.set (order.filterMap (c[·]?)) (ep+1+1) F }:=by have:=Heap.get?_update_self (Obj.putSet (order.filterMap (c[·]?)) F) i (by rw[putSet_of _ _ (o:={ o with data:=.set c (ep+1) d }) rfl];rfl);rw[putSet_of _ _ (o:={ o with data:=.set c (ep+1) d }) rfl]at this;exact this
  have u:=Heap.SameBut.update h1 a (Obj.putSet (order.filterMap (c[·]?)) F);refine zf (h _ (g.trans u) ⟨_,_,_,F,R,hex,rfl,by rw[r1];exact I,O,by rw[J];exact S,by rw[r1,J,j];exact hlt.1,by rw[r1,j,hlen],λe N=>?_⟩);obtain⟨b,k,z1,z2,z3⟩:=l e (X e N);exact⟨b,k,z1,z2,md z3 i rfl u⟩
 .have q:d.tooFull=false:=by simpa using G
  rw[q];simp only[Bool.and_false,zZ,if_false];have B:(n+1)*5<d.mask*3:=by unfold SetTable.tooFull at q;rw[f]at q;simpa using q
  exact zf (h h1 g ⟨_,c,_,d,i,hex,rfl,v,r,x,by rw[j];exact B,by rw[j,hlen],l⟩)
def xY{b:Vb}{k:List K}{ks:List (List K)}{d:Int}{Q:Bool->Vc->Prop}(I:A.units<cLine)(y:IsTupleKey knd s.heap k b)(J:dy knd s.heap a ks)(p:k∉ks)(L:ks.length<200)
  (h:∀h',Heap.SameBut a s.heap h'->dy knd h' a (k::ks)->Q true { s with heap:=h' }):Vf (Vg P w) A (setAddHashed a (.ref b) d) Q E s:=by
 obtain⟨o,es,ep,t,u,hex,hd,v,f,x,m,hlen,hall⟩:=J;have hle:es.size<=t.mask:=by omega
 have B:t.fits es.size=true:=by simp only[SetTable.fits,zT,beq_iff_eq,decide_eq_true_eq];refine⟨v,?_⟩;unfold SetTable.fill;rw[f,v];simpa using hle
 obtain⟨T,C,F⟩:=Tb.vk f (by rw[v];exact hle);obtain⟨N,M,O⟩:=Tb.yS x C d;have n:∀e∈es.toList,∃g i,e.2=.ref g/\IsTupleKey knd s.heap i g/\i≠k:=λe q=>by obtain⟨g,i,h1,h2,R⟩:=hall e q;exact⟨g,i,h1,R,λz=>p (z ▸ h2)⟩
 unfold setAddHashed setAddHashedIn;refine wpAny_holding (ze (Ad u hd B ?_));dsimp only;have G:byScan (.ref b) es=false:=rfl;rw[G];simp only[zZ,if_false];unfold setSearch;have H:10*SetTable.turns t.mask<100000:=by unfold SetTable.turns;rcases x with e|e|e|e<;>rw[e]<;>decide
 refine ze (sQ I y u hd B x f n (λj=>?_) N 100000 Vp (by omega) M rfl (by show t.slot (Tb.bT t N (t.probeStart d)).j=_;rw[O];exact F));dsimp only;refine ze (Ad u hd B ?_);dsimp only;have l:(t.put j).1.place.size=es.size+1/\(t.put j).1.dummies = #[]/\(t.put j).1.mask=t.mask:=by
  refine⟨?_,?_,rfl⟩
  .show(SetTable.insertAt t.place (SetTable.below t.place j) j).size=_;rw[Tb.jZ,v]
  .show(if SetTable.has t.dummies j=true then _ else t.dummies) = #[];rw[f,Tb.nQ];rfl
 have r:∀e∈(SetTable.insertAt es (t.put j).2 (d,Value.ref b)).toList,∃g i,e.2=.ref g/\i∈k::ks/\IsTupleKey knd s.heap i g:=λe q=>by
  rcases Tb.xh q with rfl|q
  .exact⟨b,k,rfl,zr,y⟩
  .obtain⟨g,i,z1,z2,z3⟩:=hall e q;exact⟨g,i,z1,zo _ z2,z3⟩
 have fin:∀c:Bool,Vf (Vg P w) A (do
   storeSet a (SetTable.insertAt es (t.put j).2 (d,Value.ref b)) (if c=true then(t.put j).1 else{ (t.put j).1 with plain:=false })
   if(!false && (if c=true then(t.put j).1 else{ (t.put j).1 with plain:=false }).tooFull)=true then do
    setRelay a (SetTable.grown (es.size+1))
    pure true
   else pure true) Q E s:=λc=>by
  refine xQ (ks1:=k::ks) u hex hd (Tb.jZ _ _ _) ?_ ?_ ?_ ?_ (by omega) (by rw[zM,hlen]) r h
  .rw[Tb.jZ];cases c<;>exact l.1
  .cases c<;>exact l.2.1
  .cases c<;>exact x
  .cases c<;>exact m
 cases S:(t.put j).1.plain
 .simp only[zZ,if_false];exact ze (zf (fin true))
 .simp only[if_true];exact ze (sW y fin)
end
section
variable {P:Vd} {w:Ve} {A:Vi} {K:Type} [DecidableEq K] {knd:KeyKind P w K} {I:Vb} {fp wr:List Vb} {G:Array GenState->Array GenState->Prop} {n:Nat} {Pz:Nat->Va->Prop} {St:Nat->Vc->Prop}
def dy.moved{ks:List (List K)}{wr:List Vb}(i:dy knd h a ks)(f:∀b o,b∉wr->h.get? b=Vo o->h'.get? b=Vo o)(j:a∉wr)(l:∀b∈wr,∀o,h.get? b=Vo o->∃vs,o.data=.fields vs):dy knd h' a ks:=by obtain⟨o,es,ep,t,n,hex,hd,h1,h2,p,q,r,hall⟩:=i;refine⟨o,es,ep,t,f a o j n,hex,hd,h1,h2,p,q,r,λe s=>?_⟩;obtain⟨b,k,z1,z2,o',items,m,c,u,d,hi⟩:=hall e s;refine⟨b,k,z1,z2,o',items,m,f b o' (λv=>?_) c,u,d,hi⟩;obtain⟨vs,g⟩:=l b v o' c;rw[d]at g;cases g
def tT(W:WalksS P w A.in1 I fp wr G n Pz St)(S:Vb)(hS:S∉fp)(hu:A.in1.units<cLine)(bs:List Vb)(kk:List (List K))(E:kk.length=n)(H:kk.Nodup)(a0:n<200)
  (r:∀i v,Pz i v->∃b,v=.ref b/\bs[i]?=Vo b) (hwr:∀i s,St i s->∀b∈wr,∀o,s.heap.get? b=Vo o->∃vs,o.data=.fields vs) {R:Result->Vc->Prop} :
  ∀(m i:Nat) (s:Vc),n-i=m->i<=n->St i s->dy knd s.heap S (kk.take i).reverse->(∀(j:Nat) (b:Vb) (k:List K),bs[j]?=Vo b->kk[j]?=Vo k->IsTupleKey knd s.heap k b) ->
   (∀s',Moved (S::wr) G s s'->dy knd s'.heap S kk.reverse->R (.ok (.ret .none)) s') ->
   codeAny (Vg P w) A (.builtin "set.update.loop" ⟨[.ref S,.ref I],[]⟩) R s:=by
 have t:S∉wr:=λz=>hS (W.sub _ z);have more:∀b∈wr,b∈S::wr:=λb z=>zo _ z;intro m;induction m with
 | zero=>
  intro i s hm hi d a f J;obtain rfl:i=n:=by omega
  refine codeAny_builtin F.entry_set_update_loop ?_;rw[Around.under_plainId F.plain_set_update_loop _];show Vf _ A.in1 (pyNext (.ref I) >>= _) _ _ s;refine ze (W.done s _ _ d λs' p=>?_);rw[<-E,zN]at a;exact zf (J s' (p.mono more) (a.moved p.heap t (hwr _ s d)))
 | succ m ih=>
  intro i s hm hi d a f J;have hlt:i<n:=by omega
  refine codeAny_builtin F.entry_set_update_loop ?_;rw[Around.under_plainId F.plain_set_update_loop _];show Vf _ A.in1 (pyNext (.ref I) >>= _) _ _ s;refine ze (W.item i s _ _ hlt d λv s' hP u p=>?_);obtain⟨b,rfl,hb⟩:=r i v hP;have h:kk[i]?=Vo kk[i]:=zl (by omega);have g:=a.moved p.heap t (hwr _ s d);have hkeys':∀(j:Nat) (b:Vb) (k:List K),bs[j]?=Vo b->kk[j]?=Vo k->IsTupleKey knd s'.heap k b:=λj b k L M=>by obtain⟨o',items,q,x,y,B,N⟩:=f j b k L M;refine⟨o',items,q,p.heap b o' (λO=>?_) x,y,B,N⟩;obtain⟨vs,hv⟩:=hwr _ s d b O o' x;rw[B]at hv;cases hv
  show Vf _ A.in1 (holding [Value.ref b] (setAdd S (.ref b)) >>= _) _ _ s';refine ze (wpAny_holding ?_);unfold setAdd;refine wpAny_holding (ze (wpAny_pyHash_tuple hu (hkeys' i b _ hb h) ?_));have C:kk[i]∉(kk.take i).reverse:=by rw[List.mem_reverse];intro z;obtain⟨q,hq,e⟩:=List.mem_iff_getElem.mp z;rw[Ac]at hq;rw[List.getElem_take]at e;have:=(List.getElem_inj H).mp e;omega
  have Q:(kk.take (i+1)).reverse=kk[i]::(kk.take i).reverse:=by rw[List.take_add_one,h,List.reverse_append];rfl
  refine xY (s:={ s' with toks:=s'.toks+(kk[i].length+1) }) hu (hkeys' i b _ hb h) g C (by rw[List.length_reverse,Ac];omega) λh' sb l=>?_;obtain⟨oS,a1,a2,tS,T,_,U,_⟩:=id g;refine zf ⟨plainId_quiet F.plain_set_update_loop _,ih (i+1) _ (by omega) hlt (W.frame _ s' _ _ u (Nat.le_add_right _ _) λc y o e=>?_) (by rw[Q];exact l) (λj c k L M=>md (hkeys' j c k L M) T U sb) λX Y Z=>?_⟩
  .rw[sb.2 c (λz:c=S=>hS (z ▸ y))];exact e
  .refine J X (Moved.trans W.gtrans ((p.mono more).then_heap (Nat.le_add_right _ _) λc o y e=>?_) Y) Z;rw[sb.2 c (λz:c=S=>y (by rw[z];exact zr))];exact e
end
end L2.Og
namespace L2.Og
open PySem PySem.Spec PyProof.Rows
section
variable {P:Vd} {w:Ve} {A:Vi} {E:Va->Vc->Prop} {s:Vc} {K:Type} [DecidableEq K] {knd:KeyKind P w K}
abbrev dG(led:Bool):Obj:={ cls:=.type "set",dict:=Vp,data:=.set #[] 0 (.fresh 0 0 led) }
def rz(knd:KeyKind P w K)(s:Vc)(kk:List (List K))(h':Vh):Prop:=
 dy knd h' s.heap.objs.size kk.reverse/\∀b o,b<s.heap.objs.size->s.heap.get? b=Vo o->h'.get? b=Vo o
def wa:isSubtype (.type "tuple") (.type "frozenset")=pure false:=by
 rw[isSubtype_type]
 kernel_rfl
def wR{t:Vb}{bs:List Vb}{kk:List (List K)}{Q:Va->Vc->Prop}(U:A.handled=Vp)(hu:A.units+5<cLine)(gt:s.heap.IsTuple t ys)(u:ys.toList=bs.map Value.ref)
  (W:kk.length=ys.size) (y:kk.Nodup) (X:ys.size<200) (g:∀(j:Nat) (b:Vb) (k:List K),bs[j]?=Vo b->kk[j]?=Vo k->IsTupleKey knd s.heap k b)
  (h:∀(h':Vh) (tk:Nat),rz knd s kk h'->Q (.ref s.heap.objs.size) { s with heap:=h',toks:=tk }):Vf (Vg P w) A (call (.type "set") [.ref t]) Q E s:=by
 have x1:=F.called_set.notType;have x2:=F.called_set.canCreate;have x3:=F.typeCall_set_1 (.ref t);have x4:=F.called_set.made;have x5:=F.called_set.sub;obtain⟨c,tl,x6⟩:=F.called_set.mro;refine wpAny_call (codeAny_of_tree ?_);show Vf _ _ (callAny (.type "set") _) _ _ _;refine zf ⟨Code.quiet_builtin _ (by decide +kernel),codeAny_builtin F.entry_type_call ?_⟩;rw[Around.under_plain (weight_type_call_type "set" [.ref t] []) rfl]
 repeat (any_goals (first|assumption|wp_step))
 refine codeAny_mono (code_set_new_1 (.ref t) (E:=E) (Q₁:=λv s1=>∃led,v=.ref s.heap.objs.size/\s1={ s with heap:=s.heap.push (dG led) }) λled=>⟨led,rfl,rfl⟩) λr s1 B=>?_;cases r with
 | error e=>exact B
 | ok Y=>
  cases Y with
  | ret v=>
   obtain⟨led,rfl,rfl⟩:=B;have T:(s.heap.push (dG led)).get? s.heap.objs.size=Vo (dG led):=zi _ rfl;have Z:Shared.TypeIs { s with heap:=s.heap.push (dG led) } (.ref s.heap.objs.size) "set":=⟨_,T,rfl⟩;have x7:=F.called_set.init.lookup;have x8:=F.called_set.init.bind (.ref s.heap.objs.size)
   repeat (any_goals (first|assumption|wp_step))
   refine codeAny_mono (codeAny_call_builtin (R:=wants (λr s2=>r=.none/\∃h' tk,s2={ s with heap:=h',toks:=tk }/\rz knd s kk h') E) F.called_set.init.plain F.entry_set_init (check_set_init_1 Z ?_)) λr2 s2 a=>?_
   .have C:(s.heap.push (dG led)).IsTuple t ys:=gt.push _;have hlt:t<s.heap.objs.size:=by obtain⟨o,f,_⟩:=gt;exact zj f
    obtain⟨ol,a0,l,nl,m⟩:=id C;obtain⟨c0,d0,dt,sl⟩:=ol;simp only at l m;subst l m;have y1:=F.sub_tuple_set;have y2:=wa;have y3:(Value.type "tuple" == Value.type "dict")=false:=by decide
    unfold Builtin.«set.__init__» noKeywords Builtin.Frozenset.updateFrom;generalize hit:pyIter=PI
    wp_walk
    subst hit;refine wpAny_pyIter_tuple C ?_;refine ze (wpAny_runValue ?_);have n:(s.heap.push (dG led)).objs.size=s.heap.objs.size+1:=Heap.size_push _ _;have G:A.in1.in1.in1.handled=Vp:=by simp[U]
    have H:t≠(s.heap.push (dG led)).objs.size:=by rw[n];exact zE (Nat.lt_succ_of_lt hlt)
    have I:s.heap.objs.size∉[(s.heap.push (dG led)).objs.size,t]:=by
     intro z;rcases zA.mp z with z|z
     .rw[n]at z;exact zE (Nat.lt_succ_self _) z
     .exact Nat.ne_of_gt hlt (zw.mp z)
    have J:∀i:Nat,ys[i]?=(bs[i]?).map Value.ref:=λi=>by rw[<-Array.getElem?_toList,u,zm]
    refine tT (knd:=knd) ((Walks.tuple G _ t H ys).toS) s.heap.objs.size I (by simp only[Around.in1_units];omega) bs kk W y X (λi v hv=>?_) (λi s' hs b L o f=>?_) (ys.size-0) 0 _ (by omega) (Nat.zero_le _) ⟨⟨_,zi _ rfl,rfl,rfl⟩,C.push _⟩ ⟨dG led,#[],0,_,zh _ T,⟨rfl,rfl,rfl⟩,rfl,rfl,rfl,  .inl rfl,(show 0*5<7*3 by decide),rfl,λe he=>by simp at he⟩ (λj b k n e2=>?_) λs' x d=>?_
    .have p:ys[i]?=Vo v:=hv;rw[J i]at p;obtain⟨b,e,rfl⟩:=zx.mp p;exact⟨b,rfl,e⟩
    .cases zw.mp L;obtain⟨o',M,_,N⟩:=hs.1;rw[M]at f;cases f;exact⟨_,N⟩
    .obtain⟨o,items,q,f,r⟩:=g j b k n e2;exact⟨o,items,q,zh _ (zh _ f),r⟩
    .obtain⟨h',g',d',O,S⟩:=s';have q1:g'=s.gens:=x.gens;have q2:d'=s.drawn:=x.drawn;have q3:S=s.os:=x.os;subst q1 q2 q3;show Vf _ _ _ _ _ _;refine zf ?_;show Vf _ _ (ret Value.none) _ _ _;refine zf ⟨rfl,h',O,rfl,d,λb o u e=>x.heap b o (λz=>?_) (zh _ (zh _ e))⟩;rcases zA.mp z with z|z
     .exact zE u z
     .have z:=zw.mp z;rw[n]at z;exact zE (Nat.lt_succ_of_lt u) z
   .cases r2 with
    | error e=>exact a
    | ok f2=>
     cases f2 with
     | ret r=>
      obtain⟨rfl,h',tk,rfl,d⟩:=a
      repeat (any_goals (first|assumption|wp_step))
      exact h _ _ d
     | _=>exact a.elim
  | _=>exact B.elim
end
end L2.Og
namespace L2.Og
open PySem PySem.Spec PyProof.Rows
def fU(a:Vb)(n:Nat):HO:=.ext λh=>∃o es ep t,h.get? a=Vo o/\o.ExactSet/\o.data=.set es ep t/\t.fits es.size=true/\es.size=n
def uY{ks:List (List Key)}(S:dy (cS P w) h a ks):bH P w H h a (fU a ks.length):=by
 obtain⟨o,es,ep,t,g,hex,hd,i,b,l,c,hlen,_⟩:=S;refine⟨⟨o,es,ep,t,g,hex,hd,?_,hlen⟩,⟨o,g⟩,λh1 h2 z k=>?_⟩
 .simp only[SetTable.fits,zT,beq_iff_eq,decide_eq_true_eq];refine⟨i,?_⟩;unfold SetTable.fill;rw[b,i];have:es.size<=t.mask:=by omega
  simpa using this
 .obtain⟨o',d,e,j,f,r⟩:=z;exact⟨o',d,e,j,k _ f,r⟩
def bx(H:Hp)(p:Vb)(kk:List (List Key)):Prop:=∃bs:List Vb,H p=Vo (.tup (bs.map V.ref))/\bs.length=kk.length/\∀(j:Nat) (b:Vb) (k:List Key),bs[j]?=Vo b->kk[j]?=Vo k->H b=Vo (.tup (k.map kV))
theorem pQ:∀{bs:List Vb} {us:List Va},Vals (bs.map V.ref) us->us=bs.map Value.ref
 | [],_,.nil=>rfl
 | b::bs,_,.cons r t=>by rw[List.map_cons,<-pQ (bs:=bs) t];exact congrArg (· :: _) r
section
variable {X:Cx}
def sj:List V->Hp->VK->Prop:=λxs H Q=>∃p a,xs=[.ref p]/\bx H p a/\a.Nodup/\a.length<200/\∀l,H l=Vp->Q (.ref l) (upd H l (fU l a.length))
def call_setT{k:Nat}(c:Room k X.A):cc X (.type "set") sj:=by
 intro pins s σ H xs us Q I r h;obtain⟨p,kk,rfl,⟨bs,h1,h2,f⟩,a,g,q⟩:=h;obtain⟨u,rfl,i⟩:=vals1 r;cases i;obtain⟨_,l,m,gt⟩:=I.hok p _ h1;have t:=pQ m;subst t;have E:=c.units;have v:=c.hd;refine wR (knd:=cS X.prog X.w) (kk:=kk) (bs:=bs) v (by omega) (show s.heap.IsTuple p _ from gt) rfl (by simp[h2]) a (by simp[h2];exact g) (λj b k x y=>?_) λh' tk d=>?_
 .obtain⟨_,F,z,o,B,C,n,hd⟩:=I.hok b _ (f j b k x y);exact⟨o,_,n,B,C,hd,nG z⟩
 .have hok:=uY (H:=upd H s.heap.objs.size (fU s.heap.objs.size kk.length)) d.1;rw[List.length_reverse]at hok;exact⟨.ref s.heap.objs.size,_,I.laid (t':=tk) (λb o e=>d.2 b o (zj e) e) (zF _) hok,rfl,q _ (I.hok.fresh (zF _))⟩
def nI:List V->Hp->VK->Prop:=λxs H Q=>∃p n,xs=[.ref p]/\H p=Vo (fU p n)/\n<200/\Q (.int n) H
def call_lenSet:cc X (.builtin "len") nI:=by intro pins s σ H xs us Q I r h;obtain⟨p,n,rfl,a,f,q⟩:=h;obtain⟨u,rfl,b⟩:=vals1 r;cases b;obtain⟨⟨o,es,ep,t,c,hex,hd,d,e⟩,_⟩:=I.hok p _ a;refine call_len_set c hex hd d (by omega) ⟨.int n,H,I.tok _,⟨s.toks+1,by rw[e]⟩,q⟩
def rd_setOf{Q:VK}{p:Vb}{kk:List (List Key)}(h:bx H p kk)(a:kk.Nodup)(b:kk.length<200)(q:∀l H',Ext H H'->H' l=Vo (fU l kk.length)->Q (.ref l) H'):sj [.ref p] H Q:=
 ⟨p,kk,rfl,h,a,b,λl c=>q l _ (bL c) aM⟩
def rd_lenSet{Q:VK}{p:Vb}(h:H p=Vo (fU p n))(a:n<200)(q:Q (.int n) H):nI [.ref p] H Q:=⟨p,n,rfl,h,a,q⟩
end
end L2.Og
namespace L2.Ti
open PySem PySem.Spec PyProof.Rows
end L2.Ti
namespace L2
open PySem PySem.Spec PyProof.Rows
section
variable {X:Cx} {pins:List (Vb×Obj)} {σ:St} {H:Hp} {s:Vc}
def oC{i:Nat}{y:Vn}{py:Pos}{pos c:Pos}(own:List Vn)(d:List Nat){M:TI}{te:TE}(U:X.N.Nodup)(f:X.N[i]?=Vo y)(Z:Loc X.env.scope y)
  (hi:PI X tg iter M) (hg:∀z,PG (bS X sc own d z) tg g) (ht:∀z,eX (bS X sc own d z) ifs tc)
  (he:∀z,PE (bS X sc own d z) elt te) (j:swapsWith (.ListComp elt [⟨tg,iter,ifs,0⟩] sc pos) (Vo (.Name y py)) c.line X.env=pure true:=by rfl) (hc:X.calm=true:=by rfl) (O:sc.kind=.function:=by rfl) (k:cO sc X.env.scope=true:=by rfl) (hj:eU sc X.N d=true:=by rfl)
  (hs:∀x,foldedSetIterable iter X.env x=pure x:=by intro _;rfl) (l:X.fn y=true\/X.env.scope.names.lookup y=Vo .local:=by first|exact .inl rfl|exact .inr rfl|assumption) :
  PS X (.Assign [.Name y py] (.ListComp elt [⟨tg,iter,ifs,0⟩] sc pos) c) (iO (iC own.length d M g tc te) (gK i)):=by
 intro pins s σ H n I h;rw[exec_Assign_Name_used _ _ _ _ j];refine ze (wpAny_standAt (ze ?_));show Vf _ X.A (do let _ <-comprehension (.ListComp elt [⟨tg,iter,ifs,0⟩] sc pos) sc X.env _ (newList []) false (eval iter X.env) (some (assign (.Name y py) X.env))) _ _ s;refine ze (wpAny_mono (wpAny_comprehension_free (use:=some (assign (.Name y py) X.env)) (Q:=λ_ s'=>SP X pins n .next s') rfl hs (lJ λp r l=>I.ok.has p.1 (i6 k r l)) O (λp r hl=>nE k r hl)
  (ao (hi pins s σ H _ I h) λv s1 h1=>ao h1 λa0 s2 h2=>?_)) (λ_ s' hq=>zf (zf hq)) λ_ _ e=>e)
 obtain⟨it,fp,tn,J,H2,e,I2,T,t,P,W,w0,turn⟩:=h2;subst e;refine o8 (Q:=λx H1=>gK i x σ H1 n.nx) (RR:=λacc C=>compPost (Vg X.prog X.w) X.A X.xe (Vo (assign (.Name y py) X.env)) (λ_ s'=>SP X pins n .next s') acc C) O k hj (λ_=>hg _) (λ_=>ht _) (λ_=>he _) I2 (λC=>Turn.at_ (Y:=bS X sc own d ⟨_,_,_,C⟩) T hc) t P w0 turn ?_;intro D C s' ys H' nD I' hC ⟨m,hm⟩ a1 q;show Vf _ X.A (assign (.Name y py) X.env (.ref D)) _ _ _;refine wpAny_assign_Name (oN I' U f Z (v:=.ref D) rfl (λu B ⟨a,E,F⟩=>?_) l);obtain⟨f0,R,P,f3,S,f5⟩:=hC;have G:a≠C:=by
  rcases F with rfl|F
  .exact Ne.symm R
  .exact S y a F
 refine⟨m,hm.sameBut E (Ne.symm G),λh' K=>?_⟩;exact⟨_,_,B.turned (t':=u.toks) (it:=C) (λb o L e=>(K.2 b L).trans e) f0 R f3 S f5,q⟩
end
section
variable {X:Cx}
theorem pK:∀(l:List (Vn×Tok)),Vals ((l.map (·.1)).map V.str) (strValues l)
 | []=>.nil
 | (x,t)::l=>.cons ⟨t,rfl⟩ (pK l)
def p7:V->List V->Hp->VK->Prop:=λx vs H Q=>∃z y:Vn,x=.str z/\vs=[.str y]/\(y.length == 0)=false/\z.length+2<=sizeLine/\∀l,H l=Vp->Q (.ref l) (upd H l (.lst ((Txt.split z y).map V.str)))
def iD:gg X "str.split" p7:=by
 intro pins s σ H x vs v us Q I d f h;obtain⟨z,y,rfl,rfl,c,j,q⟩:=h;obtain⟨t,rfl⟩:=d;obtain⟨u,rfl,t',rfl⟩:=vals1 f;have fin:∀(l:List (Vn×Tok)) (k:Nat),l.map (·.1)=Txt.split z y->EP X pins σ Q (.ref s.heap.objs.size) { s with toks:=k,heap:=s.heap.push { cls:=.type "list",data:=.seq (strValues l).toArray } }:=λl k e=>by
  have m:=split_le z y;have rel:=pK l;have g:l.length=(Txt.split z y).length:=by rw[<-e,zk]
  rw[e]at rel;refine⟨.ref s.heap.objs.size,_,I.laid (t':=k) (o:=.lst ((Txt.split z y).map V.str)) (λb o i=>zh _ i) (zF _) ⟨by rw[zk];omega,_,_,rel,zi _ rfl⟩,rfl,q _ (I.hok.fresh (zF _))⟩
 cases h1:(decide (z.length<y.length) || decide (Builtin.Str.strKind z<Builtin.Str.strKind y))
 .cases a:(Builtin.Str.occurrences z y 0 z.length (z.length+1)).isEmpty
  .have e:Txt.split z y=Builtin.Str.partsBetween z (Builtin.Str.occurrences z y 0 z.length (z.length+1)) y.length:=(Ai (ne_true_of_eq_false h1)).trans (Ai (ne_true_of_eq_false a));refine call_meets F.slot_str_split (typeIs_str _ _ _) F.entry_str_split (F.args_str_split_2 _ _) (meets_str_split_sep z y t t' h1 c a (by omega) (by rw[<-e];have:=split_le z y;omega)) ?_;show wants (EP X pins σ Q) X.xe _ { s with toks:=_,heap:=s.heap.push { cls:=.type "list",data:=.seq (strsFrom s.toks (Builtin.Str.partsBetween z (Builtin.Str.occurrences z y 0 z.length (z.length+1)) y.length)).toArray } };rw[strsFrom_eq];exact fin _ _ ((numbered_texts _ _).trans e.symm)
  .exact call_meets F.slot_str_split (typeIs_str _ _ _) F.entry_str_split (F.args_str_split_2 _ _) (meets_str_split_not_found z y t t' h1 c a) (fin [(z,t)] s.toks ((Ai (ne_true_of_eq_false h1)).trans (Aj a)).symm)
 .exact call_meets F.slot_str_split (typeIs_str _ _ _) F.entry_str_split (F.args_str_split_2 _ _) (meets_str_split_cannot_occur z y t t' h1) (fin [(z,t)] s.toks (Aj h1).symm)
def jv:cc X (.type "int") (λxs H Q=>∃z n,xs=[.str z]/\PySem.intText? z=Vo n/\z.length<=640/\Q (.int n) H):=by intro pins s σ H xs us Q I r h;obtain⟨z,n,rfl,a,b,q⟩:=h;obtain⟨u,rfl,t,rfl⟩:=vals1 r;exact PySem.W.KIN.call_text a b ⟨.int n,H,I.tok _,⟨_,rfl⟩,q⟩
end
def xi{z:Vn}{e:List Nat}{te:TE}{Q:VK}(Pv:Nat->List V->Hp->Prop)(w:z.cps.size<=sizeLine)(h:Pv 0 [] H)(j:∀i ys H,i<=z.cps.size->Pv i ys H->ys.length<=i)
  (k:∀i c ys H,z.cps[i]?=Vo c->Pv i ys H->g (.str ⟨#[c]⟩) (bG n e σ) H λa o=>tc a o λb f=>if b=true then te a f λv r=>Pv (i+1) (ys++[v]) r else Pv (i+1) ys f)
  (hd:∀ys H p,Pv z.cps.size ys H->H p=Vp->Q (.ref p) (upd H p (.lst ys))):fQ (gp z) n e g tc te σ H Q:=by
 refine⟨λi m ys H=>m=z.cps.size-i/\i<=z.cps.size/\Pv i ys H,⟨_,rfl,Nat.zero_le _,h⟩,?_⟩;rintro i m ys H ⟨rfl,hi,p⟩;have q:=j i ys H hi p;rcases Aa i z.cps.size with l|l
 .refine .inr ⟨l,by omega,Pv (i+1),λs H' d=>⟨z.cps.size-(i+1),by omega,rfl,l,d⟩,?_⟩;rintro x H' ⟨rfl,c,t,rfl⟩;exact k i c ys H' t p
 .have:i=z.cps.size:=by omega
  subst this;exact .inl ⟨l,λd u=>hd ys H d p u⟩
end L2
namespace L2
open PySem PySem.Spec PyProof.Rows PySem.SeqAt PySem.MeetsSeq
structure MDfn(K:zg)(C:Vb)(m qual:Vn)(st:Vl)(ps:List Vn):Prop where
 ex:∃(f:Vb) (fd:Vm),Meth K C m f/\Fun K m qual st f fd/\Binds K fd ps []
structure MetX(P:Vd)(w:Ve)(K:zg)(mg:Vn->Option Va)(base:Vh)(C:Vb)(m:Vn)(k:Nat)(ps:List Vn)(sp:Sp):Prop where
 ex:∃(f:Vb) (fd:Vm),Meth K C m f/\Binds K fd ps []/\FnOk P w K mg base (aK P w) k f fd ps sp
def MDfn.okX{K:zg}{m:Vn}{k:Nat}(D:MDfn K C m qual st ps)(S:FnScope N ps (aw st))(len:∀vs H Q E,sp vs H Q E->vs.length=ps.length)
  (a:∀(f:Vb) (cdv:Va) (A:Vi) (outer:List Env) (s:Vc) (H:Hp) (vs:List V) (Q:VK) (E:XK),Room k (A.deeper (envOfC qual (aw st) s.heap.objs.size f cdv))->sp vs H Q E ->
   ∃t,bM (aH (aK P w) P w K mg base N qual (aw st) f cdv A outer s H E) (bN st) t/\t { nx:=λ_ H'=>Q .non H',rt:=Q } (start N vs) H):MetX P w K mg base C m (k+1) ps sp:=by
 obtain⟨f,fd,c,F,d⟩:=D.ex;obtain⟨oc,od,kV,doc,pm,an,cdv,ct,osl,rfl,lk,b⟩:=F.ex;exact⟨f,_,c,d,kf lk b S len λA outer s H vs Q E e h=>a f cdv A outer s H vs Q E e h⟩
section
variable {P:Vd} {w:Ve} {K:zg} {mg:Vn->Option Va} {base:Vh} {N:List Vn} {qual:Vn} {scope:Scope} {f:Vb} {cd:Va} {A:Vi} {outer:List Env} {s₀:Vc} {H₀:Hp} {E:XK}
variable {C:Vb} {m:Vn} {k j:Nat} {ps:List Vn} {sp:Sp} {o e:Vk} {es:List Vk} {ta:TE} {t:TA} {apos pos:Pos} {pl:Sem Bool}
def wd(M:MetX P w K mg base C m j ps sp)(c:Cls K C)(i:Room k (aH (aK P w) P w K mg base N qual scope f cd A outer s₀ H₀ E).A)(l:PE (aH (aK P w) P w K mg base N qual scope f cd A outer s₀ H₀ E) o ta)
  (n:PA (aH (aK P w) P w K mg base N qual scope f cd A outer s₀ H₀ E) (e::es) t) (a:j<=k:=by decide)
  (b:starEach (e::es) (aH (aK P w) P w K mg base N qual scope f cd A outer s₀ H₀ E).env=(false,eval e (aH (aK P w) P w K mg base N qual scope f cd A outer s₀ H₀ E).env)::starEach es (aH (aK P w) P w K mg base N qual scope f cd A outer s₀ H₀ E).env:=by rfl)
  (d:(backTo pos (starEach es (aH (aK P w) P w K mg base N qual scope f cd A outer s₀ H₀ E).env)).any (·.1)=false:=by rfl)
  (p:eval (.Call (.Attribute o m apos) (e::es) [] pos) (aH (aK P w) P w K mg base N qual scope f cd A outer s₀ H₀ E).env=(do
   let g <-eval o (aH (aK P w) P w K mg base N qual scope f cd A outer s₀ H₀ E).env
   standAt apos.atName
   let (g9,first) <-holding [g] (getMethod g m pl)
   callWith pos g9 first (backTo pos (starEach (e::es) (aH (aK P w) P w K mg base N qual scope f cd A outer s₀ H₀ E).env)) (backToKw pos (keywordEach [] (aH (aK P w) P w K mg base N qual scope f cd A outer s₀ H₀ E).env))):=by rfl) :
  PE (aH (aK P w) P w K mg base N qual scope f cd A outer s₀ H₀ E) (.Call (.Attribute o m apos) (e::es) [] pos) (gq C m sp [] E ta t):=by
 obtain⟨s,fd,q,r,F⟩:=M.ex;exact tQ l c q F (i.mono a) r .nil (kJ λ_ _ _ h=>h) n b d p
def q9(M:MetX P w K mg base C m j ps sp)(c:Cls K C)(d:Room k (aH (aK P w) P w K mg base N qual scope f cd A outer s₀ H₀ E).A)(e:PE (aH (aK P w) P w K mg base N qual scope f cd A outer s₀ H₀ E) o ta)(a:j<=k:=by decide)
  (g:eval (.Call (.Attribute o m apos) [] [] pos) (aH (aK P w) P w K mg base N qual scope f cd A outer s₀ H₀ E).env=(do
   let b <-eval o (aH (aK P w) P w K mg base N qual scope f cd A outer s₀ H₀ E).env
   standAt apos.atName
   let (g9,first) <-holding [b] (getMethod b m pl)
   callWith pos g9 first (backTo pos (starEach [] (aH (aK P w) P w K mg base N qual scope f cd A outer s₀ H₀ E).env)) (backToKw pos (keywordEach [] (aH (aK P w) P w K mg base N qual scope f cd A outer s₀ H₀ E).env))):=by rfl) :
  PE (aH (aK P w) P w K mg base N qual scope f cd A outer s₀ H₀ E) (.Call (.Attribute o m apos) [] [] pos) (gq C m sp [] E ta eo):=by
 obtain⟨n,fd,i,l,F⟩:=M.ex;exact vb e c i F (d.mono a) l .nil (kJ λ_ _ _ h=>h) g
def rd_meth{Q:VK}(h:ta σ H λx H1=>∃a dx fs,x=.ref a/\H1 a=Vo (.ins C dx fs)/\fs.lookup m=Vp/\t σ H1 λvs H2=>sp (x::(vs++[])) H2 Q E):gq C m sp [] E ta t σ H Q:=h
end
def pd(C:Vb)(m:Vn)(i:Nat)(sp:Sp)(ta:TE)(t:TA):Ends->(St->XK)->St->Hp->Prop:=λD E σ H=>ta σ H λx H1=>∃a dx fs,x=.ref a/\H1 a=Vo (.ins C dx fs)/\fs.lookup m=Vp/\t σ H1 λvs H2=>sp (x::vs) H2 (λv b=>D.nx (σ.set i (Vo v)) b) (E σ)
def vP{m y:Vn}{i k j:Nat}{o e:Vk}{es:List Vk}{ta:TE}{t:TA}{apos pos b d:Pos}{pl:Sem Bool}(M:MetX Y.prog Y.w Y.K Y.mg Y.base C m j ps sp)(c:Cls Y.K C)(T:Room k Y.A)(U:Y.N.Nodup)(hi:Y.N[i]?=Vo y)(Z:Loc Y.env.scope y)(hob:PE Y.nox o ta)(ha:PA Y.nox (e::es) t)(B:j<=k:=by decide)
  (he:starEach (e::es) Y.env=(false,eval e Y.env)::starEach es Y.env:=by rfl) (G:(backTo pos (starEach es Y.env)).any (·.1)=false:=by rfl) (hs:swapsWith (.Call (.Attribute o m apos) (e::es) [] pos) (Vo (.Name y d)) b.line Y.env=pure false:=by rfl)
  (ht:eval (.Call (.Attribute o m apos) (e::es) [] pos) Y.env=(do
   let J <-eval o Y.env
   standAt apos.atName
   let (g9,first) <-holding [J] (getMethod J m pl)
   callWith pos g9 first (backTo pos (starEach (e::es) Y.env)) (backToKw pos (keywordEach [] Y.env))):=by rfl)
  (hf:Y.fn y=true\/Y.env.scope.names.lookup y=Vo .local:=by first|exact .inl rfl|exact .inr rfl|assumption) :
  PB Y (.Assign [.Name y d] (.Call (.Attribute o m apos) (e::es) [] pos) b) (pd C m i sp ta t):=by
 intro pins s σ H D E I h;obtain⟨f,fd,L,hb,F⟩:=M.ex;refine wpAny_Assign_Name (PySem.W.methodCall_KW (pl:=pl) (wpAny_mono (hob pins s σ H _ I h) (λu s1 ⟨x,H1,O,rx,a,dx,fs,ex,ea,l,q⟩=>?_) λ_ _ z=>z.elim) ht) hs;subst ex;obtain rfl:u=Value.ref a:=rx;refine jc (X:=Y.nox) O ea c L l ?_;refine PySem.W.callWith_K (first:=[.ref a]) (h₀:=Y.base) I.ok.mod.kin L.kp (wpAny_mono (ha pos pins s1 σ H1 _ O q) (λus s2 ⟨vs,H2,g,r,P⟩=>⟨g.kIn,?_⟩) λ_ _ z=>z.elim) he G;have R:Vals (V.ref a::vs) (Value.ref a::us):=.cons rfl r;have hl:(Value.ref a::us).length=ps.length:=by rw[<-R.length];exact F.len _ _ _ _ P
 have n:=hb s2 (Value.ref a::us) g.kIn (by rw[List.append_nil];exact hl);rw[List.append_nil]at n;refine wpAny_call (codeAny_mono (F.run Y.A Y.stack s2 H2 ⟨Value.ref a::us,[]⟩ (Value.ref a::us) (V.ref a::vs) _ (E σ) (T.mono B) g.env0 n R P) λr s' p=>?_);cases r with
 | error e=>exact⟨σ,H2,s2,g,p⟩
 | ok fl=>
  cases fl with
  | ret u=>
   obtain⟨v,H3,I3,r3,q3⟩:=g.after p;exact wpAny_mono (fJ (X:=Y.nox) (Q:=λ_ S=>SP Y.nox pins D .next S) (E:=λ_ _=>False) I3 U hi Z r3 (λS I4=>⟨_,H3,I4,q3⟩) hf) (λ_ _ z=>z) λ_ _ z=>z.elim
  | next=>exact False.elim p
  | brk=>exact False.elim p
  | cont=>exact False.elim p
def rd_basgM{m:Vn}{i:Nat}{ta:TE}{t:TA}{D:Ends}{E:St->XK}(h:ta σ H λx H1=>∃a dx fs,x=.ref a/\H1 a=Vo (.ins C dx fs)/\fs.lookup m=Vp/\t σ H1 λvs H2=>sp (x::vs) H2 (λv b=>D.nx (σ.set i (Vo v)) b) (E σ)):pd C m i sp ta t D E σ H:=h
structure MkD(P:Vd)(w:Ve)(K:zg)(mg:Vn->Option Va)(base:Vh)(x:Vn)(k:Nat)(sp:Sp):Prop where
 ex:∃(f:Vb) (fd:Vm),mg x=Vo (.ref (cA K x))/\Mk K (cA K x) f/\Binds K fd ["self"] []/\FnOk P w K mg base dk k f fd ["self"] sp
def yg{x:Vn}{k j:Nat}{p pos:Pos}(M:MkD X.prog X.w X.K X.mg X.base x j sp)(c:Room (k+1) X.A)(a:j<=k:=by decide)(d:Gl X x:=by rfl)(b:(x == ("__debug__":Vn))=false:=by decide):PE X (.Call (.Name x p) [] [] pos) (kW (cA X.K x) sp [] E0 eo):=by obtain⟨f,fd,e,M,g,F⟩:=M.ex;exact tR M F (c.mono (Nat.succ_le_succ a)) d e g .nil qV b
def rd_make{Q:VK}(h:∀x dx,H x=Vp->H dx=Vp->dx≠x->sp [.ref x] (upd (upd H dx (.own x)) x (.ins C dx [])) (λv H2=>v=.non/\Q (.ref x) H2) E0):kW C sp [] E0 eo σ H Q:=h
def Cal.toX{K:zg}{x:Vn}{k:Nat}(h:Cal P w K mg base x k ps sp):CalX P w K mg base x k ps sp:=by
 obtain⟨f,fd,a,b,c,F⟩:=h.ex;refine⟨f,fd,a,b,c,F.len,λA outer s H args us vs Q E r1 g i j l=>codeAny_mono (F.run A outer s H args us vs Q E r1 g i j l) λr s' d=>?_⟩;cases r with
 | error e=>exact False.elim d
 | ok m=>cases m<;>exact d
section
variable {P:Vd} {w:Ve} {K:zg} {mg:Vn->Option Va} {base:Vh} {N:List Vn} {qual:Vn} {scope:Scope} {f:Vb} {cd:Va} {A:Vi} {outer:List Env} {s₀:Vc} {H₀:Hp} {E:XK}
def qZ(P:Vd)(w:Ve)(K:zg)(mg:Vn->Option Va)(base:Vh)(k:Nat)(E:XK)(a:TE)(t:TA):TE:=λσ H Q=>a σ H λy H1=>∃(x:Vn) (j:Nat) (ps:List Vn) (sp:Sp),y=.ref (cA K x)/\mg x=Vo (.ref (cA K x))/\CalX P w K mg base x j ps sp/\j<=k/\t σ H1 λvs H2=>sp vs H2 Q E
def qJ{b i e:Vk}{es:List Vk}{k:Nat}{l:TE}{t:TA}{p pos:Pos}(o:Room k (aH (aK P w) P w K mg base N qual scope f cd A outer s₀ H₀ E).A)(u:PE (aH (aK P w) P w K mg base N qual scope f cd A outer s₀ H₀ E) (.Subscript b i p) l)
  (v:PA (aH (aK P w) P w K mg base N qual scope f cd A outer s₀ H₀ E) (e::es) t)
  (z:starEach (e::es) (aH (aK P w) P w K mg base N qual scope f cd A outer s₀ H₀ E).env=(false,eval e (aH (aK P w) P w K mg base N qual scope f cd A outer s₀ H₀ E).env)::starEach es (aH (aK P w) P w K mg base N qual scope f cd A outer s₀ H₀ E).env:=by rfl)
  (c:(backTo pos (starEach es (aH (aK P w) P w K mg base N qual scope f cd A outer s₀ H₀ E).env)).any (·.1)=false:=by rfl) :
  PE (aH (aK P w) P w K mg base N qual scope f cd A outer s₀ H₀ E) (.Call (.Subscript b i p) (e::es) [] pos) (qZ P w K mg base k E l t):=by
 intro pins s σ H Q I h;show Vf _ _ (eval (.Subscript b i p) _ >>= λd=>callWith pos d [] (backTo pos (starEach (e::es) _)) (backToKw pos (keywordEach [] _))) _ _ s;refine ze (ao (u pins s σ H _ I h) λd s1 ⟨y,H1,m,B,x,j,ps,sp,G,J,C,g,q⟩=>?_);subst G;obtain rfl:d=Value.ref (cA K x):=B;obtain⟨R,fd,a,L,M,F⟩:=C.ex;rw[J]at a;cases a;refine PySem.W.callWith_K (h₀:=base) m.ok.mod.kin L (ao (v pos pins s1 σ H1 _ m q) λus s2 ⟨vs,H2,n,r,O⟩=>⟨n.kIn,?_⟩) z c;exact hZ F (o.mono g) M .nil (kJ λ_ _ _ h=>h) n r (by rw[List.append_nil];exact O)
end
def rd_calS{K:zg}{k:Nat}{E:XK}{a:TE}{t:TA}{Q:VK}(h:a σ H λy H1=>∃(x:Vn) (j:Nat) (ps:List Vn) (sp:Sp),y=.ref (cA K x)/\mg x=Vo (.ref (cA K x))/\CalX P w K mg base x j ps sp/\j<=k/\t σ H1 λvs H2=>sp vs H2 Q E):qZ P w K mg base k E a t σ H Q:=h
def rd_fld{K:zg}{ta:TE}{f:Vn}{Q:VK}(h:ta σ H λx H1=>∃a C dx fs v,x=.ref a/\H1 a=Vo (.ins C dx fs)/\Cls K C/\cY K C f/\fs.lookup f=Vo v/\Q v H1):pX K ta f σ H Q:=h
def rd_sfld{K:zg}{ta tv:TE}{f:Vn}{D:Ends}(h:tv σ H λy H1=>ta σ H1 λx H2=>∃a C dx fs,x=.ref a/\H2 a=Vo (.ins C dx fs)/\Cls K C/\cY K C f/\fs.length<1000/\D.nx σ (upd H2 a (.ins C dx (bf f y fs)))):rR K ta tv f D σ H:=h
def vW{x:Vn}{kvs:List (Key×V)}{i:Vk}{ty:TE}{p:Pos}(c:Gl X x)(d:X.mg x=some (.ref a))(D:GDict X.w X.K a kvs)(hi:PE X i ty)(hd:(x == ("__debug__":Vn))=false:=by decide):PC X .NotIn i (.Name x p) (lG true kvs ty):=by intro pins s σ H Q I h;refine ao (hi pins s σ H _ I h) λg s1 ⟨y,H1,b,e,k,f,q⟩=>ek b c d ?_ hd;subst f;obtain⟨vs,rel,dd⟩:=D.at b;refine wpAny_notIn_of (ja e) D.sm dd.mapOf ?_;rw[<-(rel.val k).isSome_eq];exact⟨.bl (!(bu kvs k).isSome),H1,b.tok _,rfl,q⟩
abbrev ix(h:Vh)(a b:Vb):Vh:=(iq h a).push { cls:=.type "list_iterator",data:=.fields #[.ref b,.int 0 0] }
abbrev iN(h:Vh)(a b:Vb):Vh:=(ix h a b).push { cls:=.type "tuple",data:=.seq #[.ref h.objs.size,.ref (iq h a).objs.size] }
abbrev iu(h:Vh)(a b:Vb):Vh:=(iN h a b).push { cls:=.type "tuple",data:=.seq #[.none,.none] }
abbrev fS(h:Vh)(a b:Vb):Vh:=(iu h a b).push { cls:=.type "zip",data:=.fields #[.none,.bool false,.bool false,.ref (ix h a b).objs.size,.ref (iN h a b).objs.size] }
def uX(a b:Vb)(xs ys:Array Va):Meets (Builtin.«zip.__new__» ⟨[.type "zip",.ref a,.ref b],[]⟩) (λ_ R s=>s.heap.IsTuple a xs/\s.heap.IsList b ys/\R (.ok (.ret (.ref (iu s.heap a b).objs.size))) { s with heap:=fS s.heap a b }):=
 .of_wp λprog w A R s q=>by
  obtain⟨c,g,d,tk,os⟩:=s;obtain⟨ga,f,q⟩:=q;have e:=sub_zip;have h:Heap.IsTuple (Shared.heap ⟨c,g,d,tk,os⟩) a xs:=ga;have i:Heap.IsList (Shared.heap ⟨c.push { cls:=.type "tuple_iterator",data:=.fields #[.ref a,.int 0 0] },g,d,tk,os⟩) b ys:=Heap.IsList.push f _
  wp_walk using wpAny_pyIter_tuple h,wpAny_pyIter_list i
  exact⟨_,rfl,q⟩
def xH{prog:Vd}{w:Ve}{A:Vi}{E:Va->Vc->Prop}{b:Vb}{xs:Array Va}{Q:Va->Vc->Prop}(ga:s.heap.IsTuple a xs)(f:s.heap.IsList b ys)
  (q:∀h',IsZip h' (s.heap.objs.size+4) (s.heap.objs.size+2) (s.heap.objs.size+3) .none->IsPair h' (s.heap.objs.size+2) (.ref s.heap.objs.size) (.ref (s.heap.objs.size+1))->IsPair h' (s.heap.objs.size+3) .none .none ->
   h'.IsTupleIter s.heap.objs.size a 0->h'.IsListIter (s.heap.objs.size+1) b 0->(∀c o,s.heap.get? c=Vo o->h'.get? c=Vo o)->Q (.ref (s.heap.objs.size+4)) { s with heap:=h' }) :
  Vf (Vg prog w) A (call (.type "zip") [.ref a,.ref b]) Q E s:=by
 refine callType_new F.called_zip (by decide) (F.typeCall_zip_2 _ _) (F.newCall_zip_2 _ _) (λob=>F.args_object_init_3 ob _ _) F.entry_zip_new (uX a b xs ys) ⟨ga,f,?_⟩;have n1:(iq s.heap a).objs.size=s.heap.objs.size+1:=Heap.size_push ..;have n2:(ix s.heap a b).objs.size=s.heap.objs.size+2:=by rw[Heap.size_push,n1]
 have d:(iN s.heap a b).objs.size=s.heap.objs.size+3:=by rw[Heap.size_push,n2]
 have e:(iu s.heap a b).objs.size=s.heap.objs.size+4:=by rw[Heap.size_push,d]
 have k5:(fS s.heap a b).get? (iu s.heap a b).objs.size=Vo _:=zi _ rfl;have k4:(fS s.heap a b).get? (iN s.heap a b).objs.size=Vo _:=zh _ (zi _ rfl);have k3:(fS s.heap a b).get? (ix s.heap a b).objs.size=Vo _:=zh _ (zh _ (zi _ rfl));have k2:(fS s.heap a b).get? (iq s.heap a).objs.size=Vo _:=zh _ (zh _ (zh _ (zi _ rfl)));have k1:(fS s.heap a b).get? s.heap.objs.size=Vo _:=zh _ (zh _ (zh _ (zh _ (zi _ rfl))));show _/\_;rw[n2,d,e]at k5;rw[n1,n2]at k3;rw[d]at k4;rw[n1]at k2;rw[e];exact⟨⟨_,k5,rfl⟩,q _ k5 k3 k4 ⟨_,k1,rfl,rfl⟩ ⟨_,k2,rfl,rfl⟩ λc o x=>zh _ (zh _ (zh _ (zh _ (zh _ x))))⟩
section
variable {K:zg} {σ:St} {H:Hp} {Q:VK}
def qG(K:zg):List V->Hp->(It->Hp->Prop)->Prop:=λvs H R=>∃a b xs ys,vs=[.ref a,.ref b]/\ah K H a xs/\ag K H b ys/\R (jm (cP K a) (cD K b)) H
def pe(K:zg)(ta:TA):TI:=λσ H R=>ta σ H λvs H1=>qG K vs H1 R
def xD{kk:Nat}{ps:Pos}(K:zg){a b:Vk}{ta:TA}{p pos:Pos}(o:Gl X "zip")(t:X.mg "zip" = Vp)(u:PA X [a,b] ta)(v:X.K=K:=by rfl)(w:starEach [a,b] X.env=[(false,eval a X.env),(false,eval b X.env)]:=by rfl)(c:starEach [b] X.env=[(false,eval b X.env)]:=by rfl):
  PI X (.Tuple elts kk ps) (.Call (.Name "zip" p) [a,b] [] pos) (pe K ta):=by
 subst v;intro pins s σ H R I h;refine Call_ (gJ I o t PyProof.Rows.boot_zip (PyProof.Rows.callWith_type1 (ao (u pos pins s σ H _ I h) λus s1 ⟨vs,H1,d,r1,x⟩=>?_) (by rw[w,c]) (by rw[c];rfl)));obtain⟨l,m,xs,ys,e,ga,y,q⟩:=x;subst e;cases r1 with
 | cons r f=>
  cases f with
  | cons z f=>
   cases f;cases r;cases z;obtain⟨g,_,A,_⟩:=d.tuple ga;obtain⟨i,_,p2,_⟩:=d.list y;refine xH (show s1.heap.IsTuple l g.toArray from A) p2.isList λh' j B C E F k=>?_;refine wpAny_pyIter_zip (s:={ s1 with heap:=h' }) j ?_;have N:Apart (s1.heap.objs.size+4) (s1.heap.objs.size+2) (s1.heap.objs.size+3) s1.heap.objs.size (s1.heap.objs.size+1):=by constructor<;>(intro h;have h':@Eq Nat _ _:=h;omega)
   refine⟨s1.heap.objs.size+4,[s1.heap.objs.size+4,s1.heap.objs.size+2,s1.heap.objs.size+3,s1.heap.objs.size,s1.heap.objs.size+1],_,_,H1,rfl,d.kept (t':=s1.toks) k,uw (tD l _) (uK m _) N,⟨j,B,⟨_,_,C⟩,E,F⟩,λb n=>?_,q⟩;have le:@LE.le Nat _ s1.heap.objs.size b:=by
    simp only[zA,zQ,or_false]at n;rcases n with rfl|rfl|rfl|rfl|rfl
    .exact Nat.le_add_right _ _
    .exact Nat.le_add_right _ _
    .exact Nat.le_add_right _ _
    .exact zF _
    .exact Nat.le_add_right _ _
   exact d.fpOk le (d.hok.fresh le)
def rd_zipM{a:TA}(h:a σ H λvs H1=>qG K vs H1 R):pe K a σ H R:=h
def y9{b:Vb}{ys:List V}{k:List Nat}{te:TE}(Pv:Nat->List V->Hp->Prop)(G:xs.length<=sizeLine)(q:Pv 0 [] H)(r:∀i zs H,Pv i zs H->ah K H a xs/\ag K H b ys/\zs.length<=i)
  (s:∀i u v zs H p H',xs[i]?=Vo u->ys[i]?=Vo v->Pv i zs H->Ext H H'->H' p=Vo (.tup [u,v])->H p=Vp->g (.ref p) (bG n k σ) H' λc t=>tc c t λb l=>if b=true then te c l λv w=>Pv (i+1) (zs++[v]) w else Pv (i+1) zs l)
  (hd:∀zs H p,Pv (min xs.length ys.length) zs H->H p=Vp->Q (.ref p) (upd H p (.lst zs))):fQ (jm (cP K a) (cD K b)) n k g tc te σ H Q:=by
 refine⟨λi m zs H=>m=min xs.length ys.length-i/\i<=min xs.length ys.length/\Pv i zs H,⟨min xs.length ys.length,by simp,Nat.zero_le _,q⟩,?_⟩;rintro i m zs H ⟨rfl,hi,p⟩;obtain⟨d,f,I⟩:=r i zs H p;by_cases hlt:i<min xs.length ys.length
 .have z:i<xs.length:=by omega
  have A:i<ys.length:=by omega
  refine .inr ⟨⟨⟨xs,xs[i],d,by simp[z]⟩,⟨ys,ys[i],f,by simp[A]⟩⟩,by omega,Pv (i+1),λB H' j=>⟨min xs.length ys.length-(i+1),by omega,rfl,hlt,j⟩,λx H' y=>?_⟩;obtain⟨pp,u,v,rfl,o,rfl,C,E⟩:=y;exact s i u v zs H pp _ (C.2 xs d) (E.2 ys f) p (bL o) aM o
 .have e:i=min xs.length ys.length:=by omega
  refine .inl ⟨?_,λj F=>hd zs H j (e ▸ p) F⟩;by_cases h:xs.length<=i
  .exact .inl ⟨xs,d,h⟩
  .exact .inr ⟨⟨xs,xs[i]'(by omega),d,zl (by omega)⟩,⟨ys,f,by omega⟩⟩
end
section
variable {X:Cx}
def jS(neg:Bool):R2:=λx y H Q=>∃n p xs d ds,aF H n x d/\y=.ref p/\H p=Vo (.tup xs)/\Paired (aF H n) xs ds/\n<=50/\Q (.bl (if neg then !(ds.any λe=>PyData.eqv e d)else ds.any λe=>PyData.eqv e d)) H
def xO{k:Nat}(b:Room k X.A):aU X (compareOp .In) (jS false):=by intro pins s σ H x y v u Q I c e h;obtain⟨n,p,xs,d,ds,h1,rfl,h2,a,f,q⟩:=h;have g:aF H (n+1) (.ref p) (.tuple ds):=.inr ⟨p,xs,ds,rfl,.inl ⟨h2,rfl⟩,a⟩;obtain⟨j,ra⟩:=aF.reads I n h1 c;obtain⟨bs,i⟩:=aF.reads I (n+1) g e;have l1:=aF.lay n h1;have l2:=fT (λ{x d}=>aF.lay (H:=H) n) a;have l:=b.units;have m:min (PyData.depthAll ds) d.depth<=50:=zP (Nat.min_le_right _ _) (zP l1.2 f);exact SeqAt.in_tuple_reads i ra l2.1 l1.1 (by omega) ⟨.bl _,H,I,rfl,q⟩
def sY{k:Nat}(b:Room k X.A):aU X (compareOp .NotIn) (jS true):=by intro pins s σ H x y v u Q I c e h;obtain⟨n,p,xs,d,ds,h1,rfl,h2,a,f,q⟩:=h;have g:aF H (n+1) (.ref p) (.tuple ds):=.inr ⟨p,xs,ds,rfl,.inl ⟨h2,rfl⟩,a⟩;obtain⟨j,ra⟩:=aF.reads I n h1 c;obtain⟨bs,i⟩:=aF.reads I (n+1) g e;have l1:=aF.lay n h1;have l2:=fT (λ{x d}=>aF.lay (H:=H) n) a;have l:=b.units;have m:min (PyData.depthAll ds) d.depth<=50:=zP (Nat.min_le_right _ _) (zP l1.2 f);exact SeqAt.notIn_tuple_reads i ra l2.1 l1.1 (by omega) ⟨.bl _,H,I,rfl,q⟩
def qP{x:V}{p:Vb}{d:PyData}{ds:List PyData}{Q:VK}(h1:aF H n x d)(h2:H p=Vo (.tup xs))(a:Paired (aF H n) xs ds)(b:n<=50)(q:Q (.bl (if neg then !(ds.any λe=>PyData.eqv e d)else ds.any λe=>PyData.eqv e d)) H):jS neg x (.ref p) H Q:=
 ⟨n,p,xs,d,ds,h1,rfl,h2,a,b,q⟩
end
end L2
namespace Tx
open PySem
abbrev aA(n:Int):Vn:=zU (toString n)
theorem p5{c:Nat}:∀{p q X Y:List Nat},c∉p->c∉q->p++c::X=q++c::Y->p=q/\X=Y
 | [],[],_,_,_,_,h=>⟨rfl,(List.cons.inj h).2⟩
 | [],b::q,_,_,_,d,h=>absurd (show c∈b::q by rw[(List.cons.inj h).1];exact zr) d
 | a::p,[],_,_,f,_,h=>absurd (show c∈a::p by rw[<-(List.cons.inj h).1];exact zr) f
 | a::p,b::q,_,_,f,d,h=>by obtain⟨e,h⟩:=List.cons.inj h;obtain⟨g,i⟩:=p5 (λz=>f (zo _ z)) (λz=>d (zo _ z)) h;exact⟨by rw[e,g],i⟩
def gW(c:Nat)(p q:Vn)(r:List Vn):(Str.join ⟨#[c]⟩ (p::q::r)).cps.toList=p.cps.toList++c::(Str.join ⟨#[c]⟩ (q::r)).cps.toList:=by show((p++(⟨#[c]⟩:Vn))++Str.join ⟨#[c]⟩ (q::r)).cps.toList=_;rw[Str.cps_append,Str.cps_append];simp
def pz{p q:Vn}(h:p.cps.toList=q.cps.toList):p=q:=Str.ext' (Array.toList_inj.mp h)
theorem nA{c:Nat}:∀{ps a:List Vn},ps≠[]->a≠[]->(∀p∈ps,c∉p.cps.toList)->(∀q∈a,c∉q.cps.toList)->Str.join ⟨#[c]⟩ ps=Str.join ⟨#[c]⟩ a->ps=a
 | [],_,h,_,_,_,_=>absurd rfl h
 | _::_,[],_,h,_,_,_=>absurd rfl h
 | [p],[q],_,_,_,_,h=>by rw[show p=q from h]
 | [p],q::f::a,_,_,b,_,h=>by have e:p.cps.toList=_:=(congrArg (λz:Vn=>z.cps.toList) h).trans (gW c q f a);exact absurd (by rw[e];simp) (b p zr)
 | p::p2::ps,[q],_,_,_,d,h=>by have e:q.cps.toList=_:=(congrArg (λz:Vn=>z.cps.toList) h.symm).trans (gW c p p2 ps);exact absurd (by rw[e];simp) (d q zr)
 | p::p2::ps,q::f::a,_,_,b,d,h=>by have e:=(gW c p p2 ps).symm.trans ((congrArg (λz:Vn=>z.cps.toList) h).trans (gW c q f a));obtain⟨i,j⟩:=p5 (b p zr) (d q zr) e;rw[pz i,nA (List.cons_ne_nil _ _) (List.cons_ne_nil _ _) (λz g=>b z (zo _ g)) (λz g=>d z (zo _ g)) (pz j)]
def iH{c:Nat}(a:ps≠[])(b:∀p∈ps,c∉p.cps.toList):Txt.split (Str.join ⟨#[c]⟩ ps) ⟨#[c]⟩=ps:=
 nA (λh=>by have:=PyProof.Rows.split_pos (Str.join ⟨#[c]⟩ ps) ⟨#[c]⟩;rw[h]at this;cases this) a (StrLaws.split_free _ c) b (StrLaws.join_split _ _)
def dX(c:Nat)(ps:List Vn):Txt.join ⟨#[c]⟩ ps=Str.join ⟨#[c]⟩ ps:=StrLaws.glued_eq_join _ _
def gC{n:Int}(h:0<=n){c:Nat}(a:c∈(aA n).cps.toList):48<=c/\c<=57:=by obtain⟨m,rfl⟩:=Int.eq_ofNat_of_zero_le h;rw[W.KIN.signs_num]at a;obtain⟨ch,hch,rfl⟩:=List.mem_map.mp a;exact PyProof.Rows.digit_range (Nat.isDigit_of_mem_toDigits (by decide) (by decide) hch)
def sG{n:Int}(h:0<=n):1<=(aA n).length:=by obtain⟨m,rfl⟩:=Int.eq_ofNat_of_zero_le h;have:(aA (m:Nat)).cps.toList.length=(aA (m:Nat)).length:=zp;rw[<-this,W.KIN.signs_num,zk];exact PyProof.Rows.tDigits_len_ge 10 m
def bV{n:Int}(h:0<=n)(a:n<1000000):(aA n).length<=6:=by obtain⟨m,rfl⟩:=Int.eq_ofNat_of_zero_le h;have:(aA (m:Nat)).cps.toList.length=(aA (m:Nat)).length:=zp;rw[<-this,W.KIN.signs_num,zk];exact PyProof.Rows.digits10_le (by decide) (show m<10 ^ 6 by omega)
def vt(m:Nat):1<=m->∀r,Nat.toDigits 10 m≠'0'::r:=by
 induction m using Nat.strongRecOn with
 | _ m b=>
  intro h1 r e;by_cases h:m<10
  .rw[Nat.toDigits_of_lt_base h]at e;have c:=(List.cons.inj e).1;have:∀d:Nat,d<10->1<=d->Nat.digitChar d≠'0':=by decide
   exact this m h h1 c
  .have f:m % 10<10:=Nat.mod_lt m (by decide);have t:Nat.toDigits 10 (m / 10)++Nat.toDigits 10 (m % 10)=Nat.toDigits 10 (10*(m / 10)+m % 10):=Nat.toDigits_append_toDigits (by decide) (by omega) f;rw[Nat.div_add_mod]at t;rw[<-t]at e;cases k:Nat.toDigits 10 (m / 10)with
   | nil=>have:=PyProof.Rows.tDigits_len_ge 10 (m / 10);rw[k]at this;cases this
   | cons a l=>
    rw[k]at e;have g:a='0':=(List.cons.inj e).1;exact b (m / 10) (by omega) (by omega) l (by rw[k,g])
def yD{n:Int}(h:0<=n):aA n=⟨#[48]⟩\/∀r,(aA n).cps.toList≠48::r:=by
 obtain⟨m,rfl⟩:=Int.eq_ofNat_of_zero_le h;by_cases b:m=0
 .subst b;exact .inl (by decide)
 .refine .inr λr e=>?_;rw[W.KIN.signs_num]at e;cases k:Nat.toDigits 10 m with
  | nil=>rw[k]at e;cases e
  | cons a l=>
   rw[k]at e;have c:a.toNat=48:=(List.cons.inj e).1;have:a='0':=Char.toNat_inj.mp c;exact vt m (by omega) l (by rw[k,this])
def ij{n:Int}(h:0<=n)(a:n<1000000):intText? (aA n)=Vo n:=W.KIN.num_reads h (by omega)
def lE{n:Int}(h:0<=n){c:Nat}(a:c<48\/57<c):c∉(aA n).cps.toList:=λz=>by have:=gC h z;omega
end Tx
namespace St
end St
namespace St
end St
namespace St
end St
namespace St
end St
namespace St
end St
namespace Bfs
end Bfs
namespace Bfs
end Bfs
namespace Bfs
end Bfs
namespace My
open PySem L2 St
def stq (i : Nat) : Vl := PySem.Challenge.pw_stairrooms_k70_whole_show_told_again.main.body.getD i (.Pass ⟨0, 0, 0, 0⟩)
local macro_rules|`(tactic| walk_at "cond") => `(tactic| first|decide|omega|(dsimp only; omega)|(unfold i8; omega)|(unfold p9; exact ⟨by decide, by decide, by decide⟩)|(dsimp only; exact ⟨by omega, by omega⟩)|exact .inr ⟨by decide, by decide⟩|exact .inl ⟨by decide, by decide⟩|(unfold SmallR; omega))
local macro_rules|`(tactic| walk_at"") => do
 let ts <- ("seq ret retN asg drop ifS next name var c op un CB cons nil ints test B exb not and or andV orV notV ifE yes I0 I U EqI NeI EqB NeB call BM tup lst sl noPart part exi chain comp iL iT i1 i2 i3 for tTru intB max2 min2 sub gcons gnil aug ipI zip rev par par2 lam calV raise fs try bseq bnext bplain bif bcall enum gget gin revL leS disp dget lrev disp1 din dnin dput min3 iS iD bm0 revS iD2 iLT thaw iD3 iDL dgt2 fs3 fs5 zipM fld sfld meth make calS basgM gget gin".splitOn " ").toArray.mapM λn =>
  let i := Lean.mkIdent (.mkSimple ("rd_" ++ n))
  if n == "var" || n == "aug" then `(tacticSeq| ((with_reducible apply $i); (exact rfl)))
  else if n == "I" then `(tacticSeq| ((with_reducible apply $i); (walk_at "cond")))
  else `(tacticSeq| with_reducible refine $i ?_)
 `(tactic| repeat (first $[| $ts]*|dsimp only))
def bx(H:Hp)(p:Vb)(kk:List (List Key)):Prop:=∃bs:List Vb,H p=Vo (.tup (bs.map V.ref))/\bs.length=kk.length/\∀(j:Nat) (b:Vb) (k:List Key),bs[j]?=Vo b->kk[j]?=Vo k->H b=Vo (.tup (k.map kV))
def bx.ext{H H':Hp}{p:Vb}{kk:List (List Key)}(e:Ext H H')(h:bx H p kk):bx H' p kk:=by obtain⟨bs,h1,h2,a⟩:=h;exact⟨bs,e _ _ h1,h2,λj b k c d=>e _ _ (a j b k c d)⟩
structure Blt(mg:Vn->Option Va):Prop where
 len_:mg "len" = Vp
 isinstance_:mg "isinstance" = Vp
 tuple_:mg "tuple" = Vp
 list_:mg "list" = Vp
 int_:mg "int" = Vp
 bool_:mg "bool" = Vp
 range_:mg "range" = Vp
 zip_:mg "zip" = Vp
 max_:mg "max" = Vp
 min_:mg "min" = Vp
 abs_:mg "abs" = Vp
 all_:mg "all" = Vp
 ValueError_:mg "ValueError" = Vp
 enumerate_:mg "enumerate" = Vp
 set_:mg "set" = Vp
 str_:mg "str" = Vp
 reversed_:mg "reversed" = Vp
 any_:mg "any" = Vp
 sorted_:mg "sorted" = Vp
abbrev dv:List Vn:=["Desk","Endless","NoDeed","NoHouse","NoLine","NoPlace","NoStair","NoText","NoWalk","NoWay","NotBare","StairError","TooGreat"]
abbrev dj:List Vn:=["NoPlace","NoWay","TooGreat","NoDeed","NoLine"]
def isInt:V->Bool
 | .int _=>true
 | _=>false
def ui{H:Hp}{v:V}{n:String}(h:eY H v n):∃b c,fL n "int" = Vo b/\fL n "bool" = Vo c/\(b && !c)=isInt v:=by
 cases v with
 | non=>cases(show n = "NoneType" from h);exact⟨_,_,rfl,rfl,rfl⟩
 | bl b=>cases(show n = "bool" from h);exact⟨_,_,rfl,rfl,rfl⟩
 | int i=>cases(show n = "int" from h);exact⟨_,_,rfl,rfl,rfl⟩
 | str z=>cases(show n = "str" from h);exact⟨_,_,rfl,rfl,rfl⟩
 | ref a=>rcases h with⟨rfl,xs,e⟩|⟨rfl,xs,e⟩<;>exact⟨_,_,rfl,rfl,rfl⟩
 | _=>exact False.elim h
def me(K:zg):Sp:=λvs H Q _=>∃v n,vs=[v]/\eY H v n/\Q (.bl (isInt v)) H
abbrev kF:Vl:=stq 16
def qM:FnScope ["thing"] ["thing"] (aw kF):=⟨rfl,rfl,rfl,by decide +kernel,rfl,by decide +kernel,by decide +kernel⟩
def vg{P:Vd}{w:Ve}{K:zg}{mg:Vn->Option Va}{base:Vh}(D:Dfn K mg "is_whole" kF ["thing"])(T:Blt mg):Cal P w K mg base "is_whole" 1 ["thing"] (me K):=by
 have nd:=(qM).nd;refine D.ok qM (λvs H Q E h=>?_) (λX d H vs Q E h=>?_)
 .obtain⟨v,n,rfl,_⟩:=h;rfl
 .obtain⟨f,cdv,A,outer,s,H0,E0,rfl,j⟩:=d;obtain⟨v,n,rfl,a,q⟩:=h;obtain⟨b,c,g,i,e⟩:=ui a;refine⟨_,(aj (ay (dm (aS eP rfl T.isinstance_ PyProof.Rows.boot_isinstance (aa (pv 0) (aa (eu (v:=.ty "int") rfl T.int_ PyProof.Rows.boot_int rfl) ae))) (dF (uS (aS eP rfl T.isinstance_ PyProof.Rows.boot_isinstance (aa (pv 0) (aa (eu (v:=.ty "bool") rfl T.bool_ PyProof.Rows.boot_bool rfl) ae)))))))),?_⟩;walk_at"";refine eJ a g ?_;walk_at"";cases b with
  | false=>refine ax ?_;rw[<-e]at q;exact q
  | true=>
   refine aC ?_;walk_at"";refine eJ a i ?_;walk_at"";rw[<-e]at q;exact q
structure Way where
 room:Int
 deed:Vn
 other:Int
 sign:Vn
 deriving DecidableEq
abbrev Way.key(w:Way):List Key:=[.inl w.room,.inr w.deed,.inl w.other,.inr w.sign]
abbrev Way.vs(w:Way):List V:=[.int w.room,.str w.deed,.int w.other,.str w.sign]
variable {w:Way}{m:Int}{ws us:List Way}{n ep:Nat}{a p f l1 l2:Vb}{g:Tok}{z nm:Vn}{H H' H1:Hp}{xs:List V}{Q:VK}{P:Vd}{mg:Vn->Option Va}{base:Vh}{st:Vl}
def Way.key_inj{u:Way}(h:w.key=u.key):w=u:=by cases w;cases u;simp only[Way.key,List.cons.injEq,Sum.inl.injEq,Sum.inr.injEq]at h;obtain⟨rfl,rfl,rfl,rfl,_⟩:=h;rfl
def fi(z:Vn):Prop:=∃c:Nat,97<=c/\c<=122/\z=⟨#[c]⟩
def bJ(z:Vn):Prop:=z = "up"\/z = "down"\/z = "stay"\/z = "zero"
structure Way.Ok(m:Int)(w:Way):Prop where
 r0:0<=w.room
 r1:w.room<m
 o0:0<=w.other
 o1:w.other<m
 dd:bJ w.deed
 sg:fi w.sign
structure HOuse(m:Int)(ws:List Way):Prop where
 m1:1<=m
 m12:m<=12
 few:ws.length<=100
 ok:∀w∈ws,w.Ok m
 nd:ws.Nodup
def HOuse.keys(h:HOuse m ws):(ws.map Way.key).Nodup:=by have:=h.nd;unfold List.Nodup at this ⊢;rw[List.pairwise_map];exact this.imp λne e=>ne (Way.key_inj e)
def bh(H:Hp)(v:V)(m:Int)(ws:List Way):Prop:=∃p q,v=.ref p/\H p=Vo (.tup [.int m,.ref q])/\bx H q (ws.map Way.key)
theorem bh.ext{H H':Hp}{v:V}{m:Int}{ws:List Way}(e:Ext H H')(h:bh H v m ws):bh H' v m ws:=by obtain⟨p,q,rfl,h1,h2⟩:=h;exact⟨p,q,rfl,e _ _ h1,h2.ext e⟩
def dM(h:n<=1000):n<=sizeLine:=zP h (by decide)
def jt(K:zg):Sp:=λvs H Q _=>∃i m,vs=[.int i,.int m]/\Q (.bl (decide (0<=i) && decide (i<m))) H
abbrev jy:Vl:=stq 32
def rJ:FnScope ["thing","many"] ["thing","many"] (aw jy):=⟨rfl,rfl,rfl,by decide +kernel,rfl,by decide +kernel,by decide +kernel⟩
def wo{P:Vd}{w:Ve}{K:zg}{mg:Vn->Option Va}{base:Vh}(D:Dfn K mg "is_room" jy ["thing","many"])(T:Blt mg)(a:Cal P w K mg base "is_whole" 1 ["thing"] (me K)):Cal P w K mg base "is_room" 2 ["thing","many"] (jt K):=by
 have nd:=(rJ).nd;refine D.ok rJ (λvs H Q E h=>?_) (λX c H vs Q E h=>?_)
 .obtain⟨i,m,rfl,_⟩:=h;rfl
 .obtain⟨f,cdv,A,outer,s,H0,E0,rfl,d⟩:=c;obtain⟨i,m,rfl,q⟩:=h;refine⟨_,(aj (ay (dm (az a d (aa (pv 0) ae)) (dF (ig gL lK af (pv 0) (pv 1)))))),?_⟩;walk_at"";refine⟨_,"int",rfl,rfl,?_⟩;refine rd_exb ?_;refine aC ?_;walk_at"";cases b:decide (0<=i)with
  | false=>
   rw[b]at q;refine ax ?_;exact q
  | true=>
   rw[b]at q;refine aC ?_;walk_at"";exact q
def rL{i:Int}(a:0<=i)(h1:i<m):(decide (0<=i) && decide (i<m))=true:=by rw[Ah a,Ah h1];rfl
def iM:List (Key×V):=[(.inr "up",.str "down"),(.inr "down",.str "up"),(.inr "stay",.str "stay"),(.inr "zero",.str "zero")]
def nq{w:Ve}{K:zg}{b c d e f i j:Tok}(h:K.lookup a=Vo (dw w [("up",b,.str "down" c),("down",d,.str "up" e),("stay",f,.str "stay" g),("zero",i,.str "zero" j)] ep))(k:(a == sysModules)=false):GDict w K a iM:=
 ⟨⟨_,_,h,.cons ⟨rfl,⟨_,rfl⟩⟩ (.cons ⟨rfl,⟨_,rfl⟩⟩ (.cons ⟨rfl,⟨_,rfl⟩⟩ (.cons ⟨rfl,⟨_,rfl⟩⟩ .nil)))⟩,by decide +kernel,k⟩
def fk(z:Vn):Vn:=if z = "up" then "down" else if z = "down" then "up" else z
def pG(h:bJ z):bu iM (.inr z)=Vo (.str (fk z)):=by rcases h with rfl|rfl|rfl|rfl<;>decide +kernel
def kY(K:zg):Sp:=λvs H Q _=>∃z,vs=[.str z]/\bJ z/\Q (.bl true) H
abbrev kz:Vl:=stq 33
def rE:FnScope ["thing"] ["thing"] (aw kz):=⟨rfl,rfl,rfl,by decide +kernel,rfl,by decide +kernel,by decide +kernel⟩
def wL{P:Vd}{w:Ve}{K:zg}{mg:Vn->Option Va}{base:Vh}(D:Dfn K mg "is_deed" kz ["thing"])(T:Blt mg)(c:∃a,mg "TURNED" = Vo (.ref a)/\GDict w K a iM):Cal P w K mg base "is_deed" 1 ["thing"] (kY K):=by
 have nd:=(rE).nd;refine D.ok rE (λvs H Q E h=>?_) (λX i H vs Q E h=>?_)
 .obtain⟨z,rfl,_⟩:=h;rfl
 .obtain⟨f,cdv,A,outer,s,H0,E0,rfl,k⟩:=i;obtain⟨g,d,e⟩:=c;obtain⟨z,rfl,j,q⟩:=h;refine⟨_,(aj (ay (dm (aS eP rfl T.isinstance_ PyProof.Rows.boot_isinstance (aa (pv 0) (aa (eu (v:=.ty "str") rfl T.str_ PyProof.Rows.boot_str rfl) ae))) (dF (yd (mS rfl d e (pv 0)) (by with_unfolding_all rfl)))))),?_⟩;walk_at"";refine eJ (n:="str") rfl (b:=true) rfl ?_;walk_at"";refine aC ?_;walk_at"";refine⟨.inr z,rfl,?_⟩;rw[pG j];exact q
def sO{c:Nat}(h:97<=c):(!decide (([c]:List Nat)<(zU "a").cps.toList))=true:=by
 have e:(zU "a").cps.toList=[97]:=by decide +kernel
 rw[e,Ag (λz=>by
  rw[List.cons_lt_cons_iff]at z;rcases z with z|⟨_,z⟩
  .omega
  .cases z)]
 rfl
def uM{c:Nat}(h:c<=122):(!decide ((zU "z").cps.toList<([c]:List Nat)))=true:=by
 have e:(zU "z").cps.toList=[122]:=by decide +kernel
 rw[e,Ag (λz=>by
  rw[List.cons_lt_cons_iff]at z;rcases z with z|⟨_,z⟩
  .omega
  .cases z)]
 rfl
def lP(K:zg):Sp:=λvs H Q _=>∃z,vs=[.str z]/\fi z/\Q (.bl true) H
abbrev lF:Vl:=stq 34
def nr:FnScope ["thing"] ["thing"] (aw lF):=⟨rfl,rfl,rfl,by decide +kernel,rfl,by decide +kernel,by decide +kernel⟩
def yn{P:Vd}{w:Ve}{K:zg}{mg:Vn->Option Va}{base:Vh}(D:Dfn K mg "is_sign" lF ["thing"])(T:Blt mg):Cal P w K mg base "is_sign" 1 ["thing"] (lP K):=by
 have nd:=(nr).nd;refine D.ok nr (λvs H Q E h=>?_) (λX e H vs Q E h=>?_)
 .obtain⟨z,rfl,_⟩:=h;rfl
 .obtain⟨f,cdv,A,outer,s,H0,E0,rfl,g⟩:=e;obtain⟨z,rfl,⟨c,a,d,rfl⟩,q⟩:=h;refine⟨_,(aj (ay (dm (aS eP rfl T.isinstance_ PyProof.Rows.boot_isinstance (aa (pv 0) (aa (eu (v:=.ty "str") rfl T.str_ PyProof.Rows.boot_str rfl) ae))) (dm (fE cn (aS mr rfl T.len_ PySem.boot_len (aa (pv 0) ae)) af (aI _)) (dF (ig rp rp ar (pv 0) ar)))))),?_⟩;walk_at"";refine eJ (n:="str") rfl (b:=true) rfl ?_;walk_at"";refine aC ?_;walk_at"";refine⟨_,rfl,dM (show 1<=1000 by decide),?_⟩;walk_at"";refine aC ?_;walk_at"";rw[sO a];refine aC ?_;walk_at"";rw[uM d];exact q
def jP(h:H p=Vo (.tup xs)):eY H (.ref p) "tuple":=.inr ⟨rfl,xs,h⟩
def rO(K:zg):Sp:=λvs H Q _=>∃p w m,vs=[.ref p,.int m]/\H p=Vo (.tup (Way.vs w))/\w.Ok m/\Q (.bl true) H
abbrev j9:Vl:=stq 35
def p4:FnScope ["thing","many"] ["thing","many"] (aw j9):=⟨rfl,rfl,rfl,by decide +kernel,rfl,by decide +kernel,by decide +kernel⟩
def xW{P:Vd}{w:Ve}{K:zg}{mg:Vn->Option Va}{base:Vh}(D:Dfn K mg "is_way" j9 ["thing","many"])(T:Blt mg)(c:Cal P w K mg base "is_sign" 1 ["thing"] (lP K))(d:Cal P w K mg base "is_deed" 1 ["thing"] (kY K))(a:Cal P w K mg base "is_room" 2 ["thing","many"] (jt K)):Cal P w K mg base "is_way" 3 ["thing","many"] (rO K):=by
 have nd:=(p4).nd;refine D.ok p4 (λvs H Q E h=>?_) (λX i H vs Q E h=>?_)
 .obtain⟨p,w,m,rfl,_⟩:=h;rfl
 .obtain⟨f,cdv,A,outer,s,H0,E0,rfl,g⟩:=i;obtain⟨p,w,m,rfl,e,ok,q⟩:=h;refine⟨_,(ai (aT (PW.pt (cK (cq (cv (aS eP rfl T.isinstance_ PyProof.Rows.boot_isinstance (aa (pv 0) (aa (eu (v:=.ty "tuple") rfl T.tuple_ PyProof.Rows.boot_tuple rfl) ae))))) (cV (aN cT (aS (cz K) rfl T.len_ PySem.boot_len (aa (pv 0) ae)) af (aI _))))) (aj (ay cQ)) aQ)
    (ai (aT (PW.pt (cK (cq (cv (az a g (aa (ak (aE K) (pv 0) af (λ_ _=>rfl)) (aa (pv 1) ae))))) (cV (cq (cv (az a g (aa (ak (aE K) (pv 0) af (λ_ _=>rfl)) (aa (pv 1) ae)))))))) (aj (ay cQ)) aQ)
    (aj (ay (dm (az d g (aa (ak (aE K) (pv 0) af (λ_ _=>rfl)) ae)) (dF (az c g (aa (ak (aE K) (pv 0) af (λ_ _=>rfl)) ae)))))))),?_⟩
  walk_at"";refine eJ (jP e) (b:=true) rfl ?_;walk_at"";refine ax ?_;walk_at"";refine eL (ah.of e) ?_;walk_at"";refine ax ?_;walk_at"";refine aD (ah.of e) (v:=.int w.room) rfl ?_;walk_at"";refine⟨_,_,rfl,?_⟩;rw[rL ok.r0  ok.r1];walk_at"";refine ax ?_;walk_at"";refine aD (ah.of e) (v:=.int w.other) rfl ?_;walk_at"";refine⟨_,_,rfl,?_⟩;rw[rL ok.o0  ok.o1];walk_at"";refine ax ?_;walk_at"";refine aD (ah.of e) (v:=.str w.deed) rfl ?_;walk_at"";refine⟨_,rfl,ok.dd,?_⟩;walk_at"";refine aC ?_;walk_at"";refine aD (ah.of e) (v:=.str w.sign) rfl ?_;walk_at"";exact⟨_,rfl,ok.sg,q⟩
def bx.item{bs:List Vb}(h:∀(j:Nat) (b:Vb) (k:List Key),bs[j]?=Vo b->(ws.map Way.key)[j]?=Vo k->H b=Vo (.tup (k.map kV))){j:Nat}{b:Vb}(a:bs[j]?=Vo b)(c:ws[j]?=Vo w):H b=Vo (.tup w.vs):=
 h j b w.key a (by rw[zm,c];rfl)
def oB(K:zg):Sp:=λvs H Q _=>∃q ws m,vs=[.ref q,.int m]/\bx H q (ws.map Way.key)/\HOuse m ws/\∀H',Ext H H'->Q (.bl true) H'
abbrev jE:Vl:=stq 36
def se:FnScope ["thing","many"] ["thing","many"] (aw jE):=⟨rfl,rfl,rfl,by decide +kernel,rfl,by decide +kernel,by decide +kernel⟩
def ym{P:Vd}{w:Ve}{K:zg}{mg:Vn->Option Va}{base:Vh}(D:Dfn K mg "are_ways" jE ["thing","many"])(T:Blt mg)(a:∃t,mg "GREATEST_WAYS" = Vo (.int 100 t))(d:Cal P w K mg base "is_way" 3 ["thing","many"] (rO K)):Cal P w K mg base "are_ways" 4 ["thing","many"] (oB K):=by
 have nd:=(se).nd;refine D.ok se (λvs H Q E h=>?_) (λX C H vs Q E h=>?_)
 .obtain⟨p,w,m,rfl,_⟩:=h;rfl
 .obtain⟨f,cdv,A,outer,s,H0,E0,rfl,n⟩:=C;obtain⟨g,c⟩:=a;obtain⟨q,ws,m,rfl,o,ok,F⟩:=h;obtain⟨bs,h1,h2,G⟩:=id o;rw[zk]at h2;have r:=ok.few;refine⟨_,(ai (aT (PW.pt (cK (cq (cv (aS eP rfl T.isinstance_ PyProof.Rows.boot_isinstance (aa (pv 0) (aa (eu (v:=.ty "tuple") rfl T.tuple_ PyProof.Rows.boot_tuple rfl) ae))))) (cV (aN jd (aS (cz K) rfl T.len_ PySem.boot_len (aa (pv 0) ae)) (bW (v:=.int 100) rfl c ⟨_,rfl⟩) (aI _))))) (aj (ay cQ)) aQ)
    (aj (ay (dm (aS (jQ K rfl) rfl T.all_ PyProof.Rows.boot_all (aa (eO ["way"] [1] (fh K (pv 0)) (λ_=>(aW (i:=0) (show(["way","many"]:List Vn).Nodup from by decide +kernel) rfl (Or.inl rfl) (Or.inr rfl))) (λ_=>eQ) (λ_=>(az d n (aa (pv 0) (aa (pv 1) ae))))) ae)) (dF (fE cn (aS Og.call_lenSet rfl T.len_ PySem.boot_len (aa (bz (Og.call_setT n) rfl T.set_ PyProof.Rows.boot_set (aa (pv 0) ae)) ae)) (aS (cz K) rfl T.len_ PySem.boot_len (aa (pv 0) ae)) (aI _))))))),?_⟩
  walk_at"";refine eJ (jP h1) (b:=true) rfl ?_;walk_at"";refine ax ?_;walk_at"";refine eL (ah.of h1) ?_;walk_at"";rw[Ag (show ¬((100:Int)<((bs.map V.ref).length:Nat)) by rw[zk];omega)];refine ax ?_;walk_at"";refine fw (ah.of h1) ?_;refine fP (xs:=bs.map V.ref) (λi ys H'=>Ext H H'/\ys=(zY i true).map V.bl) (dM (by rw[zk];omega)) ⟨λ_ _ z=>z,rfl⟩ (λi ys H' hi h=>⟨ah.of (h.1 _ _ h1),by rw[h.2];simp⟩) ?_ ?_
  .rintro i x ys H' u ⟨e,rfl⟩;rw[zm]at u;obtain⟨b,y,rfl⟩:=zx.mp u;have hi:i<ws.length:=by rw[<-h2];exact(zu.mp y).1
   have j:ws[i]?=Vo ws[i]:=zl hi;walk_at"";refine aC ?_;walk_at"";refine⟨b,ws[i],m,rfl,e _ _ (bx.item G y j),ok.ok _ (zL hi),e,?_⟩;rw[List.replicate_succ',zC];rfl
  .rintro ys H' p ⟨e,rfl⟩ I;walk_at"";have k:Ext H (upd H' p (.lst ((zY (bs.map V.ref).length true).map V.bl))):=e.trans (bL I);refine⟨p,zY (bs.map V.ref).length true,rfl,ag.of aM,?_⟩;rw[show (zY (bs.map V.ref).length true).all id=true by simp];walk_at"";refine aC ?_;walk_at"";refine Og.rd_setOf (o.ext k) ok.keys (by rw[zk];omega) λl H2 B J=>?_;walk_at"";refine Og.rd_lenSet J (by rw[zk];omega) ?_;walk_at"";refine eL (ah.of ((k.trans B) _ _ h1)) ?_;walk_at"";rw[show decide (((((ws.map Way.key).length:Nat):Int))=((bs.map V.ref).length:Nat))=true by rw[zk,zk,h2];simp];exact F _ (k.trans B)
def mB(K:zg):Sp:=λvs H Q _=>∃v m ws,vs=[v]/\bh H v m ws/\HOuse m ws/\∀H',Ext H H'->Q (.bl true) H'
abbrev jA:Vl:=stq 37
def pj:FnScope ["thing"] ["thing"] (aw jA):=⟨rfl,rfl,rfl,by decide +kernel,rfl,by decide +kernel,by decide +kernel⟩
def xw{P:Vd}{w:Ve}{K:zg}{mg:Vn->Option Va}{base:Vh}(D:Dfn K mg "is_house" jA ["thing"])(T:Blt mg)(a:∃t,mg "GREATEST_MANY" = Vo (.int 12 t))(d:Cal P w K mg base "are_ways" 4 ["thing","many"] (oB K))(e:Cal P w K mg base "is_whole" 1 ["thing"] (me K)):Cal P w K mg base "is_house" 5 ["thing"] (mB K):=by
 have nd:=(pj).nd;refine D.ok pj (λvs H Q E h=>?_) (λX j H vs Q E h=>?_)
 .obtain⟨p,w,m,rfl,_⟩:=h;rfl
 .obtain⟨f,cdv,A,outer,s,H0,E0,rfl,i⟩:=j;obtain⟨g,c⟩:=a;obtain⟨v,m,ws,rfl,⟨p,r,rfl,h1,h2⟩,ok,q⟩:=h;have m1:=ok.m1;have k:=ok.m12;refine⟨_,(ai (aT (PW.pt (cK (cq (cv (aS eP rfl T.isinstance_ PyProof.Rows.boot_isinstance (aa (pv 0) (aa (eu (v:=.ty "tuple") rfl T.tuple_ PyProof.Rows.boot_tuple rfl) ae))))) (cV (aN cT (aS (cz K) rfl T.len_ PySem.boot_len (aa (pv 0) ae)) af (aI _))))) (aj (ay cQ)) aQ)
    (aj (ay (dm (az e i (aa (ak (aE K) (pv 0) af (λ_ _=>rfl)) ae)) (dm (ig gL gL af (ak (aE K) (pv 0) af (λ_ _=>rfl)) (bW (v:=.int 12) rfl c ⟨_,rfl⟩)) (dF (az d i (aa (ak (aE K) (pv 0) af (λ_ _=>rfl)) (aa (ak (aE K) (pv 0) af (λ_ _=>rfl)) ae))))))))),?_⟩
  walk_at"";refine eJ (jP h1) (b:=true) rfl ?_;walk_at"";refine ax ?_;walk_at"";refine eL (ah.of h1) ?_;walk_at"";refine ax ?_;walk_at"";refine aD (ah.of h1) (v:=.int m) rfl ?_;walk_at"";refine⟨_,"int",rfl,rfl,?_⟩;refine rd_exb (aC ?_);walk_at"";refine aD (ah.of h1) (v:=.int m) rfl ?_;walk_at"";rw[Ah m1];refine aC ?_;walk_at"";rw[Ah k];refine aC ?_;walk_at"";refine aD (ah.of h1) (v:=.ref r) rfl ?_;walk_at"";refine aD (ah.of h1) (v:=.int m) rfl ?_;walk_at"";exact⟨r,ws,m,rfl,h2,ok,q⟩
def kI(K:zg):Sp:=λvs H Q _=>∃v m ws,vs=[v]/\bh H v m ws/\HOuse m ws/\∀H',Ext H H'->Q .non H'
abbrev kO:Vl:=stq 38
def rd:FnScope ["thing"] ["thing"] (aw kO):=⟨rfl,rfl,rfl,by decide +kernel,rfl,by decide +kernel,by decide +kernel⟩
def xG{P:Vd}{w:Ve}{K:zg}{mg:Vn->Option Va}{base:Vh}(D:Dfn K mg "refuse_no_house" kO ["thing"])(T:Blt mg)(a:Cal P w K mg base "is_house" 5 ["thing"] (mB K)):Cal P w K mg base "refuse_no_house" 6 ["thing"] (kI K):=by
 have nd:=(rd).nd;refine D.ok rd (λvs H Q E h=>?_) (λX b H vs Q E h=>?_)
 .obtain⟨p,w,m,rfl,_⟩:=h;rfl
 .obtain⟨f,cdv,A,outer,s,H0,E0,rfl,c⟩:=b;obtain⟨v,m,ws,rfl,h1,ok,q⟩:=h;refine⟨_,(aj (aT (cq (cv (az a c (aa (pv 0) ae)))) (aj gX) aQ)),?_⟩;walk_at"";refine⟨v,m,ws,rfl,h1,ok,λH' e=>?_⟩;refine rd_exb (ax ?_);walk_at"";exact q H' e
def aY(h:n<=1000000):n<=sizeLine:=zP h (by decide)
def av{o:HO}(h:∀p H',Ext H H'->H' p=Vo o->H p=Vp->Q (.ref p) H')(a:xs.length<=1000000:=by simp):xs.length<=sizeLine/\cI H o Q:=⟨aY a,bF h⟩
def qz(K:zg):Sp:=λvs H Q _=>∃(a:Vb) (ns:List Int) (k:Int),vs=[.ref a,.int k]/\ag K H a (ns.map V.int)/\ns.length<=63/\0<=k/\∀z,Q (.int z) H
def si{ns:List Int}{i:Int}(a:0<=i)(h:i<ns.length):∃z,bR (ns.map V.int) i=Vo (.int z)/\ns[i.toNat]?=Vo z:=by
 have hi:i.toNat<ns.length:=by omega
 refine⟨ns[i.toNat],ya a ?_,zl hi⟩;rw[zm,zl hi];rfl
abbrev ke:Vl:=stq 130
def sf:FnScope ["_law_script","_law_k"] ["_law_script","_law_k"] (aw ke):=⟨rfl,rfl,rfl,by decide +kernel,rfl,by decide +kernel,by decide +kernel⟩
def vO{P:Vd}{w:Ve}{K:zg}{mg:Vn->Option Va}{base:Vh}(D:Dfn K mg "_law_cell" ke ["_law_script","_law_k"])(T:Blt mg):Cal P w K mg base "_law_cell" 1 ["_law_script","_law_k"] (qz K):=by
 have nd:=(sf).nd;refine D.ok sf (λvs H Q E h=>?_) (λX g H vs Q E h=>?_)
 .obtain⟨a,ns,k,rfl,_⟩:=h;rfl
 .obtain⟨f,cdv,A,outer,s,H0,E0,rfl,j⟩:=g;obtain⟨a,ns,k,rfl,b,l,i,q⟩:=h;refine⟨_,(ai (aT (aN cn (aS (cz K) rfl T.len_ PySem.boot_len (aa (pv 0) ae)) af (aI _)) (aj (ay (aq dD af (aq aX (pv 1) af)))) aQ)
    (ai (aT (aN lK (pv 1) (aS (cz K) rfl T.len_ PySem.boot_len (aa (pv 0) ae)) (aI _)) (aj (ay (ak (aG K) (pv 0) (pv 1) (λ_ _=>rfl)))) aQ)
    (aj (ay (aq aX (ak (aG K) (pv 0) (aq cp (pv 1) (aS (cz K) rfl T.len_ PySem.boot_len (aa (pv 0) ae))) (λ_ _=>rfl)) (aq dD af (pv 1))))))),?_⟩
  walk_at"";refine fD b ?_;walk_at"";rw[zk];by_cases d:(ns.length:Int)=0
  .rw[Ah d];refine aC ?_;walk_at"";exact q _
  .rw[Ag d];refine ax ?_;walk_at"";refine fD b ?_;walk_at"";rw[zk];by_cases h1:k<ns.length
   .rw[Ah h1];refine aC ?_;obtain⟨z,c,_⟩:=si i h1;walk_at"";refine aB b c ?_;exact q _
   .rw[Ag h1];refine ax ?_;walk_at"";refine fD b ?_;rw[zk];have e:(0:Int)<ns.length:=by omega
    refine rd_I e ?_;obtain⟨z,c,_⟩:=si (ns:=ns) (Int.emod_nonneg k (by omega)) (Int.emod_lt_of_pos k e);refine aB b c ?_;walk_at"";exact q _
def rK(K:zg):Sp:=λvs H Q _=>∃c k p,vs=[.int c,.int k,.int p]/\0<=k/\k<100000/\0<p/\∀z,0<=z->z<p->Q (.int z) H
abbrev km:Vl:=stq 131
def qc:FnScope ["_law_cell_here","_law_k","_law_prime","_law_far"] ["_law_cell_here","_law_k","_law_prime"] (aw km):=⟨rfl,rfl,rfl,by decide +kernel,rfl,by decide +kernel,by decide +kernel⟩
def wA{P:Vd}{w:Ve}{K:zg}{mg:Vn->Option Va}{base:Vh}(D:Dfn K mg "_law_mixed" km ["_law_cell_here","_law_k","_law_prime"])(T:Blt mg):Cal P w K mg base "_law_mixed" 1 ["_law_cell_here","_law_k","_law_prime"] (rK K):=by
 have nd:=(qc).nd;refine D.ok qc (λvs H Q E h=>?_) (λX a H vs Q E h=>?_)
 .obtain⟨c,k,p,rfl,_⟩:=h;rfl
 .obtain⟨f,cdv,A,outer,s,H0,E0,rfl,e⟩:=a;obtain⟨c,k,p,rfl,g,b,d,q⟩:=h;refine⟨_,(ai (aL (i:=3) nd rfl (Or.inl rfl) (aq cp (aq dD (aq aX (aq aX (aq aX (pv 0) (aq dD (aq dD af (pv 1)) (pv 1))) (aq dD af (pv 1))) af) af) af))
    (ai (aL (i:=3) nd rfl (Or.inl rfl) (aq cp (aq dD (pv 3) (pv 3)) af))
    (aj (ay (aq cp (aq dD (pv 3) af) (pv 2)))))),?_⟩
  walk_at"";exact q _ (Int.emod_nonneg _ (by omega)) (Int.emod_lt_of_pos _ d)
def eS{H2:Hp}{q:Vb}{o:HO}(e:Ext H H2)(c:H q=Vp):Ext H (upd H2 q o):=λb u a=>by rw[au (bt a c)];exact e b u a
def eZ(K:zg):Sp:=λvs H Q _=>∃(c:Int) (w:Vb) (ws:List Int) (p:Int),vs=[.int c,.ref w,.int p]/\H w=Vo (.lst (ws.map V.int))/\(∀x∈ws,0<x/\x<2 ^ 40)/\ws.length<=10000/\0<p ∧
 ∀(q:Vb) (ds:List Int) (H':Hp),Ext H H'->H' q=Vo (.lst (ds.map V.int))->H q=Vp->ds.length=ws.length->(∀(i:Nat) d x,ds[i]?=Vo d->ws[i]?=Vo x->0<=d/\d<x)->Q (.ref q) H'
def gQ{K:zg}{c:Int}{w:Vb}{p:Int}{xe:XK}(ws:List Int)(h1:H w=Vo (.lst (ws.map V.int)))(h2:∀x∈ws,0<x/\x<2 ^ 40)(a:ws.length<=10000)(b:0<p)
  (k:∀(q:Vb) (ds:List Int) (H':Hp),Ext H H'->H' q=Vo (.lst (ds.map V.int))->H q=Vp->ds.length=ws.length->(∀(i:Nat) d x,ds[i]?=Vo d->ws[i]?=Vo x->0<=d/\d<x)->Q (.ref q) H'):eZ K [.int c,.ref w,.int p] H Q xe:=⟨c,w,ws,p,rfl,h1,h2,a,b,k⟩
abbrev jF:Vl:=stq 132
def nZ:FnScope ["_law_cell_here","_law_widths","_law_prime","_law_left","_law_found","_law_k"] ["_law_cell_here","_law_widths","_law_prime"] (aw jF):=⟨rfl,rfl,rfl,by decide +kernel,rfl,by decide +kernel,by decide +kernel⟩
def yr{P:Vd}{w:Ve}{K:zg}{mg:Vn->Option Va}{base:Vh}(D:Dfn K mg "_law_draws" jF ["_law_cell_here","_law_widths","_law_prime"])(T:Blt mg)(a:Cal P w K mg base "_law_mixed" 1 ["_law_cell_here","_law_k","_law_prime"] (rK K)):Cal P w K mg base "_law_draws" 2 ["_law_cell_here","_law_widths","_law_prime"] (eZ K):=by
 have nd:=(nZ).nd;refine D.ok nZ (λvs H Q E h=>?_) (λX J H vs Q E h=>?_)
 .obtain⟨c,w,ws,p,rfl,_⟩:=h;rfl
 .obtain⟨f,cdv,A,outer,s,H0,E0,rfl,L⟩:=J;obtain⟨c,w,ws,p,rfl,B,u,hlen,M,q⟩:=h;refine⟨_,(ai (aL (i:=3) nd rfl (Or.inl rfl) af)
    (ai (dI (aN lx (pv 0) (aq gZ af af) (aI _)) (aj (aL (i:=3) nd rfl (Or.inl rfl) (aq du (pv 0) (aq gZ af af)))) aQ)
    (ai (aL (i:=4) nd rfl (Or.inl rfl) (bp ae))
    (ai (dH PassesOwn.never rfl (fR rfl T.range_ (aa (aS (cz K) rfl T.len_ PySem.boot_len (aa (pv 1) ae)) ae)) (aW (i:=5) nd rfl (Or.inl rfl)) (aj (dI (aN jd (pv 3) af (aI _)) (ai (bD (bj K zt zG zH bU (pv 4) (aa (aq cp (pv 3) (ak (aG K) (pv 1) (pv 5) (λ_ _=>rfl))) ae)))
    (aj (aL (i:=3) nd rfl (Or.inl rfl) (aq nW (pv 3) (ak (aG K) (pv 1) (pv 5) (λ_ _=>rfl)))))) (aj (bD (bj K zt zG zH bU (pv 4) (aa (aq cp (az a L (aa (pv 0) (aa (pv 5) (aa (pv 2) ae)))) (ak (aG K) (pv 1) (pv 5) (λ_ _=>rfl))) ae)))))))
    (aj (ay (pv 4))))))),?_⟩
  walk_at"";refine cZ (λv H'=>H'=H/\∃l,v=[Vo (.int c),Vo (.ref w),Vo (.int p),Vo (.int l),Vp,Vp]) ?_ ?_
  .walk_at"";refine dN (λh=>?_) (λh=>?_)
   .walk_at"";exact⟨rfl,_,rfl⟩
   .walk_at"";exact⟨rfl,_,rfl⟩
  rintro v H' ⟨rfl,l,rfl⟩;walk_at"";refine av λf H1 I N e=>?_;walk_at"";refine fD (ag.of (I _ _ B)) ?_;rw[zk];walk_at"";refine fX (by omega) ?_;refine forR (λi σ H2=>Ext H' H2/\∃(l:Int) (k:Option V) (ds:List Int),σ=[Vo (.int c),Vo (.ref w),Vo (.int p),Vo (.int l),Vo (.ref f),k]/\H2 f=Vo (.lst (ds.map V.int))/\ds.length=i/\∀(i:Nat) d x,ds[i]?=Vo d->ws[i]?=Vo x->0<=d/\d<x)
   ⟨I,l,Vp,[],rfl,N,rfl,λi d x hd=>by simp at hd⟩ ?_ ?_
  .rintro i σ H2 hi ⟨m,l,k,ds,rfl,b,g,C⟩;rw[zy]at hi;have y:ws[i]?=Vo ws[i]:=zl hi;have U:=u ws[i] (zL hi);have n:bR (ws.map V.int) (0+(i:Int))=Vo (.int ws[i]):=by rw[Int.zero_add];exact bC (by rw[zm,y];rfl)
   have next:∀d,0<=d->d<ws[i]->∀(j:Nat) (t x:Int),(ds++[d])[j]?=Vo t->ws[j]?=Vo x->0<=t/\t<x:=λd O h1 j t x o r=>by
    rcases Aa j ds.length with h|h
    .rw[zK h]at o;exact C j t x o r
    .rw[zJ h]at o;have F:j-ds.length=0:=by
      rcases Nat.eq_zero_or_pos (j-ds.length)with h|h
      .exact h
      .rw[List.getElem?_eq_none (by simp;omega)]at o;cases o
     rw[F]at o;have G:j=i:=by omega
     subst G;rw[y]at r;cases r;have:d=t:=by simpa using o
     rw[<-this];exact⟨O,h1⟩
   walk_at"";refine qH ?_;walk_at"";refine dN (λh=>?_) (λh=>?_)
   .have h':1<l:=by simpa using h
    walk_at"";refine⟨dn (ag.of b),?_⟩;walk_at"";refine aB (ag.of (m _ _ B)) n ?_;refine rd_I (show 0<ws[i] by omega) ?_;walk_at"";refine bQ b (by rw[zk];exact Nat.lt_of_le_of_lt (show ds.length<=10000 by omega) (by decide)) ?_;walk_at"";refine aB (ag.of (eS m e _ _ B)) n ?_;refine rd_I (show 0<ws[i]/\ws[i]<2 ^ 64 by omega) ?_;walk_at"";refine⟨eS m e,_,_,ds++[l % ws[i]],rfl,?_,by rw[zD,g];rfl,next _ (Int.emod_nonneg _ (by omega)) (Int.emod_lt_of_pos _ (by omega))⟩;rw[aM,zC];rfl
   .walk_at"";refine⟨dn (ag.of b),?_⟩;walk_at"";refine⟨c,0+(i:Int),p,rfl,by omega,by omega,M,λz R S=>?_⟩;walk_at"";refine aB (ag.of (m _ _ B)) n ?_;refine rd_I (show 0<ws[i] by omega) ?_;walk_at"";refine bQ b (by rw[zk];exact Nat.lt_of_le_of_lt (show ds.length<=10000 by omega) (by decide)) ?_;walk_at"";refine⟨eS m e,_,_,ds++[z % ws[i]],rfl,?_,by rw[zD,g];rfl,next _ (Int.emod_nonneg _ (by omega)) (Int.emod_lt_of_pos _ (by omega))⟩;rw[aM,zC];rfl
  .rintro σ H2 ⟨m,l,k,ds,rfl,b,g,C⟩;walk_at"";exact q f ds H2 m b e (by rw[g,zy]) C
def qX(K:zg):Sp:=λvs H Q _=>∃c w,vs=[.int c,.int w]/\0<w/\w<2 ^ 64/\∀z,Q (.int z) H
abbrev kE:Vl:=stq 133
def qg:FnScope ["_law_cell_here","_law_width"] ["_law_cell_here","_law_width"] (aw kE):=⟨rfl,rfl,rfl,by decide +kernel,rfl,by decide +kernel,by decide +kernel⟩
def yT{P:Vd}{w:Ve}{K:zg}{mg:Vn->Option Va}{base:Vh}(D:Dfn K mg "_law_spare" kE ["_law_cell_here","_law_width"])(T:Blt mg):Cal P w K mg base "_law_spare" 1 ["_law_cell_here","_law_width"] (qX K):=by
 have nd:=(qg).nd;refine D.ok qg (λvs H Q E h=>?_) (λX a H vs Q E h=>?_)
 .obtain⟨c,w,rfl,_⟩:=h;rfl
 .obtain⟨f,cdv,A,outer,s,H0,E0,rfl,b⟩:=a;obtain⟨c,w,rfl,h1,h2,q⟩:=h;refine⟨_,(ai (aT (aN lx (pv 0) (aq gZ af af) (aI _)) (aj (ay (aq aX (aq nW (aq du (pv 0) (aq gZ af af)) (pv 1)) (aq gZ af af)))) aQ)
    (aj (ay (aq aX (pv 0) af)))),?_⟩
  walk_at"";refine dN (λh=>?_) (λh=>?_)
  .walk_at"";exact q _
  .walk_at"";exact q _
def aR(H:Hp)(bs:List Vb)(ws:List Way):Prop:=bs.length=ws.length/\∀(j:Nat) (b:Vb) (w:Way),bs[j]?=Vo b->ws[j]?=Vo w->H b=Vo (.tup w.vs)
def aR.ext{bs:List Vb}(e:Ext H H')(h:aR H bs ws):aR H' bs ws:=⟨h.1,λj b w a c=>e _ _ (h.2 j b w a c)⟩
def aR.put{ys:List V}{bs:List Vb}(a:H f=Vo (.lst xs))(h:aR H bs ws):aR (upd H f (.lst ys)) bs ws:=⟨h.1,λj b w c d=>by have:=h.2 j b w c d;rw[au (bw this a (by intro z;cases z))];exact this⟩
def aR.nil(H:Hp):aR H [] []:=⟨rfl,λj b w e=>by simp at e⟩
def aR.snoc{bs:List Vb}{b:Vb}(h:aR H bs ws)(f:H b=Vo (.tup w.vs)):aR H (bs++[b]) (ws++[w]):=by
 refine⟨by simp[h.1],λj g i a c=>?_⟩;rcases Aa j bs.length with d|d
 .rw[zK d]at a;rw[zK (by rw[<-h.1];exact d)]at c;exact h.2 j g i a c
 .rw[zJ d]at a;rw[zJ (by rw[<-h.1];exact d),<-h.1]at c;cases e:j-bs.length with
  | zero=>
   rw[e]at a c;cases a;cases c;exact f
  | succ k=>rw[e]at a;simp at a
def aR.ways{bs:List Vb}(h:aR H bs ws)(c:H p=Vo (.tup (bs.map V.ref))):bx H p (ws.map Way.key):=
 ⟨bs,c,by rw[zk];exact h.1,λj b k d a=>by rw[zm]at a;obtain⟨w,e,rfl⟩:=zx.mp a;exact h.2 j b w d e⟩
def bx.al(h:bx H p (ws.map Way.key)):∃bs:List Vb,H p=Vo (.tup (bs.map V.ref))/\aR H bs ws:=by obtain⟨bs,h1,h2,a⟩:=h;rw[zk]at h2;exact⟨bs,h1,h2,λj b w c d=>bx.item a c d⟩
abbrev Way.D(w:Way):PyData:=.tuple [.int w.room,.str w.deed,.int w.other,.str w.sign]
structure Way.Lay(w:Way):Prop where
 d:(PyData.str w.deed).canLay0=true
 s:(PyData.str w.sign).canLay0=true
def nk:∀c:Fin 123,97<=c.1->(PyData.str ⟨#[c.1]⟩).canLay0=true:=by decide +kernel
def Way.Ok.lay(h:w.Ok m):w.Lay:=by
 constructor
 .rcases h.dd with e|e|e|e<;>rw[e]<;>decide +kernel
 .obtain⟨c,h1,h2,e⟩:=h.sg;rw[e];exact nk ⟨c,Nat.lt_succ_of_le h2⟩ h1
def Way.rep{b:Vb}(h:H b=Vo (.tup w.vs))(l:w.Lay):aF H 1 (.ref b) w.D:=
 .inr ⟨b,w.vs,_,rfl,.inl ⟨h,rfl⟩,.cons rfl (.cons ⟨rfl,l.d⟩ (.cons rfl (.cons ⟨rfl,l.s⟩ .nil)))⟩
theorem Way.eqv(w u:Way):PyData.eqv w.D u.D=decide (w=u):=by
 simp only[PyData.eqv,PyData.eqvAll];by_cases h:w=u
 .subst h;simp
 .rw[Ag h];obtain⟨a,b,c,d⟩:=w;obtain⟨f,g,c',i⟩:=u;simp only[Way.mk.injEq,not_and]at h;simp only[Bool.and_true,Bool.and_eq_false_iff,beq_eq_false_iff_ne];by_cases h1:a=f
  .by_cases h2:b=g
   .by_cases e:c=c'
    .exact .inr (.inr (.inr (h h1 h2 e)))
    .exact .inr (.inr (.inl e))
   .exact .inr (.inl h2)
  .exact .inl h1
theorem aR.reps{H:Hp}:∀{bs:List Vb} {ws:List Way},aR H bs ws->(∀w∈ws,w.Lay)->Paired (aF H 1) (bs.map V.ref) (ws.map Way.D)
 | [],[],_,_=>.nil
 | [],_::_,h,_=>by cases h.1
 | _::_,[],h,_=>by cases h.1
 | b::bs,w::ws,h,l=>.cons (Way.rep (h.2 0 b w rfl rfl) (l w zr)) (aR.reps ⟨Nat.succ.inj h.1,λj b w a c=>h.2 (j+1) b w a c⟩ λu d=>l u (zo _ d))
def ko(ws:List Way)(w:Way):((ws.map Way.D).any λe=>PyData.eqv e w.D)=decide (w∈ws):=by
 rw[List.any_map];induction ws with
 | nil=>rfl
 | cons u ws a=>
  rw[List.any_cons,a,Function.comp_apply,Way.eqv];by_cases h:w∈ws
  .simp[h]
  .by_cases e:u=w
   .simp[e]
   .have:¬w=u:=λz=>e z.symm;simp[h,e,this]
def lr(K:zg):Sp:=λvs H Q _=>∃l bs ws,vs=[.ref l]/\H l=Vo (.lst (bs.map V.ref))/\aR H bs ws/\(∀w∈ws,Way.Lay w)/\ws.length<=200 ∧
 ∀q H' us,Ext H H'->bx H' q (List.map Way.key us)->us.Nodup->(∀u∈us,u∈ws)->us.length<=ws.length->Q (.ref q) H'
abbrev kG:Vl:=stq 134
def nv:FnScope ["_law_ways","_law_found","_law_way"] ["_law_ways"] (aw kG):=⟨rfl,rfl,rfl,by decide +kernel,rfl,by decide +kernel,by decide +kernel⟩
def sT{P:Vd}{w:Ve}{K:zg}{mg:Vn->Option Va}{base:Vh}(D:Dfn K mg "_law_unlike" kG ["_law_ways"])(T:Blt mg):Cal P w K mg base "_law_unlike" 1 ["_law_ways"] (lr K):=by
 have nd:=(nv).nd;refine D.ok nv (λvs H Q E h=>?_) (λX I H vs Q E h=>?_)
 .obtain⟨l,bs,ws,rfl,_⟩:=h;rfl
 .obtain⟨f,cdv,A,outer,s,H0,E0,rfl,J⟩:=I;obtain⟨l,bs,ws,rfl,y,al,lay,hlen,q⟩:=h;refine⟨_,(ai (aL (i:=1) nd rfl (Or.inl rfl) (bp ae))
    (ai (dH PassesOwn.never rfl (jk K (pv 0)) (aW (i:=2) nd rfl (Or.inl rfl)) (aj (dI (aN (uQ J) (pv 2) (pv 1) (by with_unfolding_all rfl)) (aj (bD (bj K zt zG zH bU (pv 1) (aa (pv 2) ae)))) aQ)))
    (aj (ay (bz (eh K) rfl T.tuple_ PyProof.Rows.boot_tuple (aa (pv 1) ae)))))),?_⟩
  walk_at"";refine av λf H1 B L r=>?_;walk_at"";refine gU (ag.of (B _ _ y)) ?_;refine forL (xs:=bs.map V.ref) (λi σ H2=>Ext H H2/\∃(k:Option V) (cs:List Vb) (us:List Way),σ=[Vo (.ref l),Vo (.ref f),k]/\H2 f=Vo (.lst (cs.map V.ref))/\aR H2 cs us/\us.Nodup/\(∀u∈us,u∈ws)/\us.length<=i)
   ⟨B,Vp,[],[],rfl,L,aR.nil _,List.nodup_nil,λu j=>by simp at j,zF _⟩ (λi σ H2 _ h=>ag.of (h.1 _ _ y)) ?_ ?_
  .rintro i x σ H2 C ⟨o,k,cs,us,rfl,d,e,m,sub2,g⟩;rw[zm]at C;obtain⟨b,F,rfl⟩:=zx.mp C;have hi:i<ws.length:=by rw[<-al.1];exact(zu.mp F).1
   have t:ws[i]?=Vo ws[i]:=zl hi;have n:=o _ _ (al.2 i b _ F t);walk_at"";refine qH ?_;walk_at"";refine wC (Way.rep n (lay _ (zL hi))) d (e.reps λu j=>lay u (sub2 u j)) (by decide) ?_;simp only[if_true,ko];refine rd_exb ?_;by_cases v:ws[i]∈us
   .rw[Ah v];refine ax ?_;walk_at"";exact⟨o,_,cs,us,rfl,d,e,m,sub2,by omega⟩
   .rw[Ag v];refine aC ?_;walk_at"";refine⟨dn (ag.of d),?_⟩;walk_at"";refine bQ d (by rw[zk,e.1];exact Nat.lt_of_le_of_lt (show us.length<=1000 by omega) (by decide)) ?_;walk_at"";refine⟨eS o r,_,cs++[b],us++[ws[i]],rfl,by rw[aM,zC];rfl,(e.put d).snoc ?_,?_,?_,by simp;omega⟩
    .rw[au (bw n d (by intro z;cases z))];exact n
    .rw[List.nodup_append];exact⟨m,by simp,λa M c N=>by rw[zw.mp N];exact λz=>v (z ▸ M)⟩
    .intro u j;rcases zI.mp j with j|j
     .exact sub2 u j
     .rw[zw.mp j];exact zL hi
  .rintro σ H2 ⟨o,k,cs,us,rfl,d,e,m,sub2,g⟩;walk_at"";refine er (ag.of d) (bF λp O G R _=>?_);exact q p O us (o.trans G) ((e.ext G).ways R) m sub2 (by rw[zk,al.1]at g;exact g)
def iG(z:Vn):Prop:=∃c:Nat,97<=c/\c<=99/\z=⟨#[c]⟩
structure Way.Ok3(m:Int)(w:Way):Prop where
 r0:0<=w.room
 r1:w.room<m
 o0:0<=w.other
 o1:w.other<m
 dd:bJ w.deed
 sg:iG w.sign
structure HOuse3(m:Int)(ws:List Way):Prop where
 m1:1<=m
 m12:m<=12
 few:ws.length<=100
 ok:∀w∈ws,w.Ok3 m
 nd:ws.Nodup
def Way.Ok3.ok(h:w.Ok3 m):w.Ok m:=by obtain⟨c,h1,h2,a⟩:=h.sg;exact⟨h.r0,h.r1,h.o0,h.o1,h.dd,c,h1,by omega,a⟩
theorem Way.Ok3.lay{m:Int}{w:Way}(h:w.Ok3 m):w.Lay:=h.ok.lay
def HOuse3.house(h:HOuse3 m ws):HOuse m ws:=⟨h.m1,h.m12,h.few,λw a=>(h.ok w a).ok,h.nd⟩
def tL{ds:List Int}{i:Nat}(h:i+4<=ds.length):∃a b c d,dh (ds.map V.int) (some (i:Int)) (some ((i+4:Nat):Int))=[.int a,.int b,.int c,.int d]/\ds[i]?=some a/\ds[i+1]?=some b/\ds[i+2]?=some c/\ds[i+3]?=some d:=by refine⟨ds[i],ds[i+1],ds[i+2],ds[i+3],?_,zl _,zl _,zl _,zl _⟩;unfold dh;rw[HT.lR,HT.lR,zk,Nat.min_eq_left (by omega),Nat.min_eq_left (by omega),show i+4-i=4 by omega,<-List.map_drop,<-List.map_take];rw[List.drop_eq_getElem_cons (show i<ds.length by omega),List.drop_eq_getElem_cons (show i+1<ds.length by omega),List.drop_eq_getElem_cons (show i+1+1<ds.length by omega),List.drop_eq_getElem_cons (show i+1+1+1<ds.length by omega)];rfl
def dz:List Int:=[8,12,13,31]++(zY 30 ([12,6,12,3]:List Int)).flatten
def yM{k:Nat}(h:k<30):dz[4+4*k]?=Vo 12/\dz[4+4*k+1]?=Vo 6/\dz[4+4*k+2]?=Vo 12/\dz[4+4*k+3]?=Vo 3:=by
 have:∀k:Fin 30,dz[4+4*k.val]?=Vo 12/\dz[4+4*k.val+1]?=Vo 6/\dz[4+4*k.val+2]?=Vo 12/\dz[4+4*k.val+3]?=Vo 3:=by decide +kernel
 exact this ⟨k,h⟩
def qE(K:zg):Sp:=λvs H Q _=>∃c p,vs=[.int c,.int p]/\0<p/\∀v m ws H',Ext H H'->bh H' v m ws->HOuse3 m ws->Q v H'
def yz{e:Int}(a:0<=e)(h1:e<6):∃z,bR ([.str "up",.str "down",.str "stay",.str "zero",.str "up",.str "down"]:List V) e=Vo (.str z)/\bJ z:=by
 have:e=0\/e=1\/e=2\/e=3\/e=4\/e=5:=by omega
 rcases this with rfl|rfl|rfl|rfl|rfl|rfl
 .exact⟨_,rfl,.inl rfl⟩
 .exact⟨_,rfl,.inr (.inl rfl)⟩
 .exact⟨_,rfl,.inr (.inr (.inl rfl))⟩
 .exact⟨_,rfl,.inr (.inr (.inr rfl))⟩
 .exact⟨_,rfl,.inl rfl⟩
 .exact⟨_,rfl,.inr (.inl rfl)⟩
def ye:(zU "abc").cps.toList=[97,98,99]:=by decide +kernel
def tw{e:Int}(a:0<=e)(h1:e<3):∃c,bR (zU "abc").cps.toList e=Vo c/\97<=c/\c<=99:=by
 rw[ye];have:e=0\/e=1\/e=2:=by omega
 rcases this with rfl|rfl|rfl
 .exact⟨97,rfl,by decide,by decide⟩
 .exact⟨98,rfl,by decide,by decide⟩
 .exact⟨99,rfl,by decide,by decide⟩
def wb{e:Int}(b:0<=e)(h1:e<8):∃w:Int,bR (([4,4,4,5,3,2,5,12]:List Int).map V.int) e=Vo (.int w)/\1<=w/\w<=12:=by
 obtain⟨n,rfl⟩:=Int.eq_ofNat_of_zero_le b;have a:n<8:=Int.ofNat_lt.mp h1;have key:∀i:Fin 8,1<=([4,4,4,5,3,2,5,12]:List Int)[i]/\([4,4,4,5,3,2,5,12]:List Int)[i]<=12:=by decide
 exact⟨([4,4,4,5,3,2,5,12]:List Int)[n],bC (by rw[zm,zl a];rfl),key ⟨n,a⟩⟩
def bh.mk{q:Vb}(h1:H p=Vo (.tup [.int m,.ref q]))(h2:bx H q (ws.map Way.key)):bh H (.ref p) m ws:=⟨p,q,rfl,h1,h2⟩
abbrev lX:Vl:=stq 135
def qy:FnScope ["_law_cell_here","_law_prime","_law_draws_here","_law_many","_law_often","_law_ways","_law_k","_law_room","_law_deed","_law_other","_law_sign","_law_word"] ["_law_cell_here","_law_prime"] (aw lX):=⟨rfl,rfl,rfl,by decide +kernel,rfl,by decide +kernel,by decide +kernel⟩
def wy{P:Vd}{w:Ve}{K:zg}{mg:Vn->Option Va}{base:Vh}(D:Dfn K mg "_law_drawn_house" lX ["_law_cell_here","_law_prime"])(T:Blt mg)(e:Cal P w K mg base "_law_unlike" 1 ["_law_ways"] (lr K))(g:Cal P w K mg base "_law_draws" 2 ["_law_cell_here","_law_widths","_law_prime"] (eZ K)):Cal P w K mg base "_law_drawn_house" 3 ["_law_cell_here","_law_prime"] (qE K):=by
 have nd:=(qy).nd;refine D.ok qy (λvs H Q E h=>?_) (λX hX H vs Q E h=>?_)
 .obtain⟨c,p,rfl,_⟩:=h;rfl
 .obtain⟨f,cdv,A,outer,s,H0,E0,rfl,hr⟩:=hX;obtain⟨c,p,rfl,hp,q⟩:=h;refine⟨_,(@ai _ _ _ _ _ (@aL _ _ 2 _ _ _ _ nd rfl (Or.inl rfl) (az g hr (@aa _ _ _ _ _ (pv 0) (@aa _ _ _ _ _ (aq jh (@bp _ _ _ _ (gM (.c (.c (.c (.c .n)))))) (aq wY (@bp _ _ _ _ (gM (.c (.c (.c (.c .n)))))) af)) (@aa _ _ _ _ _ (pv 1) ae rfl) rfl) rfl)) rfl (Or.inl rfl))
    (@ai _ _ _ _ _ (@aL _ _ 3 _ _ _ _ nd rfl (Or.inl rfl) (aq aX af (aq cp (@ak _ _ _ _ _ _ _ (aG K) (pv 2) af (λ_ _=>rfl)) (@ak _ _ _ _ _ _ _ (aG K) (@bp _ _ _ _ (gM (.c (.c (.c (.c (.c (.c (.c (.c .n)))))))))) (@ak _ _ _ _ _ _ _ (aG K) (pv 2) af (λ_ _=>rfl)) (λ_ _=>rfl)))) rfl (Or.inl rfl))
    (@ai _ _ _ _ _ (@aL _ _ 4 _ _ _ _ nd rfl (Or.inl rfl) (@ak _ _ _ _ _ _ _ (aG K) (pv 2) af (λ_ _=>rfl)) rfl (Or.inl rfl))
    (@ai _ _ _ _ _ (dI (aN cn (@ak _ _ _ _ _ _ _ (aG K) (pv 2) af (λ_ _=>rfl)) af (aI _)) (@aj _ _ _ (@aL _ _ 4 _ _ _ _ nd rfl (Or.inl rfl) (@ak _ _ _ _ _ _ _ (aG K) (pv 2) af (λ_ _=>rfl)) rfl (Or.inl rfl))) aQ)
    (@ai _ _ _ _ _ (@aL _ _ 5 _ _ _ _ nd rfl (Or.inl rfl) (@bp _ _ _ _ ae) rfl (Or.inl rfl))
    (@ai _ _ _ _ _ (dH PassesOwn.never rfl (fR rfl T.range_ (@aa _ _ _ _ _ (pv 4) ae rfl)) (aW (i:=6) nd rfl (Or.inl rfl)) (@ai _ _ _ _ _ (@rl _ _ _ _ _ _ (j4 (jz K) (pv 2) (fM (aq aX af (aq dD af (pv 6)))) (fM (aq aX af (aq dD af (pv 6))))) (yY (n:=4) K rfl (bX (aW (i:=7) nd rfl (Or.inl rfl)) (bX (aW (i:=8) nd rfl (Or.inl rfl)) (bX (aW (i:=9) nd rfl (Or.inl rfl)) (bX (aW (i:=10) nd rfl (Or.inl rfl)) gn))))) rfl rfl rfl)
    (@ai _ _ _ _ _ (@aL _ _ 11 _ _ _ _ nd rfl (Or.inl rfl) (@ak _ _ _ _ _ _ _ (aG K) (@bp _ _ _ _ (@aa _ _ _ _ _ ar (@aa _ _ _ _ _ ar (@aa _ _ _ _ _ ar (@aa _ _ _ _ _ ar (@aa _ _ _ _ _ ar (@aa _ _ _ _ _ ar ae rfl) rfl) rfl) rfl) rfl) rfl)) (pv 8) (λ_ _=>rfl)) rfl (Or.inl rfl))
    (@aj _ _ _ (bD (bj K zt zG zH bU (pv 5) (@aa _ _ _ _ _ (@aJ _ _ _ _ _ (@aa _ _ _ _ _ (aq cp (pv 7) (pv 3)) (@aa _ _ _ _ _ (pv 11) (@aa _ _ _ _ _ (aq cp (pv 9) (pv 3)) (@aa _ _ _ _ _ (@ak _ _ _ _ _ _ _ my ar (pv 10) (λ_ _=>rfl)) ae rfl) rfl) rfl) rfl)) ae rfl)))))))
    (@aj _ _ _ (@ay _ _ _ _ (@aJ _ _ _ _ _ (@aa _ _ _ _ _ (pv 3) (@aa _ _ _ _ _ (az e hr (@aa _ _ _ _ _ (pv 5) ae rfl)) ae rfl) rfl)))))))))),?_⟩
  walk_at"";refine av λw0 G1 f1 a0 _=>?_;walk_at"";refine av λw1 G2 f2 a1 _=>?_;walk_at"";refine tH a1 (by omega) (aY (by decide)) (bF λw2 G3 f3 a2 _=>?_);walk_at"";refine iQ (f3 _ _ (f2 _ _ a0)) a2 (aY (by decide)) (bF λw3 G4 f4 a3 _=>?_);walk_at"";refine gQ dz a3 (by decide +kernel) (by decide +kernel) (hp) λdq ds H1 e1 hd as hl C=>?_;have eH:Ext H H1:=f1.trans (f2.trans (f3.trans (f4.trans e1)));have b0:ds.length=124:=hl;have at_:∀(i:Nat) (x:Int),dz[i]?=Vo x->∃d,ds[i]?=Vo d/\0<=d/\d<x:=λi x hx=>by
   have hi:i<ds.length:=by rw[hl];exact(zu.mp hx).1
   exact⟨ds[i],zl hi,C i _ x (zl hi) hx⟩
  obtain⟨d0,g0,F,G⟩:=at_ 0 8 rfl;obtain⟨d1,g1,a4,a5⟩:=at_ 1 12 rfl;obtain⟨d2,g2,I,a6⟩:=at_ 2 13 rfl;obtain⟨d3,g3,J,a7⟩:=at_ 3 31 rfl;have pick:∀{i:Nat} {d:Int},ds[i]?=Vo d->bR (ds.map V.int) (i:Int)=Vo (.int d):=λ{i d} h=>bC (by rw[zm,h];rfl);walk_at"";refine aB (ag.of hd) (pick (i:=1) g1) ?_;walk_at"";refine av λmq H2 Z a8 _=>?_;walk_at"";refine aB (ag.of (Z _ _ hd)) (pick (i:=0) g0) ?_;obtain⟨w,hw,L,M⟩:=wb F G;refine aB (ag.of a8) hw ?_
  try refine rd_I (show(0:Int)<w by omega) ?_
  walk_at"";have r0:0<=d1 % w:=Int.emod_nonneg _ (by omega);have r1:d1 % w<w:=Int.emod_lt_of_pos _ (by omega);obtain⟨m,hm,m1,m2⟩:∃m,1+d1 % w=m/\1<=m/\m<=12:=⟨_,rfl,by omega,by omega⟩;rw[hm];refine aB (ag.of (Z _ _ hd)) (pick (i:=2) g2) ?_;walk_at"";have a9:Ext H H2:=eH.trans Z;have k:=Z _ _ hd;refine cZ (λN H'=>H'=H2/\∃o:Nat,o<=30/\N=[Vo (.int c),Vo (.int p),Vo (.ref dq),Vo (.int m),Vo (.int o),Vp,Vp,Vp,Vp,Vp,Vp,Vp]) ?_ ?_
  .walk_at"";refine aB (ag.of k) (pick (i:=0) g0) ?_;walk_at"";refine dN (λh=>?_) (λh=>?_)
   .walk_at"";refine aB (ag.of k) (pick (i:=3) g3) ?_;walk_at"";exact⟨rfl,d3.toNat,by omega,by rw[Int.toNat_of_nonneg J];rfl⟩
   .walk_at"";exact⟨rfl,d2.toNat,by omega,by rw[Int.toNat_of_nonneg I];rfl⟩
  rintro N H' ⟨rfl,o,ho,rfl⟩;clear hw L M r0 r1 F G a4 a5 I a6 J a7;walk_at"";refine av λf H3 e3 hf ab=>?_;walk_at"";refine fX (by omega) ?_;refine forR (λi σ O=>Ext H' O/\∃(k1 k2 k3 k4 k5 k6:Option V) (cs:List Vb) (us:List Way),σ=[Vo (.int c),Vo (.int p),Vo (.ref dq),Vo (.int m),Vo (.int o),Vo (.ref f),k1,k2,k3,k4,k5,k6]/\O f=Vo (.lst (cs.map V.ref))/\aR O cs us/\(∀u∈us,u.Ok3 m)/\us.length=i)
   ⟨e3,Vp,Vp,Vp,Vp,Vp,Vp,[],[],rfl,hf,aR.nil _,λu j=>by simp at j,rfl⟩ ?_ ?_
  .rintro i σ O hi ⟨e4,k1,k2,k3,k4,k5,k6,cs,us,rfl,l,al,ok,len⟩;rw[zy]at hi;have R:i<30:=by omega
   obtain⟨a,b,c',d,S,ga,gb,gc,gd⟩:=tL (ds:=ds) (i:=4+4*i) (by omega);obtain⟨y0,y1,y2,y3⟩:=yM R;have ba:=C _ _ _ ga y0;have bb:=C _ _ _ gb y1;have bc:=C _ _ _ gc y2;have bd:=C _ _ _ gd y3;have ac:=e4 _ _ k;walk_at"";refine lO (ag.of ac) (bF λt H5 U ht b1=>?_);rw[show (4:Int)+4*(0+(i:Int))=((4+4*i:Nat):Int) by omega,show (8:Int)+4*(0+(i:Int))=((4+4*i+4:Nat):Int) by omega,S]at ht;walk_at"";refine yt (ag.of ht) rfl ?_;walk_at"";refine av λu1 H6 B ad _=>?_;walk_at"";obtain⟨z,hz,am⟩:=yz bb.1 bb.2;refine aB (ag.of ad) hz ?_;walk_at"";have W:=B _ _ (U _ _ l);refine⟨dn (ag.of W),?_⟩;walk_at""
   try refine rd_I (show(0:Int)<m by omega) ?_
   walk_at""
   try refine rd_I (show(0:Int)<m by omega) ?_
   walk_at"";obtain⟨s,hs,s1,s2⟩:=tw bd.1 bd.2;refine⟨_,_,s,rfl,rfl,dM (by decide +kernel),hs,?_⟩;walk_at"";refine av λv H7 e7 hv _=>?_;have y:=e7 _ _ W;walk_at"";refine bQ y (by rw[zk,al.1,len];exact Nat.lt_of_le_of_lt (show i<=1000 by omega) (by decide)) ?_;walk_at"";have an:aR H7 cs us:=((al.ext U).ext B).ext e7;have Y:H7 v=Vo (.tup (Way.vs ⟨a % m,z,c' % m,⟨#[s]⟩⟩)):=hv;refine⟨eS (e4.trans (U.trans (B.trans e7))) ab,_,_,_,_,_,_,cs++[v],us++[⟨a % m,z,c' % m,⟨#[s]⟩⟩],rfl,by rw[aM,zC];rfl,(an.put y).snoc ?_,?_,by simp[len]⟩
   .rw[au (bw Y y (by intro z;cases z))];exact Y
   .intro u j;rcases zI.mp j with j|j
    .exact ok u j
    .rw[zw.mp j];exact⟨Int.emod_nonneg _ (by omega),Int.emod_lt_of_pos _ (by omega),Int.emod_nonneg _ (by omega),Int.emod_lt_of_pos _ (by omega),am,s,s1,s2,rfl⟩
  .rintro σ O ⟨e4,k1,k2,k3,k4,k5,k6,cs,us,rfl,l,al,ok,len⟩;rw[zy]at len;walk_at"";refine⟨f,cs,us,rfl,l,al,λu j=>(ok u j).lay,by omega,λr H5 ws U ap nd sub ln=>?_⟩;walk_at"";refine av λt H6 B ht _=>?_;exact q _ m ws H6 (a9.trans (e4.trans (U.trans B))) (bh.mk ht (ap.ext B)) ⟨m1,m2,by omega,λu j=>ok u (sub u j),nd⟩
def Way.turn(w:Way):Way:=⟨w.other,fk w.deed,w.room,w.sign⟩
def yL(h:bJ z):bJ (fk z):=by
 rcases h with rfl|rfl|rfl|rfl
 .exact .inr (.inl (by decide +kernel))
 .exact .inl (by decide +kernel)
 .exact .inr (.inr (.inl (by decide +kernel)))
 .exact .inr (.inr (.inr (by decide +kernel)))
def vo(h:bJ z):fk (fk z)=z:=by rcases h with rfl|rfl|rfl|rfl<;>decide +kernel
def Way.turn_turn(h:w.Ok m):w.turn.turn=w:=by obtain⟨a,b,c,d⟩:=w;show(⟨a,fk (fk b),c,d⟩:Way)=_;rw[vo h.dd]
theorem Way.Ok.turn{m:Int}{w:Way}(h:w.Ok m):w.turn.Ok m:=⟨h.o0,h.o1,h.r0,h.r1,yL h.dd,h.sg⟩
theorem HOuse.turn{m:Int}{ws:List Way}(h:HOuse m ws):HOuse m (ws.map Way.turn) where
 m1:=h.m1
 m12:=h.m12
 few:=by rw[zk];exact h.few
 ok:=λw c=>by obtain⟨u,d,rfl⟩:=List.mem_map.mp c;exact(h.ok u d).turn
 nd:=by have nd:=h.nd;unfold List.Nodup at nd ⊢;rw[List.pairwise_map];refine nd.imp_of_mem λ{a b} f g ne e=>ne ?_;rw[<-Way.turn_turn (h.ok a f),<-Way.turn_turn (h.ok b g),e]
def qD(K:zg):Sp:=λvs H Q _=>∃p w,vs=[.ref p]/\H p=Vo (.tup (Way.vs w))/\bJ w.deed/\∀v H',Ext H H'->H' v=Vo (.tup (Way.vs w.turn))->Q (.ref v) H'
abbrev jo:Vl:=stq 40
def pS:FnScope ["way"] ["way"] (aw jo):=⟨rfl,rfl,rfl,by decide +kernel,rfl,by decide +kernel,by decide +kernel⟩
def sV{P:Vd}{w:Ve}{K:zg}{mg:Vn->Option Va}{base:Vh}(D:Dfn K mg "turned_way" jo ["way"])(T:Blt mg)(b:∃a,mg "TURNED" = Vo (.ref a)/\GDict w K a iM):Cal P w K mg base "turned_way" 1 ["way"] (qD K):=by
 have nd:=(pS).nd;refine D.ok pS (λvs H Q E h=>?_) (λX j H vs Q E h=>?_)
 .obtain⟨p,w,rfl,_⟩:=h;rfl
 .obtain⟨f,cdv,A,outer,s,H0,E0,rfl,l⟩:=j;obtain⟨g,c,d⟩:=b;obtain⟨p,w,rfl,i,od,q⟩:=h;refine⟨_,(aj (ay (aJ (aa (ak (aE K) (pv 0) af (λ_ _=>rfl)) (aa (gF rfl c d (ak (aE K) (pv 0) af (λ_ _=>rfl)) (λ_ _=>rfl)) (aa (ak (aE K) (pv 0) af (λ_ _=>rfl)) (aa (ak (aE K) (pv 0) af (λ_ _=>rfl)) ae))))))),?_⟩;walk_at"";refine aD (ah.of i) (v:=.int w.other) rfl ?_;walk_at"";refine aD (ah.of i) (v:=.str w.deed) rfl ?_;walk_at"";refine eM (pG od) ?_;walk_at"";refine aD (ah.of i) (v:=.int w.room) rfl ?_;walk_at"";refine aD (ah.of i) (v:=.str w.sign) rfl ?_;walk_at"";exact⟨aY (by simp),bF λv H' e k _=>q v H' e k⟩
def m3(K:zg):Sp:=λvs H Q _=>∃v m ws,vs=[v]/\bh H v m ws/\HOuse m ws/\∀u H',Ext H H'->bh H' u m (List.map Way.turn ws)->Q u H'
abbrev mI:Vl:=stq 41
def oM:FnScope ["house"] ["house"] (aw mI):=⟨rfl,rfl,rfl,by decide +kernel,rfl,by decide +kernel,by decide +kernel⟩
def xb{P:Vd}{w:Ve}{K:zg}{mg:Vn->Option Va}{base:Vh}(D:Dfn K mg "turned_about" mI ["house"])(T:Blt mg)(c:Cal P w K mg base "turned_way" 1 ["way"] (qD K))(a:Cal P w K mg base "refuse_no_house" 6 ["thing"] (kI K)):Cal P w K mg base "turned_about" 7 ["house"] (m3 K):=by
 have nd:=(oM).nd;refine D.ok oM (λvs H Q E h=>?_) (λX N H vs Q E h=>?_)
 .obtain⟨v,m,ws,rfl,_⟩:=h;rfl
 .obtain⟨f,cdv,A,outer,s,H0,E0,rfl,y⟩:=N;obtain⟨v,m,ws,rfl,h1,ok,q⟩:=h;have z:=ok.few;refine⟨_,(ai (bD (az a y (aa (pv 0) ae)))
    (aj (ay (aJ (aa (ak (aE K) (pv 0) af (λ_ _=>rfl)) (aa (bz (eh K) rfl T.tuple_ PyProof.Rows.boot_tuple (aa (eO ["way"] [] (fh K (ak (aE K) (pv 0) af (λ_ _=>rfl))) (λ_=>(aW (i:=0) (show(["way"]:List Vn).Nodup from by decide +kernel) rfl (Or.inl rfl) (Or.inr rfl))) (λ_=>eQ) (λ_=>(az c y (aa (pv 0) ae)))) ae)) ae)))))),?_⟩
  walk_at"";refine⟨v,m,ws,rfl,h1,ok,λH1 B=>?_⟩;obtain⟨p,r,rfl,C,O⟩:=h1.ext B;obtain⟨bs,F,al⟩:=bx.al O;walk_at"";refine aD (ah.of C) (v:=.int m) rfl ?_;walk_at"";refine aD (ah.of C) (v:=.ref r) rfl ?_;refine fw (ah.of F) ?_;refine fP (xs:=bs.map V.ref) (λi ys H'=>Ext H1 H'/\∃cs,ys=cs.map V.ref/\aR H' cs ((ws.take i).map Way.turn)) (dM (by rw[zk,al.1];omega)) ⟨Ext.rfl' _,[],rfl,aR.nil _⟩ (λi ys H' hi h=>⟨ah.of (h.1 _ _ F),?_⟩) ?_ ?_
  .obtain⟨_,cs,rfl,R,_⟩:=h;rw[zk,R,zk,Ac];exact Nat.min_le_left _ _
  .rintro i x ys H' G ⟨n,cs,rfl,d⟩;rw[zm]at G;obtain⟨b,I,rfl⟩:=zx.mp G;have hi:i<ws.length:=by rw[<-al.1];exact(zu.mp I).1
   have e:ws[i]?=Vo ws[i]:=zl hi;walk_at"";refine aC ?_;walk_at"";refine⟨b,ws[i],rfl,n _ _ (al.2 i b _ I e),(ok.ok _ (zL hi)).dd,λv Z g S=>?_⟩;refine⟨n.trans g,cs++[v],by rw[zC];rfl,?_⟩;rw[List.take_add_one,e,zC];exact(d.ext g).snoc S
  .rintro ys H' l ⟨n,cs,rfl,d⟩ J;rw[zk,al.1,zN]at d;walk_at"";have g:Ext H1 (upd H' l (.lst (cs.map V.ref))):=n.trans (bL J);have j:=d.ext (bL (o:=.lst (cs.map V.ref)) J);have k:upd H' l (.lst (cs.map V.ref)) l=Vo (.lst (cs.map V.ref)):=aM;generalize upd H' l (.lst (cs.map V.ref))=H4 at g j k ⊢;refine er (ag.of k) (bF λt H5 L U _=>?_);walk_at"";refine av λu W M Y _=>?_;exact q _ W (B.trans (g.trans (L.trans M))) (bh.mk Y (((j.ext L).ways U).ext M))
structure WL(H0 H:Hp)(f:Vb)(us:List Way):Prop where
 ext:Ext H0 H
 at_:∃cs:List Vb,H f=Vo (.lst (cs.map V.ref))/\aR H cs us
theorem WL.nil{H0 H:Hp}{f:Vb}(e:Ext H0 H)(a:H f=Vo (.lst [])):WL H0 H f []:=⟨e,[],a,aR.nil _⟩
def WL.push{H0:Hp}{v:Vb}(h:WL H0 H f us)(b:H0 f=Vp)(e:Ext H H1)(c:H1 v=Vo (.tup w.vs)):
  ∃xs,H1 f=Vo (.lst xs)/\xs.length=us.length/\WL H0 (upd H1 f (.lst (xs++[.ref v]))) f (us++[w]):=by
 obtain⟨d,cs,g,al⟩:=h;have a:=e _ _ g;refine⟨cs.map V.ref,a,by rw[zk];exact al.1,eS (d.trans e) b,cs++[v],by rw[aM,zC];rfl,((al.ext e).put a).snoc ?_⟩;rw[au (bw c a (by intro z;cases z))];exact c
def WL.ty{K:zg}{H0:Hp}(h:WL H0 H f us)(e:Ext H H1):fq K "list" (.ref f) H1:=by obtain⟨_,cs,a,al⟩:=h;exact dn (ag.of (e _ _ a))
def il:iG "a":=⟨97,by decide,by decide,by decide +kernel⟩
def hJ:iG "b":=⟨98,by decide,by decide,by decide +kernel⟩
def mz:iG "c":=⟨99,by decide,by decide,by decide +kernel⟩
def iP:bJ "up":=.inl rfl
def mD:bJ "down":=.inr (.inl rfl)
def fH:bJ "stay":=.inr (.inr (.inl rfl))
def kD:bJ "zero":=.inr (.inr (.inr rfl))
def dg(h:n<=1000):n<sizeLine:=Nat.lt_of_le_of_lt h (by decide)
def iw{a b:V}{e:Int}(c:0<=e)(h1:e<2):∃v,bR [a,b] e=Vo v/\(v=a\/v=b):=by
 have:e=0\/e=1:=by omega
 rcases this with rfl|rfl
 .exact⟨a,rfl,.inl rfl⟩
 .exact⟨b,rfl,.inr rfl⟩
def di(h:∀u∈us,u.Ok3 m)(b:w.Ok3 m):∀u∈us++[w],u.Ok3 m:=λu a=>by
 rcases zI.mp a with a|a
 .exact h u a
 .rw[zw.mp a];exact b
def sR:(zU "ab").cps.toList=[97,98]:=by decide +kernel
def yP{e:Int}(a:0<=e)(h1:e<2):∃c,bR (zU "ab").cps.toList e=Vo c/\97<=c/\c<=99:=by
 rw[sR];have:e=0\/e=1:=by omega
 rcases this with rfl|rfl
 .exact⟨97,rfl,by decide,by decide⟩
 .exact⟨98,rfl,by decide,by decide⟩
def cx{ws ds:List Int}(b:ds.length=ws.length)(c:∀(i:Nat) (d x:Int),ds[i]?=Vo d->ws[i]?=Vo x->0<=d/\d<x)(i:Nat){x:Int}(a:ws[i]?=Vo x):∃d,bR (ds.map V.int) (i:Int)=Vo (.int d)/\0<=d/\d<x:=by
 have hi:i<ds.length:=by rw[b];exact(zu.mp a).1
 have g:ds[i]?=Vo ds[i]:=zl hi;exact⟨ds[i],bC (by rw[zm,g];rfl),c i _ x g a⟩
def rS(K:zg):Sp:=λvs H Q _=>∃c p,vs=[.int c,.int p]/\0<p/\∀v m ws H',Ext H H'->bh H' v m ws->HOuse3 m ws->Q v H'
abbrev jC:Vl:=stq 137
def qO:FnScope ["_law_cell_here","_law_prime","_law_draws_here","_law_up","_law_down","_law_many","_law_ways","_law_k"] ["_law_cell_here","_law_prime"] (aw jC):=⟨rfl,rfl,rfl,by decide +kernel,rfl,by decide +kernel,by decide +kernel⟩
def xf{P:Vd}{w:Ve}{K:zg}{mg:Vn->Option Va}{base:Vh}(D:Dfn K mg "_law_gate_house" jC ["_law_cell_here","_law_prime"])(T:Blt mg)(d:Cal P w K mg base "_law_unlike" 1 ["_law_ways"] (lr K))(g:Cal P w K mg base "_law_draws" 2 ["_law_cell_here","_law_widths","_law_prime"] (eZ K)):Cal P w K mg base "_law_gate_house" 3 ["_law_cell_here","_law_prime"] (rS K):=by
 have nd:=(qO).nd;refine D.ok qO (λvs H Q E h=>?_) (λX hX H vs Q E h=>?_)
 .obtain⟨c,p,rfl,_⟩:=h;rfl
 .obtain⟨f,cdv,A,outer,s,H0,E0,rfl,hr⟩:=hX;obtain⟨c,p,rfl,hp,q⟩:=h;refine⟨_,(@ai _ _ _ _ _ (@aL _ _ 2 _ _ _ _ nd rfl (Or.inl rfl) (az g hr (@aa _ _ _ _ _ (pv 0) (@aa _ _ _ _ _ (@bp _ _ _ _ (gM (.c (.c (.c (.c (.c (.c (.c .n))))))))) (@aa _ _ _ _ _ (pv 1) ae rfl) rfl) rfl)) rfl (Or.inl rfl))
    (@ai _ _ _ _ _ (sd (i:=3) (j:=4) rfl nd rfl rfl (by decide) rfl rfl (@aa _ _ _ _ _ (aq aX af (@ak _ _ _ _ _ _ _ (aG K) (pv 2) af (λ_ _=>rfl))) (@aa _ _ _ _ _ (aq aX af (@ak _ _ _ _ _ _ _ (aG K) (pv 2) af (λ_ _=>rfl))) ae rfl) rfl) rfl)
    (@ai _ _ _ _ _ (@aL _ _ 5 _ _ _ _ nd rfl (Or.inl rfl) (aq aX (aq aX (pv 3) (pv 4)) af) rfl (Or.inl rfl))
    (@ai _ _ _ _ _ (@aL _ _ 6 _ _ _ _ nd rfl (Or.inl rfl) (@bp _ _ _ _ ae) rfl (Or.inl rfl))
    (@ai _ _ _ _ _ (dH PassesOwn.never rfl (fR rfl T.range_ (@aa _ _ _ _ _ (pv 3) ae rfl)) (aW (i:=7) nd rfl (Or.inl rfl)) (@aj _ _ _ (bD (bj K zt zG zH bU (pv 6) (@aa _ _ _ _ _ (@aJ _ _ _ _ _ (@aa _ _ _ _ _ (pv 7) (@aa _ _ _ _ _ ar (@aa _ _ _ _ _ (aq cp (aq aX (pv 7) af) (pv 3)) (@aa _ _ _ _ _ (@ak _ _ _ _ _ _ _ my ar (@ak _ _ _ _ _ _ _ (aG K) (pv 2) af (λ_ _=>rfl)) (λ_ _=>rfl)) ae rfl) rfl) rfl) rfl)) ae rfl)))))
    (@ai _ _ _ _ _ (bD (bj K zt zG zH bU (pv 6) (@aa _ _ _ _ _ (@aJ _ _ _ _ _ (@aa _ _ _ _ _ (aq cp (@ak _ _ _ _ _ _ _ (aG K) (pv 2) af (λ_ _=>rfl)) (pv 3)) (@aa _ _ _ _ _ ar (@aa _ _ _ _ _ (pv 3) (@aa _ _ _ _ _ ar ae rfl) rfl) rfl) rfl)) ae rfl)))
    (@ai _ _ _ _ _ (dH PassesOwn.never rfl (fR rfl T.range_ (@aa _ _ _ _ _ (pv 4) ae rfl)) (aW (i:=7) nd rfl (Or.inl rfl)) (@aj _ _ _ (bD (bj K zt zG zH bU (pv 6) (@aa _ _ _ _ _ (@aJ _ _ _ _ _ (@aa _ _ _ _ _ (aq aX (pv 3) (pv 7)) (@aa _ _ _ _ _ ar (@aa _ _ _ _ _ (aq aX (pv 3) (aq cp (aq aX (pv 7) af) (pv 4))) (@aa _ _ _ _ _ ar ae rfl) rfl) rfl) rfl)) ae rfl)))))
    (@ai _ _ _ _ _ (bD (bj K zt zG zH bU (pv 6) (@aa _ _ _ _ _ (@aJ _ _ _ _ _ (@aa _ _ _ _ _ (aq aX (pv 3) (aq cp (@ak _ _ _ _ _ _ _ (aG K) (pv 2) af (λ_ _=>rfl)) (pv 4))) (@aa _ _ _ _ _ ar (@aa _ _ _ _ _ (aq du (pv 5) af) (@aa _ _ _ _ _ ar ae rfl) rfl) rfl) rfl)) ae rfl)))
    (@ai _ _ _ _ _ (bD (bj K zt zG zH bU (pv 6) (@aa _ _ _ _ _ (@aJ _ _ _ _ _ (@aa _ _ _ _ _ (aq du (pv 5) af) (@aa _ _ _ _ _ (@ak _ _ _ _ _ _ _ (aG K) (@bp _ _ _ _ (@aa _ _ _ _ _ ar (@aa _ _ _ _ _ ar ae rfl) rfl)) (@ak _ _ _ _ _ _ _ (aG K) (pv 2) af (λ_ _=>rfl)) (λ_ _=>rfl)) (@aa _ _ _ _ _ (@ak _ _ _ _ _ _ _ (aG K) (@bp _ _ _ _ (@aa _ _ _ _ _ af (@aa _ _ _ _ _ (aq du (pv 5) af) ae rfl) rfl)) (@ak _ _ _ _ _ _ _ (aG K) (pv 2) af (λ_ _=>rfl)) (λ_ _=>rfl)) (@aa _ _ _ _ _ ar ae rfl) rfl) rfl) rfl)) ae rfl)))
    (@aj _ _ _ (@ay _ _ _ _ (@aJ _ _ _ _ _ (@aa _ _ _ _ _ (pv 5) (@aa _ _ _ _ _ (az d hr (@aa _ _ _ _ _ (pv 6) ae rfl)) ae rfl) rfl))))))))))))),?_⟩
  walk_at"";refine av λw0 G1 f1 a3 _=>?_;walk_at"";refine gQ [6,5,6,5,2,2,2] a3 (by decide) (by decide) (hp) λdq ds H1 e1 hd b7 L M=>?_;have eH:Ext H H1:=f1.trans e1;obtain⟨d0,g0,a4,a5⟩:=cx L M 0 rfl;obtain⟨d1,g1,a6,a7⟩:=cx L M 1 rfl;obtain⟨W,g2,b8,b9⟩:=cx L M 2 rfl;obtain⟨S,g3,ba,bb⟩:=cx L M 3 rfl;obtain⟨d4,g4,a8,a9⟩:=cx L M 4 rfl;obtain⟨d5,g5,ab,ac⟩:=cx L M 5 rfl;obtain⟨d6,g6,ad,am⟩:=cx L M 6 rfl;clear M L;walk_at"";refine aB (ag.of hd) g0 ?_;walk_at"";refine aB (ag.of hd) g1 ?_;walk_at"";obtain⟨U,hU⟩:∃U:Nat,1+d0=(U:Int):=⟨(1+d0).toNat,by omega⟩;obtain⟨D,hD⟩:∃D:Nat,1+d1=(D:Int):=⟨(1+d1).toNat,by omega⟩;rw[hU,hD];have u1:1<=U:=by omega
  have u6:U<=6:=by omega
  have v1:1<=D:=by omega
  have v5:D<=5:=by omega
  clear a4 a5 a6 a7 hU hD;obtain⟨m,hm⟩:∃m:Int,(U:Int)+(D:Int)+1=m:=⟨_,rfl⟩;rw[hm];refine av λf H2 e2 hf an=>?_;walk_at"";refine fX (by omega) ?_;have l:H1 f=Vp:=an;refine forR (λi σ N=>∃(k:Option V) (us:List Way),σ=[Vo (.int c),Vo (.int p),Vo (.ref dq),Vo (.int U),Vo (.int D),Vo (.int m),Vo (.ref f),k]/\WL H1 N f us/\(∀u∈us,u.Ok3 m)/\us.length=i)
   ⟨Vp,[],rfl,WL.nil e2 hf,λu Y=>by simp at Y,rfl⟩ ?_ ?_
  .rintro i σ N hi ⟨k,us,rfl,wl,ok,len⟩;rw[zy]at hi;walk_at"";refine⟨wl.ty (Ext.rfl' _),?_⟩;walk_at""
   try refine rd_I (show(0:Int)<(U:Int) by omega) ?_
   walk_at"";refine aB (ag.of (wl.ext _ _ hd)) g4 ?_;obtain⟨s,hs,s1,s2⟩:=yP a8 a9;refine⟨_,_,s,rfl,rfl,dM (by decide +kernel),hs,?_⟩;walk_at"";refine av λv Z J F _=>?_;walk_at"";obtain⟨xs,G,B,O⟩:=wl.push (w:=⟨0+(i:Int),"up",(0+(i:Int)+1) % (U:Int),⟨#[s]⟩⟩) l J F;refine bQ G (dg (by omega)) ?_;walk_at"";exact⟨_,_,rfl,O,di ok ⟨by show 0<=0+(i:Int);omega,by show 0+(i:Int)<m;omega,Int.emod_nonneg _ (by omega),Int.lt_trans (Int.emod_lt_of_pos _ (by omega)) (by omega),iP,s,s1,s2,rfl⟩,by simp[len]⟩
  rintro σ N ⟨k,us,rfl,wl,ok,len⟩;rw[zy]at len;walk_at"";refine⟨wl.ty (Ext.rfl' _),?_⟩;walk_at"";refine aB (ag.of (wl.ext _ _ hd)) g2 ?_
  try refine rd_I (show(0:Int)<(U:Int) by omega) ?_
  walk_at"";refine av λv Z J F _=>?_;walk_at"";have r0:0<=W % (U:Int):=Int.emod_nonneg _ (by omega);have r1:W % (U:Int)<U:=Int.emod_lt_of_pos _ (by omega);obtain⟨xs,G,B,e⟩:=wl.push (w:=⟨W % (U:Int),"stay",(U:Int),"b"⟩) l J F;have C:=di ok (w:=⟨W % (U:Int),"stay",(U:Int),"b"⟩) ⟨r0,by show W % (U:Int)<m;omega,by show 0<=(U:Int);omega,by show(U:Int)<m;omega,fH,hJ⟩;refine bQ G (dg (by omega)) ?_;generalize upd Z f _=H5 at e ⊢;generalize o:us++[_]=I at e C;have x:I.length=U+1:=by rw[<-o];simp[len]
  clear o G B F J r0 r1 wl ok len;walk_at"";refine fX (by omega) ?_;refine forR (λi σ N=>∃(k:Option V) (us:List Way),σ=[Vo (.int c),Vo (.int p),Vo (.ref dq),Vo (.int U),Vo (.int D),Vo (.int m),Vo (.ref f),k]/\WL H1 N f us/\(∀u∈us,u.Ok3 m)/\us.length=U+1+i)
   ⟨_,I,rfl,e,C,x⟩ ?_ ?_
  .rintro i σ N hi ⟨k,us,rfl,wl,ok,len⟩;rw[zy]at hi;walk_at"";refine⟨wl.ty (Ext.rfl' _),?_⟩;walk_at""
   try refine rd_I (show(0:Int)<(D:Int) by omega) ?_
   walk_at"";refine av λv Z J F _=>?_;walk_at"";have r0:0<=(0+(i:Int)+1) % (D:Int):=Int.emod_nonneg _ (by omega);have r1:(0+(i:Int)+1) % (D:Int)<D:=Int.emod_lt_of_pos _ (by omega);obtain⟨xs,G,B,O⟩:=wl.push (w:=⟨(U:Int)+(0+(i:Int)),"down",(U:Int)+(0+(i:Int)+1) % (D:Int),"a"⟩) l J F;refine bQ G (dg (by omega)) ?_;walk_at"";exact⟨_,_,rfl,O,di ok ⟨by show 0<=(U:Int)+(0+(i:Int));omega,by show(U:Int)+(0+(i:Int))<m;omega,by show 0<=(U:Int)+(0+(i:Int)+1) % (D:Int);omega,by show(U:Int)+(0+(i:Int)+1) % (D:Int)<m;omega,mD,il⟩,by simp[len];omega⟩
  clear e C x;rintro σ N ⟨k,us,rfl,wl,ok,len⟩;rw[zy]at len;walk_at"";refine⟨wl.ty (Ext.rfl' _),?_⟩;walk_at"";refine aB (ag.of (wl.ext _ _ hd)) g3 ?_
  try refine rd_I (show(0:Int)<(D:Int) by omega) ?_
  walk_at"";refine av λv Z J F _=>?_;walk_at"";have r0:0<=S % (D:Int):=Int.emod_nonneg _ (by omega);have r1:S % (D:Int)<D:=Int.emod_lt_of_pos _ (by omega);obtain⟨xs,G,B,e⟩:=wl.push (w:=⟨(U:Int)+S % (D:Int),"zero",m-1,"c"⟩) l J F;have C:=di ok (w:=⟨(U:Int)+S % (D:Int),"zero",m-1,"c"⟩) ⟨by show 0<=(U:Int)+S % (D:Int);omega,by show(U:Int)+S % (D:Int)<m;omega,by show 0<=m-1;omega,by show m-1<m;omega,kD,mz⟩;refine bQ G (dg (by omega)) ?_;generalize upd Z f _=H5 at e ⊢;generalize o:us++[_]=I at e C;have x:I.length=U+D+2:=by rw[<-o];simp[len];omega
  clear o G B F J r0 r1 wl ok len;walk_at"";refine⟨e.ty (Ext.rfl' _),?_⟩;walk_at"";refine av λt1 H6 e6 ap _=>?_;walk_at"";refine aB (ag.of (e6 _ _ (e.ext _ _ hd))) g5 ?_;obtain⟨x5,as,b0⟩:=iw (a:=V.str "up") (b:=V.str "stay") ab ac;refine aB (ag.of ap) as ?_;walk_at"";refine av λt2 H7 e7 b1 _=>?_;walk_at"";refine aB (ag.of (e7 _ _ (e6 _ _ (e.ext _ _ hd)))) g6 ?_;obtain⟨x6,b2,b3⟩:=iw (a:=V.int 0) (b:=V.int (m-1)) ad am;refine aB (ag.of b1) b2 ?_;walk_at"";refine av λv H8 e8 F _=>?_;walk_at"";obtain⟨z,rfl,oz⟩:∃z,x5=.str z/\bJ z:=by
   rcases b0 with rfl|rfl
   .exact⟨_,rfl,iP⟩
   .exact⟨_,rfl,fH⟩
  obtain⟨y,rfl,y0,y1⟩:∃y:Int,x6=.int y/\0<=y/\y<m:=by
   rcases b3 with rfl|rfl
   .exact⟨_,rfl,by omega,by omega⟩
   .exact⟨_,rfl,by omega,by omega⟩
  obtain⟨xs,G,B,R⟩:=e.push (w:=⟨m-1,z,y,"b"⟩) l (e6.trans (e7.trans e8)) F;have ok3:=di C (w:=⟨m-1,z,y,"b"⟩) ⟨by show 0<=m-1;omega,by show m-1<m;omega,y0,y1,oz,hJ⟩;refine bQ G (dg (by omega)) ?_;generalize upd H8 f _=H9 at R ⊢;generalize a0:I++[_]=a1 at R ok3;have b6:a1.length=U+D+3:=by rw[<-a0];simp[x]
  walk_at"";obtain⟨ew,cs,b4,al⟩:=R;refine⟨f,cs,a1,rfl,b4,al,λu Y=>(ok3 u Y).lay,by omega,λr I1 ws e5 b5 nd sub ln=>?_⟩;walk_at"";refine av λt I2 a2 ht _=>?_;exact q _ m ws I2 (eH.trans (ew.trans (e5.trans a2))) (bh.mk ht (b5.ext a2)) ⟨by omega,by omega,by omega,λu Y=>ok3 u (sub u Y),nd⟩
def aR.rev{bs:List Vb}(h:aR H bs ws):aR H bs.reverse ws.reverse:=by
 refine⟨by rw[List.length_reverse,List.length_reverse];exact h.1,λj b w a c=>?_⟩;have d:j<bs.length:=by have:=(zu.mp a).1;simpa using this
 rw[List.getElem?_reverse d]at a;rw[List.getElem?_reverse (by rw[<-h.1];exact d),<-h.1]at c;exact h.2 _ b w a c
def fK(h:us.Nodup)(b:w∉us):(us++[w]).Nodup:=by rw[List.nodup_append];exact⟨h,by simp,λa d c e=>by rw[zw.mp e];exact λz=>b (z ▸ d)⟩
def gy{P:Way->Prop}(h:∀u∈us,P u)(b:P w):∀u∈us++[w],P u:=λu a=>by
 rcases zI.mp a with a|a
 .exact h u a
 .rw[zw.mp a];exact b
def rm:(zU "a")≠"b":=by decide +kernel
def oI:(zU "a")≠"c":=by decide +kernel
def jK:(zU "b")≠"c":=by decide +kernel
def pU(K:zg):Sp:=λvs H Q _=>∃c p,vs=[.int c,.int p]/\0<p/\∀v m ws H',Ext H H'->bh H' v m ws->HOuse3 m ws->Q v H'
abbrev jG:Vl:=stq 136
def mP:FnScope ["_law_cell_here","_law_prime","_law_draws_here","_law_one","_law_two","_law_many","_law_ways","_law_k"] ["_law_cell_here","_law_prime"] (aw jG):=⟨rfl,rfl,rfl,by decide +kernel,rfl,by decide +kernel,by decide +kernel⟩
def sF{P:Vd}{w:Ve}{K:zg}{mg:Vn->Option Va}{base:Vh}(D:Dfn K mg "_law_ring_house" jG ["_law_cell_here","_law_prime"])(T:Blt mg)(l:Cal P w K mg base "_law_draws" 2 ["_law_cell_here","_law_widths","_law_prime"] (eZ K)):Cal P w K mg base "_law_ring_house" 3 ["_law_cell_here","_law_prime"] (pU K):=by
 have nd:=(mP).nd;refine D.ok mP (λvs H Q E h=>?_) (λX hX H vs Q E h=>?_)
 .obtain⟨c,p,rfl,_⟩:=h;rfl
 .obtain⟨f,cdv,A,outer,s,H0,E0,rfl,hr⟩:=hX;obtain⟨c,p,rfl,hp,q⟩:=h;refine⟨_,(@ai _ _ _ _ _ (@aL _ _ 2 _ _ _ _ nd rfl (Or.inl rfl) (az l hr (@aa _ _ _ _ _ (pv 0) (@aa _ _ _ _ _ (@bp _ _ _ _ (gM (.c (.c (.c (.c (.c (.c (.c .n))))))))) (@aa _ _ _ _ _ (pv 1) ae rfl) rfl) rfl)) rfl (Or.inl rfl))
    (@ai _ _ _ _ _ (sd (i:=3) (j:=4) rfl nd rfl rfl (by decide) rfl rfl (@aa _ _ _ _ _ (aq aX af (@ak _ _ _ _ _ _ _ (aG K) (pv 2) af (λ_ _=>rfl))) (@aa _ _ _ _ _ (aq aX af (@ak _ _ _ _ _ _ _ (aG K) (pv 2) af (λ_ _=>rfl))) ae rfl) rfl) rfl)
    (@ai _ _ _ _ _ (@aL _ _ 5 _ _ _ _ nd rfl (Or.inl rfl) (aq aX (aq aX (pv 3) (pv 4)) af) rfl (Or.inl rfl))
    (@ai _ _ _ _ _ (@aL _ _ 6 _ _ _ _ nd rfl (Or.inl rfl) (@bp _ _ _ _ (@aa _ _ _ _ _ (@aJ _ _ _ _ _ (@aa _ _ _ _ _ af (@aa _ _ _ _ _ ar (@aa _ _ _ _ _ af (@aa _ _ _ _ _ ar ae rfl) rfl) rfl) rfl)) (@aa _ _ _ _ _ (@aJ _ _ _ _ _ (@aa _ _ _ _ _ af (@aa _ _ _ _ _ (@ak _ _ _ _ _ _ _ (aG K) (@bp _ _ _ _ (@aa _ _ _ _ _ ar (@aa _ _ _ _ _ ar ae rfl) rfl)) (@ak _ _ _ _ _ _ _ (aG K) (pv 2) af (λ_ _=>rfl)) (λ_ _=>rfl)) (@aa _ _ _ _ _ (aq aX af (pv 3)) (@aa _ _ _ _ _ ar ae rfl) rfl) rfl) rfl)) ae rfl) rfl)) rfl (Or.inl rfl))
    (@ai _ _ _ _ _ (dH PassesOwn.never rfl (fR rfl T.range_ (@aa _ _ _ _ _ (pv 3) ae rfl)) (aW (i:=7) nd rfl (Or.inl rfl)) (@aj _ _ _ (bD (bj K zt zG zH bU (pv 6) (@aa _ _ _ _ _ (@aJ _ _ _ _ _ (@aa _ _ _ _ _ (aq aX af (pv 7)) (@aa _ _ _ _ _ ar (@aa _ _ _ _ _ (aq aX af (aq cp (aq aX (pv 7) af) (pv 3))) (@aa _ _ _ _ _ ar ae rfl) rfl) rfl) rfl)) ae rfl)))))
    (@ai _ _ _ _ _ (dH PassesOwn.never rfl (fR rfl T.range_ (@aa _ _ _ _ _ (pv 4) ae rfl)) (aW (i:=7) nd rfl (Or.inl rfl)) (@aj _ _ _ (bD (bj K zt zG zH bU (pv 6) (@aa _ _ _ _ _ (@aJ _ _ _ _ _ (@aa _ _ _ _ _ (aq aX (aq aX af (pv 3)) (pv 7)) (@aa _ _ _ _ _ (@ak _ _ _ _ _ _ _ (aG K) (@bp _ _ _ _ (@aa _ _ _ _ _ ar (@aa _ _ _ _ _ ar ae rfl) rfl)) (@ak _ _ _ _ _ _ _ (aG K) (pv 2) af (λ_ _=>rfl)) (λ_ _=>rfl)) (@aa _ _ _ _ _ (aq aX (aq aX af (pv 3)) (aq cp (aq aX (pv 7) af) (pv 4))) (@aa _ _ _ _ _ ar ae rfl) rfl) rfl) rfl)) ae rfl)))))
    (@ai _ _ _ _ _ (bD (bj K zt zG zH bU (pv 6) (@aa _ _ _ _ _ (@aJ _ _ _ _ _ (@aa _ _ _ _ _ af (@aa _ _ _ _ _ ar (@aa _ _ _ _ _ (aq du (pv 5) af) (@aa _ _ _ _ _ ar ae rfl) rfl) rfl) rfl)) ae rfl)))
    (@ai _ _ _ _ _ (bD (bj K zt zG zH bU (pv 6) (@aa _ _ _ _ _ (@aJ _ _ _ _ _ (@aa _ _ _ _ _ (aq aX af (pv 3)) (@aa _ _ _ _ _ ar (@aa _ _ _ _ _ (aq du (pv 5) af) (@aa _ _ _ _ _ ar ae rfl) rfl) rfl) rfl)) ae rfl)))
    (@ai _ _ _ _ _ (dI (aN cn (@ak _ _ _ _ _ _ _ (aG K) (pv 2) af (λ_ _=>rfl)) af (aI _)) (@aj _ _ _ (bD (bj K zt zG zH bU (pv 6) (@aa _ _ _ _ _ (@aJ _ _ _ _ _ (@aa _ _ _ _ _ (aq du (pv 5) af) (@aa _ _ _ _ _ ar (@aa _ _ _ _ _ (aq du (pv 5) af) (@aa _ _ _ _ _ ar ae rfl) rfl) rfl) rfl)) ae rfl)))) aQ)
    (@ai _ _ _ _ _ (dI (aN cn (@ak _ _ _ _ _ _ _ (aG K) (pv 2) af (λ_ _=>rfl)) af (aI _)) (@aj _ _ _ (bD (bj K zt zG zH bU (pv 6) (@aa _ _ _ _ _ (@aJ _ _ _ _ _ (@aa _ _ _ _ _ (aq du (pv 5) af) (@aa _ _ _ _ _ ar (@aa _ _ _ _ _ af (@aa _ _ _ _ _ ar ae rfl) rfl) rfl) rfl)) ae rfl)))) aQ)
    (@ai _ _ _ _ _ (dI (aN cn (@ak _ _ _ _ _ _ _ (aG K) (pv 2) af (λ_ _=>rfl)) af (aI _)) (@aj _ _ _ (@aL _ _ 6 _ _ _ _ nd rfl (Or.inl rfl) (sI K (pv 6) (fM (pE oZ af))) rfl (Or.inl rfl))) aQ)
    (@aj _ _ _ (@ay _ _ _ _ (@aJ _ _ _ _ _ (@aa _ _ _ _ _ (pv 5) (@aa _ _ _ _ _ (bz (eh K) rfl T.tuple_ PyProof.Rows.boot_tuple (@aa _ _ _ _ _ (pv 6) ae rfl)) ae rfl) rfl))))))))))))))),?_⟩
  walk_at"";refine av λw0 G1 f1 b2 _=>?_;walk_at"";refine gQ [5,5,2,2,4,4,2] b2 (by decide) (by decide) (hp) λdq ds H1 e1 hd c3 S W=>?_;have eH:Ext H H1:=f1.trans e1;obtain⟨d0,g0,b3,b4⟩:=cx S W 0 rfl;obtain⟨d1,g1,b5,b6⟩:=cx S W 1 rfl;obtain⟨d2,g2,b7,b8⟩:=cx S W 2 rfl;obtain⟨d3,g3,b9,ba⟩:=cx S W 3 rfl;obtain⟨d4,g4,_⟩:=cx S W 4 rfl;obtain⟨d5,g5,_⟩:=cx S W 5 rfl;obtain⟨d6,g6,_⟩:=cx S W 6 rfl;clear W S;walk_at"";refine aB (ag.of hd) g0 ?_;walk_at"";refine aB (ag.of hd) g1 ?_;walk_at"";obtain⟨U,hU⟩:∃U:Nat,1+d0=(U:Int):=⟨(1+d0).toNat,by omega⟩;obtain⟨D,hD⟩:∃D:Nat,1+d1=(D:Int):=⟨(1+d1).toNat,by omega⟩;rw[hU,hD];have u1:1<=U:=by omega
  have u6:U<=5:=by omega
  have v1:1<=D:=by omega
  have v5:D<=5:=by omega
  clear b3 b4 b5 b6 hU hD;obtain⟨m,hm⟩:∃m:Int,(U:Int)+(D:Int)+2=m:=⟨_,rfl⟩;rw[hm];refine av λa1 H2 e2 ap _=>?_;walk_at"";refine av λt1 Y e3 N _=>?_;walk_at"";refine aB (ag.of (e3 _ _ (e2 _ _ hd))) g2 ?_;obtain⟨x2,bb,bc⟩:=iw (a:=V.str "stay") (b:=V.str "zero") b7 b8;refine aB (ag.of N) bb ?_;walk_at"";obtain⟨z2,rfl,be⟩:∃z,x2=.str z/\bJ z:=by
   rcases bc with rfl|rfl
   .exact⟨_,rfl,fH⟩
   .exact⟨_,rfl,kD⟩
  refine av λa2 Z x as _=>?_;walk_at"";refine av λf H5 e5 hf bi=>?_;have bl:Ext H1 H5:=e2.trans (e3.trans (x.trans e5));have o:H1 f=Vp:=(e2.trans (e3.trans x)).none bi;obtain⟨y1,J⟩:∃y:Way,y=⟨0,"stay",1,"a"⟩:=⟨_,rfl⟩;obtain⟨y2,L⟩:∃y:Way,y=⟨0,z2,1+(U:Int),"b"⟩:=⟨_,rfl⟩;have a6:WL H1 H5 f [y1,y2]:=by
   refine⟨bl,[a1,a2],hf,?_⟩;have k1:H5 a1=Vo (.tup y1.vs):=by rw[J];exact e5 _ _ (x _ _ (e3 _ _ ap))
   have k2:H5 a2=Vo (.tup y2.vs):=by rw[L];exact e5 _ _ as
   exact((aR.nil H5).snoc k1).snoc k2
  have a7:∀u∈[y1,y2],u.Ok3 m:=by
   intro u e;rcases zA.mp e with rfl|e
   .subst J;exact⟨Int.le_refl _,by show(0:Int)<m;omega,by show(0:Int)<=1;decide,by show(1:Int)<m;omega,fH,il⟩
   .rw[zw.mp e];subst L;exact⟨Int.le_refl _,by show(0:Int)<m;omega,by show(0:Int)<=1+(U:Int);omega,by show 1+(U:Int)<m;omega,be,hJ⟩
  have a8:[y1,y2].Nodup:=by subst J L;refine List.nodup_cons.mpr ⟨λz=>?_,by simp⟩;have:=congrArg Way.sign (zw.mp z);exact rm this
  have a9:∀u∈[y1,y2],u.room<=((0:Nat):Int)/\u.sign≠"c":=by
   intro u e;rcases zA.mp e with rfl|e
   .subst J;exact⟨Int.le_refl _,oI⟩
   .rw[zw.mp e];subst L;exact⟨Int.le_refl _,jK⟩
  have ab:[y1,y2].length=2:=rfl;generalize [y1,y2]=bm at a6 a7 a8 a9 ab;clear J L ap as N hf e2 e3 x e5;walk_at"";refine fX (by omega) ?_;refine forR (λi σ Y=>∃(k:Option V) (us:List Way),σ=[Vo (.int c),Vo (.int p),Vo (.ref dq),Vo (.int U),Vo (.int D),Vo (.int m),Vo (.ref f),k]/\WL H1 Y f us/\(∀u∈us,u.Ok3 m)/\us.Nodup/\(∀u∈us,u.room<=(i:Int)/\u.sign≠"c")/\us.length=2+i)
   ⟨Vp,bm,rfl,a6,a7,a8,a9,ab⟩ ?_ ?_
  .rintro i σ Y hi ⟨k,us,rfl,wl,ok,d,pr,len⟩;rw[zy]at hi;walk_at"";refine⟨wl.ty (Ext.rfl' _),?_⟩;walk_at""
   try refine rd_I (show(0:Int)<(U:Int) by omega) ?_
   walk_at"";refine av λv Z x G _=>?_;walk_at"";have r0:0<=(0+(i:Int)+1) % (U:Int):=Int.emod_nonneg _ (by omega);have r1:(0+(i:Int)+1) % (U:Int)<U:=Int.emod_lt_of_pos _ (by omega);obtain⟨xs,I,C,ac⟩:=wl.push (w:=⟨1+(0+(i:Int)),"up",1+(0+(i:Int)+1) % (U:Int),"a"⟩) o x G;refine bQ I (dg (by omega)) ?_;walk_at"";refine⟨_,_,rfl,ac,di ok ⟨by show 0<=1+(0+(i:Int));omega,by show 1+(0+(i:Int))<m;omega,by show 0<=1+(0+(i:Int)+1) % (U:Int);omega,by show 1+(0+(i:Int)+1) % (U:Int)<m;omega,iP,il⟩,fK d λz=>?_,gy (λu e=>⟨by have:=(pr u e).1;omega,(pr u e).2⟩) ⟨by show 1+(0+(i:Int))<=_;omega,oI⟩,by simp[len];omega⟩;have:=(pr _ z).1;have:1+(0+(i:Int))<=(i:Int):=this;omega
  clear a6 a7 a8 a9 ab;rintro σ Y ⟨k,us,rfl,wl,ok,d,pr,len⟩;rw[zy]at pr len;walk_at"";refine fX (by omega) ?_;refine forR (λi σ Y=>∃(k:Option V) (us:List Way),σ=[Vo (.int c),Vo (.int p),Vo (.ref dq),Vo (.int U),Vo (.int D),Vo (.int m),Vo (.ref f),k]/\WL H1 Y f us/\(∀u∈us,u.Ok3 m)/\us.Nodup/\(∀u∈us,u.room<=(U:Int)+(i:Int)/\u.sign≠"c"/\(u.room=1+(U:Int)->u.sign = "b"))/\us.length=2+U+i)
   ⟨_,us,rfl,wl,ok,d,λu e=>⟨by have:=(pr u e).1;omega,(pr u e).2,λz=>by have:=(pr u e).1;omega⟩,len⟩ ?_ ?_
  .clear wl ok d pr len;rintro i σ Y hi ⟨k,us,rfl,wl,ok,d,pr,len⟩;rw[zy]at hi;walk_at"";refine⟨wl.ty (Ext.rfl' _),?_⟩;walk_at"";refine av λt1 H6 e6 N _=>?_;walk_at"";refine aB (ag.of (e6 _ _ (wl.ext _ _ hd))) g3 ?_;obtain⟨x3,bn,bv⟩:=iw (a:=V.str "up") (b:=V.str "down") b9 ba;refine aB (ag.of N) bn ?_;walk_at"";obtain⟨z3,rfl,c0⟩:∃z,x3=.str z/\bJ z:=by
    rcases bv with rfl|rfl
    .exact⟨_,rfl,iP⟩
    .exact⟨_,rfl,mD⟩
   try refine rd_I (show(0:Int)<(D:Int) by omega) ?_
   walk_at"";refine av λv Z x G _=>?_;walk_at"";have r0:0<=(0+(i:Int)+1) % (D:Int):=Int.emod_nonneg _ (by omega);have r1:(0+(i:Int)+1) % (D:Int)<D:=Int.emod_lt_of_pos _ (by omega);obtain⟨xs,I,C,ac⟩:=wl.push (w:=⟨1+(U:Int)+(0+(i:Int)),z3,1+(U:Int)+(0+(i:Int)+1) % (D:Int),"b"⟩) o (e6.trans x) G;refine bQ I (dg (by omega)) ?_;walk_at"";refine⟨_,_,rfl,ac,di ok ⟨by show 0<=1+(U:Int)+(0+(i:Int));omega,by show 1+(U:Int)+(0+(i:Int))<m;omega,by show 0<=1+(U:Int)+(0+(i:Int)+1) % (D:Int);omega,by show 1+(U:Int)+(0+(i:Int)+1) % (D:Int)<m;omega,c0,hJ⟩,fK d λz=>?_,gy (λu e=>⟨by have:=(pr u e).1;omega,(pr u e).2⟩) ⟨by show 1+(U:Int)+(0+(i:Int))<=_;omega,jK,λ_=>rfl⟩,by simp[len];omega⟩;have:=(pr _ z).1;have:1+(U:Int)+(0+(i:Int))<=(U:Int)+(i:Int):=this;omega
  clear wl ok d pr len;rintro σ Y ⟨k,us,rfl,wl,ok,d,pr,len⟩;rw[zy]at pr len;walk_at"";refine⟨wl.ty (Ext.rfl' _),?_⟩;walk_at"";refine av λv Z x G _=>?_;walk_at"";obtain⟨xs,I,C,M⟩:=wl.push (w:=⟨1,"stay",m-1,"c"⟩) o x G;have ad:=di ok (w:=⟨1,"stay",m-1,"c"⟩) ⟨by show(0:Int)<=1;decide,by show(1:Int)<m;omega,by show 0<=m-1;omega,by show m-1<m;omega,fH,mz⟩;have am:=fK d (w:=⟨1,"stay",m-1,"c"⟩) λz=>(pr _ z).2.1 rfl;have pr2:=gy (P:=λu=>u.room<=(U:Int)+(D:Int)/\(u.room=1+(U:Int)->u.sign = "b")) (λu e=>⟨(pr u e).1,(pr u e).2.2⟩) (w:=⟨1,"stay",m-1,"c"⟩) ⟨by show(1:Int)<=_;omega,λz=>by have:(1:Int)=1+(U:Int):=z;omega⟩;refine bQ I (dg (by omega)) ?_;generalize upd Z f _=H5 at M ⊢;generalize a0:us++[_]=b0 at M ad am pr2;have a3:b0.length=3+U+D:=by rw[<-a0];simp[len];omega
  clear a0 I C G x wl ok d pr len;walk_at"";refine⟨M.ty (Ext.rfl' _),?_⟩;walk_at"";refine av λv Z x G _=>?_;walk_at"";obtain⟨xs,I,C,F⟩:=M.push (w:=⟨1+(U:Int),"stay",m-1,"a"⟩) o x G;have ok3:=di ad (w:=⟨1+(U:Int),"stay",m-1,"a"⟩) ⟨by show(0:Int)<=1+(U:Int);omega,by show 1+(U:Int)<m;omega,by show 0<=m-1;omega,by show m-1<m;omega,fH,il⟩;have O:=fK am (w:=⟨1+(U:Int),"stay",m-1,"a"⟩) λz=>rm ((pr2 _ z).2 rfl);have pr3:=gy (P:=λu=>u.room<=(U:Int)+(D:Int)) (λu e=>(pr2 u e).1) (w:=⟨1+(U:Int),"stay",m-1,"a"⟩) (by show 1+(U:Int)<=_;omega);refine bQ I (dg (by omega)) ?_;generalize upd Z f _=H6 at F ⊢;generalize a4:b0++[_]=b1 at F ok3 O pr3;have a5:b1.length=4+U+D:=by rw[<-a4];simp[a3];omega
  clear a4 I C G x M ad am pr2 a3;walk_at"";refine cZ (λB H'=>∃(k:Option V) (us:List Way),B=[Vo (.int c),Vo (.int p),Vo (.ref dq),Vo (.int U),Vo (.int D),Vo (.int m),Vo (.ref f),k]/\WL H1 H' f us/\(∀u∈us,u.Ok3 m)/\us.Nodup/\(∀u∈us,u.room<=(U:Int)+(D:Int)\/u.sign = "c")/\us.length<=5+U+D) ?_ ?_
  .walk_at"";refine aB (ag.of (F.ext _ _ hd)) g4 ?_;walk_at"";refine dN (λh=>?_) (λh=>?_)
   .walk_at"";refine⟨F.ty (Ext.rfl' _),?_⟩;walk_at"";refine av λv Z x G _=>?_;walk_at"";obtain⟨xs,I,C,an⟩:=F.push (w:=⟨m-1,"down",m-1,"c"⟩) o x G;refine bQ I (dg (by omega)) ?_;walk_at"";exact⟨_,_,rfl,an,di ok3 ⟨by show 0<=m-1;omega,by show m-1<m;omega,by show 0<=m-1;omega,by show m-1<m;omega,mD,mz⟩,fK O λz=>by have:m-1<=(U:Int)+(D:Int):=pr3 _ z;omega,gy (λu e=>.inl (pr3 u e)) (.inr rfl),by simp[a5];omega⟩
   .walk_at"";exact⟨_,b1,rfl,F,ok3,O,λu e=>.inl (pr3 u e),by omega⟩
  clear F ok3 O pr3 a5;rintro B H7 ⟨k,us,rfl,wl,ok,d,pr,len⟩;walk_at"";refine cZ (λB H'=>∃(k:Option V) (us:List Way),B=[Vo (.int c),Vo (.int p),Vo (.ref dq),Vo (.int U),Vo (.int D),Vo (.int m),Vo (.ref f),k]/\WL H1 H' f us/\(∀u∈us,u.Ok3 m)/\us.Nodup/\us.length<=6+U+D) ?_ ?_
  .walk_at"";refine aB (ag.of (wl.ext _ _ hd)) g5 ?_;walk_at"";refine dN (λh=>?_) (λh=>?_)
   .walk_at"";refine⟨wl.ty (Ext.rfl' _),?_⟩;walk_at"";refine av λv Z x G _=>?_;walk_at"";obtain⟨xs,I,C,an⟩:=wl.push (w:=⟨m-1,"zero",0,"b"⟩) o x G;refine bQ I (dg (by omega)) ?_;walk_at"";exact⟨_,_,rfl,an,di ok ⟨by show 0<=m-1;omega,by show m-1<m;omega,by show(0:Int)<=0;decide,by show(0:Int)<m;omega,kD,hJ⟩,fK d (λz=>(pr _ z).elim (λy=>by have:m-1<=(U:Int)+(D:Int):=y;omega) λy=>jK y),by simp;omega⟩
   .walk_at"";exact⟨_,us,rfl,wl,ok,d,by omega⟩
  clear wl ok d pr len;rintro B H8 ⟨k,us,rfl,wl,ok,d,len⟩;walk_at"";refine cZ (λB H'=>∃(k:Option V) (f:Vb) (cs:List Vb) (us:List Way),B=[Vo (.int c),Vo (.int p),Vo (.ref dq),Vo (.int U),Vo (.int D),Vo (.int m),Vo (.ref f),k]/\Ext H1 H'/\H' f=Vo (.lst (cs.map V.ref))/\aR H' cs us/\(∀u∈us,u.Ok3 m)/\us.Nodup/\us.length<=6+U+D) ?_ ?_
  .walk_at"";refine aB (ag.of (wl.ext _ _ hd)) g6 ?_;walk_at"";obtain⟨ew,cs,R,al⟩:=wl;refine dN (λh=>?_) (λh=>?_)
   .walk_at"";refine⟨rfl,sA (ag.of R) (bF λr H9 e9 c1 _=>?_)⟩;walk_at"";exact⟨_,r,cs.reverse,us.reverse,rfl,ew.trans e9,by rw[c1,List.map_reverse],(al.ext e9).rev,λu e=>ok u (List.mem_reverse.mp e),List.pairwise_reverse.mpr (d.imp λh=>Ne.symm h),by rw[List.length_reverse];omega⟩
   .walk_at"";exact⟨_,f,cs,us,rfl,ew,R,al,ok,d,by omega⟩
  clear wl ok d len;rintro B H9 ⟨k,g,cs,us,rfl,ew,R,al,ok,d,len⟩;walk_at"";refine er (ag.of R) (bF λr I1 i1 c2 _=>?_);walk_at"";refine av λt I2 i2 ht _=>?_;exact q _ m us I2 (eH.trans (ew.trans (i1.trans i2))) (bh.mk ht (((al.ext i1).ways c2).ext i2)) ⟨by omega,by omega,by omega,ok,d⟩
def mY(K:zg):Sp:=λvs H Q _=>∃c p,vs=[.int c,.int p]/\0<p/\∀v m ws H',Ext H H'->bh H' v m ws->HOuse3 m ws->Q v H'
abbrev jq:Vl:=stq 138
def sv:FnScope ["_law_cell_here","_law_prime","_law_kind","_law_left"] ["_law_cell_here","_law_prime"] (aw jq):=⟨rfl,rfl,rfl,by decide +kernel,rfl,by decide +kernel,by decide +kernel⟩
def vj{P:Vd}{w:Ve}{K:zg}{mg:Vn->Option Va}{base:Vh}(D:Dfn K mg "_law_house" jq ["_law_cell_here","_law_prime"])(T:Blt mg)(a:Cal P w K mg base "_law_drawn_house" 3 ["_law_cell_here","_law_prime"] (qE K))(b:Cal P w K mg base "_law_gate_house" 3 ["_law_cell_here","_law_prime"] (rS K))(d:Cal P w K mg base "_law_ring_house" 3 ["_law_cell_here","_law_prime"] (pU K))(g:Cal P w K mg base "_law_spare" 1 ["_law_cell_here","_law_width"] (qX K))(j:Cal P w K mg base "_law_draws" 2 ["_law_cell_here","_law_widths","_law_prime"] (eZ K)):Cal P w K mg base "_law_house" 4 ["_law_cell_here","_law_prime"] (mY K):=by
 have nd:=(sv).nd;refine D.ok sv (λvs H Q E h=>?_) (λX t H vs Q E h=>?_)
 .obtain⟨c,p,rfl,_⟩:=h;rfl
 .obtain⟨f,cdv,A,outer,s,H0,E0,rfl,k⟩:=t;obtain⟨c,p,rfl,n,q⟩:=h;refine⟨_,(ai (aL (i:=2) nd rfl (Or.inl rfl) (ak (aG K) (az j k (aa (pv 0) (aa (bp (aa af ae)) (aa (pv 1) ae)))) af (λ_ _=>rfl)))
    (ai (aL (i:=3) nd rfl (Or.inl rfl) (az g k (aa (pv 0) (aa af ae))))
    (ai (aT (aN cn (pv 2) af (aI _)) (aj (ay (az d k (aa (pv 3) (aa (pv 1) ae))))) aQ)
    (ai (aT (aN cn (pv 2) af (aI _)) (aj (ay (az b k (aa (pv 3) (aa (pv 1) ae))))) aQ)
    (aj (ay (az a k (aa (pv 3) (aa (pv 1) ae))))))))),?_⟩
  walk_at"";refine av λw0 G u o _=>?_;walk_at"";refine gQ [8] o (by decide) (by decide) (n) λdq ds H1 x hd y B C=>?_;have r:Ext H H1:=u.trans x;obtain⟨I,F,_⟩:=cx B C 0 rfl;walk_at"";refine aB (ag.of hd) F ?_;walk_at"";refine⟨c,8,rfl,by decide,by decide,λz=>?_⟩;walk_at"";refine dN (λh=>?_) (λh=>?_)
  .walk_at"";exact⟨z,p,rfl,n,λv m ws H' e l ok=>q v m ws H' (r.trans e) l ok⟩
  .walk_at"";refine dN (λh=>?_) (λh=>?_)
   .walk_at"";exact⟨z,p,rfl,n,λv m ws H' e l ok=>q v m ws H' (r.trans e) l ok⟩
   .walk_at"";exact⟨z,p,rfl,n,λv m ws H' e l ok=>q v m ws H' (r.trans e) l ok⟩
def cM{n:Int}(h:0<=n)(b:n<1000000):n.natAbs.log2<1920:=by
 by_cases a:n.natAbs=0
 .rw[a];decide
 .exact zO ((Nat.log2_lt a).mpr (show n.natAbs<2 ^ 20 by omega)) (by decide)
open Tx in
abbrev bO(w:Way):Vn:=Txt.join " " [aA w.room,w.deed,aA w.other,w.sign]
open Tx in
def aO(m:Int)(ws:List Way):Vn:=aA m++(":":Vn)++Txt.join "," (ws.map λw=>(" ":Vn)++bO w)
def tG(a b c d:Vn):(Txt.join " " [a,b,c,d]).length=a.length+b.length+c.length+d.length+3:=by show(Txt.join ⟨#[32]⟩ [a,b,c,d]).length=_;rw[Tx.dX];show(a++(⟨#[32]⟩:Vn)++(b++(⟨#[32]⟩:Vn)++(c++(⟨#[32]⟩:Vn)++d))).length=_;rw[Str.length_append,Str.length_append,Str.length_append,Str.length_append,Str.length_append,Str.length_append];show a.length+1+(b.length+1+(c.length+1+d.length))=_;omega
def ia(h:bJ z):z.length<=4:=by rcases h with rfl|rfl|rfl|rfl<;>decide
def iR(h:fi z):z.length=1:=by obtain⟨c,_,_,rfl⟩:=h;rfl
def kn(ok:w.Ok m)(a:m<=12):(bO w).length<=20:=by rw[tG];have h1:=Tx.bV ok.r0 (by have:=ok.r1;omega);have h2:=Tx.bV ok.o0 (by have:=ok.o1;omega);have b:=ia ok.dd;have c:=iR ok.sg;omega
theorem lh{k:Nat}:∀{zs:List Vn},(∀z∈zs,z.length<=k)->(zs.map (·.length)).sum<=k*zs.length
 | [],_=>Nat.zero_le _
 | z::zs,h=>by have h1:=h z zr;have h2:=lh (k:=k) λx a=>h x (zo z a);rw[List.map_cons,List.sum_cons,zM,Nat.mul_succ];omega
def mj(c:Nat){k:Nat}{zs:List Vn}(h:∀z∈zs,z.length<=k):(Txt.join ⟨#[c]⟩ zs).length<=(k+1)*zs.length:=by rw[Tx.dX];have h1:=StrLaws.join_length_le ⟨#[c]⟩ zs;have h2:=lh h;have a:(⟨#[c]⟩:Vn).length=1:=rfl;rw[a,Nat.mul_one]at h1;rw[Nat.succ_mul];omega
def o7{c:Nat}{k:Nat}{zs:List Vn}(h:∀z∈zs,z.length<=k)(a:zs.length<=n)(e:(k+1)*n<=1000000):(zs.map (·.length)).sum+zs.length*(⟨#[c]⟩:Vn).length<=1000000:=by have h2:=lh h;have b:(⟨#[c]⟩:Vn).length=1:=rfl;have d:=Nat.mul_le_mul_left (k+1) a;rw[Nat.succ_mul]at d;rw[b];omega
def oH(K:zg):Sp:=λvs H Q _=>∃b w m,vs=[.ref b]/\H b=Vo (.tup (Way.vs w))/\w.Ok m/\m<=12/\∀H',Ext H H'->Q (.str (bO w)) H'
abbrev mG:Vl:=stq 89
def nj:FnScope ["way"] ["way"] (aw mG):=⟨rfl,rfl,rfl,by decide +kernel,rfl,by decide +kernel,by decide +kernel⟩
def vA{P:Vd}{w:Ve}{K:zg}{mg:Vn->Option Va}{base:Vh}(D:Dfn K mg "way_text" mG ["way"])(T:Blt mg):Cal P w K mg base "way_text" 1 ["way"] (oH K):=by
 have nd:=(nj).nd;refine D.ok nj (λvs H Q E h=>?_) (λX c H vs Q E h=>?_)
 .obtain⟨b,w,m,rfl,_⟩:=h;rfl
 .obtain⟨f,cdv,A,outer,s,H0,E0,rfl,g⟩:=c;obtain⟨b,w,m,rfl,a,ok,m12,q⟩:=h;have r1:=ok.r1;have o1:=ok.o1;refine⟨_,(aj (ay (bj K PySem.F.plainAttrs_str PySem.F.slot_str_join PySem.F.type_str_join (fZ K) ar (aa (bp (aa (bz cJ rfl T.str_ PyProof.Rows.boot_str (aa (ak (aE K) (pv 0) af (λ_ _=>rfl)) ae)) (aa (ak (aE K) (pv 0) af (λ_ _=>rfl)) (aa (bz cJ rfl T.str_ PyProof.Rows.boot_str (aa (ak (aE K) (pv 0) af (λ_ _=>rfl)) ae)) (aa (ak (aE K) (pv 0) af (λ_ _=>rfl)) ae))))) ae)))),?_⟩;walk_at"";refine⟨rfl,?_⟩;walk_at"";refine aD (ah.of a) rfl ?_;walk_at"";refine⟨_,rfl,cM ok.r0 (by omega),?_⟩;walk_at"";refine aD (ah.of a) rfl ?_;walk_at"";refine aD (ah.of a) rfl ?_;walk_at"";refine⟨_,rfl,cM ok.o0 (by omega),?_⟩;walk_at"";refine aD (ah.of a) rfl ?_;walk_at"";refine av λl H1 d e _=>?_;walk_at"";refine⟨_,l,[Tx.aA w.room,w.deed,Tx.aA w.other,w.sign],rfl,rfl,ag.of e,?_,q H1 d⟩;have h1:=Tx.bV ok.r0 (by omega);have h2:=Tx.bV ok.o0 (by omega);have i:=ia ok.dd;have j:=iR ok.sg;show(Tx.aA w.room).length+(w.deed.length+((Tx.aA w.other).length+(w.sign.length+0)))+4*1<=1000000;omega
def iJ(K:zg):Sp:=λvs H Q _=>∃v m ws,vs=[v]/\bh H v m ws/\HOuse m ws/\∀H',Ext H H'->Q (.str (aO m ws)) H'
abbrev j7:Vl:=stq 90
def ng:FnScope ["house"] ["house"] (aw j7):=⟨rfl,rfl,rfl,by decide +kernel,rfl,by decide +kernel,by decide +kernel⟩
def vq{P:Vd}{w:Ve}{K:zg}{mg:Vn->Option Va}{base:Vh}(D:Dfn K mg "shown_house" j7 ["house"])(T:Blt mg)(d:Cal P w K mg base "way_text" 1 ["way"] (oH K))(a:Cal P w K mg base "refuse_no_house" 6 ["thing"] (kI K)):Cal P w K mg base "shown_house" 7 ["house"] (iJ K):=by
 have nd:=(ng).nd;refine D.ok ng (λvs H Q E h=>?_) (λX M H vs Q E h=>?_)
 .obtain⟨v,m,ws,rfl,_⟩:=h;rfl
 .obtain⟨f,cdv,A,outer,s,H0,E0,rfl,y⟩:=M;obtain⟨v,m,ws,rfl,B,ok,q⟩:=h;have m1:=ok.m1;have m12:=ok.m12;refine⟨_,(ai (bD (az a y (aa (pv 0) ae)))
    (aj (ay (aq cw (aq cw (bz cJ rfl T.str_ PyProof.Rows.boot_str (aa (ak (aE K) (pv 0) af (λ_ _=>rfl)) ae)) ar) (bj K PySem.F.plainAttrs_str PySem.F.slot_str_join PySem.F.type_str_join (fZ K) ar (aa (eO ["way"] [] (fh K (ak (aE K) (pv 0) af (λ_ _=>rfl))) (λ_=>(aW (i:=0) (show(["way"]:List Vn).Nodup from by decide +kernel) rfl (Or.inl rfl) (Or.inr rfl))) (λ_=>eQ) (λ_=>(aq cw ar (az d y (aa (pv 0) ae))))) ae)))))),?_⟩
  walk_at"";refine⟨v,m,ws,rfl,B,ok,λH1 C=>?_⟩;obtain⟨p,r,rfl,G,N⟩:=id (B.ext C);obtain⟨bs,I,al⟩:=bx.al N;have e:=ok.few;have lm:(zU (toString m)).length<=6:=Tx.bV (by omega) (by omega);have O:∀w∈ws,((" ":Vn)++bO w).length<=21:=λw g=>by rw[Str.length_append];have:=kn (ok.ok w g) m12;have:(zU " ").length=1:=rfl;omega
  walk_at"";refine aD (ah.of G) rfl ?_;walk_at"";refine⟨_,rfl,cM (by omega) (by omega),?_⟩;walk_at"";refine⟨_,_,rfl,rfl,aY (by have:(zU ":").length=1:=rfl;omega),?_⟩;walk_at"";refine⟨rfl,?_⟩;walk_at"";refine aD (ah.of G) (v:=.ref r) rfl ?_;refine fw (ah.of I) ?_;refine fP (xs:=bs.map V.ref) (λi ys H'=>Ext H1 H'/\ys=((ws.take i).map λw=>(" ":Vn)++bO w).map V.str) (dM (by rw[zk,al.1];omega)) ⟨Ext.rfl' _,rfl⟩ (λi ys H' hi h=>⟨ah.of (h.1 _ _ I),?_⟩) ?_ ?_
  .rw[h.2,zk,zk,Ac];exact Nat.min_le_left _ _
  .rintro i x ys H' J ⟨o,rfl⟩;rw[zm]at J;obtain⟨b,L,rfl⟩:=zx.mp J;have hi:i<ws.length:=by rw[<-al.1];exact(zu.mp L).1
   have g:ws[i]?=Vo ws[i]:=zl hi;have j:=ok.ok _ (zv g);have u:=o _ _ (al.2 i b _ L g);walk_at"";refine aC ?_;walk_at"";refine⟨b,_,m,rfl,u,j,m12,λY t=>?_⟩;walk_at"";refine⟨_,_,rfl,rfl,aY (by have:=kn j m12;have:(zU " ").length=1:=rfl;omega),?_⟩;walk_at"";refine⟨o.trans t,?_⟩;rw[List.take_add_one,g,zC,zC];rfl
  .rintro ys H' l ⟨o,rfl⟩ R;rw[zk,al.1,zN];have t:Ext H1 (upd H' l (.lst ((ws.map λw=>(" ":Vn)++bO w).map V.str))):=o.trans (bL R);have k:upd H' l (.lst ((ws.map λw=>(" ":Vn)++bO w).map V.str)) l=Vo (.lst ((ws.map λw=>(" ":Vn)++bO w).map V.str)):=aM;generalize upd H' l (.lst ((ws.map λw=>(" ":Vn)++bO w).map V.str))=S at t k ⊢;walk_at"";have hall:∀z∈ws.map (λw=>(" ":Vn)++bO w),z.length<=21:=λz U=>by obtain⟨w,g,rfl⟩:=List.mem_map.mp U;exact O w g
   refine⟨_,l,_,rfl,rfl,ag.of k,o7 (c:=44) hall (n:=100) (by rw[zk];exact e) (by decide),?_⟩;have W:=mj 44 hall;rw[zk]at W;refine⟨_,_,rfl,rfl,aY ?_,q S (C.trans t)⟩;rw[Str.length_append];have h1:(zU ":").length=1:=rfl;have h2:=Nat.mul_le_mul_left 22 e;show(zU (toString m)).length+(zU ":").length+(Txt.join ⟨#[44]⟩ _).length<=1000000;omega
def gN{a b:Vn}:decide (V.str a=V.str b)=decide (a=b):=by
 by_cases h:a=b
 .subst h;simp
 .rw[Ag h,Ag (λz=>h (V.str.inj z))]
def cF{a b:Vn}(h:Q (.bl (decide (a=b))) H):mx (.str a) (.str b) H Q:=⟨rfl,by rw[gN];exact h⟩
def fy{a b:Vn}(h:Q (.bl (!decide (a=b))) H):lM (.str a) (.str b) H Q:=⟨rfl,by rw[gN];exact h⟩
def cR(c:Nat):Bool:=decide (48<=c/\c<=57)
def dZ(z:Vn):Bool:=decide (1<=z.length) && (decide (z.length<=6) && ((z.cps.toList.map cR).all id && (decide (z = "0") || decide (z.cps.toList[0]?≠Vo 48))))
def uO(c:Nat):(!(Builtin.Str.occurrences (zU "0123456789") ⟨#[c]⟩ 0 (zU "0123456789").length 1).isEmpty)=cR c:=by rw[StrLaws.found_one,show (zU "0123456789").cps.toList=[48,49,50,51,52,53,54,55,56,57] by decide +kernel];unfold cR;rw[decide_eq_decide];simp only[zA,zQ,or_false];omega
def iL(K:zg):Sp:=λvs H Q _=>∃z:Vn,vs=[.str z]/\z.length<=1000000/\∀H',Ext H H'->Q (.bl (dZ z)) H'
abbrev kU:Vl:=stq 93
def qm:FnScope ["word"] ["word"] (aw kU):=⟨rfl,rfl,rfl,by decide +kernel,rfl,by decide +kernel,by decide +kernel⟩
def xy{P:Vd}{w:Ve}{K:zg}{mg:Vn->Option Va}{base:Vh}(D:Dfn K mg "is_number_word" kU ["word"])(T:Blt mg)(d:∃t,mg "FIGURES" = Vo (.str "0123456789" t))(a:∃t,mg "MOST_FIGURES" = Vo (.int 6 t)):Cal P w K mg base "is_number_word" 1 ["word"] (iL K):=by
 have nd:=(qm).nd;refine D.ok qm (λvs H Q E h=>?_) (λX C H vs Q E h=>?_)
 .obtain⟨n,rfl,_⟩:=h;rfl
 .obtain⟨f,cdv,A,outer,s,H0,E0,rfl,J⟩:=C;obtain⟨l,g⟩:=d;obtain⟨j,b⟩:=a;obtain⟨z,rfl,p,q⟩:=h;refine⟨_,(ai (aT (PW.pt (cK (aN lK (aS mr rfl T.len_ PySem.boot_len (aa (pv 0) ae)) af (aI _)) (cK (aN jd (aS mr rfl T.len_ PySem.boot_len (aa (pv 0) ae)) (bW (v:=.int 6) rfl b ⟨_,rfl⟩) (aI _)) (cV (cq (cv (aS (jQ K rfl) rfl T.all_ PyProof.Rows.boot_all (aa (eO ["sign"] [] (uv (pv 0)) (λ_=>(aW (i:=0) (show(["sign"]:List Vn).Nodup from by decide +kernel) rfl (Or.inl rfl) (Or.inr rfl))) (λ_=>eQ) (λ_=>(fE yB (pv 0) (bW (v:=.str "0123456789") rfl g ⟨_,rfl⟩) (by with_unfolding_all rfl)))) ae)))))))) (aj (ay cQ)) aQ)
    (aj (ay (wz (fE cn (pv 0) ar (aI _)) (dF (fE cT (ak my (pv 0) af (λ_ _=>rfl)) ar (aI _))))))),?_⟩
  walk_at"";refine⟨z,rfl,aY p,?_⟩;walk_at"";by_cases h1:(z.length:Int)<1
  .rw[Ah h1];refine aC (aC ?_);walk_at"";have:=q H (Ext.rfl' _);unfold dZ at this;rw[Ag (show ¬1<=z.length by omega)]at this;exact this
  rw[Ag h1];refine ax ?_;walk_at"";refine⟨z,rfl,aY p,?_⟩;walk_at"";by_cases h2:(6:Int)<z.length
  .rw[Ah h2];refine aC (aC ?_);walk_at"";have:=q H (Ext.rfl' _);unfold dZ at this;rw[Ag (show ¬z.length<=6 by omega),Bool.false_and,Bool.and_false]at this;exact this
  rw[Ag h2];refine ax ?_;walk_at"";refine⟨z,rfl,?_⟩;have F:z.cps.size=z.length:=rfl;refine xi (λi ys H'=>H'=H/\ys=((z.cps.toList.take i).map cR).map V.bl) (aY (by omega)) ⟨rfl,rfl⟩ ?_ ?_ ?_
  .rintro i ys H' _ ⟨rfl,rfl⟩;rw[zk,zk,Ac];exact Nat.min_le_left _ _
  .rintro i c ys H' m ⟨rfl,rfl⟩;walk_at"";refine aC ?_;walk_at"";refine⟨_,_,rfl,rfl,rfl,?_⟩;rw[uO,List.take_add_one,Array.getElem?_toList,m,zC,zC];rfl
  rintro ys H' o ⟨rfl,rfl⟩ r;rw[<-zp,zN];have x:Ext H' (upd H' o (.lst ((z.cps.toList.map cR).map V.bl))):=bL r;have y:(upd H' o (.lst ((z.cps.toList.map cR).map V.bl))) o=_:=aM;generalize upd H' o (.lst ((z.cps.toList.map cR).map V.bl))=H1 at x y;have k:=q H1 x;unfold dZ at k;rw[Ah (show 1<=z.length by omega),Ah (show z.length<=6 by omega),Bool.true_and,Bool.true_and]at k;walk_at"";refine⟨o,_,rfl,ag.of y,?_⟩;walk_at"";cases hall:(z.cps.toList.map cR).all id with
  | false=>
   rw[hall,Bool.false_and]at k;refine aC ?_;walk_at"";exact k
  | true=>
   rw[hall,Bool.true_and]at k;refine ax ?_;walk_at"";refine cF ?_;refine⟨_,rfl,?_⟩;by_cases B:z = "0"
   .rw[Ah B]at k ⊢;exact aC k
   rw[Ag B]at k ⊢;rw[Bool.false_or]at k;refine ax ?_;walk_at"";have G:0<z.cps.toList.length:=by rw[zp];omega
   have m:z.cps.toList[0]?=Vo z.cps.toList[0]:=zl G;generalize z.cps.toList[0]=c at m;refine⟨z,0,c,rfl,rfl,aY p,bC m,?_⟩;walk_at"";refine fy ?_;rw[m]at k;have I:(!decide ((⟨#[c]⟩:Vn)=zU "0"))=decide (Vo c≠Vo 48):=by
    have:(zU "0")=⟨#[48]⟩:=rfl;rw[this];by_cases u:c=48
    .subst u;decide
    .rw[Ah (show Vo c≠Vo 48 from λe=>u (zV e)),Ag (λe=>u (by injection e with e;simpa using e))];rfl
   rw[I];exact k
def hV{n:Int}(h:0<=n)(b:n<1000000):dZ (Tx.aA n)=true:=by
 unfold dZ;have hd:((Tx.aA n).cps.toList.map cR).all id=true:=by rw[List.all_map,zR];intro c d;exact Ah (Tx.gC h d)
 rw[Ah (Tx.sG h),Ah (Tx.bV h b),hd];rcases Tx.yD h with e|e
 .rw[Ah (show Tx.aA n = "0" from e)];rfl
 .have:(Tx.aA n).cps.toList[0]?≠Vo 48:=λz=>by
   cases k:(Tx.aA n).cps.toList with
   | nil=>rw[k]at z;cases z
   | cons a l=>rw[k]at z;cases z;exact e l k
  rw[Ah this,Bool.or_true];rfl
def jw(K:zg):Sp:=λvs H Q _=>∃n:Int,vs=[.str (Tx.aA n)]/\0<=n/\n<1000000/\∀H',Ext H H'->Q (.int n) H'
abbrev mH:Vl:=stq 94
def nt:FnScope ["word"] ["word"] (aw mH):=⟨rfl,rfl,rfl,by decide +kernel,rfl,by decide +kernel,by decide +kernel⟩
def vD{P:Vd}{w:Ve}{K:zg}{mg:Vn->Option Va}{base:Vh}(D:Dfn K mg "read_number" mH ["word"])(T:Blt mg)(a:Cal P w K mg base "is_number_word" 1 ["word"] (iL K)):Cal P w K mg base "read_number" 2 ["word"] (jw K):=by
 have nd:=(nt).nd;refine D.ok nt (λvs H Q E h=>?_) (λX d H vs Q E h=>?_)
 .obtain⟨n,rfl,_⟩:=h;rfl
 .obtain⟨f,cdv,A,outer,s,H0,E0,rfl,e⟩:=d;obtain⟨n,rfl,b,c,q⟩:=h;have l6:=Tx.bV b c;refine⟨_,(ai (aT (cq (cv (az a e (aa (pv 0) ae)))) (aj gX) aQ)
    (aj (ay (bz jv rfl T.int_ PyProof.Rows.boot_int (aa (pv 0) ae))))),?_⟩
  walk_at"";refine⟨_,rfl,by omega,λH1 g=>?_⟩;rw[hV b c];walk_at"";refine ax ?_;walk_at"";refine⟨_,n,rfl,Tx.ij b c,by omega,q H1 g⟩
structure DeskK(K:zg)(mg:Vn->Option Va):Prop where
 cl:Cls K (cA K "Desk")
 nH:cY K (cA K "Desk") "house"
 nP:cY K (cA K "Desk") "past"
 nU:cY K (cA K "Desk") "undone"
 df:∀x∈(["rooms_deed","way_deed","close_deed","turn_deed","show_ask"]:List Vn),mg x=Vo (.ref (cA K x))
def dQ(z:Vn):Option (List Vn):=
 if z = "rooms" then Vo ["many"]else if z = "way" then Vo ["number","deed","number","sign"]else if z = "close" then Vo ["number","deed","number","sign"]else if z = "turn" then Vo []else if z = "undo" then Vo []else if z = "redo" then Vo []else if z = "show" then Vo []else
 if z = "reach" then Vo ["number","number","number","number"]else if z = "forward" then Vo ["number","number","number"]else if z = "backward" then Vo ["number","number","number"]else if z = "most" then Vo ["number","number"]else if z = "fate" then Vo ["number","number"]else if z = "word" then Vo ["number","number"]else Vp
def o3(K:zg)(kvs:List (Key×V)):Prop:=∀z:Vn,match dQ z with
 | some ks=>∃b,bu kvs (.inr z)=Vo (.ref b)/\∀H,ah K H b (ks.map V.str)
 | none=>bu kvs (.inr z)=Vp
def oV(h:n<=xs.length):dh xs (Vo (n:Int)) Vp=xs.drop n:=by unfold dh;rw[HT.uT,HT.lR,Nat.min_eq_left h];exact List.take_of_length_le (by rw[List.length_drop];exact zF _)
inductive Cmd
 | rooms (n:Int)
 | way (w:Way)
 | close (w:Way)
 | turn
 | undo
 | redo
 | show
def Cmd.head:Cmd->Vn
 | .rooms _=>"rooms"
 | .way _=>"way"
 | .close _=>"close"
 | .turn=>"turn"
 | .undo=>"undo"
 | .redo=>"redo"
 | .show=>"show"
def gm(w:Way):List Vn:=[Tx.aA w.room,w.deed,Tx.aA w.other,w.sign]
def Cmd.tail:Cmd->List Vn
 | .rooms n=>[Tx.aA n]
 | .way w=>gm w
 | .close w=>gm w
 | _=>[]
abbrev Cmd.words(c:Cmd):List Vn:=c.head::c.tail
def Cmd.line(c:Cmd):Vn:=Txt.join " " c.words
def Cmd.kinds:Cmd->List Vn
 | .rooms _=>["many"]
 | .way _=>["number","deed","number","sign"]
 | .close _=>["number","deed","number","sign"]
 | _=>[]
def Cmd.parts:Cmd->List V
 | .rooms n=>[.int n]
 | .way w=>Way.vs w
 | .close w=>Way.vs w
 | _=>[]
structure WayL(w:Way):Prop where
 r0:0<=w.room
 r6:w.room<1000000
 o0:0<=w.other
 o6:w.other<1000000
 dd:bJ w.deed
 sg:fi w.sign
def Cmd.Ok:Cmd->Prop
 | .rooms n=>1<=n/\n<=12
 | .way w=>WayL w
 | .close w=>WayL w
 | _=>True
def Cmd.kinds_of(c:Cmd):dQ c.head=Vo c.kinds:=by
 cases c with
 | rooms n=>show dQ "rooms" = Vo (["many"]:List Vn);decide +kernel
 | way w=>show dQ "way" = Vo (["number","deed","number","sign"]:List Vn);decide +kernel
 | close w=>show dQ "close" = Vo (["number","deed","number","sign"]:List Vn);decide +kernel
 | turn=>show dQ "turn" = Vo ([]:List Vn);decide +kernel
 | undo=>show dQ "undo" = Vo ([]:List Vn);decide +kernel
 | redo=>show dQ "redo" = Vo ([]:List Vn);decide +kernel
 | «show»=>show dQ "show" = Vo ([]:List Vn);decide +kernel
def Cmd.head_low(c:Cmd):c.head.length<=6/\32∉c.head.cps.toList:=by
 cases c with
 | rooms n=>show(zU "rooms").length<=6/\32∉(zU "rooms").cps.toList;exact⟨by decide,by decide⟩
 | way w=>show(zU "way").length<=6/\32∉(zU "way").cps.toList;exact⟨by decide,by decide⟩
 | close w=>show(zU "close").length<=6/\32∉(zU "close").cps.toList;exact⟨by decide,by decide⟩
 | turn=>show(zU "turn").length<=6/\32∉(zU "turn").cps.toList;exact⟨by decide,by decide⟩
 | undo=>show(zU "undo").length<=6/\32∉(zU "undo").cps.toList;exact⟨by decide,by decide⟩
 | redo=>show(zU "redo").length<=6/\32∉(zU "redo").cps.toList;exact⟨by decide,by decide⟩
 | «show»=>show(zU "show").length<=6/\32∉(zU "show").cps.toList;exact⟨by decide,by decide⟩
def gh(k z:Vn)(v:V):Prop:=(k = "many"/\∃n:Int,1<=n/\n<=12/\z=Tx.aA n/\v=.int n)\/(k = "number"/\∃n:Int,0<=n/\n<1000000/\z=Tx.aA n/\v=.int n)\/(k = "deed"/\bJ z/\v=.str z)\/(k = "sign"/\fi z/\v=.str z)
def Cmd.at_{c:Cmd}(ok:c.Ok):c.kinds.length=c.tail.length/\c.parts.length=c.tail.length/\∀(i:Nat) (k z:Vn),c.kinds[i]?=Vo k->c.tail[i]?=Vo z->∃v,c.parts[i]?=Vo v/\gh k z v:=by
 have four:∀{w:Way},WayL w->∀(i:Nat) (k z:Vn),(["number","deed","number","sign"]:List Vn)[i]?=Vo k->(gm w)[i]?=Vo z->∃v,(Way.vs w)[i]?=Vo v/\gh k z v:=λ{w} ok i k z h1 h2=>by
  match i,h1,h2 with
  | 0,h1,h2=>cases h1;cases h2;exact⟨_,rfl,.inr (.inl ⟨rfl,_,ok.r0,ok.r6,rfl,rfl⟩)⟩
  | 1,h1,h2=>cases h1;cases h2;exact⟨_,rfl,.inr (.inr (.inl ⟨rfl,ok.dd,rfl⟩))⟩
  | 2,h1,h2=>cases h1;cases h2;exact⟨_,rfl,.inr (.inl ⟨rfl,_,ok.o0,ok.o6,rfl,rfl⟩)⟩
  | 3,h1,h2=>cases h1;cases h2;exact⟨_,rfl,.inr (.inr (.inr ⟨rfl,ok.sg,rfl⟩))⟩
  | i+4,h1,h2=>cases h1
 cases c with
 | rooms n=>
  refine⟨rfl,rfl,λi k z h1 h2=>?_⟩
  match i,h1,h2 with
  | 0,h1,h2=>cases h1;cases h2;exact⟨_,rfl,.inl ⟨rfl,n,ok.1,ok.2,rfl,rfl⟩⟩
  | i+1,h1,h2=>cases h1
 | way w=>exact⟨rfl,rfl,four ok⟩
 | close w=>exact⟨rfl,rfl,four ok⟩
 | turn=>exact⟨rfl,rfl,λi k z h1=>by cases h1⟩
 | undo=>exact⟨rfl,rfl,λi k z h1=>by cases h1⟩
 | redo=>exact⟨rfl,rfl,λi k z h1=>by cases h1⟩
 | «show»=>exact⟨rfl,rfl,λi k z h1=>by cases h1⟩
def gh.low{k:Vn}{v:V}(h:gh k z v):z.length<=6/\32∉z.cps.toList:=by
 rcases h with⟨_,n,h1,h2,rfl,_⟩|⟨_,n,h1,h2,rfl,_⟩|⟨_,h,_⟩|⟨_,⟨c,h1,h2,rfl⟩,_⟩
 .exact⟨Tx.bV (by omega) (by omega),Tx.lE (by omega) (by omega)⟩
 .exact⟨Tx.bV h1 h2,Tx.lE h1 (by omega)⟩
 .rcases h with rfl|rfl|rfl|rfl<;>exact⟨by decide,by decide⟩
 .refine⟨(by show 1<=6;decide),λa=>?_⟩;have:32=c:=by simpa using a
  omega
def Cmd.tail_low{c:Cmd}(ok:c.Ok):c.tail.length<=4/\∀z∈c.tail,z.length<=6/\32∉z.cps.toList:=by obtain⟨h1,_,h2⟩:=Cmd.at_ ok;refine⟨by cases c<;>simp[Cmd.tail,gm],λz a=>?_⟩;obtain⟨i,hi⟩:=List.getElem?_of_mem a;have b:=zl (show i<c.kinds.length by rw[h1];exact(zu.mp hi).1);obtain⟨v,_,d⟩:=h2 i _ z b hi;exact d.low
theorem Cmd.split{c:Cmd}(ok:c.Ok):Txt.split c.line " " = c.words:=by
 show Txt.split (Txt.join ⟨#[32]⟩ c.words) ⟨#[32]⟩=c.words;rw[Tx.dX];refine Tx.iH (List.cons_ne_nil _ _) λp a=>?_;rcases zA.mp a with rfl|h
 .exact c.head_low.2
 .exact((Cmd.tail_low ok).2 p h).2
def Cmd.line_len{c:Cmd}(ok:c.Ok):c.line.length<=1000:=by
 have h1:=Cmd.tail_low ok;have a:=c.head_low.1;have:=mj 32 (k:=6) (zs:=c.words) λz b=>by
  rcases zA.mp b with rfl|h
  .exact a
  .exact(h1.2 z h).1
 have h2:c.words.length=c.tail.length+1:=rfl;have d:(6+1)*c.words.length<=7*5:=Nat.mul_le_mul_left 7 (by omega);exact zP this (zP d (by decide))
def yN(h:bJ z):dZ z=false:=by rcases h with rfl|rfl|rfl|rfl<;>decide +kernel
def yh(h:fi z):dZ z=false:=by obtain⟨c,h1,h2,rfl⟩:=h;have:cR c=false:=Ag (by omega);unfold dZ;show(_ && (_ && (([c].map cR).all id && _)))=false;rw[show ([c].map cR).all id=false by rw[List.map_cons,this];rfl];simp
def su(K:zg):Sp:=λvs H Q _=>∃k z v,vs=[.str k,.str z]/\gh k z v/\∀H',Ext H H'->Q (.bl true) H'
abbrev jH:Vl:=stq 112
def nS:FnScope ["kind","word"] ["kind","word"] (aw jH):=⟨rfl,rfl,rfl,by decide +kernel,rfl,by decide +kernel,by decide +kernel⟩
def tm{P:Vd}{w:Ve}{K:zg}{mg:Vn->Option Va}{base:Vh}(D:Dfn K mg "is_word_of" jH ["kind","word"])(T:Blt mg)(b:∃t,mg "GREATEST_MANY" = Vo (.int 12 t))(a:Cal P w K mg base "is_number_word" 1 ["word"] (iL K))(d:Cal P w K mg base "is_sign" 1 ["thing"] (lP K))(e:Cal P w K mg base "is_deed" 1 ["thing"] (kY K)):Cal P w K mg base "is_word_of" 2 ["kind","word"] (su K):=by
 have nd:=(nS).nd;refine D.ok nS (λvs H Q E h=>?_) (λX p H vs Q E h=>?_)
 .obtain⟨k,z,v,rfl,_⟩:=h;rfl
 .obtain⟨f,cdv,A,outer,s,H0,E0,rfl,i⟩:=p;obtain⟨g,c⟩:=b;obtain⟨k,z,v,rfl,o,q⟩:=h;have x:=o.low;refine⟨_,(ai (aT (aN cn (pv 0) ar (aI _)) (aj (ay (az e i (aa (pv 1) ae)))) aQ)
    (ai (aT (aN cn (pv 0) ar (aI _)) (aj (ay (az d i (aa (pv 1) ae)))) aQ)
    (ai (aT (aN cn (pv 0) ar (aI _)) (aj (ay (dm (az a i (aa (pv 1) ae)) (dF (ig gL gL af (bz jv rfl T.int_ PyProof.Rows.boot_int (aa (pv 1) ae)) (bW (v:=.int 12) rfl c ⟨_,rfl⟩)))))) aQ)
    (aj (ay (az a i (aa (pv 1) ae))))))),?_⟩
  walk_at"";refine cF ?_;rcases o with⟨rfl,n,n1,j,rfl,_⟩|⟨rfl,n,r,u,rfl,_⟩|⟨rfl,l,_⟩|⟨rfl,l,_⟩
  .refine rd_exb (ax ?_);walk_at"";refine cF ?_;refine rd_exb (ax ?_);walk_at"";refine cF ?_;refine rd_exb (aC ?_);walk_at"";refine⟨_,rfl,by omega,λH1 m=>?_⟩;rw[hV (by omega) (by omega)];walk_at"";refine aC ?_;walk_at"";refine⟨_,n,rfl,Tx.ij (by omega) (by omega),by omega,?_⟩;walk_at"";rw[Ah n1];refine aC ?_;walk_at"";rw[Ah j];exact q H1 m
  .refine rd_exb (ax ?_);walk_at"";refine cF ?_;refine rd_exb (ax ?_);walk_at"";refine cF ?_;refine rd_exb (ax ?_);walk_at"";refine⟨_,rfl,by omega,λH1 m=>?_⟩;rw[hV r u];exact q H1 m
  .refine rd_exb (aC ?_);walk_at"";exact⟨_,rfl,l,q _ (Ext.rfl' _)⟩
  .refine rd_exb (ax ?_);walk_at"";refine cF ?_;refine rd_exb (aC ?_);walk_at"";exact⟨_,rfl,l,q _ (Ext.rfl' _)⟩
def qR(K:zg):Sp:=λvs H Q _=>∃l c,vs=[.ref l]/\H l=Vo (.lst (c.words.map V.str))/\Cmd.Ok c/\∀H',Ext H H'->Q (.bl true) H'
abbrev kg:Vl:=stq 113
def oh:FnScope ["words"] ["words"] (aw kg):=⟨rfl,rfl,rfl,by decide +kernel,rfl,by decide +kernel,by decide +kernel⟩
def sS{P:Vd}{w:Ve}{K:zg}{mg:Vn->Option Va}{base:Vh}(D:Dfn K mg "is_line" kg ["words"])(T:Blt mg)(o:∃a,mg "LINES" = Vo (.ref a)/\∃kvs,GDict w K a kvs/\o3 K kvs)(g:Cal P w K mg base "is_word_of" 2 ["kind","word"] (su K)):Cal P w K mg base "is_line" 3 ["words"] (qR K):=by
 have nd:=(oh).nd;refine D.ok oh (λvs H Q E h=>?_) (λX M H vs Q E h=>?_)
 .obtain⟨l,c,rfl,_⟩:=h;rfl
 .obtain⟨f,cdv,A,outer,s,H0,E0,rfl,N⟩:=M;obtain⟨B,d,y,e,m⟩:=o;obtain⟨l,c,rfl,C,ok,q⟩:=h;obtain⟨k1,k2,k3⟩:=Cmd.at_ ok;obtain⟨k4,_⟩:=Cmd.tail_low ok;have F:=m c.head;rw[Cmd.kinds_of]at F;obtain⟨b,r,t⟩:=F;refine⟨_,(ai (aT (PW.pt (cK (nL (vW rfl d e (ak (aG K) (pv 0) af (λ_ _=>rfl))) (by with_unfolding_all rfl)) (cV (aN cT (aS (cz K) rfl T.len_ PySem.boot_len (aa (gF rfl d e (ak (aG K) (pv 0) af (λ_ _=>rfl)) (λ_ _=>rfl)) ae)) (aq du (aS (cz K) rfl T.len_ PySem.boot_len (aa (pv 0) ae)) af) (aI _))))) (aj (ay cQ)) aQ)
    (aj (ay (aS (jQ K rfl) rfl T.all_ PyProof.Rows.boot_all (aa (eO ["kind","word"] [] (xD K rfl T.zip_ (aa (gF rfl d e (ak (aG K) (pv 0) af (λ_ _=>rfl)) (λ_ _=>rfl)) (aa (j4 (jz K) (pv 0) (fM af) oJ) ae))) (λ_=>(iT (n:=2) K rfl (bX (aW (i:=0) (show(["kind","word"]:List Vn).Nodup from by decide +kernel) rfl (Or.inl rfl) (Or.inr rfl)) (bX (aW (i:=1) (show(["kind","word"]:List Vn).Nodup from by decide +kernel) rfl (Or.inl rfl) (Or.inr rfl)) gn)))) (λ_=>eQ) (λ_=>(az g N (aa (pv 0) (aa (pv 1) ae))))) ae))))),?_⟩
  walk_at"";refine aB (ag.of C) (v:=.str c.head) (bC (j:=0) rfl) ?_;refine⟨.inr c.head,rfl,?_⟩;rw[r];refine rd_exb (ax ?_);walk_at"";refine aB (ag.of C) (v:=.str c.head) (bC (j:=0) rfl) ?_;refine eM r ?_;walk_at"";refine eL (t _) ?_;walk_at"";refine fD (ag.of C) ?_;walk_at"";rw[zk,zk,Ah (show((c.kinds.length:Nat):Int)=((c.words.length:Nat):Int)-1 by show _=((c.tail.length+1:Nat):Int)-1;omega)];refine ax ?_;walk_at"";refine aB (ag.of C) (v:=.str c.head) (bC (j:=0) rfl) ?_;refine eM r ?_;walk_at"";refine lO (ag.of C) (bF λl2 H2 O x _=>?_);rw[show dh (c.words.map V.str) (Vo 1) Vp=c.tail.map V.str from oV (xs:=c.words.map V.str) (n:=1) (by simp)]at x;refine⟨b,l2,_,_,rfl,t _,ag.of x,?_⟩;refine y9 (xs:=c.kinds.map V.str) (ys:=c.tail.map V.str) (λi zs H'=>Ext H2 H'/\zs=(zY i true).map V.bl) (aY (by rw[zk];omega)) ⟨Ext.rfl' _,rfl⟩ (λi zs H' h=>⟨t _,ag.of (h.1 _ _ x),by rw[h.2];simp⟩) ?_ ?_
  .rintro i u v zs R p Z J L ⟨G,rfl⟩ S I _;rw[zm]at J L;obtain⟨k,F,rfl⟩:=zx.mp J;obtain⟨z,U,rfl⟩:=zx.mp L;obtain⟨v,_,W⟩:=k3 i k z F U;refine gR (ah.of I) rfl ?_;walk_at"";refine aC ?_;walk_at"";refine⟨k,z,v,rfl,W,λH5 Y=>?_⟩;refine⟨G.trans (S.trans Y),?_⟩;rw[List.replicate_succ',zC];rfl
  .rintro zs R p ⟨G,rfl⟩ I;walk_at"";refine⟨p,_,rfl,ag.of aM,?_⟩;rw[show (zY (min (c.kinds.map V.str).length (c.tail.map V.str).length) true).all id=true by simp];exact q _ (O.trans (G.trans (bL I)))
def pW(K:zg):Sp:=λvs H Q _=>∃k z v,vs=[.str z]/\gh k z v/\∀H',Ext H H'->Q v H'
abbrev lY:Vl:=stq 114
def oG:FnScope ["word"] ["word"] (aw lY):=⟨rfl,rfl,rfl,by decide +kernel,rfl,by decide +kernel,by decide +kernel⟩
def uZ{P:Vd}{w:Ve}{K:zg}{mg:Vn->Option Va}{base:Vh}(D:Dfn K mg "value_of" lY ["word"])(T:Blt mg)(a:Cal P w K mg base "is_number_word" 1 ["word"] (iL K)):Cal P w K mg base "value_of" 2 ["word"] (pW K):=by
 have nd:=(oG).nd;refine D.ok oG (λvs H Q E h=>?_) (λX i H vs Q E h=>?_)
 .obtain⟨k,z,v,rfl,_⟩:=h;rfl
 .obtain⟨f,cdv,A,outer,s,H0,E0,rfl,j⟩:=i;obtain⟨k,z,v,rfl,d,q⟩:=h;have m:=d.low;refine⟨_,(aj (ay (w9 (cv (az a j (aa (pv 0) ae))) (bz jv rfl T.int_ PyProof.Rows.boot_int (aa (pv 0) ae)) (pv 0)))),?_⟩;walk_at"";refine⟨z,rfl,by omega,λH1 b=>?_⟩;rcases d with⟨_,n,n1,l,rfl,rfl⟩|⟨_,n,e,g,rfl,rfl⟩|⟨_,c,rfl⟩|⟨_,c,rfl⟩
  .rw[hV (by omega) (by omega)];walk_at"";refine aC ?_;walk_at"";exact⟨_,n,rfl,Tx.ij (by omega) (by omega),by omega,q H1 b⟩
  .rw[hV e g];walk_at"";refine aC ?_;walk_at"";exact⟨_,n,rfl,Tx.ij e g,by omega,q H1 b⟩
  .rw[yN c];walk_at"";refine ax ?_;walk_at"";exact q H1 b
  .rw[yh c];walk_at"";refine ax ?_;walk_at"";exact q H1 b
abbrev HV:=Int×List Way
def aV(H:Hp)(v:V)(h:HV):Prop:=bh H v h.1 h.2/\HOuse h.1 h.2
theorem aV.ext{H H':Hp}{v:V}{h:HV}(e:Ext H H')(x:aV H v h):aV H' v h:=⟨x.1.ext e,x.2⟩
def Res(K:zg)(H:Hp)(Q:VK)(E:XK):Except Vn HV->Prop
 | .error nm=>∀H',Ext H H'->E (.ref (cA K nm)) Vp H'
 | .ok h=>∀u H',Ext H H'->aV H' u h->Q u H'
def bY(h:HV)(w:Way):Except Vn HV:=if ¬(w.room<h.1/\w.other<h.1)then .error "NoPlace" else if w∈h.2 then .error "NoWay" else if 100<=h.2.length then .error "TooGreat" else .ok (h.1,h.2++[w])
def bZ(h:HV)(w:Way):Except Vn HV:=if w∈h.2 then .ok (h.1,h.2.filter λu=>decide (u≠w))else .error "NoWay"
def WayL.lay(h:WayL w):w.Lay:=by
 constructor
 .rcases h.dd with e|e|e|e<;>rw[e]<;>decide +kernel
 .obtain⟨c,h1,h2,e⟩:=h.sg;rw[e];exact nk ⟨c,Nat.lt_succ_of_le h2⟩ h1
def vn{h h':HV}(b:HOuse h.1 h.2)(wl:WayL w)(e:bY h w=.ok h'):HOuse h'.1 h'.2:=by
 unfold bY at e;split at e
 .cases e
 rename_i h1;split at e
 .cases e
 rename_i h2;split at e
 .cases e
 rename_i h3;cases e;obtain⟨r1,o1⟩:=Classical.not_not.mp h1;refine⟨b.m1,b.m12,by rw[zD,List.length_singleton];omega,λu d=>?_,?_⟩
 .rcases zI.mp d with z|z
  .exact b.ok u z
  .rw[zw.mp z];exact⟨wl.r0,r1,wl.o0,o1,wl.dd,wl.sg⟩
 .rw[List.nodup_append];exact⟨b.nd,by simp,λa f c g z=>h2 (by rw[<-zw.mp g,<-z];exact f)⟩
def oa(K:zg):Sp:=λvs H Q _=>∃v l n,vs=[v,.ref l]/\H l=Vo (.lst [.int n])/\1<=n/\n<=12/\∀u H',Ext H H'->aV H' u (n,[])->Q u H'
abbrev jT:Vl:=stq 115
def m5:FnScope ["house","parts"] ["house","parts"] (aw jT):=⟨rfl,rfl,rfl,by decide +kernel,rfl,by decide +kernel,by decide +kernel⟩
def tP{P:Vd}{w:Ve}{K:zg}{mg:Vn->Option Va}{base:Vh}(D:Dfn K mg "rooms_deed" jT ["house","parts"])(T:Blt mg):Cal P w K mg base "rooms_deed" 1 ["house","parts"] (oa K):=by
 have nd:=(m5).nd;refine D.ok m5 (λvs H Q E h=>?_) (λX d H vs Q E h=>?_)
 .obtain⟨v,l,n,rfl,_⟩:=h;rfl
 .obtain⟨f,cdv,A,outer,s,H0,E0,rfl,o⟩:=d;obtain⟨v,l,n,rfl,e,n1,a,q⟩:=h;refine⟨_,(aj (ay (aJ (aa (ak (aG K) (pv 1) af (λ_ _=>rfl)) (aa (aJ ae) ae))))),?_⟩;walk_at"";refine aB (ag.of e) (v:=.int n) (bC (j:=0) rfl) ?_;walk_at"";refine av λt H1 g i _=>?_;walk_at"";refine av λu H2 c m _=>?_;exact q _ H2 (g.trans c) ⟨⟨u,t,rfl,m,[],c _ _ i,rfl,λj b k h=>by simp at h⟩,⟨n1,a,Nat.zero_le _,λw h=>(nomatch h),List.nodup_nil⟩⟩
def jY(K:zg):Sp:=λvs H Q E=>∃v h l w,vs=[v,.ref l]/\aV H v h/\H l=Vo (.lst (Way.vs w))/\WayL w/\Res K H Q E (bY h w)
abbrev mi:Vl:=stq 116
def rB:FnScope ["house","parts","way"] ["house","parts"] (aw mi):=⟨rfl,rfl,rfl,by decide +kernel,rfl,by decide +kernel,by decide +kernel⟩
def vV{w:Ve}{K:zg}(D:Dfn K mg "way_deed" mi ["house","parts"])(T:Blt mg)(b:∃t,mg "GREATEST_WAYS" = Vo (.int 100 t))(B:Xf K mg base dv dj)(c:Cal P w K mg base "is_room" 2 ["thing","many"] (jt K)):CalX P w K mg base "way_deed" 3 ["house","parts"] (jY K):=by
 have nd:=(rB).nd;refine D.okX rB (λvs H Q E h=>?_) (λf cdv A outer s H vs Q E j h=>?_)
 .obtain⟨v,h,l,w,rfl,_⟩:=h;rfl
 .obtain⟨e,a⟩:=b;obtain⟨v,h,l,w,rfl,⟨W,ok⟩,X,wl,r⟩:=h;obtain⟨m,ws⟩:=h;obtain⟨p,t,rfl,o,Y⟩:=id W;obtain⟨bs,C,al⟩:=bx.al Y;have R:=ok.few;refine⟨_,(ai (aL (i:=2) nd rfl (Or.inl rfl) (bz (eh K) rfl T.tuple_ PyProof.Rows.boot_tuple (aa (pv 1) ae)))
    (ai (aT (PW.pt (cK (cq (cv (az c j (aa (ak (aE K) (pv 2) af (λ_ _=>rfl)) (aa (ak (aE K) (pv 0) af (λ_ _=>rfl)) ae))))) (cV (cq (cv (az c j (aa (ak (aE K) (pv 2) af (λ_ _=>rfl)) (aa (ak (aE K) (pv 0) af (λ_ _=>rfl)) ae)))))))) (aj (fo (B.own "NoPlace" (by decide +kernel)) PySem.F.excBase_ValueError (aa ar ae))) aQ)
    (ai (aT (aN (xO j) (pv 2) (ak (aE K) (pv 0) af (λ_ _=>rfl)) (by with_unfolding_all rfl)) (aj (fo (B.own "NoWay" (by decide +kernel)) PySem.F.excBase_ValueError (aa ar ae))) aQ)
    (ai (aT (aN lx (aS (cz K) rfl T.len_ PySem.boot_len (aa (ak (aE K) (pv 0) af (λ_ _=>rfl)) ae)) (bW (v:=.int 100) rfl a ⟨_,rfl⟩) (aI _)) (aj (fo (B.own "TooGreat" (by decide +kernel)) PySem.F.excBase_ValueError (aa (vZ (bW (v:=.int 100) rfl a ⟨_,rfl⟩)) ae))) aQ)
    (aj (ay (aJ (aa (ak (aE K) (pv 0) af (λ_ _=>rfl)) (aa (aq tI (ak (aE K) (pv 0) af (λ_ _=>rfl)) (aJ (aa (pv 2) ae))) ae))))))))),?_⟩
  walk_at"";refine er (ag.of X) (bF λS H1 d k _=>?_);walk_at"";refine aD (ah.of k) (v:=.int w.room) rfl ?_;walk_at"";refine aD (ah.of (d _ _ o)) (v:=.int m) rfl ?_;refine⟨_,_,rfl,?_⟩;walk_at"";rw[Ah wl.r0,Bool.true_and];unfold bY at r;by_cases j:w.room<m
  rotate_left
  .rw[Ag j];rw[Aj (λz=>j z.1)]at r;refine aC ?_;walk_at"";exact⟨by decide,r H1 d⟩
  rw[Ah j];refine ax ?_;walk_at"";refine aD (ah.of k) (v:=.int w.other) rfl ?_;walk_at"";refine aD (ah.of (d _ _ o)) (v:=.int m) rfl ?_;refine⟨_,_,rfl,?_⟩;walk_at"";rw[Ah wl.o0,Bool.true_and];by_cases q:w.other<m
  rotate_left
  .rw[Ag q];rw[Aj (λz=>q z.2)]at r;refine aC ?_;walk_at"";exact⟨by decide,r H1 d⟩
  rw[Ah q];refine ax ?_;rw[Ai (λz=>z ⟨j,q⟩)]at r;walk_at"";refine aD (ah.of (d _ _ o)) (v:=.ref t) rfl ?_;refine qP (Way.rep k wl.lay) (d _ _ C) ((al.ext d).reps λu G=>(ok.ok u G).lay) (by decide) ?_;simp only[if_false,ko];refine rd_exb ?_;by_cases x:w∈ws
  .rw[Ah x];rw[Aj x]at r;refine aC ?_;walk_at"";exact⟨by decide,r H1 d⟩
  rw[Ag x];rw[Ai x]at r;refine ax ?_;walk_at"";refine aD (ah.of (d _ _ o)) (v:=.ref t) rfl ?_;walk_at"";refine eL (ah.of (d _ _ C)) ?_;walk_at"";rw[zk,al.1];by_cases g:100<=ws.length
  .rw[Ah (show(100:Int)<=((ws.length:Nat):Int) by omega)];rw[Aj g]at r;refine aC ?_;walk_at"";exact⟨by decide,by decide +kernel,by decide +kernel,λz=>⟨aY (by simp),r H1 d⟩⟩
  rw[Ag (show ¬(100:Int)<=((ws.length:Nat):Int) by omega)];rw[Ai g]at r;refine ax ?_;walk_at"";refine aD (ah.of (d _ _ o)) (v:=.int m) rfl ?_;walk_at"";refine aD (ah.of (d _ _ o)) (v:=.ref t) rfl ?_;walk_at"";refine av λt2 H2 U I _=>?_;have n:=d.trans U;refine tY (n _ _ C) I (aY (by rw[zk,al.1];simp;omega)) λZ H3 J L=>?_;walk_at"";refine av λu M y G _=>?_;have N:aR M (bs++[S]) (ws++[w]):=(al.ext (n.trans (J.trans y))).snoc ((U.trans (J.trans y)) _ _ k);have O:M Z=Vo (.tup ((bs++[S]).map V.ref)):=by rw[zC];exact y _ _ L
  exact r _ M (n.trans (J.trans y)) ⟨bh.mk G (N.ways O),vn (h:=(m,ws)) ok wl (by unfold bY;rw[Ai (λz=>z ⟨j,q⟩),Ai x,Ai g])⟩
def rT{h h':HV}(a:HOuse h.1 h.2)(e:bZ h w=.ok h'):HOuse h'.1 h'.2:=by
 unfold bZ at e;split at e
 .cases e;exact⟨a.m1,a.m12,zP (List.length_filter_le _ _) a.few,λu b=>a.ok u (List.mem_filter.mp b).1,List.Pairwise.filter _ a.nd⟩
 .cases e
def ll(K:zg):Sp:=λvs H Q E=>∃v h l w,vs=[v,.ref l]/\aV H v h/\H l=Vo (.lst (Way.vs w))/\WayL w/\Res K H Q E (bZ h w)
abbrev kl:Vl:=stq 117
def pH:FnScope ["house","parts","way"] ["house","parts"] (aw kl):=⟨rfl,rfl,rfl,by decide +kernel,rfl,by decide +kernel,by decide +kernel⟩
def vS{w:Ve}{K:zg}(D:Dfn K mg "close_deed" kl ["house","parts"])(T:Blt mg)(W:Xf K mg base dv dj):CalX P w K mg base "close_deed" 1 ["house","parts"] (ll K):=by
 have nd:=(pH).nd;refine D.okX pH (λvs H Q E h=>?_) (λf cdv A outer s H vs Q E L h=>?_)
 .obtain⟨v,h,l,w,rfl,_⟩:=h;rfl
 .obtain⟨v,h,l,w,rfl,⟨X,ok⟩,Y,wl,r⟩:=h;obtain⟨m,ws⟩:=h;obtain⟨p,t,rfl,G,Z⟩:=id X;obtain⟨bs,I,al⟩:=bx.al Z;have M:=ok.few;refine⟨_,(ai (aL (i:=2) nd rfl (Or.inr rfl) (bz (eh K) rfl T.tuple_ PyProof.Rows.boot_tuple (aa (pv 1) ae)))
    (ai (aT (aN (sY L) (pv 2) (ak (aE K) (pv 0) af (λ_ _=>rfl)) (by with_unfolding_all rfl)) (aj (fo (W.own "NoWay" (by decide +kernel)) PySem.F.excBase_ValueError (aa ar ae))) aQ)
    (aj (ay (aJ (aa (ak (aE K) (pv 0) af (λ_ _=>rfl)) (aa (bz (eh K) rfl T.tuple_ PyProof.Rows.boot_tuple (aa (eO ["other"] [2] (fh K (ak (aE K) (pv 0) af (λ_ _=>rfl))) (λ_=>(aW (i:=0) (show(["other","way"]:List Vn).Nodup from by decide +kernel) rfl (Or.inl rfl) (Or.inr rfl))) (λ_=>(kh (aN (gD L) (pv 0) (pv 1) (aI _)))) (λ_=>(pv 0))) ae)) ae))))))),?_⟩
  walk_at"";refine er (ag.of Y) (bF λwt H1 c k _=>?_);walk_at"";refine aD (ah.of (c _ _ G)) (v:=.ref t) rfl ?_;refine qP (Way.rep k wl.lay) (c _ _ I) ((al.ext c).reps λu J=>(ok.ok u J).lay) (by decide) ?_;simp only[if_true,ko];refine rd_exb ?_;have d:∀h',bZ (m,ws) w=.ok h'->HOuse h'.1 h'.2:=λh'=>rT (h:=(m,ws)) ok;unfold bZ at r d;by_cases B:w∈ws
  rotate_left
  .rw[Ag B];rw[Ai B]at r;refine aC ?_;walk_at"";exact⟨by decide,r H1 c⟩
  rw[Ah B];rw[Aj B]at r d;refine ax ?_;walk_at"";refine aD (ah.of (c _ _ G)) (v:=.int m) rfl ?_;walk_at"";refine aD (ah.of (c _ _ G)) (v:=.ref t) rfl ?_;refine fw (ah.of (c _ _ I)) ?_;refine fP (xs:=bs.map V.ref) (λi ys H'=>Ext H1 H'/\∃cs,ys=cs.map V.ref/\aR H' cs ((ws.take i).filter λu=>decide (u≠w))) (dM (by rw[zk,al.1];omega)) ⟨Ext.rfl' _,[],rfl,aR.nil _⟩ (λi ys H' hi h=>⟨ah.of ((c.trans h.1) _ _ I),?_⟩) ?_ ?_
  .obtain⟨_,cs,rfl,hc,_⟩:=h;rw[zk,hc];exact zP (List.length_filter_le _ _) (by rw[Ac];exact Nat.min_le_left _ _)
  .rintro i x ys H' N ⟨j,cs,rfl,a⟩;rw[zm]at N;obtain⟨b,O,rfl⟩:=zx.mp N;have hi:i<ws.length:=by rw[<-al.1];exact(zu.mp O).1
   have e:ws[i]?=Vo ws[i]:=zl hi;have g:=(c.trans j) _ _ (al.2 i b _ O e);have n:=(ok.ok _ (zL hi)).lay;rw[List.take_add_one,e,List.filter_append];generalize ws[i]=u at e g n;walk_at"";refine⟨1,1,_,_,Way.rep g n,Way.rep (j _ _ k) wl.lay,by decide,?_⟩;rw[Way.eqv];simp only[if_true];refine rd_exb ?_;by_cases C:u=w
   .rw[Ah C];refine ax ?_;refine⟨j,cs,rfl,?_⟩;have:List.filter (λu=>decide (u≠w)) (Vo u).toList=[]:=by subst C;simp
    rw[this,List.append_nil];exact a
   .rw[Ag C];refine aC ?_;walk_at"";refine⟨j,cs++[b],by rw[zC];rfl,?_⟩;have:List.filter (λu=>decide (u≠w)) (Vo u).toList=[u]:=by simp[C]
    rw[this];exact a.snoc g
  .rintro ys H' l2 ⟨j,cs,rfl,a⟩ q;rw[zk,al.1,zN]at a;walk_at"";have R:Ext H1 (upd H' l2 (.lst (cs.map V.ref))):=j.trans (bL q);have y:=a.ext (bL (o:=.lst (cs.map V.ref)) q);have z:upd H' l2 (.lst (cs.map V.ref)) l2=Vo (.lst (cs.map V.ref)):=aM;generalize upd H' l2 (.lst (cs.map V.ref))=H4 at R y z ⊢;refine er (ag.of z) (bF λt2 H5 S ht _=>?_);walk_at"";refine av λu H6 U J _=>?_;exact r _ H6 (c.trans (R.trans (S.trans U))) ⟨bh.mk J (((y.ext S).ways ht).ext U),d _ rfl⟩
def n9(K:zg):Sp:=λvs H Q _=>∃v h p,vs=[v,p]/\aV H v h/\∀u H',Ext H H'->aV H' u (h.1,h.2.map Way.turn)->Q u H'
abbrev jM:Vl:=stq 118
def oq:FnScope ["house","parts"] ["house","parts"] (aw jM):=⟨rfl,rfl,rfl,by decide +kernel,rfl,by decide +kernel,by decide +kernel⟩
def tN{P:Vd}{w:Ve}{K:zg}{mg:Vn->Option Va}{base:Vh}(D:Dfn K mg "turn_deed" jM ["house","parts"])(T:Blt mg)(a:Cal P w K mg base "turned_about" 7 ["house"] (m3 K)):Cal P w K mg base "turn_deed" 8 ["house","parts"] (n9 K):=by
 have nd:=(oq).nd;refine D.ok oq (λvs H Q E h=>?_) (λX b H vs Q E h=>?_)
 .obtain⟨v,h,p,rfl,_⟩:=h;rfl
 .obtain⟨f,cdv,A,outer,s,H0,E0,rfl,c⟩:=b;obtain⟨v,h,p,rfl,⟨d,ok⟩,q⟩:=h;refine⟨_,(aj (ay (az a c (aa (pv 0) ae)))),?_⟩;walk_at"";exact⟨v,_,_,rfl,d,ok,λu H' e g=>q u H' e ⟨g,ok.turn⟩⟩
def qN(K:zg):Sp:=λvs H Q _=>∃v h p,vs=[v,p]/\aV H v h/\∀H',Ext H H'->Q (.str (aO h.1 h.2)) H'
abbrev kP:Vl:=stq 119
def mL:FnScope ["house","parts"] ["house","parts"] (aw kP):=⟨rfl,rfl,rfl,by decide +kernel,rfl,by decide +kernel,by decide +kernel⟩
def vI{P:Vd}{w:Ve}{K:zg}{mg:Vn->Option Va}{base:Vh}(D:Dfn K mg "show_ask" kP ["house","parts"])(T:Blt mg)(a:Cal P w K mg base "shown_house" 7 ["house"] (iJ K)):Cal P w K mg base "show_ask" 8 ["house","parts"] (qN K):=by
 have nd:=(mL).nd;refine D.ok mL (λvs H Q E h=>?_) (λX b H vs Q E h=>?_)
 .obtain⟨v,h,p,rfl,_⟩:=h;rfl
 .obtain⟨f,cdv,A,outer,s,H0,E0,rfl,c⟩:=b;obtain⟨v,h,p,rfl,⟨d,ok⟩,q⟩:=h;refine⟨_,(aj (ay (az a c (aa (pv 0) ae)))),?_⟩;walk_at"";exact⟨v,_,_,rfl,d,ok,q⟩
structure Dk where
 cur:HV
 past:List HV
 und:List HV
def Dk.doD(d:Dk)(h:HV):Dk:=⟨h,d.past++[d.cur],[]⟩
def br(v:V)(l1 l2:Vb):List (Vn×V):=bf "undone" (.ref l2) (bf "past" (.ref l1) (bf "house" v []))
def qv:¬(("house":Vn) = "past"):=by decide +kernel
def ku:¬(("house":Vn) = "undone"):=by decide +kernel
def kM:¬(("past":Vn) = "undone"):=by decide +kernel
def gr(v:V)(l1 l2:Vb):br v l1 l2=([("house",v),("past",.ref l1),("undone",.ref l2)]:List (Vn×V)):=by
 unfold br;show bf "undone" (.ref l2) (bf "past" (.ref l1) ([("house",v)]:List (Vn×V)))=_;rw[show bf "past" (.ref l1) ([("house",v)]:List (Vn×V))=([("house",v),("past",.ref l1)]:List (Vn×V)) by show(if("house":Vn) = "past" then _ else(("house":Vn),v)::_)=_;rw[Ai qv];rfl]
 show(if("house":Vn) = "undone" then _ else(("house":Vn),v)::(if("past":Vn) = "undone" then _ else(("past":Vn),V.ref l1)::_))=_;rw[Ai ku,Ai kM];rfl
def ee(v:V)(l1 l2:Vb):(br v l1 l2).lookup ("house":Vn)=Vo v:=by unfold br;rw[de,Ai ku,de,Ai qv,de,Aj rfl]
def ji(v:V)(l1 l2:Vb):(br v l1 l2).lookup ("past":Vn)=Vo (.ref l1):=by unfold br;rw[de,Ai kM,de,Aj rfl]
def lI(v:V)(l1 l2:Vb):(br v l1 l2).lookup ("undone":Vn)=Vo (.ref l2):=by unfold br;rw[de,Aj rfl]
def eV(v:V)(l1 l2:Vb){m:Vn}(h1:¬m = "undone")(h2:¬m = "past")(a:¬m = "house"):(br v l1 l2).lookup m=Vp:=by unfold br;rw[de,Ai h1,de,Ai h2,de,Ai a];rfl
def i7(v:V)(l1 l2:Vb):(br v l1 l2).length<1000:=by rw[gr];show 3<1000;decide
def jL(v u:V)(l1 l2:Vb):bf "house" u (br v l1 l2)=br u l1 l2:=by rw[gr,gr];show(if("house":Vn) = "house" then(("house":Vn),u)::_ else _)=_;rw[Aj rfl]
def vR(v:V)(l1 l2 l3:Vb):bf "undone" (.ref l3) (br v l1 l2)=br v l1 l3:=by rw[gr,gr];show(if("house":Vn) = "undone" then _ else(("house":Vn),v)::(if("past":Vn) = "undone" then _ else(("past":Vn),V.ref l1)::(if("undone":Vn) = "undone" then(("undone":Vn),V.ref l3)::_ else _)))=_;rw[Ai ku,Ai kM,Aj rfl]
structure DkAt(K:zg)(H:Hp)(p l1 l2:Vb)(d:Dk):Prop where
 ob:∃dx v,H p=Vo (.ins (cA K "Desk") dx (br v l1 l2))/\aV H v d.cur
 ps:∃vs,H l1=Vo (.lst vs)/\Paired (aV H) vs d.past
 un:∃vs,H l2=Vo (.lst vs)/\Paired (aV H) vs d.und
 ne:l1≠l2
def Tk(H H':Hp):Prop:=∀b xs,H b=Vo (.tup xs)->H' b=Vo (.tup xs)
def aV.tk{v:V}{h:HV}(e:Tk H H')(x:aV H v h):aV H' v h:=by obtain⟨⟨p,q,rfl,h1,bs,h2,a,c⟩,ok⟩:=x;exact⟨⟨p,q,rfl,e _ _ h1,bs,e _ _ h2,a,λj b k d f=>e _ _ (c j b k d f)⟩,ok⟩
def dU(e:Tk H H'){vs:List V}{a:List HV}(h:Paired (aV H) vs a):Paired (aV H') vs a:=Paired.mapP h λ_ _ x=>x.tk e
theorem DkAt.ext{K:zg}{H H':Hp}{p l1 l2:Vb}{d:Dk}(e:Ext H H')(h:DkAt K H p l1 l2 d):DkAt K H' p l1 l2 d:=by obtain⟨⟨dx,v,a1,a2⟩,⟨vs,a,b⟩,⟨us,c1,c2⟩,ne⟩:=h;exact⟨⟨dx,v,e _ _ a1,a2.ext e⟩,⟨vs,e _ _ a,dU (λ_ _ z=>e _ _ z) b⟩,⟨us,e _ _ c1,dU (λ_ _ z=>e _ _ z) c2⟩,ne⟩
def sr{α β:Type}{F:α->β->Prop}{d:List α}{R:List β}{z:β}(h:Paired F d (R++[z])):∃c b,d=c++[b]/\Paired F c R/\F b z:=by
 induction R generalizing d with
 | nil=>
  cases h with
  | cons a t=>
   cases t;exact⟨[],_,rfl,.nil,a⟩
 | cons r R e=>
  cases h with
  | cons a t=>
   obtain⟨c,b,rfl,h1,h2⟩:=e t;exact⟨_::c,b,rfl,.cons a h1,h2⟩
def ip(h:n<=24100):n<sizeLine:=Nat.lt_of_le_of_lt h (by decide)
def Fr(H H':Hp)(p l1 l2:Vb):Prop:=∀b o,H b=Vo o->b≠p->b≠l1->b≠l2->H' b=Vo o
def Fr.of(e:Ext H H'):Fr H H' p l1 l2:=λb o z _ _ _=>e b o z
def kj(K:zg):Sp:=λvs H Q _=>∃p dx,vs=[.ref p]/\H p=Vo (.ins (cA K "Desk") dx [])/\∀l1 l2 H',H l1=Vp->H l2=Vp->DkAt K H' p l1 l2 ⟨(1,[]),[],[]⟩->(∀b o,H b=Vo o->b≠p->H' b=Vo o)->Q .non H'
abbrev f9:Vl:=inClass (stq 128) 0
def oo:FnScope ["self"] ["self"] (aw f9):=⟨rfl,rfl,rfl,by decide +kernel,rfl,by decide +kernel,by decide +kernel⟩
def uR{w:Ve}{K:zg}{fd:Vm}(F:Fun K "__init__" "Desk.__init__" f9 f fd)(T:Blt mg)(TD:DeskK K mg):FnOk P w K mg base dk 1 f fd ["self"] (kj K):=by
 have nd:=(oo).nd;refine F.ok oo (λvs H Q E h=>?_) (λcdv A outer s H vs Q E R h=>?_)
 .obtain⟨p,dx,rfl,_⟩:=h;rfl
 .obtain⟨p,dx,rfl,y,q⟩:=h;refine⟨_,(ai (fx (pv 0) (aJ (aa af (aa (aJ ae) ae))) rfl)
    (ai (fx (pv 0) (bp ae) rfl)
    (aj (fx (pv 0) (bp ae) rfl)))),?_⟩
  walk_at"";refine av λt H1 C G _=>?_;walk_at"";refine av λu H2 B I _=>?_;walk_at"";have d:=C.trans B;refine⟨p,_,dx,_,rfl,d _ _ y,TD.cl,TD.nH,(by decide),?_⟩;have J:aV H2 (.ref u) (1,[]):=⟨⟨u,t,rfl,I,[],B _ _ G,rfl,λj b k h=>by simp at h⟩,⟨by decide,by decide,Nat.zero_le _,λw h=>(nomatch h),List.nodup_nil⟩⟩;walk_at"";refine av λl1 L l m c=>?_;walk_at"";refine⟨p,_,dx,_,rfl,l _ _ aM,TD.cl,TD.nP,(by have:=gE "house" (V.ref u) [];exact Nat.lt_of_le_of_lt this (by decide)),?_⟩;walk_at"";refine av λl2 M n r a=>?_;walk_at"";refine⟨p,_,dx,_,rfl,n _ _ aM,TD.cl,TD.nU,(by have h1:=gE "house" (V.ref u) [];have h2:=gE "past" (V.ref l1) (bf "house" (V.ref u) []);have S:([]:List (Vn×V)).length=0:=rfl;omega),?_⟩;walk_at"";have v:=d _ _ y;have n1:l1≠p:=λe=>by rw[e,aM]at c;cases c
  have n2:l2≠p:=λe=>by rw[e,aM]at a;cases a
  have i:H2 l1=Vp:=by rw[au n1]at c;exact c
  have g:upd L p (.ins (cA K "Desk") dx (bf "past" (.ref l1) (bf "house" (.ref u) []))) l1=Vo (.lst []):=by rw[au n1];exact m
  have all:∀b o,H2 b=Vo o->b≠p->upd M p (.ins (cA K "Desk") dx (bf "undone" (.ref l2) (bf "past" (.ref l1) (bf "house" (.ref u) [])))) b=Vo o:=λb o z nb=>by rw[au nb];refine n _ _ ?_;rw[au nb];refine l _ _ ?_;rw[au nb];exact z
  have N:l1≠l2:=λe=>by rw[<-e,g]at a;cases a
  refine q l1 l2 _ (d.none i) ?_ ⟨⟨dx,.ref u,aM,J.tk λb xs z=>all b _ z (bw z v (by intro z;cases z))⟩,⟨[],by rw[au n1];exact n _ _ g,.nil⟩,⟨[],by rw[au n2];exact r,.nil⟩,N⟩ λb o O x=>all b o (d _ _ O) x;refine d.none ?_;rw[au n2]at a;have:=l.none a
  rwa [au n2]at this
def kH(K:zg):Sp:=λvs H Q _=>∃p l1 l2 d v h,vs=[.ref p,v]/\DkAt K H p l1 l2 d/\aV H v h/\d.past.length<=10000/\∀l3 H',H l3=Vp->DkAt K H' p l1 l3 (d.doD h)->Fr H H' p l1 l2->Q .non H'
abbrev fW:Vl:=inClass (stq 128) 2
def rY:FnScope ["self","house"] ["self","house"] (aw fW):=⟨rfl,rfl,rfl,by decide +kernel,rfl,by decide +kernel,by decide +kernel⟩
def vd{w:Ve}{K:zg}(D:MDfn K (cA K "Desk") "do" "Desk.do" fW ["self","house"])(T:Blt mg)(TD:DeskK K mg):MetX P w K mg base (cA K "Desk") "do" 1 ["self","house"] (kH K):=by
 have nd:=(rY).nd;refine D.okX rY (λvs H Q E h=>?_) (λf cdv A outer s H vs Q E r h=>?_)
 .obtain⟨p,l1,l2,d,v,h,rfl,_⟩:=h;rfl
 .obtain⟨p,l1,l2,d,v,h,rfl,D,n,t,q⟩:=h;obtain⟨⟨dx,c,a1,a2⟩,⟨vs,i,l⟩,⟨us,c1,c2⟩,ne⟩:=id D;have g:p≠l1:=bw a1 i (by intro z;cases z);have u:=Paired.length l;refine⟨_,(ai (bD (bj K zt zG zH bU (cL (pv 0) rfl) (aa (cL (pv 0) rfl) ae)))
    (ai (fx (pv 0) (pv 1) rfl)
    (aj (fx (pv 0) (bp ae) rfl)))),?_⟩
  walk_at"";refine⟨p,_,dx,_,_,rfl,a1,TD.cl,TD.nP,ji _ _ _,?_⟩;refine⟨dn (ag.of i),?_⟩;walk_at"";refine⟨p,_,dx,_,_,rfl,a1,TD.cl,TD.nH,ee _ _ _,?_⟩;walk_at"";refine bQ i (ip (by omega)) ?_;walk_at"";have ap:upd H l1 (.lst (vs++[c])) p=Vo (.ins (cA K "Desk") dx (br c l1 l2)):=by rw[au g];exact a1
  refine⟨p,_,dx,_,rfl,ap,TD.cl,TD.nH,i7 _ _ _,?_⟩;rw[jL];walk_at"";refine av λl3 m j k a=>?_;walk_at"";refine⟨p,_,dx,_,rfl,j _ _ aM,TD.cl,TD.nU,i7 _ _ _,?_⟩;rw[vR];have n1:l3≠p:=λe=>by rw[e,aM]at a;cases a
  have n2:l3≠l1:=λe=>by rw[e,au g.symm,aM]at a;cases a
  have all:∀b o,H b=Vo o->b≠p->b≠l1->upd m p (.ins (cA K "Desk") dx (br v l1 l3)) b=Vo o:=λb o z nb nl=>by rw[au nb];refine j _ _ ?_;rw[au nb,au nl];exact z
  have tk:Tk H (upd m p (.ins (cA K "Desk") dx (br v l1 l3))):=λb xs z=>all b _ z (bw z a1 (by intro z;cases z)) (bw z i (by intro z;cases z));refine q l3 _ ?_ ⟨⟨dx,v,aM,n.tk tk⟩,⟨vs++[c],?_,Paired.snoc (dU tk l) (a2.tk tk)⟩,⟨[],by rw[au n1];exact k,.nil⟩,n2.symm⟩ λb o z n1 n2 _=>all b o z n1 n2
  .rw[au n1,au n2]at a;exact a
  .rw[au g.symm];refine j _ _ ?_;rw[au g.symm,aM]
def mw(K:zg):Sp:=λvs H Q E=>∃p l1 l2 d,vs=[.ref p]/\DkAt K H p l1 l2 d/\d.und.length<=10000/\(d.past=[]->∀H',Ext H H'->E (.ref (cA K "NoDeed")) Vp H') ∧
 ∀ps h,d.past=ps++[h]->∀H',DkAt K H' p l1 l2 ⟨h,ps,d.und++[d.cur]⟩->Fr H H' p l1 l2->Q .non H'
abbrev fF:Vl:=inClass (stq 128) 3
def nu:FnScope ["self"] ["self"] (aw fF):=⟨rfl,rfl,rfl,by decide +kernel,rfl,by decide +kernel,by decide +kernel⟩
def sy{w:Ve}{K:zg}(D:MDfn K (cA K "Desk") "undo" "Desk.undo" fF ["self"])(T:Blt mg)(n:Xf K mg base dv dj)(TD:DeskK K mg):MetX P w K mg base (cA K "Desk") "undo" 1 ["self"] (mw K):=by
 have nd:=(nu).nd;refine D.okX nu (λvs H Q E h=>?_) (λf cdv A outer s H vs Q E x h=>?_)
 .obtain⟨p,l1,l2,d,rfl,_⟩:=h;rfl
 .obtain⟨p,l1,l2,d,rfl,D,y,r,q⟩:=h;obtain⟨⟨dx,c,a1,a2⟩,⟨vs,e,j⟩,⟨us,c1,c2⟩,ne⟩:=id D;have g:p≠l1:=bw a1 e (by intro z;cases z);have i:p≠l2:=bw a1 c1 (by intro z;cases z);have ul:=Paired.length c2;refine⟨_,(ai (aT (cq (ow K (cL (pv 0) rfl) (λ_=>rfl))) (aj (fo (n.own "NoDeed" (by decide +kernel)) PySem.F.excBase_ValueError (aa ar ae))) aQ)
    (ai (bD (bj K zt zG zH bU (cL (pv 0) rfl) (aa (cL (pv 0) rfl) ae)))
    (aj (fx (pv 0) (oX K zt PySem.F.slot_list_pop PySem.F.type_list_pop rf (cL (pv 0) rfl)) rfl)))),?_⟩
  walk_at"";refine⟨p,_,dx,_,_,rfl,a1,TD.cl,TD.nP,ji _ _ _,?_⟩;by_cases k:d.past=[]
  .have:vs=[]:=by rw[k]at j;cases j;rfl
   subst this;refine⟨false,.inl ⟨_,ag.of e,rfl⟩,?_⟩;refine aC ?_;walk_at"";exact⟨by decide,r k _ (Ext.rfl' _)⟩
  obtain⟨ps,h,l⟩:∃ps h,d.past=ps++[h]:=⟨d.past.dropLast,d.past.getLast k,(List.dropLast_concat_getLast k).symm⟩;have q:=q ps h l;rw[l]at j;obtain⟨a,w,rfl,t,u⟩:∃a w,vs=a++[w]/\Paired (aV H) a ps/\aV H w h:=sr j;refine⟨true,.inl ⟨_,ag.of e,by simp⟩,?_⟩;refine ax ?_;walk_at"";refine⟨p,_,dx,_,_,rfl,a1,TD.cl,TD.nU,lI _ _ _,?_⟩;refine⟨dn (ag.of c1),?_⟩;walk_at"";refine⟨p,_,dx,_,_,rfl,a1,TD.cl,TD.nH,ee _ _ _,?_⟩;walk_at"";refine bQ c1 (ip (by omega)) ?_;walk_at"";have a3:upd H l2 (.lst (us++[c])) p=Vo (.ins (cA K "Desk") dx (br c l1 l2)):=by rw[au i];exact a1
  have m:upd H l2 (.lst (us++[c])) l1=Vo (.lst (a++[w])):=by rw[au ne];exact e
  refine⟨p,_,dx,_,_,rfl,a3,TD.cl,TD.nP,ji _ _ _,?_⟩;refine⟨dn (ag.of m),?_⟩;walk_at"";refine⟨l1,_,w,rfl,rfl,m,by rw[zD,List.length_singleton,Nat.add_sub_cancel,zJ (zF _),Nat.sub_self];rfl,?_⟩;rw[List.dropLast_concat];walk_at"";have a4:upd (upd H l2 (.lst (us++[c]))) l1 (.lst a) p=Vo (.ins (cA K "Desk") dx (br c l1 l2)):=by rw[au g];exact a3
  refine⟨p,_,dx,_,rfl,a4,TD.cl,TD.nH,i7 _ _ _,?_⟩;rw[jL];have all:∀b o,H b=Vo o->b≠p->b≠l1->b≠l2->upd (upd (upd H l2 (.lst (us++[c]))) l1 (.lst a)) p (.ins (cA K "Desk") dx (br w l1 l2)) b=Vo o:=λb o z n1 n2 v=>by rw[au n1,au n2,au v];exact z
  have tk:Tk H (upd (upd (upd H l2 (.lst (us++[c]))) l1 (.lst a)) p (.ins (cA K "Desk") dx (br w l1 l2))):=λb xs z=>all b _ z (bw z a1 (by intro z;cases z)) (bw z e (by intro z;cases z)) (bw z c1 (by intro z;cases z));exact q _ ⟨⟨dx,w,aM,u.tk tk⟩,⟨a,by rw[au g.symm,aM],dU tk t⟩,⟨us++[c],by rw[au i.symm,au ne.symm,aM],Paired.snoc (dU tk c2) (a2.tk tk)⟩,ne⟩ all
def mJ(K:zg):Sp:=λvs H Q E=>∃p l1 l2 d,vs=[.ref p]/\DkAt K H p l1 l2 d/\d.past.length<=10000/\(d.und=[]->∀H',Ext H H'->E (.ref (cA K "NoDeed")) Vp H') ∧
 ∀us h,d.und=us++[h]->∀H',DkAt K H' p l1 l2 ⟨h,d.past++[d.cur],us⟩->Fr H H' p l1 l2->Q .non H'
abbrev gj:Vl:=inClass (stq 128) 4
def pq:FnScope ["self"] ["self"] (aw gj):=⟨rfl,rfl,rfl,by decide +kernel,rfl,by decide +kernel,by decide +kernel⟩
def yc{w:Ve}{K:zg}(D:MDfn K (cA K "Desk") "redo" "Desk.redo" gj ["self"])(T:Blt mg)(m:Xf K mg base dv dj)(TD:DeskK K mg):MetX P w K mg base (cA K "Desk") "redo" 1 ["self"] (mJ K):=by
 have nd:=(pq).nd;refine D.okX pq (λvs H Q E h=>?_) (λf cdv A outer s H vs Q E t h=>?_)
 .obtain⟨p,l1,l2,d,rfl,_⟩:=h;rfl
 .obtain⟨p,l1,l2,d,rfl,D,u,n,q⟩:=h;obtain⟨⟨dx,c,a1,a2⟩,⟨us,i,k⟩,⟨vs,c1,c2⟩,ne⟩:=id D;have e:p≠l1:=bw a1 i (by intro z;cases z);have g:p≠l2:=bw a1 c1 (by intro z;cases z);have ul:=Paired.length k;refine⟨_,(ai (aT (cq (ow K (cL (pv 0) rfl) (λ_=>rfl))) (aj (fo (m.own "NoDeed" (by decide +kernel)) PySem.F.excBase_ValueError (aa ar ae))) aQ)
    (ai (bD (bj K zt zG zH bU (cL (pv 0) rfl) (aa (cL (pv 0) rfl) ae)))
    (aj (fx (pv 0) (oX K zt PySem.F.slot_list_pop PySem.F.type_list_pop rf (cL (pv 0) rfl)) rfl)))),?_⟩
  walk_at"";refine⟨p,_,dx,_,_,rfl,a1,TD.cl,TD.nU,lI _ _ _,?_⟩;by_cases j:d.und=[]
  .have:vs=[]:=by rw[j]at c2;cases c2;rfl
   subst this;refine⟨false,.inl ⟨_,ag.of c1,rfl⟩,?_⟩;refine aC ?_;walk_at"";exact⟨by decide,n j _ (Ext.rfl' _)⟩
  obtain⟨ps,h,l⟩:∃ps h,d.und=ps++[h]:=⟨d.und.dropLast,d.und.getLast j,(List.dropLast_concat_getLast j).symm⟩;have q:=q ps h l;rw[l]at c2;obtain⟨a,w,rfl,c3,c4⟩:∃a w,vs=a++[w]/\Paired (aV H) a ps/\aV H w h:=sr c2;refine⟨true,.inl ⟨_,ag.of c1,by simp⟩,?_⟩;refine ax ?_;walk_at"";refine⟨p,_,dx,_,_,rfl,a1,TD.cl,TD.nP,ji _ _ _,?_⟩;refine⟨dn (ag.of i),?_⟩;walk_at"";refine⟨p,_,dx,_,_,rfl,a1,TD.cl,TD.nH,ee _ _ _,?_⟩;walk_at"";refine bQ i (ip (by omega)) ?_;walk_at"";have a3:upd H l1 (.lst (us++[c])) p=Vo (.ins (cA K "Desk") dx (br c l1 l2)):=by rw[au e];exact a1
  have c5:upd H l1 (.lst (us++[c])) l2=Vo (.lst (a++[w])):=by rw[au ne.symm];exact c1
  refine⟨p,_,dx,_,_,rfl,a3,TD.cl,TD.nU,lI _ _ _,?_⟩;refine⟨dn (ag.of c5),?_⟩;walk_at"";refine⟨l2,_,w,rfl,rfl,c5,by rw[zD,List.length_singleton,Nat.add_sub_cancel,zJ (zF _),Nat.sub_self];rfl,?_⟩;rw[List.dropLast_concat];walk_at"";have a4:upd (upd H l1 (.lst (us++[c]))) l2 (.lst a) p=Vo (.ins (cA K "Desk") dx (br c l1 l2)):=by rw[au g];exact a3
  refine⟨p,_,dx,_,rfl,a4,TD.cl,TD.nH,i7 _ _ _,?_⟩;rw[jL];have all:∀b o,H b=Vo o->b≠p->b≠l1->b≠l2->upd (upd (upd H l1 (.lst (us++[c]))) l2 (.lst a)) p (.ins (cA K "Desk") dx (br w l1 l2)) b=Vo o:=λb o z n1 n2 r=>by rw[au n1,au r,au n2];exact z
  have tk:Tk H (upd (upd (upd H l1 (.lst (us++[c]))) l2 (.lst a)) p (.ins (cA K "Desk") dx (br w l1 l2))):=λb xs z=>all b _ z (bw z a1 (by intro z;cases z)) (bw z i (by intro z;cases z)) (bw z c1 (by intro z;cases z));exact q _ ⟨⟨dx,w,aM,c4.tk tk⟩,⟨us++[c],by rw[au e.symm,au ne,aM],Paired.snoc (dU tk k) (a2.tk tk)⟩,⟨a,by rw[au g.symm,aM],dU tk c3⟩,ne⟩ all
def bB(d:Dk):Cmd->Except Vn (Vn×Dk)
 | .rooms n=>.ok (aO n [],d.doD (n,[]))
 | .way w=>match bY d.cur w with
  | .error z=>.error z
  | .ok h=>.ok (aO h.1 h.2,d.doD h)
 | .close w=>match bZ d.cur w with
  | .error z=>.error z
  | .ok h=>.ok (aO h.1 h.2,d.doD h)
 | .turn=>.ok (aO d.cur.1 (d.cur.2.map Way.turn),d.doD (d.cur.1,d.cur.2.map Way.turn))
 | .undo=>match d.past.getLast? with
  | none=>.error "NoDeed"
  | some h=>.ok (aO h.1 h.2,⟨h,d.past.dropLast,d.und++[d.cur]⟩)
 | .redo=>match d.und.getLast? with
  | none=>.error "NoDeed"
  | some h=>.ok (aO h.1 h.2,⟨h,d.past++[d.cur],d.und.dropLast⟩)
 | .show=>.ok (aO d.cur.1 d.cur.2,d)
def fj(K:zg):List (Key×V):=[(.inr "rooms",.ref (cA K "rooms_deed")),(.inr "way",.ref (cA K "way_deed")),(.inr "close",.ref (cA K "close_deed")),(.inr "turn",.ref (cA K "turn_deed"))]
def hG(K:zg):List (Key×V):=[(.inr "show",.ref (cA K "show_ask")),(.inr "reach",.ref (cA K "reach_ask")),(.inr "forward",.ref (cA K "forward_ask")),(.inr "backward",.ref (cA K "backward_ask")),(.inr "most",.ref (cA K "most_ask")),(.inr "fate",.ref (cA K "fate_ask")),(.inr "word",.ref (cA K "word_ask"))]
def xM{K:zg}(h:z∈(["rooms","way","close","turn","undo","redo"]:List Vn)):bu (hG K) (.inr z)=Vp:=by
 have n:∀y∈(["show","reach","forward","backward","most","fate","word"]:List Vn),∀z∈(["rooms","way","close","turn","undo","redo"]:List Vn),y≠z:=by decide +kernel
 unfold hG
 repeat rw [dS (λe=>n _ (by simp) z h (Sum.inr.inj e))]
 rfl
def jb(K:zg):bu (fj K) (.inr "rooms")=Vo (.ref (cA K "rooms_deed"))/\bu (fj K) (.inr "way")=Vo (.ref (cA K "way_deed"))/\bu (fj K) (.inr "close")=Vo (.ref (cA K "close_deed"))/\bu (fj K) (.inr "turn")=Vo (.ref (cA K "turn_deed")):=by
 have n:("rooms":Vn)≠"way"/\("rooms":Vn)≠"close"/\("rooms":Vn)≠"turn"/\("way":Vn)≠"close"/\("way":Vn)≠"turn"/\("close":Vn)≠"turn":=by decide +kernel
 obtain⟨n1,n2,a,b,c,d⟩:=n;unfold fj;refine⟨fg rfl,?_,?_,?_⟩
 .rw[dS (λe=>n1 (Sum.inr.inj e)),fg rfl]
 .rw[dS (λe=>n2 (Sum.inr.inj e)),dS (λe=>b (Sum.inr.inj e)),fg rfl]
 .rw[dS (λe=>a (Sum.inr.inj e)),dS (λe=>c (Sum.inr.inj e)),dS (λe=>d (Sum.inr.inj e)),fg rfl]
def Told(K:zg)(H:Hp)(p l1 l2:Vb)(Q:VK)(E:XK):Except Vn (Vn×Dk)->Prop
 | .error nm=>∀H',Ext H H'->E (.ref (cA K nm)) Vp H'
 | .ok (z,d')=>∀l3 H',(l3=l2\/H l3=Vp)->DkAt K H' p l1 l3 d'->Fr H H' p l1 l2->Q (.str z) H'
def ky(K:zg):Sp:=λvs H Q E=>∃p l1 l2 d c,vs=[.ref p,.str (Cmd.line c)]/\DkAt K H p l1 l2 d/\c.Ok/\d.past.length<=10000/\d.und.length<=10000/\Told K H p l1 l2 Q E (bB d c)
abbrev fG:Vl:=inClass (stq 128) 1
def rq:FnScope ["self","line","words","parts"] ["self","line"] (aw fG):=⟨rfl,rfl,rfl,by decide +kernel,rfl,by decide +kernel,by decide +kernel⟩
def um{w:Ve}{K:zg}(D:MDfn K (cA K "Desk") "tell" "Desk.tell" fG ["self","line"])(T:Blt mg)(R:∃a,mg "DEEDS" = Vo (.ref a)/\GDict w K a (fj K))(Z:∃a,mg "ASKS" = Vo (.ref a)/\GDict w K a (hG K))(XF:Xf K mg base dv dj)(TD:DeskK K mg)(m:MetX P w K mg base (cA K "Desk") "undo" 1 ["self"] (mw K))(q:MetX P w K mg base (cA K "Desk") "redo" 1 ["self"] (mJ K))(C:MetX P w K mg base (cA K "Desk") "do" 1 ["self","house"] (kH K))(k:Cal P w K mg base "shown_house" 7 ["house"] (iJ K))(t:Cal P w K mg base "rooms_deed" 1 ["house","parts"] (oa K))(y:Cal P w K mg base "turn_deed" 8 ["house","parts"] (n9 K))(G:Cal P w K mg base "show_ask" 8 ["house","parts"] (qN K))(I:Cal P w K mg base "value_of" 2 ["word"] (pW K))(J:Cal P w K mg base "is_line" 3 ["words"] (qR K))(B:CalX P w K mg base "way_deed" 3 ["house","parts"] (jY K))(l:CalX P w K mg base "close_deed" 1 ["house","parts"] (ll K)):MetX P w K mg base (cA K "Desk") "tell" 9 ["self","line"] (ky K):=by
 have nd:=(rq).nd;refine D.okX rq (λvs H Q E h=>?_) (λf cdv A outer s H vs Q E hr h=>?_)
 .obtain⟨p,l1,l2,d,c,rfl,_⟩:=h;rfl
 .obtain⟨a5,S,U⟩:=R;obtain⟨a9,L,M⟩:=Z;obtain⟨p,l1,l2,d,c,rfl,D,ok,f1,f2,r⟩:=h;obtain⟨k1,k2,k3⟩:=Cmd.at_ ok;obtain⟨k4,_⟩:=Cmd.tail_low ok;have ad:=Cmd.line_len ok;refine⟨_,(ai (aL (i:=2) nd rfl (Or.inl rfl) (bj K PySem.F.plainAttrs_str PySem.F.slot_str_split PySem.F.type_str_split iD (pv 1) (aa ar ae)))
    (ai (aT (cq (cv (az J hr (aa (pv 2) ae)))) (aj (fo (XF.own "NoLine" (by decide +kernel)) PySem.F.excBase_ValueError (aa ar ae))) aQ)
    (ai (oC (i:=3) ["word"] [] nd rfl (Or.inl rfl) (jk K (j4 (jz K) (pv 2) (fM af) oJ)) (λ_=>(aW (i:=0) (show(["word"]:List Vn).Nodup from by decide +kernel) rfl (Or.inl rfl) (Or.inr rfl))) (λ_=>eQ) (λ_=>(az I hr (aa (pv 0) ae))))
    (ai (aT (nL (mS rfl L M (ak (aG K) (pv 2) af (λ_ _=>rfl))) (by with_unfolding_all rfl)) (aj (ay (qJ hr (gF rfl L M (ak (aG K) (pv 2) af (λ_ _=>rfl)) (λ_ _=>rfl)) (aa (cL (pv 0) rfl) (aa (pv 3) ae))))) aQ)
    (ai (dI (aN cn (ak (aG K) (pv 2) af (λ_ _=>rfl)) ar (aI _)) (aj (bD (q9 m TD.cl hr (pv 0)))) (aj (dI (aN cn (ak (aG K) (pv 2) af (λ_ _=>rfl)) ar (aI _)) (aj (bD (q9 q TD.cl hr (pv 0)))) (aj (bD (wd C TD.cl hr (pv 0) (aa (qJ hr (gF rfl S U (ak (aG K) (pv 2) af (λ_ _=>rfl)) (λ_ _=>rfl)) (aa (cL (pv 0) rfl) (aa (pv 3) ae))) ae)))))))
    (aj (ay (az k hr (aa (cL (pv 0) rfl) ae))))))))),?_⟩
  walk_at"";refine⟨rfl,?_⟩;walk_at"";refine⟨_,_,rfl,rfl,rfl,aY (by omega),λwl a6=>?_⟩;rw[Cmd.split ok];have e1:Ext H (upd H wl (.lst (c.words.map V.str))):=bL a6;have h1:upd H wl (.lst (c.words.map V.str)) wl=Vo (.lst (c.words.map V.str)):=aM;generalize upd H wl (.lst (c.words.map V.str))=H1 at e1 h1 ⊢;walk_at"";refine⟨wl,c,rfl,h1,ok,λH2 e2=>?_⟩;walk_at"";refine ax ?_;walk_at"";have h2:=e2 _ _ h1;refine lO (ag.of h2) (bF λl3 H3 e3 N _=>?_);rw[show dh (c.words.map V.str) (Vo 1) Vp=c.tail.map V.str from oV (xs:=c.words.map V.str) (n:=1) (by simp)]at N;refine gU (ag.of N) ?_;refine kA (xs:=c.tail.map V.str) (λi ys H'=>Ext H3 H'/\ys=c.parts.take i) (aY (by rw[zk];omega)) ⟨Ext.rfl' _,rfl⟩ (λi ys H' _ h=>⟨ag.of (h.1 _ _ N),by rw[h.2,Ac];exact Nat.min_le_left _ _⟩) ?_ ?_
  .rintro i u ys H4 Y ⟨e4,rfl⟩;rw[zm]at Y;obtain⟨z,hz,rfl⟩:=zx.mp Y;have hk:=zl (show i<c.kinds.length by rw[k1];exact(zu.mp hz).1);obtain⟨v,hv,hw⟩:=k3 i _ z hk hz;walk_at"";refine aC ?_;walk_at"";refine⟨_,z,v,rfl,hw,λH5 W=>⟨e4.trans W,?_⟩⟩;rw[List.take_add_one,hv];rfl
  rintro ys H4 pt ⟨e4,rfl⟩ a3;rw[zk,<-k2,zN];have W:=(e1.trans (e2.trans (e3.trans e4))).trans (bL (o:=.lst c.parts) a3);have a0:upd H4 pt (.lst c.parts) pt=some (.lst c.parts):=aM;have e:=((e3.trans e4).trans (bL (o:=.lst c.parts) a3)) _ _ h2;generalize upd H4 pt (.lst c.parts)=H5 at W a0 e ⊢;clear e4 e3 N h2 e2 h1 e1 a3 a6;have D5:=D.ext W;obtain⟨⟨dx,v,a1,a2⟩,_,_,_⟩:=id D5;walk_at"";refine aB (ag.of e) (v:=.str c.head) (bC (j:=0) rfl) ?_;refine⟨.inr c.head,rfl,?_⟩;by_cases a4:c=.show
  .subst a4;refine rd_exb (aC ?_);walk_at"";refine aB (ag.of e) (v:=.str "show") (bC (j:=0) rfl) ?_;refine eM (fg rfl) ?_;refine⟨"show_ask",_,_,_,rfl,TD.df _ (by simp),G.toX,by decide,?_⟩;walk_at"";refine⟨p,_,dx,_,_,rfl,a1,TD.cl,TD.nH,ee _ _ _,?_⟩;walk_at"";have r2:Told K H p l1 l2 Q E (.ok (aO d.cur.1 d.cur.2,d)):=r;clear r;exact⟨v,d.cur,_,rfl,a2,λx g=>r2 l2 x (.inl rfl) (D5.ext g) (Fr.of (W.trans g))⟩
  have a7:bu (hG K) (.inr c.head)=Vp:=xM (by
   cases c with
   | rooms n=>exact .head _
   | way w=>exact .tail _ (.head _)
   | close w=>exact .tail _ (.tail _ (.head _))
   | turn=>exact .tail _ (.tail _ (.tail _ (.head _)))
   | undo=>exact .tail _ (.tail _ (.tail _ (.tail _ (.head _))))
   | redo=>exact .tail _ (.tail _ (.tail _ (.tail _ (.tail _ (.head _)))))
   | «show»=>exact absurd rfl a4)
  rw[a7];refine rd_exb (ax ?_);clear a7;walk_at"";refine cZ (λσ H'=>σ=[Vo (.ref p),Vo (.str c.line),Vo (.ref wl),Vo (.ref pt)]/\∃l3 d',bB d c=.ok (aO d'.cur.1 d'.cur.2,d')/\(l3=l2\/H l3=Vp)/\DkAt K H' p l1 l3 d'/\Fr H H' p l1 l2) ?_ ?_
  rotate_left
  .rintro σ x ⟨rfl,l3,d',hd,N,D6,fr6⟩;obtain⟨⟨ab,v',ac,a8⟩,_,_,_⟩:=id D6;rw[hd]at r;walk_at"";refine⟨p,_,ab,_,_,rfl,ac,TD.cl,TD.nH,ee _ _ _,?_⟩;walk_at"";exact⟨v',_,_,rfl,a8.1,a8.2,λH7 e7=>r l3 H7 N (D6.ext e7) (λb o z n1 n2 X=>e7 _ _ (fr6 b o z n1 n2 X))⟩
  have O:∀{x l3 d'},bB d c=.ok (aO d'.cur.1 d'.cur.2,d')->(l3=l2\/H5 l3=Vp)->DkAt K x p l1 l3 d'->Fr H5 x p l1 l2->∃l3 d',bB d c=.ok (aO d'.cur.1 d'.cur.2,d')/\(l3=l2\/H l3=Vp)/\DkAt K x p l1 l3 d'/\Fr H x p l1 l2:=λ{x l3 d'} h1 h2 h3 h4=>⟨l3,d',h1,h2.imp id λz=>W.none z,h3,λb o z n1 n2 X=>h4 b o (W _ _ z) n1 n2 X⟩;walk_at"";refine aB (ag.of e) (v:=.str c.head) (bC (j:=0) rfl) ?_;walk_at"";refine cF ?_;cases c with
  | «show»=>exact absurd rfl a4
  | undo=>
   refine rd_exb (aC ?_);walk_at"";refine⟨p,dx,_,rfl,a1,eV _ _ _ (by decide +kernel) (by decide +kernel) (by decide +kernel),?_⟩;walk_at"";refine⟨p,l1,l2,d,rfl,D5,f2,λh0 x g=>?_,λps h hp x D6 fr=>?_⟩
   .rw[show bB d .undo=.error "NoDeed" by show(match d.past.getLast? with|none=>_|some h=>_)=_;rw[h0];rfl]at r;exact r _ (W.trans g)
   .refine⟨rfl,O ?_ (.inl rfl) D6 fr⟩;show(match d.past.getLast? with|none=>_|some h=>_)=_;rw[hp,List.getLast?_concat];show Except.ok (_,(⟨h,(ps++[h]).dropLast,_⟩:Dk))=_;rw[List.dropLast_concat]
  | redo=>
   refine rd_exb (ax ?_);walk_at"";refine cZ _ ?_ (λσ H' h=>h);walk_at"";refine aB (ag.of e) (v:=.str "redo") (bC (j:=0) rfl) ?_;walk_at"";refine cF ?_;refine rd_exb (aC ?_);walk_at"";refine⟨p,dx,_,rfl,a1,eV _ _ _ (by decide +kernel) (by decide +kernel) (by decide +kernel),?_⟩;walk_at"";refine⟨p,l1,l2,d,rfl,D5,f1,λh0 x g=>?_,λus h hp x D6 fr=>?_⟩
   .rw[show bB d .redo=.error "NoDeed" by show(match d.und.getLast? with|none=>_|some h=>_)=_;rw[h0];rfl]at r;exact r _ (W.trans g)
   .refine⟨rfl,O ?_ (.inl rfl) D6 fr⟩;show(match d.und.getLast? with|none=>_|some h=>_)=_;rw[hp,List.getLast?_concat];show Except.ok (_,(⟨h,_,(us++[h]).dropLast⟩:Dk))=_;rw[List.dropLast_concat]
  | turn=>
   refine rd_exb (ax ?_);walk_at"";refine cZ _ ?_ (λσ H' h=>h);walk_at"";refine aB (ag.of e) (v:=.str "turn") (bC (j:=0) rfl) ?_;walk_at"";refine cF ?_;refine rd_exb (ax ?_);walk_at"";refine⟨_,dx,_,rfl,a1,eV _ _ _ (by decide +kernel) (by decide +kernel) (by decide +kernel),?_⟩;walk_at"";refine aB (ag.of e) (v:=.str "turn") (bC (j:=0) rfl) ?_;refine eM (jb K).2.2.2 ?_;refine⟨"turn_deed",_,_,_,rfl,TD.df _ (by simp),y.toX,by decide,?_⟩;walk_at"";refine⟨_,_,dx,_,_,rfl,a1,TD.cl,TD.nH,ee _ _ _,?_⟩;walk_at"";refine⟨v,d.cur,_,rfl,a2,λu x g Y=>?_⟩;have hD:bB d .turn=.ok (aO (d.doD (d.cur.1,d.cur.2.map Way.turn)).cur.1 (d.doD (d.cur.1,d.cur.2.map Way.turn)).cur.2,d.doD (d.cur.1,d.cur.2.map Way.turn)):=rfl;exact⟨p,l1,l2,d,u,(d.cur.1,d.cur.2.map Way.turn),rfl,D5.ext g,Y,f1,λl3 H7 h3 D7 fr=>⟨rfl,O hD (.inr (g.none h3)) D7 λb o z n1 n2 X=>fr b o (g _ _ z) n1 n2 X⟩⟩
  | rooms n=>
   refine rd_exb (ax ?_);walk_at"";refine cZ _ ?_ (λσ H' h=>h);walk_at"";refine aB (ag.of e) (v:=.str "rooms") (bC (j:=0) rfl) ?_;walk_at"";refine cF ?_;refine rd_exb (ax ?_);walk_at"";refine⟨_,dx,_,rfl,a1,eV _ _ _ (by decide +kernel) (by decide +kernel) (by decide +kernel),?_⟩;walk_at"";refine aB (ag.of e) (v:=.str "rooms") (bC (j:=0) rfl) ?_;refine eM (jb K).1 ?_;refine⟨"rooms_deed",_,_,_,rfl,TD.df _ (by simp),t.toX,by decide,?_⟩;walk_at"";refine⟨_,_,dx,_,_,rfl,a1,TD.cl,TD.nH,ee _ _ _,?_⟩;walk_at"";refine⟨v,pt,n,rfl,a0,ok.1,ok.2,λu x g Y=>?_⟩;have hD:bB d (.rooms n)=.ok (aO (d.doD (n,[])).cur.1 (d.doD (n,[])).cur.2,d.doD (n,[])):=rfl;exact⟨p,l1,l2,d,u,(n,[]),rfl,D5.ext g,Y,f1,λl3 H7 h3 D7 fr=>⟨rfl,O hD (.inr (g.none h3)) D7 λb o z n1 n2 X=>fr b o (g _ _ z) n1 n2 X⟩⟩
  | way w=>
   refine rd_exb (ax ?_);walk_at"";refine cZ _ ?_ (λσ H' h=>h);walk_at"";refine aB (ag.of e) (v:=.str "way") (bC (j:=0) rfl) ?_;walk_at"";refine cF ?_;refine rd_exb (ax ?_);walk_at"";refine⟨_,dx,_,rfl,a1,eV _ _ _ (by decide +kernel) (by decide +kernel) (by decide +kernel),?_⟩;walk_at"";refine aB (ag.of e) (v:=.str "way") (bC (j:=0) rfl) ?_;refine eM (jb K).2.1 ?_;refine⟨"way_deed",_,_,_,rfl,TD.df _ (by simp),B,by decide,?_⟩;walk_at"";refine⟨_,_,dx,_,_,rfl,a1,TD.cl,TD.nH,ee _ _ _,?_⟩;walk_at"";refine⟨v,d.cur,pt,w,rfl,a2,a0,ok,?_⟩;have hD:bB d (.way w)=match bY d.cur w with|.error z=>.error z|.ok h=>.ok (aO h.1 h.2,d.doD h):=rfl
   cases he:bY d.cur w with
   | error nm=>
    rw[hD,he]at r;exact λx g=>r x (W.trans g)
   | ok h=>
    rw[he]at hD;have hE:bB d (.way w)=.ok (aO (d.doD h).cur.1 (d.doD h).cur.2,d.doD h):=hD;intro u x g Y;exact⟨p,l1,l2,d,u,h,rfl,D5.ext g,Y,f1,λl3 H7 h3 D7 fr=>⟨rfl,O (d':=d.doD h) hE (.inr (g.none h3)) D7 λb o z n1 n2 X=>fr b o (g _ _ z) n1 n2 X⟩⟩
  | close w=>
   refine rd_exb (ax ?_);walk_at"";refine cZ _ ?_ (λσ H' h=>h);walk_at"";refine aB (ag.of e) (v:=.str "close") (bC (j:=0) rfl) ?_;walk_at"";refine cF ?_;refine rd_exb (ax ?_);walk_at"";refine⟨_,dx,_,rfl,a1,eV _ _ _ (by decide +kernel) (by decide +kernel) (by decide +kernel),?_⟩;walk_at"";refine aB (ag.of e) (v:=.str "close") (bC (j:=0) rfl) ?_;refine eM (jb K).2.2.1 ?_;refine⟨"close_deed",_,_,_,rfl,TD.df _ (by simp),l,by decide,?_⟩;walk_at"";refine⟨_,_,dx,_,_,rfl,a1,TD.cl,TD.nH,ee _ _ _,?_⟩;walk_at"";refine⟨v,d.cur,pt,w,rfl,a2,a0,ok,?_⟩;have hD:bB d (.close w)=match bZ d.cur w with|.error z=>.error z|.ok h=>.ok (aO h.1 h.2,d.doD h):=rfl
   cases he:bZ d.cur w with
   | error nm=>
    rw[hD,he]at r;exact λx g=>r x (W.trans g)
   | ok h=>
    rw[he]at hD;have hE:bB d (.close w)=.ok (aO (d.doD h).cur.1 (d.doD h).cur.2,d.doD h):=hD;intro u x g Y;exact⟨p,l1,l2,d,u,h,rfl,D5.ext g,Y,f1,λl3 H7 h3 D7 fr=>⟨rfl,O (d':=d.doD h) hE (.inr (g.none h3)) D7 λb o z n1 n2 X=>fr b o (g _ _ z) n1 n2 X⟩⟩
local macro_rules|`(tactic| walk_at "ra") => do
 let ts <- ("seq asg c name".splitOn " ").toArray.mapM λn =>
  let i := Lean.mkIdent (.mkSimple ("rd_" ++ n))
  `(tacticSeq| with_reducible refine $i ?_)
 `(tactic| repeat (first $[| $ts]*|dsimp only))
def v7{α β:Type}{F:α->β->Prop}{cs:List α}{ts:List β}(h:Paired F cs ts):∀{i:Nat} {c:α},cs[i]?=Vo c->∃t,ts[i]?=Vo t/\F c t:=by
 induction h with
 | nil=>intro i c e;simp at e
 | cons h t a=>
  intro i c e;cases i with
  | zero=>cases e;exact⟨_,rfl,h⟩
  | succ i=>exact a e
def vB(H:Hp)(c:Vb)(t:Vn×Bool):Prop:=H c=Vo (.tup [.str t.1,.bl t.2])
def named(ts:List (Vn×Bool))(i:Nat):List Vn:=((ts.take i).filter (·.2)).map (·.1)
def uP{ts:List (Vn×Bool)}{i:Nat}{t:Vn×Bool}(h:ts[i]?=Vo t):named ts (i+1)=named ts i++if t.2=true then[t.1]else[]:=by unfold named;rw[List.take_succ,h];simp only[Option.toList_some,List.filter_append,zC];congr 1;obtain⟨a,b⟩:=t;cases b<;>rfl
def xU(ts:List (Vn×Bool))(i:Nat):(named ts i).length<=i:=by unfold named;rw[zk];exact zP (List.length_filter_le _ _) (by rw[Ac];omega)
def dE:List Vn:=["NoPlace","NoWay","TooGreat","NoDeed"]
def gH(nm:Vn):List (Vn×Bool):=[("NoLine",nm == "NoLine"),("NoPlace",nm == "NoPlace"),("TooGreat",nm == "TooGreat"),("NoWay",nm == "NoWay"),("NoDeed",nm == "NoDeed"),("NoText",nm == "NoText"),("other",false)]
def y6(h:nm∈dE):named (gH nm) 7=[nm]:=by
 have:∀y∈dE,named (gH y) 7=[y]:=by decide +kernel
 exact this nm h
def lu(h:nm∈dE):nm∈dj:=by
 have:∀y∈dE,y∈dj:=by decide +kernel
 exact this nm h
def ft{K:zg}(a:Xf K mg base dv dj){y:Vn}(h:nm∈dE)(b:y∈dv)(c:(y == ("StairError":Vn))=false):PySem.W.kitOne K (.ref (cA K nm)) (.ref (cA K y))=Vo (nm == y):=by rw[a.kc nm (lu h) y b,c,Bool.or_false]
def ud{d:Dk}{c:Cmd}(h:bB d c=.error nm):nm∈dE:=by
 have a:∀(x:HV) (w:Way),bY x w=.error nm->nm∈dE:=λx w e=>by
  unfold bY at e;split at e
  .cases e;exact .head _
  split at e
  .cases e;exact .tail _ (.head _)
  split at e
  .cases e;exact .tail _ (.tail _ (.head _))
  .cases e
 have b:∀(x:HV) (w:Way),bZ x w=.error nm->nm∈dE:=λx w e=>by
  unfold bZ at e;split at e
  .cases e
  .cases e;exact .tail _ (.head _)
 cases c with
 | rooms n=>cases h
 | turn=>cases h
 | «show»=>cases h
 | way w=>
  have h:(match bY d.cur w with|.error z=>Except.error z|.ok h=>Except.ok (aO h.1 h.2,d.doD h))=.error nm:=h;cases e:bY d.cur w with
  | error z=>rw[e]at h;cases h;exact a _ _ e
  | ok x=>rw[e]at h;cases h
 | close w=>
  have h:(match bZ d.cur w with|.error z=>Except.error z|.ok h=>Except.ok (aO h.1 h.2,d.doD h))=.error nm:=h;cases e:bZ d.cur w with
  | error z=>rw[e]at h;cases h;exact b _ _ e
  | ok x=>rw[e]at h;cases h
 | undo=>
  unfold bB at h;cases e:d.past.getLast? with
  | none=>rw[e]at h;cases h;exact .tail _ (.tail _ (.tail _ (.head _)))
  | some x=>rw[e]at h;cases h
 | redo=>
  unfold bB at h;cases e:d.und.getLast? with
  | none=>rw[e]at h;cases h;exact .tail _ (.tail _ (.tail _ (.head _)))
  | some x=>rw[e]at h;cases h
def ed(K:zg)(H:Hp)(p l1 l2:Vb)(Q:VK):Except Vn (Vn×Dk)->Prop
 | .error nm=>∀t H',Ext H H'->H' t=Vo (.tup [.str "refused",.str nm])->Q (.ref t) H'
 | .ok (z,d')=>∀t l3 H',(l3=l2\/H l3=Vp)->DkAt K H' p l1 l3 d'->Fr H H' p l1 l2->H' t=Vo (.tup [.str "told",.str z])->Q (.ref t) H'
def kR(K:zg):Sp:=λvs H Q _=>∃p l1 l2 d c,vs=[.ref p,.str (Cmd.line c)]/\DkAt K H p l1 l2 d/\c.Ok/\d.past.length<=10000/\d.und.length<=10000/\ed K H p l1 l2 Q (bB d c)
abbrev jN:Vl:=stq 139
def oi:FnScope ["_law_desk","_law_line","_law_found","e","_law_kinds"] ["_law_desk","_law_line"] (aw jN):=⟨rfl,rfl,rfl,by decide +kernel,rfl,by decide +kernel,by decide +kernel⟩
def uj{P:Vd}{w:Ve}{K:zg}{mg:Vn->Option Va}{base:Vh}(D:Dfn K mg "_law_tell" jN ["_law_desk","_law_line"])(T:Blt mg)(e:Xf K mg base dv dj)(TD:DeskK K mg)(g:MetX P w K mg base (cA K "Desk") "tell" 9 ["self","line"] (ky K)):Cal P w K mg base "_law_tell" 10 ["_law_desk","_law_line"] (kR K):=by
 have nd:=(oi).nd;refine D.ok oi (λvs H Q E h=>?_) (λX hX H vs Q E h=>?_)
 .obtain⟨p,l1,l2,d,c,rfl,_⟩:=h;rfl
 .obtain⟨f,cdv,A,outer,s,H0,E0,rfl,hr⟩:=hX;obtain⟨p,l1,l2,d,c,rfl,D,ok,f1,f2,r⟩:=h;obtain⟨⟨dx,v,a1,a2⟩,_,_,_⟩:=id D;refine⟨_,(ai (uV (i:=3) rfl rfl nd rfl rfl rfl (e.cl "StairError" (by decide +kernel)) rfl (by decide) (xr (vP (i:=2) g TD.cl hr nd rfl (Or.inl rfl) (pv 0) (aa (pv 1) ae)) vp) (λx oe Dx da l j a7 ac=>(ai (aL (i:=4) nd rfl (Or.inl rfl) (bp (aa (aJ (aa ar (aa (aS (fm l j) rfl T.isinstance_ PyProof.Rows.boot_isinstance (aa (pv 3) (aa (bW (v:=.ref (cA K "NoLine")) rfl (e.cl "NoLine" (by decide +kernel)) rfl) ae))) ae))) (aa (aJ (aa ar (aa (aS (fm l j) rfl T.isinstance_ PyProof.Rows.boot_isinstance (aa (pv 3) (aa (bW (v:=.ref (cA K "NoPlace")) rfl (e.cl "NoPlace" (by decide +kernel)) rfl) ae))) ae))) ae))))
    (ai (aL (i:=4) nd rfl (Or.inl rfl) (aq jh (pv 4) (bp (aa (aJ (aa ar (aa (aS (fm l j) rfl T.isinstance_ PyProof.Rows.boot_isinstance (aa (pv 3) (aa (bW (v:=.ref (cA K "TooGreat")) rfl (e.cl "TooGreat" (by decide +kernel)) rfl) ae))) ae))) (aa (aJ (aa ar (aa (aS (fm l j) rfl T.isinstance_ PyProof.Rows.boot_isinstance (aa (pv 3) (aa (bW (v:=.ref (cA K "NoWay")) rfl (e.cl "NoWay" (by decide +kernel)) rfl) ae))) ae))) ae)))))
    (ai (aL (i:=4) nd rfl (Or.inl rfl) (aq jh (pv 4) (bp (aa (aJ (aa ar (aa (aS (fm l j) rfl T.isinstance_ PyProof.Rows.boot_isinstance (aa (pv 3) (aa (bW (v:=.ref (cA K "NoDeed")) rfl (e.cl "NoDeed" (by decide +kernel)) rfl) ae))) ae))) (aa (aJ (aa ar (aa (aS (fm l j) rfl T.isinstance_ PyProof.Rows.boot_isinstance (aa (pv 3) (aa (bW (v:=.ref (cA K "NoText")) rfl (e.cl "NoText" (by decide +kernel)) rfl) ae))) ae))) ae)))))
    (ai (aL (i:=4) nd rfl (Or.inl rfl) (aq jh (pv 4) (bp (aa (aJ (aa ar (aa (aS (fm l j) rfl T.isinstance_ PyProof.Rows.boot_isinstance (aa (pv 3) (aa (aJ (aa (bW (v:=.ref (cA K "Endless")) rfl (e.cl "Endless" (by decide +kernel)) rfl) (aa (bW (v:=.ref (cA K "NoHouse")) rfl (e.cl "NoHouse" (by decide +kernel)) rfl) (aa (bW (v:=.ref (cA K "NoStair")) rfl (e.cl "NoStair" (by decide +kernel)) rfl) (aa (bW (v:=.ref (cA K "NotBare")) rfl (e.cl "NotBare" (by decide +kernel)) rfl) (aa (bW (v:=.ref (cA K "NoWalk")) rfl (e.cl "NoWalk" (by decide +kernel)) rfl) ae)))))) ae))) ae))) ae))))
    (aj (ay (aJ (aa ar (aa (bj K PySem.F.plainAttrs_str PySem.F.slot_str_join PySem.F.type_str_join (fZ K) ar (aa (xN K ["_law_word","_law_here"] [] a7 (pv 4) (λ_ hh=>(xu (n:=2) K hh (bX (aW (i:=0) (show(["_law_word","_law_here"]:List Vn).Nodup from by decide +kernel) rfl (Or.inl rfl) (Or.inr rfl)) (bX (aW (i:=1) (show(["_law_word","_law_here"]:List Vn).Nodup from by decide +kernel) rfl (Or.inl rfl) (Or.inr rfl)) gn)))) (λ_=>(kh (cv (pv 1)))) (λ_=>(pv 0))) ae)) ae)))))))))))
    (ai (aT (cq (cv (aS eP rfl T.isinstance_ PyProof.Rows.boot_isinstance (aa (pv 2) (aa (eu (v:=.ty "str") rfl T.str_ PyProof.Rows.boot_str rfl) ae))))) (aj (ay (aJ (aa ar (aa hI ae))))) aQ)
    (aj (ay (aJ (aa ar (aa (pv 2) ae))))))),?_⟩
  walk_at "ra";refine vQ (λDx q H1=>Ext H H1/\(∃nm,bB d c=.error nm/\Dx=cA K nm)/\q=[Vo (.ref p),Vo (.str c.line),Vp,Vp,Vp]) (λE9 hE=>?_) ?_
  .walk_at"";refine⟨p,dx,_,rfl,a1,eV _ _ _ (by decide +kernel) (by decide +kernel) (by decide +kernel),?_⟩;walk_at"";refine⟨p,l1,l2,d,c,rfl,D,ok,f1,f2,?_⟩;cases m:bB d c with
   | error nm=>exact λH1 e1=>hE _ _ _ ⟨e1,⟨nm,m,rfl⟩,rfl⟩
   | ok x=>
    obtain⟨z,d'⟩:=x;rw[m]at r;intro l3 H1 h3 D1 fr;walk_at"";refine eJ (n:="str") rfl (b:=true) rfl ?_;walk_at"";refine ax ?_;walk_at"";refine av λt H2 B G _=>?_;exact r t l3 H2 h3 (D1.ext B) (λb o z n1 n2 n3=>B _ _ (fr b o z n1 n2 n3)) G
  .rintro q Dx H1 ⟨I,⟨nm,m,rfl⟩,rfl⟩;rw[m]at r;have a:=ud m;have r:∀t H',Ext H H'->H' t=Vo (.tup [.str "refused",.str nm])->Q (.ref t) H':=r;clear m;refine⟨e.up nm (lu a),e.exk nm (lu a),λx hx=>?_⟩;walk_at"";refine f6 (ft e a (y:="NoLine") (by decide +kernel) (by decide +kernel)) ?_;walk_at"";refine av λc1 H2 B J _=>?_;walk_at"";refine f6 (ft e a (y:="NoPlace") (by decide +kernel) (by decide +kernel)) ?_;walk_at"";refine av λc2 H3 e3 L _=>?_;walk_at"";refine av λad H4 e4 M _=>?_;walk_at"";refine f6 (ft e a (y:="TooGreat") (by decide +kernel) (by decide +kernel)) ?_;walk_at"";refine av λc3 H5 e5 N _=>?_;walk_at"";refine f6 (ft e a (y:="NoWay") (by decide +kernel) (by decide +kernel)) ?_;walk_at"";refine av λc4 H6 e6 O _=>?_;walk_at"";refine av λam H7 e7 R _=>?_;walk_at"";refine iQ ((e5.trans (e6.trans e7)) _ _ M) R (aY (by simp)) (bF λan H8 e8 S _=>?_);walk_at"";refine f6 (ft e a (y:="NoDeed") (by decide +kernel) (by decide +kernel)) ?_;walk_at"";refine av λc5 H9 e9 U _=>?_;walk_at"";refine f6 (ft e a (y:="NoText") (by decide +kernel) (by decide +kernel)) ?_;walk_at"";refine av λc6 HA eA W _=>?_;walk_at"";refine av λap HB eB Y _=>?_;walk_at"";refine iQ ((e9.trans (eA.trans eB)) _ _ S) Y (aY (by simp)) (bF λas HC eC Z _=>?_);walk_at"";refine av λta HD eD a0 _=>?_;walk_at"";refine wQ (Cs:=(["Endless","NoHouse","NoStair","NotBare","NoWalk"]:List Vn).map (cA K)) a0 (rM λC hC=>?_) ?_
   .obtain⟨y,hy,rfl⟩:=List.mem_map.mp hC;have h1:∀y∈(["Endless","NoHouse","NoStair","NotBare","NoWalk"]:List Vn),y∈dv/\(y == ("StairError":Vn))=false/\∀x∈dE,(x == y)=false:=by decide +kernel
    obtain⟨b1,b2,b3⟩:=h1 y hy;exact(ft e a b1 b2).trans (by rw[b3 nm a])
   walk_at"";refine av λc7 HE eE a3 _=>?_;walk_at"";refine av λb0 HF eF a4 _=>?_;walk_at"";refine iQ ((eD.trans (eE.trans eF)) _ _ Z) a4 (aY (by simp)) (bF λa8 HG eG k _=>?_);have eFG:=eF.trans eG;have a5:=eE.trans eFG;have eBG:=eB.trans (eC.trans (eD.trans a5));have eAG:=eA.trans eBG;have a6:=e8.trans (e9.trans eAG);have e7G:=e7.trans a6;have e6G:=e6.trans e7G;have e4G:=e4.trans (e5.trans e6G);have pk:Paired (vB HG) [c1,c2,c3,c4,c5,c6,c7] (gH nm):=.cons ((e3.trans e4G) _ _ J) (.cons (e4G _ _ L) (.cons (e6G _ _ N) (.cons (e7G _ _ O) (.cons (eAG _ _ U) (.cons (eBG _ _ W) (.cons (eFG _ _ a3) .nil))))));have k:HG a8=Vo (.lst (List.map V.ref [c1,c2,c3,c4,c5,c6,c7])):=k;have a9:Ext H HG:=I.trans (B.trans (e3.trans e4G));clear eFG a5 eBG eAG a6 e7G e6G e4G B e3 e4 e5 e6 e7 e8 e9 eA eB eC eD eE eF eG J L N O U W a3 M R S Y Z a4 a0 I;walk_at"";refine⟨rfl,?_⟩;walk_at"";refine gU (ag.of k) ?_;refine kA (xs:=List.map V.ref [c1,c2,c3,c4,c5,c6,c7]) (λi ys H'=>H'=HG/\ys=List.map V.str (named (gH nm) i)) (aY (by simp)) ⟨rfl,rfl⟩ (λi ys H' hi h=>⟨by rw[h.1];exact ag.of k,by rw[h.2,zk];exact xU _ _⟩) ?_ ?_
   .rintro i u ys H' hu ⟨rfl,rfl⟩;rw[zm]at hu;obtain⟨c,j,rfl⟩:=zx.mp hu;obtain⟨t,G,hk⟩:=v7 pk j;rw[uP G];obtain⟨b4,b⟩:=t;refine gR (ah.of hk) rfl ?_;walk_at"";cases b with
    | true=>
     refine aC ?_;walk_at"";exact⟨rfl,by rw[zC];rfl⟩
    | false=>
     refine ax ?_;exact⟨rfl,by simp⟩
   .rintro ys H' l8 ⟨rfl,rfl⟩ ab;walk_at"";rw[show named (gH nm) (List.map V.ref [c1,c2,c3,c4,c5,c6,c7]).length=[nm]from y6 a];have hj:∀y∈dE,Txt.join (zU " ") [y]=y/\([y].map (·.length)).sum+[y].length*(zU " ").length<=1000000:=by decide +kernel
    obtain⟨j1,j2⟩:=hj nm a;refine⟨_,l8,[nm],rfl,rfl,ag.of aM,j2,?_⟩;rw[j1];walk_at"";refine av λt HI eI G _=>?_;exact r t HI (a9.trans ((bL ab).trans eI)) G
theorem mem_join{c x:Nat}:∀{ps:List Vn},x∈(Str.join ⟨#[c]⟩ ps).cps.toList->x=c\/∃p∈ps,x∈p.cps.toList
 | [],h=>by cases h
 | [p],h=>.inr ⟨p,zr,h⟩
 | p::q::r,h=>by
  rw[Tx.gW]at h;rcases zI.mp h with h|h
  .exact .inr ⟨p,zr,h⟩
  .rcases zA.mp h with h|h
   .exact .inl h
   .rcases mem_join h with h|⟨y,a,h⟩
    .exact .inl h
    .exact .inr ⟨y,zo _ a,h⟩
def ur(h:bJ z):∀c∈z.cps.toList,97<=c/\c<=122:=by rcases h with rfl|rfl|rfl|rfl<;>decide +kernel
def sign_sign(h:fi z):∀c∈z.cps.toList,97<=c/\c<=122:=by
 obtain⟨c,h1,h2,rfl⟩:=h;intro x a;have:x=c:=by simpa using a
 omega
abbrev mC(w:Way):List Vn:=[⟨#[]⟩,Tx.aA w.room,w.deed,Tx.aA w.other,w.sign]
def iS(w:Way):(" ":Vn)++bO w=Str.join ⟨#[32]⟩ (mC w):=by show(⟨#[32]⟩:Vn)++Txt.join ⟨#[32]⟩ [Tx.aA w.room,w.deed,Tx.aA w.other,w.sign]=(⟨#[]⟩:Vn)++(⟨#[32]⟩:Vn)++Str.join ⟨#[32]⟩ [Tx.aA w.room,w.deed,Tx.aA w.other,w.sign];rw[Tx.dX];rfl
def lN(ok:w.Ok m){p:Vn}(b:p∈mC w){c:Nat}(a:c∈p.cps.toList):(48<=c/\c<=57)\/(97<=c/\c<=122):=by
 simp only[zA,zQ,or_false]at b;rcases b with rfl|rfl|rfl|rfl|rfl
 .cases a
 .exact .inl (Tx.gC ok.r0 a)
 .exact .inr (ur ok.dd c a)
 .exact .inl (Tx.gC ok.o0 a)
 .exact .inr (sign_sign ok.sg c a)
def uD(ok:w.Ok m):Txt.split ((" ":Vn)++bO w) " " = mC w:=by rw[iS];exact Tx.iH (c:=32) (List.cons_ne_nil _ _) λp a b=>by have:=lN ok a b;omega
def pb(ok:w.Ok m){c:Nat}(b:c=44\/c=58):c∉((" ":Vn)++bO w).cps.toList:=λh=>by
 rw[iS]at h;rcases mem_join h with h|⟨p,a,h⟩
 .omega
 .have:=lN ok a h;omega
abbrev bI(ws:List Way):List Vn:=ws.map λw=>(" ":Vn)++bO w
def nN(ok:∀w∈ws,w.Ok m)(a:ws≠[]):Txt.split (Txt.join "," (bI ws)) "," = bI ws:=by show Txt.split (Txt.join ⟨#[44]⟩ (bI ws)) ⟨#[44]⟩=bI ws;rw[Tx.dX];refine Tx.iH (λe=>a (List.map_eq_nil_iff.mp e)) λp b=>?_;obtain⟨w,c,rfl⟩:=List.mem_map.mp b;exact pb (ok w c) (.inl rfl)
def xB(m1:1<=m)(ok:∀w∈ws,w.Ok m):Txt.split (aO m ws) ":" = [Tx.aA m,Txt.join "," (bI ws)]:=by
 have e:aO m ws=Str.join ⟨#[58]⟩ [Tx.aA m,Txt.join "," (bI ws)]:=rfl;rw[e];refine Tx.iH (c:=58) (List.cons_ne_nil _ _) λp a=>?_;simp only[zA,zQ,or_false]at a;rcases a with rfl|rfl
 .exact Tx.lE (by omega) (by omega)
 .show 58∉(Txt.join ⟨#[44]⟩ (bI ws)).cps.toList;rw[Tx.dX];intro h;rcases mem_join h with h|⟨p,a,h⟩
  .omega
  .obtain⟨w,b,rfl⟩:=List.mem_map.mp a;exact pb (ok w b) (.inr rfl) h
def lU(ok:w.Ok m)(a:m<=12):((" ":Vn)++bO w).length<=21:=by rw[Str.length_append];have:=kn ok a;have:(zU " ").length=1:=rfl;omega
def kX(ok:∀w∈ws,w.Ok m)(a:m<=12)(b:ws.length<=100):(Txt.join "," (bI ws)).length<=2200:=by
 have h:=mj 44 (k:=21) (zs:=bI ws) λz c=>by obtain⟨w,d,rfl⟩:=List.mem_map.mp c;exact lU (ok w d) a
 rw[zk]at h;have:=Nat.mul_le_mul_left 22 b;show(Txt.join ⟨#[44]⟩ (bI ws)).length<=2200;omega
def mf{y:Vn}(a:(y.length == 0)=false)(b:z.length<=900000)(h:cI H (.lst ((Txt.split z y).map V.str)) Q):p7 (.str z) [.str y] H Q:=⟨z,y,rfl,rfl,a,zP (Nat.add_le_add_right b 2) (by decide),h⟩
def qx(K:zg):Sp:=λvs H Q _=>∃(w:Way) (m:Int),vs=[.str ((" ":Vn)++bO w)]/\w.Ok m/\m<=12/\∀t H',Ext H H'->H' t=Vo (.tup w.vs)->Q (.ref t) H'
abbrev jI:Vl:=stq 95
def oj:FnScope ["text","words"] ["text"] (aw jI):=⟨rfl,rfl,rfl,by decide +kernel,rfl,by decide +kernel,by decide +kernel⟩
def tO{P:Vd}{w:Ve}{K:zg}{mg:Vn->Option Va}{base:Vh}(D:Dfn K mg "read_way" jI ["text"])(T:Blt mg)(a:Cal P w K mg base "read_number" 2 ["word"] (jw K)):Cal P w K mg base "read_way" 3 ["text"] (qx K):=by
 have nd:=(oj).nd;refine D.ok oj (λvs H Q E h=>?_) (λX g H vs Q E h=>?_)
 .obtain⟨w,m,rfl,_⟩:=h;rfl
 .obtain⟨f,cdv,A,outer,s,H0,E0,rfl,d⟩:=g;obtain⟨w,m,rfl,ok,m12,q⟩:=h;have r1:=ok.r1;have o1:=ok.o1;have j:=lU ok m12;refine⟨_,(ai (aL (i:=1) nd rfl (Or.inl rfl) (bj K PySem.F.plainAttrs_str PySem.F.slot_str_split PySem.F.type_str_split iD (pv 0) (aa ar ae)))
    (ai (aT (PW.pt (cK (aN cT (aS (cz K) rfl T.len_ PySem.boot_len (aa (pv 1) ae)) af (aI _)) (cV (aN cT (ak (aG K) (pv 1) af (λ_ _=>rfl)) ar (aI _))))) (aj gX) aQ)
    (aj (ay (aJ (aa (az a d (aa (ak (aG K) (pv 1) af (λ_ _=>rfl)) ae)) (aa (ak (aG K) (pv 1) af (λ_ _=>rfl)) (aa (az a d (aa (ak (aG K) (pv 1) af (λ_ _=>rfl)) ae)) (aa (ak (aG K) (pv 1) af (λ_ _=>rfl)) ae))))))))),?_⟩
  walk_at"";refine⟨rfl,?_⟩;walk_at"";refine mf rfl (by omega) (bF λl H1 k b _=>?_);rw[uD ok]at b;walk_at"";refine fD (ag.of b) ?_;walk_at"";refine ax ?_;walk_at"";refine aB (ag.of b) rfl ?_;walk_at"";refine fy ?_;walk_at"";refine ax ?_;walk_at"";refine aB (ag.of b) rfl ?_;walk_at"";refine⟨w.room,rfl,ok.r0,by omega,λH2 c=>?_⟩;walk_at"";refine aB (ag.of (c _ _ b)) rfl ?_;walk_at"";refine aB (ag.of (c _ _ b)) rfl ?_;walk_at"";refine⟨w.other,rfl,ok.o0,by omega,λr e=>?_⟩;walk_at"";refine aB (ag.of (e _ _ (c _ _ b))) rfl ?_;walk_at"";refine av λt n o p _=>?_;exact q t n (((k.trans c).trans e).trans o) p
def pF(K:zg):Sp:=λvs H Q _=>∃(ws:List Way) (m:Int),vs=[.str (Txt.join "," (bI ws))]/\(∀w∈ws,w.Ok m)/\m<=12/\ws.length<=100/\∀t H',Ext H H'->bx H' t (ws.map Way.key)->Q (.ref t) H'
abbrev j5:Vl:=stq 96
def pf:FnScope ["text"] ["text"] (aw j5):=⟨rfl,rfl,rfl,by decide +kernel,rfl,by decide +kernel,by decide +kernel⟩
def xm{P:Vd}{w:Ve}{K:zg}{mg:Vn->Option Va}{base:Vh}(D:Dfn K mg "read_ways" j5 ["text"])(T:Blt mg)(a:Cal P w K mg base "read_way" 3 ["text"] (qx K)):Cal P w K mg base "read_ways" 4 ["text"] (pF K):=by
 have nd:=(pf).nd;refine D.ok pf (λvs H Q E h=>?_) (λX L H vs Q E h=>?_)
 .obtain⟨ws,m,rfl,_⟩:=h;rfl
 .obtain⟨f,cdv,A,outer,s,H0,E0,rfl,M⟩:=L;obtain⟨ws,m,rfl,ok,m12,few,q⟩:=h;have hlen:=kX ok m12 few;refine⟨_,(ai (aT (aN cn (pv 0) ar (aI _)) (aj (ay (aJ ae))) aQ)
    (aj (ay (bz (eh K) rfl T.tuple_ PyProof.Rows.boot_tuple (aa (eO ["part"] [] (jk K (bj K PySem.F.plainAttrs_str PySem.F.slot_str_split PySem.F.type_str_split iD (pv 0) (aa ar ae))) (λ_=>(aW (i:=0) (show(["part"]:List Vn).Nodup from by decide +kernel) rfl (Or.inl rfl) (Or.inr rfl))) (λ_=>eQ) (λ_=>(az a M (aa (pv 0) ae)))) ae))))),?_⟩
  walk_at"";refine cF ?_;walk_at"";by_cases g:ws=[]
  .subst g;rw[Ah (show Txt.join "," (bI [])=zU "" by decide +kernel)];refine aC ?_;walk_at"";refine av λt H1 n c _=>?_;exact q t H1 n ⟨[],c,rfl,λj b k h=>by cases h⟩
  have u:Txt.join "," (bI ws)≠zU "":=λe=>by
   have h1:=nN ok g;rw[e]at h1;cases ws with
   | nil=>exact g rfl
   | cons w r=>
    have h2:Txt.split (zU "") "," = [zU ""]:=by decide +kernel
    rw[h2]at h1;have N:(zU "")=(" ":Vn)++bO w:=(List.cons.inj h1).1;have O:(zU "").length=((" ":Vn)++bO w).length:=by rw[<-N]
    rw[Str.length_append]at O;have W:(zU "").length=0:=rfl;have Y:(zU " ").length=1:=rfl;omega
  rw[Ag u];refine ax ?_;walk_at"";refine⟨rfl,?_⟩;walk_at"";refine mf rfl (by omega) (bF λl H1 n v _=>?_);rw[nN ok g]at v;refine gU (ag.of v) ?_;refine kA (xs:=(bI ws).map V.str) (λi ys H'=>Ext H1 H'/\∃cs,ys=cs.map V.ref/\aR H' cs (ws.take i)) (aY (by rw[zk,zk];omega)) ⟨Ext.rfl' _,[],rfl,aR.nil _⟩ (λi ys H' hi h=>⟨ag.of (h.1 _ _ v),?_⟩) ?_ ?_
  .obtain⟨_,cs,rfl,R,_⟩:=h;rw[zk,R,Ac];exact Nat.min_le_left _ _
  .rintro i x ys H' d ⟨y,cs,rfl,al⟩;rw[zm,zm]at d;obtain⟨z,S,rfl⟩:=zx.mp d;obtain⟨w,C,rfl⟩:=zx.mp S;walk_at"";refine aC ?_;walk_at"";refine⟨w,m,rfl,ok w (zv C),m12,λt Z G c=>⟨y.trans G,cs++[t],by rw[zC];rfl,?_⟩⟩;rw[List.take_add_one,C];exact(al.ext G).snoc c
  .rintro ys H' p ⟨y,cs,rfl,al⟩ I;rw[zk,zk,zN]at al;walk_at"";have B:=al.ext (bL (o:=.lst (cs.map V.ref)) I);refine er (ag.of aM) (bF λt U J c _=>?_);exact q t U ((n.trans (y.trans (bL I))).trans J) ((B.ext J).ways c)
def rA(K:zg):Sp:=λvs H Q _=>∃(m:Int) (ws:List Way),vs=[.str (aO m ws)]/\HOuse m ws/\∀v H',Ext H H'->bh H' v m ws->Q v H'
abbrev lB:Vl:=stq 97
def qT:FnScope ["text","parts","house"] ["text"] (aw lB):=⟨rfl,rfl,rfl,by decide +kernel,rfl,by decide +kernel,by decide +kernel⟩
def vf{P:Vd}{w:Ve}{K:zg}{mg:Vn->Option Va}{base:Vh}(D:Dfn K mg "read_house" lB ["text"])(T:Blt mg)(c:Cal P w K mg base "is_house" 5 ["thing"] (mB K))(b:Cal P w K mg base "read_ways" 4 ["text"] (pF K))(a:Cal P w K mg base "read_number" 2 ["word"] (jw K)):Cal P w K mg base "read_house" 6 ["text"] (rA K):=by
 have nd:=(qT).nd;refine D.ok qT (λvs H Q E h=>?_) (λX p H vs Q E h=>?_)
 .obtain⟨m,ws,rfl,_⟩:=h;rfl
 .obtain⟨f,cdv,A,outer,s,H0,E0,rfl,e⟩:=p;obtain⟨m,ws,rfl,ok,q⟩:=h;have m1:=ok.m1;have m12:=ok.m12;have hlen:=kX ok.ok m12 ok.few;have r:(aO m ws).length<=3000:=by unfold aO;rw[Str.length_append,Str.length_append];have h1:=Tx.bV (n:=m) (by omega) (by omega);have h2:(zU ":").length=1:=rfl;have G:(Txt.join "," (ws.map λw=>(" ":Vn)++bO w)).length<=2200:=hlen;omega
  refine⟨_,(ai (aL (i:=1) nd rfl (Or.inl rfl) (bj K PySem.F.plainAttrs_str PySem.F.slot_str_split PySem.F.type_str_split iD (pv 0) (aa ar ae)))
    (ai (aT (aN cT (aS (cz K) rfl T.len_ PySem.boot_len (aa (pv 1) ae)) af (aI _)) (aj gX) aQ)
    (ai (aL (i:=2) nd rfl (Or.inl rfl) (aJ (aa (az a e (aa (ak (aG K) (pv 1) af (λ_ _=>rfl)) ae)) (aa (az b e (aa (ak (aG K) (pv 1) af (λ_ _=>rfl)) ae)) ae))))
    (ai (aT (cq (cv (az c e (aa (pv 2) ae)))) (aj gX) aQ)
    (aj (ay (pv 2))))))),?_⟩
  walk_at"";refine⟨rfl,?_⟩;walk_at"";refine mf rfl (by omega) (bF λl H1 v d _=>?_);rw[xB m1 ok.ok]at d;walk_at"";refine fD (ag.of d) ?_;walk_at"";refine ax ?_;walk_at"";refine aB (ag.of d) rfl ?_;walk_at"";refine⟨m,rfl,by omega,by omega,λH2 g=>?_⟩;walk_at"";refine aB (ag.of (g _ _ d)) rfl ?_;walk_at"";refine⟨ws,m,rfl,ok.ok,m12,ok.few,λt I x y=>?_⟩;walk_at"";refine av λu z j B _=>?_;have k:bh z (.ref u) m ws:=bh.mk B (y.ext j);walk_at"";refine⟨.ref u,m,ws,rfl,k,ok,λC o=>?_⟩;walk_at"";refine ax ?_;walk_at"";exact q _ C ((((v.trans g).trans x).trans j).trans o) (k.ext o)
def vX(w:Way):(" ":Vn)++Tx.aA w.room++(" ":Vn)++w.deed++(" ":Vn)++Tx.aA w.other++(" ":Vn)++w.sign=(" ":Vn)++bO w:=by rw[iS];show(⟨#[32]⟩:Vn)++Tx.aA w.room++(⟨#[32]⟩:Vn)++w.deed++(⟨#[32]⟩:Vn)++Tx.aA w.other++(⟨#[32]⟩:Vn)++w.sign=(⟨#[]⟩:Vn)++(⟨#[32]⟩:Vn)++(Tx.aA w.room++(⟨#[32]⟩:Vn)++(w.deed++(⟨#[32]⟩:Vn)++(Tx.aA w.other++(⟨#[32]⟩:Vn)++w.sign)));simp only[Str.append_assoc];exact(Str.empty_append _).symm
def oP(K:zg):Sp:=λvs H Q _=>∃v m ws,vs=[v]/\bh H v m ws/\HOuse m ws/\∀H',Ext H H'->Q (.str (aO m ws)) H'
abbrev jD:Vl:=stq 140
def mQ:FnScope ["_law_house_here","_law_words"] ["_law_house_here"] (aw jD):=⟨rfl,rfl,rfl,by decide +kernel,rfl,by decide +kernel,by decide +kernel⟩
def xE{P:Vd}{w:Ve}{K:zg}{mg:Vn->Option Va}{base:Vh}(D:Dfn K mg "_law_house_text" jD ["_law_house_here"])(T:Blt mg):Cal P w K mg base "_law_house_text" 1 ["_law_house_here"] (oP K):=by
 have nd:=(mQ).nd;refine D.ok mQ (λvs H Q E h=>?_) (λX G H vs Q E h=>?_)
 .obtain⟨v,m,ws,rfl,_⟩:=h;rfl
 .obtain⟨f,cdv,A,outer,s,H0,E0,rfl,O⟩:=G;obtain⟨v,m,ws,rfl,I,ok,q⟩:=h;have m1:=ok.m1;have m12:=ok.m12;have d:=ok.few;obtain⟨p,r,rfl,u,J⟩:=id I;obtain⟨bs,y,al⟩:=bx.al J;refine⟨_,(ai (oC (i:=1) ["_law_room","_law_deed","_law_other","_law_sign"] [] nd rfl (Or.inl rfl) (fh K (ak (aE K) (pv 0) af (λ_ _=>rfl))) (λ_=>(iT (n:=4) K rfl (bX (aW (i:=0) (show(["_law_room","_law_deed","_law_other","_law_sign"]:List Vn).Nodup from by decide +kernel) rfl (Or.inl rfl) (Or.inr rfl)) (bX (aW (i:=1) (show(["_law_room","_law_deed","_law_other","_law_sign"]:List Vn).Nodup from by decide +kernel) rfl (Or.inl rfl) (Or.inr rfl)) (bX (aW (i:=2) (show(["_law_room","_law_deed","_law_other","_law_sign"]:List Vn).Nodup from by decide +kernel) rfl (Or.inl rfl) (Or.inr rfl)) (bX (aW (i:=3) (show(["_law_room","_law_deed","_law_other","_law_sign"]:List Vn).Nodup from by decide +kernel) rfl (Or.inl rfl) (Or.inr rfl)) gn)))))) (λ_=>eQ) (λ_=>(aq cw (aq cw (aq cw (aq cw (aq cw (aq cw (aq cw ar (bz cJ rfl T.str_ PyProof.Rows.boot_str (aa (pv 0) ae))) ar) (pv 1)) ar) (bz cJ rfl T.str_ PyProof.Rows.boot_str (aa (pv 2) ae))) ar) (pv 3))))
    (aj (ay (aq cw (aq cw (bz cJ rfl T.str_ PyProof.Rows.boot_str (aa (ak (aE K) (pv 0) af (λ_ _=>rfl)) ae)) ar) (bj K PySem.F.plainAttrs_str PySem.F.slot_str_join PySem.F.type_str_join (fZ K) ar (aa (pv 1) ae)))))),?_⟩
  walk_at"";refine aD (ah.of u) (v:=.ref r) rfl ?_;refine fw (ah.of y) ?_;refine fP (xs:=bs.map V.ref) (λi ys H'=>H'=H/\ys=(bI (ws.take i)).map V.str) (dM (by rw[zk,al.1];omega)) ⟨rfl,rfl⟩ (λi ys H' hi h=>⟨by rw[h.1];exact ah.of y,?_⟩) ?_ ?_
  .rw[h.2,zk,zk,Ac];exact Nat.min_le_left _ _
  .rintro i x ys H' B ⟨rfl,rfl⟩;rw[zm]at B;obtain⟨b,C,rfl⟩:=zx.mp B;have hi:i<ws.length:=by rw[<-al.1];exact(zu.mp C).1
   have g:ws[i]?=Vo ws[i]:=zl hi;have a:=ok.ok _ (zv g);have o:=al.2 i b _ C g;have r1:=a.r1;have o1:=a.o1;have l1:(zU (toString ws[i].room)).length<=6:=Tx.bV a.r0 (by omega);have l2:(zU (toString ws[i].other)).length<=6:=Tx.bV a.o0 (by omega);have l3:=ia a.dd;have l4:=iR a.sg;have l5:(zU " ").length=1:=rfl;walk_at"";refine gR (ah.of o) rfl ?_;walk_at"";refine aC ?_;walk_at"";refine⟨_,rfl,cM a.r0 (by omega),?_⟩;walk_at"";refine⟨_,_,rfl,rfl,aY (by omega),?_⟩;walk_at"";refine⟨_,_,rfl,rfl,aY (by simp only[Str.length_append];omega),?_⟩;walk_at"";refine⟨_,_,rfl,rfl,aY (by simp only[Str.length_append];omega),?_⟩;walk_at"";refine⟨_,_,rfl,rfl,aY (by simp only[Str.length_append];omega),?_⟩;walk_at"";refine⟨_,rfl,cM a.o0 (by omega),?_⟩;walk_at"";refine⟨_,_,rfl,rfl,aY (by simp only[Str.length_append];omega),?_⟩;walk_at"";refine⟨_,_,rfl,rfl,aY (by simp only[Str.length_append];omega),?_⟩;walk_at"";refine⟨_,_,rfl,rfl,aY (by simp only[Str.length_append];omega),?_⟩;refine⟨rfl,?_⟩;have e:=vX ws[i];unfold Tx.aA at e;rw[e];unfold bI;rw[List.take_add_one,g,zC,zC];rfl
  .rintro ys H' l ⟨rfl,rfl⟩ L;rw[zk,al.1,zN];have t:Ext H' (upd H' l (.lst ((bI ws).map V.str))):=bL L;have j:upd H' l (.lst ((bI ws).map V.str)) l=Vo (.lst ((bI ws).map V.str)):=aM;generalize upd H' l (.lst ((bI ws).map V.str))=M at t j ⊢;have lm:(zU (toString m)).length<=6:=Tx.bV (by omega) (by omega);have l1:(zU ":").length=1:=rfl;have R:=kX ok.ok m12 d;walk_at"";refine aD (ah.of (t _ _ u)) rfl ?_;walk_at"";refine⟨_,rfl,cM (by omega) (by omega),?_⟩;walk_at"";refine⟨_,_,rfl,rfl,aY (by omega),?_⟩;walk_at"";refine⟨rfl,?_⟩;walk_at"";refine⟨_,l,_,rfl,rfl,ag.of j,o7 (c:=44) (k:=21) (λz N=>?_) (n:=100) (by rw[zk];exact d) (by decide),?_⟩
   .obtain⟨w,g,rfl⟩:=List.mem_map.mp N;exact lU (ok.ok w g) m12
   .exact⟨_,_,rfl,rfl,aY (by simp only[Str.length_append];omega),q M t⟩
def uL(h:∀c∈z.cps.toList,c<1114112):(PyData.str z).canLay0=true:=by show PyData.strOk z=true;unfold PyData.strOk;rw[Array.all_eq_true_iff_forall_mem];exact λc a=>Ah (h c (Array.mem_toList_iff.mpr a))
def ie(ok:HOuse m ws):(PyData.str (aO m ws)).canLay0=true:=by
 refine uL λc b=>?_;have m1:=ok.m1;have m12:=ok.m12;have e:aO m ws=Str.join ⟨#[58]⟩ [Tx.aA m,Txt.join ⟨#[44]⟩ (bI ws)]:=rfl;rw[e,Tx.dX]at b;rcases mem_join b with h|⟨p,a,h⟩
 .omega
 .simp only[zA,zQ,or_false]at a;rcases a with rfl|rfl
  .have:=Tx.gC (by omega) h;omega
  .rcases mem_join h with h|⟨p,a,h⟩
   .omega
   .obtain⟨w,d,rfl⟩:=List.mem_map.mp a;rw[iS]at h;rcases mem_join h with h|⟨p,a,h⟩
    .omega
    .have:=lN (ok.ok w d) a h;omega
structure Apt(H:Hp)(l1 l2 b:Vb)(xs:List V):Prop where
 at_:H b=Vo (.lst xs)
 n1:b≠l1
 n2:b≠l2
def Apt.step{K:zg}{l3 b:Vb}{d:Dk}(D:DkAt K H p l1 l2 d)(fr:Fr H H' p l1 l2)(c:l3=l2\/H l3=Vp)(a:Apt H l1 l2 b xs):Apt H' l1 l3 b xs:=by
 obtain⟨⟨dx,v,a1,a2⟩,_,_,_⟩:=D;refine⟨fr b _ a.at_ (bw a.at_ a1 (by intro z;cases z)) a.n1 a.n2,a.n1,λe=>?_⟩;rcases c with h|h
 .exact a.n2 (e.trans h)
 .rw[<-e,a.at_]at h;cases h
def Fr.tk{K:zg}{d:Dk}(D:DkAt K H p l1 l2 d)(fr:Fr H H' p l1 l2):Tk H H':=by obtain⟨⟨dx,v,a1,a2⟩,⟨vs,a,_⟩,⟨us,c1,_⟩,_⟩:=D;exact λb xs z=>fr b _ z (bw z a1 (by intro z;cases z)) (bw z a (by intro z;cases z)) (bw z c1 (by intro z;cases z))
def jg{t:Vb}{a b:Vn}(h:H t=Vo (.tup [.str a,.str b]))(c:(PyData.str a).canLay0=true)(d:(PyData.str b).canLay0=true):aF H 1 (.ref t) (.tuple [.str a,.str b]):=
 .inr ⟨t,[.str a,.str b],_,rfl,.inl ⟨h,rfl⟩,.cons ⟨rfl,c⟩ (.cons ⟨rfl,d⟩ .nil)⟩
def nF(a b c d:Vn):PyData.eqv (.tuple [.str a,.str b]) (.tuple [.str c,.str d])=(decide (a=c) && decide (b=d)):=by simp only[PyData.eqv,PyData.eqvAll];by_cases h1:a=c<;>by_cases h2:b=d<;>simp[h1,h2]
theorem ed.ok{K:zg}{H:Hp}{p l1 l2:Vb}{Q:VK}{d d':Dk}{c:Cmd}{z:Vn}(e:bB d c=.ok (z,d'))
  (k:∀t l3 H',(l3=l2\/H l3=Vp)->DkAt K H' p l1 l3 d'->Fr H H' p l1 l2->H' t=Vo (.tup [.str "told",.str z])->Q (.ref t) H'):ed K H p l1 l2 Q (bB d c):=by rw[e];exact k
def i9:(PyData.str "told").canLay0=true/\(PyData.str "refused").canLay0=true:=by decide +kernel
def yR{d:Dk}{h:HV}(e:bY d.cur w=.ok h):bB d (.way w)=.ok (aO h.1 h.2,d.doD h):=by show(match bY d.cur w with|.error z=>Except.error z|.ok h=>Except.ok (aO h.1 h.2,d.doD h))=_;rw[e]
def w5{d:Dk}{h:HV}(e:bZ d.cur w=.ok h):bB d (.close w)=.ok (aO h.1 h.2,d.doD h):=by show(match bZ d.cur w with|.error z=>Except.error z|.ok h=>Except.ok (aO h.1 h.2,d.doD h))=_;rw[e]
def uz{h:HV}(r:w.room<h.1/\w.other<h.1)(n:w∉h.2)(l:h.2.length<100):bY h w=.ok (h.1,h.2++[w]):=by unfold bY;rw[Ai (λz=>z r),Ai n,Ai (by omega)]
def uU{h:HV}(n:w∈h.2):bZ h w=.ok (h.1,h.2.filter λu=>decide (u≠w)):=by unfold bZ;rw[Aj n]
def rH{t u:Vb}{a b:Vn}(e:H t=Vo (.tup [.str a,.str b]))(f:H u=Vo (.tup [.str a,.str b]))(c:(PyData.str a).canLay0=true)(d:(PyData.str b).canLay0=true)(k:Q (.bl false) H):lV true (.ref t) (.ref u) H Q:=
 ⟨1,1,_,_,jg e c d,jg f c d,by decide,by rw[nF];simpa using k⟩
def vL:("show":Vn)=Cmd.line .show:=by decide +kernel
def uk(n:Int):("rooms ":Vn)++Tx.aA n=Cmd.line (.rooms n):=by
 have:Cmd.line (.rooms n)=(("rooms":Vn)++(" ":Vn))++Tx.aA n:=by show Txt.join ⟨#[32]⟩ [("rooms":Vn),Tx.aA n]=_;rw[Tx.dX];rfl
 rw[this,show ("rooms":Vn)++(" ":Vn) = "rooms " by decide +kernel]
def m6(n:Int):Tx.aA n++(":":Vn)=aO n []:=by unfold aO;show _=Tx.aA n++(":":Vn)++Txt.join ⟨#[44]⟩ [];rw[Tx.dX];exact(Str.append_empty _).symm
theorem mT{w:Way}:∀{ws:List Way},ws.Nodup->w∈ws->(ws.filter λu=>decide (u≠w)).length+1=ws.length
 | [],_,h=>nomatch h
 | a::t,nd,h=>by
  have n1:=(List.nodup_cons.mp nd).1;have n2:=(List.nodup_cons.mp nd).2;by_cases e:a=w
  .subst e;rw[List.filter_cons_of_neg (by simp),List.filter_eq_self.mpr λu b=>Ah (show u≠a from λz=>n1 (by rw[<-z];exact b))];rfl
  .rw[List.filter_cons_of_pos (by simpa using e),zM,zM,mT n2 ((zA.mp h).resolve_left (Ne.symm e))]
def Apt.new{K:zg}{b:Vb}{d:Dk}(D:DkAt K H p l1 l2 d)(c:H' b=Vo (.lst xs))(a:H b=Vp):Apt H' l1 l2 b xs:=by obtain⟨_,⟨vs,f,_⟩,⟨us,c1,_⟩,_⟩:=D;exact⟨c,λe=>(by rw[e,f]at a;cases a),λe=>(by rw[e,c1]at a;cases a)⟩
def WayL.of(ok:w.Ok m)(h:m<=12):WayL w:=⟨ok.r0,by have:=ok.r1;omega,ok.o0,by have:=ok.o1;omega,ok.dd,ok.sg⟩
def fb(h:HV):List Cmd:=.rooms h.1::h.2.map .way
def uf{h:HV}{i:Nat}(ok:HOuse h.1 h.2){c:Cmd}(e:(fb h)[i]?=Vo c):c.Ok:=by
 rcases zA.mp (zv e)with rfl|a
 .exact⟨ok.m1,ok.m12⟩
 .obtain⟨w,b,rfl⟩:=List.mem_map.mp a;exact WayL.of (ok.ok w b) ok.m12
def qp(h:HV):(fb h).length=h.2.length+1:=by unfold fb;rw[zM,zk]
def WayL.line_len(h:WayL w)(a:z.length<=6):([z,Tx.aA w.room,w.deed,Tx.aA w.other,w.sign].map (·.length)).sum+5*(zU " ").length<=1000000:=by have h1:=Tx.bV h.r0 h.r6;have h2:=Tx.bV h.o0 h.o6;have b:=ia h.dd;have c:=iR h.sg;have d:(zU " ").length=1:=rfl;simp only[List.map_cons,List.map_nil,List.sum_cons,List.sum_nil];omega
def rj(K:zg):Sp:=λvs H Q _=>∃v h,vs=[v]/\aV H v h/\∀l H',Ext H H'->H l=Vp->H' l=Vo (.lst ((fb h).map λc=>V.str c.line))->Q (.ref l) H'
abbrev ka:Vl:=stq 141
def qW:FnScope ["_law_house_here","_law_found","_law_room","_law_deed","_law_other","_law_sign"] ["_law_house_here"] (aw ka):=⟨rfl,rfl,rfl,by decide +kernel,rfl,by decide +kernel,by decide +kernel⟩
def xa{P:Vd}{w:Ve}{K:zg}{mg:Vn->Option Va}{base:Vh}(D:Dfn K mg "_law_lines" ka ["_law_house_here"])(T:Blt mg):Cal P w K mg base "_law_lines" 1 ["_law_house_here"] (rj K):=by
 have nd:=(qW).nd;refine D.ok qW (λvs H Q E h=>?_) (λX G H vs Q E h=>?_)
 .obtain⟨v,h,rfl,_⟩:=h;rfl
 .obtain⟨f,cdv,A,outer,s,H0,E0,rfl,N⟩:=G;obtain⟨v,h,rfl,⟨I,ok⟩,q⟩:=h;obtain⟨m,ws⟩:=h;have m1:1<=m:=ok.m1;have m12:m<=12:=ok.m12;have k:ws.length<=100:=ok.few;obtain⟨p,r,rfl,o,J⟩:=id I;obtain⟨bs,t,al⟩:=bx.al J;refine⟨_,(ai (aL (i:=1) nd rfl (Or.inl rfl) (bp (aa (aq cw ar (bz cJ rfl T.str_ PyProof.Rows.boot_str (aa (ak (aE K) (pv 0) af (λ_ _=>rfl)) ae))) ae)))
    (ai (dH PassesOwn.never rfl (fh K (ak (aE K) (pv 0) af (λ_ _=>rfl))) (iT (n:=4) K rfl (bX (aW (i:=2) nd rfl (Or.inl rfl)) (bX (aW (i:=3) nd rfl (Or.inl rfl)) (bX (aW (i:=4) nd rfl (Or.inl rfl)) (bX (aW (i:=5) nd rfl (Or.inl rfl)) gn))))) (aj (bD (bj K zt zG zH bU (pv 1) (aa (bj K PySem.F.plainAttrs_str PySem.F.slot_str_join PySem.F.type_str_join (fZ K) ar (aa (bp (aa ar (aa (bz cJ rfl T.str_ PyProof.Rows.boot_str (aa (pv 2) ae)) (aa (pv 3) (aa (bz cJ rfl T.str_ PyProof.Rows.boot_str (aa (pv 4) ae)) (aa (pv 5) ae)))))) ae)) ae)))))
    (aj (ay (pv 1))))),?_⟩
  walk_at"";refine aD (ah.of o) (v:=.int m) rfl ?_;walk_at"";refine⟨_,rfl,cM (by omega) (by omega),?_⟩;walk_at"";rw[show zU (toString m)=Tx.aA m from rfl];refine⟨_,_,rfl,rfl,aY (by have:=Tx.bV (n:=m) (by omega) (by omega);have O:(zU "rooms ").length=6:=rfl;omega),?_⟩;rw[uk];walk_at"";refine av λf H1 j L e=>?_;walk_at"";refine aD (ah.of (j _ _ o)) (v:=.ref r) rfl ?_;refine fw (ah.of (j _ _ t)) ?_;refine yl (xs:=bs.map V.ref) (λi σ H'=>Ext H H'/\(∃k2 k3 k4 k5,σ=[Vo (.ref p),Vo (.ref f),k2,k3,k4,k5])/\H' f=Vo (.lst ((Cmd.rooms m::(ws.take i).map Cmd.way).map λc=>V.str c.line))) ⟨j,⟨_,_,_,_,rfl⟩,L⟩ (λi σ H' _ h=>ah.of (h.1 _ _ t)) ?_ ?_
  .rintro i x σ H' u ⟨g,⟨k2,k3,k4,k5,rfl⟩,a⟩;rw[zm]at u;obtain⟨b,y,rfl⟩:=zx.mp u;have hi:i<ws.length:=by rw[<-al.1];exact(zu.mp y).1
   have d:ws[i]?=some ws[i]:=zl hi;have B:=g _ _ (al.2 i b _ y d);have wl:=WayL.of (ok.ok _ (zL hi)) m12;rw[List.take_add_one,d,zC];generalize ws[i]=w at d B wl ⊢;refine gR (ah.of B) rfl ?_;walk_at"";refine⟨dn (ag.of a),?_⟩;walk_at"";refine⟨rfl,?_⟩;walk_at"";refine⟨_,rfl,cM wl.r0 wl.r6,?_⟩;walk_at"";refine⟨_,rfl,cM wl.o0 wl.o6,?_⟩;walk_at"";refine av λl R C M _=>?_;walk_at"";refine⟨_,l,"way" :: gm w,rfl,rfl,ag.of M,wl.line_len (z:="way") (by decide),?_⟩;walk_at"";refine bQ (C _ _ a) (ip (by rw[zk,zM,zk,Ac];omega)) ?_;refine⟨eS (g.trans C) e,⟨_,_,_,_,rfl⟩,?_⟩;rw[aM,<-List.cons_append,zC];rfl
  .rintro σ H' ⟨g,⟨k2,k3,k4,k5,rfl⟩,a⟩;rw[zk,al.1,zN]at a;walk_at"";exact q f H' g e a
def uo(nd:ws.Nodup){j:Nat}(h:ws[j]?=Vo w):w∉ws.take j:=λb=>by obtain⟨k,c⟩:=List.getElem?_of_mem b;obtain⟨d,rfl⟩:=zu.mp h;obtain⟨a,e⟩:=zu.mp c;rw[Ac]at a;rw[List.getElem_take]at e;exact List.pairwise_iff_getElem.mp nd k j (by omega) d (by omega) e
def wk{h:HV}(ok:HOuse h.1 h.2){i:Nat}{d:Dk}{c:Cmd}(e:(fb h)[i]?=Vo c)(g:d.past.length=i)(l:d.und=[])(a:i=0\/d.cur=(h.1,h.2.take (i-1))):∃z d',bB d c=.ok (z,d')/\d'.past.length=i+1/\d'.und=[]/\d'.cur=(h.1,h.2.take i):=by
 cases i with
 | zero=>
  cases e;exact⟨_,_,rfl,by show(d.past++[d.cur]).length=1;rw[zD,g];rfl,rfl,rfl⟩
 | succ j=>
  rcases a with a|a
  .cases a
  have e:(h.2.map Cmd.way)[j]?=Vo c:=e;rw[zm]at e;obtain⟨w,f,rfl⟩:=zx.mp e;have b:=ok.ok w (zv f);have m:=(zu.mp f).1;have n:=ok.few;have a:d.cur=(h.1,h.2.take j):=a;have k:bY d.cur w=.ok (h.1,h.2.take j++[w]):=by rw[a];exact uz (h:=(h.1,h.2.take j)) ⟨b.r1,b.o1⟩ (uo ok.nd f) (by show(h.2.take j).length<100;rw[Ac];omega)
  exact⟨_,_,yR k,by show(d.past++[d.cur]).length=j+1+1;rw[zD,g];rfl,rfl,by rw[List.take_add_one,f];rfl⟩
def Fr.ext{H2:Hp}(e:Ext H H1)(fr:Fr H1 H2 p l1 l2)(a:H p=Vp)(h1:H l1=Vp)(h2:H l2=Vp):Ext H H2:=λb o z=>fr b o (e b o z) (bt z a) (bt z h1) (bt z h2)
def DkAt.apart{K:zg}{k1 k2:Vb}{d:Dk}(D:DkAt K H p l1 l2 d)(c:H a=Vp)(h1:H k1=Vp)(h2:H k2=Vp):p≠a/\l1≠k1/\l1≠k2/\l2≠k1/\l2≠k2:=by obtain⟨⟨dx,v,a1,_⟩,⟨vs,b,_⟩,⟨us,c1,_⟩,_⟩:=D;exact⟨bt a1 c,bt b h1,bt b h2,bt c1 h1,bt c1 h2⟩
def DkAt.keep{K:zg}{b k1 k2:Vb}{d d':Dk}(D:DkAt K H p l1 l2 d)(f:DkAt K H b k1 k2 d')(fr:Fr H H' b k1 k2)(h:p≠b)(n1:l1≠k1)(n2:l1≠k2)(i:l2≠k1)(j:l2≠k2):DkAt K H' p l1 l2 d:=by have tk:=fr.tk f;obtain⟨⟨k,o,a,_⟩,⟨l,c,_⟩,⟨m,e,_⟩,_⟩:=f;obtain⟨⟨dx,v,a1,a2⟩,⟨vs,g,n⟩,⟨us,c1,c2⟩,ne⟩:=D;exact⟨⟨dx,v,fr _ _ a1 h (bw a1 c (by intro z;cases z)) (bw a1 e (by intro z;cases z)),a2.tk tk⟩,⟨vs,fr _ _ g (bw g a (by intro z;cases z)) n1 n2,dU tk n⟩,⟨us,fr _ _ c1 (bw c1 a (by intro z;cases z)) i j,dU tk c2⟩,ne⟩
def m9(K:zg):Sp:=λvs H Q _=>∃v h,vs=[v]/\aV H v h/\∀p l1 l2 d H',Ext H H'->H p=Vp->H l1=Vp->H l2=Vp->DkAt K H' p l1 l2 d->d.cur=h->d.past.length<=101->d.und=[]->Q (.ref p) H'
abbrev ki:Vl:=stq 142
def oY:FnScope ["_law_house_here","_law_desk","_law_line"] ["_law_house_here"] (aw ki):=⟨rfl,rfl,rfl,by decide +kernel,rfl,by decide +kernel,by decide +kernel⟩
def wu{P:Vd}{w:Ve}{K:zg}{mg:Vn->Option Va}{base:Vh}(D:Dfn K mg "_law_made_desk" ki ["_law_house_here"])(T:Blt mg)(TD:DeskK K mg)(g:MkD P w K mg base "Desk" 1 (kj K))(a:Cal P w K mg base "_law_lines" 1 ["_law_house_here"] (rj K))(e:Cal P w K mg base "_law_tell" 10 ["_law_desk","_law_line"] (kR K)):Cal P w K mg base "_law_made_desk" 11 ["_law_house_here"] (m9 K):=by
 have nd:=(oY).nd;refine D.ok oY (λvs H Q E h=>?_) (λX Z H vs Q E h=>?_)
 .obtain⟨v,h,rfl,_⟩:=h;rfl
 .obtain⟨f,cdv,A,outer,s,H0,E0,rfl,G⟩:=Z;obtain⟨v,h,rfl,n,q⟩:=h;refine⟨_,(ai (aL (i:=1) nd rfl (Or.inl rfl) (yg g G))
    (ai (dH PassesOwn.never rfl (jk K (az a G (aa (pv 0) ae))) (aW (i:=2) nd rfl (Or.inl rfl)) (aj (aT (aN cT (ak (aE K) (az e G (aa (pv 1) (aa (pv 2) ae))) af (λ_ _=>rfl)) ar (aI _)) (aj (ay hI)) aQ)))
    (aj (ay (pv 1))))),?_⟩
  walk_at"";intro p dx m j I;refine⟨p,dx,rfl,aM,λl1 l2 H3 n1 n2 D fr=>⟨rfl,?_⟩⟩;have O:Ext H H3:=λb o z=>fr b o (by rw[au (bt z m),au (bt z j)];exact z) (bt z m);have r:H l1=Vp:=by
   cases z:H l1 with
   | none=>rfl
   | some o=>rw[au (bt z m),au (bt z j),z]at n1;cases n1
  have J:H l2=Vp:=by
   cases z:H l2 with
   | none=>rfl
   | some o=>rw[au (bt z m),au (bt z j),z]at n2;cases n2
  clear fr n1 n2 j I;walk_at"";refine⟨v,h,rfl,n.ext O,λl H4 R L S=>?_⟩;walk_at"";refine gU (ag.of S) ?_;refine forL (xs:=(fb h).map λc=>V.str c.line) (λi σ H'=>∃k2 l3 d,σ=[Vo v,Vo (.ref p),k2]/\DkAt K H' p l1 l3 d/\Apt H' l1 l3 l ((fb h).map λc=>V.str c.line)/\Ext H H'/\H l3=Vp/\d.past.length=i/\d.und=[]/\(i=0\/d.cur=(h.1,h.2.take (i-1)))) ⟨_,l2,_,rfl,D.ext R,Apt.new D S L,O.trans R,J,rfl,rfl,.inl rfl⟩ (λi σ H' _ h=>by obtain⟨_,_,_,_,_,x,_⟩:=h;exact ag.of x.at_) ?_ ?_
  .rintro i x σ U W ⟨k2,l3,d,rfl,y,u,B,C,M,F,k⟩;rw[zm]at W;obtain⟨c,N,rfl⟩:=zx.mp W;have hi:=(zu.mp N).1;rw[qp]at hi;have hf:=n.2.few;obtain⟨z,d2,et,g1,g2,g3⟩:=wk n.2 N M F k;walk_at"";refine⟨p,l1,l3,d,c,rfl,y,uf n.2 N,by omega,by rw[F];exact Nat.zero_le _,ed.ok et ?_⟩;intro t l4 H6 Y D6 fr ht;walk_at"";refine aD (ah.of ht) (v:=.str "told") rfl ?_;walk_at"";refine fy ?_;walk_at"";refine ax ?_;walk_at"";exact⟨_,l4,d2,rfl,D6,u.step y fr Y,Fr.ext B fr m r C,(Y.elim (λz=>by rw[z];exact C) λz=>B.none z),g1,g2,.inr g3⟩
  .rintro σ U ⟨k2,l3,d,rfl,y,u,B,C,M,F,k⟩;rw[zk,qp]at M k;have hf:=n.2.few;walk_at"";refine q p l1 l3 d U B m r C y ?_ (by omega) F;rcases k with k|k
   .omega
   .rw[k,Nat.add_sub_cancel,zN]
def cN{K:zg}{x:Vn}{C:Vb}(h:PySem.W.nsIn K Vj x=Vo (Vo (.ref C))):cA K x=C:=by unfold cA;rw[h]
def jn(K:zg):Bool:=
 PySem.W.nsIn K Vj "Desk" == Vo (Vo (.ref (cA K "Desk"))) && PySem.W.plainGet K (cA K "Desk") Str.empty && PySem.W.hasDictIn K (cA K "Desk") && PySem.W.plainOver K (cA K "Desk") &&
 PySem.W.findIn K (.ref (cA K "Desk")) "__setattr__" == Vo (Vo (.builtin "object.__setattr__")) && PySem.W.findIn K (.ref (cA K "Desk")) "house" == Vo Vp && PySem.W.findIn K (.ref (cA K "Desk")) "past" == Vo Vp && PySem.W.findIn K (.ref (cA K "Desk")) "undone" == Vo Vp &&
 PySem.W.makesIn K (cA K "Desk") && PySem.W.keepIn K (.ref (cA K "Desk")) && (["rooms_deed","way_deed","close_deed","turn_deed","show_ask"]:List Vn).all λx=>PySem.W.nsIn K Vj x == Vo (Vo (.ref (cA K x)))
def yH{K:zg}{h:Vh}(X:K.In h)(G:h.Ns Vj mg)(b:jn K=true):DeskK K mg/\mg "Desk" = Vo (.ref (cA K "Desk"))/\PySem.W.makesIn K (cA K "Desk")=true/\PySem.W.keepIn K (.ref (cA K "Desk"))=true:=by unfold jn at b;simp only[zT,beq_iff_eq,zR]at b;obtain⟨⟨⟨⟨⟨⟨⟨⟨⟨⟨h1,h2⟩,a⟩,c⟩,d⟩,e⟩,f⟩,g⟩,i⟩,j⟩,k⟩:=b;exact⟨⟨⟨h2,a,c,d⟩,e,f,g,λx l=>PySem.W.mg_of X G (k x l)⟩,PySem.W.mg_of X G h1,i,j⟩
def iZ{K:zg}{C:Vb}{m qual:Vn}{oc:Va}{od an:Option Vb}{osl:Array (Option Va)}{kV doc pm cdv ct:Va}{ps:List Vn}(nD:PySem.W.nsIn K Vj "Desk" = Vo (Vo (.ref C)))(a:PySem.W.findIn K (.ref C) m=Vo (Vo (.ref f)))
  (l:K.lookup f=Vo ⟨oc,od,.func (PySem.W.fnOf m qual (cj st) (bN st) (aw st) .none kV doc pm an cdv ct),osl⟩) (c:PySem.W.codeIn K cdv qual=true) (k:PySem.W.keepIn K (.ref f)=true) (i:PySem.W.isFn K (.ref f)=true)
  (b:Fun K m qual st f (PySem.W.fnOf m qual (cj st) (bN st) (aw st) .none kV doc pm an cdv ct)->Binds K (PySem.W.fnOf m qual (cj st) (bN st) (aw st) .none kV doc pm an cdv ct) ps []):MDfn K (cA K "Desk") m qual st ps:=by
 have F:=i5 (st:=st) l c k;exact⟨⟨f,_,⟨by rw[cN nD];exact a,i,k⟩,F,b F⟩⟩
def bo(K:zg)(b:Vb)(ks:List Vn):Prop:=∃(od:Option Vb) (a:Array Va) (n:Nat) (sl:Array (Option Va)),K.lookup b=Vo ⟨.type "tuple",od,.seq a n,sl⟩/\a.size<=sizeLine/\Vals (ks.map V.str) a.toList
def bo.sq{K:zg}{b:Vb}{ks:List Vn}(h:bo K b ks)(H:Hp):ah K H b (ks.map V.str):=by obtain⟨od,a,n,sl,h1,h2,c⟩:=h;exact .inr ⟨_,a,n,h1,rfl,rfl,h2,c⟩
def kr(K:zg):List (Vn×Vb×List Vn)->Prop
 | []=>True
 | r::t=>bo K r.2.1 r.2.2/\kr K t
def gG:List (Vn×Vb×List Vn)->Vn->Option (List Vn)
 | [],_=>Vp
 | r::t,z=>if z=r.1 then Vo r.2.2 else gG t z
theorem nJ{K:zg}(z:Vn):∀{rows:List (Vn×Vb×List Vn)},kr K rows->match gG rows z with
  | some ks=>∃b,bu (rows.map λr=>((.inr r.1:Key),V.ref r.2.1)) (.inr z)=Vo (.ref b)/\∀H,ah K H b (ks.map V.str)
  | none=>bu (rows.map λr=>((.inr r.1:Key),V.ref r.2.1)) (.inr z)=Vp
 | [],_=>rfl
 | r::t,h=>by
  by_cases e:z=r.1
  .rw[show gG (r::t) z=Vo r.2.2 from Aj e];exact⟨r.2.1,by rw[List.map_cons,e];exact fg rfl,h.1.sq⟩
  .rw[show gG (r::t) z=gG t z from Ai e,List.map_cons,dS (λx=>e (Sum.inr.inj x).symm)];exact nJ z h.2
def yC{w:Ve}{K:zg}{r1 b c d:Vb}{e f i:Tok}(h:K.lookup a=Vo (dw w [("rooms",e,.ref r1),("way",f,.ref b),("close",g,.ref c),("turn",i,.ref d)] ep))(j:(a == sysModules)=false)
  (n1:PySem.W.nsIn K Vj "rooms_deed" = Vo (Vo (.ref r1))) (n2:PySem.W.nsIn K Vj "way_deed" = Vo (Vo (.ref b))) (k:PySem.W.nsIn K Vj "close_deed" = Vo (Vo (.ref c))) (l:PySem.W.nsIn K Vj "turn_deed" = Vo (Vo (.ref d))):GDict w K a (fj K):=by
 obtain rfl:=cN n1;obtain rfl:=cN n2;obtain rfl:=cN k;obtain rfl:=cN l;exact⟨⟨_,_,h,.cons ⟨rfl,rfl⟩ (.cons ⟨rfl,rfl⟩ (.cons ⟨rfl,rfl⟩ (.cons ⟨rfl,rfl⟩ .nil)))⟩,(show([.inr "rooms",.inr "way",.inr "close",.inr "turn"]:List Key).Nodup by decide +kernel),j⟩
def uH{w:Ve}{K:zg}{r1 b c d e r6:Vb}{i j k l m n:Tok}(h:K.lookup a=Vo (dw w [("show",g,.ref r1),("reach",i,.ref b),("forward",j,.ref c),("backward",k,.ref d),("most",l,.ref e),("fate",m,.ref r6),("word",n,.ref f)] ep))(o:(a == sysModules)=false)
  (n1:PySem.W.nsIn K Vj "show_ask" = Vo (Vo (.ref r1))) (n2:PySem.W.nsIn K Vj "reach_ask" = Vo (Vo (.ref b))) (p:PySem.W.nsIn K Vj "forward_ask" = Vo (Vo (.ref c))) (q:PySem.W.nsIn K Vj "backward_ask" = Vo (Vo (.ref d))) (r:PySem.W.nsIn K Vj "most_ask" = Vo (Vo (.ref e))) (s:PySem.W.nsIn K Vj "fate_ask" = Vo (Vo (.ref r6))) (t:PySem.W.nsIn K Vj "word_ask" = Vo (Vo (.ref f))):GDict w K a (hG K):=by
 obtain rfl:=cN n1;obtain rfl:=cN n2;obtain rfl:=cN p;obtain rfl:=cN q;obtain rfl:=cN r;obtain rfl:=cN s;obtain rfl:=cN t;exact⟨⟨_,_,h,.cons ⟨rfl,rfl⟩ (.cons ⟨rfl,rfl⟩ (.cons ⟨rfl,rfl⟩ (.cons ⟨rfl,rfl⟩ (.cons ⟨rfl,rfl⟩ (.cons ⟨rfl,rfl⟩ (.cons ⟨rfl,rfl⟩ .nil))))))⟩,(show([.inr "show",.inr "reach",.inr "forward",.inr "backward",.inr "most",.inr "fate",.inr "word"]:List Key).Nodup by decide +kernel),o⟩
def yZ{w:Ve}{K:zg}{e g i j k l m n o b c d:Vb}{x y A B C E F G H I p q s:Tok}(h:K.lookup a=Vo (dw w [("rooms",x,.ref e),("way",y,.ref f),("close",A,.ref g),("turn",B,.ref i),("undo",C,.ref j),("redo",E,.ref k),("show",F,.ref l),("reach",G,.ref m),("forward",H,.ref n),("backward",I,.ref o),("most",p,.ref b),("fate",q,.ref c),("word",s,.ref d)] ep))(J:(a == sysModules)=false)
  (L:bo K e ["many"]) (M:bo K f ["number","deed","number","sign"]) (N:bo K g ["number","deed","number","sign"]) (O:bo K i []) (P:bo K j []) (Q:bo K k []) (S:bo K l []) (T:bo K m ["number","number","number","number"]) (U:bo K n ["number","number","number"]) (W:bo K o ["number","number","number"]) (t:bo K b ["number","number"]) (u:bo K c ["number","number"]) (v:bo K d ["number","number"]):∃kvs,GDict w K a kvs/\o3 K kvs:=by
 have R:kr K [("rooms",e,["many"]),("way",f,["number","deed","number","sign"]),("close",g,["number","deed","number","sign"]),("turn",i,[]),("undo",j,[]),("redo",k,[]),("show",l,[]),("reach",m,["number","number","number","number"]),("forward",n,["number","number","number"]),("backward",o,["number","number","number"]),("most",b,["number","number"]),("fate",c,["number","number"]),("word",d,["number","number"])]:=⟨L,M,N,O,P,Q,S,T,U,W,t,u,v,trivial⟩;refine⟨([("rooms",e,["many"]),("way",f,["number","deed","number","sign"]),("close",g,["number","deed","number","sign"]),("turn",i,[]),("undo",j,[]),("redo",k,[]),("show",l,[]),("reach",m,["number","number","number","number"]),("forward",n,["number","number","number"]),("backward",o,["number","number","number"]),("most",b,["number","number"]),("fate",c,["number","number"]),("word",d,["number","number"])]:List (Vn×Vb×List Vn)).map (λ(r:Vn×Vb×List Vn)=>((.inr r.1:Key),V.ref r.2.1)),⟨⟨_,_,h,.cons ⟨rfl,rfl⟩ (.cons ⟨rfl,rfl⟩ (.cons ⟨rfl,rfl⟩ (.cons ⟨rfl,rfl⟩ (.cons ⟨rfl,rfl⟩ (.cons ⟨rfl,rfl⟩ (.cons ⟨rfl,rfl⟩ (.cons ⟨rfl,rfl⟩ (.cons ⟨rfl,rfl⟩ (.cons ⟨rfl,rfl⟩ (.cons ⟨rfl,rfl⟩ (.cons ⟨rfl,rfl⟩ (.cons ⟨rfl,rfl⟩ .nil))))))))))))⟩,(show([.inr "rooms",.inr "way",.inr "close",.inr "turn",.inr "undo",.inr "redo",.inr "show",.inr "reach",.inr "forward",.inr "backward",.inr "most",.inr "fate",.inr "word"]:List Key).Nodup by decide +kernel),J⟩,λz=>?_⟩;exact nJ z R
abbrev hD(m:Int)(ws:List Way):PyData:=.tuple [.int m,.tuple (ws.map Way.D)]
def bh.rep{v:V}(h:bh H v m ws)(ok:HOuse m ws):aF H 3 v (hD m ws):=by obtain⟨p,q,rfl,h1,h2⟩:=h;obtain⟨bs,a,al⟩:=bx.al h2;exact .inr ⟨p,_,_,rfl,.inl ⟨h1,rfl⟩,.cons (.inl rfl) (.cons (.inr ⟨q,_,_,rfl,.inl ⟨a,rfl⟩,al.reps λu b=>(ok.ok u b).lay⟩) .nil)⟩
theorem rX:∀ws:List Way,PyData.eqvAll (ws.map Way.D) (ws.map Way.D)=true
 | []=>rfl
 | w::ws=>by show(PyData.eqv w.D w.D && PyData.eqvAll (ws.map Way.D) (ws.map Way.D))=true;rw[Way.eqv,rX ws,Ah rfl];rfl
def qt(m:Int)(ws:List Way):PyData.eqv (hD m ws) (hD m ws)=true:=by show((m == m) && ((PyData.eqvAll (ws.map Way.D) (ws.map Way.D)) && true))=true;rw[rX];simp
theorem mR{α:Type}{l:List α}:∀n:Nat,(Af n).filterMap (λk=>l[k]?)=l.take n
 | 0=>rfl
 | n+1=>by rw[List.range_succ,List.filterMap_append,mR n,List.take_add_one];cases e:l[n]?<;>simp[List.filterMap_cons,e]
theorem fI{α β:Type}{f g:α->Option β}:∀{l:List α},(∀x∈l,f x=g x)->l.filterMap f=l.filterMap g
 | [],_=>rfl
 | a::l,h=>by rw[List.filterMap_cons,List.filterMap_cons,h a zr,fI λx b=>h x (zo a b)]
def wJ{α:Type}(xs:List α):eR xs=xs.reverse:=by
 have h:eR xs=(Af xs.length).filterMap λk=>xs.reverse[k]?:=fI λk a=>by have a:=List.mem_range.mp a;rw[List.getElem?_reverse a,show ((xs.length:Int)-1+(k:Int)*(-1)).toNat=xs.length-1-k by omega]
 rw[h,mR,List.take_of_length_le (by rw[List.length_reverse];exact zF _)]
def HOuse.rev(h:HOuse m ws):HOuse m ws.reverse:=⟨h.m1,h.m12,by rw[List.length_reverse];exact h.few,λw a=>h.ok w (List.mem_reverse.mp a),by have:=h.nd;unfold List.Nodup at this ⊢;rw[List.pairwise_reverse];exact this.imp λz e=>z e.symm⟩
def kd{d:Dk}(h:d.cur=(m,ws)):bB d .show=.ok (aO m ws,d):=by show Except.ok (aO d.cur.1 d.cur.2,d)=_;rw[h]
def iX(K:zg):Sp:=λvs H Q _=>∃(a:Vb) (ns:List Int),vs=[.ref a]/\ag K H a (ns.map V.int)/\ns.length<=63/\∀H',Q (.bl true) H'
abbrev dR:Vl:=stq 143
def qA:FnScope ["_law_script","_law_house_here","_law_far","_law_desk","_law_word","_law_text","_law_found","_law_again","_law_backward_house","_law_other","_law_left","_law_way","_law_line"] ["_law_script"] (aw dR):=⟨rfl,rfl,rfl,by decide +kernel,rfl,by decide +kernel,by decide +kernel⟩
def w6{w:Ve}{K:zg}{fd:Vm}(F:Fun K "law" "law" dR f fd)(T:Blt mg)(p:Cal P w K mg base "read_house" 6 ["text"] (rA K))(g:Cal P w K mg base "_law_tell" 10 ["_law_desk","_law_line"] (kR K))(e:Cal P w K mg base "_law_house_text" 1 ["_law_house_here"] (oP K))(k:Cal P w K mg base "_law_made_desk" 11 ["_law_house_here"] (m9 K))(y:Cal P w K mg base "shown_house" 7 ["house"] (iJ K))(B:Cal P w K mg base "_law_draws" 2 ["_law_cell_here","_law_widths","_law_prime"] (eZ K))(r:Cal P w K mg base "_law_cell" 1 ["_law_script","_law_k"] (qz K))(C:Cal P w K mg base "_law_house" 4 ["_law_cell_here","_law_prime"] (mY K)):FnOk P w K mg base dk 12 f fd ["_law_script"] (iX K):=by
 have nd:=(qA).nd;refine F.ok qA (λvs H Q E h=>?_) (λcdv A outer s H vs Q E t h=>?_)
 .obtain⟨a,ns,rfl,_⟩:=h;rfl
 .obtain⟨a,ns,rfl,ha,hlen,q⟩:=h;refine⟨_,(ai (aL (i:=1) nd rfl (Or.inl rfl) (az C t (aa (az r t (aa (pv 0) (aa af ae))) (aa af ae))))
    (ai (aL (i:=2) nd rfl (Or.inl rfl) (ak (aG K) (az B t (aa (az r t (aa (pv 0) (aa af ae))) (aa (bp (aa af ae)) (aa af ae)))) af (λ_ _=>rfl)))
    (ai (aL (i:=3) nd rfl (Or.inl rfl) (az k t (aa (pv 1) ae)))
    (ai (aT (aN lD (pv 3) hI (aI _)) (aj (ay cQ)) aQ)
    (ai (rl (az g t (aa (pv 3) (aa ar ae))) (iT (n:=2) K rfl (bX (aW (i:=4) nd rfl (Or.inl rfl)) (bX (aW (i:=5) nd rfl (Or.inl rfl)) gn))))
    (ai (aT (PW.pt (cK (aN cT (pv 4) ar (aI _)) (cV (aN cT (pv 5) (az e t (aa (pv 1) ae)) (aI _))))) (aj (ay cQ)) aQ)
    (ai (aL (i:=6) nd rfl (Or.inl rfl) (az p t (aa (pv 5) ae)))
    (ai (aT (PW.pt (cK (aN (gD t) (pv 6) (pv 1) (aI _)) (cV (aN cT (az y t (aa (pv 6) ae)) (pv 5) (aI _))))) (aj (ay cQ)) aQ)
    (ai (aL (i:=7) nd rfl (Or.inl rfl) (az k t (aa (pv 6) ae)))
    (ai (aL (i:=8) nd rfl (Or.inl rfl) (aJ (aa (ak (aE K) (pv 1) af (λ_ _=>rfl)) (aa (yQ (ak (aE K) (pv 1) af (λ_ _=>rfl)) (fM (pE oZ af))) ae))))
    (ai (aL (i:=9) nd rfl (Or.inl rfl) (az k t (aa (pv 8) ae)))
    (ai (aT (PW.pt (cK (aN lD (pv 7) hI (aI _)) (cV (aN lD (pv 9) hI (aI _))))) (aj (ay cQ)) aQ)
    (ai (aT (PW.pt (cK (aN (gD t) (az g t (aa (pv 7) (aa ar ae))) (aJ (aa (pv 4) (aa (pv 5) ae))) (aI _)) (cV (aN cT (ak (aE K) (az g t (aa (pv 9) (aa ar ae))) af (λ_ _=>rfl)) (az e t (aa (pv 8) ae)) (aI _))))) (aj (ay cQ)) aQ)
    (ai (aL (i:=10) nd rfl (Or.inl rfl) (pv 1))
    (ai (xP PassesOwn.never (aN jd (aS (cz K) rfl T.len_ PySem.boot_len (aa (ak (aE K) (pv 10) af (λ_ _=>rfl)) ae)) af (aI _)) (ai (aL (i:=11) nd rfl (Or.inr rfl) (ak (aE K) (ak (aE K) (pv 10) af (λ_ _=>rfl)) (aq cp (pv 2) (aS (cz K) rfl T.len_ PySem.boot_len (aa (ak (aE K) (pv 10) af (λ_ _=>rfl)) ae))) (λ_ _=>rfl)))
    (ai (aL (i:=10) nd rfl (Or.inl rfl) (aJ (aa (ak (aE K) (pv 10) af (λ_ _=>rfl)) (aa (bz (eh K) rfl T.tuple_ PyProof.Rows.boot_tuple (aa (eO ["_law_one"] [11] (fh K (ak (aE K) (pv 10) af (λ_ _=>rfl))) (λ_=>(aW (i:=0) (show(["_law_one","_law_way"]:List Vn).Nodup from by decide +kernel) rfl (Or.inl rfl) (Or.inr rfl))) (λ_=>(kh (aN (gD t) (pv 0) (pv 1) (aI _)))) (λ_=>(pv 0))) ae)) ae))))
    (ai (aL (i:=12) nd rfl (Or.inl rfl) (bj K PySem.F.plainAttrs_str PySem.F.slot_str_join PySem.F.type_str_join (fZ K) ar (aa (bp (aa ar (aa (bz cJ rfl T.str_ PyProof.Rows.boot_str (aa (ak (aE K) (pv 11) af (λ_ _=>rfl)) ae)) (aa (ak (aE K) (pv 11) af (λ_ _=>rfl)) (aa (bz cJ rfl T.str_ PyProof.Rows.boot_str (aa (ak (aE K) (pv 11) af (λ_ _=>rfl)) ae)) (aa (ak (aE K) (pv 11) af (λ_ _=>rfl)) ae)))))) ae)))
    (aj (aT (aN (gD t) (az g t (aa (pv 3) (aa (pv 12) ae))) (aJ (aa ar (aa (az e t (aa (pv 10) ae)) ae))) (aI _)) (aj (ay cQ)) aQ))))))
    (aj (ay (dm (fE (qr t) (az g t (aa (pv 3) (aa ar ae))) (aJ (aa ar (aa (aq cw (bz cJ rfl T.str_ PyProof.Rows.boot_str (aa (ak (aE K) (pv 1) af (λ_ _=>rfl)) ae)) ar) ae))) (aI _)) (dF (fE (qr t) (az p t (aa (aq cw (bz cJ rfl T.str_ PyProof.Rows.boot_str (aa (ak (aE K) (pv 1) af (λ_ _=>rfl)) ae)) ar) ae)) (pv 10) (aI _))))))))))))))))))))),?_⟩
  walk_at"";refine⟨a,ns,0,rfl,ha,hlen,by omega,λz=>?_⟩;walk_at"";refine⟨z,_,rfl,by decide,λv m ws H1 e1 hv ok3=>?_⟩;have ok:=ok3.house;clear ok3;walk_at"";refine⟨a,ns,1,rfl,ha.ext e1,hlen,by omega,λz2=>?_⟩;walk_at"";refine av λw H2 e2 bi hw=>?_;walk_at"";refine gQ [100] bi (by decide) (by decide) (by decide) λdq ds H3 e3 hd d9 N hb=>?_;obtain⟨d0,rfl⟩:∃d0,ds=[d0]:=by
   match ds,N with
   | [d0],_=>exact⟨d0,rfl⟩
  have b0:=hb 0 _ _ rfl rfl;obtain⟨far,rfl⟩:∃c:Nat,d0=(c:Int):=⟨d0.toNat,by omega⟩;walk_at"";refine aB (ag.of hd) (v:=.int (far:Int)) (bC (j:=0) rfl) ?_;have I:aV H3 v (m,ws):=⟨hv.ext (e2.trans e3),ok⟩;clear hb N d9 bi hd hw hv b0 e1 e2 e3 ha z z2;walk_at"";refine⟨v,(m,ws),rfl,I,λpA U da dA H4 e4 db dc dd DA cA fA uA=>?_⟩;walk_at"";refine⟨rfl,?_⟩;rw[Ag (show ¬(V.ref pA=V.non) by intro z;cases z)];refine rd_exb (ax ?_);walk_at"";rw[vL];have eA:bB dA .show=.ok (aO m ws,dA):=by show Except.ok (aO dA.cur.1 dA.cur.2,dA)=_;rw[cA]
  refine⟨pA,U,da,dA,.show,rfl,DA,trivial,by omega,by rw[uA];exact Nat.zero_le _,ed.ok eA ?_⟩;intro t1 en H5 df bl bm bn;have ac:=(I.ext e4).tk (bm.tk DA);clear df bm DA I e4 db dc dd eA;walk_at"";refine gR (ah.of bn) rfl ?_;walk_at"";refine fy ?_;walk_at"";refine ax ?_;walk_at"";refine⟨v,m,ws,rfl,ac.1,ok,λH6 e6=>?_⟩;refine fy ?_;rw[Ah rfl];refine rd_exb (ax ?_);walk_at"";refine⟨m,ws,rfl,ok,λv2 H7 e7 J=>?_⟩;have bv:=bl.ext (e6.trans e7);have ad:=ac.ext (e6.trans e7);clear bl ac bn e6 e7;walk_at"";refine⟨3,3,_,_,J.rep ok,ad.1.rep ok,by decide,?_⟩;rw[qt];simp only[if_true,Bool.not_true];refine rd_exb (ax ?_);walk_at"";refine⟨v2,m,ws,rfl,J,ok,λH8 e8=>?_⟩;walk_at"";refine fy ?_;rw[Ah rfl];refine rd_exb (ax ?_);walk_at"";have am:=bv.ext e8;have c0:=ad.ext e8;have c1:aV H8 v2 (m,ws):=⟨J.ext e8,ok⟩;clear bv ad J e8;refine⟨v2,(m,ws),rfl,c1,λpB dl dp dB H9 e9 c2 c3 c4 DB cB fB uB=>?_⟩;obtain⟨x0,x1,x2,x3,x4⟩:=am.apart c2 c3 c4;have c5:=am.ext e9;have an:=c0.ext e9;clear am c0 c1 e9 c2 c3 c4;obtain⟨⟨pv,tv,rfl,S,g2⟩,_⟩:=id an;obtain⟨bs,g3,al⟩:=bx.al g2;walk_at"";refine aD (ah.of S) (v:=.int m) rfl ?_;walk_at"";refine aD (ah.of S) (v:=.ref tv) rfl ?_;walk_at"";refine⟨rfl,?_⟩;refine xn g3 (bF λtb HA eA ap _=>?_);rw[wJ,<-List.map_reverse]at ap;walk_at"";refine av λbk HB eB c6 _=>?_;have c7:=ok.rev;have a1:=eA.trans eB;have as:aV HB (.ref bk) (m,ws.reverse):=⟨bh.mk c6 ((((al.rev).ext eA).ways ap).ext eB),c7⟩;have b1:=c5.ext a1;have b2:=DB.ext a1;have c8:=an.ext a1;clear c5 DB an S g2 g3 al ap c6 eA eB a1;walk_at"";refine⟨.ref bk,(m,ws.reverse),rfl,as,λpC dr dt dC HC eC b3 b4 b5 DC cC fC uC=>?_⟩;obtain⟨y0,y1,y2,y3,y4⟩:=b1.apart b3 b4 b5;obtain⟨w0,w1,w2,w3,w4⟩:=b2.apart b3 b4 b5;have c9:=b1.ext eC;have O:=b2.ext eC;have ca:=c8.ext eC;have cd:=as.ext eC;clear b1 b2 c8 as eC b3 b4 b5;walk_at"";refine⟨rfl,?_⟩;rw[Ag (show ¬(V.ref pB=V.non) by intro z;cases z)];refine rd_exb (ax ?_);walk_at"";refine⟨rfl,?_⟩;rw[Ag (show ¬(V.ref pC=V.non) by intro z;cases z)];refine rd_exb (ax ?_);walk_at"";refine⟨pB,dl,dp,dB,.show,rfl,O,trivial,by omega,by rw[uB];exact Nat.zero_le _,ed.ok (kd cB) ?_⟩;intro t2 ep HD dx e0 fr6 R;have ce:=c9.keep O fr6 x0 x1 x2 x3 x4;have cf:=DC.keep O fr6 w0.symm w1.symm w3.symm w2.symm w4.symm;have cg:=ca.tk (fr6.tk O);have ch:=cd.tk (fr6.tk O);clear c9 O DC ca cd dx fr6 e0;walk_at"";refine av λu2 HE eE a2 _=>?_;refine rH (eE _ _ R) a2 i9.1 (ie ok) ?_;refine rd_exb (ax ?_);have ci:=ce.ext eE;have W:=cf.ext eE;have cl:=cg.ext eE;have cm:=ch.ext eE;clear ce cf cg ch eE R a2;walk_at"";refine⟨pC,dr,dt,dC,.show,rfl,W,trivial,by omega,by rw[uC];exact Nat.zero_le _,ed.ok (kd cC) ?_⟩;intro t3 es HF ea eb a3 co;have cr:=ci.keep W a3 y0 y1 y2 y3 y4;have ct:=cl.tk (a3.tk W);have d1:=cm.tk (a3.tk W);clear ci W cl cm ea a3 eb;walk_at"";refine aD (ah.of co) (v:=.str (aO m ws.reverse)) rfl ?_;walk_at"";refine⟨.ref bk,m,ws.reverse,rfl,d1.1,c7,λHG eG=>?_⟩;walk_at"";refine fy ?_;rw[Ah rfl];refine rd_exb (ax ?_);walk_at"";have b6:=cr.ext eG;have a4:=ct.ext eG;clear cr ct d1 eG co;clear cB cC fB fC uB uC;generalize b7:List.set _ 10 _=σ0;have b7:σ0=[some (.ref a),some (.ref pv),some (.int (far:Int)),some (.ref pA),some (.str "told"),some (.str (aO m ws)),some v2,some (.ref pB),some (.ref bk),some (.ref pC),some (.ref pv),none,none]:=b7.symm;refine sJ (λM σ H'=>∃vl l lA d k1 k2,σ=[some (.ref a),some (.ref pv),some (.int (far:Int)),some (.ref pA),some (.str "told"),some (.str (aO m ws)),some v2,some (.ref pB),some (.ref bk),some (.ref pC),some vl,k1,k2]/\DkAt K H' pA U lA d/\d.cur=(m,l)/\d.past.length+l.length<=300/\d.und=[]/\aV H' vl (m,l)/\aV H' (.ref pv) (m,ws)/\l.length=M)
   (λσ H'=>∃vl lA d k1 k2,σ=[Vo (.ref a),Vo (.ref pv),Vo (.int (far:Int)),Vo (.ref pA),Vo (.str "told"),Vo (.str (aO m ws)),Vo v2,Vo (.ref pB),Vo (.ref bk),Vo (.ref pC),Vo vl,k1,k2]/\DkAt K H' pA U lA d/\d.cur=(m,[])/\d.past.length<=300/\d.und=[]/\aV H' vl (m,[])/\aV H' (.ref pv) (m,ws)) ws.length
   ⟨.ref pv,ws,_,dA,_,_,b7,b6,cA,by have:=ok.few;omega,uA,a4,a4,rfl⟩ ?_ ?_
  .clear b6 a4 cA fA uA;rintro M σ H1 ⟨vl,l,lA,d,k1,k2,rfl,D,cu,fl,un,N,hv,rfl⟩;obtain⟨⟨pl,tl,rfl,S,g2⟩,G⟩:=id N;obtain⟨X,g3,al⟩:=bx.al g2;have a5:X.length=l.length:=al.1;have em:l.length<=100:=G.few;have m1:1<=m:=G.m1;have m12:m<=12:=G.m12;walk_at"";refine aD (ah.of S) (v:=.ref tl) rfl ?_;walk_at"";refine eL (ah.of g3) ?_;walk_at"";rw[zk,a5];by_cases h0:l.length=0
   .have h0:l=[]:=List.eq_nil_of_length_eq_zero h0;subst h0;refine ax ?_;exact⟨_,lA,d,_,_,rfl,D,cu,by omega,un,N,hv⟩
   rw[Ah (show(0:Int)<((l.length:Nat):Int) by omega)];refine aC ⟨_,λ_ _ h=>h,?_⟩;walk_at"";refine aD (ah.of S) (v:=.ref tl) rfl ?_;walk_at"";refine aD (ah.of S) (v:=.ref tl) rfl ?_;walk_at"";refine eL (ah.of g3) ?_;walk_at"";rw[zk,a5];refine rd_I (show(0:Int)<((l.length:Nat):Int) by omega) ?_;rw[show ((far:Int) % ((l.length:Nat):Int))=((far % l.length:Nat):Int)from rfl];have hx:far % l.length<l.length:=Nat.mod_lt _ (by omega);generalize far % l.length=x at hx;have d2:x<X.length:=by omega
   refine aD (ah.of g3) (v:=.ref X[x]) (bC (j:=x) (by rw[zm,zl d2];rfl)) ?_;have Y:=al.2 x _ _ (zl d2) (zl hx);have a6:=zL hx;generalize X[x]=gt at Y ⊢;generalize l[x]=w at Y a6;have wl:=WayL.of (G.ok w a6) m12;have ec:bZ (m,l) w=.ok (m,l.filter λu=>decide (u≠w)):=uU a6;have a7:=rT (h:=(m,l)) G ec;have eg:(l.filter λu=>decide (u≠w)).length+1=l.length:=mT G.nd a6;walk_at"";refine aD (ah.of S) (v:=.int m) rfl ?_;walk_at"";refine aD (ah.of S) (v:=.ref tl) rfl ?_;refine fw (ah.of g3) ?_;refine fP (xs:=X.map V.ref) (λi ys H'=>Ext H1 H'/\∃cs,ys=cs.map V.ref/\aR H' cs ((l.take i).filter λu=>decide (u≠w))) (dM (by rw[zk,a5];omega)) ⟨Ext.rfl' _,[],rfl,aR.nil _⟩ (λi ys H' hi h=>⟨ah.of (h.1 _ _ g3),?_⟩) ?_ ?_
   .obtain⟨_,cs,rfl,hc,_⟩:=h;rw[zk,hc];exact zP (List.length_filter_le _ _) (by rw[Ac];exact Nat.min_le_left _ _)
   .rintro i x ys H' hx ⟨e2,cs,rfl,L⟩;rw[zm]at hx;obtain⟨b,hb,rfl⟩:=zx.mp hx;have hi:i<l.length:=by rw[<-al.1];exact(zu.mp hb).1
    have b8:=zl hi;have b9:=e2 _ _ (al.2 i b _ hb b8);have d3:=(G.ok _ (zL hi)).lay;rw[List.take_add_one,b8,List.filter_append];generalize l[i]=u at b8 b9 d3;walk_at"";refine⟨1,1,_,_,Way.rep b9 d3,Way.rep (e2 _ _ Y) wl.lay,by decide,?_⟩;rw[Way.eqv];simp only[if_true];refine rd_exb ?_;by_cases he:u=w
    .rw[Ah he];refine ax ?_;refine⟨e2,cs,rfl,?_⟩;have:List.filter (λu=>decide (u≠w)) (Vo u).toList=[]:=by rw[he];simp
     rw[this,List.append_nil];exact L
    .rw[Ag he];refine aC ?_;walk_at"";refine⟨e2,cs++[b],by rw[zC];rfl,?_⟩;have:List.filter (λu=>decide (u≠w)) (Vo u).toList=[u]:=by simp[he]
     rw[this];exact L.snoc b9
   rintro ys H' a8 ⟨e2,cs,rfl,L⟩ Z;rw[zk,al.1,zN]at L;generalize ei:l.filter (λu=>decide (u≠w))=LO at L ec a7 eg;walk_at"";have e3:Ext H1 (upd H' a8 (.lst (cs.map V.ref))):=e2.trans (bL Z);have ba:=L.ext (bL (o:=.lst (cs.map V.ref)) Z);have bb:upd H' a8 (.lst (cs.map V.ref)) a8=Vo (.lst (cs.map V.ref)):=aM;generalize upd H' a8 (.lst (cs.map V.ref))=H4 at e3 ba bb ⊢;refine er (ag.of bb) (bF λtn H5 e5 d4 _=>?_);walk_at"";refine av λlo H6 e6 d5 _=>?_;have d6:aV H6 (.ref lo) (m,LO):=⟨bh.mk d5 (((ba.ext e5).ways d4).ext e6),a7⟩;have a9:=e3.trans (e5.trans e6);have D2:=D.ext a9;have a0:=a9 _ _ Y;have J:=hv.ext a9;clear D Y hv S g2 g3 al L ba Z bb d4 d5 e2 e3 e5 e6 a9 ei a5 N G;walk_at"";refine⟨rfl,?_⟩;walk_at"";refine aD (ah.of a0) rfl ?_;walk_at"";refine⟨_,rfl,cM wl.r0 wl.r6,?_⟩;walk_at"";refine aD (ah.of a0) rfl ?_;walk_at"";refine aD (ah.of a0) rfl ?_;walk_at"";refine⟨_,rfl,cM wl.o0 wl.o6,?_⟩;walk_at"";refine aD (ah.of a0) rfl ?_;walk_at"";refine av λln H7 e7 d7 _=>?_;walk_at"";refine⟨_,ln,"close" :: gm w,rfl,rfl,ag.of d7,wl.line_len (z:="close") (by decide),?_⟩;walk_at"";refine⟨pA,U,lA,d,.close w,rfl,D2.ext e7,wl,by omega,by rw[un];exact Nat.zero_le _,ed.ok (w5 (d:=d) (w:=w) (by rw[cu];exact ec)) ?_⟩;intro t2 l4 HB h4 DB fr R;have bc:Tk H6 HB:=λb xs z=>fr.tk (D2.ext e7) _ _ (e7 _ _ z);have I:=J.tk bc;have ab:=d6.tk bc;clear D2 a0 J d6 bc fr h4 e7 d7;walk_at"";refine⟨.ref lo,m,LO,rfl,ab.1,a7,λHE eE=>?_⟩;walk_at"";refine av λu2 HF eF a2 _=>?_;refine rH ((eE.trans eF) _ _ R) a2 i9.1 (ie a7) ?_;refine rd_exb (ax ?_);walk_at"";have be:=eE.trans eF;exact⟨LO.length,by omega,.ref lo,LO,l4,d.doD (m,LO),_,_,rfl,DB.ext be,rfl,by show(d.past++[d.cur]).length+_<=300;rw[zD,List.length_singleton];omega,rfl,ab.ext be,I.ext be,rfl⟩
  clear b6 a4 cA fA uA;rintro σ H1 ⟨vl,lA,d,k1,k2,rfl,D,cu,fl,un,N,hv⟩;obtain⟨⟨_,tv,ej,S,g2⟩,_⟩:=id hv;cases ej;have m1:1<=m:=ok.m1;have m12:m<=12:=ok.m12;walk_at"";refine⟨pA,U,lA,d,.show,rfl,D,trivial,by omega,by rw[un];exact Nat.zero_le _,ed.ok (kd cu) ?_⟩;intro t2 l4 H2 h4 D2 fr R;have d8:=fr.tk D;have h1:=d8 _ _ S;have Z:=N.tk d8;walk_at"";refine aD (ah.of h1) (v:=.int m) rfl ?_;walk_at"";refine⟨_,rfl,cM (by omega) (by omega),?_⟩;walk_at"";rw[show zU (toString m)=Tx.aA m from rfl];refine⟨_,_,rfl,rfl,aY (by have:=Tx.bV (n:=m) (by omega) (by omega);have h6:(zU ":").length=1:=rfl;omega),?_⟩;rw[m6];walk_at"";refine av λu3 H3 e3 el _=>?_;refine⟨1,1,_,_,jg (e3 _ _ R) i9.1 (ie N.2),jg el i9.1 (ie N.2),by decide,?_⟩;rw[nF];simp only[decide_true,Bool.and_self];walk_at"";simp only[zZ,if_false,if_true];walk_at"";refine aD (ah.of (e3 _ _ h1)) (v:=.int m) rfl ?_;walk_at"";refine⟨_,rfl,cM (by omega) (by omega),?_⟩;walk_at"";rw[show zU (toString m)=Tx.aA m from rfl];refine⟨_,_,rfl,rfl,aY (by have:=Tx.bV (n:=m) (by omega) (by omega);have h6:(zU ":").length=1:=rfl;omega),?_⟩;rw[m6];walk_at"";refine⟨m,[],rfl,N.2,λv3 H4 e4 I=>?_⟩;walk_at"";refine⟨3,3,_,_,I.rep N.2,((Z.ext e3).ext e4).1.rep N.2,by decide,?_⟩;rw[qt];exact q _
abbrev Dq(K:zg)(mg:Vn->Option Va)(x:Vn)(st:Vl):Prop:=∃(f:Vb) (fd:Vm),mg x=Vo (.ref f)/\Fun K x x st f fd
def dq{K:zg}{h:Vh}{mg:Vn->Option Va}(X:K.In h)(G:h.Ns Vj mg){x:Vn}{st:Vl}{f:Vb}{od an:Option Vb}{sl:Array (Option Va)}{oc kV b pm cd ct:Va}(a:PySem.W.nsIn K Vj x=Vo (Vo (.ref f)))(l:K.lookup f=Vo ⟨oc,od,.func (PySem.W.fnOf x x (cj st) (bN st) (aw st) .none kV b pm an cd ct),sl⟩)(c:PySem.W.codeIn K cd x=true)(k:PySem.W.keepIn K (.ref f)=true):Dq K mg x st:=⟨f,_,PySem.W.mg_of X G a,i5 (st:=st) l c k⟩
abbrev bd(x:Vn)(st:Vl)(us:List Va)(r:List (Vn×Va)):Prop:=∀(kV doc pm:Va) (an:Option Vb) (cdv ct:Va),bindArgs (PySem.W.fnOf x x (cj st) (bN st) (aw st) .none kV doc pm an cdv ct) ⟨us,[]⟩=pure r
def bP{K:zg}{x:Vn}(b:Vn)(d:Dq K mg x st)(h:∀c,bd x st [c] [(b,c)]):Dfn K mg x st [b]:=let ⟨f,fd,a,F⟩:=d;⟨f,fd,a,F,F.binds (ps:=[b]) λ_ _ _ _ _ _ us e=>match us,e with|[_],_=>h _ _ _ _ _ _ _⟩
def ck{K:zg}{x:Vn}(b c:Vn)(d:Dq K mg x st)(h:∀e g,bd x st [e,g] [(b,e),(c,g)]):Dfn K mg x st [b,c]:=let ⟨f,fd,a,F⟩:=d;⟨f,fd,a,F,F.binds (ps:=[b,c]) λ_ _ _ _ _ _ us i=>match us,i with|[_,_],_=>h _ _ _ _ _ _ _ _⟩
def qd{K:zg}{x:Vn}(b c p2:Vn)(d:Dq K mg x st)(h:∀e g i,bd x st [e,g,i] [(b,e),(c,g),(p2,i)]):Dfn K mg x st [b,c,p2]:=let ⟨f,fd,a,F⟩:=d;⟨f,fd,a,F,F.binds (ps:=[b,c,p2]) λ_ _ _ _ _ _ us j=>match us,j with|[_,_,_],_=>h _ _ _ _ _ _ _ _ _⟩
def all_mk{l:PySem.W.OpenLaw}{w:Ve}{K:zg}{h:Vh}{fa:Vb}(X:K.In h)(G:h.Ns Vj mg)(em:mg "law" = Vo (.ref fa))
  (d0:Dq K mg "is_sign" lF)
  (d1:Dq K mg "is_deed" kz)
  (d2:Dq K mg "is_whole" kF)
  (d3:Dq K mg "is_room" jy)
  (d4:Dq K mg "is_way" j9)
  (d5:Dq K mg "are_ways" jE)
  (d6:Dq K mg "is_house" jA)
  (d7:Dq K mg "is_number_word" kU)
  (d8:Dq K mg "read_number" mH)
  (d9:Dq K mg "read_way" jI)
  (en:Dq K mg "read_ways" j5)
  (ep:Dq K mg "read_house" lB)
  (es:Dq K mg "way_text" mG)
  (et:Dq K mg "refuse_no_house" kO)
  (ev:Dq K mg "shown_house" j7)
  {CD:Vb} (nD:PySem.W.nsIn K Vj "Desk" = Vo (Vo (.ref CD))) (hdk:jn K=true)
  {i:Vb} {a9 ab:Option Vb} {ac:Array (Option Va)} {ad am an ap o as:Va} (a15:PySem.W.findIn K (.ref CD) "undo" = Vo (Vo (.ref i))) (l15:K.lookup i=Vo ⟨ad,a9,.func (PySem.W.fnOf "undo" "Desk.undo" (cj fF) (bN fF) (aw fF) .none am an ap ab o as),ac⟩) (c15:PySem.W.codeIn K o "Desk.undo" = true) (k15:PySem.W.keepIn K (.ref i)=true) (i15:PySem.W.isFn K (.ref i)=true)
  {j:Vb} {b0 b1:Option Vb} {b2:Array (Option Va)} {b3 b4 b5 b6 p b7:Va} (a16:PySem.W.findIn K (.ref CD) "redo" = Vo (Vo (.ref j))) (l16:K.lookup j=Vo ⟨b3,b0,.func (PySem.W.fnOf "redo" "Desk.redo" (cj gj) (bN gj) (aw gj) .none b4 b5 b6 b1 p b7),b2⟩) (c16:PySem.W.codeIn K p "Desk.redo" = true) (k16:PySem.W.keepIn K (.ref j)=true) (i16:PySem.W.isFn K (.ref j)=true)
  {k:Vb} {b8 b9:Option Vb} {ba:Array (Option Va)} {bb bc be bi q bl:Va} (a17:PySem.W.findIn K (.ref CD) "do" = Vo (Vo (.ref k))) (l17:K.lookup k=Vo ⟨bb,b8,.func (PySem.W.fnOf "do" "Desk.do" (cj fW) (bN fW) (aw fW) .none bc be bi b9 q bl),ba⟩) (c17:PySem.W.codeIn K q "Desk.do" = true) (k17:PySem.W.keepIn K (.ref k)=true) (i17:PySem.W.isFn K (.ref k)=true)
  (ew:Dq K mg "rooms_deed" jT)
  (ex:Dq K mg "way_deed" mi)
  (ey:Dq K mg "close_deed" kl)
  (f0:Dq K mg "turned_way" jo)
  (f1:Dq K mg "turned_about" mI)
  (f2:Dq K mg "turn_deed" jM)
  (f3:Dq K mg "show_ask" kP)
  (f4:Dq K mg "value_of" lY)
  (f5:Dq K mg "is_word_of" jH)
  (f8:Dq K mg "is_line" kg)
  {m:Vb} {bm bn:Option Vb} {bv:Array (Option Va)} {c0 c1 c2 c3 r c4:Va} (a28:PySem.W.findIn K (.ref CD) "tell" = Vo (Vo (.ref m))) (l28:K.lookup m=Vo ⟨c0,bm,.func (PySem.W.fnOf "tell" "Desk.tell" (cj fG) (bN fG) (aw fG) .none c1 c2 c3 bn r c4),bv⟩) (c28:PySem.W.codeIn K r "Desk.tell" = true) (k28:PySem.W.keepIn K (.ref m)=true) (i28:PySem.W.isFn K (.ref m)=true)
  (fe:Dq K mg "_law_tell" jN)
  (fl:Dq K mg "_law_house_text" jD)
  (fn:Dq K mg "_law_lines" ka)
  {a:Vb} {c5 c6:Option Vb} {c7:Array (Option Va)} {c8 c9 ca cd t ce:Va} (a32:PySem.W.findIn K (.ref CD) "__init__" = Vo (Vo (.ref a))) (l32:K.lookup a=Vo ⟨c8,c5,.func (PySem.W.fnOf "__init__" "Desk.__init__" (cj f9) (bN f9) (aw f9) .none c9 ca cd c6 t ce),c7⟩) (c32:PySem.W.codeIn K t "Desk.__init__" = true) (k32:PySem.W.keepIn K (.ref a)=true) (i32:PySem.W.isFn K (.ref a)=true)
  (fp:Dq K mg "_law_made_desk" ki)
  (fr:Dq K mg "_law_mixed" km)
  (fv:Dq K mg "_law_draws" jF)
  (fz:Dq K mg "_law_cell" ke)
  (g0:Dq K mg "_law_unlike" kG)
  (g1:Dq K mg "_law_drawn_house" lX)
  (g2:Dq K mg "_law_gate_house" jC)
  (g3:Dq K mg "_law_ring_house" jG)
  (g4:Dq K mg "_law_spare" kE)
  (g5:Dq K mg "_law_house" jq)
  {a4:Vb} {cf u:Option Vb} {cg:Array (Option Va)} {ch x y z b A:Va} (a43:PySem.W.nsIn K Vj "law" = Vo (Vo (.ref a4))) (l43:K.lookup a4=Vo ⟨ch,cf,.func (PySem.W.fnOf "law" "law" (cj dR) (bN dR) (aw dR) .none x y z u b A),cg⟩) (c43:PySem.W.codeIn K b "law" = true) (k43:PySem.W.keepIn K (.ref a4)=true)
  (z0:PySem.W.nsIn K Vj "len" = Vo Vp)
  (z1:PySem.W.nsIn K Vj "isinstance" = Vo Vp)
  (z2:PySem.W.nsIn K Vj "tuple" = Vo Vp)
  (z3:PySem.W.nsIn K Vj "list" = Vo Vp)
  (z4:PySem.W.nsIn K Vj "int" = Vo Vp)
  (z5:PySem.W.nsIn K Vj "bool" = Vo Vp)
  (z6:PySem.W.nsIn K Vj "range" = Vo Vp)
  (z7:PySem.W.nsIn K Vj "zip" = Vo Vp)
  (z8:PySem.W.nsIn K Vj "max" = Vo Vp)
  (z9:PySem.W.nsIn K Vj "min" = Vo Vp)
  (z10:PySem.W.nsIn K Vj "abs" = Vo Vp)
  (z11:PySem.W.nsIn K Vj "all" = Vo Vp)
  (z12:PySem.W.nsIn K Vj "ValueError" = Vo Vp)
  (z13:PySem.W.nsIn K Vj "enumerate" = Vo Vp)
  (z14:PySem.W.nsIn K Vj "set" = Vo Vp)
  (z15:PySem.W.nsIn K Vj "str" = Vo Vp)
  (z16:PySem.W.nsIn K Vj "reversed" = Vo Vp)
  (z17:PySem.W.nsIn K Vj "any" = Vo Vp)
  (z18:PySem.W.nsIn K Vj "sorted" = Vo Vp)
  {t0:Tok} (v0:PySem.W.nsIn K Vj "GREATEST_WAYS" = Vo (Vo (.int 100 t0)))
  {t1:Tok} (v1:PySem.W.nsIn K Vj "GREATEST_MANY" = Vo (Vo (.int 12 t1)))
  {t2:Tok} (v2:PySem.W.nsIn K Vj "FIGURES" = Vo (Vo (.str "0123456789" t2)))
  {t3:Tok} (v3:PySem.W.nsIn K Vj "MOST_FIGURES" = Vo (Vo (.int 6 t3)))
  {e0:Vb} {ci cl cm co cr cs ct cu:Tok} {g6:Nat} (x0:PySem.W.nsIn K Vj "TURNED" = Vo (Vo (.ref e0))) (y0:K.lookup e0=Vo (dw w [("up",ci,.str "down" cl),("down",cm,.str "up" co),("stay",cr,.str "stay" cs),("zero",ct,.str "zero" cu)] g6)) (w0:(e0 == sysModules)=false)
  {e1 B C E H I J L M N O c d f:Vb} {da db dc dd df dl dp dr ds dt a5 a6 a7:Tok} {g7:Nat} (x1:PySem.W.nsIn K Vj "LINES" = Vo (Vo (.ref e1))) (y1:K.lookup e1=Vo (dw w [("rooms",da,.ref B),("way",db,.ref C),("close",dc,.ref E),("turn",dd,.ref H),("undo",df,.ref I),("redo",dl,.ref J),("show",dp,.ref L),("reach",dr,.ref M),("forward",ds,.ref N),("backward",dt,.ref O),("most",a5,.ref c),("fate",a6,.ref d),("word",a7,.ref f)] g7)) (w1:(e1 == sysModules)=false) (n1_0:bo K B ["many"]) (n1_1:bo K C ["number","deed","number","sign"]) (n1_2:bo K E ["number","deed","number","sign"]) (n1_3:bo K H []) (n1_4:bo K I []) (n1_5:bo K J []) (n1_6:bo K L []) (n1_7:bo K M ["number","number","number","number"]) (n1_8:bo K N ["number","number","number"]) (n1_9:bo K O ["number","number","number"]) (n1_10:bo K c ["number","number"]) (n1_11:bo K d ["number","number"]) (n1_12:bo K f ["number","number"])
  {e2 P Q R S:Vb} {dx e4 e5 e6:Tok} {g8:Nat} (x2:PySem.W.nsIn K Vj "DEEDS" = Vo (Vo (.ref e2))) (y2:K.lookup e2=Vo (dw w [("rooms",dx,.ref P),("way",e4,.ref Q),("close",e5,.ref R),("turn",e6,.ref S)] g8)) (w2:(e2 == sysModules)=false) (n2_0:PySem.W.nsIn K Vj "rooms_deed" = Vo (Vo (.ref P))) (n2_1:PySem.W.nsIn K Vj "way_deed" = Vo (Vo (.ref Q))) (n2_2:PySem.W.nsIn K Vj "close_deed" = Vo (Vo (.ref R))) (n2_3:PySem.W.nsIn K Vj "turn_deed" = Vo (Vo (.ref S)))
  {e3 U Y Z a0 a1 a2 a3:Vb} {e7 e8 e9 ea eb ec eg:Tok} {g9:Nat} (x3:PySem.W.nsIn K Vj "ASKS" = Vo (Vo (.ref e3))) (y3:K.lookup e3=Vo (dw w [("show",e7,.ref U),("reach",e8,.ref Y),("forward",e9,.ref Z),("backward",ea,.ref a0),("most",eb,.ref a1),("fate",ec,.ref a2),("word",eg,.ref a3)] g9)) (w3:(e3 == sysModules)=false) (n3_0:PySem.W.nsIn K Vj "show_ask" = Vo (Vo (.ref U))) (n3_1:PySem.W.nsIn K Vj "reach_ask" = Vo (Vo (.ref Y))) (n3_2:PySem.W.nsIn K Vj "forward_ask" = Vo (Vo (.ref Z))) (n3_3:PySem.W.nsIn K Vj "backward_ask" = Vo (Vo (.ref a0))) (n3_4:PySem.W.nsIn K Vj "most_ask" = Vo (Vo (.ref a1))) (n3_5:PySem.W.nsIn K Vj "fate_ask" = Vo (Vo (.ref a2))) (n3_6:PySem.W.nsIn K Vj "word_ask" = Vo (Vo (.ref a3)))
  (hxf:jU K dv dj=true)
  : ∃fd:Vm,(∀(s:Vc) (v:Va),BindsTo s fd ⟨[v],[]⟩ [("_law_script",v)])/\∀base:Vh,K.In base->base.Ns Vj mg->FnOk l.prog w K mg base dk 12 fa fd ["_law_script"] (iX K):=by
 have e:=em.symm.trans (PySem.W.mg_of X G a43);cases e;have T:Blt mg:=⟨PySem.W.mg_none_of X G z0,PySem.W.mg_none_of X G z1,PySem.W.mg_none_of X G z2,PySem.W.mg_none_of X G z3,PySem.W.mg_none_of X G z4,PySem.W.mg_none_of X G z5,PySem.W.mg_none_of X G z6,PySem.W.mg_none_of X G z7,PySem.W.mg_none_of X G z8,PySem.W.mg_none_of X G z9,PySem.W.mg_none_of X G z10,PySem.W.mg_none_of X G z11,PySem.W.mg_none_of X G z12,PySem.W.mg_none_of X G z13,PySem.W.mg_none_of X G z14,PySem.W.mg_none_of X G z15,PySem.W.mg_none_of X G z16,PySem.W.mg_none_of X G z17,PySem.W.mg_none_of X G z18⟩;have D0:=bP "thing" d0 λ_ _ _ _ _ _ _=>rfl;have D1:=bP "thing" d1 λ_ _ _ _ _ _ _=>rfl;have D2:=bP "thing" d2 λ_ _ _ _ _ _ _=>rfl;have D3:=ck "thing" "many" d3 λ_ _ _ _ _ _ _ _=>rfl;have D4:=ck "thing" "many" d4 λ_ _ _ _ _ _ _ _=>rfl;have D5:=ck "thing" "many" d5 λ_ _ _ _ _ _ _ _=>rfl;have D6:=bP "thing" d6 λ_ _ _ _ _ _ _=>rfl;have D7:=bP "word" d7 λ_ _ _ _ _ _ _=>rfl;have D8:=bP "word" d8 λ_ _ _ _ _ _ _=>rfl;have D9:=bP "text" d9 λ_ _ _ _ _ _ _=>rfl;have ga:=bP "text" en λ_ _ _ _ _ _ _=>rfl;have gb:=bP "text" ep λ_ _ _ _ _ _ _=>rfl;have gc:=bP "way" es λ_ _ _ _ _ _ _=>rfl;have gd:=bP "thing" et λ_ _ _ _ _ _ _=>rfl;have ge:=bP "house" ev λ_ _ _ _ _ _ _=>rfl;have gi:=ck "house" "parts" ew λ_ _ _ _ _ _ _ _=>rfl;have gk:=ck "house" "parts" ex λ_ _ _ _ _ _ _ _=>rfl;have gl:=ck "house" "parts" ey λ_ _ _ _ _ _ _ _=>rfl;have go:=bP "way" f0 λ_ _ _ _ _ _ _=>rfl;have gs:=bP "house" f1 λ_ _ _ _ _ _ _=>rfl;have gt:=ck "house" "parts" f2 λ_ _ _ _ _ _ _ _=>rfl;have gu:=ck "house" "parts" f3 λ_ _ _ _ _ _ _ _=>rfl;have gv:=bP "word" f4 λ_ _ _ _ _ _ _=>rfl;have gx:=ck "kind" "word" f5 λ_ _ _ _ _ _ _ _=>rfl;have gz:=bP "words" f8 λ_ _ _ _ _ _ _=>rfl;have h0:=ck "_law_desk" "_law_line" fe λ_ _ _ _ _ _ _ _=>rfl;have h1:=bP "_law_house_here" fl λ_ _ _ _ _ _ _=>rfl;have h2:=bP "_law_house_here" fn λ_ _ _ _ _ _ _=>rfl;have h3:=bP "_law_house_here" fp λ_ _ _ _ _ _ _=>rfl;have h4:=qd "_law_cell_here" "_law_k" "_law_prime" fr λ_ _ _ _ _ _ _ _ _=>rfl;have h5:=qd "_law_cell_here" "_law_widths" "_law_prime" fv λ_ _ _ _ _ _ _ _ _=>rfl;have h6:=ck "_law_script" "_law_k" fz λ_ _ _ _ _ _ _ _=>rfl;have h7:=bP "_law_ways" g0 λ_ _ _ _ _ _ _=>rfl;have h8:=ck "_law_cell_here" "_law_prime" g1 λ_ _ _ _ _ _ _ _=>rfl;have h9:=ck "_law_cell_here" "_law_prime" g2 λ_ _ _ _ _ _ _ _=>rfl;have ha:=ck "_law_cell_here" "_law_prime" g3 λ_ _ _ _ _ _ _ _=>rfl;have hb:=ck "_law_cell_here" "_law_width" g4 λ_ _ _ _ _ _ _ _=>rfl;have hc:=ck "_law_cell_here" "_law_prime" g5 λ_ _ _ _ _ _ _ _=>rfl;refine⟨PySem.W.fnOf "law" "law" (cj dR) (bN dR) (aw dR) .none x y z u b A,λs v=>.of_eq rfl,λbase KB GB=>?_⟩;have XF:Xf K mg base dv dj:=wD KB GB hxf;obtain⟨TD,hd,he,hf⟩:=yH X G hdk;have C0:=@yn l.prog w K mg base D0 T;have C1:=@wL l.prog w K mg base D1 T ⟨_,PySem.W.mg_of X G x0,nq y0 w0⟩;have C2:=@vg l.prog w K mg base D2 T;have C3:=@wo l.prog w K mg base D3 T C2;have C4:=@xW l.prog w K mg base D4 T C0 C1 C3;have C5:=@ym l.prog w K mg base D5 T ⟨_,PySem.W.mg_of X G v0⟩ C4;have C6:=@xw l.prog w K mg base D6 T ⟨_,PySem.W.mg_of X G v1⟩ C5 C2;have C7:=@xy l.prog w K mg base D7 T ⟨_,PySem.W.mg_of X G v2⟩ ⟨_,PySem.W.mg_of X G v3⟩;have C8:=@vD l.prog w K mg base D8 T C7;have C9:=@tO l.prog w K mg base D9 T C8;have hg:=@xm l.prog w K mg base ga T C9;have hh:=@vf l.prog w K mg base gb T C6 hg C8;have hi:=@vA l.prog w K mg base gc T;have ei:=@xG l.prog w K mg base gd T C6;have a8:=@vq l.prog w K mg base ge T hi ei;have hj:MetX l.prog w K mg base (cA K "Desk") "undo" 1 ["self"] (mw K):=sy (iZ (st:=fF) nD a15 l15 c15 k15 i15 λF=>F.binds (ps:=["self"]) λ_ _ _ _ _ _ us n=>match us,n with|[_],_=>rfl) T XF TD;have hk:MetX l.prog w K mg base (cA K "Desk") "redo" 1 ["self"] (mJ K):=yc (iZ (st:=gj) nD a16 l16 c16 k16 i16 λF=>F.binds (ps:=["self"]) λ_ _ _ _ _ _ us n=>match us,n with|[_],_=>rfl) T XF TD;have hm:MetX l.prog w K mg base (cA K "Desk") "do" 1 ["self","house"] (kH K):=vd (iZ (st:=fW) nD a17 l17 c17 k17 i17 λF=>F.binds (ps:=["self","house"]) λ_ _ _ _ _ _ us n=>match us,n with|[_,_],_=>rfl) T TD;have hn:=@tP l.prog w K mg base gi T;have ho:CalX l.prog w K mg base "way_deed" 3 ["house","parts"] (jY K):=vV gk T ⟨_,PySem.W.mg_of X G v0⟩ XF C3;have hp:CalX l.prog w K mg base "close_deed" 1 ["house","parts"] (ll K):=vS gl T XF;have hq:=@sV l.prog w K mg base go T ⟨_,PySem.W.mg_of X G x0,nq y0 w0⟩;have hr:=@xb l.prog w K mg base gs T hq ei;have hs:=@tN l.prog w K mg base gt T hr;have ht:=@vI l.prog w K mg base gu T a8;have hu:=@uZ l.prog w K mg base gv T C7;have hv:=@tm l.prog w K mg base gx T ⟨_,PySem.W.mg_of X G v1⟩ C7 C0 C1;have hw:=@sS l.prog w K mg base gz T ⟨_,PySem.W.mg_of X G x1,yZ y1 w1 n1_0 n1_1 n1_2 n1_3 n1_4 n1_5 n1_6 n1_7 n1_8 n1_9 n1_10 n1_11 n1_12⟩ hv;have hx:MetX l.prog w K mg base (cA K "Desk") "tell" 9 ["self","line"] (ky K):=um (iZ (st:=fG) nD a28 l28 c28 k28 i28 λF=>F.binds (ps:=["self","line"]) λ_ _ _ _ _ _ us n=>match us,n with|[_,_],_=>rfl) T ⟨_,PySem.W.mg_of X G x2,yC y2 w2 n2_0 n2_1 n2_2 n2_3⟩ ⟨_,PySem.W.mg_of X G x3,uH y3 w3 n3_0 n3_1 n3_2 n3_3 n3_4 n3_5 n3_6⟩ XF TD hj hk hm a8 hn hs ht hu hw ho hp;have ej:=@uj l.prog w K mg base h0 T XF TD hx;have hy:=@xE l.prog w K mg base h1 T;have hz:=@xa l.prog w K mg base h2 T;have i0:MkD l.prog w K mg base "Desk" 1 (kj K):=let F:=i5 (st:=f9) l32 c32 k32;⟨⟨a,_,hd,⟨he,by rw[cN nD];exact a32,i32,hf⟩,F.binds (ps:=["self"]) λ_ _ _ _ _ _ us n=>match us,n with|[_],_=>rfl,uR F T TD⟩⟩;have i1:=@wu l.prog w K mg base h3 T TD i0 hz ej;have i2:=@wA l.prog w K mg base h4 T;have g:=@yr l.prog w K mg base h5 T i2;have ih:=@vO l.prog w K mg base h6 T;have el:=@sT l.prog w K mg base h7 T;have ii:=@wy l.prog w K mg base h8 T el g;have im:=@xf l.prog w K mg base h9 T el g;have io:=@sF l.prog w K mg base ha T g;have is:=@yT l.prog w K mg base hb T;have iv:=@vj l.prog w K mg base hc T ii im io is g;exact w6 (i5 (st:=dR) l43 c43 k43) T hh ej hy i1 a8 g ih iv
def walk{l:PySem.W.OpenLaw}{q:Vd}{loose:List Vn}{g:(Vn->Option Va)->Vh->Prop}{c:Ve->Vh->Prop}{d:DefRec}{K:Params->zg}(i:l.most=Vo 63)(b:d.params.defaults=[])
  (j:∀(w:Ve) (h:Vh),c w h->(K w.params).In h)
  (F:∀(w:Ve) (mg:Vn->Option Va) (e:Vb) (h:Vh),(K w.params).In h->h.Ns Vj mg->mg d.name=Vo (.ref e) ->
   ∃fd:Vm,(∀(s:Vc) (u:Va),BindsTo s fd ⟨[u],[]⟩ [("_law_script",u)])/\∀base:Vh,(K w.params).In base->base.Ns Vj mg->FnOk l.prog w (K w.params) mg base dk 12 e fd ["_law_script"] (iX (K w.params))) :
  PySem.W.WalkO q loose g c l.row.toRowW d [] (λf vs=>PySem.call f vs):=
 L2.yK (n:=63) (k:=12) (x:="_law_script") (CX:=λ_=>dk) (sp:=λw=>iX (K w.params)) i (by decide) b ⟨rfl,by decide,by decide⟩ j F (λ_ _ a ns m _ o=>⟨a,ns,rfl,o,m,λ_=>rfl⟩) λ_ _ _ _ _ z=>z
end My
end
open PySem PySem.W PyProof.Rows
set_option maxRecDepth 100000 in
set_option maxHeartbeats 0 in
theorem PySem.Challenge.cw_stairrooms_k70_whole_show_told_again_holds : PySem.Challenge.rw_stairrooms_k70_whole_show_told_again.Holds := by
 refine My.top ?_
 k_fill
 refine My.walk (l := PySem.Challenge.rw_stairrooms_k70_whole_show_told_again) rfl rfl (λw h Y => by first|exact PySem.W.kIn_of Y|exact PySem.W.km_in_of Y) ?F
 case F =>
  intro w mg fa h KX G hmg;have q := @My.dq _ _ _ KX G
  refine' My.all_mk KX G hmg (q ?a0 ?l0 ?c0 ?k0) (q ?a1 ?l1 ?c1 ?k1) (q ?a2 ?l2 ?c2 ?k2) (q ?a3 ?l3 ?c3 ?k3) (q ?a4 ?l4 ?c4 ?k4) (q ?a5 ?l5 ?c5 ?k5) (q ?a6 ?l6 ?c6 ?k6) (q ?a7 ?l7 ?c7 ?k7) (q ?a8 ?l8 ?c8 ?k8) (q ?a9 ?l9 ?c9 ?k9) (q ?a10 ?l10 ?c10 ?k10) (q ?a11 ?l11 ?c11 ?k11) (q ?a12 ?l12 ?c12 ?k12) (q ?a13 ?l13 ?c13 ?k13) (q ?a14 ?l14 ?c14 ?k14) ?nD ?hdk ?a15 ?l15 ?c15 ?k15 ?i15 ?a16 ?l16 ?c16 ?k16 ?i16 ?a17 ?l17 ?c17 ?k17 ?i17 (q ?a18 ?l18 ?c18 ?k18) (q ?a19 ?l19 ?c19 ?k19) (q ?a20 ?l20 ?c20 ?k20) (q ?a21 ?l21 ?c21 ?k21) (q ?a22 ?l22 ?c22 ?k22) (q ?a23 ?l23 ?c23 ?k23) (q ?a24 ?l24 ?c24 ?k24) (q ?a25 ?l25 ?c25 ?k25) (q ?a26 ?l26 ?c26 ?k26) (q ?a27 ?l27 ?c27 ?k27) ?a28 ?l28 ?c28 ?k28 ?i28 (q ?a29 ?l29 ?c29 ?k29) (q ?a30 ?l30 ?c30 ?k30) (q ?a31 ?l31 ?c31 ?k31) ?a32 ?l32 ?c32 ?k32 ?i32 (q ?a33 ?l33 ?c33 ?k33) (q ?a34 ?l34 ?c34 ?k34) (q ?a35 ?l35 ?c35 ?k35) (q ?a36 ?l36 ?c36 ?k36) (q ?a37 ?l37 ?c37 ?k37) (q ?a38 ?l38 ?c38 ?k38) (q ?a39 ?l39 ?c39 ?k39) (q ?a40 ?l40 ?c40 ?k40) (q ?a41 ?l41 ?c41 ?k41) (q ?a42 ?l42 ?c42 ?k42) ?a43 ?l43 ?c43 ?k43 ?z0 ?z1 ?z2 ?z3 ?z4 ?z5 ?z6 ?z7 ?z8 ?z9 ?z10 ?z11 ?z12 ?z13 ?z14 ?z15 ?z16 ?z17 ?z18 ?v0 ?v1 ?v2 ?v3 ?x0 ?y0 ?w0 ?x1 ?y1 ?w1 ?n1_0 ?n1_1 ?n1_2 ?n1_3 ?n1_4 ?n1_5 ?n1_6 ?n1_7 ?n1_8 ?n1_9 ?n1_10 ?n1_11 ?n1_12 ?x2 ?y2 ?w2 ?n2_0 ?n2_1 ?n2_2 ?n2_3 ?x3 ?y3 ?w3 ?n3_0 ?n3_1 ?n3_2 ?n3_3 ?n3_4 ?n3_5 ?n3_6 ?hxf
  (case nD => k_is); (case hdk => first|kernel_rfl|k_is)
  case a0|l0|c0|k0|a1|l1|c1|k1|a2|l2|c2|k2|a3|l3|c3|k3|a4|l4|c4|k4|a5|l5|c5|k5|a6|l6|c6|k6|a7|l7|c7|k7|a8|l8|c8|k8|a9|l9|c9|k9|a10|l10|c10|k10|a11|l11|c11|k11|a12|l12|c12|k12|a13|l13|c13|k13|a14|l14|c14|k14|a15|l15|c15|k15|i15|a16|l16|c16|k16|i16|a17|l17|c17|k17|i17|a18|l18|c18|k18|a19|l19|c19|k19|a20|l20|c20|k20|a21|l21|c21|k21|a22|l22|c22|k22|a23|l23|c23|k23|a24|l24|c24|k24|a25|l25|c25|k25|a26|l26|c26|k26|a27|l27|c27|k27|a28|l28|c28|k28|i28|a29|l29|c29|k29|a30|l30|c30|k30|a31|l31|c31|k31|a32|l32|c32|k32|i32|a33|l33|c33|k33|a34|l34|c34|k34|a35|l35|c35|k35|a36|l36|c36|k36|a37|l37|c37|k37|a38|l38|c38|k38|a39|l39|c39|k39|a40|l40|c40|k40|a41|l41|c41|k41|a42|l42|c42|k42|a43|l43|c43|k43|z0|z1|z2|z3|z4|z5|z6|z7|z8|z9|z10|z11|z12|z13|z14|z15|z16|z17|z18|v0|v1|v2|v3=>k_is
  (case x0 => k_is); (case y0 => k_is); (case w0 => first|rfl|k_is)
  (case x1 => k_is); (case y1 => k_is); (case w1 => first|rfl|k_is)
  (case n1_0 => refine ⟨_, _, _, _, by k_is, by decide, ?_⟩; repeat (first|exact .nil|refine .cons ⟨_, rfl⟩ ?_))
  (case n1_1 => refine ⟨_, _, _, _, by k_is, by decide, ?_⟩; repeat (first|exact .nil|refine .cons ⟨_, rfl⟩ ?_))
  (case n1_2 => refine ⟨_, _, _, _, by k_is, by decide, ?_⟩; repeat (first|exact .nil|refine .cons ⟨_, rfl⟩ ?_))
  (case n1_3 => refine ⟨_, _, _, _, by k_is, by decide, ?_⟩; repeat (first|exact .nil|refine .cons ⟨_, rfl⟩ ?_))
  (case n1_4 => refine ⟨_, _, _, _, by k_is, by decide, ?_⟩; repeat (first|exact .nil|refine .cons ⟨_, rfl⟩ ?_))
  (case n1_5 => refine ⟨_, _, _, _, by k_is, by decide, ?_⟩; repeat (first|exact .nil|refine .cons ⟨_, rfl⟩ ?_))
  (case n1_6 => refine ⟨_, _, _, _, by k_is, by decide, ?_⟩; repeat (first|exact .nil|refine .cons ⟨_, rfl⟩ ?_))
  (case n1_7 => refine ⟨_, _, _, _, by k_is, by decide, ?_⟩; repeat (first|exact .nil|refine .cons ⟨_, rfl⟩ ?_))
  (case n1_8 => refine ⟨_, _, _, _, by k_is, by decide, ?_⟩; repeat (first|exact .nil|refine .cons ⟨_, rfl⟩ ?_))
  (case n1_9 => refine ⟨_, _, _, _, by k_is, by decide, ?_⟩; repeat (first|exact .nil|refine .cons ⟨_, rfl⟩ ?_))
  (case n1_10 => refine ⟨_, _, _, _, by k_is, by decide, ?_⟩; repeat (first|exact .nil|refine .cons ⟨_, rfl⟩ ?_))
  (case n1_11 => refine ⟨_, _, _, _, by k_is, by decide, ?_⟩; repeat (first|exact .nil|refine .cons ⟨_, rfl⟩ ?_))
  (case n1_12 => refine ⟨_, _, _, _, by k_is, by decide, ?_⟩; repeat (first|exact .nil|refine .cons ⟨_, rfl⟩ ?_))
  (case x2 => k_is); (case y2 => k_is); (case w2 => first|rfl|k_is)
  (case n2_0 => k_is)
  (case n2_1 => k_is)
  (case n2_2 => k_is)
  (case n2_3 => k_is)
  (case x3 => k_is); (case y3 => k_is); (case w3 => first|rfl|k_is)
  (case n3_0 => k_is)
  (case n3_1 => k_is)
  (case n3_2 => k_is)
  (case n3_3 => k_is)
  (case n3_4 => k_is)
  (case n3_5 => k_is)
  (case n3_6 => k_is)
  (case hxf => first|kernel_rfl|k_is)
