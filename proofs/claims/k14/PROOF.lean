import PyProof.Rows.All
import Wide.All
import OpenK.AllK
import Wide.FinOn
import Lean
import PyProof.EqAt
import PyProof.EqKinds
import PyProof.TupleCall
import KE.KLam
import PySem.Challenge.RW_stairrooms_k14_no_house_is_refused
set_option Elab.async false
namespace PySem.W.Fast
theorem tw6965446440414845115 : True := trivial
theorem tw4099860303283455633 : True := trivial
theorem tw4016264766742016246 : True := trivial
theorem tw8326493273176951241 : True := trivial
theorem tw7358483622542430777 : True := trivial
theorem tw3136918448441613233 : True := trivial
theorem tw5407834733365505386 : True := trivial
theorem tw5854676939504773332 : True := trivial
theorem tw9478813727029378433 : True := trivial
theorem tw12524104852934199594 : True := trivial
theorem tw9639566180308895252 : True := trivial
theorem tw11258306804293243132 : True := trivial
theorem tw14657900024368597887 : True := trivial
theorem tw4373642396805675364 : True := trivial
theorem tw14757225000569427560 : True := trivial
theorem tw5239818711593601041 : True := trivial
theorem tw5619098228389421230 : True := trivial
theorem tw405987165440772289 : True := trivial
theorem tw317520914050522945 : True := trivial
theorem tw6619962110570900069 : True := trivial
theorem tw8325147438673079581 : True := trivial
theorem tw1586805288633100219 : True := trivial
theorem tw16040925991244642869 : True := trivial
theorem tw8744267035563872481 : True := trivial
theorem tw911810538002268367 : True := trivial
theorem tw5581984692328104656 : True := trivial
theorem tw17179734013377141832 : True := trivial
theorem tw4731703447858751040 : True := trivial
theorem tw8708482821940700748 : True := trivial
theorem tw3392647531150151850 : True := trivial
theorem tw6492568839464336172 : True := trivial
theorem tw16550187109870087183 : True := trivial
theorem tw6188168947949806987 : True := trivial
theorem tw13587954947775276195 : True := trivial
theorem tw8805797774919600176 : True := trivial
theorem tw4221310431163856405 : True := trivial
theorem tw1282994708029194478 : True := trivial
theorem tw15415030129712708594 : True := trivial
theorem tw11036922187604794257 : True := trivial
theorem tw10166892954511498249 : True := trivial
theorem tw14702557882293241901 : True := trivial
theorem tw9002392303285804385 : True := trivial
theorem tw6460737211137875664 : True := trivial
theorem tw4918694162171632466 : True := trivial
theorem tw2892474909125967260 : True := trivial
theorem tw13679643304169797691 : True := trivial
theorem tw5801790884207270852 : True := trivial
theorem tw992215161807817386 : True := trivial
theorem tw9779106197386186623 : True := trivial
theorem tw3501889831259424984 : True := trivial
theorem tw13434078879106917863 : True := trivial
theorem tw4540096454399951189 : True := trivial
theorem tw11296645311156999791 : True := trivial
theorem tw3015604971527890583 : True := trivial
theorem tw16681148162138885154 : True := trivial
theorem tw11344577156118076396 : True := trivial
theorem tw7425615197069556874 : True := trivial
theorem tw4721787911493776067 : True := trivial
theorem tw2122511160286549640 : True := trivial
theorem tw2084367668108250050 : True := trivial
theorem tw2290825904406445385 : True := trivial
theorem tw17109937557647268800 : True := trivial
theorem tw15083788939570734299 : True := trivial
theorem tw15079235818583598491 : True := trivial
theorem tw14526562022302103730 : True := trivial
theorem tw11711933507911999672 : True := trivial
theorem tw11029396596865941829 : True := trivial
theorem tw7796508728722278515 : True := trivial
theorem tw4841996503232482665 : True := trivial
theorem tw3348767965124786929 : True := trivial
theorem tw2801974123689400889 : True := trivial
theorem tw17963879024589997906 : True := trivial
theorem tw16969296292759627995 : True := trivial
theorem tw15877547465285291163 : True := trivial
theorem tw1166579804314216963 : True := trivial
theorem tw7258929849126983957 : True := trivial
theorem tw621812022307901172 : True := trivial
theorem tw5612490812926955764 : True := trivial
theorem tw3319072228906548485 : True := trivial
theorem tw17329969520162680104 : True := trivial
theorem tw15313990622018235984 : True := trivial
theorem tw14451425568386719407 : True := trivial
theorem tw6451087710923075982 : True := trivial
theorem tw16680486814083243770 : True := trivial
theorem tw15582316898162467603 : True := trivial
theorem tw15159215201983465910 : True := trivial
theorem tw13377348862722427871 : True := trivial
theorem tw12390782021942118942 : True := trivial
theorem tw1166147933733307185 : True := trivial
theorem tw5830895008884556760 : True := trivial
theorem tw17908656721387608039 : True := trivial
theorem tw17259577006381911698 : True := trivial
theorem tw14635225500592789833 : True := trivial
theorem tw13185835248587936794 : True := trivial
theorem tw11655376856063916228 : True := trivial
theorem tw10747110127714012418 : True := trivial
theorem tw8385567426930851361 : True := trivial
theorem tw4688525537532491644 : True := trivial
theorem tw447717403241242290 : True := trivial
theorem tw3196363977017356276 : True := trivial
theorem tw12664327836493813462 : True := trivial
theorem tw9834661911540460081 : True := trivial
theorem tw902582806634263858 : True := trivial
theorem tw8186763794367992775 : True := trivial
theorem tw2057708657320182929 : True := trivial
theorem tw16622475990643145580 : True := trivial
theorem tw15268917627751355144 : True := trivial
theorem tw14318957944991924802 : True := trivial
theorem tw1311390456105013778 : True := trivial
theorem tw10866342542880356408 : True := trivial
theorem tw1057306937073154610 : True := trivial
theorem tw8856496367326549158 : True := trivial
theorem tw837507559583589549 : True := trivial
theorem tw5102186755607942603 : True := trivial
theorem tw4512399344915413118 : True := trivial
theorem tw2904058922640873309 : True := trivial
theorem tw18131939131286866181 : True := trivial
theorem tw1697718313761481620 : True := trivial
theorem tw16868688195037900307 : True := trivial
theorem tw16855797853226630161 : True := trivial
theorem tw16618134895088991800 : True := trivial
theorem tw15732654264858244716 : True := trivial
theorem tw13634232280679192043 : True := trivial
theorem tw10548826715568245312 : True := trivial
theorem tw10240230265299486439 : True := trivial
theorem tw9248597171148506525 : True := trivial
theorem tw8814574923527911149 : True := trivial
theorem tw8340926499216404060 : True := trivial
theorem tw7937346951877118417 : True := trivial
theorem tw7316228966491291649 : True := trivial
theorem tw6690671887076279761 : True := trivial
theorem tw4926171350198008544 : True := trivial
theorem tw15834326765199268030 : True := trivial
theorem tw15269425654929456476 : True := trivial
theorem tw14598121482242819015 : True := trivial
theorem tw14316703349718095352 : True := trivial
theorem tw12770933533733738652 : True := trivial
theorem tw12078363514133923244 : True := trivial
theorem tw11284571818005725494 : True := trivial
theorem tw10118012357411222232 : True := trivial
theorem tw9892624805917520583 : True := trivial
theorem tw8863156965792605256 : True := trivial
theorem tw8539956084285006220 : True := trivial
theorem tw7539763571100840771 : True := trivial
theorem tw4992925186480290751 : True := trivial
theorem tw477595423994022719 : True := trivial
theorem tw2110420063795541324 : True := trivial
theorem tw16222515666869640290 : True := trivial
theorem tw16178294753266878621 : True := trivial
theorem tw16091142467832092619 : True := trivial
theorem tw16080655234471338842 : True := trivial
theorem tw15699315692412800413 : True := trivial
theorem tw1565553194782554189 : True := trivial
theorem tw15529604674929473973 : True := trivial
theorem tw14424131277925039975 : True := trivial
theorem tw13647187277582396961 : True := trivial
theorem tw12969595849073868859 : True := trivial
theorem tw11061817912359866892 : True := trivial
theorem tw9878173891806150429 : True := trivial
theorem tw9867131338692390694 : True := trivial
theorem tw8128315874942280492 : True := trivial
theorem tw5766181095882713430 : True := trivial
theorem tw3436359320994789115 : True := trivial
theorem tw3121732170634265723 : True := trivial
theorem tw2980206271122236284 : True := trivial
theorem tw18203199690692568501 : True := trivial
theorem tw18027755133952139252 : True := trivial
theorem tw17258839070269863901 : True := trivial
theorem tw16701388476486077624 : True := trivial
theorem tw16661892316655955262 : True := trivial
theorem tw15856698116174445793 : True := trivial
theorem tw13261574445939288711 : True := trivial
theorem tw11583934061965207798 : True := trivial
theorem tw11137867353881252704 : True := trivial
theorem tw10276969695076772373 : True := trivial
theorem tw9842035976387663078 : True := trivial
theorem tw8790638984845416661 : True := trivial
theorem tw8677169583234457159 : True := trivial
theorem tw8125729627420895708 : True := trivial
theorem tw7889161881964539818 : True := trivial
theorem tw7750769465160294860 : True := trivial
theorem tw5533809914848052129 : True := trivial
theorem tw2530640609199591298 : True := trivial
theorem tw2391854224791940314 : True := trivial
theorem tw2308842233520690658 : True := trivial
theorem tw18097320179759895155 : True := trivial
theorem tw1754243070517289278 : True := trivial
theorem tw14736829792906978706 : True := trivial
theorem tw14109453767193502313 : True := trivial
theorem tw13752025206567590305 : True := trivial
theorem tw13573848267779960677 : True := trivial
theorem tw11383850339681254435 : True := trivial
theorem tw11263300996269092271 : True := trivial
theorem tw11196368748255784950 : True := trivial
theorem tw1059446635175154315 : True := trivial
theorem tw9642658117253805749 : True := trivial
theorem tw8938549127931359579 : True := trivial
theorem tw8562296191053873827 : True := trivial
theorem tw6393150591798677637 : True := trivial
theorem tw4264358708234735246 : True := trivial
theorem tw4058686603036108463 : True := trivial
theorem tw3457502311278330140 : True := trivial
theorem tw3154977719449785152 : True := trivial
theorem tw2470030994460905622 : True := trivial
theorem tw2433480451663381876 : True := trivial
theorem tw1994766901024307645 : True := trivial
theorem tw18066811921283522515 : True := trivial
theorem tw17928405464846012575 : True := trivial
theorem tw16980547499210933930 : True := trivial
theorem tw15444655221641699211 : True := trivial
theorem tw14221084762423404224 : True := trivial
theorem tw1348930903838789814 : True := trivial
theorem tw1304240117979556626 : True := trivial
theorem tw12951820434879171755 : True := trivial
theorem tw12626095124700806591 : True := trivial
theorem tw12038977606169228428 : True := trivial
theorem tw11971130579796114034 : True := trivial
theorem tw10154314827766144001 : True := trivial
theorem tw10150324261921262226 : True := trivial
theorem tw9145153853609440834 : True := trivial
theorem tw8576866337993464856 : True := trivial
theorem tw7091575474642696731 : True := trivial
theorem tw6680830925899447215 : True := trivial
theorem tw6617364818316592001 : True := trivial
theorem tw6588169051226274246 : True := trivial
theorem tw5136782093820589260 : True := trivial
theorem tw3975676623463710300 : True := trivial
theorem tw3299272117925849540 : True := trivial
theorem tw2648121624305032702 : True := trivial
theorem tw2646939245297550942 : True := trivial
theorem tw18341061495759717185 : True := trivial
theorem tw17949153669898374660 : True := trivial
theorem tw17805784553215732332 : True := trivial
theorem tw16967094079153205249 : True := trivial
theorem tw16645757649517396401 : True := trivial
theorem tw15414259988211055499 : True := trivial
theorem tw15104015179872336855 : True := trivial
theorem tw1460478622569836974 : True := trivial
theorem tw12632963454795662708 : True := trivial
theorem tw12509495893023457461 : True := trivial
theorem tw1147197816589727344 : True := trivial
theorem tw10500720501580190231 : True := trivial
theorem tw10035081181641441020 : True := trivial
theorem tw959215790333943517 : True := trivial
theorem tw940465597526089649 : True := trivial
theorem tw931510637493425866 : True := trivial
theorem tw9004807901523433782 : True := trivial
theorem tw8568187914498332850 : True := trivial
theorem tw8390827631967549055 : True := trivial
theorem tw8184033042858750843 : True := trivial
theorem tw8089143900133448332 : True := trivial
theorem tw7627118995241731642 : True := trivial
theorem tw7476190041661452162 : True := trivial
theorem tw7341270039093922885 : True := trivial
theorem tw7260967713776090138 : True := trivial
theorem tw7134983793405793177 : True := trivial
theorem tw7115244209674446852 : True := trivial
theorem tw6130821448147606368 : True := trivial
theorem tw6121026886529796221 : True := trivial
theorem tw5213485622955226937 : True := trivial
theorem tw5140171473248983199 : True := trivial
theorem tw501385587569502014 : True := trivial
theorem tw4337561567144917162 : True := trivial
theorem tw3941131271490555836 : True := trivial
theorem tw3866599564448483793 : True := trivial
theorem tw3855638733940352994 : True := trivial
theorem tw3797301031838899788 : True := trivial
theorem tw3104486758596841148 : True := trivial
theorem tw2904033067149887106 : True := trivial
theorem tw2406758888599334218 : True := trivial
theorem tw1976669565243702794 : True := trivial
theorem tw18032779900021213040 : True := trivial
theorem tw17990003072128590093 : True := trivial
theorem tw17939888687896264705 : True := trivial
theorem tw17729564300890611173 : True := trivial
theorem tw17628590533929976792 : True := trivial
theorem tw17571631200592639834 : True := trivial
theorem tw17438179399263098937 : True := trivial
theorem tw17065142239566038489 : True := trivial
theorem tw16964212798373946863 : True := trivial
theorem tw16924412733494049589 : True := trivial
theorem tw16477329177891185698 : True := trivial
theorem tw16283258727396688951 : True := trivial
theorem tw16245695487900975421 : True := trivial
theorem tw16235577574615639896 : True := trivial
theorem tw16221219022901355867 : True := trivial
theorem tw15729792075999087868 : True := trivial
theorem tw15684333381371067565 : True := trivial
theorem tw15660991250957307376 : True := trivial
theorem tw15186367229040268510 : True := trivial
theorem tw14931363111589739018 : True := trivial
theorem tw1488474676173749703 : True := trivial
theorem tw14832175709080873599 : True := trivial
theorem tw14800109303040266240 : True := trivial
theorem tw14793259975867257014 : True := trivial
theorem tw14775263502782431712 : True := trivial
theorem tw14670137783204244808 : True := trivial
theorem tw14221475358252599964 : True := trivial
theorem tw14025392896863203041 : True := trivial
theorem tw13135487405686255751 : True := trivial
theorem tw12918311625546457741 : True := trivial
theorem tw12865433501954476891 : True := trivial
theorem tw12685030140052518048 : True := trivial
theorem tw12357872333080808881 : True := trivial
theorem tw12150866365501820893 : True := trivial
theorem tw11858878876565515630 : True := trivial
theorem tw11787554532782738252 : True := trivial
theorem tw11339562753883754242 : True := trivial
theorem tw11137535781475439334 : True := trivial
theorem tw10769681086646498438 : True := trivial
theorem tw1069010634818593453 : True := trivial
theorem tw976709547398631384 : True := trivial
theorem tw974001917477778970 : True := trivial
theorem tw9471332836791655 : True := trivial
theorem tw8247069255634196442 : True := trivial
theorem tw8035931760809384120 : True := trivial
theorem tw7980446502605500991 : True := trivial
theorem tw7720199258136328419 : True := trivial
theorem tw762384175361060421 : True := trivial
theorem tw7175792842613744815 : True := trivial
theorem tw6967400520518718212 : True := trivial
theorem tw6919964502871595589 : True := trivial
theorem tw684117499851941213 : True := trivial
theorem tw6403897618177400563 : True := trivial
theorem tw5425565988235752197 : True := trivial
theorem tw4977895861229493542 : True := trivial
theorem tw4933930183700603765 : True := trivial
theorem tw3924725502804413793 : True := trivial
theorem tw3566807236516140644 : True := trivial
theorem tw3008007984704827758 : True := trivial
theorem tw18127141830633905074 : True := trivial
theorem tw17915051066750267265 : True := trivial
theorem tw17843839365795533554 : True := trivial
theorem tw1751447207448873119 : True := trivial
theorem tw1682181479755940848 : True := trivial
theorem tw15831574140416324556 : True := trivial
theorem tw15565656631415577005 : True := trivial
theorem tw15170883547044141151 : True := trivial
theorem tw1436422560964186160 : True := trivial
theorem tw14321144422957734134 : True := trivial
theorem tw14292392306617517729 : True := trivial
theorem tw1333033107083303026 : True := trivial
theorem tw12820798865115190907 : True := trivial
theorem tw12678953225602555564 : True := trivial
theorem tw10805502978675567416 : True := trivial
theorem tw9539095207651657643 : True := trivial
theorem tw8151795987920825625 : True := trivial
theorem tw7176572640101177836 : True := trivial
theorem tw705330452703051597 : True := trivial
theorem tw6976374140160972476 : True := trivial
theorem tw6584469308530667732 : True := trivial
theorem tw5628952712892413060 : True := trivial
theorem tw4307926830116509514 : True := trivial
theorem tw4137366243734310183 : True := trivial
theorem tw2780415966309772251 : True := trivial
theorem tw2212462317411977730 : True := trivial
theorem tw1923656493189036919 : True := trivial
theorem tw1901317781093569649 : True := trivial
theorem tw18147453742554186446 : True := trivial
theorem tw17733047304165068773 : True := trivial
theorem tw16949064816178058999 : True := trivial
theorem tw16821967185522334815 : True := trivial
theorem tw16176690743668362219 : True := trivial
theorem tw14750251384015127882 : True := trivial
theorem tw13956058649364723422 : True := trivial
theorem tw1382559312744143635 : True := trivial
theorem tw12971672504813500717 : True := trivial
theorem tw12801111013253028214 : True := trivial
theorem tw1271555132174418337 : True := trivial
theorem tw12289990805704456368 : True := trivial
theorem tw119775208399524090 : True := trivial
theorem tw119674054762100072 : True := trivial
theorem tw11788803944947964044 : True := trivial
theorem tw11506949944486722818 : True := trivial
theorem tw11408623696531555632 : True := trivial
theorem tw9281662355237421915 : True := trivial
theorem tw8530023553290701249 : True := trivial
theorem tw7693860341393672654 : True := trivial
theorem tw6169767553621521813 : True := trivial
theorem tw5708804837514111757 : True := trivial
theorem tw512557566824241540 : True := trivial
theorem tw4801039527111802282 : True := trivial
theorem tw4248219703154640514 : True := trivial
theorem tw2168224380260717174 : True := trivial
theorem tw18324572440802094995 : True := trivial
theorem tw1735571389945239771 : True := trivial
theorem tw1629198167979442983 : True := trivial
theorem tw1462485287220791352 : True := trivial
theorem tw12267426498645269554 : True := trivial
theorem tw12261729195969336472 : True := trivial
theorem tw11950575282948044451 : True := trivial
theorem tw10602856759635532317 : True := trivial
theorem tw10066667694815067579 : True := trivial
theorem tw9936902662144560194 : True := trivial
theorem tw9583254098639418403 : True := trivial
theorem tw9556445936838501458 : True := trivial
theorem tw9337504207740955038 : True := trivial
theorem tw8878512636737413035 : True := trivial
theorem tw8783073200307453229 : True := trivial
theorem tw8612541938085228305 : True := trivial
theorem tw82748431570670151 : True := trivial
theorem tw8147721191793257292 : True := trivial
theorem tw8143298780573084396 : True := trivial
theorem tw8111691339550187361 : True := trivial
theorem tw8057538161448419100 : True := trivial
theorem tw8047032804361144261 : True := trivial
theorem tw7897135418779063302 : True := trivial
theorem tw7863108119856694670 : True := trivial
theorem tw7693350481814642131 : True := trivial
theorem tw7575712259109976473 : True := trivial
theorem tw7574902415414485744 : True := trivial
theorem tw7561530469029858754 : True := trivial
theorem tw720755081136891062 : True := trivial
theorem tw7174068339476759842 : True := trivial
theorem tw7066129841112748787 : True := trivial
theorem tw698542696526539648 : True := trivial
theorem tw6692137819554114951 : True := trivial
theorem tw6658185936689682968 : True := trivial
theorem tw6620348973694338139 : True := trivial
theorem tw6583481740336291847 : True := trivial
theorem tw6178244272827954729 : True := trivial
theorem tw6112935292994349818 : True := trivial
theorem tw6093179522131556990 : True := trivial
theorem tw6008010531490865865 : True := trivial
theorem tw5956051100702781606 : True := trivial
theorem tw590611807225418770 : True := trivial
theorem tw5824247625822886979 : True := trivial
theorem tw5581349078452510653 : True := trivial
theorem tw5472344985826550877 : True := trivial
theorem tw5442971307982108685 : True := trivial
theorem tw5215882272569172211 : True := trivial
theorem tw4997450903056089975 : True := trivial
theorem tw4959773886489378410 : True := trivial
theorem tw4769826392853288355 : True := trivial
theorem tw4672492687276399408 : True := trivial
theorem tw4599613092869839139 : True := trivial
theorem tw4417070962139673907 : True := trivial
theorem tw4169430970946328830 : True := trivial
theorem tw4090099033456441411 : True := trivial
theorem tw3841998164913821987 : True := trivial
theorem tw3830783680494933951 : True := trivial
theorem tw3816595399192403062 : True := trivial
theorem tw3773624442522805073 : True := trivial
theorem tw3771735061838007563 : True := trivial
theorem tw3760063030202703356 : True := trivial
theorem tw3711776433476670718 : True := trivial
theorem tw3624387153200950280 : True := trivial
theorem tw3437034172105787373 : True := trivial
theorem tw3427924564325372817 : True := trivial
theorem tw3415376743198261602 : True := trivial
theorem tw3255010964159781038 : True := trivial
theorem tw3220723017206680370 : True := trivial
theorem tw3161077796674850459 : True := trivial
theorem tw3027349785267461129 : True := trivial
theorem tw2800321189394573348 : True := trivial
theorem tw2773274263299585572 : True := trivial
theorem tw2265299691495554755 : True := trivial
theorem tw2264417401548668637 : True := trivial
theorem tw2135739184021596844 : True := trivial
theorem tw2027406687892281398 : True := trivial
theorem tw1980078614172103820 : True := trivial
theorem tw1898551579183717137 : True := trivial
theorem tw18438895364323578133 : True := trivial
theorem tw18416646843746589632 : True := trivial
theorem tw18353754962900487674 : True := trivial
theorem tw18243320616058850534 : True := trivial
theorem tw18189657841938801392 : True := trivial
theorem tw18174231678347352628 : True := trivial
theorem tw18133197322224867361 : True := trivial
theorem tw18027970315504703877 : True := trivial
theorem tw17994301212061070119 : True := trivial
theorem tw17942037914457623318 : True := trivial
theorem tw17925923492730016652 : True := trivial
theorem tw17923257353744980054 : True := trivial
theorem tw176977295656723065 : True := trivial
theorem tw17690871460500525271 : True := trivial
theorem tw17644514534155135092 : True := trivial
theorem tw17584191335013195612 : True := trivial
theorem tw17389396115470475288 : True := trivial
theorem tw17238752558760652402 : True := trivial
theorem tw17186049221098573887 : True := trivial
theorem tw17002439396945247550 : True := trivial
theorem tw16840622159041910090 : True := trivial
theorem tw16761591470956491853 : True := trivial
theorem tw16743919102785911483 : True := trivial
theorem tw16669810761675009345 : True := trivial
theorem tw16661212229125270991 : True := trivial
theorem tw16575673167688372683 : True := trivial
theorem tw16526325248041854055 : True := trivial
theorem tw16291823179772653766 : True := trivial
theorem tw16288524480538194225 : True := trivial
theorem tw16204094875209007955 : True := trivial
theorem tw16200301802012032120 : True := trivial
theorem tw16010564223820826558 : True := trivial
theorem tw15881911615934975264 : True := trivial
theorem tw15860708213811878519 : True := trivial
theorem tw15853727897521883275 : True := trivial
theorem tw15829181571673270705 : True := trivial
theorem tw15786528573266890262 : True := trivial
theorem tw15738021625795601203 : True := trivial
theorem tw15641155157065175805 : True := trivial
theorem tw15567554092467947690 : True := trivial
theorem tw15524740491475941218 : True := trivial
theorem tw15438610589593914328 : True := trivial
theorem tw15291515778787918541 : True := trivial
theorem tw15266785391687444539 : True := trivial
theorem tw15250516977012177893 : True := trivial
theorem tw1523954634173995102 : True := trivial
theorem tw14999770152523916156 : True := trivial
theorem tw14905269560852764671 : True := trivial
theorem tw14882510809304047780 : True := trivial
theorem tw14650229311272632197 : True := trivial
theorem tw14566858309784005721 : True := trivial
theorem tw14429984225472846677 : True := trivial
theorem tw14397947794671477899 : True := trivial
theorem tw14324394720252608761 : True := trivial
theorem tw14185583342123384908 : True := trivial
theorem tw14075074499185348901 : True := trivial
theorem tw14044808164122211230 : True := trivial
theorem tw13996213523464280658 : True := trivial
theorem tw13847991401066540787 : True := trivial
theorem tw13838018814042065490 : True := trivial
theorem tw13817142068744991791 : True := trivial
theorem tw13814131451427507189 : True := trivial
theorem tw13786455662358949411 : True := trivial
theorem tw13769731409856085057 : True := trivial
theorem tw13732165248360646341 : True := trivial
theorem tw13298203722689827917 : True := trivial
theorem tw1322433467843712534 : True := trivial
theorem tw13162457093455902463 : True := trivial
theorem tw13114515122707653793 : True := trivial
theorem tw12996499756298277263 : True := trivial
theorem tw12993445975515111361 : True := trivial
theorem tw1296409530997820298 : True := trivial
theorem tw12840604464936152123 : True := trivial
theorem tw12585790354688115527 : True := trivial
theorem tw12340981958623863397 : True := trivial
theorem tw12228369116463066081 : True := trivial
theorem tw12124443520851957044 : True := trivial
theorem tw12065540673060277790 : True := trivial
theorem tw11930047750849440119 : True := trivial
theorem tw11860059332995364445 : True := trivial
theorem tw11846370373574997029 : True := trivial
theorem tw11672800155852956706 : True := trivial
theorem tw11646379141798419536 : True := trivial
theorem tw11646202046503260017 : True := trivial
theorem tw11644868132232139897 : True := trivial
theorem tw11544267442128300576 : True := trivial
theorem tw11364142691922409913 : True := trivial
theorem tw11304072722765767021 : True := trivial
theorem tw11083616581157620123 : True := trivial
theorem tw10787819557663234410 : True := trivial
theorem tw10785498421680218836 : True := trivial
theorem tw1073818698688927204 : True := trivial
theorem tw10574732147149305561 : True := trivial
theorem tw10121643642846045468 : True := trivial
theorem tw10044013261082468525 : True := trivial
theorem tw10017577030591726147 : True := trivial
theorem tw9602979466950630956 : True := trivial
theorem tw912290570786946579 : True := trivial
theorem tw8777541643666118068 : True := trivial
theorem tw8722415481117505015 : True := trivial
theorem tw8572175281459272771 : True := trivial
theorem tw8444893750286939596 : True := trivial
theorem tw8125407811402774585 : True := trivial
theorem tw7552210041123771490 : True := trivial
theorem tw684210181549580303 : True := trivial
theorem tw6744984778823417519 : True := trivial
theorem tw6340304130596135008 : True := trivial
theorem tw6158425238486604569 : True := trivial
theorem tw5920227957080817638 : True := trivial
theorem tw5861546300858528307 : True := trivial
theorem tw5096499008420852698 : True := trivial
theorem tw4138905410403352593 : True := trivial
theorem tw397431815971221653 : True := trivial
theorem tw3612554134655720397 : True := trivial
theorem tw343839832772155065 : True := trivial
theorem tw3410111710019587186 : True := trivial
theorem tw2696157109874119690 : True := trivial
theorem tw2217001567337907910 : True := trivial
theorem tw2093290091728733057 : True := trivial
theorem tw18334927389422029420 : True := trivial
theorem tw18159918767601648018 : True := trivial
theorem tw178370783828623596 : True := trivial
theorem tw17831088686795452451 : True := trivial
theorem tw17795394019121955329 : True := trivial
theorem tw17716863462265859512 : True := trivial
theorem tw17694846207451314135 : True := trivial
theorem tw17581992280946622230 : True := trivial
theorem tw17423125552162021742 : True := trivial
theorem tw17405974757215459542 : True := trivial
theorem tw17405045028177135956 : True := trivial
theorem tw17375602352810135561 : True := trivial
theorem tw17234483976792478675 : True := trivial
theorem tw1703860651114587486 : True := trivial
theorem tw16219145617115034907 : True := trivial
theorem tw15659586693977764946 : True := trivial
theorem tw15227536787642769132 : True := trivial
theorem tw1488503510874697304 : True := trivial
theorem tw14849095896601040367 : True := trivial
theorem tw14836224472968703893 : True := trivial
theorem tw14585778381282314952 : True := trivial
theorem tw14560837491469231475 : True := trivial
theorem tw14415884991196681418 : True := trivial
theorem tw13921919005729749812 : True := trivial
theorem tw13809386149585982481 : True := trivial
theorem tw13746588304753895505 : True := trivial
theorem tw1218770742548784908 : True := trivial
theorem tw12170451868844119946 : True := trivial
theorem tw11282886037220131173 : True := trivial
theorem tw10698238366409207256 : True := trivial
theorem tw10143209758796899180 : True := trivial
theorem tw10063842601507977493 : True := trivial
theorem tw999255627539997526 : True := trivial
theorem tw9930359092145622687 : True := trivial
theorem tw9802983821206752271 : True := trivial
theorem tw9627398878514019407 : True := trivial
theorem tw9623524494010043433 : True := trivial
theorem tw9591621326534694922 : True := trivial
theorem tw9590536906216307355 : True := trivial
theorem tw9467629813166748578 : True := trivial
theorem tw9456409991113330330 : True := trivial
theorem tw9404376500200941770 : True := trivial
theorem tw9308319285386913480 : True := trivial
theorem tw92919152876705750 : True := trivial
theorem tw9119751986894142981 : True := trivial
theorem tw9085195453500331236 : True := trivial
theorem tw9028414481108622758 : True := trivial
theorem tw8835519533490355076 : True := trivial
theorem tw8755266905418455375 : True := trivial
theorem tw8604979696160575008 : True := trivial
theorem tw8521597775319928436 : True := trivial
theorem tw8487562230406468105 : True := trivial
theorem tw847593159352496057 : True := trivial
theorem tw8462929888207567711 : True := trivial
theorem tw8388858425438247444 : True := trivial
theorem tw8377945894465552080 : True := trivial
theorem tw8365684759685357752 : True := trivial
theorem tw8282170167223215797 : True := trivial
theorem tw8238774592813339674 : True := trivial
theorem tw8201457069280204918 : True := trivial
theorem tw8185630143887121337 : True := trivial
theorem tw8089249423132065445 : True := trivial
theorem tw8039774922555296384 : True := trivial
theorem tw8037652997034423971 : True := trivial
theorem tw800831887125934919 : True := trivial
theorem tw7956301941440062040 : True := trivial
theorem tw7904445426397662059 : True := trivial
theorem tw7875707854763748492 : True := trivial
theorem tw7848866751621661257 : True := trivial
theorem tw7620779201999659187 : True := trivial
theorem tw7393957277229836691 : True := trivial
theorem tw7387049268277325576 : True := trivial
theorem tw7310920118516755766 : True := trivial
theorem tw7259079589770855615 : True := trivial
theorem tw7247887190665584843 : True := trivial
theorem tw7240639191980452486 : True := trivial
theorem tw7239762555138251476 : True := trivial
theorem tw7202327286928840429 : True := trivial
theorem tw7072709004142627037 : True := trivial
theorem tw7036346233635388438 : True := trivial
theorem tw6942357351460751399 : True := trivial
theorem tw689209177001064519 : True := trivial
theorem tw6878535200312667207 : True := trivial
theorem tw6787905781562076304 : True := trivial
theorem tw6780223440767404674 : True := trivial
theorem tw6690677384477064843 : True := trivial
theorem tw6502013626171302762 : True := trivial
theorem tw6429728187070590260 : True := trivial
theorem tw6394967358973809932 : True := trivial
theorem tw6266016949813577251 : True := trivial
theorem tw6181847661251503008 : True := trivial
theorem tw6089560412477784131 : True := trivial
theorem tw5994711959094706394 : True := trivial
theorem tw5950158449063615346 : True := trivial
theorem tw5821001088122574322 : True := trivial
theorem tw5819105399919881484 : True := trivial
theorem tw5725444066816760673 : True := trivial
theorem tw5717963241065829162 : True := trivial
theorem tw5430882940802126740 : True := trivial
theorem tw5393277993990791207 : True := trivial
theorem tw5350998768358884751 : True := trivial
theorem tw5295854211047901153 : True := trivial
theorem tw5168400519034163868 : True := trivial
theorem tw5060445219760521703 : True := trivial
theorem tw5051596291613938045 : True := trivial
theorem tw5019332986140449700 : True := trivial
theorem tw5010354932100547165 : True := trivial
theorem tw4939278323791658419 : True := trivial
theorem tw4869967250276580588 : True := trivial
theorem tw4855646995411632120 : True := trivial
theorem tw4837878490209854375 : True := trivial
theorem tw4802236077587990626 : True := trivial
theorem tw4566636315000093172 : True := trivial
theorem tw4532786408525356839 : True := trivial
theorem tw439055297870408345 : True := trivial
theorem tw4376635405753832992 : True := trivial
theorem tw4237640369940289380 : True := trivial
theorem tw4116505084229542129 : True := trivial
theorem tw4102359912796715673 : True := trivial
theorem tw404968458719316295 : True := trivial
theorem tw3855077825024126993 : True := trivial
theorem tw3823650005643028596 : True := trivial
theorem tw3725507860900426652 : True := trivial
theorem tw3625882601150649006 : True := trivial
theorem tw3542057141095300096 : True := trivial
theorem tw3465091326942903629 : True := trivial
theorem tw3306689782225908076 : True := trivial
theorem tw3258786278723069861 : True := trivial
theorem tw3182821167057557991 : True := trivial
theorem tw3023512204820289533 : True := trivial
theorem tw3017139974649574989 : True := trivial
theorem tw2973379562459248654 : True := trivial
theorem tw2792723481025802335 : True := trivial
theorem tw2651210568008831048 : True := trivial
theorem tw2520694231678862498 : True := trivial
theorem tw2448602276733661166 : True := trivial
theorem tw2323472592885037881 : True := trivial
theorem tw2248526150547823735 : True := trivial
theorem tw2187499721780371684 : True := trivial
theorem tw2064118905727727203 : True := trivial
theorem tw2045930578084102194 : True := trivial
theorem tw1963361818967390675 : True := trivial
theorem tw1944396816056522135 : True := trivial
theorem tw1921160878016633958 : True := trivial
theorem tw1906729888136766467 : True := trivial
theorem tw1875788394568091543 : True := trivial
theorem tw18406689318668271181 : True := trivial
theorem tw18202286969598045364 : True := trivial
theorem tw1818218476948158209 : True := trivial
theorem tw18109355491918435820 : True := trivial
theorem tw18038851775406917655 : True := trivial
theorem tw17990854551104506056 : True := trivial
theorem tw179189376934874584 : True := trivial
theorem tw17887424493272649068 : True := trivial
theorem tw17843169823834903998 : True := trivial
theorem tw17744632191838401134 : True := trivial
theorem tw17723765623042550390 : True := trivial
theorem tw17652695096001567504 : True := trivial
theorem tw17645572048654386869 : True := trivial
theorem tw17364283921595539524 : True := trivial
theorem tw17357414001117552268 : True := trivial
theorem tw17263339626445266389 : True := trivial
theorem tw17218974888202052536 : True := trivial
theorem tw17104333970416622323 : True := trivial
theorem tw17051166181914805469 : True := trivial
theorem tw17029066052626920852 : True := trivial
theorem tw17018876735161736770 : True := trivial
theorem tw16988158499489311127 : True := trivial
theorem tw16982485362242456822 : True := trivial
theorem tw1692235544166657602 : True := trivial
theorem tw1691102865124860179 : True := trivial
theorem tw16865412676593439493 : True := trivial
theorem tw16835956152608702361 : True := trivial
theorem tw16826725409987885975 : True := trivial
theorem tw167336832753583806 : True := trivial
theorem tw16673904708825642869 : True := trivial
theorem tw16632375998614247822 : True := trivial
theorem tw16552895970294378026 : True := trivial
theorem tw16507177298177948937 : True := trivial
theorem tw16503717402094505217 : True := trivial
theorem tw16469943266984779137 : True := trivial
theorem tw16408023001231065620 : True := trivial
theorem tw16306601271817509428 : True := trivial
theorem tw16291882091215157828 : True := trivial
theorem tw16118308844857193260 : True := trivial
theorem tw16099248178681743328 : True := trivial
theorem tw1599608497217551579 : True := trivial
theorem tw15968237232650601322 : True := trivial
theorem tw15963830579283735448 : True := trivial
theorem tw15945904282836308387 : True := trivial
theorem tw15801317192440724364 : True := trivial
theorem tw15676261240554180864 : True := trivial
theorem tw156604256827902990 : True := trivial
theorem tw15641575440650329080 : True := trivial
theorem tw1564093576101422265 : True := trivial
theorem tw15615506901333172577 : True := trivial
theorem tw15593639298716513902 : True := trivial
theorem tw1539576199135281160 : True := trivial
theorem tw1536147683505774889 : True := trivial
theorem tw15319796435752655959 : True := trivial
theorem tw1516094112815808067 : True := trivial
theorem tw15073084007737812838 : True := trivial
theorem tw15003257448840769609 : True := trivial
theorem tw14988306749868862141 : True := trivial
theorem tw14977234088687162302 : True := trivial
theorem tw1492062709326496596 : True := trivial
theorem tw14876317631354250296 : True := trivial
theorem tw14870940994311712039 : True := trivial
theorem tw14646051411932343840 : True := trivial
theorem tw14538086128319557123 : True := trivial
theorem tw14322595565739780087 : True := trivial
theorem tw1428814744893504695 : True := trivial
theorem tw13888251672469135178 : True := trivial
theorem tw13841191037290658594 : True := trivial
theorem tw13820470126673855253 : True := trivial
theorem tw13788262537284159298 : True := trivial
theorem tw1372833672288217791 : True := trivial
theorem tw13611136168108132581 : True := trivial
theorem tw1358744676988583611 : True := trivial
theorem tw13580389790971816817 : True := trivial
theorem tw13392218115919352882 : True := trivial
theorem tw13385619842731796546 : True := trivial
theorem tw13170554741523819223 : True := trivial
theorem tw13140385074510843379 : True := trivial
theorem tw13055914441102849027 : True := trivial
theorem tw13021086612755893400 : True := trivial
theorem tw12992001612654045271 : True := trivial
theorem tw12898871719091480922 : True := trivial
theorem tw12878273097781070547 : True := trivial
theorem tw1283506980011859969 : True := trivial
theorem tw12725217407329787103 : True := trivial
theorem tw12685479241261802335 : True := trivial
theorem tw12661369023874259431 : True := trivial
theorem tw12650994420537281789 : True := trivial
theorem tw12310720753968129801 : True := trivial
theorem tw12296552071639831032 : True := trivial
theorem tw12141280797297536670 : True := trivial
theorem tw12083225706203450762 : True := trivial
theorem tw11985937269989024962 : True := trivial
theorem tw11892039915525360660 : True := trivial
theorem tw11883736081812832149 : True := trivial
theorem tw11872690636868124001 : True := trivial
theorem tw11801650391622900179 : True := trivial
theorem tw11721133333301373747 : True := trivial
theorem tw11701492411309977178 : True := trivial
theorem tw11687504721054253588 : True := trivial
theorem tw11665305186481523908 : True := trivial
theorem tw11612187849094769778 : True := trivial
theorem tw11609425286787412919 : True := trivial
theorem tw11605670760853518920 : True := trivial
theorem tw11599022089905024566 : True := trivial
theorem tw11469663846147530161 : True := trivial
theorem tw11365700717142005424 : True := trivial
theorem tw11362101791794971524 : True := trivial
theorem tw11166862733661299840 : True := trivial
theorem tw11040902395418374828 : True := trivial
theorem tw11030641428109492703 : True := trivial
theorem tw10951774745770659907 : True := trivial
theorem tw10932722520931459696 : True := trivial
theorem tw10897373541712964772 : True := trivial
theorem tw10846541316933110243 : True := trivial
theorem tw10760031201136348398 : True := trivial
theorem tw10576813361638309727 : True := trivial
theorem tw10424792985553544811 : True := trivial
theorem tw10388815045332656835 : True := trivial
theorem tw1031021603403437821 : True := trivial
theorem tw10275949009854564666 : True := trivial
theorem tw10263077061500514125 : True := trivial
theorem tw1024123932853393264 : True := trivial
theorem tw10178320482404669705 : True := trivial
theorem tw10095913671755900038 : True := trivial
theorem tw10053539800044614232 : True := trivial
end PySem.W.Fast
section
open PySem PySem.W PyProof.Rows
set_option maxRecDepth 100000 in
set_option maxHeartbeats 0 in
open_top My.top for PySem.Challenge.rw_stairrooms_k14_no_house_is_refused
end
set_option linter.all false
set_option maxRecDepth 100000
namespace L2
open PySem PySem.Spec PyProof.Rows
noncomputable abbrev Key := Sum Int Str
noncomputable def keyIs : Key → Value → Bool
  | .inl k, v => Value.isInt k v
  | .inr x, v => Value.isStrOf x v
noncomputable def keyH (w : World) : Key → Int
  | .inl k => hashInt k
  | .inr x => hashStr w x
theorem keyIs_shape : ∀ {k : Key} {v : Value}, keyIs k v = true → (∃ i t, k = Sum.inl i ∧ v = Value.int i t) ∨ (∃ x t, k = Sum.inr x ∧ v = Value.str x t)
  | .inl i, v, h => by
    obtain ⟨t, e⟩ := Value.isInt_shape (k := i) (v := v) h
    exact .inl ⟨i, t, rfl, e⟩
  | .inr x, v, h => by
    obtain ⟨t, e⟩ := Value.isStrOf_shape (x := x) (v := v) h
    exact .inr ⟨x, t, rfl, e⟩
theorem keyIs_int (i : Int) (t : Tok) : keyIs (.inl i) (.int i t) = true := by simp [keyIs, Value.isInt]
theorem keyIs_str (x : Str) (t : Tok) : keyIs (.inr x) (.str x t) = true := by simp [keyIs, Value.isStrOf]
theorem key_ll (a b : Int) : decide ((Sum.inl a : Key) = Sum.inl b) = (a == b) := by
  by_cases e : a = b
  · subst e; simp
  · have h : ¬ (Sum.inl a : Key) = Sum.inl b := fun q => e (Sum.inl.inj q)
    rw [decide_eq_false h]
    exact (beq_eq_false_iff_ne.mpr e).symm
theorem key_rr (a b : Str) : decide ((Sum.inr a : Key) = Sum.inr b) = decide (a = b) := by
  by_cases e : a = b
  · subst e; simp
  · have h : ¬ (Sum.inr a : Key) = Sum.inr b := fun q => e (Sum.inr.inj q)
    rw [decide_eq_false h, decide_eq_false e]
theorem key_lr (a : Int) (b : Str) : decide ((Sum.inl a : Key) = Sum.inr b) = false := decide_eq_false (fun q => nomatch q)
theorem key_rl (a : Str) (b : Int) : decide ((Sum.inr a : Key) = Sum.inl b) = false := decide_eq_false (fun q => nomatch q)
noncomputable def mixKind (prog : Program) (w : World) : PySem.KeyKind prog w Key where
  is := keyIs
  hash := keyH w
  inj := fun v a b ha hb => by
    rcases keyIs_shape ha with ⟨i, t, rfl, rfl⟩ | ⟨x, t, rfl, rfl⟩
    · rcases keyIs_shape hb with ⟨j, u, rfl, e⟩ | ⟨y, u, rfl, e⟩
      · injection e with e1 _; rw [e1]
      · exact nomatch e
    · rcases keyIs_shape hb with ⟨j, u, rfl, e⟩ | ⟨y, u, rfl, e⟩
      · exact nomatch e
      · injection e with e1 _; rw [e1]
  byValue := fun k v h => by
    rcases keyIs_shape h with ⟨i, t, rfl, rfl⟩ | ⟨x, t, rfl, rfl⟩ <;> rfl
  pyHash := fun hv h => by
    rcases keyIs_shape hv with ⟨i, t, rfl, rfl⟩ | ⟨x, t, rfl, rfl⟩
    · exact wpAny_pyHash_int h
    · exact wpAny_pyHash_str h
  eqBool := fun hu hv h => by
    rcases keyIs_shape hu with ⟨i, t, rfl, rfl⟩ | ⟨x, t, rfl, rfl⟩
    · rcases keyIs_shape hv with ⟨j, u, rfl, rfl⟩ | ⟨y, u, rfl, rfl⟩
      · rw [key_ll] at h; exact wpAny_eqBool_int h
      · rw [key_lr] at h; exact SeqAt.EqAt.int_str i t y u _ _ _ _ h
    · rcases keyIs_shape hv with ⟨j, u, rfl, rfl⟩ | ⟨y, u, rfl, rfl⟩
      · rw [key_rl] at h; exact SeqAt.EqAt.str_int x t j u _ _ _ _ h
      · rw [key_rr] at h; exact wpAny_eqBool_str h
  «strs» := fun k x t v h => by
    rcases keyIs_shape h with ⟨i, u, rfl, e⟩ | ⟨y, u, rfl, e⟩
    · exact nomatch e
    · injection e with e1 _
      subst e1
      cases v <;> rfl
theorem mixKind_int (prog : Program) (w : World) (i : Int) (t : Tok) : (mixKind prog w).is (.inl i) (.int i t) = true := keyIs_int i t
theorem mixKind_str (prog : Program) (w : World) (x : Str) (t : Tok) : (mixKind prog w).is (.inr x) (.str x t) = true := keyIs_str x t
end L2
namespace L2
open PySem PySem.Spec PyProof.Rows
inductive V where
  | non | bl (b : Bool) | int (i : Int) | str (x : Str) | byt (b : Array UInt8) | flt (b : UInt64) | ref (a : Addr) | ty (n : String)
  deriving DecidableEq
noncomputable def RelV : V → Value → Prop
  | .non, u => u = Value.none
  | .bl b, u => u = Value.bool b
  | .int i, u => ∃ t, u = Value.int i t
  | .str x, u => ∃ t, u = Value.str x t
  | .byt b, u => ∃ t, u = Value.bytes b t
  | .flt b, u => ∃ t, u = Value.float b t
  | .ref a, u => u = Value.ref a
  | .ty n, u => u = Value.type n
noncomputable abbrev Vals : List V → List Value → Prop := Paired RelV
theorem Vals.length {xs : List V} {us : List Value} (r : Vals xs us) : xs.length = us.length := Paired.length r
theorem Vals.get : ∀ {xs : List V} {us : List Value} {i : Nat} {x : V}, Vals xs us → xs[i]? = some x → ∃ u, us[i]? = some u ∧ RelV x u
  | _, _, _, _, .nil, e => by simp at e
  | _, _, 0, _, .cons r _, e => by simp at e; subst e; exact ⟨_, rfl, r⟩
  | _, _, i + 1, x, .cons _ t, e => by
    obtain ⟨u, h1, h2⟩ := Vals.get (i := i) (x := x) t (by simpa using e)
    exact ⟨u, by simpa using h1, h2⟩
theorem Vals.append : ∀ {xs ys : List V} {us ws : List Value}, Vals xs us → Vals ys ws → Vals (xs ++ ys) (us ++ ws)
  | _, _, _, _, .nil, s => s
  | _, _, _, _, .cons r t, s => .cons r (Vals.append t s)
theorem Vals.take : ∀ {xs : List V} {us : List Value} (n : Nat), Vals xs us → Vals (xs.take n) (us.take n)
  | _, _, 0, _ => .nil
  | _, _, _ + 1, .nil => .nil
  | _, _, n + 1, .cons r t => .cons r (Vals.take n t)
theorem Vals.drop : ∀ {xs : List V} {us : List Value} (n : Nat), Vals xs us → Vals (xs.drop n) (us.drop n)
  | _, _, 0, r => r
  | _, _, _ + 1, .nil => .nil
  | _, _, n + 1, .cons _ t => Vals.drop n t
noncomputable def RelO : Option V → Option Value → Prop
  | some v, some u => RelV v u
  | none, none => True
  | _, _ => False
noncomputable def KV {κ : Type} : List (κ × V) → List (κ × Value) → Prop := Paired fun (p : κ × V) (q : κ × Value) => p.1 = q.1 ∧ RelV p.2 q.2
noncomputable def kV : Key → V
  | .inl i => .int i
  | .inr x => .str x
inductive HO where
  /-- a list -/
  | lst (xs : List V)
  /-- a tuple (never changes) -/
  | tup (xs : List V)
  /-- a dict whose keys are ints and texts; one whose keys are tuples of ints and texts (the empty one is both) -/
  | dK (kvs : List (Key × V)) | dT (kvs : List (List Key × V))
  /-- a set of ints: its members, its size -/
  | set (S : Int → Bool) (n : Nat)
  /-- an instance of the class at C, its dict at dx, its attributes -/
  | ins (C dx : Addr) (fs : List (Str × V))
  /-- the dict of the instance at x -/
  | own (x : Addr)
  /-- the dict of an exception -/
  | xd (fs : List (Str × V))
  /-- a bound method, f of x -/
  | met (f x : Addr)
  /-- a range object lo, lo + 1, .. below hi -/
  | rng (lo hi : Int)
  /-- a thing that is known to the object (the script; a dict while a loop walks it): read, never written while it is so -/
  | frz (o : Obj) (u : HO)
  /-- a code object's table -/
  | tbl (ps : Array Value)
  /-- any other thing, by what is true of its one object (a def of one's own: SetO a S n := HO.ext fun h => ..) -/
  | ext (φ : Heap → Prop)
noncomputable abbrev Hp := Addr → Option HO
noncomputable def upd (H : Hp) (a : Addr) (o : HO) : Hp := fun b => if b = a then some o else H b
theorem upd_same {H : Hp} {a : Addr} {o : HO} : upd H a o a = some o := by unfold upd; rw [if_pos rfl]
theorem upd_ne {H : Hp} {a b : Addr} {o : HO} (h : b ≠ a) : upd H a o b = H b := by unfold upd; rw [if_neg h]
theorem ne_of {H : Hp} {a b : Addr} {o u : HO} (h : H a = some o) (h' : H b = some u) (d : o ≠ u) : a ≠ b := by
  intro e; subst e; rw [h] at h'; exact d (Option.some.inj h')
theorem ne_of_none {H : Hp} {a b : Addr} {o : HO} (h : H a = some o) (h' : H b = none) : a ≠ b := by
  intro e; subst e; rw [h] at h'; cases h'
section
variable (P : Program) (w : World)
noncomputable def ObjOk (H : Hp) (h : Heap) (a : Addr) : HO → Prop
  | .lst xs => xs.length ≤ sizeLine ∧ ∃ (its : List Value) (n : Nat), Vals xs its ∧ h.get? a = some { cls := .type "list", data := .seq its.toArray n }
  | .tup xs => xs.length ≤ sizeLine ∧ ∃ its : List Value, Vals xs its ∧ IsTup h a its.toArray
  | .dK kvs => kvs.length ≤ sizeLine ∧ (a == sysModules) = false ∧ ∃ vs, KV kvs vs ∧ h.DictOf (mixKind P w) a vs
  | .dT kvs => kvs.length ≤ sizeLine ∧ (a == sysModules) = false ∧ ∃ xs : List (List Key × Addr × Value),
      Paired (fun (p : List Key × V) (q : List Key × Addr × Value) => p.1 = q.1 ∧ H q.2.1 = some (.tup (p.1.map kV)) ∧ RelV p.2 q.2.2) kvs xs ∧
      ∃ o es ep, h.get? a = some o ∧ o.ExactDict ∧ o.data = .dict es ep ∧ es.toList = xs.map (entryOfKey (tupleKind (mixKind P w))) ∧ (xs.map (·.1)).Nodup
  | .set S n => h.SetOf (intKind P w) a S n
  | .ins C dx fs => H dx = some (.own a) ∧ fs.length ≤ 1000 ∧ dx ≠ a ∧ h.get? a = some (PySem.W.instObj C dx) ∧
      ∃ mA, h.Ns1 dx mA ∧ (∀ f, RelO (fs.lookup f) (mA f)) ∧ PySem.Within mA (fs.map (·.1))
  | .own _ => ∃ o, h.get? a = some o
  | .xd fs => ∃ mA, h.Ns1 a mA ∧ ∀ f, RelO (fs.lookup f) (mA f)
  | .rng lo hi => ∃ t u v, h.get? a = some { cls := .type "range", data := .fields #[.int lo t, .int hi u, .int 1 v] }
  | .frz o u => h.get? a = some o ∧ ObjOk H h a u
  | .tbl ps => h.get? a = some { cls := .none, data := .fields ps }
  | .met f x => h.get? a = some (PySem.W.methodObj (.ref f) (.ref x))
  | .ext φ => φ h ∧ (∃ o, h.get? a = some o) ∧ ∀ h1 h2 : Heap, φ h1 → (∀ o, h1.get? a = some o → h2.get? a = some o) → φ h2
noncomputable def HOk (H : Hp) (h : Heap) : Prop := ∀ a o, H a = some o → ObjOk P w H h a o
end
section
variable {P : Program} {w : World} {H H' : Hp} {h h' : Heap} {a : Addr} {o : HO}
theorem ObjOk.lt (x : ObjOk P w H h a o) : a < h.objs.size := by
  cases o with
  | lst xs => obtain ⟨_, _, _, _, e⟩ := x; exact Heap.lt_size e
  | tup xs => obtain ⟨_, _, _, p⟩ := x; exact p.lt
  | dK kvs => obtain ⟨_, _, _, _, o, _, _, e, _⟩ := x; exact Heap.lt_size e
  | dT kvs => obtain ⟨_, _, _, _, o, _, _, e, _⟩ := x; exact Heap.lt_size e
  | set S n => obtain ⟨o, _, _, _, e, _⟩ := x; exact Heap.lt_size e
  | ins C dx fs => obtain ⟨_, _, _, e, _⟩ := x; exact Heap.lt_size e
  | own y => obtain ⟨_, e⟩ := x; exact Heap.lt_size e
  | xd fs => obtain ⟨_, ⟨_, _, _, e, _⟩, _⟩ := x; exact Heap.lt_size e
  | rng lo hi => obtain ⟨_, _, _, e⟩ := x; exact Heap.lt_size e
  | frz ob u => obtain ⟨e, _⟩ := x; exact Heap.lt_size e
  | tbl ps => exact Heap.lt_size (show h.get? a = some _ from x)
  | met f y => exact Heap.lt_size (show h.get? a = some _ from x)
  | ext φ => obtain ⟨_, ⟨_, e⟩, _⟩ := x; exact Heap.lt_size e
theorem Paired.mapP {α β : Type} {F G : α → β → Prop} : ∀ {l₁ : List α} {l₂ : List β}, Paired F l₁ l₂ → (∀ a b, F a b → G a b) → Paired G l₁ l₂
  | _, _, .nil, _ => .nil
  | _, _, .cons r t, f => .cons (f _ _ r) (Paired.mapP t f)
theorem ObjOk.stay (x : ObjOk P w H h a o) (k : ∀ b u, (b = a ∨ H b = some (.own a)) → h.get? b = some u → h'.get? b = some u)
    (ho : ∀ b, H b = some (.own a) → H' b = some (.own a)) (ht : ∀ b xs, H b = some (.tup xs) → H' b = some (.tup xs)) : ObjOk P w H' h' a o := by
  induction o with
  | lst xs => obtain ⟨z, its, n, r, e⟩ := x; exact ⟨z, its, n, r, k _ _ (.inl rfl) e⟩
  | tup xs => obtain ⟨z, its, r, ob, e, c⟩ := x; exact ⟨z, its, r, ob, k _ _ (.inl rfl) e, c⟩
  | dK kvs => obtain ⟨z, y, vs, r, ob, es, ep, e, c⟩ := x; exact ⟨z, y, vs, r, ob, es, ep, k _ _ (.inl rfl) e, c⟩
  | dT kvs =>
    obtain ⟨z, y, xs, r, ob, es, ep, e, c⟩ := x
    exact ⟨z, y, xs, Paired.mapP r fun p q z => ⟨z.1, ht _ _ z.2.1, z.2.2⟩, ob, es, ep, k _ _ (.inl rfl) e, c⟩
  | set S n => obtain ⟨ob, es, ep, t, e, c⟩ := x; exact ⟨ob, es, ep, t, k _ _ (.inl rfl) e, c⟩
  | ins C dx fs =>
    obtain ⟨d, z, ne, e, mA, ⟨od, es, ep, e2, c⟩, r⟩ := x
    exact ⟨ho _ d, z, ne, k _ _ (.inl rfl) e, mA, ⟨od, es, ep, k _ _ (.inr d) e2, c⟩, r⟩
  | own y => obtain ⟨ob, e⟩ := x; exact ⟨ob, k _ _ (.inl rfl) e⟩
  | xd fs => obtain ⟨mA, ⟨od, es, ep, e, c⟩, r⟩ := x; exact ⟨mA, ⟨od, es, ep, k _ _ (.inl rfl) e, c⟩, r⟩
  | rng lo hi => obtain ⟨t, u, v, e⟩ := x; exact ⟨t, u, v, k _ _ (.inl rfl) e⟩
  | frz ob u ih => obtain ⟨e, q⟩ := x; exact ⟨k _ _ (.inl rfl) e, ih q⟩
  | tbl ps =>
    have e : h.get? a = some { cls := .none, data := .fields ps } := x
    show h'.get? a = some { cls := .none, data := .fields ps }
    exact k a _ (.inl rfl) e
  | met f y =>
    have e : h.get? a = some (PySem.W.methodObj (.ref f) (.ref y)) := x
    show h'.get? a = some (PySem.W.methodObj (.ref f) (.ref y))
    exact k a _ (.inl rfl) e
  | ext φ => obtain ⟨p, ⟨o, e⟩, st⟩ := x; exact ⟨st _ _ p fun o q => k _ _ (.inl rfl) q, ⟨o, k _ _ (.inl rfl) e⟩, st⟩
theorem HOk.lt (x : HOk P w H h) (e : H a = some o) : a < h.objs.size := (x a o e).lt
theorem HOk.fresh (x : HOk P w H h) (e : h.objs.size ≤ a) : H a = none := by
  cases q : H a with
  | none => rfl
  | some u => exact absurd (Nat.lt_of_lt_of_le (x.lt q) e) (Nat.lt_irrefl _)
theorem HOk.kept (x : HOk P w H h) (k : ∀ b u, h.get? b = some u → h'.get? b = some u) : HOk P w H h' := fun a o e =>
  (x a o e).stay (fun b u _ q => k b u q) (fun _ q => q) fun _ _ q => q
theorem HOk.laid (x : HOk P w H h) (k : ∀ b u, h.get? b = some u → h'.get? b = some u) (hp : h.objs.size ≤ a) (new : ObjOk P w (upd H a o) h' a o) : HOk P w (upd H a o) h' := fun b u e => by
  have hn := x.fresh hp
  by_cases hb : b = a
  · subst hb; rw [upd_same] at e; cases e; exact new
  · rw [upd_ne hb] at e
    exact (x b u e).stay (fun c v _ q => k c v q) (fun c q => by rw [upd_ne (ne_of_none q hn)]; exact q) fun c xs q => by rw [upd_ne (ne_of_none q hn)]; exact q
end
noncomputable def Rd (H : Hp) (a : Addr) (u : HO) : Prop := H a = some u ∨ ∃ o, H a = some (.frz o u)
theorem Rd.ok {P : Program} {w : World} {H : Hp} {h : Heap} {a : Addr} {u : HO} (r : Rd H a u) (x : HOk P w H h) : ObjOk P w H h a u := by
  rcases r with r | ⟨o, r⟩
  · exact x a u r
  · obtain ⟨_, q⟩ := x a _ r
    exact q
noncomputable def Mut : Option HO → Prop
  | some (.lst _) => True
  | some (.dK _) => True
  | some (.dT _) => True
  | some (.set _ _) => True
  | some (.ins _ _ _) => True
  | some (.ext _) => True
  | _ => False
section
variable {P : Program} {w : World} {H : Hp} {h h' : Heap} {x e : Addr} {o' : HO}
theorem HOk.write (ok : HOk P w H h) (mu : Mut (H x)) (he : e = x ∨ H e = some (.own x)) (k : ∀ b u, b ≠ e → h.get? b = some u → h'.get? b = some u) (heo : ∃ u, h'.get? e = some u)
    (new : ObjOk P w (upd H x o') h' x o') : HOk P w (upd H x o') h' := fun b u q => by
  have nown : ∀ c y, H c = some (.own y) → c ≠ x := fun c y r z => by subst z; rw [r] at mu; exact mu
  have ntup : ∀ c xs, H c = some (.tup xs) → c ≠ x := fun c xs r z => by subst z; rw [r] at mu; exact mu
  by_cases hb : b = x
  · subst hb; rw [upd_same] at q; cases q; exact new
  · rw [upd_ne hb] at q
    by_cases hbe : b = e
    · have q' : H b = some (.own x) := by
        rcases he with z | z
        · exact absurd (hbe.trans z) hb
        · rw [hbe]; exact z
      rw [q] at q'; cases q'
      obtain ⟨v, hv⟩ := heo
      exact ⟨v, by rw [hbe]; exact hv⟩
    · refine (ok b u q).stay (fun c v hc r => k c v ?_ r) (fun c r => by rw [upd_ne (nown c b r)]; exact r) fun c xs r => by rw [upd_ne (ntup c xs r)]; exact r
      rcases hc with rfl | hc
      · exact hbe
      · rintro rfl
        rcases he with z | z
        · exact nown c b hc z
        · rw [hc] at z; cases z; exact hb rfl
end
structure Un (fs ex : List Addr) (H H' : Hp) (h h' : Heap) : Prop where
  keep : ∀ b o, h.get? b = some o → H b = none → b ∉ fs → b ∉ ex → h'.get? b = some o
  slot : ∀ b o, h.get? b = some o → H b = none → b ∈ fs → b ∉ ex → ∃ sl, h'.get? b = some { o with slots := sl }
  free : ∀ b o, h.get? b = some o → H b = none → b ∉ ex → H' b = none
  there : ∀ b o, h.get? b = some o → b ∉ ex → ∃ o', h'.get? b = some o'
  tups : ∀ b xs, H b = some (.tup xs) → H' b = some (.tup xs)
  frzs : ∀ b o u, H b = some (.frz o u) → H' b = some (.frz o u)
  tbls : ∀ b ps, H b = some (.tbl ps) → ∃ more, H' b = some (.tbl (ps ++ more))
section
variable {fs fs' ex ex' : List Addr} {H H1 H2 : Hp} {h h1 h2 h' : Heap} {a x e : Addr} {o : HO}
theorem Un.any (u : Un fs ex H H1 h h1) {b : Addr} {ob : Obj} (q : h.get? b = some ob) (n : H b = none) (hx : b ∉ ex) : ∃ sl, h1.get? b = some { ob with slots := sl } := by
  by_cases hb : b ∈ fs
  · exact u.slot b ob q n hb hx
  · exact ⟨ob.slots, u.keep b ob q n hb hx⟩
theorem Un.kept (k : ∀ b u, h.get? b = some u → h'.get? b = some u) : Un fs ex H H h h' :=
  ⟨fun b ob q _ _ _ => k b ob q, fun b ob q _ _ _ => ⟨ob.slots, k b ob q⟩, fun _ _ _ n _ => n, fun b ob q _ => ⟨ob, k b ob q⟩, fun _ _ q => q, fun _ _ _ q => q, fun _ ps q => ⟨#[], by rw [q]; simp⟩⟩
theorem Un.refl : Un fs ex H H h h := Un.kept fun _ _ q => q
theorem Un.laid (k : ∀ b u, h.get? b = some u → h'.get? b = some u) (hp : h.objs.size ≤ a) (hn : H a = none) : Un fs ex H (upd H a o) h h' where
  keep := fun b u q _ _ _ => k b u q
  slot := fun b u q _ _ _ => ⟨u.slots, k b u q⟩
  free := fun b u q n _ => by rw [upd_ne (Nat.ne_of_lt (Nat.lt_of_lt_of_le (Heap.lt_size q) hp))]; exact n
  there := fun b u q _ => ⟨u, k b u q⟩
  tups := fun b xs q => by rw [upd_ne (ne_of_none q hn)]; exact q
  frzs := fun b u xs q => by rw [upd_ne (ne_of_none q hn)]; exact q
  tbls := fun b ps q => ⟨#[], by rw [upd_ne (ne_of_none q hn), q]; simp⟩
theorem Un.write (mu : Mut (H x)) (he : e = x ∨ H e = some (.own x)) (k : ∀ b u, b ≠ e → h.get? b = some u → h'.get? b = some u) (heo : ∃ u, h'.get? e = some u) : Un fs ex H (upd H x o) h h' := by
  have hx : ∀ b, H b = none → b ≠ x := fun b n z => by subst z; rw [n] at mu; exact mu
  have hb : ∀ b, H b = none → b ≠ e := fun b n z => by
    subst z
    rcases he with r | r
    · exact hx b n r
    · rw [n] at r; cases r
  have hm : ∀ b u, H b = some u → ¬ Mut (some u) → b ≠ x := fun b u q nm z => by subst z; rw [q] at mu; exact nm mu
  refine ⟨fun b u q n _ _ => k b u (hb b n) q, fun b u q n _ _ => ⟨u.slots, k b u (hb b n) q⟩, fun b u q n _ => by rw [upd_ne (hx b n)]; exact n, fun b u q _ => ?_,
    fun b xs q => by rw [upd_ne (hm b _ q fun z => z)]; exact q, fun b u xs q => by rw [upd_ne (hm b _ q fun z => z)]; exact q, fun b ps q => ⟨#[], by rw [upd_ne (hm b _ q fun z => z), q]; simp⟩⟩
  by_cases hbe : b = e
  · subst hbe; exact heo
  · exact ⟨u, k b u hbe q⟩
end
noncomputable def trk (h : Heap) (H : Hp) : List Addr := (List.range h.objs.size).filter fun a => (H a).isSome
noncomputable def hidT (h : Heap) (H : Hp) : Heap := PySem.W.hideAll h (trk h H)
theorem hidT_size (h : Heap) (H : Hp) : (hidT h H).objs.size = h.objs.size := PySem.W.hideAll_size _ _
theorem hidT_get {h : Heap} {H : Hp} {b : Addr} {o : Obj} (e : h.get? b = some o) (n : H b = none) : (hidT h H).get? b = some o :=
  PySem.W.hideAll_get _ e fun hm => by
    have q : (H b).isSome = true := (List.mem_filter.mp hm).2
    rw [n] at q; simp at q
theorem of_hidT {h : Heap} {H : Hp} {b : Addr} {o : Obj} (e : (hidT h H).get? b = some o) : h.get? b = some o ∧ H b = none := by
  have e' : h.get? b = some o := PySem.W.of_hideAll (trk h H) e
  refine ⟨e', ?_⟩
  cases q : H b with
  | none => rfl
  | some x =>
    have hm : b ∈ trk h H := List.mem_filter.mpr ⟨List.mem_range.mpr (Heap.lt_size e'), by simp [q]⟩
    have z : (hidT h H).get? b = none := PySem.W.hideAll_none (trk h H) hm
    rw [z] at e; cases e
end L2
namespace L2
open PySem PySem.Spec PyProof.Rows
structure Mod (K : PySem.W.Frag) (mg : Str → Option Value) (base : Heap) : Prop where
  kin : K.In base
  glob : base.Ns mainGlobals mg
  blt : ∃ mb, base.Ns builtinsNs mb ∧ ∀ x : Str, x ≠ "__name__" → mb x = bootBuiltins x
  nolimit : base.NoLimit
structure Cx where
  prog : Program
  w : World
  K : PySem.W.Frag
  mg : Str → Option Value
  base : Heap
  A : Around
  N : List Str
  s₀ : Shared
  H₀ : Hp
  env : Env
  outer : List Env
  stack : List Env
  ex : List Addr
  fn : Str → Bool
  calm : Bool
  pn : List (Addr × Obj)
  xe : Value → Shared → Prop
noncomputable def frs (l : List Env) : List Addr := l.filterMap (·.frame)
noncomputable abbrev Cx.fs (X : Cx) : List Addr := frs X.outer
noncomputable def Vis (sc : Scope) (x : Str) : Prop := sc.names.lookup x = some .local ∨ sc.names.lookup x = some .cell ∨ sc.names.lookup x = some .free
noncomputable def Loc (sc : Scope) (x : Str) : Prop := sc.names.lookup x = some .local ∨ sc.names.lookup x = some .cell
noncomputable def Look (env : Env) (h : Heap) (m : Str → Option Value) (x : Str) (u : Value) : Prop :=
  (env.kindOf x = some .local ∧ m x = some u) ∨ ((env.kindOf x = some .cell ∨ env.kindOf x = some .free) ∧ ∃ c, env.cells.lookup x = some c ∧ h.IsCell c (some u))
structure Cx.Ok (X : Cx) : Prop where
  mod : Mod X.K X.mg X.base
  kind : X.env.scope.kind = .function
  glob : X.env.globals = mainGlobals
  blt : X.env.builtins = builtinsNs
  above : X.s₀.heap.objs.size ≤ X.env.locals
  inj : ∀ x y c, X.env.cells.lookup x = some c → X.env.cells.lookup y = some c → x = y
  has : ∀ x, (X.env.kindOf x = some .cell ∨ X.env.kindOf x = some .free) → ∃ c, X.env.cells.lookup x = some c
  cab : ∀ x c, X.fn x = true → X.env.cells.lookup x = some c → X.s₀.heap.objs.size ≤ c
  hd : X.calm = true → X.A.handled = none
  frames : X.A.frames = some X.stack
  stk : X.stack = X.outer ∨ (X.stack = X.env :: X.outer ∧ X.env.frame = some X.env.locals)
  exf : ∀ b ∈ X.ex, b ≠ X.env.locals ∧ ∀ x c, X.env.cells.lookup x = some c → c ≠ b
  bs : ∀ b o, X.base.get? b = some o → X.s₀.heap.get? b = some o ∧ X.H₀ b = none
  bsz : X.base.objs.size ≤ X.s₀.heap.objs.size
  noex : ∀ b o, X.base.get? b = some o → b ∉ X.ex
  exfs : ∀ b ∈ X.ex, b ∉ X.fs
  funs : X.s₀.heap.FunFrames X.base X.outer
  frf : ∀ b ∈ X.fs, X.H₀ b = none
structure Inv (X : Cx) (pins : List (Addr × Obj)) (σ : List (Option V)) (H : Hp) (s : Shared) : Prop where
  ok : X.Ok
  os : s.os = X.s₀.os
  bare : AllBare s.gens
  base : Un X.fs X.ex X.H₀ H X.s₀.heap s.heap
  loc : ∃ m, s.heap.Ns X.env.locals m ∧ ∀ (i : Nat) (x : Str) (v : V), X.N[i]? = some x → σ[i]? = some (some v) → Vis X.env.scope x → ∃ u, RelV v u ∧ Look X.env s.heap m x u
  cell : ∀ x c, X.env.cells.lookup x = some c → ∃ v, s.heap.IsCell c v
  free : H X.env.locals = none
  freeC : ∀ x c, X.env.cells.lookup x = some c → H c = none
  pin : ∀ p ∈ X.pn ++ pins, s.heap.get? p.1 = some p.2 ∧ H p.1 = none ∧ p.1 ≠ X.env.locals ∧ p.1 ∉ X.fs ∧ ∀ v, p.2.data ≠ .cell v
  hok : HOk X.prog X.w H s.heap
  len : σ.length = X.N.length
section
variable {X : Cx} {pins : List (Addr × Obj)} {σ : List (Option V)} {H H' : Hp} {s : Shared} {h' : Heap}
theorem Cx.Ok.nofr (ok : X.Ok) {b : Addr} {o : Obj} (e : X.base.get? b = some o) : b ∉ X.fs := fun hb => by
  have := (ok.funs.mem hb).1
  rw [e] at this; cases this
theorem Inv.bs (I : Inv X pins σ H s) : ∀ b o, X.base.get? b = some o → s.heap.get? b = some o ∧ H b = none := fun b o e =>
  ⟨I.base.keep b o (I.ok.bs b o e).1 (I.ok.bs b o e).2 (I.ok.nofr e) (I.ok.noex b o e), I.base.free b o (I.ok.bs b o e).1 (I.ok.bs b o e).2 (I.ok.noex b o e)⟩
theorem Inv.bk (I : Inv X pins σ H s) : ∀ b o, X.base.get? b = some o → s.heap.get? b = some o := fun b o e => (I.bs b o e).1
theorem Inv.mod (I : Inv X pins σ H s) : Mod X.K X.mg X.base := I.ok.mod
theorem Inv.kIn (I : Inv X pins σ H s) : X.K.In s.heap := I.ok.mod.kin.keeps I.bk
theorem Inv.lt (I : Inv X pins σ H s) : X.env.locals < s.heap.objs.size := let ⟨_, hn, _⟩ := I.loc; hn.lt
theorem Inv.sz (I : Inv X pins σ H s) : X.s₀.heap.objs.size ≤ s.heap.objs.size := Nat.le_trans I.ok.above (Nat.le_of_lt I.lt)
theorem Inv.nofs (I : Inv X pins σ H s) {a : Addr} (h : s.heap.objs.size ≤ a) : a ∉ X.fs := fun hb => by
  obtain ⟨_, o, ho, _⟩ := I.ok.funs.mem hb
  exact absurd (Nat.lt_of_lt_of_le (Heap.lt_size ho) (Nat.le_trans I.sz h)) (Nat.lt_irrefl _)
theorem Inv.cne (I : Inv X pins σ H s) : ∀ x c, X.env.cells.lookup x = some c → c ≠ X.env.locals := fun x c e z => by
  obtain ⟨v, o, ho, hd⟩ := I.cell x c e
  obtain ⟨m, ⟨o', es, ep, ho', hd', _⟩, _⟩ := I.loc
  rw [z, ho'] at ho; cases ho; rw [hd'] at hd; cases hd
theorem Inv.funs (I : Inv X pins σ H s) : s.heap.FunFrames X.base X.outer := by
  have all : ∀ (l : List Env), (∀ b ∈ frs l, b ∈ X.fs) → X.s₀.heap.FunFrames X.base l → s.heap.FunFrames X.base l := by
    intro l
    induction l with
    | nil => intro _ _; trivial
    | cons env r ih =>
      intro hs hl
      obtain ⟨hk, ⟨L, o, hf, hn, ho, hd⟩, hr⟩ := hl
      have hL : L ∈ X.fs := hs L (by unfold frs; rw [List.filterMap_cons, hf]; exact List.mem_cons_self)
      obtain ⟨sl, e⟩ := I.base.slot L o ho (I.ok.frf L hL) hL fun z => I.ok.exfs L z hL
      exact ⟨hk, ⟨L, _, hf, hn, e, hd⟩, ih (fun b hb => hs b (by unfold frs; rw [List.filterMap_cons, hf]; exact List.mem_cons_of_mem _ hb)) hr⟩
  exact all X.outer (fun _ hb => hb) I.ok.funs
theorem Inv.stack (I : Inv X pins σ H s) : s.heap.FunFrames X.base X.stack := by
  rcases I.ok.stk with e | ⟨e, hf⟩
  · rw [e]; exact I.funs
  · rw [e]
    obtain ⟨m, hn, _⟩ := I.loc
    refine .cons (by rw [I.ok.kind]; decide) hf hn ?_ I.funs
    exact Heap.get?_none_of_le (Nat.le_trans I.ok.bsz I.ok.above)
theorem Inv.stkSub (I : Inv X pins σ H s) : ∀ b ∈ frs X.stack, b ∈ X.env.locals :: X.fs := fun b hb => by
  rcases I.ok.stk with e | ⟨e, hf⟩
  · rw [e] at hb; exact List.mem_cons_of_mem _ hb
  · rw [e] at hb
    unfold frs at hb
    rw [List.filterMap_cons, hf] at hb
    exact hb
theorem Inv.stkFree (I : Inv X pins σ H s) : ∀ b ∈ frs X.stack, H b = none := fun b hb => by
  rcases List.mem_cons.mp (I.stkSub b hb) with e | hb
  · rw [e]; exact I.free
  · obtain ⟨_, o, ho, _⟩ := I.ok.funs.mem hb
    exact I.base.free b o ho (I.ok.frf b hb) fun z => I.ok.exfs b z hb
theorem Inv.step {g' : Array GenState} {t' : Nat} {d' : Drawn} {ch : List Addr} (I : Inv X pins σ H s)
    (hch : ∀ b ∈ ch, (b ∈ X.ex ∨ X.s₀.heap.objs.size ≤ b) ∧ b ≠ X.env.locals ∧ (∀ x c, X.env.cells.lookup x = some c → c ≠ b) ∧ ∀ p ∈ X.pn ++ pins, p.1 ≠ b)
    (keep : ∀ b o, b ≠ X.env.locals → b ∉ X.fs → b ∉ ch → s.heap.get? b = some o → H b = none → h'.get? b = some o)
    (slot : ∀ b o, b ≠ X.env.locals → b ∈ X.fs → b ∉ ch → s.heap.get? b = some o → H b = none → ∃ sl, h'.get? b = some { o with slots := sl }) (free : ∀ b o, b ∉ ch → s.heap.get? b = some o → H b = none → H' b = none)
    (there : ∀ b o, b ∉ ch → s.heap.get? b = some o → ∃ o', h'.get? b = some o')
    (tups : ∀ b xs, H b = some (.tup xs) → H' b = some (.tup xs)) (frzs : ∀ b o u, H b = some (.frz o u) → H' b = some (.frz o u)) (tbls : ∀ b ps, H b = some (.tbl ps) → ∃ more, H' b = some (.tbl (ps ++ more)))
    (ns : ∀ m, s.heap.Ns X.env.locals m → h'.Ns X.env.locals m) (hok : HOk X.prog X.w H' h') (hg : AllBare g') :
    Inv X pins σ H' { s with heap := h', gens := g', drawn := d', toks := t' } := by
  have neL : ∀ b o, X.s₀.heap.get? b = some o → b ≠ X.env.locals := fun b o e => Nat.ne_of_lt (Nat.lt_of_lt_of_le (Heap.lt_size e) I.ok.above)
  have neC : ∀ b o, X.s₀.heap.get? b = some o → b ∉ X.ex → b ∉ ch := fun b o e hx hb => by
    rcases (hch b hb).1 with z | z
    · exact hx z
    · exact absurd (Nat.lt_of_lt_of_le (Heap.lt_size e) z) (Nat.lt_irrefl _)
  have cellK : ∀ x c, X.env.cells.lookup x = some c → ∀ v, s.heap.IsCell c v → h'.IsCell c v := fun x c e v ⟨o, ho, hd⟩ => by
    have nch : c ∉ ch := fun z => (hch c z).2.2.1 x c e rfl
    by_cases hc : c ∈ X.fs
    · obtain ⟨sl, q⟩ := slot c o (I.cne x c e) hc nch ho (I.freeC x c e)
      exact ⟨_, q, hd⟩
    · exact ⟨o, keep c o (I.cne x c e) hc nch ho (I.freeC x c e), hd⟩
  refine ⟨I.ok, I.os, hg, ⟨fun b o e n hb hx => ?_, fun b o e n hb hx => ?_, fun b o e n hx => ?_, fun b o e hx => ?_, fun b xs e => tups b xs (I.base.tups b xs e), fun b o xs e => frzs b o xs (I.base.frzs b o xs e), fun b ps e => ?_⟩, ?_, fun x c e => ?_, ?_, fun x c e => ?_, fun p hp => ?_, hok, I.len⟩
  · exact keep b o (neL b o e) hb (neC b o e hx) (I.base.keep b o e n hb hx) (I.base.free b o e n hx)
  · obtain ⟨sl, e1⟩ := I.base.slot b o e n hb hx
    obtain ⟨sl', e2⟩ := slot b _ (neL b o e) hb (neC b o e hx) e1 (I.base.free b o e n hx)
    exact ⟨sl', e2⟩
  · obtain ⟨o', e1⟩ := I.base.there b o e hx
    exact free b o' (neC b o e hx) e1 (I.base.free b o e n hx)
  · obtain ⟨o', e1⟩ := I.base.there b o e hx
    exact there b o' (neC b o e hx) e1
  · obtain ⟨m1, e1⟩ := I.base.tbls b ps e
    obtain ⟨m2, e2⟩ := tbls b _ e1
    exact ⟨m1 ++ m2, by rw [e2, Array.append_assoc]⟩
  · obtain ⟨m, hn, hl⟩ := I.loc
    refine ⟨m, ns m hn, fun i x v e1 e2 e3 => ?_⟩
    obtain ⟨u, r, l⟩ := hl i x v e1 e2 e3
    refine ⟨u, r, ?_⟩
    rcases l with l | ⟨k, c, e, z⟩
    · exact .inl l
    · exact .inr ⟨k, c, e, cellK x c e _ z⟩
  · obtain ⟨v, z⟩ := I.cell x c e
    exact ⟨v, cellK x c e v z⟩
  · obtain ⟨m, ⟨o, _, _, ho, _⟩, _⟩ := I.loc
    exact free _ o (fun z => (hch _ z).2.1 rfl) ho I.free
  · obtain ⟨v, o, ho, hd⟩ := I.cell x c e
    exact free c o (fun z => (hch c z).2.2.1 x c e rfl) ho (I.freeC x c e)
  · obtain ⟨e, n, ne, nf, d⟩ := I.pin p hp
    have nch : p.1 ∉ ch := fun z => (hch p.1 z).2.2.2 p hp rfl
    exact ⟨keep p.1 p.2 ne nf nch e n, free p.1 p.2 nch e n, ne, nf, d⟩
theorem Inv.un {t' : Nat} (I : Inv X pins σ H s) (u : Un X.fs [] H H' s.heap h') (hok : HOk X.prog X.w H' h') : Inv X pins σ H' { s with heap := h', toks := t' } := by
  obtain ⟨m, ⟨o, es, ep, ho, r⟩, _⟩ := id I.loc
  obtain ⟨sl, hL⟩ := u.any ho I.free (by simp)
  exact I.step (g' := s.gens) (d' := s.drawn) (ch := []) (fun _ z => nomatch z) (fun b o _ hb _ e n => u.keep b o e n hb (by simp)) (fun b o _ hb _ e n => u.slot b o e n hb (by simp)) (fun b o _ e n => u.free b o e n (by simp)) (fun b o _ e => u.there b o e (by simp)) u.tups u.frzs u.tbls (fun m' hm => by
    obtain ⟨o', es', ep', ho', r'⟩ := hm
    rw [ho] at ho'; cases ho'
    exact ⟨_, es', ep', hL, r'⟩) hok I.bare
theorem Inv.call {g' : Array GenState} {t' : Nat} {d' : Drawn} {ch : List Addr} (I : Inv X pins σ H s) (u : Un (frs X.stack) ch H H' s.heap h') (hok : HOk X.prog X.w H' h') (hg : AllBare g')
    (hch : ∀ b ∈ ch, (b ∈ X.ex ∨ X.s₀.heap.objs.size ≤ b) ∧ b ≠ X.env.locals ∧ (∀ x c, X.env.cells.lookup x = some c → c ≠ b) ∧ ∀ p ∈ X.pn ++ pins, p.1 ≠ b) :
    Inv X pins σ H' { s with heap := h', gens := g', drawn := d', toks := t' } := by
  obtain ⟨m, ⟨o, es, ep, ho, r⟩, _⟩ := id I.loc
  obtain ⟨sl, hL⟩ := u.any ho I.free fun z => (hch _ z).2.1 rfl
  exact I.step (ch := ch) hch (fun b o hL hb hc e n => u.keep b o e n (fun z => (List.mem_cons.mp (I.stkSub b z)).elim hL hb) hc) (fun b o _ _ hc e n => u.any e n hc) (fun b o hc e n => u.free b o e n hc) (fun b o hc e => u.there b o e hc) u.tups u.frzs u.tbls (fun m' hm => by
    obtain ⟨o', es', ep', ho', r'⟩ := hm
    rw [ho] at ho'; cases ho'
    exact ⟨_, es', ep', hL, r'⟩) hok hg
theorem Inv.turned {t' : Nat} {it : Addr} (I : Inv X pins σ H s) (k : ∀ b o, b ≠ it → s.heap.get? b = some o → h'.get? b = some o) (hn : H it = none) (hL : it ≠ X.env.locals)
    (h1 : it ∈ X.ex ∨ X.s₀.heap.objs.size ≤ it) (h2 : ∀ x c, X.env.cells.lookup x = some c → c ≠ it) (h3 : ∀ p ∈ X.pn ++ pins, p.1 ≠ it) : Inv X pins σ H { s with heap := h', toks := t' } := by
  have nit : ∀ b u, H b = some u → b ≠ it := fun b u e z => by rw [z, hn] at e; cases e
  refine I.step (g' := s.gens) (d' := s.drawn) (ch := [it]) (fun b hb => ?_) (fun b o _ _ hc e _ => k b o (fun z => hc (by simp [z])) e) (fun b o _ _ hc e _ => ⟨o.slots, k b o (fun z => hc (by simp [z])) e⟩) (fun _ _ _ _ n => n)
    (fun b o hc e => ⟨o, k b o (fun z => hc (by simp [z])) e⟩) (fun _ _ e => e) (fun _ _ _ e => e) (fun b ps e => ⟨#[], by rw [e]; simp⟩) (fun m hm => ?_) (fun b u e => ?_) I.bare
  · have e : b = it := by simpa using hb
    subst e
    exact ⟨h1, hL, h2, h3⟩
  · obtain ⟨o, es, ep, ho, r⟩ := hm
    exact ⟨o, es, ep, k _ o (Ne.symm hL) ho, r⟩
  · refine (I.hok b u e).stay (fun c v hc q => k c v ?_ q) (fun _ q => q) fun _ _ q => q
    rcases hc with z | z
    · rw [z]; exact nit b u e
    · exact nit c _ z
theorem Inv.tok (I : Inv X pins σ H s) (t : Nat) : Inv X pins σ H { s with toks := t } := I.un (h' := s.heap) (t' := t) Un.refl I.hok
theorem Inv.kept {t' : Nat} (I : Inv X pins σ H s) (k : ∀ b u, s.heap.get? b = some u → h'.get? b = some u) : Inv X pins σ H { s with heap := h', toks := t' } := I.un (Un.kept k) (I.hok.kept k)
theorem Inv.laid {a : Addr} {o : HO} {t' : Nat} (I : Inv X pins σ H s) (k : ∀ b u, s.heap.get? b = some u → h'.get? b = some u) (hp : s.heap.objs.size ≤ a) (new : ObjOk X.prog X.w (upd H a o) h' a o) :
    Inv X pins σ (upd H a o) { s with heap := h', toks := t' } := I.un (Un.laid k hp (I.hok.fresh hp)) (I.hok.laid k hp new)
theorem Inv.write {x e : Addr} {o : HO} {t' : Nat} (I : Inv X pins σ H s) (mu : Mut (H x)) (he : e = x ∨ H e = some (.own x)) (k : ∀ b u, b ≠ e → s.heap.get? b = some u → h'.get? b = some u) (heo : ∃ u, h'.get? e = some u)
    (new : ObjOk X.prog X.w (upd H x o) h' x o) : Inv X pins σ (upd H x o) { s with heap := h', toks := t' } := I.un (Un.write mu he k heo) (I.hok.write mu he k heo new)
theorem Inv.pins_of {pins' : List (Addr × Obj)} (I : Inv X pins σ H s) (h : ∀ p ∈ pins', s.heap.get? p.1 = some p.2 ∧ H p.1 = none ∧ p.1 ≠ X.env.locals ∧ p.1 ∉ X.fs ∧ ∀ v, p.2.data ≠ .cell v) : Inv X pins' σ H s :=
  ⟨I.ok, I.os, I.bare, I.base, I.loc, I.cell, I.free, I.freeC, fun p hp => (List.mem_append.mp hp).elim (fun z => I.pin p (List.mem_append_left _ z)) (h p), I.hok, I.len⟩
theorem nodup_ix {N : List Str} (hN : N.Nodup) {i j : Nat} {x : Str} (a : N[i]? = some x) (b : N[j]? = some x) : i = j := by
  obtain ⟨h1, e1⟩ := List.getElem?_eq_some_iff.mp a
  obtain ⟨h2, e2⟩ := List.getElem?_eq_some_iff.mp b
  exact (List.getElem_inj hN).mp (e1.trans e2.symm)
theorem store_ok2 {M : Model} {A : Around} {E : Value → Shared → Prop} {i : Nat} {x : Str} {v : V} {u : Value} {Q : Unit → Shared → Prop} (I : Inv X pins σ H s) (hN : X.N.Nodup) (hi : X.N[i]? = some x) (hx : Loc X.env.scope x) (r : RelV v u)
    (h : ∀ s', Inv X pins (σ.set i (some v)) H s' → (∃ a, Heap.SameBut a s.heap s'.heap ∧ (a = X.env.locals ∨ X.env.cells.lookup x = some a)) → Q () s') (hf : X.fn x = true ∨ X.env.scope.names.lookup x = some .local := by first | exact .inl rfl | exact .inr rfl | assumption) : wpAny M A (storeName X.env x u) Q E s := by
  obtain ⟨m, hn, hl⟩ := id I.loc
  have hcls : (X.env.scope.kind == .class || (X.env.scope.kind == .module && X.env.locals != X.env.globals)) = false := by rw [I.ok.kind]; rfl
  have hiσ : i < σ.length := by rw [I.len]; exact (List.getElem?_eq_some_iff.mp hi).1
  have cne := I.cne
  have tracked : ∀ {a : Addr} {h' : Heap}, (∃ o, s.heap.get? a = some o ∧ H a = none) → Heap.SameBut a s.heap h' → HOk X.prog X.w H h' := fun {a h'} ha hs b ob e => by
    obtain ⟨_, _, hfree⟩ := ha
    refine (I.hok b ob e).stay (fun c w' hc q => (hs.2 c ?_).trans q) (fun _ q => q) fun _ _ q => q
    rintro rfl
    rcases hc with rfl | hc
    · rw [hfree] at e; cases e
    · rw [hfree] at hc; cases hc
  rcases hx with hk | hk
  · refine wpAny_storeName_local hk hn (fun h' hn' hs => ?_) hcls
    obtain ⟨oL, _, _, hoL, _⟩ := id hn
    refine h _ ⟨I.ok, I.os, I.bare, ⟨fun b o e n hb hx => ?_, fun b o e n hb hx => ?_, I.base.free, fun b o e hx => ?_, I.base.tups, I.base.frzs, I.base.tbls⟩, ⟨_, hn', fun j y v' e1 e2 e3 => ?_⟩, fun y c e => ?_, I.free, I.freeC, fun p hp => ?_, tracked ⟨oL, hoL, I.free⟩ hs, by simpa using I.len⟩ ⟨_, hs, .inl rfl⟩
    · exact (hs.2 b (Nat.ne_of_lt (Nat.lt_of_lt_of_le (Heap.lt_size e) I.ok.above))).trans (I.base.keep b o e n hb hx)
    · obtain ⟨sl, e1⟩ := I.base.slot b o e n hb hx
      exact ⟨sl, (hs.2 b (Nat.ne_of_lt (Nat.lt_of_lt_of_le (Heap.lt_size e) I.ok.above))).trans e1⟩
    · obtain ⟨o', e1⟩ := I.base.there b o e hx
      exact ⟨o', (hs.2 b (Nat.ne_of_lt (Nat.lt_of_lt_of_le (Heap.lt_size e) I.ok.above))).trans e1⟩
    · by_cases hj : j = i
      · subst hj
        rw [hi] at e1; cases e1
        rw [List.getElem?_set_self hiσ] at e2
        cases e2
        exact ⟨u, r, .inl ⟨hk, by simp⟩⟩
      · rw [List.getElem?_set_ne (Ne.symm hj)] at e2
        obtain ⟨u', r', q⟩ := hl j y v' e1 e2 e3
        refine ⟨u', r', ?_⟩
        rcases q with ⟨k, e⟩ | ⟨k, c, e, z⟩
        · refine .inl ⟨k, ?_⟩
          have : y ≠ x := fun e => hj (nodup_ix hN e1 (e ▸ hi))
          simp [this, e]
        · exact .inr ⟨k, c, e, z.sameBut hs (cne y c e)⟩
    · obtain ⟨w', z⟩ := I.cell y c e
      exact ⟨w', z.sameBut hs (cne y c e)⟩
    · obtain ⟨e, n, ne, nf, d⟩ := I.pin p hp
      exact ⟨(hs.2 p.1 ne).trans e, n, ne, nf, d⟩
  · have hfn : X.fn x = true := by
      rcases hf with z | z
      · exact z
      · rw [z] at hk; cases hk
    obtain ⟨c, hc⟩ := I.ok.has x (.inl hk)
    obtain ⟨w', z⟩ := I.cell x c hc
    refine wpAny_storeName_cell I.ok.kind hk hc z (fun h' hc' hs => ?_)
    obtain ⟨oc, hoc, hocd⟩ := id z
    refine h { s with heap := h' } ⟨I.ok, I.os, I.bare, ⟨fun b o e n hb hx => ?_, fun b o e n hb hx => ?_, I.base.free, fun b o e hx => ?_, I.base.tups, I.base.frzs, I.base.tbls⟩, ⟨m, hn.sameBut hs (Ne.symm (cne x c hc)), fun j y v' e1 e2 e3 => ?_⟩, fun y c' e => ?_, I.free, I.freeC, fun p hp => ?_, tracked ⟨oc, hoc, I.freeC x c hc⟩ hs, by simpa using I.len⟩ ⟨c, hs, .inr hc⟩
    · exact (hs.2 b (Nat.ne_of_lt (Nat.lt_of_lt_of_le (Heap.lt_size e) (I.ok.cab x c hfn hc)))).trans (I.base.keep b o e n hb hx)
    · obtain ⟨sl, e1⟩ := I.base.slot b o e n hb hx
      exact ⟨sl, (hs.2 b (Nat.ne_of_lt (Nat.lt_of_lt_of_le (Heap.lt_size e) (I.ok.cab x c hfn hc)))).trans e1⟩
    · obtain ⟨o', e1⟩ := I.base.there b o e hx
      exact ⟨o', (hs.2 b (Nat.ne_of_lt (Nat.lt_of_lt_of_le (Heap.lt_size e) (I.ok.cab x c hfn hc)))).trans e1⟩
    · by_cases hj : j = i
      · subst hj
        rw [hi] at e1; cases e1
        rw [List.getElem?_set_self hiσ] at e2
        cases e2
        exact ⟨u, r, .inr ⟨.inl hk, c, hc, hc'⟩⟩
      · rw [List.getElem?_set_ne (Ne.symm hj)] at e2
        obtain ⟨u', r', q⟩ := hl j y v' e1 e2 e3
        refine ⟨u', r', ?_⟩
        rcases q with q | ⟨k, c', e, z'⟩
        · exact .inl q
        · refine .inr ⟨k, c', e, z'.sameBut hs ?_⟩
          rintro rfl
          exact hj (nodup_ix hN e1 (I.ok.inj _ _ _ e hc ▸ hi))
    · by_cases hcc : c' = c
      · subst hcc; exact ⟨_, hc'⟩
      · obtain ⟨w2, z2⟩ := I.cell y c' e
        exact ⟨w2, z2.sameBut hs hcc⟩
    · obtain ⟨e, n, ne, nf, d⟩ := I.pin p hp
      refine ⟨(hs.2 p.1 ?_).trans e, n, ne, nf, d⟩
      intro q
      rw [q, hoc] at e
      have q' : oc = p.2 := Option.some.inj e
      exact d w' (by rw [← q']; exact hocd)
theorem store_ok {M : Model} {A : Around} {E : Value → Shared → Prop} {i : Nat} {x : Str} {v : V} {u : Value} {Q : Unit → Shared → Prop} (I : Inv X pins σ H s) (hN : X.N.Nodup) (hi : X.N[i]? = some x) (hx : Loc X.env.scope x) (r : RelV v u)
    (h : ∀ s', Inv X pins (σ.set i (some v)) H s' → Q () s') (hf : X.fn x = true ∨ X.env.scope.names.lookup x = some .local := by first | exact .inl rfl | exact .inr rfl | assumption) : wpAny M A (storeName X.env x u) Q E s :=
  store_ok2 I hN hi hx r (fun s' I' _ => h s' I') hf
theorem Inv.call' {s' : Shared} {ch : List Addr} (I : Inv X pins σ H s) (ho : s'.os = s.os) (u : Un (frs X.stack) ch H H' s.heap s'.heap) (hok : HOk X.prog X.w H' s'.heap) (hg : AllBare s'.gens)
    (hch : ∀ b ∈ ch, (b ∈ X.ex ∨ X.s₀.heap.objs.size ≤ b) ∧ b ≠ X.env.locals ∧ (∀ x c, X.env.cells.lookup x = some c → c ≠ b) ∧ ∀ p ∈ X.pn ++ pins, p.1 ≠ b) : Inv X pins σ H' s' := by
  obtain ⟨h', g', d', t', o'⟩ := s'
  have e : o' = s.os := ho
  subst e
  exact I.call (g' := g') (t' := t') (d' := d') u hok hg hch
end
noncomputable abbrev XK := Value → Option Addr → Hp → Prop
noncomputable abbrev St := List (Option V)
noncomputable abbrev VK := V → Hp → Prop
noncomputable abbrev TE := St → Hp → VK → Prop
noncomputable abbrev TT := St → Hp → (Bool → Hp → Prop) → Prop
noncomputable abbrev TA := St → Hp → (List V → Hp → Prop) → Prop
structure Ends where
  nx : St → Hp → Prop
  rt : VK
  bk : St → Hp → Prop := fun _ _ => False
  ct : St → Hp → Prop := fun _ _ => False
noncomputable abbrev TS := Ends → St → Hp → Prop
noncomputable def EP (X : Cx) (pins : List (Addr × Obj)) (σ : St) (Q : VK) (u : Value) (s' : Shared) : Prop := ∃ v H', Inv X pins σ H' s' ∧ RelV v u ∧ Q v H'
noncomputable def TP (X : Cx) (pins : List (Addr × Obj)) (σ : St) (Q : Bool → Hp → Prop) (b : Bool) (s' : Shared) : Prop := ∃ H', Inv X pins σ H' s' ∧ Q b H'
noncomputable def AP (X : Cx) (pins : List (Addr × Obj)) (σ : St) (Q : List V → Hp → Prop) (us : List Value) (s' : Shared) : Prop := ∃ vs H', Inv X pins σ H' s' ∧ Vals vs us ∧ Q vs H'
noncomputable def SP (X : Cx) (pins : List (Addr × Obj)) (D : Ends) (f : Flow) (s' : Shared) : Prop :=
  match f with
  | .next => ∃ σ' H', Inv X pins σ' H' s' ∧ D.nx σ' H'
  | .brk => ∃ σ' H', Inv X pins σ' H' s' ∧ D.bk σ' H'
  | .cont => ∃ σ' H', Inv X pins σ' H' s' ∧ D.ct σ' H'
  | .ret u => ∃ v σ' H', Inv X pins σ' H' s' ∧ RelV v u ∧ D.rt v H'
noncomputable def PE (X : Cx) (e : Expr) (t : TE) : Prop :=
  ∀ (pins : List (Addr × Obj)) (s : Shared) (σ : St) (H : Hp) (Q : VK), Inv X pins σ H s → t σ H Q → wpAny (model X.prog X.w) X.A (eval e X.env) (EP X pins σ Q) X.xe s
noncomputable def PT (X : Cx) (e : Expr) (t : TT) : Prop :=
  ∀ (pins : List (Addr × Obj)) (s : Shared) (σ : St) (H : Hp) (Q : Bool → Hp → Prop), Inv X pins σ H s → t σ H Q → wpAny (model X.prog X.w) X.A (isTrue e X.env (eval e X.env)) (TP X pins σ Q) X.xe s
noncomputable def PW (X : Cx) (e : Expr) (t : TT) : Prop :=
  ∀ (whole : Sem Value) (pins : List (Addr × Obj)) (s : Shared) (σ : St) (H : Hp) (Q : Bool → Hp → Prop), Inv X pins σ H s → t σ H Q → wpAny (model X.prog X.w) X.A (isTrue e X.env whole) (TP X pins σ Q) X.xe s
theorem PW.pt {X : Cx} {e : Expr} {t : TT} (h : PW X e t) : PT X e t := h _
noncomputable def PA (X : Cx) (es : List Expr) (t : TA) : Prop :=
  ∀ (pos : Pos) (pins : List (Addr × Obj)) (s : Shared) (σ : St) (H : Hp) (Q : List V → Hp → Prop), Inv X pins σ H s → t σ H Q → wpAny (model X.prog X.w) X.A (spliced (backTo pos (starEach es X.env))) (AP X pins σ Q) X.xe s
noncomputable def PS (X : Cx) (st : Stmt) (t : TS) : Prop :=
  ∀ (pins : List (Addr × Obj)) (s : Shared) (σ : St) (H : Hp) (D : Ends), Inv X pins σ H s → t D σ H → wpAny (model X.prog X.w) X.A (exec st X.env) (SP X pins D) X.xe s
noncomputable def PSs (X : Cx) (st : List Stmt) (t : TS) : Prop :=
  ∀ (pins : List (Addr × Obj)) (s : Shared) (σ : St) (H : Hp) (D : Ends), Inv X pins σ H s → t D σ H → wpAny (model X.prog X.w) X.A (execs st X.env) (SP X pins D) X.xe s
theorem thn {α : Type} {t : Sem α} {Q Q' : α → Shared → Prop} {M : Model} {A : Around} {E : Value → Shared → Prop} {s : Shared} (h : wpAny M A t Q E s) (hQ : ∀ a s, Q a s → Q' a s) : wpAny M A t Q' E s := wpAny_mono h hQ fun _ _ x => x
end L2
namespace L2
open PySem PySem.Spec PyProof.Rows
section
variable {X : Cx}
theorem bin {a b : Expr} {ta tb : TE} (ha : PE X a ta) (hb : PE X b tb) {pins : List (Addr × Obj)} {s : Shared} {σ : St} {H : Hp} {R : V → V → Hp → Prop} (I : Inv X pins σ H s) (h : ta σ H fun x H1 => tb σ H1 fun y H2 => R x y H2)
    {α : Type} {Q : α → Shared → Prop} {f : Value → Value → Sem α}
    (hf : ∀ v u s2 x y H2, Inv X pins σ H2 s2 → RelV x v → RelV y u → R x y H2 → wpAny (model X.prog X.w) X.A (f v u) Q X.xe s2) :
    wpAny (model X.prog X.w) X.A (eval a X.env) (fun v s₁ => wpAny (model X.prog X.w) X.A (eval b X.env) (fun u s₂ => wpAny (model X.prog X.w) X.A (f v u) Q X.xe s₂) X.xe s₁) X.xe s := by
  refine thn (ha pins s σ H _ I h) fun v s1 ⟨x, H1, I1, r1, q1⟩ => ?_
  refine thn (hb pins s1 σ H1 _ I1 q1) fun u s2 ⟨y, H2, I2, r2, q2⟩ => ?_
  exact hf v u s2 x y H2 I2 r1 r2 q2
noncomputable def tVar (i : Nat) : TE := fun σ H Q => ∃ v, σ[i]? = some (some v) ∧ Q v H
noncomputable def tC (v : V) : TE := fun _ H Q => Q v H
theorem pe_var {i : Nat} {x : Str} {pos : Pos} (hN : X.N[i]? = some x) (hv : Vis X.env.scope x) (hd : (x == ("__debug__" : Str)) = false := by decide) (hcd : (x == ("__classdict__" : Str)) = false := by decide) : PE X (.Name x pos) (tVar i) := by
  intro pins s σ H Q I h
  obtain ⟨v, e, h⟩ := h
  obtain ⟨m, hn, hl⟩ := I.loc
  obtain ⟨u, r, l⟩ := hl i x v hN e hv
  have fin : EP X pins σ Q u s := ⟨v, H, I, r, h⟩
  rcases l with ⟨hk, hm⟩ | ⟨hk, c, hc, hcell⟩
  · exact wpAny_Name (wpAny_loadName_local I.ok.kind hk hn hm fin) hd
  · rcases hk with hk | hk
    · exact wpAny_Name (wpAny_loadName_cell I.ok.kind hk hc hcell fin) hd
    · exact wpAny_Name (wpAny_loadName_free I.ok.kind hk hc hcell fin hcd) hd
theorem pe_int {i j pos} : PE X (.Constant (.int i) j pos) (tC (.int i)) := fun _ _ _ H _ I h => wpAny_Constant_int ⟨.int i, H, I.tok _, ⟨_, rfl⟩, h⟩
theorem pe_bl {b j pos} : PE X (.Constant (.bool b) j pos) (tC (.bl b)) := fun _ _ _ H _ I h => Constant_bool ⟨.bl b, H, I, rfl, h⟩
theorem pe_non {j pos} : PE X (.Constant .none j pos) (tC .non) := fun _ _ _ H _ I h => Constant_none ⟨.non, H, I, rfl, h⟩
theorem pe_str {x j pos} : PE X (.Constant (.str x) j pos) (tC (.str x)) := fun _ _ _ H _ I h => Calls.Constant_str ⟨.str x, H, I.tok _, ⟨_, rfl⟩, h⟩
noncomputable def Gl (X : Cx) (x : Str) : Prop := X.env.kindOf x = some .globalImplicit
theorem ld_glob {E : Value → Shared → Prop} {pins : List (Addr × Obj)} {s : Shared} {σ : St} {H : Hp} {x : Str} {u : Value} {pos : Pos} {Q : Value → Shared → Prop} (I : Inv X pins σ H s) (hg : Gl X x) (hm : X.mg x = some u) (h : Q u s)
    (hd : (x == ("__debug__" : Str)) = false := by decide) : wpAny (model X.prog X.w) X.A (eval (.Name x pos) X.env) Q E s :=
  Calls.Name_function_global I.ok.kind hg (Calls.loadGlobal_global (by rw [I.ok.glob]; exact I.mod.glob.keeps I.bk) hm h) hd
theorem ld_blt {E : Value → Shared → Prop} {pins : List (Addr × Obj)} {s : Shared} {σ : St} {H : Hp} {x : Str} {u : Value} {pos : Pos} {Q : Value → Shared → Prop} (I : Inv X pins σ H s) (hg : Gl X x) (hm : X.mg x = none) (hv : bootBuiltins x = some u) (h : Q u s)
    (hn : x ≠ "__name__" := by decide) (hd : (x == ("__debug__" : Str)) = false := by decide) : wpAny (model X.prog X.w) X.A (eval (.Name x pos) X.env) Q E s := by
  obtain ⟨mb, h1, h2⟩ := I.mod.blt
  exact Calls.Name_function_global I.ok.kind hg (Calls.loadGlobal_builtin (by rw [I.ok.glob]; exact I.mod.glob.keeps I.bk) hm (by rw [I.ok.blt]; exact h1.keeps I.bk) ((h2 x hn).trans hv) h) hd
theorem pe_glob {x : Str} {v : V} {u : Value} {pos : Pos} (hg : Gl X x) (hm : X.mg x = some u) (r : RelV v u) (hd : (x == ("__debug__" : Str)) = false := by decide) : PE X (.Name x pos) (tC v) :=
  fun _ _ _ H _ I h => ld_glob I hg hm ⟨v, H, I, r, h⟩ hd
theorem pe_bltn {x : Str} {v : V} {u : Value} {pos : Pos} (hg : Gl X x) (hm : X.mg x = none) (hv : bootBuiltins x = some u) (r : RelV v u) (hn : x ≠ "__name__" := by decide) (hd : (x == ("__debug__" : Str)) = false := by decide) : PE X (.Name x pos) (tC v) :=
  fun _ _ _ H _ I h => ld_blt I hg hm hv ⟨v, H, I, r, h⟩ hn hd
variable {a b : Expr} {ta tb : TE} {pos : Pos}
noncomputable def PC (X : Cx) (op : CmpOp) (a b : Expr) (t : TE) : Prop :=
  ∀ (pins : List (Addr × Obj)) (s : Shared) (σ : St) (H : Hp) (Q : VK), Inv X pins σ H s → t σ H Q →
    wpAny (model X.prog X.w) X.A (eval a X.env) (fun v s₁ => wpAny (model X.prog X.w) X.A (eval b X.env) (fun u s₂ => wpAny (model X.prog X.w) X.A (compareOp op v u) (EP X pins σ Q) X.xe s₂) X.xe s₁) X.xe s
noncomputable def tB (t : TE) : TT := fun σ H Q => t σ H fun x H1 => ∃ c, x = .bl c ∧ Q c H1
theorem pe_cmp {op : CmpOp} {t : TE} (h : PC X op a b t) (h1 : behindInMarks op b = false := by first | exact nobehind _ (by decide) (by decide) | rfl) : PE X (.Compare a [op] [b] pos) t := fun pins s σ H Q I hw => wpAny_Compare1 (h pins s σ H Q I hw) h1
theorem pt_cmp {op : CmpOp} {t : TE} (h : PC X op a b t) (h1 : behindInMarks op b = false := by first | exact nobehind _ (by decide) (by decide) | rfl) : PT X (.Compare a [op] [b] pos) (tB t) := by
  intro pins s σ H Q I hw
  refine wpAny_isTrue_Compare1 (thn (h pins s σ H _ I hw) fun v s1 h1 => thn h1 fun u s2 h2 => thn h2 fun c s3 ⟨x, H1, I1, r1, q1⟩ => ?_) h1
  obtain ⟨d, rfl, q⟩ := q1
  cases r1
  exact wpAny_truthy_bool ⟨H1, I1, q⟩
theorem pt_val {e : Expr} {t : TE} (h : PE X e t) (he : ∀ whole, isTrue e X.env whole = (do let v ← whole; standAt e.pos; holding [v] (truthy v)) := by intro _; rfl) : PT X e (tB t) := by
  intro pins s σ H Q I hw
  refine isTrue_plain (thn (h pins s σ H _ I hw) fun v s1 ⟨x, H1, I1, r1, q1⟩ => ?_) (he _)
  obtain ⟨d, rfl, q⟩ := q1
  cases r1
  exact wpAny_truthy_bool ⟨H1, I1, q⟩
variable {tA tB' : TT} {rest : List Expr}
noncomputable def tAnd (t u : TT) : TT := fun σ H Q => t σ H fun c H1 => if c = true then u σ H1 Q else Q false H1
noncomputable def tOr (t u : TT) : TT := fun σ H Q => t σ H fun c H1 => if c = true then Q true H1 else u σ H1 Q
noncomputable def tNot (t : TT) : TT := fun σ H Q => t σ H fun c H1 => Q (!c) H1
theorem pw_and1 (ha : PT X a tA) : PW X (.BoolOp .And [a] pos) tA := by
  intro wh pins s σ H Q I h
  refine isTrue_and (thn (ha pins s σ H Q I h) fun c s1 e => ?_)
  cases c with
  | true => exact isTrue_and_nil e
  | false => exact e
theorem pw_or1 (ha : PT X a tA) : PW X (.BoolOp .Or [a] pos) tA := by
  intro wh pins s σ H Q I h
  refine isTrue_or (thn (ha pins s σ H Q I h) fun c s1 e => ?_)
  cases c with
  | false => exact isTrue_or_nil e
  | true => exact e
theorem pw_and (ha : PT X a tA) (hb : PW X (.BoolOp .And (b :: rest) pos) tB') : PW X (.BoolOp .And (a :: b :: rest) pos) (tAnd tA tB') := by
  intro wh pins s σ H Q I h
  refine isTrue_and (thn (ha pins s σ H _ I h) fun c s1 ⟨H1, I1, q1⟩ => ?_)
  cases c with
  | true => exact hb wh pins s1 σ H1 Q I1 q1
  | false => exact ⟨H1, I1, q1⟩
theorem pw_or (ha : PT X a tA) (hb : PW X (.BoolOp .Or (b :: rest) pos) tB') : PW X (.BoolOp .Or (a :: b :: rest) pos) (tOr tA tB') := by
  intro wh pins s σ H Q I h
  refine isTrue_or (thn (ha pins s σ H _ I h) fun c s1 ⟨H1, I1, q1⟩ => ?_)
  cases c with
  | true => exact ⟨H1, I1, q1⟩
  | false => exact hb wh pins s1 σ H1 Q I1 q1
theorem pt_not (ha : PT X a tA) : PT X (.UnaryOp .Not a pos) (tNot tA) := by
  intro pins s σ H Q I h
  exact isTrue_not (ha pins s σ H (fun c H1 => Q (!c) H1) I h)
noncomputable def tAndV (ta tb : TE) : TE := fun σ H Q => ta σ H fun x H1 => ∃ c, x = .bl c ∧ if c = true then tb σ H1 Q else Q (.bl false) H1
noncomputable def tNotV (ta : TE) : TE := fun σ H Q => ta σ H fun x H1 => ∃ c, x = .bl c ∧ Q (.bl (!c)) H1
theorem pe_one {op} {t : TE} (h : PE X a t) : PE X (.BoolOp op [a] pos) t := fun pins s σ H Q I hw => BoolOp_one (h pins s σ H Q I hw)
theorem pe_and (ha : PE X a ta) (hb : PE X (.BoolOp .And (b :: rest) pos) tb) : PE X (.BoolOp .And (a :: b :: rest) pos) (tAndV ta tb) := by
  intro pins s σ H Q I h
  refine BoolOp_and (thn (ha pins s σ H _ I h) fun v s1 ⟨x, H1, I1, r1, q1⟩ => ?_)
  obtain ⟨c, rfl, q1⟩ := q1
  cases r1
  refine wpAny_truthy_bool ?_
  cases c with
  | true => exact hb pins s1 σ H1 Q I1 q1
  | false => exact ⟨.bl false, H1, I1, rfl, q1⟩
theorem pe_not (ha : PE X a ta) : PE X (.UnaryOp .Not a pos) (tNotV ta) := by
  intro pins s σ H Q I h
  refine UnaryOp_ (thn (ha pins s σ H _ I h) fun v s1 ⟨x, H1, I1, r1, q1⟩ => ?_)
  obtain ⟨c, rfl, q1⟩ := q1
  cases r1
  exact not_of (wpAny_truthy_bool ⟨.bl (!c), H1, I1, rfl, q1⟩)
end
end L2
namespace L2
open PySem PySem.Spec PyProof.Rows
noncomputable def SqL (K : PySem.W.Frag) (H : Hp) (a : Addr) (xs : List V) : Prop :=
  Rd H a (.lst xs) ∨
    ∃ (o : Obj) (its : Array Value) (n : Nat), K.lookup a = some o ∧ o.cls = .type "list" ∧ o.dict = none ∧ o.data = .seq its n ∧ its.size ≤ sizeLine ∧ Vals xs its.toList
noncomputable def SqT (K : PySem.W.Frag) (H : Hp) (a : Addr) (xs : List V) : Prop :=
  Rd H a (.tup xs) ∨
    ∃ (o : Obj) (its : Array Value) (n : Nat), K.lookup a = some o ∧ o.cls = .type "tuple" ∧ o.data = .seq its n ∧ its.size ≤ sizeLine ∧ Vals xs its.toList
noncomputable def absV : Value → Option V
  | .none => some .non
  | .bool b => some (.bl b)
  | .int i _ => some (.int i)
  | .str x _ => some (.str x)
  | .bytes b _ => some (.byt b)
  | .float b _ => some (.flt b)
  | .ref a => some (.ref a)
  | .type n => some (.ty n)
  | _ => none
theorem RelV.abs {x : V} {u : Value} (r : RelV x u) : absV u = some x := by
  cases x with
  | non => cases r; rfl
  | bl _ => cases r; rfl
  | int _ => obtain ⟨t, rfl⟩ := r; rfl
  | str _ => obtain ⟨t, rfl⟩ := r; rfl
  | byt _ => obtain ⟨t, rfl⟩ := r; rfl
  | flt _ => obtain ⟨t, rfl⟩ := r; rfl
  | ref _ => cases r; rfl
  | ty _ => cases r; rfl
theorem RelV.inj {x y : V} {u : Value} (r : RelV x u) (q : RelV y u) : x = y := Option.some.inj (r.abs.symm.trans q.abs)
theorem Vals.inj : ∀ {xs ys : List V} {us : List Value}, Vals xs us → Vals ys us → xs = ys
  | _, _, _, .nil, .nil => rfl
  | _, _, _, .cons r t, .cons r' t' => by rw [r.inj r', Vals.inj t t']
section
variable {X : Cx} {pins : List (Addr × Obj)} {σ : St} {H : Hp} {s : Shared} {a : Addr} {xs ys : List V}
theorem SqL.of {K : PySem.W.Frag} (h : H a = some (.lst xs)) : SqL K H a xs := .inl (.inl h)
theorem SqT.of {K : PySem.W.Frag} (h : H a = some (.tup xs)) : SqT K H a xs := .inl (.inl h)
theorem Inv.list (I : Inv X pins σ H s) (h : SqL X.K H a xs) : ∃ its : List Value, Vals xs its ∧ PlainL s.heap a its.toArray ∧ xs.length ≤ sizeLine := by
  rcases h with h | ⟨o, its, n, hk, hc, hd, hs, hz, r⟩
  · obtain ⟨z, its, n, r, e⟩ := h.ok I.hok
    exact ⟨its, r, ⟨_, n, e, rfl, rfl, rfl⟩, z⟩
  · refine ⟨its.toList, r, ⟨o, n, I.kIn a o hk, hc, hd, by simpa using hs⟩, ?_⟩
    have e := r.length
    simp only [Array.length_toList] at e
    omega
theorem Inv.tuple (I : Inv X pins σ H s) (h : SqT X.K H a xs) : ∃ its : List Value, Vals xs its ∧ IsTup s.heap a its.toArray ∧ xs.length ≤ sizeLine := by
  rcases h with h | ⟨o, its, n, hk, hc, hs, hz, r⟩
  · obtain ⟨z, its, r, p⟩ := h.ok I.hok
    exact ⟨its, r, p, z⟩
  · refine ⟨its.toList, r, ⟨o, I.kIn a o hk, hc, n, by simpa using hs⟩, ?_⟩
    have e := r.length
    simp only [Array.length_toList] at e
    omega
theorem Inv.list_inj (I : Inv X pins σ H s) (h : SqL X.K H a xs) (h' : SqL X.K H a ys) : xs = ys := by
  obtain ⟨its, r, ⟨o, n, e, _, _, d⟩, _⟩ := I.list h
  obtain ⟨its', r', ⟨o', n', e', _, _, d'⟩, _⟩ := I.list h'
  rw [e] at e'; cases e'
  rw [d] at d'
  injection d' with d1 _
  have : its = its' := by simpa using congrArg Array.toList d1
  subst this
  exact r.inj r'
theorem Inv.tuple_inj (I : Inv X pins σ H s) (h : SqT X.K H a xs) (h' : SqT X.K H a ys) : xs = ys := by
  obtain ⟨its, r, ⟨o, e, _, n, d⟩, _⟩ := I.tuple h
  obtain ⟨its', r', ⟨o', e', _, n', d'⟩, _⟩ := I.tuple h'
  rw [e] at e'; cases e'
  rw [d] at d'
  injection d' with d1 _
  have : its = its' := by simpa using congrArg Array.toList d1
  subst this
  exact r.inj r'
end
noncomputable abbrev Cx.wish (X : Cx) (E : Value → Shared → Prop) : Cx := { X with xe := E }
noncomputable abbrev Cx.nox (X : Cx) : Cx := X.wish fun _ _ => False
theorem Cx.Ok.wish {X : Cx} (ok : X.Ok) (E : Value → Shared → Prop) : (X.wish E).Ok :=
  ⟨ok.mod, ok.kind, ok.glob, ok.blt, ok.above, ok.inj, ok.has, ok.cab, ok.hd, ok.frames, ok.stk, ok.exf, ok.bs, ok.bsz, ok.noex, ok.exfs, ok.funs, ok.frf⟩
theorem Cx.Ok.unwish {X : Cx} {E : Value → Shared → Prop} (ok : (X.wish E).Ok) : X.Ok :=
  ⟨ok.mod, ok.kind, ok.glob, ok.blt, ok.above, ok.inj, ok.has, ok.cab, ok.hd, ok.frames, ok.stk, ok.exf, ok.bs, ok.bsz, ok.noex, ok.exfs, ok.funs, ok.frf⟩
section
variable {X : Cx} {pins : List (Addr × Obj)} {σ : St} {H : Hp} {s : Shared} {E : Value → Shared → Prop}
theorem Inv.wish (I : Inv X pins σ H s) (E : Value → Shared → Prop) : Inv (X.wish E) pins σ H s := ⟨I.ok.wish E, I.os, I.bare, I.base, I.loc, I.cell, I.free, I.freeC, I.pin, I.hok, I.len⟩
theorem Inv.unwish (I : Inv (X.wish E) pins σ H s) : Inv X pins σ H s := ⟨I.ok.unwish, I.os, I.bare, I.base, I.loc, I.cell, I.free, I.freeC, I.pin, I.hok, I.len⟩
theorem SP.unwish {D : Ends} {f : Flow} {s' : Shared} (h : SP (X.wish E) pins D f s') : SP X pins D f s' := by
  cases f with
  | next => obtain ⟨σ', H', I, q⟩ := h; exact ⟨σ', H', I.unwish, q⟩
  | brk => obtain ⟨σ', H', I, q⟩ := h; exact ⟨σ', H', I.unwish, q⟩
  | cont => obtain ⟨σ', H', I, q⟩ := h; exact ⟨σ', H', I.unwish, q⟩
  | ret u => obtain ⟨v, σ', H', I, r, q⟩ := h; exact ⟨v, σ', H', I.unwish, r, q⟩
theorem PSs.nox {st : List Stmt} {t : TS} (h : PSs X.nox st t) : PSs X st t := fun pins s σ H D I hw =>
  wpAny_mono (h pins s σ H D (I.wish _) hw) (fun _ _ q => q.unwish) fun _ _ z => False.elim z
end
section
variable {X : Cx} {st : Stmt} {rest : List Stmt} {t u : TS} {e : Expr} {te : TE} {pos : Pos}
noncomputable def tNext : TS := fun D σ H => D.nx σ H
noncomputable def tSeq (t u : TS) : TS := fun D σ H => t { D with nx := u D } σ H
theorem pss_nil : PSs X [] tNext := fun _ _ σ H _ I h => wpAny_execs_nil ⟨σ, H, I, h⟩
theorem pss_cons (h1 : PS X st t) (h2 : PSs X rest u) : PSs X (st :: rest) (tSeq t u) := by
  intro pins s σ H D I h
  refine wpAny_execs_cons (thn (h1 pins s σ H { D with nx := u D } I h) fun f s1 q => ?_)
  cases f with
  | next =>
    obtain ⟨σ', H', I', q⟩ := q
    exact h2 pins s1 σ' H' D I' q
  | ret v => exact q
  | brk => exact q
  | cont => exact q
theorem pss_one (h1 : PS X st t) : PSs X [st] t := by
  intro pins s σ H D I h
  refine wpAny_execs_cons (thn (h1 pins s σ H D I h) fun f s1 q => ?_)
  cases f with
  | next => exact wpAny_execs_nil q
  | ret v => exact q
  | brk => exact q
  | cont => exact q
theorem Inv.quiet {pins : List (Addr × Obj)} {σ : St} {H : Hp} {s : Shared} (I : Inv X pins σ H s) : interactive X.env = false := by simp [interactive, I.ok.kind]
noncomputable def tDrop (te : TE) : TS := fun D σ H => te σ H fun _ H1 => D.nx σ H1
theorem ps_expr (he : PE X e te) (hs : swapsWith e none pos.line X.env = pure false := by rfl) : PS X (.Expr e pos) (tDrop te) := by
  intro pins s σ H D I h
  exact wpAny_Expr_any (thn (he pins s σ H _ I h) fun v s1 ⟨x, H1, I1, r1, q1⟩ => ⟨σ, H1, I1, q1⟩) I.quiet hs
noncomputable def tRet (te : TE) : TS := fun D σ H => te σ H D.rt
theorem ps_ret (he : PE X e te) : PS X (.Return (some e) pos) (tRet te) := by
  intro pins s σ H D I h
  exact wpAny_Return_some (thn (he pins s σ H _ I h) fun v s1 ⟨x, H1, I1, r1, q1⟩ => ⟨x, σ, H1, I1, r1, q1⟩)
noncomputable def tIfS (c : TT) (t u : TS) : TS := fun D σ H => c σ H fun b H1 => if b = true then t D σ H1 else u D σ H1
theorem ps_if {c : Expr} {a b : List Stmt} {tc : TT} (hc : PT X c tc) (ha : PSs X a t) (hb : PSs X b u) : PS X (.If c a b pos) (tIfS tc t u) := by
  intro pins s σ H D I h
  refine wpAny_If (thn (hc pins s σ H _ I h) fun d s1 ⟨H1, I1, q1⟩ => ?_)
  cases d with
  | true => exact ha pins s1 σ H1 D I1 q1
  | false => exact hb pins s1 σ H1 D I1 q1
noncomputable def tNever : TS := fun _ _ _ => False
theorem pss_never {sts : List Stmt} : PSs X sts tNever := fun _ _ _ _ _ _ h => h.elim
end
noncomputable abbrev TG := V → St → Hp → (St → Hp → Prop) → Prop
noncomputable abbrev TGs := List V → St → Hp → (St → Hp → Prop) → Prop
noncomputable def PG (X : Cx) (target : Expr) (t : TG) : Prop :=
  ∀ (pins : List (Addr × Obj)) (s : Shared) (σ : St) (H : Hp) (v : V) (u : Value) (Q : St → Hp → Prop), Inv X pins σ H s → RelV v u → t v σ H Q →
    wpAny (model X.prog X.w) X.A (assign target X.env u) (fun _ s' => ∃ σ' H', Inv X pins σ' H' s' ∧ Q σ' H') X.xe s
noncomputable def PGs (X : Cx) (ts : List Expr) (t : TGs) : Prop :=
  ∀ (pins : List (Addr × Obj)) (s : Shared) (σ : St) (H : Hp) (vs : List V) (us : List Value) (Q : St → Hp → Prop), Inv X pins σ H s → Vals vs us → t vs σ H Q →
    wpAny (model X.prog X.w) X.A (assignInOrder ((assignEach ts X.env).map (·.2)) us) (fun _ s' => ∃ σ' H', Inv X pins σ' H' s' ∧ Q σ' H') X.xe s
section
variable {X : Cx} {pos : Pos}
noncomputable def gName (i : Nat) : TG := fun v σ H Q => Q (σ.set i (some v)) H
theorem pg_name {i : Nat} {x : Str} (hN : X.N.Nodup) (hi : X.N[i]? = some x) (hx : Loc X.env.scope x) (hf : X.fn x = true ∨ X.env.scope.names.lookup x = some .local := by first | exact .inl rfl | exact .inr rfl | assumption) : PG X (.Name x pos) (gName i) := by
  intro pins s σ H v u Q I r h
  exact wpAny_assign_Name (store_ok I hN hi hx r (fun s' I' => ⟨_, H, I', h⟩) hf)
noncomputable def gNil : TGs := fun vs σ H Q => vs = [] ∧ Q σ H
noncomputable def gCons (t : TG) (u : TGs) : TGs := fun vs σ H Q => ∃ v r, vs = v :: r ∧ t v σ H fun σ' H' => u r σ' H' Q
theorem pgs_nil : PGs X [] gNil := by
  intro pins s σ H vs us Q I r h
  obtain ⟨e, h⟩ := h
  subst e
  cases r
  exact assignInOrder_nil ⟨σ, H, I, h⟩
theorem pgs_cons {e : Expr} {es : List Expr} {t : TG} {u : TGs} (h1 : PG X e t) (h2 : PGs X es u)
    (hs : (assignEach (e :: es) X.env).map (·.2) = assign e X.env :: (assignEach es X.env).map (·.2) := by rfl) : PGs X (e :: es) (gCons t u) := by
  intro pins s σ H vs us Q I r h
  obtain ⟨v, vr, e1, h⟩ := h
  subst e1
  cases r with
  | cons r rr =>
    rw [hs]
    refine assignInOrder_cons (thn (h1 pins s σ H _ _ _ I r h) fun _ s1 ⟨σ1, H1, I1, q1⟩ => ?_)
    exact h2 pins s1 σ1 H1 _ _ Q I1 rr q1
noncomputable def gTup (K : PySem.W.Frag) (n : Nat) (t : TGs) : TG := fun v σ H Q => ∃ a xs, v = .ref a ∧ SqT K H a xs ∧ xs.length = n ∧ t xs σ H Q
theorem pg_tup {es : List Expr} {k : Nat} {t : TGs} {n : Nat} (hc : X.calm = true) (h : PGs X es t)
    (hn : (assignEach es X.env).length = n := by rfl) (hst : (assignEach es X.env).findIdx? (·.1) = none := by rfl) : PG X (.Tuple es k pos) (gTup X.K n t) := by
  intro pins s σ H v u Q I r hw
  obtain ⟨a, xs, e1, hq, hl, hw⟩ := hw
  subst e1
  cases r
  obtain ⟨its, rv, ht, hz⟩ := I.tuple hq
  refine assign_Tuple_tuple (I.ok.hd hc) ht (by simp [hn, ← hl, rv.length]) hst fun h' hx => ?_
  have I1 : Inv X pins σ H { s with heap := h' } := I.kept (t' := s.toks) fun b o e => hx b o (Nat.ne_of_lt (Heap.lt_size e)) e
  exact h pins _ σ H xs _ Q I1 (by simpa using rv) hw
noncomputable def tAsg (te : TE) (g : TG) : TS := fun D σ H => te σ H fun x H1 => g x σ H1 D.nx
theorem ps_asg {tg e : Expr} {te : TE} {g : TG} (he : PE X e te) (hg : PG X tg g) (hs : swapsWithSole [tg] e pos.line X.env = pure false := by rfl) (hw : swappedStores [tg] e X.env = pure none := by rfl)
    (h1 : (assignEach [tg] X.env).map (·.2) = [assign tg X.env] := by rfl) : PS X (.Assign [tg] e pos) (tAsg te g) := by
  intro pins s σ H D I h
  refine wpAny_Assign_stores (thn (he pins s σ H _ I h) fun v s1 ⟨x, H1, I1, r1, q1⟩ => ?_) hs hw
  rw [h1]
  exact thn (hg pins s1 σ H1 x v _ I1 r1 q1) fun _ s2 q => q
theorem ps_set {i : Nat} {x : Str} {e : Expr} {te : TE} {pos' : Pos} (hN : X.N.Nodup) (hi : X.N[i]? = some x) (hx : Loc X.env.scope x) (he : PE X e te) (hs : swapsWith e (some (.Name x pos')) pos.line X.env = pure false := by rfl) (hf : X.fn x = true ∨ X.env.scope.names.lookup x = some .local := by first | exact .inl rfl | exact .inr rfl | assumption) :
    PS X (.Assign [.Name x pos'] e pos) (tAsg te (gName i)) := by
  intro pins s σ H D I h
  refine wpAny_Assign_Name (thn (he pins s σ H _ I h) fun v s1 ⟨y, H1, I1, r1, q1⟩ => ?_) hs
  exact store_ok I1 hN hi hx r1 (fun s2 I2 => ⟨_, H1, I2, q1⟩) hf
noncomputable def tPar (i j : Nat) (ta : TA) : TS := fun D σ H => ta σ H fun vs H1 => ∃ v w, vs = [v, w] ∧ D.nx ((σ.set i (some v)).set j (some w)) H1
theorem ps_par {i j : Nat} {x y : Str} {a b : Expr} {ta : TA} {px py pt : Pos} {kt k2 pt2} (hc : X.calm = true) (hN : X.N.Nodup) (hi : X.N[i]? = some x) (hj : X.N[j]? = some y) (hij : i ≠ j)
    (hx : X.env.scope.names.lookup x = some .local) (hy : X.env.scope.names.lookup y = some .local) (ha : PA X [a, b] ta)
    (hw : swappedStores [.Tuple [.Name x px, .Name y py] kt pt] (.Tuple [a, b] k2 pt2) X.env = pure (some [x, y]))
    (hs : swapsWithSole [.Tuple [.Name x px, .Name y py] kt pt] (.Tuple [a, b] k2 pt2) pos.line X.env = pure false := by rfl) :
    PS X (.Assign [.Tuple [.Name x px, .Name y py] kt pt] (.Tuple [a, b] k2 pt2) pos) (tPar i j ta) := by
  intro pins s σ H D I h
  rw [exec_Assign_arm]
  refine wpAny_bind (wpAny_standAt ?_)
  rw [hs]
  refine wpAny_bind (wpAny_pure ?_)
  rw [if_neg (by decide)]
  refine wpAny_bind (Tuple_ (thn (ha _ pins s σ H _ I h) fun us s1 ⟨vs, H1, I1, r1, q1⟩ => ?_))
  obtain ⟨v, w, e1, q1⟩ := q1
  subst e1
  obtain ⟨u1, u2, rfl, rv, rw'⟩ : ∃ u1 u2, us = [u1, u2] ∧ RelV v u1 ∧ RelV w u2 := by
    cases r1 with
    | cons p q =>
      cases q with
      | cons p' q' =>
        cases q'
        exact ⟨_, _, rfl, p, p'⟩
  refine wpAny_newObj_type ?_ (by show 2 ≤ sizeLine; decide)
  have I2 : Inv X pins σ H1 { s1 with heap := s1.heap.push { cls := .type "tuple", data := .seq [u1, u2].toArray } } := I1.kept (t' := s1.toks) fun b o e => Heap.get?_push_of_some _ e
  rw [hw]
  refine wpAny_bind (wpAny_pure ?_)
  show wpAny (model X.prog X.w) X.A (do rule "assign.swapped-stores"; let items ← unpackItems (.ref s1.heap.objs.size) 2 none; assignInOrder [fun v => bindName X.env y v, fun v => bindName X.env x v] items.reverse; pure Flow.next) _ _ _
  refine wpAny_bind (wpAny_rule (wpAny_bind (unpackItems_tuple (items := #[u1, u2]) (I.ok.hd hc) (IsTup.new s1.heap _) fun h' hx' => ?_)))
  have I3 := I2.kept (h' := h') (t' := s1.toks) fun b o e => hx' b o (Nat.ne_of_lt (Heap.lt_size e)) e
  show wpAny _ _ (assignInOrder [fun v => bindName X.env y v, fun v => bindName X.env x v] [u2, u1] >>= fun _ => pure Flow.next) _ _ _
  refine wpAny_bind (assignInOrder_cons (wpAny_bindName (store_ok I3 hN hj (.inl hy) rw' (fun s2 I4 => ?_) (.inr hy))))
  refine assignInOrder_cons (wpAny_bindName (store_ok I4 hN hi (.inl hx) rv (fun s3 I5 => assignInOrder_nil (wpAny_pure ?_)) (.inr hx)))
  rw [List.set_comm _ _ (Ne.symm hij)] at I5
  exact ⟨_, H1, I5, q1⟩
end
section
variable {X : Cx} {pos : Pos}
end
structure It where
  go : Nat → Hp → Prop
  yld : Nat → Hp → V → Hp → Prop
  stop : Nat → Hp → Prop
noncomputable def FpOk (X : Cx) (pins : List (Addr × Obj)) (H : Hp) (b : Addr) : Prop :=
  H b = none ∧ b ≠ X.env.locals ∧ b ∉ X.fs ∧ (b ∈ X.ex ∨ X.s₀.heap.objs.size ≤ b) ∧ (∀ x c, X.env.cells.lookup x = some c → c ≠ b) ∧ ∀ p ∈ X.pn ++ pins, p.1 ≠ b
theorem Inv.fpOk {X : Cx} {pins : List (Addr × Obj)} {σ : St} {H H' : Hp} {s : Shared} {b : Addr} (I : Inv X pins σ H s) (hb : s.heap.objs.size ≤ b) (hn : H' b = none) : FpOk X pins H' b := by
  refine ⟨hn, Nat.ne_of_gt (Nat.lt_of_lt_of_le I.lt hb), I.nofs hb, .inr (Nat.le_trans I.sz hb), fun x c e z => ?_, fun p hp z => ?_⟩
  · obtain ⟨v, q⟩ := I.cell x c e
    exact absurd (Nat.lt_of_lt_of_le q.lt (by rw [z]; exact hb)) (Nat.lt_irrefl _)
  · exact absurd (Nat.lt_of_lt_of_le (Heap.lt_size (I.pin p hp).1) (by rw [z]; exact hb)) (Nat.lt_irrefl _)
structure Turn (P : Program) (w : World) (K : PySem.W.Frag) (tg : Expr) (J : It) (fp : List Addr) (it : Addr) (tn : Nat → Heap → Prop) : Prop where
  mem : it ∈ fp
  obj : ∀ i h, tn i h → ∀ b ∈ fp, ∃ o, h.get? b = some o ∧ ∀ v, o.data ≠ .cell v
  keep : ∀ i h h', tn i h → (∀ b ∈ fp, ∀ o, h.get? b = some o → h'.get? b = some o) → tn i h'
  item : ∀ (X : Cx), X.prog = P → X.w = w → X.K = K → X.calm = true → ∀ (i : Nat) (pins : List (Addr × Obj)) (s : Shared) (σ : St) (H : Hp) (E : Value → Shared → Prop), Inv X pins σ H s → (∀ b ∈ fp, FpOk X pins H b) → tn i s.heap → J.go i H →
    wpAny (model P w) X.A (pyNext (.ref it)) (fun r s1 => ∃ u, r = some u ∧
      wpAny (model P w) X.A (letOwnedTupleGo tg (.ref it) u) (fun _ s2 => ∃ x H', Inv X pins σ H' s2 ∧ RelV x u ∧ J.yld i H x H' ∧ tn (i + 1) s2.heap ∧ ∀ b ∈ fp, H' b = none) E s1) E s
  done : ∀ (X : Cx), X.prog = P → X.w = w → X.K = K → X.calm = true → ∀ (i : Nat) (pins : List (Addr × Obj)) (s : Shared) (σ : St) (H : Hp) (E : Value → Shared → Prop), Inv X pins σ H s → (∀ b ∈ fp, FpOk X pins H b) → tn i s.heap → J.stop i H →
    wpAny (model P w) X.A (pyNext (.ref it)) (fun r s1 => r = none ∧ Inv X pins σ H s1) E s
  self : ∀ (A : Around) (i : Nat) (s : Shared) (Q : Value → Shared → Prop) (E : Value → Shared → Prop), tn i s.heap → Q (.ref it) s → wpAny (model P w) A (pyIter (.ref it)) Q E s
noncomputable abbrev TI := St → Hp → (It → Hp → Prop) → Prop
noncomputable def PIE (X : Cx) (pins : List (Addr × Obj)) (σ : St) (tg : Expr) (R : It → Hp → Prop) (itv : Value) (s2 : Shared) : Prop :=
  ∃ (it : Addr) (fp : List Addr) (tn : Nat → Heap → Prop) (J : It) (H' : Hp), itv = .ref it ∧ Inv X pins σ H' s2 ∧ Turn X.prog X.w X.K tg J fp it tn ∧ tn 0 s2.heap ∧ (∀ b ∈ fp, FpOk X pins H' b) ∧ R J H'
noncomputable def PI (X : Cx) (tg iter : Expr) (wi : TI) : Prop :=
  ∀ (pins : List (Addr × Obj)) (s : Shared) (σ : St) (H : Hp) (R : It → Hp → Prop), Inv X pins σ H s → wi σ H R →
    wpAny (model X.prog X.w) X.A (eval iter X.env) (fun v s1 => wpAny (model X.prog X.w) X.A (pyIter v) (PIE X pins σ tg R) X.xe s1) X.xe s
theorem go_of {M : Model} {A : Around} {E : Value → Shared → Prop} {s : Shared} {tg : Expr} {it : Addr} {u : Value} {o : Obj} {n : String} {vs : Array Value} {Q : Unit → Shared → Prop} (ho : s.heap.get? it = some o) (hc : o.cls = .type n) (hd : o.data = .fields vs)
    (hn : ["enumerate", "zip", "dict_itemiterator", "dict_reverseitemiterator", "odict_iterator", "itertools.zip_longest", "itertools.pairwise"].contains n = false) (hQ : Q () s) : wpAny M A (letOwnedTupleGo tg (.ref it) u) Q E s := by
  unfold letOwnedTupleGo
  cases tg <;> first
    | exact wpAny_pure hQ
    | (cases u <;> first
        | exact wpAny_pure hQ
        | (refine wpAny_bind (wpAny_load ho ?_)
           rw [hc, hd]
           show wpAny M A (if (["enumerate", "zip", "dict_itemiterator", "dict_reverseitemiterator", "odict_iterator", "itertools.zip_longest", "itertools.pairwise"].contains n && vs[0]? == some (rawInt _)) = true then _ else _) Q E s
           rw [if_neg (by intro h; rw [hn, Bool.false_and] at h; cases h)]
           exact wpAny_pure hQ))
noncomputable def Itl (K : PySem.W.Frag) (a : Addr) : It :=
  ⟨fun i H => ∃ xs x, SqL K H a xs ∧ xs[i]? = some x, fun i H x H' => H' = H ∧ ∀ xs, SqL K H a xs → xs[i]? = some x, fun i H => ∃ xs, SqL K H a xs ∧ xs.length ≤ i⟩
noncomputable def Itt (K : PySem.W.Frag) (a : Addr) : It :=
  ⟨fun i H => ∃ xs x, SqT K H a xs ∧ xs[i]? = some x, fun i H x H' => H' = H ∧ ∀ xs, SqT K H a xs → xs[i]? = some x, fun i H => ∃ xs, SqT K H a xs ∧ xs.length ≤ i⟩
noncomputable def Itr (lo : Int) (n : Nat) : It := ⟨fun i _ => i < n, fun i H x H' => H' = H ∧ x = .int (lo + i), fun i _ => n ≤ i⟩
theorem turn_list {P : Program} {w : World} {K : PySem.W.Frag} {tg : Expr} (a it : Addr) : Turn P w K tg (Itl K a) [it] it (fun i h => h.IsListIter it a i) where
  mem := by simp
  obj := fun i h st b hb => by
    have e : b = it := by simpa using hb
    subst e
    obtain ⟨o, e, c, d⟩ := st
    exact ⟨o, e, fun v z => by rw [d] at z; cases z⟩
  keep := fun i h h' st k => st.at fun o e => k it (by simp) o e
  item := by
    intro X hP hw hK hc i pins s σ H E I hf st hg
    subst hP hw hK
    obtain ⟨xs, x, hq, hx⟩ := hg
    obtain ⟨its, rv, p, hz⟩ := I.list hq
    obtain ⟨u, hu, ru⟩ := rv.get hx
    obtain ⟨f0, f1, f2, f3, f4, f5⟩ := hf it (by simp)
    refine wpAny_pyNext_list_item st p.isList (x := u) (by simpa using hu) fun h' st' sb => ?_
    have I1 : Inv X pins σ H { s with heap := h' } := I.turned (t' := s.toks) (fun b o hb e => (sb.2 b hb).trans e) f0 f1 f3 f4 f5
    obtain ⟨o, e, c, d⟩ := id st'
    exact ⟨u, rfl, go_of (s := { s with heap := h' }) e c d (by decide) ⟨x, H, I1, ru, ⟨rfl, fun ys hy => by rw [I.list_inj hy hq]; exact hx⟩, st', fun b hb => (hf b hb).1⟩⟩
  done := by
    intro X hP hw hK hc i pins s σ H E I hf st hg
    subst hP hw hK
    obtain ⟨xs, hq, hx⟩ := hg
    obtain ⟨its, rv, p, hz⟩ := I.list hq
    obtain ⟨f0, f1, f2, f3, f4, f5⟩ := hf it (by simp)
    have hl := rv.length
    exact wpAny_pyNext_list_end (I.ok.hd hc) st p.isList (by simp; omega) fun h' eb => ⟨rfl, I.turned (t' := s.toks) (fun b o hb e => eb b o hb e) f0 f1 f3 f4 f5⟩
  self := fun _ _ _ _ _ st h => wpAny_pyIter_listiter st h
theorem turn_tuple {P : Program} {w : World} {K : PySem.W.Frag} {tg : Expr} (a it : Addr) : Turn P w K tg (Itt K a) [it] it (fun i h => h.IsTupleIter it a i) where
  mem := by simp
  obj := fun i h st b hb => by
    have e : b = it := by simpa using hb
    subst e
    obtain ⟨o, e, c, d⟩ := st
    exact ⟨o, e, fun v z => by rw [d] at z; cases z⟩
  keep := fun i h h' st k => st.at fun o e => k it (by simp) o e
  item := by
    intro X hP hw hK hc i pins s σ H E I hf st hg
    subst hP hw hK
    obtain ⟨xs, x, hq, hx⟩ := hg
    obtain ⟨its, rv, p, hz⟩ := I.tuple hq
    obtain ⟨u, hu, ru⟩ := rv.get hx
    obtain ⟨f0, f1, f2, f3, f4, f5⟩ := hf it (by simp)
    refine wpAny_pyNext_tuple_item st (show s.heap.IsTuple a its.toArray from p) (x := u) (by simpa using hu) fun h' st' sb => ?_
    have I1 : Inv X pins σ H { s with heap := h' } := I.turned (t' := s.toks) (fun b o hb e => (sb.2 b hb).trans e) f0 f1 f3 f4 f5
    obtain ⟨o, e, c, d⟩ := id st'
    exact ⟨u, rfl, go_of (s := { s with heap := h' }) e c d (by decide) ⟨x, H, I1, ru, ⟨rfl, fun ys hy => by rw [I.tuple_inj hy hq]; exact hx⟩, st', fun b hb => (hf b hb).1⟩⟩
  done := by
    intro X hP hw hK hc i pins s σ H E I hf st hg
    subst hP hw hK
    obtain ⟨xs, hq, hx⟩ := hg
    obtain ⟨its, rv, p, hz⟩ := I.tuple hq
    obtain ⟨f0, f1, f2, f3, f4, f5⟩ := hf it (by simp)
    have hl := rv.length
    exact wpAny_pyNext_tuple_end (I.ok.hd hc) st (show s.heap.IsTuple a its.toArray from p) (by simp; omega) fun h' eb => ⟨rfl, I.turned (t' := s.toks) (fun b o hb e => eb b o hb e) f0 f1 f3 f4 f5⟩
  self := fun _ _ _ _ _ st h => wpAny_pyIter_tupleiter st h
theorem turn_range {P : Program} {w : World} {K : PySem.W.Frag} {tg : Expr} (it : Addr) (lo : Int) (n : Nat) : Turn P w K tg (Itr lo n) [it] it (fun i h => IsRangeIter h it (lo + (i : Nat) * 1) ((n : Int) - (i : Nat)) 1) where
  mem := by simp
  obj := fun i h st b hb => by
    have e : b = it := by simpa using hb
    subst e
    exact ⟨_, st, fun v z => by
      have z' : Data.fields _ = Data.cell v := z
      cases z'⟩
  keep := fun i h h' st k => k it (by simp) _ st
  item := by
    intro X hP hw hK hc i pins s σ H E I hf st hg
    subst hP hw hK
    obtain ⟨f0, f1, f2, f3, f4, f5⟩ := hf it (by simp)
    have W := Walks.range (prog := X.prog) (w := X.w) (I.ok.hd hc) it lo 1 n
    refine W.item i s _ _ hg st fun v h' tk hv st' kk => ?_
    obtain ⟨t, rfl⟩ := hv
    have I1 : Inv X pins σ H { s with heap := h', toks := tk } := I.turned (fun b o hb e => kk b o (by simpa using hb) e) f0 f1 f3 f4 f5
    refine ⟨_, rfl, go_of (s := { s with heap := h', toks := tk }) (n := "range_iterator") st' rfl rfl (by decide) ⟨.int (lo + i), H, I1, ⟨t, ?_⟩, ⟨rfl, rfl⟩, st', fun b hb => (hf b hb).1⟩⟩
    rw [Int.mul_one]
  done := by
    intro X hP hw hK hc i pins s σ H E I hf st hg
    subst hP hw hK
    obtain ⟨f0, f1, f2, f3, f4, f5⟩ := hf it (by simp)
    exact wpAny_pyNext_range_end (I.ok.hd hc) st (by have : n ≤ i := hg; omega) fun h' eb => ⟨rfl, I.turned (t' := s.toks) (fun b o hb e => eb b o hb e) f0 f1 f3 f4 f5⟩
  self := fun _ _ _ _ _ st h => wpAny_pyIter_rangeiter st h
end L2
namespace L2
open PySem PySem.Spec PyProof.Rows
section
variable {X : Cx} {tg : Expr}
noncomputable def iList (K : PySem.W.Frag) (tl : TE) : TI := fun σ H R => tl σ H fun x H1 => ∃ a, x = .ref a ∧ (∃ xs, SqL K H1 a xs) ∧ R (Itl K a) H1
noncomputable def iTup (K : PySem.W.Frag) (tl : TE) : TI := fun σ H R => tl σ H fun x H1 => ∃ a, x = .ref a ∧ (∃ xs, SqT K H1 a xs) ∧ R (Itt K a) H1
theorem pi_list {l : Expr} {tl : TE} (hl : PE X l tl) : PI X tg l (iList X.K tl) := by
  intro pins s σ H R I h
  refine thn (hl pins s σ H _ I h) fun v s1 ⟨x, H1, I1, r1, q1⟩ => ?_
  obtain ⟨a, e, ⟨xs, hq⟩, q⟩ := q1
  subst e
  cases r1
  obtain ⟨its, rv, p, hz⟩ := I1.list hq
  refine wpAny_pyIter_list p.isList ?_
  refine ⟨s1.heap.objs.size, [s1.heap.objs.size], _, _, H1, rfl, I1.kept (t' := s1.toks) fun b o e => Heap.get?_push_of_some _ e, turn_list a _, ⟨_, Heap.get?_push_size _ rfl, rfl, rfl⟩, fun b hb => ?_, q⟩
  have e : b = s1.heap.objs.size := by simpa using hb
  subst e
  exact I1.fpOk (Nat.le_refl _) (I1.hok.fresh (Nat.le_refl _))
theorem pi_tup {l : Expr} {tl : TE} (hl : PE X l tl) : PI X tg l (iTup X.K tl) := by
  intro pins s σ H R I h
  refine thn (hl pins s σ H _ I h) fun v s1 ⟨x, H1, I1, r1, q1⟩ => ?_
  obtain ⟨a, e, ⟨xs, hq⟩, q⟩ := q1
  subst e
  cases r1
  obtain ⟨its, rv, p, hz⟩ := I1.tuple hq
  refine wpAny_pyIter_tuple (show s1.heap.IsTuple a its.toArray from p) ?_
  refine ⟨s1.heap.objs.size, [s1.heap.objs.size], _, _, H1, rfl, I1.kept (t' := s1.toks) fun b o e => Heap.get?_push_of_some _ e, turn_tuple a _, ⟨_, Heap.get?_push_size _ rfl, rfl, rfl⟩, fun b hb => ?_, q⟩
  have e : b = s1.heap.objs.size := by simpa using hb
  subst e
  exact I1.fpOk (Nat.le_refl _) (I1.hok.fresh (Nat.le_refl _))
theorem range_it {pins : List (Addr × Obj)} {σ : St} {H : Hp} {s : Shared} {R : It → Hp → Prop} {E : Value → Shared → Prop} {lo hi : Int} {t u v : Tok} {tk : Nat} (I : Inv X pins σ H s) (h1 : -(2 ^ 62) ≤ lo) (h2 : lo < 2 ^ 62) (h3 : -(2 ^ 62) ≤ hi) (h4 : hi < 2 ^ 62)
    (q : R (Itr lo (hi - lo).toNat) H) : wpAny (model X.prog X.w) X.A (pyIter (.ref s.heap.objs.size)) (PIE X pins σ tg R) E { s with heap := s.heap.push { cls := .type "range", data := .fields #[.int lo t, .int hi u, .int 1 v] }, toks := tk } := by
  refine wpAny_pyIter_range (IsRange.new ..) (small_one h1 h2 h3 h4) ?_
  have I1 : Inv X pins σ H { s with heap := s.heap.push { cls := .type "range", data := .fields #[.int lo t, .int hi u, .int 1 v] }, toks := tk } := I.kept fun b o e => Heap.get?_push_of_some _ e
  refine ⟨(s.heap.push { cls := .type "range", data := .fields #[.int lo t, .int hi u, .int 1 v] }).objs.size, [(s.heap.push { cls := .type "range", data := .fields #[.int lo t, .int hi u, .int 1 v] }).objs.size], _, _, H, rfl,
    I1.kept (t' := tk) fun b o e => Heap.get?_push_of_some _ e, turn_range _ lo (hi - lo).toNat, ?_, fun b hb => ?_, q⟩
  · have e1 : lo + ((0 : Nat) : Int) * 1 = lo := by simp
    have e2 : (((hi - lo).toNat : Nat) : Int) - ((0 : Nat) : Int) = Builtin.Range.rangeSize lo hi 1 := by rw [rangeSize_one]; split <;> omega
    show IsRangeIter _ _ (lo + ((0 : Nat) : Int) * 1) ((((hi - lo).toNat : Nat) : Int) - ((0 : Nat) : Int)) 1
    rw [e1, e2]
    exact Heap.get?_push_size _ rfl
  · have e : b = (s.heap.push { cls := .type "range", data := .fields #[.int lo t, .int hi u, .int 1 v] }).objs.size := by simpa using hb
    subst e
    exact I1.fpOk (Nat.le_refl _) (I1.hok.fresh (Nat.le_refl _))
noncomputable def iRng1 (ta : TA) : TI := fun σ H R => ta σ H fun vs H1 => ∃ j : Int, vs = [.int j] ∧ -(2 ^ 62) ≤ j ∧ j < 2 ^ 62 ∧ R (Itr 0 j.toNat) H1
theorem pi_range1 {a : Expr} {ta : TA} {p pos : Pos} (hg : Gl X "range") (hm : X.mg "range" = none) (ha : PA X [a] ta) (hs : starEach [a] X.env = [(false, eval a X.env)] := by rfl) : PI X tg (.Call (.Name "range" p) [a] [] pos) (iRng1 ta) := by
  intro pins s σ H R I h
  refine Call_ (ld_blt I hg hm boot_range (PyProof.Rows.callWith_type1 (thn (ha pos pins s σ H _ I h) fun us s1 ⟨vs, H1, I1, r1, q1⟩ => ?_) hs rfl))
  obtain ⟨j, e, q1, q2, q⟩ := q1
  subst e
  cases r1 with
  | cons r rr =>
    cases rr
    obtain ⟨t, rfl⟩ := r
    exact call_range_1 (range_it I1 (by omega) (by omega) q1 q2 (by simpa using q))
noncomputable def tFor (wi : TI) (g : TG) (tb : TS) : TS := fun D σ H => wi σ H fun J H1 => ∃ W : Nat → Nat → St → Hp → Prop, (∃ m, W 0 m σ H1) ∧ ∀ i m σ H, W i m σ H →
  (J.stop i H ∧ D.nx σ H) ∨ (J.go i H ∧ ∃ N : St → Hp → Prop, (∀ σ' H', N σ' H' → ∃ m', m' < m ∧ W (i + 1) m' σ' H') ∧ ∀ x H', J.yld i H x H' → g x σ H' fun σ2 H2 => tb { D with nx := N, ct := N, bk := D.nx } σ2 H2)
noncomputable def pinsAt (fp : List Addr) (h : Heap) : List (Addr × Obj) := fp.filterMap fun b => (h.get? b).map fun o => (b, o)
theorem mem_pinsAt {fp : List Addr} {h : Heap} {b : Addr} {o : Obj} (hb : b ∈ fp) (e : h.get? b = some o) : (b, o) ∈ pinsAt fp h := List.mem_filterMap.mpr ⟨b, hb, by rw [e]; rfl⟩
theorem of_pinsAt {fp : List Addr} {h : Heap} {p : Addr × Obj} (hp : p ∈ pinsAt fp h) : p.1 ∈ fp ∧ h.get? p.1 = some p.2 := by
  obtain ⟨b, hb, e⟩ := List.mem_filterMap.mp hp
  cases q : h.get? b with
  | none => rw [q] at e; cases e
  | some o =>
    rw [q] at e
    have e' : (b, o) = p := Option.some.inj e
    subst e'
    exact ⟨hb, q⟩
theorem Inv.pinned {pins : List (Addr × Obj)} {σ : St} {H : Hp} {s : Shared} {fp : List Addr} (I : Inv X pins σ H s) (hf : ∀ b ∈ fp, FpOk X pins H b) (ho : ∀ b ∈ fp, ∃ o, s.heap.get? b = some o ∧ ∀ v, o.data ≠ .cell v) : Inv X (pins ++ pinsAt fp s.heap) σ H s :=
  I.pins_of fun p hp => (List.mem_append.mp hp).elim (fun z => I.pin p (List.mem_append_right _ z)) fun z => by
    obtain ⟨hb, e⟩ := of_pinsAt z
    obtain ⟨f0, f1, f2, _⟩ := hf p.1 hb
    obtain ⟨o, e', d⟩ := ho p.1 hb
    rw [e] at e'; cases e'
    exact ⟨e, f0, f1, f2, d⟩
theorem Inv.unpinned {pins pl : List (Addr × Obj)} {σ : St} {H : Hp} {s : Shared} (I : Inv X (pins ++ pl) σ H s) : Inv X pins σ H s := I.pins_of fun p hp => I.pin p (List.mem_append_right _ (List.mem_append_left _ hp))
theorem ps_for {iter : Expr} {body : List Stmt} {wi : TI} {g : TG} {tb : TS} {pos : Pos} (hp : PassesOwn (model X.prog X.w) X.A X.env X.xe) (hc : X.calm = true) (hi : PI X tg iter wi) (hg : PG X tg g) (hb : PSs X body tb)
    (hs : ∀ x, foldedSetIterable iter X.env x = pure x := by intro _; rfl) : PS X (.For tg iter body [] pos) (tFor wi g tb) := by
  intro pins s σ H D I h
  refine wpAny_For (thn (hi pins s σ H _ I h) fun v s1 h1 => thn h1 fun itv s2 h2 => ?_) hs
  obtain ⟨it, fp, tn, J, H2, e, I2, T, st2, f2, W, ⟨m0, w0⟩, turn⟩ := h2
  subst e
  -- what stays true of the iterator's objects through the loop
  have stat : ∀ {H' : Hp}, (∀ b ∈ fp, H' b = none) → ∀ b ∈ fp, FpOk X pins H' b := fun hn b hb => ⟨hn b hb, (f2 b hb).2⟩
  refine codeAny_forLoop_any (fun n s' => ∃ i σ' H', Inv X pins σ' H' s' ∧ tn i s'.heap ∧ (∀ b ∈ fp, H' b = none) ∧ W i n σ' H') ?_ m0 ⟨0, σ, H2, I2, st2, fun b hb => (f2 b hb).1, w0⟩
  rintro n s3 ⟨i, σ3, H3, I3, st3, fr3, w3⟩
  rcases turn i n σ3 H3 w3 with ⟨stop, qn⟩ | ⟨go, N, hN, step⟩
  · refine wpAny_passesOwn hp (thn (T.done X rfl rfl rfl hc i pins s3 σ3 H3 X.xe I3 (stat fr3) st3 stop) fun r s4 ⟨hr, I4⟩ => ?_)
    subst hr
    exact wpAny_execs_nil ⟨σ3, H3, I4, qn⟩
  · refine wpAny_passesOwn hp (thn (T.item X rfl rfl rfl hc i pins s3 σ3 H3 X.xe I3 (stat fr3) st3 go) fun r s4 ⟨u, hr, h4⟩ => ?_)
    subst hr
    refine wpAny_passesOwn hp (thn h4 fun _ s5 ⟨x, H5, I5, r5, y5, st5, fr5⟩ => ?_)
    have I5' := I5.pinned (stat fr5) (T.obj _ _ st5)
    refine wpAny_passesOwn hp (thn (hg _ s5 σ3 H5 x u _ I5' r5 (step x H5 y5)) fun _ s6 ⟨σ6, H6, I6, q6⟩ => ?_)
    refine wpAny_passesOwn hp (thn (hb _ s6 σ6 H6 _ I6 q6) fun f s7 q7 => ?_)
    have again : ∀ {σ7 : St} {H7 : Hp}, Inv X (pins ++ pinsAt fp s5.heap) σ7 H7 s7 → N σ7 H7 → ∃ m, m < n ∧ ∃ i σ' H', Inv X pins σ' H' s7 ∧ tn i s7.heap ∧ (∀ b ∈ fp, H' b = none) ∧ W i m σ' H' := fun {σ7 H7} I7 n7 => by
      obtain ⟨m', hm, w7⟩ := hN σ7 H7 n7
      refine ⟨m', hm, i + 1, σ7, H7, I7.unpinned, T.keep _ _ _ st5 fun b hb o e => (I7.pin (b, o) (List.mem_append_right _ (List.mem_append_right _ (mem_pinsAt hb e)))).1, fun b hb => ?_, w7⟩
      obtain ⟨o, e, d⟩ := T.obj _ _ st5 b hb
      exact (I7.pin (b, o) (List.mem_append_right _ (List.mem_append_right _ (mem_pinsAt hb e)))).2.1
    cases f with
    | next => obtain ⟨σ7, H7, I7, n7⟩ := q7; exact again I7 n7
    | cont => obtain ⟨σ7, H7, I7, n7⟩ := q7; exact again I7 n7
    | brk => obtain ⟨σ7, H7, I7, q7⟩ := q7; exact ⟨σ7, H7, I7.unpinned, q7⟩
    | ret v => obtain ⟨x7, σ7, H7, I7, r7, q7⟩ := q7; exact ⟨x7, σ7, H7, I7.unpinned, r7, q7⟩
end
theorem for_list {K : PySem.W.Frag} {a : Addr} {xs : List V} {g : TG} {tb : TS} {D : Ends} {σ : St} {H : Hp} (Pv : Nat → St → Hp → Prop) (h0 : Pv 0 σ H) (hl : ∀ i σ H, i ≤ xs.length → Pv i σ H → SqL K H a xs)
    (hs : ∀ i x σ H, xs[i]? = some x → Pv i σ H → g x σ H fun σ2 H2 => tb { D with nx := Pv (i + 1), ct := Pv (i + 1), bk := D.nx } σ2 H2) (hd : ∀ σ H, Pv xs.length σ H → D.nx σ H) :
    ∃ W : Nat → Nat → St → Hp → Prop, (∃ m, W 0 m σ H) ∧ ∀ i m σ H, W i m σ H →
      ((Itl K a).stop i H ∧ D.nx σ H) ∨ ((Itl K a).go i H ∧ ∃ N : St → Hp → Prop, (∀ σ' H', N σ' H' → ∃ m', m' < m ∧ W (i + 1) m' σ' H') ∧ ∀ x H', (Itl K a).yld i H x H' → g x σ H' fun σ2 H2 => tb { D with nx := N, ct := N, bk := D.nx } σ2 H2) := by
  refine ⟨fun i m σ H => m = xs.length - i ∧ i ≤ xs.length ∧ Pv i σ H, ⟨xs.length, by simp, Nat.zero_le _, h0⟩, ?_⟩
  rintro i m σ H ⟨rfl, hi, p⟩
  have q := hl i σ H hi p
  by_cases hlt : i < xs.length
  · refine .inr ⟨⟨xs, xs[i], q, by simp [hlt]⟩, Pv (i + 1), fun σ' H' p' => ⟨xs.length - (i + 1), by omega, rfl, hlt, p'⟩, fun x H' y => ?_⟩
    obtain ⟨e, y⟩ := y
    subst e
    exact hs i x σ _ (y xs q) p
  · have e : i = xs.length := by omega
    subst e
    exact .inl ⟨⟨xs, q, Nat.le_refl _⟩, hd σ H p⟩
theorem for_range {lo : Int} {n : Nat} {g : TG} {tb : TS} {D : Ends} {σ : St} {H : Hp} (Pv : Nat → St → Hp → Prop) (h0 : Pv 0 σ H)
    (hs : ∀ i σ H, i < n → Pv i σ H → g (.int (lo + i)) σ H fun σ2 H2 => tb { D with nx := Pv (i + 1), ct := Pv (i + 1), bk := D.nx } σ2 H2) (hd : ∀ σ H, Pv n σ H → D.nx σ H) :
    ∃ W : Nat → Nat → St → Hp → Prop, (∃ m, W 0 m σ H) ∧ ∀ i m σ H, W i m σ H →
      ((Itr lo n).stop i H ∧ D.nx σ H) ∨ ((Itr lo n).go i H ∧ ∃ N : St → Hp → Prop, (∀ σ' H', N σ' H' → ∃ m', m' < m ∧ W (i + 1) m' σ' H') ∧ ∀ x H', (Itr lo n).yld i H x H' → g x σ H' fun σ2 H2 => tb { D with nx := N, ct := N, bk := D.nx } σ2 H2) := by
  refine ⟨fun i m σ H => m = n - i ∧ i ≤ n ∧ Pv i σ H, ⟨n, by simp, Nat.zero_le _, h0⟩, ?_⟩
  rintro i m σ H ⟨rfl, hi, p⟩
  by_cases hlt : i < n
  · refine .inr ⟨hlt, Pv (i + 1), fun σ' H' p' => ⟨n - (i + 1), by omega, rfl, hlt, p'⟩, fun x H' y => ?_⟩
    obtain ⟨e, y⟩ := y
    subst e y
    exact hs i σ _ hlt p
  · have e : i = n := by omega
    subst e
    exact .inl ⟨Nat.le_refl _, hd σ H p⟩
end L2
namespace L2
open PySem PySem.Spec PyProof.Rows
noncomputable abbrev R2 := V → V → Hp → VK → Prop
noncomputable def OpR (X : Cx) (f : Value → Value → Sem Value) (r : R2) : Prop :=
  ∀ (pins : List (Addr × Obj)) (s : Shared) (σ : St) (H : Hp) (x y : V) (v u : Value) (Q : VK), Inv X pins σ H s → RelV x v → RelV y u → r x y H Q →
    wpAny (model X.prog X.w) X.A (f v u) (EP X pins σ Q) X.xe s
noncomputable def UnR (X : Cx) (f : Value → Sem Value) (r : V → Hp → VK → Prop) : Prop :=
  ∀ (pins : List (Addr × Obj)) (s : Shared) (σ : St) (H : Hp) (x : V) (v : Value) (Q : VK), Inv X pins σ H s → RelV x v → r x H Q →
    wpAny (model X.prog X.w) X.A (f v) (EP X pins σ Q) X.xe s
noncomputable def CallR (X : Cx) (f : Value) (r : List V → Hp → VK → Prop) : Prop :=
  ∀ (pins : List (Addr × Obj)) (s : Shared) (σ : St) (H : Hp) (xs : List V) (us : List Value) (Q : VK), Inv X pins σ H s → Vals xs us → r xs H Q →
    wpAny (model X.prog X.w) X.A (call f us) (EP X pins σ Q) X.xe s
noncomputable def tOp (r : R2) (ta tb : TE) : TE := fun σ H Q => ta σ H fun x H1 => tb σ H1 fun y H2 => r x y H2 Q
noncomputable def tUn (r : V → Hp → VK → Prop) (ta : TE) : TE := fun σ H Q => ta σ H fun x H1 => r x H1 Q
noncomputable def rI (C : Int → Int → Prop) (g : Int → Int → V) : R2 := fun x y H Q => ∃ i j, x = .int i ∧ y = .int j ∧ C i j ∧ Q (g i j) H
noncomputable def rI0 (g : Int → Int → V) : R2 := fun x y H Q => ∃ i j, x = .int i ∧ y = .int j ∧ Q (g i j) H
noncomputable def rU (g : Int → V) : V → Hp → VK → Prop := fun x H Q => ∃ i, x = .int i ∧ Q (g i) H
section
variable {X : Cx} {a b c : Expr} {ta tb tc : TE} {pos : Pos}
theorem binT (ha : PE X a ta) (hb : PE X b tb) {pins : List (Addr × Obj)} {s : Shared} {σ : St} {H : Hp} {R : V → V → Hp → Prop} (I : Inv X pins σ H s)
    (h : ta σ H fun x H1 => tb σ H1 fun y H2 => R x y H2) {Q : Value → Shared → Prop} {f : Value → Value → Sem Value}
    (hf : ∀ v u s2 x y H2, Inv X pins σ H2 s2 → RelV x v → RelV y u → R x y H2 → wpAny (model X.prog X.w) X.A (f v u) Q X.xe s2) :
    wpAny (model X.prog X.w) X.A (eval a X.env) (fun v s₁ => wpAny (model X.prog X.w) X.A (eval b X.env) (fun u s₂ => wpAny (model X.prog X.w) X.A (f v u) Q X.xe s₂) X.xe s₁) X.xe s := by
  refine thn (ha pins s σ H _ I h) fun v s1 ⟨x, H1, I1, r1, q1⟩ => ?_
  refine thn (hb pins s1 σ H1 _ I1 q1) fun u s2 ⟨y, H2, I2, r2, q2⟩ => ?_
  exact hf v u s2 x y H2 I2 r1 r2 q2
theorem pe_op {op : Operator} {r : R2} (ho : OpR X (binaryOp op) r) (ha : PE X a ta) (hb : PE X b tb) : PE X (.BinOp a op b pos) (tOp r ta tb) := by
  intro pins s σ H Q I h
  exact wpAny_BinOp (binT ha hb I h fun v u s2 x y H2 I2 rx ry q => ho pins s2 σ H2 x y v u Q I2 rx ry q)
theorem pe_un {op : UnaryOp} {r : V → Hp → VK → Prop} (ho : UnR X (unaryOp op) r) (ha : PE X a ta) : PE X (.UnaryOp op a pos) (tUn r ta) := by
  intro pins s σ H Q I h
  exact UnaryOp_ (thn (ha pins s σ H _ I h) fun v s1 ⟨x, H1, I1, r1, q1⟩ => ho pins s1 σ H1 x v Q I1 r1 q1)
theorem opI {f : Value → Value → Sem Value} {C : Int → Int → Prop} {g : Int → Int → Int}
    (rule : ∀ (i j : Int) (t u : Tok) (s : Shared) (Q : Value → Shared → Prop) (E : Value → Shared → Prop), C i j → Q (.int (g i j) s.toks) { s with toks := s.toks + 1 } → wpAny (model X.prog X.w) X.A (f (.int i t) (.int j u)) Q E s) :
    OpR X f (rI C fun i j => .int (g i j)) := by
  intro pins s σ H x y v u Q I rx ry h
  obtain ⟨i, j, rfl, rfl, hc, q⟩ := h
  obtain ⟨t, rfl⟩ := rx
  obtain ⟨t', rfl⟩ := ry
  exact rule i j t t' s _ _ hc ⟨.int (g i j), H, I.tok _, ⟨_, rfl⟩, q⟩
theorem opI0 {f : Value → Value → Sem Value} {g : Int → Int → Int}
    (rule : ∀ (i j : Int) (t u : Tok) (s : Shared) (Q : Value → Shared → Prop) (E : Value → Shared → Prop), Q (.int (g i j) s.toks) { s with toks := s.toks + 1 } → wpAny (model X.prog X.w) X.A (f (.int i t) (.int j u)) Q E s) :
    OpR X f (rI0 fun i j => .int (g i j)) := by
  intro pins s σ H x y v u Q I rx ry h
  obtain ⟨i, j, rfl, rfl, q⟩ := h
  obtain ⟨t, rfl⟩ := rx
  obtain ⟨t', rfl⟩ := ry
  exact rule i j t t' s _ _ ⟨.int (g i j), H, I.tok _, ⟨_, rfl⟩, q⟩
theorem opB0 {f : Value → Value → Sem Value} {g : Int → Int → Bool}
    (rule : ∀ (i j : Int) (t u : Tok) (s : Shared) (Q : Value → Shared → Prop) (E : Value → Shared → Prop), Q (.bool (g i j)) s → wpAny (model X.prog X.w) X.A (f (.int i t) (.int j u)) Q E s) :
    OpR X f (rI0 fun i j => .bl (g i j)) := by
  intro pins s σ H x y v u Q I rx ry h
  obtain ⟨i, j, rfl, rfl, q⟩ := h
  obtain ⟨t, rfl⟩ := rx
  obtain ⟨t', rfl⟩ := ry
  exact rule i j t t' s _ _ ⟨.bl (g i j), H, I, rfl, q⟩
noncomputable def CPow (i j : Int) : Prop := 0 ≤ j ∧ j ≤ 1000000 ∧ i.natAbs < 2 ^ 64
noncomputable def CMul (i j : Int) : Prop := (-(2 ^ 64) < i ∧ i < 2 ^ 64) ∨ (-(2 ^ 64) < j ∧ j < 2 ^ 64)
theorem CMul.ok {i j : Int} (h : CMul i j) : IntMulOk i j := by
  rcases h with ⟨h1, h2⟩ | ⟨h1, h2⟩
  · exact .of_left (intBits_le_64 h1 h2)
  · exact .of_right (intBits_le_64 h1 h2)
theorem op_add : OpR X (binaryOp .Add) (rI0 fun i j => .int (i + j)) := opI0 fun _ _ _ _ _ _ _ q => add_int q
theorem op_sub : OpR X (binaryOp .Sub) (rI0 fun i j => .int (i - j)) := opI0 fun _ _ _ _ _ _ _ q => sub_int q
theorem op_mul : OpR X (binaryOp .Mult) (rI CMul fun i j => .int (i * j)) := opI fun _ _ _ _ _ _ _ hc q => mul_int q hc.ok
theorem op_mod : OpR X (binaryOp .Mod) (rI (fun _ j => 0 < j) fun i j => .int (i % j)) := opI fun i j _ _ _ _ _ hc q => by
  have h1 : (0 : Int) < j := hc
  exact mod_int' (by omega) (by rw [Int.fmod_eq_emod_of_nonneg i (by omega)]; exact q)
theorem op_pow : OpR X (binaryOp .Pow) (rI CPow fun i j => .int (i ^ j.toNat)) := opI fun _ _ _ _ _ _ _ hc q => pow_int_small hc.1 hc.2.1 hc.2.2 q
theorem unI {f : Value → Sem Value} {g : Int → Int}
    (rule : ∀ (i : Int) (t : Tok) (s : Shared) (Q : Value → Shared → Prop) (E : Value → Shared → Prop), Q (.int (g i) s.toks) { s with toks := s.toks + 1 } → wpAny (model X.prog X.w) X.A (f (.int i t)) Q E s) :
    UnR X f (rU fun i => .int (g i)) := by
  intro pins s σ H x v Q I rx h
  obtain ⟨i, rfl, q⟩ := h
  obtain ⟨t, rfl⟩ := rx
  exact rule i t s _ _ ⟨.int (g i), H, I.tok _, ⟨_, rfl⟩, q⟩
theorem un_neg : UnR X (unaryOp .USub) (rU fun i => .int (-i)) := unI fun _ _ _ _ _ q => neg_int q
end
noncomputable def scal : V → V → Bool
  | .non, .non => true | .non, .int _ => true | .int _, .non => true | .non, .bl _ => true | .bl _, .non => true | .non, .str _ => true | .str _, .non => true
  | .int _, .int _ => true | .bl _, .bl _ => true | .str _, .str _ => true | .byt _, .byt _ => true
  | .int _, .str _ => true | .str _, .int _ => true | .bl _, .str _ => true | .str _, .bl _ => true
  | _, _ => false
noncomputable def rEq : R2 := fun x y H Q => scal x y = true ∧ Q (.bl (decide (x = y))) H
noncomputable def rNe : R2 := fun x y H Q => scal x y = true ∧ Q (.bl (!decide (x = y))) H
theorem dec_int {i j : Int} : decide (V.int i = V.int j) = (i == j) := by
  rw [Bool.eq_iff_iff]
  simp
theorem dec_bl {i j : Bool} : decide (V.bl i = V.bl j) = (i == j) := by
  rw [Bool.eq_iff_iff]
  simp
theorem dec_str {i j : Str} : decide (V.str i = V.str j) = (i == j) := by
  rw [Bool.eq_iff_iff]
  simp
theorem dec_byt {i j : Array UInt8} : decide (V.byt i = V.byt j) = (i.toList == j.toList) := by
  rw [Bool.eq_iff_iff]
  cases i
  cases j
  simp
section
variable {X : Cx} {a b c : Expr} {ta tb tc : TE} {pos : Pos}
theorem fin_bl {pins : List (Addr × Obj)} {σ : St} {H : Hp} {s : Shared} {Q : VK} {k k' : Bool} (I : Inv X pins σ H s) (q : Q (.bl k) H) (e : k = k') : EP X pins σ Q (.bool k') s := by
  subst e
  exact ⟨.bl k, H, I, rfl, q⟩
theorem op_eq : OpR X (compareOp .Eq) rEq := by
  intro pins s σ H x y v u Q I rx ry h
  obtain ⟨hs, q⟩ := h
  cases x with
  | non =>
    cases rx
    cases y with
    | non => cases ry; exact PySem.EqNone.eq_none_none (fin_bl I q (by simp))
    | bl j => cases ry; exact PySem.EqNone.eq_none_bool (fin_bl I q (by simp))
    | int j => obtain ⟨t', rfl⟩ := ry; exact PySem.EqNone.eq_none_int (fin_bl I q (by simp))
    | str j => obtain ⟨t', rfl⟩ := ry; exact PySem.EqNone.eq_none_str (fin_bl I q (by simp))
    | _ => exact absurd (show false = true from hs) Bool.false_ne_true
  | bl i =>
    cases rx
    cases y with
    | non => cases ry; exact PySem.EqNone.eq_bool_none (fin_bl I q (by simp))
    | bl j => cases ry; exact eq_bool (fin_bl I q dec_bl)
    | str j => obtain ⟨t', rfl⟩ := ry; exact PySem.EqMixed.eq_bool_str (fin_bl I q (by simp))
    | _ => exact absurd (show false = true from hs) Bool.false_ne_true
  | int i =>
    obtain ⟨t, rfl⟩ := rx
    cases y with
    | non => cases ry; exact PySem.EqNone.eq_int_none (fin_bl I q (by simp))
    | int j => obtain ⟨t', rfl⟩ := ry; exact eq_int (fin_bl I q dec_int)
    | str j => obtain ⟨t', rfl⟩ := ry; exact PySem.EqMixed.eq_int_str (fin_bl I q (by simp))
    | _ => exact absurd (show false = true from hs) Bool.false_ne_true
  | str i =>
    obtain ⟨t, rfl⟩ := rx
    cases y with
    | non => cases ry; exact PySem.EqNone.eq_str_none (fin_bl I q (by simp))
    | bl j => cases ry; exact PySem.EqMixed.eq_str_bool (fin_bl I q (by simp))
    | int j => obtain ⟨t', rfl⟩ := ry; exact PySem.EqMixed.eq_str_int (fin_bl I q (by simp))
    | str j => obtain ⟨t', rfl⟩ := ry; exact eq_str (fin_bl I q dec_str)
    | _ => exact absurd (show false = true from hs) Bool.false_ne_true
  | byt i =>
    obtain ⟨t, rfl⟩ := rx
    cases y with
    | byt j => obtain ⟨t', rfl⟩ := ry; exact PySem.W.eq_bytes (fin_bl I q dec_byt)
    | _ => exact absurd (show false = true from hs) Bool.false_ne_true
  | _ => cases y <;> exact absurd (show false = true from hs) Bool.false_ne_true
theorem op_ne : OpR X (compareOp .NotEq) rNe := by
  intro pins s σ H x y v u Q I rx ry h
  obtain ⟨hs, q⟩ := h
  cases x with
  | non =>
    cases rx
    cases y with
    | non => cases ry; exact PySem.EqNone.ne_none_none (fin_bl I q (by simp))
    | bl j => cases ry; exact PySem.EqNone.ne_none_bool (fin_bl I q (by simp))
    | int j => obtain ⟨t', rfl⟩ := ry; exact PySem.EqNone.ne_none_int (fin_bl I q (by simp))
    | str j => obtain ⟨t', rfl⟩ := ry; exact PySem.EqNone.ne_none_str (fin_bl I q (by simp))
    | _ => exact absurd (show false = true from hs) Bool.false_ne_true
  | bl i =>
    cases rx
    cases y with
    | non => cases ry; exact PySem.EqNone.ne_bool_none (fin_bl I q (by simp))
    | bl j => cases ry; exact ne_bool (fin_bl I q (congrArg not dec_bl))
    | str j => obtain ⟨t', rfl⟩ := ry; exact PySem.EqMixed.ne_bool_str (fin_bl I q (by simp))
    | _ => exact absurd (show false = true from hs) Bool.false_ne_true
  | int i =>
    obtain ⟨t, rfl⟩ := rx
    cases y with
    | non => cases ry; exact PySem.EqNone.ne_int_none (fin_bl I q (by simp))
    | int j => obtain ⟨t', rfl⟩ := ry; exact ne_int (fin_bl I q (congrArg not dec_int))
    | str j => obtain ⟨t', rfl⟩ := ry; exact PySem.EqMixed.ne_int_str (fin_bl I q (by simp))
    | _ => exact absurd (show false = true from hs) Bool.false_ne_true
  | str i =>
    obtain ⟨t, rfl⟩ := rx
    cases y with
    | non => cases ry; exact PySem.EqNone.ne_str_none (fin_bl I q (by simp))
    | bl j => cases ry; exact PySem.EqMixed.ne_str_bool (fin_bl I q (by simp))
    | int j => obtain ⟨t', rfl⟩ := ry; exact PySem.EqMixed.ne_str_int (fin_bl I q (by simp))
    | str j => obtain ⟨t', rfl⟩ := ry; exact ne_str (fin_bl I q (congrArg not dec_str))
    | _ => exact absurd (show false = true from hs) Bool.false_ne_true
  | byt i =>
    obtain ⟨t, rfl⟩ := rx
    cases y with
    | byt j => obtain ⟨t', rfl⟩ := ry; exact PySem.W.ne_bytes (fin_bl I q (congrArg not dec_byt))
    | _ => exact absurd (show false = true from hs) Bool.false_ne_true
  | _ => cases y <;> exact absurd (show false = true from hs) Bool.false_ne_true
theorem op_lt : OpR X (compareOp .Lt) (rI0 fun i j => .bl (decide (i < j))) := opB0 fun _ _ _ _ _ _ _ q => lt_int q
theorem op_le : OpR X (compareOp .LtE) (rI0 fun i j => .bl (decide (i ≤ j))) := opB0 fun _ _ _ _ _ _ _ q => le_int q
theorem op_gt : OpR X (compareOp .Gt) (rI0 fun i j => .bl (decide (j < i))) := opB0 fun _ _ _ _ _ _ _ q => gt_int q
theorem op_ge : OpR X (compareOp .GtE) (rI0 fun i j => .bl (decide (j ≤ i))) := opB0 fun _ _ _ _ _ _ _ q => ge_int q
theorem op_in_str : OpR X (compareOp .In) (fun x y H Q => ∃ i j, x = .str i ∧ y = .str j ∧ Q (.bl (!(Builtin.Str.occurrences j i 0 j.length 1).isEmpty)) H) := by
  intro pins s σ H x y v u Q I rx ry h
  obtain ⟨i, j, rfl, rfl, q⟩ := h
  obtain ⟨t, rfl⟩ := rx
  obtain ⟨t', rfl⟩ := ry
  exact in_str (fin_bl I q rfl)
theorem op_isN : OpR X (compareOp .Is) (fun x y H Q => y = .non ∧ Q (.bl (decide (x = .non))) H) := by
  intro pins s σ H x y v u Q I rx ry h
  obtain ⟨rfl, q⟩ := h
  cases ry
  refine is_none_gen (fin_bl I q ?_)
  cases x <;> first
    | (cases rx; rfl)
    | (obtain ⟨t, rfl⟩ := rx; rfl)
theorem op_notN : OpR X (compareOp .IsNot) (fun x y H Q => y = .non ∧ Q (.bl (!decide (x = .non))) H) := by
  intro pins s σ H x y v u Q I rx ry h
  obtain ⟨rfl, q⟩ := h
  cases ry
  refine isnot_none_gen (fin_bl I q ?_)
  cases x <;> first
    | (cases rx; rfl)
    | (obtain ⟨t, rfl⟩ := rx; rfl)
theorem nomark (b : Expr) {op : CmpOp} (h : op ≠ .In := by decide) (h2 : op ≠ .NotIn := by decide) : behindInMarks op b = false := by
  have e1 : (op == CmpOp.In) = false := by cases op <;> first | rfl | exact absurd rfl h
  have e2 : (op == CmpOp.NotIn) = false := by cases op <;> first | rfl | exact absurd rfl h2
  cases b <;> simp [behindInMarks, e1, e2]
theorem pe_cmpR {op : CmpOp} {r : R2} (ho : OpR X (compareOp op) r) (ha : PE X a ta) (hb : PE X b tb) (hm : behindInMarks op b = false) : PE X (.Compare a [op] [b] pos) (tOp r ta tb) := by
  intro pins s σ H Q I h
  exact wpAny_Compare1 (binT ha hb I h fun v u s2 x y H2 I2 rx ry q => ho pins s2 σ H2 x y v u Q I2 rx ry q) hm
noncomputable def tTest (t : TE) : TT := fun σ H Q => t σ H fun x H' => ∃ k, x = .bl k ∧ Q k H'
theorem pt_cmpR {op : CmpOp} {r : R2} (ho : OpR X (compareOp op) r) (ha : PE X a ta) (hb : PE X b tb) (hm : behindInMarks op b = false) : PT X (.Compare a [op] [b] pos) (tTest (tOp r ta tb)) := by
  intro pins s σ H Q I h
  refine wpAny_isTrue_Compare1 (thn (ha pins s σ H _ I h) fun v s1 ⟨x, H1, I1, r1, q1⟩ => thn (hb pins s1 σ H1 _ I1 q1) fun u s2 ⟨y, H2, I2, r2, q2⟩ =>
    thn (ho pins s2 σ H2 x y v u _ I2 r1 r2 q2) fun c s3 ⟨z, H3, I3, r3, k, e, q3⟩ => ?_) hm
  subst e
  cases r3
  exact wpAny_truthy_bool ⟨H3, I3, q3⟩
noncomputable def tChain (r r' : R2) (ta tb tc : TE) : TE := fun σ H Q => ta σ H fun x H1 => tb σ H1 fun y H2 => r x y H2 fun z H3 => ∃ k, z = .bl k ∧
  (if k = true then tc σ H3 fun w' H4 => r' y w' H4 Q else Q (.bl false) H3)
theorem pe_chain {op op' : CmpOp} {r r' : R2} (ho : OpR X (compareOp op) r) (ho' : OpR X (compareOp op') r') (ha : PE X a ta) (hb : PE X b tb) (hc : PE X c tc)
    (hm : lastMarks [op, op'] [b, c] = false := by with_unfolding_all rfl) : PE X (.Compare a [op, op'] [b, c] pos) (tChain r r' ta tb tc) := by
  intro pins s σ H Q I h
  refine Compare_chain (thn (ha pins s σ H _ I h) fun v s1 ⟨x, H1, I1, r1, q1⟩ => chain_link (thn (hb pins s1 σ H1 _ I1 q1) fun u s2 ⟨y, H2, I2, r2, q2⟩ =>
    thn (ho pins s2 σ H2 x y v u _ I2 r1 r2 q2) fun d s3 ⟨z, H3, I3, r3, k, e, q3⟩ => ?_)) hm
  subst e
  cases r3
  refine wpAny_truthy_bool ?_
  cases k with
  | false => exact ite_ff ⟨.bl false, H3, I3, rfl, q3⟩
  | true => exact ite_tt (chain_last (thn (hc pins s3 σ H3 _ I3 q3) fun w' s4 ⟨z', H4, I4, r4, q4⟩ => ho' pins s4 σ H4 y z' u w' Q I4 r2 r4 q4))
theorem line63 : (sizeLine : Nat) < 2 ^ 63 := by rw [sizeLine_eq]; decide
theorem op_add_str : OpR X (binaryOp .Add) (fun x y H Q => ∃ i j, x = .str i ∧ y = .str j ∧ i.length + j.length ≤ sizeLine ∧ Q (.str (i ++ j)) H) := by
  intro pins s σ H x y v u Q I rx ry h
  obtain ⟨i, j, rfl, rfl, hz, q⟩ := h
  obtain ⟨t, rfl⟩ := rx
  obtain ⟨t', rfl⟩ := ry
  exact add_str (fun t' tk => ⟨.str (i ++ j), H, I.tok _, ⟨_, rfl⟩, q⟩) hz
theorem vals1 {x : V} {us : List Value} (r : Vals [x] us) : ∃ u, us = [u] ∧ RelV x u := by
  cases r with
  | cons r1 r2 => cases r2; exact ⟨_, rfl, r1⟩
theorem vals2 {x y : V} {us : List Value} (r : Vals [x, y] us) : ∃ u w', us = [u, w'] ∧ RelV x u ∧ RelV y w' := by
  cases r with
  | cons r1 r2 =>
    cases r2 with
    | cons r3 r4 => cases r4; exact ⟨_, _, rfl, r1, r3⟩
theorem call_str_int : CallR X (.type "str") (fun xs H Q => ∃ i, xs = [.int i] ∧ i.natAbs.log2 < 1920 ∧ Q (.str (toString i)) H) := by
  intro pins s σ H xs us Q I r h
  obtain ⟨i, rfl, hz, q⟩ := h
  obtain ⟨u, rfl, t, rfl⟩ := vals1 r
  exact PySem.P.str_of_int hz ⟨.str _, H, I.tok _, ⟨_, rfl⟩, q⟩
end
end L2
namespace L2
open PySem PySem.Spec PyProof.Rows
structure ObjM (h : Heap) (x dx C : Addr) (mA : Str → Option Value) : Prop where
  obj : h.get? x = some (PySem.W.instObj C dx)
  ns : h.Ns1 dx mA
  ne : dx ≠ x
theorem lookIn_ns {h : Heap} {dx : Addr} {mA : Str → Option Value} (n : h.Ns1 dx mA) : ∃ od, h.get? dx = some od ∧ ∀ name, PySem.W.lookIn name od = some (mA name) := by
  obtain ⟨o, es, ep, ho, hd, hk, _, hm⟩ := n
  refine ⟨o, ho, fun name => ?_⟩
  have e := hm name
  unfold nsFind findBy at e
  rw [← Array.find?_toList] at e
  unfold PySem.W.lookIn
  rw [hd]
  dsimp only
  split
  · rename_i y q
    rw [q] at e
    exact congrArg some e
  · rename_i q
    rw [q] at e
    have a : es.toList.any (·.refKey) = false := by
      rw [List.any_eq_false]
      intro y hy
      obtain ⟨z, t, hkey⟩ := hk y (Array.mem_toList_iff.mp hy)
      simp [DictEntry.refKey, hkey]
    have a' : ¬ es.toList.any (·.refKey) = true := by rw [a]; exact Bool.false_ne_true
    rw [if_neg a']
    exact congrArg some e
theorem ObjM.look {h : Heap} {x dx C : Addr} {mA : Str → Option Value} (I : ObjM h x dx C mA) : ∃ od, PySem.W.InstAt h x (PySem.W.instObj C dx) C (some od) ∧ ∀ name, PySem.W.lookIn name od = some (mA name) :=
  let ⟨od, ho, hl⟩ := lookIn_ns I.ns
  ⟨od, ⟨I.obj, rfl, rfl, ho⟩, hl⟩
section
variable {prog : Program} {w : World} {A : Around} {E : Value → Shared → Prop} {s : Shared} {K : PySem.W.Frag} {x dx C f : Addr} {mA : Str → Option Value} {name : Str} {v : Value}
end
section
variable {P : Program} {w : World} {H H' : Hp} {h h' : Heap} {a C dx : Addr} {fs fs' : List (Str × V)}
theorem ins_get (hok : HOk P w H h) (e : H a = some (.ins C dx fs)) : ∃ mA, ObjM h a dx C mA ∧ (∀ f, RelO (fs.lookup f) (mA f)) ∧ PySem.Within mA (fs.map (·.1)) ∧ fs.length ≤ 1000 ∧ H dx = some (.own a) := by
  obtain ⟨d, z, ne, ob, mA, n, r, q⟩ := (show ObjOk P w H h a (.ins C dx fs) from hok a _ e)
  exact ⟨mA, ⟨ob, n, ne⟩, r, q, z, d⟩
end
structure Cls (K : PySem.W.Frag) (C : Addr) : Prop where
  pg : PySem.W.plainGet K C Str.empty = true
  hd : PySem.W.hasDictIn K C = true
  po : PySem.W.plainOver K C = true
  sa : PySem.W.findIn K (.ref C) "__setattr__" = some (some (.builtin "object.__setattr__"))
theorem Cls.get {K : PySem.W.Frag} {C : Addr} (c : Cls K C) (f : Str) : PySem.W.plainGet K C f = true := c.pg
section
variable {X : Cx} {pins : List (Addr × Obj)} {σ : St} {H : Hp} {s : Shared} {a C dx : Addr} {fs : List (Str × V)} {f : Str} {v : V} {A : Around} {E : Value → Shared → Prop}
end
section
variable {X : Cx} {o e value : Expr} {f : Str} {pos pos' tpos : Pos} {ta tv : TE}
end
section
variable {X : Cx} {pins : List (Addr × Obj)} {σ : St} {H : Hp} {s : Shared} {A : Around} {E : Value → Shared → Prop} {Q : Value → Shared → Prop} {c : Value} {b : Bool}
inductive TyOf (K : PySem.W.Frag) (H : Hp) : V → Value → Prop where
  | non : TyOf K H .non (.type "NoneType")
  | bl (x : Bool) : TyOf K H (.bl x) (.type "bool")
  | int (i : Int) : TyOf K H (.int i) (.type "int")
  | str (x : Str) : TyOf K H (.str x) (.type "str")
  | flt (x : UInt64) : TyOf K H (.flt x) (.type "float")
  | lst {a : Addr} {xs : List V} (e : H a = some (.lst xs)) : TyOf K H (.ref a) (.type "list")
  | frz {a : Addr} {o : Obj} {xs : List V} (e : H a = some (.frz o (.lst xs))) : TyOf K H (.ref a) (.type "list")
  | tup {a : Addr} {xs : List V} (e : H a = some (.tup xs)) : TyOf K H (.ref a) (.type "tuple")
  | dK {a : Addr} {kvs : List (Key × V)} (e : H a = some (.dK kvs)) : TyOf K H (.ref a) (.type "dict")
  | dT {a : Addr} {kvs : List (List Key × V)} (e : H a = some (.dT kvs)) : TyOf K H (.ref a) (.type "dict")
  | ins {a C dx : Addr} {fs : List (Str × V)} (e : H a = some (.ins C dx fs)) (cl : Cls K C) (ha : PySem.W.findIn K (.ref C) "__class__" = some (some (.builtin "object.__class__")))
      (hn : PySem.W.specialIn K (.builtin "object.__class__") "__get__" = some (some (.builtin "getset_descriptor.__get__"))) (htk : PySem.W.takesIn K (.builtin "object.__class__") = some true)
      (hm : PySem.W.mroIn K C (.type "object") = some true) : TyOf K H (.ref a) (.ref C)
theorem isinst_ok {x : V} {u t : Value} (I : Inv X pins σ H s) (rx : RelV x u) (ty : TyOf X.K H x t) (e : PySem.W.kitOne X.K t c = some b) (h : ∀ tk, Q (.bool b) { s with toks := tk }) :
    wpAny (model X.prog X.w) A (call (.builtin "isinstance") [u, c]) Q E s := by
  cases ty with
  | non => cases (show u = Value.none from rx); exact PySem.W.kia_one PySem.W.kitx_none I.kIn True.intro e (fun z => nomatch z) h
  | bl y => cases (show u = Value.bool y from rx); exact PySem.W.kia_one PySem.W.kitx_bool I.kIn True.intro e (fun z => nomatch z) h
  | int i => obtain ⟨t, q⟩ := (show ∃ t, u = Value.int i t from rx); cases q; exact PySem.W.kia_one PySem.W.kitx_int I.kIn True.intro e (fun z => nomatch z) h
  | str y => obtain ⟨t, q⟩ := (show ∃ t, u = Value.str y t from rx); cases q; exact PySem.W.kia_one PySem.W.kitx_str I.kIn True.intro e (fun z => nomatch z) h
  | flt y => obtain ⟨t, q⟩ := (show ∃ t, u = Value.float y t from rx); cases q; exact PySem.W.kia_one PySem.W.kitx_float I.kIn True.intro e (fun z => nomatch z) h
  | @lst a xs ea =>
    cases (show u = Value.ref a from rx)
    obtain ⟨_, _, n, _, h1⟩ := (show ObjOk X.prog X.w H s.heap a (.lst xs) from I.hok a _ ea)
    exact PySem.W.kia_one PySem.W.kitx_list I.kIn ⟨_, h1, rfl⟩ e (fun z => nomatch z) h
  | @frz a ob xs ea =>
    cases (show u = Value.ref a from rx)
    obtain ⟨_, _, _, n, _, h1⟩ := (show ObjOk X.prog X.w H s.heap a (.frz ob (.lst xs)) from I.hok a _ ea)
    exact PySem.W.kia_one PySem.W.kitx_list I.kIn ⟨_, h1, rfl⟩ e (fun z => nomatch z) h
  | @tup a xs ea =>
    cases (show u = Value.ref a from rx)
    obtain ⟨_, _, _, p⟩ := (show ObjOk X.prog X.w H s.heap a (.tup xs) from I.hok a _ ea)
    obtain ⟨o, h1, h2, _⟩ := p
    exact PySem.W.kia_one PySem.W.kitx_tuple I.kIn ⟨o, h1, h2⟩ e (fun z => nomatch z) h
  | @dK a kvs ea =>
    cases (show u = Value.ref a from rx)
    obtain ⟨_, _, vs, _, p⟩ := (show ObjOk X.prog X.w H s.heap a (.dK kvs) from I.hok a _ ea)
    obtain ⟨o, es, ep, h1, h2, _⟩ := p
    exact PySem.W.kia_one PySem.W.kitx_dict I.kIn ⟨o, h1, h2.1⟩ e (fun z => nomatch z) h
  | @dT a kvs ea =>
    cases (show u = Value.ref a from rx)
    obtain ⟨_, _, xs, _, o, es, ep, h1, h2, _⟩ := (show ObjOk X.prog X.w H s.heap a (.dT kvs) from I.hok a _ ea)
    exact PySem.W.kia_one PySem.W.kitx_dict I.kIn ⟨o, h1, h2.1⟩ e (fun z => nomatch z) h
  | @ins a C dx fs ea cl ha hn htk hm =>
    cases (show u = Value.ref a from rx)
    obtain ⟨mA, O, _⟩ := ins_get I.hok ea
    obtain ⟨od, J, _⟩ := O.look
    exact PySem.W.kia_one (PySem.W.kitx_own (cl.get _) cl.hd ha hn htk hm) I.kIn J e (fun z => nomatch z) h
end
end L2
namespace L2
open PySem PySem.Spec PyProof.Rows
structure Room (k : Nat) (A : Around) : Prop where
  hd : A.handled = none
  dp : A.depth + 3 * k + 5 < recursionLimit
  un : A.units + 16 * k + 200 < cLine
theorem Room.mono {j k : Nat} {A : Around} (r : Room k A) (h : j ≤ k) : Room j A := ⟨r.hd, by have := r.dp; omega, by have := r.un; omega⟩
theorem Room.deeper {k : Nat} {A : Around} (r : Room (k + 1) A) (env : Env) : Room k (A.deeper env) :=
  ⟨r.hd, by have := r.dp; show A.depth + 1 + 3 * k + 5 < _; omega, by have := r.un; show A.units + 3 + 16 * k + 200 < _; omega⟩
theorem Room.depth {k : Nat} {A : Around} (r : Room k A) : A.depth < recursionLimit := by have := r.dp; omega
theorem Room.units {k : Nat} {A : Around} (r : Room k A) : A.units + 64 < cLine := by have := r.un; omega
noncomputable def tNil : TA := fun _ H Q => Q [] H
noncomputable def tCons (ta : TE) (tr : TA) : TA := fun σ H Q => ta σ H fun x H1 => tr σ H1 fun xs H2 => Q (x :: xs) H2
section
variable {X : Cx} {e : Expr} {es : List Expr} {te : TE} {t : TA} {pos : Pos}
theorem pa_nil : PA X [] tNil := fun _ _ _ _ H Q I h => Calls.spliced_nil ⟨[], H, I, .nil, h⟩
theorem pa_cons (ha : PE X e te) (hr : PA X es t) (hs : starEach (e :: es) X.env = (false, eval e X.env) :: starEach es X.env := by rfl) : PA X (e :: es) (tCons te t) := by
  intro pos pins s σ H Q I h
  rw [hs]
  show wpAny _ _ (spliced ((false, eval e X.env) :: backTo pos (starEach es X.env))) _ _ s
  refine Calls.spliced_cons (thn (ha pins s σ H _ I h) fun u s1 ⟨x, H1, I1, r1, q1⟩ => ?_)
  exact thn (hr pos pins s1 σ H1 _ I1 q1) fun us s2 ⟨xs, H2, I2, r2, q2⟩ => ⟨x :: xs, H2, I2, .cons r1 r2, q2⟩
noncomputable def tTup (t : TA) : TE := fun σ H Q => t σ H fun xs H1 => xs.length ≤ sizeLine ∧ ∀ p, H1 p = none → Q (.ref p) (upd H1 p (.tup xs))
noncomputable def tLst (t : TA) : TE := fun σ H Q => t σ H fun xs H1 => xs.length ≤ sizeLine ∧ ∀ p, H1 p = none → Q (.ref p) (upd H1 p (.lst xs))
theorem pe_tup {x1} (h : PA X es t) : PE X (.Tuple es x1 pos) (tTup t) := by
  intro pins s σ H Q I hq
  refine wpAny_Tuple_spliced (thn (h pos pins s σ H _ I hq) fun us s1 ⟨xs, H1, I1, r, z, q⟩ => ⟨by rw [← r.length]; exact z, ?_⟩)
  have hf : H1 s1.heap.objs.size = none := I1.hok.fresh (Nat.le_refl _)
  refine ⟨.ref s1.heap.objs.size, upd H1 s1.heap.objs.size (.tup xs), I1.laid (t' := s1.toks) (fun b u e => Heap.get?_push_of_some _ e) (Nat.le_refl _) ?_, rfl, q _ hf⟩
  exact ⟨z, us, r, ⟨_, Heap.get?_push_size _ rfl, rfl, _, rfl⟩⟩
theorem pe_lst (h : PA X es t) : PE X (.List es pos) (tLst t) := by
  intro pins s σ H Q I hq
  refine wpAny_List_spliced (thn (h pos pins s σ H _ I hq) fun us s1 ⟨xs, H1, I1, r, z, q⟩ => ⟨by rw [← r.length]; exact z, ?_⟩)
  have hf : H1 s1.heap.objs.size = none := I1.hok.fresh (Nat.le_refl _)
  refine ⟨.ref s1.heap.objs.size, upd H1 s1.heap.objs.size (.lst xs), I1.laid (t' := s1.toks) (fun b u e => Heap.get?_push_of_some _ e) (Nat.le_refl _) ?_, rfl, q _ hf⟩
  exact ⟨z, us, 0, r, Heap.get?_push_size _ rfl⟩
end
noncomputable abbrev Sp := List V → Hp → VK → XK → Prop
noncomputable abbrev CXT := List Env → Hp → Shared → XK → Value → Shared → Prop
structure Env0 (P : Program) (w : World) (K : PySem.W.Frag) (mg : Str → Option Value) (base : Heap) (A : Around) (outer : List Env) (s : Shared) (H : Hp) : Prop where
  frames : A.frames = some outer
  mod : Mod K mg base
  bs : ∀ b o, base.get? b = some o → s.heap.get? b = some o ∧ H b = none
  bsz : base.objs.size ≤ s.heap.objs.size
  funs : s.heap.FunFrames base outer
  frf : ∀ b ∈ frs outer, H b = none
  hok : HOk P w H s.heap
  bare : AllBare s.gens
noncomputable def CE (outer : List Env) (P : Program) (w : World) (H : Hp) (s : Shared) (Q : VK) (u : Value) (s' : Shared) : Prop :=
  ∃ v H', s'.os = s.os ∧ AllBare s'.gens ∧ Un (frs outer) [] H H' s.heap s'.heap ∧ HOk P w H' s'.heap ∧ RelV v u ∧ Q v H'
noncomputable def CR (CX : CXT) (outer : List Env) (P : Program) (w : World) (H : Hp) (s : Shared) (Q : VK) (E : XK) (r : Result) (s' : Shared) : Prop :=
  match r with
  | .ok (.ret u) => CE outer P w H s Q u s'
  | .ok _ => False
  | .error e => CX outer H s E e s'
structure FnOk (P : Program) (w : World) (K : PySem.W.Frag) (mg : Str → Option Value) (base : Heap) (CX : CXT) (k : Nat) (f : Addr) (fd : FuncData) (ps : List Str) (sp : Sp) : Prop where
  len : ∀ vs H Q E, sp vs H Q E → vs.length = ps.length
  run : ∀ (A : Around) (outer : List Env) (s : Shared) (H : Hp) (args : Args) (us : List Value) (vs : List V) (Q : VK) (E : XK), Room k A → Env0 P w K mg base A outer s H → BindsTo s fd args (ps.zip us) → Vals vs us → sp vs H Q E →
    codeAny (model P w) A (.call (.ref f) args) (CR CX outer P w H s Q E) s
section
variable {X : Cx} {pins : List (Addr × Obj)} {σ : St} {H : Hp} {s s' : Shared}
theorem Inv.env0 (I : Inv X pins σ H s) : Env0 X.prog X.w X.K X.mg X.base X.A X.stack s H :=
  ⟨I.ok.frames, I.ok.mod, I.bs, Nat.le_trans I.ok.bsz I.sz, I.stack, I.stkFree, I.hok, I.bare⟩
theorem Inv.after {Q : VK} {u : Value} (I : Inv X pins σ H s) (h : CE X.stack X.prog X.w H s Q u s') : EP X pins σ Q u s' := by
  obtain ⟨v, H', os, bare, un, hok, r, q⟩ := h
  obtain ⟨hh, g, d, t, os'⟩ := s'
  obtain rfl : os' = s.os := os
  exact ⟨v, H', I.call (h' := hh) (g' := g) (d' := d) (t' := t) (ch := []) un hok bare (fun b z => absurd z (by simp)), r, q⟩
end
noncomputable def tCall (sp : Sp) (dvs : List V) (E : XK) (t : TA) : TE := fun σ H Q => t σ H fun vs H1 => sp (vs ++ dvs) H1 Q E
noncomputable def Binds (K : PySem.W.Frag) (fd : FuncData) (ps : List Str) (ds : List Value) : Prop :=
  ∀ (s : Shared) (us : List Value), K.In s.heap → (us ++ ds).length = ps.length → BindsTo s fd ⟨us, []⟩ (ps.zip (us ++ ds))
theorem Binds.all {K : PySem.W.Frag} {fd : FuncData} {ps : List Str} (h : ∀ us : List Value, us.length = ps.length → bindArgs fd ⟨us, []⟩ = pure (ps.zip us)) : Binds K fd ps [] := fun s us _ hl => by
  rw [List.append_nil] at hl ⊢
  exact .of_eq (h us hl)
noncomputable def Passes (CX : CXT) (X : Cx) (E : XK) : Prop := ∀ (pins : List (Addr × Obj)) (σ : St) (H : Hp) (s : Shared) (e : Value) (s' : Shared), Inv X pins σ H s → CX X.stack H s E e s' → X.xe e s'
section
variable {X : Cx} {CX : CXT} {k : Nat} {f C : Addr} {fd : FuncData} {ps : List Str} {sp : Sp} {dvs : List V} {ds : List Value} {E : XK} {x m : Str} {p pos apos : Pos} {e o : Expr} {es : List Expr} {ta : TE} {t : TA}
theorem run_fn {pins : List (Addr × Obj)} {σ : St} {H : Hp} {s : Shared} {Q : VK} {us : List Value} {vs : List V} (F : FnOk X.prog X.w X.K X.mg X.base CX k f fd ps sp) (hr : Room k X.A) (hb : Binds X.K fd ps ds) (hd : Vals dvs ds) (hx : Passes CX X E)
    (I : Inv X pins σ H s) (r : Vals vs us) (h : sp (vs ++ dvs) H Q E) : wpAny (model X.prog X.w) X.A (call (.ref f) us) (EP X pins σ Q) X.xe s := by
  have r2 : Vals (vs ++ dvs) (us ++ ds) := r.append hd
  have hl : (us ++ ds).length = ps.length := by rw [← r2.length]; exact F.len _ _ _ _ h
  refine wpAny_call (codeAny_mono (F.run X.A X.stack s H ⟨us, []⟩ (us ++ ds) (vs ++ dvs) Q E hr I.env0 (hb s us I.kIn hl) r2 h) fun r s' hq => ?_)
  cases r with
  | error e => exact hx pins σ H s e s' I hq
  | ok fl =>
    cases fl with
    | ret u => exact I.after hq
    | next => exact False.elim hq
    | brk => exact False.elim hq
    | cont => exact False.elim hq
theorem pe_call (F : FnOk X.prog X.w X.K X.mg X.base CX k f fd ps sp) (hr : Room k X.A) (hg : Gl X x) (hm : X.mg x = some (.ref f)) (hk : PySem.W.keepIn X.K (.ref f) = true) (hb : Binds X.K fd ps ds) (hd : Vals dvs ds) (hx : Passes CX X E)
    (ha : PA X (e :: es) t) (hdb : (x == ("__debug__" : Str)) = false := by decide) (he : starEach (e :: es) X.env = (false, eval e X.env) :: starEach es X.env := by rfl) (hpl : (backTo pos (starEach es X.env)).any (·.1) = false := by rfl) :
    PE X (.Call (.Name x p) (e :: es) [] pos) (tCall sp dvs E t) := by
  intro pins s σ H Q I h
  refine wpAny_Call_Name_kw (ld_glob I hg hm ?_ hdb)
  refine PySem.W.callWith_K (h₀ := X.base) I.ok.mod.kin hk (thn (ha pos pins s σ H _ I h) fun us s1 ⟨vs, H1, I1, r, q⟩ => ⟨I1.kIn, ?_⟩) he hpl
  exact run_fn F hr hb hd hx I1 r q
end
section
variable {X : Cx} {CX : CXT} {k : Nat} {f C : Addr} {fd : FuncData} {ps ks : List Str} {sp : Sp} {E : XK} {x m : Str} {p pos apos kpos : Pos} {e o : Expr} {es : List Expr} {kws : List Keyword} {te ta : TE} {t tk : TA} {nm : Option Str}
variable {g : List Value → List Value → List Value} {gV : List V → List V → List V}
end
structure FnScope (N P : List Str) (sc : Scope) : Prop where
  kind : sc.kind = .function
  co : sc.isCoroutine = false
  gen : sc.isGenerator = false
  nd : N.Nodup
  pre : N.take P.length = P
  par : ∀ x ∈ P, sc.names.lookup x = some .local ∨ sc.names.lookup x = some .cell
  nofree : ∀ y ∈ sc.names, y.2 ≠ .free
theorem bindL_out {kindOf : Str → Option NameKind} {x : Str} : ∀ {binds : List (Str × Value)} {m : Str → Option Value}, (∀ v, (x, v) ∉ binds) → bindL kindOf binds m x = m x
  | [], _, _ => rfl
  | (n, v) :: r, m, h => by
    unfold bindL
    rw [bindL_out fun w hw => h w (List.mem_cons_of_mem _ hw)]
    split
    · have : x ≠ n := by rintro rfl; exact h v List.mem_cons_self
      simp [this]
    · rfl
theorem bindC_out {kindOf : Str → Option NameKind} {x : Str} : ∀ {binds : List (Str × Value)} {m : Str → Option Value}, (∀ v, (x, v) ∉ binds) → bindC kindOf binds m x = m x
  | [], _, _ => rfl
  | (n, v) :: r, m, h => by
    unfold bindC
    rw [bindC_out fun w hw => h w (List.mem_cons_of_mem _ hw)]
    split
    · rfl
    · have : x ≠ n := by rintro rfl; exact h v List.mem_cons_self
      simp [this]
theorem bindL_get {kindOf : Str → Option NameKind} {x : Str} {v : Value} : ∀ {P : List Str} {vs : List Value} {i : Nat} {m : Str → Option Value}, P.Nodup → P[i]? = some x → vs[i]? = some v → kindOf x = some .local →
    bindL kindOf (P.zip vs) m x = some v
  | [], _, _, _, _, h, _, _ => by simp at h
  | _ :: _, [], _, _, _, _, h, _ => by simp at h
  | p :: P, w :: vs, 0, m, nd, h1, h2, hk => by
    simp at h1 h2; subst h1; subst h2
    show bindL kindOf ((p, w) :: P.zip vs) m p = _
    unfold bindL
    rw [bindL_out fun v hv => (List.nodup_cons.mp nd).1 (List.of_mem_zip hv).1, if_pos hk]
    simp
  | p :: P, w :: vs, i + 1, m, nd, h1, h2, hk => by
    show bindL kindOf ((p, w) :: P.zip vs) m x = _
    unfold bindL
    exact bindL_get (i := i) (List.nodup_cons.mp nd).2 (by simpa using h1) (by simpa using h2) hk
theorem bindC_get {kindOf : Str → Option NameKind} {x : Str} {v : Value} : ∀ {P : List Str} {vs : List Value} {i : Nat} {m : Str → Option Value}, P.Nodup → P[i]? = some x → vs[i]? = some v → kindOf x ≠ some .local →
    bindC kindOf (P.zip vs) m x = some v
  | [], _, _, _, _, h, _, _ => by simp at h
  | _ :: _, [], _, _, _, _, h, _ => by simp at h
  | p :: P, w :: vs, 0, m, nd, h1, h2, hk => by
    simp at h1 h2; subst h1; subst h2
    show bindC kindOf ((p, w) :: P.zip vs) m p = _
    unfold bindC
    rw [bindC_out fun v hv => (List.nodup_cons.mp nd).1 (List.of_mem_zip hv).1, if_neg hk]
    simp
  | p :: P, w :: vs, i + 1, m, nd, h1, h2, hk => by
    show bindC kindOf ((p, w) :: P.zip vs) m x = _
    unfold bindC
    exact bindC_get (i := i) (List.nodup_cons.mp nd).2 (by simpa using h1) (by simpa using h2) hk
noncomputable def start (N : List Str) (vs : List V) : St := vs.map some ++ List.replicate (N.length - vs.length) none
noncomputable def cxOf (CX : CXT) (P : Program) (w : World) (K : PySem.W.Frag) (mg : Str → Option Value) (base : Heap) (N : List Str) (qual : Str) (scope : Scope) (f : Addr) (cd : Value) (A : Around) (outer : List Env) (s : Shared) (H : Hp) (E : XK) : Cx where
  prog := P
  w := w
  K := K
  mg := mg
  base := base
  A := A.deeper (envOfC qual scope s.heap.objs.size f cd)
  N := N
  s₀ := s
  H₀ := H
  env := envOfC qual scope s.heap.objs.size f cd
  outer := outer
  stack := envOfC qual scope s.heap.objs.size f cd :: outer
  ex := []
  calm := true
  fn := fun _ => true
  pn := []
  xe := fun e s' => wpAny (model P w) (A.deeper (envOfC qual scope s.heap.objs.size f cd)) (leaving (envOfC qual scope s.heap.objs.size f cd) e) (fun _ s'' => CX outer H s E e s'') (fun e' s'' => CX outer H s E e' s'') s'
theorem cell_has {sc : Scope} {n : Nat} {x : Str} (h : sc.names.lookup x = some .cell) : ∃ c, (cellsFrom n sc.names []).lookup x = some c := by
  have q := PySem.W.cellsFrom_some sc.names n [] (.inl h)
  exact Option.isSome_iff_exists.mp q
theorem inv_start {CX : CXT} {P : Program} {w : World} {K : PySem.W.Frag} {mg : Str → Option Value} {base : Heap} {N ps : List Str} {qual : Str} {scope : Scope} {f : Addr} {cd : Value} {A : Around} {outer : List Env} {s s1 : Shared} {H : Hp} {E : XK} {us : List Value} {vs : List V}
    (S : FnScope N ps scope) (hd : A.handled = none) (e0 : Env0 P w K mg base A outer s H) (hl : vs.length = ps.length) (r : Vals vs us)
    (x : InCallC s s.heap.objs.size (bindL (envOfC qual scope s.heap.objs.size f cd).kindOf (ps.zip us) fun _ => none) (cellsFrom (s.heap.objs.size + 1) scope.names []) (bindC (envOfC qual scope s.heap.objs.size f cd).kindOf (ps.zip us) fun _ => none) s1) :
    Inv (cxOf CX P w K mg base N qual scope f cd A outer s H E) [] (start N vs) H s1 := by
  have hpl : ps.length ≤ N.length := by have := congrArg List.length S.pre; rw [List.length_take] at this; omega
  obtain ⟨h1, tk, rfl, hk⟩ := x.done
  have noA : ∀ b : Addr, b ∉ (cxOf CX P w K mg base N qual scope f cd A outer s H E).ex := fun b z => absurd (show b ∈ ([] : List Addr) from z) (by simp)
  refine ⟨⟨e0.mod, S.kind, rfl, rfl, Nat.le_refl _, fun y z c h1 h2 => ?_, fun y hy => ?_, fun y c _ h => ?_, fun _ => hd, Around.frames_deeper e0.frames, .inr ⟨rfl, rfl⟩, fun b z => absurd z (noA b), e0.bs, e0.bsz, fun b _ _ => noA b, fun b z => absurd z (noA b), e0.funs, e0.frf⟩,
    rfl, e0.bare, Un.kept hk, ⟨_, x.toInCall.ns, fun i y v h1 h2 h3 => ?_⟩, fun y c h => ⟨_, x.cell y c h⟩, e0.hok.fresh (Nat.le_refl _), fun y c h => ?_, fun p hp => absurd (show p ∈ ([] : List (Addr × Obj)) from hp) (by simp), e0.hok.kept hk, ?_⟩
  · exact name_of_addr x.apart (PySem.mem_of_lookup h1) (PySem.mem_of_lookup h2)
  · have hy : scope.names.lookup y = some .cell ∨ scope.names.lookup y = some .free := hy
    rcases hy with hy | hy
    · exact cell_has hy
    · exact absurd rfl (S.nofree _ (PySem.mem_of_lookup hy))
  · exact Nat.le_of_lt (x.above y c (PySem.mem_of_lookup h))
  · have hi : i < vs.length := by
      unfold start at h2
      by_cases hi : i < vs.length
      · exact hi
      · rw [List.getElem?_append_right (by simpa using hi)] at h2
        rw [List.getElem?_replicate] at h2
        split at h2 <;> cases h2
    have ha : vs[i]? = some v := by
      unfold start at h2
      rw [List.getElem?_append_left (by simpa using hi), List.getElem?_map] at h2
      cases e : vs[i]? with
      | none => rw [e] at h2; cases h2
      | some a => rw [e] at h2; cases h2; rfl
    obtain ⟨u, hu, rv⟩ := r.get ha
    have hp : ps[i]? = some y := by
      rw [← S.pre, List.getElem?_take_of_lt (by omega)]; exact h1
    have ndP : ps.Nodup := by rw [← S.pre]; exact S.nd.sublist (List.take_sublist _ _)
    refine ⟨u, rv, ?_⟩
    rcases S.par y (List.mem_of_getElem? hp) with k | k
    · exact .inl ⟨k, bindL_get ndP hp hu k⟩
    · obtain ⟨c, e⟩ := cell_has (n := s.heap.objs.size + 1) k
      refine .inr ⟨.inl k, c, e, ?_⟩
      have q := x.cell y c e
      rw [bindC_get ndP hp hu (by show scope.names.lookup y ≠ _; rw [k]; decide)] at q
      exact q
  · exact e0.hok.fresh (Nat.le_of_lt (x.above y c (PySem.mem_of_lookup h)))
  · unfold start
    show _ = N.length
    rw [List.length_append, List.length_map, List.length_replicate]
    omega
theorem fn_of {CX : CXT} {P : Program} {w : World} {K : PySem.W.Frag} {mg : Str → Option Value} {base : Heap} {k : Nat} {f : Addr} {name qual : Str} {params : Arguments} {body : List Stmt} {scope : Scope} {dV kV doc pm cdv ct oc : Value} {an od : Option Addr}
    {osl : Array (Option Value)} {N ps : List Str} {sp : Sp} (lk : K.lookup f = some ⟨oc, od, .func (PySem.W.fnOf name qual params body scope dV kV doc pm an cdv ct), osl⟩) (hcd : PySem.W.codeIn K cdv qual = true) (S : FnScope N ps scope)
    (len : ∀ vs H Q E, sp vs H Q E → vs.length = ps.length)
    (hbody : ∀ (A : Around) (outer : List Env) (s : Shared) (H : Hp) (vs : List V) (Q : VK) (E : XK), Room k (A.deeper (envOfC qual scope s.heap.objs.size f cdv)) → sp vs H Q E →
      ∃ t, PSs (cxOf CX P w K mg base N qual scope f cdv A outer s H E) body t ∧ t { nx := fun _ H' => Q .non H', rt := Q } (start N vs) H) :
    FnOk P w K mg base CX (k + 1) f (PySem.W.fnOf name qual params body scope dV kV doc pm an cdv ct) ps sp := by
  refine ⟨len, fun A outer s H args us vs Q E hr e0 hb r hsp => ?_⟩
  have hl := len _ _ _ _ hsp
  have KX : K.In s.heap := e0.mod.kin.keeps fun b o e => (e0.bs b o e).1
  have lim : s.heap.NoLimit := e0.mod.nolimit.keeps fun b o e => (e0.bs b o e).1
  have hkind : ∀ y ∈ ps.zip us, scope.names.lookup y.1 = some .local ∨ (scope.names.lookup y.1 = some .cell ∧ ((cellsFrom (s.heap.objs.size + 1) scope.names []).lookup y.1).isSome = true) := fun ⟨n, v⟩ hy => by
    rcases S.par n (List.of_mem_zip hy).1 with q | q
    · exact .inl q
    · exact .inr ⟨q, PySem.W.cellsFrom_some _ _ _ (.inl q)⟩
  refine codeAny_call_function hr.depth (KX _ _ lk) rfl S.co S.gen rfl (PySem.W.codeRec_of KX hcd) (hb _ _ _ _ ?_)
  refine wpAny_newFunctionEnv_cells S.kind hkind fun env he s1 x => ?_
  subst he
  refine ⟨lim.keeps x.toInCall.keep, codeAny_func ?_⟩
  obtain ⟨t, ht, hq⟩ := hbody A outer s H vs Q E (hr.deeper _) hsp
  have I : Inv (cxOf CX P w K mg base N qual scope f cdv A outer s H E) [] (start N vs) H s1 := inv_start S hr.hd e0 hl r x
  refine wpAny_mono (ht [] s1 (start N vs) H _ I hq) (fun fl s' hs => ?_) fun e s' hs => hs
  have fin : ∀ {σ' : St} {H' : Hp} {v : V} {u : Value}, Inv (cxOf CX P w K mg base N qual scope f cdv A outer s H E) [] σ' H' s' → RelV v u → Q v H' → CE outer P w H s Q u s' :=
    fun {σ' H' v u} J rv q => ⟨v, H', J.os, J.bare, J.base, J.hok, rv, q⟩
  cases fl with
  | ret u =>
    obtain ⟨v, σ', H', J, rv, q⟩ := hs
    exact fin J rv q
  | next =>
    obtain ⟨σ', H', J, q⟩ := hs
    exact fin (v := V.non) (u := Value.none) J rfl q
  | brk =>
    obtain ⟨_, _, _, q⟩ := hs
    exact False.elim q
  | cont =>
    obtain ⟨_, _, _, q⟩ := hs
    exact False.elim q
end L2
namespace L2
open PySem PySem.Spec PyProof.Rows
section
variable {X : Cx} {x : Str} {p pos : Pos} {e : Expr} {es : List Expr} {t : TA} {id T : String} {r : List V → Hp → VK → Prop}
noncomputable def tCB (r : List V → Hp → VK → Prop) (t : TA) : TE := fun σ H Q => t σ H fun vs H1 => r vs H1 Q
theorem pe_callB (hc : CallR X (.builtin id) r) (hg : Gl X x) (hm : X.mg x = none) (hv : bootBuiltins x = some (.builtin id)) (ha : PA X (e :: es) t) (hn : x ≠ "__name__" := by decide) (hdb : (x == ("__debug__" : Str)) = false := by decide)
    (he : starEach (e :: es) X.env = (false, eval e X.env) :: starEach es X.env := by rfl) (hpl : (backTo pos (starEach es X.env)).any (·.1) = false := by rfl) : PE X (.Call (.Name x p) (e :: es) [] pos) (tCB r t) := by
  intro pins s σ H Q I h
  refine wpAny_Call_Name_kw (ld_blt I hg hm hv ?_ hn hdb)
  exact PyProof.Rows.callWith_builtin1 (thn (ha pos pins s σ H _ I h) fun us s1 ⟨vs, H1, I1, r1, q1⟩ => hc pins s1 σ H1 vs us Q I1 r1 q1) he hpl
theorem pe_callTy (hc : CallR X (.type T) r) (hg : Gl X x) (hm : X.mg x = none) (hv : bootBuiltins x = some (.type T)) (ha : PA X (e :: es) t) (hn : x ≠ "__name__" := by decide) (hdb : (x == ("__debug__" : Str)) = false := by decide)
    (he : starEach (e :: es) X.env = (false, eval e X.env) :: starEach es X.env := by rfl) (hpl : (backTo pos (starEach es X.env)).any (·.1) = false := by rfl) : PE X (.Call (.Name x p) (e :: es) [] pos) (tCB r t) := by
  intro pins s σ H Q I h
  refine wpAny_Call_Name_kw (ld_blt I hg hm hv ?_ hn hdb)
  exact PyProof.Rows.callWith_type1 (thn (ha pos pins s σ H _ I h) fun us s1 ⟨vs, H1, I1, r1, q1⟩ => hc pins s1 σ H1 vs us Q I1 r1 q1) he hpl
end
end L2
namespace HT
open PySem PyProof.Rows
section
open PySem.SeqAt
open PySem.AutoSeq1 (wpAny_loadPart')
open PySem.MeetsSeq PySem.MeetsSeq2 PySem.MeetsSeq3
end
section
variable {prog : Program} {w : World} {A : Around} {E : Value → Shared → Prop} {s : Shared}
theorem cat_tup {t b : Addr} {vs ws : List Value} {Q : Value → Shared → Prop} (ht : IsTup s.heap t vs.toArray) (hb : IsTup s.heap b ws.toArray) (hv : vs ≠ [])
    (h1 : ws = [] → Q (.ref t) s) (h2 : ws ≠ [] → Q (.ref s.heap.objs.size) { s with heap := s.heap.push { cls := .type "tuple", data := .seq (vs ++ ws).toArray } })
    (hsz : vs.length + ws.length ≤ sizeLine) : wpAny (model prog w) A (binaryOp .Add (.ref t) (.ref b)) Q E s := by
  obtain ⟨⟨cls, dd, data, sl⟩, ho, hc, n, hd⟩ := id ht
  obtain ⟨⟨cls2, dd2, data2, sl2⟩, ho2, hc2, n2, hd2⟩ := id hb
  simp only at hc hd hc2 hd2
  subst hc hd hc2 hd2
  have e : vs.toArray ++ ws.toArray = (vs ++ ws).toArray := by simp
  by_cases hw : ws = []
  · exact concat_meets ⟨_, ho, rfl⟩ ⟨_, ho2, rfl⟩ noFill_tuple_add seq_tuple_add PySem.F.slot_tuple_add PySem.F.entry_tuple_add (PySem.F.args_tuple_add_2 _ _)
      (tuple_addW1 t b vs.toArray ws.toArray n n2 dd dd2 sl sl2 (by simpa using hv) (by simp [hw])) ⟨ho, ho2, h1 hw⟩
  · refine concat_meets ⟨_, ho, rfl⟩ ⟨_, ho2, rfl⟩ noFill_tuple_add seq_tuple_add PySem.F.slot_tuple_add PySem.F.entry_tuple_add (PySem.F.args_tuple_add_2 _ _)
      (tuple_addW2 t b vs.toArray ws.toArray n n2 dd dd2 sl sl2 (by simpa using hv) (by simpa using hw) (by rw [List.size_toArray, List.size_toArray]; exact hsz)) ⟨ho, ho2, ?_⟩
    rw [e]
    exact h2 hw
noncomputable def sIx (n d : Nat) : Option Int → Nat
  | none => d
  | some v => if v < 0 then (v + (n : Int)).toNat else min v.toNat n
theorem sIx_nat (n d k : Nat) : sIx n d (some (k : Int)) = min k n := by
  show (if (k : Int) < 0 then ((k : Int) + (n : Int)).toNat else min (k : Int).toNat n) = min k n
  rw [if_neg (by omega), Int.toNat_natCast]
theorem sIx_le (n d : Nat) (hd : d ≤ n) (o : Option Int) : sIx n d o ≤ n := by
  cases o with
  | none => exact hd
  | some v =>
    show (if v < 0 then (v + (n : Int)).toNat else min v.toNat n) ≤ n
    by_cases hv : v < 0
    · rw [if_pos hv]; omega
    · rw [if_neg hv]; exact Nat.min_le_right _ _
theorem clip_eq (v : Int) (n d : Nat) : (if v < 0 then max (v + (n : Int)) 0 else min v (n : Int)) = ((sIx n d (some v) : Nat) : Int) := by
  show (if v < 0 then max (v + (n : Int)) 0 else min v (n : Int)) = (((if v < 0 then (v + (n : Int)).toNat else min v.toNat n) : Nat) : Int)
  by_cases hv : v < 0
  · simp only [if_pos hv]; omega
  · simp only [if_neg hv]; omega
theorem adjust_gen (lo hi : Option Int) (n : Nat) : Builtin.Slice.sliceAdjust lo hi 1 (n : Int) = (((sIx n 0 lo : Nat) : Int), ((sIx n n hi : Nat) : Int)) := by
  have h1 : ¬ ((1 : Int) < 0) := by omega
  unfold Builtin.Slice.sliceAdjust
  simp only [h1, if_false]
  refine Prod.ext ?_ ?_
  · cases lo with
    | none => rfl
    | some v => exact clip_eq v n 0
  · cases hi with
    | none => rfl
    | some v => exact clip_eq v n n
theorem places_gen (i j : Nat) : Builtin.Slice.slicePlaces (i : Int) (j : Int) 1 = j - i := by
  unfold Builtin.Slice.slicePlaces
  have h1 : (1 : Int) > 0 := by omega
  simp only [h1, if_true, Int.ediv_one]
  split <;> omega
theorem slicePart_ {v : Value} {o : Option Int} {Q : Option Int → Shared → Prop} (p : IsPart v o) (h : Q o s) : wpAny (model prog w) A (Builtin.Slice.slicePartIndex v) Q E s := by
  cases p with
  | none => exact slicePart_none h
  | int i t => exact slicePart_int h
theorem sliceApplied_gen {sl : Addr} {vl vu : Value} {lo hi : Option Int} {n : Nat} {Q : Int × Int × Nat → Shared → Prop} (hs : s.heap.IsSliceOf sl vl vu .none) (pl : IsPart vl lo) (pu : IsPart vu hi)
    (h : Q (((sIx n 0 lo : Nat) : Int), 1, sIx n n hi - sIx n 0 lo) s) : wpAny (model prog w) A (Builtin.Slice.sliceApplied (.ref sl) (pure (n : Int))) Q E s := by
  obtain ⟨os, hos, hcs, hds⟩ := id hs
  unfold Builtin.Slice.sliceApplied Builtin.Slice.sliceFields
  refine wpAny_bind (wpAny_bind (wpAny_field hos hds (x := vl) rfl (wpAny_bind (wpAny_field hos hds (x := vu) rfl (wpAny_bind (wpAny_field hos hds (x := .none) rfl (wpAny_pure ?_)))))))
  refine wpAny_bind (slicePart_none ?_)
  show wpAny _ _ (if ((1 : Int) == 0) = true then _ else _) _ _ s
  rw [if_neg (by decide)]
  refine wpAny_bind (slicePart_ pl (wpAny_bind (slicePart_ pu (wpAny_bind (wpAny_pure ?_)))))
  show wpAny _ _ (match Builtin.Slice.sliceAdjust lo hi 1 (n : Int) with | (lo, hi) => pure (lo, (1 : Int), Builtin.Slice.slicePlaces lo hi 1)) _ _ s
  rw [adjust_gen lo hi n]
  show wpAny _ _ (pure (((sIx n 0 lo : Nat) : Int), (1 : Int), Builtin.Slice.slicePlaces ((sIx n 0 lo : Nat) : Int) ((sIx n n hi : Nat) : Int) 1)) _ _ s
  rw [places_gen]
  exact wpAny_pure h
theorem pick_gen (xs : Array Value) (i k : Nat) : ((List.range k).filterMap fun (m : Nat) => xs[((i : Int) + (m : Int) * 1).toNat]?).toArray = ((xs.toList.drop i).take k).toArray := by
  have e : (fun (m : Nat) => xs[((i : Int) + (m : Int) * 1).toNat]?) = fun m => xs[i + m]? := by
    funext m
    have : ((i : Int) + (m : Int) * 1).toNat = i + m := by omega
    rw [this]
  rw [e]
  have := pick_run xs i k
  rw [List.filterMap_map] at this
  have e2 : ((fun x => xs[x]?) ∘ fun x => i + x) = fun m => xs[i + m]? := rfl
  rw [e2] at this
  rw [this]
theorem getItem_tuple_cut {t sl : Addr} {items : Array Value} {vl vu : Value} {lo hi : Option Int} {Q : Value → Shared → Prop} (ht : IsTup s.heap t items) (hs : s.heap.IsSliceOf sl vl vu .none) (pl : IsPart vl lo) (pu : IsPart vu hi)
    (hw : ¬ (sIx items.size 0 lo = 0 ∧ sIx items.size items.size hi = items.size))
    (h : Q (.ref s.heap.objs.size) { s with heap := s.heap.push { cls := .type "tuple", data := .seq ((items.toList.drop (sIx items.size 0 lo)).take (sIx items.size items.size hi - sIx items.size 0 lo)).toArray } })
    (hsz : items.size ≤ sizeLine) : wpAny (model prog w) A (getItem (.ref t) (.ref sl)) Q E s := by
  have htake : sizeOk (.seq ((items.toList.drop (sIx items.size 0 lo)).take (sIx items.size items.size hi - sIx items.size 0 lo)).toArray) := by
    show ((items.toList.drop (sIx items.size 0 lo)).take (sIx items.size items.size hi - sIx items.size 0 lo)).toArray.size ≤ sizeLine
    rw [List.size_toArray, List.length_take, List.length_drop, Array.length_toList]
    omega
  have hj : sIx items.size items.size hi ≤ items.size := sIx_le _ _ (Nat.le_refl _) hi
  obtain ⟨os, hos, hcs, hds⟩ := id hs
  have hTs : s.TypeIs (.ref sl) "slice" := ⟨os, hos, hcs⟩
  unfold getItem
  try with_reducible refine wpAny_holding ?_
  first | refine wpAny_bind (wpAny_pure ?_) | skip
  refine wpAny_bind (wpAny_sequenceKey ht.typeIs (by decide) ?_)
  refine wpAny_bind (wpAny_callSpecial?_slot (name := Str.ofString "__getitem__") ht.typeIs PyProof.Rows.slot_tuple_getitem
    (wpAny_call_entry PyProof.Rows.slot_tuple_getitem ht.typeIs entry_tuple_getitem ?_ (args_tuple_getitem _ _)))
  show wpAny _ _ (Builtin.Tuple.tupleItemsOf (.ref t) >>= _) _ _ s
  refine wpAny_bind (tupleItemsOf_ ht ?_)
  refine wpAny_bind (wpAny_typeOf hTs ?_)
  rw [if_pos (by decide)]
  refine wpAny_bind (sliceApplied_gen hs pl pu ?_)
  have hno : ¬ ((((sIx items.size 0 lo : Nat) : Int) == 0 && (1 : Int) == 1 && (sIx items.size items.size hi - sIx items.size 0 lo) == items.size) = true) := by
    intro q
    rw [Bool.and_eq_true, Bool.and_eq_true] at q
    have q1 : ((sIx items.size 0 lo : Nat) : Int) = 0 := eq_of_beq q.1.1
    have q2 : sIx items.size items.size hi - sIx items.size 0 lo = items.size := eq_of_beq q.2
    exact hw ⟨by omega, by omega⟩
  show wpAny _ _ (if (((sIx items.size 0 lo : Nat) : Int) == 0 && (1 : Int) == 1 && (sIx items.size items.size hi - sIx items.size 0 lo) == items.size) = true then _ else _) _ _ s
  rw [if_neg hno, pick_gen]
  first
    | exact wpAny_bind (m := Builtin.Tuple.tupleExact _) (wpAny_newObj_type (wpAny_pure ⟨_, rfl, wpAny_pure h⟩) htake)
    | exact wpAny_bind (m := Builtin.Tuple.tupleExact _) (wpAny_newObj_type (wpAny_bind (wpAny_pure (wpAny_pure ⟨_, rfl, wpAny_pure h⟩))) htake)
    | exact wpAny_bind (wpAny_bind (m := Builtin.Tuple.tupleExact _) (wpAny_newObj_type (wpAny_pure (wpAny_pure ⟨_, rfl, wpAny_pure h⟩)) htake))
    | exact wpAny_bind (wpAny_bind (m := Builtin.Tuple.tupleExact _) (wpAny_newObj_type (wpAny_pure ⟨_, rfl, wpAny_pure h⟩) htake))
end
end HT
namespace L2
open PySem PySem.Spec PyProof.Rows
noncomputable abbrev TO := St → Hp → (Option Int → Hp → Prop) → Prop
noncomputable def PO (X : Cx) (e : Option Expr) (t : TO) : Prop :=
  ∀ (pins : List (Addr × Obj)) (s : Shared) (σ : St) (H : Hp) (Q : Option Int → Hp → Prop), Inv X pins σ H s → t σ H Q →
    wpAny (model X.prog X.w) X.A (evalPart e X.env) (fun u s' => ∃ o H', Inv X pins σ H' s' ∧ IsPart u o ∧ Q o H') X.xe s
noncomputable def tNoPart : TO := fun _ H Q => Q none H
noncomputable def tPart (t : TE) : TO := fun σ H Q => t σ H fun x H1 => ∃ i, x = .int i ∧ Q (some i) H1
section
variable {X : Cx} {e : Expr} {te : TE} {lo hi : Option Expr} {tl th : TO} {pos p2 : Pos}
theorem po_none : PO X none tNoPart := by
  intro pins s σ H Q I h
  rw [evalPart_none]
  exact wpAny_pure ⟨none, H, I, .none, h⟩
theorem po_some (h : PE X e te) : PO X (some e) (tPart te) := by
  intro pins s σ H Q I hw
  rw [evalPart_some]
  refine thn (h pins s σ H _ I hw) fun u s1 ⟨x, H1, I1, r1, q1⟩ => ?_
  obtain ⟨i, rfl, q⟩ := q1
  obtain ⟨t, rfl⟩ := r1
  exact ⟨some i, H1, I1, .int i t, q⟩
noncomputable def SlR (X : Cx) (r : V → Option Int → Option Int → Hp → VK → Prop) : Prop :=
  ∀ (pins : List (Addr × Obj)) (s : Shared) (σ : St) (H : Hp) (x : V) (v vl vu : Value) (lo hi : Option Int) (sl : Addr) (Q : VK), Inv X pins σ H s → RelV x v → s.heap.IsSliceOf sl vl vu .none → IsPart vl lo → IsPart vu hi → r x lo hi H Q →
    ∃ T id, typeLookup (.type T) "__getitem__" = pure (some (.builtin id)) ∧ s.TypeIs v T ∧ wpAny (model X.prog X.w) X.A (getItem v (.ref sl)) (EP X pins σ Q) X.xe s
noncomputable def tSl (r : V → Option Int → Option Int → Hp → VK → Prop) (te : TE) (tl th : TO) : TE := fun σ H Q => te σ H fun x H1 => tl σ H1 fun l H2 => th σ H2 fun u H3 => r x l u H3 Q
theorem pe_slice {r : V → Option Int → Option Int → Hp → VK → Prop} (hr : SlR X r) (he : PE X e te) (hl : PO X lo tl) (hu : PO X hi th) : PE X (.Subscript e (.Slice lo hi none p2) pos) (tSl r te tl th) := by
  intro pins s σ H Q I h
  refine Subscript_ (thn (he pins s σ H _ I h) fun v s1 ⟨x, H1, I1, r1, q1⟩ => ?_)
  refine wpAny_Slice (thn (hl pins s1 σ H1 _ I1 q1) fun vl s2 ⟨l, H2, I2, pl, q2⟩ => thn (hu pins s2 σ H2 _ I2 q2) fun vu s3 ⟨u, H3, I3, pu, q3⟩ => ?_)
  rw [evalPart_none]
  refine wpAny_pure ?_
  have I4 : Inv X pins σ H3 { s3 with heap := s3.heap.push { cls := .type "slice", data := .fields #[vl, vu, .none] } } := I3.kept (t' := s3.toks) fun b ob q => Heap.get?_push_of_some _ q
  obtain ⟨T, id, hT, ht, hg⟩ := hr pins { s3 with heap := s3.heap.push { cls := .type "slice", data := .fields #[vl, vu, .none] } } σ H3 x v vl vu l u s3.heap.objs.size Q I4 r1 (Heap.IsSliceOf.new ..) pl pu q3
  show wpAny (model X.prog X.w) X.A (subscriptTail e (.Slice lo hi none p2) v (.ref s3.heap.objs.size)) (EP X pins σ Q) X.xe { s3 with heap := s3.heap.push { cls := .type "slice", data := .fields #[vl, vu, .none] } }
  exact tail_any (ops := [.ref s3.heap.objs.size, v]) ht hT hg (by with_unfolding_all rfl)
noncomputable def cutV (xs : List V) (lo hi : Option Int) : List V := (xs.drop (HT.sIx xs.length 0 lo)).take (HT.sIx xs.length xs.length hi - HT.sIx xs.length 0 lo)
theorem cutV_length (xs : List V) (lo hi : Option Int) : (cutV xs lo hi).length ≤ xs.length := by
  unfold cutV
  rw [List.length_take, List.length_drop]
  omega
noncomputable def rSlT (K : PySem.W.Frag) : V → Option Int → Option Int → Hp → VK → Prop := fun x lo hi H Q => ∃ a xs, x = .ref a ∧ SqT K H a xs ∧
  ¬ (HT.sIx xs.length 0 lo = 0 ∧ HT.sIx xs.length xs.length hi = xs.length) ∧ ∀ p, H p = none → Q (.ref p) (upd H p (.tup (cutV xs lo hi)))
theorem sl_tup : SlR X (rSlT X.K) := by
  intro pins s σ H x v vl vu lo hi sl Q I rx hs pl pu h
  obtain ⟨a, xs, rfl, hx, hw, q⟩ := h
  cases rx
  obtain ⟨its, r, ht, hz⟩ := I.tuple hx
  have hlen : its.toArray.size = xs.length := by rw [List.size_toArray]; exact r.length.symm
  refine ⟨"tuple", _, PyProof.Rows.slot_tuple_getitem.lookup, ht.typeIs, ?_⟩
  refine HT.getItem_tuple_cut ht hs pl pu (by rw [hlen]; exact hw) ?_ (by rw [hlen]; exact hz)
  rw [hlen]
  refine ⟨.ref s.heap.objs.size, _, I.laid (t' := s.toks) (o := .tup (cutV xs lo hi)) (fun b ob q => Heap.get?_push_of_some _ q) (Nat.le_refl _) ?_, rfl, q _ (I.hok.fresh (Nat.le_refl _))⟩
  exact ⟨Nat.le_trans (cutV_length xs lo hi) hz, _, (r.drop (HT.sIx xs.length 0 lo)).take (HT.sIx xs.length xs.length hi - HT.sIx xs.length 0 lo), IsTup.new _ _⟩
noncomputable def rCatT (K : PySem.W.Frag) : R2 := fun x y H Q => ∃ a b xs ys, x = .ref a ∧ y = .ref b ∧ SqT K H a xs ∧ SqT K H b ys ∧ xs ≠ [] ∧ xs.length + ys.length ≤ sizeLine ∧
  (ys = [] → Q (.ref a) H) ∧ (ys ≠ [] → ∀ p, H p = none → Q (.ref p) (upd H p (.tup (xs ++ ys))))
theorem Vals.nil_iff {xs : List V} {us : List Value} (r : Vals xs us) : us = [] ↔ xs = [] := by
  cases r with
  | nil => simp
  | cons _ _ => simp
theorem op_catT : OpR X (binaryOp .Add) (rCatT X.K) := by
  intro pins s σ H x y v u Q I rx ry h
  obtain ⟨a, b, xs, ys, rfl, rfl, ha, hb, hx, hz, q1, q2⟩ := h
  cases rx
  cases ry
  obtain ⟨its, r1, p1, _⟩ := I.tuple ha
  obtain ⟨its2, r2, p2, _⟩ := I.tuple hb
  refine HT.cat_tup p1 p2 (fun z => hx (r1.nil_iff.mp z)) (fun z => ⟨.ref a, H, I, rfl, q1 (r2.nil_iff.mp z)⟩) (fun z => ?_) (by rw [← r1.length, ← r2.length]; exact hz)
  refine ⟨.ref s.heap.objs.size, _, I.laid (t' := s.toks) (o := .tup (xs ++ ys)) (fun b ob q => Heap.get?_push_of_some _ q) (Nat.le_refl _) ?_, rfl, q2 (fun w => z (r2.nil_iff.mpr w)) _ (I.hok.fresh (Nat.le_refl _))⟩
  exact ⟨by rw [List.length_append]; exact hz, _, r1.append r2, IsTup.new _ _⟩
end
end L2
namespace L2
open PySem PySem.Spec PyProof.Rows
noncomputable def ixN (n : Nat) (i : Int) : Option Nat := if 0 ≤ i then (if i < n then some i.toNat else none) else if -(n : Int) ≤ i then some (i + n).toNat else none
noncomputable def atI {α : Type} (xs : List α) (i : Int) : Option α := (ixN xs.length i).bind fun j => xs[j]?
theorem ixN_seq {n : Nat} {i : Int} {j : Nat} (h : ixN n i = some j) : seqIndex? i n = some j ∧ j < n ∧ -(n : Int) ≤ i ∧ i < n := by
  unfold ixN at h
  by_cases h0 : 0 ≤ i
  · rw [if_pos h0] at h
    by_cases h1 : i < n
    · rw [if_pos h1] at h
      have e : i.toNat = j := Option.some.inj h
      exact ⟨by rw [seqIndex_of h0 h1, e], by omega, by omega, h1⟩
    · rw [if_neg h1] at h; cases h
  · rw [if_neg h0] at h
    by_cases h1 : -(n : Int) ≤ i
    · rw [if_pos h1] at h
      have e : (i + n).toNat = j := Option.some.inj h
      exact ⟨by rw [seqIndex_neg (by omega) h1, e], by omega, h1, by omega⟩
    · rw [if_neg h1] at h; cases h
theorem atI_get {α : Type} {xs : List α} {i : Int} {v : α} (h : atI xs i = some v) : ∃ j, seqIndex? i xs.length = some j ∧ xs[j]? = some v ∧ j < xs.length ∧ -(xs.length : Int) ≤ i ∧ i < xs.length := by
  unfold atI at h
  cases e : ixN xs.length i with
  | none => rw [e] at h; cases h
  | some j =>
    rw [e] at h
    obtain ⟨h1, h2, h3, h4⟩ := ixN_seq e
    exact ⟨j, h1, h, h2, h3, h4⟩
theorem atI_nat {α : Type} {xs : List α} {j : Nat} {v : α} (h : xs[j]? = some v) : atI xs (j : Int) = some v := by
  have hj : j < xs.length := (List.getElem?_eq_some_iff.mp h).1
  have e : ixN xs.length (j : Int) = some j := by
    unfold ixN
    rw [if_pos (by omega), if_pos (by omega)]; simp
  unfold atI; rw [e]; exact h
noncomputable def PlainIx (b : Expr) : Prop := ∀ o i, subscripted b false o i = operate [o, i] (getItem o i)
noncomputable def IxR (X : Cx) (r : R2) : Prop :=
  ∀ (value slice : Expr) (pins : List (Addr × Obj)) (s : Shared) (σ : St) (H : Hp) (x y : V) (v u : Value) (Q : VK), Inv X pins σ H s → RelV x v → RelV y u → r x y H Q →
    subscripted slice false v u = operate [v, u] (getItem v u) → wpAny (model X.prog X.w) X.A (subscriptTail value slice v u) (EP X pins σ Q) X.xe s
noncomputable def MtR (X : Cx) (id : String) (r : V → List V → Hp → VK → Prop) : Prop :=
  ∀ (pins : List (Addr × Obj)) (s : Shared) (σ : St) (H : Hp) (x : V) (xs : List V) (v : Value) (us : List Value) (Q : VK), Inv X pins σ H s → RelV x v → Vals xs us → r x xs H Q →
    wpAny (model X.prog X.w) X.A (call (.builtin id) (v :: us)) (EP X pins σ Q) X.xe s
section
variable {X : Cx} {a b : Expr} {ta tb : TE} {pos : Pos}
theorem pe_ix {r : R2} (hr : IxR X r) (ha : PE X a ta) (hb : PE X b tb) (hs : PlainIx b) : PE X (.Subscript a b pos) (tOp r ta tb) := by
  intro pins s σ H Q I h
  exact Subscript_ (binT ha hb I h fun v u s2 x y H2 I2 rx ry q => hr a b pins s2 σ H2 x y v u Q I2 rx ry q (hs _ _))
noncomputable def rIxL (K : PySem.W.Frag) : R2 := fun x y H Q => ∃ p xs i v, x = .ref p ∧ y = .int i ∧ SqL K H p xs ∧ atI xs i = some v ∧ Q v H
noncomputable def rIxT (K : PySem.W.Frag) : R2 := fun x y H Q => ∃ p xs i v, x = .ref p ∧ y = .int i ∧ SqT K H p xs ∧ atI xs i = some v ∧ Q v H
noncomputable def rIxS : R2 := fun x y H Q => ∃ z i c, x = .str z ∧ y = .int i ∧ z.length ≤ sizeLine ∧ atI z.cps.toList i = some c ∧ Q (.str ⟨#[c]⟩) H
theorem ix_list : IxR X (rIxL X.K) := by
  intro value slice pins s σ H x y v u Q I rx ry h hs
  obtain ⟨p, xs, i, z, rfl, rfl, hq, he, q⟩ := h
  cases rx
  obtain ⟨t, rfl⟩ := ry
  obtain ⟨its, r, pl, hz⟩ := I.list hq
  obtain ⟨j, h1, h2, h3, h4, h5⟩ := atI_get he
  obtain ⟨w, ew, rw'⟩ := r.get h2
  have hl := r.length
  have hn := line63
  have fin : EP X pins σ Q w s := ⟨z, H, I, rw', q⟩
  by_cases h0 : 0 ≤ i
  · have hj : i.toNat = j := by
      rw [seqIndex_of h0 h5] at h1
      exact Option.some.inj h1
    exact item_listR pl.isList h0 (by omega) (by rw [hj]; simpa using ew) fin hs
  · have hj : (i + (its.toArray.size : Int)).toNat = j := by
      rw [seqIndex_neg (by omega) h4] at h1
      rw [List.size_toArray, ← hl]
      exact Option.some.inj h1
    exact subscriptTail_builtinR (x := w) pl.isList.typeIs slot_list_getitem.lookup
      (wpAny_getItem_list_neg (Q := fun r s' => r = w ∧ EP X pins σ Q r s') pl.isList (by omega) (by rw [List.size_toArray] <;> omega) (by omega) (by rw [hj]; simpa using ew) ⟨rfl, fin⟩) hs
theorem ix_tup : IxR X (rIxT X.K) := by
  intro value slice pins s σ H x y v u Q I rx ry h hs
  obtain ⟨p, xs, i, z, rfl, rfl, hq, he, q⟩ := h
  cases rx
  obtain ⟨t, rfl⟩ := ry
  obtain ⟨its, r, pl, hz⟩ := I.tuple hq
  obtain ⟨j, h1, h2, h3, h4, h5⟩ := atI_get he
  obtain ⟨w, ew, rw'⟩ := r.get h2
  have hl := r.length
  have hn := line63
  have fin : EP X pins σ Q w s := ⟨z, H, I, rw', q⟩
  exact subscriptTail_builtinR (x := w) pl.typeIs slot_tuple_getitem.lookup
    (getItem_tuple (j := j) (Q := fun r s' => r = w ∧ EP X pins σ Q r s') pl (by omega) (by omega) (by rw [List.size_toArray, ← hl]; exact h1) (by simpa using ew) ⟨rfl, fin⟩) hs
theorem ix_str : IxR X rIxS := by
  intro value slice pins s σ H x y v u Q I rx ry h hs
  obtain ⟨z, i, c, rfl, rfl, hz, he, q⟩ := h
  obtain ⟨t, rfl⟩ := rx
  obtain ⟨t', rfl⟩ := ry
  obtain ⟨j, h1, h2, h3, h4, h5⟩ := atI_get he
  have hl : z.cps.toList.length = z.length := by simp [Str.length]
  rw [hl] at h1 h4 h5
  have hn := line63
  exact tail_any (typeIs_str s z t) slot_str_getitem.lookup (getItem_str (c := c) (by
    have e1 : decide (i < -(2 ^ 63 : Int)) = false := decide_eq_false (by omega)
    have e2 : decide (i ≥ 2 ^ 63) = false := decide_eq_false (by omega)
    rw [e1, e2, Bool.or_false]) (by rw [h1]; simpa using h2) ⟨.str ⟨#[c]⟩, H, I.tok _, ⟨_, rfl⟩, q⟩) hs
theorem Inv.lst {pins : List (Addr × Obj)} {σ : St} {H : Hp} {s : Shared} {p : Addr} {xs : List V} (I : Inv X pins σ H s) (h : H p = some (.lst xs)) :
    ∃ (its : List Value) (n : Nat), Vals xs its ∧ s.heap.get? p = some { cls := .type "list", data := .seq its.toArray n } ∧ xs.length ≤ sizeLine := by
  obtain ⟨z, its, n, r, e⟩ := I.hok p _ h
  exact ⟨its, n, r, e, z⟩
theorem slice_bounds (lo hi : Option Int) (n : Nat) : (sliceBounds lo hi none n).1 = ((HT.sIx n 0 lo : Nat) : Int) ∧ (sliceBounds lo hi none n).2.1 = ((HT.sIx n n hi : Nat) : Int) ∧ (sliceBounds lo hi none n).2.2 = 1 := by
  refine ⟨?_, ?_, rfl⟩
  · cases lo with
    | none => simp [sliceBounds, HT.sIx]
    | some i =>
      simp only [sliceBounds, HT.sIx, Option.getD_none, show (1 : Int) > 0 by decide, if_true]
      by_cases h : i < 0
      · simp only [h, if_true] <;> omega
      · simp only [h, if_false] <;> omega
  · cases hi with
    | none => simp [sliceBounds, HT.sIx]
    | some i =>
      simp only [sliceBounds, HT.sIx, Option.getD_none, show (1 : Int) > 0 by decide, if_true]
      by_cases h : i < 0
      · simp only [h, if_true] <;> omega
      · simp only [h, if_false] <;> omega
theorem slicePick_cut (its : List Value) (lo hi : Option Int) : slicePick its.toArray lo hi none = ((its.drop (HT.sIx its.length 0 lo)).take (HT.sIx its.length its.length hi - HT.sIx its.length 0 lo)).toArray := by
  obtain ⟨h1, h2, h3⟩ := slice_bounds lo hi its.toArray.size
  unfold slicePick
  rw [h1, h2, h3]
  simp only [sliceRange_one, pick_run, List.size_toArray] <;> rfl
noncomputable def rSlL (K : PySem.W.Frag) : V → Option Int → Option Int → Hp → VK → Prop := fun x lo hi H Q => ∃ a xs, x = .ref a ∧ SqL K H a xs ∧ ∀ p, H p = none → Q (.ref p) (upd H p (.lst (cutV xs lo hi)))
theorem sl_list : SlR X (rSlL X.K) := by
  intro pins s σ H x v vl vu lo hi sl Q I rx hs pl pu h
  obtain ⟨a, xs, rfl, hx, q⟩ := h
  cases rx
  obtain ⟨its, r, ht, hz⟩ := I.list hx
  have hlen := r.length
  refine ⟨"list", _, slot_list_getitem.lookup, ht.isList.typeIs, ?_⟩
  refine wpAny_getItem_list_slice ht.isList hs pl pu .none (by simp) ?_ (by rw [List.size_toArray] <;> omega)
  rw [slicePick_cut, ← hlen]
  refine ⟨.ref s.heap.objs.size, _, I.laid (t' := s.toks) (o := .lst (cutV xs lo hi)) (fun b ob q => Heap.get?_push_of_some _ q) (Nat.le_refl _) ?_, rfl, q _ (I.hok.fresh (Nat.le_refl _))⟩
  exact ⟨Nat.le_trans (cutV_length xs lo hi) hz, _, 0, (r.drop (HT.sIx xs.length 0 lo)).take (HT.sIx xs.length xs.length hi - HT.sIx xs.length 0 lo), Heap.get?_push_size _ rfl⟩
theorem call_len_seq : CallR X (.builtin "len") (fun xs H Q => ∃ p ys, xs = [.ref p] ∧ (SqL X.K H p ys ∨ SqT X.K H p ys) ∧ Q (.int ys.length) H) := by
  intro pins s σ H xs us Q I r h
  obtain ⟨p, ys, rfl, hq, q⟩ := h
  obtain ⟨u, rfl, rx⟩ := vals1 r
  cases rx
  have hn := line63
  rcases hq with hq | hq
  · obtain ⟨its, r', pl, hz⟩ := I.list hq
    have hlen := r'.length
    exact Calls.call_len_list pl.isList (by simp only [List.size_toArray] <;> omega) ⟨.int ys.length, H, I.tok _, ⟨s.toks + 1, by rw [List.size_toArray, hlen]⟩, q⟩
  · obtain ⟨its, r', pl, hz⟩ := I.tuple hq
    have hlen := r'.length
    exact len_tuple pl (by simp only [List.size_toArray] <;> omega) ⟨.int ys.length, H, I.tok _, ⟨s.toks + 1, by rw [List.size_toArray, hlen]⟩, q⟩
theorem call_len_str : CallR X (.builtin "len") (fun xs H Q => ∃ z, xs = [.str z] ∧ z.length ≤ sizeLine ∧ Q (.int z.length) H) := by
  intro pins s σ H xs us Q I r h
  obtain ⟨z, rfl, hz, q⟩ := h
  obtain ⟨u, rfl, t, rfl⟩ := vals1 r
  have hn := line63
  exact len_str (by omega) ⟨.int z.length, H, I.tok _, ⟨_, rfl⟩, q⟩
theorem call_list_of : CallR X (.type "list") (fun xs H Q => ∃ p ys, xs = [.ref p] ∧ (SqL X.K H p ys ∨ SqT X.K H p ys) ∧ ∀ l, H l = none → Q (.ref l) (upd H l (.lst ys))) := by
  intro pins s σ H xs us Q I r h
  obtain ⟨p, ys, rfl, hq, q⟩ := h
  obtain ⟨u, rfl, rx⟩ := vals1 r
  cases rx
  have fin : ∀ (its : List Value), Vals ys its → ys.length ≤ sizeLine → ∀ (h' : Heap) (c' : Nat), (∀ b o', s.heap.get? b = some o' → h'.get? b = some o') →
      h'.get? s.heap.objs.size = some { cls := .type "list", dict := none, data := .seq its.toArray c', slots := #[] } → EP X pins σ Q (.ref s.heap.objs.size) { s with heap := h' } := fun its r' hz h' c' kp e =>
    ⟨.ref s.heap.objs.size, _, I.laid (t' := s.toks) kp (Nat.le_refl _) (show ObjOk X.prog X.w _ h' _ (.lst ys) from ⟨hz, its, c', r', e⟩), rfl, q _ (I.hok.fresh (Nat.le_refl _))⟩
  rcases hq with hq | hq
  · obtain ⟨its, r', pl, hz⟩ := I.list hq
    have hlen := r'.length
    obtain ⟨o, ho, hc, n, hd⟩ := pl.isList
    exact call_list_seq p (.inl rfl) ho hc hd (fun h' c' kp e => fin its r' hz h' c' kp e) (by simp only [List.size_toArray] <;> omega)
  · obtain ⟨its, r', pl, hz⟩ := I.tuple hq
    have hlen := r'.length
    obtain ⟨o, ho, hc, n, hd⟩ := pl
    exact call_list_seq p (.inr rfl) ho hc hd (fun h' c' kp e => fin its r' hz h' c' kp e) (by simp only [List.size_toArray] <;> omega)
theorem call_tuple_of : CallR X (.type "tuple") (fun xs H Q => ∃ p ys, xs = [.ref p] ∧ ((SqL X.K H p ys ∧ ∀ l, H l = none → Q (.ref l) (upd H l (.tup ys))) ∨ (SqT X.K H p ys ∧ Q (.ref p) H))) := by
  intro pins s σ H xs us Q I r h
  obtain ⟨p, ys, rfl, h⟩ := h
  obtain ⟨u, rfl, rx⟩ := vals1 r
  cases rx
  rcases h with ⟨hq, q⟩ | ⟨hq, q⟩
  · obtain ⟨its, r', pl, hz⟩ := I.list hq
    have hlen := r'.length
    refine call_tuple_list pl.isList (fun h' kp => ?_) (by simp only [List.size_toArray] <;> omega)
    have I1 : Inv X pins σ H { s with heap := h' } := I.kept (t' := s.toks) kp
    have I2 : Inv X pins σ (upd H h'.objs.size (.tup ys)) { s with heap := h'.push { cls := .type "tuple", data := .seq its.toArray } } :=
      I1.laid (t' := s.toks) (fun b o e => Heap.get?_push_of_some _ e) (Nat.le_refl _) (show ObjOk X.prog X.w _ _ _ (.tup ys) from ⟨hz, its, r', IsTup.new _ _⟩)
    exact ⟨.ref h'.objs.size, _, I2, rfl, q _ (I1.hok.fresh (Nat.le_refl _))⟩
  · obtain ⟨its, r', pl, hz⟩ := I.tuple hq
    exact call_tuple_same pl ⟨.ref p, H, I, rfl, q⟩
noncomputable def tyV (K : PySem.W.Frag) (T : String) (x : V) (H : Hp) : Prop := match x with
  | .str _ => T = "str"
  | .int _ => T = "int"
  | .ref p => (T = "list" ∧ ∃ xs, SqL K H p xs) ∨ (T = "tuple" ∧ ∃ o, K.lookup p = some o ∧ o.cls = .type "tuple" ∧ o.dict = none) ∨
      (T = "dict" ∧ ((∃ kvs, H p = some (.dK kvs)) ∨ ∃ kvs, H p = some (.dT kvs))) ∨ (T = "set" ∧ ∃ S n, H p = some (.set S n))
  | _ => False
theorem tyV_is {pins : List (Addr × Obj)} {σ : St} {H : Hp} {s : Shared} {T : String} {x : V} {v : Value} (I : Inv X pins σ H s) (r : RelV x v) (ty : tyV X.K T x H) :
    s.TypeIs v T ∧ ∀ a, v = .ref a → ∃ ob, s.heap.get? a = some ob ∧ ob.dict = none := by
  cases x with
  | str z =>
    obtain ⟨t, rfl⟩ := r
    cases (show T = "str" from ty)
    exact ⟨typeIs_str s z t, fun _ e => nomatch e⟩
  | int i =>
    obtain ⟨t, rfl⟩ := r
    cases (show T = "int" from ty)
    exact ⟨typeIs_int s i t, fun _ e => nomatch e⟩
  | ref p =>
    cases r
    rcases ty with ⟨rfl, xs, hq⟩ | ⟨rfl, o, hk, hc, hd⟩ | ⟨rfl, hk⟩ | ⟨rfl, S, n, hk⟩
    · obtain ⟨its, _, pl, _⟩ := I.list hq
      refine ⟨pl.isList.typeIs, fun a e => ?_⟩
      cases e
      obtain ⟨o, n, e, c, hd, _⟩ := pl
      exact ⟨o, e, hd⟩
    · refine ⟨⟨o, I.kIn p o hk, hc⟩, fun a e => ?_⟩
      cases e
      exact ⟨o, I.kIn _ o hk, hd⟩
    · have z : ∃ o, s.heap.get? p = some o ∧ o.ExactDict := by
        rcases hk with ⟨kvs, hk⟩ | ⟨kvs, hk⟩
        · obtain ⟨_, _, _, _, o, _, _, e, ex, _⟩ := I.hok p _ hk
          exact ⟨o, e, ex⟩
        · obtain ⟨_, _, _, _, o, _, _, e, ex, _⟩ := I.hok p _ hk
          exact ⟨o, e, ex⟩
      obtain ⟨o, e, ex⟩ := z
      refine ⟨⟨o, e, ex.1⟩, fun a e2 => ?_⟩
      cases e2
      exact ⟨o, e, ex.2.1⟩
    · obtain ⟨o, _, _, _, e, ex, _⟩ := I.hok p _ hk
      refine ⟨⟨o, e, ex.1⟩, fun a e2 => ?_⟩
      cases e2
      exact ⟨o, e, ex.2.1⟩
  | _ => exact False.elim ty
noncomputable def tBM (K : PySem.W.Frag) (T : String) (r : V → List V → Hp → VK → Prop) (to : TE) (t : TA) : TE := fun σ H Q => to σ H fun x H1 => tyV K T x H1 ∧ t σ H1 fun xs H2 => r x xs H2 Q
variable {o e : Expr} {es : List Expr} {to : TE} {t : TA} {name : Str} {apos cpos : Pos} {T id : String} {r : V → List V → Hp → VK → Prop}
theorem pe_bm (pa : PlainAttrs T) (slot : Slot T name id) (hty : typeOf (.builtin id) = pure (.type "method_descriptor")) (hm : MtR X id r) (ho : PE X o to) (ha : PA X (e :: es) t)
    (hbase : attributeBase o name X.env (eval o X.env) = eval o X.env := by rfl)
    (hfew : ((backTo cpos (starEach (e :: es) X.env)).all (fun x => !x.1) && (backToKw cpos (keywordEach [] X.env)).all (fun x => x.1.isSome)
      && decide ((e :: es).length + ([] : List Keyword).length + (if ([] : List Keyword).isEmpty then 0 else 1) < 30)) = true := by rfl)
    (hline : (apos.endLine == cpos.line) = true := by rfl) (hs : starEach (e :: es) X.env = (false, eval e X.env) :: starEach es X.env := by rfl) (hplain : (backTo cpos (starEach es X.env)).any (·.1) = false := by rfl) :
    PE X (.Call (.Attribute o name apos) (e :: es) [] cpos) (tBM X.K T r to t) := by
  intro pins s σ H Q I h
  refine wpAny_Call_method_late hbase hfew hline rfl (thn (ho pins s σ H _ I h) fun v s1 ⟨x, H1, I1, r1, ty, q1⟩ => ?_)
  obtain ⟨h1, h2⟩ := tyV_is I1 r1 ty
  refine ⟨T, id, pa, slot, hty, h1, h2, ?_⟩
  have hA := ha cpos pins s1 σ H1 _ I1 q1
  rw [hs] at hA ⊢
  refine Calls.callWith_builtin (by show (false || (backTo cpos (starEach es X.env)).any (·.1)) = false; rw [hplain] <;> rfl) (Calls.evalArgs_plain ?_)
  exact thn hA fun us s2 ⟨vs, H2, I2, r2, q2⟩ => hm pins s2 σ H2 x vs v us Q I2 r1 r2 q2
end
end L2
namespace L2
open PySem PySem.Spec PyProof.Rows
noncomputable def MtM (X : Cx) (id : String) (r : V → List V → Hp → VK → Prop) : Prop :=
  ∀ (pins : List (Addr × Obj)) (s : Shared) (σ : St) (H : Hp) (x : V) (xs : List V) (v : Value) (us : List Value) (Q : VK), Inv X pins σ H s → RelV x v → Vals xs us → r x xs H Q →
    wpAny (model X.prog X.w) X.A (call (.builtin id) (v :: us)) (EP X pins σ Q) X.xe s
theorem Vals.one : ∀ {x : V} {us : List Value}, Vals [x] us → ∃ u, us = [u] ∧ RelV x u
  | _, _, .cons r .nil => ⟨_, rfl, r⟩
theorem Vals.rep {xs : List V} {us : List Value} (h : Vals xs us) : ∀ k : Nat, Vals (List.replicate k xs).flatten (List.replicate k us).flatten
  | 0 => .nil
  | k + 1 => by
    rw [List.replicate_succ, List.replicate_succ, List.flatten_cons, List.flatten_cons]
    exact Vals.append h (Vals.rep h k)
theorem foldl_rep (its : List Value) : ∀ (k : Nat) (acc : List Value),
    List.foldl (fun x1 x2 => x1 ++ x2) acc.toArray (List.replicate k its.toArray) = (acc ++ (List.replicate k its).flatten).toArray
  | 0, acc => by simp
  | k + 1, acc => by
    have e : acc.toArray ++ its.toArray = (acc ++ its).toArray := by simp
    have e2 : (acc ++ its) ++ (List.replicate k its).flatten = acc ++ (List.replicate (k + 1) its).flatten := by
      rw [List.replicate_succ, List.flatten_cons, List.append_assoc]
    rw [← e2, ← foldl_rep its k (acc ++ its), ← e, List.replicate_succ, List.foldl_cons]
section
variable {X : Cx} {pins : List (Addr × Obj)} {σ : St} {H : Hp} {s : Shared} {l b : Addr} {xs ys zs : List V}
theorem Inv.lset {its its' : List Value} {n : Nat} {f : Array Value → Array Value} {t' : Nat} (I : Inv X pins σ H s) (hH : H l = some (.lst xs))
    (e : s.heap.get? l = some { cls := .type "list", data := .seq its.toArray n }) (hf : f its.toArray = its'.toArray) (hv : Vals ys its') (hz : ys.length ≤ sizeLine) :
    Inv X pins σ (upd H l (.lst ys)) { s with heap := s.heap.update l (Obj.mapSeq f), toks := t' } := by
  have q := PySem.IsL.update e f
  rw [hf] at q
  refine I.write (x := l) (e := l) (by rw [hH]; exact trivial) (.inl rfl) (fun b' u hb hu => (Heap.get?_update_other s.heap (Obj.mapSeq f) (Ne.symm hb)).trans hu) ⟨_, q⟩ ?_
  exact ⟨hz, its', _, hv, q⟩
theorem Inv.lnew {its : List Value} {t' : Nat} (I : Inv X pins σ H s) (hv : Vals ys its) (hz : ys.length ≤ sizeLine) :
    Inv X pins σ (upd H s.heap.objs.size (.lst ys)) { s with heap := s.heap.push { cls := .type "list", data := .seq its.toArray }, toks := t' } :=
  I.laid (fun _ _ q => Heap.get?_push_of_some _ q) (Nat.le_refl _) ⟨hz, its, 0, hv, Heap.get?_push_size _ rfl⟩
theorem Inv.fresh (I : Inv X pins σ H s) : H s.heap.objs.size = none := I.hok.fresh (Nat.le_refl _)
theorem Inv.lstM (I : Inv X pins σ H s) (hH : H l = some (.lst xs)) : xs.length ≤ sizeLine ∧ ∃ (its : List Value) (n : Nat), Vals xs its ∧ xs.length = its.length ∧ s.heap.get? l = some { cls := .type "list", data := .seq its.toArray n } := by
  obtain ⟨z, its, n, r, e⟩ := I.hok l _ hH
  exact ⟨z, its, n, r, r.length, e⟩
theorem notLongL {n : Nat} (h : n ≤ sizeLine) : Builtin.List.listTooLong n = false := by
  unfold Builtin.List.listTooLong
  exact decide_eq_false (by omega)
end
section
variable {X : Cx}
noncomputable def rAppend : V → List V → Hp → VK → Prop := fun x vs H Q => ∃ l xs y, x = .ref l ∧ vs = [y] ∧ H l = some (.lst xs) ∧ xs.length < sizeLine ∧ Q .non (upd H l (.lst (xs ++ [y])))
theorem mt_append : MtM X "list.append" rAppend := by
  intro pins s σ H x vs v us Q I rx rv h
  obtain ⟨l, xs, y, rfl, rfl, hH, hz, q⟩ := h
  cases rx
  obtain ⟨u, rfl, ru⟩ := rv.one
  obtain ⟨z, its, n, r, hl, e⟩ := I.lstM hH
  refine call_meets F.slot_list_append ⟨_, e, rfl⟩ F.entry_list_append (F.args_list_append_2 _ _) (PySem.list_append l its.toArray n u (by rw [List.size_toArray]; omega)) ⟨e, ?_⟩
  refine ⟨.non, _, I.lset (its' := its ++ [u]) hH e (by simp) (r.append (.cons ru .nil)) ?_, rfl, q⟩
  rw [List.length_append, List.length_singleton]
  omega
noncomputable def rExtend : V → List V → Hp → VK → Prop := fun x vs H Q => ∃ l b xs zs, x = .ref l ∧ vs = [.ref b] ∧ H l = some (.lst xs) ∧ H b = some (.lst zs) ∧ xs.length + zs.length ≤ sizeLine ∧ Q .non (upd H l (.lst (xs ++ zs)))
theorem mt_extend : MtM X "list.extend" rExtend := by
  intro pins s σ H x vs v us Q I rx rv h
  obtain ⟨l, b, xs, zs, rfl, rfl, hH, hB, hz, q⟩ := h
  cases rx
  obtain ⟨u, rfl, ru⟩ := rv.one
  cases ru
  obtain ⟨z, its, n, r, hl, e⟩ := I.lstM hH
  obtain ⟨z2, its2, n2, r2, hl2, e2⟩ := I.lstM hB
  have hsz : its.toArray.size + its2.toArray.size ≤ sizeLine := by rw [List.size_toArray, List.size_toArray]; omega
  have hlong : ¬ (!its.toArray.isEmpty && Builtin.List.listTooLong (its.toArray.size + its2.toArray.size)) = true := by
    rw [notLongL hsz, Bool.and_false]
    exact Bool.false_ne_true
  refine call_meets F.slot_list_extend ⟨_, e, rfl⟩ F.entry_list_extend (F.args_list_extend_2 _ _)
    (AutoSeq1.list_extend_list_list_0 l its.toArray n b its2.toArray n2 hlong (by rw [List.size_toArray]; omega) (by omega)) ⟨e, e2, ?_⟩
  refine ⟨.non, _, I.lset (its' := its ++ its2) hH e (by simp) (r.append r2) ?_, rfl, q⟩
  rw [List.length_append]
  omega
noncomputable def rCat : R2 := fun x y H Q => ∃ l b xs zs, x = .ref l ∧ y = .ref b ∧ H l = some (.lst xs) ∧ H b = some (.lst zs) ∧ xs.length + zs.length ≤ sizeLine ∧ ∀ p, H p = none → Q (.ref p) (upd H p (.lst (xs ++ zs)))
theorem op_cat : OpR X (binaryOp .Add) rCat := by
  intro pins s σ H x y v u Q I rx ry h
  obtain ⟨l, b, xs, zs, rfl, rfl, hH, hB, hz, q⟩ := h
  cases rx
  cases ry
  obtain ⟨z, its, n, r, hl, e⟩ := I.lstM hH
  obtain ⟨z2, its2, n2, r2, hl2, e2⟩ := I.lstM hB
  refine PySem.P.add_list e e2 ?_ (by rw [List.size_toArray, List.size_toArray]; omega)
  have ea : its.toArray ++ its2.toArray = (its ++ its2).toArray := by simp
  rw [ea]
  exact ⟨.ref _, _, I.lnew (t' := s.toks) (r.append r2) (by rw [List.length_append]; omega), rfl, q _ I.fresh⟩
noncomputable def rRep : R2 := fun x y H Q => ∃ l k xs, x = .ref l ∧ y = .int k ∧ H l = some (.lst xs) ∧ -(2 ^ 63) ≤ k ∧ k < 2 ^ 63 ∧ xs.length * k.toNat ≤ sizeLine ∧
  ∀ p, H p = none → Q (.ref p) (upd H p (.lst (List.replicate k.toNat xs).flatten))
theorem len_rep {α : Type} (xs : List α) (k : Nat) : (List.replicate k xs).flatten.length = k * xs.length := by
  induction k with
  | zero => simp
  | succ k ih => rw [List.replicate_succ, List.flatten_cons, List.length_append, ih, Nat.succ_mul, Nat.add_comm]
theorem op_rep : OpR X (binaryOp .Mult) rRep := by
  intro pins s σ H x y v u Q I rx ry h
  obtain ⟨l, k, xs, rfl, rfl, hH, h1, h2, hz, q⟩ := h
  cases rx
  obtain ⟨t, rfl⟩ := ry
  obtain ⟨z, its, n, r, hl, e⟩ := I.lstM hH
  have hlen : its.toArray.size * k.toNat ≤ sizeLine := by rw [List.size_toArray, ← hl]; exact hz
  have hcap : ¬ its.toArray.size * k.toNat > (2 ^ 63 - 1) / 8 := by
    have : (sizeLine : Nat) ≤ (2 ^ 63 - 1) / 8 := by decide
    omega
  have hfit : ¬ (!Builtin.List.listFitsIndex k) = true := by
    rw [fitsIndex_both h1 h2]
    exact Bool.false_ne_true
  have hlong : ¬ Builtin.List.listTooLong (its.toArray.size * k.toNat) = true := by
    rw [notLongL hlen]
    exact Bool.false_ne_true
  have hnew : List.foldl (fun x1 x2 => x1 ++ x2) #[] (List.replicate (if its.toArray.isEmpty = true then 0 else k.toNat) its.toArray) = (List.replicate k.toNat its).flatten.toArray := by
    have f0 : ∀ m : Nat, List.foldl (fun x1 x2 => x1 ++ x2) #[] (List.replicate m its.toArray) = (List.replicate m its).flatten.toArray := fun m => by
      have := foldl_rep its m []
      rw [List.nil_append] at this
      exact this
    rw [f0]
    cases its with
    | nil => simp
    | cons a r' => rw [if_neg (by simp)]
  refine wpAny_binaryOp_repeat_ref (T := "list") (U := "int") (by decide) ⟨_, e, rfl⟩ (fun s' => typeIs_int s' k t) noFill_list_mul F.fills_int_mul F.slot_int_rmul repeat_list F.slot_int_index.lookup
    (call_meets F.slot_int_rmul (typeIs_int s k t) F.entry_int_rmul (F.args_int_rmul_2 _ _) (int___rmul___int_list k t l its.toArray n)
      ⟨e, rfl, ⟨_, e, rfl⟩, call_meets F.slot_list_mul ⟨_, e, rfl⟩ F.entry_list_mul (F.args_list_mul_2 _ _) (AutoListH.list___mul___list_int_3 l its.toArray n k t hfit hcap hlong) ⟨e, ?_⟩⟩)
  rw [hnew]
  exact ⟨.ref _, _, I.lnew (t' := s.toks) (r.rep k.toNat) (by rw [len_rep, Nat.mul_comm]; exact hz), rfl, q _ I.fresh⟩
end
section
variable {prog : Program} {w : World} {A : Around} {E : Value → Shared → Prop} {s : Shared}
end
section
variable {X : Cx}
end
end L2
namespace Att
open PySem PySem.W PySem.Calls PyProof.Rows
theorem ints_of_wellAll {P : Params} {h : Heap} : ∀ (ns : List Int) (vs : List Value), WellAll P h vs (ns.map WData.int) → IntsAre vs ns := by
  intro ns
  induction ns with
  | nil =>
    intro vs w
    rw [List.map_nil] at w
    cases w
    exact .nil
  | cons n ns ih =>
    intro vs w
    rw [List.map_cons] at w
    cases w with
    | cons a b =>
      cases a
      exact .cons _ _ (ih _ b)
theorem script_of {l : OpenLaw} {n : Nat} (hn : l.most = some n) {P : Params} {h : Heap} {args : List WData} {vals : List Value}
    (hpre : l.row.toRowW.claim.pre args = true) (hwl : WellAll P h vals args) :
    ∃ a vs ns, vals = [Value.ref a] ∧ args = [WData.list (ns.map WData.int)] ∧ h.get? a = some { cls := .type "list", data := .seq vs.toArray } ∧ IntsAre vs ns ∧ ns.length ≤ n := by
  have hsh : WShape.hasAll [] args [.list .int] = true := (pre_splitW hpre).1
  have hc : l.pre.holds [] { args := args } = true := (pre_splitW hpre).2
  obtain ⟨d, r, rfl, h1, h2⟩ := hasAllW_cons hsh
  obtain rfl := hasAllW_nil h2
  obtain ⟨xs, rfl, h3⟩ := hasW_list h1
  obtain ⟨ns, rfl⟩ := items_int h3
  have hlen : ns.length ≤ n := by
    unfold OpenLaw.pre at hc
    have h4 : (WTm.not (.lt (.lit (.int (n : Int))) (.len (.arg 0)))).holds [] { args := [.list (ns.map .int)] } = true := by
      have h4 := (holds_andW hc).1
      rw [hn] at h4
      exact h4
    have h5 := condW_of h4 (w_not (w_lt w_lit (w_len_list (w_arg rfl))))
    rw [List.length_map] at h5
    refine Nat.le_of_not_lt fun q => ?_
    have q' : (n : Int) < ((ns.length : Nat) : Int) := by omega
    first
      | (rw [decide_eq_true q'] at h5; exact absurd h5 (by decide))
      | (simp at h5; omega)
  cases hwl with
  | cons w1 w2 =>
    cases w2
    cases w1 with
    | list ho hall => exact ⟨_, _, ns, rfl, rfl, ho, ints_of_wellAll ns _ hall, hlen⟩
theorem post_true (l : OpenLaw) (args : List WData) : l.row.toRowW.claim.post args (.bool true) args = true :=
  postW_of (r := l.row.toRowW) (X := (true == true))
    (show WShape.has [] (.bool true) .bool = true by first | rfl | decide | simp [WShape.has, WShape.arms, WShape.armsAll])
    (show (WTm.eq .res (.lit (.bool true))).value [] { args := args, res := some (.bool true), after := args } = some (.bool (true == true)) from w_eq_bool (w_res rfl) w_lit) rfl
theorem attach_call {l : OpenLaw} {n : Nat} {q : Program} {loose : List Str} {XP : (Str → Option Value) → Heap → Prop} {YP : World → Heap → Prop} {d : DefRec}
    (hn : l.most = some n) (hdf : d.params.defaults = [])
    (call : ∀ (w : World) (s₀ s₁ : Shared) (mg mb : Str → Option Value) (fa : Addr) (o : Obj) (pm cd doc : Value) (a : Addr) (vs : List Value) (ns : List Int),
      Ground q loose [] XP w s₀ mg mb s₁.heap → YP w s₁.heap →
      s₁.heap.get? fa = some o → o.data = .func (docDef d.name d.params d.body d.scope pm cd doc) → s₁.heap.CodeRec cd d.name → mg d.name = some (.ref fa) →
      s₁.heap.get? a = some { cls := .type "list", data := .seq vs.toArray } → IntsAre vs ns → ns.length ≤ n → s₁.gens = #[] →
      codeAny (model l.prog w) callerA (.call (.ref fa) ⟨[.ref a], []⟩) (fun r s' => r = .ok (.ret (.bool true)) ∧ OldK s₁.heap s'.heap ∧ s'.os = s₁.os ∧ AllBare s'.gens) s₁) :
    WalkO q loose XP YP l.row.toRowW d [] (fun f vs => PySem.call f vs) := by
  intro w s₀ s₁ mg mb G Y fa o pm cd doc dV kV ho hd hcd hD hmg hg args vals as hpre hlay hrd hwl hlo
  obtain rfl : dV = .none := Dflts.none hD hdf
  obtain rfl : kV = .none := Dflts.noKw hD
  obtain ⟨a, vs, ns, rfl, rfl, hobj, hints, hlen⟩ := script_of hn hpre hwl
  refine enter_call (codeAny_mono (call w s₀ s₁ mg mb fa o pm cd doc a vs ns G Y ho (fd_plain hd) hcd hmg hobj hints hlen hg) fun r s' hq => ?_)
  obtain ⟨rfl, h2, h3, h4⟩ := hq
  exact ⟨.inl ⟨.bool true, .bool true, [], rfl, fun _ => rfl, .bool true, post_true l _, fun _ => ⟨List.Pairwise.nil, fun _ hm => (nomatch hm)⟩⟩, h2, h3, h4⟩
section
variable {prog : Program} {w : World} {A : Around} {E : Value → Shared → Prop} {s : Shared} {K : Frag}
end
end Att
namespace L2
open PySem PySem.Spec PyProof.Rows
theorem vals_ints : ∀ {vs : List Value} {ns : List Int}, IntsAre vs ns → Vals (ns.map V.int) vs
  | _, _, .nil => .nil
  | _, _, .cons n t h => .cons ⟨t, rfl⟩ (vals_ints h)
noncomputable def Only (H : Hp) : Prop := ∀ b, H b = none ∨ ∃ o xs, H b = some (.frz o (.lst xs))
theorem law_call {P : Program} {w : World} {K : PySem.W.Frag} {mg mb : Str → Option Value} {CX : CXT} {k : Nat} {fa a : Addr} {fd : FuncData} {x : Str} {sp : Sp} {s₁ : Shared} {vs : List Value} {ns : List Int}
    (KX : K.In s₁.heap) (hns : s₁.heap.Ns mainGlobals mg) (hb : s₁.heap.Ns builtinsNs mb) (hbb : ∀ x : Str, x ≠ "__name__" → mb x = bootBuiltins x) (hlim : s₁.heap.NoLimit) (hg : s₁.gens = #[])
    (ha : s₁.heap.get? a = some { cls := .type "list", data := .seq vs.toArray }) (hi : IntsAre vs ns) (hl : ns.length ≤ sizeLine) (hr : Room k callerA)
    (F : ∀ base : Heap, K.In base → base.Ns mainGlobals mg → FnOk P w K mg base CX k fa fd [x] sp) (hbind : ∀ (s : Shared) (u : Value), BindsTo s fd ⟨[u], []⟩ [(x, u)])
    (hsp : ∀ H : Hp, Only H → SqL K H a (ns.map V.int) → sp [.ref a] H (fun v _ => v = .bl true) fun _ _ _ => False)
    (hCX : ∀ H e s', CX [] H s₁ (fun _ _ _ => False) e s' → False) :
    codeAny (model P w) callerA (.call (.ref fa) ⟨[.ref a], []⟩) (fun r s' => r = .ok (.ret (.bool true)) ∧ OldK s₁.heap s'.heap ∧ s'.os = s₁.os ∧ AllBare s'.gens) s₁ := by
  have rv := vals_ints hi
  have lenV := hi.length
  -- from an abstract heap in which nothing but the script may be tracked
  have core : ∀ H : Hp, Only H → SqL K H a (ns.map V.int) → HOk P w H s₁.heap → (∀ b, H b ≠ none → b = a) → (H a ≠ none → K.lookup a = none) →
      codeAny (model P w) callerA (.call (.ref fa) ⟨[.ref a], []⟩) (fun r s' => r = .ok (.ret (.bool true)) ∧ OldK s₁.heap s'.heap ∧ s'.os = s₁.os ∧ AllBare s'.gens) s₁ := by
    intro H hO hS hok hA hK
    have base_of : ∀ {b : Addr} {o : Obj}, s₁.heap.get? b = some o → H b = none → (hidT s₁.heap H).get? b = some o := fun e n => hidT_get e n
    have noA : ∀ {b : Addr} {o : Obj} {es : Array DictEntry} {ep : Nat}, s₁.heap.get? b = some o → o.data = .dict es ep → H b = none := fun {b o es ep} e d => by
      cases q : H b with
      | none => rfl
      | some u =>
        have e' : b = a := hA b (by rw [q]; simp)
        subst e'
        rw [ha] at e; cases e
        have d' : Data.seq vs.toArray _ = Data.dict es ep := d
        cases d'
    have nsK : ∀ {b : Addr} {m : Str → Option Value}, s₁.heap.Ns b m → (hidT s₁.heap H).Ns b m := fun {b m} ⟨o, es, ep, e, d, r⟩ => ⟨o, es, ep, base_of e (noA e d), d, r⟩
    have hKb : K.In (hidT s₁.heap H) := fun b o e => base_of (KX b o e) (by
      cases q : H b with
      | none => rfl
      | some u =>
        have e' : b = a := hA b (by rw [q]; simp)
        subst e'
        rw [hK (by rw [q]; simp)] at e; cases e)
    have hM : Mod K mg (hidT s₁.heap H) := ⟨hKb, nsK hns, ⟨mb, nsK hb, hbb⟩, let ⟨mc, h1, h2⟩ := hlim; ⟨mc, nsK h1, h2⟩⟩
    have e0 : Env0 P w K mg (hidT s₁.heap H) callerA [] s₁ H := ⟨rfl, hM, fun b o e => of_hidT e, Nat.le_of_eq (hidT_size _ _), trivial, fun b hb => absurd (show b ∈ ([] : List Addr) from hb) (by simp), hok, .of_eq hg⟩
    refine codeAny_mono ((F _ hKb (nsK hns)).run callerA [] s₁ H ⟨[.ref a], []⟩ [.ref a] [.ref a] _ _ hr e0 (hbind s₁ (.ref a)) (.cons rfl .nil) (hsp H hO hS)) fun r s' h => ?_
    cases r with
    | error e => exact (hCX H e s' h).elim
    | ok fl =>
      cases fl with
      | next => exact False.elim h
      | brk => exact False.elim h
      | cont => exact False.elim h
      | ret u =>
        obtain ⟨v, H', os, bare, un, hok', r', q⟩ := h
        have q' : v = .bl true := q
        subst q'
        obtain rfl : u = Value.bool true := r'
        refine ⟨rfl, OldK.of_keep fun b o e => ?_, os, bare⟩
        cases q : H b with
        | none => exact un.keep b o e q (by intro z; exact absurd (show b ∈ ([] : List Addr) from z) (by simp)) (by simp)
        | some u =>
          rcases hO b with z | ⟨ob, xs, z⟩
          · rw [q] at z; cases z
          · have z2 := un.frzs b ob _ z
            obtain ⟨e1, _⟩ := hok b _ z
            obtain ⟨e2, _⟩ := hok' b _ z2
            rw [e] at e1; cases e1
            exact e2
  cases hk : K.lookup a with
  | some o =>
    -- the script is one of the module's own objects
    have e := KX a o hk
    rw [ha] at e
    cases e
    refine core (fun _ => none) (fun _ => .inl rfl) (.inr ⟨_, vs.toArray, _, hk, rfl, rfl, rfl, by rw [List.size_toArray, lenV]; exact hl, by simpa using rv⟩) (fun b u z => by have z' : (none : Option HO) = some u := z; cases z') (fun b z => absurd rfl z) fun z => absurd rfl z
  | none =>
    refine core (fun b => if b = a then some (.frz { cls := .type "list", data := .seq vs.toArray } (.lst (ns.map V.int))) else none) (fun b => ?_) (.inl (.inr ⟨{ cls := .type "list", data := .seq vs.toArray }, if_pos rfl⟩)) (fun b u z => ?_) (fun b z => ?_) fun _ => hk
    · by_cases hb : b = a
      · exact .inr ⟨_, _, if_pos hb⟩
      · exact .inl (if_neg hb)
    · by_cases hb : b = a
      · have z' := (if_pos hb).symm.trans z
        cases z'
        subst hb
        exact ⟨ha, by rw [List.length_map]; exact hl, vs, _, rv, ha⟩
      · have z' := (if_neg hb).symm.trans z
        cases z'
    · by_cases hb : b = a
      · exact hb
      · exact absurd (if_neg hb) z
end L2
namespace L2
open PySem PySem.Spec PyProof.Rows
theorem walk_of {l : PySem.W.OpenLaw} {n k : Nat} {q : Program} {loose : List Str} {XP : (Str → Option Value) → Heap → Prop} {YP : World → Heap → Prop} {d : DefRec} {K : Params → PySem.W.Frag} {CX : World → CXT} {sp : World → Sp} {x : Str}
    (hn : l.most = some n) (hn2 : n ≤ sizeLine) (hdf : d.params.defaults = []) (hr : Room k callerA)
    (hY : ∀ (w : World) (h : Heap), YP w h → (K w.params).In h)
    (F : ∀ (w : World) (mg : Str → Option Value) (fa : Addr) (h : Heap), (K w.params).In h → h.Ns mainGlobals mg → mg d.name = some (.ref fa) →
      ∃ fd : FuncData, (∀ (s : Shared) (u : Value), BindsTo s fd ⟨[u], []⟩ [(x, u)]) ∧
        ∀ base : Heap, (K w.params).In base → base.Ns mainGlobals mg → FnOk l.prog w (K w.params) mg base (CX w) k fa fd [x] (sp w))
    (hsp : ∀ (w : World) (H : Hp) (a : Addr) (ns : List Int), ns.length ≤ n → Only H → SqL (K w.params) H a (ns.map V.int) → sp w [.ref a] H (fun v _ => v = .bl true) fun _ _ _ => False)
    (hCX : ∀ (w : World) (H : Hp) (s : Shared) (e : Value) (s' : Shared), CX w [] H s (fun _ _ _ => False) e s' → False) :
    PySem.W.WalkO q loose XP YP l.row.toRowW d [] (fun f vs => PySem.call f vs) := by
  refine Att.attach_call hn hdf fun w s₀ s₁ mg mb fa o pm cd doc a vs ns G Y ho hd hcd hmg hobj hints hlen hg => ?_
  have KX := hY w _ Y
  obtain ⟨fd, hb, hF⟩ := F w mg fa _ KX G.T.g hmg
  exact law_call KX G.T.g G.T.b G.T.builtins G.T.nolimit hg hobj hints (Nat.le_trans hlen hn2) hr hF hb (fun H hO hS => hsp w H a ns hlen hO hS) fun H e s' => hCX w H s₁ e s'
end L2
namespace L2
open PySem PySem.Spec PyProof.Rows
noncomputable def defArgs (s : Stmt) : Arguments := match s with
  | .FunctionDef _ a _ _ _ _ _ _ _ _ => a
  | _ => { posonlyargs := [], args := [], vararg := none, kwonlyargs := [], kw_defaults := [], kwarg := none, defaults := [] }
noncomputable def defBody (s : Stmt) : List Stmt := match s with
  | .FunctionDef _ _ b _ _ _ _ _ _ _ => b
  | _ => []
noncomputable def defScope (s : Stmt) : Scope := match s with
  | .FunctionDef _ _ _ _ _ _ sc _ _ _ => sc
  | _ => { kind := .function, names := [], isGenerator := false, isCoroutine := false }
noncomputable abbrev CX0 : CXT := fun _ _ _ _ _ _ => False
noncomputable abbrev E0 : XK := fun _ _ _ => False
theorem pass0 {X : Cx} : Passes CX0 X E0 := fun _ _ _ _ _ _ _ h => h.elim
structure Fun (K : PySem.W.Frag) (x qual : Str) (st : Stmt) (f : Addr) (fd : FuncData) : Prop where
  ex : ∃ (oc : Value) (od : Option Addr) (kV doc pm : Value) (an : Option Addr) (cdv ct : Value) (osl : Array (Option Value)),
    fd = PySem.W.fnOf x qual (defArgs st) (defBody st) (defScope st) .none kV doc pm an cdv ct ∧ K.lookup f = some ⟨oc, od, .func fd, osl⟩ ∧ PySem.W.codeIn K cdv qual = true
  kp : PySem.W.keepIn K (.ref f) = true
section
variable {P : Program} {w : World} {K : PySem.W.Frag} {mg : Str → Option Value} {base : Heap}
theorem Fun.ok {x qual : Str} {st : Stmt} {f : Addr} {fd : FuncData} {N ps : List Str} {k : Nat} {sp : Sp} (F : Fun K x qual st f fd) (S : FnScope N ps (defScope st)) (len : ∀ vs H Q E, sp vs H Q E → vs.length = ps.length)
    (hbody : ∀ (cdv : Value) (A : Around) (outer : List Env) (s : Shared) (H : Hp) (vs : List V) (Q : VK) (E : XK), Room k (A.deeper (envOfC qual (defScope st) s.heap.objs.size f cdv)) → sp vs H Q E →
      ∃ t, PSs (cxOf CX0 P w K mg base N qual (defScope st) f cdv A outer s H E).nox (defBody st) t ∧ t { nx := fun _ H' => Q .non H', rt := Q } (start N vs) H) : FnOk P w K mg base CX0 (k + 1) f fd ps sp := by
  obtain ⟨oc, od, kV, doc, pm, an, cdv, ct, osl, rfl, lk, hcd⟩ := F.ex
  refine fn_of lk hcd S len fun A outer s H vs Q E hr hsp => ?_
  obtain ⟨t, h, q⟩ := hbody cdv A outer s H vs Q E hr hsp
  exact ⟨t, h.nox, q⟩
theorem Fun.binds {x qual : Str} {st : Stmt} {f : Addr} {fd : FuncData} {ps : List Str} (F : Fun K x qual st f fd)
    (h : ∀ (kV doc pm : Value) (an : Option Addr) (cdv ct : Value) (us : List Value), us.length = ps.length → bindArgs (PySem.W.fnOf x qual (defArgs st) (defBody st) (defScope st) .none kV doc pm an cdv ct) ⟨us, []⟩ = pure (ps.zip us)) : Binds K fd ps [] := by
  obtain ⟨oc, od, kV, doc, pm, an, cdv, ct, osl, rfl, lk, hcd⟩ := F.ex
  exact .all (h kV doc pm an cdv ct)
theorem fun_mk {x qual : Str} {st : Stmt} {f : Addr} {oc : Value} {od an : Option Addr} {osl : Array (Option Value)} {kV doc pm cdv ct : Value} (l : K.lookup f = some ⟨oc, od, .func (PySem.W.fnOf x qual (defArgs st) (defBody st) (defScope st) .none kV doc pm an cdv ct), osl⟩)
    (c : PySem.W.codeIn K cdv qual = true) (k : PySem.W.keepIn K (.ref f) = true) : Fun K x qual st f (PySem.W.fnOf x qual (defArgs st) (defBody st) (defScope st) .none kV doc pm an cdv ct) := ⟨⟨oc, od, kV, doc, pm, an, cdv, ct, osl, rfl, l, c⟩, k⟩
end
section
variable {X : Cx}
theorem pv (i : Nat) {x : Str} {pos : Pos} (hN : X.N[i]? = some x := by rfl) (hv : Vis X.env.scope x := by first | exact Or.inl rfl | exact Or.inr (Or.inl rfl) | exact Or.inr (Or.inr rfl)) (hd : (x == ("__debug__" : Str)) = false := by decide)
    (hcd : (x == ("__classdict__" : Str)) = false := by decide) : PE X (.Name x pos) (tVar i) := pe_var hN hv hd hcd
end
theorem iteF {A B : Prop} (h : B) : if false = true then A else B := by
  rw [if_neg Bool.false_ne_true]
  exact h
theorem iteT {A B : Prop} (h : A) : if true = true then A else B := by
  rw [if_pos rfl]
  exact h
theorem ite2 {c A B : Prop} [Decidable c] (h1 : c → A) (h2 : ¬ c → B) : if c then A else B := by
  by_cases h : c
  · rw [if_pos h]
    exact h1 h
  · rw [if_neg h]
    exact h2 h
end L2
set_option Elab.async false
set_option linter.all false
set_option maxRecDepth 100000
set_option maxHeartbeats 4000000
namespace L2
open PySem PySem.Spec PyProof.Rows
structure Blk where
  s : Shared
  H : Hp
  fp : List Addr
  C : Addr
noncomputable def clOf (names : List (Str × NameKind)) (cells : List (Str × Addr)) : List (Str × Addr) :=
  names.foldl (fun acc p => if p.2 == .free then (p.1, (cells.lookup p.1).getD 0) :: acc else acc) []
noncomputable def blk (X : Cx) (sc : Scope) (own : List Str) (js : List Nat) (z : Blk) : Cx where
  prog := X.prog
  w := X.w
  K := X.K
  mg := X.mg
  base := X.base
  A := X.A
  N := own ++ js.map fun j => X.N.getD j ""
  s₀ := z.s
  H₀ := z.H
  env := compEnvC sc (clOf sc.names X.env.cells) z.C X.env
  outer := X.stack
  stack := X.stack
  ex := z.fp
  fn := fun _ => false
  calm := X.calm
  pn := []
  xe := fun _ _ => False
noncomputable def okBlk (sc out : Scope) : Bool := sc.names.all fun p => p.2 != .cell && (p.2 != .local || sc.names.lookup p.1 == some .local) && (p.2 != .free || out.names.lookup p.1 == some .cell || out.names.lookup p.1 == some .free)
noncomputable def okCap (sc : Scope) (N : List Str) (js : List Nat) : Bool := js.all fun j => decide (j < N.length) && (sc.names.lookup (N.getD j "") == some .free)
noncomputable def capt (n : Nat) (js : List Nat) (σ : St) : St := List.replicate n none ++ js.map fun j => (σ[j]?).join
theorem clOf_gen (cells : List (Str × Addr)) : ∀ (names : List (Str × NameKind)) (acc : List (Str × Addr)) (x : Str) (c : Addr),
    (names.foldl (fun acc p => if p.2 == .free then (p.1, (cells.lookup p.1).getD 0) :: acc else acc) acc).lookup x = some c →
    ((x, NameKind.free) ∈ names ∧ c = (cells.lookup x).getD 0) ∨ acc.lookup x = some c
  | [], acc, x, c, h => .inr h
  | (n, k) :: r, acc, x, c, h => by
    rw [List.foldl_cons] at h
    rcases clOf_gen cells r _ x c h with ⟨h1, h2⟩ | h1
    · exact .inl ⟨List.mem_cons_of_mem _ h1, h2⟩
    · cases hk : (k == NameKind.free) with
      | false => 
        simp only [hk] at h1
        exact .inr h1
      | true =>
        simp only [hk, if_true] at h1
        rw [List.lookup_cons] at h1
        cases hx : (x == n) with
        | false => rw [hx] at h1; exact .inr h1
        | true =>
          rw [hx] at h1
          have e1 : x = n := by simpa using hx
          have e2 : k = .free := by simpa using hk
          subst e1 e2
          exact .inl ⟨List.mem_cons_self, (Option.some.inj h1).symm⟩
theorem clOf_has (cells : List (Str × Addr)) : ∀ (names : List (Str × NameKind)) (acc : List (Str × Addr)) (x : Str),
    ((x, NameKind.free) ∈ names ∨ (acc.lookup x).isSome = true) → ((names.foldl (fun acc p => if p.2 == .free then (p.1, (cells.lookup p.1).getD 0) :: acc else acc) acc).lookup x).isSome = true
  | [], acc, x, h => by
    rcases h with h | h
    · simp at h
    · exact h
  | (n, k) :: r, acc, x, h => by
    rw [List.foldl_cons]
    apply clOf_has cells r
    rcases h with h | h
    · rcases List.mem_cons.mp h with e | h
      · right
        cases e
        simp [List.lookup_cons]
      · exact .inl h
    · right
      cases hk : (k == NameKind.free) with
      | false => simpa [hk] using h
      | true =>
        simp only [hk, if_true, List.lookup_cons]
        cases hx : (x == n) with
        | true => rfl
        | false => exact h
theorem closure_eq {env : Env} {sc : Scope} (h : ∀ p ∈ sc.names, p.2 = .free → ∃ c, env.cells.lookup p.1 = some c) : closureFor sc env = pure (clOf sc.names env.cells) := by
  have go : ∀ (names : List (Str × NameKind)) (acc : List (Str × Addr)), (∀ p ∈ names, p.2 = NameKind.free → ∃ c, env.cells.lookup p.1 = some c) →
      (forIn names acc fun (p : Str × NameKind) (r : List (Str × Addr)) => (match p with | (name, kind) => if (kind == NameKind.free) = true then do let c ← cellOf env name; pure (ForInStep.yield ((name, c) :: r)) else pure (ForInStep.yield r) : Sem _)) =
      pure (names.foldl (fun acc p => if p.2 == .free then (p.1, (env.cells.lookup p.1).getD 0) :: acc else acc) acc) := by
    intro names
    induction names with
    | nil => intro acc _; rfl
    | cons p r ih =>
      intro acc hp
      obtain ⟨n, k⟩ := p
      rw [List.forIn_cons, List.foldl_cons]
      cases hk : (k == NameKind.free) with
      | false =>
        simp only [hk, Bool.false_eq_true, if_false]
        exact ih acc fun q hq => hp q (List.mem_cons_of_mem _ hq)
      | true =>
        obtain ⟨c, hc⟩ := hp (n, k) List.mem_cons_self (by simpa using hk)
        have e : cellOf env n = pure c := by
          unfold cellOf
          rw [show env.cells.lookup n = some c from hc]
        simp only [hk, if_true, e]
        have hc' : env.cells.lookup n = some c := hc
        rw [hc']
        exact ih _ fun q hq => hp q (List.mem_cons_of_mem _ hq)
  unfold closureFor clOf
  have := go sc.names [] h
  simp only [this]
  rfl
noncomputable def PCs (X : Cx) (ifs : List Expr) (t : TT) : Prop :=
  ∀ (pins : List (Addr × Obj)) (s : Shared) (σ : St) (H : Hp) (Q : Bool → Hp → Prop), Inv X pins σ H s → t σ H Q →
    wpAny (model X.prog X.w) X.A (forIn ifs true fun c r => if r = true then do let ok ← isTrue c X.env (eval c X.env); pure (ForInStep.yield ok) else pure (ForInStep.yield r)) (TP X pins σ Q) X.xe s
noncomputable def tYes : TT := fun _ H Q => Q true H
theorem pcs_nil {X : Cx} : PCs X [] tYes := fun _ _ _ H _ I h => wpAny_tests_nil ⟨H, I, h⟩
theorem compLoop_own {prog : Program} {w : World} {A : Around} {R : Result → Shared → Prop} {t0 : Shared} {elt tgt iter : Expr} {ifs : List Expr} {sc : Scope} {ps : Pos} {itv acc : Value} {ce : Env} (Wd : Nat → Shared → Prop)
    (step : ∀ k t, Wd k t → wpAny (model prog w) A (pyNext itv) (fun got t1 =>
      match got with
      | none => R (.ok .next) t1
      | some u => wpAny (model prog w) A (letOwnedTupleGo tgt itv u) (fun _ t2 => wpAny (model prog w) A (assign tgt ce u) (fun _ t3 =>
          wpAny (model prog w) A (forIn ifs true fun c r => if r = true then do let ok ← isTrue c ce (eval c ce); pure (ForInStep.yield ok) else pure (ForInStep.yield r)) (fun yes t4 =>
            if yes = true then wpAny (model prog w) A (eval elt ce) (fun val t5 => wpAny (model prog w) A (call (.builtin "list.append") [acc, val]) (fun _ t6 => ∃ m, m < k ∧ Wd m t6) (fun _ _ => False) t5) (fun _ _ => False) t4
            else ∃ m, m < k ∧ Wd m t4) (fun _ _ => False) t3) (fun _ _ => False) t2) (fun _ _ => False) t1) (fun _ _ => False) t)
    (k0 : Nat) (start : Wd k0 t0) : codeAny (model prog w) A (.compLoop (.ListComp elt [⟨tgt, iter, ifs, 0⟩] sc ps) 0 itv acc ce) R t0 := by
  refine codeAny_loop rfl Wd (fun k t hW => ?turn) k0 start
  case turn =>
    have nox : ∀ {α : Type} {m : Sem α} {Q : α → Shared → Prop} {E : Value → Shared → Prop} {z : Shared}, wpAny (model prog w) A m Q (fun _ _ => False) z → wpAny (model prog w) A m Q E z := fun h => wpAny_mono h (fun _ _ q => q) fun _ _ f => f.elim
    show wpAny _ A ((compTurn (.ListComp elt [⟨tgt, iter, ifs, 0⟩] sc ps) 0 itv acc ce).onRaise (fun x => do noteFrame x ce; theTreesLotGoes x)) _ _ t
    apply wpAny_noted
    rw [compTurn_list]
    refine wpAny_bind (wpAny_standAt (wpAny_bind (nox (wpAny_mono (step k t hW) (fun got t1 h1 => ?_) fun _ _ f => f))))
    cases got with
    | none => exact wpAny_pure h1
    | some u =>
      refine wpAny_bind (nox (wpAny_mono h1 (fun _ t2 h2 => ?_) fun _ _ f => f))
      refine wpAny_bind (nox (wpAny_mono h2 (fun _ t3 h3 => ?_) fun _ _ f => f))
      refine wpAny_bind (nox (wpAny_mono h3 (fun yes t4 h4 => ?_) fun _ _ f => f))
      cases yes with
      | false =>
        rw [if_neg Bool.false_ne_true] at h4
        exact wpAny_pure ⟨rfl, h4⟩
      | true =>
        rw [if_pos rfl] at h4
        refine wpAny_bind (wpAny_bind (nox (wpAny_mono h4 (fun val t5 h5 => ?_) fun _ _ f => f)))
        exact wpAny_bind (nox (wpAny_mono h5 (fun _ t6 h6 => wpAny_pure (wpAny_pure ⟨rfl, h6⟩)) fun _ _ f => f))
section
variable {X : Cx} {pins : List (Addr × Obj)} {σ : St} {H : Hp} {s : Shared}
noncomputable def listObj (its : List Value) (n : Nat) : Obj := { cls := .type "list", data := .seq its.toArray n }
theorem okBlk_free {sc out : Scope} (h : okBlk sc out = true) {p : Str × NameKind} (hp : p ∈ sc.names) (hf : p.2 = .free) : out.names.lookup p.1 = some .cell ∨ out.names.lookup p.1 = some .free := by
  have := List.all_eq_true.mp h p hp
  simp only [hf, Bool.and_eq_true, Bool.or_eq_true, beq_iff_eq, bne_iff_ne, ne_eq, not_true, false_or] at this
  exact this.2
theorem okBlk_cell {sc out : Scope} (h : okBlk sc out = true) {p : Str × NameKind} (hp : p ∈ sc.names) : p.2 ≠ .cell := by
  have := List.all_eq_true.mp h p hp
  simp only [Bool.and_eq_true, bne_iff_ne, ne_eq] at this
  exact this.1.1
theorem okBlk_local {sc out : Scope} (h : okBlk sc out = true) {p : Str × NameKind} (hp : p ∈ sc.names) (hf : p.2 = .local) : sc.names.lookup p.1 = some .local := by
  have := List.all_eq_true.mp h p hp
  simp only [hf, Bool.and_eq_true, Bool.or_eq_true, beq_iff_eq, bne_iff_ne, ne_eq, not_true, false_or] at this
  exact this.1.2
theorem relabel_lookup {sc : Scope} {env : Env} {x : Str} : ∀ {names : List (Str × NameKind)} {k : NameKind}, (names.map fun (p : Str × NameKind) => match p with | (n, k) => if (k == NameKind.free && env.scope.kind == .function && env.kindOf n == some .cell) then (n, NameKind.cell) else (n, k)).lookup x = some k →
    ∃ k', names.lookup x = some k' ∧ (k' = k ∨ (k' = .free ∧ k = .cell))
  | [], _, h => by simp at h
  | (n, q) :: r, k, h => by
    rw [List.map_cons] at h
    rw [List.lookup_cons]
    cases hx : (x == n) with
    | true =>
      refine ⟨q, rfl, ?_⟩
      by_cases hc : (q == NameKind.free && env.scope.kind == .function && env.kindOf n == some .cell) = true
      · simp only [hc, if_true, List.lookup_cons, hx] at h
        right
        simp only [Bool.and_eq_true, beq_iff_eq] at hc
        exact ⟨hc.1.1, (Option.some.inj h).symm⟩
      · left
        have h2 : List.lookup x ((n, q) :: (r.map fun (p : Str × NameKind) => match p with | (n, k) => if (k == NameKind.free && env.scope.kind == .function && env.kindOf n == some .cell) then (n, NameKind.cell) else (n, k))) = some k := by
          have h3 := h
          dsimp only at h3
          rw [if_neg hc] at h3
          exact h3
        rw [List.lookup_cons, hx] at h2
        exact Option.some.inj h2
    | false =>
      have : List.lookup x (r.map fun (p : Str × NameKind) => match p with | (n, k) => if (k == NameKind.free && env.scope.kind == .function && env.kindOf n == some .cell) then (n, NameKind.cell) else (n, k)) = some k := by
        by_cases hc : (q == NameKind.free && env.scope.kind == .function && env.kindOf n == some .cell) = true
        · simpa only [hc, if_true, List.lookup_cons, hx] using h
        · dsimp only at h
          rw [if_neg hc, List.lookup_cons, hx] at h
          exact h
      exact relabel_lookup (sc := sc) this
theorem mem_of_lookup' {names : List (Str × NameKind)} {x : Str} {k : NameKind} (h : names.lookup x = some k) : (x, k) ∈ names := PySem.mem_of_lookup h
theorem cl_sub (ok : X.Ok) {sc : Scope} (hb : okBlk sc X.env.scope = true) {x : Str} {c : Addr} (h : (clOf sc.names X.env.cells).lookup x = some c) : X.env.cells.lookup x = some c := by
  rcases clOf_gen X.env.cells sc.names [] x c h with ⟨h1, h2⟩ | h1
  · obtain ⟨d, hd⟩ := ok.has x (okBlk_free hb h1 rfl)
    rw [hd] at h2 ⊢
    rw [h2]
    rfl
  · simp at h1
theorem cl_has {sc : Scope} {x : Str} {cells : List (Str × Addr)} (h : (x, NameKind.free) ∈ sc.names) : ∃ c, (clOf sc.names cells).lookup x = some c :=
  Option.isSome_iff_exists.mp (clOf_has cells sc.names [] x (.inl h))
theorem Inv.stk_lt (I : Inv X pins σ H s) {b : Addr} (hb : b ∈ frs X.stack) : b < s.heap.objs.size := by
  rcases List.mem_cons.mp (I.stkSub b hb) with e | h
  · rw [e]; exact I.lt
  · obtain ⟨_, o, ho, _⟩ := I.ok.funs.mem h
    exact Nat.lt_of_lt_of_le (Heap.lt_size ho) I.sz
theorem Inv.cell_lt (I : Inv X pins σ H s) {x : Str} {c : Addr} (h : X.env.cells.lookup x = some c) : c < s.heap.objs.size := by
  obtain ⟨v, q⟩ := I.cell x c h
  exact q.lt
theorem Inv.pin_lt (I : Inv X pins σ H s) {p : Addr × Obj} (h : p ∈ X.pn ++ pins) : p.1 < s.heap.objs.size := Heap.lt_size (I.pin p h).1
theorem blk_ok (I : Inv X pins σ H s) {sc : Scope} {own : List Str} {js : List Nat} {fp : List Addr} {C : Nat} (hk : sc.kind = .function) (hb : okBlk sc X.env.scope = true)
    (hfp : ∀ b ∈ fp, FpOk X pins H b) (hC : s.heap.objs.size ≤ C) (hlt : ∀ b ∈ fp, b < s.heap.objs.size) : (blk X sc own js ⟨s, H, fp, C⟩).Ok where
  mod := I.ok.mod
  kind := hk
  glob := I.ok.glob
  blt := I.ok.blt
  above := hC
  inj := fun x y c h1 h2 => I.ok.inj x y c (cl_sub I.ok hb h1) (cl_sub I.ok hb h2)
  has := fun x hx => by
    have hx' : (relabel sc X.env).names.lookup x = some .cell ∨ (relabel sc X.env).names.lookup x = some .free := hx
    have go : ∀ k, (relabel sc X.env).names.lookup x = some k → (k = .cell ∨ k = .free) → ∃ c, (clOf sc.names X.env.cells).lookup x = some c := fun k h hkk => by
      obtain ⟨k', h1, h2⟩ := relabel_lookup (sc := sc) (env := X.env) h
      have m := mem_of_lookup' h1
      rcases h2 with h2 | ⟨h2, _⟩
      · subst h2
        rcases hkk with e | e
        · exact absurd e (okBlk_cell hb m)
        · rw [e] at m; exact cl_has m
      · rw [h2] at m; exact cl_has m
    rcases hx' with h | h
    · exact go _ h (.inl rfl)
    · exact go _ h (.inr rfl)
  cab := fun x c h _ => by cases h
  hd := I.ok.hd
  frames := I.ok.frames
  stk := .inl rfl
  exf := fun b hb' => ⟨Nat.ne_of_lt (Nat.lt_of_lt_of_le (hlt b hb') hC), fun x c e => (hfp b hb').2.2.2.2.1 x c (cl_sub I.ok hb e)⟩
  bs := I.bs
  bsz := Nat.le_trans I.ok.bsz I.sz
  noex := fun b o e hb' => by
    rcases (hfp b hb').2.2.2.1 with z | z
    · exact I.ok.noex b o e z
    · exact absurd (Nat.lt_of_lt_of_le (Heap.lt_size e) (Nat.le_trans I.ok.bsz z)) (Nat.lt_irrefl _)
  exfs := fun b hb' hm => by
    rcases List.mem_cons.mp (I.stkSub b hm) with e | h
    · exact (hfp b hb').2.1 e
    · exact (hfp b hb').2.2.1 h
  funs := I.stack
  frf := I.stkFree
theorem capt_get {n : Nat} {js : List Nat} {i : Nat} {v : V} (h : (capt n js σ)[i]? = some (some v)) : ∃ k j, i = n + k ∧ js[k]? = some j ∧ σ[j]? = some (some v) := by
  unfold capt at h
  by_cases hi : i < n
  · rw [List.getElem?_append_left (by simpa using hi), List.getElem?_replicate] at h
    split at h <;> cases h
  · rw [List.getElem?_append_right (by simpa using Nat.le_of_not_lt hi), List.length_replicate, List.getElem?_map] at h
    cases e : js[i - n]? with
    | none => rw [e] at h; cases h
    | some j =>
      rw [e] at h
      refine ⟨i - n, j, by omega, e, ?_⟩
      have h' : (σ[j]?).join = some v := by simpa using h
      cases q : σ[j]? with
      | none => rw [q] at h'; cases h'
      | some o =>
        rw [q] at h'
        have : o = some v := h'
        rw [this]
theorem blk_inv (I : Inv X pins σ H s) {sc : Scope} {own : List Str} {js : List Nat} {fp : List Addr} {C D : Nat} {h1 : Heap} {tk : Nat} {o : Obj} {m : Str → Option Value} (hk : sc.kind = .function) (hb : okBlk sc X.env.scope = true) (hj : okCap sc X.N js = true)
    (hfp : ∀ b ∈ fp, FpOk X pins H b) (hlt : ∀ b ∈ fp, b < s.heap.objs.size) (hD : D = s.heap.objs.size) (hC : C = s.heap.objs.size + 1) (old : ∀ b o, s.heap.get? b = some o → h1.get? b = some o)
    (hDo : h1.get? D = some o) (hod : ∀ v, o.data ≠ .cell v) (hm : h1.Ns C m) :
    Inv (blk X sc own js ⟨s, H, fp, C⟩) [(D, o)] (capt own.length js σ) H { s with heap := h1, toks := tk } where
  ok := blk_ok I hk hb hfp (show @LE.le Nat _ s.heap.objs.size C by omega) hlt
  os := rfl
  bare := I.bare
  base := Un.kept old
  loc := by
    refine ⟨m, hm, fun i x v e1 e2 e3 => ?_⟩
    obtain ⟨k, j, rfl, ej, es⟩ := capt_get e2
    have e1' : (own ++ js.map fun j => X.N.getD j "")[own.length + k]? = some x := e1
    rw [List.getElem?_append_right (by omega), Nat.add_sub_cancel_left, List.getElem?_map, ej] at e1'
    have ex : X.N.getD j "" = x := by simpa using e1'
    have hjj := List.all_eq_true.mp hj j (List.mem_of_getElem? ej)
    simp only [Bool.and_eq_true, decide_eq_true_eq, beq_iff_eq] at hjj
    have exN : X.N[j]? = some x := by
      rw [← ex, List.getD_eq_getElem?_getD, List.getElem?_eq_getElem hjj.1]
      rfl
    have hfree : sc.names.lookup x = some .free := by rw [← ex]; exact hjj.2
    have hmem := mem_of_lookup' hfree
    have hout := okBlk_free hb hmem rfl
    obtain ⟨m0, hn0, hl0⟩ := I.loc
    obtain ⟨u, r, l⟩ := hl0 j x v exN es (by rcases hout with z | z; exact .inr (.inl z); exact .inr (.inr z))
    refine ⟨u, r, ?_⟩
    obtain ⟨c, hc⟩ := cl_has (cells := X.env.cells) hmem
    have hc' := cl_sub I.ok hb hc
    have hcell : s.heap.IsCell c (some u) := by
      rcases l with ⟨z, _⟩ | ⟨_, c', e', q⟩
      · have z' : X.env.scope.names.lookup x = some .local := z
        rcases hout with w | w <;> (rw [z'] at w; cases w)
      · rw [hc'] at e'; cases e'; exact q
    have hcell1 : h1.IsCell c (some u) := by
      obtain ⟨oc, ho, hd⟩ := hcell
      exact ⟨oc, old c oc ho, hd⟩
    right
    refine ⟨?_, c, hc, hcell1⟩
    have e3' : (relabel sc X.env).names.lookup x = some .local ∨ (relabel sc X.env).names.lookup x = some .cell ∨ (relabel sc X.env).names.lookup x = some .free := e3
    rcases e3' with z | z
    · obtain ⟨k', z1, z2⟩ := relabel_lookup (sc := sc) (env := X.env) z
      rw [hfree] at z1
      rcases z2 with z2 | ⟨_, z2⟩
      · rw [z2] at z1; cases z1
      · cases z2
    · exact z
  cell := fun x c e => by
    obtain ⟨v, oc, ho, hd⟩ := I.cell x c (cl_sub I.ok hb e)
    exact ⟨v, oc, old c oc ho, hd⟩
  free := I.hok.fresh (show @LE.le Nat _ s.heap.objs.size C by omega)
  freeC := fun x c e => I.freeC x c (cl_sub I.ok hb e)
  pin := fun p hp => by
    have e : p = (D, o) := by simpa [blk] using hp
    subst e
    refine ⟨hDo, I.hok.fresh (show @LE.le Nat _ s.heap.objs.size D by omega), ?_, fun z => ?_, hod⟩
    · exact Nat.ne_of_lt (show @LT.lt Nat _ D C by omega)
    · have h9 : @LT.lt Nat _ D s.heap.objs.size := I.stk_lt (b := D) z
      omega
  hok := I.hok.kept old
  len := by
    show (capt own.length js σ).length = (own ++ js.map fun j => X.N.getD j "").length
    simp [capt]
noncomputable def CompBody (J : It) (n : Nat) (js : List Nat) (g : TG) (tc : TT) (te : TE) (σ : St) (H : Hp) (Q : VK) : Prop :=
  ∃ W : Nat → Nat → List V → Hp → Prop, (∃ m, W 0 m [] H) ∧ ∀ i m ys H', W i m ys H' →
    (J.stop i H' ∧ ∀ p, H' p = none → Q (.ref p) (upd H' p (.lst ys))) ∨
    (J.go i H' ∧ ys.length < sizeLine ∧ ∃ N : List V → Hp → Prop, (∀ ys' H2, N ys' H2 → ∃ m', m' < m ∧ W (i + 1) m' ys' H2) ∧ ∀ x H2, J.yld i H' x H2 → g x (capt n js σ) H2 fun σ2 H3 => tc σ2 H3 fun b H4 =>
      if b = true then te σ2 H4 fun v H5 => N (ys ++ [v]) H5 else N ys H4)
noncomputable def tComp (n : Nat) (js : List Nat) (wi : TI) (g : TG) (tc : TT) (te : TE) : TE := fun σ H Q => wi σ H fun J H1 => CompBody J n js g tc te σ H1 Q
theorem comp_core {elt tg iter : Expr} {ifs : List Expr} {sc : Scope} {pos : Pos} {own : List Str} {js : List Nat} {g : TG} {tc : TT} {te : TE} {J : It} {it : Addr} {fp : List Addr} {tn : Nat → Heap → Prop} {RR : Value → Addr → Result → Shared → Prop} {E : Value → Shared → Prop}
    {Q : VK} {W : Nat → Nat → List V → Hp → Prop} (hk : sc.kind = .function) (hb : okBlk sc X.env.scope = true) (hj : okCap sc X.N js = true) (hc : X.calm = true)
    (hg : ∀ z, PG (blk X sc own js z) tg g) (ht : ∀ z, PCs (blk X sc own js z) ifs tc) (he : ∀ z, PE (blk X sc own js z) elt te)
    (I : Inv X pins σ H s) (T : Turn X.prog X.w X.K tg J fp it tn) (st : tn 0 s.heap) (hfp : ∀ b ∈ fp, FpOk X pins H b) (w0 : ∃ m, W 0 m [] H)
    (turn : ∀ i m ys H', W i m ys H' → (J.stop i H' ∧ ∀ p, H' p = none → Q (.ref p) (upd H' p (.lst ys))) ∨
      (J.go i H' ∧ ys.length < sizeLine ∧ ∃ N : List V → Hp → Prop, (∀ ys' H2, N ys' H2 → ∃ m', m' < m ∧ W (i + 1) m' ys' H2) ∧ ∀ x H2, J.yld i H' x H2 → g x (capt own.length js σ) H2 fun σ2 H3 => tc σ2 H3 fun b H4 =>
        if b = true then te σ2 H4 fun v H5 => N (ys ++ [v]) H5 else N ys H4))
    (fin : ∀ D C s' ys H', H' D = none → Inv X pins σ (upd H' D (.lst ys)) s' → FpOk X pins (upd H' D (.lst ys)) C → (∃ m, s'.heap.Ns C m) → s.heap.objs.size ≤ C → Q (.ref D) (upd H' D (.lst ys)) → RR (.ref D) C (.ok .next) s') :
    wpAny (model X.prog X.w) X.A (newList []) (fun acc s₃ => wpAny (model X.prog X.w) X.A (newFunctionEnv sc X.env.globals (clOf sc.names X.env.cells) [] X.env.qual none .none (some X.env)) (fun cenv s₄ =>
      codeAny (model X.prog X.w) X.A (.compStart (.ListComp elt [⟨tg, iter, ifs, 0⟩] sc pos) 0 (.ref it) acc { cenv with scope := relabel sc X.env }) (RR acc cenv.locals) s₄) E s₃) E s := by
  have hlt : ∀ b ∈ fp, b < s.heap.objs.size := fun b hb' => by
    obtain ⟨o, e, _⟩ := T.obj 0 s.heap st b hb'
    exact Heap.lt_size e
  refine wpAny_newObj_type (wpAny_newFunctionEnv (fun y hy => okBlk_cell hb hy) (by intro y hy; simp at hy) (fun h₁ hns₁ hsb₁ => ?_) hk)
  dsimp only at hns₁ hsb₁ ⊢
  generalize hH2 : s.heap.push { cls := .type "list", dict := none, data := .seq ([] : List Value).toArray } = H2 at hns₁ hsb₁ ⊢
  have hCs : H2.objs.size = s.heap.objs.size + 1 := by rw [← hH2, Heap.size_push]
  generalize hCe : H2.objs.size = C at *
  have below : ∀ b : Nat, b < s.heap.objs.size → b ≠ C := fun b hb' => by omega
  have old : ∀ b o, s.heap.get? b = some o → h₁.get? b = some o := fun b o e => hsb₁.extBut b o (below b (Heap.lt_size e)) (Heap.get?_push_of_some _ (hH2 ▸ Heap.get?_push_of_some _ e))
  have hDo : h₁.get? s.heap.objs.size = some (listObj [] 0) := hsb₁.extBut _ _ (show @Ne Nat s.heap.objs.size C by omega) (Heap.get?_push_of_some _ (hH2 ▸ Heap.get?_push_size _ rfl))
  generalize hDe : s.heap.objs.size = D at *
  -- the loop's word
  let Y : Cx := blk X sc own js ⟨s, H, fp, C⟩
  have J0 : Inv Y [(D, listObj [] 0)] (capt own.length js σ) H { s with heap := h₁, toks := s.toks + ([] : List (Str × Value)).length } :=
    blk_inv I hk hb hj hfp (by rw [hDe]; exact hlt) hDe.symm (by rw [hDe]; exact hCs) old hDo (fun v z => by cases z) hns₁
  have ndC : @Ne Nat D C := by omega
  have statF : ∀ {P' : List (Addr × Obj)} {H' : Hp}, (∀ b ∈ fp, H' b = none) → (∀ p ∈ P', p.1 ∉ fp) → ∀ b ∈ fp, FpOk Y P' H' b := fun {P' H'} hn hp b hb' => by
    obtain ⟨f0, f1, f2, f3, f4, f5⟩ := hfp b hb'
    refine ⟨hn b hb', fun z => below b (hlt b hb') z, fun z => ?_, .inl hb', fun x c e => f4 x c (cl_sub I.ok hb e), fun p hp' z => ?_⟩
    · rcases List.mem_cons.mp (I.stkSub b z) with e | h
      · exact f1 e
      · exact f2 h
    · have : p ∈ P' := by simpa [Y, blk] using hp'
      exact hp p this (by rw [z]; exact hb')
  have Dfp : D ∉ fp := fun z => by have h9 : @LT.lt Nat _ D D := hlt D z; omega
  have st1 : tn 0 h₁ := T.keep 0 s.heap h₁ st fun b _ o e => old b o e
  have loop : ∀ s₃ : Shared, s₃ = { s with heap := h₁, toks := s.toks + ([] : List (Str × Value)).length } →
      codeAny (model X.prog X.w) X.A (.compLoop (.ListComp elt [⟨tg, iter, ifs, 0⟩] sc pos) 0 (.ref it) (.ref D) Y.env) (RR (.ref D) C) s₃ := by
    rintro s₃ rfl
    obtain ⟨m0, w0⟩ := w0
    refine compLoop_own (fun n s' => ∃ i ys its q H', Inv Y [(D, listObj its q)] (capt own.length js σ) H' s' ∧ Vals ys its ∧ ys.length ≤ sizeLine ∧ tn i s'.heap ∧ (∀ b ∈ fp, H' b = none) ∧ W i n ys H') ?_ m0
      ⟨0, [], [], 0, H, J0, .nil, Nat.zero_le _, st1, fun b hb' => (hfp b hb').1, w0⟩
    rintro n s3 ⟨i, ys, its, q, H3, I3, rv, hz, st3, fr3, w3⟩
    have pD : ∀ p ∈ [(D, listObj its q)], p.1 ∉ fp := fun p hp => by
      have e : p = (D, listObj its q) := by simpa using hp
      rw [e]; exact Dfp
    rcases turn i n ys H3 w3 with ⟨stop, qn⟩ | ⟨go, hlen, N, hN, step⟩
    · -- the end
      refine thn (T.done Y rfl rfl rfl hc i _ s3 _ H3 _ I3 (statF fr3 pD) st3 stop) fun r s4 ⟨hr, I4⟩ => ?_
      subst hr
      show RR (.ref D) C (.ok .next) s4
      have hDp := I4.pin (D, listObj its q) (List.mem_append_right _ (List.mem_singleton.mpr rfl))
      have hD4 : s4.heap.get? D = some (listObj its q) := hDp.1
      have nD : H3 D = none := hDp.2.1
      have U : Un (frs X.stack) fp H H3 s.heap s4.heap := I4.base
      have neD : ∀ b o, s.heap.get? b = some o → b ≠ D := fun b o e => Nat.ne_of_lt (by have h9 : @LT.lt Nat _ b s.heap.objs.size := Heap.lt_size e; omega)
      have neDH : ∀ b o, H b = some o → b ≠ D := fun b o e => Nat.ne_of_lt (by have h9 : @LT.lt Nat _ b s.heap.objs.size := I.hok.lt e; omega)
      have U2 : Un (frs X.stack) fp H (upd H3 D (.lst ys)) s.heap s4.heap :=
        ⟨U.keep, U.slot, fun b o e n hx => by rw [upd_ne (neD b o e)]; exact U.free b o e n hx, U.there, fun b xs e => by rw [upd_ne (neDH b _ e)]; exact U.tups b xs e,
          fun b o u e => by rw [upd_ne (neDH b _ e)]; exact U.frzs b o u e, fun b ps e => by rw [upd_ne (neDH b _ e)]; exact U.tbls b ps e⟩
      have hok2 : HOk X.prog X.w (upd H3 D (.lst ys)) s4.heap := fun b o e => by
        by_cases hb' : b = D
        · subst hb'
          rw [upd_same] at e
          cases e
          exact ⟨hz, its, q, rv, hD4⟩
        · rw [upd_ne hb'] at e
          exact (I4.hok b o e).stay (fun c u _ z => z) (fun c z => by rw [upd_ne (ne_of_none z nD)]; exact z) fun c xs z => by rw [upd_ne (ne_of_none z nD)]; exact z
      have IX : Inv X pins σ (upd H3 D (.lst ys)) s4 := I.call' (ch := fp) I4.os U2 hok2 I4.bare fun b hb' => by
        obtain ⟨f0, f1, f2, f3, f4, f5⟩ := hfp b hb'
        exact ⟨f3, f1, f4, f5⟩
      obtain ⟨m4, hn4, _⟩ := I4.loc
      have nC : H3 C = none := I4.free
      refine fin D C s4 ys H3 nD IX ?_ ⟨m4, hn4⟩ (show @LE.le Nat _ D C by omega) (qn D nD)
      refine ⟨by rw [upd_ne (Ne.symm ndC)]; exact nC, ?_, ?_, ?_, ?_, ?_⟩
      · have h9 : @LT.lt Nat _ X.env.locals s.heap.objs.size := I.lt
        exact Nat.ne_of_gt (show @LT.lt Nat _ X.env.locals C by omega)
      · exact I.nofs (show @LE.le Nat _ s.heap.objs.size C by omega)
      · right
        have h9 : @LE.le Nat _ X.s₀.heap.objs.size s.heap.objs.size := I.sz
        exact (show @LE.le Nat _ X.s₀.heap.objs.size C by omega)
      · intro x c e
        have h9 : @LT.lt Nat _ c s.heap.objs.size := I.cell_lt e
        exact Nat.ne_of_lt (show @LT.lt Nat _ c C by omega)
      · intro p hp
        have h9 : @LT.lt Nat _ p.1 s.heap.objs.size := I.pin_lt hp
        exact Nat.ne_of_lt (show @LT.lt Nat _ p.1 C by omega)
    · -- a turn
      refine thn (T.item Y rfl rfl rfl hc i _ s3 _ H3 _ I3 (statF fr3 pD) st3 go) fun r s4 ⟨u, hr, h4⟩ => ?_
      subst hr
      refine thn h4 fun _ s5 ⟨x, H5, I5, r5, y5, st5, fr5⟩ => ?_
      have I5' := I5.pinned (statF fr5 pD) (T.obj _ _ st5)
      refine thn (hg _ _ s5 _ H5 x u _ I5' r5 (step x H5 y5)) fun _ s6 ⟨σ6, H6, I6, q6⟩ => ?_
      refine thn (ht _ _ s6 σ6 H6 _ I6 q6) fun ok s7 ⟨H7, I7, q7⟩ => ?_
      have back : ∀ {s' : Shared} {σ' : St} {H' : Hp} {ys' : List V} {its' : List Value} {q' : Nat}, Inv Y ([(D, listObj its' q')] ++ pinsAt fp s5.heap) σ' H' s' → Vals ys' its' → ys'.length ≤ sizeLine → N ys' H' →
          ∃ m, m < n ∧ ∃ i ys its q H', Inv Y [(D, listObj its q)] (capt own.length js σ) H' s' ∧ Vals ys its ∧ ys.length ≤ sizeLine ∧ tn i s'.heap ∧ (∀ b ∈ fp, H' b = none) ∧ W i m ys H' := by
        intro s' σ' H' ys' its' q' I' rv' hz' nn
        obtain ⟨m', hm, w'⟩ := hN ys' H' nn
        have hpin : ∀ b ∈ fp, ∀ o, s5.heap.get? b = some o → s'.heap.get? b = some o ∧ H' b = none := fun b hb' o e => by
          have := I'.pin (b, o) (List.mem_append_right _ (List.mem_append_right _ (mem_pinsAt hb' e)))
          exact ⟨this.1, this.2.1⟩
        refine ⟨m', hm, i + 1, ys', its', q', H', ?_, rv', hz', T.keep _ _ _ st5 fun b hb' o e => (hpin b hb' o e).1, fun b hb' => ?_, w'⟩
        · have I'' := I'.unpinned
          obtain ⟨mm, hmm, _⟩ := id I''.loc
          refine ⟨I''.ok, I''.os, I''.bare, I''.base, ⟨mm, hmm, fun k x v e1 e2 e3 => ?_⟩, I''.cell, I''.free, I''.freeC, I''.pin, I''.hok, ?_⟩
          · -- the captured names: their cells are as they were at the block's beginning
            obtain ⟨m1, hn1, hl1⟩ := J0.loc
            obtain ⟨u1, r1, l1⟩ := hl1 k x v e1 e2 e3
            refine ⟨u1, r1, ?_⟩
            rcases l1 with ⟨z, zz⟩ | ⟨z, c, e, zz⟩
            · -- a captured name is no local one
              exfalso
              obtain ⟨k', j, rfl, ej, es⟩ := capt_get e2
              have e1' : (own ++ js.map fun j => X.N.getD j "")[own.length + k']? = some x := e1
              rw [List.getElem?_append_right (by omega), Nat.add_sub_cancel_left, List.getElem?_map, ej] at e1'
              have ex : X.N.getD j "" = x := by simpa using e1'
              have hjj := List.all_eq_true.mp hj j (List.mem_of_getElem? ej)
              simp only [Bool.and_eq_true, decide_eq_true_eq, beq_iff_eq] at hjj
              have hfree : sc.names.lookup x = some .free := by rw [← ex]; exact hjj.2
              obtain ⟨k2, z1, z2⟩ := relabel_lookup (sc := sc) (env := X.env) (show (relabel sc X.env).names.lookup x = some .local from z)
              rw [hfree] at z1
              rcases z2 with z2 | ⟨_, z2⟩
              · rw [z2] at z1; cases z1
              · cases z2
            · refine .inr ⟨z, c, e, ?_⟩
              have hcs : X.env.cells.lookup x = some c := cl_sub I.ok hb e
              obtain ⟨ov, oc, hoc, hdc⟩ := I.cell x c hcs
              have hoc1 := old c oc hoc
              obtain ⟨oz, hoz, hdz⟩ := zz
              have hoz' : h₁.get? c = some oz := hoz
              rw [hoc1] at hoz'
              cases hoz'
              have cnf : c ∉ fp := fun z' => (hfp c z').2.2.2.2.1 x c hcs rfl
              obtain ⟨sl, hh⟩ := I''.base.any hoc (I.freeC x c hcs) cnf
              exact ⟨_, hh, hdz⟩
          · show (capt own.length js σ).length = _
            exact J0.len
        · obtain ⟨o, e, d⟩ := T.obj _ _ st5 b hb'
          exact (hpin b hb' o e).2
      cases ok with
      | false =>
        rw [if_neg Bool.false_ne_true] at q7 ⊢
        exact back I7 rv hz q7
      | true =>
        rw [if_pos rfl] at q7 ⊢
        refine thn (he _ _ s7 σ6 H7 _ I7 q7) fun xv s8 ⟨v, H8, I8, r8, q8⟩ => ?_
        have hDp := I8.pin (D, listObj its q) (List.mem_append_right _ (List.mem_append_left _ (List.mem_singleton.mpr rfl)))
        have hD8 : s8.heap.get? D = some { cls := .type "list", data := .seq its.toArray q } := hDp.1
        have hl := rv.length
        refine call_meets F.slot_list_append ⟨_, hD8, rfl⟩ F.entry_list_append (F.args_list_append_2 _ _) (PySem.list_append D its.toArray q xv (by rw [List.size_toArray]; omega)) ⟨hD8, ?_⟩
        have qq := PySem.IsL.update hD8 (fun a => a.push xv)
        have eqs : its.toArray.push xv = (its ++ [xv]).toArray := by simp
        rw [eqs] at qq
        obtain ⟨q2, hq2⟩ : ∃ q2, (s8.heap.update D (Obj.mapSeq fun a => a.push xv)).get? D = some (listObj (its ++ [xv]) q2) := ⟨_, qq⟩
        -- without the pin of D, the record turns, then it is pinned again
        have I8a : Inv Y (pinsAt fp s5.heap) σ6 H8 s8 := I8.pins_of fun p hp => I8.pin p (List.mem_append_right _ (List.mem_append_right _ hp))
        have nD8 : H8 D = none := hDp.2.1
        have I9 : Inv Y (pinsAt fp s5.heap) σ6 H8 { s8 with heap := s8.heap.update D (Obj.mapSeq fun a => a.push xv), toks := s8.toks } := by
          refine I8a.turned (it := D) (fun b o hb' e => (Heap.get?_update_other s8.heap (Obj.mapSeq fun a => a.push xv) (Ne.symm hb')).trans e) nD8 ndC (.inr (show @LE.le Nat _ s.heap.objs.size D by omega)) (fun x c e => ?_) fun p hp => ?_
          · have h9 : @LT.lt Nat _ c s.heap.objs.size := I.cell_lt (cl_sub I.ok hb e)
            exact Nat.ne_of_lt (show @LT.lt Nat _ c D by omega)
          · have hp' : p ∈ pinsAt fp s5.heap := by simpa [Y, blk] using hp
            obtain ⟨h1, _⟩ := of_pinsAt hp'
            exact fun z => Dfp (z ▸ h1)
        refine back (ys' := ys ++ [v]) (its' := its ++ [xv]) (q' := q2) (I9.pins_of fun p hp => ?_) (rv.append (.cons r8 .nil)) (by rw [List.length_append, List.length_singleton]; omega) q8
        rcases List.mem_append.mp hp with hp | hp
        · have e : p = (D, listObj (its ++ [xv]) q2) := by simpa using hp
          subst e
          refine ⟨hq2, nD8, ndC, fun z => ?_, fun v z => by cases z⟩
          have h9 : @LT.lt Nat _ D s.heap.objs.size := I.stk_lt (b := D) z
          omega
        · exact I9.pin p (List.mem_append_right _ hp)
  exact codeAny_compStart_list (loop _ rfl) (T.self X.A 0 { s with heap := h₁, toks := s.toks + ([] : List (Str × Value)).length } _ _ st1 (loop _ rfl))
theorem pe_comp {elt tg iter : Expr} {ifs : List Expr} {sc : Scope} {pos : Pos} (own : List Str) (js : List Nat) {wi : TI} {g : TG} {tc : TT} {te : TE} (hi : PI X tg iter wi) (hg : ∀ z, PG (blk X sc own js z) tg g) (ht : ∀ z, PCs (blk X sc own js z) ifs tc)
    (he : ∀ z, PE (blk X sc own js z) elt te) (hc : X.calm = true := by rfl) (hk : sc.kind = .function := by rfl) (hb : okBlk sc X.env.scope = true := by rfl) (hj : okCap sc X.N js = true := by rfl)
    (hs : ∀ x, foldedSetIterable iter X.env x = pure x := by intro _; rfl) : PE X (.ListComp elt [⟨tg, iter, ifs, 0⟩] sc pos) (tComp own.length js wi g tc te) := by
  intro pins s σ H Q I h
  rw [eval_ListComp]
  refine wpAny_comprehension_free (use := none) rfl hs (closure_eq fun p hp hf => I.ok.has p.1 (okBlk_free hb hp hf)) hk (fun p hp hl => okBlk_local hb hp hl) (thn (hi pins s σ H _ I h) fun v s1 h1 => thn h1 fun itv s2 h2 => ?_)
  obtain ⟨it, fp, tn, J, H2, e, I2, T, st2, f2, W, w0, turn⟩ := h2
  subst e
  refine comp_core (RR := fun acc C => compPost (model X.prog X.w) X.A X.xe none (EP X pins σ Q) acc C) hk hb hj hc hg ht he I2 T st2 f2 w0 turn ?_
  intro D C s' ys H' nD I' hC ⟨m, hm⟩ _ q
  refine ⟨m, hm, fun h' hs' => ?_⟩
  obtain ⟨f0, f1, f2, f3, f4, f5⟩ := hC
  exact ⟨.ref D, _, I'.turned (t' := s'.toks) (it := C) (fun b o hb' e => (hs'.2 b hb').trans e) f0 f1 f3 f4 f5, rfl, q⟩
end
theorem comp_list {K : PySem.W.Frag} {a : Addr} {xs : List V} {n : Nat} {js : List Nat} {g : TG} {tc : TT} {te : TE} {Q : VK} {σ : St} {H : Hp} (Pv : Nat → List V → Hp → Prop) (hz : xs.length ≤ sizeLine) (h0 : Pv 0 [] H) (hl : ∀ i ys H, i ≤ xs.length → Pv i ys H → SqL K H a xs ∧ ys.length ≤ i)
    (hs : ∀ i x ys H, xs[i]? = some x → Pv i ys H → g x (capt n js σ) H fun σ2 H3 => tc σ2 H3 fun b H4 => if b = true then te σ2 H4 fun v H5 => Pv (i + 1) (ys ++ [v]) H5 else Pv (i + 1) ys H4)
    (hd : ∀ ys H p, Pv xs.length ys H → H p = none → Q (.ref p) (upd H p (.lst ys))) : CompBody (Itl K a) n js g tc te σ H Q := by
  refine ⟨fun i m ys H => m = xs.length - i ∧ i ≤ xs.length ∧ Pv i ys H, ⟨xs.length, by simp, Nat.zero_le _, h0⟩, ?_⟩
  rintro i m ys H ⟨rfl, hi, p⟩
  have q := hl i ys H hi p
  by_cases hlt : i < xs.length
  · refine .inr ⟨⟨xs, xs[i], q.1, by simp [hlt]⟩, by have := q.2; omega, Pv (i + 1), fun ys' H' p' => ⟨xs.length - (i + 1), by omega, rfl, hlt, p'⟩, fun x H' y => ?_⟩
    obtain ⟨e, y⟩ := y
    subst e
    exact hs i x ys _ (y xs q.1) p
  · have e : i = xs.length := by omega
    subst e
    exact .inl ⟨⟨xs, q.1, Nat.le_refl _⟩, fun p' hp => hd ys H p' p hp⟩
theorem comp_tup {K : PySem.W.Frag} {a : Addr} {xs : List V} {n : Nat} {js : List Nat} {g : TG} {tc : TT} {te : TE} {Q : VK} {σ : St} {H : Hp} (Pv : Nat → List V → Hp → Prop) (hz : xs.length ≤ sizeLine) (h0 : Pv 0 [] H) (hl : ∀ i ys H, i ≤ xs.length → Pv i ys H → SqT K H a xs ∧ ys.length ≤ i)
    (hs : ∀ i x ys H, xs[i]? = some x → Pv i ys H → g x (capt n js σ) H fun σ2 H3 => tc σ2 H3 fun b H4 => if b = true then te σ2 H4 fun v H5 => Pv (i + 1) (ys ++ [v]) H5 else Pv (i + 1) ys H4)
    (hd : ∀ ys H p, Pv xs.length ys H → H p = none → Q (.ref p) (upd H p (.lst ys))) : CompBody (Itt K a) n js g tc te σ H Q := by
  refine ⟨fun i m ys H => m = xs.length - i ∧ i ≤ xs.length ∧ Pv i ys H, ⟨xs.length, by simp, Nat.zero_le _, h0⟩, ?_⟩
  rintro i m ys H ⟨rfl, hi, p⟩
  have q := hl i ys H hi p
  by_cases hlt : i < xs.length
  · refine .inr ⟨⟨xs, xs[i], q.1, by simp [hlt]⟩, by have := q.2; omega, Pv (i + 1), fun ys' H' p' => ⟨xs.length - (i + 1), by omega, rfl, hlt, p'⟩, fun x H' y => ?_⟩
    obtain ⟨e, y⟩ := y
    subst e
    exact hs i x ys _ (y xs q.1) p
  · have e : i = xs.length := by omega
    subst e
    exact .inl ⟨⟨xs, q.1, Nat.le_refl _⟩, fun p' hp => hd ys H p' p hp⟩
end L2
set_option Elab.async false
set_option linter.all false
set_option maxRecDepth 100000
set_option maxHeartbeats 4000000
namespace L2
open PySem PySem.Spec PyProof.Rows
structure Cal (P : Program) (w : World) (K : PySem.W.Frag) (mg : Str → Option Value) (base : Heap) (x : Str) (k : Nat) (ps : List Str) (sp : Sp) : Prop where
  ex : ∃ (f : Addr) (fd : FuncData), mg x = some (.ref f) ∧ PySem.W.keepIn K (.ref f) = true ∧ Binds K fd ps [] ∧ FnOk P w K mg base CX0 k f fd ps sp
structure Dfn (K : PySem.W.Frag) (mg : Str → Option Value) (x : Str) (st : Stmt) (ps : List Str) : Prop where
  ex : ∃ (f : Addr) (fd : FuncData), mg x = some (.ref f) ∧ Fun K x x st f fd ∧ Binds K fd ps []
section
variable {P : Program} {w : World} {K : PySem.W.Frag} {mg : Str → Option Value} {base : Heap}
theorem Dfn.ok {x : Str} {st : Stmt} {N ps : List Str} {k : Nat} {sp : Sp} (D : Dfn K mg x st ps) (S : FnScope N ps (defScope st)) (len : ∀ vs H Q E, sp vs H Q E → vs.length = ps.length)
    (hbody : ∀ (X : Cx) (hX : ∃ f cdv A outer s H E, X = (cxOf CX0 P w K mg base N x (defScope st) f cdv A outer s H E).nox ∧ Room k X.A) (H : Hp) (vs : List V) (Q : VK) (E : XK), sp vs H Q E →
      ∃ t, PSs X (defBody st) t ∧ t { nx := fun _ H' => Q .non H', rt := Q } (start N vs) H) : Cal P w K mg base x (k + 1) ps sp := by
  obtain ⟨f, fd, hm, F, hb⟩ := D.ex
  exact ⟨f, fd, hm, F.kp, hb, F.ok S len fun cdv A outer s H vs Q E hr h => hbody _ ⟨f, cdv, A, outer, s, H, E, rfl, hr⟩ H vs Q E h⟩
end
section
variable {X : Cx}
theorem pe_cal {x : Str} {k j : Nat} {ps : List Str} {sp : Sp} {e : Expr} {es : List Expr} {t : TA} {p pos : Pos} (C : Cal X.prog X.w X.K X.mg X.base x j ps sp) (hr : Room k X.A) (ha : PA X (e :: es) t) (hjk : j ≤ k := by decide) (hg : Gl X x := by rfl) (hdb : (x == ("__debug__" : Str)) = false := by decide)
    (he : starEach (e :: es) X.env = (false, eval e X.env) :: starEach es X.env := by rfl) (hpl : (backTo pos (starEach es X.env)).any (·.1) = false := by rfl) :
    PE X (.Call (.Name x p) (e :: es) [] pos) (tCall sp [] E0 t) := by
  obtain ⟨f, fd, hm, hk, hb, F⟩ := C.ex
  exact pe_call F (hr.mono hjk) hg hm hk hb .nil pass0 ha hdb he hpl
theorem op_fdivL : OpR X (binaryOp .FloorDiv) (rI (fun _ j => 0 < j ∧ j < 2 ^ 64) fun i j => .int (i / j)) := opI fun i j _ _ _ _ _ hc q => by
  have h1 : (0 : Int) < j := hc.1
  have h2 : j < 2 ^ 64 := hc.2
  refine floordiv_int (by omega) (by rw [Int.fdiv_eq_ediv_of_nonneg i (by omega)]; exact q) (.inl (PyProof.noPylong_of_log2 ?_))
  have h0 : j.natAbs ≠ 0 := by omega
  have h64 : j.natAbs < 2 ^ 64 := by omega
  have := (Nat.log2_lt h0).mpr h64
  omega
noncomputable def kindV (H : Hp) : V → String → Prop
  | .non, n => n = "NoneType"
  | .bl _, n => n = "bool"
  | .int _, n => n = "int"
  | .str _, n => n = "str"
  | .ref a, n => (n = "list" ∧ ∃ xs, H a = some (.lst xs)) ∨ (n = "tuple" ∧ ∃ xs, H a = some (.tup xs))
  | _, _ => False
theorem kindV.ty {K : PySem.W.Frag} {H : Hp} {x : V} {n : String} (h : kindV H x n) : TyOf K H x (.type n) := by
  cases x with
  | non => cases (show n = "NoneType" from h); exact .non
  | bl b => cases (show n = "bool" from h); exact .bl b
  | int i => cases (show n = "int" from h); exact .int i
  | str z => cases (show n = "str" from h); exact .str z
  | ref a =>
    rcases h with ⟨rfl, xs, e⟩ | ⟨rfl, xs, e⟩
    · exact .lst e
    · exact .tup e
  | _ => exact False.elim h
noncomputable def isiB : String → String → Option Bool
  | "NoneType", "tuple" => some false | "NoneType", "int" => some false | "NoneType", "bool" => some false | "NoneType", "list" => some false | "NoneType", "str" => some false
  | "bool", "tuple" => some false | "bool", "int" => some true | "bool", "bool" => some true | "bool", "list" => some false | "bool", "str" => some false
  | "int", "tuple" => some false | "int", "int" => some true | "int", "bool" => some false | "int", "list" => some false | "int", "str" => some false
  | "str", "tuple" => some false | "str", "int" => some false | "str", "bool" => some false | "str", "list" => some false | "str", "str" => some true
  | "list", "tuple" => some false | "list", "int" => some false | "list", "bool" => some false | "list", "list" => some true | "list", "str" => some false
  | "tuple", "tuple" => some true | "tuple", "int" => some false | "tuple", "bool" => some false | "tuple", "list" => some false | "tuple", "str" => some false
  | _, _ => none
theorem isiB_kit {K : PySem.W.Frag} {n T : String} {b : Bool} (h : isiB n T = some b) : PySem.W.kitOne K (.type n) (.type T) = some b := by
  unfold isiB at h
  split at h <;> first
    | (cases h; kernel_rfl)
    | cases h
noncomputable def rIsi : List V → Hp → VK → Prop := fun xs H Q => ∃ x n T b, xs = [x, .ty T] ∧ kindV H x n ∧ isiB n T = some b ∧ Q (.bl b) H
theorem call_isi : CallR X (.builtin "isinstance") rIsi := by
  intro pins s σ H xs us Q I r h
  obtain ⟨x, n, T, b, rfl, hk, hb, q⟩ := h
  obtain ⟨u, w', rfl, r1, r2⟩ := vals2 r
  cases (show w' = Value.type T from r2)
  exact isinst_ok I r1 hk.ty (isiB_kit hb) fun tk => ⟨.bl b, H, I.tok tk, rfl, q⟩
theorem op_isB : OpR X (compareOp .Is) (fun x y H Q => ∃ a b, x = .bl a ∧ y = .bl b ∧ Q (.bl (a == b)) H) := by
  intro pins s σ H x y v u Q I rx ry h
  obtain ⟨a, b, rfl, rfl, q⟩ := h
  cases rx; cases ry
  exact wpAny_is_plain rfl (fin_bl I q (by cases a <;> cases b <;> rfl))
noncomputable def rLen (K : PySem.W.Frag) : List V → Hp → VK → Prop := fun xs H Q => ∃ p ys, xs = [.ref p] ∧ (SqL K H p ys ∨ SqT K H p ys) ∧ Q (.int ys.length) H
theorem call_lenN : CallR X (.builtin "len") (rLen X.K) := call_len_seq
noncomputable def rTupOf (K : PySem.W.Frag) : List V → Hp → VK → Prop := fun xs H Q => ∃ p ys, xs = [.ref p] ∧ ((SqL K H p ys ∧ ∀ l, H l = none → Q (.ref l) (upd H l (.tup ys))) ∨ (SqT K H p ys ∧ Q (.ref p) H))
theorem call_tupN : CallR X (.type "tuple") (rTupOf X.K) := call_tuple_of
noncomputable def rListOf (K : PySem.W.Frag) : List V → Hp → VK → Prop := fun xs H Q => ∃ p ys, xs = [.ref p] ∧ (SqL K H p ys ∨ SqT K H p ys) ∧ ∀ l, H l = none → Q (.ref l) (upd H l (.lst ys))
theorem call_listN : CallR X (.type "list") (rListOf X.K) := call_list_of
end
end L2
set_option Elab.async false
set_option linter.all false
set_option maxRecDepth 100000
set_option maxHeartbeats 4000000
namespace L2
open PySem PySem.Spec PyProof.Rows
noncomputable def Ext (H H' : Hp) : Prop := ∀ b o, H b = some o → H' b = some o
theorem Ext.rfl' (H : Hp) : Ext H H := fun _ _ h => h
theorem Ext.trans {H H1 H2 : Hp} (a : Ext H H1) (b : Ext H1 H2) : Ext H H2 := fun x o h => b x o (a x o h)
theorem Ext.none {H H' : Hp} (e : Ext H H') {l : Addr} (h : H' l = Option.none) : H l = Option.none := by
  cases q : H l with
  | none => rfl
  | some o => rw [e l o q] at h; cases h
section
variable {X : Cx} (K : PySem.W.Frag)
theorem ix_listK (h : X.K = K := by rfl) : IxR X (rIxL K) := by subst h; exact ix_list
theorem ix_tupK (h : X.K = K := by rfl) : IxR X (rIxT K) := by subst h; exact ix_tup
theorem sl_listK (h : X.K = K := by rfl) : SlR X (rSlL K) := by subst h; exact sl_list
theorem call_lenK (h : X.K = K := by rfl) : CallR X (.builtin "len") (rLen K) := by subst h; exact call_lenN
theorem call_tupK (h : X.K = K := by rfl) : CallR X (.type "tuple") (rTupOf K) := by subst h; exact call_tupN
theorem call_listK (h : X.K = K := by rfl) : CallR X (.type "list") (rListOf K) := by subst h; exact call_listN
theorem pi_listK {tg l : Expr} {tl : TE} (hl : PE X l tl) (h : X.K = K := by rfl) : PI X tg l (iList K tl) := by subst h; exact pi_list hl
theorem pi_tupK {tg l : Expr} {tl : TE} (hl : PE X l tl) (h : X.K = K := by rfl) : PI X tg l (iTup K tl) := by subst h; exact pi_tup hl
theorem pg_tupK {es : List Expr} {k : Nat} {t : TGs} {n : Nat} {pos : Pos} (hc : X.calm = true) (hg : PGs X es t) (h : X.K = K := by rfl)
    (hn : (assignEach es X.env).length = n := by rfl) (hst : (assignEach es X.env).findIdx? (·.1) = none := by rfl) : PG X (.Tuple es k pos) (gTup K n t) := by subst h; exact pg_tup hc hg hn hst
theorem pe_bmK {o e : Expr} {es : List Expr} {to : TE} {t : TA} {name : Str} {apos cpos : Pos} {T id : String} {r : V → List V → Hp → VK → Prop} (pa : PlainAttrs T) (slot : Slot T name id) (hty : typeOf (.builtin id) = pure (.type "method_descriptor")) (hm : MtR X id r) (ho : PE X o to) (ha : PA X (e :: es) t) (h : X.K = K := by rfl)
    (hbase : attributeBase o name X.env (eval o X.env) = eval o X.env := by rfl)
    (hfew : ((backTo cpos (starEach (e :: es) X.env)).all (fun x => !x.1) && (backToKw cpos (keywordEach [] X.env)).all (fun x => x.1.isSome)
      && decide ((e :: es).length + ([] : List Keyword).length + (if ([] : List Keyword).isEmpty then 0 else 1) < 30)) = true := by rfl)
    (hline : (apos.endLine == cpos.line) = true := by rfl) (hs : starEach (e :: es) X.env = (false, eval e X.env) :: starEach es X.env := by rfl) (hplain : (backTo cpos (starEach es X.env)).any (·.1) = false := by rfl) :
    PE X (.Call (.Attribute o name apos) (e :: es) [] cpos) (tBM K T r to t) := by subst h; exact pe_bm pa slot hty hm ho ha hbase hfew hline hs hplain
end
noncomputable def tInts (ns : List Int) : TA := fun _ H Q => Q (ns.map V.int) H
inductive IntsE : List Expr → List Int → Prop
  | n : IntsE [] []
  | c {i j pos es ns} : IntsE es ns → IntsE (.Constant (.int i) j pos :: es) (i :: ns)
theorem pa_ints {X : Cx} {es : List Expr} {ns : List Int} (h : IntsE es ns) : PA X es (tInts ns) := by
  induction h with
  | n => exact pa_nil
  | @c i j pos es ns _ ih =>
    intro p pins s σ H Q I hq
    exact pa_cons (e := .Constant (.int i) j pos) pe_int ih rfl p pins s σ H Q I hq
theorem rd_ints {σ : St} {H : Hp} {ns : List Int} {R : List V → Hp → Prop} (h : R (ns.map V.int) H) : tInts ns σ H R := h
noncomputable def tIfJ (c : TT) (t u : TS) : TS := fun D σ H => ∃ R : St → Hp → Prop, (c σ H fun b H1 => if b = true then t { D with nx := R } σ H1 else u { D with nx := R } σ H1) ∧ ∀ σ' H', R σ' H' → D.nx σ' H'
theorem ps_ifJ {X : Cx} {c : Expr} {a b : List Stmt} {tc : TT} {t u : TS} {pos : Pos} (hc : PT X c tc) (ha : PSs X a t) (hb : PSs X b u) : PS X (.If c a b pos) (tIfJ tc t u) := by
  intro pins s σ H D I h
  obtain ⟨R, h, hR⟩ := h
  refine thn (ps_if hc ha hb pins s σ H { D with nx := R } I h) fun f s1 q => ?_
  cases f with
  | next =>
    obtain ⟨σ', H', I', q⟩ := q
    exact ⟨σ', H', I', hR σ' H' q⟩
  | ret v => exact q
  | brk => exact q
  | cont => exact q
noncomputable def rItL (K : PySem.W.Frag) : V → Hp → (It → Hp → Prop) → Prop := fun x H R => ∃ a, x = .ref a ∧ (∃ xs, SqL K H a xs) ∧ R (Itl K a) H
noncomputable def rItT (K : PySem.W.Frag) : V → Hp → (It → Hp → Prop) → Prop := fun x H R => ∃ a, x = .ref a ∧ (∃ xs, SqT K H a xs) ∧ R (Itt K a) H
noncomputable def rIt1 : List V → Hp → (It → Hp → Prop) → Prop := fun vs H R => ∃ j : Int, vs = [.int j] ∧ -(2 ^ 62) ≤ j ∧ j < 2 ^ 62 ∧ R (Itr 0 j.toNat) H
noncomputable def ForBody (J : It) (g : TG) (tb : TS) (D : Ends) (σ : St) (H : Hp) : Prop := ∃ W : Nat → Nat → St → Hp → Prop, (∃ m, W 0 m σ H) ∧ ∀ i m σ H, W i m σ H →
  (J.stop i H ∧ D.nx σ H) ∨ (J.go i H ∧ ∃ N : St → Hp → Prop, (∀ σ' H', N σ' H' → ∃ m', m' < m ∧ W (i + 1) m' σ' H') ∧ ∀ x H', J.yld i H x H' → g x σ H' fun σ2 H2 => tb { D with nx := N, ct := N, bk := D.nx } σ2 H2)
theorem forL {K : PySem.W.Frag} {a : Addr} {xs : List V} {g : TG} {tb : TS} {D : Ends} {σ : St} {H : Hp} (Pv : Nat → St → Hp → Prop) (h0 : Pv 0 σ H) (hl : ∀ i σ H, i ≤ xs.length → Pv i σ H → SqL K H a xs)
    (hs : ∀ i x σ H, xs[i]? = some x → Pv i σ H → g x σ H fun σ2 H2 => tb ⟨Pv (i + 1), D.rt, D.nx, Pv (i + 1)⟩ σ2 H2) (hd : ∀ σ H, Pv xs.length σ H → D.nx σ H) : ForBody (Itl K a) g tb D σ H := for_list Pv h0 hl hs hd
theorem forR {lo : Int} {n : Nat} {g : TG} {tb : TS} {D : Ends} {σ : St} {H : Hp} (Pv : Nat → St → Hp → Prop) (h0 : Pv 0 σ H)
    (hs : ∀ i σ H, i < n → Pv i σ H → g (.int (lo + i)) σ H fun σ2 H2 => tb ⟨Pv (i + 1), D.rt, D.nx, Pv (i + 1)⟩ σ2 H2) (hd : ∀ σ H, Pv n σ H → D.nx σ H) : ForBody (Itr lo n) g tb D σ H := for_range Pv h0 hs hd
noncomputable def New (H : Hp) (o : HO) (R : VK) : Prop := ∀ p, H p = none → R (.ref p) (upd H p o)
section
variable {K : PySem.W.Frag} {D : Ends} {σ : St} {H : Hp} {Q : VK} {ta tb tc te : TE} {t u : TS} {c c' : TT}
theorem rd_seq (h : t ⟨u D, D.rt, D.bk, D.ct⟩ σ H) : tSeq t u D σ H := h
theorem rd_next (h : D.nx σ H) : tNext D σ H := h
theorem rd_ret (h : te σ H D.rt) : tRet te D σ H := h
theorem rd_asg {g : TG} (h : te σ H fun x H1 => g x σ H1 D.nx) : tAsg te g D σ H := h
theorem rd_drop (h : te σ H fun _ H1 => D.nx σ H1) : tDrop te D σ H := h
theorem rd_ifS (h : c σ H fun b H1 => if b = true then t D σ H1 else u D σ H1) : tIfS c t u D σ H := h
theorem rd_ifJ (R : St → Hp → Prop) (h : c σ H fun b H1 => if b = true then t ⟨R, D.rt, D.bk, D.ct⟩ σ H1 else u ⟨R, D.rt, D.bk, D.ct⟩ σ H1) (k : ∀ σ' H', R σ' H' → D.nx σ' H') : tIfJ c t u D σ H := ⟨R, h, k⟩
theorem rd_ifN (h : c σ H fun b H1 => if b = true then t D σ H1 else u D σ H1) : tIfJ c t u D σ H := ⟨D.nx, h, fun _ _ h => h⟩
theorem rd_name {i : Nat} {v : V} {R : St → Hp → Prop} (h : R (σ.set i (some v)) H) : gName i v σ H R := h
theorem rd_var {i : Nat} {v : V} (e : σ[i]? = some (some v)) (h : Q v H) : tVar i σ H Q := ⟨v, e, h⟩
theorem rd_c {v : V} (h : Q v H) : tC v σ H Q := h
theorem rd_op {r : R2} (h : ta σ H fun x H1 => tb σ H1 fun y H2 => r x y H2 Q) : tOp r ta tb σ H Q := h
theorem rd_un {r : V → Hp → VK → Prop} (h : ta σ H fun x H1 => r x H1 Q) : tUn r ta σ H Q := h
theorem rd_CB {r : List V → Hp → VK → Prop} {a : TA} (h : a σ H fun vs H1 => r vs H1 Q) : tCB r a σ H Q := h
theorem rd_cons {a : TA} {R : List V → Hp → Prop} (h : ta σ H fun x H1 => a σ H1 fun xs H2 => R (x :: xs) H2) : tCons ta a σ H R := h
theorem rd_nil {R : List V → Hp → Prop} (h : R [] H) : tNil σ H R := h
theorem rd_test {R : Bool → Hp → Prop} (h : te σ H fun x H' => ∃ k, x = .bl k ∧ R k H') : tTest te σ H R := h
theorem rd_B {R : Bool → Hp → Prop} (h : te σ H fun x H' => ∃ k, x = .bl k ∧ R k H') : tB te σ H R := h
theorem rd_exb {b : Bool} {R : Bool → Prop} (h : R b) : ∃ k, V.bl b = V.bl k ∧ R k := ⟨b, rfl, h⟩
theorem rd_not {R : Bool → Hp → Prop} (h : c σ H fun b H1 => R (!b) H1) : tNot c σ H R := h
theorem rd_and {R : Bool → Hp → Prop} (h : c σ H fun b H1 => if b = true then c' σ H1 R else R false H1) : tAnd c c' σ H R := h
theorem rd_or {R : Bool → Hp → Prop} (h : c σ H fun b H1 => if b = true then R true H1 else c' σ H1 R) : tOr c c' σ H R := h
theorem rd_andV (h : ta σ H fun x H1 => ∃ k, x = .bl k ∧ if k = true then tb σ H1 Q else Q (.bl false) H1) : tAndV ta tb σ H Q := h
theorem rd_notV (h : ta σ H fun x H1 => ∃ k, x = .bl k ∧ Q (.bl (!k)) H1) : tNotV ta σ H Q := h
theorem rd_yes {R : Bool → Hp → Prop} (h : R true H) : tYes σ H R := h
theorem rd_I0 {g : Int → Int → V} {i j : Int} (h : Q (g i j) H) : rI0 g (.int i) (.int j) H Q := ⟨i, j, rfl, rfl, h⟩
theorem rd_I {C : Int → Int → Prop} {g : Int → Int → V} {i j : Int} (hc : C i j) (h : Q (g i j) H) : rI C g (.int i) (.int j) H Q := ⟨i, j, rfl, rfl, hc, h⟩
theorem rd_U {g : Int → V} {i : Int} (h : Q (g i) H) : rU g (.int i) H Q := ⟨i, rfl, h⟩
theorem rd_EqI {i j : Int} (h : Q (.bl (decide (i = j))) H) : rEq (.int i) (.int j) H Q := ⟨rfl, by
  have e : decide (V.int i = V.int j) = decide (i = j) := by rw [Bool.eq_iff_iff]; simp
  rw [e]; exact h⟩
theorem rd_NeI {i j : Int} (h : Q (.bl (!decide (i = j))) H) : rNe (.int i) (.int j) H Q := ⟨rfl, by
  have e : decide (V.int i = V.int j) = decide (i = j) := by rw [Bool.eq_iff_iff]; simp
  rw [e]; exact h⟩
theorem rd_ixL {p : Addr} {xs : List V} {i : Int} {v : V} (e : SqL K H p xs) (a : atI xs i = some v) (h : Q v H) : rIxL K (.ref p) (.int i) H Q := ⟨p, xs, i, v, rfl, rfl, e, a, h⟩
theorem rd_ixT {p : Addr} {xs : List V} {i : Int} {v : V} (e : SqT K H p xs) (a : atI xs i = some v) (h : Q v H) : rIxT K (.ref p) (.int i) H Q := ⟨p, xs, i, v, rfl, rfl, e, a, h⟩
theorem rd_lenL {p : Addr} {xs : List V} (e : SqL K H p xs) (h : Q (.int xs.length) H) : rLen K [.ref p] H Q := ⟨p, xs, rfl, .inl e, h⟩
theorem rd_lenT {p : Addr} {xs : List V} (e : SqT K H p xs) (h : Q (.int xs.length) H) : rLen K [.ref p] H Q := ⟨p, xs, rfl, .inr e, h⟩
theorem rd_tupL {p : Addr} {xs : List V} (e : SqL K H p xs) (h : New H (.tup xs) Q) : rTupOf K [.ref p] H Q := ⟨p, xs, rfl, .inl ⟨e, h⟩⟩
theorem rd_isi {x : V} {n T : String} {b : Bool} (hk : kindV H x n) (hb : isiB n T = some b) (h : Q (.bl b) H) : rIsi [x, .ty T] H Q := ⟨x, n, T, b, rfl, hk, hb, h⟩
theorem rd_call {sp : Sp} {a : TA} {E : XK} (h : a σ H fun vs H1 => sp (vs ++ []) H1 Q E) : tCall sp [] E a σ H Q := h
theorem rd_BM {T : String} {r : V → List V → Hp → VK → Prop} {a : TA} (h : te σ H fun x H1 => tyV K T x H1 ∧ a σ H1 fun xs H2 => r x xs H2 Q) : tBM K T r te a σ H Q := h
theorem rd_tup {a : TA} (h : a σ H fun xs H1 => xs.length ≤ sizeLine ∧ New H1 (.tup xs) Q) : tTup a σ H Q := h
theorem rd_lst {a : TA} (h : a σ H fun xs H1 => xs.length ≤ sizeLine ∧ New H1 (.lst xs) Q) : tLst a σ H Q := h
theorem rd_sl {r : V → Option Int → Option Int → Hp → VK → Prop} {tl th : TO} (h : te σ H fun x H1 => tl σ H1 fun l H2 => th σ H2 fun v H3 => r x l v H3 Q) : tSl r te tl th σ H Q := h
theorem rd_noPart {R : Option Int → Hp → Prop} (h : R none H) : tNoPart σ H R := h
theorem rd_part {R : Option Int → Hp → Prop} (h : te σ H fun x H1 => ∃ i, x = .int i ∧ R (some i) H1) : tPart te σ H R := h
theorem rd_exi {i : Int} {R : Int → Prop} (h : R i) : ∃ k, V.int i = V.int k ∧ R k := ⟨i, rfl, h⟩
theorem rd_chain {r r' : R2} (h : ta σ H fun x H1 => tb σ H1 fun y H2 => r x y H2 fun z H3 => ∃ k, z = .bl k ∧ (if k = true then tc σ H3 fun w' H4 => r' y w' H4 Q else Q (.bl false) H3)) : tChain r r' ta tb tc σ H Q := h
theorem rd_comp {n : Nat} {js : List Nat} {wi : TI} {g : TG} (h : wi σ H fun J H1 => CompBody J n js g c te σ H1 Q) : tComp n js wi g c te σ H Q := h
theorem rd_iL {R : It → Hp → Prop} (h : te σ H fun x H1 => rItL K x H1 R) : iList K te σ H R := h
theorem rd_iT {R : It → Hp → Prop} (h : te σ H fun x H1 => rItT K x H1 R) : iTup K te σ H R := h
theorem rd_iLx {p : Addr} {xs : List V} {R : It → Hp → Prop} (e : SqL K H p xs) (h : R (Itl K p) H) : rItL K (.ref p) H R := ⟨p, rfl, ⟨xs, e⟩, h⟩
theorem rd_iTx {p : Addr} {xs : List V} {R : It → Hp → Prop} (e : SqT K H p xs) (h : R (Itt K p) H) : rItT K (.ref p) H R := ⟨p, rfl, ⟨xs, e⟩, h⟩
theorem rd_i1 {a : TA} {R : It → Hp → Prop} (h : a σ H fun vs H1 => rIt1 vs H1 R) : iRng1 a σ H R := h
theorem rd_i1x {j : Int} {R : It → Hp → Prop} (h1 : -(2 ^ 62) ≤ j ∧ j < 2 ^ 62) (h : R (Itr 0 j.toNat) H) : rIt1 [.int j] H R := ⟨j, rfl, h1.1, h1.2, h⟩
theorem rd_for {wi : TI} {g : TG} (h : wi σ H fun J H1 => ForBody J g t D σ H1) : tFor wi g t D σ H := h
theorem rd_append {l : Addr} {xs : List V} {y : V} (e : H l = some (.lst xs)) (hz : xs.length < sizeLine) (h : Q .non (upd H l (.lst (xs ++ [y])))) : rAppend (.ref l) [y] H Q := ⟨l, xs, y, rfl, rfl, e, hz, h⟩
theorem rd_tyL {p : Addr} {xs : List V} (e : SqL K H p xs) : tyV K "list" (.ref p) H := .inl ⟨rfl, xs, e⟩
theorem rd_gtup {n : Nat} {g : TGs} {a : Addr} {xs : List V} {R : St → Hp → Prop} (e : SqT K H a xs) (hl : xs.length = n) (h : g xs σ H R) : gTup K n g (.ref a) σ H R := ⟨a, xs, rfl, e, hl, h⟩
theorem rd_gcons {g : TG} {gs : TGs} {v : V} {r : List V} {R : St → Hp → Prop} (h : g v σ H fun σ' H' => gs r σ' H' R) : gCons g gs (v :: r) σ H R := ⟨v, r, rfl, h⟩
theorem rd_gnil {R : St → Hp → Prop} (h : R σ H) : gNil [] σ H R := ⟨rfl, h⟩
theorem rd_cat {l b : Addr} {xs zs : List V} (e1 : H l = some (.lst xs)) (e2 : H b = some (.lst zs)) (hz : xs.length + zs.length ≤ sizeLine) (h : New H (.lst (xs ++ zs)) Q) : rCat (.ref l) (.ref b) H Q := ⟨l, b, xs, zs, rfl, rfl, e1, e2, hz, h⟩
theorem rd_rep {l : Addr} {k : Int} {xs : List V} (e : H l = some (.lst xs)) (hk : 0 ≤ k ∧ k < 10 ^ 6) (hz : xs.length * k.toNat ≤ sizeLine) (h : New H (.lst (List.replicate k.toNat xs).flatten) Q) : rRep (.ref l) (.int k) H Q :=
  ⟨l, k, xs, rfl, rfl, e, by omega, by omega, hz, h⟩
theorem rd_slL {a : Addr} {xs : List V} {lo hi : Option Int} (e : SqL K H a xs) (h : New H (.lst (cutV xs lo hi)) Q) : rSlL K (.ref a) lo hi H Q := ⟨a, xs, rfl, e, h⟩
theorem rd_new {o : HO} {R : VK} (h : ∀ p H', Ext H H' → H' p = some o → H p = none → R (.ref p) H') : New H o R := fun p hp =>
  h p _ (fun b u e => by rw [upd_ne (ne_of_none e hp)]; exact e) upd_same hp
theorem ext_upd {p : Addr} {o : HO} (hp : H p = none) : Ext H (upd H p o) := fun b u e => by rw [upd_ne (ne_of_none e hp)]; exact e
theorem SqL.ext {H' : Hp} {p : Addr} {xs : List V} (e : Ext H H') (h : SqL K H p xs) : SqL K H' p xs := by
  rcases h with (h | ⟨o, h⟩) | h
  · exact .inl (.inl (e _ _ h))
  · exact .inl (.inr ⟨o, e _ _ h⟩)
  · exact .inr h
end
theorem atI_of {α : Type} {xs : List α} {i : Int} {v : α} (h0 : 0 ≤ i) (h : xs[i.toNat]? = some v) : atI xs i = some v := by
  have := atI_nat h
  rwa [Int.toNat_of_nonneg h0] at this
end L2
set_option Elab.async false
set_option linter.all false
set_option maxRecDepth 100000
set_option maxHeartbeats 4000000
namespace L2
open PySem PySem.Spec PyProof.Rows
noncomputable def flatD : V → PyData → Prop
  | .non, .none => True
  | .bl b, .bool c => b = c
  | .int i, .int j => i = j
  | .str x, .str y => x = y ∧ (PyData.str y).canLay0 = true
  | _, _ => False
noncomputable def RepD (H : Hp) : Nat → V → PyData → Prop
  | 0, x, d => flatD x d
  | n + 1, x, d => flatD x d ∨ ∃ a xs ds, x = .ref a ∧ ((H a = some (.tup xs) ∧ d = .tuple ds) ∨ (H a = some (.lst xs) ∧ d = .list ds)) ∧ Paired (RepD H n) xs ds
section
variable {X : Cx} {pins : List (Addr × Obj)} {σ : St} {H : Hp} {s : Shared}
theorem flatD.reads {x : V} {d : PyData} {u : Value} (h : flatD x d) (r : RelV x u) : ∃ as, Reads s.heap u d as := by
  cases x with
  | non => cases d <;> first | exact False.elim h | (cases r; exact ⟨_, .none⟩)
  | bl b => cases d <;> first | exact False.elim h | (cases (show b = _ from h); cases r; exact ⟨_, .bool _⟩)
  | int i => cases d <;> first | exact False.elim h | (cases (show i = _ from h); obtain ⟨t, rfl⟩ := r; exact ⟨_, .int _ t⟩)
  | str z => cases d <;> first | exact False.elim h | (cases (show z = _ ∧ _ from h).1; obtain ⟨t, rfl⟩ := r; exact ⟨_, .str _ t⟩)
  | _ => cases d <;> exact False.elim h
theorem flatD.lay {x : V} {d : PyData} (h : flatD x d) : d.canLay0 = true ∧ d.depth = 0 := by
  cases x <;> cases d <;> first | exact False.elim h | exact ⟨rfl, rfl⟩ | exact ⟨h.2, rfl⟩
theorem reads_all {R : V → PyData → Prop} (ih : ∀ {x : V} {d : PyData} {u : Value}, R x d → RelV x u → ∃ as, Reads s.heap u d as) : ∀ {xs : List V} {ds : List PyData} {us : List Value}, Paired R xs ds → Vals xs us → ∃ as, ReadsAll s.heap us ds as
  | _, _, _, .nil, .nil => ⟨_, .nil⟩
  | _, _, _, .cons h t, .cons r rt => by
    obtain ⟨as, ha⟩ := ih h r
    obtain ⟨bs, hb⟩ := reads_all ih t rt
    exact ⟨_, .cons ha hb⟩
theorem RepD.reads (I : Inv X pins σ H s) : ∀ (n : Nat) {x : V} {d : PyData} {u : Value}, RepD H n x d → RelV x u → ∃ as, Reads s.heap u d as
  | 0, _, _, _, h, r => flatD.reads h r
  | n + 1, x, d, u, h, r => by
    rcases h with h | ⟨a, xs, ds, rfl, hh, hp⟩
    · exact flatD.reads h r
    · cases r
      rcases hh with ⟨e, rfl⟩ | ⟨e, rfl⟩
      · obtain ⟨its, rv, ⟨o, ho, hc, k, hd⟩, _⟩ := I.tuple (SqT.of e)
        obtain ⟨as, ha⟩ := reads_all (fun {x d u} => RepD.reads I n) hp rv
        exact ⟨_, .tuple ho hc hd (by simpa using ha)⟩
      · obtain ⟨its, k, rv, ho, _⟩ := I.lst e
        obtain ⟨as, ha⟩ := reads_all (fun {x d u} => RepD.reads I n) hp rv
        exact ⟨_, .list ho rfl rfl (by simpa using ha)⟩
theorem lay_all {R : V → PyData → Prop} {m : Nat} (ih : ∀ {x : V} {d : PyData}, R x d → d.canLay0 = true ∧ d.depth ≤ m) : ∀ {xs : List V} {ds : List PyData}, Paired R xs ds → PyData.canLayAll0 ds = true ∧ PyData.depthAll ds ≤ m
  | _, _, .nil => ⟨rfl, Nat.zero_le _⟩
  | _, _, .cons h t => by
    obtain ⟨h1, h2⟩ := ih h
    obtain ⟨h3, h4⟩ := lay_all ih t
    refine ⟨?_, ?_⟩
    · simp only [PyData.canLayAll0, h1, h3, Bool.and_self]
    · simp only [PyData.depthAll]
      exact Nat.max_le.mpr ⟨h2, h4⟩
theorem RepD.lay : ∀ (n : Nat) {x : V} {d : PyData}, RepD H n x d → d.canLay0 = true ∧ d.depth ≤ n
  | 0, _, _, h => ⟨(flatD.lay h).1, Nat.le_of_eq (flatD.lay h).2⟩
  | n + 1, x, d, h => by
    rcases h with h | ⟨a, xs, ds, rfl, hh, hp⟩
    · exact ⟨(flatD.lay h).1, by rw [(flatD.lay h).2]; exact Nat.zero_le _⟩
    · obtain ⟨h1, h2⟩ := lay_all (fun {x d} => RepD.lay n) hp
      rcases hh with ⟨e, rfl⟩ | ⟨e, rfl⟩
      · exact ⟨h1, Nat.succ_le_succ h2⟩
      · exact ⟨h1, Nat.succ_le_succ h2⟩
end
end L2
set_option Elab.async false
set_option linter.all false
set_option maxRecDepth 100000
set_option maxHeartbeats 4000000
namespace L2
open PySem PySem.Spec PyProof.Rows
noncomputable def rAllL (K : PySem.W.Frag) : List V → Hp → VK → Prop := fun xs H Q => ∃ (p : Addr) (bs : List Bool), xs = [.ref p] ∧ SqL K H p (bs.map V.bl) ∧ Q (.bl (bs.all id)) H
theorem vals_bools : ∀ {bs : List Bool} {us : List Value}, Vals (bs.map V.bl) us → us = bs.map Value.bool
  | [], _, r => by cases r; rfl
  | b :: bs, _, r => by
    cases r with
    | cons r t => cases r; rw [vals_bools t]; rfl
theorem all_range (bs : List Bool) : ((List.range bs.length).all fun i => bs.getD i false) = bs.all id := by
  rw [Bool.eq_iff_iff, List.all_eq_true, List.all_eq_true]
  constructor
  · intro h b hb
    obtain ⟨i, hi, e⟩ := List.mem_iff_getElem.mp hb
    have := h i (List.mem_range.mpr hi)
    rw [List.getD_eq_getElem?_getD, List.getElem?_eq_getElem hi] at this
    rw [← e]
    exact this
  · intro h i hi
    have hi' := List.mem_range.mp hi
    rw [List.getD_eq_getElem?_getD, List.getElem?_eq_getElem hi']
    exact h _ (List.getElem_mem hi')
theorem call_allL {X : Cx} (K : PySem.W.Frag) (hc : X.calm = true) (hK : X.K = K := by rfl) : CallR X (.builtin "all") (rAllL K) := by
  subst hK
  intro pins s σ H xs us Q I r h
  obtain ⟨p, bs, rfl, hq, q⟩ := h
  obtain ⟨u, rfl, rx⟩ := vals1 r
  cases rx
  obtain ⟨its, rv, pl, hz⟩ := I.list hq
  have eb := vals_bools rv
  have hne : p ≠ s.heap.objs.size := Nat.ne_of_lt (by obtain ⟨o, n, e, _⟩ := pl; exact Heap.lt_size e)
  refine call_all_walk (wpAny_pyIter_list pl.isList ?_)
  have I1 : Inv X pins σ H { s with heap := s.heap.push { cls := .type "list_iterator", data := .fields #[.ref p, .int 0 0] } } := I.kept (t' := s.toks) fun b o e => Heap.get?_push_of_some _ e
  have hf := I.fpOk (H' := H) (Nat.le_refl s.heap.objs.size) I.fresh
  refine ⟨s.heap.objs.size, _, _, _, _, _, (fun i => bs.getD i false), rfl, Walks.list (A := X.A.in1) (I.ok.hd hc) _ p hne its.toArray, ⟨⟨_, Heap.get?_push_size _ rfl, rfl, rfl⟩, ?_⟩, ?_, fun h' tk hk => ?_⟩
  · exact pl.isList.push _
  · intro i v s' Q' E' hv hQ
    rw [eb] at hv
    have hv' : (bs.map Value.bool)[i]? = some v := by simpa using hv
    rw [List.getElem?_map] at hv'
    cases eg : bs[i]? with
    | none => rw [eg] at hv'; cases hv'
    | some b =>
      rw [eg] at hv'
      cases hv'
      have eb' : bs.getD i false = b := by rw [List.getD_eq_getElem?_getD, eg]; rfl
      have hQ' : Q' (bs.getD i false) s' := hQ
      rw [eb'] at hQ'
      exact wpAny_truthy_bool hQ'
  · obtain ⟨f0, f1, f2, f3, f4, f5⟩ := hf
    have hl := rv.length
    rw [List.length_map] at hl
    refine ⟨.bl (bs.all id), H, I1.turned (it := s.heap.objs.size) (fun b o hb e => hk b o (by simpa using hb) e) f0 f1 f3 f4 f5, ?_, q⟩
    show Value.bool _ = Value.bool _
    rw [List.size_toArray, ← hl, all_range]
end L2
set_option Elab.async false
set_option linter.all false
set_option maxRecDepth 100000
set_option maxHeartbeats 4000000
namespace L2
open PySem PySem.Spec PyProof.Rows
section
variable {D : Ends} {σ : St} {H : Hp} {Q : VK} {te : TE} {t : TS} {c : TT}
end
section
variable {prog : Program} {w : World} {A : Around} {E : Value → Shared → Prop} {s : Shared}
end
section
variable {X : Cx} {pins : List (Addr × Obj)} {σ : St} {H : Hp} {s : Shared}
end
section
variable {K : PySem.W.Frag} {σ : St} {H : Hp} {Q : VK}
end
theorem tup_whole {prog : Program} {w : World} {A : Around} {E : Value → Shared → Prop} {s : Shared} {t sl : Addr} {ys : Array Value} {vl vu : Value} {lo hi : Option Int} {Q : Value → Shared → Prop} (gt : IsTup s.heap t ys) (gs : s.heap.IsSliceOf sl vl vu .none) (pl : IsPart vl lo) (pu : IsPart vu hi)
    (gw : HT.sIx ys.size 0 lo = 0 ∧ HT.sIx ys.size ys.size hi = ys.size) (q : Q (.ref t) s) : wpAny (model prog w) A (getItem (.ref t) (.ref sl)) Q E s := by
  obtain ⟨u, gu, gc, gd⟩ := id gs
  have gT : s.TypeIs (.ref sl) "slice" := ⟨u, gu, gc⟩
  unfold getItem
  try with_reducible refine wpAny_holding ?_
  first | refine wpAny_bind (wpAny_pure ?_) | skip
  refine wpAny_bind (wpAny_sequenceKey gt.typeIs (by decide) ?_)
  refine wpAny_bind (wpAny_callSpecial?_slot (name := Str.ofString "__getitem__") gt.typeIs PyProof.Rows.slot_tuple_getitem (wpAny_call_entry PyProof.Rows.slot_tuple_getitem gt.typeIs entry_tuple_getitem ?_ (args_tuple_getitem _ _)))
  show wpAny _ _ (Builtin.Tuple.tupleItemsOf (Value.ref t) >>= _) _ _ s
  refine wpAny_bind (tupleItemsOf_ gt ?_)
  refine wpAny_bind (wpAny_typeOf gT ?_)
  rw [if_pos (by decide)]
  refine wpAny_bind (HT.sliceApplied_gen gs pl pu ?_)
  show wpAny _ _ (if (((HT.sIx ys.size 0 lo : Nat) : Int) == 0 && (1 : Int) == 1 && (HT.sIx ys.size ys.size hi - HT.sIx ys.size 0 lo) == ys.size) = true then _ else _) _ _ s
  rw [if_pos (by rw [gw.1, gw.2]; simp)]
  show wpAny _ _ (Builtin.Tuple.tupleIsExact (Value.ref t) >>= _) _ _ s
  unfold Builtin.Tuple.tupleIsExact
  refine wpAny_bind (wpAny_bind (wpAny_typeOf gt.typeIs (wpAny_pure ?_)))
  rw [if_pos (by decide)]
  refine wpAny_bind (wpAny_rule ?_)
  exact wpAny_pure ⟨_, rfl, wpAny_pure q⟩
noncomputable def rSlT1 : V → Option Int → Option Int → Hp → VK → Prop := fun x lo hi H Q => ∃ a xs, x = .ref a ∧ H a = some (.tup xs) ∧ ∀ p H', Ext H H' → H' p = some (.tup (cutV xs lo hi)) → Q (.ref p) H'
theorem sl_tup1 {X : Cx} : SlR X rSlT1 := by
  intro pins s σ H x v vl vu lo hi sl Q I rx hs pl pu h
  obtain ⟨a, xs, rfl, hx, q⟩ := h
  by_cases gw : HT.sIx xs.length 0 lo = 0 ∧ HT.sIx xs.length xs.length hi = xs.length
  · cases rx
    obtain ⟨its, r, ht, hz⟩ := I.tuple (SqT.of hx)
    have hlen : its.toArray.size = xs.length := by rw [List.size_toArray]; exact r.length.symm
    refine ⟨"tuple", _, PyProof.Rows.slot_tuple_getitem.lookup, ht.typeIs, ?_⟩
    refine tup_whole ht hs pl pu (by rw [hlen]; exact gw) ⟨.ref a, H, I, rfl, q a H (Ext.rfl' H) ?_⟩
    have : cutV xs lo hi = xs := by
      unfold cutV
      rw [gw.1, gw.2, List.drop_zero, Nat.sub_zero, List.take_length]
    rw [this]
    exact hx
  · exact sl_tup pins s σ H (.ref a) v vl vu lo hi sl Q I rx hs pl pu ⟨a, xs, rfl, SqT.of hx, gw, fun p hp => q p _ (ext_upd hp) upd_same⟩
theorem rd_slT1 {H : Hp} {Q : VK} {a : Addr} {xs : List V} {lo hi : Option Int} (e : H a = some (.tup xs)) (h : ∀ p H', Ext H H' → H' p = some (.tup (cutV xs lo hi)) → Q (.ref p) H') : rSlT1 (.ref a) lo hi H Q := ⟨a, xs, rfl, e, h⟩
noncomputable def rCatT1 : R2 := fun x y H Q => ∃ a b xs ys, x = .ref a ∧ y = .ref b ∧ H a = some (.tup xs) ∧ H b = some (.tup ys) ∧ xs.length + ys.length ≤ sizeLine ∧ ∀ p H', Ext H H' → H' p = some (.tup (xs ++ ys)) → Q (.ref p) H'
theorem op_catT1 {X : Cx} : OpR X (binaryOp .Add) rCatT1 := by
  intro pins s σ H x y v u Q I rx ry h
  obtain ⟨a, b, xs, ys, rfl, rfl, ha, hb, hz, q⟩ := h
  cases rx
  cases ry
  by_cases hx : xs = []
  · subst hx
    obtain ⟨its, r1, p1, _⟩ := I.tuple (SqT.of ha)
    obtain ⟨its2, r2, p2, _⟩ := I.tuple (SqT.of hb)
    have e := r1.nil_iff.mpr rfl
    subst e
    obtain ⟨⟨cls, dd, data, sl⟩, ho, hc, n, hd⟩ := id p1
    obtain ⟨⟨cls2, dd2, data2, sl2⟩, ho2, hc2, n2, hd2⟩ := id p2
    simp only at hc hd hc2 hd2
    subst hc hd hc2 hd2
    refine concat_meets ⟨_, ho, rfl⟩ ⟨_, ho2, rfl⟩ noFill_tuple_add seq_tuple_add PySem.F.slot_tuple_add PySem.F.entry_tuple_add (PySem.F.args_tuple_add_2 _ _)
      (tuple_addW0 a b _ _ n n2 dd dd2 sl sl2 (by simp)) ⟨ho, ho2, ⟨.ref b, H, I, rfl, q b H (fun _ _ h => h) (by simpa using hb)⟩⟩
  · refine op_catT pins s σ H (.ref a) (.ref b) _ _ Q I rfl rfl ⟨a, b, xs, ys, rfl, rfl, SqT.of ha, SqT.of hb, hx, hz, fun hy => ?_, fun hy p hp => ?_⟩
    · subst hy
      exact q a H (fun _ _ h => h) (by simpa using ha)
    · exact q p _ (ext_upd hp) upd_same
theorem rd_catT1 {H : Hp} {Q : VK} {a b : Addr} {xs ys : List V} (ha : H a = some (.tup xs)) (hb : H b = some (.tup ys)) (hz : xs.length + ys.length ≤ sizeLine) (h : ∀ p H', Ext H H' → H' p = some (.tup (xs ++ ys)) → Q (.ref p) H') : rCatT1 (.ref a) (.ref b) H Q := ⟨a, b, xs, ys, rfl, rfl, ha, hb, hz, h⟩
theorem rd_listT {K : PySem.W.Frag} {H : Hp} {Q : VK} {p : Addr} {ys : List V} (e : SqT K H p ys) (h : New H (.lst ys) Q) : rListOf K [.ref p] H Q := ⟨p, ys, rfl, .inr e, h⟩
end L2
set_option Elab.async false
set_option linter.all false
set_option maxRecDepth 100000
set_option maxHeartbeats 4000000
namespace L2
open PySem PySem.Spec PyProof.Rows
mutual
inductive LitE : Expr → TE → Prop
  | non {j pos} : LitE (.Constant .none j pos) (tC .non)
  | bl {b j pos} : LitE (.Constant (.bool b) j pos) (tC (.bl b))
  | int {i j pos} : LitE (.Constant (.int i) j pos) (tC (.int i))
  | str {x j pos} : LitE (.Constant (.str x) j pos) (tC (.str x))
  | tup {es ta k pos} : LitsE es ta → LitE (.Tuple es k pos) (tTup ta)
inductive LitsE : List Expr → TA → Prop
  | nil : LitsE [] tNil
  | cons {e te es ta} : LitE e te → LitsE es ta → LitsE (e :: es) (tCons te ta)
end
theorem LitE.star {e : Expr} {te : TE} (h : LitE e te) (es : List Expr) (env : Env) : starEach (e :: es) env = (false, eval e env) :: starEach es env := by
  cases h <;> rfl
end L2
set_option Elab.async false
set_option linter.all false
set_option maxRecDepth 100000
set_option maxHeartbeats 4000000
namespace L2
open PySem PySem.Spec PyProof.Rows
section
variable {X : Cx} {pins : List (Addr × Obj)} {σ : St} {H : Hp} {s : Shared}
end
section
variable {X : Cx} {pins : List (Addr × Obj)} {σ : St} {H : Hp} {s : Shared}
end
end L2
set_option Elab.async false
set_option linter.all false
set_option maxRecDepth 100000
set_option maxHeartbeats 4000000
namespace L2
open PySem PySem.Spec PyProof.Rows
section
variable {P : Program} {w : World} {K : PySem.W.Frag} {mg : Str → Option Value} {base : Heap}
end
end L2
set_option Elab.async false
set_option linter.all false
set_option maxRecDepth 100000
set_option maxHeartbeats 4000000
namespace L2
open PySem PySem.Spec PyProof.Rows
section
variable {prog : Program} {w : World} {A : Around} {E : Value → Shared → Prop}
theorem draw_lst {it l : Addr} {ys : Array Value} (ne : l ≠ it) : ∀ (n i : Nat) (s : Shared) (Q : List Value → Shared → Prop), s.heap.IsListIter it l i → s.heap.IsList l ys → i + n ≤ ys.size →
    (∀ h', h'.IsListIter it l (i + n) → Heap.SameBut it s.heap h' → Q ((ys.toList.drop i).take n) { s with heap := h' }) → wpAny (model prog w) A (draw (.ref it) n) Q E s
  | 0, i, s, Q, gi, _, _, q => by
    show wpAny _ _ (pure []) Q E s
    exact wpAny_pure (by simpa using q s.heap gi (Heap.SameBut.refl ..))
  | n + 1, i, s, Q, gi, gl, le, q => by
    have lt : i < ys.size := by omega
    show wpAny _ _ (pyNext (Value.ref it) >>= _) Q E s
    refine wpAny_bind (wpAny_pyNext_list_item gi gl (x := ys[i]) (by simp [lt]) fun k1 g1 b1 => ?_)
    refine wpAny_bind (wpAny_holding (draw_lst ne n (i + 1) _ _ g1 (gl.extBut b1.extBut ne) (by omega) fun k2 g2 b2 => wpAny_pure ?_))
    have e : ys.toList.drop i = ys[i] :: ys.toList.drop (i + 1) := by simp [List.drop_eq_getElem_cons, lt]
    have := q k2 (by rw [show i + (n + 1) = i + 1 + n by omega]; exact g2) (b1.trans b2)
    rw [e, List.take_succ_cons] at this
    exact this
theorem unpack_lst {s : Shared} {l : Addr} {ys : Array Value} {Q : List Value → Shared → Prop} (hA : A.handled = none) (gl : s.heap.IsList l ys)
    (q : ∀ h', Heap.ExtBut s.heap.objs.size s.heap h' → Q ys.toList { s with heap := h' }) : wpAny (model prog w) A (unpackItems (.ref l) ys.size none) Q E s := by
  have lt : l ≠ s.heap.objs.size := by obtain ⟨o, e, _⟩ := gl; exact Nat.ne_of_lt (Heap.lt_size e)
  unfold unpackItems
  refine wpAny_bind ?_
  unfold notIterableAtAll
  refine wpAny_bind (wpAny_specialOf gl.typeIs slot_list_iter.lookup ?_)
  refine wpAny_pure ?_
  simp only [Bool.false_eq_true, if_false]
  refine wpAny_bind (wpAny_holding (wpAny_pyIter_list gl ?_))
  refine wpAny_bind (wpAny_holding (draw_lst lt ys.size 0 _ _ ⟨_, Heap.get?_push_size _ rfl, rfl, rfl⟩ (gl.push _) (by omega) fun k1 g1 b1 => ?_))
  rw [show List.take ys.size (List.drop 0 ys.toList) = ys.toList by rw [List.drop_zero]; exact List.take_of_length_le (by simp), if_neg (by simp)]
  refine wpAny_bind (wpAny_holding (wpAny_pyNext_list_end hA g1 ((gl.push _).extBut b1.extBut lt) (by simp) fun k2 b2 => ?_))
  simp only [Option.isSome_none, Bool.false_eq_true, if_false]
  exact wpAny_pure (q k2 fun b o nb e => b2 b o nb (b1.extBut b o nb (Heap.get?_push_of_some _ e)))
theorem assign_lst {s : Shared} {env : Env} {es : List Expr} {k : Nat} {pos : Pos} {l : Addr} {ys : Array Value} {Q : Unit → Shared → Prop} (hA : A.handled = none) (gl : s.heap.IsList l ys) (hn : (assignEach es env).length = ys.size) (hst : (assignEach es env).findIdx? (·.1) = none)
    (h : ∀ h', Heap.ExtBut s.heap.objs.size s.heap h' → wpAny (model prog w) A (assignInOrder ((assignEach es env).map (·.2)) ys.toList) Q E { s with heap := h' }) : wpAny (model prog w) A (assign (.Tuple es k pos) env (.ref l)) Q E s := by
  rw [arm_assign_Tuple]
  refine wpAny_bind (wpAny_standAt ?_)
  unfold unpack
  rw [hn, hst]
  exact wpAny_bind (wpAny_holding (unpack_lst hA gl h))
end
section
variable {X : Cx} {pos : Pos}
noncomputable def gLst (K : PySem.W.Frag) (n : Nat) (t : TGs) : TG := fun v σ H Q => ∃ a xs, v = .ref a ∧ SqL K H a xs ∧ xs.length = n ∧ t xs σ H Q
theorem pg_lstK {es : List Expr} {k : Nat} {t : TGs} {n : Nat} (K : PySem.W.Frag) (hc : X.calm = true) (h : PGs X es t) (hK : X.K = K := by rfl)
    (hn : (assignEach es X.env).length = n := by rfl) (hst : (assignEach es X.env).findIdx? (·.1) = none := by rfl) : PG X (.Tuple es k pos) (gLst K n t) := by
  subst hK
  intro pins s σ H v u Q I r hw
  obtain ⟨a, xs, e1, hq, hl, hw⟩ := hw
  subst e1
  cases r
  obtain ⟨its, rv, ht, hz⟩ := I.list hq
  refine assign_lst (I.ok.hd hc) ht.isList (by simp [hn, ← hl, rv.length]) hst fun h' hx => ?_
  have I1 : Inv X pins σ H { s with heap := h' } := I.kept (t' := s.toks) fun b o e => hx b o (Nat.ne_of_lt (Heap.lt_size e)) e
  exact h pins _ σ H xs _ Q I1 (by simpa using rv) hw
end
theorem rd_glst {K : PySem.W.Frag} {σ : St} {H : Hp} {n : Nat} {g : TGs} {a : Addr} {xs : List V} {R : St → Hp → Prop} (e : SqL K H a xs) (hl : xs.length = n) (h : g xs σ H R) : gLst K n g (.ref a) σ H R := ⟨a, xs, rfl, e, hl, h⟩
theorem rd_par {i j : Nat} {ta : TA} {D : Ends} {σ : St} {H : Hp} (h : ta σ H fun vs H1 => ∃ v w, vs = [v, w] ∧ D.nx ((σ.set i (some v)).set j (some w)) H1) : tPar i j ta D σ H := h
theorem rd_par2 {v w : V} {R : V → V → Prop} (h : R v w) : ∃ a b, [v, w] = [a, b] ∧ R a b := ⟨v, w, rfl, h⟩
end L2
set_option Elab.async false
set_option linter.all false
set_option maxRecDepth 100000
set_option maxHeartbeats 4000000
namespace L2
open PySem PySem.Spec PyProof.Rows
section
variable {κ : Type} [DecidableEq κ]
noncomputable def valV (kvs : List (κ × V)) (k : κ) : Option V := (kvs.find? fun kv => decide (kv.1 = k)).map (·.2)
theorem valV_pos {p : κ × V} {r : List (κ × V)} {k : κ} (e : p.1 = k) : valV (p :: r) k = some p.2 := by simp [valV, List.find?_cons, e]
theorem valV_neg {p : κ × V} {r : List (κ × V)} {k : κ} (e : ¬ p.1 = k) : valV (p :: r) k = valV r k := by simp [valV, List.find?_cons, e]
theorem RelO.isSome_eq {o : Option V} {u : Option Value} (r : RelO o u) : o.isSome = u.isSome := by
  cases o with
  | none => cases u with
    | none => rfl
    | some _ => exact (show False from r).elim
  | some _ => cases u with
    | none => exact (show False from r).elim
    | some _ => rfl
theorem KV.val {kvs : List (κ × V)} {vs : List (κ × Value)} (r : KV kvs vs) (k : κ) : RelO (valV kvs k) (valueAt vs k) := by
  unfold KV at r
  induction r with
  | nil => exact True.intro
  | @cons p q ps qs h t ih =>
    obtain ⟨h1, h2⟩ := h
    by_cases e : p.1 = k
    · have e' : q.1 = k := h1.symm.trans e
      have b : valueAt (q :: qs) k = some q.2 := by simp [valueAt, List.find?_cons, e']
      rw [valV_pos e, b]; exact h2
    · have e' : ¬ q.1 = k := fun z => e (h1.trans z)
      have b : valueAt (q :: qs) k = valueAt qs k := by simp [valueAt, List.find?_cons, e']
      rw [valV_neg e, b]; exact ih
theorem KV.keys {kvs : List (κ × V)} {vs : List (κ × Value)} (r : KV kvs vs) : kvs.map (·.1) = vs.map (·.1) := by
  unfold KV at r
  induction r with
  | nil => rfl
  | cons h t ih => rw [List.map_cons, List.map_cons, ih, h.1]
end
theorem kV_is {P : Program} {w : World} {k : Key} {u : Value} (r : RelV (kV k) u) : (mixKind P w).is k u = true := by
  cases k with
  | inl i => obtain ⟨t, e⟩ := (show ∃ t, u = Value.int i t from r); subst e; exact mixKind_int P w i t
  | inr x => obtain ⟨t, e⟩ := (show ∃ t, u = Value.str x t from r); subst e; exact mixKind_str P w x t
theorem items_are {P : Program} {w : World} : ∀ {ks : List Key} {us : List Value}, Vals (ks.map kV) us → ItemsAre (mixKind P w) ks us
  | [], _, r => by rw [List.map_nil] at r; cases r; exact .nil
  | k :: ks, _, r => by
    rw [List.map_cons] at r
    cases r with
    | cons h t => exact .cons (kV_is h) (items_are t)
section
variable {P : Program} {w : World} {H : Hp} {h : Heap} {a : Addr}
end
section
variable {X : Cx} {pins : List (Addr × Obj)} {σ : St} {H : Hp} {s : Shared} {a : Addr} {y v : V} {u r : Value} {o : Option V} {A : Around} {E : Value → Shared → Prop}
end
section
variable {X : Cx} {pins : List (Addr × Obj)} {σ : St} {H : Hp} {s : Shared} {a : Addr} {kvs : List (Key × V)} {k : Key} {u : Value} {A : Around} {E : Value → Shared → Prop}
end
section
variable {X : Cx} {o i e value : Expr} {pos pos' tpos : Pos} {td ty tv : TE}
end
section
variable {X : Cx} {pos : Pos}
end
section
variable {X : Cx} {pins : List (Addr × Obj)} {σ : St} {H : Hp} {s : Shared} {a : Addr} {y d : V} {u r : Value} {o : Option V} {A : Around} {E : Value → Shared → Prop}
end
section
variable {X : Cx} {o e f : Expr} {apos cpos : Pos} {td ty tx : TE}
end
section
variable {X : Cx} {pins : List (Addr × Obj)} {σ : St} {H : Hp} {s : Shared} {a : Addr} {kvs : List (Key × V)} {A : Around} {E : Value → Shared → Prop}
end
section
variable {X : Cx} {pins : List (Addr × Obj)} {σ : St} {H : Hp} {s : Shared} {a : Addr} {y : V} {u : Value} {A : Around} {E : Value → Shared → Prop}
end
end L2
namespace L2
open PySem PySem.Spec PyProof.Rows
section
variable {X : Cx}
end
section
variable {κ : Type} [DecidableEq κ]
end
end L2
set_option Elab.async false
set_option linter.all false
set_option maxRecDepth 100000
set_option maxHeartbeats 4000000
namespace L2
open PySem PySem.Spec PyProof.Rows
theorem ObjOk.obj {P : Program} {w : World} {H : Hp} {h : Heap} {a : Addr} {o : HO} (x : ObjOk P w H h a o) : ∃ ob, h.get? a = some ob := by
  cases o with
  | lst xs => obtain ⟨_, _, _, _, e⟩ := x; exact ⟨_, e⟩
  | tup xs => obtain ⟨_, _, _, ob, e, _⟩ := x; exact ⟨_, e⟩
  | dK kvs => obtain ⟨_, _, _, _, ob, es, ep, e, _⟩ := x; exact ⟨_, e⟩
  | dT kvs => obtain ⟨_, _, _, _, ob, es, ep, e, _⟩ := x; exact ⟨_, e⟩
  | set S n => obtain ⟨ob, es, ep, t, e, _⟩ := x; exact ⟨_, e⟩
  | ins C dx fs => obtain ⟨_, _, _, e, _⟩ := x; exact ⟨_, e⟩
  | own y => exact x
  | xd fs => obtain ⟨mA, hn, _⟩ := x; obtain ⟨ob, es, ep, e, _⟩ := hn; exact ⟨_, e⟩
  | rng lo hi => obtain ⟨_, _, _, e⟩ := x; exact ⟨_, e⟩
  | frz ob u => exact ⟨_, x.1⟩
  | tbl ps => exact ⟨_, x⟩
  | met f y => exact ⟨_, x⟩
  | ext φ => exact x.2.1
structure Fly (P : Program) (w : World) (outer : List Env) (H : Hp) (s : Shared) (x : Addr) (cls : Value) (H' : Hp) (s' : Shared) : Prop where
  os : s'.os = s.os
  bare : AllBare s'.gens
  un : Un (frs outer) [] H H' s.heap s'.heap
  hok : HOk P w H' s'.heap
  new : H' x = none
  fly : ∃ B a0, Heap.FlyingW B outer x cls a0 s'.heap ∧ (∀ b o, s'.heap.get? b = some o → H' b ≠ none → B.get? b = some o) ∧
    ∀ b o o', s.heap.get? b = some o → b ∉ frs outer → s'.heap.get? b = some o' → B.get? b = some o'
noncomputable def CXE (P : Program) (w : World) : CXT := fun outer H s E e s' => ∃ x cls H', e = .ref x ∧ E cls none H' ∧ Fly P w outer H s x cls H' s'
section
variable {P : Program} {w : World} {K : PySem.W.Frag} {mg : Str → Option Value} {base : Heap} {N : List Str} {qual : Str} {scope : Scope} {f : Addr} {cd : Value} {A : Around} {outer : List Env} {s₀ : Shared} {H₀ : Hp} {E : XK}
theorem frs_mem {l : List Env} {env : Env} {a : Addr} (h : env ∈ l) (e : env.frame = some a) : a ∈ frs l := List.mem_filterMap.mpr ⟨env, h, e⟩
theorem fly_made {pins : List (Addr × Obj)} {σ : St} {H : Hp} {s : Shared} {h1 : Heap} {tk : Nat} {e : Addr} {cls : Value} {args : List Value} (I : Inv (cxOf (CXE P w) P w K mg base N qual scope f cd A outer s₀ H₀ E) pins σ H s)
    (hx : Heap.MadeExcOf s.heap h1 e cls args) (hE : E cls none H) : (cxOf (CXE P w) P w K mg base N qual scope f cd A outer s₀ H₀ E).xe (.ref e) { s with heap := h1, toks := tk } := by
  have stk : (cxOf (CXE P w) P w K mg base N qual scope f cd A outer s₀ H₀ E).stack = envOfC qual scope s₀.heap.objs.size f cd :: outer := rfl
  have hL : ∀ b ∈ frs (envOfC qual scope s₀.heap.objs.size f cd :: outer), b ∈ frs outer ∨ b = s₀.heap.objs.size := fun b hb => by
    have := I.stkSub b hb
    rcases List.mem_cons.mp this with z | z
    · exact .inr z
    · exact .inl z
  have hfr : ∀ env ∈ (envOfC qual scope s₀.heap.objs.size f cd :: outer), ∀ a, env.frame = some a → a ∈ frs (envOfC qual scope s₀.heap.objs.size f cd :: outer) := fun env he a ha => frs_mem he ha
  have hff := PySem.W.funFrames_hide I.stack hfr
  have low : ∀ b o, s₀.heap.get? b = some o → b ∉ frs outer → b ∉ frs (envOfC qual scope s₀.heap.objs.size f cd :: outer) := fun b o hb hn hm => by
    rcases hL b hm with z | z
    · exact hn z
    · exact absurd (Heap.lt_size hb) (by rw [z]; exact Nat.lt_irrefl _)
  refine wpAny_leaves_madeW (base := PySem.W.hideAll s.heap (frs (envOfC qual scope s₀.heap.objs.size f cd :: outer))) (h := s.heap) I.ok.frames rfl (fun b o q => PySem.W.of_hideAll _ q) hff hx fun h' t x1 x2 x3 x4 => ?_
  have up : ∀ b ∈ frs (envOfC qual scope s₀.heap.objs.size f cd :: outer), ∀ o, s.heap.get? b = some o → ∃ sl, h'.get? b = some { o with slots := sl } := fun b hb o ho => by
    obtain ⟨_, o', ho', hd⟩ := hff.mem hb
    rw [ho] at ho'
    cases ho'
    exact x4 b o (hx.keeps b o ho) hd
  have stay : ∀ b o, b ∉ frs (envOfC qual scope s₀.heap.objs.size f cd :: outer) → s.heap.get? b = some o → h'.get? b = some o := fun b o hn ho => x1.1 b o (PySem.W.hideAll_get _ ho hn)
  have trk : ∀ b, H b ≠ none → b ∉ frs (envOfC qual scope s₀.heap.objs.size f cd :: outer) := fun b hb hm => hb (I.stkFree b hm)
  have U := I.base
  have hnew : H e = none := by
    cases hq : H e with
    | none => rfl
    | some u =>
      obtain ⟨ob, z⟩ := (I.hok e u hq).obj
      rw [hx.new] at z
      cases z
  refine ⟨e, cls, H, rfl, hE, I.os, I.bare, ⟨fun b o q n hb _ => stay b o (low b o q hb) (U.keep b o q n hb (by intro z; cases z)), fun b o q n hb _ => ?_, fun b o q n _ => U.free b o q n (by intro z; cases z), fun b o q _ => ?_, U.tups, U.frzs, U.tbls⟩, fun a o q => ?_, hnew, _, _, x1, fun b o q hb => ?_, fun b o o' q hb q' => ?_⟩
  · obtain ⟨sl, e1⟩ := U.slot b o q n hb (by intro z; cases z)
    obtain ⟨sl', e2⟩ := up b (by show b ∈ List.filterMap _ (_ :: _); exact List.mem_cons_of_mem _ hb) _ e1
    exact ⟨sl', e2⟩
  · obtain ⟨o1, e1⟩ := U.there b o q (by intro z; cases z)
    by_cases hb : b ∈ frs (envOfC qual scope s₀.heap.objs.size f cd :: outer)
    · obtain ⟨sl, e2⟩ := up b hb _ e1
      exact ⟨_, e2⟩
    · exact ⟨_, stay b _ hb e1⟩
  · refine (I.hok a o q).stay (fun b u hb z => stay b u (trk b ?_) z) (fun _ z => z) fun _ _ z => z
    rcases hb with rfl | hb
    · rw [q]; intro z; cases z
    · rw [hb]; intro z; cases z
  · obtain ⟨o1, e1⟩ : ∃ o1, s.heap.get? b = some o1 := by
      cases hq : H b with
      | none => exact absurd hq hb
      | some u => exact (I.hok b u hq).obj
    have := stay b o1 (trk b hb) e1
    rw [q] at this
    cases this
    exact PySem.W.hideAll_get _ e1 (trk b hb)
  · obtain ⟨o1, e1⟩ := U.there b o q (by intro z; cases z)
    have hn := low b o q hb
    have := stay b o1 hn e1
    rw [q'] at this
    cases this
    exact PySem.W.hideAll_get _ e1 hn
theorem fly_on {E' : XK} (hEE : ∀ cls H, E' cls none H → E cls none H) : Passes (CXE P w) (cxOf (CXE P w) P w K mg base N qual scope f cd A outer s₀ H₀ E) E' := by
  intro pins σ H s e s' I h
  obtain ⟨x, cls, H', rfl, hE, F⟩ := h
  obtain ⟨B, a0, fl, f1, f2⟩ := F.fly
  have hL : ∀ b ∈ frs (envOfC qual scope s₀.heap.objs.size f cd :: outer), b ∈ frs outer ∨ b = s₀.heap.objs.size := fun b hb => by
    rcases List.mem_cons.mp (I.stkSub b hb) with z | z
    · exact .inr z
    · exact .inl z
  have low : ∀ b o, s₀.heap.get? b = some o → b ∉ frs outer → b ∉ frs (envOfC qual scope s₀.heap.objs.size f cd :: outer) := fun b o hb hn hm => by
    rcases hL b hm with z | z
    · exact hn z
    · exact absurd (Heap.lt_size hb) (by rw [z]; exact Nat.lt_irrefl _)
  have U := I.base
  have no : ∀ b : Addr, b ∉ ([] : List Addr) := fun b z => by cases z
  refine wpAny_leaves_onW I.ok.frames rfl fl fun h' x1 x2 => ?_
  have two : ∀ b o, s₀.heap.get? b = some o → ∃ o1 o2, s.heap.get? b = some o1 ∧ s'.heap.get? b = some o2 := fun b o q => by
    obtain ⟨o1, e1⟩ := U.there b o q (no b)
    obtain ⟨o2, e2⟩ := F.un.there b o1 e1 (no b)
    exact ⟨o1, o2, e1, e2⟩
  have stay : ∀ b o o2, s₀.heap.get? b = some o → b ∉ frs outer → s'.heap.get? b = some o2 → B.get? b = some o2 := fun b o o2 q hb q2 => by
    obtain ⟨o1, o2', e1, e2⟩ := two b o q
    exact f2 b o1 o2 e1 (low b o q hb) q2
  have hff := fl.2.2.1
  refine ⟨x, cls, H', rfl, hEE _ _ hE, F.os.trans I.os, F.bare, ⟨fun b o q n hb _ => ?_, fun b o q n hb _ => ?_, fun b o q n _ => ?_, fun b o q _ => ?_, fun b xs q => F.un.tups b xs (U.tups b xs q), fun b o u q => F.un.frzs b o u (U.frzs b o u q), fun b ps q => ?_⟩, fun a o q => ?_, F.new, B, a0, x1, fun b o q hb => ?_, fun b o o' q hb q' => ?_⟩
  · have e1 := U.keep b o q n hb (no b)
    have e2 := F.un.keep b o e1 (U.free b o q n (no b)) (low b o q hb) (no b)
    exact x1.1 b o (stay b o o q hb e2)
  · obtain ⟨sl, e1⟩ := U.slot b o q n hb (no b)
    have hb' : b ∈ frs (envOfC qual scope s₀.heap.objs.size f cd :: outer) := by show b ∈ List.filterMap _ (_ :: _); exact List.mem_cons_of_mem _ hb
    obtain ⟨sl2, e2⟩ := F.un.slot b _ e1 (U.free b o q n (no b)) hb' (no b)
    obtain ⟨_, o', ho', hd⟩ := hff.mem hb'
    rw [e2] at ho'
    cases ho'
    obtain ⟨sl3, e3⟩ := x2 b _ e2 hd
    exact ⟨sl3, e3⟩
  · obtain ⟨o1, e1⟩ := U.there b o q (no b)
    exact F.un.free b o1 e1 (U.free b o q n (no b)) (no b)
  · obtain ⟨o1, o2, e1, e2⟩ := two b o q
    by_cases hb : b ∈ frs outer
    · have hb' : b ∈ frs (envOfC qual scope s₀.heap.objs.size f cd :: outer) := by show b ∈ List.filterMap _ (_ :: _); exact List.mem_cons_of_mem _ hb
      obtain ⟨_, o', ho', hd⟩ := hff.mem hb'
      obtain ⟨sl3, e3⟩ := x2 b _ ho' hd
      exact ⟨_, e3⟩
    · exact ⟨_, x1.1 b o2 (stay b o o2 q hb e2)⟩
  · obtain ⟨m1, e1⟩ := U.tbls b ps q
    obtain ⟨m2, e2⟩ := F.un.tbls b _ e1
    exact ⟨m1 ++ m2, by rw [e2, Array.append_assoc]⟩
  · refine (F.hok a o q).stay (fun b u hb z => x1.1 b u (f1 b u z ?_)) (fun _ z => z) fun _ _ z => z
    rcases hb with rfl | hb
    · rw [q]; intro z; cases z
    · rw [hb]; intro z; cases z
  · obtain ⟨o1, e1⟩ : ∃ o1, s'.heap.get? b = some o1 := by
      cases hq : H' b with
      | none => exact absurd hq hb
      | some u => exact (F.hok b u hq).obj
    have e2 := f1 b o1 e1 hb
    have := x1.1 b o1 e2
    rw [q] at this
    cases this
    exact e2
  · obtain ⟨o1, o2, e1, e2⟩ := two b o q
    have e3 := stay b o o2 q hb e2
    have := x1.1 b o2 e3
    rw [q'] at this
    cases this
    exact e3
end
end L2
set_option Elab.async false
set_option linter.all false
set_option maxRecDepth 100000
set_option maxHeartbeats 4000000
namespace L2
open PySem PySem.Spec PyProof.Rows
section
variable {prog : Program} {w : World} {A : Around} {E : Value → Shared → Prop} {K : PySem.W.Frag} {x D : Addr} {ox : Obj} {s : Shared}
structure InstC (h : Heap) (x : Addr) (ox : Obj) (D : Addr) : Prop where
  at_ : h.get? x = some ox
  cls : ox.cls = .ref D
theorem InstC.type {M : Model} {h : Heap} {y C : Addr} {oy : Obj} (I : InstC h y oy C) : PySem.W.Looks M h (typeOf (.ref y)) (.ref C) := by
  have z : PySem.W.Looks M h (typeOf (.ref y)) oy.cls := (PySem.W.Looks.ld I.at_).andThen .now
  rwa [I.cls] at z
theorem xc_find {M : Model} {h : Heap} (X : K.In h) (ha : PySem.W.findIn K (.ref D) "__class__" = some (some (.builtin "object.__class__"))) (hg : PySem.W.specialIn K (.builtin "object.__class__") "__get__" = some (some (.builtin "getset_descriptor.__get__")))
    (ht : PySem.W.takesIn K (.builtin "object.__class__") = some true) : PySem.W.Looks M h (Builtin.ObjectAttr.find (.ref x) (.ref D) "__class__") (.bind (.builtin "getset_descriptor.__get__") (.builtin "object.__class__")) := by
  have L1 := PySem.W.looks_findIn (M := M) X ha
  have L2 : PySem.W.Looks M h (Builtin.ObjectAttr.getOf (some (.builtin "object.__class__"))) (some (.builtin "getset_descriptor.__get__")) := PySem.W.looks_specialIn X hg
  have L3 := PySem.W.looks_takesIn (M := M) X ht
  refine L1.andThen (L2.andThen ?_)
  refine PySem.W.Looks.andThen (a := some (.builtin "getset_descriptor.__get__", .builtin "object.__class__")) (L3.andThen ?_) (PySem.W.Looks.tag .now)
  rw [if_pos rfl]
  exact .now
theorem xc_get {tp : Value} {R : Result → Shared → Prop} (X : K.In s.heap) (I : InstC s.heap x ox D) (hm : PySem.W.mroIn K D (.type "object") = some true) (hq : R (.ok (.ret (.ref D))) s) :
    codeAny (model prog w) A (.call (.builtin "getset_descriptor.__get__") ⟨[.builtin "object.__class__", .ref x, tp], []⟩) R s := by
  obtain ⟨hh, g, d, t, os⟩ := s
  have T0 := I.type (M := model prog w)
  have T1 := PySem.W.looks_mroIn (M := model prog w) X hm
  refine codeAny_call_builtin PySem.W.KF.slot_gs.plain PySem.W.KF.entry_gs (PySem.W.KF.slot_gs.check _ _ _ _ _ _ _ _ PySem.W.KF.type_class (PySem.W.KF.args_gs _ _ _) ?_)
  unfold Builtin.«getset_descriptor.__get__» Builtin.Getset_descriptor.descrGet; rw [PySem.W.dga_obj]
  refine wpAny_bind (wpAny_pure ?_); unfold Builtin.Getset_descriptor.descrGetter Builtin.Getset_descriptor.descrCheckInstance Builtin.Getset_descriptor.descrNameAndClass isInstance
  simp only [PySem.W.KF.owner_class]; repeat lk
  refine ⟨Code.quiet_builtin _ (by decide +kernel), codeAny_builtin PySem.W.KF.entry_class ?_⟩
  unfold Builtin.«object.__class__» shownTypeOf; repeat lk
  exact hq
theorem xc_entry {tk : Tok} {Q : Fin → Shared → Prop} (X : K.In s.heap) (I : InstC s.heap x ox D) (ha : PySem.W.findIn K (.ref D) "__class__" = some (some (.builtin "object.__class__"))) (hg : PySem.W.specialIn K (.builtin "object.__class__") "__get__" = some (some (.builtin "getset_descriptor.__get__")))
    (ht : PySem.W.takesIn K (.builtin "object.__class__") = some true) (hm : PySem.W.mroIn K D (.type "object") = some true)
    (hq : Q (.done (.ret (.ref D))) s) : wpAny (model prog w) A (Builtin.«object.__getattribute__» ⟨[.ref x, .str "__class__" tk], []⟩) Q E s := by
  obtain ⟨hh, g, d, t, os⟩ := s
  have L0 := I.type (M := model prog w)
  have L1 := xc_find (M := model prog w) (x := x) X ha hg ht
  unfold Builtin.«object.__getattribute__»
  refine wpAny_bind (wpAny_pure (wpAny_bind (wpAny_pure (wpAny_bind (L0.at (wpAny_bind (L1.at ?_)))))))
  show wpAny _ _ (holding [Value.builtin "object.__class__"] (call (Value.builtin "getset_descriptor.__get__") [.builtin "object.__class__", .ref x, .ref D]) >>= ret) _ _ _
  exact wpAny_bind (wpAny_holding (wpAny_call (xc_get (s := ⟨hh, g, d, t, os⟩) X I hm (wpAny_pure hq))))
theorem xc_check {nameV : Value} {M : Model} {Q : Unit → Shared → Prop} (X : K.In s.heap) (I : InstC s.heap x ox D) (hs : PySem.W.subIn K (.ref D) (.type "BaseException") = some true) (hq : Q () s) :
    wpAny M A (checkBuiltinCall "BaseException.__getattribute__" ⟨[.ref x, nameV], []⟩) Q E s := by
  have k1 : builtinKind "BaseException.__getattribute__" = some .slot := by decide +kernel
  have k2 : splitId "BaseException.__getattribute__" = some ("BaseException", "__getattribute__") := by decide +kernel
  have k3 := PySem.F.args_bexc_ga (.ref x) nameV
  have LI : PySem.W.Looks M s.heap (isInstance (.ref x) (.type "BaseException")) true := (I.type (M := M)).andThen (PySem.W.looks_subIn X hs)
  obtain ⟨hh, g, d, t, os⟩ := s
  simp only [checkBuiltinCall, k1, k2]
  refine wpAny_bind (LI.at ?_)
  repeat (any_goals (first | assumption | wp_step))
structure ExcK (K : PySem.W.Frag) (D : Addr) : Prop where
  lk : ∃ c d cd sl, K.lookup D = some ⟨c, d, .cls cd, sl⟩
  ga : PySem.W.findIn K (.ref D) "__getattribute__" = some (some (.builtin "BaseException.__getattribute__"))
  gt : PySem.W.findIn K (.ref D) "__getattr__" = some none
  sb : PySem.W.subIn K (.ref D) (.type "BaseException") = some true
  cf : PySem.W.findIn K (.ref D) "__class__" = some (some (.builtin "object.__class__"))
  cg : PySem.W.specialIn K (.builtin "object.__class__") "__get__" = some (some (.builtin "getset_descriptor.__get__"))
  ct : PySem.W.takesIn K (.builtin "object.__class__") = some true
  mo : PySem.W.mroIn K D (.type "object") = some true
theorem xc_attr {Q : Option Value → Shared → Prop} (X : K.In s.heap) (I : InstC s.heap x ox D) (F : ExcK K D)
    (h : Q (some (.ref D)) { s with toks := s.toks + 1 }) : wpAny (model prog w) A (getAttr? (.ref x) "__class__") Q E s := by
  obtain ⟨hh, g, d, t, os⟩ := s
  have L0 := I.type (M := model prog w)
  have L1 := PySem.W.looks_findIn (M := model prog w) X F.ga
  have L2 := PySem.W.looks_findIn (M := model prog w) X F.gt
  unfold getAttr? getAttrBy? getAttrBy
  refine wpAny_bind (wpAny_mkText (wpAny_bind (wpAny_attempt (wpAny_holding (wpAny_bind (L0.at (wpAny_bind (L1.at ?_))))))))
  repeat (any_goals (first | assumption | wp_step | lk))
  refine codeAny_call_builtin (PySem.F.excAttr_ValueError).ga.plain PySem.F.entry_bexc_ga (xc_check (s := ⟨hh, g, d, t + 1, os⟩) X I F.sb (xc_entry (s := ⟨hh, g, d, t + 1, os⟩) X I F.cf F.cg F.ct F.mo ?_))
  repeat (any_goals (first | assumption | wp_step | lk))
theorem kitx_exc (F : ExcK K D) : PySem.W.KitX K (.ref x) (.ref D) (fun h => InstC h x ox D) where
  ty := fun _ _ _ I => I.type
  it := fun M h X _ => by
    obtain ⟨c, d, cd, sl, ho⟩ := F.lk
    intro A' Q' E' s' k q
    unfold isType loadHead
    exact wpAny_bind (wpAny_loadPart (k _ _ (X _ _ ho)) (wpAny_pure q))
  ne := fun h tp dd its n sl X htp => by
    obtain ⟨c, d, cd, sl', ho⟩ := F.lk
    rw [Bool.eq_false_iff]
    intro q
    cases (show D = tp from Value.ref.inj (eq_of_beq q))
    have z := X _ _ ho
    rw [htp] at z
    cases z
  ca := fun X I k => xc_attr X I F k
end
noncomputable abbrev inH (X : Cx) (x : Addr) (oe : Obj) : Cx := { X with A := X.A.mark (some (.ref x)), calm := false, pn := (x, oe) :: X.pn, xe := fun _ _ => False }
noncomputable abbrev inM (X : Cx) (x : Addr) : Cx := { X with A := X.A.mark (some (.ref x)), calm := false, xe := fun _ _ => False }
section
variable {X : Cx} {pins : List (Addr × Obj)} {σ : St} {H : Hp} {s : Shared} {x : Addr} {oe : Obj}
theorem Cx.Ok.marked (ok : X.Ok) (x : Addr) : (inM X x).Ok :=
  ⟨ok.mod, ok.kind, ok.glob, ok.blt, ok.above, ok.inj, ok.has, ok.cab, (fun z => Bool.noConfusion z), ok.frames, ok.stk, ok.exf, ok.bs, ok.bsz, ok.noex, ok.exfs, ok.funs, ok.frf⟩
theorem Inv.marked (I : Inv X pins σ H s) (x : Addr) : Inv (inM X x) pins σ H s := ⟨I.ok.marked x, I.os, I.bare, I.base, I.loc, I.cell, I.free, I.freeC, I.pin, I.hok, I.len⟩
theorem Inv.pinH (I : Inv X pins σ H s) (h1 : s.heap.get? x = some oe) (h2 : H x = none) (h3 : x ≠ X.env.locals) (h4 : x ∉ X.fs) (h5 : ∀ v, oe.data ≠ .cell v) : Inv (inH X x oe) pins σ H s :=
  ⟨⟨I.ok.mod, I.ok.kind, I.ok.glob, I.ok.blt, I.ok.above, I.ok.inj, I.ok.has, I.ok.cab, (fun z => Bool.noConfusion z), I.ok.frames, I.ok.stk, I.ok.exf, I.ok.bs, I.ok.bsz, I.ok.noex, I.ok.exfs, I.ok.funs, I.ok.frf⟩, I.os, I.bare, I.base, I.loc, I.cell, I.free, I.freeC,
    fun p hp => by
      rcases List.mem_cons.mp hp with rfl | hp
      · exact ⟨h1, h2, h3, h4, h5⟩
      · exact I.pin p hp, I.hok, I.len⟩
theorem Inv.unpinH (ok : X.Ok) (I : Inv (inH X x oe) pins σ H s) : Inv X pins σ H s := ⟨ok, I.os, I.bare, I.base, I.loc, I.cell, I.free, I.freeC, fun p hp => I.pin p (List.mem_cons_of_mem _ hp), I.hok, I.len⟩
noncomputable def rIsiX (K : PySem.W.Frag) (x D : Addr) : List V → Hp → VK → Prop := fun xs H Q => ∃ b : Bool, ((∃ C, xs = [.ref x, .ref C] ∧ PySem.W.kitOne K (.ref D) (.ref C) = some b) ∨ (∃ T, xs = [.ref x, .ty T] ∧ PySem.W.kitOne K (.ref D) (.type T) = some b) ∨
  ∃ (p : Addr) (Cs : List Addr), xs = [.ref x, .ref p] ∧ H p = some (.tup (Cs.map V.ref)) ∧ PySem.W.kitAny K (.ref D) (Cs.map Value.ref) = some b) ∧ Q (.bl b) H
theorem vals_refs : ∀ {Cs : List Addr} {us : List Value}, Vals (Cs.map V.ref) us → us = Cs.map Value.ref
  | [], _, r => by cases r; rfl
  | _ :: _, _, r => by
    cases r with
    | cons r t => cases r; rw [vals_refs t]; rfl
theorem call_isiX {D : Addr} (F : ExcK X.K D) (hc : oe.cls = .ref D) : CallR (inH X x oe) (.builtin "isinstance") (rIsiX X.K x D) := by
  intro pins s σ H xs us Q I r h
  obtain ⟨b, h, q⟩ := h
  have p := (I.pin (x, oe) (List.mem_append_left _ List.mem_cons_self)).1
  have J : InstC s.heap x oe D := ⟨p, hc⟩
  rcases h with ⟨C, rfl, hk⟩ | ⟨T, rfl, hk⟩ | ⟨tp, Cs, rfl, ht, hk⟩
  · obtain ⟨u, w', rfl, r1, r2⟩ := vals2 r
    cases (show u = Value.ref x from r1)
    cases (show w' = Value.ref C from r2)
    exact PySem.W.kia_one (kitx_exc F) I.kIn J hk (fun z => nomatch z) fun tk => ⟨.bl b, H, I.tok tk, rfl, q⟩
  · obtain ⟨u, w', rfl, r1, r2⟩ := vals2 r
    cases (show u = Value.ref x from r1)
    cases (show w' = Value.type T from r2)
    exact PySem.W.kia_one (kitx_exc F) I.kIn J hk (fun z => nomatch z) fun tk => ⟨.bl b, H, I.tok tk, rfl, q⟩
  · obtain ⟨u, w', rfl, r1, r2⟩ := vals2 r
    cases (show u = Value.ref x from r1)
    cases (show w' = Value.ref tp from r2)
    obtain ⟨its, rv, ⟨⟨cls, dd, data, sl⟩, ho, hcl, n, hdt⟩, _⟩ := I.tuple (SqT.of ht)
    simp only at hcl hdt
    subst hcl hdt
    rw [vals_refs rv] at ho
    exact PySem.W.kia_tup (kitx_exc F) I.kIn J ho hk (fun z => nomatch z) fun tk => ⟨.bl b, H, I.tok tk, rfl, q⟩
end
noncomputable def tRaise (cls : Value) (E : XK) (t : TA) : TS := fun _ σ H => t σ H fun vs H1 => vs.length ≤ sizeLine ∧ E cls none H1
theorem own_mk {K : PySem.W.Frag} {h : Heap} {mg : Str → Option Value} {x : Str} {C : Addr} {bm : List Value} {nid : String} (X : K.In h) (G : h.Ns mainGlobals mg) (e : PySem.W.nsIn K mainGlobals x = some (some (.ref C))) (q : PySem.W.excIn K C bm nid = true) : OwnCls x C bm nid mg h := by
  constructor
  · exact PySem.W.mg_of X G e
  · unfold PySem.W.excIn at q
    cases hl : K.lookup C with
    | none => rw [hl] at q; cases q
    | some o =>
      rw [hl] at q
      obtain ⟨cl, dd, data, sl⟩ := o
      split at q
      · rename_i hh
        cases hh
        split at q
        · rename_i _ cd _ _ C' bm' k0 k1 k2 k3 n k5 hm hs
          simp only [Bool.and_eq_true, beq_iff_eq, Bool.not_eq_true'] at q
          obtain ⟨⟨⟨⟨⟨rfl, rfl⟩, d0⟩, t0⟩, o0⟩, i0⟩ := q
          obtain ⟨nm, bs, mro, ns, qn, hd, sn, sub, ab, col, del⟩ := cd
          try dsimp only at hm d0 o0 i0
          subst hm d0
          obtain ⟨l⟩ := sl
          simp only at hs
          subst hs
          exact ⟨_, _, _, _, _, _, _, _, _, _, _, _, _, _, _, _, _, X _ _ hl, .of_isNs (PySem.W.isNs_of_in X o0), PySem.W.nsMap_none_of_in X o0 i0, PySem.W.tail_of_in X t0⟩
        · cases q
      · cases q
section
variable {P : Program} {w : World} {K : PySem.W.Frag} {mg : Str → Option Value} {base : Heap} {N : List Str} {qual : Str} {scope : Scope} {f : Addr} {cd : Value} {A : Around} {outer : List Env} {s₀ : Shared} {H₀ : Hp} {E : XK}
theorem ps_raise {x : Str} {C : Addr} {B nid iid : String} {bm : List Value} {np cpos pos : Pos} {e : Expr} {es : List Expr} {t : TA} (O : OwnCls x C bm nid mg base) (FB : ExcBaseFacts B nid iid bm)
    (ha : PA (cxOf (CXE P w) P w K mg base N qual scope f cd A outer s₀ H₀ E) (e :: es) t) (hg : Gl (cxOf (CXE P w) P w K mg base N qual scope f cd A outer s₀ H₀ E) x := by rfl) (hd : (x == ("__debug__" : Str)) = false := by decide)
    (he : starEach (e :: es) (cxOf (CXE P w) P w K mg base N qual scope f cd A outer s₀ H₀ E).env = (false, eval e (cxOf (CXE P w) P w K mg base N qual scope f cd A outer s₀ H₀ E).env) :: starEach es (cxOf (CXE P w) P w K mg base N qual scope f cd A outer s₀ H₀ E).env := by rfl)
    (hpl : (backTo cpos (starEach es (cxOf (CXE P w) P w K mg base N qual scope f cd A outer s₀ H₀ E).env)).any (·.1) = false := by rfl) :
    PS (cxOf (CXE P w) P w K mg base N qual scope f cd A outer s₀ H₀ E) (.Raise (some (.Call (.Name x np) (e :: es) [] cpos)) none pos) (tRaise (.ref C) E t) := by
  intro pins s σ H D I h
  obtain ⟨tl, Nn, nm, q, bs, hdct, sn, sub, ab, col, dd, k0, k1, k2, k3, k5, mN, hC, hN, hni, T⟩ := O.obj
  refine wpAny_Raise_call_subT (newId := nid) (k5 := k5) (k3 := k3) (k2 := k2) (k1 := k1) (k0 := k0) (dd := dd) (col := col) (ab := ab) (sub := sub) (sn := sn) (hdct := hdct) (bs := bs) (q := q) (nm := nm) (C := C) (N := Nn) (bm := tl) FB (mN := mN) (T.hasType FB.hasBase) (I.ok.hd rfl) (by rw [he]; show (false || (backTo cpos (starEach es _)).any (·.1)) = false; rw [hpl]; rfl) hni (ld_glob I hg O.bound ⟨rfl, ?_⟩ hd)
  rw [he]
  have ha' := ha cpos pins s σ H _ I h
  rw [he] at ha'
  exact Calls.evalArgs_plain (thn ha' fun us s1 ⟨vs, H1, I1, r, z, q⟩ => ⟨rfl, by rw [← r.length]; exact z, I1.bk _ _ hC, hN.keeps I1.bk, T.keeps I1.bk, fun h' e hx => fly_made (tk := s1.toks) I1 hx q⟩)
end
theorem goes_ok {X : Cx} {pins : List (Addr × Obj)} {σ : St} {H : Hp} {s : Shared} {M : Model} {A : Around} {E : Value → Shared → Prop} {i : Nat} {x : Str} {pos : Pos} {Q : Unit → Shared → Prop} (I : Inv X pins σ H s) (hN : X.N.Nodup) (hi : X.N[i]? = some x) (hk : X.env.kindOf x = some .local)
    (h : ∀ s', Inv X pins (σ.set i none) H s' → Q () s') : wpAny M A (do bindName X.env x .none; unbindBehindTheSuite X.env x pos) Q E s := by
  obtain ⟨m, hn, hl⟩ := id I.loc
  have hiσ : i < σ.length := by rw [I.len]; exact (List.getElem?_eq_some_iff.mp hi).1
  have cne := I.cne
  refine wpAny_nameGoes_keeps hk hn (by rw [I.ok.kind]; rfl) fun h' v hn' hs => ?_
  obtain ⟨oL, _, _, hoL, _⟩ := id hn
  have low : ∀ {b : Addr} {o : Obj}, X.s₀.heap.get? b = some o → b ≠ X.env.locals := fun e => Nat.ne_of_lt (Nat.lt_of_lt_of_le (Heap.lt_size e) I.ok.above)
  refine h _ ⟨I.ok, I.os, I.bare, ⟨fun b o e n hb hx => (hs.2 b (low e)).trans (I.base.keep b o e n hb hx), fun b o e n hb hx => ?_, I.base.free, fun b o e hx => ?_, I.base.tups, I.base.frzs, I.base.tbls⟩, ⟨_, hn', fun j y v' e1 e2 e3 => ?_⟩, fun y c e => ?_, I.free, I.freeC, fun p hp => ?_, fun b ob e => ?_, by simpa using I.len⟩
  · obtain ⟨sl, e1⟩ := I.base.slot b o e n hb hx
    exact ⟨sl, (hs.2 b (low e)).trans e1⟩
  · obtain ⟨o', e1⟩ := I.base.there b o e hx
    exact ⟨o', (hs.2 b (low e)).trans e1⟩
  · by_cases hj : j = i
    · subst hj
      rw [List.getElem?_set_self hiσ] at e2
      cases e2
    · rw [List.getElem?_set_ne (Ne.symm hj)] at e2
      obtain ⟨u', r', q⟩ := hl j y v' e1 e2 e3
      refine ⟨u', r', ?_⟩
      rcases q with ⟨k, e⟩ | ⟨k, c, e, z⟩
      · refine .inl ⟨k, ?_⟩
        have : y ≠ x := fun e => hj (nodup_ix hN e1 (e ▸ hi))
        simp [this, e]
      · exact .inr ⟨k, c, e, z.sameBut hs (cne y c e)⟩
  · obtain ⟨w', z⟩ := I.cell y c e
    exact ⟨w', z.sameBut hs (cne y c e)⟩
  · obtain ⟨e, n, ne, nf, d⟩ := I.pin p hp
    exact ⟨(hs.2 p.1 ne).trans e, n, ne, nf, d⟩
  · refine (I.hok b ob e).stay (fun c w' hc q => (hs.2 c ?_).trans q) (fun _ q => q) fun _ _ q => q
    rintro rfl
    rcases hc with rfl | hc
    · rw [I.free] at e; cases e
    · rw [I.free] at hc; cases hc
section
noncomputable def PB (Y : Cx) (st : Stmt) (t : Ends → (St → XK) → St → Hp → Prop) : Prop :=
  ∀ (pins : List (Addr × Obj)) (s : Shared) (σ : St) (H : Hp) (D : Ends) (E : St → XK), Inv Y.nox pins σ H s → t D E σ H →
    wpAny (model Y.prog Y.w) Y.A (exec st Y.env) (SP Y.nox pins D) (fun e s' => ∃ σ1 H1 s1, Inv Y.nox pins σ1 H1 s1 ∧ CXE Y.prog Y.w Y.stack H1 s1 (E σ1) e s') s
noncomputable def PBs (Y : Cx) (st : List Stmt) (t : Ends → (St → XK) → St → Hp → Prop) : Prop :=
  ∀ (pins : List (Addr × Obj)) (s : Shared) (σ : St) (H : Hp) (D : Ends) (E : St → XK), Inv Y.nox pins σ H s → t D E σ H →
    wpAny (model Y.prog Y.w) Y.A (execs st Y.env) (SP Y.nox pins D) (fun e s' => ∃ σ1 H1 s1, Inv Y.nox pins σ1 H1 s1 ∧ CXE Y.prog Y.w Y.stack H1 s1 (E σ1) e s') s
noncomputable def bNext : Ends → (St → XK) → St → Hp → Prop := fun D _ σ H => D.nx σ H
theorem pbs_nil {Y : Cx} : PBs Y [] bNext := fun _ _ σ H _ _ I h => wpAny_execs_nil ⟨σ, H, I, h⟩
noncomputable def bSeq (t u : Ends → (St → XK) → St → Hp → Prop) : Ends → (St → XK) → St → Hp → Prop := fun D E σ H => t ⟨u D E, D.rt, D.bk, D.ct⟩ E σ H
theorem pbs_cons {Y : Cx} {st : Stmt} {rest : List Stmt} {t u : Ends → (St → XK) → St → Hp → Prop} (h1 : PB Y st t) (h2 : PBs Y rest u) : PBs Y (st :: rest) (bSeq t u) := by
  intro pins s σ H D E I h
  refine wpAny_execs_cons (thn (h1 pins s σ H ⟨u D E, D.rt, D.bk, D.ct⟩ E I h) fun f s1 q => ?_)
  cases f with
  | next =>
    obtain ⟨σ', H', I', q⟩ := q
    exact h2 pins s1 σ' H' D E I' q
  | brk => exact q
  | cont => exact q
  | ret v => exact q
noncomputable def bIf (c : TT) (t u : Ends → (St → XK) → St → Hp → Prop) : Ends → (St → XK) → St → Hp → Prop := fun D E σ H => c σ H fun b H1 => if b = true then t D E σ H1 else u D E σ H1
theorem pb_if {Y : Cx} {c : Expr} {a b : List Stmt} {tc : TT} {t u : Ends → (St → XK) → St → Hp → Prop} {pos : Pos} (hc : PT Y.nox c tc) (ha : PBs Y a t) (hb : PBs Y b u) : PB Y (.If c a b pos) (bIf tc t u) := by
  intro pins s σ H D E I h
  refine wpAny_If (wpAny_mono (hc pins s σ H _ I h) (fun k s1 ⟨H1, I1, q⟩ => ?_) fun _ _ z => z.elim)
  cases k with
  | true => exact ha pins s1 σ H1 D E I1 (by simpa using q)
  | false => exact hb pins s1 σ H1 D E I1 (by simpa using q)
noncomputable def bCall (sp : Sp) (t : TA) : Ends → (St → XK) → St → Hp → Prop := fun D E σ H => t σ H fun vs H1 => sp vs H1 (fun _ H2 => D.nx σ H2) (E σ)
end
structure CalX (P : Program) (w : World) (K : PySem.W.Frag) (mg : Str → Option Value) (base : Heap) (x : Str) (k : Nat) (ps : List Str) (sp : Sp) : Prop where
  ex : ∃ (f : Addr) (fd : FuncData), mg x = some (.ref f) ∧ PySem.W.keepIn K (.ref f) = true ∧ Binds K fd ps [] ∧ FnOk P w K mg base (CXE P w) k f fd ps sp
theorem pb_call {Y : Cx} {x : Str} {k j : Nat} {ps : List Str} {sp : Sp} {e : Expr} {es : List Expr} {t : TA} {p pos pos2 : Pos} (C : CalX Y.prog Y.w Y.K Y.mg Y.base x j ps sp) (hr : Room k Y.A) (ha : PA Y.nox (e :: es) t) (hjk : j ≤ k := by decide) (hg : Gl Y x := by rfl) (hdb : (x == ("__debug__" : Str)) = false := by decide)
    (he : starEach (e :: es) Y.env = (false, eval e Y.env) :: starEach es Y.env := by rfl) (hpl : (backTo pos (starEach es Y.env)).any (·.1) = false := by rfl) (hs : swapsWith (.Call (.Name x p) (e :: es) [] pos) none pos2.line Y.env = pure false := by rfl) :
    PB Y (.Expr (.Call (.Name x p) (e :: es) [] pos) pos2) (bCall sp t) := by
  intro pins s σ H D E I h
  obtain ⟨f, fd, hm, hk, hb, F⟩ := C.ex
  refine wpAny_Expr_any (wpAny_Call_Name_kw (ld_glob (X := Y.nox) I hg hm ?_ hdb)) I.quiet hs
  refine PySem.W.callWith_K (h₀ := Y.base) I.ok.mod.kin hk (wpAny_mono (ha pos pins s σ H _ I h) (fun us s1 ⟨vs, H1, I1, r, q⟩ => ⟨I1.kIn, ?_⟩) fun _ _ z => z.elim) he hpl
  have hl : us.length = ps.length := by rw [← r.length]; exact F.len _ _ _ _ q
  have hb' := hb s1 us I1.kIn (by rw [List.append_nil]; exact hl)
  rw [List.append_nil] at hb'
  refine wpAny_call (codeAny_mono (F.run Y.A Y.stack s1 H1 ⟨us, []⟩ us vs _ (E σ) (hr.mono hjk) I1.env0 hb' r q) fun r s' hq => ?_)
  cases r with
  | error e => exact ⟨σ, H1, s1, I1, hq⟩
  | ok fl =>
    cases fl with
    | ret u =>
      obtain ⟨v, H2, I2, _, q2⟩ := I1.after hq
      exact ⟨σ, H2, I2, q2⟩
    | next => exact False.elim hq
    | brk => exact False.elim hq
    | cont => exact False.elim hq
theorem Fly.lands {P : Program} {w : World} {l : List Env} {H : Hp} {s : Shared} {x : Addr} {cls a0 : Value} {H' : Hp} {s' : Shared} {B h5 : Heap} (F : Fly P w l H s x cls H' s') (fl : Heap.FlyingW B l x cls a0 s'.heap) (f1 : ∀ b o, s'.heap.get? b = some o → H' b ≠ none → B.get? b = some o)
    (f2 : ∀ b o o', s.heap.get? b = some o → b ∉ frs l → s'.heap.get? b = some o' → B.get? b = some o') (fl5 : Heap.FlyingW B l x cls a0 h5) (sm : s'.heap.UpToSlots h5) : Un (frs l) [] H H' s.heap h5 ∧ HOk P w H' h5 := by
  have no : ∀ b : Addr, b ∉ ([] : List Addr) := fun b z => by cases z
  have hff := fl.2.2.1
  have up : ∀ b ∈ frs l, ∀ o, s'.heap.get? b = some o → ∃ sl, h5.get? b = some { o with slots := sl } := fun b hb o ho => by
    obtain ⟨_, o', ho', hd⟩ := hff.mem hb
    rw [ho] at ho'
    cases ho'
    exact sm b o ho hd
  refine ⟨⟨fun b o q n hb _ => fl5.1 b o (f2 b o o q hb (F.un.keep b o q n hb (no b))), fun b o q n hb _ => ?_, F.un.free, fun b o q _ => ?_, F.un.tups, F.un.frzs, F.un.tbls⟩, fun a o q => ?_⟩
  · obtain ⟨sl, e1⟩ := F.un.slot b o q n hb (no b)
    obtain ⟨sl', e2⟩ := up b hb _ e1
    exact ⟨sl', e2⟩
  · obtain ⟨o2, e2⟩ := F.un.there b o q (no b)
    by_cases hb : b ∈ frs l
    · obtain ⟨sl, e3⟩ := up b hb _ e2
      exact ⟨_, e3⟩
    · exact ⟨_, fl5.1 b o2 (f2 b o o2 q hb e2)⟩
  · refine (F.hok a o q).stay (fun b u hb z => fl5.1 b u (f1 b u z ?_)) (fun _ z => z) fun _ _ z => z
    rcases hb with rfl | hb
    · rw [q]; intro z; cases z
    · rw [hb]; intro z; cases z
noncomputable def tTry (K : PySem.W.Frag) (C : Addr) (i : Nat) (tb : Ends → (St → XK) → St → Hp → Prop) (ts : Addr → Addr → TS) : TS := fun D σ H =>
  tb D (fun σ1 cls _ H1 => ∃ Dx, cls = .ref Dx ∧ PySem.W.exmOne K (.ref Dx) (.ref C) = some true ∧ ExcK K Dx ∧ ∀ x, H1 x = none →
    ts x Dx ⟨fun σ' H' => D.nx (σ'.set i none) H', D.rt, fun σ' H' => D.bk (σ'.set i none) H', fun σ' H' => D.ct (σ'.set i none) H'⟩ (σ1.set i (some (.ref x))) H1) σ H
theorem ps_try {Y : Cx} {i : Nat} {c n : Str} {C : Addr} {body : List Stmt} {b0 : Stmt} {suite : List Stmt} {np hpos pos : Pos} {tb : Ends → (St → XK) → St → Hp → Prop} {ts : Addr → Addr → TS}
    (hstk : Y.stack = Y.env :: Y.outer) (hfrm : Y.env.frame = some Y.env.locals) (hN : Y.N.Nodup) (hi : Y.N[i]? = some n) (hk : Y.env.kindOf n = some .local) (hx : Y.env.scope.names.lookup n = some .local) (hm : Y.mg c = some (.ref C)) (hg : Gl Y c) (hd : (c == ("__debug__" : Str)) = false)
    (hb : PBs Y body tb) (hs : ∀ (x : Addr) (oe : Obj) (Dx : Addr), ExcK Y.K Dx → oe.cls = .ref Dx → PSs (inH Y x oe) (b0 :: suite) (ts x Dx)) :
    PS Y.nox (.Try body [.ExceptHandler (some (.Name c np)) (some n) (b0 :: suite) hpos] [] [] pos) (tTry Y.K C i tb ts) := by
  intro pins s σ H D I h
  refine wpAny_Try_except (wpAny_mono (hb pins s σ H _ _ I h) (fun f s1 q => ?_) fun e s1 q => ?_)
  · cases f with
    | next => exact wpAny_execs_nil q
    | brk => exact q
    | cont => exact q
    | ret v => exact q
  obtain ⟨σ1, H1, s2, I1, x, cls, H', rfl, ⟨Dx, rfl, hex, hK, hts⟩, F⟩ := q
  obtain ⟨B, a0, fl, f1, f2⟩ := F.fly
  have ok : Y.nox.Ok := I1.ok
  have hfr : Y.A.frames = some (Y.env :: Y.outer) := by rw [← hstk]; exact ok.frames
  have fl' : Heap.FlyingW B (Y.env :: Y.outer) x (.ref Dx) a0 s1.heap := by rw [← hstk]; exact fl
  refine wpAny_looks_onW hfr hfrm fl' fun h4 hd4 sm4 => wpAny_landsW hd4 fun h5 fl5 sm5 => ?_
  have sm45 : s1.heap.UpToSlots h5 := sm4.trans sm5
  have lnd : ∀ h6, Heap.FlyingW B (Y.env :: Y.outer) x (.ref Dx) a0 h6 → s1.heap.UpToSlots h6 → ∀ g tk dr, g = s1.gens → Inv Y.nox pins σ1 H' ⟨h6, g, dr, tk, s1.os⟩ := fun h6 fl6 sm6 g tk dr eg => by
    obtain ⟨un, hok⟩ := F.lands fl f1 f2 (by rw [hstk]; exact fl6) sm6
    exact I1.call' (s' := ⟨h6, g, dr, tk, s1.os⟩) F.os un hok (by rw [eg]; exact F.bare) (fun b z => by cases z)
  have I5 := lnd h5 fl5 sm45 s1.gens s1.toks s1.drawn rfl
  have ty5 : PySem.W.Looks (model Y.prog Y.w) h5 (typeOf (.ref x)) (.ref Dx) := by
    obtain ⟨ob, hob, hc⟩ := fl5.there
    exact InstC.type ⟨hob, hc⟩
  refine wpAny_handleBy_cons (codeAny_handlers_test ?_) (by intro q; cases q)
  refine ld_glob (X := inM Y.nox x) (I5.marked x) hg hm ?_ hd
  refine (PySem.W.exm_one (M := model Y.prog Y.w) I5.kIn ty5 hex).here ?_
  dsimp only
  rw [if_pos rfl]
  refine codeAny_handlers_suite_as (lands_againW fl5 fun h6 fl6 sm6 => ?_)
  have I6 := lnd h6 fl6 (sm45.trans sm6) s1.gens s1.toks s1.drawn rfl
  obtain ⟨oe, vs, he, hc, hdt, _⟩ := fl6.first
  have nfr : x ∉ frs (Y.env :: Y.outer) := fun hm' => by
    obtain ⟨_, o, ho, hnf⟩ := fl6.2.2.1.mem hm'
    rw [he] at ho
    cases ho
    exact hnf vs hdt
  have I7 := I6.pinH (x := x) he F.new (fun z => nfr (frs_mem (env := Y.env) List.mem_cons_self (by rw [hfrm, z]))) (fun z => nfr (by show x ∈ List.filterMap _ _; rw [List.filterMap_cons, hfrm]; exact List.mem_cons_of_mem _ z)) (fun v z => by rw [hdt] at z; cases z)
  refine store_ok (X := inH Y.nox x oe) (v := .ref x) I7 hN hi (.inl hx) rfl (fun s8 I8 => ?_) (.inr hx)
  refine wpAny_mono (hs x oe Dx hK hc pins s8 _ H' _ I8 (hts x F.new)) (fun f s9 q => ?_) fun _ _ z => z.elim
  cases f with
  | next =>
    obtain ⟨σ', H9, I9, q⟩ := q
    exact goes_ok (X := Y.nox) (Inv.unpinH ok I9) hN hi hk fun s10 I10 => ⟨_, H9, I10, q⟩
  | brk =>
    obtain ⟨σ', H9, I9, q⟩ := q
    exact goes_ok (X := Y.nox) (Inv.unpinH ok I9) hN hi hk fun s10 I10 => ⟨_, H9, I10, q⟩
  | cont =>
    obtain ⟨σ', H9, I9, q⟩ := q
    exact goes_ok (X := Y.nox) (Inv.unpinH ok I9) hN hi hk fun s10 I10 => ⟨_, H9, I10, q⟩
  | ret u =>
    obtain ⟨v, σ', H9, I9, rv, q⟩ := q
    exact goes_ok (X := Y.nox) (Inv.unpinH ok I9) hN hi hk fun s10 I10 => ⟨v, _, H9, I10, rv, q⟩
theorem Dfn.okX {P : Program} {w : World} {K : PySem.W.Frag} {mg : Str → Option Value} {base : Heap} {x : Str} {st : Stmt} {N ps : List Str} {k : Nat} {sp : Sp} (D : Dfn K mg x st ps) (S : FnScope N ps (defScope st)) (len : ∀ vs H Q E, sp vs H Q E → vs.length = ps.length)
    (hbody : ∀ (f : Addr) (cdv : Value) (A : Around) (outer : List Env) (s : Shared) (H : Hp) (vs : List V) (Q : VK) (E : XK), Room k (A.deeper (envOfC x (defScope st) s.heap.objs.size f cdv)) → sp vs H Q E →
      ∃ t, PSs (cxOf (CXE P w) P w K mg base N x (defScope st) f cdv A outer s H E) (defBody st) t ∧ t { nx := fun _ H' => Q .non H', rt := Q } (start N vs) H) : CalX P w K mg base x (k + 1) ps sp := by
  obtain ⟨f, fd, hm, F, hb⟩ := D.ex
  obtain ⟨oc, od, kV, doc, pm, an, cdv, ct, osl, rfl, lk, hcd⟩ := F.ex
  exact ⟨f, _, hm, F.kp, hb, fn_of lk hcd S len fun A outer s H vs Q E hr h => hbody f cdv A outer s H vs Q E hr h⟩
section
variable {P : Program} {w : World} {K : PySem.W.Frag} {mg : Str → Option Value} {base : Heap} {N : List Str} {qual : Str} {scope : Scope} {f : Addr} {cd : Value} {A : Around} {outer : List Env} {s₀ : Shared} {H₀ : Hp} {E : XK}
theorem pe_calX {x : Str} {k j : Nat} {ps : List Str} {sp : Sp} {e : Expr} {es : List Expr} {t : TA} {p pos : Pos} (C : CalX P w K mg base x j ps sp) (hr : Room k (cxOf (CXE P w) P w K mg base N qual scope f cd A outer s₀ H₀ E).A)
    (ha : PA (cxOf (CXE P w) P w K mg base N qual scope f cd A outer s₀ H₀ E) (e :: es) t) (hjk : j ≤ k := by decide) (hg : Gl (cxOf (CXE P w) P w K mg base N qual scope f cd A outer s₀ H₀ E) x := by rfl) (hdb : (x == ("__debug__" : Str)) = false := by decide)
    (he : starEach (e :: es) (cxOf (CXE P w) P w K mg base N qual scope f cd A outer s₀ H₀ E).env = (false, eval e (cxOf (CXE P w) P w K mg base N qual scope f cd A outer s₀ H₀ E).env) :: starEach es (cxOf (CXE P w) P w K mg base N qual scope f cd A outer s₀ H₀ E).env := by rfl)
    (hpl : (backTo pos (starEach es (cxOf (CXE P w) P w K mg base N qual scope f cd A outer s₀ H₀ E).env)).any (·.1) = false := by rfl) :
    PE (cxOf (CXE P w) P w K mg base N qual scope f cd A outer s₀ H₀ E) (.Call (.Name x p) (e :: es) [] pos) (tCall sp [] E t) := by
  obtain ⟨f', fd, hm, hk, hb, F⟩ := C.ex
  exact pe_call F (hr.mono hjk) hg hm hk hb .nil (fly_on fun _ _ h => h) ha hdb he hpl
end
noncomputable abbrev bmV : List Value := [.type "ValueError", .type "Exception", .type "BaseException", .type "object"]
noncomputable def cA (K : PySem.W.Frag) (x : Str) : Addr := match PySem.W.nsIn K mainGlobals x with
  | some (some (.ref C)) => C
  | _ => 0
noncomputable def excB (K : PySem.W.Frag) (x : Str) : Bool :=
  PySem.W.excIn K (cA K x) bmV "ValueError.__new__" && (match K.lookup (cA K x) with | some ⟨_, _, .cls _, _⟩ => true | _ => false) && PySem.W.findIn K (.ref (cA K x)) "__getattribute__" == some (some (.builtin "BaseException.__getattribute__")) &&
  PySem.W.findIn K (.ref (cA K x)) "__getattr__" == some none && PySem.W.subIn K (.ref (cA K x)) (.type "BaseException") == some true && PySem.W.findIn K (.ref (cA K x)) "__class__" == some (some (.builtin "object.__class__")) &&
  PySem.W.specialIn K (.builtin "object.__class__") "__get__" == some (some (.builtin "getset_descriptor.__get__")) && PySem.W.takesIn K (.builtin "object.__class__") == some true && PySem.W.mroIn K (cA K x) (.type "object") == some true
structure Xf (K : PySem.W.Frag) (mg : Str → Option Value) (base : Heap) (all raised : List Str) : Prop where
  cl : ∀ x ∈ all, mg x = some (.ref (cA K x))
  own : ∀ x ∈ raised, OwnCls x (cA K x) bmV "ValueError.__new__" mg base
  exk : ∀ x ∈ raised, ExcK K (cA K x)
  up : ∀ x ∈ raised, PySem.W.exmOne K (.ref (cA K x)) (.ref (cA K "StairError")) = some true
  kv : ∀ x ∈ raised, PySem.W.kitOne K (.ref (cA K x)) (.type "ValueError") = some true
  kc : ∀ x ∈ raised, ∀ y ∈ all, PySem.W.kitOne K (.ref (cA K x)) (.ref (cA K y)) = some (x == y || y == ("StairError" : Str))
noncomputable def xfB (K : PySem.W.Frag) (all raised : List Str) : Bool :=
  all.all (fun x => PySem.W.nsIn K mainGlobals x == some (some (.ref (cA K x)))) && raised.all (fun x => all.contains x && excB K x && PySem.W.exmOne K (.ref (cA K x)) (.ref (cA K "StairError")) == some true && PySem.W.kitOne K (.ref (cA K x)) (.type "ValueError") == some true &&
    all.all fun y => PySem.W.kitOne K (.ref (cA K x)) (.ref (cA K y)) == some (x == y || y == ("StairError" : Str)))
theorem xf_mk {K : PySem.W.Frag} {mg : Str → Option Value} {base : Heap} {all raised : List Str} (X : K.In base) (G : base.Ns mainGlobals mg) (h : xfB K all raised = true) : Xf K mg base all raised := by
  unfold xfB at h
  rw [Bool.and_eq_true, List.all_eq_true, List.all_eq_true] at h
  obtain ⟨h1, h2⟩ := h
  have n1 : ∀ x ∈ all, PySem.W.nsIn K mainGlobals x = some (some (.ref (cA K x))) := fun x hx => eq_of_beq (h1 x hx)
  have h3 : ∀ x ∈ raised, ((((x ∈ all ∧ excB K x = true) ∧ PySem.W.exmOne K (.ref (cA K x)) (.ref (cA K "StairError")) = some true) ∧ PySem.W.kitOne K (.ref (cA K x)) (.type "ValueError") = some true) ∧ ∀ y ∈ all, PySem.W.kitOne K (.ref (cA K x)) (.ref (cA K y)) = some (x == y || y == ("StairError" : Str))) := fun x hx => by
    have := h2 x hx
    simp only [Bool.and_eq_true, beq_iff_eq, List.contains_iff_mem, List.all_eq_true] at this
    exact this
  have e1 : ∀ x ∈ raised, PySem.W.excIn K (cA K x) bmV "ValueError.__new__" = true ∧ ExcK K (cA K x) := fun x hx => by
    have := (h3 x hx).1.1.1.2
    unfold excB at this
    simp only [Bool.and_eq_true, beq_iff_eq] at this
    obtain ⟨⟨⟨⟨⟨⟨⟨⟨a1, a2⟩, a3⟩, a4⟩, a5⟩, a6⟩, a7⟩, a8⟩, a9⟩ := this
    refine ⟨a1, ?_, a3, a4, a5, a6, a7, a8, a9⟩
    cases hl : K.lookup (cA K x) with
    | none => rw [hl] at a2; cases a2
    | some o =>
      rw [hl] at a2
      obtain ⟨c, d, data, sl⟩ := o
      cases data <;> first | exact ⟨_, _, _, _, rfl⟩ | cases a2
  exact ⟨fun x hx => PySem.W.mg_of X G (n1 x hx), fun x hx => own_mk X G (n1 x (h3 x hx).1.1.1.1) (e1 x hx).1, fun x hx => (e1 x hx).2, fun x hx => (h3 x hx).1.1.2, fun x hx => (h3 x hx).1.2, fun x hx => (h3 x hx).2⟩
theorem kitAny_no {K : PySem.W.Frag} {t : Value} : ∀ {Cs : List Addr}, (∀ C ∈ Cs, PySem.W.kitOne K t (.ref C) = some false) → PySem.W.kitAny K t (Cs.map Value.ref) = some false
  | [], _ => rfl
  | C :: Cs, h => by
    show (match PySem.W.kitOne K t (.ref C) with | some true => some true | some false => PySem.W.kitAny K t (Cs.map Value.ref) | none => none) = some false
    rw [h C List.mem_cons_self]
    exact kitAny_no fun D hD => h D (List.mem_cons_of_mem _ hD)
section
variable {K : PySem.W.Frag} {D : Ends} {σ : St} {H : Hp} {Q : VK} {E : XK} {C x : Addr}
theorem rd_raise {t : TA} {cls : Value} (h : t σ H fun vs H1 => vs.length ≤ sizeLine ∧ E cls none H1) : tRaise cls E t D σ H := h
theorem rd_isiC {C' : Addr} {b : Bool} (hk : PySem.W.kitOne K (.ref C) (.ref C') = some b) (h : Q (.bl b) H) : rIsiX K x C [.ref x, .ref C'] H Q := ⟨b, .inl ⟨C', rfl, hk⟩, h⟩
theorem rd_isiT {T : String} {b : Bool} (hk : PySem.W.kitOne K (.ref C) (.type T) = some b) (h : Q (.bl b) H) : rIsiX K x C [.ref x, .ty T] H Q := ⟨b, .inr (.inl ⟨T, rfl, hk⟩), h⟩
theorem rd_isiP {p : Addr} {Cs : List Addr} {b : Bool} (ht : H p = some (.tup (Cs.map V.ref))) (hk : PySem.W.kitAny K (.ref C) (Cs.map Value.ref) = some b) (h : Q (.bl b) H) : rIsiX K x C [.ref x, .ref p] H Q := ⟨b, .inr (.inr ⟨p, Cs, rfl, ht, hk⟩), h⟩
end
theorem CalX.cal {P : Program} {w : World} {K : PySem.W.Frag} {mg : Str → Option Value} {base : Heap} {x : Str} {k : Nat} {ps : List Str} {sp : Sp} (C : CalX P w K mg base x k ps sp) : Cal P w K mg base x k ps (fun vs H Q _ => sp vs H Q E0) := by
  obtain ⟨f, fd, hm, hk, hb, F⟩ := C.ex
  refine ⟨f, fd, hm, hk, hb, fun vs H Q E h => F.len vs H Q E0 h, fun A outer s H args us vs Q E hr he hbt hv hs => codeAny_mono (F.run A outer s H args us vs Q E0 hr he hbt hv hs) fun r s' hq => ?_⟩
  cases r with
  | error e =>
    obtain ⟨_, _, _, _, hE, _⟩ := hq
    exact hE.elim
  | ok fl => cases fl <;> exact hq
section
variable {K : PySem.W.Frag} {D : Ends} {σ : St} {H : Hp} {E : St → XK} {C : Addr} {i : Nat} {t u tb : Ends → (St → XK) → St → Hp → Prop} {ts : Addr → Addr → TS} {c : TT}
theorem rd_try (h : tb D (fun σ1 cls _ H1 => ∃ Dx, cls = .ref Dx ∧ PySem.W.exmOne K (.ref Dx) (.ref C) = some true ∧ ExcK K Dx ∧ ∀ x, H1 x = none →
    ts x Dx ⟨fun σ' H' => D.nx (σ'.set i none) H', D.rt, fun σ' H' => D.bk (σ'.set i none) H', fun σ' H' => D.ct (σ'.set i none) H'⟩ (σ1.set i (some (.ref x))) H1) σ H) : tTry K C i tb ts D σ H := h
theorem rd_bseq (h : t ⟨u D E, D.rt, D.bk, D.ct⟩ E σ H) : bSeq t u D E σ H := h
theorem rd_bif (h : c σ H fun b H1 => if b = true then t D E σ H1 else u D E σ H1) : bIf c t u D E σ H := h
theorem rd_bcall {sp : Sp} {a : TA} (h : a σ H fun vs H1 => sp vs H1 (fun _ H2 => D.nx σ H2) (E σ)) : bCall sp a D E σ H := h
end
end L2
set_option linter.all false
set_option maxRecDepth 100000
namespace Tb
open PySem
noncomputable def nx (m i : Nat) : Nat := (i * 5 + 1) % (m + 1)
noncomputable def it (m : Nat) : Nat → Nat → Nat
  | 0, i => i
  | n + 1, i => it m n (nx m i)
theorem it_add (m : Nat) : ∀ a b i, it m (a + b) i = it m b (it m a i)
  | 0, b, i => by rw [Nat.zero_add]; rfl
  | a + 1, b, i => by rw [Nat.succ_add]; exact it_add m a b (nx m i)
theorem it_succ' (m n i : Nat) : it m (n + 1) i = nx m (it m n i) := by rw [it_add m n 1 i]; rfl
noncomputable def orb (m : Nat) : Nat → Nat → List Nat
  | 0, _ => []
  | n + 1, i => i :: orb m n (nx m i)
theorem orb_mem {m : Nat} : ∀ {n i j : Nat}, j ∈ orb m n i → ∃ k, k < n ∧ it m k i = j
  | 0, _, _, h => by cases h
  | n + 1, i, j, h => by
    rcases List.mem_cons.mp h with rfl | h
    · exact ⟨0, Nat.succ_pos _, rfl⟩
    · obtain ⟨k, hk, e⟩ := orb_mem h
      exact ⟨k + 1, Nat.succ_lt_succ hk, e⟩
noncomputable def good (m : Nat) : Bool := (List.range (m + 1)).all (fun j => (orb m (m + 1) 0).contains j) && it m (m + 1) 0 == 0
theorem good7 : good 7 = true := by decide +kernel
theorem good31 : good 31 = true := by decide +kernel
theorem good127 : good 127 = true := by decide +kernel
theorem good511 : good 511 = true := by decide +kernel
noncomputable def Full (N : Nat) : Prop := (∀ j, j < N → ∃ k, k < N ∧ it (N - 1) k 0 = j) ∧ it (N - 1) N 0 = 0
theorem full_of {m : Nat} (h : good m = true) : Full (m + 1) := by
  unfold Tb.good at h
  rw [Bool.and_eq_true, List.all_eq_true] at h
  refine ⟨fun j hj => ?_, eq_of_beq h.2⟩
  have h1 := h.1 j (List.mem_range.mpr hj)
  rw [List.contains_iff_mem] at h1
  exact orb_mem h1
noncomputable def co : Nat → Nat
  | 0 => 0
  | n + 1 => 5 * co n + 1
theorem it_closed (m : Nat) : ∀ n i, it m n i % (m + 1) = (5 ^ n * i + co n) % (m + 1)
  | 0, i => by simp [it, co]
  | n + 1, i => by
    rw [it_succ']
    unfold nx
    rw [Nat.mod_mod, Nat.add_mod, Nat.mul_mod, it_closed m n i, ← Nat.mul_mod, ← Nat.add_mod]
    congr 1
    show (5 ^ n * i + co n) * 5 + 1 = 5 ^ (n + 1) * i + (5 * co n + 1)
    rw [Nat.pow_succ, Nat.add_mul]
    have : 5 ^ n * i * 5 = 5 ^ n * 5 * i := by rw [Nat.mul_assoc, Nat.mul_comm i 5, Nat.mul_assoc]
    omega
theorem it_lt (m : Nat) : ∀ n i, i ≤ m → it m n i ≤ m
  | 0, i, h => h
  | n + 1, i, h => by
    refine it_lt m n _ ?_
    unfold nx
    have := Nat.mod_lt (i * 5 + 1) (show 0 < m + 1 by omega)
    omega
theorem it_val {m n i : Nat} (h : i ≤ m) : it m n i = (5 ^ n * i + co n) % (m + 1) := by
  rw [← it_closed, Nat.mod_eq_of_lt (Nat.lt_succ_of_le (it_lt m n i h))]
theorem odd5 (n : Nat) : 5 ^ n % 2 = 1 := by
  induction n with
  | zero => rfl
  | succ n ih => rw [Nat.pow_succ, Nat.mul_mod, ih]
theorem co_val : ∀ n, 4 * co n + 1 = 5 ^ n
  | 0 => rfl
  | n + 1 => by
    have := co_val n
    show 4 * (5 * co n + 1) + 1 = 5 ^ (n + 1)
    rw [Nat.pow_succ]
    omega
theorem half_mul {a N : Nat} (h : a % 2 = 1) (r : Nat) : (a * N + r) % (2 * N) = (N + r) % (2 * N) := by
  obtain ⟨c, rfl⟩ : ∃ c, a = 2 * c + 1 := ⟨a / 2, by omega⟩
  have : (2 * c + 1) * N + r = (N + r) + 2 * N * c := by
    rw [Nat.add_mul, Nat.one_mul, Nat.mul_assoc, Nat.mul_comm c N, ← Nat.mul_assoc]
    omega
  rw [this, Nat.add_mul_mod_self_left]
theorem two {x N : Nat} (h : x < 2 * N) (hN : 0 < N) : x = x % N ∨ x = N + x % N := by
  rcases Nat.lt_or_ge x N with a | a
  · exact .inl (Nat.mod_eq_of_lt a).symm
  · refine .inr ?_
    rw [Nat.mod_eq_sub_mod a, Nat.mod_eq_of_lt (by omega)]
    omega
theorem Full.double {N : Nat} (hN : 0 < N) (h : Full N) (hc : co N % (2 * N) = N) : Full (2 * N) := by
  obtain ⟨h1, h2⟩ := h
  have hm : 2 * N - 1 + 1 = 2 * N := by omega
  have hm1 : N - 1 + 1 = N := by omega
  have val : ∀ n i, i ≤ 2 * N - 1 → it (2 * N - 1) n i = (5 ^ n * i + co n) % (2 * N) := fun n i hi => by rw [it_val hi, hm]
  have eN : it (2 * N - 1) N 0 = N := by rw [val N 0 (by omega), Nat.mul_zero, Nat.zero_add, hc]
  have up : ∀ k, it (2 * N - 1) (N + k) 0 = (N + it (2 * N - 1) k 0) % (2 * N) := fun k => by
    rw [it_add, eN, val k N (by omega), val k 0 (by omega), Nat.mul_zero, Nat.zero_add, half_mul (odd5 k)]
    rw [Nat.add_mod_mod]
  refine ⟨fun j hj => ?_, ?_⟩
  · obtain ⟨k, hk, ek⟩ := h1 (j % N) (Nat.mod_lt _ hN)
    have e1 : it (2 * N - 1) k 0 % N = j % N := by
      rw [val k 0 (by omega), Nat.mul_zero, Nat.zero_add, Nat.mod_mul_left_mod, ← ek, it_val (Nat.zero_le _), hm1, Nat.mul_zero, Nat.zero_add]
    have e2 : it (2 * N - 1) k 0 < 2 * N := by
      have := it_lt (2 * N - 1) k 0 (Nat.zero_le _)
      omega
    by_cases e : it (2 * N - 1) k 0 = j
    · exact ⟨k, by omega, e⟩
    · refine ⟨N + k, by omega, ?_⟩
      rw [up k]
      have t1 := two hj hN
      have t2 := two e2 hN
      rw [e1] at t2
      generalize it (2 * N - 1) k 0 = x at *
      generalize j % N = r at *
      rcases t1 with a | a <;> rcases t2 with b | b
      · omega
      · have : N + x = j + 2 * N := by omega
        rw [this, Nat.add_mod_right, Nat.mod_eq_of_lt hj]
      · have : N + x = j := by omega
        rw [this, Nat.mod_eq_of_lt hj]
      · omega
  · rw [show 2 * N = N + N by omega, show N + N - 1 = 2 * N - 1 by omega, up N, eN, show N + N = 2 * N by omega, Nat.mod_self]
theorem co_is {N c : Nat} (h : 4 * c + 1 = 5 ^ N) : co N = c := by
  have := co_val N
  omega
theorem full8 : Full 8 := full_of good7
theorem full32 : Full 32 := full_of good31
theorem full128 : Full 128 := full_of good127
theorem full512 : Full 512 := full_of good511
theorem co512 : co 512 % (2 * 512) = 512 := by rw [co_is (c := (5 ^ 512 - 1) / 4) (by decide +kernel)]; decide +kernel
theorem co1024 : co 1024 % (2 * 1024) = 1024 := by rw [co_is (c := (5 ^ 1024 - 1) / 4) (by decide +kernel)]; decide +kernel
theorem co2048 : co 2048 % (2 * 2048) = 2048 := by rw [co_is (c := (5 ^ 2048 - 1) / 4) (by decide +kernel)]; decide +kernel
theorem co4096 : co 4096 % (2 * 4096) = 4096 := by rw [co_is (c := (5 ^ 4096 - 1) / 4) (by decide +kernel)]; decide +kernel
theorem full2048 : Full 2048 := Full.double (N := 1024) (by decide) (full512.double (by decide) co512) co1024
theorem full8192 : Full 8192 := Full.double (N := 4096) (by decide) (full2048.double (by decide) co2048) co4096
noncomputable def Mask (m : Nat) : Prop := m = 7 ∨ m = 31 ∨ m = 127 ∨ m = 511 ∨ m = 2047 ∨ m = 8191
theorem Mask.full {m : Nat} (h : Mask m) : Full (m + 1) := by
  rcases h with rfl | rfl | rfl | rfl | rfl | rfl
  · exact full8
  · exact full32
  · exact full128
  · exact full512
  · exact full2048
  · exact full8192
theorem reach0 {m : Nat} (h : Mask m) {j : Nat} (hj : j ≤ m) : ∃ k, k ≤ m ∧ it m k 0 = j := by
  obtain ⟨k, hk, e⟩ := h.full.1 j (by omega)
  exact ⟨k, by omega, e⟩
theorem round0 {m : Nat} (h : Mask m) : it m (m + 1) 0 = 0 := h.full.2
theorem reach {m : Nat} (h : Mask m) {i j : Nat} (hi : i ≤ m) (hj : j ≤ m) : ∃ k, k ≤ m ∧ it m k i = j := by
  obtain ⟨a, ha, ea⟩ := reach0 h hi
  obtain ⟨b, hb, eb⟩ := reach0 h hj
  rcases Nat.lt_or_ge b a with hlt | hge
  · refine ⟨m + 1 - a + b, by omega, ?_⟩
    rw [← ea, ← it_add, show a + (m + 1 - a + b) = (m + 1) + b by omega, it_add, round0 h]
    exact eb
  · refine ⟨b - a, by omega, ?_⟩
    rw [← ea, ← it_add, show a + (b - a) = b by omega]
    exact eb
noncomputable def lp (m : Nat) : Nat → Nat × Nat → Nat × Nat
  | 0, s => s
  | n + 1, s => lp m n (SetTable.leap m s.1 s.2)
theorem lp_succ' (m : Nat) : ∀ n s, lp m (n + 1) s = SetTable.leap m (lp m n s).1 (lp m n s).2
  | 0, s => rfl
  | n + 1, s => by
    show lp m (n + 1) (SetTable.leap m s.1 s.2) = _
    rw [lp_succ' m n]
    rfl
theorem lp_pert (m : Nat) : ∀ n s, (lp m n s).2 = s.2 / 32 ^ n
  | 0, s => by simp [lp]
  | n + 1, s => by
    rw [lp_succ' m n s]
    show (lp m n s).2 / 32 = _
    rw [lp_pert m n s, Nat.div_div_eq_div_mul, Nat.pow_succ]
theorem lp_le (m : Nat) : ∀ n s, s.1 ≤ m → (lp m n s).1 ≤ m
  | 0, s, h => h
  | n + 1, s, h => by
    rw [lp_succ' m n s]
    show (_ % (m + 1)) ≤ m
    have := Nat.mod_lt ((lp m n s).1 * 5 + 1 + (lp m n s).2 / 32) (show 0 < m + 1 by omega)
    omega
theorem lp_zero (m : Nat) : ∀ n i, (lp m n (i, 0)).1 = it m n i
  | 0, i => rfl
  | n + 1, i => by
    show (lp m n (SetTable.leap m i 0)).1 = it m n (nx m i)
    have : SetTable.leap m i 0 = (nx m i, 0) := rfl
    rw [this]
    exact lp_zero m n _
theorem lp_add (m : Nat) : ∀ a b s, lp m (a + b) s = lp m b (lp m a s)
  | 0, b, s => by rw [Nat.zero_add]; rfl
  | a + 1, b, s => by rw [Nat.succ_add]; exact lp_add m a b _
theorem lp_reach {m : Nat} (h : Mask m) {i p j : Nat} (hi : i ≤ m) (hp : p < 2 ^ 64) (hj : j ≤ m) : ∃ n, n ≤ m + 13 ∧ (lp m n (i, p)).1 = j := by
  have hz : (lp m 13 (i, p)).2 = 0 := by
    rw [lp_pert]
    exact Nat.div_eq_of_lt (Nat.lt_of_lt_of_le hp (by decide))
  obtain ⟨k, hk, e⟩ := reach h (lp_le m 13 (i, p) hi) hj
  refine ⟨13 + k, by omega, ?_⟩
  rw [lp_add]
  have : lp m 13 (i, p) = ((lp m 13 (i, p)).1, 0) := by rw [← hz]
  rw [this, lp_zero]
  exact e
theorem bits_lt (h : Int) : SetTable.bits h < 2 ^ 64 := by
  unfold SetTable.bits
  have h1 := Int.emod_lt_of_pos h (show (0 : Int) < 2 ^ 64 by decide)
  have h2 := Int.emod_nonneg h (show (2 : Int) ^ 64 ≠ 0 by decide)
  omega
noncomputable def adv (t : SetTable) : Nat → SetTable.Probe → SetTable.Probe
  | 0, p => p
  | n + 1, p => adv t n (t.advance p)
theorem adv_add (t : SetTable) : ∀ a b p, adv t (a + b) p = adv t b (adv t a p)
  | 0, b, p => by rw [Nat.zero_add]; rfl
  | a + 1, b, p => by rw [Nat.succ_add]; exact adv_add t a b _
noncomputable def at_ (t : SetTable) (s : Nat × Nat) : SetTable.Probe := { j := s.1, more := SetTable.runEnd t.mask s.1 - s.1, i := s.1, perturb := s.2, dummy := none }
theorem adv_run (t : SetTable) : ∀ (r : Nat) (p : SetTable.Probe), p.more = r → adv t (r + 1) p = { p with j := (SetTable.leap t.mask p.i p.perturb).1, more := SetTable.runEnd t.mask (SetTable.leap t.mask p.i p.perturb).1 - (SetTable.leap t.mask p.i p.perturb).1, i := (SetTable.leap t.mask p.i p.perturb).1, perturb := (SetTable.leap t.mask p.i p.perturb).2 }
  | 0, p, h => by
    show t.advance p = _
    unfold SetTable.advance
    rw [if_neg (by omega)]
  | r + 1, p, h => by
    show adv t (r + 1) (t.advance p) = _
    have e : t.advance p = { p with j := p.j + 1, more := p.more - 1 } := by
      unfold SetTable.advance
      rw [if_pos (by omega)]
    rw [e, adv_run t r _ (by show p.more - 1 = r; omega)]
theorem adv_leap (t : SetTable) (s : Nat × Nat) : ∃ k, k ≤ 10 ∧ adv t k (at_ t s) = at_ t (SetTable.leap t.mask s.1 s.2) := by
  refine ⟨SetTable.runEnd t.mask s.1 - s.1 + 1, ?_, ?_⟩
  · unfold SetTable.runEnd
    split <;> omega
  · exact (adv_run t (SetTable.runEnd t.mask s.1 - s.1) (at_ t s) rfl).trans rfl
theorem adv_leaps (t : SetTable) : ∀ (n : Nat) (s : Nat × Nat), ∃ k, k ≤ 10 * n ∧ adv t k (at_ t s) = at_ t (lp t.mask n s)
  | 0, s => ⟨0, Nat.le_refl _, rfl⟩
  | n + 1, s => by
    obtain ⟨k1, h1, e1⟩ := adv_leap t s
    obtain ⟨k2, h2, e2⟩ := adv_leaps t n (SetTable.leap t.mask s.1 s.2)
    refine ⟨k1 + k2, by omega, ?_⟩
    rw [adv_add, e1, e2]
    rfl
theorem start_at (t : SetTable) (h : Int) : t.probeStart h = at_ t (SetTable.bits h % (t.mask + 1), SetTable.bits h) := rfl
theorem probe_meets {t : SetTable} (hm : Mask t.mask) {j : Nat} (hj : j ≤ t.mask) (h : Int) : ∃ K, K < 10 * SetTable.turns t.mask ∧ (adv t K (t.probeStart h)).j = j := by
  have h1 : SetTable.bits h % (t.mask + 1) ≤ t.mask := by
    have := Nat.mod_lt (SetTable.bits h) (show 0 < t.mask + 1 by omega)
    omega
  obtain ⟨n, hn, e⟩ := lp_reach hm h1 (bits_lt h) hj
  obtain ⟨K, hK, eK⟩ := adv_leaps t n (SetTable.bits h % (t.mask + 1), SetTable.bits h)
  refine ⟨K, by unfold SetTable.turns; omega, ?_⟩
  rw [start_at, eK]
  exact e
theorem slot_live {t : SetTable} {j i : Nat} (h : t.slot j = .live i) : t.place[i]? = some j := by
  unfold SetTable.slot at h
  dsimp only at h
  split at h
  · rename_i hq
    cases h
    exact eq_of_beq hq
  · split at h <;> cases h
theorem has_nil (j : Nat) : SetTable.has #[] j = false := rfl
theorem slot_cases {t : SetTable} (hd : t.dummies = #[]) (j : Nat) : t.slot j = .empty ∨ ∃ i, t.slot j = .live i := by
  unfold SetTable.slot
  dsimp only
  split
  · exact .inr ⟨_, rfl⟩
  · rw [hd, has_nil]
    exact .inl rfl
theorem range_sub : ∀ (n : Nat) (l : List Nat), (∀ j, j < n → j ∈ l) → n ≤ l.length
  | 0, l, _ => Nat.zero_le _
  | n + 1, l, h => by
    have hn := h n (Nat.lt_succ_self n)
    have := range_sub n (l.erase n) fun j hj => (List.mem_erase_of_ne (by omega)).mpr (h j (by omega))
    rw [List.length_erase_of_mem hn] at this
    have : 0 < l.length := List.length_pos_of_mem hn
    omega
theorem free_slot {t : SetTable} (hd : t.dummies = #[]) (h : t.place.size ≤ t.mask) : ∃ j, j ≤ t.mask ∧ t.slot j = .empty := by
  rcases Classical.em (∃ j, j ≤ t.mask ∧ t.slot j = .empty) with h1 | h1
  · exact h1
  · exfalso
    have := range_sub (t.mask + 1) t.place.toList fun j hj => by
      rcases slot_cases hd j with h2 | ⟨i, h2⟩
      · exact absurd ⟨j, by omega, h2⟩ h1
      · have := slot_live h2
        rw [← Array.getElem?_toList] at this
        exact List.mem_of_getElem? this
    rw [Array.length_toList] at this
    omega
theorem adv_dummy (t : SetTable) : ∀ n p, (adv t n p).dummy = p.dummy
  | 0, p => rfl
  | n + 1, p => by
    show (adv t n (t.advance p)).dummy = _
    rw [adv_dummy t n]
    unfold SetTable.advance
    split <;> rfl
theorem set_none_perm {α : Type} : ∀ {l : List (Option α)} {j : Nat} {k : α}, l[j]? = some none → ((l.set j (some k)).filterMap id).Perm (k :: l.filterMap id)
  | [], j, k, h => by cases h
  | x :: l, 0, k, h => by
    have : x = none := by simpa using h
    subst this
    exact .refl _
  | x :: l, j + 1, k, h => by
    have h' : l[j]? = some none := by simpa using h
    have ih := set_none_perm (k := k) h'
    cases x with
    | none => exact ih
    | some y => exact (List.Perm.cons y ih).trans (.swap _ _ _)
theorem set_none_len {α : Type} (l : List (Option α)) : (l.filterMap id).length + (l.filter (·.isNone)).length = l.length := by
  induction l with
  | nil => rfl
  | cons x l ih =>
    cases x <;> simp at ih ⊢ <;> omega
theorem free_some {m : Nat} (hm : Mask m) (owner : Array (Option Nat)) (hz : owner.size = m + 1) {j : Nat} (hj : owner[j]? = some none) : ∀ (fuel n i p : Nat), i ≤ m → n < fuel → (lp m n (i, p)).1 = j →
    ∃ j', SetTable.layClean.free m owner fuel i p = some j' ∧ owner[j']? = some none := by
  intro fuel
  induction fuel with
  | zero => intro n i p _ h; omega
  | succ fuel ih =>
    intro n i p hi hn he
    unfold SetTable.layClean.free
    split
    · rename_i k hk
      have h1 := List.find?_some hk
      have h2 := List.mem_range.mp (List.mem_of_find?_eq_some hk)
      refine ⟨i + k, rfl, ?_⟩
      have hb : i + k < owner.size := by
        rw [hz]
        unfold SetTable.runEnd at h2
        split at h2 <;> omega
      rw [Array.getElem?_eq_getElem hb]
      have : owner.getD (i + k) (some 0) = owner[i + k] := by
        rw [Array.getD_eq_getD_getElem?, Array.getElem?_eq_getElem hb]
        rfl
      rw [this] at h1
      congr 1
      cases hq : owner[i + k] with
      | none => rfl
      | some y => rw [hq] at h1; cases h1
    · rename_i hk
      cases n with
      | zero =>
        exfalso
        have h0 : i = j := he
        have := List.find?_eq_none.mp hk 0 (List.mem_range.mpr (by unfold SetTable.runEnd; split <;> omega))
        rw [Nat.add_zero, h0, Array.getD_eq_getD_getElem?, hj] at this
        simp at this
      | succ n =>
        have := lp_le m 1 (i, p) hi
        exact ih n (SetTable.leap m i p).1 (SetTable.leap m i p).2 this (by omega) he
noncomputable def layStep (mask : Nat) (acc : Option (Array (Option Nat) × Nat)) (h : Int) : Option (Array (Option Nat) × Nat) := do
  let (owner, k) ← acc
  let j ← SetTable.layClean.free mask owner (SetTable.turns mask) (SetTable.bits h % (mask + 1)) (SetTable.bits h)
  pure (owner.setIfInBounds j (some k), k + 1)
theorem some_none {l : List (Option Nat)} (h : (l.filterMap id).length < l.length) : ∃ j : Nat, l[j]? = some none := by
  have := set_none_len l
  have h1 : 0 < (l.filter (·.isNone)).length := by omega
  obtain ⟨x, hx⟩ := List.exists_mem_of_length_pos h1
  obtain ⟨hx1, hx2⟩ := List.mem_filter.mp hx
  have : x = none := by cases x <;> simp_all
  subst this
  obtain ⟨j, hj⟩ := List.getElem?_of_mem hx1
  exact ⟨j, hj⟩
theorem insertAt_size {α : Type} (xs : Array α) (p : Nat) (x : α) : (SetTable.insertAt xs p x).size = xs.size + 1 := by
  unfold SetTable.insertAt
  simp
  omega
theorem insertAt_mem {α : Type} {xs : Array α} {p : Nat} {x e : α} (h : e ∈ (SetTable.insertAt xs p x).toList) : e = x ∨ e ∈ xs.toList := by
  unfold SetTable.insertAt at h
  simp only [Array.toList_append, Array.toList_push, Array.toList_extract, List.mem_append, List.mem_singleton] at h
  rcases h with (h | h) | h
  · exact .inr (List.mem_of_mem_take (by simpa using h))
  · exact .inl h
  · exact .inr (List.mem_of_mem_drop (List.mem_of_mem_take h))
theorem above20 : SetTable.sizeAbove 20 - 1 = 31 := by decide +kernel
theorem above76 : SetTable.sizeAbove 76 - 1 = 127 := by decide +kernel
theorem above308 : SetTable.sizeAbove 308 - 1 = 511 := by decide +kernel
theorem above1228 : SetTable.sizeAbove 1228 - 1 = 2047 := by decide +kernel
theorem above4916 : SetTable.sizeAbove 4916 - 1 = 8191 := by decide +kernel
end Tb
set_option linter.all false
set_option maxRecDepth 100000
namespace Tb
open PySem
theorem least {P : Nat → Prop} : ∀ n, P n → ∃ m, m ≤ n ∧ P m ∧ ∀ k, k < m → ¬ P k := by
  intro n
  induction n using Nat.strongRecOn with
  | ind n ih =>
    intro h
    rcases Classical.em (∃ k, k < n ∧ P k) with ⟨k, hk, pk⟩ | hn
    · obtain ⟨m, h1, h2, h3⟩ := ih k hk pk
      exact ⟨m, by omega, h2, h3⟩
    · exact ⟨n, Nat.le_refl _, h, fun k hk pk => hn ⟨k, hk, pk⟩⟩
theorem inc_lt {xs : Array Nat} (h : xs.toList.Pairwise (· < ·)) {a b x y : Nat} (ha : xs[a]? = some x) (hb : xs[b]? = some y) (hab : a < b) : x < y := by
  obtain ⟨h1, e1⟩ := Array.getElem?_eq_some_iff.mp ha
  obtain ⟨h2, e2⟩ := Array.getElem?_eq_some_iff.mp hb
  have := List.pairwise_iff_getElem.mp h a b (by simpa using h1) (by simpa using h2) hab
  simp only [Array.getElem_toList] at this
  rw [e1, e2] at this
  exact this
theorem below_go (xs : Array Nat) (j : Nat) (hs : xs.toList.Pairwise (· < ·)) : ∀ fuel lo hi, hi - lo ≤ fuel → lo ≤ hi → hi ≤ xs.size → (∀ k x, k < lo → xs[k]? = some x → x < j) → (∀ k x, hi ≤ k → xs[k]? = some x → j ≤ x) →
    SetTable.below.go xs j fuel lo hi ≤ xs.size ∧ (∀ k x, k < SetTable.below.go xs j fuel lo hi → xs[k]? = some x → x < j) ∧ (∀ k x, SetTable.below.go xs j fuel lo hi ≤ k → xs[k]? = some x → j ≤ x)
  | 0, lo, hi, h1, h2, h3, h4, h5 => by
    have : lo = hi := by omega
    subst this
    exact ⟨h3, h4, h5⟩
  | fuel + 1, lo, hi, h1, h2, h3, h4, h5 => by
    unfold SetTable.below.go
    by_cases hlt : lo < hi
    · rw [if_pos hlt]
      dsimp only
      have hm : (lo + hi) / 2 < xs.size := by omega
      have em : xs[(lo + hi) / 2]? = some xs[(lo + hi) / 2] := getElem?_pos xs _ hm
      have eg : xs.getD ((lo + hi) / 2) j = xs[(lo + hi) / 2] := by
        rw [Array.getD_eq_getD_getElem?, em]
        rfl
      rw [eg]
      by_cases hc : xs[(lo + hi) / 2] < j
      · rw [if_pos hc]
        refine below_go xs j hs fuel _ _ (by omega) (by omega) h3 (fun k x hk ek => ?_) h5
        rcases Nat.lt_or_ge k ((lo + hi) / 2) with a | a
        · have := inc_lt hs ek em a
          omega
        · have : k = (lo + hi) / 2 := by omega
          subst this
          rw [em] at ek
          cases ek
          exact hc
      · rw [if_neg hc]
        refine below_go xs j hs fuel _ _ (by omega) (by omega) (by omega) h4 (fun k x hk ek => ?_)
        rcases Nat.lt_or_ge ((lo + hi) / 2) k with a | a
        · have := inc_lt hs em ek a
          omega
        · have : k = (lo + hi) / 2 := by omega
          subst this
          rw [em] at ek
          cases ek
          omega
    · rw [if_neg hlt]
      have : lo = hi := by omega
      subst this
      exact ⟨h3, h4, h5⟩
theorem below_spec {xs : Array Nat} (hs : xs.toList.Pairwise (· < ·)) (j : Nat) : SetTable.below xs j ≤ xs.size ∧ (∀ k x, k < SetTable.below xs j → xs[k]? = some x → x < j) ∧ (∀ k x, SetTable.below xs j ≤ k → xs[k]? = some x → j ≤ x) :=
  below_go xs j hs xs.size 0 xs.size (by omega) (Nat.zero_le _) (Nat.le_refl _) (fun k x hk => by omega) (fun k x hk e => by
    have := (Array.getElem?_eq_some_iff.mp e).1
    omega)
theorem slot_mem {t : SetTable} (hs : t.place.toList.Pairwise (· < ·)) {j i : Nat} (h : t.place[i]? = some j) : t.slot j = .live i := by
  obtain ⟨h1, h2, h3⟩ := below_spec hs j
  have e : SetTable.below t.place j = i := by
    have hi := (Array.getElem?_eq_some_iff.mp h).1
    rcases Nat.lt_or_ge i (SetTable.below t.place j) with a | a
    · have := h2 i j a h
      omega
    · rcases Nat.lt_or_ge (SetTable.below t.place j) i with b | b
      · have eb : t.place[SetTable.below t.place j]? = some t.place[SetTable.below t.place j] := getElem?_pos t.place _ (by omega)
        have c1 := h3 _ _ (Nat.le_refl _) eb
        have c2 := inc_lt hs eb h b
        omega
      · omega
  unfold SetTable.slot
  dsimp only
  rw [e, h, if_pos (beq_self_eq_true _)]
theorem insertAt_list {α : Type} (xs : Array α) (p : Nat) (x : α) : (SetTable.insertAt xs p x).toList = xs.toList.take p ++ (x :: xs.toList.drop p) := by
  unfold SetTable.insertAt
  rw [Array.toList_append, Array.toList_push, Array.toList_extract, Array.toList_extract]
  show List.take (p - 0) (xs.toList.drop 0) ++ [x] ++ List.take (xs.size - p) (xs.toList.drop p) = _
  rw [List.take_of_length_le (l := xs.toList.drop p) (by rw [List.length_drop, Array.length_toList]; exact Nat.le_refl _), List.append_assoc]
  rfl
theorem insertAt_get {α : Type} (xs : Array α) {p : Nat} (hp : p ≤ xs.size) (x : α) (i : Nat) : (SetTable.insertAt xs p x)[i]? = if i < p then xs[i]? else if i = p then some x else xs[i - 1]? := by
  rw [← Array.getElem?_toList, insertAt_list, List.getElem?_append, List.length_take, Array.length_toList, show min p xs.size = p by omega]
  by_cases h : i < p
  · rw [if_pos h, if_pos h, List.getElem?_take_of_lt h, Array.getElem?_toList]
  · rw [if_neg h, if_neg h]
    by_cases e : i = p
    · rw [if_pos e, e, Nat.sub_self]
      rfl
    · rw [if_neg e]
      obtain ⟨k, rfl⟩ : ∃ k, i = p + (k + 1) := ⟨i - p - 1, by omega⟩
      rw [show p + (k + 1) - p = k + 1 by omega, List.getElem?_cons_succ, List.getElem?_drop, Array.getElem?_toList]
      congr 1
theorem insertAt_inc {xs : Array Nat} (hs : xs.toList.Pairwise (· < ·)) {j : Nat} (hn : j ∉ xs.toList) : (SetTable.insertAt xs (SetTable.below xs j) j).toList.Pairwise (· < ·) := by
  obtain ⟨h1, h2, h3⟩ := below_spec hs j
  rw [insertAt_list]
  have hs' := hs
  rw [← List.take_append_drop (SetTable.below xs j) xs.toList, List.pairwise_append] at hs'
  rw [List.pairwise_append, List.pairwise_cons]
  refine ⟨hs'.1, ⟨fun y hy => ?_, hs'.2.1⟩, fun x hx y hy => ?_⟩
  · obtain ⟨k, hk, e⟩ := List.mem_iff_getElem.mp hy
    rw [List.length_drop, Array.length_toList] at hk
    rw [List.getElem_drop, Array.getElem_toList] at e
    have ex : xs[SetTable.below xs j + k]? = some y := by
      rw [getElem?_pos xs _ (by omega), e]
    have := h3 _ _ (by omega) ex
    have ne : y ≠ j := fun z => hn (by rw [← z]; exact Array.mem_toList_iff.mpr (Array.mem_of_getElem? ex))
    omega
  · have hxj : x < j := by
      obtain ⟨k, hk, e⟩ := List.mem_iff_getElem.mp hx
      rw [List.length_take, Array.length_toList] at hk
      rw [List.getElem_take, Array.getElem_toList] at e
      exact h2 k x (by omega) (by rw [getElem?_pos xs _ (by omega), e])
    rcases List.mem_cons.mp hy with rfl | hy
    · exact hxj
    · exact hs'.2.2 x hx y hy
noncomputable abbrev tM (m : Nat) : SetTable := { mask := m, place := #[], dummies := #[], finger := 0, led := false, moves := 0, plain := false }
noncomputable def pm (m : Nat) (h : Int) (k : Nat) : Nat := (adv (tM m) k ((tM m).probeStart h)).j
theorem adv_tM (t : SetTable) : ∀ k p, adv t k p = adv (tM t.mask) k p
  | 0, p => rfl
  | k + 1, p => adv_tM t k _
theorem pm_of (t : SetTable) (h : Int) (k : Nat) : (adv t k (t.probeStart h)).j = pm t.mask h k := by
  rw [adv_tM]
  rfl
structure TOk (m : Nat) (pl : Array Nat) (hs : Array Int) : Prop where
  len : pl.size = hs.size
  inc : pl.toList.Pairwise (· < ·)
  rch : ∀ (i j : Nat) (h : Int), pl[i]? = some j → hs[i]? = some h → ∃ K, K < 10 * SetTable.turns m ∧ pm m h K = j ∧ ∀ k, k < K → pm m h k ∈ pl.toList
theorem TOk.nil (m : Nat) : TOk m #[] #[] := ⟨rfl, .nil, fun i j h e => by simp at e⟩
theorem TOk.put {m : Nat} {pl : Array Nat} {hs : Array Int} (T : TOk m pl hs) {h : Int} {K : Nat} (hK : K < 10 * SetTable.turns m) (hn : pm m h K ∉ pl.toList) (hb : ∀ k, k < K → pm m h k ∈ pl.toList) :
    TOk m (SetTable.insertAt pl (SetTable.below pl (pm m h K)) (pm m h K)) (SetTable.insertAt hs (SetTable.below pl (pm m h K)) h) := by
  have hle := (below_spec T.inc (pm m h K)).1
  have more : ∀ x, x ∈ pl.toList → x ∈ (SetTable.insertAt pl (SetTable.below pl (pm m h K)) (pm m h K)).toList := fun x hx => by
    rw [insertAt_list]
    rw [← List.take_append_drop (SetTable.below pl (pm m h K)) pl.toList] at hx
    rcases List.mem_append.mp hx with a | a
    · exact List.mem_append_left _ a
    · exact List.mem_append_right _ (List.mem_cons_of_mem _ a)
  have old : ∀ (i j : Nat) (h' : Int), pl[i]? = some j → hs[i]? = some h' → ∃ K', K' < 10 * SetTable.turns m ∧ pm m h' K' = j ∧ ∀ k, k < K' → pm m h' k ∈ (SetTable.insertAt pl (SetTable.below pl (pm m h K)) (pm m h K)).toList := fun i j h' e1 e2 => by
    obtain ⟨K', h1, h2, h3⟩ := T.rch i j h' e1 e2
    exact ⟨K', h1, h2, fun k hk => more _ (h3 k hk)⟩
  refine ⟨by rw [insertAt_size, insertAt_size, T.len], insertAt_inc T.inc hn, fun i j h' e1 e2 => ?_⟩
  rw [insertAt_get pl hle] at e1
  rw [insertAt_get hs (by rw [← T.len]; exact hle)] at e2
  by_cases c1 : i < SetTable.below pl (pm m h K)
  · rw [if_pos c1] at e1 e2
    exact old i j h' e1 e2
  · rw [if_neg c1] at e1 e2
    by_cases c2 : i = SetTable.below pl (pm m h K)
    · rw [if_pos c2] at e1 e2
      cases e1
      cases e2
      exact ⟨K, hK, rfl, fun k hk => more _ (hb k hk)⟩
    · rw [if_neg c2] at e1 e2
      exact old _ j h' e1 e2
theorem nonempty_mem {t : SetTable} (hd : t.dummies = #[]) {j : Nat} (h : t.slot j ≠ .empty) : j ∈ t.place.toList := by
  rcases slot_cases hd j with e | ⟨i, e⟩
  · exact absurd e h
  · exact Array.mem_toList_iff.mpr (Array.mem_of_getElem? (slot_live e))
theorem mem_live {t : SetTable} (hs : t.place.toList.Pairwise (· < ·)) {j : Nat} (h : j ∈ t.place.toList) : ∃ i, t.slot j = .live i ∧ t.place[i]? = some j := by
  obtain ⟨i, hi⟩ := List.getElem?_of_mem h
  rw [Array.getElem?_toList] at hi
  exact ⟨i, slot_mem hs hi, hi⟩
theorem empty_not_mem {t : SetTable} (hs : t.place.toList.Pairwise (· < ·)) {j : Nat} (h : t.slot j = .empty) : j ∉ t.place.toList := fun hm => by
  obtain ⟨i, e, _⟩ := mem_live hs hm
  rw [h] at e
  cases e
theorem first_free {t : SetTable} (hd : t.dummies = #[]) (hm : Mask t.mask) (hp : t.place.size ≤ t.mask) (h : Int) : ∃ K, K < 10 * SetTable.turns t.mask ∧ t.slot (pm t.mask h K) = .empty ∧ ∀ k, k < K → t.slot (pm t.mask h k) ≠ .empty := by
  obtain ⟨j0, hj0, hs0⟩ := free_slot hd hp
  obtain ⟨N, hN, eN⟩ := probe_meets hm hj0 h
  rw [pm_of] at eN
  obtain ⟨K, h1, h2, h3⟩ := least (P := fun n => t.slot (pm t.mask h n) = .empty) N (by show t.slot (pm t.mask h N) = _; rw [eN]; exact hs0)
  exact ⟨K, by omega, h2, h3⟩
theorem go_at {t : SetTable} (hd : t.dummies = #[]) (hash : Nat → Int) (h : Int) : ∀ (K fuel : Nat) (p : SetTable.Probe), K < fuel → p.dummy = none → (∀ k, k < K → t.slot (adv t k p).j ≠ .empty) →
    (∃ k i, k < K ∧ SetTable.probe.go t hash h fuel p = some (.candidate (adv t k p).j i (adv t (k + 1) p)) ∧ t.slot (adv t k p).j = .live i) ∨ SetTable.probe.go t hash h fuel p = SetTable.probe.go t hash h (fuel - K) (adv t K p) := by
  intro K
  induction K with
  | zero => intro fuel p _ _ _; exact .inr rfl
  | succ K ih =>
    intro fuel p hf hp hs
    obtain ⟨f, rfl⟩ : ∃ f, fuel = f + 1 := ⟨fuel - 1, by omega⟩
    have h0 : t.slot p.j ≠ .empty := hs 0 (by omega)
    rcases slot_cases hd p.j with h1 | ⟨i, h1⟩
    · exact absurd h1 h0
    · by_cases hq : (hash i == h) = true
      · refine .inl ⟨0, i, by omega, ?_, h1⟩
        conv => lhs; unfold SetTable.probe.go
        rw [h1]
        dsimp only
        rw [if_pos hq]
        rfl
      · have e : SetTable.probe.go t hash h (f + 1) p = SetTable.probe.go t hash h f (t.advance p) := by
          conv => lhs; unfold SetTable.probe.go
          rw [h1]
          dsimp only
          rw [if_neg hq]
        rw [e]
        have hp' : (t.advance p).dummy = none := by
          have := adv_dummy t 1 p
          rw [hp] at this
          exact this
        rcases ih f (t.advance p) (by omega) hp' (fun k hk => hs (k + 1) (by omega)) with ⟨k, i', hk, e', hl⟩ | e'
        · exact .inl ⟨k + 1, i', by omega, e', hl⟩
        · refine .inr ?_
          rw [e', show f + 1 - (K + 1) = f - K by omega]
          rfl
theorem go_new {t : SetTable} (hd : t.dummies = #[]) (hash : Nat → Int) (h : Int) {K fuel : Nat} {p : SetTable.Probe} (hf : K < fuel) (hp : p.dummy = none) (hs : ∀ k, k < K → t.slot (adv t k p).j ≠ .empty) (he : t.slot (adv t K p).j = .empty) :
    (∃ k i, k < K ∧ SetTable.probe.go t hash h fuel p = some (.candidate (adv t k p).j i (adv t (k + 1) p)) ∧ t.slot (adv t k p).j = .live i) ∨ SetTable.probe.go t hash h fuel p = some (.empty (adv t K p).j none) := by
  rcases go_at hd hash h K fuel p hf hp hs with a | a
  · exact .inl a
  · refine .inr ?_
    rw [a]
    obtain ⟨f, hf'⟩ : ∃ f, fuel - K = f + 1 := ⟨fuel - K - 1, by omega⟩
    rw [hf']
    unfold SetTable.probe.go
    rw [he]
    dsimp only
    rw [adv_dummy, hp]
theorem go_old {t : SetTable} (hd : t.dummies = #[]) (hash : Nat → Int) (h : Int) {K fuel i0 : Nat} {p : SetTable.Probe} (hf : K < fuel) (hp : p.dummy = none) (hs : ∀ k, k < K → t.slot (adv t k p).j ≠ .empty) (he : t.slot (adv t K p).j = .live i0) (hh : hash i0 = h) :
    ∃ k i, k ≤ K ∧ SetTable.probe.go t hash h fuel p = some (.candidate (adv t k p).j i (adv t (k + 1) p)) ∧ t.slot (adv t k p).j = .live i := by
  rcases go_at hd hash h K fuel p hf hp hs with ⟨k, i, hk, e, hl⟩ | a
  · exact ⟨k, i, by omega, e, hl⟩
  · refine ⟨K, i0, Nat.le_refl _, ?_, he⟩
    rw [a]
    obtain ⟨f, hf'⟩ : ∃ f, fuel - K = f + 1 := ⟨fuel - K - 1, by omega⟩
    rw [hf']
    conv => lhs; unfold SetTable.probe.go
    rw [he]
    dsimp only
    rw [if_pos (by rw [hh]; exact beq_self_eq_true _)]
    rw [adv_add]
    rfl
theorem adv_in (t : SetTable) : ∀ (k : Nat) (p : SetTable.Probe), k ≤ p.more → adv t k p = { p with j := p.j + k, more := p.more - k }
  | 0, p, h => rfl
  | k + 1, p, h => by
    show adv t k (t.advance p) = _
    have e : t.advance p = { p with j := p.j + 1, more := p.more - 1 } := by
      unfold SetTable.advance
      rw [if_pos (by omega)]
    rw [e, adv_in t k _ (by show k ≤ p.more - 1; omega)]
    simp only [SetTable.Probe.mk.injEq, true_and, and_true]
    omega
theorem end_le {m i : Nat} (h : i ≤ m) : SetTable.runEnd m i ≤ m ∧ i ≤ SetTable.runEnd m i ∧ SetTable.runEnd m i ≤ i + 9 := by
  unfold SetTable.runEnd
  split <;> omega
theorem in_run {t : SetTable} {i p k : Nat} (h : k ≤ SetTable.runEnd t.mask i - i) : (adv t k (at_ t (i, p))).j = i + k := by
  rw [adv_in t k _ h]
  rfl
theorem not_none {owner : Array (Option Nat)} {j : Nat} (hj : j < owner.size) (h : (owner.getD j (some 0)).isNone = false) : ∃ x, owner[j]? = some (some x) := by
  rw [Array.getD_eq_getD_getElem?, getElem?_pos owner j hj] at h
  rw [getElem?_pos owner j hj]
  cases e : owner[j] with
  | none => rw [e] at h; cases h
  | some x => exact ⟨x, rfl⟩
theorem free_path {t : SetTable} (owner : Array (Option Nat)) (hz : owner.size = t.mask + 1) : ∀ (fuel i p j' : Nat), i ≤ t.mask → SetTable.layClean.free t.mask owner fuel i p = some j' →
    ∃ K, K < 10 * fuel ∧ (adv t K (at_ t (i, p))).j = j' ∧ ∀ k, k < K → ∃ x, owner[(adv t k (at_ t (i, p))).j]? = some (some x)
  | 0, i, p, j', hi, h => by cases h
  | fuel + 1, i, p, j', hi, h => by
    obtain ⟨r1, r2, r3⟩ := end_le hi
    unfold SetTable.layClean.free at h
    split at h
    · rename_i k0 hk
      cases h
      rw [List.find?_range_eq_some] at hk
      obtain ⟨hk1, hk2, hk3⟩ := hk
      have hk2 := List.mem_range.mp hk2
      refine ⟨k0, by omega, in_run (by omega), fun k hk => ?_⟩
      rw [in_run (by omega)]
      refine not_none (by omega) ?_
      have := hk3 k hk
      simpa using this
    · rename_i hk
      rw [List.find?_range_eq_none] at hk
      have hnx : (SetTable.leap t.mask i p).1 ≤ t.mask := by
        show (_ % (t.mask + 1)) ≤ t.mask
        have := Nat.mod_lt (i * 5 + 1 + p / 32) (show 0 < t.mask + 1 by omega)
        omega
      obtain ⟨K, h1, h2, h3⟩ := free_path owner hz fuel _ _ j' hnx h
      have hr : adv t (SetTable.runEnd t.mask i - i + 1) (at_ t (i, p)) = at_ t (SetTable.leap t.mask i p) := (adv_run t (SetTable.runEnd t.mask i - i) (at_ t (i, p)) rfl).trans rfl
      refine ⟨SetTable.runEnd t.mask i - i + 1 + K, by omega, ?_, fun k hk' => ?_⟩
      · rw [adv_add, hr]
        exact h2
      · rcases Nat.lt_or_ge k (SetTable.runEnd t.mask i - i + 1) with a | a
        · rw [in_run (by omega)]
          refine not_none (by omega) ?_
          have := hk k (by omega)
          simpa using this
        · obtain ⟨k', rfl⟩ : ∃ k', k = SetTable.runEnd t.mask i - i + 1 + k' := ⟨k - (SetTable.runEnd t.mask i - i + 1), by omega⟩
          rw [adv_add, hr]
          exact h3 k' (by omega)
noncomputable def RchO (m : Nat) (F : Nat → Int) (owner : Array (Option Nat)) : Prop := ∀ j x : Nat, owner[j]? = some (some x) → ∃ K, K < 10 * SetTable.turns m ∧ pm m (F x) K = j ∧ ∀ k, k < K → ∃ y, owner[pm m (F x) k]? = some (some y)
theorem lay_fold2 {m : Nat} (hm : Mask m) (F : Nat → Int) : ∀ (hs : List Int) (owner : Array (Option Nat)) (k : Nat), owner.size = m + 1 → (owner.toList.filterMap id).Perm (List.range k) → k + hs.length ≤ m → (∀ i h, hs[i]? = some h → F (k + i) = h) → RchO m F owner →
    ∃ owner', hs.foldl (layStep m) (some (owner, k)) = some (owner', k + hs.length) ∧ owner'.size = m + 1 ∧ (owner'.toList.filterMap id).Perm (List.range (k + hs.length)) ∧ RchO m F owner'
  | [], owner, k, h1, h2, h3, h4, h5 => ⟨owner, rfl, h1, h2, h5⟩
  | h :: hs, owner, k, h1, h2, h3, h4, h5 => by
    rw [List.length_cons] at h3 ⊢
    have hlt : (owner.toList.filterMap id).length < owner.toList.length := by
      rw [h2.length_eq, List.length_range, Array.length_toList, h1]
      omega
    obtain ⟨j, hj⟩ := some_none hlt
    rw [Array.getElem?_toList] at hj
    have hjm : j ≤ m := by
      have := (Array.getElem?_eq_some_iff.mp hj).1
      omega
    have hi : SetTable.bits h % (m + 1) ≤ m := by
      have := Nat.mod_lt (SetTable.bits h) (show 0 < m + 1 by omega)
      omega
    obtain ⟨n, hn, en⟩ := lp_reach hm hi (bits_lt h) hjm
    obtain ⟨j', e', hj'⟩ := free_some hm owner h1 hj (SetTable.turns m) n _ _ hi (by unfold SetTable.turns; omega) en
    obtain ⟨K, K1, K2, K3⟩ := free_path (t := tM m) owner h1 (SetTable.turns m) _ _ j' hi e'
    have step : layStep m (some (owner, k)) h = some (owner.setIfInBounds j' (some k), k + 1) := by
      unfold layStep
      simp [e']
    rw [List.foldl_cons, step]
    have hp : ((owner.setIfInBounds j' (some k)).toList.filterMap id).Perm (List.range (k + 1)) := by
      rw [Array.toList_setIfInBounds]
      rw [← Array.getElem?_toList] at hj'
      refine (set_none_perm hj').trans ?_
      rw [List.range_succ]
      exact (List.Perm.cons k h2).trans (List.perm_append_comm (l₁ := [k]) (l₂ := List.range k))
    have hj's : j' < owner.size := (Array.getElem?_eq_some_iff.mp hj').1
    have keep : ∀ i x, owner[i]? = some (some x) → (owner.setIfInBounds j' (some k))[i]? = some (some x) := fun i x e => by
      rw [Array.getElem?_setIfInBounds, if_neg]
      · exact e
      · rintro rfl
        rw [hj'] at e
        cases e
    have hR : RchO m F (owner.setIfInBounds j' (some k)) := fun i x e => by
      rw [Array.getElem?_setIfInBounds] at e
      by_cases c : j' = i
      · rw [if_pos c, if_pos hj's] at e
        cases e
        have eF : F k = h := by
          have := h4 0 h rfl
          rwa [Nat.add_zero] at this
        rw [eF]
        refine ⟨K, K1, ?_, fun k' hk' => ?_⟩
        · rw [← c]
          exact K2
        · obtain ⟨y, hy⟩ := K3 k' hk'
          exact ⟨y, keep _ _ hy⟩
      · rw [if_neg c] at e
        obtain ⟨K', q1, q2, q3⟩ := h5 i x e
        refine ⟨K', q1, q2, fun k' hk' => ?_⟩
        obtain ⟨y, hy⟩ := q3 k' hk'
        exact ⟨y, keep _ _ hy⟩
    obtain ⟨o', f1, f2, f3, f4⟩ := lay_fold2 hm F hs (owner.setIfInBounds j' (some k)) (k + 1) (by simpa using h1) hp (by omega) (fun i h' e => by
      have := h4 (i + 1) h' e
      rwa [show k + (i + 1) = k + 1 + i by omega] at this) hR
    exact ⟨o', by rw [f1]; congr 2; omega, f2, by rw [show k + (hs.length + 1) = k + 1 + hs.length by omega]; exact f3, f4⟩
theorem fm_get {α : Type} (es : Array α) : ∀ (l : List Nat), (∀ i ∈ l, i < es.size) → ∀ n : Nat, (l.filterMap (es[·]?))[n]? = (l[n]?).bind (es[·]?)
  | [], _, n => by simp
  | x :: l, h, n => by
    have hx := h x List.mem_cons_self
    have e : (x :: l).filterMap (es[·]?) = es[x] :: l.filterMap (es[·]?) := by
      rw [List.filterMap_cons]
      simp [hx]
    rw [e]
    cases n with
    | zero => simp [hx]
    | succ n => simpa using fm_get es l (fun i hi => h i (List.mem_cons_of_mem _ hi)) n
theorem live_get {f : Nat → Option (Nat × Nat)} (hf : ∀ j x, f j = some x → x.1 = j) : ∀ (l : List Nat), (∀ x ∈ (l.filterMap f), f x.1 = some x) ∧ ((l.filterMap f).map (·.1)) = l.filter (fun j => (f j).isSome)
  | [] => ⟨fun x hx => (by cases hx), rfl⟩
  | a :: l => by
    obtain ⟨i1, i2⟩ := live_get hf l
    cases e : f a with
    | none =>
      rw [List.filterMap_cons_none e, List.filter_cons_of_neg (by rw [e]; simp)]
      exact ⟨i1, i2⟩
    | some x =>
      rw [List.filterMap_cons_some e, List.filter_cons_of_pos (by rw [e]; rfl), List.map_cons, i2, hf a x e]
      refine ⟨fun y hy => ?_, rfl⟩
      rcases List.mem_cons.mp hy with rfl | hy
      · rw [hf a y e]
        exact e
      · exact i1 y hy
theorem relaid_ok2 (t : SetTable) {es : Array (Int × Value)} {wanted m : Nat} (hm : Mask m) (hw : SetTable.sizeAbove wanted - 1 = m) (hn : es.size ≤ m) :
    ∃ t' order, t.relaid (es.map (·.1)) wanted = some (t', order) ∧ t'.place.size = es.size ∧ t'.dummies = #[] ∧ t'.mask = m ∧ order.toList.Perm (List.range es.size) ∧ t'.led = t.led ∧ t'.plain = t.plain ∧ TOk m t'.place ((order.filterMap (es[·]?)).map (·.1)) := by
  obtain ⟨o', f1, f2, f3, f4⟩ := lay_fold2 hm (fun i => ((es[i]?).map (·.1)).getD 0) (es.map (·.1)).toList (Array.replicate (m + 1) none) 0 (by simp) (by simp) (by rw [Array.length_toList, Array.size_map]; omega) (fun i h e => by
      rw [Array.getElem?_toList, Array.getElem?_map] at e
      show ((es[0 + i]?).map (·.1)).getD 0 = h
      rw [Nat.zero_add, e]
      rfl) (fun j x e => by
      rw [Array.getElem?_replicate] at e
      split at e <;> cases e)
  rw [Array.length_toList, Nat.zero_add, Array.size_map] at f1 f3
  have hlay : SetTable.layClean m (es.map (·.1)) = some o' := by
    show ((es.map (·.1)).foldl (layStep m) (some (Array.replicate (m + 1) none, 0))).map (·.1) = some o'
    rw [← Array.foldl_toList, f1]
    rfl
  have hsnd : ((List.range (m + 1)).filterMap fun j => (o'.getD j none).map (j, ·)).map (·.2) = o'.toList.filterMap id := by
    rw [List.map_filterMap]
    have : o'.toList = (List.range (m + 1)).map fun j => o'.getD j none := by
      apply List.ext_getElem
      · rw [Array.length_toList, List.length_map, List.length_range, f2]
      · intro i h1 h2
        rw [Array.length_toList] at h1
        simp [h1]
    rw [this, List.filterMap_map]
    congr 1
    funext j
    show ((o'.getD j none).map (j, ·)).map (·.2) = o'.getD j none
    cases o'.getD j none <;> rfl
  have hrel : t.relaid (es.map (·.1)) wanted = some (({ mask := m, place := (((List.range (m + 1)).filterMap fun j => (o'.getD j none).map (j, ·)).map (·.1)).toArray, dummies := #[], finger := t.finger, led := t.led, moves := t.movedTo m, plain := t.plain } : SetTable), (((List.range (m + 1)).filterMap fun j => (o'.getD j none).map (j, ·)).map (·.2)).toArray) := by
    unfold SetTable.relaid
    rw [hw]
    unfold SetTable.laid
    rw [hlay]
    rfl
  obtain ⟨lv1, lv2⟩ := live_get (f := fun j => (o'.getD j none).map (j, ·)) (fun j x e => by
    obtain ⟨y, _, rfl⟩ := Option.map_eq_some_iff.mp e
    rfl) (List.range (m + 1))
  have hlen : ((List.range (m + 1)).filterMap fun j => (o'.getD j none).map (j, ·)).length = es.size := by
    have := congrArg List.length hsnd
    rwa [List.length_map, f3.length_eq, List.length_range] at this
  have hall : ∀ i ∈ ((List.range (m + 1)).filterMap fun j => (o'.getD j none).map (j, ·)).map (·.2), i < es.size := fun i hi => by
    rw [hsnd] at hi
    exact List.mem_range.mp (f3.mem_iff.mp hi)
  refine ⟨_, _, hrel, ?_, rfl, rfl, ?_, rfl, rfl, ?_⟩
  · show (((List.range (m + 1)).filterMap fun j => (o'.getD j none).map (j, ·)).map (·.1)).toArray.size = _
    rw [List.size_toArray, List.length_map, hlen]
  · show (((List.range (m + 1)).filterMap fun j => (o'.getD j none).map (j, ·)).map (·.2)).toArray.toList.Perm _
    rw [List.toList_toArray, hsnd]
    exact f3
  · generalize hlv : ((List.range (m + 1)).filterMap fun j => (o'.getD j none).map (j, ·)) = lv at lv1 lv2 hlen hall
    show TOk m (lv.map (·.1)).toArray (((lv.map (·.2)).toArray.filterMap (es[·]?)).map (·.1))
    have mem : ∀ j, (∃ y, o'[j]? = some (some y)) → j ∈ (lv.map (·.1)).toArray.toList := fun j ⟨y, hy⟩ => by
      rw [List.toList_toArray, lv2, List.mem_filter]
      have hj := (Array.getElem?_eq_some_iff.mp hy).1
      refine ⟨List.mem_range.mpr (by omega), ?_⟩
      rw [Array.getD_eq_getD_getElem?, hy]
      rfl
    have hes : ∀ n : Nat, ((((lv.map (·.2)).toArray.filterMap (es[·]?)).map (·.1)))[n]? = (((lv.map (·.2))[n]?).bind (es[·]?)).map (·.1) := fun n => by
      rw [Array.getElem?_map, ← Array.getElem?_toList, Array.toList_filterMap, List.toList_toArray, fm_get es _ hall]
    refine ⟨?_, ?_, fun i j h e1 e2 => ?_⟩
    · rw [Array.size_map, ← Array.length_toList, ← Array.length_toList, Array.toList_filterMap, List.toList_toArray, List.toList_toArray, List.length_map]
      have key : ∀ l : List Nat, (∀ i ∈ l, i < es.size) → (l.filterMap (es[·]?)).length = l.length := by
        intro l
        induction l with
        | nil => intro _; rfl
        | cons x l ih =>
          intro hl
          have hx := hl x List.mem_cons_self
          rw [List.filterMap_cons, getElem?_pos es x hx, List.length_cons, List.length_cons, ih fun i hi => hl i (List.mem_cons_of_mem _ hi)]
      rw [key _ hall, List.length_map]
    · rw [List.toList_toArray, lv2]
      exact List.Pairwise.filter _ List.pairwise_lt_range
    · rw [hes] at e2
      rw [List.getElem?_toArray, List.getElem?_map] at e1
      rw [List.getElem?_map] at e2
      obtain ⟨⟨j', x⟩, hx, rfl⟩ := Option.map_eq_some_iff.mp e1
      rw [hx] at e2
      have hf := lv1 _ (List.mem_of_getElem? hx)
      have hx' : o'.getD j' none = some x := by
        obtain ⟨y, hy, ey⟩ := Option.map_eq_some_iff.mp hf
        cases ey
        exact hy
      have ho : o'[j']? = some (some x) := by
        rw [Array.getD_eq_getD_getElem?] at hx'
        cases q : o'[j']? with
        | none => rw [q] at hx'; cases hx'
        | some y => rw [q] at hx'; cases hx'; rfl
      obtain ⟨K, q1, q2, q3⟩ := f4 j' x ho
      have eF : ((es[x]?).map (·.1)).getD 0 = h := by
        have : (es[x]?).map (·.1) = some h := e2
        rw [this]
        rfl
      dsimp only at q2 q3
      rw [eF] at q2 q3
      exact ⟨K, q1, q2, fun k hk => mem _ (q3 k hk)⟩
end Tb
set_option Elab.async false
set_option linter.all false
set_option maxRecDepth 100000
set_option maxHeartbeats 4000000
namespace L2
open PySem PySem.Spec PyProof.Rows
section
variable {P : Program} {w : World} {A : Around} {E : Value → Shared → Prop} {s : Shared} {K : Type} [DecidableEq K] {knd : KeyKind P w K}
theorem items_plain {ks : List K} {vs : List Value} (h : ItemsAre knd ks vs) : ∀ v ∈ vs, ∀ b, v ≠ .ref b := fun v hv b e => by
  have := h.byValue v hv
  subst e
  cases this
theorem notClass_plain (n : Nat) {v : Value} (h : ∀ b, v ≠ .ref b) : ofAClassStatement n v = pure false := by
  cases v with
  | ref b => exact absurd rfl (h b)
  | _ => unfold ofAClassStatement; rfl
theorem notClass_tuple {ks : List K} {b : Addr} {Q : Bool → Shared → Prop} (hk : IsTupleKey knd s.heap ks b) (h : Q false s) : wpAny (model P w) A (ofAClassStatement 8 (.ref b)) Q E s := by
  have hT := hk.typeIs
  obtain ⟨o, items, n, ho, hc, hd, hi⟩ := hk
  unfold ofAClassStatement
  refine wpAny_bind (wpAny_typeOf hT ?_)
  dsimp only
  refine wpAny_bind (wpAny_pure ?_)
  simp only [Bool.not_true, Bool.false_eq_true, if_false]
  refine wpAny_bind (wpAny_seqItems ho hd ?_)
  dsimp only
  refine wpAny_bind ?_
  rw [← Array.forIn_toList]
  refine wpAny_forIn_list _ (fun rest r s' => r.1 = none ∧ s' = s ∧ ∀ v ∈ rest, ∀ b, v ≠ .ref b) _ ?_ ?_ _ _ ⟨rfl, rfl, items_plain hi⟩
  · rintro v rest r s' ⟨hr, rfl, hall⟩
    rw [notClass_plain _ (hall v List.mem_cons_self)]
    refine wpAny_bind (wpAny_pure ?_)
    simp only [Bool.false_eq_true, if_false]
    exact wpAny_pure ⟨rfl, rfl, fun u hu => hall u (List.mem_cons_of_mem _ hu)⟩
  · rintro ⟨r1, r2⟩ s' ⟨hr, rfl, _⟩
    simp only at hr
    subst hr
    exact wpAny_pure h
theorem unseen {ks : List K} {b : Addr} {l : List Value} {Q : Bool → Shared → Prop} (hk : IsTupleKey knd s.heap ks b) (hl : ∀ y ∈ l, ∃ b' k', y = .ref b' ∧ IsTupleKey knd s.heap k' b') (h : Q false s) : wpAny (model P w) A (searchCouldBeSeen (.ref b) l) Q E s := by
  unfold searchCouldBeSeen
  refine wpAny_bind ?_
  refine wpAny_forIn_list _ (fun rest r s' => r.1 = none ∧ s' = s ∧ ∀ y ∈ rest, ∃ b' k', y = .ref b' ∧ IsTupleKey knd s.heap k' b') _ ?_ ?_ _ _ ⟨rfl, rfl, hl⟩
  · rintro v rest r s' ⟨hr, rfl, hall⟩
    obtain ⟨b', k', rfl, hk'⟩ := hall v List.mem_cons_self
    have next : ∀ y ∈ rest, ∃ b' k', y = .ref b' ∧ IsTupleKey knd s'.heap k' b' := fun y hy => hall y (List.mem_cons_of_mem _ hy)
    dsimp only
    split
    · exact wpAny_pure ⟨rfl, rfl, next⟩
    · refine wpAny_bind (wpAny_eqIsQuiet_tuple hk ?_)
      simp only [Bool.not_true, Bool.false_eq_true, if_false]
      refine wpAny_bind (wpAny_eqIsQuiet_tuple hk' ?_)
      simp only [Bool.not_true, Bool.false_eq_true, if_false]
      refine wpAny_bind (notClass_tuple hk ?_)
      simp only [Bool.false_eq_true, if_false]
      refine wpAny_bind (notClass_tuple hk' ?_)
      simp only [Bool.false_eq_true, if_false]
      exact wpAny_pure ⟨rfl, rfl, next⟩
  · rintro ⟨r1, r2⟩ s' ⟨hr, rfl, _⟩
    simp only at hr
    subst hr
    exact wpAny_pure h
theorem gave_no {t : SetTable} (hm : Tb.Mask t.mask) : t.gaveWay = false := by
  unfold SetTable.gaveWay
  rcases hm with e | e | e | e | e | e <;> rw [e] <;> rfl
theorem search_new {a b : Addr} {k : List K} {h : Int} {o : Obj} {es : Array (Int × Value)} {ep : Nat} {t : SetTable} (hu : A.units < cLine) (hk : IsTupleKey knd s.heap k b) (ho : s.heap.get? a = some o) (hd : o.data = .set es ep t) (hf : t.fits es.size = true) (hm : Tb.Mask t.mask) (hdm : t.dummies = #[])
    (hall : ∀ e ∈ es.toList, ∃ b' k', e.2 = .ref b' ∧ IsTupleKey knd s.heap k' b' ∧ k' ≠ k) {Q : SetFound → Shared → Prop} :
    ∀ (K fuel : Nat) (stand : Option SetTable.Probe), K < fuel → K < 10 * SetTable.turns t.mask → (stand.getD (t.probeStart h)).dummy = none → (∀ k', k' < K → t.slot (Tb.adv t k' (stand.getD (t.probeStart h))).j ≠ .empty) → t.slot (Tb.adv t K (stand.getD (t.probeStart h))).j = .empty →
      Q (.free (Tb.adv t K (stand.getD (t.probeStart h))).j false) s → wpAny (model P w) A (setSearchFrom a (.ref b) h true fuel stand) Q E s := by
  intro K
  induction K using Nat.strongRecOn with
  | ind K ih =>
    intro fuel stand hfu hK hdu hne hs hQ
    obtain ⟨f, rfl⟩ : ∃ f, fuel = f + 1 := ⟨fuel - 1, by omega⟩
    unfold setSearchFrom
    refine wpAny_bind (wpAny_setState_of ho hd hf ?_)
    dsimp only
    have hg := gave_no hm
    have hsz : t.place.size = es.size := by
      simp only [SetTable.fits, Bool.and_eq_true, beq_iff_eq] at hf
      exact hf.1
    have hsm : t.sameMemory t.moves t.mask = some true := by
      unfold SetTable.sameMemory
      rw [if_pos (beq_self_eq_true _)]
    rw [hg]
    simp only [Bool.false_eq_true, if_false]
    generalize hr : t.probe _ h (stand.getD (t.probeStart h)) = r
    obtain ⟨g, hr⟩ : ∃ g, SetTable.probe.go t g h (10 * SetTable.turns t.mask) (stand.getD (t.probeStart h)) = r := ⟨_, hr⟩
    rcases Tb.go_new hdm g h hK hdu hne hs with ⟨k', i, hk', e, hl⟩ | e
    · rw [e] at hr
      subst hr
      have hpl := Tb.slot_live hl
      have hi : i < es.size := by
        rw [← hsz]
        exact (Array.getElem?_eq_some_iff.mp hpl).1
      have hmem : es[i] ∈ es.toList := by simp
      obtain ⟨b', k2, hy, hk2, hne2⟩ := hall _ hmem
      have hes : es[i]? = some (es[i].1, .ref b') := by
        rw [Array.getElem?_eq_getElem hi, ← hy]
      have hst : ∀ y ∈ ((es.filter fun x => x.1 == h).toList.map fun x => x.2), ∃ b' k', y = Value.ref b' ∧ IsTupleKey knd s.heap k' b' := fun y hy => by
        obtain ⟨e0, he0, rfl⟩ := List.mem_map.mp hy
        have he1 : e0 ∈ es.toList := by
          have := Array.mem_toList_iff.mp he0
          exact Array.mem_toList_iff.mpr (Array.mem_filter.mp this).1
        obtain ⟨b3, k3, h1, h2, _⟩ := hall e0 he1
        exact ⟨b3, k3, h1, h2⟩
      have eK : ∀ x, Tb.adv t (k' + 1 + x) (stand.getD (t.probeStart h)) = Tb.adv t x (Tb.adv t (k' + 1) (stand.getD (t.probeStart h))) := fun x => Tb.adv_add t _ _ _
      have again : wpAny (model P w) A (setSearchFrom a (.ref b) h true f (some (Tb.adv t (k' + 1) (stand.getD (t.probeStart h))))) Q E s := by
        refine ih (K - (k' + 1)) (by omega) f _ (by omega) (by omega) ?_ (fun x hx => ?_) ?_ ?_
        · show (Tb.adv t (k' + 1) _).dummy = none
          rw [Tb.adv_dummy]
          exact hdu
        · show t.slot (Tb.adv t x (Tb.adv t (k' + 1) _)).j ≠ _
          rw [← eK]
          exact hne _ (by omega)
        · show t.slot (Tb.adv t (K - (k' + 1)) (Tb.adv t (k' + 1) _)).j = _
          rw [← eK, show k' + 1 + (K - (k' + 1)) = K by omega]
          exact hs
        · show Q (.free (Tb.adv t (K - (k' + 1)) (Tb.adv t (k' + 1) _)).j false) s
          rw [← eK, show k' + 1 + (K - (k' + 1)) = K by omega]
          exact hQ
      have same : isSame (Value.ref b') (Value.ref b') = pure true := by
        unfold isSame
        simp
      dsimp only
      cases hled : t.led
      · simp only [Bool.not_false, if_true]
        refine wpAny_bind (unseen hk hst ?_)
        simp only [Bool.false_eq_true, if_false]
        rw [hes]
        dsimp only
        refine wpAny_bind (wpAny_holding (wpAny_eqBool_tuple hu hk2 hk ?_))
        rw [decide_eq_false hne2]
        refine wpAny_bind (wpAny_setState_of ho hd hf ?_)
        dsimp only
        simp only [Bool.and_false, Bool.false_eq_true, if_false, hsm, if_true, hl, hes, same]
        exact wpAny_bind (wpAny_pure (wpAny_bind (wpAny_pure again)))
      · simp only [Bool.not_true, Bool.false_eq_true, if_false]
        rw [hes]
        dsimp only
        refine wpAny_bind (wpAny_holding (wpAny_eqBool_tuple hu hk2 hk ?_))
        rw [decide_eq_false hne2]
        refine wpAny_bind (wpAny_setState_of ho hd hf ?_)
        dsimp only
        simp only [Bool.and_false, Bool.false_eq_true, if_false, hsm, if_true, hl, hes, same]
        exact wpAny_bind (wpAny_pure (wpAny_bind (wpAny_pure again)))
    · rw [e] at hr
      subst hr
      exact wpAny_pure hQ
theorem search_old {a b : Addr} {k : List K} {h : Int} {o : Obj} {es : Array (Int × Value)} {ep i0 : Nat} {t : SetTable} (hu : A.units < cLine) (hk : IsTupleKey knd s.heap k b) (ho : s.heap.get? a = some o) (hd : o.data = .set es ep t) (hf : t.fits es.size = true) (hm : Tb.Mask t.mask) (hdm : t.dummies = #[])
    (hall : ∀ e ∈ es.toList, ∃ b' k', e.2 = .ref b' ∧ IsTupleKey knd s.heap k' b') (hi0 : ∃ b0, es[i0]? = some (h, .ref b0) ∧ IsTupleKey knd s.heap k b0) {Q : SetFound → Shared → Prop} (hQ : Q (.there none) s) :
    ∀ (K fuel : Nat) (stand : Option SetTable.Probe), K < fuel → K < 10 * SetTable.turns t.mask → (stand.getD (t.probeStart h)).dummy = none → (∀ k', k' < K → t.slot (Tb.adv t k' (stand.getD (t.probeStart h))).j ≠ .empty) → t.slot (Tb.adv t K (stand.getD (t.probeStart h))).j = .live i0 →
      wpAny (model P w) A (setSearchFrom a (.ref b) h true fuel stand) Q E s := by
  obtain ⟨b0, hb0, hkb0⟩ := hi0
  intro K
  induction K using Nat.strongRecOn with
  | ind K ih =>
    intro fuel stand hfu hK hdu hne hs
    obtain ⟨f, rfl⟩ : ∃ f, fuel = f + 1 := ⟨fuel - 1, by omega⟩
    unfold setSearchFrom
    refine wpAny_bind (wpAny_setState_of ho hd hf ?_)
    dsimp only
    have hg := gave_no hm
    have hsz : t.place.size = es.size := by
      simp only [SetTable.fits, Bool.and_eq_true, beq_iff_eq] at hf
      exact hf.1
    have hsm : t.sameMemory t.moves t.mask = some true := by
      unfold SetTable.sameMemory
      rw [if_pos (beq_self_eq_true _)]
    rw [hg]
    simp only [Bool.false_eq_true, if_false]
    generalize hr : t.probe _ h (stand.getD (t.probeStart h)) = r
    obtain ⟨g, hgi, hr⟩ : ∃ g : Nat → Int, g i0 = h ∧ SetTable.probe.go t g h (10 * SetTable.turns t.mask) (stand.getD (t.probeStart h)) = r := ⟨_, by show ((es[i0]?).map (·.1)).getD 0 = h; rw [hb0]; rfl, hr⟩
    obtain ⟨k', i, hk', e, hl⟩ := Tb.go_old hdm g h hK hdu hne hs hgi
    rw [e] at hr
    subst hr
    have hpl := Tb.slot_live hl
    have hi : i < es.size := by
      rw [← hsz]
      exact (Array.getElem?_eq_some_iff.mp hpl).1
    have hmem : es[i] ∈ es.toList := by simp
    obtain ⟨b', k2, hy, hk2⟩ := hall _ hmem
    have hes : es[i]? = some (es[i].1, .ref b') := by
      rw [Array.getElem?_eq_getElem hi, ← hy]
    have hst : ∀ y ∈ ((es.filter fun x => x.1 == h).toList.map fun x => x.2), ∃ b' k', y = Value.ref b' ∧ IsTupleKey knd s.heap k' b' := fun y hy => by
      obtain ⟨e0, he0, rfl⟩ := List.mem_map.mp hy
      have he1 : e0 ∈ es.toList := by
        have := Array.mem_toList_iff.mp he0
        exact Array.mem_toList_iff.mpr (Array.mem_filter.mp this).1
      obtain ⟨b3, k3, h1, h2⟩ := hall e0 he1
      exact ⟨b3, k3, h1, h2⟩
    have eK : ∀ x, Tb.adv t (k' + 1 + x) (stand.getD (t.probeStart h)) = Tb.adv t x (Tb.adv t (k' + 1) (stand.getD (t.probeStart h))) := fun x => Tb.adv_add t _ _ _
    have again : k2 ≠ k → wpAny (model P w) A (setSearchFrom a (.ref b) h true f (some (Tb.adv t (k' + 1) (stand.getD (t.probeStart h))))) Q E s := fun hne2 => by
      have hlt : k' < K := by
        rcases Nat.lt_or_ge k' K with q | q
        · exact q
        · have : k' = K := by omega
          subst this
          rw [hs] at hl
          cases hl
          rw [hb0] at hes
          cases hes
          obtain ⟨o1, i1, n1, z1, _, z2, z3⟩ := hk2
          obtain ⟨o2, i2, n2, y1, _, y2, y3⟩ := hkb0
          rw [z1] at y1
          cases y1
          rw [z2] at y2
          cases y2
          exact absurd (z3.inj y3) hne2
      refine ih (K - (k' + 1)) (by omega) f _ (by omega) (by omega) ?_ (fun x hx => ?_) ?_
      · show (Tb.adv t (k' + 1) _).dummy = none
        rw [Tb.adv_dummy]
        exact hdu
      · show t.slot (Tb.adv t x (Tb.adv t (k' + 1) _)).j ≠ _
        rw [← eK]
        exact hne _ (by omega)
      · show t.slot (Tb.adv t (K - (k' + 1)) (Tb.adv t (k' + 1) _)).j = _
        rw [← eK, show k' + 1 + (K - (k' + 1)) = K by omega]
        exact hs
    have same : isSame (Value.ref b') (Value.ref b') = pure true := by
      unfold isSame
      simp
    have fin : wpAny (model P w) A (do
        let equal ← holding [Value.ref b'] (eqBool (.ref b') (.ref b))
        let (es', _, t') ← setState a
        if (true && equal) = true then return SetFound.there none
        let some same := t'.sameMemory t.moves t.mask | unsupported "set.changed-during-lookup:is-the-new-block-at-the-old-address"
        let still ← match (if same = true then t'.slot (Tb.adv t k' (stand.getD (t.probeStart h))).j else .empty) with
          | .live i' => match es'[i']? with
            | some (_, y') => do pure (if ← isSame y' (.ref b') then some i' else none)
            | none => pure none
          | _ => pure none
        match still with
        | none => rule "set.search.anew"; setSearchFrom a (.ref b) h true f none
        | some i' => if equal = true then return .there (some i') else setSearchFrom a (.ref b) h true f (some (Tb.adv t (k' + 1) (stand.getD (t.probeStart h))))) Q E s := by
      refine wpAny_bind (wpAny_holding (wpAny_eqBool_tuple hu hk2 hk ?_))
      refine wpAny_bind (wpAny_setState_of ho hd hf ?_)
      dsimp only
      by_cases hq : k2 = k
      · rw [decide_eq_true hq]
        simp only [Bool.and_self, if_true]
        exact wpAny_pure hQ
      · rw [decide_eq_false hq]
        simp only [Bool.and_false, Bool.false_eq_true, if_false, hsm, if_true, hl, hes, same]
        exact wpAny_bind (wpAny_pure (wpAny_bind (wpAny_pure (again hq))))
    dsimp only
    cases hled : t.led
    · simp only [Bool.not_false, if_true]
      refine wpAny_bind (unseen hk hst ?_)
      simp only [Bool.false_eq_true, if_false]
      rw [hes]
      exact fin
    · simp only [Bool.not_true, Bool.false_eq_true, if_false]
      rw [hes]
      exact fin
theorem key_stay {h h' : Heap} {a b : Addr} {k : List K} {o : Obj} {es : Array (Int × Value)} {ep : Nat} {t : SetTable} (hk : IsTupleKey knd h k b) (ho : h.get? a = some o) (hd : o.data = .set es ep t) (hs : Heap.SameBut a h h') : IsTupleKey knd h' k b := by
  obtain ⟨o', items, n, ho', hc, hd', hi⟩ := hk
  have hne : b ≠ a := by
    rintro rfl
    rw [ho] at ho'
    cases ho'
    rw [hd] at hd'
    cases hd'
  exact ⟨o', items, n, (hs.2 b hne).trans ho', hc, hd', hi⟩
theorem hashBy_plain (n : Nat) {v : Value} (h : ∀ b, v ≠ .ref b) : ∃ c, hashByValue n v = pure c := by
  cases v with
  | ref b => exact absurd rfl (h b)
  | _ => exact ⟨_, by cases n <;> unfold hashByValue <;> rfl⟩
theorem hashBy_tuple {ks : List K} {b : Addr} {Q : Bool → Shared → Prop} (hk : IsTupleKey knd s.heap ks b) (h : ∀ c, Q c s) : wpAny (model P w) A (hashByValue 8 (.ref b)) Q E s := by
  have hT := hk.typeIs
  obtain ⟨o, items, n, ho, hc, hd, hi⟩ := hk
  unfold hashByValue
  refine wpAny_bind (wpAny_specialOf hT F.slot_tuple_hash.lookup ?_)
  dsimp only
  refine wpAny_bind (wpAny_seqItems ho hd ?_)
  dsimp only [Option.getD_some]
  refine wpAny_bind ?_
  rw [← Array.forIn_toList]
  refine wpAny_forIn_list _ (fun rest r s' => (r.1 = none ∨ ∃ c, r.1 = some c) ∧ s' = s ∧ ∀ v ∈ rest, ∀ b, v ≠ .ref b) _ ?_ ?_ _ _ ⟨.inl rfl, rfl, items_plain hi⟩
  · rintro v rest r s' ⟨hr, rfl, hall⟩
    obtain ⟨c, hc'⟩ := hashBy_plain 7 (hall v List.mem_cons_self)
    rw [hc']
    refine wpAny_bind (wpAny_pure ?_)
    cases c
    · show wpAny _ _ (pure (ForInStep.done (some false, ()))) _ _ _
      exact wpAny_pure (wpAny_pure (h false))
    · simp only [Bool.not_true, Bool.false_eq_true, if_false]
      exact wpAny_pure ⟨.inl rfl, rfl, fun u hu => hall u (List.mem_cons_of_mem _ hu)⟩
  · rintro ⟨r1, r2⟩ s' ⟨hr, rfl, _⟩
    simp only at hr
    rcases hr with rfl | ⟨c, rfl⟩
    · exact wpAny_pure (h true)
    · exact wpAny_pure (h c)
theorem reorder_ok {α : Type} {es : Array α} {order : Array Nat} (h : order.toList.Perm (List.range es.size)) : (order.filterMap (es[·]?)).size = es.size ∧ ∀ e ∈ (order.filterMap (es[·]?)).toList, e ∈ es.toList := by
  have key : ∀ l : List Nat, (∀ i ∈ l, i < es.size) → (l.filterMap (es[·]?)).length = l.length ∧ ∀ e ∈ l.filterMap (es[·]?), e ∈ es.toList := by
    intro l
    induction l with
    | nil => intro _; exact ⟨rfl, fun e he => by cases he⟩
    | cons x l ih =>
      intro hl
      obtain ⟨i1, i2⟩ := ih fun i hi => hl i (List.mem_cons_of_mem _ hi)
      have hx := hl x List.mem_cons_self
      have e : (x :: l).filterMap (es[·]?) = es[x] :: l.filterMap (es[·]?) := by
        rw [List.filterMap_cons]
        simp [hx]
      rw [e]
      refine ⟨by rw [List.length_cons, List.length_cons, i1], fun y hy => ?_⟩
      rcases List.mem_cons.mp hy with rfl | hy
      · simp
      · exact i2 y hy
  have hlt : ∀ i ∈ order.toList, i < es.size := fun i hi => List.mem_range.mp (h.mem_iff.mp hi)
  obtain ⟨k1, k2⟩ := key order.toList hlt
  rw [Array.toList_filterMap]
  refine ⟨?_, k2⟩
  rw [← Array.length_toList, Array.toList_filterMap, k1, h.length_eq, List.length_range]
theorem reorder_perm {α : Type} {es : Array α} {order : Array Nat} (h : order.toList.Perm (List.range es.size)) : (order.filterMap (es[·]?)).toList.Perm es.toList := by
  rw [Array.toList_filterMap]
  have e : (List.range es.size).filterMap (es[·]?) = es.toList := by
    apply List.ext_getElem?
    intro n
    have e0 : es.toList[n]? = es[n]? := Array.getElem?_toList
    rw [e0, Tb.fm_get es _ (fun i hi => List.mem_range.mp hi)]
    by_cases hn : n < es.size
    · rw [List.getElem?_range hn]
      rfl
    · have e1 : (List.range es.size)[n]? = none := List.getElem?_eq_none (by rw [List.length_range]; omega)
      rw [e1, Array.getElem?_eq_none (by omega)]
      rfl
  rw [← e]
  exact h.filterMap _
end
section
variable {P : Program} {w : World} {A : Around} {E : Value → Shared → Prop} {s : Shared}
theorem items_str {ks : List Key} {vs : List Value} (h : ItemsAre (mixKind P w) ks vs) {x : Str} (hx : Sum.inr x ∈ ks) : ∃ t, Value.str x t ∈ vs := by
  induction h with
  | nil => cases hx
  | @cons k v ks vs hk _ ih =>
    rcases List.mem_cons.mp hx with rfl | hx
    · rcases keyIs_shape (show keyIs (.inr x) v = true from hk) with ⟨i, t, e, _⟩ | ⟨y, t, e, rfl⟩
      · cases e
      · cases e
        exact ⟨t, List.mem_cons_self⟩
    · obtain ⟨t, ht⟩ := ih hx
      exact ⟨t, List.mem_cons_of_mem _ ht⟩
theorem hashBy_str {ks : List Key} {b : Addr} {x : Str} {Q : Bool → Shared → Prop} (hk : IsTupleKey (mixKind P w) s.heap ks b) (hx : Sum.inr x ∈ ks) (h : Q false s) : wpAny (model P w) A (hashByValue 8 (.ref b)) Q E s := by
  have hT := hk.typeIs
  obtain ⟨o, items, n, ho, hc, hd, hi⟩ := hk
  unfold hashByValue
  refine wpAny_bind (wpAny_specialOf hT F.slot_tuple_hash.lookup ?_)
  dsimp only
  refine wpAny_bind (wpAny_seqItems ho hd ?_)
  dsimp only [Option.getD_some]
  refine wpAny_bind ?_
  rw [← Array.forIn_toList]
  refine wpAny_forIn_list _ (fun rest r s' => r.1 = none ∧ s' = s ∧ (∀ v ∈ rest, ∀ b, v ≠ .ref b) ∧ ∃ t, Value.str x t ∈ rest) _ ?_ ?_ _ _ ⟨rfl, rfl, items_plain hi, items_str hi hx⟩
  · rintro v rest r s' ⟨hr, rfl, hall, t, ht⟩
    obtain ⟨c, hc'⟩ := hashBy_plain 7 (hall v List.mem_cons_self)
    rw [hc']
    refine wpAny_bind (wpAny_pure ?_)
    cases c
    · show wpAny _ _ (pure (ForInStep.done (some false, ()))) _ _ _
      exact wpAny_pure (wpAny_pure h)
    · simp only [Bool.not_true, Bool.false_eq_true, if_false]
      refine wpAny_pure ⟨rfl, rfl, fun u hu => hall u (List.mem_cons_of_mem _ hu), t, ?_⟩
      rcases List.mem_cons.mp ht with rfl | ht
      · exact absurd hc' (fun z => by
          have : hashByValue 7 (Value.str x t) = pure false := by unfold hashByValue; rfl
          rw [this] at z
          injection z with z
          cases z)
      · exact ht
  · rintro ⟨r1, r2⟩ s' ⟨hr, rfl, _, t, ht⟩
    cases ht
noncomputable def SetT (P : Program) (w : World) (B : Addr → List Key → Prop) (h : Heap) (a : Addr) (ks : List (List Key)) : Prop := ks.Nodup ∧
  ∃ o es ep t, h.get? a = some o ∧ o.ExactSet ∧ o.data = .set es ep t ∧ t.dummies = #[] ∧ Tb.Mask t.mask ∧ es.size * 5 < t.mask * 3 ∧ es.size = ks.length ∧ Tb.TOk t.mask t.place (es.map (·.1)) ∧
    (∀ e ∈ es.toList, ∃ b k, e = (tupleKeyHash (mixKind P w) k, .ref b) ∧ k ∈ ks ∧ IsTupleKey (mixKind P w) h k b ∧ B b k) ∧ (∀ k ∈ ks, ∃ b, (tupleKeyHash (mixKind P w) k, .ref b) ∈ es.toList ∧ IsTupleKey (mixKind P w) h k b) ∧ ((∀ k ∈ ks, ∃ x, Sum.inr x ∈ k) → ks = [] ∨ t.plain = false)
theorem add_tail {B : Addr → List Key → Prop} {a : Addr} {o : Obj} {es es1 : Array (Int × Value)} {ep n : Nat} {t t1 : SetTable} {ks1 : List (List Key)} {Q : Bool → Shared → Prop} (hnd : ks1.Nodup) (ho : s.heap.get? a = some o) (hex : o.ExactSet) (hd : o.data = .set es ep t) (hs1 : es1.size = n + 1) (hdm1 : t1.dummies = #[])
    (hm1 : Tb.Mask t1.mask) (hfull : n * 5 < t1.mask * 3) (hn : n < 1400) (hlen : ks1.length = n + 1) (hT1 : Tb.TOk t1.mask t1.place (es1.map (·.1))) (hall1 : ∀ e ∈ es1.toList, ∃ b k, e = (tupleKeyHash (mixKind P w) k, .ref b) ∧ k ∈ ks1 ∧ IsTupleKey (mixKind P w) s.heap k b ∧ B b k)
    (hin1 : ∀ k ∈ ks1, ∃ b, (tupleKeyHash (mixKind P w) k, .ref b) ∈ es1.toList ∧ IsTupleKey (mixKind P w) s.heap k b) (hpl1 : (∀ k ∈ ks1, ∃ x, Sum.inr x ∈ k) → t1.plain = false)
    (h : ∀ h', Heap.SameBut a s.heap h' → SetT P w B h' a ks1 → Q true { s with heap := h' }) :
    wpAny (model P w) A (do
      storeSet a es1 t1
      if (!false && t1.tooFull) = true then do
        setRelay a (SetTable.grown (n + 1))
        pure true
      else pure true) Q E s := by
  have hline : n + 1 ≤ sizeLine := Nat.le_trans (show n + 1 ≤ 10000 by omega) (by decide)
  have hp1 : t1.place.size = es1.size := by rw [hT1.len, Array.size_map]
  refine wpAny_bind (wpAny_storeSet_of ho hd ?_ (by omega))
  have ho1 : (s.heap.update a (Obj.putSet es1 t1)).get? a = some { o with data := .set es1 (ep + 1) t1 } := by
    have := Heap.get?_update_self (Obj.putSet es1 t1) ho (by rw [putSet_of es1 t1 hd]; rfl)
    rw [putSet_of es1 t1 hd] at this
    exact this
  have hsb1 := Heap.SameBut.update s.heap a (Obj.putSet es1 t1)
  generalize s.heap.update a (Obj.putSet es1 t1) = h1 at ho1 hsb1
  have hall2 : ∀ e ∈ es1.toList, ∃ b k, e = (tupleKeyHash (mixKind P w) k, .ref b) ∧ k ∈ ks1 ∧ IsTupleKey (mixKind P w) h1 k b ∧ B b k := fun e he => by
    obtain ⟨b, k, z1, z2, z3, z4⟩ := hall1 e he
    exact ⟨b, k, z1, z2, key_stay z3 ho hd hsb1, z4⟩
  have hin2 : ∀ k ∈ ks1, ∃ b, (tupleKeyHash (mixKind P w) k, .ref b) ∈ es1.toList ∧ IsTupleKey (mixKind P w) h1 k b := fun k hk => by
    obtain ⟨b, z1, z2⟩ := hin1 k hk
    exact ⟨b, z1, key_stay z2 ho hd hsb1⟩
  have hfill : t1.fill = n + 1 := by
    unfold SetTable.fill
    rw [hdm1, hp1, hs1]
    rfl
  by_cases hq : t1.tooFull = true
  · rw [hq]
    simp only [Bool.not_false, Bool.and_self, if_true]
    have hq' : t1.mask * 3 ≤ (n + 1) * 5 := by
      unfold SetTable.tooFull at hq
      rw [hfill] at hq
      simpa using hq
    obtain ⟨m, hm, hw, hmn, hlt⟩ : ∃ m, Tb.Mask m ∧ SetTable.sizeAbove (SetTable.grown (n + 1)) - 1 = m ∧ n + 1 ≤ m ∧ (n + 1) * 5 < m * 3 ∧ SetTable.sizeAbove (SetTable.grown (n + 1)) ≤ sizeLine := by
      have hg : SetTable.grown (n + 1) = (n + 1) * 4 := by
        unfold SetTable.grown
        rw [if_neg (by omega)]
      rw [hg]
      rcases hm1 with e | e | e | e | e | e <;> rw [e] at hfull hq'
      · obtain rfl : n = 4 := by omega
        exact ⟨31, .inr (.inl rfl), Tb.above20, by omega, by omega, by decide +kernel⟩
      · obtain rfl : n = 18 := by omega
        exact ⟨127, .inr (.inr (.inl rfl)), Tb.above76, by omega, by omega, by decide +kernel⟩
      · obtain rfl : n = 76 := by omega
        exact ⟨511, .inr (.inr (.inr (.inl rfl))), Tb.above308, by omega, by omega, by decide +kernel⟩
      · obtain rfl : n = 306 := by omega
        exact ⟨2047, .inr (.inr (.inr (.inr (.inl rfl)))), Tb.above1228, by omega, by omega, by decide +kernel⟩
      · obtain rfl : n = 1228 := by omega
        exact ⟨8191, .inr (.inr (.inr (.inr (.inr rfl)))), Tb.above4916, by omega, by omega, by decide +kernel⟩
      · omega
    have hfit1 : t1.fits es1.size = true := by
      simp only [SetTable.fits, Bool.and_eq_true, beq_iff_eq, decide_eq_true_eq]
      refine ⟨hp1, ?_⟩
      rw [hfill]
      rcases hm1 with e | e | e | e | e | e <;> omega
    obtain ⟨t2, order, hrel, hp2, hd2, hm2, hperm, _, hpl2, hT2⟩ := Tb.relaid_ok2 t1 (es := es1) hm hw (by omega)
    obtain ⟨r1, r2⟩ := reorder_ok hperm
    have r3 := reorder_perm hperm
    refine wpAny_bind ?_
    unfold setRelay
    refine wpAny_bind (wpAny_setState_of (s := { s with heap := h1 }) ho1 rfl hfit1 ?_)
    dsimp only
    rw [if_neg (Nat.not_lt.mpr hlt.2), hrel]
    refine wpAny_bind ?_
    show wpAny _ _ (do
      if (order.filterMap (es1[·]?)).size != es1.size then unsupported "internal:set-table-lost-an-element"
      pure (order.filterMap (es1[·]?), t2)) _ _ _
    rw [r1]
    simp only [bne_self_eq_false, Bool.false_eq_true, if_false]
    refine wpAny_pure ?_
    dsimp only
    refine wpAny_storeSet_of (s := { s with heap := h1 }) ho1 rfl ?_ (by rw [r1]; omega)
    have ho2 : (h1.update a (Obj.putSet (order.filterMap (es1[·]?)) t2)).get? a = some { o with data := .set (order.filterMap (es1[·]?)) (ep + 1 + 1) t2 } := by
      have := Heap.get?_update_self (Obj.putSet (order.filterMap (es1[·]?)) t2) ho1 (by rw [putSet_of _ _ (o := { o with data := .set es1 (ep + 1) t1 }) rfl]; rfl)
      rw [putSet_of _ _ (o := { o with data := .set es1 (ep + 1) t1 }) rfl] at this
      exact this
    have hsb2 := Heap.SameBut.update h1 a (Obj.putSet (order.filterMap (es1[·]?)) t2)
    refine wpAny_pure (h _ (hsb1.trans hsb2) ⟨hnd, _, _, _, t2, ho2, hex, rfl, hd2, by rw [hm2]; exact hm, by rw [r1, hm2, hs1]; exact hlt.1, by rw [r1, hs1, hlen], by rw [hm2]; exact hT2, fun e he => ?_, fun k hk => ?_, fun hx => .inr (hpl2.trans (hpl1 hx))⟩)
    · obtain ⟨b, k, z1, z2, z3, z4⟩ := hall2 e (r2 e he)
      exact ⟨b, k, z1, z2, key_stay z3 ho1 rfl hsb2, z4⟩
    · obtain ⟨b, z1, z2⟩ := hin2 k hk
      exact ⟨b, r3.mem_iff.mpr z1, key_stay z2 ho1 rfl hsb2⟩
  · have hq0 : t1.tooFull = false := by simpa using hq
    rw [hq0]
    simp only [Bool.and_false, Bool.false_eq_true, if_false]
    have hq' : (n + 1) * 5 < t1.mask * 3 := by
      unfold SetTable.tooFull at hq0
      rw [hfill] at hq0
      simpa using hq0
    exact wpAny_pure (h h1 hsb1 ⟨hnd, _, es1, _, t1, ho1, hex, rfl, hdm1, hm1, by rw [hs1]; exact hq', by rw [hs1, hlen], hT1, hall2, hin2, fun hx => .inr (hpl1 hx)⟩)
theorem ins_mem {α : Type} {xs : Array α} {p : Nat} {x e : α} (h : e = x ∨ e ∈ xs.toList) : e ∈ (SetTable.insertAt xs p x).toList := by
  rw [Tb.insertAt_list]
  rcases h with rfl | h
  · exact List.mem_append_right _ List.mem_cons_self
  · rw [← List.take_append_drop p xs.toList] at h
    rcases List.mem_append.mp h with a | a
    · exact List.mem_append_left _ a
    · exact List.mem_append_right _ (List.mem_cons_of_mem _ a)
theorem ins_map {α β : Type} (f : α → β) (xs : Array α) (p : Nat) (x : α) : (SetTable.insertAt xs p x).map f = SetTable.insertAt (xs.map f) p (f x) := by
  apply Array.toList_inj.mp
  rw [Array.toList_map, Tb.insertAt_list, Tb.insertAt_list, Array.toList_map]
  simp
theorem add_ok {B : Addr → List Key → Prop} {a b : Addr} {k : List Key} {ks : List (List Key)} {Q : Bool → Shared → Prop} (hu : A.units < cLine) (hk : IsTupleKey (mixKind P w) s.heap k b) (hB : B b k) (hS : SetT P w B s.heap a ks) (hsz : ks.length < 1400)
    (h : ∀ h' r ks', Heap.SameBut a s.heap h' → SetT P w B h' a ks' → ks'.length ≤ ks.length + 1 → (∀ x, x ∈ ks' ↔ x ∈ ks ∨ x = k) → Q r { s with heap := h' }) : wpAny (model P w) A (setAddHashed a (.ref b) (tupleKeyHash (mixKind P w) k)) Q E s := by
  obtain ⟨hnd, o, es, ep, t, ho, hex, hd, hdm, hm, hfull, hlen, hT, hall, hin, hpl⟩ := id hS
  have hp : t.place.size = es.size := by rw [hT.len, Array.size_map]
  have hle : es.size ≤ t.mask := by omega
  have hf : t.fits es.size = true := by
    simp only [SetTable.fits, Bool.and_eq_true, beq_iff_eq, decide_eq_true_eq]
    refine ⟨hp, ?_⟩
    unfold SetTable.fill
    rw [hdm, hp]
    simpa using hle
  have hturn : 10 * SetTable.turns t.mask < 100000 := by
    unfold SetTable.turns
    rcases hm with e | e | e | e | e | e <;> rw [e] <;> decide
  have hst : ∀ x, (Tb.adv t x (Option.getD none (t.probeStart (tupleKeyHash (mixKind P w) k)))).j = Tb.pm t.mask (tupleKeyHash (mixKind P w) k) x := fun x => Tb.pm_of t _ x
  unfold setAddHashed setAddHashedIn
  refine wpAny_holding (wpAny_bind (wpAny_setState_of ho hd hf ?_))
  dsimp only
  have hsc : byScan (.ref b) es = false := rfl
  rw [hsc]
  simp only [Bool.false_eq_true, if_false]
  unfold setSearch
  rcases Classical.em (k ∈ ks) with hold | hold
  · obtain ⟨b0, hb0, hkb0⟩ := hin k hold
    obtain ⟨i0, hi0⟩ := List.getElem?_of_mem hb0
    rw [Array.getElem?_toList] at hi0
    have hi0s := (Array.getElem?_eq_some_iff.mp hi0).1
    obtain ⟨j0, hj0⟩ : ∃ j0, t.place[i0]? = some j0 := ⟨_, getElem?_pos t.place i0 (by omega)⟩
    obtain ⟨K, q1, q2, q3⟩ := hT.rch i0 j0 (tupleKeyHash (mixKind P w) k) hj0 (by rw [Array.getElem?_map, hi0]; rfl)
    refine wpAny_bind (search_old hu hk ho hd hf hm hdm (fun e he => ?_) ⟨b0, hi0, hkb0⟩ ?_ K 100000 none (by omega) q1 rfl (fun x hx => ?_) ?_)
    · obtain ⟨b', k', e1, _, e3, _⟩ := hall e he
      exact ⟨b', k', by rw [e1], e3⟩
    · dsimp only
      refine wpAny_pure ?_
      have e : s = { s with heap := s.heap } := by cases s; rfl
      rw [e]
      exact h s.heap _ ks (Heap.SameBut.refl a s.heap) hS (Nat.le_succ _) fun x => ⟨.inl, fun z => z.elim id fun e => e ▸ hold⟩
    · rw [hst]
      obtain ⟨i, e, _⟩ := Tb.mem_live hT.inc (q3 x hx)
      rw [e]
      intro z
      cases z
    · rw [hst, q2]
      exact Tb.slot_mem hT.inc hj0
  · obtain ⟨K, q1, q2, q3⟩ := Tb.first_free hdm hm (by rw [hp]; exact hle) (tupleKeyHash (mixKind P w) k)
    have hall' : ∀ e ∈ es.toList, ∃ b' k', e.2 = .ref b' ∧ IsTupleKey (mixKind P w) s.heap k' b' ∧ k' ≠ k := fun e he => by
      obtain ⟨b', k', h1, h2, h3, _⟩ := hall e he
      exact ⟨b', k', by rw [h1], h3, fun z => hold (z ▸ h2)⟩
    refine wpAny_bind (search_new hu hk ho hd hf hm hdm hall' K 100000 none (by omega) q1 rfl (fun x hx => by rw [hst]; exact q3 x hx) (by rw [hst]; exact q2) ?_)
    rw [hst]
    dsimp only
    refine wpAny_bind (wpAny_setState_of ho hd hf ?_)
    dsimp only
    have hnm := Tb.empty_not_mem hT.inc q2
    have hTp := hT.put q1 hnm (fun x hx => Tb.nonempty_mem hdm (q3 x hx))
    have hput : (t.put (Tb.pm t.mask (tupleKeyHash (mixKind P w) k) K)).1.dummies = #[] := by
      show (if SetTable.has t.dummies _ = true then _ else t.dummies) = #[]
      rw [hdm, Tb.has_nil]
      rfl
    generalize Tb.pm t.mask (tupleKeyHash (mixKind P w) k) K = j at hTp hput
    have hT1 : Tb.TOk t.mask (t.put j).1.place ((SetTable.insertAt es (t.put j).2 (tupleKeyHash (mixKind P w) k, Value.ref b)).map (·.1)) := by
      rw [ins_map]
      exact hTp
    have hins : ∀ e ∈ (SetTable.insertAt es (t.put j).2 (tupleKeyHash (mixKind P w) k, Value.ref b)).toList, ∃ b' k', e = (tupleKeyHash (mixKind P w) k', .ref b') ∧ k' ∈ k :: ks ∧ IsTupleKey (mixKind P w) s.heap k' b' ∧ B b' k' := fun e he => by
      rcases Tb.insertAt_mem he with rfl | he
      · exact ⟨b, k, rfl, List.mem_cons_self, hk, hB⟩
      · obtain ⟨b', k', z1, z2, z3, z4⟩ := hall e he
        exact ⟨b', k', z1, List.mem_cons_of_mem _ z2, z3, z4⟩
    have hin' : ∀ k' ∈ k :: ks, ∃ b', (tupleKeyHash (mixKind P w) k', Value.ref b') ∈ (SetTable.insertAt es (t.put j).2 (tupleKeyHash (mixKind P w) k, Value.ref b)).toList ∧ IsTupleKey (mixKind P w) s.heap k' b' := fun k' hk' => by
      rcases List.mem_cons.mp hk' with rfl | hk'
      · exact ⟨b, ins_mem (.inl rfl), hk⟩
      · obtain ⟨b', z1, z2⟩ := hin k' hk'
        exact ⟨b', ins_mem (.inr z1), z2⟩
    have hnd' : (k :: ks).Nodup := List.nodup_cons.mpr ⟨hold, hnd⟩
    have h' : ∀ h', Heap.SameBut a s.heap h' → SetT P w B h' a (k :: ks) → Q true { s with heap := h' } := fun h2 sb hS' => h h2 true _ sb hS' (Nat.le_refl _) fun x => by rw [List.mem_cons]; exact ⟨fun z => z.symm, fun z => z.symm⟩
    have fin : ∀ c : Bool, ((∀ k' ∈ k :: ks, ∃ x, Sum.inr x ∈ k') → (t.put j).1.plain = false ∨ c = false) → wpAny (model P w) A (do
        storeSet a (SetTable.insertAt es (t.put j).2 (tupleKeyHash (mixKind P w) k, Value.ref b)) (if c = true then (t.put j).1 else { (t.put j).1 with plain := false })
        if (!false && (if c = true then (t.put j).1 else { (t.put j).1 with plain := false }).tooFull) = true then do
          setRelay a (SetTable.grown (es.size + 1))
          pure true
        else pure true) Q E s := fun c hcp => by
      refine add_tail (ks1 := k :: ks) hnd' ho hex hd (Tb.insertAt_size _ _ _) ?_ ?_ ?_ (by omega) (by rw [List.length_cons, hlen]) ?_ hins hin' ?_ h'
      · cases c <;> exact hput
      · cases c <;> exact hm
      · cases c <;> exact hfull
      · cases c <;> exact hT1
      · intro hx
        cases c
        · rfl
        · rcases hcp hx with z | z
          · exact z
          · cases z
    cases hpl' : (t.put j).1.plain
    · simp only [Bool.false_eq_true, if_false]
      exact wpAny_bind (wpAny_pure (fin true fun _ => .inl hpl'))
    · simp only [if_true]
      rcases Classical.em (∃ x, Sum.inr x ∈ k) with ⟨x, hx⟩ | hx
      · exact wpAny_bind (hashBy_str hk hx (fin false fun _ => .inr rfl))
      · exact wpAny_bind (hashBy_tuple hk fun c => fin c fun hall => absurd (hall k List.mem_cons_self) hx)
end
section
variable {P : Program} {w : World} {A : Around} {I : Addr} {fp wr : List Addr} {G : Array GenState → Array GenState → Prop} {n : Nat} {Pz : Nat → Value → Prop} {St : Nat → Shared → Prop}
theorem SetT.moved {B : Addr → List Key → Prop} {h h' : Heap} {a : Addr} {ks : List (List Key)} {wr : List Addr} (hS : SetT P w B h a ks) (hk : ∀ b o, b ∉ wr → h.get? b = some o → h'.get? b = some o) (ha : a ∉ wr) (hw : ∀ b ∈ wr, ∀ o, h.get? b = some o → ∃ vs, o.data = .fields vs) : SetT P w B h' a ks := by
  obtain ⟨hnd, o, es, ep, t, ho, hex, hd, h1, h2, h3, h4, h5, hall, hin, hpl⟩ := hS
  have mv : ∀ k b, IsTupleKey (mixKind P w) h k b → IsTupleKey (mixKind P w) h' k b := fun k b ⟨o', items, m, ho', hc, hd', hi⟩ => ⟨o', items, m, hk b o' (fun hb => by
      obtain ⟨vs, hv⟩ := hw b hb o' ho'
      rw [hd'] at hv
      cases hv) ho', hc, hd', hi⟩
  refine ⟨hnd, o, es, ep, t, hk a o ha ho, hex, hd, h1, h2, h3, h4, h5, fun e he => ?_, fun k hk => ?_, hpl⟩
  · obtain ⟨b, k, z1, z2, z3, z4⟩ := hall e he
    exact ⟨b, k, z1, z2, mv k b z3, z4⟩
  · obtain ⟨b, z1, z2⟩ := hin k hk
    exact ⟨b, z1, mv k b z2⟩
theorem set_loop {B : Addr → List Key → Prop} (W : WalksS P w A.in1 I fp wr G n Pz St) (S : Addr) (hS : S ∉ fp) (hu : A.in1.units < cLine) (bs : List Addr) (kk : List (List Key)) (hnk : kk.length = n) (hBk : ∀ (j : Nat) b k, bs[j]? = some b → kk[j]? = some k → B b k) (hsz : n < 1400)
    (hval : ∀ i v, Pz i v → ∃ b, v = .ref b ∧ bs[i]? = some b) (hwr : ∀ i s, St i s → ∀ b ∈ wr, ∀ o, s.heap.get? b = some o → ∃ vs, o.data = .fields vs) {R : Result → Shared → Prop} :
    ∀ (m i : Nat) (s : Shared) (D : List (List Key)), n - i = m → i ≤ n → St i s → SetT P w B s.heap S D → D.length ≤ i → (∀ k, k ∈ D ↔ k ∈ kk.take i) → (∀ (j : Nat) (b : Addr) (k : List Key), bs[j]? = some b → kk[j]? = some k → IsTupleKey (mixKind P w) s.heap k b) →
      (∀ s' D, Moved (S :: wr) G s s' → SetT P w B s'.heap S D → (∀ k, k ∈ D ↔ k ∈ kk) → R (.ok (.ret .none)) s') →
      codeAny (model P w) A (.builtin "set.update.loop" ⟨[.ref S, .ref I], []⟩) R s := by
  have hSw : S ∉ wr := fun z => hS (W.sub _ z)
  have more : ∀ b ∈ wr, b ∈ S :: wr := fun b z => List.mem_cons_of_mem _ z
  intro m
  induction m with
  | zero =>
    intro i s D hm hi hst hset _ hD hkeys hR
    obtain rfl : i = n := by omega
    refine codeAny_builtin F.entry_set_update_loop ?_
    rw [Around.under_plainId F.plain_set_update_loop _]
    show wpAny _ A.in1 (pyNext (.ref I) >>= _) _ _ s
    refine wpAny_bind (W.done s _ _ hst fun s' mv => ?_)
    rw [← hnk, List.take_length] at hD
    exact wpAny_pure (hR s' D (mv.mono more) (hset.moved mv.heap hSw (hwr _ s hst)) hD)
  | succ m ih =>
    intro i s D hm hi hst hset hDl hD hkeys hR
    have hlt : i < n := by omega
    refine codeAny_builtin F.entry_set_update_loop ?_
    rw [Around.under_plainId F.plain_set_update_loop _]
    show wpAny _ A.in1 (pyNext (.ref I) >>= _) _ _ s
    refine wpAny_bind (W.item i s _ _ hlt hst fun v s' hP hst' mv => ?_)
    obtain ⟨b, rfl, hb⟩ := hval i v hP
    have hki : kk[i]? = some kk[i] := List.getElem?_eq_getElem (by omega)
    have hset' := hset.moved mv.heap hSw (hwr _ s hst)
    have hkeys' : ∀ (j : Nat) (b : Addr) (k : List Key), bs[j]? = some b → kk[j]? = some k → IsTupleKey (mixKind P w) s'.heap k b := fun j b k e1 e2 => by
      obtain ⟨o', items, q, ho', hc, hd', hi'⟩ := hkeys j b k e1 e2
      refine ⟨o', items, q, mv.heap b o' (fun hbw => ?_) ho', hc, hd', hi'⟩
      obtain ⟨vs, hv⟩ := hwr _ s hst b hbw o' ho'
      rw [hd'] at hv
      cases hv
    show wpAny _ A.in1 (holding [Value.ref b] (setAdd S (.ref b)) >>= _) _ _ s'
    refine wpAny_bind (wpAny_holding ?_)
    unfold setAdd
    refine wpAny_holding (wpAny_bind (wpAny_pyHash_tuple hu (hkeys' i b _ hb hki) ?_))
    refine add_ok (s := { s' with toks := s'.toks + (kk[i].length + 1) }) hu (hkeys' i b _ hb hki) (hBk i b _ hb hki) hset' (by omega) fun h' r D1 sb hset2 hD1l hD1 => ?_
    have htk : ∀ k, k ∈ D1 ↔ k ∈ kk.take (i + 1) := fun k => by
      rw [hD1, hD k, List.take_add_one, hki, List.mem_append]
      simp
    obtain ⟨_, oS, esS, epS, tS, hoS, _, hdS, _⟩ := id hset'
    refine wpAny_pure ⟨plainId_quiet F.plain_set_update_loop _, ih (i + 1) _ _ (by omega) hlt (W.frame _ s' _ _ hst' (Nat.le_add_right _ _) fun c hc o e => ?_) hset2 (by omega) htk (fun j c k e1 e2 => key_stay (hkeys' j c k e1 e2) hoS hdS sb) fun s'' D2 mv2 hS2 => ?_⟩
    · rw [sb.2 c (fun z : c = S => hS (z ▸ hc))]
      exact e
    · refine hR s'' D2 (Moved.trans W.gtrans ((mv.mono more).then_heap (Nat.le_add_right _ _) fun c o hc e => ?_) mv2) hS2
      rw [sb.2 c (fun z : c = S => hc (by rw [z]; exact List.mem_cons_self))]
      exact e
end
end L2
set_option Elab.async false
set_option linter.all false
set_option maxRecDepth 100000
set_option maxHeartbeats 4000000
namespace L2
open PySem PySem.Spec PyProof.Rows
section
variable {P : Program} {w : World} {A : Around} {E : Value → Shared → Prop} {s : Shared}
noncomputable abbrev setO (led : Bool) : Obj := { cls := .type "set", dict := none, data := .set #[] 0 (.fresh 0 0 led) }
noncomputable def SetMade (P : Program) (w : World) (s : Shared) (bs : List Addr) (kk D : List (List Key)) (h' : Heap) : Prop :=
  SetT P w (fun b k => ∃ j : Nat, bs[j]? = some b ∧ kk[j]? = some k) h' s.heap.objs.size D ∧ (∀ k, k ∈ D ↔ k ∈ kk) ∧ ∀ b o, b < s.heap.objs.size → s.heap.get? b = some o → h'.get? b = some o
theorem sub_tup_fz : isSubtype (.type "tuple") (.type "frozenset") = pure false := by
  rw [isSubtype_type]
  kernel_rfl
theorem set_of_tuple {t : Addr} {ys : Array Value} {bs : List Addr} {kk : List (List Key)} {Q : Value → Shared → Prop} (hA : A.handled = none) (hu : A.units + 5 < cLine) (gt : s.heap.IsTuple t ys) (hb : ys.toList = bs.map Value.ref)
    (hn : kk.length = ys.size) (hz : ys.size < 1400) (hkey : ∀ (j : Nat) (b : Addr) (k : List Key), bs[j]? = some b → kk[j]? = some k → IsTupleKey (mixKind P w) s.heap k b)
    (h : ∀ (h' : Heap) (tk : Nat) (D : List (List Key)), SetMade P w s bs kk D h' → Q (.ref s.heap.objs.size) { s with heap := h', toks := tk }) : wpAny (model P w) A (call (.type "set") [.ref t]) Q E s := by
  have x1 := F.called_set.notType
  have x2 := F.called_set.canCreate
  have x3 := F.typeCall_set_1 (.ref t)
  have x4 := F.called_set.made
  have x5 := F.called_set.sub
  obtain ⟨c, tl, x6⟩ := F.called_set.mro
  refine wpAny_call (codeAny_of_tree ?_)
  show wpAny _ _ (callAny (.type "set") _) _ _ _
  refine wpAny_pure ⟨Code.quiet_builtin _ (by decide +kernel), codeAny_builtin F.entry_type_call ?_⟩
  rw [Around.under_plain (weight_type_call_type "set" [.ref t] []) rfl]
  repeat (any_goals (first | assumption | wp_step))
  refine codeAny_mono (code_set_new_1 (.ref t) (E := E) (Q₁ := fun v s1 => ∃ led, v = .ref s.heap.objs.size ∧ s1 = { s with heap := s.heap.push (setO led) }) fun led => ⟨led, rfl, rfl⟩) fun r s1 hr => ?_
  cases r with
  | error e => exact hr
  | ok fl =>
    cases fl with
    | ret v =>
      obtain ⟨led, rfl, rfl⟩ := hr
      have gS : (s.heap.push (setO led)).get? s.heap.objs.size = some (setO led) := Heap.get?_push_size _ rfl
      have hT : Shared.TypeIs { s with heap := s.heap.push (setO led) } (.ref s.heap.objs.size) "set" := ⟨_, gS, rfl⟩
      have x7 := F.called_set.init.lookup
      have x8 := F.called_set.init.bind (.ref s.heap.objs.size)
      repeat (any_goals (first | assumption | wp_step))
      refine codeAny_mono (codeAny_call_builtin (R := wants (fun r s2 => r = .none ∧ ∃ h' tk D, s2 = { s with heap := h', toks := tk } ∧ SetMade P w s bs kk D h') E) F.called_set.init.plain F.entry_set_init (check_set_init_1 hT ?_)) fun r2 s2 hr2 => ?_
      · have g1 : (s.heap.push (setO led)).IsTuple t ys := gt.push _
        have hlt : t < s.heap.objs.size := by
          obtain ⟨o, ho, _⟩ := gt
          exact Heap.lt_size ho
        obtain ⟨ol, hol, hcl, nl, hdl⟩ := id g1
        obtain ⟨c0, d0, dt, sl⟩ := ol
        simp only at hcl hdl
        subst hcl hdl
        have y1 := F.sub_tuple_set
        have y2 := sub_tup_fz
        have y3 : (Value.type "tuple" == Value.type "dict") = false := by decide
        unfold Builtin.«set.__init__» noKeywords Builtin.Frozenset.updateFrom
        generalize hit : pyIter = PI
        wp_walk
        subst hit
        refine wpAny_pyIter_tuple g1 ?_
        refine wpAny_bind (wpAny_runValue ?_)
        have e1 : (s.heap.push (setO led)).objs.size = s.heap.objs.size + 1 := Heap.size_push _ _
        have hA3 : A.in1.in1.in1.handled = none := by simp [hA]
        have hne : t ≠ (s.heap.push (setO led)).objs.size := by
          rw [e1]
          exact Nat.ne_of_lt (Nat.lt_succ_of_lt hlt)
        have hSf : s.heap.objs.size ∉ [(s.heap.push (setO led)).objs.size, t] := by
          intro z
          rcases List.mem_cons.mp z with z | z
          · rw [e1] at z
            exact Nat.ne_of_lt (Nat.lt_succ_self _) z
          · exact Nat.ne_of_gt hlt (List.mem_singleton.mp z)
        have hbs : ∀ i : Nat, ys[i]? = (bs[i]?).map Value.ref := fun i => by
          rw [← Array.getElem?_toList, hb, List.getElem?_map]
        refine set_loop (B := fun b k => ∃ j : Nat, bs[j]? = some b ∧ kk[j]? = some k) ((Walks.tuple hA3 _ t hne ys).toS) s.heap.objs.size hSf (by simp only [Around.in1_units]; omega) bs kk hn (fun j b k q1 q2 => ⟨j, q1, q2⟩) hz (fun i v hv => ?_) (fun i s' hs b hb' o ho => ?_) (ys.size - 0) 0 _ [] (by omega) (Nat.zero_le _) ⟨⟨_, Heap.get?_push_size _ rfl, rfl, rfl⟩, g1.push _⟩ ⟨List.nodup_nil, setO led, #[], 0, _, Heap.get?_push_of_some _ gS, ⟨rfl, rfl, rfl⟩, rfl, rfl, .inl rfl, (show 0 * 5 < 7 * 3 by decide), rfl, (by rw [Array.map_empty]; exact Tb.TOk.nil 7), fun e he => (by simp at he), fun k hk => (by cases hk), fun _ => .inl rfl⟩ (Nat.le_refl _) (fun k => by simp) (fun j b k e1 e2 => ?_) fun s' D mv hS' hD => ?_
        · have hv' : ys[i]? = some v := hv
          rw [hbs i] at hv'
          obtain ⟨b, e, rfl⟩ := Option.map_eq_some_iff.mp hv'
          exact ⟨b, rfl, e⟩
        · cases List.mem_singleton.mp hb'
          obtain ⟨o', ho', _, hd'⟩ := hs.1
          rw [ho'] at ho
          cases ho
          exact ⟨_, hd'⟩
        · obtain ⟨o, items, q, ho, r⟩ := hkey j b k e1 e2
          exact ⟨o, items, q, Heap.get?_push_of_some _ (Heap.get?_push_of_some _ ho), r⟩
        · obtain ⟨h', g', d', tk', os'⟩ := s'
          have q1 : g' = s.gens := mv.gens
          have q2 : d' = s.drawn := mv.drawn
          have q3 : os' = s.os := mv.os
          subst q1 q2 q3
          show wpAny _ _ _ _ _ _
          refine wpAny_pure ?_
          show wpAny _ _ (ret Value.none) _ _ _
          refine wpAny_pure ⟨rfl, h', tk', D, rfl, hS', hD, fun b o hb e => mv.heap b o (fun z => ?_) (Heap.get?_push_of_some _ (Heap.get?_push_of_some _ e))⟩
          rcases List.mem_cons.mp z with z | z
          · exact Nat.ne_of_lt hb z
          · have z := List.mem_singleton.mp z
            rw [e1] at z
            exact Nat.ne_of_lt (Nat.lt_succ_of_lt hb) z
      · cases r2 with
        | error e => exact hr2
        | ok f2 =>
          cases f2 with
          | ret r =>
            obtain ⟨rfl, h', tk, D, rfl, hS'⟩ := hr2
            repeat (any_goals (first | assumption | wp_step))
            exact h _ _ D hS'
          | _ => exact hr2.elim
    | _ => exact hr.elim
theorem set_of_list {t : Addr} {ys : Array Value} {bs : List Addr} {kk : List (List Key)} {Q : Value → Shared → Prop} (hA : A.handled = none) (hu : A.units + 5 < cLine) (gt : s.heap.IsList t ys) (hb : ys.toList = bs.map Value.ref)
    (hn : kk.length = ys.size) (hz : ys.size < 1400) (hkey : ∀ (j : Nat) (b : Addr) (k : List Key), bs[j]? = some b → kk[j]? = some k → IsTupleKey (mixKind P w) s.heap k b)
    (h : ∀ (h' : Heap) (tk : Nat) (D : List (List Key)), SetMade P w s bs kk D h' → Q (.ref s.heap.objs.size) { s with heap := h', toks := tk }) : wpAny (model P w) A (call (.type "set") [.ref t]) Q E s := by
  have x1 := F.called_set.notType
  have x2 := F.called_set.canCreate
  have x3 := F.typeCall_set_1 (.ref t)
  have x4 := F.called_set.made
  have x5 := F.called_set.sub
  obtain ⟨c, tl, x6⟩ := F.called_set.mro
  refine wpAny_call (codeAny_of_tree ?_)
  show wpAny _ _ (callAny (.type "set") _) _ _ _
  refine wpAny_pure ⟨Code.quiet_builtin _ (by decide +kernel), codeAny_builtin F.entry_type_call ?_⟩
  rw [Around.under_plain (weight_type_call_type "set" [.ref t] []) rfl]
  repeat (any_goals (first | assumption | wp_step))
  refine codeAny_mono (code_set_new_1 (.ref t) (E := E) (Q₁ := fun v s1 => ∃ led, v = .ref s.heap.objs.size ∧ s1 = { s with heap := s.heap.push (setO led) }) fun led => ⟨led, rfl, rfl⟩) fun r s1 hr => ?_
  cases r with
  | error e => exact hr
  | ok fl =>
    cases fl with
    | ret v =>
      obtain ⟨led, rfl, rfl⟩ := hr
      have gS : (s.heap.push (setO led)).get? s.heap.objs.size = some (setO led) := Heap.get?_push_size _ rfl
      have hT : Shared.TypeIs { s with heap := s.heap.push (setO led) } (.ref s.heap.objs.size) "set" := ⟨_, gS, rfl⟩
      have x7 := F.called_set.init.lookup
      have x8 := F.called_set.init.bind (.ref s.heap.objs.size)
      repeat (any_goals (first | assumption | wp_step))
      refine codeAny_mono (codeAny_call_builtin (R := wants (fun r s2 => r = .none ∧ ∃ h' tk D, s2 = { s with heap := h', toks := tk } ∧ SetMade P w s bs kk D h') E) F.called_set.init.plain F.entry_set_init (check_set_init_1 hT ?_)) fun r2 s2 hr2 => ?_
      · have g1 : (s.heap.push (setO led)).IsList t ys := gt.push _
        have hlt : t < s.heap.objs.size := by
          obtain ⟨o, ho, _⟩ := gt
          exact Heap.lt_size ho
        obtain ⟨ol, hol, hcl, nl, hdl⟩ := id g1
        obtain ⟨c0, d0, dt, sl⟩ := ol
        simp only at hcl hdl
        subst hcl hdl
        have y1 := F.sub_list_set
        have y2 := F.sub_list_frozenset
        have y3 : (Value.type "list" == Value.type "dict") = false := by decide
        unfold Builtin.«set.__init__» noKeywords Builtin.Frozenset.updateFrom
        generalize hit : pyIter = PI
        wp_walk
        subst hit
        refine wpAny_pyIter_list g1 ?_
        refine wpAny_bind (wpAny_runValue ?_)
        have e1 : (s.heap.push (setO led)).objs.size = s.heap.objs.size + 1 := Heap.size_push _ _
        have hA3 : A.in1.in1.in1.handled = none := by simp [hA]
        have hne : t ≠ (s.heap.push (setO led)).objs.size := by
          rw [e1]
          exact Nat.ne_of_lt (Nat.lt_succ_of_lt hlt)
        have hSf : s.heap.objs.size ∉ [(s.heap.push (setO led)).objs.size, t] := by
          intro z
          rcases List.mem_cons.mp z with z | z
          · rw [e1] at z
            exact Nat.ne_of_lt (Nat.lt_succ_self _) z
          · exact Nat.ne_of_gt hlt (List.mem_singleton.mp z)
        have hbs : ∀ i : Nat, ys[i]? = (bs[i]?).map Value.ref := fun i => by
          rw [← Array.getElem?_toList, hb, List.getElem?_map]
        refine set_loop (B := fun b k => ∃ j : Nat, bs[j]? = some b ∧ kk[j]? = some k) ((Walks.list hA3 _ t hne ys).toS) s.heap.objs.size hSf (by simp only [Around.in1_units]; omega) bs kk hn (fun j b k q1 q2 => ⟨j, q1, q2⟩) hz (fun i v hv => ?_) (fun i s' hs b hb' o ho => ?_) (ys.size - 0) 0 _ [] (by omega) (Nat.zero_le _) ⟨⟨_, Heap.get?_push_size _ rfl, rfl, rfl⟩, g1.push _⟩ ⟨List.nodup_nil, setO led, #[], 0, _, Heap.get?_push_of_some _ gS, ⟨rfl, rfl, rfl⟩, rfl, rfl, .inl rfl, (show 0 * 5 < 7 * 3 by decide), rfl, (by rw [Array.map_empty]; exact Tb.TOk.nil 7), fun e he => (by simp at he), fun k hk => (by cases hk), fun _ => .inl rfl⟩ (Nat.le_refl _) (fun k => by simp) (fun j b k e1 e2 => ?_) fun s' D mv hS' hD => ?_
        · have hv' : ys[i]? = some v := hv
          rw [hbs i] at hv'
          obtain ⟨b, e, rfl⟩ := Option.map_eq_some_iff.mp hv'
          exact ⟨b, rfl, e⟩
        · cases List.mem_singleton.mp hb'
          obtain ⟨o', ho', _, hd'⟩ := hs.1
          rw [ho'] at ho
          cases ho
          exact ⟨_, hd'⟩
        · obtain ⟨o, items, q, ho, r⟩ := hkey j b k e1 e2
          exact ⟨o, items, q, Heap.get?_push_of_some _ (Heap.get?_push_of_some _ ho), r⟩
        · obtain ⟨h', g', d', tk', os'⟩ := s'
          have q1 : g' = s.gens := mv.gens
          have q2 : d' = s.drawn := mv.drawn
          have q3 : os' = s.os := mv.os
          subst q1 q2 q3
          show wpAny _ _ _ _ _ _
          refine wpAny_pure ?_
          show wpAny _ _ (ret Value.none) _ _ _
          refine wpAny_pure ⟨rfl, h', tk', D, rfl, hS', hD, fun b o hb e => mv.heap b o (fun z => ?_) (Heap.get?_push_of_some _ (Heap.get?_push_of_some _ e))⟩
          rcases List.mem_cons.mp z with z | z
          · exact Nat.ne_of_lt hb z
          · have z := List.mem_singleton.mp z
            rw [e1] at z
            exact Nat.ne_of_lt (Nat.lt_succ_of_lt hb) z
      · cases r2 with
        | error e => exact hr2
        | ok f2 =>
          cases f2 with
          | ret r =>
            obtain ⟨rfl, h', tk, D, rfl, hS'⟩ := hr2
            repeat (any_goals (first | assumption | wp_step))
            exact h _ _ D hS'
          | _ => exact hr2.elim
    | _ => exact hr.elim
end
end L2
set_option Elab.async false
set_option linter.all false
set_option maxRecDepth 100000
set_option maxHeartbeats 4000000
namespace L2
open PySem PySem.Spec PyProof.Rows
namespace SF
end SF
section
variable {P : Program} {w : World} {A : Around} {E : Value → Shared → Prop} {s : Shared}
end
end L2
set_option Elab.async false
set_option linter.all false
set_option maxRecDepth 100000
set_option maxHeartbeats 4000000
namespace L2
open PySem PySem.Spec PyProof.Rows
section
variable {P : Program} {w : World} {A : Around} {E : Value → Shared → Prop} {s : Shared}
end
end L2
set_option Elab.async false
set_option linter.all false
set_option maxRecDepth 100000
set_option maxHeartbeats 4000000
namespace PyProof.Rows
open PySem
section
variable {prog : Program} {w : World} {A : Around} {E : Value → Shared → Prop} {s : Shared} {κ : SortKind} {X : Keyed → Prop}
open Classical in
end
end PyProof.Rows
set_option Elab.async false
set_option linter.all false
set_option maxRecDepth 100000
set_option maxHeartbeats 4000000
namespace L2
open PySem PySem.Spec PyProof.Rows
section
variable {P : Program} {w : World} {A : Around} {E : Value → Shared → Prop} {s : Shared}
end
end L2
set_option Elab.async false
set_option linter.all false
set_option maxRecDepth 100000
set_option maxHeartbeats 4000000
namespace L2
open PySem PySem.Spec PyProof.Rows
section
variable {P : Program} {w : World} {A : Around} {E : Value → Shared → Prop} {s : Shared}
open Classical in
theorem perm_by {α : Type} {D ds : List α} (hd : D.Nodup) (hs : ∀ k ∈ D, k ∈ ds) (hl : ds.length = D.length) : ds.Perm D := by
  induction D generalizing ds with
  | nil =>
    rw [List.length_nil, List.length_eq_zero_iff] at hl
    subst hl
    exact .refl _
  | cons d D ih =>
    have hm := hs d List.mem_cons_self
    have p1 := List.perm_cons_erase hm
    have hd' := List.nodup_cons.mp hd
    refine p1.trans ((ih hd'.2 (fun k hk => ?_) ?_).cons d)
    · refine (List.mem_erase_of_ne ?_).mpr (hs k (List.mem_cons_of_mem _ hk))
      rintro rfl
      exact hd'.1 hk
    · rw [List.length_erase_of_mem hm, hl]
      rfl
theorem key_inj {h : Heap} {b : Addr} {k1 k2 : List Key} (h1 : IsTupleKey (mixKind P w) h k1 b) (h2 : IsTupleKey (mixKind P w) h k2 b) : k1 = k2 := by
  obtain ⟨o1, i1, n1, z1, _, z2, z3⟩ := h1
  obtain ⟨o2, i2, n2, y1, _, y2, y3⟩ := h2
  rw [z1] at y1
  cases y1
  rw [z2] at y2
  cases y2
  exact z3.inj y3
end
end L2
set_option Elab.async false
set_option linter.all false
set_option maxRecDepth 100000
set_option maxHeartbeats 4000000
namespace L2
open PySem PySem.Spec PyProof.Rows
noncomputable abbrev enS (P : Program) (w : World) (x : Addr × List Key) : Int × Value := (tupleKeyHash (mixKind P w) x.2, .ref x.1)
noncomputable def SetO (P : Program) (w : World) (h : Heap) (a : Addr) (L : List (Addr × List Key)) : Prop := ∃ o es ep t, h.get? a = some o ∧ o.ExactSet ∧ o.data = .set es ep t ∧ t.dummies = #[] ∧ Tb.Mask t.mask ∧ es.size * 5 < t.mask * 3 ∧ Tb.TOk t.mask t.place (es.map (·.1)) ∧ es.toList = L.map (enS P w) ∧ ((∀ x ∈ L, ∃ z, Sum.inr z ∈ x.2) → L = [] ∨ t.plain = false)
noncomputable def setK (P : Program) (w : World) (a : Addr) (L : List (Addr × List Key)) : HO := .ext fun h => SetO P w h a L
section
variable {P : Program} {w : World}
theorem part_zip {h : Heap} {B : Addr → List Key → Prop} {D : List (List Key)} : ∀ {es : List (Int × Value)}, (∀ e ∈ es, ∃ b k, e = (tupleKeyHash (mixKind P w) k, Value.ref b) ∧ k ∈ D ∧ IsTupleKey (mixKind P w) h k b ∧ B b k) → ∃ L : List (Addr × List Key), es = L.map (enS P w) ∧ ∀ x ∈ L, x.2 ∈ D ∧ IsTupleKey (mixKind P w) h x.2 x.1 ∧ B x.1 x.2
  | [], _ => ⟨[], rfl, fun x hx => by cases hx⟩
  | e :: es, hall => by
    obtain ⟨L, h1, h2⟩ := part_zip (es := es) fun x hx => hall x (List.mem_cons_of_mem _ hx)
    obtain ⟨b, k, rfl, hk, hkb, hBb⟩ := hall e List.mem_cons_self
    refine ⟨(b, k) :: L, by rw [h1]; rfl, fun x hx => ?_⟩
    rcases List.mem_cons.mp hx with rfl | hx
    · exact ⟨hk, hkb, hBb⟩
    · exact h2 x hx
theorem SetT.obj {B : Addr → List Key → Prop} {h : Heap} {a : Addr} {D : List (List Key)} (hS : SetT P w B h a D) : ∃ L, SetO P w h a L ∧ (L.map (·.2)).Perm D ∧ ∀ x ∈ L, B x.1 x.2 := by
  obtain ⟨hnd, o, es, ep, t, ho, hex, hd, hdm, hm, hfull, hlen, hT, hall, hin, hpl⟩ := hS
  obtain ⟨L, h1, h2⟩ := part_zip hall
  have hl : L.length = D.length := by
    rw [← hlen, ← Array.length_toList, h1, List.length_map]
  refine ⟨L, ⟨o, es, ep, t, ho, hex, hd, hdm, hm, hfull, hT, h1, fun hx => ?_⟩, perm_by hnd (fun k hk => ?_) (by rw [List.length_map, hl]), fun x hx => (h2 x hx).2.2⟩
  · have hx' : ∀ k ∈ D, ∃ z, Sum.inr z ∈ k := fun k hk => by
      obtain ⟨b, hb, hkb⟩ := hin k hk
      rw [h1] at hb
      obtain ⟨x, hx', e⟩ := List.mem_map.mp hb
      have e2 : Value.ref x.1 = Value.ref b := congrArg Prod.snd e
      cases e2
      rw [key_inj hkb (h2 x hx').2.1]
      exact hx x hx'
    rcases hpl hx' with e | e
    · subst e
      rw [List.length_nil, List.length_eq_zero_iff] at hl
      exact .inl hl
    · exact .inr e
  · obtain ⟨b, hb, hkb⟩ := hin k hk
    rw [h1] at hb
    obtain ⟨x, hx', e⟩ := List.mem_map.mp hb
    have e2 : Value.ref x.1 = Value.ref b := congrArg Prod.snd e
    cases e2
    rw [key_inj hkb (h2 x hx').2.1]
    exact List.mem_map.mpr ⟨x, hx', rfl⟩
theorem setK_ok {H : Hp} {h : Heap} {a : Addr} {L : List (Addr × List Key)} (S : SetO P w h a L) : ObjOk P w H h a (setK P w a L) := by
  refine ⟨S, ?_, fun h1 h2 z k => ?_⟩
  · obtain ⟨o, es, ep, t, ho, _⟩ := S
    exact ⟨o, ho⟩
  · obtain ⟨o', es', ep', t', ho', r⟩ := z
    exact ⟨o', es', ep', t', k _ ho', r⟩
end
section
variable {X : Cx} {pins : List (Addr × Obj)} {σ : St} {H : Hp} {s : Shared}
theorem vals_refK : ∀ {bs : List Addr} {us : List Value}, Vals (bs.map V.ref) us → us = bs.map Value.ref
  | [], _, .nil => rfl
  | b :: bs, _, .cons r t => by
    rw [List.map_cons, ← vals_refK (bs := bs) t]
    exact congrArg (· :: _) r
theorem tup_key (I : Inv X pins σ H s) {b : Addr} {k : List Key} (e : H b = some (.tup (k.map kV))) : IsTupleKey (mixKind X.prog X.w) s.heap k b := by
  obtain ⟨_, is, rk, o, ho, hc, n, hd⟩ := I.hok b _ e
  exact ⟨o, _, n, ho, hc, hd, items_are rk⟩
noncomputable def KeysAt (H : Hp) (bs : List Addr) (kk : List (List Key)) : Prop := bs.length = kk.length ∧ ∀ (j : Nat) (b : Addr) (k : List Key), bs[j]? = some b → kk[j]? = some k → H b = some (.tup (k.map kV))
theorem KeysAt.ext {H H' : Hp} {bs : List Addr} {kk : List (List Key)} (e : Ext H H') (h : KeysAt H bs kk) : KeysAt H' bs kk := ⟨h.1, fun j b k e1 e2 => e _ _ (h.2 j b k e1 e2)⟩
end
section
variable {X : Cx}
noncomputable def rSetD (P : Program) (w : World) : List V → Hp → VK → Prop := fun xs H Q => ∃ p bs kk, xs = [.ref p] ∧ (H p = some (.tup (bs.map V.ref)) ∨ H p = some (.lst (bs.map V.ref))) ∧ KeysAt H bs kk ∧ kk.length < 1400 ∧
  ∀ l L, H l = none → (L.map Prod.snd).Nodup → (∀ k, k ∈ L.map Prod.snd ↔ k ∈ kk) → (∀ x ∈ L, H x.1 = some (.tup (x.2.map kV))) → Q (.ref l) (upd H l (setK P w l L))
theorem call_setD {k : Nat} (hr : Room k X.A) : CallR X (.type "set") (rSetD X.prog X.w) := by
  intro pins s σ H xs us Q I r h
  obtain ⟨p, bs, kk, rfl, hp, ⟨h2, h3⟩, hz, q⟩ := h
  obtain ⟨u, rfl, rx⟩ := vals1 r
  cases rx
  have hu := hr.units
  have hA := hr.hd
  have keys : ∀ (j : Nat) (b : Addr) (k : List Key), bs[j]? = some b → kk[j]? = some k → IsTupleKey (mixKind X.prog X.w) s.heap k b := fun j b k e1 e2 => tup_key I (h3 j b k e1 e2)
  have fin : ∀ (h' : Heap) (tk : Nat) (D : List (List Key)), SetMade X.prog X.w s bs kk D h' → ∃ v H', Inv X pins σ H' { s with heap := h', toks := tk } ∧ RelV v (.ref s.heap.objs.size) ∧ Q v H' := fun h' tk D hm => by
    obtain ⟨hS, hD, hk⟩ := hm
    obtain ⟨L, hO, hLp, hLB⟩ := hS.obj
    have hfr := I.hok.fresh (Nat.le_refl _)
    refine ⟨.ref s.heap.objs.size, _, I.laid (t' := tk) (fun b o e => hk b o (Heap.lt_size e) e) (Nat.le_refl _) (setK_ok hO), rfl, q _ L hfr (hLp.nodup_iff.mpr hS.1) (fun k => (hLp.mem_iff.trans (hD k))) fun x hx => ?_⟩
    obtain ⟨j, e1, e2⟩ := hLB x hx
    exact h3 j _ _ e1 e2
  rcases hp with hp | hp
  · obtain ⟨_, its, rv, gt⟩ := I.hok p _ hp
    have ei := vals_refK rv
    subst ei
    refine set_of_tuple (kk := kk) (bs := bs) hA (by omega) (show s.heap.IsTuple p _ from gt) rfl (by simp [h2]) (by simp [h2]; exact hz) keys fin
  · obtain ⟨_, its, n, rv, gt⟩ := I.hok p _ hp
    have ei := vals_refK rv
    subst ei
    refine set_of_list (kk := kk) (bs := bs) hA (by omega) (show s.heap.IsList p _ from ⟨_, gt, rfl, n, rfl⟩) rfl (by simp [h2]) (by simp [h2]; exact hz) keys fin
noncomputable def rLenSD (P : Program) (w : World) : List V → Hp → VK → Prop := fun xs H Q => ∃ p L, xs = [.ref p] ∧ H p = some (setK P w p L) ∧ L.length < 1400 ∧ Q (.int L.length) H
theorem call_lenSD : CallR X (.builtin "len") (rLenSD X.prog X.w) := by
  intro pins s σ H xs us Q I r h
  obtain ⟨p, L, rfl, hp, hn, q⟩ := h
  obtain ⟨u, rfl, rx⟩ := vals1 r
  cases rx
  obtain ⟨⟨o, es, ep, t, ho, hex, hd, hdm, hm, hfull, hT, hel, _⟩, _⟩ := I.hok p _ hp
  have hpl : t.place.size = es.size := by rw [hT.len, Array.size_map]
  have hs : es.size = L.length := by rw [← Array.length_toList, hel, List.length_map]
  have hf : t.fits es.size = true := by
    simp only [SetTable.fits, Bool.and_eq_true, beq_iff_eq, decide_eq_true_eq]
    refine ⟨hpl, ?_⟩
    unfold SetTable.fill
    rw [hdm, hpl]
    have : es.size ≤ t.mask := by omega
    simpa using this
  refine call_len_set ho hex hd hf (by omega) ⟨.int L.length, H, I.tok _, ⟨s.toks + 1, by rw [hs]⟩, q⟩
end
end L2
set_option Elab.async false
set_option linter.all false
set_option maxRecDepth 100000
set_option maxHeartbeats 4000000
namespace L2
open PySem PySem.Spec PyProof.Rows
section
variable {X : Cx} {pins : List (Addr × Obj)} {σ : St} {H : Hp} {s : Shared}
end
open AutoSeq1 (wpAny_loadPart') in
section
variable {K : PySem.W.Frag} {σ : St} {H : Hp} {Q : VK}
end
section
variable {X : Cx}
noncomputable def rInD (neg : Bool) : R2 := fun x y H Q => ∃ n p xs d ds, RepD H n x d ∧ y = .ref p ∧ H p = some (.lst xs) ∧ Paired (RepD H n) xs ds ∧ n ≤ 50 ∧ Q (.bl (if neg then !(ds.any fun e => PyData.eqv e d) else ds.any fun e => PyData.eqv e d)) H
theorem op_inD {k : Nat} (hr : Room k X.A) : OpR X (compareOp .In) (rInD false) := by
  intro pins s σ H x y v u Q I rx ry h
  obtain ⟨n, p, xs, d, ds, h1, rfl, h2, h3, hn, q⟩ := h
  have h4 : RepD H (n + 1) (.ref p) (.list ds) := .inr ⟨p, xs, ds, rfl, .inr ⟨h2, rfl⟩, h3⟩
  obtain ⟨as, ra⟩ := RepD.reads I n h1 rx
  obtain ⟨bs, rb⟩ := RepD.reads I (n + 1) h4 ry
  have l1 := RepD.lay n h1
  have l2 := lay_all (fun {x d} => RepD.lay (H := H) n) h3
  have hu := hr.units
  have hm : min (PyData.depthAll ds) d.depth ≤ 50 := Nat.le_trans (Nat.min_le_right _ _) (Nat.le_trans l1.2 hn)
  exact SeqAt.in_list_reads rb ra l2.1 l1.1 (by omega) ⟨.bl _, H, I, rfl, q⟩
theorem op_notInD {k : Nat} (hr : Room k X.A) : OpR X (compareOp .NotIn) (rInD true) := by
  intro pins s σ H x y v u Q I rx ry h
  obtain ⟨n, p, xs, d, ds, h1, rfl, h2, h3, hn, q⟩ := h
  have h4 : RepD H (n + 1) (.ref p) (.list ds) := .inr ⟨p, xs, ds, rfl, .inr ⟨h2, rfl⟩, h3⟩
  obtain ⟨as, ra⟩ := RepD.reads I n h1 rx
  obtain ⟨bs, rb⟩ := RepD.reads I (n + 1) h4 ry
  have l1 := RepD.lay n h1
  have l2 := lay_all (fun {x d} => RepD.lay (H := H) n) h3
  have hu := hr.units
  have hm : min (PyData.depthAll ds) d.depth ≤ 50 := Nat.le_trans (Nat.min_le_right _ _) (Nat.le_trans l1.2 hn)
  exact SeqAt.notIn_list_reads rb ra l2.1 l1.1 (by omega) ⟨.bl _, H, I, rfl, q⟩
theorem rd_inD {neg : Bool} {n : Nat} {x : V} {p : Addr} {xs : List V} {d : PyData} {ds : List PyData} {H : Hp} {Q : VK} (h1 : RepD H n x d) (h2 : H p = some (.lst xs)) (h3 : Paired (RepD H n) xs ds) (hn : n ≤ 50) (q : Q (.bl (if neg then !(ds.any fun e => PyData.eqv e d) else ds.any fun e => PyData.eqv e d)) H) : rInD neg x (.ref p) H Q :=
  ⟨n, p, xs, d, ds, h1, rfl, h2, h3, hn, q⟩
end
end L2
set_option Elab.async false
set_option linter.all false
set_option maxRecDepth 100000
set_option maxHeartbeats 4000000
namespace L2
open PySem PySem.Spec PyProof.Rows
noncomputable abbrev Row3 := Str × Tok × Value
noncomputable def gdE (w : World) (e : Row3) : DictEntry := ⟨PyData.keyHash w.params e.1, .str e.1 e.2.1, e.2.2⟩
noncomputable def gdO (w : World) (l : List Row3) (ep : Nat) : Obj := { cls := .type "dict", dict := none, data := .dict (l.map (gdE w)).toArray ep, slots := #[] }
structure GDict (w : World) (K : PySem.W.Frag) (a : Addr) (kvs : List (Key × V)) : Prop where
  has : ∃ l ep, K.lookup a = some (gdO w l ep) ∧ KV kvs (l.map fun e => ((Sum.inr e.1 : Key), e.2.2))
  nd : (kvs.map (·.1)).Nodup
  sm : (a == sysModules) = false
theorem gd_pairs {P : Program} {w : World} : ∀ l : List Row3, Pairs (mixKind P w) (l.map (gdE w)) (l.map fun e => ((Sum.inr e.1 : Key), e.2.2))
  | [] => .nil
  | e :: l => .cons (mixKind_str P w e.1 e.2.1) rfl (gd_pairs l)
theorem gd_keys {P : Program} {w : World} (l : List Row3) : KeysOf (mixKind P w) (l.map (gdE w)).toArray := fun e he => by
  have he' : e ∈ l.map (gdE w) := by simpa using he
  obtain ⟨x, _, rfl⟩ := List.mem_map.mp he'
  exact ⟨.inr x.1, mixKind_str P w x.1 x.2.1, rfl⟩
theorem GDict.at {X : Cx} {pins : List (Addr × Obj)} {σ : St} {H : Hp} {s : Shared} {a : Addr} {kvs : List (Key × V)} (D : GDict X.w X.K a kvs) (I : Inv X pins σ H s) : ∃ vs, KV kvs vs ∧ s.heap.DictOf (mixKind X.prog X.w) a vs := by
  obtain ⟨l, ep, hl, r⟩ := D.has
  refine ⟨_, r, gdO X.w l ep, _, ep, I.kIn _ _ hl, ⟨rfl, rfl, rfl⟩, rfl, gd_keys l, gd_pairs l, ?_⟩
  rw [← r.keys]
  exact D.nd
section
variable {X : Cx} {x : Str} {a : Addr} {kvs : List (Key × V)} {i : Expr} {ty : TE} {p pos : Pos}
noncomputable def tGIn (neg : Bool) (kvs : List (Key × V)) (ty : TE) : TE := fun σ H Q => ty σ H fun y H1 => ∃ k, y = kV k ∧ Q (.bl (if neg then !(valV kvs k).isSome else (valV kvs k).isSome)) H1
theorem pc_gin (hg : Gl X x) (hm : X.mg x = some (.ref a)) (D : GDict X.w X.K a kvs) (hi : PE X i ty) (hd : (x == ("__debug__" : Str)) = false := by decide) : PC X .In i (.Name x p) (tGIn false kvs ty) := by
  intro pins s σ H Q I h
  refine thn (hi pins s σ H _ I h) fun iv s1 ⟨y, H1, I1, ry, k, ey, q⟩ => ld_glob I1 hg hm ?_ hd
  subst ey
  obtain ⟨vs, rel, dd⟩ := D.at I1
  refine wpAny_in_of (kV_is ry) D.sm dd.mapOf ?_
  rw [← (rel.val k).isSome_eq]
  exact ⟨.bl (valV kvs k).isSome, H1, I1.tok _, rfl, q⟩
theorem rd_gin {neg : Bool} {σ : St} {H : Hp} {Q : VK} (h : ty σ H fun y H1 => ∃ k, y = kV k ∧ Q (.bl (if neg then !(valV kvs k).isSome else (valV kvs k).isSome)) H1) : tGIn neg kvs ty σ H Q := h
noncomputable def rLeS : R2 := fun x y H Q => ∃ a b, x = .str a ∧ y = .str b ∧ Q (.bl (!decide (b.cps.toList < a.cps.toList))) H
theorem op_leS : OpR X (compareOp .LtE) rLeS := by
  intro pins s σ H x y v u Q I rx ry h
  obtain ⟨a, b, rfl, rfl, q⟩ := h
  obtain ⟨t, rfl⟩ := rx
  obtain ⟨t', rfl⟩ := ry
  exact PySem.P.le_str ⟨.bl _, H, I, rfl, q⟩
theorem rd_leS {a b : Str} {H : Hp} {Q : VK} (h : Q (.bl (!decide (b.cps.toList < a.cps.toList))) H) : rLeS (.str a) (.str b) H Q := ⟨a, b, rfl, rfl, h⟩
theorem fm_congr {α β : Type} {f g : α → Option β} : ∀ {l : List α}, (∀ x ∈ l, f x = g x) → l.filterMap f = l.filterMap g
  | [], _ => rfl
  | x :: l, h => by
    rw [List.filterMap_cons, List.filterMap_cons, h x List.mem_cons_self, fm_congr fun y hy => h y (List.mem_cons_of_mem _ hy)]
theorem pick_back (n : Nat) (xs : List Value) (h : xs.length = n) : (List.range n).filterMap (fun i : Nat => xs[((n : Int) - 1 + (i : Int) * (-1)).toNat]?) = xs.reverse := by
  refine List.ext_getElem? fun i => ?_
  have e : (List.range n).filterMap (fun i : Nat => xs[((n : Int) - 1 + (i : Int) * (-1)).toNat]?) = (List.range n).map (fun i : Nat => xs.reverse.getD i .none) := by
    rw [← List.filterMap_eq_map]
    refine fm_congr fun i hi => ?_
    have hi := List.mem_range.mp hi
    have : ((n : Int) - 1 + (i : Int) * (-1)).toNat = n - 1 - i := by omega
    rw [this, Function.comp_apply, List.getD_eq_getElem?_getD, List.getElem?_reverse (by omega), h, List.getElem?_eq_getElem (show n - 1 - i < xs.length by omega)]
    rfl
  rw [e, List.getElem?_map]
  by_cases hi : i < n
  · rw [List.getElem?_eq_getElem (by simpa using hi), List.getElem?_eq_getElem (by simpa [h] using hi)]
    simp [List.getD_eq_getElem?_getD, h, hi]
  · rw [List.getElem?_eq_none (by simpa using hi), List.getElem?_eq_none (by simpa [h] using hi)]
    rfl
theorem slicePick_back (its : List Value) : slicePick its.toArray none none (some (-1)) = its.reverse.toArray := by
  unfold slicePick
  have e : sliceBounds none none (some (-1)) its.toArray.size = ((its.length : Int) - 1, -1, -1) := by
    unfold sliceBounds
    simp
  rw [e]
  refine congrArg List.toArray ?_
  rw [← pick_back its.length its rfl]
  unfold sliceRange
  simp only
  rw [if_neg (by decide), List.filterMap_map]
  have el : (if (its.length : Int) - 1 > -1 then ((its.length : Int) - 1 - -1 - -1 - 1) / - -1 else 0).toNat = its.length := by
    rw [show (- -1 : Int) = 1 by decide, Int.ediv_one]
    split <;> omega
  rw [el]
  refine fm_congr fun i hi => ?_
  rw [Function.comp_apply, show (its.length : Int) - 1 + -1 * (i : Int) = (its.length : Int) - 1 + (i : Int) * -1 by omega]
  simp
theorem Vals.rev {xs : List V} {us : List Value} (r : Vals xs us) : Vals xs.reverse us.reverse := by
  induction r with
  | nil => exact .nil
  | cons h t ih =>
    rw [List.reverse_cons, List.reverse_cons]
    exact Vals.append ih (.cons h .nil)
noncomputable def rRevL (K : PySem.W.Frag) : V → Hp → VK → Prop := fun x H Q => ∃ a xs, x = .ref a ∧ SqL K H a xs ∧ New H (.lst xs.reverse) Q
noncomputable def tRevL (K : PySem.W.Frag) (te : TE) (ts : TO) : TE := fun σ H Q => te σ H fun x H1 => ts σ H1 fun k H2 => k = some (-1) ∧ rRevL K x H2 Q
theorem pe_revL {e st : Expr} {te : TE} {ts : TO} {p2 : Pos} (K : PySem.W.Frag) (he : PE X e te) (hs : PO X (some st) ts) (hK : X.K = K := by rfl) : PE X (.Subscript e (.Slice none none (some st) p2) pos) (tRevL K te ts) := by
  subst hK
  intro pins s σ H Q I h
  refine Subscript_ (thn (he pins s σ H _ I h) fun v s1 ⟨x, H1, I1, r1, q1⟩ => ?_)
  refine wpAny_Slice ?_
  rw [evalPart_none]
  refine wpAny_pure (wpAny_pure ?_)
  refine thn (hs pins s1 σ H1 _ I1 q1) fun vs s2 ⟨k, H2, I2, pk, q2⟩ => ?_
  obtain ⟨rfl, a, xs, rfl, hx, q⟩ := q2
  cases pk with
  | int i tk =>
  cases r1
  have I3 : Inv X pins σ H2 { s2 with heap := s2.heap.push { cls := .type "slice", data := .fields #[.none, .none, .int (-1) tk] } } := I2.kept (t' := s2.toks) fun b ob q => Heap.get?_push_of_some _ q
  obtain ⟨its, r, ht, hz⟩ := I3.list hx
  have hlen := r.length
  show wpAny (model X.prog X.w) X.A (subscriptTail e (.Slice none none (some st) p2) (.ref a) (.ref s2.heap.objs.size)) (EP X pins σ Q) X.xe { s2 with heap := s2.heap.push { cls := .type "slice", data := .fields #[.none, .none, .int (-1) tk] } }
  refine tail_any (ops := [.ref a, .ref s2.heap.objs.size]) ht.isList.typeIs slot_list_getitem.lookup (wpAny_getItem_list_slice ht.isList (Heap.IsSliceOf.new ..) .none .none (.int (-1) tk) (by decide) ?_ (by rw [List.size_toArray]; omega)) (by with_unfolding_all rfl)
  rw [slicePick_back]
  exact ⟨.ref _, _, I3.laid (t' := s2.toks) (o := .lst xs.reverse) (fun b ob e => Heap.get?_push_of_some _ e) (Nat.le_refl _) ⟨by rw [List.length_reverse]; exact hz, _, 0, r.rev, Heap.get?_push_size _ rfl⟩, rfl, q _ (I3.hok.fresh (Nat.le_refl _))⟩
theorem rd_revL {K : PySem.W.Frag} {te : TE} {ts : TO} {σ : St} {H : Hp} {Q : VK} (h : te σ H fun x H1 => ts σ H1 fun k H2 => k = some (-1) ∧ rRevL K x H2 Q) : tRevL K te ts σ H Q := h
theorem rd_revLL {K : PySem.W.Frag} {H : Hp} {Q : VK} {a : Addr} {xs : List V} (e : SqL K H a xs) (h : New H (.lst xs.reverse) Q) : rRevL K (.ref a) H Q := ⟨a, xs, rfl, e, h⟩
end
end L2
set_option Elab.async false
set_option linter.all false
set_option maxRecDepth 100000
set_option maxHeartbeats 4000000
namespace L2
open PySem PySem.Spec PyProof.Rows
section
variable {prog : Program} {w : World} {A : Around} {E : Value → Shared → Prop} {s : Shared} {r d : Addr}
end
section
variable {X : Cx}
end
end L2
set_option Elab.async false
set_option linter.all false
set_option maxRecDepth 100000
set_option maxHeartbeats 4000000
namespace L2
open PySem PySem.Spec PyProof.Rows
section
variable {X : Cx}
theorem LitE.pe {e : Expr} {te : TE} (h : LitE e te) : PE X e te :=
  LitE.rec (motive_1 := fun e te _ => PE X e te) (motive_2 := fun es ta _ => PA X es ta) pe_non pe_bl pe_int pe_str (fun _ ih => pe_tup ih) pa_nil (fun h _ ih1 ih2 => pa_cons ih1 ih2 (h.star _ _)) h
theorem pa_lit {e : Expr} {te : TE} {es : List Expr} {t : TA} (h : LitE e te) (hr : PA X es t) : PA X (e :: es) (tCons te t) := pa_cons h.pe hr (h.star _ _)
end
end L2
set_option Elab.async false
set_option linter.all false
set_option maxRecDepth 100000
set_option maxHeartbeats 4000000
namespace L2
open PySem PySem.Spec PyProof.Rows
section
variable {X : Cx} {tg : Expr}
end
section
variable {prog : Program} {w : World} {A : Around} {E : Value → Shared → Prop} {s : Shared}
end
section
variable {X : Cx} {tg : Expr}
end
end L2
set_option Elab.async false
set_option linter.all false
set_option maxRecDepth 100000
set_option maxHeartbeats 4000000
namespace L2
open PySem PySem.Spec PyProof.Rows
section
variable {X : Cx}
noncomputable def rSlS : V → Option Int → Option Int → Hp → VK → Prop := fun x lo hi H Q => ∃ z, x = .str z ∧ z.length ≤ sizeLine ∧ Q (.str (Txt.slice z lo hi)) H
theorem sl_str : SlR X rSlS := by
  intro pins s σ H x v vl vu lo hi sl Q I rx hs pl pu h
  obtain ⟨z, rfl, hz, q⟩ := h
  obtain ⟨t, rfl⟩ := rx
  refine ⟨"str", _, F.slot_str_getitem.lookup, typeIs_str _ _ _, ?_⟩
  have fin : ∀ t' k, EP X pins σ Q (.str (Txt.slice z lo hi) t') { s with toks := k } := fun t' k => ⟨.str (Txt.slice z lo hi), H, I.tok _, ⟨_, rfl⟩, q⟩
  have hle : (Txt.slice z lo hi).length ≤ sizeLine := Nat.le_trans (Txt.slice_le z _ _) hz
  obtain ⟨o, ho, hc, hd⟩ := hs
  cases pl with
  | none => cases pu with
    | none => exact wpAny_getItem_str_slice (l := none) (u := none) (st := none) ⟨o, ho, hc, hd⟩ rfl (post_val_or_str ⟨hle, fin⟩)
    | int j tj => exact wpAny_getItem_str_slice (l := none) (u := some (j, tj)) (st := none) ⟨o, ho, hc, hd⟩ rfl (post_val_or_str ⟨hle, fin⟩)
  | int i ti => cases pu with
    | none => exact wpAny_getItem_str_slice (l := some (i, ti)) (u := none) (st := none) ⟨o, ho, hc, hd⟩ rfl (post_val_or_str ⟨hle, fin⟩)
    | int j tj => exact wpAny_getItem_str_slice (l := some (i, ti)) (u := some (j, tj)) (st := none) ⟨o, ho, hc, hd⟩ rfl (post_val_or_str ⟨hle, fin⟩)
noncomputable def rRepS : R2 := fun x y H Q => ∃ z n, x = .str z ∧ y = .int n ∧ 0 ≤ n ∧ n ≤ 1000 ∧ z.length ≤ 1000 ∧ Q (.str (Txt.mul z n)) H
theorem op_repS : OpR X (binaryOp .Mult) rRepS := by
  intro pins s σ H x y v u Q I rx ry h
  obtain ⟨z, n, rfl, rfl, n0, n1, hz, q⟩ := h
  obtain ⟨t, rfl⟩ := rx
  obtain ⟨t', rfl⟩ := ry
  refine SB.mul ⟨by simp; omega, fun h1 _ => ?_, fun h1 _ => ?_⟩ fun t' k => ⟨.str _, H, I.tok _, ⟨_, rfl⟩, q⟩
  · have : (1000 : Int) ≤ (2 ^ 63 - 1) / n := by
      rw [Int.le_ediv_iff_mul_le (by omega)]
      omega
    omega
  · have : z.length * n.toNat ≤ 1000 * 1000 := Nat.mul_le_mul hz (by omega)
    unfold Builtin.Str.tooLong
    rw [sizeLine_eq]
    simp
    omega
theorem strs_of : ∀ {zs : List Str} {us : List Value}, Vals (zs.map V.str) us → StrsAre us zs
  | [], _, r => by cases r; exact .nil
  | z :: zs, _, r => by
    cases r with
    | cons h t =>
      obtain ⟨t', rfl⟩ := h
      exact .cons z t' (strs_of t)
end
end L2
set_option Elab.async false
set_option linter.all false
set_option maxRecDepth 100000
set_option maxHeartbeats 4000000
namespace L2
open PySem PySem.Spec PyProof.Rows
section
variable {X : Cx}
end
section
variable {X : Cx}
end
end L2
set_option Elab.async false
set_option linter.all false
set_option maxRecDepth 100000
set_option maxHeartbeats 4000000
namespace L2
open PySem PySem.Spec PyProof.Rows
section
variable {X : Cx}
noncomputable def tNoE : TE := fun _ _ _ => False
noncomputable def tNoT : TT := fun _ _ _ => False
theorem pe_never {e : Expr} : PE X e tNoE := fun _ _ _ _ _ _ h => h.elim
theorem pt_never {e : Expr} : PT X e tNoT := fun _ _ _ _ _ _ h => h.elim
noncomputable def rJoinS (K : PySem.W.Frag) : V → List V → Hp → VK → Prop := fun x vs H Q => ∃ sep l zs, x = .str sep ∧ vs = [.ref l] ∧ SqL K H l (List.map V.str zs) ∧ (zs.map (·.length)).sum + zs.length * sep.length ≤ 1000000 ∧
  ∀ z : Str, z.length ≤ (zs.map (·.length)).sum + zs.length * sep.length → Q (.str z) H
theorem mt_joinS (K : PySem.W.Frag) (hK : X.K = K := by rfl) : MtR X "str.join" (rJoinS K) := by
  subst hK
  intro pins s σ H x vs v us Q I rx rv h
  obtain ⟨sep, l, zs, rfl, rfl, hl, hz, q⟩ := h
  obtain ⟨t, rfl⟩ := rx
  obtain ⟨u, rfl, ru⟩ := vals1 rv
  cases ru
  obtain ⟨its, r, pl, hsz⟩ := I.list hl
  exact PyProof.Rows.join_list pl.isList (by simpa using strs_of r) (Nat.le_trans hz (by decide)) fun t' k => ⟨.str _, H, I.tok _, ⟨_, rfl⟩, q _ (by unfold Txt.join; rw [StrLaws.glued_eq_join]; exact StrLaws.join_length_le sep zs)⟩
end
end L2
set_option linter.all false
namespace St
section
variable {b s : Int} {o a : List Int}
end
end St
set_option linter.all false
namespace St
end St
set_option linter.all false
namespace St
end St
set_option linter.all false
namespace St
end St
set_option linter.all false
namespace St
end St
set_option Elab.async false
set_option linter.all false
set_option maxRecDepth 100000
namespace My
open PySem L2 St
set_option maxHeartbeats 4000000
noncomputable def stq (i : Nat) : Stmt := PySem.Challenge.pw_stairrooms_k14_no_house_is_refused.main.body.getD i (.Pass ⟨0, 0, 0, 0⟩)
local macro_rules | `(tactic| walk_at "cond") => `(tactic| first | decide | omega | (dsimp only; omega) | (unfold CMul; omega) | (unfold CPow; exact ⟨by decide, by decide, by decide⟩) | (dsimp only; exact ⟨by omega, by omega⟩) | exact .inr ⟨by decide, by decide⟩ | exact .inl ⟨by decide, by decide⟩ | (unfold SmallR; omega))
local macro_rules | `(tactic| walk_at "rd") => do
  let ts ← ("seq ret retN asg drop ifS next name var c op un CB cons nil ints test B exb not and or andV orV notV ifE yes I0 I U EqI NeI EqB NeB call BM tup lst sl noPart part exi chain comp iL iT i1 i2 i3 for tTru intB max2 min2 sub gcons gnil aug ipI zip rev par par2 lam calV raise fs try bseq bnext bplain bif bcall enum gget gin revL leS disp dget lrev disp1 din dnin dput min3 iS iD bm0 revS".splitOn " ").toArray.mapM fun n =>
    let i := Lean.mkIdent (.mkSimple ("rd_" ++ n))
    if n == "var" || n == "aug" then `(tacticSeq| ((with_reducible apply $i); (exact rfl)))
    else if n == "I" then `(tacticSeq| ((with_reducible apply $i); (walk_at "cond")))
    else `(tacticSeq| with_reducible refine $i ?_)
  `(tactic| repeat (first $[| $ts]* | dsimp only))
structure Blt (mg : Str → Option Value) : Prop where
  len_ : mg "len" = none
  isinstance_ : mg "isinstance" = none
  tuple_ : mg "tuple" = none
  list_ : mg "list" = none
  int_ : mg "int" = none
  bool_ : mg "bool" = none
  range_ : mg "range" = none
  zip_ : mg "zip" = none
  max_ : mg "max" = none
  min_ : mg "min" = none
  abs_ : mg "abs" = none
  all_ : mg "all" = none
  ValueError_ : mg "ValueError" = none
  enumerate_ : mg "enumerate" = none
  set_ : mg "set" = none
  str_ : mg "str" = none
  reversed_ : mg "reversed" = none
  any_ : mg "any" = none
  sorted_ : mg "sorted" = none
noncomputable abbrev allC : List Str := ["Endless", "NoDeed", "NoHouse", "NoLine", "NoPlace", "NoStair", "NoText", "NoWalk", "NoWay", "NotBare", "StairError", "TooGreat"]
noncomputable abbrev raisedC : List Str := ["NoHouse", "NotBare"]
noncomputable def isInt : V → Bool
  | .int _ => true
  | _ => false
noncomputable def isStr : V → Bool
  | .str _ => true
  | _ => false
noncomputable def isTup (H : Hp) : V → Bool
  | .ref p => match H p with
    | some (.tup _) => true
    | _ => false
  | _ => false
theorem kind_whole {H : Hp} {v : V} {n : String} (h : kindV H v n) : ∃ b c, isiB n "int" = some b ∧ isiB n "bool" = some c ∧ (b && !c) = isInt v := by
  cases v with
  | non => cases (show n = "NoneType" from h); exact ⟨_, _, rfl, rfl, rfl⟩
  | bl b => cases (show n = "bool" from h); exact ⟨_, _, rfl, rfl, rfl⟩
  | int i => cases (show n = "int" from h); exact ⟨_, _, rfl, rfl, rfl⟩
  | str z => cases (show n = "str" from h); exact ⟨_, _, rfl, rfl, rfl⟩
  | ref a => rcases h with ⟨rfl, xs, e⟩ | ⟨rfl, xs, e⟩ <;> exact ⟨_, _, rfl, rfl, rfl⟩
  | _ => exact False.elim h
theorem kind_str {H : Hp} {v : V} {n : String} (h : kindV H v n) : isiB n "str" = some (isStr v) := by
  cases v with
  | non => cases (show n = "NoneType" from h); rfl
  | bl b => cases (show n = "bool" from h); rfl
  | int i => cases (show n = "int" from h); rfl
  | str z => cases (show n = "str" from h); rfl
  | ref a => rcases h with ⟨rfl, xs, e⟩ | ⟨rfl, xs, e⟩ <;> rfl
  | _ => exact False.elim h
theorem kind_tuple {H : Hp} {v : V} {n : String} (h : kindV H v n) : isiB n "tuple" = some (isTup H v) := by
  cases v with
  | non => cases (show n = "NoneType" from h); rfl
  | bl b => cases (show n = "bool" from h); rfl
  | int i => cases (show n = "int" from h); rfl
  | str z => cases (show n = "str" from h); rfl
  | ref a => rcases h with ⟨rfl, xs, e⟩ | ⟨rfl, xs, e⟩ <;> (unfold isTup; dsimp only; rw [e]; rfl)
  | _ => exact False.elim h
noncomputable def Thg (H : Hp) : Nat → V → Prop
  | _, .non => True
  | _, .bl _ => True
  | _, .int _ => True
  | _, .str z => z.length ≤ 1000
  | 0, .ref _ => False
  | n + 1, .ref p => ∃ xs, (H p = some (.tup xs) ∨ H p = some (.lst xs)) ∧ xs.length ≤ 2000 ∧ ∀ x ∈ xs, Thg H n x
  | _, _ => False
theorem Thg.ext {H H' : Hp} (e : Ext H H') : ∀ {n : Nat} {v : V}, Thg H n v → Thg H' n v := by
  intro n
  induction n with
  | zero => intro v h; cases v <;> exact h
  | succ n ih =>
    intro v h
    cases v with
    | ref p =>
      obtain ⟨xs, h1, h2, h3⟩ := h
      exact ⟨xs, h1.imp (e _ _) (e _ _), h2, fun x hx => ih (h3 x hx)⟩
    | _ => exact h
theorem Thg.kind {H : Hp} {n : Nat} {v : V} (h : Thg H n v) : ∃ k, kindV H v k := by
  cases v with
  | non => exact ⟨_, rfl⟩
  | bl b => exact ⟨_, rfl⟩
  | int i => exact ⟨_, rfl⟩
  | str z => exact ⟨_, rfl⟩
  | ref p =>
    cases n with
    | zero => exact h.elim
    | succ n =>
      obtain ⟨xs, h1, _⟩ := h
      rcases h1 with h1 | h1
      · exact ⟨"tuple", .inr ⟨rfl, xs, h1⟩⟩
      · exact ⟨"list", .inl ⟨rfl, xs, h1⟩⟩
  | _ => cases n <;> exact h.elim
theorem isTup_of {H : Hp} {v : V} (h : isTup H v = true) : ∃ p xs, v = .ref p ∧ H p = some (.tup xs) := by
  cases v with
  | ref p =>
    unfold isTup at h
    dsimp only at h
    split at h
    · rename_i xs e
      exact ⟨p, xs, rfl, e⟩
    · cases h
  | _ => cases h
theorem Thg.items {H : Hp} {n : Nat} {p : Addr} {xs : List V} (h : Thg H (n + 1) (.ref p)) (e : H p = some (.tup xs)) : xs.length ≤ 2000 ∧ ∀ x ∈ xs, Thg H n x := by
  obtain ⟨ys, h1, h2, h3⟩ := h
  rcases h1 with h1 | h1 <;> rw [e] at h1 <;> cases h1
  exact ⟨h2, h3⟩
theorem small9 {n : Nat} (h : n ≤ 2000) : n ≤ sizeLine := Nat.le_trans h (by decide)
noncomputable def sp_is_whole (K : PySem.W.Frag) : Sp := fun vs H Q _ => ∃ v n, vs = [v] ∧ kindV H v n ∧ Q (.bl (isInt v)) H
noncomputable abbrev s_is_whole : Stmt := stq 16
theorem sc_is_whole : FnScope ["thing"] ["thing"] (defScope s_is_whole) := ⟨rfl, rfl, rfl, by decide +kernel, rfl, by decide +kernel, by decide +kernel⟩
theorem ok_is_whole {P : Program} {w : World} {K : PySem.W.Frag} {mg : Str → Option Value} {base : Heap} (D : Dfn K mg "is_whole" s_is_whole ["thing"]) (T : Blt mg) : Cal P w K mg base "is_whole" 1 ["thing"] (sp_is_whole K) := by
  have nd := (sc_is_whole).nd
  refine D.ok sc_is_whole (fun vs H Q E h => ?_) (fun X hX H vs Q E h => ?_)
  · obtain ⟨v, n, rfl, _⟩ := h; rfl
  · obtain ⟨f, cdv, A, outer, s, H0, E0, rfl, hr⟩ := hX
    obtain ⟨v, n, rfl, hk, q⟩ := h
    obtain ⟨b, c, hb, hc, e⟩ := kind_whole hk
    refine ⟨_, (no_implicit_lambda% (pss_one (no_implicit_lambda% (ps_ret (no_implicit_lambda% (pe_and (no_implicit_lambda% (pe_callB call_isi rfl T.isinstance_ PyProof.Rows.boot_isinstance (no_implicit_lambda% (pa_cons (no_implicit_lambda% (pv 0)) (no_implicit_lambda% (pa_cons (no_implicit_lambda% (pe_bltn (v := .ty "int") rfl T.int_ PyProof.Rows.boot_int rfl)) pa_nil)))))) (pe_one (no_implicit_lambda% (pe_not (no_implicit_lambda% (pe_callB call_isi rfl T.isinstance_ PyProof.Rows.boot_isinstance (no_implicit_lambda% (pa_cons (no_implicit_lambda% (pv 0)) (no_implicit_lambda% (pa_cons (no_implicit_lambda% (pe_bltn (v := .ty "bool") rfl T.bool_ PyProof.Rows.boot_bool rfl)) pa_nil))))))))))))))), ?_⟩
    walk_at "rd"
    refine rd_isi hk hb ?_
    walk_at "rd"
    cases b with
    | false => refine iteF ?_; rw [← e] at q; exact q
    | true =>
      refine iteT ?_
      walk_at "rd"
      refine rd_isi hk hc ?_
      walk_at "rd"
      rw [← e] at q; exact q
noncomputable def roomV (m : Int) : V → Bool
  | .int i => decide (0 ≤ i) && decide (i < m)
  | _ => false
noncomputable def gd_TURNED : List (Key × V) := [(.inr "up", .str "down"), (.inr "down", .str "up"), (.inr "stay", .str "stay"), (.inr "zero", .str "zero")]
theorem gdk_TURNED {w : World} {K : PySem.W.Frag} {a : Addr} {t1 t2 t3 t4 t5 t6 t7 t8 : Tok} {ep : Nat} (h : K.lookup a = some (gdO w [("up", t1, .str "down" t2), ("down", t3, .str "up" t4), ("stay", t5, .str "stay" t6), ("zero", t7, .str "zero" t8)] ep)) (hs : (a == sysModules) = false) : GDict w K a gd_TURNED :=
  ⟨⟨_, _, h, .cons ⟨rfl, ⟨_, rfl⟩⟩ (.cons ⟨rfl, ⟨_, rfl⟩⟩ (.cons ⟨rfl, ⟨_, rfl⟩⟩ (.cons ⟨rfl, ⟨_, rfl⟩⟩ .nil)))⟩, by decide +kernel, hs⟩
noncomputable def deedV : V → Bool
  | .str z => (valV gd_TURNED (.inr z)).isSome
  | _ => false
noncomputable def sign1 (z : Str) : Bool := !decide (z.cps.toList < (Str.ofString "a").cps.toList) && !decide ((Str.ofString "z").cps.toList < z.cps.toList)
noncomputable def signV : V → Bool
  | .str z => decide (z.length = 1) && sign1 z
  | _ => false
theorem isInt_of {v : V} (h : isInt v = true) : ∃ i, v = .int i := by
  cases v <;> first | exact ⟨_, rfl⟩ | cases h
theorem isStr_of {v : V} (h : isStr v = true) : ∃ z, v = .str z := by
  cases v <;> first | exact ⟨_, rfl⟩ | cases h
theorem room_no {m : Int} {v : V} (h : isInt v = false) : roomV m v = false := by
  cases v <;> first | rfl | cases h
theorem deed_no {v : V} (h : isStr v = false) : deedV v = false := by
  cases v <;> first | rfl | cases h
theorem sign_no {v : V} (h : isStr v = false) : signV v = false := by
  cases v <;> first | rfl | cases h
noncomputable def sp_is_room (K : PySem.W.Frag) : Sp := fun vs H Q _ => ∃ v m n, vs = [v, .int m] ∧ kindV H v n ∧ Q (.bl (roomV m v)) H
noncomputable abbrev s_is_room : Stmt := stq 33
theorem sc_is_room : FnScope ["thing", "many"] ["thing", "many"] (defScope s_is_room) := ⟨rfl, rfl, rfl, by decide +kernel, rfl, by decide +kernel, by decide +kernel⟩
theorem ok_is_room {P : Program} {w : World} {K : PySem.W.Frag} {mg : Str → Option Value} {base : Heap} (D : Dfn K mg "is_room" s_is_room ["thing", "many"]) (T : Blt mg) (C_is_whole : Cal P w K mg base "is_whole" 1 ["thing"] (sp_is_whole K)) : Cal P w K mg base "is_room" 2 ["thing", "many"] (sp_is_room K) := by
  have nd := (sc_is_room).nd
  refine D.ok sc_is_room (fun vs H Q E h => ?_) (fun X hX H vs Q E h => ?_)
  · obtain ⟨i, m, n, rfl, _⟩ := h; rfl
  · obtain ⟨f, cdv, A, outer, s, H0, E0, rfl, hr⟩ := hX
    obtain ⟨v, m, n, rfl, hk, q⟩ := h
    refine ⟨_, (no_implicit_lambda% (pss_one (no_implicit_lambda% (ps_ret (no_implicit_lambda% (pe_and (no_implicit_lambda% (pe_cal C_is_whole hr (no_implicit_lambda% (pa_cons (no_implicit_lambda% (pv 0)) pa_nil)))) (pe_one (no_implicit_lambda% (pe_chain op_le op_lt pe_int (no_implicit_lambda% (pv 0)) (no_implicit_lambda% (pv 1))))))))))), ?_⟩
    walk_at "rd"
    refine ⟨v, n, rfl, hk, ?_⟩
    refine rd_exb ?_
    cases hv : isInt v with
    | false =>
      refine iteF ?_
      rw [room_no hv] at q
      exact q
    | true =>
      obtain ⟨i, rfl⟩ := isInt_of hv
      refine iteT ?_
      walk_at "rd"
      unfold roomV at q
      dsimp only at q
      cases h0 : decide (0 ≤ i) with
      | false =>
        refine iteF ?_
        rw [h0] at q
        exact q
      | true =>
        refine iteT ?_
        walk_at "rd"
        rw [h0, Bool.true_and] at q
        exact q
noncomputable def sp_is_deed (K : PySem.W.Frag) : Sp := fun vs H Q _ => ∃ v n, vs = [v] ∧ kindV H v n ∧ Q (.bl (deedV v)) H
noncomputable abbrev s_is_deed : Stmt := stq 34
theorem sc_is_deed : FnScope ["thing"] ["thing"] (defScope s_is_deed) := ⟨rfl, rfl, rfl, by decide +kernel, rfl, by decide +kernel, by decide +kernel⟩
theorem ok_is_deed {P : Program} {w : World} {K : PySem.W.Frag} {mg : Str → Option Value} {base : Heap} (D : Dfn K mg "is_deed" s_is_deed ["thing"]) (T : Blt mg) (g_TURNED : ∃ a, mg "TURNED" = some (.ref a) ∧ GDict w K a gd_TURNED) : Cal P w K mg base "is_deed" 1 ["thing"] (sp_is_deed K) := by
  have nd := (sc_is_deed).nd
  refine D.ok sc_is_deed (fun vs H Q E h => ?_) (fun X hX H vs Q E h => ?_)
  · obtain ⟨z, n, rfl, _⟩ := h; rfl
  · obtain ⟨f, cdv, A, outer, s, H0, E0, rfl, hr⟩ := hX
    obtain ⟨a_TURNED, m_TURNED, d_TURNED⟩ := g_TURNED
    obtain ⟨v, n, rfl, hk, q⟩ := h
    refine ⟨_, (no_implicit_lambda% (pss_one (no_implicit_lambda% (ps_ret (no_implicit_lambda% (pe_and (no_implicit_lambda% (pe_callB call_isi rfl T.isinstance_ PyProof.Rows.boot_isinstance (no_implicit_lambda% (pa_cons (no_implicit_lambda% (pv 0)) (no_implicit_lambda% (pa_cons (no_implicit_lambda% (pe_bltn (v := .ty "str") rfl T.str_ PyProof.Rows.boot_str rfl)) pa_nil)))))) (pe_one (no_implicit_lambda% (pe_cmp (pc_gin rfl m_TURNED d_TURNED (no_implicit_lambda% (pv 0))) (by with_unfolding_all rfl)))))))))), ?_⟩
    walk_at "rd"
    refine rd_isi hk (kind_str hk) ?_
    walk_at "rd"
    cases hv : isStr v with
    | false =>
      refine iteF ?_
      rw [deed_no hv] at q
      exact q
    | true =>
      obtain ⟨z, rfl⟩ := isStr_of hv
      refine iteT ?_
      walk_at "rd"
      exact ⟨.inr z, rfl, q⟩
noncomputable def sp_is_sign (K : PySem.W.Frag) : Sp := fun vs H Q _ => ∃ v n j, vs = [v] ∧ kindV H v n ∧ Thg H j v ∧ Q (.bl (signV v)) H
noncomputable abbrev s_is_sign : Stmt := stq 35
theorem sc_is_sign : FnScope ["thing"] ["thing"] (defScope s_is_sign) := ⟨rfl, rfl, rfl, by decide +kernel, rfl, by decide +kernel, by decide +kernel⟩
theorem ok_is_sign {P : Program} {w : World} {K : PySem.W.Frag} {mg : Str → Option Value} {base : Heap} (D : Dfn K mg "is_sign" s_is_sign ["thing"]) (T : Blt mg) : Cal P w K mg base "is_sign" 1 ["thing"] (sp_is_sign K) := by
  have nd := (sc_is_sign).nd
  refine D.ok sc_is_sign (fun vs H Q E h => ?_) (fun X hX H vs Q E h => ?_)
  · obtain ⟨z, n, j, rfl, _⟩ := h; rfl
  · obtain ⟨f, cdv, A, outer, s, H0, E0, rfl, hr⟩ := hX
    obtain ⟨v, n, j, rfl, hk, ht, q⟩ := h
    refine ⟨_, (no_implicit_lambda% (pss_one (no_implicit_lambda% (ps_ret (no_implicit_lambda% (pe_and (no_implicit_lambda% (pe_callB call_isi rfl T.isinstance_ PyProof.Rows.boot_isinstance (no_implicit_lambda% (pa_cons (no_implicit_lambda% (pv 0)) (no_implicit_lambda% (pa_cons (no_implicit_lambda% (pe_bltn (v := .ty "str") rfl T.str_ PyProof.Rows.boot_str rfl)) pa_nil)))))) (pe_and (no_implicit_lambda% (pe_cmpR op_eq (no_implicit_lambda% (pe_callB call_len_str rfl T.len_ PySem.boot_len (no_implicit_lambda% (pa_cons (no_implicit_lambda% (pv 0)) pa_nil)))) pe_int (nomark _))) (pe_one (no_implicit_lambda% (pe_chain op_leS op_leS pe_str (no_implicit_lambda% (pv 0)) pe_str)))))))))), ?_⟩
    walk_at "rd"
    refine rd_isi hk (kind_str hk) ?_
    walk_at "rd"
    cases hv : isStr v with
    | false =>
      refine iteF ?_
      rw [sign_no hv] at q
      exact q
    | true =>
      obtain ⟨z, rfl⟩ := isStr_of hv
      refine iteT ?_
      walk_at "rd"
      refine ⟨_, rfl, small9 (Nat.le_trans (show z.length ≤ 1000 by cases j <;> exact ht) (by decide)), ?_⟩
      walk_at "rd"
      unfold signV sign1 at q
      dsimp only at q
      by_cases h1 : z.length = 1
      · rw [decide_eq_true (show ((z.length : Nat) : Int) = 1 by omega)]
        refine iteT ?_
        walk_at "rd"
        rw [decide_eq_true h1, Bool.true_and] at q
        cases h2 : !decide (z.cps.toList < (Str.ofString "a").cps.toList) with
        | false =>
          refine iteF ?_
          rw [h2] at q
          exact q
        | true =>
          refine iteT ?_
          walk_at "rd"
          rw [h2, Bool.true_and] at q
          exact q
      · rw [decide_eq_false (show ¬ ((z.length : Nat) : Int) = 1 by omega)]
        refine iteF ?_
        rw [decide_eq_false h1, Bool.false_and] at q
        exact q
noncomputable def wayL (m : Int) : List V → Bool
  | [a, b, c, d] => roomV m a && (roomV m c && (deedV b && signV d))
  | _ => false
noncomputable def wayV (H : Hp) (m : Int) : V → Bool
  | .ref p => match H p with
    | some (.tup xs) => wayL m xs
    | _ => false
  | _ => false
theorem way_no {H : Hp} {m : Int} {v : V} (h : isTup H v = false) : wayV H m v = false := by
  cases v with
  | ref p =>
    unfold isTup at h
    unfold wayV
    dsimp only at h ⊢
    split
    · rename_i xs e
      rw [e] at h
      cases h
    · rfl
  | _ => rfl
theorem way_tup {H : Hp} {m : Int} {p : Addr} {xs : List V} (h : H p = some (.tup xs)) : wayV H m (.ref p) = wayL m xs := by
  unfold wayV
  dsimp only
  rw [h]
theorem wayL_len {m : Int} {xs : List V} (h : xs.length ≠ 4) : wayL m xs = false := by
  unfold wayL
  split
  · exact absurd rfl h
  · rfl
theorem four {xs : List V} (h : xs.length = 4) : ∃ a b c d, xs = [a, b, c, d] := by
  match xs, h with
  | [a, b, c, d], _ => exact ⟨a, b, c, d, rfl⟩
noncomputable def sp_is_way (K : PySem.W.Frag) : Sp := fun vs H Q _ => ∃ v m, vs = [v, .int m] ∧ Thg H 2 v ∧ Q (.bl (wayV H m v)) H
noncomputable abbrev s_is_way : Stmt := stq 36
theorem sc_is_way : FnScope ["thing", "many"] ["thing", "many"] (defScope s_is_way) := ⟨rfl, rfl, rfl, by decide +kernel, rfl, by decide +kernel, by decide +kernel⟩
theorem ok_is_way {P : Program} {w : World} {K : PySem.W.Frag} {mg : Str → Option Value} {base : Heap} (D : Dfn K mg "is_way" s_is_way ["thing", "many"]) (T : Blt mg) (C_is_sign : Cal P w K mg base "is_sign" 1 ["thing"] (sp_is_sign K)) (C_is_deed : Cal P w K mg base "is_deed" 1 ["thing"] (sp_is_deed K)) (C_is_room : Cal P w K mg base "is_room" 2 ["thing", "many"] (sp_is_room K)) : Cal P w K mg base "is_way" 3 ["thing", "many"] (sp_is_way K) := by
  have nd := (sc_is_way).nd
  refine D.ok sc_is_way (fun vs H Q E h => ?_) (fun X hX H vs Q E h => ?_)
  · obtain ⟨p, m, rfl, _⟩ := h; rfl
  · obtain ⟨f, cdv, A, outer, s, H0, E0, rfl, hr⟩ := hX
    obtain ⟨v, m, rfl, ht, q⟩ := h
    obtain ⟨n, hk⟩ := ht.kind
    refine ⟨_, (no_implicit_lambda% (pss_cons (no_implicit_lambda% (ps_if (no_implicit_lambda% (PW.pt (pw_or (no_implicit_lambda% (pt_not (no_implicit_lambda% (pt_val (no_implicit_lambda% (pe_callB call_isi rfl T.isinstance_ PyProof.Rows.boot_isinstance (no_implicit_lambda% (pa_cons (no_implicit_lambda% (pv 0)) (no_implicit_lambda% (pa_cons (no_implicit_lambda% (pe_bltn (v := .ty "tuple") rfl T.tuple_ PyProof.Rows.boot_tuple rfl)) pa_nil)))))))))) (pw_or1 (no_implicit_lambda% (pt_cmpR op_ne (no_implicit_lambda% (pe_callB (call_lenK K) rfl T.len_ PySem.boot_len (no_implicit_lambda% (pa_cons (no_implicit_lambda% (pv 0)) pa_nil)))) pe_int (nomark _))))))) (no_implicit_lambda% (pss_one (no_implicit_lambda% (ps_ret pe_bl)))) pss_nil))
        (no_implicit_lambda% (pss_cons (no_implicit_lambda% (ps_if (no_implicit_lambda% (PW.pt (pw_or (no_implicit_lambda% (pt_not (no_implicit_lambda% (pt_val (no_implicit_lambda% (pe_cal C_is_room hr (no_implicit_lambda% (pa_cons (no_implicit_lambda% (pe_ix (ix_tupK K) (no_implicit_lambda% (pv 0)) pe_int (fun _ _ => rfl))) (no_implicit_lambda% (pa_cons (no_implicit_lambda% (pv 1)) pa_nil)))))))))) (pw_or1 (no_implicit_lambda% (pt_not (no_implicit_lambda% (pt_val (no_implicit_lambda% (pe_cal C_is_room hr (no_implicit_lambda% (pa_cons (no_implicit_lambda% (pe_ix (ix_tupK K) (no_implicit_lambda% (pv 0)) pe_int (fun _ _ => rfl))) (no_implicit_lambda% (pa_cons (no_implicit_lambda% (pv 1)) pa_nil)))))))))))))) (no_implicit_lambda% (pss_one (no_implicit_lambda% (ps_ret pe_bl)))) pss_nil))
        (no_implicit_lambda% (pss_one (no_implicit_lambda% (ps_ret (no_implicit_lambda% (pe_and (no_implicit_lambda% (pe_cal C_is_deed hr (no_implicit_lambda% (pa_cons (no_implicit_lambda% (pe_ix (ix_tupK K) (no_implicit_lambda% (pv 0)) pe_int (fun _ _ => rfl))) pa_nil)))) (pe_one (no_implicit_lambda% (pe_cal C_is_sign hr (no_implicit_lambda% (pa_cons (no_implicit_lambda% (pe_ix (ix_tupK K) (no_implicit_lambda% (pv 0)) pe_int (fun _ _ => rfl))) pa_nil))))))))))))))), ?_⟩
    walk_at "rd"
    refine rd_isi hk (kind_tuple hk) ?_
    walk_at "rd"
    cases hv : isTup H v with
    | false =>
      refine iteT ?_
      walk_at "rd"
      rw [way_no hv] at q
      exact q
    | true =>
      refine iteF ?_
      obtain ⟨p, xs, rfl, hp⟩ := isTup_of hv
      obtain ⟨hx1, hx2⟩ := ht.items hp
      rw [way_tup hp] at q
      walk_at "rd"
      refine rd_lenT (SqT.of hp) ?_
      walk_at "rd"
      by_cases h4 : xs.length = 4
      · obtain ⟨a, b, c, d, rfl⟩ := four h4
        have ta := hx2 a (by simp)
        have tb := hx2 b (by simp)
        have tc := hx2 c (by simp)
        have td := hx2 d (by simp)
        obtain ⟨ka, hka⟩ := ta.kind
        obtain ⟨kb, hkb⟩ := tb.kind
        obtain ⟨kc, hkc⟩ := tc.kind
        obtain ⟨kd, hkd⟩ := td.kind
        unfold wayL at q
        dsimp only at q
        refine iteF ?_
        walk_at "rd"
        refine rd_ixT (SqT.of hp) (v := a) rfl ?_
        walk_at "rd"
        refine ⟨a, m, ka, rfl, hka, ?_⟩
        walk_at "rd"
        cases ra : roomV m a with
        | false =>
          refine iteT ?_
          walk_at "rd"
          rw [ra] at q
          exact q
        | true =>
          refine iteF ?_
          walk_at "rd"
          refine rd_ixT (SqT.of hp) (v := c) rfl ?_
          walk_at "rd"
          refine ⟨c, m, kc, rfl, hkc, ?_⟩
          walk_at "rd"
          rw [ra, Bool.true_and] at q
          cases rc : roomV m c with
          | false =>
            refine iteT ?_
            walk_at "rd"
            rw [rc] at q
            exact q
          | true =>
            refine iteF ?_
            walk_at "rd"
            refine rd_ixT (SqT.of hp) (v := b) rfl ?_
            walk_at "rd"
            refine ⟨b, kb, rfl, hkb, ?_⟩
            walk_at "rd"
            rw [rc, Bool.true_and] at q
            cases rb : deedV b with
            | false =>
              refine iteF ?_
              rw [rb] at q
              exact q
            | true =>
              refine iteT ?_
              walk_at "rd"
              refine rd_ixT (SqT.of hp) (v := d) rfl ?_
              walk_at "rd"
              rw [rb, Bool.true_and] at q
              exact ⟨d, kd, 1, rfl, hkd, td, q⟩
      · rw [wayL_len h4] at q
        rw [decide_eq_false (show ¬ ((xs.length : Nat) : Int) = 4 by omega)]
        refine iteT ?_
        walk_at "rd"
        exact q
theorem small_line {n : Nat} (h : n ≤ 1000000) : n ≤ sizeLine := Nat.le_trans h (by decide)
noncomputable def sp__law_cell (K : PySem.W.Frag) : Sp := fun vs H Q _ => ∃ (a : Addr) (ns : List Int) (k : Int), vs = [.ref a, .int k] ∧ SqL K H a (ns.map V.int) ∧ ns.length ≤ 63 ∧ 0 ≤ k ∧ ∀ z, Q (.int z) H
theorem atI_ints {ns : List Int} {i : Int} (h0 : 0 ≤ i) (h : i < ns.length) : ∃ z, atI (ns.map V.int) i = some (.int z) ∧ ns[i.toNat]? = some z := by
  have hi : i.toNat < ns.length := by omega
  refine ⟨ns[i.toNat], atI_of h0 ?_, List.getElem?_eq_getElem hi⟩
  rw [List.getElem?_map, List.getElem?_eq_getElem hi]
  rfl
noncomputable abbrev s__law_cell : Stmt := stq 144
theorem sc__law_cell : FnScope ["_law_script", "_law_k"] ["_law_script", "_law_k"] (defScope s__law_cell) := ⟨rfl, rfl, rfl, by decide +kernel, rfl, by decide +kernel, by decide +kernel⟩
theorem ok__law_cell {P : Program} {w : World} {K : PySem.W.Frag} {mg : Str → Option Value} {base : Heap} (D : Dfn K mg "_law_cell" s__law_cell ["_law_script", "_law_k"]) (T : Blt mg) : Cal P w K mg base "_law_cell" 1 ["_law_script", "_law_k"] (sp__law_cell K) := by
  have nd := (sc__law_cell).nd
  refine D.ok sc__law_cell (fun vs H Q E h => ?_) (fun X hX H vs Q E h => ?_)
  · obtain ⟨a, ns, k, rfl, _⟩ := h; rfl
  · obtain ⟨f, cdv, A, outer, s, H0, E0, rfl, hr⟩ := hX
    obtain ⟨a, ns, k, rfl, ha, hl, hk, q⟩ := h
    refine ⟨_, (no_implicit_lambda% (pss_cons (no_implicit_lambda% (ps_if (no_implicit_lambda% (pt_cmpR op_eq (no_implicit_lambda% (pe_callB (call_lenK K) rfl T.len_ PySem.boot_len (no_implicit_lambda% (pa_cons (no_implicit_lambda% (pv 0)) pa_nil)))) pe_int (nomark _))) (no_implicit_lambda% (pss_one (no_implicit_lambda% (ps_ret (no_implicit_lambda% (pe_op op_mul pe_int (no_implicit_lambda% (pe_op op_add (no_implicit_lambda% (pv 1)) pe_int)))))))) pss_nil))
        (no_implicit_lambda% (pss_cons (no_implicit_lambda% (ps_if (no_implicit_lambda% (pt_cmpR op_lt (no_implicit_lambda% (pv 1)) (no_implicit_lambda% (pe_callB (call_lenK K) rfl T.len_ PySem.boot_len (no_implicit_lambda% (pa_cons (no_implicit_lambda% (pv 0)) pa_nil)))) (nomark _))) (no_implicit_lambda% (pss_one (no_implicit_lambda% (ps_ret (no_implicit_lambda% (pe_ix (ix_listK K) (no_implicit_lambda% (pv 0)) (no_implicit_lambda% (pv 1)) (fun _ _ => rfl))))))) pss_nil))
        (no_implicit_lambda% (pss_one (no_implicit_lambda% (ps_ret (no_implicit_lambda% (pe_op op_add (no_implicit_lambda% (pe_ix (ix_listK K) (no_implicit_lambda% (pv 0)) (no_implicit_lambda% (pe_op op_mod (no_implicit_lambda% (pv 1)) (no_implicit_lambda% (pe_callB (call_lenK K) rfl T.len_ PySem.boot_len (no_implicit_lambda% (pa_cons (no_implicit_lambda% (pv 0)) pa_nil)))))) (fun _ _ => rfl))) (no_implicit_lambda% (pe_op op_mul pe_int (no_implicit_lambda% (pv 1)))))))))))))), ?_⟩
    walk_at "rd"
    refine rd_lenL ha ?_
    walk_at "rd"
    rw [List.length_map]
    by_cases h0 : (ns.length : Int) = 0
    · rw [decide_eq_true h0]
      refine iteT ?_
      walk_at "rd"
      exact q _
    · rw [decide_eq_false h0]
      refine iteF ?_
      walk_at "rd"
      refine rd_lenL ha ?_
      walk_at "rd"
      rw [List.length_map]
      by_cases h1 : k < ns.length
      · rw [decide_eq_true h1]
        refine iteT ?_
        obtain ⟨z, hz, _⟩ := atI_ints hk h1
        walk_at "rd"
        refine rd_ixL ha hz ?_
        exact q _
      · rw [decide_eq_false h1]
        refine iteF ?_
        walk_at "rd"
        refine rd_lenL ha ?_
        rw [List.length_map]
        have hp : (0 : Int) < ns.length := by omega
        refine rd_I hp ?_
        obtain ⟨z, hz, _⟩ := atI_ints (ns := ns) (Int.emod_nonneg k (by omega)) (Int.emod_lt_of_pos k hp)
        refine rd_ixL ha hz ?_
        walk_at "rd"
        exact q _
noncomputable def sp__law_mixed (K : PySem.W.Frag) : Sp := fun vs H Q _ => ∃ c k p, vs = [.int c, .int k, .int p] ∧ 0 ≤ k ∧ k < 100000 ∧ 0 < p ∧ ∀ z, 0 ≤ z → z < p → Q (.int z) H
noncomputable abbrev s__law_mixed : Stmt := stq 145
theorem sc__law_mixed : FnScope ["_law_cell_here", "_law_k", "_law_prime", "_law_far"] ["_law_cell_here", "_law_k", "_law_prime"] (defScope s__law_mixed) := ⟨rfl, rfl, rfl, by decide +kernel, rfl, by decide +kernel, by decide +kernel⟩
theorem ok__law_mixed {P : Program} {w : World} {K : PySem.W.Frag} {mg : Str → Option Value} {base : Heap} (D : Dfn K mg "_law_mixed" s__law_mixed ["_law_cell_here", "_law_k", "_law_prime"]) (T : Blt mg) : Cal P w K mg base "_law_mixed" 1 ["_law_cell_here", "_law_k", "_law_prime"] (sp__law_mixed K) := by
  have nd := (sc__law_mixed).nd
  refine D.ok sc__law_mixed (fun vs H Q E h => ?_) (fun X hX H vs Q E h => ?_)
  · obtain ⟨c, k, p, rfl, _⟩ := h; rfl
  · obtain ⟨f, cdv, A, outer, s, H0, E0, rfl, hr⟩ := hX
    obtain ⟨c, k, p, rfl, hk, hk2, hp, q⟩ := h
    refine ⟨_, (no_implicit_lambda% (pss_cons (no_implicit_lambda% (ps_set (i := 3) nd rfl (Or.inl rfl) (no_implicit_lambda% (pe_op op_mod (no_implicit_lambda% (pe_op op_mul (no_implicit_lambda% (pe_op op_add (no_implicit_lambda% (pe_op op_add (no_implicit_lambda% (pe_op op_add (no_implicit_lambda% (pv 0)) (no_implicit_lambda% (pe_op op_mul (no_implicit_lambda% (pe_op op_mul pe_int (no_implicit_lambda% (pv 1)))) (no_implicit_lambda% (pv 1)))))) (no_implicit_lambda% (pe_op op_mul pe_int (no_implicit_lambda% (pv 1)))))) pe_int)) pe_int)) pe_int))))
        (no_implicit_lambda% (pss_cons (no_implicit_lambda% (ps_set (i := 3) nd rfl (Or.inl rfl) (no_implicit_lambda% (pe_op op_mod (no_implicit_lambda% (pe_op op_mul (no_implicit_lambda% (pv 3)) (no_implicit_lambda% (pv 3)))) pe_int))))
        (no_implicit_lambda% (pss_one (no_implicit_lambda% (ps_ret (no_implicit_lambda% (pe_op op_mod (no_implicit_lambda% (pe_op op_mul (no_implicit_lambda% (pv 3)) pe_int)) (no_implicit_lambda% (pv 2)))))))))))), ?_⟩
    walk_at "rd"
    exact q _ (Int.emod_nonneg _ (by omega)) (Int.emod_lt_of_pos _ hp)
theorem ext_write {H H2 : Hp} {q : Addr} {o : HO} (e : Ext H H2) (hq : H q = none) : Ext H (upd H2 q o) := fun b u hb => by
  rw [upd_ne (ne_of_none hb hq)]
  exact e b u hb
noncomputable def sp__law_draws (K : PySem.W.Frag) : Sp := fun vs H Q _ => ∃ (c : Int) (w : Addr) (ws : List Int) (p : Int), vs = [.int c, .ref w, .int p] ∧ H w = some (.lst (ws.map V.int)) ∧ (∀ x ∈ ws, 0 < x ∧ x < 2 ^ 40) ∧ ws.length ≤ 10000 ∧ 0 < p ∧
  ∀ (q : Addr) (ds : List Int) (H' : Hp), Ext H H' → H' q = some (.lst (ds.map V.int)) → H q = none → ds.length = ws.length → (∀ (i : Nat) d x, ds[i]? = some d → ws[i]? = some x → 0 ≤ d ∧ d < x) → Q (.ref q) H'
theorem mk_draws {K : PySem.W.Frag} {H : Hp} {c : Int} {w : Addr} {p : Int} {Q : VK} {xe : XK} (ws : List Int) (h1 : H w = some (.lst (ws.map V.int))) (h2 : ∀ x ∈ ws, 0 < x ∧ x < 2 ^ 40) (h3 : ws.length ≤ 10000) (h4 : 0 < p)
    (k : ∀ (q : Addr) (ds : List Int) (H' : Hp), Ext H H' → H' q = some (.lst (ds.map V.int)) → H q = none → ds.length = ws.length → (∀ (i : Nat) d x, ds[i]? = some d → ws[i]? = some x → 0 ≤ d ∧ d < x) → Q (.ref q) H') : sp__law_draws K [.int c, .ref w, .int p] H Q xe := ⟨c, w, ws, p, rfl, h1, h2, h3, h4, k⟩
noncomputable abbrev s__law_draws : Stmt := stq 146
theorem sc__law_draws : FnScope ["_law_cell_here", "_law_widths", "_law_prime", "_law_left", "_law_found", "_law_k"] ["_law_cell_here", "_law_widths", "_law_prime"] (defScope s__law_draws) := ⟨rfl, rfl, rfl, by decide +kernel, rfl, by decide +kernel, by decide +kernel⟩
theorem ok__law_draws {P : Program} {w : World} {K : PySem.W.Frag} {mg : Str → Option Value} {base : Heap} (D : Dfn K mg "_law_draws" s__law_draws ["_law_cell_here", "_law_widths", "_law_prime"]) (T : Blt mg) (C__law_mixed : Cal P w K mg base "_law_mixed" 1 ["_law_cell_here", "_law_k", "_law_prime"] (sp__law_mixed K)) : Cal P w K mg base "_law_draws" 2 ["_law_cell_here", "_law_widths", "_law_prime"] (sp__law_draws K) := by
  have nd := (sc__law_draws).nd
  refine D.ok sc__law_draws (fun vs H Q E h => ?_) (fun X hX H vs Q E h => ?_)
  · obtain ⟨c, w, ws, p, rfl, _⟩ := h; rfl
  · obtain ⟨f, cdv, A, outer, s, H0, E0, rfl, hr⟩ := hX
    obtain ⟨c, w, ws, p, rfl, hw, hpos, hlen, hp, q⟩ := h
    refine ⟨_, (no_implicit_lambda% (pss_cons (no_implicit_lambda% (ps_set (i := 3) nd rfl (Or.inl rfl) pe_int))
        (no_implicit_lambda% (pss_cons (no_implicit_lambda% (ps_ifJ (no_implicit_lambda% (pt_cmpR op_ge (no_implicit_lambda% (pv 0)) (no_implicit_lambda% (pe_op op_pow pe_int pe_int)) (nomark _))) (no_implicit_lambda% (pss_one (no_implicit_lambda% (ps_set (i := 3) nd rfl (Or.inl rfl) (no_implicit_lambda% (pe_op op_sub (no_implicit_lambda% (pv 0)) (no_implicit_lambda% (pe_op op_pow pe_int pe_int)))))))) pss_nil))
        (no_implicit_lambda% (pss_cons (no_implicit_lambda% (ps_set (i := 4) nd rfl (Or.inl rfl) (no_implicit_lambda% (pe_lst pa_nil))))
        (no_implicit_lambda% (pss_cons (no_implicit_lambda% (ps_for PassesOwn.never rfl (no_implicit_lambda% (pi_range1 rfl T.range_ (no_implicit_lambda% (pa_cons (no_implicit_lambda% (pe_callB (call_lenK K) rfl T.len_ PySem.boot_len (no_implicit_lambda% (pa_cons (no_implicit_lambda% (pv 1)) pa_nil)))) pa_nil)))) (no_implicit_lambda% (pg_name (i := 5) nd rfl (Or.inl rfl))) (no_implicit_lambda% (pss_one (no_implicit_lambda% (ps_ifJ (no_implicit_lambda% (pt_cmpR op_gt (no_implicit_lambda% (pv 3)) pe_int (nomark _))) (no_implicit_lambda% (pss_cons (no_implicit_lambda% (ps_expr (no_implicit_lambda% (pe_bmK K PySem.F.plainAttrs_list PySem.F.slot_list_append PySem.F.type_list_append mt_append (no_implicit_lambda% (pv 4)) (no_implicit_lambda% (pa_cons (no_implicit_lambda% (pe_op op_mod (no_implicit_lambda% (pv 3)) (no_implicit_lambda% (pe_ix (ix_listK K) (no_implicit_lambda% (pv 1)) (no_implicit_lambda% (pv 5)) (fun _ _ => rfl))))) pa_nil))))))
        (no_implicit_lambda% (pss_one (no_implicit_lambda% (ps_set (i := 3) nd rfl (Or.inl rfl) (no_implicit_lambda% (pe_op op_fdivL (no_implicit_lambda% (pv 3)) (no_implicit_lambda% (pe_ix (ix_listK K) (no_implicit_lambda% (pv 1)) (no_implicit_lambda% (pv 5)) (fun _ _ => rfl))))))))))) (no_implicit_lambda% (pss_one (no_implicit_lambda% (ps_expr (no_implicit_lambda% (pe_bmK K PySem.F.plainAttrs_list PySem.F.slot_list_append PySem.F.type_list_append mt_append (no_implicit_lambda% (pv 4)) (no_implicit_lambda% (pa_cons (no_implicit_lambda% (pe_op op_mod (no_implicit_lambda% (pe_cal C__law_mixed hr (no_implicit_lambda% (pa_cons (no_implicit_lambda% (pv 0)) (no_implicit_lambda% (pa_cons (no_implicit_lambda% (pv 5)) (no_implicit_lambda% (pa_cons (no_implicit_lambda% (pv 2)) pa_nil)))))))) (no_implicit_lambda% (pe_ix (ix_listK K) (no_implicit_lambda% (pv 1)) (no_implicit_lambda% (pv 5)) (fun _ _ => rfl))))) pa_nil))))))))))))))
        (no_implicit_lambda% (pss_one (no_implicit_lambda% (ps_ret (no_implicit_lambda% (pv 4)))))))))))))), ?_⟩
    walk_at "rd"
    refine rd_ifJ (fun σ' H' => H' = H ∧ ∃ l, σ' = [some (.int c), some (.ref w), some (.int p), some (.int l), none, none]) ?_ ?_
    · walk_at "rd"
      refine ite2 (fun h => ?_) (fun h => ?_)
      · walk_at "rd"
        exact ⟨rfl, _, rfl⟩
      · walk_at "rd"
        exact ⟨rfl, _, rfl⟩
    rintro σ' H' ⟨rfl, l, rfl⟩
    walk_at "rd"
    refine ⟨small_line (by simp), rd_new fun f H1 e1 hf hfn => ?_⟩
    walk_at "rd"
    refine rd_lenL (SqL.of (e1 _ _ hw)) ?_
    rw [List.length_map]
    walk_at "rd"
    refine rd_i1x (by omega) ?_
    refine forR (fun i σ H2 => Ext H' H2 ∧ ∃ (l : Int) (k : Option V) (ds : List Int), σ = [some (.int c), some (.ref w), some (.int p), some (.int l), some (.ref f), k] ∧ H2 f = some (.lst (ds.map V.int)) ∧ ds.length = i ∧ ∀ (i : Nat) d x, ds[i]? = some d → ws[i]? = some x → 0 ≤ d ∧ d < x)
      ⟨e1, l, none, [], rfl, hf, rfl, fun i d x hd => by simp at hd⟩ ?_ ?_
    · rintro i σ H2 hi ⟨e2, l, k, ds, rfl, hf2, hds, hb⟩
      rw [Int.toNat_natCast] at hi
      have hwi : ws[i]? = some ws[i] := List.getElem?_eq_getElem hi
      have hx := hpos ws[i] (List.getElem_mem hi)
      have hat : atI (ws.map V.int) (0 + (i : Int)) = some (.int ws[i]) := by
        rw [Int.zero_add]
        exact atI_nat (by rw [List.getElem?_map, hwi]; rfl)
      have next : ∀ d, 0 ≤ d → d < ws[i] → ∀ (j : Nat) (d' x : Int), (ds ++ [d])[j]? = some d' → ws[j]? = some x → 0 ≤ d' ∧ d' < x := fun d h0 h1 j d' x hj hx' => by
        rcases Nat.lt_or_ge j ds.length with h | h
        · rw [List.getElem?_append_left h] at hj
          exact hb j d' x hj hx'
        · rw [List.getElem?_append_right h] at hj
          have hj0 : j - ds.length = 0 := by
            rcases Nat.eq_zero_or_pos (j - ds.length) with h | h
            · exact h
            · rw [List.getElem?_eq_none (by simp; omega)] at hj; cases hj
          rw [hj0] at hj
          have hji : j = i := by omega
          subst hji
          rw [hwi] at hx'
          cases hx'
          have : d = d' := by simpa using hj
          rw [← this]
          exact ⟨h0, h1⟩
      walk_at "rd"
      refine rd_ifN ?_
      walk_at "rd"
      refine ite2 (fun h => ?_) (fun h => ?_)
      · have h' : 1 < l := by simpa using h
        walk_at "rd"
        refine ⟨rd_tyL (SqL.of hf2), ?_⟩
        walk_at "rd"
        refine rd_ixL (SqL.of (e2 _ _ hw)) hat ?_
        refine rd_I (show 0 < ws[i] by omega) ?_
        walk_at "rd"
        refine rd_append hf2 (by rw [List.length_map]; exact Nat.lt_of_le_of_lt (show ds.length ≤ 10000 by omega) (by decide)) ?_
        walk_at "rd"
        refine rd_ixL (SqL.of (ext_write e2 hfn _ _ hw)) hat ?_
        refine rd_I (show 0 < ws[i] ∧ ws[i] < 2 ^ 64 by omega) ?_
        walk_at "rd"
        refine ⟨ext_write e2 hfn, _, _, ds ++ [l % ws[i]], rfl, ?_, by rw [List.length_append, hds]; rfl, next _ (Int.emod_nonneg _ (by omega)) (Int.emod_lt_of_pos _ (by omega))⟩
        rw [upd_same, List.map_append]
        rfl
      · walk_at "rd"
        refine ⟨rd_tyL (SqL.of hf2), ?_⟩
        walk_at "rd"
        refine ⟨c, 0 + (i : Int), p, rfl, by omega, by omega, hp, fun z hz0 hz1 => ?_⟩
        walk_at "rd"
        refine rd_ixL (SqL.of (e2 _ _ hw)) hat ?_
        refine rd_I (show 0 < ws[i] by omega) ?_
        walk_at "rd"
        refine rd_append hf2 (by rw [List.length_map]; exact Nat.lt_of_le_of_lt (show ds.length ≤ 10000 by omega) (by decide)) ?_
        walk_at "rd"
        refine ⟨ext_write e2 hfn, _, _, ds ++ [z % ws[i]], rfl, ?_, by rw [List.length_append, hds]; rfl, next _ (Int.emod_nonneg _ (by omega)) (Int.emod_lt_of_pos _ (by omega))⟩
        rw [upd_same, List.map_append]
        rfl
    · rintro σ H2 ⟨e2, l, k, ds, rfl, hf2, hds, hb⟩
      walk_at "rd"
      exact q f ds H2 e2 hf2 hfn (by rw [hds, Int.toNat_natCast]) hb
noncomputable def sp__law_spare (K : PySem.W.Frag) : Sp := fun vs H Q _ => ∃ c w, vs = [.int c, .int w] ∧ 0 < w ∧ w < 2 ^ 64 ∧ ∀ z, Q (.int z) H
noncomputable abbrev s__law_spare : Stmt := stq 147
theorem sc__law_spare : FnScope ["_law_cell_here", "_law_width"] ["_law_cell_here", "_law_width"] (defScope s__law_spare) := ⟨rfl, rfl, rfl, by decide +kernel, rfl, by decide +kernel, by decide +kernel⟩
theorem ok__law_spare {P : Program} {w : World} {K : PySem.W.Frag} {mg : Str → Option Value} {base : Heap} (D : Dfn K mg "_law_spare" s__law_spare ["_law_cell_here", "_law_width"]) (T : Blt mg) : Cal P w K mg base "_law_spare" 1 ["_law_cell_here", "_law_width"] (sp__law_spare K) := by
  have nd := (sc__law_spare).nd
  refine D.ok sc__law_spare (fun vs H Q E h => ?_) (fun X hX H vs Q E h => ?_)
  · obtain ⟨c, w, rfl, _⟩ := h; rfl
  · obtain ⟨f, cdv, A, outer, s, H0, E0, rfl, hr⟩ := hX
    obtain ⟨c, w, rfl, h1, h2, q⟩ := h
    refine ⟨_, (no_implicit_lambda% (pss_cons (no_implicit_lambda% (ps_if (no_implicit_lambda% (pt_cmpR op_ge (no_implicit_lambda% (pv 0)) (no_implicit_lambda% (pe_op op_pow pe_int pe_int)) (nomark _))) (no_implicit_lambda% (pss_one (no_implicit_lambda% (ps_ret (no_implicit_lambda% (pe_op op_add (no_implicit_lambda% (pe_op op_fdivL (no_implicit_lambda% (pe_op op_sub (no_implicit_lambda% (pv 0)) (no_implicit_lambda% (pe_op op_pow pe_int pe_int)))) (no_implicit_lambda% (pv 1)))) (no_implicit_lambda% (pe_op op_pow pe_int pe_int)))))))) pss_nil))
        (no_implicit_lambda% (pss_one (no_implicit_lambda% (ps_ret (no_implicit_lambda% (pe_op op_add (no_implicit_lambda% (pv 0)) pe_int)))))))), ?_⟩
    walk_at "rd"
    refine ite2 (fun h => ?_) (fun h => ?_)
    · walk_at "rd"
      exact q _
    · walk_at "rd"
      exact q _
noncomputable def keyL : List V → List Key
  | [.int a, .str b, .int c, .str d] => [.inl a, .inr b, .inl c, .inr d]
  | _ => []
noncomputable def keyV (H : Hp) : V → List Key
  | .ref p => match H p with
    | some (.tup xs) => keyL xs
    | _ => []
  | _ => []
theorem key_tup {H : Hp} {p : Addr} {xs : List V} (h : H p = some (.tup xs)) : keyV H (.ref p) = keyL xs := by
  unfold keyV
  dsimp only
  rw [h]
theorem way_of {H : Hp} {m : Int} {v : V} (h : wayV H m v = true) : ∃ p a b c d, v = .ref p ∧ H p = some (.tup [.int a, .str b, .int c, .str d]) ∧ (0 ≤ a ∧ a < m) ∧ (0 ≤ c ∧ c < m) ∧ deedV (.str b) = true ∧ signV (.str d) = true := by
  cases ht : isTup H v with
  | false => rw [way_no ht] at h; cases h
  | true =>
    obtain ⟨p, xs, rfl, hp⟩ := isTup_of ht
    rw [way_tup hp] at h
    by_cases h4 : xs.length = 4
    · obtain ⟨a, b, c, d, rfl⟩ := four h4
      unfold wayL at h
      simp only [Bool.and_eq_true] at h
      obtain ⟨h1, h2, h3, h5⟩ := h
      cases a with
      | int i =>
        cases c with
        | int j =>
          cases b with
          | str y =>
            cases d with
            | str z =>
              unfold roomV at h1 h2
              simp only [Bool.and_eq_true, decide_eq_true_eq] at h1 h2
              exact ⟨p, i, y, j, z, rfl, hp, h1, h2, h3, h5⟩
            | _ => cases h5
          | _ => cases h3
        | _ => cases h2
      | _ => cases h1
    · rw [wayL_len h4] at h
      cases h
theorem ways_keys {H : Hp} {m : Int} : ∀ {xs : List V}, xs.all (wayV H m) = true → ∃ bs : List Addr, xs = bs.map V.ref ∧ KeysAt H bs (xs.map (keyV H))
  | [], _ => ⟨[], rfl, rfl, fun j b k e => by simp at e⟩
  | x :: xs, h => by
    rw [List.all_cons, Bool.and_eq_true] at h
    obtain ⟨bs, e, h1, h2⟩ := ways_keys h.2
    obtain ⟨p, a, b, c, d, rfl, hp, _⟩ := way_of h.1
    refine ⟨p :: bs, by rw [List.map_cons, ← e], by rw [List.length_cons, List.map_cons, List.length_cons, h1], fun j b' k e1 e2 => ?_⟩
    cases j with
    | zero =>
      cases e1
      rw [List.map_cons, key_tup hp] at e2
      cases e2
      exact hp
    | succ j => exact h2 j b' k e1 e2
theorem wayV_ext {H H' : Hp} {m : Int} {n : Nat} {v : V} (e : Ext H H') (h : Thg H n v) : wayV H' m v = wayV H m v := by
  cases v with
  | ref p =>
    cases n with
    | zero => exact h.elim
    | succ n =>
      obtain ⟨xs, h1, _⟩ := h
      unfold wayV
      dsimp only
      rcases h1 with h1 | h1 <;> rw [h1, e _ _ h1]
  | _ => rfl
theorem keyV_ext {H H' : Hp} {n : Nat} {v : V} (e : Ext H H') (h : Thg H n v) : keyV H' v = keyV H v := by
  cases v with
  | ref p =>
    cases n with
    | zero => exact h.elim
    | succ n =>
      obtain ⟨xs, h1, _⟩ := h
      unfold keyV
      dsimp only
      rcases h1 with h1 | h1 <;> rw [h1, e _ _ h1]
  | _ => rfl
noncomputable def waysL (H : Hp) (m : Int) (xs : List V) : Bool := decide (xs.length ≤ 100) && (xs.all (wayV H m) && decide (xs.map (keyV H)).Nodup)
noncomputable def waysV (H : Hp) (m : Int) : V → Bool
  | .ref p => match H p with
    | some (.tup xs) => waysL H m xs
    | _ => false
  | _ => false
theorem ways_no {H : Hp} {m : Int} {v : V} (h : isTup H v = false) : waysV H m v = false := by
  cases v with
  | ref p =>
    unfold isTup at h
    unfold waysV
    dsimp only at h ⊢
    split
    · rename_i xs e
      rw [e] at h
      cases h
    · rfl
  | _ => rfl
theorem ways_tup {H : Hp} {m : Int} {p : Addr} {xs : List V} (h : H p = some (.tup xs)) : waysV H m (.ref p) = waysL H m xs := by
  unfold waysV
  dsimp only
  rw [h]
open Classical in
theorem len_le {α : Type} : ∀ {D l : List α}, D.Nodup → (∀ k ∈ D, k ∈ l) → D.length ≤ l.length
  | [], l, _, _ => Nat.zero_le _
  | d :: D, l, hn, hs => by
    have hn' := List.nodup_cons.mp hn
    have hm := hs d List.mem_cons_self
    have := len_le (D := D) (l := l.erase d) hn'.2 fun k hk => (List.mem_erase_of_ne (by rintro rfl; exact hn'.1 hk)).mpr (hs k (List.mem_cons_of_mem _ hk))
    rw [List.length_erase_of_mem hm] at this
    have h0 : 0 < l.length := List.length_pos_of_mem hm
    rw [List.length_cons]
    omega
theorem nodup_iff {α : Type} {D l : List α} (hn : D.Nodup) (hm : ∀ k, k ∈ D ↔ k ∈ l) : D.length = l.length ↔ l.Nodup := by
  constructor
  · intro e
    exact (perm_by hn (fun k hk => (hm k).mp hk) e.symm).nodup_iff.mpr hn
  · intro hl
    have h1 := len_le hn fun k hk => (hm k).mp hk
    have h2 := len_le hl fun k hk => (hm k).mpr hk
    omega
noncomputable def sp_are_ways (K : PySem.W.Frag) : Sp := fun vs H Q _ => ∃ v m, vs = [v, .int m] ∧ Thg H 3 v ∧ ∀ H', Ext H H' → Q (.bl (waysV H m v)) H'
noncomputable abbrev s_are_ways : Stmt := stq 37
theorem sc_are_ways : FnScope ["thing", "many"] ["thing", "many"] (defScope s_are_ways) := ⟨rfl, rfl, rfl, by decide +kernel, rfl, by decide +kernel, by decide +kernel⟩
theorem ok_are_ways {P : Program} {w : World} {K : PySem.W.Frag} {mg : Str → Option Value} {base : Heap} (D : Dfn K mg "are_ways" s_are_ways ["thing", "many"]) (T : Blt mg) (g_GREATEST_WAYS : ∃ t, mg "GREATEST_WAYS" = some (.int 100 t)) (C_is_way : Cal P w K mg base "is_way" 3 ["thing", "many"] (sp_is_way K)) : Cal P w K mg base "are_ways" 4 ["thing", "many"] (sp_are_ways K) := by
  have nd := (sc_are_ways).nd
  refine D.ok sc_are_ways (fun vs H Q E h => ?_) (fun X hX H vs Q E h => ?_)
  · obtain ⟨p, m, rfl, _⟩ := h; rfl
  · obtain ⟨f, cdv, A, outer, s, H0, E0, rfl, hr⟩ := hX
    obtain ⟨t_GREATEST_WAYS, c_GREATEST_WAYS⟩ := g_GREATEST_WAYS
    obtain ⟨v, m, rfl, ht, q⟩ := h
    obtain ⟨n, hk⟩ := ht.kind
    refine ⟨_, (no_implicit_lambda% (pss_cons (no_implicit_lambda% (ps_if (no_implicit_lambda% (PW.pt (pw_or (no_implicit_lambda% (pt_not (no_implicit_lambda% (pt_val (no_implicit_lambda% (pe_callB call_isi rfl T.isinstance_ PyProof.Rows.boot_isinstance (no_implicit_lambda% (pa_cons (no_implicit_lambda% (pv 0)) (no_implicit_lambda% (pa_cons (no_implicit_lambda% (pe_bltn (v := .ty "tuple") rfl T.tuple_ PyProof.Rows.boot_tuple rfl)) pa_nil)))))))))) (pw_or1 (no_implicit_lambda% (pt_cmpR op_gt (no_implicit_lambda% (pe_callB (call_lenK K) rfl T.len_ PySem.boot_len (no_implicit_lambda% (pa_cons (no_implicit_lambda% (pv 0)) pa_nil)))) (no_implicit_lambda% (pe_glob (v := .int 100) rfl c_GREATEST_WAYS ⟨_, rfl⟩)) (nomark _))))))) (no_implicit_lambda% (pss_one (no_implicit_lambda% (ps_ret pe_bl)))) pss_nil))
        (no_implicit_lambda% (pss_one (no_implicit_lambda% (ps_ret (no_implicit_lambda% (pe_and (no_implicit_lambda% (pe_callB (call_allL K rfl) rfl T.all_ PyProof.Rows.boot_all (no_implicit_lambda% (pa_cons (no_implicit_lambda% (pe_comp ["way"] [1] (no_implicit_lambda% (pi_tupK K (no_implicit_lambda% (pv 0)))) (fun _ => (no_implicit_lambda% (pg_name (i := 0) (show (["way", "many"] : List Str).Nodup from by decide +kernel) rfl (Or.inl rfl) (Or.inr rfl)))) (fun _ => pcs_nil) (fun _ => (no_implicit_lambda% (pe_cal C_is_way hr (no_implicit_lambda% (pa_cons (no_implicit_lambda% (pv 0)) (no_implicit_lambda% (pa_cons (no_implicit_lambda% (pv 1)) pa_nil))))))))) pa_nil)))) (pe_one (no_implicit_lambda% (pe_cmpR op_eq (no_implicit_lambda% (pe_callB call_lenSD rfl T.len_ PySem.boot_len (no_implicit_lambda% (pa_cons (no_implicit_lambda% (pe_callTy (call_setD hr) rfl T.set_ PyProof.Rows.boot_set (no_implicit_lambda% (pa_cons (no_implicit_lambda% (pv 0)) pa_nil)))) pa_nil)))) (no_implicit_lambda% (pe_callB (call_lenK K) rfl T.len_ PySem.boot_len (no_implicit_lambda% (pa_cons (no_implicit_lambda% (pv 0)) pa_nil)))) (nomark _)))))))))))), ?_⟩
    walk_at "rd"
    refine rd_isi hk (kind_tuple hk) ?_
    walk_at "rd"
    cases hv : isTup H v with
    | false =>
      refine iteT ?_
      walk_at "rd"
      rw [ways_no hv] at q
      exact q H fun _ _ z => z
    | true =>
      refine iteF ?_
      obtain ⟨p, xs, rfl, hp⟩ := isTup_of hv
      obtain ⟨hx1, hx2⟩ := ht.items hp
      rw [ways_tup hp] at q
      unfold waysL at q
      walk_at "rd"
      refine rd_lenT (SqT.of hp) ?_
      walk_at "rd"
      by_cases h4 : xs.length ≤ 100
      · rw [decide_eq_false (show ¬ ((100 : Int) < ((xs.length : Nat) : Int)) by omega)]
        rw [decide_eq_true h4, Bool.true_and] at q
        refine iteF ?_
        walk_at "rd"
        refine rd_iTx (SqT.of hp) ?_
        refine comp_tup (xs := xs) (fun i ys H' => Ext H H' ∧ ys = ((xs.take i).map (wayV H m)).map V.bl) (small9 hx1) ⟨fun _ _ z => z, rfl⟩ (fun i ys H' hi h => ⟨SqT.of (h.1 _ _ hp), by rw [h.2, List.length_map, List.length_map, List.length_take]; omega⟩) ?_ ?_
        · rintro i x ys H' hx ⟨e, rfl⟩
          have hxt := hx2 x (List.mem_of_getElem? hx)
          walk_at "rd"
          refine iteT ?_
          walk_at "rd"
          refine ⟨x, m, rfl, hxt.ext e, e, ?_⟩
          rw [wayV_ext e hxt, List.take_add_one, hx]
          simp
        · rintro ys H' pl ⟨e, rfl⟩ hpl
          rw [List.take_length]
          walk_at "rd"
          have eN : Ext H (upd H' pl (.lst ((xs.map (wayV H m)).map V.bl))) := e.trans (ext_upd hpl)
          refine ⟨pl, xs.map (wayV H m), rfl, SqL.of upd_same, ?_⟩
          have ea : (xs.map (wayV H m)).all id = xs.all (wayV H m) := by
            rw [List.all_map]
            rfl
          rw [ea]
          walk_at "rd"
          cases hall : xs.all (wayV H m) with
          | false =>
            refine iteF ?_
            rw [hall, Bool.false_and] at q
            exact q _ eN
          | true =>
            refine iteT ?_
            rw [hall, Bool.true_and] at q
            obtain ⟨bs, ebs, hka⟩ := ways_keys hall
            generalize upd H' pl (.lst ((xs.map (wayV H m)).map V.bl)) = H2 at eN ⊢
            walk_at "rd"
            refine ⟨p, bs, xs.map (keyV H), rfl, .inl (by rw [← ebs]; exact eN _ _ hp), hka.ext eN, by rw [List.length_map]; omega, fun l L hl hnd hmem hL => ?_⟩
            have hll : L.length ≤ xs.length := by
              have := len_le hnd fun k hk => (hmem k).mp hk
              rwa [List.length_map, List.length_map] at this
            walk_at "rd"
            refine ⟨l, L, rfl, upd_same, by omega, ?_⟩
            walk_at "rd"
            have eL : Ext H (upd H2 l (setK P w l L)) := eN.trans (ext_upd hl)
            refine rd_lenT (SqT.of (eL _ _ hp)) ?_
            walk_at "rd"
            have hiff := nodup_iff hnd hmem
            rw [List.length_map, List.length_map] at hiff
            have eb : decide ((((L.length : Nat) : Int)) = ((xs.length : Nat) : Int)) = decide ((xs.map (keyV H)).Nodup) := by
              by_cases hq : (xs.map (keyV H)).Nodup
              · rw [decide_eq_true (show ((L.length : Nat) : Int) = ((xs.length : Nat) : Int) by have := hiff.mpr hq; omega)]
                exact (decide_eq_true hq).symm
              · rw [decide_eq_false (show ¬ ((L.length : Nat) : Int) = ((xs.length : Nat) : Int) from fun z => hq (hiff.mp (by omega)))]
                exact (decide_eq_false hq).symm
            rw [eb]
            exact q _ eL
      · rw [decide_eq_true (show ((100 : Int) < ((xs.length : Nat) : Int)) by omega)]
        rw [decide_eq_false h4, Bool.false_and] at q
        refine iteT ?_
        walk_at "rd"
        exact q H fun _ _ z => z
noncomputable def houseL (H : Hp) : List V → Bool
  | [.int m, q] => decide (1 ≤ m) && (decide (m ≤ 12) && waysV H m q)
  | _ => false
noncomputable def houseV (H : Hp) : V → Bool
  | .ref p => match H p with
    | some (.tup xs) => houseL H xs
    | _ => false
  | _ => false
theorem house_no {H : Hp} {v : V} (h : isTup H v = false) : houseV H v = false := by
  cases v with
  | ref p =>
    unfold isTup at h
    unfold houseV
    dsimp only at h ⊢
    split
    · rename_i xs e
      rw [e] at h
      cases h
    · rfl
  | _ => rfl
theorem house_tup {H : Hp} {p : Addr} {xs : List V} (h : H p = some (.tup xs)) : houseV H (.ref p) = houseL H xs := by
  unfold houseV
  dsimp only
  rw [h]
theorem houseL_len {H : Hp} {xs : List V} (h : xs.length ≠ 2) : houseL H xs = false := by
  unfold houseL
  split
  · exact absurd rfl h
  · rfl
theorem houseL_int {H : Hp} {a b : V} (h : isInt a = false) : houseL H [a, b] = false := by
  cases a <;> first | rfl | cases h
theorem two_of {xs : List V} (h : xs.length = 2) : ∃ a b, xs = [a, b] := by
  match xs, h with
  | [a, b], _ => exact ⟨a, b, rfl⟩
noncomputable def sp_is_house (K : PySem.W.Frag) : Sp := fun vs H Q _ => ∃ v, vs = [v] ∧ Thg H 4 v ∧ ∀ H', Ext H H' → Q (.bl (houseV H v)) H'
noncomputable abbrev s_is_house : Stmt := stq 38
theorem sc_is_house : FnScope ["thing"] ["thing"] (defScope s_is_house) := ⟨rfl, rfl, rfl, by decide +kernel, rfl, by decide +kernel, by decide +kernel⟩
theorem ok_is_house {P : Program} {w : World} {K : PySem.W.Frag} {mg : Str → Option Value} {base : Heap} (D : Dfn K mg "is_house" s_is_house ["thing"]) (T : Blt mg) (g_GREATEST_MANY : ∃ t, mg "GREATEST_MANY" = some (.int 12 t)) (C_are_ways : Cal P w K mg base "are_ways" 4 ["thing", "many"] (sp_are_ways K)) (C_is_whole : Cal P w K mg base "is_whole" 1 ["thing"] (sp_is_whole K)) : Cal P w K mg base "is_house" 5 ["thing"] (sp_is_house K) := by
  have nd := (sc_is_house).nd
  refine D.ok sc_is_house (fun vs H Q E h => ?_) (fun X hX H vs Q E h => ?_)
  · obtain ⟨p, rfl, _⟩ := h; rfl
  · obtain ⟨f, cdv, A, outer, s, H0, E0, rfl, hr⟩ := hX
    obtain ⟨t_GREATEST_MANY, c_GREATEST_MANY⟩ := g_GREATEST_MANY
    obtain ⟨v, rfl, ht, q⟩ := h
    obtain ⟨n, hk⟩ := ht.kind
    refine ⟨_, (no_implicit_lambda% (pss_cons (no_implicit_lambda% (ps_if (no_implicit_lambda% (PW.pt (pw_or (no_implicit_lambda% (pt_not (no_implicit_lambda% (pt_val (no_implicit_lambda% (pe_callB call_isi rfl T.isinstance_ PyProof.Rows.boot_isinstance (no_implicit_lambda% (pa_cons (no_implicit_lambda% (pv 0)) (no_implicit_lambda% (pa_cons (no_implicit_lambda% (pe_bltn (v := .ty "tuple") rfl T.tuple_ PyProof.Rows.boot_tuple rfl)) pa_nil)))))))))) (pw_or1 (no_implicit_lambda% (pt_cmpR op_ne (no_implicit_lambda% (pe_callB (call_lenK K) rfl T.len_ PySem.boot_len (no_implicit_lambda% (pa_cons (no_implicit_lambda% (pv 0)) pa_nil)))) pe_int (nomark _))))))) (no_implicit_lambda% (pss_one (no_implicit_lambda% (ps_ret pe_bl)))) pss_nil))
        (no_implicit_lambda% (pss_one (no_implicit_lambda% (ps_ret (no_implicit_lambda% (pe_and (no_implicit_lambda% (pe_cal C_is_whole hr (no_implicit_lambda% (pa_cons (no_implicit_lambda% (pe_ix (ix_tupK K) (no_implicit_lambda% (pv 0)) pe_int (fun _ _ => rfl))) pa_nil)))) (pe_and (no_implicit_lambda% (pe_chain op_le op_le pe_int (no_implicit_lambda% (pe_ix (ix_tupK K) (no_implicit_lambda% (pv 0)) pe_int (fun _ _ => rfl))) (no_implicit_lambda% (pe_glob (v := .int 12) rfl c_GREATEST_MANY ⟨_, rfl⟩)))) (pe_one (no_implicit_lambda% (pe_cal C_are_ways hr (no_implicit_lambda% (pa_cons (no_implicit_lambda% (pe_ix (ix_tupK K) (no_implicit_lambda% (pv 0)) pe_int (fun _ _ => rfl))) (no_implicit_lambda% (pa_cons (no_implicit_lambda% (pe_ix (ix_tupK K) (no_implicit_lambda% (pv 0)) pe_int (fun _ _ => rfl))) pa_nil)))))))))))))))), ?_⟩
    walk_at "rd"
    refine rd_isi hk (kind_tuple hk) ?_
    walk_at "rd"
    cases hv : isTup H v with
    | false =>
      refine iteT ?_
      walk_at "rd"
      rw [house_no hv] at q
      exact q H fun _ _ z => z
    | true =>
      refine iteF ?_
      obtain ⟨p, xs, rfl, hp⟩ := isTup_of hv
      obtain ⟨hx1, hx2⟩ := ht.items hp
      rw [house_tup hp] at q
      walk_at "rd"
      refine rd_lenT (SqT.of hp) ?_
      walk_at "rd"
      by_cases h4 : xs.length = 2
      · obtain ⟨a, b, rfl⟩ := two_of h4
        have ta := hx2 a (by simp)
        have tb := hx2 b (by simp)
        obtain ⟨ka, hka⟩ := ta.kind
        refine iteF ?_
        walk_at "rd"
        refine rd_ixT (SqT.of hp) (v := a) rfl ?_
        walk_at "rd"
        refine ⟨a, ka, rfl, hka, ?_⟩
        refine rd_exb ?_
        cases ha : isInt a with
        | false =>
          refine iteF ?_
          rw [houseL_int ha] at q
          exact q H fun _ _ z => z
        | true =>
          obtain ⟨m, rfl⟩ := isInt_of ha
          refine iteT ?_
          unfold houseL at q
          dsimp only at q
          walk_at "rd"
          refine rd_ixT (SqT.of hp) (v := .int m) rfl ?_
          walk_at "rd"
          cases h1 : decide (1 ≤ m) with
          | false =>
            refine iteF ?_
            walk_at "rd"
            refine iteF ?_
            rw [h1] at q
            exact q H fun _ _ z => z
          | true =>
            refine iteT ?_
            walk_at "rd"
            rw [h1, Bool.true_and] at q
            cases h2 : decide (m ≤ 12) with
            | false =>
              refine iteF ?_
              rw [h2] at q
              exact q H fun _ _ z => z
            | true =>
              refine iteT ?_
              walk_at "rd"
              refine rd_ixT (SqT.of hp) (v := b) rfl ?_
              walk_at "rd"
              refine rd_ixT (SqT.of hp) (v := .int m) rfl ?_
              walk_at "rd"
              rw [h2, Bool.true_and] at q
              exact ⟨b, m, rfl, tb, q⟩
      · rw [houseL_len h4] at q
        rw [decide_eq_false (show ¬ ((xs.length : Nat) : Int) = 2 by omega)]
        refine iteT ?_
        walk_at "rd"
        exact q H fun _ _ z => z
noncomputable def WaysAt (H : Hp) (p : Addr) (kk : List (List Key)) : Prop := ∃ bs : List Addr, H p = some (.tup (bs.map V.ref)) ∧ bs.length = kk.length ∧ ∀ (j : Nat) (b : Addr) (k : List Key), bs[j]? = some b → kk[j]? = some k → H b = some (.tup (k.map kV))
theorem WaysAt.ext {H H' : Hp} {p : Addr} {kk : List (List Key)} (e : Ext H H') (h : WaysAt H p kk) : WaysAt H' p kk := by
  obtain ⟨bs, h1, h2, h3⟩ := h
  exact ⟨bs, e _ _ h1, h2, fun j b k e1 e2 => e _ _ (h3 j b k e1 e2)⟩
structure Way where
  room : Int
  deed : Str
  other : Int
  sign : Str
  deriving DecidableEq
noncomputable abbrev Way.key (w : Way) : List Key := [.inl w.room, .inr w.deed, .inl w.other, .inr w.sign]
noncomputable abbrev Way.vs (w : Way) : List V := [.int w.room, .str w.deed, .int w.other, .str w.sign]
theorem Way.key_inj {w u : Way} (h : w.key = u.key) : w = u := by
  cases w; cases u
  simp only [Way.key, List.cons.injEq, Sum.inl.injEq, Sum.inr.injEq] at h
  obtain ⟨rfl, rfl, rfl, rfl, _⟩ := h
  rfl
noncomputable def okSign (z : Str) : Prop := ∃ c : Nat, 97 ≤ c ∧ c ≤ 122 ∧ z = ⟨#[c]⟩
noncomputable def okDeed (z : Str) : Prop := z = "up" ∨ z = "down" ∨ z = "stay" ∨ z = "zero"
structure Way.Ok (m : Int) (w : Way) : Prop where
  r0 : 0 ≤ w.room
  r1 : w.room < m
  o0 : 0 ≤ w.other
  o1 : w.other < m
  dd : okDeed w.deed
  sg : okSign w.sign
structure HOuse (m : Int) (ws : List Way) : Prop where
  m1 : 1 ≤ m
  m12 : m ≤ 12
  few : ws.length ≤ 100
  ok : ∀ w ∈ ws, w.Ok m
  nd : ws.Nodup
noncomputable def HouseAt (H : Hp) (v : V) (m : Int) (ws : List Way) : Prop := ∃ p q, v = .ref p ∧ H p = some (.tup [.int m, .ref q]) ∧ WaysAt H q (ws.map Way.key)
theorem HouseAt.ext {H H' : Hp} {v : V} {m : Int} {ws : List Way} (e : Ext H H') (h : HouseAt H v m ws) : HouseAt H' v m ws := by
  obtain ⟨p, q, rfl, h1, h2⟩ := h
  exact ⟨p, q, rfl, e _ _ h1, h2.ext e⟩
theorem WaysAt.item {H : Hp} {ws : List Way} {bs : List Addr} (h : ∀ (j : Nat) (b : Addr) (k : List Key), bs[j]? = some b → (ws.map Way.key)[j]? = some k → H b = some (.tup (k.map kV))) {j : Nat} {b : Addr} {w : Way} (e1 : bs[j]? = some b) (e2 : ws[j]? = some w) : H b = some (.tup w.vs) :=
  h j b w.key e1 (by rw [List.getElem?_map, e2]; rfl)
noncomputable def AlW (H : Hp) (bs : List Addr) (ws : List Way) : Prop := bs.length = ws.length ∧ ∀ (j : Nat) (b : Addr) (w : Way), bs[j]? = some b → ws[j]? = some w → H b = some (.tup w.vs)
theorem AlW.ext {H H' : Hp} {bs : List Addr} {ws : List Way} (e : Ext H H') (h : AlW H bs ws) : AlW H' bs ws := ⟨h.1, fun j b w e1 e2 => e _ _ (h.2 j b w e1 e2)⟩
theorem AlW.put {H : Hp} {f : Addr} {xs ys : List V} {bs : List Addr} {ws : List Way} (hf : H f = some (.lst xs)) (h : AlW H bs ws) : AlW (upd H f (.lst ys)) bs ws := ⟨h.1, fun j b w e1 e2 => by
  have := h.2 j b w e1 e2
  rw [upd_ne (ne_of this hf (by intro z; cases z))]
  exact this⟩
theorem AlW.nil (H : Hp) : AlW H [] [] := ⟨rfl, fun j b w e => by simp at e⟩
theorem AlW.snoc {H : Hp} {bs : List Addr} {ws : List Way} {b : Addr} {w : Way} (h : AlW H bs ws) (hb : H b = some (.tup w.vs)) : AlW H (bs ++ [b]) (ws ++ [w]) := by
  refine ⟨by simp [h.1], fun j b' w' e1 e2 => ?_⟩
  rcases Nat.lt_or_ge j bs.length with hj | hj
  · rw [List.getElem?_append_left hj] at e1
    rw [List.getElem?_append_left (by rw [← h.1]; exact hj)] at e2
    exact h.2 j b' w' e1 e2
  · rw [List.getElem?_append_right hj] at e1
    rw [List.getElem?_append_right (by rw [← h.1]; exact hj), ← h.1] at e2
    cases hk : j - bs.length with
    | zero =>
      rw [hk] at e1 e2
      cases e1; cases e2
      exact hb
    | succ k => rw [hk] at e1; simp at e1
theorem AlW.ways {H : Hp} {p : Addr} {bs : List Addr} {ws : List Way} (h : AlW H bs ws) (hp : H p = some (.tup (bs.map V.ref))) : WaysAt H p (ws.map Way.key) :=
  ⟨bs, hp, by rw [List.length_map]; exact h.1, fun j b k e1 e2 => by
    rw [List.getElem?_map] at e2
    obtain ⟨w, hw, rfl⟩ := Option.map_eq_some_iff.mp e2
    exact h.2 j b w e1 hw⟩
theorem WaysAt.al {H : Hp} {p : Addr} {ws : List Way} (h : WaysAt H p (ws.map Way.key)) : ∃ bs : List Addr, H p = some (.tup (bs.map V.ref)) ∧ AlW H bs ws := by
  obtain ⟨bs, h1, h2, h3⟩ := h
  rw [List.length_map] at h2
  exact ⟨bs, h1, h2, fun j b w e1 e2 => WaysAt.item h3 e1 e2⟩
noncomputable abbrev Way.D (w : Way) : PyData := .tuple [.int w.room, .str w.deed, .int w.other, .str w.sign]
structure Way.Lay (w : Way) : Prop where
  d : (PyData.str w.deed).canLay0 = true
  s : (PyData.str w.sign).canLay0 = true
theorem sign_lay : ∀ c : Fin 123, 97 ≤ c.1 → (PyData.str ⟨#[c.1]⟩).canLay0 = true := by decide +kernel
theorem Way.Ok.lay {m : Int} {w : Way} (h : w.Ok m) : w.Lay := by
  constructor
  · rcases h.dd with e | e | e | e <;> rw [e] <;> decide +kernel
  · obtain ⟨c, h1, h2, e⟩ := h.sg
    rw [e]
    exact sign_lay ⟨c, Nat.lt_succ_of_le h2⟩ h1
theorem Way.rep {H : Hp} {b : Addr} {w : Way} (h : H b = some (.tup w.vs)) (l : w.Lay) : RepD H 1 (.ref b) w.D :=
  .inr ⟨b, w.vs, _, rfl, .inl ⟨h, rfl⟩, .cons rfl (.cons ⟨rfl, l.d⟩ (.cons rfl (.cons ⟨rfl, l.s⟩ .nil)))⟩
theorem Way.eqv (w u : Way) : PyData.eqv w.D u.D = decide (w = u) := by
  simp only [PyData.eqv, PyData.eqvAll]
  by_cases h : w = u
  · subst h; simp
  · rw [decide_eq_false h]
    obtain ⟨a, b, c, d⟩ := w
    obtain ⟨a', b', c', d'⟩ := u
    simp only [Way.mk.injEq, not_and] at h
    simp only [Bool.and_true, Bool.and_eq_false_iff, beq_eq_false_iff_ne]
    by_cases h1 : a = a'
    · by_cases h2 : b = b'
      · by_cases h3 : c = c'
        · exact .inr (.inr (.inr (h h1 h2 h3)))
        · exact .inr (.inr (.inl h3))
      · exact .inr (.inl h2)
    · exact .inl h1
theorem AlW.reps {H : Hp} : ∀ {bs : List Addr} {ws : List Way}, AlW H bs ws → (∀ w ∈ ws, w.Lay) → Paired (RepD H 1) (bs.map V.ref) (ws.map Way.D)
  | [], [], _, _ => .nil
  | [], _ :: _, h, _ => by cases h.1
  | _ :: _, [], h, _ => by cases h.1
  | b :: bs, w :: ws, h, l => .cons (Way.rep (h.2 0 b w rfl rfl) (l w List.mem_cons_self)) (AlW.reps ⟨Nat.succ.inj h.1, fun j b w e1 e2 => h.2 (j + 1) b w e1 e2⟩ fun u hu => l u (List.mem_cons_of_mem _ hu))
theorem any_mem (ws : List Way) (w : Way) : ((ws.map Way.D).any fun e => PyData.eqv e w.D) = decide (w ∈ ws) := by
  rw [List.any_map]
  induction ws with
  | nil => rfl
  | cons u ws ih =>
    rw [List.any_cons, ih, Function.comp_apply, Way.eqv]
    by_cases h : w ∈ ws
    · simp [h]
    · by_cases e : u = w
      · simp [e]
      · have : ¬ w = u := fun z => e z.symm
        simp [h, e, this]
noncomputable def sp__law_unlike (K : PySem.W.Frag) : Sp := fun vs H Q _ => ∃ l bs ws, vs = [.ref l] ∧ H l = some (.lst (bs.map V.ref)) ∧ AlW H bs ws ∧ (∀ w ∈ ws, Way.Lay w) ∧ ws.length ≤ 200 ∧
  ∀ q H' us, Ext H H' → WaysAt H' q (List.map Way.key us) → us.Nodup → (∀ u ∈ us, u ∈ ws) → us.length ≤ ws.length → Q (.ref q) H'
noncomputable abbrev s__law_unlike : Stmt := stq 148
theorem sc__law_unlike : FnScope ["_law_ways", "_law_found", "_law_way"] ["_law_ways"] (defScope s__law_unlike) := ⟨rfl, rfl, rfl, by decide +kernel, rfl, by decide +kernel, by decide +kernel⟩
theorem ok__law_unlike {P : Program} {w : World} {K : PySem.W.Frag} {mg : Str → Option Value} {base : Heap} (D : Dfn K mg "_law_unlike" s__law_unlike ["_law_ways"]) (T : Blt mg) : Cal P w K mg base "_law_unlike" 1 ["_law_ways"] (sp__law_unlike K) := by
  have nd := (sc__law_unlike).nd
  refine D.ok sc__law_unlike (fun vs H Q E h => ?_) (fun X hX H vs Q E h => ?_)
  · obtain ⟨l, bs, ws, rfl, _⟩ := h; rfl
  · obtain ⟨f, cdv, A, outer, s, H0, E0, rfl, hr⟩ := hX
    obtain ⟨l, bs, ws, rfl, hl, al, lay, hlen, q⟩ := h
    refine ⟨_, (no_implicit_lambda% (pss_cons (no_implicit_lambda% (ps_set (i := 1) nd rfl (Or.inl rfl) (no_implicit_lambda% (pe_lst pa_nil))))
        (no_implicit_lambda% (pss_cons (no_implicit_lambda% (ps_for PassesOwn.never rfl (no_implicit_lambda% (pi_listK K (no_implicit_lambda% (pv 0)))) (no_implicit_lambda% (pg_name (i := 2) nd rfl (Or.inl rfl))) (no_implicit_lambda% (pss_one (no_implicit_lambda% (ps_ifJ (no_implicit_lambda% (pt_cmpR (op_notInD hr) (no_implicit_lambda% (pv 2)) (no_implicit_lambda% (pv 1)) (by with_unfolding_all rfl))) (no_implicit_lambda% (pss_one (no_implicit_lambda% (ps_expr (no_implicit_lambda% (pe_bmK K PySem.F.plainAttrs_list PySem.F.slot_list_append PySem.F.type_list_append mt_append (no_implicit_lambda% (pv 1)) (no_implicit_lambda% (pa_cons (no_implicit_lambda% (pv 2)) pa_nil)))))))) pss_nil))))))
        (no_implicit_lambda% (pss_one (no_implicit_lambda% (ps_ret (no_implicit_lambda% (pe_callTy (call_tupK K) rfl T.tuple_ PyProof.Rows.boot_tuple (no_implicit_lambda% (pa_cons (no_implicit_lambda% (pv 1)) pa_nil)))))))))))), ?_⟩
    walk_at "rd"
    refine ⟨small_line (by simp), rd_new fun f H1 e1 hf hfn => ?_⟩
    walk_at "rd"
    refine rd_iLx (SqL.of (e1 _ _ hl)) ?_
    refine forL (xs := bs.map V.ref) (fun i σ H2 => Ext H H2 ∧ ∃ (k : Option V) (cs : List Addr) (us : List Way), σ = [some (.ref l), some (.ref f), k] ∧ H2 f = some (.lst (cs.map V.ref)) ∧ AlW H2 cs us ∧ us.Nodup ∧ (∀ u ∈ us, u ∈ ws) ∧ us.length ≤ i)
      ⟨e1, none, [], [], rfl, hf, AlW.nil _, List.nodup_nil, fun u hu => by simp at hu, Nat.le_refl _⟩ (fun i σ H2 _ h => SqL.of (h.1 _ _ hl)) ?_ ?_
    · rintro i x σ H2 hx ⟨e2, k, cs, us, rfl, hf2, al2, nd2, sub2, len2⟩
      rw [List.getElem?_map] at hx
      obtain ⟨b, hb, rfl⟩ := Option.map_eq_some_iff.mp hx
      have hi : i < ws.length := by
        rw [← al.1]
        exact (List.getElem?_eq_some_iff.mp hb).1
      have hwi : ws[i]? = some ws[i] := List.getElem?_eq_getElem hi
      have hbw := e2 _ _ (al.2 i b _ hb hwi)
      walk_at "rd"
      refine rd_ifN ?_
      walk_at "rd"
      refine rd_inD (Way.rep hbw (lay _ (List.getElem_mem hi))) hf2 (al2.reps fun u hu => lay u (sub2 u hu)) (by decide) ?_
      simp only [if_true, any_mem]
      refine rd_exb ?_
      by_cases hm : ws[i] ∈ us
      · rw [decide_eq_true hm]
        refine iteF ?_
        walk_at "rd"
        exact ⟨e2, _, cs, us, rfl, hf2, al2, nd2, sub2, by omega⟩
      · rw [decide_eq_false hm]
        refine iteT ?_
        walk_at "rd"
        refine ⟨rd_tyL (SqL.of hf2), ?_⟩
        walk_at "rd"
        refine rd_append hf2 (by rw [List.length_map, al2.1]; exact Nat.lt_of_le_of_lt (show us.length ≤ 1000 by omega) (by decide)) ?_
        walk_at "rd"
        refine ⟨ext_write e2 hfn, _, cs ++ [b], us ++ [ws[i]], rfl, by rw [upd_same, List.map_append]; rfl, (al2.put hf2).snoc ?_, ?_, ?_, by simp; omega⟩
        · rw [upd_ne (ne_of hbw hf2 (by intro z; cases z))]
          exact hbw
        · rw [List.nodup_append]
          exact ⟨nd2, by simp, fun a ha c hc => by rw [List.mem_singleton.mp hc]; exact fun z => hm (z ▸ ha)⟩
        · intro u hu
          rcases List.mem_append.mp hu with hu | hu
          · exact sub2 u hu
          · rw [List.mem_singleton.mp hu]; exact List.getElem_mem hi
    · rintro σ H2 ⟨e2, k, cs, us, rfl, hf2, al2, nd2, sub2, len2⟩
      walk_at "rd"
      refine rd_tupL (SqL.of hf2) (rd_new fun p H3 e3 hp _ => ?_)
      exact q p H3 us (e2.trans e3) ((al2.ext e3).ways hp) nd2 sub2 (by rw [List.length_map, al.1] at len2; exact len2)
theorem cut4 {ds : List Int} {i : Nat} (h : i + 4 ≤ ds.length) : ∃ a b c d, cutV (ds.map V.int) (some (i : Int)) (some ((i + 4 : Nat) : Int)) = [.int a, .int b, .int c, .int d] ∧ ds[i]? = some a ∧ ds[i + 1]? = some b ∧ ds[i + 2]? = some c ∧ ds[i + 3]? = some d := by
  refine ⟨ds[i], ds[i + 1], ds[i + 2], ds[i + 3], ?_, List.getElem?_eq_getElem _, List.getElem?_eq_getElem _, List.getElem?_eq_getElem _, List.getElem?_eq_getElem _⟩
  unfold cutV
  rw [HT.sIx_nat, HT.sIx_nat, List.length_map, Nat.min_eq_left (by omega), Nat.min_eq_left (by omega), show i + 4 - i = 4 by omega, ← List.map_drop, ← List.map_take]
  rw [List.drop_eq_getElem_cons (show i < ds.length by omega), List.drop_eq_getElem_cons (show i + 1 < ds.length by omega), List.drop_eq_getElem_cons (show i + 1 + 1 < ds.length by omega), List.drop_eq_getElem_cons (show i + 1 + 1 + 1 < ds.length by omega)]
  rfl
noncomputable def drawW : List Int := [8, 12, 13, 31] ++ (List.replicate 30 ([12, 6, 12, 3] : List Int)).flatten
theorem drawW_at {k : Nat} (h : k < 30) : drawW[4 + 4 * k]? = some 12 ∧ drawW[4 + 4 * k + 1]? = some 6 ∧ drawW[4 + 4 * k + 2]? = some 12 ∧ drawW[4 + 4 * k + 3]? = some 3 := by
  have : ∀ k : Fin 30, drawW[4 + 4 * k.val]? = some 12 ∧ drawW[4 + 4 * k.val + 1]? = some 6 ∧ drawW[4 + 4 * k.val + 2]? = some 12 ∧ drawW[4 + 4 * k.val + 3]? = some 3 := by decide +kernel
  exact this ⟨k, h⟩
noncomputable def sp__law_drawn_house (K : PySem.W.Frag) : Sp := fun vs H Q _ => ∃ c p, vs = [.int c, .int p] ∧ 0 < p ∧ ∀ v m ws H', Ext H H' → HouseAt H' v m ws → HOuse m ws → Q v H'
theorem pick_deed {e : Int} (h0 : 0 ≤ e) (h1 : e < 6) : ∃ z, atI ([.str "up", .str "down", .str "stay", .str "zero", .str "up", .str "down"] : List V) e = some (.str z) ∧ okDeed z := by
  have : e = 0 ∨ e = 1 ∨ e = 2 ∨ e = 3 ∨ e = 4 ∨ e = 5 := by omega
  rcases this with rfl | rfl | rfl | rfl | rfl | rfl
  · exact ⟨_, rfl, .inl rfl⟩
  · exact ⟨_, rfl, .inr (.inl rfl)⟩
  · exact ⟨_, rfl, .inr (.inr (.inl rfl))⟩
  · exact ⟨_, rfl, .inr (.inr (.inr rfl))⟩
  · exact ⟨_, rfl, .inl rfl⟩
  · exact ⟨_, rfl, .inr (.inl rfl)⟩
theorem abc_list : (Str.ofString "abc").cps.toList = [97, 98, 99] := by decide +kernel
theorem pick_abc {e : Int} (h0 : 0 ≤ e) (h1 : e < 3) : ∃ c, atI (Str.ofString "abc").cps.toList e = some c ∧ 97 ≤ c ∧ c ≤ 122 := by
  rw [abc_list]
  have : e = 0 ∨ e = 1 ∨ e = 2 := by omega
  rcases this with rfl | rfl | rfl
  · exact ⟨97, rfl, by decide, by decide⟩
  · exact ⟨98, rfl, by decide, by decide⟩
  · exact ⟨99, rfl, by decide, by decide⟩
theorem pick_many {e : Int} (h0 : 0 ≤ e) (h1 : e < 8) : ∃ w : Int, atI (([4, 4, 4, 5, 3, 2, 5, 12] : List Int).map V.int) e = some (.int w) ∧ 1 ≤ w ∧ w ≤ 12 := by
  have : e = 0 ∨ e = 1 ∨ e = 2 ∨ e = 3 ∨ e = 4 ∨ e = 5 ∨ e = 6 ∨ e = 7 := by omega
  rcases this with rfl | rfl | rfl | rfl | rfl | rfl | rfl | rfl <;> exact ⟨_, rfl, by decide, by decide⟩
theorem HouseAt.mk {H : Hp} {p q : Addr} {m : Int} {ws : List Way} (h1 : H p = some (.tup [.int m, .ref q])) (h2 : WaysAt H q (ws.map Way.key)) : HouseAt H (.ref p) m ws := ⟨p, q, rfl, h1, h2⟩
noncomputable abbrev s__law_drawn_house : Stmt := stq 149
theorem sc__law_drawn_house : FnScope ["_law_cell_here", "_law_prime", "_law_draws_here", "_law_many", "_law_often", "_law_ways", "_law_k", "_law_room", "_law_deed", "_law_other", "_law_sign", "_law_word"] ["_law_cell_here", "_law_prime"] (defScope s__law_drawn_house) := ⟨rfl, rfl, rfl, by decide +kernel, rfl, by decide +kernel, by decide +kernel⟩
theorem ok__law_drawn_house {P : Program} {w : World} {K : PySem.W.Frag} {mg : Str → Option Value} {base : Heap} (D : Dfn K mg "_law_drawn_house" s__law_drawn_house ["_law_cell_here", "_law_prime"]) (T : Blt mg) (C__law_unlike : Cal P w K mg base "_law_unlike" 1 ["_law_ways"] (sp__law_unlike K)) (C__law_draws : Cal P w K mg base "_law_draws" 2 ["_law_cell_here", "_law_widths", "_law_prime"] (sp__law_draws K)) : Cal P w K mg base "_law_drawn_house" 3 ["_law_cell_here", "_law_prime"] (sp__law_drawn_house K) := by
  have nd := (sc__law_drawn_house).nd
  refine D.ok sc__law_drawn_house (fun vs H Q E h => ?_) (fun X hX H vs Q E h => ?_)
  · obtain ⟨c, p, rfl, _⟩ := h; rfl
  · obtain ⟨f, cdv, A, outer, s, H0, E0, rfl, hr⟩ := hX
    obtain ⟨c, p, rfl, hp, q⟩ := h
    refine ⟨_, (no_implicit_lambda% (@pss_cons _ _ _ _ _ (no_implicit_lambda% (@ps_set _ _ 2 _ _ _ _ nd rfl (Or.inl rfl) (no_implicit_lambda% (pe_cal C__law_draws hr (no_implicit_lambda% (@pa_cons _ _ _ _ _ (no_implicit_lambda% (pv 0)) (no_implicit_lambda% (@pa_cons _ _ _ _ _ (no_implicit_lambda% (pe_op op_cat (no_implicit_lambda% (@pe_lst _ _ _ _ (no_implicit_lambda% (pa_ints (.c (.c (.c (.c .n)))))))) (no_implicit_lambda% (pe_op op_rep (no_implicit_lambda% (@pe_lst _ _ _ _ (no_implicit_lambda% (pa_ints (.c (.c (.c (.c .n)))))))) pe_int)))) (no_implicit_lambda% (@pa_cons _ _ _ _ _ (no_implicit_lambda% (pv 1)) pa_nil rfl)) rfl)) rfl)))) rfl (Or.inl rfl)))
        (no_implicit_lambda% (@pss_cons _ _ _ _ _ (no_implicit_lambda% (@ps_set _ _ 3 _ _ _ _ nd rfl (Or.inl rfl) (no_implicit_lambda% (pe_op op_add pe_int (no_implicit_lambda% (pe_op op_mod (no_implicit_lambda% (@pe_ix _ _ _ _ _ _ _ (ix_listK K) (no_implicit_lambda% (pv 2)) pe_int (fun _ _ => rfl))) (no_implicit_lambda% (@pe_ix _ _ _ _ _ _ _ (ix_listK K) (no_implicit_lambda% (@pe_lst _ _ _ _ (no_implicit_lambda% (pa_ints (.c (.c (.c (.c (.c (.c (.c (.c .n)))))))))))) (no_implicit_lambda% (@pe_ix _ _ _ _ _ _ _ (ix_listK K) (no_implicit_lambda% (pv 2)) pe_int (fun _ _ => rfl))) (fun _ _ => rfl))))))) rfl (Or.inl rfl)))
        (no_implicit_lambda% (@pss_cons _ _ _ _ _ (no_implicit_lambda% (@ps_set _ _ 4 _ _ _ _ nd rfl (Or.inl rfl) (no_implicit_lambda% (@pe_ix _ _ _ _ _ _ _ (ix_listK K) (no_implicit_lambda% (pv 2)) pe_int (fun _ _ => rfl))) rfl (Or.inl rfl)))
        (no_implicit_lambda% (@pss_cons _ _ _ _ _ (no_implicit_lambda% (ps_ifJ (no_implicit_lambda% (pt_cmpR op_eq (no_implicit_lambda% (@pe_ix _ _ _ _ _ _ _ (ix_listK K) (no_implicit_lambda% (pv 2)) pe_int (fun _ _ => rfl))) pe_int (nomark _))) (no_implicit_lambda% (@pss_one _ _ _ (no_implicit_lambda% (@ps_set _ _ 4 _ _ _ _ nd rfl (Or.inl rfl) (no_implicit_lambda% (@pe_ix _ _ _ _ _ _ _ (ix_listK K) (no_implicit_lambda% (pv 2)) pe_int (fun _ _ => rfl))) rfl (Or.inl rfl))))) pss_nil))
        (no_implicit_lambda% (@pss_cons _ _ _ _ _ (no_implicit_lambda% (@ps_set _ _ 5 _ _ _ _ nd rfl (Or.inl rfl) (no_implicit_lambda% (@pe_lst _ _ _ _ pa_nil)) rfl (Or.inl rfl)))
        (no_implicit_lambda% (@pss_cons _ _ _ _ _ (no_implicit_lambda% (ps_for PassesOwn.never rfl (no_implicit_lambda% (pi_range1 rfl T.range_ (no_implicit_lambda% (@pa_cons _ _ _ _ _ (no_implicit_lambda% (pv 4)) pa_nil rfl)))) (no_implicit_lambda% (pg_name (i := 6) nd rfl (Or.inl rfl))) (no_implicit_lambda% (@pss_cons _ _ _ _ _ (no_implicit_lambda% (@ps_asg _ _ _ _ _ _ (no_implicit_lambda% (pe_slice (sl_listK K) (no_implicit_lambda% (pv 2)) (po_some (no_implicit_lambda% (pe_op op_add pe_int (no_implicit_lambda% (pe_op op_mul pe_int (no_implicit_lambda% (pv 6))))))) (po_some (no_implicit_lambda% (pe_op op_add pe_int (no_implicit_lambda% (pe_op op_mul pe_int (no_implicit_lambda% (pv 6))))))))) (no_implicit_lambda% (pg_lstK (n := 4) K rfl (pgs_cons (no_implicit_lambda% (pg_name (i := 7) nd rfl (Or.inl rfl))) (pgs_cons (no_implicit_lambda% (pg_name (i := 8) nd rfl (Or.inl rfl))) (pgs_cons (no_implicit_lambda% (pg_name (i := 9) nd rfl (Or.inl rfl))) (pgs_cons (no_implicit_lambda% (pg_name (i := 10) nd rfl (Or.inl rfl))) pgs_nil)))))) rfl rfl rfl))
        (no_implicit_lambda% (@pss_cons _ _ _ _ _ (no_implicit_lambda% (@ps_set _ _ 11 _ _ _ _ nd rfl (Or.inl rfl) (no_implicit_lambda% (@pe_ix _ _ _ _ _ _ _ (ix_listK K) (no_implicit_lambda% (@pe_lst _ _ _ _ (no_implicit_lambda% (@pa_cons _ _ _ _ _ pe_str (no_implicit_lambda% (@pa_cons _ _ _ _ _ pe_str (no_implicit_lambda% (@pa_cons _ _ _ _ _ pe_str (no_implicit_lambda% (@pa_cons _ _ _ _ _ pe_str (no_implicit_lambda% (@pa_cons _ _ _ _ _ pe_str (no_implicit_lambda% (@pa_cons _ _ _ _ _ pe_str pa_nil rfl)) rfl)) rfl)) rfl)) rfl)) rfl)))) (no_implicit_lambda% (pv 8)) (fun _ _ => rfl))) rfl (Or.inl rfl)))
        (no_implicit_lambda% (@pss_one _ _ _ (no_implicit_lambda% (ps_expr (no_implicit_lambda% (pe_bmK K PySem.F.plainAttrs_list PySem.F.slot_list_append PySem.F.type_list_append mt_append (no_implicit_lambda% (pv 5)) (no_implicit_lambda% (@pa_cons _ _ _ _ _ (no_implicit_lambda% (@pe_tup _ _ _ _ _ (no_implicit_lambda% (@pa_cons _ _ _ _ _ (no_implicit_lambda% (pe_op op_mod (no_implicit_lambda% (pv 7)) (no_implicit_lambda% (pv 3)))) (no_implicit_lambda% (@pa_cons _ _ _ _ _ (no_implicit_lambda% (pv 11)) (no_implicit_lambda% (@pa_cons _ _ _ _ _ (no_implicit_lambda% (pe_op op_mod (no_implicit_lambda% (pv 9)) (no_implicit_lambda% (pv 3)))) (no_implicit_lambda% (@pa_cons _ _ _ _ _ (no_implicit_lambda% (@pe_ix _ _ _ _ _ _ _ ix_str pe_str (no_implicit_lambda% (pv 10)) (fun _ _ => rfl))) pa_nil rfl)) rfl)) rfl)) rfl)))) pa_nil rfl))))))))))))))
        (no_implicit_lambda% (@pss_one _ _ _ (no_implicit_lambda% (@ps_ret _ _ _ _ (no_implicit_lambda% (@pe_tup _ _ _ _ _ (no_implicit_lambda% (@pa_cons _ _ _ _ _ (no_implicit_lambda% (pv 3)) (no_implicit_lambda% (@pa_cons _ _ _ _ _ (no_implicit_lambda% (pe_cal C__law_unlike hr (no_implicit_lambda% (@pa_cons _ _ _ _ _ (no_implicit_lambda% (pv 5)) pa_nil rfl)))) pa_nil rfl)) rfl)))))))))))))))))))), ?_⟩
    walk_at "rd"
    refine ⟨small_line (by simp), rd_new fun w0 G1 f1 hw0 _ => ?_⟩
    walk_at "rd"
    refine ⟨small_line (by simp), rd_new fun w1 G2 f2 hw1 _ => ?_⟩
    walk_at "rd"
    refine rd_rep hw1 (by omega) (small_line (by decide)) (rd_new fun w2 G3 f3 hw2 _ => ?_)
    walk_at "rd"
    refine rd_cat (f3 _ _ (f2 _ _ hw0)) hw2 (small_line (by decide)) (rd_new fun w3 G4 f4 hw3 _ => ?_)
    walk_at "rd"
    refine ⟨c, w3, drawW, p, rfl, hw3, by decide +kernel, by decide +kernel, hp, fun dq ds H1 e1 hd hdn hl hb => ?_⟩
    have eH : Ext H H1 := f1.trans (f2.trans (f3.trans (f4.trans e1)))
    have hl' : ds.length = 124 := hl
    have at_ : ∀ (i : Nat) (x : Int), drawW[i]? = some x → ∃ d, ds[i]? = some d ∧ 0 ≤ d ∧ d < x := fun i x hx => by
      have hi : i < ds.length := by
        rw [hl]
        exact (List.getElem?_eq_some_iff.mp hx).1
      exact ⟨ds[i], List.getElem?_eq_getElem hi, hb i _ x (List.getElem?_eq_getElem hi) hx⟩
    obtain ⟨d0, g0, b00, b01⟩ := at_ 0 8 rfl
    obtain ⟨d1, g1, b10, b11⟩ := at_ 1 12 rfl
    obtain ⟨d2, g2, b20, b21⟩ := at_ 2 13 rfl
    obtain ⟨d3, g3, b30, b31⟩ := at_ 3 31 rfl
    have pick : ∀ {i : Nat} {d : Int}, ds[i]? = some d → atI (ds.map V.int) (i : Int) = some (.int d) := fun {i d} h => atI_nat (by rw [List.getElem?_map, h]; rfl)
    walk_at "rd"
    refine rd_ixL (SqL.of hd) (pick (i := 1) g1) ?_
    walk_at "rd"
    refine ⟨small_line (by simp), rd_new fun mq H2 e2 hmq _ => ?_⟩
    walk_at "rd"
    refine rd_ixL (SqL.of (e2 _ _ hd)) (pick (i := 0) g0) ?_
    obtain ⟨w, hw, hw1', hw2'⟩ := pick_many b00 b01
    refine rd_ixL (SqL.of hmq) hw ?_
    try refine rd_I (show (0 : Int) < w by omega) ?_
    walk_at "rd"
    have r0 : 0 ≤ d1 % w := Int.emod_nonneg _ (by omega)
    have r1 : d1 % w < w := Int.emod_lt_of_pos _ (by omega)
    obtain ⟨m, hm, m1, m2⟩ : ∃ m, 1 + d1 % w = m ∧ 1 ≤ m ∧ m ≤ 12 := ⟨_, rfl, by omega, by omega⟩
    rw [hm]
    refine rd_ixL (SqL.of (e2 _ _ hd)) (pick (i := 2) g2) ?_
    walk_at "rd"
    have eH2 : Ext H H2 := eH.trans e2
    have hd2 := e2 _ _ hd
    refine rd_ifJ (fun σ' H' => H' = H2 ∧ ∃ o : Nat, o ≤ 30 ∧ σ' = [some (.int c), some (.int p), some (.ref dq), some (.int m), some (.int o), none, none, none, none, none, none, none]) ?_ ?_
    · walk_at "rd"
      refine rd_ixL (SqL.of hd2) (pick (i := 0) g0) ?_
      walk_at "rd"
      refine ite2 (fun h => ?_) (fun h => ?_)
      · walk_at "rd"
        refine rd_ixL (SqL.of hd2) (pick (i := 3) g3) ?_
        walk_at "rd"
        exact ⟨rfl, d3.toNat, by omega, by rw [Int.toNat_of_nonneg b30]; rfl⟩
      · walk_at "rd"
        exact ⟨rfl, d2.toNat, by omega, by rw [Int.toNat_of_nonneg b20]; rfl⟩
    rintro σ' H' ⟨rfl, o, ho, rfl⟩
    clear hw hw1' hw2' r0 r1 b00 b01 b10 b11 b20 b21 b30 b31
    walk_at "rd"
    refine ⟨small_line (by simp), rd_new fun f H3 e3 hf hfn => ?_⟩
    walk_at "rd"
    refine rd_i1x (by omega) ?_
    refine forR (fun i σ H4 => Ext H' H4 ∧ ∃ (k1 k2 k3 k4 k5 k6 : Option V) (cs : List Addr) (us : List Way), σ = [some (.int c), some (.int p), some (.ref dq), some (.int m), some (.int o), some (.ref f), k1, k2, k3, k4, k5, k6] ∧ H4 f = some (.lst (cs.map V.ref)) ∧ AlW H4 cs us ∧ (∀ u ∈ us, u.Ok m) ∧ us.length = i)
      ⟨e3, none, none, none, none, none, none, [], [], rfl, hf, AlW.nil _, fun u hu => by simp at hu, rfl⟩ ?_ ?_
    · rintro i σ H4 hi ⟨e4, k1, k2, k3, k4, k5, k6, cs, us, rfl, hf4, al, ok, len⟩
      rw [Int.toNat_natCast] at hi
      have hi30 : i < 30 := by omega
      obtain ⟨a, b, c', d, hcut, ga, gb, gc, gd⟩ := cut4 (ds := ds) (i := 4 + 4 * i) (by omega)
      obtain ⟨y0, y1, y2, y3⟩ := drawW_at hi30
      have ba := hb _ _ _ ga y0
      have bb := hb _ _ _ gb y1
      have bc := hb _ _ _ gc y2
      have bd := hb _ _ _ gd y3
      have hd4 := e4 _ _ hd2
      walk_at "rd"
      refine rd_slL (SqL.of hd4) (rd_new fun t H5 e5 ht htn => ?_)
      rw [show (4 : Int) + 4 * (0 + (i : Int)) = ((4 + 4 * i : Nat) : Int) by omega, show (8 : Int) + 4 * (0 + (i : Int)) = ((4 + 4 * i + 4 : Nat) : Int) by omega, hcut] at ht
      walk_at "rd"
      refine rd_glst (SqL.of ht) rfl ?_
      walk_at "rd"
      refine ⟨small_line (by simp), rd_new fun u1 H6 e6 hu1 _ => ?_⟩
      walk_at "rd"
      obtain ⟨z, hz, okz⟩ := pick_deed bb.1 bb.2
      refine rd_ixL (SqL.of hu1) hz ?_
      walk_at "rd"
      have hf6 := e6 _ _ (e5 _ _ hf4)
      refine ⟨rd_tyL (SqL.of hf6), ?_⟩
      walk_at "rd"
      try refine rd_I (show (0 : Int) < m by omega) ?_
      walk_at "rd"
      try refine rd_I (show (0 : Int) < m by omega) ?_
      walk_at "rd"
      obtain ⟨s, hs, s1, s2⟩ := pick_abc bd.1 bd.2
      refine ⟨_, _, s, rfl, rfl, small9 (by decide +kernel), hs, ?_⟩
      walk_at "rd"
      refine ⟨small_line (by simp), rd_new fun v H7 e7 hv _ => ?_⟩
      have hf7 := e7 _ _ hf6
      walk_at "rd"
      refine rd_append hf7 (by rw [List.length_map, al.1, len]; exact Nat.lt_of_le_of_lt (show i ≤ 1000 by omega) (by decide)) ?_
      walk_at "rd"
      have al7 : AlW H7 cs us := ((al.ext e5).ext e6).ext e7
      have hv7 : H7 v = some (.tup (Way.vs ⟨a % m, z, c' % m, ⟨#[s]⟩⟩)) := hv
      refine ⟨ext_write (e4.trans (e5.trans (e6.trans e7))) hfn, _, _, _, _, _, _, cs ++ [v], us ++ [⟨a % m, z, c' % m, ⟨#[s]⟩⟩], rfl, by rw [upd_same, List.map_append]; rfl, (al7.put hf7).snoc ?_, ?_, by simp [len]⟩
      · rw [upd_ne (ne_of hv7 hf7 (by intro z; cases z))]
        exact hv7
      · intro u hu
        rcases List.mem_append.mp hu with hu | hu
        · exact ok u hu
        · rw [List.mem_singleton.mp hu]
          exact ⟨Int.emod_nonneg _ (by omega), Int.emod_lt_of_pos _ (by omega), Int.emod_nonneg _ (by omega), Int.emod_lt_of_pos _ (by omega), okz, s, s1, s2, rfl⟩
    · rintro σ H4 ⟨e4, k1, k2, k3, k4, k5, k6, cs, us, rfl, hf4, al, ok, len⟩
      rw [Int.toNat_natCast] at len
      walk_at "rd"
      refine ⟨f, cs, us, rfl, hf4, al, fun u hu => (ok u hu).lay, by omega, fun r H5 ws e5 hws nd sub ln => ?_⟩
      walk_at "rd"
      refine ⟨small_line (by simp), rd_new fun t H6 e6 ht _ => ?_⟩
      exact q _ m ws H6 (eH2.trans (e4.trans (e5.trans e6))) (HouseAt.mk ht (hws.ext e6)) ⟨m1, m2, by omega, fun u hu => ok u (sub u hu), nd⟩
structure WL (H0 H : Hp) (f : Addr) (us : List Way) : Prop where
  ext : Ext H0 H
  at_ : ∃ cs : List Addr, H f = some (.lst (cs.map V.ref)) ∧ AlW H cs us
theorem WL.nil {H0 H : Hp} {f : Addr} (e : Ext H0 H) (hf : H f = some (.lst [])) : WL H0 H f [] := ⟨e, [], hf, AlW.nil _⟩
theorem WL.push {H0 H H1 : Hp} {f v : Addr} {us : List Way} {w : Way} (h : WL H0 H f us) (hfn : H0 f = none) (e : Ext H H1) (hv : H1 v = some (.tup w.vs)) :
    ∃ xs, H1 f = some (.lst xs) ∧ xs.length = us.length ∧ WL H0 (upd H1 f (.lst (xs ++ [.ref v]))) f (us ++ [w]) := by
  obtain ⟨e0, cs, hf, al⟩ := h
  have hf1 := e _ _ hf
  refine ⟨cs.map V.ref, hf1, by rw [List.length_map]; exact al.1, ext_write (e0.trans e) hfn, cs ++ [v], by rw [upd_same, List.map_append]; rfl, ((al.ext e).put hf1).snoc ?_⟩
  rw [upd_ne (ne_of hv hf1 (by intro z; cases z))]
  exact hv
theorem WL.ty {K : PySem.W.Frag} {H0 H H1 : Hp} {f : Addr} {us : List Way} (h : WL H0 H f us) (e : Ext H H1) : tyV K "list" (.ref f) H1 := by
  obtain ⟨_, cs, hf, al⟩ := h
  exact rd_tyL (SqL.of (e _ _ hf))
theorem sgA : okSign "a" := ⟨97, by decide, by decide, by decide +kernel⟩
theorem sgB : okSign "b" := ⟨98, by decide, by decide, by decide +kernel⟩
theorem sgC : okSign "c" := ⟨99, by decide, by decide, by decide +kernel⟩
theorem okU : okDeed "up" := .inl rfl
theorem okDn : okDeed "down" := .inr (.inl rfl)
theorem okS : okDeed "stay" := .inr (.inr (.inl rfl))
theorem okZ : okDeed "zero" := .inr (.inr (.inr rfl))
theorem line16 {n : Nat} (h : n ≤ 1000) : n < sizeLine := Nat.lt_of_le_of_lt h (by decide)
theorem two_at {a b : V} {e : Int} (h0 : 0 ≤ e) (h1 : e < 2) : ∃ v, atI [a, b] e = some v ∧ (v = a ∨ v = b) := by
  have : e = 0 ∨ e = 1 := by omega
  rcases this with rfl | rfl
  · exact ⟨a, rfl, .inl rfl⟩
  · exact ⟨b, rfl, .inr rfl⟩
theorem all_snoc {m : Int} {us : List Way} {w : Way} (h : ∀ u ∈ us, u.Ok m) (hw : w.Ok m) : ∀ u ∈ us ++ [w], u.Ok m := fun u hu => by
  rcases List.mem_append.mp hu with hu | hu
  · exact h u hu
  · rw [List.mem_singleton.mp hu]; exact hw
theorem ab_list : (Str.ofString "ab").cps.toList = [97, 98] := by decide +kernel
theorem pick_ab {e : Int} (h0 : 0 ≤ e) (h1 : e < 2) : ∃ c, atI (Str.ofString "ab").cps.toList e = some c ∧ 97 ≤ c ∧ c ≤ 122 := by
  rw [ab_list]
  have : e = 0 ∨ e = 1 := by omega
  rcases this with rfl | rfl
  · exact ⟨97, rfl, by decide, by decide⟩
  · exact ⟨98, rfl, by decide, by decide⟩
theorem draws_at {ws ds : List Int} (hl : ds.length = ws.length) (hb : ∀ (i : Nat) (d x : Int), ds[i]? = some d → ws[i]? = some x → 0 ≤ d ∧ d < x) (i : Nat) {x : Int} (hx : ws[i]? = some x) : ∃ d, atI (ds.map V.int) (i : Int) = some (.int d) ∧ 0 ≤ d ∧ d < x := by
  have hi : i < ds.length := by
    rw [hl]
    exact (List.getElem?_eq_some_iff.mp hx).1
  have g : ds[i]? = some ds[i] := List.getElem?_eq_getElem hi
  exact ⟨ds[i], atI_nat (by rw [List.getElem?_map, g]; rfl), hb i _ x g hx⟩
noncomputable def sp__law_gate_house (K : PySem.W.Frag) : Sp := fun vs H Q _ => ∃ c p, vs = [.int c, .int p] ∧ 0 < p ∧ ∀ v m ws H', Ext H H' → HouseAt H' v m ws → HOuse m ws → Q v H'
noncomputable abbrev s__law_gate_house : Stmt := stq 151
theorem sc__law_gate_house : FnScope ["_law_cell_here", "_law_prime", "_law_draws_here", "_law_up", "_law_down", "_law_many", "_law_ways", "_law_k"] ["_law_cell_here", "_law_prime"] (defScope s__law_gate_house) := ⟨rfl, rfl, rfl, by decide +kernel, rfl, by decide +kernel, by decide +kernel⟩
theorem ok__law_gate_house {P : Program} {w : World} {K : PySem.W.Frag} {mg : Str → Option Value} {base : Heap} (D : Dfn K mg "_law_gate_house" s__law_gate_house ["_law_cell_here", "_law_prime"]) (T : Blt mg) (C__law_unlike : Cal P w K mg base "_law_unlike" 1 ["_law_ways"] (sp__law_unlike K)) (C__law_draws : Cal P w K mg base "_law_draws" 2 ["_law_cell_here", "_law_widths", "_law_prime"] (sp__law_draws K)) : Cal P w K mg base "_law_gate_house" 3 ["_law_cell_here", "_law_prime"] (sp__law_gate_house K) := by
  have nd := (sc__law_gate_house).nd
  refine D.ok sc__law_gate_house (fun vs H Q E h => ?_) (fun X hX H vs Q E h => ?_)
  · obtain ⟨c, p, rfl, _⟩ := h; rfl
  · obtain ⟨f, cdv, A, outer, s, H0, E0, rfl, hr⟩ := hX
    obtain ⟨c, p, rfl, hp, q⟩ := h
    refine ⟨_, (no_implicit_lambda% (@pss_cons _ _ _ _ _ (no_implicit_lambda% (@ps_set _ _ 2 _ _ _ _ nd rfl (Or.inl rfl) (no_implicit_lambda% (pe_cal C__law_draws hr (no_implicit_lambda% (@pa_cons _ _ _ _ _ (no_implicit_lambda% (pv 0)) (no_implicit_lambda% (@pa_cons _ _ _ _ _ (no_implicit_lambda% (@pe_lst _ _ _ _ (no_implicit_lambda% (pa_ints (.c (.c (.c (.c (.c (.c (.c .n))))))))))) (no_implicit_lambda% (@pa_cons _ _ _ _ _ (no_implicit_lambda% (pv 1)) pa_nil rfl)) rfl)) rfl)))) rfl (Or.inl rfl)))
        (no_implicit_lambda% (@pss_cons _ _ _ _ _ (no_implicit_lambda% (ps_par (i := 3) (j := 4) rfl nd rfl rfl (by decide) rfl rfl (no_implicit_lambda% (@pa_cons _ _ _ _ _ (no_implicit_lambda% (pe_op op_add pe_int (no_implicit_lambda% (@pe_ix _ _ _ _ _ _ _ (ix_listK K) (no_implicit_lambda% (pv 2)) pe_int (fun _ _ => rfl))))) (no_implicit_lambda% (@pa_cons _ _ _ _ _ (no_implicit_lambda% (pe_op op_add pe_int (no_implicit_lambda% (@pe_ix _ _ _ _ _ _ _ (ix_listK K) (no_implicit_lambda% (pv 2)) pe_int (fun _ _ => rfl))))) pa_nil rfl)) rfl)) rfl))
        (no_implicit_lambda% (@pss_cons _ _ _ _ _ (no_implicit_lambda% (@ps_set _ _ 5 _ _ _ _ nd rfl (Or.inl rfl) (no_implicit_lambda% (pe_op op_add (no_implicit_lambda% (pe_op op_add (no_implicit_lambda% (pv 3)) (no_implicit_lambda% (pv 4)))) pe_int)) rfl (Or.inl rfl)))
        (no_implicit_lambda% (@pss_cons _ _ _ _ _ (no_implicit_lambda% (@ps_set _ _ 6 _ _ _ _ nd rfl (Or.inl rfl) (no_implicit_lambda% (@pe_lst _ _ _ _ pa_nil)) rfl (Or.inl rfl)))
        (no_implicit_lambda% (@pss_cons _ _ _ _ _ (no_implicit_lambda% (ps_for PassesOwn.never rfl (no_implicit_lambda% (pi_range1 rfl T.range_ (no_implicit_lambda% (@pa_cons _ _ _ _ _ (no_implicit_lambda% (pv 3)) pa_nil rfl)))) (no_implicit_lambda% (pg_name (i := 7) nd rfl (Or.inl rfl))) (no_implicit_lambda% (@pss_one _ _ _ (no_implicit_lambda% (ps_expr (no_implicit_lambda% (pe_bmK K PySem.F.plainAttrs_list PySem.F.slot_list_append PySem.F.type_list_append mt_append (no_implicit_lambda% (pv 6)) (no_implicit_lambda% (@pa_cons _ _ _ _ _ (no_implicit_lambda% (@pe_tup _ _ _ _ _ (no_implicit_lambda% (@pa_cons _ _ _ _ _ (no_implicit_lambda% (pv 7)) (no_implicit_lambda% (@pa_cons _ _ _ _ _ pe_str (no_implicit_lambda% (@pa_cons _ _ _ _ _ (no_implicit_lambda% (pe_op op_mod (no_implicit_lambda% (pe_op op_add (no_implicit_lambda% (pv 7)) pe_int)) (no_implicit_lambda% (pv 3)))) (no_implicit_lambda% (@pa_cons _ _ _ _ _ (no_implicit_lambda% (@pe_ix _ _ _ _ _ _ _ ix_str pe_str (no_implicit_lambda% (@pe_ix _ _ _ _ _ _ _ (ix_listK K) (no_implicit_lambda% (pv 2)) pe_int (fun _ _ => rfl))) (fun _ _ => rfl))) pa_nil rfl)) rfl)) rfl)) rfl)))) pa_nil rfl))))))))))
        (no_implicit_lambda% (@pss_cons _ _ _ _ _ (no_implicit_lambda% (ps_expr (no_implicit_lambda% (pe_bmK K PySem.F.plainAttrs_list PySem.F.slot_list_append PySem.F.type_list_append mt_append (no_implicit_lambda% (pv 6)) (no_implicit_lambda% (@pa_cons _ _ _ _ _ (no_implicit_lambda% (@pe_tup _ _ _ _ _ (no_implicit_lambda% (@pa_cons _ _ _ _ _ (no_implicit_lambda% (pe_op op_mod (no_implicit_lambda% (@pe_ix _ _ _ _ _ _ _ (ix_listK K) (no_implicit_lambda% (pv 2)) pe_int (fun _ _ => rfl))) (no_implicit_lambda% (pv 3)))) (no_implicit_lambda% (@pa_cons _ _ _ _ _ pe_str (no_implicit_lambda% (@pa_cons _ _ _ _ _ (no_implicit_lambda% (pv 3)) (no_implicit_lambda% (@pa_cons _ _ _ _ _ pe_str pa_nil rfl)) rfl)) rfl)) rfl)))) pa_nil rfl))))))
        (no_implicit_lambda% (@pss_cons _ _ _ _ _ (no_implicit_lambda% (ps_for PassesOwn.never rfl (no_implicit_lambda% (pi_range1 rfl T.range_ (no_implicit_lambda% (@pa_cons _ _ _ _ _ (no_implicit_lambda% (pv 4)) pa_nil rfl)))) (no_implicit_lambda% (pg_name (i := 7) nd rfl (Or.inl rfl))) (no_implicit_lambda% (@pss_one _ _ _ (no_implicit_lambda% (ps_expr (no_implicit_lambda% (pe_bmK K PySem.F.plainAttrs_list PySem.F.slot_list_append PySem.F.type_list_append mt_append (no_implicit_lambda% (pv 6)) (no_implicit_lambda% (@pa_cons _ _ _ _ _ (no_implicit_lambda% (@pe_tup _ _ _ _ _ (no_implicit_lambda% (@pa_cons _ _ _ _ _ (no_implicit_lambda% (pe_op op_add (no_implicit_lambda% (pv 3)) (no_implicit_lambda% (pv 7)))) (no_implicit_lambda% (@pa_cons _ _ _ _ _ pe_str (no_implicit_lambda% (@pa_cons _ _ _ _ _ (no_implicit_lambda% (pe_op op_add (no_implicit_lambda% (pv 3)) (no_implicit_lambda% (pe_op op_mod (no_implicit_lambda% (pe_op op_add (no_implicit_lambda% (pv 7)) pe_int)) (no_implicit_lambda% (pv 4)))))) (no_implicit_lambda% (@pa_cons _ _ _ _ _ pe_str pa_nil rfl)) rfl)) rfl)) rfl)))) pa_nil rfl))))))))))
        (no_implicit_lambda% (@pss_cons _ _ _ _ _ (no_implicit_lambda% (ps_expr (no_implicit_lambda% (pe_bmK K PySem.F.plainAttrs_list PySem.F.slot_list_append PySem.F.type_list_append mt_append (no_implicit_lambda% (pv 6)) (no_implicit_lambda% (@pa_cons _ _ _ _ _ (no_implicit_lambda% (@pe_tup _ _ _ _ _ (no_implicit_lambda% (@pa_cons _ _ _ _ _ (no_implicit_lambda% (pe_op op_add (no_implicit_lambda% (pv 3)) (no_implicit_lambda% (pe_op op_mod (no_implicit_lambda% (@pe_ix _ _ _ _ _ _ _ (ix_listK K) (no_implicit_lambda% (pv 2)) pe_int (fun _ _ => rfl))) (no_implicit_lambda% (pv 4)))))) (no_implicit_lambda% (@pa_cons _ _ _ _ _ pe_str (no_implicit_lambda% (@pa_cons _ _ _ _ _ (no_implicit_lambda% (pe_op op_sub (no_implicit_lambda% (pv 5)) pe_int)) (no_implicit_lambda% (@pa_cons _ _ _ _ _ pe_str pa_nil rfl)) rfl)) rfl)) rfl)))) pa_nil rfl))))))
        (no_implicit_lambda% (@pss_cons _ _ _ _ _ (no_implicit_lambda% (ps_expr (no_implicit_lambda% (pe_bmK K PySem.F.plainAttrs_list PySem.F.slot_list_append PySem.F.type_list_append mt_append (no_implicit_lambda% (pv 6)) (no_implicit_lambda% (@pa_cons _ _ _ _ _ (no_implicit_lambda% (@pe_tup _ _ _ _ _ (no_implicit_lambda% (@pa_cons _ _ _ _ _ (no_implicit_lambda% (pe_op op_sub (no_implicit_lambda% (pv 5)) pe_int)) (no_implicit_lambda% (@pa_cons _ _ _ _ _ (no_implicit_lambda% (@pe_ix _ _ _ _ _ _ _ (ix_listK K) (no_implicit_lambda% (@pe_lst _ _ _ _ (no_implicit_lambda% (@pa_cons _ _ _ _ _ pe_str (no_implicit_lambda% (@pa_cons _ _ _ _ _ pe_str pa_nil rfl)) rfl)))) (no_implicit_lambda% (@pe_ix _ _ _ _ _ _ _ (ix_listK K) (no_implicit_lambda% (pv 2)) pe_int (fun _ _ => rfl))) (fun _ _ => rfl))) (no_implicit_lambda% (@pa_cons _ _ _ _ _ (no_implicit_lambda% (@pe_ix _ _ _ _ _ _ _ (ix_listK K) (no_implicit_lambda% (@pe_lst _ _ _ _ (no_implicit_lambda% (@pa_cons _ _ _ _ _ pe_int (no_implicit_lambda% (@pa_cons _ _ _ _ _ (no_implicit_lambda% (pe_op op_sub (no_implicit_lambda% (pv 5)) pe_int)) pa_nil rfl)) rfl)))) (no_implicit_lambda% (@pe_ix _ _ _ _ _ _ _ (ix_listK K) (no_implicit_lambda% (pv 2)) pe_int (fun _ _ => rfl))) (fun _ _ => rfl))) (no_implicit_lambda% (@pa_cons _ _ _ _ _ pe_str pa_nil rfl)) rfl)) rfl)) rfl)))) pa_nil rfl))))))
        (no_implicit_lambda% (@pss_one _ _ _ (no_implicit_lambda% (@ps_ret _ _ _ _ (no_implicit_lambda% (@pe_tup _ _ _ _ _ (no_implicit_lambda% (@pa_cons _ _ _ _ _ (no_implicit_lambda% (pv 5)) (no_implicit_lambda% (@pa_cons _ _ _ _ _ (no_implicit_lambda% (pe_cal C__law_unlike hr (no_implicit_lambda% (@pa_cons _ _ _ _ _ (no_implicit_lambda% (pv 6)) pa_nil rfl)))) pa_nil rfl)) rfl)))))))))))))))))))))))))), ?_⟩
    walk_at "rd"
    refine ⟨small_line (by simp), rd_new fun w0 G1 f1 hw0 _ => ?_⟩
    walk_at "rd"
    refine ⟨c, w0, [6, 5, 6, 5, 2, 2, 2], p, rfl, hw0, by decide, by decide, hp, fun dq ds H1 e1 hd hdn hl hb => ?_⟩
    have eH : Ext H H1 := f1.trans e1
    obtain ⟨d0, g0, b00, b01⟩ := draws_at hl hb 0 rfl
    obtain ⟨d1, g1, b10, b11⟩ := draws_at hl hb 1 rfl
    obtain ⟨d2, g2, b20, b21⟩ := draws_at hl hb 2 rfl
    obtain ⟨d3, g3, b30, b31⟩ := draws_at hl hb 3 rfl
    obtain ⟨d4, g4, b40, b41⟩ := draws_at hl hb 4 rfl
    obtain ⟨d5, g5, b50, b51⟩ := draws_at hl hb 5 rfl
    obtain ⟨d6, g6, b60, b61⟩ := draws_at hl hb 6 rfl
    clear hb hl
    walk_at "rd"
    refine rd_ixL (SqL.of hd) g0 ?_
    walk_at "rd"
    refine rd_ixL (SqL.of hd) g1 ?_
    walk_at "rd"
    obtain ⟨U, hU⟩ : ∃ U : Nat, 1 + d0 = (U : Int) := ⟨(1 + d0).toNat, by omega⟩
    obtain ⟨D, hD⟩ : ∃ D : Nat, 1 + d1 = (D : Int) := ⟨(1 + d1).toNat, by omega⟩
    rw [hU, hD]
    have u1 : 1 ≤ U := by omega
    have u6 : U ≤ 6 := by omega
    have v1 : 1 ≤ D := by omega
    have v5 : D ≤ 5 := by omega
    clear b00 b01 b10 b11 hU hD
    obtain ⟨m, hm⟩ : ∃ m : Int, (U : Int) + (D : Int) + 1 = m := ⟨_, rfl⟩
    rw [hm]
    refine ⟨small_line (by simp), rd_new fun f H2 e2 hf hfn => ?_⟩
    walk_at "rd"
    refine rd_i1x (by omega) ?_
    have hfn0 : H1 f = none := hfn
    refine forR (fun i σ H3 => ∃ (k : Option V) (us : List Way), σ = [some (.int c), some (.int p), some (.ref dq), some (.int U), some (.int D), some (.int m), some (.ref f), k] ∧ WL H1 H3 f us ∧ (∀ u ∈ us, u.Ok m) ∧ us.length = i)
      ⟨none, [], rfl, WL.nil e2 hf, fun u hu => by simp at hu, rfl⟩ ?_ ?_
    · rintro i σ H3 hi ⟨k, us, rfl, wl, ok, len⟩
      rw [Int.toNat_natCast] at hi
      walk_at "rd"
      refine ⟨wl.ty (Ext.rfl' _), ?_⟩
      walk_at "rd"
      try refine rd_I (show (0 : Int) < (U : Int) by omega) ?_
      walk_at "rd"
      refine rd_ixL (SqL.of (wl.ext _ _ hd)) g4 ?_
      obtain ⟨s, hs, s1, s2⟩ := pick_ab b40 b41
      refine ⟨_, _, s, rfl, rfl, small9 (by decide +kernel), hs, ?_⟩
      walk_at "rd"
      refine ⟨small_line (by simp), rd_new fun v H4 e4 hv _ => ?_⟩
      walk_at "rd"
      obtain ⟨xs, hx, hlx, wl'⟩ := wl.push (w := ⟨0 + (i : Int), "up", (0 + (i : Int) + 1) % (U : Int), ⟨#[s]⟩⟩) hfn0 e4 hv
      refine rd_append hx (line16 (by omega)) ?_
      walk_at "rd"
      exact ⟨_, _, rfl, wl', all_snoc ok ⟨by show 0 ≤ 0 + (i : Int); omega, by show 0 + (i : Int) < m; omega, Int.emod_nonneg _ (by omega), Int.lt_trans (Int.emod_lt_of_pos _ (by omega)) (by omega), okU, s, s1, s2, rfl⟩, by simp [len]⟩
    rintro σ H3 ⟨k, us, rfl, wl, ok, len⟩
    rw [Int.toNat_natCast] at len
    walk_at "rd"
    refine ⟨wl.ty (Ext.rfl' _), ?_⟩
    walk_at "rd"
    refine rd_ixL (SqL.of (wl.ext _ _ hd)) g2 ?_
    try refine rd_I (show (0 : Int) < (U : Int) by omega) ?_
    walk_at "rd"
    refine ⟨small_line (by simp), rd_new fun v H4 e4 hv _ => ?_⟩
    walk_at "rd"
    have r0 : 0 ≤ d2 % (U : Int) := Int.emod_nonneg _ (by omega)
    have r1 : d2 % (U : Int) < U := Int.emod_lt_of_pos _ (by omega)
    obtain ⟨xs, hx, hlx, wl2⟩ := wl.push (w := ⟨d2 % (U : Int), "stay", (U : Int), "b"⟩) hfn0 e4 hv
    have ok2 := all_snoc ok (w := ⟨d2 % (U : Int), "stay", (U : Int), "b"⟩) ⟨r0, by show d2 % (U : Int) < m; omega, by show 0 ≤ (U : Int); omega, by show (U : Int) < m; omega, okS, sgB⟩
    refine rd_append hx (line16 (by omega)) ?_
    generalize upd H4 f _ = H5 at wl2 ⊢
    generalize hus2 : us ++ [_] = us2 at wl2 ok2
    have len2 : us2.length = U + 1 := by rw [← hus2]; simp [len]
    clear hus2 hx hlx hv e4 r0 r1 wl ok len
    walk_at "rd"
    refine rd_i1x (by omega) ?_
    refine forR (fun i σ H3 => ∃ (k : Option V) (us : List Way), σ = [some (.int c), some (.int p), some (.ref dq), some (.int U), some (.int D), some (.int m), some (.ref f), k] ∧ WL H1 H3 f us ∧ (∀ u ∈ us, u.Ok m) ∧ us.length = U + 1 + i)
      ⟨_, us2, rfl, wl2, ok2, len2⟩ ?_ ?_
    · rintro i σ H3 hi ⟨k, us, rfl, wl, ok, len⟩
      rw [Int.toNat_natCast] at hi
      walk_at "rd"
      refine ⟨wl.ty (Ext.rfl' _), ?_⟩
      walk_at "rd"
      try refine rd_I (show (0 : Int) < (D : Int) by omega) ?_
      walk_at "rd"
      refine ⟨small_line (by simp), rd_new fun v H4 e4 hv _ => ?_⟩
      walk_at "rd"
      have r0 : 0 ≤ (0 + (i : Int) + 1) % (D : Int) := Int.emod_nonneg _ (by omega)
      have r1 : (0 + (i : Int) + 1) % (D : Int) < D := Int.emod_lt_of_pos _ (by omega)
      obtain ⟨xs, hx, hlx, wl'⟩ := wl.push (w := ⟨(U : Int) + (0 + (i : Int)), "down", (U : Int) + (0 + (i : Int) + 1) % (D : Int), "a"⟩) hfn0 e4 hv
      refine rd_append hx (line16 (by omega)) ?_
      walk_at "rd"
      exact ⟨_, _, rfl, wl', all_snoc ok ⟨by show 0 ≤ (U : Int) + (0 + (i : Int)); omega, by show (U : Int) + (0 + (i : Int)) < m; omega, by show 0 ≤ (U : Int) + (0 + (i : Int) + 1) % (D : Int); omega, by show (U : Int) + (0 + (i : Int) + 1) % (D : Int) < m; omega, okDn, sgA⟩, by simp [len]; omega⟩
    clear wl2 ok2 len2
    rintro σ H3 ⟨k, us, rfl, wl, ok, len⟩
    rw [Int.toNat_natCast] at len
    walk_at "rd"
    refine ⟨wl.ty (Ext.rfl' _), ?_⟩
    walk_at "rd"
    refine rd_ixL (SqL.of (wl.ext _ _ hd)) g3 ?_
    try refine rd_I (show (0 : Int) < (D : Int) by omega) ?_
    walk_at "rd"
    refine ⟨small_line (by simp), rd_new fun v H4 e4 hv _ => ?_⟩
    walk_at "rd"
    have r0 : 0 ≤ d3 % (D : Int) := Int.emod_nonneg _ (by omega)
    have r1 : d3 % (D : Int) < D := Int.emod_lt_of_pos _ (by omega)
    obtain ⟨xs, hx, hlx, wl2⟩ := wl.push (w := ⟨(U : Int) + d3 % (D : Int), "zero", m - 1, "c"⟩) hfn0 e4 hv
    have ok2 := all_snoc ok (w := ⟨(U : Int) + d3 % (D : Int), "zero", m - 1, "c"⟩) ⟨by show 0 ≤ (U : Int) + d3 % (D : Int); omega, by show (U : Int) + d3 % (D : Int) < m; omega, by show 0 ≤ m - 1; omega, by show m - 1 < m; omega, okZ, sgC⟩
    refine rd_append hx (line16 (by omega)) ?_
    generalize upd H4 f _ = H5 at wl2 ⊢
    generalize hus2 : us ++ [_] = us2 at wl2 ok2
    have len2 : us2.length = U + D + 2 := by rw [← hus2]; simp [len]; omega
    clear hus2 hx hlx hv e4 r0 r1 wl ok len
    walk_at "rd"
    refine ⟨wl2.ty (Ext.rfl' _), ?_⟩
    walk_at "rd"
    refine ⟨small_line (by simp), rd_new fun t1 H6 e6 ht1 _ => ?_⟩
    walk_at "rd"
    refine rd_ixL (SqL.of (e6 _ _ (wl2.ext _ _ hd))) g5 ?_
    obtain ⟨x5, hx5, ax5⟩ := two_at (a := V.str "up") (b := V.str "stay") b50 b51
    refine rd_ixL (SqL.of ht1) hx5 ?_
    walk_at "rd"
    refine ⟨small_line (by simp), rd_new fun t2 H7 e7 ht2 _ => ?_⟩
    walk_at "rd"
    refine rd_ixL (SqL.of (e7 _ _ (e6 _ _ (wl2.ext _ _ hd)))) g6 ?_
    obtain ⟨x6, hx6, ax6⟩ := two_at (a := V.int 0) (b := V.int (m - 1)) b60 b61
    refine rd_ixL (SqL.of ht2) hx6 ?_
    walk_at "rd"
    refine ⟨small_line (by simp), rd_new fun v H8 e8 hv _ => ?_⟩
    walk_at "rd"
    obtain ⟨z, rfl, oz⟩ : ∃ z, x5 = .str z ∧ okDeed z := by
      rcases ax5 with rfl | rfl
      · exact ⟨_, rfl, okU⟩
      · exact ⟨_, rfl, okS⟩
    obtain ⟨y, rfl, y0, y1⟩ : ∃ y : Int, x6 = .int y ∧ 0 ≤ y ∧ y < m := by
      rcases ax6 with rfl | rfl
      · exact ⟨_, rfl, by omega, by omega⟩
      · exact ⟨_, rfl, by omega, by omega⟩
    obtain ⟨xs, hx, hlx, wl3⟩ := wl2.push (w := ⟨m - 1, z, y, "b"⟩) hfn0 (e6.trans (e7.trans e8)) hv
    have ok3 := all_snoc ok2 (w := ⟨m - 1, z, y, "b"⟩) ⟨by show 0 ≤ m - 1; omega, by show m - 1 < m; omega, y0, y1, oz, sgB⟩
    refine rd_append hx (line16 (by omega)) ?_
    generalize upd H8 f _ = H9 at wl3 ⊢
    generalize hus3 : us2 ++ [_] = us3 at wl3 ok3
    have len3 : us3.length = U + D + 3 := by rw [← hus3]; simp [len2]
    walk_at "rd"
    obtain ⟨ew, cs, hcs, al⟩ := wl3
    refine ⟨f, cs, us3, rfl, hcs, al, fun u hu => (ok3 u hu).lay, by omega, fun r I1 ws e5 hws nd sub ln => ?_⟩
    walk_at "rd"
    refine ⟨small_line (by simp), rd_new fun t I2 e6' ht _ => ?_⟩
    exact q _ m ws I2 (eH.trans (ew.trans (e5.trans e6'))) (HouseAt.mk ht (hws.ext e6')) ⟨by omega, by omega, by omega, fun u hu => ok3 u (sub u hu), nd⟩
theorem AlW.rev {H : Hp} {bs : List Addr} {ws : List Way} (h : AlW H bs ws) : AlW H bs.reverse ws.reverse := by
  refine ⟨by rw [List.length_reverse, List.length_reverse]; exact h.1, fun j b w e1 e2 => ?_⟩
  have hj : j < bs.length := by
    have := (List.getElem?_eq_some_iff.mp e1).1
    simpa using this
  rw [List.getElem?_reverse hj] at e1
  rw [List.getElem?_reverse (by rw [← h.1]; exact hj), ← h.1] at e2
  exact h.2 _ b w e1 e2
theorem nodup_snoc {us : List Way} {w : Way} (h : us.Nodup) (hw : w ∉ us) : (us ++ [w]).Nodup := by
  rw [List.nodup_append]
  exact ⟨h, by simp, fun a ha c hc => by rw [List.mem_singleton.mp hc]; exact fun z => hw (z ▸ ha)⟩
theorem all_snocP {P : Way → Prop} {us : List Way} {w : Way} (h : ∀ u ∈ us, P u) (hw : P w) : ∀ u ∈ us ++ [w], P u := fun u hu => by
  rcases List.mem_append.mp hu with hu | hu
  · exact h u hu
  · rw [List.mem_singleton.mp hu]; exact hw
theorem ne_ab : (Str.ofString "a") ≠ "b" := by decide +kernel
theorem ne_ac : (Str.ofString "a") ≠ "c" := by decide +kernel
theorem ne_bc : (Str.ofString "b") ≠ "c" := by decide +kernel
noncomputable def sp__law_ring_house (K : PySem.W.Frag) : Sp := fun vs H Q _ => ∃ c p, vs = [.int c, .int p] ∧ 0 < p ∧ ∀ v m ws H', Ext H H' → HouseAt H' v m ws → HOuse m ws → Q v H'
noncomputable abbrev s__law_ring_house : Stmt := stq 150
theorem sc__law_ring_house : FnScope ["_law_cell_here", "_law_prime", "_law_draws_here", "_law_one_here", "_law_two_here", "_law_many", "_law_ways", "_law_k"] ["_law_cell_here", "_law_prime"] (defScope s__law_ring_house) := ⟨rfl, rfl, rfl, by decide +kernel, rfl, by decide +kernel, by decide +kernel⟩
theorem ok__law_ring_house {P : Program} {w : World} {K : PySem.W.Frag} {mg : Str → Option Value} {base : Heap} (D : Dfn K mg "_law_ring_house" s__law_ring_house ["_law_cell_here", "_law_prime"]) (T : Blt mg) (C__law_draws : Cal P w K mg base "_law_draws" 2 ["_law_cell_here", "_law_widths", "_law_prime"] (sp__law_draws K)) : Cal P w K mg base "_law_ring_house" 3 ["_law_cell_here", "_law_prime"] (sp__law_ring_house K) := by
  have nd := (sc__law_ring_house).nd
  refine D.ok sc__law_ring_house (fun vs H Q E h => ?_) (fun X hX H vs Q E h => ?_)
  · obtain ⟨c, p, rfl, _⟩ := h; rfl
  · obtain ⟨f, cdv, A, outer, s, H0, E0, rfl, hr⟩ := hX
    obtain ⟨c, p, rfl, hp, q⟩ := h
    refine ⟨_, (no_implicit_lambda% (@pss_cons _ _ _ _ _ (no_implicit_lambda% (@ps_set _ _ 2 _ _ _ _ nd rfl (Or.inl rfl) (no_implicit_lambda% (pe_cal C__law_draws hr (no_implicit_lambda% (@pa_cons _ _ _ _ _ (no_implicit_lambda% (pv 0)) (no_implicit_lambda% (@pa_cons _ _ _ _ _ (no_implicit_lambda% (@pe_lst _ _ _ _ (no_implicit_lambda% (pa_ints (.c (.c (.c (.c (.c (.c (.c .n))))))))))) (no_implicit_lambda% (@pa_cons _ _ _ _ _ (no_implicit_lambda% (pv 1)) pa_nil rfl)) rfl)) rfl)))) rfl (Or.inl rfl)))
        (no_implicit_lambda% (@pss_cons _ _ _ _ _ (no_implicit_lambda% (ps_par (i := 3) (j := 4) rfl nd rfl rfl (by decide) rfl rfl (no_implicit_lambda% (@pa_cons _ _ _ _ _ (no_implicit_lambda% (pe_op op_add pe_int (no_implicit_lambda% (@pe_ix _ _ _ _ _ _ _ (ix_listK K) (no_implicit_lambda% (pv 2)) pe_int (fun _ _ => rfl))))) (no_implicit_lambda% (@pa_cons _ _ _ _ _ (no_implicit_lambda% (pe_op op_add pe_int (no_implicit_lambda% (@pe_ix _ _ _ _ _ _ _ (ix_listK K) (no_implicit_lambda% (pv 2)) pe_int (fun _ _ => rfl))))) pa_nil rfl)) rfl)) rfl))
        (no_implicit_lambda% (@pss_cons _ _ _ _ _ (no_implicit_lambda% (@ps_set _ _ 5 _ _ _ _ nd rfl (Or.inl rfl) (no_implicit_lambda% (pe_op op_add (no_implicit_lambda% (pe_op op_add (no_implicit_lambda% (pv 3)) (no_implicit_lambda% (pv 4)))) pe_int)) rfl (Or.inl rfl)))
        (no_implicit_lambda% (@pss_cons _ _ _ _ _ (no_implicit_lambda% (@ps_set _ _ 6 _ _ _ _ nd rfl (Or.inl rfl) (no_implicit_lambda% (@pe_lst _ _ _ _ (no_implicit_lambda% (@pa_cons _ _ _ _ _ (no_implicit_lambda% (@pe_tup _ _ _ _ _ (no_implicit_lambda% (@pa_cons _ _ _ _ _ pe_int (no_implicit_lambda% (@pa_cons _ _ _ _ _ pe_str (no_implicit_lambda% (@pa_cons _ _ _ _ _ pe_int (no_implicit_lambda% (@pa_cons _ _ _ _ _ pe_str pa_nil rfl)) rfl)) rfl)) rfl)))) (no_implicit_lambda% (@pa_cons _ _ _ _ _ (no_implicit_lambda% (@pe_tup _ _ _ _ _ (no_implicit_lambda% (@pa_cons _ _ _ _ _ pe_int (no_implicit_lambda% (@pa_cons _ _ _ _ _ (no_implicit_lambda% (@pe_ix _ _ _ _ _ _ _ (ix_listK K) (no_implicit_lambda% (@pe_lst _ _ _ _ (no_implicit_lambda% (@pa_cons _ _ _ _ _ pe_str (no_implicit_lambda% (@pa_cons _ _ _ _ _ pe_str pa_nil rfl)) rfl)))) (no_implicit_lambda% (@pe_ix _ _ _ _ _ _ _ (ix_listK K) (no_implicit_lambda% (pv 2)) pe_int (fun _ _ => rfl))) (fun _ _ => rfl))) (no_implicit_lambda% (@pa_cons _ _ _ _ _ (no_implicit_lambda% (pe_op op_add pe_int (no_implicit_lambda% (pv 3)))) (no_implicit_lambda% (@pa_cons _ _ _ _ _ pe_str pa_nil rfl)) rfl)) rfl)) rfl)))) pa_nil rfl)) rfl)))) rfl (Or.inl rfl)))
        (no_implicit_lambda% (@pss_cons _ _ _ _ _ (no_implicit_lambda% (ps_for PassesOwn.never rfl (no_implicit_lambda% (pi_range1 rfl T.range_ (no_implicit_lambda% (@pa_cons _ _ _ _ _ (no_implicit_lambda% (pv 3)) pa_nil rfl)))) (no_implicit_lambda% (pg_name (i := 7) nd rfl (Or.inl rfl))) (no_implicit_lambda% (@pss_one _ _ _ (no_implicit_lambda% (ps_expr (no_implicit_lambda% (pe_bmK K PySem.F.plainAttrs_list PySem.F.slot_list_append PySem.F.type_list_append mt_append (no_implicit_lambda% (pv 6)) (no_implicit_lambda% (@pa_cons _ _ _ _ _ (no_implicit_lambda% (@pe_tup _ _ _ _ _ (no_implicit_lambda% (@pa_cons _ _ _ _ _ (no_implicit_lambda% (pe_op op_add pe_int (no_implicit_lambda% (pv 7)))) (no_implicit_lambda% (@pa_cons _ _ _ _ _ pe_str (no_implicit_lambda% (@pa_cons _ _ _ _ _ (no_implicit_lambda% (pe_op op_add pe_int (no_implicit_lambda% (pe_op op_mod (no_implicit_lambda% (pe_op op_add (no_implicit_lambda% (pv 7)) pe_int)) (no_implicit_lambda% (pv 3)))))) (no_implicit_lambda% (@pa_cons _ _ _ _ _ pe_str pa_nil rfl)) rfl)) rfl)) rfl)))) pa_nil rfl))))))))))
        (no_implicit_lambda% (@pss_cons _ _ _ _ _ (no_implicit_lambda% (ps_for PassesOwn.never rfl (no_implicit_lambda% (pi_range1 rfl T.range_ (no_implicit_lambda% (@pa_cons _ _ _ _ _ (no_implicit_lambda% (pv 4)) pa_nil rfl)))) (no_implicit_lambda% (pg_name (i := 7) nd rfl (Or.inl rfl))) (no_implicit_lambda% (@pss_one _ _ _ (no_implicit_lambda% (ps_expr (no_implicit_lambda% (pe_bmK K PySem.F.plainAttrs_list PySem.F.slot_list_append PySem.F.type_list_append mt_append (no_implicit_lambda% (pv 6)) (no_implicit_lambda% (@pa_cons _ _ _ _ _ (no_implicit_lambda% (@pe_tup _ _ _ _ _ (no_implicit_lambda% (@pa_cons _ _ _ _ _ (no_implicit_lambda% (pe_op op_add (no_implicit_lambda% (pe_op op_add pe_int (no_implicit_lambda% (pv 3)))) (no_implicit_lambda% (pv 7)))) (no_implicit_lambda% (@pa_cons _ _ _ _ _ (no_implicit_lambda% (@pe_ix _ _ _ _ _ _ _ (ix_listK K) (no_implicit_lambda% (@pe_lst _ _ _ _ (no_implicit_lambda% (@pa_cons _ _ _ _ _ pe_str (no_implicit_lambda% (@pa_cons _ _ _ _ _ pe_str pa_nil rfl)) rfl)))) (no_implicit_lambda% (@pe_ix _ _ _ _ _ _ _ (ix_listK K) (no_implicit_lambda% (pv 2)) pe_int (fun _ _ => rfl))) (fun _ _ => rfl))) (no_implicit_lambda% (@pa_cons _ _ _ _ _ (no_implicit_lambda% (pe_op op_add (no_implicit_lambda% (pe_op op_add pe_int (no_implicit_lambda% (pv 3)))) (no_implicit_lambda% (pe_op op_mod (no_implicit_lambda% (pe_op op_add (no_implicit_lambda% (pv 7)) pe_int)) (no_implicit_lambda% (pv 4)))))) (no_implicit_lambda% (@pa_cons _ _ _ _ _ pe_str pa_nil rfl)) rfl)) rfl)) rfl)))) pa_nil rfl))))))))))
        (no_implicit_lambda% (@pss_cons _ _ _ _ _ (no_implicit_lambda% (ps_expr (no_implicit_lambda% (pe_bmK K PySem.F.plainAttrs_list PySem.F.slot_list_append PySem.F.type_list_append mt_append (no_implicit_lambda% (pv 6)) (no_implicit_lambda% (@pa_cons _ _ _ _ _ (no_implicit_lambda% (@pe_tup _ _ _ _ _ (no_implicit_lambda% (@pa_cons _ _ _ _ _ pe_int (no_implicit_lambda% (@pa_cons _ _ _ _ _ pe_str (no_implicit_lambda% (@pa_cons _ _ _ _ _ (no_implicit_lambda% (pe_op op_sub (no_implicit_lambda% (pv 5)) pe_int)) (no_implicit_lambda% (@pa_cons _ _ _ _ _ pe_str pa_nil rfl)) rfl)) rfl)) rfl)))) pa_nil rfl))))))
        (no_implicit_lambda% (@pss_cons _ _ _ _ _ (no_implicit_lambda% (ps_expr (no_implicit_lambda% (pe_bmK K PySem.F.plainAttrs_list PySem.F.slot_list_append PySem.F.type_list_append mt_append (no_implicit_lambda% (pv 6)) (no_implicit_lambda% (@pa_cons _ _ _ _ _ (no_implicit_lambda% (@pe_tup _ _ _ _ _ (no_implicit_lambda% (@pa_cons _ _ _ _ _ (no_implicit_lambda% (pe_op op_add pe_int (no_implicit_lambda% (pv 3)))) (no_implicit_lambda% (@pa_cons _ _ _ _ _ pe_str (no_implicit_lambda% (@pa_cons _ _ _ _ _ (no_implicit_lambda% (pe_op op_sub (no_implicit_lambda% (pv 5)) pe_int)) (no_implicit_lambda% (@pa_cons _ _ _ _ _ pe_str pa_nil rfl)) rfl)) rfl)) rfl)))) pa_nil rfl))))))
        (no_implicit_lambda% (@pss_cons _ _ _ _ _ (no_implicit_lambda% (ps_ifJ (no_implicit_lambda% (pt_cmpR op_eq (no_implicit_lambda% (@pe_ix _ _ _ _ _ _ _ (ix_listK K) (no_implicit_lambda% (pv 2)) pe_int (fun _ _ => rfl))) pe_int (nomark _))) (no_implicit_lambda% (@pss_one _ _ _ (no_implicit_lambda% (ps_expr (no_implicit_lambda% (pe_bmK K PySem.F.plainAttrs_list PySem.F.slot_list_append PySem.F.type_list_append mt_append (no_implicit_lambda% (pv 6)) (no_implicit_lambda% (@pa_cons _ _ _ _ _ (no_implicit_lambda% (@pe_tup _ _ _ _ _ (no_implicit_lambda% (@pa_cons _ _ _ _ _ (no_implicit_lambda% (pe_op op_sub (no_implicit_lambda% (pv 5)) pe_int)) (no_implicit_lambda% (@pa_cons _ _ _ _ _ pe_str (no_implicit_lambda% (@pa_cons _ _ _ _ _ (no_implicit_lambda% (pe_op op_sub (no_implicit_lambda% (pv 5)) pe_int)) (no_implicit_lambda% (@pa_cons _ _ _ _ _ pe_str pa_nil rfl)) rfl)) rfl)) rfl)))) pa_nil rfl)))))))) pss_nil))
        (no_implicit_lambda% (@pss_cons _ _ _ _ _ (no_implicit_lambda% (ps_ifJ (no_implicit_lambda% (pt_cmpR op_eq (no_implicit_lambda% (@pe_ix _ _ _ _ _ _ _ (ix_listK K) (no_implicit_lambda% (pv 2)) pe_int (fun _ _ => rfl))) pe_int (nomark _))) (no_implicit_lambda% (@pss_one _ _ _ (no_implicit_lambda% (ps_expr (no_implicit_lambda% (pe_bmK K PySem.F.plainAttrs_list PySem.F.slot_list_append PySem.F.type_list_append mt_append (no_implicit_lambda% (pv 6)) (no_implicit_lambda% (@pa_cons _ _ _ _ _ (no_implicit_lambda% (@pe_tup _ _ _ _ _ (no_implicit_lambda% (@pa_cons _ _ _ _ _ (no_implicit_lambda% (pe_op op_sub (no_implicit_lambda% (pv 5)) pe_int)) (no_implicit_lambda% (@pa_cons _ _ _ _ _ pe_str (no_implicit_lambda% (@pa_cons _ _ _ _ _ pe_int (no_implicit_lambda% (@pa_cons _ _ _ _ _ pe_str pa_nil rfl)) rfl)) rfl)) rfl)))) pa_nil rfl)))))))) pss_nil))
        (no_implicit_lambda% (@pss_cons _ _ _ _ _ (no_implicit_lambda% (ps_ifJ (no_implicit_lambda% (pt_cmpR op_eq (no_implicit_lambda% (@pe_ix _ _ _ _ _ _ _ (ix_listK K) (no_implicit_lambda% (pv 2)) pe_int (fun _ _ => rfl))) pe_int (nomark _))) (no_implicit_lambda% (@pss_one _ _ _ (no_implicit_lambda% (@ps_set _ _ 6 _ _ _ _ nd rfl (Or.inl rfl) (no_implicit_lambda% (pe_revL K (no_implicit_lambda% (pv 6)) (po_some (no_implicit_lambda% (pe_un un_neg pe_int))))) rfl (Or.inl rfl))))) pss_nil))
        (no_implicit_lambda% (@pss_one _ _ _ (no_implicit_lambda% (@ps_ret _ _ _ _ (no_implicit_lambda% (@pe_tup _ _ _ _ _ (no_implicit_lambda% (@pa_cons _ _ _ _ _ (no_implicit_lambda% (pv 5)) (no_implicit_lambda% (@pa_cons _ _ _ _ _ (no_implicit_lambda% (pe_callTy (call_tupK K) rfl T.tuple_ PyProof.Rows.boot_tuple (no_implicit_lambda% (@pa_cons _ _ _ _ _ (no_implicit_lambda% (pv 6)) pa_nil rfl)))) pa_nil rfl)) rfl)))))))))))))))))))))))))))))), ?_⟩
    walk_at "rd"
    refine ⟨small_line (by simp), rd_new fun w0 G1 f1 hw0 _ => ?_⟩
    walk_at "rd"
    refine ⟨c, w0, [5, 5, 2, 2, 4, 4, 2], p, rfl, hw0, by decide, by decide, hp, fun dq ds H1 e1 hd hdn hl hb => ?_⟩
    have eH : Ext H H1 := f1.trans e1
    obtain ⟨d0, g0, b00, b01⟩ := draws_at hl hb 0 rfl
    obtain ⟨d1, g1, b10, b11⟩ := draws_at hl hb 1 rfl
    obtain ⟨d2, g2, b20, b21⟩ := draws_at hl hb 2 rfl
    obtain ⟨d3, g3, b30, b31⟩ := draws_at hl hb 3 rfl
    obtain ⟨d4, g4, _⟩ := draws_at hl hb 4 rfl
    obtain ⟨d5, g5, _⟩ := draws_at hl hb 5 rfl
    obtain ⟨d6, g6, _⟩ := draws_at hl hb 6 rfl
    clear hb hl
    walk_at "rd"
    refine rd_ixL (SqL.of hd) g0 ?_
    walk_at "rd"
    refine rd_ixL (SqL.of hd) g1 ?_
    walk_at "rd"
    obtain ⟨U, hU⟩ : ∃ U : Nat, 1 + d0 = (U : Int) := ⟨(1 + d0).toNat, by omega⟩
    obtain ⟨D, hD⟩ : ∃ D : Nat, 1 + d1 = (D : Int) := ⟨(1 + d1).toNat, by omega⟩
    rw [hU, hD]
    have u1 : 1 ≤ U := by omega
    have u6 : U ≤ 5 := by omega
    have v1 : 1 ≤ D := by omega
    have v5 : D ≤ 5 := by omega
    clear b00 b01 b10 b11 hU hD
    obtain ⟨m, hm⟩ : ∃ m : Int, (U : Int) + (D : Int) + 2 = m := ⟨_, rfl⟩
    rw [hm]
    -- the first two ways
    refine ⟨small_line (by simp), rd_new fun a1 H2 e2 ha1 _ => ?_⟩
    walk_at "rd"
    refine ⟨small_line (by simp), rd_new fun t1 H3 e3 ht1 _ => ?_⟩
    walk_at "rd"
    refine rd_ixL (SqL.of (e3 _ _ (e2 _ _ hd))) g2 ?_
    obtain ⟨x2, hx2, ax2⟩ := two_at (a := V.str "stay") (b := V.str "zero") b20 b21
    refine rd_ixL (SqL.of ht1) hx2 ?_
    walk_at "rd"
    obtain ⟨z2, rfl, oz2⟩ : ∃ z, x2 = .str z ∧ okDeed z := by
      rcases ax2 with rfl | rfl
      · exact ⟨_, rfl, okS⟩
      · exact ⟨_, rfl, okZ⟩
    refine ⟨small_line (by simp), rd_new fun a2 H4 e4 ha2 _ => ?_⟩
    walk_at "rd"
    refine ⟨small_line (by simp), rd_new fun f H5 e5 hf hfn => ?_⟩
    have e15 : Ext H1 H5 := e2.trans (e3.trans (e4.trans e5))
    have hfn0 : H1 f = none := (e2.trans (e3.trans e4)).none hfn
    obtain ⟨y1, hy1⟩ : ∃ y : Way, y = ⟨0, "stay", 1, "a"⟩ := ⟨_, rfl⟩
    obtain ⟨y2, hy2⟩ : ∃ y : Way, y = ⟨0, z2, 1 + (U : Int), "b"⟩ := ⟨_, rfl⟩
    have wl0 : WL H1 H5 f [y1, y2] := by
      refine ⟨e15, [a1, a2], hf, ?_⟩
      have k1 : H5 a1 = some (.tup y1.vs) := by rw [hy1]; exact e5 _ _ (e4 _ _ (e3 _ _ ha1))
      have k2 : H5 a2 = some (.tup y2.vs) := by rw [hy2]; exact e5 _ _ ha2
      exact ((AlW.nil H5).snoc k1).snoc k2
    have ok0 : ∀ u ∈ [y1, y2], u.Ok m := by
      intro u hu
      rcases List.mem_cons.mp hu with rfl | hu
      · subst hy1; exact ⟨Int.le_refl _, by show (0 : Int) < m; omega, by show (0 : Int) ≤ 1; decide, by show (1 : Int) < m; omega, okS, sgA⟩
      · rw [List.mem_singleton.mp hu]; subst hy2; exact ⟨Int.le_refl _, by show (0 : Int) < m; omega, by show (0 : Int) ≤ 1 + (U : Int); omega, by show 1 + (U : Int) < m; omega, oz2, sgB⟩
    have nd0 : [y1, y2].Nodup := by
      subst hy1 hy2
      refine List.nodup_cons.mpr ⟨fun z => ?_, by simp⟩
      have := congrArg Way.sign (List.mem_singleton.mp z)
      exact ne_ab this
    have pr0 : ∀ u ∈ [y1, y2], u.room ≤ ((0 : Nat) : Int) ∧ u.sign ≠ "c" := by
      intro u hu
      rcases List.mem_cons.mp hu with rfl | hu
      · subst hy1; exact ⟨Int.le_refl _, ne_ac⟩
      · rw [List.mem_singleton.mp hu]; subst hy2; exact ⟨Int.le_refl _, ne_bc⟩
    have ln0 : [y1, y2].length = 2 := rfl
    generalize [y1, y2] = us0 at wl0 ok0 nd0 pr0 ln0
    clear hy1 hy2 ha1 ha2 ht1 hf e2 e3 e4 e5
    walk_at "rd"
    refine rd_i1x (by omega) ?_
    refine forR (fun i σ H3 => ∃ (k : Option V) (us : List Way), σ = [some (.int c), some (.int p), some (.ref dq), some (.int U), some (.int D), some (.int m), some (.ref f), k] ∧ WL H1 H3 f us ∧ (∀ u ∈ us, u.Ok m) ∧ us.Nodup ∧ (∀ u ∈ us, u.room ≤ (i : Int) ∧ u.sign ≠ "c") ∧ us.length = 2 + i)
      ⟨none, us0, rfl, wl0, ok0, nd0, pr0, ln0⟩ ?_ ?_
    · rintro i σ H3 hi ⟨k, us, rfl, wl, ok, nd', pr, len⟩
      rw [Int.toNat_natCast] at hi
      walk_at "rd"
      refine ⟨wl.ty (Ext.rfl' _), ?_⟩
      walk_at "rd"
      try refine rd_I (show (0 : Int) < (U : Int) by omega) ?_
      walk_at "rd"
      refine ⟨small_line (by simp), rd_new fun v H4 e4 hv _ => ?_⟩
      walk_at "rd"
      have r0 : 0 ≤ (0 + (i : Int) + 1) % (U : Int) := Int.emod_nonneg _ (by omega)
      have r1 : (0 + (i : Int) + 1) % (U : Int) < U := Int.emod_lt_of_pos _ (by omega)
      obtain ⟨xs, hx, hlx, wl'⟩ := wl.push (w := ⟨1 + (0 + (i : Int)), "up", 1 + (0 + (i : Int) + 1) % (U : Int), "a"⟩) hfn0 e4 hv
      refine rd_append hx (line16 (by omega)) ?_
      walk_at "rd"
      refine ⟨_, _, rfl, wl', all_snoc ok ⟨by show 0 ≤ 1 + (0 + (i : Int)); omega, by show 1 + (0 + (i : Int)) < m; omega, by show 0 ≤ 1 + (0 + (i : Int) + 1) % (U : Int); omega, by show 1 + (0 + (i : Int) + 1) % (U : Int) < m; omega, okU, sgA⟩, nodup_snoc nd' fun z => ?_, all_snocP (fun u hu => ⟨by have := (pr u hu).1; omega, (pr u hu).2⟩) ⟨by show 1 + (0 + (i : Int)) ≤ _; omega, ne_ac⟩, by simp [len]; omega⟩
      have := (pr _ z).1
      have : 1 + (0 + (i : Int)) ≤ (i : Int) := this
      omega
    clear wl0 ok0 nd0 pr0 ln0
    rintro σ H3 ⟨k, us, rfl, wl, ok, nd', pr, len⟩
    rw [Int.toNat_natCast] at pr len
    walk_at "rd"
    refine rd_i1x (by omega) ?_
    refine forR (fun i σ H3 => ∃ (k : Option V) (us : List Way), σ = [some (.int c), some (.int p), some (.ref dq), some (.int U), some (.int D), some (.int m), some (.ref f), k] ∧ WL H1 H3 f us ∧ (∀ u ∈ us, u.Ok m) ∧ us.Nodup ∧ (∀ u ∈ us, u.room ≤ (U : Int) + (i : Int) ∧ u.sign ≠ "c" ∧ (u.room = 1 + (U : Int) → u.sign = "b")) ∧ us.length = 2 + U + i)
      ⟨_, us, rfl, wl, ok, nd', fun u hu => ⟨by have := (pr u hu).1; omega, (pr u hu).2, fun z => by have := (pr u hu).1; omega⟩, len⟩ ?_ ?_
    · clear wl ok nd' pr len
      rintro i σ H3 hi ⟨k, us, rfl, wl, ok, nd', pr, len⟩
      rw [Int.toNat_natCast] at hi
      walk_at "rd"
      refine ⟨wl.ty (Ext.rfl' _), ?_⟩
      walk_at "rd"
      refine ⟨small_line (by simp), rd_new fun t1 H6 e6 ht1 _ => ?_⟩
      walk_at "rd"
      refine rd_ixL (SqL.of (e6 _ _ (wl.ext _ _ hd))) g3 ?_
      obtain ⟨x3, hx3, ax3⟩ := two_at (a := V.str "up") (b := V.str "down") b30 b31
      refine rd_ixL (SqL.of ht1) hx3 ?_
      walk_at "rd"
      obtain ⟨z3, rfl, oz3⟩ : ∃ z, x3 = .str z ∧ okDeed z := by
        rcases ax3 with rfl | rfl
        · exact ⟨_, rfl, okU⟩
        · exact ⟨_, rfl, okDn⟩
      try refine rd_I (show (0 : Int) < (D : Int) by omega) ?_
      walk_at "rd"
      refine ⟨small_line (by simp), rd_new fun v H4 e4 hv _ => ?_⟩
      walk_at "rd"
      have r0 : 0 ≤ (0 + (i : Int) + 1) % (D : Int) := Int.emod_nonneg _ (by omega)
      have r1 : (0 + (i : Int) + 1) % (D : Int) < D := Int.emod_lt_of_pos _ (by omega)
      obtain ⟨xs, hx, hlx, wl'⟩ := wl.push (w := ⟨1 + (U : Int) + (0 + (i : Int)), z3, 1 + (U : Int) + (0 + (i : Int) + 1) % (D : Int), "b"⟩) hfn0 (e6.trans e4) hv
      refine rd_append hx (line16 (by omega)) ?_
      walk_at "rd"
      refine ⟨_, _, rfl, wl', all_snoc ok ⟨by show 0 ≤ 1 + (U : Int) + (0 + (i : Int)); omega, by show 1 + (U : Int) + (0 + (i : Int)) < m; omega, by show 0 ≤ 1 + (U : Int) + (0 + (i : Int) + 1) % (D : Int); omega, by show 1 + (U : Int) + (0 + (i : Int) + 1) % (D : Int) < m; omega, oz3, sgB⟩, nodup_snoc nd' fun z => ?_, all_snocP (fun u hu => ⟨by have := (pr u hu).1; omega, (pr u hu).2⟩) ⟨by show 1 + (U : Int) + (0 + (i : Int)) ≤ _; omega, ne_bc, fun _ => rfl⟩, by simp [len]; omega⟩
      have := (pr _ z).1
      have : 1 + (U : Int) + (0 + (i : Int)) ≤ (U : Int) + (i : Int) := this
      omega
    clear wl ok nd' pr len
    rintro σ H3 ⟨k, us, rfl, wl, ok, nd', pr, len⟩
    rw [Int.toNat_natCast] at pr len
    walk_at "rd"
    -- (1, stay, m - 1, c)
    refine ⟨wl.ty (Ext.rfl' _), ?_⟩
    walk_at "rd"
    refine ⟨small_line (by simp), rd_new fun v H4 e4 hv _ => ?_⟩
    walk_at "rd"
    obtain ⟨xs, hx, hlx, wl2⟩ := wl.push (w := ⟨1, "stay", m - 1, "c"⟩) hfn0 e4 hv
    have ok2 := all_snoc ok (w := ⟨1, "stay", m - 1, "c"⟩) ⟨by show (0 : Int) ≤ 1; decide, by show (1 : Int) < m; omega, by show 0 ≤ m - 1; omega, by show m - 1 < m; omega, okS, sgC⟩
    have nd2 := nodup_snoc nd' (w := ⟨1, "stay", m - 1, "c"⟩) fun z => (pr _ z).2.1 rfl
    have pr2 := all_snocP (P := fun u => u.room ≤ (U : Int) + (D : Int) ∧ (u.room = 1 + (U : Int) → u.sign = "b")) (fun u hu => ⟨(pr u hu).1, (pr u hu).2.2⟩) (w := ⟨1, "stay", m - 1, "c"⟩) ⟨by show (1 : Int) ≤ _; omega, fun z => by have : (1 : Int) = 1 + (U : Int) := z; omega⟩
    refine rd_append hx (line16 (by omega)) ?_
    generalize upd H4 f _ = H5 at wl2 ⊢
    generalize hus2 : us ++ [_] = us2 at wl2 ok2 nd2 pr2
    have len2 : us2.length = 3 + U + D := by rw [← hus2]; simp [len]; omega
    clear hus2 hx hlx hv e4 wl ok nd' pr len
    walk_at "rd"
    -- (1 + U, stay, m - 1, a)
    refine ⟨wl2.ty (Ext.rfl' _), ?_⟩
    walk_at "rd"
    refine ⟨small_line (by simp), rd_new fun v H4 e4 hv _ => ?_⟩
    walk_at "rd"
    obtain ⟨xs, hx, hlx, wl3⟩ := wl2.push (w := ⟨1 + (U : Int), "stay", m - 1, "a"⟩) hfn0 e4 hv
    have ok3 := all_snoc ok2 (w := ⟨1 + (U : Int), "stay", m - 1, "a"⟩) ⟨by show (0 : Int) ≤ 1 + (U : Int); omega, by show 1 + (U : Int) < m; omega, by show 0 ≤ m - 1; omega, by show m - 1 < m; omega, okS, sgA⟩
    have nd3 := nodup_snoc nd2 (w := ⟨1 + (U : Int), "stay", m - 1, "a"⟩) fun z => ne_ab ((pr2 _ z).2 rfl)
    have pr3 := all_snocP (P := fun u => u.room ≤ (U : Int) + (D : Int)) (fun u hu => (pr2 u hu).1) (w := ⟨1 + (U : Int), "stay", m - 1, "a"⟩) (by show 1 + (U : Int) ≤ _; omega)
    refine rd_append hx (line16 (by omega)) ?_
    generalize upd H4 f _ = H6 at wl3 ⊢
    generalize hus3 : us2 ++ [_] = us3 at wl3 ok3 nd3 pr3
    have len3 : us3.length = 4 + U + D := by rw [← hus3]; simp [len2]; omega
    clear hus3 hx hlx hv e4 wl2 ok2 nd2 pr2 len2
    walk_at "rd"
    -- the two that may be left out
    refine rd_ifJ (fun σ' H' => ∃ (k : Option V) (us : List Way), σ' = [some (.int c), some (.int p), some (.ref dq), some (.int U), some (.int D), some (.int m), some (.ref f), k] ∧ WL H1 H' f us ∧ (∀ u ∈ us, u.Ok m) ∧ us.Nodup ∧ (∀ u ∈ us, u.room ≤ (U : Int) + (D : Int) ∨ u.sign = "c") ∧ us.length ≤ 5 + U + D) ?_ ?_
    · walk_at "rd"
      refine rd_ixL (SqL.of (wl3.ext _ _ hd)) g4 ?_
      walk_at "rd"
      refine ite2 (fun h => ?_) (fun h => ?_)
      · walk_at "rd"
        refine ⟨wl3.ty (Ext.rfl' _), ?_⟩
        walk_at "rd"
        refine ⟨small_line (by simp), rd_new fun v H4 e4 hv _ => ?_⟩
        walk_at "rd"
        obtain ⟨xs, hx, hlx, wl4⟩ := wl3.push (w := ⟨m - 1, "down", m - 1, "c"⟩) hfn0 e4 hv
        refine rd_append hx (line16 (by omega)) ?_
        walk_at "rd"
        exact ⟨_, _, rfl, wl4, all_snoc ok3 ⟨by show 0 ≤ m - 1; omega, by show m - 1 < m; omega, by show 0 ≤ m - 1; omega, by show m - 1 < m; omega, okDn, sgC⟩, nodup_snoc nd3 fun z => by have : m - 1 ≤ (U : Int) + (D : Int) := pr3 _ z; omega, all_snocP (fun u hu => .inl (pr3 u hu)) (.inr rfl), by simp [len3]; omega⟩
      · walk_at "rd"
        exact ⟨_, us3, rfl, wl3, ok3, nd3, fun u hu => .inl (pr3 u hu), by omega⟩
    clear wl3 ok3 nd3 pr3 len3
    rintro σ' H7 ⟨k, us, rfl, wl, ok, nd', pr, len⟩
    walk_at "rd"
    refine rd_ifJ (fun σ' H' => ∃ (k : Option V) (us : List Way), σ' = [some (.int c), some (.int p), some (.ref dq), some (.int U), some (.int D), some (.int m), some (.ref f), k] ∧ WL H1 H' f us ∧ (∀ u ∈ us, u.Ok m) ∧ us.Nodup ∧ us.length ≤ 6 + U + D) ?_ ?_
    · walk_at "rd"
      refine rd_ixL (SqL.of (wl.ext _ _ hd)) g5 ?_
      walk_at "rd"
      refine ite2 (fun h => ?_) (fun h => ?_)
      · walk_at "rd"
        refine ⟨wl.ty (Ext.rfl' _), ?_⟩
        walk_at "rd"
        refine ⟨small_line (by simp), rd_new fun v H4 e4 hv _ => ?_⟩
        walk_at "rd"
        obtain ⟨xs, hx, hlx, wl4⟩ := wl.push (w := ⟨m - 1, "zero", 0, "b"⟩) hfn0 e4 hv
        refine rd_append hx (line16 (by omega)) ?_
        walk_at "rd"
        exact ⟨_, _, rfl, wl4, all_snoc ok ⟨by show 0 ≤ m - 1; omega, by show m - 1 < m; omega, by show (0 : Int) ≤ 0; decide, by show (0 : Int) < m; omega, okZ, sgB⟩, nodup_snoc nd' (fun z => (pr _ z).elim (fun y => by have : m - 1 ≤ (U : Int) + (D : Int) := y; omega) fun y => ne_bc y), by simp; omega⟩
      · walk_at "rd"
        exact ⟨_, us, rfl, wl, ok, nd', by omega⟩
    clear wl ok nd' pr len
    rintro σ' H8 ⟨k, us, rfl, wl, ok, nd', len⟩
    walk_at "rd"
    -- backward or not
    refine rd_ifJ (fun σ' H' => ∃ (k : Option V) (f : Addr) (cs : List Addr) (us : List Way), σ' = [some (.int c), some (.int p), some (.ref dq), some (.int U), some (.int D), some (.int m), some (.ref f), k] ∧ Ext H1 H' ∧ H' f = some (.lst (cs.map V.ref)) ∧ AlW H' cs us ∧ (∀ u ∈ us, u.Ok m) ∧ us.Nodup ∧ us.length ≤ 6 + U + D) ?_ ?_
    · walk_at "rd"
      refine rd_ixL (SqL.of (wl.ext _ _ hd)) g6 ?_
      walk_at "rd"
      obtain ⟨ew, cs, hcs, al⟩ := wl
      refine ite2 (fun h => ?_) (fun h => ?_)
      · walk_at "rd"
        refine ⟨rfl, rd_revLL (SqL.of hcs) (rd_new fun r H9 e9 hr9 _ => ?_)⟩
        walk_at "rd"
        exact ⟨_, r, cs.reverse, us.reverse, rfl, ew.trans e9, by rw [hr9, List.map_reverse], (al.ext e9).rev, fun u hu => ok u (List.mem_reverse.mp hu), List.pairwise_reverse.mpr (nd'.imp fun h => Ne.symm h), by rw [List.length_reverse]; omega⟩
      · walk_at "rd"
        exact ⟨_, f, cs, us, rfl, ew, hcs, al, ok, nd', by omega⟩
    clear wl ok nd' len
    rintro σ' H9 ⟨k, g, cs, us, rfl, ew, hcs, al, ok, nd', len⟩
    walk_at "rd"
    refine rd_tupL (SqL.of hcs) (rd_new fun r I1 i1 hr1 _ => ?_)
    walk_at "rd"
    refine ⟨small_line (by simp), rd_new fun t I2 i2 ht _ => ?_⟩
    exact q _ m us I2 (eH.trans (ew.trans (i1.trans i2))) (HouseAt.mk ht (((al.ext i1).ways hr1).ext i2)) ⟨by omega, by omega, by omega, ok, nd'⟩
noncomputable def sp__law_house (K : PySem.W.Frag) : Sp := fun vs H Q _ => ∃ c p, vs = [.int c, .int p] ∧ 0 < p ∧ ∀ v m ws H', Ext H H' → HouseAt H' v m ws → HOuse m ws → Q v H'
noncomputable abbrev s__law_house : Stmt := stq 152
theorem sc__law_house : FnScope ["_law_cell_here", "_law_prime", "_law_kind", "_law_left"] ["_law_cell_here", "_law_prime"] (defScope s__law_house) := ⟨rfl, rfl, rfl, by decide +kernel, rfl, by decide +kernel, by decide +kernel⟩
theorem ok__law_house {P : Program} {w : World} {K : PySem.W.Frag} {mg : Str → Option Value} {base : Heap} (D : Dfn K mg "_law_house" s__law_house ["_law_cell_here", "_law_prime"]) (T : Blt mg) (C__law_drawn_house : Cal P w K mg base "_law_drawn_house" 3 ["_law_cell_here", "_law_prime"] (sp__law_drawn_house K)) (C__law_gate_house : Cal P w K mg base "_law_gate_house" 3 ["_law_cell_here", "_law_prime"] (sp__law_gate_house K)) (C__law_ring_house : Cal P w K mg base "_law_ring_house" 3 ["_law_cell_here", "_law_prime"] (sp__law_ring_house K)) (C__law_spare : Cal P w K mg base "_law_spare" 1 ["_law_cell_here", "_law_width"] (sp__law_spare K)) (C__law_draws : Cal P w K mg base "_law_draws" 2 ["_law_cell_here", "_law_widths", "_law_prime"] (sp__law_draws K)) : Cal P w K mg base "_law_house" 4 ["_law_cell_here", "_law_prime"] (sp__law_house K) := by
  have nd := (sc__law_house).nd
  refine D.ok sc__law_house (fun vs H Q E h => ?_) (fun X hX H vs Q E h => ?_)
  · obtain ⟨c, p, rfl, _⟩ := h; rfl
  · obtain ⟨f, cdv, A, outer, s, H0, E0, rfl, hr⟩ := hX
    obtain ⟨c, p, rfl, hp, q⟩ := h
    refine ⟨_, (no_implicit_lambda% (pss_cons (no_implicit_lambda% (ps_set (i := 2) nd rfl (Or.inl rfl) (no_implicit_lambda% (pe_ix (ix_listK K) (no_implicit_lambda% (pe_cal C__law_draws hr (no_implicit_lambda% (pa_cons (no_implicit_lambda% (pv 0)) (no_implicit_lambda% (pa_cons (no_implicit_lambda% (pe_lst (no_implicit_lambda% (pa_cons pe_int pa_nil)))) (no_implicit_lambda% (pa_cons (no_implicit_lambda% (pv 1)) pa_nil)))))))) pe_int (fun _ _ => rfl)))))
        (no_implicit_lambda% (pss_cons (no_implicit_lambda% (ps_set (i := 3) nd rfl (Or.inl rfl) (no_implicit_lambda% (pe_cal C__law_spare hr (no_implicit_lambda% (pa_cons (no_implicit_lambda% (pv 0)) (no_implicit_lambda% (pa_cons pe_int pa_nil))))))))
        (no_implicit_lambda% (pss_cons (no_implicit_lambda% (ps_if (no_implicit_lambda% (pt_cmpR op_eq (no_implicit_lambda% (pv 2)) pe_int (nomark _))) (no_implicit_lambda% (pss_one (no_implicit_lambda% (ps_ret (no_implicit_lambda% (pe_cal C__law_ring_house hr (no_implicit_lambda% (pa_cons (no_implicit_lambda% (pv 3)) (no_implicit_lambda% (pa_cons (no_implicit_lambda% (pv 1)) pa_nil)))))))))) pss_nil))
        (no_implicit_lambda% (pss_cons (no_implicit_lambda% (ps_if (no_implicit_lambda% (pt_cmpR op_eq (no_implicit_lambda% (pv 2)) pe_int (nomark _))) (no_implicit_lambda% (pss_one (no_implicit_lambda% (ps_ret (no_implicit_lambda% (pe_cal C__law_gate_house hr (no_implicit_lambda% (pa_cons (no_implicit_lambda% (pv 3)) (no_implicit_lambda% (pa_cons (no_implicit_lambda% (pv 1)) pa_nil)))))))))) pss_nil))
        (no_implicit_lambda% (pss_one (no_implicit_lambda% (ps_ret (no_implicit_lambda% (pe_cal C__law_drawn_house hr (no_implicit_lambda% (pa_cons (no_implicit_lambda% (pv 3)) (no_implicit_lambda% (pa_cons (no_implicit_lambda% (pv 1)) pa_nil)))))))))))))))))), ?_⟩
    walk_at "rd"
    refine ⟨small_line (by simp), rd_new fun w0 G1 f1 hw0 _ => ?_⟩
    walk_at "rd"
    refine ⟨c, w0, [8], p, rfl, hw0, by decide, by decide, hp, fun dq ds H1 e1 hd hdn hl hb => ?_⟩
    have eH : Ext H H1 := f1.trans e1
    obtain ⟨d0, g0, _⟩ := draws_at hl hb 0 rfl
    walk_at "rd"
    refine rd_ixL (SqL.of hd) g0 ?_
    walk_at "rd"
    refine ⟨c, 8, rfl, by decide, by decide, fun z => ?_⟩
    walk_at "rd"
    refine ite2 (fun h => ?_) (fun h => ?_)
    · walk_at "rd"
      exact ⟨z, p, rfl, hp, fun v m ws H' e hv ok => q v m ws H' (eH.trans e) hv ok⟩
    · walk_at "rd"
      refine ite2 (fun h => ?_) (fun h => ?_)
      · walk_at "rd"
        exact ⟨z, p, rfl, hp, fun v m ws H' e hv ok => q v m ws H' (eH.trans e) hv ok⟩
      · walk_at "rd"
        exact ⟨z, p, rfl, hp, fun v m ws H' e hv ok => q v m ws H' (eH.trans e) hv ok⟩
theorem one_sign {z : Str} (h : z.length = 1) : ∃ c, z = ⟨#[c]⟩ := by
  obtain ⟨cps⟩ := z
  have h' : cps.size = 1 := h
  obtain ⟨l⟩ := cps
  match l, h' with
  | [c], _ => exact ⟨c, rfl⟩
theorem ways_bad {H : Hp} {m : Int} {xs : List V} {x : V} (hx : x ∈ xs) (h : wayV H m x = false) : waysL H m xs = false := by
  unfold waysL
  have : xs.all (wayV H m) = false := by
    rw [List.all_eq_false]
    exact ⟨x, hx, by rw [h]; exact Bool.false_ne_true⟩
  rw [this, Bool.false_and, Bool.and_false]
theorem room_lo {m i : Int} (h : i < 0) : roomV m (.int i) = false := by
  unfold roomV
  dsimp only
  rw [decide_eq_false (show ¬ 0 ≤ i by omega)]
  rfl
theorem room_hi {m i : Int} (h : m ≤ i) : roomV m (.int i) = false := by
  unfold roomV
  dsimp only
  rw [decide_eq_false (show ¬ i < m by omega)]
  exact Bool.and_false _
theorem room_yes {m i : Int} (h : 0 ≤ i) (h' : i < m) : roomV m (.int i) = true := by
  unfold roomV
  dsimp only
  rw [decide_eq_true h, decide_eq_true h']
  rfl
theorem wayL_r {m : Int} {a b c d : V} (h : roomV m a = false ∨ roomV m c = false ∨ deedV b = false ∨ signV d = false) : wayL m [a, b, c, d] = false := by
  unfold wayL
  dsimp only
  rcases h with h | h | h | h <;> rw [h] <;> simp
noncomputable def Ths (H : Hp) (n : Nat) (xs : List V) : Prop := ∀ x ∈ xs, Thg H n x
theorem Ths.ext {H H' : Hp} {n : Nat} {xs : List V} (e : Ext H H') (h : Ths H n xs) : Ths H' n xs := fun x hx => (h x hx).ext e
theorem Ths.cut {H : Hp} {n : Nat} {xs : List V} {lo hi : Option Int} (h : Ths H n xs) : Ths H n (cutV xs lo hi) := fun x hx => h x (List.mem_of_mem_drop (List.mem_of_mem_take hx))
theorem Ths.app {H : Hp} {n : Nat} {xs ys : List V} (h : Ths H n xs) (h' : Ths H n ys) : Ths H n (xs ++ ys) := fun x hx => (List.mem_append.mp hx).elim (h x) (h' x)
theorem Ths.nil (H : Hp) (n : Nat) : Ths H n [] := fun x hx => by cases hx
theorem Ths.cons {H : Hp} {n : Nat} {x : V} {xs : List V} (h : Thg H n x) (h' : Ths H n xs) : Ths H n (x :: xs) := fun y hy => by
  rcases List.mem_cons.mp hy with rfl | hy
  · exact h
  · exact h' y hy
theorem thg_tup {H : Hp} {n : Nat} {p : Addr} {xs : List V} (h : H p = some (.tup xs)) (hl : xs.length ≤ 2000) (hx : Ths H n xs) : Thg H (n + 1) (.ref p) := ⟨xs, .inl h, hl, hx⟩
theorem thg_lst {H : Hp} {n : Nat} {p : Addr} {xs : List V} (h : H p = some (.lst xs)) (hl : xs.length ≤ 2000) (hx : Ths H n xs) : Thg H (n + 1) (.ref p) := ⟨xs, .inr h, hl, hx⟩
theorem Thg.up {H : Hp} : ∀ {n : Nat} {v : V}, Thg H n v → Thg H (n + 1) v := by
  intro n
  induction n with
  | zero =>
    intro v h
    cases v <;> first | exact h | exact h.elim
  | succ n ih =>
    intro v h
    cases v with
    | ref p =>
      obtain ⟨xs, h1, h2, h3⟩ := h
      exact ⟨xs, h1, h2, fun x hx => ih (h3 x hx)⟩
    | _ => exact h
theorem Ths.up {H : Hp} {n : Nat} {xs : List V} (h : Ths H n xs) : Ths H (n + 1) xs := fun x hx => (h x hx).up
theorem thg_int (H : Hp) (n : Nat) (i : Int) : Thg H n (.int i) := by cases n <;> trivial
theorem thg_non (H : Hp) (n : Nat) : Thg H n .non := by cases n <;> trivial
theorem thg_bl (H : Hp) (n : Nat) (b : Bool) : Thg H n (.bl b) := by cases n <;> trivial
theorem thg_str (H : Hp) (n : Nat) {z : Str} (h : z.length ≤ 1000) : Thg H n (.str z) := by cases n <;> exact h
theorem cut_len {xs : List V} {lo hi : Option Int} {k : Nat} (h : xs.length ≤ k) : (cutV xs lo hi).length ≤ k := Nat.le_trans (cutV_length xs lo hi) h
theorem deed_len {z : Str} (h : okDeed z) : z.length ≤ 1000 := by
  rcases h with rfl | rfl | rfl | rfl <;> decide +kernel
theorem sign_len {z : Str} (h : okSign z) : z.length ≤ 1000 := by
  obtain ⟨c, _, _, rfl⟩ := h
  show 1 ≤ 1000
  decide
theorem way_ths {H : Hp} {m : Int} {w : Way} (ok : w.Ok m) : Ths H 0 w.vs :=
  .cons (thg_int _ _ _) (.cons (thg_str _ _ (deed_len ok.dd)) (.cons (thg_int _ _ _) (.cons (thg_str _ _ (sign_len ok.sg)) (.nil _ _))))
theorem house_ths {H : Hp} {v : V} {m : Int} {ws : List Way} (h : HouseAt H v m ws) (ok : HOuse m ws) : ∃ p q bs, v = .ref p ∧ H p = some (.tup [.int m, .ref q]) ∧ H q = some (.tup (bs.map V.ref)) ∧ bs.length = ws.length ∧ AlW H bs ws ∧ Ths H 1 (bs.map V.ref) := by
  obtain ⟨p, q, rfl, h1, h2⟩ := h
  obtain ⟨bs, h3, h4⟩ := h2.al
  refine ⟨p, q, bs, rfl, h1, h3, h4.1, h4, fun x hx => ?_⟩
  obtain ⟨b, hb, rfl⟩ := List.mem_map.mp hx
  obtain ⟨j, hj, e⟩ := List.mem_iff_getElem.mp hb
  have hjw : j < ws.length := by rw [← h4.1]; exact hj
  have hw : ws[j]? = some ws[j] := List.getElem?_eq_getElem hjw
  exact thg_tup (h4.2 j b _ (by rw [List.getElem?_eq_getElem hj, e]) hw) (by show 4 ≤ 2000; decide) (way_ths (ok.ok _ (List.getElem_mem _)))
theorem sign1_ok {c : Nat} (h1 : 97 ≤ c) (h2 : c ≤ 122) : sign1 ⟨#[c]⟩ = true := by
  have ea : (Str.ofString "a").cps.toList = [97] := by decide +kernel
  have ez : (Str.ofString "z").cps.toList = [122] := by decide +kernel
  unfold sign1
  rw [ea, ez]
  show (!decide (([c] : List Nat) < [97]) && !decide (([122] : List Nat) < [c])) = true
  rw [decide_eq_false (fun z => by rw [List.cons_lt_cons_iff] at z; simp at z; omega), decide_eq_false (fun z => by rw [List.cons_lt_cons_iff] at z; simp at z; omega)]
  rfl
theorem deedV_ok {z : Str} (h : okDeed z) : deedV (.str z) = true := by
  rcases h with rfl | rfl | rfl | rfl <;> decide +kernel
theorem wayV_ok {H : Hp} {b : Addr} {m : Int} {w : Way} (h : H b = some (.tup w.vs)) (ok : w.Ok m) : wayV H m (.ref b) = true := by
  rw [way_tup h]
  obtain ⟨c, h1, h2, e⟩ := ok.sg
  unfold Way.vs wayL
  dsimp only
  rw [room_yes ok.r0 ok.r1, room_yes ok.o0 ok.o1, deedV_ok ok.dd, e]
  unfold signV
  dsimp only
  rw [sign1_ok h1 h2]
  rfl
theorem al_keys {H : Hp} : ∀ {bs : List Addr} {ws : List Way}, AlW H bs ws → (bs.map V.ref).map (keyV H) = ws.map Way.key
  | [], [], _ => rfl
  | [], _ :: _, h => by cases h.1
  | _ :: _, [], h => by cases h.1
  | b :: bs, w :: ws, h => by
    rw [List.map_cons, List.map_cons, List.map_cons, al_keys (bs := bs) (ws := ws) ⟨Nat.succ.inj h.1, fun j b w e1 e2 => h.2 (j + 1) b w e1 e2⟩, key_tup (h.2 0 b w rfl rfl)]
    rfl
theorem al_all {H : Hp} {m : Int} {bs : List Addr} {ws : List Way} (h : AlW H bs ws) (ok : ∀ w ∈ ws, w.Ok m) : (bs.map V.ref).all (wayV H m) = true := by
  rw [List.all_eq_true]
  intro x hx
  obtain ⟨b, hb, rfl⟩ := List.mem_map.mp hx
  obtain ⟨j, hj, e⟩ := List.mem_iff_getElem.mp hb
  have hjw : j < ws.length := by rw [← h.1]; exact hj
  exact wayV_ok (h.2 j b _ (by rw [List.getElem?_eq_getElem hj, e]) (List.getElem?_eq_getElem hjw)) (ok _ (List.getElem_mem hjw))
theorem house_is {H : Hp} {p q : Addr} {m : Int} {bs : List Addr} {ws : List Way} (h1 : H p = some (.tup [.int m, .ref q])) (h2 : H q = some (.tup (bs.map V.ref))) (h3 : AlW H bs ws) (m1 : 1 ≤ m) (m2 : m ≤ 12) (ok : ∀ w ∈ ws, w.Ok m) (nd : ws.Nodup) : houseV H (.ref p) = decide (ws.length ≤ 100) := by
  rw [house_tup h1]
  unfold houseL
  dsimp only
  rw [decide_eq_true m1, decide_eq_true m2, ways_tup h2]
  unfold waysL
  have hk : (ws.map Way.key).Nodup := by
    unfold List.Nodup at nd ⊢
    rw [List.pairwise_map]
    exact nd.imp fun ne e => ne (Way.key_inj e)
  rw [al_all h3 ok, al_keys h3, decide_eq_true hk, List.length_map, h3.1]
  simp
theorem waysV_ext {H H' : Hp} {m : Int} {n : Nat} {v : V} (e : Ext H H') (h : Thg H (n + 1) v) : waysV H' m v = waysV H m v := by
  cases v with
  | ref p =>
    obtain ⟨xs, h1, _, h3⟩ := h
    unfold waysV
    dsimp only
    rcases h1 with h1 | h1
    · rw [h1, e _ _ h1]
      dsimp only
      unfold waysL
      have e1 : xs.all (wayV H' m) = xs.all (wayV H m) := by
        rw [Bool.eq_iff_iff, List.all_eq_true, List.all_eq_true]
        exact ⟨fun z x hx => by rw [← wayV_ext e (h3 x hx)]; exact z x hx, fun z x hx => by rw [wayV_ext e (h3 x hx)]; exact z x hx⟩
      have e2 : xs.map (keyV H') = xs.map (keyV H) := List.map_congr_left fun x hx => keyV_ext e (h3 x hx)
      rw [e1, e2]
    · rw [h1, e _ _ h1]
  | _ => rfl
theorem houseV_ext {H H' : Hp} {v : V} (e : Ext H H') (h : Thg H 4 v) : houseV H' v = houseV H v := by
  cases v with
  | ref p =>
    obtain ⟨xs, h1, _, h3⟩ := h
    unfold houseV
    dsimp only
    rcases h1 with h1 | h1
    · rw [h1, e _ _ h1]
      dsimp only
      unfold houseL
      split
      · rename_i m q _hl
        rw [waysV_ext e (h3 q (by simp))]
      · rfl
    · rw [h1, e _ _ h1]
  | _ => rfl
noncomputable def NoH (H : Hp) (v : V) : Prop := Thg H 4 v ∧ houseV H v = false
theorem NoH.ext {H H' : Hp} {v : V} (e : Ext H H') (h : NoH H v) : NoH H' v := ⟨h.1.ext e, (houseV_ext e h.1).trans h.2⟩
noncomputable def Ref (K : PySem.W.Frag) (H : Hp) (E : XK) : Prop := ∀ H', Ext H H' → E (.ref (cA K "NoHouse")) none H'
theorem Ref.ext {K : PySem.W.Frag} {H H' : Hp} {E : XK} (e : Ext H H') (h : Ref K H E) : Ref K H' E := fun J eJ => h J (e.trans eJ)
noncomputable def sp_refuse_no_house (K : PySem.W.Frag) : Sp := fun vs H Q E => ∃ v, vs = [v] ∧ Thg H 4 v ∧ ∀ H', Ext H H' → if houseV H v = true then Q .non H' else E (.ref (cA K "NoHouse")) none H'
noncomputable abbrev s_refuse_no_house : Stmt := stq 39
theorem sc_refuse_no_house : FnScope ["thing"] ["thing"] (defScope s_refuse_no_house) := ⟨rfl, rfl, rfl, by decide +kernel, rfl, by decide +kernel, by decide +kernel⟩
theorem ok_refuse_no_house {P : Program} {w : World} {K : PySem.W.Frag} {mg : Str → Option Value} {base : Heap} (D : Dfn K mg "refuse_no_house" s_refuse_no_house ["thing"]) (T : Blt mg) (XF : Xf K mg base allC raisedC) (C_is_house : Cal P w K mg base "is_house" 5 ["thing"] (sp_is_house K)) : CalX P w K mg base "refuse_no_house" 6 ["thing"] (sp_refuse_no_house K) := by
  have nd := (sc_refuse_no_house).nd
  refine D.okX sc_refuse_no_house (fun vs H Q E h => ?_) (fun f cdv A outer s H vs Q E hr h => ?_)
  · obtain ⟨v, rfl, _⟩ := h; rfl
  · obtain ⟨v, rfl, ht, q⟩ := h
    refine ⟨_, (no_implicit_lambda% (pss_one (no_implicit_lambda% (ps_if (no_implicit_lambda% (pt_not (no_implicit_lambda% (pt_val (no_implicit_lambda% (pe_cal C_is_house hr (no_implicit_lambda% (pa_cons (no_implicit_lambda% (pv 0)) pa_nil)))))))) (no_implicit_lambda% (pss_one (no_implicit_lambda% (ps_raise (XF.own "NoHouse" (by decide +kernel)) PySem.F.excBase_ValueError (no_implicit_lambda% (pa_cons pe_str pa_nil)))))) pss_nil)))), ?_⟩
    walk_at "rd"
    refine ⟨v, rfl, ht, fun H1 e1 => ?_⟩
    have q1 := q H1 e1
    walk_at "rd"
    cases hv : houseV H v with
    | true =>
      rw [hv, if_pos rfl] at q1
      refine iteF ?_
      walk_at "rd"
      exact q1
    | false =>
      rw [hv, if_neg Bool.false_ne_true] at q1
      refine iteT ?_
      walk_at "rd"
      exact ⟨small_line (by simp), q1⟩
theorem refuses {K : PySem.W.Frag} {H : Hp} {v : V} {Q : VK} {E : XK} (hv : NoH H v) (q : Ref K H E) : sp_refuse_no_house K [v] H Q E :=
  ⟨v, rfl, hv.1, fun H1 e1 => by rw [hv.2]; exact iteF (q H1 e1)⟩
noncomputable def sp_turned_about (K : PySem.W.Frag) : Sp := fun vs H _ E => ∃ v, vs = [v] ∧ NoH H v ∧ Ref K H E
noncomputable abbrev s_turned_about : Stmt := stq 43
theorem sc_turned_about : FnScope ["house"] ["house"] (defScope s_turned_about) := ⟨rfl, rfl, rfl, by decide +kernel, rfl, by decide +kernel, by decide +kernel⟩
theorem ok_turned_about {P : Program} {w : World} {K : PySem.W.Frag} {mg : Str → Option Value} {base : Heap} (D : Dfn K mg "turned_about" s_turned_about ["house"]) (T : Blt mg) (CX_refuse_no_house : CalX P w K mg base "refuse_no_house" 6 ["thing"] (sp_refuse_no_house K)) : CalX P w K mg base "turned_about" 7 ["house"] (sp_turned_about K) := by
  have nd := (sc_turned_about).nd
  refine D.okX sc_turned_about (fun vs H Q E h => ?_) (fun f cdv A outer s H vs Q E hr h => ?_)
  · obtain ⟨v, rfl, _⟩ := h; rfl
  · obtain ⟨v, rfl, hv, q⟩ := h
    refine ⟨_, (no_implicit_lambda% (pss_cons (no_implicit_lambda% (ps_expr (no_implicit_lambda% (pe_calX CX_refuse_no_house hr (no_implicit_lambda% (pa_cons (no_implicit_lambda% (pv 0)) pa_nil))))))
        pss_never)), ?_⟩
    walk_at "rd"
    exact refuses hv q
noncomputable def sp_kept (K : PySem.W.Frag) : Sp := fun vs H _ E => ∃ v, vs = [v] ∧ NoH H v ∧ Ref K H E
noncomputable abbrev s_kept : Stmt := stq 56
theorem sc_kept : FnScope ["house", "table"] ["house"] (defScope s_kept) := ⟨rfl, rfl, rfl, by decide +kernel, rfl, by decide +kernel, by decide +kernel⟩
theorem ok_kept {P : Program} {w : World} {K : PySem.W.Frag} {mg : Str → Option Value} {base : Heap} (D : Dfn K mg "kept" s_kept ["house"]) (T : Blt mg) (CX_refuse_no_house : CalX P w K mg base "refuse_no_house" 6 ["thing"] (sp_refuse_no_house K)) : CalX P w K mg base "kept" 7 ["house"] (sp_kept K) := by
  have nd := (sc_kept).nd
  refine D.okX sc_kept (fun vs H Q E h => ?_) (fun f cdv A outer s H vs Q E hr h => ?_)
  · obtain ⟨v, rfl, _⟩ := h; rfl
  · obtain ⟨v, rfl, hv, q⟩ := h
    refine ⟨_, (no_implicit_lambda% (pss_cons (no_implicit_lambda% (ps_expr (no_implicit_lambda% (pe_calX CX_refuse_no_house hr (no_implicit_lambda% (pa_cons (no_implicit_lambda% (pv 0)) pa_nil))))))
        pss_never)), ?_⟩
    walk_at "rd"
    exact refuses hv q
noncomputable def sp_risen (K : PySem.W.Frag) : Sp := fun vs H _ E => ∃ v, vs = [v] ∧ NoH H v ∧ Ref K H E
noncomputable abbrev s_risen : Stmt := stq 57
theorem sc_risen : FnScope ["house", "table", "ups"] ["house"] (defScope s_risen) := ⟨rfl, rfl, rfl, by decide +kernel, rfl, by decide +kernel, by decide +kernel⟩
theorem ok_risen {P : Program} {w : World} {K : PySem.W.Frag} {mg : Str → Option Value} {base : Heap} (D : Dfn K mg "risen" s_risen ["house"]) (T : Blt mg) (CX_refuse_no_house : CalX P w K mg base "refuse_no_house" 6 ["thing"] (sp_refuse_no_house K)) : CalX P w K mg base "risen" 7 ["house"] (sp_risen K) := by
  have nd := (sc_risen).nd
  refine D.okX sc_risen (fun vs H Q E h => ?_) (fun f cdv A outer s H vs Q E hr h => ?_)
  · obtain ⟨v, rfl, _⟩ := h; rfl
  · obtain ⟨v, rfl, hv, q⟩ := h
    refine ⟨_, (no_implicit_lambda% (pss_cons (no_implicit_lambda% (ps_expr (no_implicit_lambda% (pe_calX CX_refuse_no_house hr (no_implicit_lambda% (pa_cons (no_implicit_lambda% (pv 0)) pa_nil))))))
        pss_never)), ?_⟩
    walk_at "rd"
    exact refuses hv q
noncomputable def sp_fallen (K : PySem.W.Frag) : Sp := fun vs H _ E => ∃ v, vs = [v] ∧ NoH H v ∧ Ref K H E
noncomputable abbrev s_fallen : Stmt := stq 58
theorem sc_fallen : FnScope ["house", "table", "downs"] ["house"] (defScope s_fallen) := ⟨rfl, rfl, rfl, by decide +kernel, rfl, by decide +kernel, by decide +kernel⟩
theorem ok_fallen {P : Program} {w : World} {K : PySem.W.Frag} {mg : Str → Option Value} {base : Heap} (D : Dfn K mg "fallen" s_fallen ["house"]) (T : Blt mg) (CX_refuse_no_house : CalX P w K mg base "refuse_no_house" 6 ["thing"] (sp_refuse_no_house K)) : CalX P w K mg base "fallen" 7 ["house"] (sp_fallen K) := by
  have nd := (sc_fallen).nd
  refine D.okX sc_fallen (fun vs H Q E h => ?_) (fun f cdv A outer s H vs Q E hr h => ?_)
  · obtain ⟨v, rfl, _⟩ := h; rfl
  · obtain ⟨v, rfl, hv, q⟩ := h
    refine ⟨_, (no_implicit_lambda% (pss_cons (no_implicit_lambda% (ps_expr (no_implicit_lambda% (pe_calX CX_refuse_no_house hr (no_implicit_lambda% (pa_cons (no_implicit_lambda% (pv 0)) pa_nil))))))
        pss_never)), ?_⟩
    walk_at "rd"
    exact refuses hv q
noncomputable def sp_is_bare (K : PySem.W.Frag) : Sp := fun vs H _ E => ∃ v, vs = [v] ∧ NoH H v ∧ Ref K H E
noncomputable abbrev s_is_bare : Stmt := stq 120
theorem sc_is_bare : FnScope ["house"] ["house"] (defScope s_is_bare) := ⟨rfl, rfl, rfl, by decide +kernel, rfl, by decide +kernel, by decide +kernel⟩
theorem ok_is_bare {P : Program} {w : World} {K : PySem.W.Frag} {mg : Str → Option Value} {base : Heap} (D : Dfn K mg "is_bare" s_is_bare ["house"]) (T : Blt mg) (CX_refuse_no_house : CalX P w K mg base "refuse_no_house" 6 ["thing"] (sp_refuse_no_house K)) : CalX P w K mg base "is_bare" 7 ["house"] (sp_is_bare K) := by
  have nd := (sc_is_bare).nd
  refine D.okX sc_is_bare (fun vs H Q E h => ?_) (fun f cdv A outer s H vs Q E hr h => ?_)
  · obtain ⟨v, rfl, _⟩ := h; rfl
  · obtain ⟨v, rfl, hv, q⟩ := h
    refine ⟨_, (no_implicit_lambda% (pss_cons (no_implicit_lambda% (ps_expr (no_implicit_lambda% (pe_calX CX_refuse_no_house hr (no_implicit_lambda% (pa_cons (no_implicit_lambda% (pv 0)) pa_nil))))))
        pss_never)), ?_⟩
    walk_at "rd"
    exact refuses hv q
noncomputable def sp_open_ways (K : PySem.W.Frag) : Sp := fun vs H _ E => ∃ v a, vs = [v, a] ∧ NoH H v ∧ Ref K H E
noncomputable abbrev s_open_ways : Stmt := stq 48
theorem sc_open_ways : FnScope ["house", "place"] ["house", "place"] (defScope s_open_ways) := ⟨rfl, rfl, rfl, by decide +kernel, rfl, by decide +kernel, by decide +kernel⟩
theorem ok_open_ways {P : Program} {w : World} {K : PySem.W.Frag} {mg : Str → Option Value} {base : Heap} (D : Dfn K mg "open_ways" s_open_ways ["house", "place"]) (T : Blt mg) (CX_refuse_no_house : CalX P w K mg base "refuse_no_house" 6 ["thing"] (sp_refuse_no_house K)) : CalX P w K mg base "open_ways" 7 ["house", "place"] (sp_open_ways K) := by
  have nd := (sc_open_ways).nd
  refine D.okX sc_open_ways (fun vs H Q E h => ?_) (fun f cdv A outer s H vs Q E hr h => ?_)
  · obtain ⟨v, a, rfl, _⟩ := h; rfl
  · obtain ⟨v, a, rfl, hv, q⟩ := h
    refine ⟨_, (no_implicit_lambda% (pss_cons (no_implicit_lambda% (ps_expr (no_implicit_lambda% (pe_calX CX_refuse_no_house hr (no_implicit_lambda% (pa_cons (no_implicit_lambda% (pv 0)) pa_nil))))))
        pss_never)), ?_⟩
    walk_at "rd"
    exact refuses hv q
noncomputable def sp_walked (K : PySem.W.Frag) : Sp := fun vs H _ E => ∃ v a b, vs = [v, a, b] ∧ NoH H v ∧ Ref K H E
noncomputable abbrev s_walked : Stmt := stq 84
theorem sc_walked : FnScope ["house", "place", "walk", "places"] ["house", "place", "walk"] (defScope s_walked) := ⟨rfl, rfl, rfl, by decide +kernel, rfl, by decide +kernel, by decide +kernel⟩
theorem ok_walked {P : Program} {w : World} {K : PySem.W.Frag} {mg : Str → Option Value} {base : Heap} (D : Dfn K mg "walked" s_walked ["house", "place", "walk"]) (T : Blt mg) (CX_refuse_no_house : CalX P w K mg base "refuse_no_house" 6 ["thing"] (sp_refuse_no_house K)) : CalX P w K mg base "walked" 7 ["house", "place", "walk"] (sp_walked K) := by
  have nd := (sc_walked).nd
  refine D.okX sc_walked (fun vs H Q E h => ?_) (fun f cdv A outer s H vs Q E hr h => ?_)
  · obtain ⟨v, a, b, rfl, _⟩ := h; rfl
  · obtain ⟨v, a, b, rfl, hv, q⟩ := h
    refine ⟨_, (no_implicit_lambda% (pss_cons (no_implicit_lambda% (ps_expr (no_implicit_lambda% (pe_calX CX_refuse_no_house hr (no_implicit_lambda% (pa_cons (no_implicit_lambda% (pv 0)) pa_nil))))))
        pss_never)), ?_⟩
    walk_at "rd"
    exact refuses hv q
noncomputable def sp_shortest (K : PySem.W.Frag) : Sp := fun vs H _ E => ∃ v a b, vs = [v, a, b] ∧ NoH H v ∧ Ref K H E
noncomputable abbrev s_shortest : Stmt := stq 90
theorem sc_shortest : FnScope ["house", "place", "goal"] ["house", "place", "goal"] (defScope s_shortest) := ⟨rfl, rfl, rfl, by decide +kernel, rfl, by decide +kernel, by decide +kernel⟩
theorem ok_shortest {P : Program} {w : World} {K : PySem.W.Frag} {mg : Str → Option Value} {base : Heap} (D : Dfn K mg "shortest" s_shortest ["house", "place", "goal"]) (T : Blt mg) (CX_refuse_no_house : CalX P w K mg base "refuse_no_house" 6 ["thing"] (sp_refuse_no_house K)) : CalX P w K mg base "shortest" 7 ["house", "place", "goal"] (sp_shortest K) := by
  have nd := (sc_shortest).nd
  refine D.okX sc_shortest (fun vs H Q E h => ?_) (fun f cdv A outer s H vs Q E hr h => ?_)
  · obtain ⟨v, a, b, rfl, _⟩ := h; rfl
  · obtain ⟨v, a, b, rfl, hv, q⟩ := h
    refine ⟨_, (no_implicit_lambda% (pss_cons (no_implicit_lambda% (ps_expr (no_implicit_lambda% (pe_calX CX_refuse_no_house hr (no_implicit_lambda% (pa_cons (no_implicit_lambda% (pv 0)) pa_nil))))))
        pss_never)), ?_⟩
    walk_at "rd"
    exact refuses hv q
noncomputable def sp_forward (K : PySem.W.Frag) : Sp := fun vs H _ E => ∃ v a, vs = [v, a] ∧ NoH H v ∧ Ref K H E
noncomputable abbrev s_forward : Stmt := stq 68
theorem sc_forward : FnScope ["house", "place", "told"] ["house", "place"] (defScope s_forward) := ⟨rfl, rfl, rfl, by decide +kernel, rfl, by decide +kernel, by decide +kernel⟩
theorem ok_forward {P : Program} {w : World} {K : PySem.W.Frag} {mg : Str → Option Value} {base : Heap} (D : Dfn K mg "forward" s_forward ["house", "place"]) (T : Blt mg) (CX_refuse_no_house : CalX P w K mg base "refuse_no_house" 6 ["thing"] (sp_refuse_no_house K)) : CalX P w K mg base "forward" 7 ["house", "place"] (sp_forward K) := by
  have nd := (sc_forward).nd
  refine D.okX sc_forward (fun vs H Q E h => ?_) (fun f cdv A outer s H vs Q E hr h => ?_)
  · obtain ⟨v, a, rfl, _⟩ := h; rfl
  · obtain ⟨v, a, rfl, hv, q⟩ := h
    refine ⟨_, (no_implicit_lambda% (pss_cons (no_implicit_lambda% (ps_expr (no_implicit_lambda% (pe_calX CX_refuse_no_house hr (no_implicit_lambda% (pa_cons (no_implicit_lambda% (pv 0)) pa_nil))))))
        pss_never)), ?_⟩
    walk_at "rd"
    exact refuses hv q
noncomputable def sp_ranks (K : PySem.W.Frag) : Sp := fun vs H _ E => ∃ v a, vs = [v, a] ∧ NoH H v ∧ Ref K H E
noncomputable abbrev s_ranks : Stmt := stq 110
theorem sc_ranks : FnScope ["house", "place", "known"] ["house", "place"] (defScope s_ranks) := ⟨rfl, rfl, rfl, by decide +kernel, rfl, by decide +kernel, by decide +kernel⟩
theorem ok_ranks {P : Program} {w : World} {K : PySem.W.Frag} {mg : Str → Option Value} {base : Heap} (D : Dfn K mg "ranks" s_ranks ["house", "place"]) (T : Blt mg) (CX_refuse_no_house : CalX P w K mg base "refuse_no_house" 6 ["thing"] (sp_refuse_no_house K)) : CalX P w K mg base "ranks" 7 ["house", "place"] (sp_ranks K) := by
  have nd := (sc_ranks).nd
  refine D.okX sc_ranks (fun vs H Q E h => ?_) (fun f cdv A outer s H vs Q E hr h => ?_)
  · obtain ⟨v, a, rfl, _⟩ := h; rfl
  · obtain ⟨v, a, rfl, hv, q⟩ := h
    refine ⟨_, (no_implicit_lambda% (pss_cons (no_implicit_lambda% (ps_expr (no_implicit_lambda% (pe_calX CX_refuse_no_house hr (no_implicit_lambda% (pa_cons (no_implicit_lambda% (pv 0)) pa_nil))))))
        pss_never)), ?_⟩
    walk_at "rd"
    exact refuses hv q
noncomputable def sp_refuse_bad_rooms (K : PySem.W.Frag) : Sp := fun vs H _ E => ∃ v a b, vs = [v, a, b] ∧ NoH H v ∧ Ref K H E
noncomputable abbrev s_refuse_bad_rooms : Stmt := stq 130
theorem sc_refuse_bad_rooms : FnScope ["house", "p", "q"] ["house", "p", "q"] (defScope s_refuse_bad_rooms) := ⟨rfl, rfl, rfl, by decide +kernel, rfl, by decide +kernel, by decide +kernel⟩
theorem ok_refuse_bad_rooms {P : Program} {w : World} {K : PySem.W.Frag} {mg : Str → Option Value} {base : Heap} (D : Dfn K mg "refuse_bad_rooms" s_refuse_bad_rooms ["house", "p", "q"]) (T : Blt mg) (CX_refuse_no_house : CalX P w K mg base "refuse_no_house" 6 ["thing"] (sp_refuse_no_house K)) : CalX P w K mg base "refuse_bad_rooms" 7 ["house", "p", "q"] (sp_refuse_bad_rooms K) := by
  have nd := (sc_refuse_bad_rooms).nd
  refine D.okX sc_refuse_bad_rooms (fun vs H Q E h => ?_) (fun f cdv A outer s H vs Q E hr h => ?_)
  · obtain ⟨v, a, b, rfl, _⟩ := h; rfl
  · obtain ⟨v, a, b, rfl, hv, q⟩ := h
    refine ⟨_, (no_implicit_lambda% (pss_cons (no_implicit_lambda% (ps_expr (no_implicit_lambda% (pe_calX CX_refuse_no_house hr (no_implicit_lambda% (pa_cons (no_implicit_lambda% (pv 0)) pa_nil))))))
        pss_never)), ?_⟩
    walk_at "rd"
    exact refuses hv q
noncomputable def sp_rooms_at (K : PySem.W.Frag) : Sp := fun vs H _ E => ∃ v a b, vs = [v, a, b] ∧ NoH H v ∧ Ref K H E
noncomputable abbrev s_rooms_at : Stmt := stq 69
theorem sc_rooms_at : FnScope ["house", "place", "l", "stairs"] ["house", "place", "l"] (defScope s_rooms_at) := ⟨rfl, rfl, rfl, by decide +kernel, rfl, by decide +kernel, by decide +kernel⟩
theorem ok_rooms_at {P : Program} {w : World} {K : PySem.W.Frag} {mg : Str → Option Value} {base : Heap} (D : Dfn K mg "rooms_at" s_rooms_at ["house", "place", "l"]) (T : Blt mg) (CX_forward : CalX P w K mg base "forward" 7 ["house", "place"] (sp_forward K)) : CalX P w K mg base "rooms_at" 8 ["house", "place", "l"] (sp_rooms_at K) := by
  have nd := (sc_rooms_at).nd
  refine D.okX sc_rooms_at (fun vs H Q E h => ?_) (fun f cdv A outer s H vs Q E hr h => ?_)
  · obtain ⟨v, a, b, rfl, _⟩ := h; rfl
  · obtain ⟨v, a, b, rfl, hv, q⟩ := h
    refine ⟨_, (no_implicit_lambda% (pss_cons (no_implicit_lambda% (ps_set (i := 3) nd rfl (Or.inl rfl) (no_implicit_lambda% (pe_calX CX_forward hr (no_implicit_lambda% (pa_cons (no_implicit_lambda% (pv 0)) (no_implicit_lambda% (pa_cons (no_implicit_lambda% (pv 1)) pa_nil))))))))
        pss_never)), ?_⟩
    walk_at "rd"
    exact ⟨v, _, rfl, hv, q⟩
noncomputable def sp_answer (K : PySem.W.Frag) : Sp := fun vs H _ E => ∃ v a b, vs = [v, a, b] ∧ NoH H v ∧ Ref K H E
noncomputable abbrev s_answer : Stmt := stq 118
theorem sc_answer : FnScope ["house", "place", "goal", "walk"] ["house", "place", "goal"] (defScope s_answer) := ⟨rfl, rfl, rfl, by decide +kernel, rfl, by decide +kernel, by decide +kernel⟩
theorem ok_answer {P : Program} {w : World} {K : PySem.W.Frag} {mg : Str → Option Value} {base : Heap} (D : Dfn K mg "answer" s_answer ["house", "place", "goal"]) (T : Blt mg) (CX_shortest : CalX P w K mg base "shortest" 7 ["house", "place", "goal"] (sp_shortest K)) : CalX P w K mg base "answer" 8 ["house", "place", "goal"] (sp_answer K) := by
  have nd := (sc_answer).nd
  refine D.okX sc_answer (fun vs H Q E h => ?_) (fun f cdv A outer s H vs Q E hr h => ?_)
  · obtain ⟨v, a, b, rfl, _⟩ := h; rfl
  · obtain ⟨v, a, b, rfl, hv, q⟩ := h
    refine ⟨_, (no_implicit_lambda% (pss_cons (no_implicit_lambda% (ps_set (i := 3) nd rfl (Or.inl rfl) (no_implicit_lambda% (pe_calX CX_shortest hr (no_implicit_lambda% (pa_cons (no_implicit_lambda% (pv 0)) (no_implicit_lambda% (pa_cons (no_implicit_lambda% (pv 1)) (no_implicit_lambda% (pa_cons (no_implicit_lambda% (pv 2)) pa_nil))))))))))
        pss_never)), ?_⟩
    walk_at "rd"
    exact ⟨v, _, _, rfl, hv, q⟩
noncomputable def sp_backward (K : PySem.W.Frag) : Sp := fun vs H _ E => ∃ v a, vs = [v, a] ∧ NoH H v ∧ Ref K H E
noncomputable abbrev s_backward : Stmt := stq 71
theorem sc_backward : FnScope ["house", "goal"] ["house", "goal"] (defScope s_backward) := ⟨rfl, rfl, rfl, by decide +kernel, rfl, by decide +kernel, by decide +kernel⟩
theorem ok_backward {P : Program} {w : World} {K : PySem.W.Frag} {mg : Str → Option Value} {base : Heap} (D : Dfn K mg "backward" s_backward ["house", "goal"]) (T : Blt mg) (CX_forward : CalX P w K mg base "forward" 7 ["house", "place"] (sp_forward K)) (CX_turned_about : CalX P w K mg base "turned_about" 7 ["house"] (sp_turned_about K)) : CalX P w K mg base "backward" 8 ["house", "goal"] (sp_backward K) := by
  have nd := (sc_backward).nd
  refine D.okX sc_backward (fun vs H Q E h => ?_) (fun f cdv A outer s H vs Q E hr h => ?_)
  · obtain ⟨v, a, rfl, _⟩ := h; rfl
  · obtain ⟨v, a, rfl, hv, q⟩ := h
    refine ⟨_, (no_implicit_lambda% (pss_one (no_implicit_lambda% (ps_ret (no_implicit_lambda% (pe_calX CX_forward hr (no_implicit_lambda% (pa_cons (no_implicit_lambda% (pe_calX CX_turned_about hr (no_implicit_lambda% (pa_cons (no_implicit_lambda% (pv 0)) pa_nil)))) (no_implicit_lambda% (pa_cons (no_implicit_lambda% (pv 1)) pa_nil)))))))))), ?_⟩
    walk_at "rd"
    exact ⟨v, rfl, hv, q⟩
noncomputable def sp_greatest (K : PySem.W.Frag) : Sp := fun vs H _ E => ∃ v a, vs = [v, a] ∧ NoH H v ∧ Ref K H E
noncomputable abbrev s_greatest : Stmt := stq 99
theorem sc_greatest : FnScope ["house", "place", "stairs", "goals", "number", "rooms"] ["house", "place"] (defScope s_greatest) := ⟨rfl, rfl, rfl, by decide +kernel, rfl, by decide +kernel, by decide +kernel⟩
theorem ok_greatest {P : Program} {w : World} {K : PySem.W.Frag} {mg : Str → Option Value} {base : Heap} (D : Dfn K mg "greatest" s_greatest ["house", "place"]) (T : Blt mg) (CX_forward : CalX P w K mg base "forward" 7 ["house", "place"] (sp_forward K)) : CalX P w K mg base "greatest" 8 ["house", "place"] (sp_greatest K) := by
  have nd := (sc_greatest).nd
  refine D.okX sc_greatest (fun vs H Q E h => ?_) (fun f cdv A outer s H vs Q E hr h => ?_)
  · obtain ⟨v, a, rfl, _⟩ := h; rfl
  · obtain ⟨v, a, rfl, hv, q⟩ := h
    refine ⟨_, (no_implicit_lambda% (pss_cons (no_implicit_lambda% (ps_set (i := 2) nd rfl (Or.inl rfl) (no_implicit_lambda% (pe_calX CX_forward hr (no_implicit_lambda% (pa_cons (no_implicit_lambda% (pv 0)) (no_implicit_lambda% (pa_cons (no_implicit_lambda% (pv 1)) pa_nil))))))))
        pss_never)), ?_⟩
    walk_at "rd"
    exact ⟨v, _, rfl, hv, q⟩
noncomputable def sp_fate (K : PySem.W.Frag) : Sp := fun vs H _ E => ∃ v a, vs = [v, a] ∧ NoH H v ∧ Ref K H E
noncomputable abbrev s_fate : Stmt := stq 109
theorem sc_fate : FnScope ["house", "place", "told", "steps", "known"] ["house", "place"] (defScope s_fate) := ⟨rfl, rfl, rfl, by decide +kernel, rfl, by decide +kernel, by decide +kernel⟩
theorem ok_fate {P : Program} {w : World} {K : PySem.W.Frag} {mg : Str → Option Value} {base : Heap} (D : Dfn K mg "fate" s_fate ["house", "place"]) (T : Blt mg) (CX_greatest : CalX P w K mg base "greatest" 8 ["house", "place"] (sp_greatest K)) : CalX P w K mg base "fate" 9 ["house", "place"] (sp_fate K) := by
  have nd := (sc_fate).nd
  refine D.okX sc_fate (fun vs H Q E h => ?_) (fun f cdv A outer s H vs Q E hr h => ?_)
  · obtain ⟨v, a, rfl, _⟩ := h; rfl
  · obtain ⟨v, a, rfl, hv, q⟩ := h
    refine ⟨_, (no_implicit_lambda% (pss_cons (no_implicit_lambda% (ps_set (i := 2) nd rfl (Or.inl rfl) (no_implicit_lambda% (pe_calX CX_greatest hr (no_implicit_lambda% (pa_cons (no_implicit_lambda% (pv 0)) (no_implicit_lambda% (pa_cons (no_implicit_lambda% (pv 1)) pa_nil))))))))
        pss_never)), ?_⟩
    walk_at "rd"
    exact ⟨v, _, rfl, hv, q⟩
noncomputable def sp_stops (K : PySem.W.Frag) : Sp := fun vs H _ E => ∃ v a, vs = [v, a] ∧ NoH H v ∧ Ref K H E
noncomputable abbrev s_stops : Stmt := stq 104
theorem sc_stops : FnScope ["house", "place", "stairs"] ["house", "place"] (defScope s_stops) := ⟨rfl, rfl, rfl, by decide +kernel, rfl, by decide +kernel, by decide +kernel⟩
theorem ok_stops {P : Program} {w : World} {K : PySem.W.Frag} {mg : Str → Option Value} {base : Heap} (D : Dfn K mg "stops" s_stops ["house", "place"]) (T : Blt mg) (CX_forward : CalX P w K mg base "forward" 7 ["house", "place"] (sp_forward K)) : CalX P w K mg base "stops" 8 ["house", "place"] (sp_stops K) := by
  have nd := (sc_stops).nd
  refine D.okX sc_stops (fun vs H Q E h => ?_) (fun f cdv A outer s H vs Q E hr h => ?_)
  · obtain ⟨v, a, rfl, _⟩ := h; rfl
  · obtain ⟨v, a, rfl, hv, q⟩ := h
    refine ⟨_, (no_implicit_lambda% (pss_cons (no_implicit_lambda% (ps_set (i := 2) nd rfl (Or.inl rfl) (no_implicit_lambda% (pe_calX CX_forward hr (no_implicit_lambda% (pa_cons (no_implicit_lambda% (pv 0)) (no_implicit_lambda% (pa_cons (no_implicit_lambda% (pv 1)) pa_nil))))))))
        pss_never)), ?_⟩
    walk_at "rd"
    exact ⟨v, _, rfl, hv, q⟩
noncomputable def sp_reads (K : PySem.W.Frag) : Sp := fun vs H _ E => ∃ v a b c, vs = [v, a, b, c] ∧ NoH H v ∧ Ref K H E
noncomputable abbrev s_reads : Stmt := stq 137
theorem sc_reads : FnScope ["house", "p", "q", "text", "places", "sign"] ["house", "p", "q", "text"] (defScope s_reads) := ⟨rfl, rfl, rfl, by decide +kernel, rfl, by decide +kernel, by decide +kernel⟩
theorem ok_reads {P : Program} {w : World} {K : PySem.W.Frag} {mg : Str → Option Value} {base : Heap} (D : Dfn K mg "reads" s_reads ["house", "p", "q", "text"]) (T : Blt mg) (CX_refuse_bad_rooms : CalX P w K mg base "refuse_bad_rooms" 7 ["house", "p", "q"] (sp_refuse_bad_rooms K)) : CalX P w K mg base "reads" 8 ["house", "p", "q", "text"] (sp_reads K) := by
  have nd := (sc_reads).nd
  refine D.okX sc_reads (fun vs H Q E h => ?_) (fun f cdv A outer s H vs Q E hr h => ?_)
  · obtain ⟨v, a, b, c, rfl, _⟩ := h; rfl
  · obtain ⟨v, a, b, c, rfl, hv, q⟩ := h
    refine ⟨_, (no_implicit_lambda% (pss_cons (no_implicit_lambda% (ps_expr (no_implicit_lambda% (pe_calX CX_refuse_bad_rooms hr (no_implicit_lambda% (pa_cons (no_implicit_lambda% (pv 0)) (no_implicit_lambda% (pa_cons (no_implicit_lambda% (pv 1)) (no_implicit_lambda% (pa_cons (no_implicit_lambda% (pv 2)) pa_nil))))))))))
        pss_never)), ?_⟩
    walk_at "rd"
    exact ⟨v, _, _, rfl, hv, q⟩
noncomputable def sp_first_word (K : PySem.W.Frag) : Sp := fun vs H _ E => ∃ v a b, vs = [v, a, b] ∧ NoH H v ∧ Ref K H E
noncomputable abbrev s_first_word : Stmt := stq 141
theorem sc_first_word : FnScope ["house", "p", "q", "walk", "to_end"] ["house", "p", "q"] (defScope s_first_word) := ⟨rfl, rfl, rfl, by decide +kernel, rfl, by decide +kernel, by decide +kernel⟩
theorem ok_first_word {P : Program} {w : World} {K : PySem.W.Frag} {mg : Str → Option Value} {base : Heap} (D : Dfn K mg "first_word" s_first_word ["house", "p", "q"]) (T : Blt mg) (CX_refuse_bad_rooms : CalX P w K mg base "refuse_bad_rooms" 7 ["house", "p", "q"] (sp_refuse_bad_rooms K)) : CalX P w K mg base "first_word" 8 ["house", "p", "q"] (sp_first_word K) := by
  have nd := (sc_first_word).nd
  refine D.okX sc_first_word (fun vs H Q E h => ?_) (fun f cdv A outer s H vs Q E hr h => ?_)
  · obtain ⟨v, a, b, rfl, _⟩ := h; rfl
  · obtain ⟨v, a, b, rfl, hv, q⟩ := h
    refine ⟨_, (no_implicit_lambda% (pss_cons (no_implicit_lambda% (ps_expr (no_implicit_lambda% (pe_calX CX_refuse_bad_rooms hr (no_implicit_lambda% (pa_cons (no_implicit_lambda% (pv 0)) (no_implicit_lambda% (pa_cons (no_implicit_lambda% (pv 1)) (no_implicit_lambda% (pa_cons (no_implicit_lambda% (pv 2)) pa_nil))))))))))
        pss_never)), ?_⟩
    walk_at "rd"
    exact ⟨v, _, _, rfl, hv, q⟩
noncomputable def sp_first_words (K : PySem.W.Frag) : Sp := fun vs H _ E => ∃ v a b c d, vs = [v, a, b, c, d] ∧ NoH H v ∧ Ref K H E
noncomputable abbrev s_first_words : Stmt := stq 142
theorem sc_first_words : FnScope ["house", "p", "q", "length", "many", "to_end", "words", "exact"] ["house", "p", "q", "length", "many"] (defScope s_first_words) := ⟨rfl, rfl, rfl, by decide +kernel, rfl, by decide +kernel, by decide +kernel⟩
theorem ok_first_words {P : Program} {w : World} {K : PySem.W.Frag} {mg : Str → Option Value} {base : Heap} (D : Dfn K mg "first_words" s_first_words ["house", "p", "q", "length", "many"]) (T : Blt mg) (CX_refuse_bad_rooms : CalX P w K mg base "refuse_bad_rooms" 7 ["house", "p", "q"] (sp_refuse_bad_rooms K)) : CalX P w K mg base "first_words" 8 ["house", "p", "q", "length", "many"] (sp_first_words K) := by
  have nd := (sc_first_words).nd
  refine D.okX sc_first_words (fun vs H Q E h => ?_) (fun f cdv A outer s H vs Q E hr h => ?_)
  · obtain ⟨v, a, b, c, d, rfl, _⟩ := h; rfl
  · obtain ⟨v, a, b, c, d, rfl, hv, q⟩ := h
    refine ⟨_, (no_implicit_lambda% (pss_cons (no_implicit_lambda% (ps_expr (no_implicit_lambda% (pe_calX CX_refuse_bad_rooms hr (no_implicit_lambda% (pa_cons (no_implicit_lambda% (pv 0)) (no_implicit_lambda% (pa_cons (no_implicit_lambda% (pv 1)) (no_implicit_lambda% (pa_cons (no_implicit_lambda% (pv 2)) pa_nil))))))))))
        pss_never)), ?_⟩
    walk_at "rd"
    exact ⟨v, _, _, rfl, hv, q⟩
noncomputable def sp_side_by_side (K : PySem.W.Frag) : Sp := fun vs H _ E => ∃ v u, vs = [v, u] ∧ (NoH H v ∨ Thg H 4 v ∧ houseV H v = true ∧ NoH H u) ∧ Ref K H E
noncomputable abbrev s_side_by_side : Stmt := stq 122
theorem sc_side_by_side : FnScope ["house", "bare", "ways", "way"] ["house", "bare"] (defScope s_side_by_side) := ⟨rfl, rfl, rfl, by decide +kernel, rfl, by decide +kernel, by decide +kernel⟩
theorem ok_side_by_side {P : Program} {w : World} {K : PySem.W.Frag} {mg : Str → Option Value} {base : Heap} (D : Dfn K mg "side_by_side" s_side_by_side ["house", "bare"]) (T : Blt mg) (XF : Xf K mg base allC raisedC) (CX_is_bare : CalX P w K mg base "is_bare" 7 ["house"] (sp_is_bare K)) (CX_refuse_no_house : CalX P w K mg base "refuse_no_house" 6 ["thing"] (sp_refuse_no_house K)) : CalX P w K mg base "side_by_side" 8 ["house", "bare"] (sp_side_by_side K) := by
  have nd := (sc_side_by_side).nd
  refine D.okX sc_side_by_side (fun vs H Q E h => ?_) (fun f cdv A outer s H vs Q E hr h => ?_)
  · obtain ⟨v, u, rfl, _⟩ := h; rfl
  · obtain ⟨v, u, rfl, hv, q⟩ := h
    refine ⟨_, (no_implicit_lambda% (pss_cons (no_implicit_lambda% (ps_expr (no_implicit_lambda% (pe_calX CX_refuse_no_house hr (no_implicit_lambda% (pa_cons (no_implicit_lambda% (pv 0)) pa_nil))))))
        (no_implicit_lambda% (pss_cons (no_implicit_lambda% (ps_if (no_implicit_lambda% (pt_not (no_implicit_lambda% (pt_val (no_implicit_lambda% (pe_calX CX_is_bare hr (no_implicit_lambda% (pa_cons (no_implicit_lambda% (pv 1)) pa_nil)))))))) (no_implicit_lambda% (pss_one (no_implicit_lambda% (ps_raise (XF.own "NotBare" (by decide +kernel)) PySem.F.excBase_ValueError (no_implicit_lambda% (pa_cons pe_str pa_nil)))))) pss_nil))
        pss_never)))), ?_⟩
    walk_at "rd"
    rcases hv with hv | ⟨h1, h2, hu⟩
    · exact refuses hv q
    · refine ⟨v, rfl, h1, fun H1 e1 => ?_⟩
      rw [h2, if_pos rfl]
      walk_at "rd"
      exact ⟨u, rfl, hu.ext e1, q.ext e1⟩
noncomputable def sp_sees_closed (K : PySem.W.Frag) : Sp := fun vs H Q _ => ∃ v a, vs = [v, a] ∧ NoH H v ∧ ∀ H', Ext H H' → Q (.bl false) H'
noncomputable abbrev s_sees_closed : Stmt := stq 116
theorem sc_sees_closed : FnScope ["house", "stairs"] ["house", "stairs"] (defScope s_sees_closed) := ⟨rfl, rfl, rfl, by decide +kernel, rfl, by decide +kernel, by decide +kernel⟩
theorem ok_sees_closed {P : Program} {w : World} {K : PySem.W.Frag} {mg : Str → Option Value} {base : Heap} (D : Dfn K mg "sees_closed" s_sees_closed ["house", "stairs"]) (T : Blt mg) (C_is_house : Cal P w K mg base "is_house" 5 ["thing"] (sp_is_house K)) : Cal P w K mg base "sees_closed" 6 ["house", "stairs"] (sp_sees_closed K) := by
  have nd := (sc_sees_closed).nd
  refine D.ok sc_sees_closed (fun vs H Q E h => ?_) (fun X hX H vs Q E h => ?_)
  · obtain ⟨v, a, rfl, _⟩ := h; rfl
  · obtain ⟨f, cdv, A, outer, s, H0, E0, rfl, hr⟩ := hX
    obtain ⟨v, a, rfl, hv, q⟩ := h
    refine ⟨_, (no_implicit_lambda% (pss_cons (no_implicit_lambda% (ps_if (no_implicit_lambda% (PW.pt (pw_or (no_implicit_lambda% (pt_not (no_implicit_lambda% (pt_val (no_implicit_lambda% (pe_cal C_is_house hr (no_implicit_lambda% (pa_cons (no_implicit_lambda% (pv 0)) pa_nil)))))))) (pw_or1 (no_implicit_lambda% (pt_not pt_never)))))) (no_implicit_lambda% (pss_one (no_implicit_lambda% (ps_ret pe_bl)))) pss_nil))
        pss_never)), ?_⟩
    walk_at "rd"
    refine ⟨v, rfl, hv.1, fun H1 e1 => ?_⟩
    rw [hv.2]
    walk_at "rd"
    refine iteT ?_
    walk_at "rd"
    exact q H1 e1
noncomputable def sp_sees_never (K : PySem.W.Frag) : Sp := fun vs H Q _ => ∃ v a b c, vs = [v, a, b, c] ∧ NoH H v ∧ ∀ H', Ext H H' → Q (.bl false) H'
noncomputable abbrev s_sees_never : Stmt := stq 117
theorem sc_sees_never : FnScope ["house", "place", "goal", "stairs"] ["house", "place", "goal", "stairs"] (defScope s_sees_never) := ⟨rfl, rfl, rfl, by decide +kernel, rfl, by decide +kernel, by decide +kernel⟩
theorem ok_sees_never {P : Program} {w : World} {K : PySem.W.Frag} {mg : Str → Option Value} {base : Heap} (D : Dfn K mg "sees_never" s_sees_never ["house", "place", "goal", "stairs"]) (T : Blt mg) (C_sees_closed : Cal P w K mg base "sees_closed" 6 ["house", "stairs"] (sp_sees_closed K)) : Cal P w K mg base "sees_never" 7 ["house", "place", "goal", "stairs"] (sp_sees_never K) := by
  have nd := (sc_sees_never).nd
  refine D.ok sc_sees_never (fun vs H Q E h => ?_) (fun X hX H vs Q E h => ?_)
  · obtain ⟨v, a, b, c, rfl, _⟩ := h; rfl
  · obtain ⟨f, cdv, A, outer, s, H0, E0, rfl, hr⟩ := hX
    obtain ⟨v, a, b, c, rfl, hv, q⟩ := h
    refine ⟨_, (no_implicit_lambda% (pss_cons (no_implicit_lambda% (ps_if (no_implicit_lambda% (PW.pt (pw_or (no_implicit_lambda% (pt_not (no_implicit_lambda% (pt_val (no_implicit_lambda% (pe_cal C_sees_closed hr (no_implicit_lambda% (pa_cons (no_implicit_lambda% (pv 0)) (no_implicit_lambda% (pa_cons (no_implicit_lambda% (pv 3)) pa_nil)))))))))) (pw_or (no_implicit_lambda% (pt_not pt_never)) (pw_or1 (no_implicit_lambda% (pt_not pt_never))))))) (no_implicit_lambda% (pss_one (no_implicit_lambda% (ps_ret pe_bl)))) pss_nil))
        pss_never)), ?_⟩
    walk_at "rd"
    refine ⟨v, c, rfl, hv, fun H1 e1 => ?_⟩
    walk_at "rd"
    refine iteT ?_
    walk_at "rd"
    exact q H1 e1
noncomputable def sp_ring_places (K : PySem.W.Frag) : Sp := fun vs H Q _ => ∃ v a b c, vs = [v, a, b, c] ∧ NoH H v ∧ ∀ H', Ext H H' → Q .non H'
noncomputable abbrev s_ring_places : Stmt := stq 92
theorem sc_ring_places : FnScope ["house", "place", "walk", "ring", "ahead", "places"] ["house", "place", "walk", "ring"] (defScope s_ring_places) := ⟨rfl, rfl, rfl, by decide +kernel, rfl, by decide +kernel, by decide +kernel⟩
theorem ok_ring_places {P : Program} {w : World} {K : PySem.W.Frag} {mg : Str → Option Value} {base : Heap} (D : Dfn K mg "ring_places" s_ring_places ["house", "place", "walk", "ring"]) (T : Blt mg) (C_is_house : Cal P w K mg base "is_house" 5 ["thing"] (sp_is_house K)) : Cal P w K mg base "ring_places" 6 ["house", "place", "walk", "ring"] (sp_ring_places K) := by
  have nd := (sc_ring_places).nd
  refine D.ok sc_ring_places (fun vs H Q E h => ?_) (fun X hX H vs Q E h => ?_)
  · obtain ⟨v, a, b, c, rfl, _⟩ := h; rfl
  · obtain ⟨f, cdv, A, outer, s, H0, E0, rfl, hr⟩ := hX
    obtain ⟨v, a, b, c, rfl, hv, q⟩ := h
    refine ⟨_, (no_implicit_lambda% (pss_cons (no_implicit_lambda% (ps_if (no_implicit_lambda% (PW.pt (pw_or (no_implicit_lambda% (pt_not (no_implicit_lambda% (pt_val (no_implicit_lambda% (pe_cal C_is_house hr (no_implicit_lambda% (pa_cons (no_implicit_lambda% (pv 0)) pa_nil)))))))) (pw_or (no_implicit_lambda% (pt_not pt_never)) (pw_or (no_implicit_lambda% (pt_not pt_never)) (pw_or1 (no_implicit_lambda% (pt_not pt_never)))))))) (no_implicit_lambda% (pss_one (no_implicit_lambda% (ps_ret pe_non)))) pss_nil))
        pss_never)), ?_⟩
    walk_at "rd"
    refine ⟨v, rfl, hv.1, fun H1 e1 => ?_⟩
    rw [hv.2]
    walk_at "rd"
    refine iteT ?_
    walk_at "rd"
    exact q H1 e1
noncomputable def sp_sees_rise (K : PySem.W.Frag) : Sp := fun vs H Q _ => ∃ v a b c, vs = [v, a, b, c] ∧ NoH H v ∧ ∀ H', Ext H H' → Q (.bl false) H'
noncomputable abbrev s_sees_rise : Stmt := stq 95
theorem sc_sees_rise : FnScope ["house", "place", "walk", "ring", "places", "first", "last"] ["house", "place", "walk", "ring"] (defScope s_sees_rise) := ⟨rfl, rfl, rfl, by decide +kernel, rfl, by decide +kernel, by decide +kernel⟩
theorem ok_sees_rise {P : Program} {w : World} {K : PySem.W.Frag} {mg : Str → Option Value} {base : Heap} (D : Dfn K mg "sees_rise" s_sees_rise ["house", "place", "walk", "ring"]) (T : Blt mg) (C_ring_places : Cal P w K mg base "ring_places" 6 ["house", "place", "walk", "ring"] (sp_ring_places K)) : Cal P w K mg base "sees_rise" 7 ["house", "place", "walk", "ring"] (sp_sees_rise K) := by
  have nd := (sc_sees_rise).nd
  refine D.ok sc_sees_rise (fun vs H Q E h => ?_) (fun X hX H vs Q E h => ?_)
  · obtain ⟨v, a, b, c, rfl, _⟩ := h; rfl
  · obtain ⟨f, cdv, A, outer, s, H0, E0, rfl, hr⟩ := hX
    obtain ⟨v, a, b, c, rfl, hv, q⟩ := h
    refine ⟨_, (no_implicit_lambda% (pss_cons (no_implicit_lambda% (ps_set (i := 4) nd rfl (Or.inl rfl) (no_implicit_lambda% (pe_cal C_ring_places hr (no_implicit_lambda% (pa_cons (no_implicit_lambda% (pv 0)) (no_implicit_lambda% (pa_cons (no_implicit_lambda% (pv 1)) (no_implicit_lambda% (pa_cons (no_implicit_lambda% (pv 2)) (no_implicit_lambda% (pa_cons (no_implicit_lambda% (pv 3)) pa_nil))))))))))))
        (no_implicit_lambda% (pss_cons (no_implicit_lambda% (ps_if (no_implicit_lambda% (pt_cmpR op_isN (no_implicit_lambda% (pv 4)) pe_non (nomark _))) (no_implicit_lambda% (pss_one (no_implicit_lambda% (ps_ret pe_bl)))) pss_nil))
        pss_never)))), ?_⟩
    walk_at "rd"
    refine ⟨v, a, b, c, rfl, hv, fun H1 e1 => ?_⟩
    walk_at "rd"
    refine ⟨rfl, ?_⟩
    refine rd_exb (iteT ?_)
    walk_at "rd"
    exact q H1 e1
noncomputable def sp_sees_same (K : PySem.W.Frag) : Sp := fun vs H Q _ => ∃ v a b c, vs = [v, a, b, c] ∧ NoH H v ∧ ∀ H', Ext H H' → Q (.bl false) H'
noncomputable abbrev s_sees_same : Stmt := stq 102
theorem sc_sees_same : FnScope ["house", "place", "walk", "ring", "places"] ["house", "place", "walk", "ring"] (defScope s_sees_same) := ⟨rfl, rfl, rfl, by decide +kernel, rfl, by decide +kernel, by decide +kernel⟩
theorem ok_sees_same {P : Program} {w : World} {K : PySem.W.Frag} {mg : Str → Option Value} {base : Heap} (D : Dfn K mg "sees_same" s_sees_same ["house", "place", "walk", "ring"]) (T : Blt mg) (C_ring_places : Cal P w K mg base "ring_places" 6 ["house", "place", "walk", "ring"] (sp_ring_places K)) : Cal P w K mg base "sees_same" 7 ["house", "place", "walk", "ring"] (sp_sees_same K) := by
  have nd := (sc_sees_same).nd
  refine D.ok sc_sees_same (fun vs H Q E h => ?_) (fun X hX H vs Q E h => ?_)
  · obtain ⟨v, a, b, c, rfl, _⟩ := h; rfl
  · obtain ⟨f, cdv, A, outer, s, H0, E0, rfl, hr⟩ := hX
    obtain ⟨v, a, b, c, rfl, hv, q⟩ := h
    refine ⟨_, (no_implicit_lambda% (pss_cons (no_implicit_lambda% (ps_set (i := 4) nd rfl (Or.inl rfl) (no_implicit_lambda% (pe_cal C_ring_places hr (no_implicit_lambda% (pa_cons (no_implicit_lambda% (pv 0)) (no_implicit_lambda% (pa_cons (no_implicit_lambda% (pv 1)) (no_implicit_lambda% (pa_cons (no_implicit_lambda% (pv 2)) (no_implicit_lambda% (pa_cons (no_implicit_lambda% (pv 3)) pa_nil))))))))))))
        (no_implicit_lambda% (pss_one (no_implicit_lambda% (ps_ret (no_implicit_lambda% (pe_and (no_implicit_lambda% (pe_cmpR op_notN (no_implicit_lambda% (pv 4)) pe_non (nomark _))) (pe_one pe_never))))))))), ?_⟩
    walk_at "rd"
    refine ⟨v, a, b, c, rfl, hv, fun H1 e1 => ?_⟩
    walk_at "rd"
    refine ⟨rfl, ?_⟩
    walk_at "rd"
    refine iteF ?_
    exact q H1 e1
theorem log_all : ∀ i : Fin 13, (Int.natAbs (i.1 : Int)).log2 < 1920 := by decide +kernel
theorem log_small {i : Int} (h0 : 0 ≤ i) (h1 : i < 13) : i.natAbs.log2 < 1920 := by
  obtain ⟨k, rfl⟩ := Int.eq_ofNat_of_zero_le h0
  exact log_all ⟨k, by omega⟩
theorem str_all : ∀ i : Fin 13, ((toString (i.1 : Int) : String) : Str).length ≤ 2 := by decide +kernel
theorem str_two {i : Int} (h0 : 0 ≤ i) (h1 : i < 13) : ((toString i : String) : Str).length ≤ 2 := by
  obtain ⟨k, rfl⟩ := Int.eq_ofNat_of_zero_le h0
  exact str_all ⟨k, by omega⟩
theorem str_small {i : Int} (h0 : 0 ≤ i) (h1 : i < 12) : ((toString i : String) : Str).length ≤ 1000 := Nat.le_trans (str_two h0 (by omega)) (by decide)
theorem deed_four {z : Str} (h : okDeed z) : z.length ≤ 4 := by
  rcases h with rfl | rfl | rfl | rfl <;> decide +kernel
theorem sign_one {z : Str} (h : okSign z) : z.length = 1 := by
  obtain ⟨c, _, _, rfl⟩ := h
  rfl
noncomputable def sp_way_text (K : PySem.W.Frag) : Sp := fun vs H Q _ => ∃ b w m, vs = [.ref b] ∧ H b = some (.tup (Way.vs w)) ∧ Way.Ok m w ∧ m ≤ 12 ∧ ∀ z H', Ext H H' → z.length ≤ 13 → Q (.str z) H'
noncomputable abbrev s_way_text : Stmt := stq 124
theorem sc_way_text : FnScope ["way"] ["way"] (defScope s_way_text) := ⟨rfl, rfl, rfl, by decide +kernel, rfl, by decide +kernel, by decide +kernel⟩
theorem ok_way_text {P : Program} {w : World} {K : PySem.W.Frag} {mg : Str → Option Value} {base : Heap} (D : Dfn K mg "way_text" s_way_text ["way"]) (T : Blt mg) : Cal P w K mg base "way_text" 1 ["way"] (sp_way_text K) := by
  have nd := (sc_way_text).nd
  refine D.ok sc_way_text (fun vs H Q E h => ?_) (fun X hX H vs Q E h => ?_)
  · obtain ⟨b, w, m, rfl, _⟩ := h; rfl
  · obtain ⟨f, cdv, A, outer, s, H0, E0, rfl, hr⟩ := hX
    obtain ⟨b, w9, m, rfl, hb, ok, hm, q⟩ := h
    have r0 := ok.r0
    have r1 := ok.r1
    have o0 := ok.o0
    have o1 := ok.o1
    have l1 := str_two (i := w9.room) r0 (by omega)
    have l2 := str_two (i := w9.other) o0 (by omega)
    have l3 := deed_four ok.dd
    have l4 := sign_one ok.sg
    refine ⟨_, (no_implicit_lambda% (pss_one (no_implicit_lambda% (ps_ret (no_implicit_lambda% (pe_bmK K PySem.F.plainAttrs_str PySem.F.slot_str_join PySem.F.type_str_join (mt_joinS K) pe_str (no_implicit_lambda% (pa_cons (no_implicit_lambda% (pe_lst (no_implicit_lambda% (pa_cons (no_implicit_lambda% (pe_callTy call_str_int rfl T.str_ PyProof.Rows.boot_str (no_implicit_lambda% (pa_cons (no_implicit_lambda% (pe_ix (ix_tupK K) (no_implicit_lambda% (pv 0)) pe_int (fun _ _ => rfl))) pa_nil)))) (no_implicit_lambda% (pa_cons (no_implicit_lambda% (pe_ix (ix_tupK K) (no_implicit_lambda% (pv 0)) pe_int (fun _ _ => rfl))) (no_implicit_lambda% (pa_cons (no_implicit_lambda% (pe_callTy call_str_int rfl T.str_ PyProof.Rows.boot_str (no_implicit_lambda% (pa_cons (no_implicit_lambda% (pe_ix (ix_tupK K) (no_implicit_lambda% (pv 0)) pe_int (fun _ _ => rfl))) pa_nil)))) (no_implicit_lambda% (pa_cons (no_implicit_lambda% (pe_ix (ix_tupK K) (no_implicit_lambda% (pv 0)) pe_int (fun _ _ => rfl))) pa_nil)))))))))) pa_nil)))))))), ?_⟩
    walk_at "rd"
    refine ⟨rfl, ?_⟩
    walk_at "rd"
    refine rd_ixT (SqT.of hb) (v := .int w9.room) rfl ?_
    walk_at "rd"
    refine ⟨_, rfl, log_small r0 (by omega), ?_⟩
    walk_at "rd"
    refine rd_ixT (SqT.of hb) (v := .str w9.deed) rfl ?_
    walk_at "rd"
    refine rd_ixT (SqT.of hb) (v := .int w9.other) rfl ?_
    walk_at "rd"
    refine ⟨_, rfl, log_small o0 (by omega), ?_⟩
    walk_at "rd"
    refine rd_ixT (SqT.of hb) (v := .str w9.sign) rfl ?_
    walk_at "rd"
    refine ⟨small_line (by simp), rd_new fun p1 H1 e1 k1 _ => ?_⟩
    walk_at "rd"
    refine ⟨_, p1, [_, w9.deed, _, w9.sign], rfl, rfl, SqL.of k1, ?_, fun z hz => ?_⟩
    · simp only [List.map_cons, List.map_nil, List.sum_cons, List.sum_nil, List.length_cons, List.length_nil]
      rw [show (Str.ofString " ").length = 1 by decide +kernel]
      omega
    · simp only [List.map_cons, List.map_nil, List.sum_cons, List.sum_nil, List.length_cons, List.length_nil] at hz
      rw [show (Str.ofString " ").length = 1 by decide +kernel] at hz
      exact q z H1 e1 (by omega)
theorem good_house {H : Hp} {v : V} {m : Int} {ws : List Way} (hv : HouseAt H v m ws) (ok : HOuse m ws) : Thg H 4 v ∧ houseV H v = true := by
  obtain ⟨p, r, bs, rfl, h1, h2, hbl, hal, hts⟩ := house_ths hv ok
  refine ⟨(thg_tup (n := 2) h1 (by simp) (.cons (thg_int _ _ _) (.cons (thg_tup h2 (by rw [List.length_map, hbl]; exact Nat.le_trans ok.few (by decide)) hts) (.nil _ _)))).up, ?_⟩
  rw [house_is h1 h2 hal ok.m1 ok.m12 ok.ok ok.nd, decide_eq_true ok.few]
theorem first_app {a b : Str} {c : Nat} (h : a.cps[0]? = some c) : (a ++ b).cps[0]? = some c := by
  show (a.cps ++ b.cps)[0]? = some c
  rw [Array.getElem?_append_left (Array.getElem?_eq_some_iff.mp h).1]
  exact h
theorem len_app (a b : Str) : (a ++ b).length = a.length + b.length := by
  show (a.cps ++ b.cps).size = _
  rw [Array.size_append]
  rfl
theorem dig_all : ∀ i : Fin 13, 0 < i.1 → (match ((toString (i.1 : Int) : String) : Str).cps[0]? with | some c => decide (49 ≤ c) && decide (c ≤ 57) | none => false) = true := by decide +kernel
theorem dig_first {m : Int} (h1 : 1 ≤ m) (h2 : m ≤ 12) : ∃ c, ((toString m : String) : Str).cps[0]? = some c ∧ 49 ≤ c ∧ c ≤ 57 := by
  obtain ⟨k, rfl⟩ := Int.eq_ofNat_of_zero_le (show 0 ≤ m by omega)
  have := dig_all ⟨k, by omega⟩ (by show 0 < k; omega)
  revert this
  show (match ((toString (k : Int) : String) : Str).cps[0]? with | some c => decide (49 ≤ c) && decide (c ≤ 57) | none => false) = true → _
  split
  · rename_i c hc
    intro h
    rw [Bool.and_eq_true, decide_eq_true_iff, decide_eq_true_iff] at h
    exact ⟨c, hc, h.1, h.2⟩
  · intro h; cases h
theorem sum_le {k : Nat} : ∀ {zs : List Str}, (∀ z ∈ zs, z.length ≤ k) → (zs.map (·.length)).sum ≤ zs.length * k
  | [], _ => Nat.zero_le _
  | z :: zs, h => by
    have h1 := h z List.mem_cons_self
    have h2 := sum_le (zs := zs) fun y hy => h y (List.mem_cons_of_mem _ hy)
    rw [List.map_cons, List.sum_cons, List.length_cons, Nat.succ_mul]
    omega
noncomputable def sp_shown_house (K : PySem.W.Frag) : Sp := fun vs H Q E => ∃ v, vs = [v] ∧ ((NoH H v ∧ Ref K H E) ∨ ∃ m ws, HouseAt H v m ws ∧ HOuse m ws ∧ ∀ (z : Str) H' (c : Nat), Ext H H' → z.cps[0]? = some c → 49 ≤ c → c ≤ 57 → z.length ≤ 10000 → Q (.str z) H')
noncomputable abbrev s_shown_house : Stmt := stq 125
theorem sc_shown_house : FnScope ["house"] ["house"] (defScope s_shown_house) := ⟨rfl, rfl, rfl, by decide +kernel, rfl, by decide +kernel, by decide +kernel⟩
theorem ok_shown_house {P : Program} {w : World} {K : PySem.W.Frag} {mg : Str → Option Value} {base : Heap} (D : Dfn K mg "shown_house" s_shown_house ["house"]) (T : Blt mg) (C_way_text : Cal P w K mg base "way_text" 1 ["way"] (sp_way_text K)) (CX_refuse_no_house : CalX P w K mg base "refuse_no_house" 6 ["thing"] (sp_refuse_no_house K)) : CalX P w K mg base "shown_house" 7 ["house"] (sp_shown_house K) := by
  have nd := (sc_shown_house).nd
  refine D.okX sc_shown_house (fun vs H Q E h => ?_) (fun f cdv A outer s H vs Q E hr h => ?_)
  · obtain ⟨v, rfl, _⟩ := h; rfl
  · obtain ⟨v, rfl, hh⟩ := h
    refine ⟨_, (no_implicit_lambda% (pss_cons (no_implicit_lambda% (ps_expr (no_implicit_lambda% (pe_calX CX_refuse_no_house hr (no_implicit_lambda% (pa_cons (no_implicit_lambda% (pv 0)) pa_nil))))))
        (no_implicit_lambda% (pss_one (no_implicit_lambda% (ps_ret (no_implicit_lambda% (pe_op op_add_str (no_implicit_lambda% (pe_op op_add_str (no_implicit_lambda% (pe_callTy call_str_int rfl T.str_ PyProof.Rows.boot_str (no_implicit_lambda% (pa_cons (no_implicit_lambda% (pe_ix (ix_tupK K) (no_implicit_lambda% (pv 0)) pe_int (fun _ _ => rfl))) pa_nil)))) pe_str)) (no_implicit_lambda% (pe_bmK K PySem.F.plainAttrs_str PySem.F.slot_str_join PySem.F.type_str_join (mt_joinS K) pe_str (no_implicit_lambda% (pa_cons (no_implicit_lambda% (pe_comp ["way"] [] (no_implicit_lambda% (pi_tupK K (no_implicit_lambda% (pe_ix (ix_tupK K) (no_implicit_lambda% (pv 0)) pe_int (fun _ _ => rfl))))) (fun _ => (no_implicit_lambda% (pg_name (i := 0) (show (["way"] : List Str).Nodup from by decide +kernel) rfl (Or.inl rfl) (Or.inr rfl)))) (fun _ => pcs_nil) (fun _ => (no_implicit_lambda% (pe_op op_add_str pe_str (no_implicit_lambda% (pe_cal C_way_text hr (no_implicit_lambda% (pa_cons (no_implicit_lambda% (pv 0)) pa_nil))))))))) pa_nil)))))))))))), ?_⟩
    walk_at "rd"
    rcases hh with ⟨hv, q⟩ | ⟨m, ws, hv, ok, q⟩
    · exact refuses hv q
    obtain ⟨t4, hg⟩ := good_house hv ok
    refine ⟨v, rfl, t4, fun H1 e1 => ?_⟩
    rw [hg, if_pos rfl]
    obtain ⟨p, r, rfl, g1, g2⟩ := hv.ext e1
    obtain ⟨bs, g3, al⟩ := WaysAt.al g2
    have m1 := ok.m1
    have m2 := ok.m12
    have hfew := ok.few
    have hbl := al.1
    obtain ⟨c, hc, c1, c2⟩ := dig_first m1 m2
    have lm := str_two (i := m) (by omega) (by omega)
    have l1 : (Str.ofString ":").length = 1 := by decide +kernel
    have l2 : (Str.ofString ",").length = 1 := by decide +kernel
    have l3 : (Str.ofString " ").length = 1 := by decide +kernel
    walk_at "rd"
    refine rd_ixT (SqT.of g1) (v := .int m) rfl ?_
    walk_at "rd"
    refine ⟨_, rfl, log_small (by omega) (by omega), ?_⟩
    walk_at "rd"
    refine ⟨_, _, rfl, rfl, small9 (by omega), ?_⟩
    walk_at "rd"
    refine ⟨rfl, ?_⟩
    walk_at "rd"
    refine rd_ixT (SqT.of g1) (v := .ref r) rfl ?_
    refine rd_iTx (SqT.of g3) ?_
    refine comp_tup (xs := bs.map V.ref) (fun i ys H' => Ext H1 H' ∧ ∃ zs : List Str, ys = zs.map V.str ∧ zs.length = i ∧ ∀ z ∈ zs, z.length ≤ 14) (small9 (by rw [List.length_map]; omega)) ⟨fun _ _ z => z, [], rfl, rfl, fun z hz => (by cases hz)⟩ (fun i ys H' _ h => ⟨SqT.of (h.1 _ _ g3), by obtain ⟨_, zs, rfl, h2, _⟩ := h; rw [List.length_map, h2]; exact Nat.le_refl _⟩) ?_ ?_
    · rintro i x ys H' hx ⟨e, zs, rfl, hzl, hz⟩
      rw [List.getElem?_map] at hx
      obtain ⟨b, hb, rfl⟩ := Option.map_eq_some_iff.mp hx
      have hi : i < ws.length := by
        rw [← hbl]
        exact (List.getElem?_eq_some_iff.mp hb).1
      have hwi : ws[i]? = some ws[i] := List.getElem?_eq_getElem hi
      walk_at "rd"
      refine iteT ?_
      walk_at "rd"
      refine ⟨b, ws[i], m, rfl, e _ _ (al.2 i b _ hb hwi), ok.ok _ (List.getElem_mem hi), m2, fun z J eJ hzl' => ?_⟩
      walk_at "rd"
      refine ⟨_, _, rfl, rfl, small9 (by omega), ?_⟩
      refine ⟨e.trans eJ, zs ++ [Str.ofString " " ++ z], by rw [List.map_append]; rfl, by rw [List.length_append, hzl]; rfl, fun y hy => ?_⟩
      rcases List.mem_append.mp hy with x | x
      · exact hz y x
      · rw [List.mem_singleton] at x
        subst x
        rw [len_app]
        omega
    · rintro ys H' pl ⟨e, zs, rfl, hzl, hz⟩ hpl
      rw [List.length_map, hbl] at hzl
      have hsum := sum_le hz
      have e2 : Ext H1 (upd H' pl (.lst (zs.map V.str))) := e.trans (ext_upd hpl)
      have hsq : (upd H' pl (.lst (zs.map V.str))) pl = some (.lst (zs.map V.str)) := upd_same
      generalize upd H' pl (.lst (zs.map V.str)) = H2 at e2 hsq ⊢
      walk_at "rd"
      refine ⟨_, pl, zs, rfl, rfl, SqL.of hsq, by rw [l2]; omega, fun z hz => ?_⟩
      rw [l2] at hz
      walk_at "rd"
      have lz : z.length ≤ 1500 := by omega
      refine ⟨_, _, rfl, rfl, by rw [len_app, sizeLine_eq]; omega, ?_⟩
      exact q _ H2 c (e1.trans e2) (first_app (first_app hc)) c1 c2 (by rw [len_app, len_app]; omega)
theorem slice_one {z : Str} {c : Nat} (h : z.cps[0]? = some c) : Txt.slice z none (some 1) = ⟨#[c]⟩ := by
  have hp : 0 < z.length := (Array.getElem?_eq_some_iff.mp h).1
  have e : Builtin.Str.strSliceIndices none (some 1) 1 z.length = [0] := by
    unfold Builtin.Str.strSliceIndices sliceRange
    simp only [show (1 : Int) > 0 by decide, if_true]
    rw [if_neg (show ¬ ((1 : Int) < 0) by decide)]
    have : max 0 (min 1 (z.length : Int)) = 1 := by omega
    first
      | (rw [this]; rfl)
      | (simp only [show ¬ ((1 : Int) < 0) by decide, if_false]; split <;> (try omega) <;> simp_all <;> omega)
  unfold Txt.slice
  rw [e]
  split
  · rename_i hq
    have hl : z.length = 1 := by
      have : 1 = z.length := by simpa using hq
      exact this.symm
    obtain ⟨d, rfl⟩ := one_sign hl
    cases h
    rfl
  · simp [h]
theorem dig_in : ∀ i : Fin 58, 49 ≤ i.1 → (!(Builtin.Str.occurrences (Str.ofString "123456789") ⟨#[i.1]⟩ 0 (Str.ofString "123456789").length 1).isEmpty) = true := by decide +kernel
noncomputable def sp__law_one (K : PySem.W.Frag) : Sp := fun vs H _ E => ∃ (k : Int) (v : V) (f : Int), vs = [.int k, v, .int f] ∧ NoH H v ∧ Ref K H E
noncomputable abbrev s__law_one : Stmt := stq 154
theorem sc__law_one : FnScope ["_law_way", "_law_thing", "_law_far"] ["_law_way", "_law_thing", "_law_far"] (defScope s__law_one) := ⟨rfl, rfl, rfl, by decide +kernel, rfl, by decide +kernel, by decide +kernel⟩
theorem ok__law_one {P : Program} {w : World} {K : PySem.W.Frag} {mg : Str → Option Value} {base : Heap} (D : Dfn K mg "_law_one" s__law_one ["_law_way", "_law_thing", "_law_far"]) (T : Blt mg) (CX_forward : CalX P w K mg base "forward" 7 ["house", "place"] (sp_forward K)) (CX_rooms_at : CalX P w K mg base "rooms_at" 8 ["house", "place", "l"] (sp_rooms_at K)) (CX_fallen : CalX P w K mg base "fallen" 7 ["house"] (sp_fallen K)) (CX_risen : CalX P w K mg base "risen" 7 ["house"] (sp_risen K)) (CX_kept : CalX P w K mg base "kept" 7 ["house"] (sp_kept K)) (CX_shortest : CalX P w K mg base "shortest" 7 ["house", "place", "goal"] (sp_shortest K)) (CX_walked : CalX P w K mg base "walked" 7 ["house", "place", "walk"] (sp_walked K)) (CX_open_ways : CalX P w K mg base "open_ways" 7 ["house", "place"] (sp_open_ways K)) (CX_turned_about : CalX P w K mg base "turned_about" 7 ["house"] (sp_turned_about K)) : CalX P w K mg base "_law_one" 9 ["_law_way", "_law_thing", "_law_far"] (sp__law_one K) := by
  have nd := (sc__law_one).nd
  refine D.okX sc__law_one (fun vs H Q E h => ?_) (fun f cdv A outer s H vs Q E hr h => ?_)
  · obtain ⟨k, v, f, rfl, _⟩ := h; rfl
  · obtain ⟨k, v, f9, rfl, hv, q⟩ := h
    refine ⟨_, (no_implicit_lambda% (pss_cons (no_implicit_lambda% (ps_if (no_implicit_lambda% (pt_cmpR op_eq (no_implicit_lambda% (pv 0)) pe_int (nomark _))) (no_implicit_lambda% (pss_one (no_implicit_lambda% (ps_ret (no_implicit_lambda% (pe_calX CX_turned_about hr (no_implicit_lambda% (pa_cons (no_implicit_lambda% (pv 1)) pa_nil)))))))) pss_nil))
        (no_implicit_lambda% (pss_cons (no_implicit_lambda% (ps_if (no_implicit_lambda% (pt_cmpR op_eq (no_implicit_lambda% (pv 0)) pe_int (nomark _))) (no_implicit_lambda% (pss_one (no_implicit_lambda% (ps_ret (no_implicit_lambda% (pe_calX CX_open_ways hr (no_implicit_lambda% (pa_cons (no_implicit_lambda% (pv 1)) (no_implicit_lambda% (pa_cons (no_implicit_lambda% (pe_tup (no_implicit_lambda% (pa_cons pe_int (no_implicit_lambda% (pa_cons (no_implicit_lambda% (pv 2)) pa_nil)))))) pa_nil)))))))))) pss_nil))
        (no_implicit_lambda% (pss_cons (no_implicit_lambda% (ps_if (no_implicit_lambda% (pt_cmpR op_eq (no_implicit_lambda% (pv 0)) pe_int (nomark _))) (no_implicit_lambda% (pss_one (no_implicit_lambda% (ps_ret (no_implicit_lambda% (pe_calX CX_walked hr (no_implicit_lambda% (pa_cons (no_implicit_lambda% (pv 1)) (no_implicit_lambda% (pa_cons (no_implicit_lambda% (pe_tup (no_implicit_lambda% (pa_cons pe_int (no_implicit_lambda% (pa_cons pe_int pa_nil)))))) (no_implicit_lambda% (pa_cons (no_implicit_lambda% (pe_lst (no_implicit_lambda% (pa_cons pe_int pa_nil)))) pa_nil)))))))))))) pss_nil))
        (no_implicit_lambda% (pss_cons (no_implicit_lambda% (ps_if (no_implicit_lambda% (pt_cmpR op_eq (no_implicit_lambda% (pv 0)) pe_int (nomark _))) (no_implicit_lambda% (pss_one (no_implicit_lambda% (ps_ret (no_implicit_lambda% (pe_calX CX_shortest hr (no_implicit_lambda% (pa_cons (no_implicit_lambda% (pv 1)) (no_implicit_lambda% (pa_cons (no_implicit_lambda% (pe_tup (no_implicit_lambda% (pa_cons pe_int (no_implicit_lambda% (pa_cons (no_implicit_lambda% (pv 2)) pa_nil)))))) (no_implicit_lambda% (pa_cons (no_implicit_lambda% (pe_tup (no_implicit_lambda% (pa_cons pe_int (no_implicit_lambda% (pa_cons pe_int pa_nil)))))) pa_nil)))))))))))) pss_nil))
        (no_implicit_lambda% (pss_cons (no_implicit_lambda% (ps_if (no_implicit_lambda% (pt_cmpR op_eq (no_implicit_lambda% (pv 0)) pe_int (nomark _))) (no_implicit_lambda% (pss_one (no_implicit_lambda% (ps_ret (no_implicit_lambda% (pe_calX CX_kept hr (no_implicit_lambda% (pa_cons (no_implicit_lambda% (pv 1)) pa_nil)))))))) pss_nil))
        (no_implicit_lambda% (pss_cons (no_implicit_lambda% (ps_if (no_implicit_lambda% (pt_cmpR op_eq (no_implicit_lambda% (pv 0)) pe_int (nomark _))) (no_implicit_lambda% (pss_one (no_implicit_lambda% (ps_ret (no_implicit_lambda% (pe_calX CX_risen hr (no_implicit_lambda% (pa_cons (no_implicit_lambda% (pv 1)) pa_nil)))))))) pss_nil))
        (no_implicit_lambda% (pss_cons (no_implicit_lambda% (ps_if (no_implicit_lambda% (pt_cmpR op_eq (no_implicit_lambda% (pv 0)) pe_int (nomark _))) (no_implicit_lambda% (pss_one (no_implicit_lambda% (ps_ret (no_implicit_lambda% (pe_calX CX_fallen hr (no_implicit_lambda% (pa_cons (no_implicit_lambda% (pv 1)) pa_nil)))))))) pss_nil))
        (no_implicit_lambda% (pss_cons (no_implicit_lambda% (ps_if (no_implicit_lambda% (pt_cmpR op_eq (no_implicit_lambda% (pv 0)) pe_int (nomark _))) (no_implicit_lambda% (pss_one (no_implicit_lambda% (ps_ret (no_implicit_lambda% (pe_calX CX_rooms_at hr (no_implicit_lambda% (pa_cons (no_implicit_lambda% (pv 1)) (no_implicit_lambda% (pa_cons (no_implicit_lambda% (pe_tup (no_implicit_lambda% (pa_cons pe_int (no_implicit_lambda% (pa_cons (no_implicit_lambda% (pv 2)) pa_nil)))))) (no_implicit_lambda% (pa_cons pe_int pa_nil)))))))))))) pss_nil))
        (no_implicit_lambda% (pss_one (no_implicit_lambda% (ps_ret (no_implicit_lambda% (pe_calX CX_forward hr (no_implicit_lambda% (pa_cons (no_implicit_lambda% (pv 1)) (no_implicit_lambda% (pa_cons (no_implicit_lambda% (pe_tup (no_implicit_lambda% (pa_cons (no_implicit_lambda% (pe_un un_neg pe_int)) (no_implicit_lambda% (pa_cons pe_int pa_nil)))))) pa_nil)))))))))))))))))))))))))), ?_⟩
    walk_at "rd"
    refine ite2 (fun _ => ?_) (fun _ => ?_)
    · walk_at "rd"
      exact ⟨v, rfl, hv, q⟩
    walk_at "rd"
    refine ite2 (fun _ => ?_) (fun _ => ?_)
    · walk_at "rd"
      refine ⟨small_line (by simp), rd_new fun p1 H1 e1 k1 _ => ?_⟩
      walk_at "rd"
      exact ⟨v, _, rfl, hv.ext e1, q.ext e1⟩
    walk_at "rd"
    refine ite2 (fun _ => ?_) (fun _ => ?_)
    · walk_at "rd"
      refine ⟨small_line (by simp), rd_new fun p1 H1 e1 k1 _ => ?_⟩
      walk_at "rd"
      refine ⟨small_line (by simp), rd_new fun p2 H2 e2 k2 _ => ?_⟩
      walk_at "rd"
      exact ⟨v, _, _, rfl, hv.ext (e1.trans e2), q.ext (e1.trans e2)⟩
    walk_at "rd"
    refine ite2 (fun _ => ?_) (fun _ => ?_)
    · walk_at "rd"
      refine ⟨small_line (by simp), rd_new fun p1 H1 e1 k1 _ => ?_⟩
      walk_at "rd"
      refine ⟨small_line (by simp), rd_new fun p2 H2 e2 k2 _ => ?_⟩
      walk_at "rd"
      exact ⟨v, _, _, rfl, hv.ext (e1.trans e2), q.ext (e1.trans e2)⟩
    walk_at "rd"
    refine ite2 (fun _ => ?_) (fun _ => ?_)
    · walk_at "rd"
      exact ⟨v, rfl, hv, q⟩
    walk_at "rd"
    refine ite2 (fun _ => ?_) (fun _ => ?_)
    · walk_at "rd"
      exact ⟨v, rfl, hv, q⟩
    walk_at "rd"
    refine ite2 (fun _ => ?_) (fun _ => ?_)
    · walk_at "rd"
      exact ⟨v, rfl, hv, q⟩
    walk_at "rd"
    refine ite2 (fun _ => ?_) (fun _ => ?_)
    · walk_at "rd"
      refine ⟨small_line (by simp), rd_new fun p1 H1 e1 k1 _ => ?_⟩
      walk_at "rd"
      exact ⟨v, _, _, rfl, hv.ext e1, q.ext e1⟩
    walk_at "rd"
    refine ⟨small_line (by simp), rd_new fun p1 H1 e1 k1 _ => ?_⟩
    walk_at "rd"
    exact ⟨v, _, rfl, hv.ext e1, q.ext e1⟩
theorem tiny_house {H : Hp} {p q b : Addr} (h1 : H p = some (.tup [.int 1, .ref q])) (h2 : H q = some (.tup [.ref b])) (h3 : H b = some (.tup [.int 0, .str (Str.ofString "up"), .int 0, .str (Str.ofString "a")])) : Thg H 4 (.ref p) ∧ houseV H (.ref p) = true := by
  have hw : WaysAt H q (([⟨0, "up", 0, "a"⟩] : List Way).map Way.key) := AlW.ways (bs := [b]) ⟨rfl, fun j b' w e1 e2 => by
    match j, e1, e2 with
    | 0, e1, e2 =>
      cases e1
      cases e2
      exact h3⟩ h2
  refine good_house (m := 1) (ws := [⟨0, "up", 0, "a"⟩]) ⟨p, q, rfl, h1, hw⟩ ⟨by decide, by decide, by decide, fun w hw => ?_, by simp⟩
  rw [List.mem_singleton] at hw
  subst hw
  exact ⟨by decide, by decide, by decide, by decide, okU, sgA⟩
noncomputable def sp__law_two (K : PySem.W.Frag) : Sp := fun vs H _ E => ∃ (k : Int) (v : V) (f : Int), vs = [.int k, v, .int f] ∧ NoH H v ∧ Ref K H E
noncomputable abbrev s__law_two : Stmt := stq 155
theorem sc__law_two : FnScope ["_law_way", "_law_thing", "_law_far"] ["_law_way", "_law_thing", "_law_far"] (defScope s__law_two) := ⟨rfl, rfl, rfl, by decide +kernel, rfl, by decide +kernel, by decide +kernel⟩
theorem ok__law_two {P : Program} {w : World} {K : PySem.W.Frag} {mg : Str → Option Value} {base : Heap} (D : Dfn K mg "_law_two" s__law_two ["_law_way", "_law_thing", "_law_far"]) (T : Blt mg) (CX_shown_house : CalX P w K mg base "shown_house" 7 ["house"] (sp_shown_house K)) (CX_is_bare : CalX P w K mg base "is_bare" 7 ["house"] (sp_is_bare K)) (CX_side_by_side : CalX P w K mg base "side_by_side" 8 ["house", "bare"] (sp_side_by_side K)) (CX_first_words : CalX P w K mg base "first_words" 8 ["house", "p", "q", "length", "many"] (sp_first_words K)) (CX_first_word : CalX P w K mg base "first_word" 8 ["house", "p", "q"] (sp_first_word K)) (CX_reads : CalX P w K mg base "reads" 8 ["house", "p", "q", "text"] (sp_reads K)) (CX_ranks : CalX P w K mg base "ranks" 7 ["house", "place"] (sp_ranks K)) (CX_stops : CalX P w K mg base "stops" 8 ["house", "place"] (sp_stops K)) (CX_fate : CalX P w K mg base "fate" 9 ["house", "place"] (sp_fate K)) (CX_greatest : CalX P w K mg base "greatest" 8 ["house", "place"] (sp_greatest K)) (CX_backward : CalX P w K mg base "backward" 8 ["house", "goal"] (sp_backward K)) (CX_answer : CalX P w K mg base "answer" 8 ["house", "place", "goal"] (sp_answer K)) : CalX P w K mg base "_law_two" 10 ["_law_way", "_law_thing", "_law_far"] (sp__law_two K) := by
  have nd := (sc__law_two).nd
  refine D.okX sc__law_two (fun vs H Q E h => ?_) (fun f cdv A outer s H vs Q E hr h => ?_)
  · obtain ⟨k, v, f, rfl, _⟩ := h; rfl
  · obtain ⟨k, v, f9, rfl, hv, q⟩ := h
    refine ⟨_, (no_implicit_lambda% (pss_cons (no_implicit_lambda% (ps_if (no_implicit_lambda% (pt_cmpR op_eq (no_implicit_lambda% (pv 0)) pe_int (nomark _))) (no_implicit_lambda% (pss_one (no_implicit_lambda% (ps_ret (no_implicit_lambda% (pe_calX CX_answer hr (no_implicit_lambda% (pa_cons (no_implicit_lambda% (pv 1)) (no_implicit_lambda% (pa_cons (no_implicit_lambda% (pe_tup (no_implicit_lambda% (pa_cons pe_int (no_implicit_lambda% (pa_cons pe_int pa_nil)))))) (no_implicit_lambda% (pa_cons (no_implicit_lambda% (pe_tup (no_implicit_lambda% (pa_cons pe_int (no_implicit_lambda% (pa_cons (no_implicit_lambda% (pv 2)) pa_nil)))))) pa_nil)))))))))))) pss_nil))
        (no_implicit_lambda% (pss_cons (no_implicit_lambda% (ps_if (no_implicit_lambda% (pt_cmpR op_eq (no_implicit_lambda% (pv 0)) pe_int (nomark _))) (no_implicit_lambda% (pss_one (no_implicit_lambda% (ps_ret (no_implicit_lambda% (pe_calX CX_backward hr (no_implicit_lambda% (pa_cons (no_implicit_lambda% (pv 1)) (no_implicit_lambda% (pa_cons (no_implicit_lambda% (pe_tup (no_implicit_lambda% (pa_cons pe_int (no_implicit_lambda% (pa_cons (no_implicit_lambda% (pe_un un_neg pe_int)) pa_nil)))))) pa_nil)))))))))) pss_nil))
        (no_implicit_lambda% (pss_cons (no_implicit_lambda% (ps_if (no_implicit_lambda% (pt_cmpR op_eq (no_implicit_lambda% (pv 0)) pe_int (nomark _))) (no_implicit_lambda% (pss_one (no_implicit_lambda% (ps_ret (no_implicit_lambda% (pe_calX CX_greatest hr (no_implicit_lambda% (pa_cons (no_implicit_lambda% (pv 1)) (no_implicit_lambda% (pa_cons (no_implicit_lambda% (pe_tup (no_implicit_lambda% (pa_cons pe_int (no_implicit_lambda% (pa_cons (no_implicit_lambda% (pv 2)) pa_nil)))))) pa_nil)))))))))) pss_nil))
        (no_implicit_lambda% (pss_cons (no_implicit_lambda% (ps_if (no_implicit_lambda% (pt_cmpR op_eq (no_implicit_lambda% (pv 0)) pe_int (nomark _))) (no_implicit_lambda% (pss_one (no_implicit_lambda% (ps_ret (no_implicit_lambda% (pe_calX CX_fate hr (no_implicit_lambda% (pa_cons (no_implicit_lambda% (pv 1)) (no_implicit_lambda% (pa_cons (no_implicit_lambda% (pe_tup (no_implicit_lambda% (pa_cons pe_int (no_implicit_lambda% (pa_cons (no_implicit_lambda% (pv 2)) pa_nil)))))) pa_nil)))))))))) pss_nil))
        (no_implicit_lambda% (pss_cons (no_implicit_lambda% (ps_if (no_implicit_lambda% (pt_cmpR op_eq (no_implicit_lambda% (pv 0)) pe_int (nomark _))) (no_implicit_lambda% (pss_one (no_implicit_lambda% (ps_ret (no_implicit_lambda% (pe_calX CX_stops hr (no_implicit_lambda% (pa_cons (no_implicit_lambda% (pv 1)) (no_implicit_lambda% (pa_cons (no_implicit_lambda% (pe_tup (no_implicit_lambda% (pa_cons pe_int (no_implicit_lambda% (pa_cons (no_implicit_lambda% (pe_un un_neg pe_int)) pa_nil)))))) pa_nil)))))))))) pss_nil))
        (no_implicit_lambda% (pss_cons (no_implicit_lambda% (ps_if (no_implicit_lambda% (pt_cmpR op_eq (no_implicit_lambda% (pv 0)) pe_int (nomark _))) (no_implicit_lambda% (pss_one (no_implicit_lambda% (ps_ret (no_implicit_lambda% (pe_calX CX_ranks hr (no_implicit_lambda% (pa_cons (no_implicit_lambda% (pv 1)) (no_implicit_lambda% (pa_cons (no_implicit_lambda% (pe_tup (no_implicit_lambda% (pa_cons pe_int (no_implicit_lambda% (pa_cons pe_int pa_nil)))))) pa_nil)))))))))) pss_nil))
        (no_implicit_lambda% (pss_cons (no_implicit_lambda% (ps_if (no_implicit_lambda% (pt_cmpR op_eq (no_implicit_lambda% (pv 0)) pe_int (nomark _))) (no_implicit_lambda% (pss_one (no_implicit_lambda% (ps_ret (no_implicit_lambda% (pe_calX CX_reads hr (no_implicit_lambda% (pa_cons (no_implicit_lambda% (pv 1)) (no_implicit_lambda% (pa_cons pe_int (no_implicit_lambda% (pa_cons pe_int (no_implicit_lambda% (pa_cons (no_implicit_lambda% (pe_op op_repS pe_str pe_int)) pa_nil)))))))))))))) pss_nil))
        (no_implicit_lambda% (pss_cons (no_implicit_lambda% (ps_if (no_implicit_lambda% (pt_cmpR op_eq (no_implicit_lambda% (pv 0)) pe_int (nomark _))) (no_implicit_lambda% (pss_one (no_implicit_lambda% (ps_ret (no_implicit_lambda% (pe_calX CX_first_word hr (no_implicit_lambda% (pa_cons (no_implicit_lambda% (pv 1)) (no_implicit_lambda% (pa_cons pe_int (no_implicit_lambda% (pa_cons (no_implicit_lambda% (pe_un un_neg pe_int)) pa_nil)))))))))))) pss_nil))
        (no_implicit_lambda% (pss_cons (no_implicit_lambda% (ps_if (no_implicit_lambda% (pt_cmpR op_eq (no_implicit_lambda% (pv 0)) pe_int (nomark _))) (no_implicit_lambda% (pss_one (no_implicit_lambda% (ps_ret (no_implicit_lambda% (pe_calX CX_first_words hr (no_implicit_lambda% (pa_cons (no_implicit_lambda% (pv 1)) (no_implicit_lambda% (pa_cons pe_int (no_implicit_lambda% (pa_cons pe_int (no_implicit_lambda% (pa_cons pe_int (no_implicit_lambda% (pa_cons (no_implicit_lambda% (pe_un un_neg pe_int)) pa_nil)))))))))))))))) pss_nil))
        (no_implicit_lambda% (pss_cons (no_implicit_lambda% (ps_if (no_implicit_lambda% (pt_cmpR op_eq (no_implicit_lambda% (pv 0)) pe_int (nomark _))) (no_implicit_lambda% (pss_one (no_implicit_lambda% (ps_ret (no_implicit_lambda% (pe_calX CX_side_by_side hr (no_implicit_lambda% (pa_cons (no_implicit_lambda% (pv 1)) (no_implicit_lambda% (pa_lit (.tup (.cons .int (.cons (.tup (.cons (.tup (.cons .int (.cons .str (.cons .int (.cons .str .nil))))) .nil)) .nil))) pa_nil)))))))))) pss_nil))
        (no_implicit_lambda% (pss_cons (no_implicit_lambda% (ps_if (no_implicit_lambda% (pt_cmpR op_eq (no_implicit_lambda% (pv 0)) pe_int (nomark _))) (no_implicit_lambda% (pss_one (no_implicit_lambda% (ps_ret (no_implicit_lambda% (pe_calX CX_side_by_side hr (no_implicit_lambda% (pa_lit (.tup (.cons .int (.cons (.tup (.cons (.tup (.cons .int (.cons .str (.cons .int (.cons .str .nil))))) .nil)) .nil))) (no_implicit_lambda% (pa_cons (no_implicit_lambda% (pv 1)) pa_nil)))))))))) pss_nil))
        (no_implicit_lambda% (pss_cons (no_implicit_lambda% (ps_if (no_implicit_lambda% (pt_cmpR op_eq (no_implicit_lambda% (pv 0)) pe_int (nomark _))) (no_implicit_lambda% (pss_one (no_implicit_lambda% (ps_ret (no_implicit_lambda% (pe_calX CX_is_bare hr (no_implicit_lambda% (pa_cons (no_implicit_lambda% (pv 1)) pa_nil)))))))) pss_nil))
        (no_implicit_lambda% (pss_one (no_implicit_lambda% (ps_ret (no_implicit_lambda% (pe_calX CX_shown_house hr (no_implicit_lambda% (pa_cons (no_implicit_lambda% (pv 1)) pa_nil)))))))))))))))))))))))))))))))), ?_⟩
    walk_at "rd"
    refine ite2 (fun _ => ?_) (fun _ => ?_)
    · walk_at "rd"
      refine ⟨small_line (by simp), rd_new fun p1 H1 e1 k1 _ => ?_⟩
      walk_at "rd"
      refine ⟨small_line (by simp), rd_new fun p2 H2 e2 k2 _ => ?_⟩
      walk_at "rd"
      exact ⟨v, _, _, rfl, hv.ext (e1.trans e2), q.ext (e1.trans e2)⟩
    walk_at "rd"
    refine ite2 (fun _ => ?_) (fun _ => ?_)
    · walk_at "rd"
      refine ⟨small_line (by simp), rd_new fun p1 H1 e1 k1 _ => ?_⟩
      walk_at "rd"
      exact ⟨v, _, rfl, hv.ext e1, q.ext e1⟩
    walk_at "rd"
    refine ite2 (fun _ => ?_) (fun _ => ?_)
    · walk_at "rd"
      refine ⟨small_line (by simp), rd_new fun p1 H1 e1 k1 _ => ?_⟩
      walk_at "rd"
      exact ⟨v, _, rfl, hv.ext e1, q.ext e1⟩
    walk_at "rd"
    refine ite2 (fun _ => ?_) (fun _ => ?_)
    · walk_at "rd"
      refine ⟨small_line (by simp), rd_new fun p1 H1 e1 k1 _ => ?_⟩
      walk_at "rd"
      exact ⟨v, _, rfl, hv.ext e1, q.ext e1⟩
    walk_at "rd"
    refine ite2 (fun _ => ?_) (fun _ => ?_)
    · walk_at "rd"
      refine ⟨small_line (by simp), rd_new fun p1 H1 e1 k1 _ => ?_⟩
      walk_at "rd"
      exact ⟨v, _, rfl, hv.ext e1, q.ext e1⟩
    walk_at "rd"
    refine ite2 (fun _ => ?_) (fun _ => ?_)
    · walk_at "rd"
      refine ⟨small_line (by simp), rd_new fun p1 H1 e1 k1 _ => ?_⟩
      walk_at "rd"
      exact ⟨v, _, rfl, hv.ext e1, q.ext e1⟩
    walk_at "rd"
    refine ite2 (fun _ => ?_) (fun _ => ?_)
    · walk_at "rd"
      refine ⟨_, _, rfl, rfl, by decide, by decide, by decide +kernel, ?_⟩
      walk_at "rd"
      exact ⟨v, _, _, _, rfl, hv, q⟩
    walk_at "rd"
    refine ite2 (fun _ => ?_) (fun _ => ?_)
    · walk_at "rd"
      exact ⟨v, _, _, rfl, hv, q⟩
    walk_at "rd"
    refine ite2 (fun _ => ?_) (fun _ => ?_)
    · walk_at "rd"
      exact ⟨v, _, _, _, _, rfl, hv, q⟩
    walk_at "rd"
    refine ite2 (fun _ => ?_) (fun _ => ?_)
    · walk_at "rd"
      refine ⟨small_line (by simp), rd_new fun p1 H1 e1 k1 _ => ?_⟩
      walk_at "rd"
      refine ⟨small_line (by simp), rd_new fun p2 H2 e2 k2 _ => ?_⟩
      walk_at "rd"
      refine ⟨small_line (by simp), rd_new fun p3 H3 e3 k3 _ => ?_⟩
      walk_at "rd"
      have e := e1.trans (e2.trans e3)
      exact ⟨v, _, rfl, .inl (hv.ext e), q.ext e⟩
    walk_at "rd"
    refine ite2 (fun _ => ?_) (fun _ => ?_)
    · walk_at "rd"
      refine ⟨small_line (by simp), rd_new fun p1 H1 e1 k1 _ => ?_⟩
      walk_at "rd"
      refine ⟨small_line (by simp), rd_new fun p2 H2 e2 k2 _ => ?_⟩
      walk_at "rd"
      refine ⟨small_line (by simp), rd_new fun p3 H3 e3 k3 _ => ?_⟩
      walk_at "rd"
      have e := e1.trans (e2.trans e3)
      obtain ⟨t1, t2⟩ := tiny_house k3 (e3 _ _ k2) ((e2.trans e3) _ _ k1)
      exact ⟨_, v, rfl, .inr ⟨t1, t2, hv.ext e⟩, q.ext e⟩
    walk_at "rd"
    refine ite2 (fun _ => ?_) (fun _ => ?_)
    · walk_at "rd"
      exact ⟨v, rfl, hv, q⟩
    walk_at "rd"
    exact ⟨v, rfl, .inl ⟨hv, q⟩⟩
theorem rd_EqS {a b : Str} {H : Hp} {Q : VK} (h : Q (.bl (decide (a = b))) H) : rEq (.str a) (.str b) H Q := ⟨rfl, by rw [dec_str]; exact h⟩
noncomputable def sp__law_refused (K : PySem.W.Frag) : Sp := fun vs H Q _ => ∃ (k : Int) (v : V) (f : Int), vs = [.int k, v, .int f] ∧ NoH H v ∧ ∀ H', Ext H H' → Q (.bl true) H'
noncomputable abbrev s__law_refused : Stmt := stq 156
theorem sc__law_refused : FnScope ["_law_way", "_law_thing", "_law_far", "_law_word", "e", "_law_others"] ["_law_way", "_law_thing", "_law_far"] (defScope s__law_refused) := ⟨rfl, rfl, rfl, by decide +kernel, rfl, by decide +kernel, by decide +kernel⟩
theorem ok__law_refused {P : Program} {w : World} {K : PySem.W.Frag} {mg : Str → Option Value} {base : Heap} (D : Dfn K mg "_law_refused" s__law_refused ["_law_way", "_law_thing", "_law_far"]) (T : Blt mg) (XF : Xf K mg base allC raisedC) (CX__law_one : CalX P w K mg base "_law_one" 9 ["_law_way", "_law_thing", "_law_far"] (sp__law_one K)) (CX__law_two : CalX P w K mg base "_law_two" 10 ["_law_way", "_law_thing", "_law_far"] (sp__law_two K)) : Cal P w K mg base "_law_refused" 11 ["_law_way", "_law_thing", "_law_far"] (sp__law_refused K) := by
  have nd := (sc__law_refused).nd
  refine D.ok sc__law_refused (fun vs H Q E h => ?_) (fun X hX H vs Q E h => ?_)
  · obtain ⟨k, v, f, rfl, _⟩ := h; rfl
  · obtain ⟨f, cdv, A, outer, s, H0, E0, rfl, hr⟩ := hX
    obtain ⟨k, v, f9, rfl, hv, q⟩ := h
    have kt : PySem.W.kitOne K (.ref (cA K "NoHouse")) (.ref (cA K "NoHouse")) = some true := (XF.kc "NoHouse" (by decide +kernel) "NoHouse" (by decide +kernel)).trans (by decide +kernel)
    have kn : ∀ y ∈ (["Endless", "NoDeed", "NoLine", "NoPlace", "NoStair", "NoText", "NotBare", "NoWalk", "NoWay", "TooGreat"] : List Str), y ∈ allC ∧ (("NoHouse" : Str) == y || y == ("StairError" : Str)) = false := by decide +kernel
    refine ⟨_, (no_implicit_lambda% (pss_cons (no_implicit_lambda% (ps_set (i := 3) nd rfl (Or.inl rfl) pe_str))
        (no_implicit_lambda% (pss_cons (no_implicit_lambda% (ps_try (i := 4) rfl rfl nd rfl rfl rfl (XF.cl "StairError" (by decide +kernel)) rfl (by decide) (pbs_cons (pb_if (no_implicit_lambda% (pt_cmpR op_lt (no_implicit_lambda% (pv 0)) pe_int (nomark _))) (pbs_cons (pb_call CX__law_one hr (no_implicit_lambda% (pa_cons (no_implicit_lambda% (pv 0)) (no_implicit_lambda% (pa_cons (no_implicit_lambda% (pv 1)) (no_implicit_lambda% (pa_cons (no_implicit_lambda% (pv 2)) pa_nil))))))) pbs_nil) (pbs_cons (pb_call CX__law_two hr (no_implicit_lambda% (pa_cons (no_implicit_lambda% (pv 0)) (no_implicit_lambda% (pa_cons (no_implicit_lambda% (pv 1)) (no_implicit_lambda% (pa_cons (no_implicit_lambda% (pv 2)) pa_nil))))))) pbs_nil)) pbs_nil) (fun x oe Dx hK hc => (no_implicit_lambda% (pss_cons (no_implicit_lambda% (ps_set (i := 5) nd rfl (Or.inl rfl) (no_implicit_lambda% (pe_callB (call_isiX hK hc) rfl T.isinstance_ PyProof.Rows.boot_isinstance (no_implicit_lambda% (pa_cons (no_implicit_lambda% (pv 4)) (no_implicit_lambda% (pa_cons (no_implicit_lambda% (pe_tup (no_implicit_lambda% (pa_cons (no_implicit_lambda% (pe_glob (v := .ref (cA K "Endless")) rfl (XF.cl "Endless" (by decide +kernel)) rfl)) (no_implicit_lambda% (pa_cons (no_implicit_lambda% (pe_glob (v := .ref (cA K "NoDeed")) rfl (XF.cl "NoDeed" (by decide +kernel)) rfl)) (no_implicit_lambda% (pa_cons (no_implicit_lambda% (pe_glob (v := .ref (cA K "NoLine")) rfl (XF.cl "NoLine" (by decide +kernel)) rfl)) (no_implicit_lambda% (pa_cons (no_implicit_lambda% (pe_glob (v := .ref (cA K "NoPlace")) rfl (XF.cl "NoPlace" (by decide +kernel)) rfl)) (no_implicit_lambda% (pa_cons (no_implicit_lambda% (pe_glob (v := .ref (cA K "NoStair")) rfl (XF.cl "NoStair" (by decide +kernel)) rfl)) (no_implicit_lambda% (pa_cons (no_implicit_lambda% (pe_glob (v := .ref (cA K "NoText")) rfl (XF.cl "NoText" (by decide +kernel)) rfl)) (no_implicit_lambda% (pa_cons (no_implicit_lambda% (pe_glob (v := .ref (cA K "NotBare")) rfl (XF.cl "NotBare" (by decide +kernel)) rfl)) (no_implicit_lambda% (pa_cons (no_implicit_lambda% (pe_glob (v := .ref (cA K "NoWalk")) rfl (XF.cl "NoWalk" (by decide +kernel)) rfl)) (no_implicit_lambda% (pa_cons (no_implicit_lambda% (pe_glob (v := .ref (cA K "NoWay")) rfl (XF.cl "NoWay" (by decide +kernel)) rfl)) (no_implicit_lambda% (pa_cons (no_implicit_lambda% (pe_glob (v := .ref (cA K "TooGreat")) rfl (XF.cl "TooGreat" (by decide +kernel)) rfl)) pa_nil)))))))))))))))))))))) pa_nil))))))))
        (no_implicit_lambda% (pss_cons (no_implicit_lambda% (ps_set (i := 3) nd rfl (Or.inl rfl) pe_str))
        (no_implicit_lambda% (pss_one (no_implicit_lambda% (ps_ifJ (no_implicit_lambda% (PW.pt (pw_and (no_implicit_lambda% (pt_val (no_implicit_lambda% (pe_callB (call_isiX hK hc) rfl T.isinstance_ PyProof.Rows.boot_isinstance (no_implicit_lambda% (pa_cons (no_implicit_lambda% (pv 4)) (no_implicit_lambda% (pa_cons (no_implicit_lambda% (pe_glob (v := .ref (cA K "NoHouse")) rfl (XF.cl "NoHouse" (by decide +kernel)) rfl)) pa_nil)))))))) (pw_and (no_implicit_lambda% (pt_val (no_implicit_lambda% (pe_callB (call_isiX hK hc) rfl T.isinstance_ PyProof.Rows.boot_isinstance (no_implicit_lambda% (pa_cons (no_implicit_lambda% (pv 4)) (no_implicit_lambda% (pa_cons (no_implicit_lambda% (pe_bltn (v := .ty "ValueError") rfl T.ValueError_ PyProof.Rows.Boot.«ValueError» rfl)) pa_nil)))))))) (pw_and1 (no_implicit_lambda% (pt_not (no_implicit_lambda% (pt_val (no_implicit_lambda% (pv 5))))))))))) (no_implicit_lambda% (pss_one (no_implicit_lambda% (ps_set (i := 3) nd rfl (Or.inl rfl) pe_str)))) pss_nil)))))))))))
        (no_implicit_lambda% (pss_one (no_implicit_lambda% (ps_ret (no_implicit_lambda% (pe_cmpR op_eq (no_implicit_lambda% (pv 3)) pe_str (nomark _))))))))))), ?_⟩
    walk_at "rd"
    refine ite2 (fun _ => ?_) (fun _ => ?_)
    all_goals
      walk_at "rd"
      refine ⟨k, v, f9, rfl, hv, fun H1 e1 => ?_⟩
      refine ⟨_, rfl, XF.up "NoHouse" (by decide +kernel), XF.exk "NoHouse" (by decide +kernel), fun x hx => ?_⟩
      walk_at "rd"
      refine ⟨small_line (by simp), rd_new fun tp H2 e2 ht _ => ?_⟩
      walk_at "rd"
      refine rd_isiP (Cs := (["Endless", "NoDeed", "NoLine", "NoPlace", "NoStair", "NoText", "NotBare", "NoWalk", "NoWay", "TooGreat"] : List Str).map (cA K)) ht (kitAny_no fun C hC => ?_) ?_
      · obtain ⟨y, hy, rfl⟩ := List.mem_map.mp hC
        exact (XF.kc "NoHouse" (by decide +kernel) y (kn y hy).1).trans (by rw [(kn y hy).2])
      walk_at "rd"
      refine rd_ifN ?_
      walk_at "rd"
      refine rd_isiC kt ?_
      walk_at "rd"
      refine iteT ?_
      walk_at "rd"
      refine rd_isiT (XF.kv "NoHouse" (by decide +kernel)) ?_
      walk_at "rd"
      refine iteT ?_
      walk_at "rd"
      try refine iteT ?_
      walk_at "rd"
      refine rd_EqS ?_
      rw [decide_eq_true rfl]
      exact q H2 (e1.trans e2)
noncomputable def sp__law_looked (K : PySem.W.Frag) : Sp := fun vs H Q _ => ∃ v, vs = [v] ∧ NoH H v ∧ ∀ H', Ext H H' → Q (.bl true) H'
noncomputable abbrev s__law_looked : Stmt := stq 157
theorem sc__law_looked : FnScope ["_law_thing", "_law_found"] ["_law_thing"] (defScope s__law_looked) := ⟨rfl, rfl, rfl, by decide +kernel, rfl, by decide +kernel, by decide +kernel⟩
theorem ok__law_looked {P : Program} {w : World} {K : PySem.W.Frag} {mg : Str → Option Value} {base : Heap} (D : Dfn K mg "_law_looked" s__law_looked ["_law_thing"]) (T : Blt mg) (C_is_house : Cal P w K mg base "is_house" 5 ["thing"] (sp_is_house K)) (C_sees_same : Cal P w K mg base "sees_same" 7 ["house", "place", "walk", "ring"] (sp_sees_same K)) (C_sees_rise : Cal P w K mg base "sees_rise" 7 ["house", "place", "walk", "ring"] (sp_sees_rise K)) (C_sees_never : Cal P w K mg base "sees_never" 7 ["house", "place", "goal", "stairs"] (sp_sees_never K)) (C_sees_closed : Cal P w K mg base "sees_closed" 6 ["house", "stairs"] (sp_sees_closed K)) : Cal P w K mg base "_law_looked" 8 ["_law_thing"] (sp__law_looked K) := by
  have nd := (sc__law_looked).nd
  refine D.ok sc__law_looked (fun vs H Q E h => ?_) (fun X hX H vs Q E h => ?_)
  · obtain ⟨v, rfl, _⟩ := h; rfl
  · obtain ⟨f, cdv, A, outer, s, H0, E0, rfl, hr⟩ := hX
    obtain ⟨v, rfl, hv, q⟩ := h
    refine ⟨_, (no_implicit_lambda% (@pss_cons _ _ _ _ _ (no_implicit_lambda% (@ps_set _ _ 1 _ _ _ _ nd rfl (Or.inl rfl) (no_implicit_lambda% (@pe_lst _ _ _ _ (no_implicit_lambda% (@pa_cons _ _ _ _ _ (no_implicit_lambda% (pe_cal C_sees_closed hr (no_implicit_lambda% (@pa_cons _ _ _ _ _ (no_implicit_lambda% (pv 0)) (no_implicit_lambda% (@pa_cons _ _ _ _ _ (no_implicit_lambda% (@pe_lst _ _ _ _ (no_implicit_lambda% (@pa_lit _ _ _ _ _ (.tup (.cons .int (.cons .int (.cons (.tup .nil) (.cons (.tup (.cons .int .nil)) .nil))))) pa_nil)))) pa_nil rfl)) rfl)))) (no_implicit_lambda% (@pa_cons _ _ _ _ _ (no_implicit_lambda% (pe_cal C_sees_never hr (no_implicit_lambda% (@pa_cons _ _ _ _ _ (no_implicit_lambda% (pv 0)) (no_implicit_lambda% (@pa_cons _ _ _ _ _ (no_implicit_lambda% (@pe_tup _ _ _ _ _ (no_implicit_lambda% (@pa_cons _ _ _ _ _ pe_int (no_implicit_lambda% (@pa_cons _ _ _ _ _ pe_int pa_nil rfl)) rfl)))) (no_implicit_lambda% (@pa_cons _ _ _ _ _ (no_implicit_lambda% (@pe_tup _ _ _ _ _ (no_implicit_lambda% (@pa_cons _ _ _ _ _ pe_int (no_implicit_lambda% (@pa_cons _ _ _ _ _ pe_int pa_nil rfl)) rfl)))) (no_implicit_lambda% (@pa_cons _ _ _ _ _ (no_implicit_lambda% (@pe_lst _ _ _ _ (no_implicit_lambda% (@pa_lit _ _ _ _ _ (.tup (.cons .int (.cons .int (.cons (.tup (.cons .int .nil)) (.cons (.tup .nil) .nil))))) pa_nil)))) pa_nil rfl)) rfl)) rfl)) rfl)))) pa_nil rfl)) rfl)))) rfl (Or.inl rfl)))
        (no_implicit_lambda% (@pss_cons _ _ _ _ _ (no_implicit_lambda% (@ps_set _ _ 1 _ _ _ _ nd rfl (Or.inl rfl) (no_implicit_lambda% (pe_op op_cat (no_implicit_lambda% (pv 1)) (no_implicit_lambda% (@pe_lst _ _ _ _ (no_implicit_lambda% (@pa_cons _ _ _ _ _ (no_implicit_lambda% (pe_cal C_sees_rise hr (no_implicit_lambda% (@pa_cons _ _ _ _ _ (no_implicit_lambda% (pv 0)) (no_implicit_lambda% (@pa_cons _ _ _ _ _ (no_implicit_lambda% (@pe_tup _ _ _ _ _ (no_implicit_lambda% (@pa_cons _ _ _ _ _ pe_int (no_implicit_lambda% (@pa_cons _ _ _ _ _ pe_int pa_nil rfl)) rfl)))) (no_implicit_lambda% (@pa_cons _ _ _ _ _ (no_implicit_lambda% (@pe_lst _ _ _ _ pa_nil)) (no_implicit_lambda% (@pa_cons _ _ _ _ _ (no_implicit_lambda% (@pe_lst _ _ _ _ (no_implicit_lambda% (@pa_cons _ _ _ _ _ pe_int pa_nil rfl)))) pa_nil rfl)) rfl)) rfl)) rfl)))) (no_implicit_lambda% (@pa_cons _ _ _ _ _ (no_implicit_lambda% (pe_cal C_sees_same hr (no_implicit_lambda% (@pa_cons _ _ _ _ _ (no_implicit_lambda% (pv 0)) (no_implicit_lambda% (@pa_cons _ _ _ _ _ (no_implicit_lambda% (@pe_tup _ _ _ _ _ (no_implicit_lambda% (@pa_cons _ _ _ _ _ pe_int (no_implicit_lambda% (@pa_cons _ _ _ _ _ pe_int pa_nil rfl)) rfl)))) (no_implicit_lambda% (@pa_cons _ _ _ _ _ (no_implicit_lambda% (@pe_lst _ _ _ _ pa_nil)) (no_implicit_lambda% (@pa_cons _ _ _ _ _ (no_implicit_lambda% (@pe_lst _ _ _ _ (no_implicit_lambda% (@pa_cons _ _ _ _ _ pe_int pa_nil rfl)))) pa_nil rfl)) rfl)) rfl)) rfl)))) (no_implicit_lambda% (@pa_cons _ _ _ _ _ (no_implicit_lambda% (pe_cal C_is_house hr (no_implicit_lambda% (@pa_cons _ _ _ _ _ (no_implicit_lambda% (pv 0)) pa_nil rfl)))) pa_nil rfl)) rfl)) rfl)))))) rfl (Or.inl rfl)))
        (no_implicit_lambda% (@pss_one _ _ _ (no_implicit_lambda% (@ps_ret _ _ _ _ (no_implicit_lambda% (pe_callB (call_allL K rfl) rfl T.all_ PyProof.Rows.boot_all (no_implicit_lambda% (@pa_cons _ _ _ _ _ (no_implicit_lambda% (pe_comp ["_law_told"] [] (no_implicit_lambda% (pi_listK K (no_implicit_lambda% (pv 1)))) (fun _ => (no_implicit_lambda% (pg_name (i := 0) (show (["_law_told"] : List Str).Nodup from by decide +kernel) rfl (Or.inl rfl) (Or.inr rfl)))) (fun _ => pcs_nil) (fun _ => (no_implicit_lambda% (pe_cmpR op_isB (no_implicit_lambda% (pv 0)) pe_bl (nomark _)))))) pa_nil rfl)))))))))))), ?_⟩
    walk_at "rd"
    refine ⟨small_line (by simp), rd_new fun p1 G1 e1 _ _ => ?_⟩
    walk_at "rd"
    refine ⟨small_line (by simp), rd_new fun p2 G2 e2 _ _ => ?_⟩
    walk_at "rd"
    refine ⟨small_line (by simp), rd_new fun p3 G3 e3 _ _ => ?_⟩
    walk_at "rd"
    refine ⟨small_line (by simp), rd_new fun p4 G4 e4 _ _ => ?_⟩
    walk_at "rd"
    refine ⟨v, _, rfl, hv.ext (e1.trans (e2.trans (e3.trans e4))), fun G5 e5 => ?_⟩
    have b5 : Ext H G5 := e1.trans (e2.trans (e3.trans (e4.trans e5)))
    clear e1 e2 e3 e4 e5
    walk_at "rd"
    refine ⟨small_line (by simp), rd_new fun p6 G6 e6 _ _ => ?_⟩
    walk_at "rd"
    refine ⟨small_line (by simp), rd_new fun p7 G7 e7 _ _ => ?_⟩
    walk_at "rd"
    refine ⟨small_line (by simp), rd_new fun p8 G8 e8 _ _ => ?_⟩
    walk_at "rd"
    refine ⟨small_line (by simp), rd_new fun p9 G9 e9 _ _ => ?_⟩
    walk_at "rd"
    refine ⟨small_line (by simp), rd_new fun p10 G10 e10 _ _ => ?_⟩
    walk_at "rd"
    refine ⟨small_line (by simp), rd_new fun p11 G11 e11 _ _ => ?_⟩
    have b11 : Ext H G11 := b5.trans (e6.trans (e7.trans (e8.trans (e9.trans (e10.trans e11)))))
    clear e6 e7 e8 e9 e10 e11
    walk_at "rd"
    refine ⟨v, _, _, _, rfl, hv.ext b11, fun G12 e12 => ?_⟩
    walk_at "rd"
    refine ⟨small_line (by simp), rd_new fun p13 G13 e13 k13 _ => ?_⟩
    have b13 : Ext H G13 := b11.trans (e12.trans e13)
    clear e12 e13
    walk_at "rd"
    refine ⟨small_line (by simp), rd_new fun p14 G14 e14 _ _ => ?_⟩
    walk_at "rd"
    refine ⟨small_line (by simp), rd_new fun p15 G15 e15 _ _ => ?_⟩
    walk_at "rd"
    refine ⟨small_line (by simp), rd_new fun p16 G16 e16 _ _ => ?_⟩
    walk_at "rd"
    have c16 : Ext G13 G16 := e14.trans (e15.trans e16)
    clear e14 e15 e16
    refine ⟨v, _, _, _, rfl, hv.ext (b13.trans c16), fun G17 e17 => ?_⟩
    walk_at "rd"
    refine ⟨small_line (by simp), rd_new fun p18 G18 e18 _ _ => ?_⟩
    walk_at "rd"
    refine ⟨small_line (by simp), rd_new fun p19 G19 e19 _ _ => ?_⟩
    walk_at "rd"
    refine ⟨small_line (by simp), rd_new fun p20 G20 e20 _ _ => ?_⟩
    walk_at "rd"
    have c20 : Ext G13 G20 := c16.trans (e17.trans (e18.trans (e19.trans e20)))
    clear e17 e18 e19 e20
    refine ⟨v, _, _, _, rfl, hv.ext (b13.trans c20), fun G21 e21 => ?_⟩
    have c21 := c20.trans e21
    walk_at "rd"
    have h21 := hv.ext (b13.trans c21)
    refine ⟨v, rfl, h21.1, fun G22 e22 => ?_⟩
    rw [h21.2]
    walk_at "rd"
    refine ⟨small_line (by simp), rd_new fun p23 G23 e23 k23 _ => ?_⟩
    have c23 : Ext G13 G23 := c21.trans (e22.trans e23)
    clear e21 e22 e23 c16 c20 c21 h21
    walk_at "rd"
    refine rd_cat (c23 _ _ k13) k23 (small9 (by simp)) (rd_new fun p24 G24 e24 k24 _ => ?_)
    have b24 : Ext H G24 := b13.trans (c23.trans e24)
    have k24 : G24 p24 = some (.lst (List.map V.bl [false, false, false, false, false])) := k24
    walk_at "rd"
    refine rd_iLx (SqL.of k24) ?_
    refine comp_list (xs := List.map V.bl [false, false, false, false, false]) (fun i ys H' => H' = G24 ∧ ys = List.map V.bl (List.replicate i true)) (small9 (by simp)) ⟨rfl, rfl⟩ (fun i ys H' hi h => ⟨by rw [h.1]; exact SqL.of k24, by rw [h.2, List.length_map, List.length_replicate]; exact Nat.le_refl _⟩) ?_ ?_
    · rintro i x ys H' hx ⟨rfl, rfl⟩
      have hx' : x = .bl false := by
        rw [List.getElem?_map] at hx
        obtain ⟨b, hb, rfl⟩ := Option.map_eq_some_iff.mp hx
        have := List.mem_of_getElem? hb
        simp only [List.mem_cons, List.not_mem_nil, or_false, or_self] at this
        rw [this]
      subst hx'
      walk_at "rd"
      refine iteT ?_
      walk_at "rd"
      refine ⟨false, false, rfl, rfl, rfl, ?_⟩
      rw [List.replicate_succ', List.map_append]
      rfl
    · rintro ys H' pl ⟨rfl, rfl⟩ hpl
      walk_at "rd"
      refine ⟨pl, List.replicate 5 true, rfl, SqL.of upd_same, ?_⟩
      exact q _ (b24.trans (ext_upd hpl))
local macro_rules | `(tactic| walk_at "ds") => do
  let ts ← ("cons nil tup lst c var un U CB".splitOn " ").toArray.mapM fun n =>
    let i := Lean.mkIdent (.mkSimple ("rd_" ++ n))
    if n == "var" then `(tacticSeq| ((with_reducible apply $i); (exact rfl)))
    else `(tacticSeq| with_reducible refine $i ?_)
  `(tactic| repeat (first $[| $ts]* | dsimp only))
noncomputable def NoHl (H : Hp) (xs : List V) : Prop := ∀ x ∈ xs, NoH H x
theorem NoHl.nil (H : Hp) : NoHl H [] := fun x hx => by cases hx
theorem NoHl.cons {H : Hp} {x : V} {xs : List V} (h : NoH H x) (h' : NoHl H xs) : NoHl H (x :: xs) := fun y hy => by
  rcases List.mem_cons.mp hy with rfl | hy
  · exact h
  · exact h' y hy
theorem NoHl.ext {H H' : Hp} {xs : List V} (e : Ext H H') (h : NoHl H xs) : NoHl H' xs := fun x hx => (h x hx).ext e
theorem NoHl.app {H : Hp} {xs ys : List V} (h : NoHl H xs) (h' : NoHl H ys) : NoHl H (xs ++ ys) := fun x hx => (List.mem_append.mp hx).elim (h x) (h' x)
noncomputable def NoHs (H : Hp) (p : Addr) (n : Nat) : Prop := ∃ xs, H p = some (.lst xs) ∧ xs.length = n ∧ NoHl H xs
theorem NoHs.ext {H H' : Hp} {p : Addr} {n : Nat} (e : Ext H H') (h : NoHs H p n) : NoHs H' p n := by
  obtain ⟨xs, h1, h2, h3⟩ := h
  exact ⟨xs, e _ _ h1, h2, h3.ext e⟩
noncomputable def NoW (H : Hp) (m : Int) (v : V) : Prop := Thg H 2 v ∧ wayV H m v = false
theorem NoW.ext {H H' : Hp} {m : Int} {v : V} (e : Ext H H') (h : NoW H m v) : NoW H' m v := ⟨h.1.ext e, (wayV_ext e h.1).trans h.2⟩
noncomputable def NoWl (H : Hp) (m : Int) (xs : List V) : Prop := ∀ x ∈ xs, NoW H m x
theorem NoWl.nil (H : Hp) (m : Int) : NoWl H m [] := fun x hx => by cases hx
theorem NoWl.cons {H : Hp} {m : Int} {x : V} {xs : List V} (h : NoW H m x) (h' : NoWl H m xs) : NoWl H m (x :: xs) := fun y hy => by
  rcases List.mem_cons.mp hy with rfl | hy
  · exact h
  · exact h' y hy
theorem NoWl.ext {H H' : Hp} {m : Int} {xs : List V} (e : Ext H H') (h : NoWl H m xs) : NoWl H' m xs := fun x hx => (h x hx).ext e
theorem NoWl.app {H : Hp} {m : Int} {xs ys : List V} (h : NoWl H m xs) (h' : NoWl H m ys) : NoWl H m (xs ++ ys) := fun x hx => (List.mem_append.mp hx).elim (h x) (h' x)
noncomputable def NoWs (H : Hp) (m : Int) (p : Addr) (n : Nat) : Prop := ∃ xs, H p = some (.lst xs) ∧ xs.length = n ∧ NoWl H m xs
theorem NoWs.ext {H H' : Hp} {m : Int} {p : Addr} {n : Nat} (e : Ext H H') (h : NoWs H m p n) : NoWs H' m p n := by
  obtain ⟨xs, h1, h2, h3⟩ := h
  exact ⟨xs, e _ _ h1, h2, h3.ext e⟩
theorem house_lst {H : Hp} {p : Addr} {xs : List V} (h : H p = some (.lst xs)) : houseV H (.ref p) = false := by
  unfold houseV
  dsimp only
  rw [h]
theorem ways_lst {H : Hp} {m : Int} {p : Addr} {xs : List V} (h : H p = some (.lst xs)) : waysV H m (.ref p) = false := by
  unfold waysV
  dsimp only
  rw [h]
theorem way_lst {H : Hp} {m : Int} {p : Addr} {xs : List V} (h : H p = some (.lst xs)) : wayV H m (.ref p) = false := by
  unfold wayV
  dsimp only
  rw [h]
theorem houseL_w {H : Hp} {m : Int} {q : V} (h : waysV H m q = false) : houseL H [.int m, q] = false := by
  unfold houseL
  dsimp only
  rw [h, Bool.and_false, Bool.and_false]
theorem houseL_m {H : Hp} {m : Int} {q : V} (h : m < 1 ∨ 12 < m) : houseL H [.int m, q] = false := by
  unfold houseL
  dsimp only
  rcases h with h | h
  · rw [decide_eq_false (show ¬ 1 ≤ m by omega)]
    rfl
  · rw [decide_eq_false (show ¬ m ≤ 12 by omega), Bool.false_and, Bool.and_false]
theorem ways_no_house {H : Hp} {p : Addr} {bs : List Addr} (h : H p = some (.tup (bs.map V.ref))) : houseV H (.ref p) = false := by
  rw [house_tup h]
  match bs with
  | [] => rfl
  | [_] => rfl
  | [_, _] => rfl
  | _ :: _ :: _ :: _ => rfl
theorem ways_twice {H : Hp} {m : Int} {xs : List V} {x : V} (hx : x ∈ xs) : waysL H m (xs ++ [x]) = false := by
  unfold waysL
  have : ¬ ((xs ++ [x]).map (keyV H)).Nodup := by
    rw [List.map_append, List.nodup_append]
    rintro ⟨_, _, h⟩
    exact h (keyV H x) (List.mem_map.mpr ⟨x, hx, rfl⟩) (keyV H x) (List.mem_map.mpr ⟨x, List.mem_singleton.mpr rfl, rfl⟩) rfl
  rw [decide_eq_false this, Bool.and_false, Bool.and_false]
noncomputable def sp__law_bad_things (K : PySem.W.Frag) : Sp := fun vs H Q _ => ∃ v m ws a, vs = [v, .int a] ∧ HouseAt H v m ws ∧ HOuse m ws ∧ ∀ l H' xs, Ext H H' → H' l = some (.lst xs) → 1 ≤ xs.length → xs.length ≤ 200 → NoHl H' xs → Q (.ref l) H'
noncomputable abbrev s__law_bad_things : Stmt := stq 153
theorem sc__law_bad_things : FnScope ["_law_house_here", "_law_at", "_law_many", "_law_ways", "_law_found", "_law_room", "_law_deed", "_law_other", "_law_sign", "_law_low", "_law_high", "_law_some"] ["_law_house_here", "_law_at"] (defScope s__law_bad_things) := ⟨rfl, rfl, rfl, by decide +kernel, rfl, by decide +kernel, by decide +kernel⟩
theorem ok__law_bad_things {P : Program} {w : World} {K : PySem.W.Frag} {mg : Str → Option Value} {base : Heap} (D : Dfn K mg "_law_bad_things" s__law_bad_things ["_law_house_here", "_law_at"]) (T : Blt mg) : Cal P w K mg base "_law_bad_things" 1 ["_law_house_here", "_law_at"] (sp__law_bad_things K) := by
  have nd := (sc__law_bad_things).nd
  refine D.ok sc__law_bad_things (fun vs H Q E h => ?_) (fun X hX H vs Q E h => ?_)
  · obtain ⟨v, m, ws, a, rfl, _⟩ := h; rfl
  · obtain ⟨f, cdv, A, outer, s, H0, E0, rfl, hr⟩ := hX
    obtain ⟨v, m, ws, a, rfl, hv, ok, q⟩ := h
    obtain ⟨p, r, bs, rfl, h1, h2, hbl, hal, hts⟩ := house_ths hv ok
    have m1 := ok.m1
    have m2 := ok.m12
    have hfew := ok.few
    have hxl : (bs.map V.ref).length ≤ 100 := by rw [List.length_map, hbl]; exact hfew
    have tr : Thg H 2 (.ref r) := thg_tup h2 (Nat.le_trans hxl (by decide)) hts
    refine ⟨_, (no_implicit_lambda% (@pss_cons _ _ _ _ _ (no_implicit_lambda% (@ps_asg _ _ _ _ _ _ (no_implicit_lambda% (pv 0)) (no_implicit_lambda% (pg_tupK (n := 2) K rfl (pgs_cons (no_implicit_lambda% (pg_name (i := 2) nd rfl (Or.inr rfl))) (pgs_cons (no_implicit_lambda% (pg_name (i := 3) nd rfl (Or.inl rfl))) pgs_nil)))) rfl rfl rfl))
        (no_implicit_lambda% (@pss_cons _ _ _ _ _ (no_implicit_lambda% (@ps_set _ _ 4 _ _ _ _ nd rfl (Or.inl rfl) (no_implicit_lambda% (@pe_lst _ _ _ _ (no_implicit_lambda% (@pa_cons _ _ _ _ _ pe_non (no_implicit_lambda% (@pa_cons _ _ _ _ _ pe_bl (no_implicit_lambda% (@pa_cons _ _ _ _ _ pe_int (no_implicit_lambda% (@pa_cons _ _ _ _ _ pe_str (no_implicit_lambda% (@pa_cons _ _ _ _ _ (no_implicit_lambda% (@pe_tup _ _ _ _ _ pa_nil)) (no_implicit_lambda% (@pa_cons _ _ _ _ _ (no_implicit_lambda% (@pe_lst _ _ _ _ pa_nil)) (no_implicit_lambda% (@pa_cons _ _ _ _ _ (no_implicit_lambda% (@pe_tup _ _ _ _ _ (no_implicit_lambda% (@pa_cons _ _ _ _ _ (no_implicit_lambda% (pv 2)) pa_nil rfl)))) (no_implicit_lambda% (@pa_cons _ _ _ _ _ (no_implicit_lambda% (@pe_lst _ _ _ _ (no_implicit_lambda% (@pa_cons _ _ _ _ _ (no_implicit_lambda% (pv 2)) (no_implicit_lambda% (@pa_cons _ _ _ _ _ (no_implicit_lambda% (pv 3)) pa_nil rfl)) rfl)))) (no_implicit_lambda% (@pa_cons _ _ _ _ _ (no_implicit_lambda% (@pe_tup _ _ _ _ _ (no_implicit_lambda% (@pa_cons _ _ _ _ _ (no_implicit_lambda% (pv 2)) (no_implicit_lambda% (@pa_cons _ _ _ _ _ (no_implicit_lambda% (pe_callTy (call_listK K) rfl T.list_ PyProof.Rows.boot_list (no_implicit_lambda% (@pa_cons _ _ _ _ _ (no_implicit_lambda% (pv 3)) pa_nil rfl)))) pa_nil rfl)) rfl)))) (no_implicit_lambda% (@pa_cons _ _ _ _ _ (no_implicit_lambda% (@pe_tup _ _ _ _ _ (no_implicit_lambda% (@pa_cons _ _ _ _ _ (no_implicit_lambda% (pv 2)) (no_implicit_lambda% (@pa_cons _ _ _ _ _ (no_implicit_lambda% (pv 3)) (no_implicit_lambda% (@pa_cons _ _ _ _ _ (no_implicit_lambda% (@pe_tup _ _ _ _ _ pa_nil)) pa_nil rfl)) rfl)) rfl)))) (no_implicit_lambda% (@pa_cons _ _ _ _ _ (no_implicit_lambda% (@pe_tup _ _ _ _ _ (no_implicit_lambda% (@pa_cons _ _ _ _ _ (no_implicit_lambda% (pv 2)) (no_implicit_lambda% (@pa_cons _ _ _ _ _ pe_non pa_nil rfl)) rfl)))) pa_nil rfl)) rfl)) rfl)) rfl)) rfl)) rfl)) rfl)) rfl)) rfl)) rfl)) rfl)))) rfl (Or.inl rfl)))
        (no_implicit_lambda% (@pss_cons _ _ _ _ _ (no_implicit_lambda% (@ps_set _ _ 4 _ _ _ _ nd rfl (Or.inl rfl) (no_implicit_lambda% (pe_op op_cat (no_implicit_lambda% (pv 4)) (no_implicit_lambda% (@pe_lst _ _ _ _ (no_implicit_lambda% (@pa_lit _ _ _ _ _ (.tup (.cons .int (.cons (.tup .nil) .nil))) (no_implicit_lambda% (@pa_lit _ _ _ _ _ (.tup (.cons .int (.cons (.tup .nil) .nil))) (no_implicit_lambda% (@pa_cons _ _ _ _ _ (no_implicit_lambda% (@pe_tup _ _ _ _ _ (no_implicit_lambda% (@pa_cons _ _ _ _ _ (no_implicit_lambda% (pe_un un_neg pe_int)) (no_implicit_lambda% (@pa_cons _ _ _ _ _ (no_implicit_lambda% (@pe_tup _ _ _ _ _ pa_nil)) pa_nil rfl)) rfl)))) (no_implicit_lambda% (@pa_lit _ _ _ _ _ (.tup (.cons .bl (.cons (.tup .nil) .nil))) (no_implicit_lambda% (@pa_lit _ _ _ _ _ (.tup (.cons .str (.cons (.tup .nil) .nil))) (no_implicit_lambda% (@pa_cons _ _ _ _ _ (no_implicit_lambda% (@pe_tup _ _ _ _ _ (no_implicit_lambda% (@pa_cons _ _ _ _ _ pe_non (no_implicit_lambda% (@pa_cons _ _ _ _ _ (no_implicit_lambda% (pv 3)) pa_nil rfl)) rfl)))) (no_implicit_lambda% (@pa_lit _ _ _ _ _ (.tup (.cons .int (.cons (.tup (.cons (.tup .nil) .nil)) .nil))) (no_implicit_lambda% (@pa_lit _ _ _ _ _ (.tup (.cons .int (.cons (.tup (.cons .non .nil)) .nil))) (no_implicit_lambda% (@pa_cons _ _ _ _ _ (no_implicit_lambda% (pv 3)) pa_nil rfl)))))) rfl)))))) rfl)))))))))) rfl (Or.inl rfl)))
        (no_implicit_lambda% (@pss_cons _ _ _ _ _ (no_implicit_lambda% (@ps_asg _ _ _ _ _ _ (no_implicit_lambda% (@pe_tup _ _ _ _ _ (no_implicit_lambda% (@pa_cons _ _ _ _ _ pe_int (no_implicit_lambda% (@pa_cons _ _ _ _ _ pe_str (no_implicit_lambda% (@pa_cons _ _ _ _ _ pe_int (no_implicit_lambda% (@pa_cons _ _ _ _ _ pe_str pa_nil rfl)) rfl)) rfl)) rfl)))) (no_implicit_lambda% (pg_tupK (n := 4) K rfl (pgs_cons (no_implicit_lambda% (pg_name (i := 5) nd rfl (Or.inl rfl))) (pgs_cons (no_implicit_lambda% (pg_name (i := 6) nd rfl (Or.inl rfl))) (pgs_cons (no_implicit_lambda% (pg_name (i := 7) nd rfl (Or.inl rfl))) (pgs_cons (no_implicit_lambda% (pg_name (i := 8) nd rfl (Or.inl rfl))) pgs_nil)))))) rfl rfl rfl))
        (no_implicit_lambda% (@pss_cons _ _ _ _ _ (no_implicit_lambda% (@ps_set _ _ 9 _ _ _ _ nd rfl (Or.inr rfl) (no_implicit_lambda% (@pe_tup _ _ _ _ _ pa_nil)) rfl (Or.inl rfl)))
        (no_implicit_lambda% (@pss_cons _ _ _ _ _ (no_implicit_lambda% (@ps_set _ _ 10 _ _ _ _ nd rfl (Or.inr rfl) (no_implicit_lambda% (@pe_tup _ _ _ _ _ pa_nil)) rfl (Or.inl rfl)))
        (no_implicit_lambda% (@pss_cons _ _ _ _ _ (no_implicit_lambda% (ps_ifJ (no_implicit_lambda% (pt_cmpR op_gt (no_implicit_lambda% (pe_callB (call_lenK K) rfl T.len_ PySem.boot_len (no_implicit_lambda% (@pa_cons _ _ _ _ _ (no_implicit_lambda% (pv 3)) pa_nil rfl)))) pe_int (nomark _))) (no_implicit_lambda% (@pss_cons _ _ _ _ _ (no_implicit_lambda% (@ps_set _ _ 1 _ _ _ _ nd rfl (Or.inl rfl) (no_implicit_lambda% (pe_op op_mod (no_implicit_lambda% (pv 1)) (no_implicit_lambda% (pe_callB (call_lenK K) rfl T.len_ PySem.boot_len (no_implicit_lambda% (@pa_cons _ _ _ _ _ (no_implicit_lambda% (pv 3)) pa_nil rfl)))))) rfl (Or.inl rfl)))
        (no_implicit_lambda% (@pss_cons _ _ _ _ _ (no_implicit_lambda% (@ps_asg _ _ _ _ _ _ (no_implicit_lambda% (@pe_ix _ _ _ _ _ _ _ (ix_tupK K) (no_implicit_lambda% (pv 3)) (no_implicit_lambda% (pv 1)) (fun _ _ => rfl))) (no_implicit_lambda% (pg_tupK (n := 4) K rfl (pgs_cons (no_implicit_lambda% (pg_name (i := 5) nd rfl (Or.inl rfl))) (pgs_cons (no_implicit_lambda% (pg_name (i := 6) nd rfl (Or.inl rfl))) (pgs_cons (no_implicit_lambda% (pg_name (i := 7) nd rfl (Or.inl rfl))) (pgs_cons (no_implicit_lambda% (pg_name (i := 8) nd rfl (Or.inl rfl))) pgs_nil)))))) rfl rfl rfl))
        (no_implicit_lambda% (@pss_cons _ _ _ _ _ (no_implicit_lambda% (@ps_set _ _ 9 _ _ _ _ nd rfl (Or.inr rfl) (no_implicit_lambda% (pe_slice sl_tup1 (no_implicit_lambda% (pv 3)) po_none (po_some (no_implicit_lambda% (pv 1))))) rfl (Or.inl rfl)))
        (no_implicit_lambda% (@pss_one _ _ _ (no_implicit_lambda% (@ps_set _ _ 10 _ _ _ _ nd rfl (Or.inr rfl) (no_implicit_lambda% (pe_slice sl_tup1 (no_implicit_lambda% (pv 3)) (po_some (no_implicit_lambda% (pe_op op_add (no_implicit_lambda% (pv 1)) pe_int))) po_none)) rfl (Or.inl rfl))))))))))) pss_nil))
        (no_implicit_lambda% (@pss_cons _ _ _ _ _ (no_implicit_lambda% (@ps_set _ _ 11 _ _ _ _ nd rfl (Or.inl rfl) (no_implicit_lambda% (@pe_lst _ _ _ _ (no_implicit_lambda% (@pa_cons _ _ _ _ _ (no_implicit_lambda% (@pe_tup _ _ _ _ _ (no_implicit_lambda% (@pa_cons _ _ _ _ _ (no_implicit_lambda% (pv 2)) (no_implicit_lambda% (@pa_cons _ _ _ _ _ (no_implicit_lambda% (pv 6)) (no_implicit_lambda% (@pa_cons _ _ _ _ _ (no_implicit_lambda% (pv 7)) (no_implicit_lambda% (@pa_cons _ _ _ _ _ (no_implicit_lambda% (pv 8)) pa_nil rfl)) rfl)) rfl)) rfl)))) (no_implicit_lambda% (@pa_cons _ _ _ _ _ (no_implicit_lambda% (@pe_tup _ _ _ _ _ (no_implicit_lambda% (@pa_cons _ _ _ _ _ (no_implicit_lambda% (pv 5)) (no_implicit_lambda% (@pa_cons _ _ _ _ _ (no_implicit_lambda% (pv 6)) (no_implicit_lambda% (@pa_cons _ _ _ _ _ (no_implicit_lambda% (pv 2)) (no_implicit_lambda% (@pa_cons _ _ _ _ _ (no_implicit_lambda% (pv 8)) pa_nil rfl)) rfl)) rfl)) rfl)))) (no_implicit_lambda% (@pa_cons _ _ _ _ _ (no_implicit_lambda% (@pe_tup _ _ _ _ _ (no_implicit_lambda% (@pa_cons _ _ _ _ _ (no_implicit_lambda% (pe_un un_neg pe_int)) (no_implicit_lambda% (@pa_cons _ _ _ _ _ (no_implicit_lambda% (pv 6)) (no_implicit_lambda% (@pa_cons _ _ _ _ _ (no_implicit_lambda% (pv 7)) (no_implicit_lambda% (@pa_cons _ _ _ _ _ (no_implicit_lambda% (pv 8)) pa_nil rfl)) rfl)) rfl)) rfl)))) (no_implicit_lambda% (@pa_cons _ _ _ _ _ (no_implicit_lambda% (@pe_tup _ _ _ _ _ (no_implicit_lambda% (@pa_cons _ _ _ _ _ (no_implicit_lambda% (pv 5)) (no_implicit_lambda% (@pa_cons _ _ _ _ _ (no_implicit_lambda% (pv 6)) (no_implicit_lambda% (@pa_cons _ _ _ _ _ (no_implicit_lambda% (pe_un un_neg pe_int)) (no_implicit_lambda% (@pa_cons _ _ _ _ _ (no_implicit_lambda% (pv 8)) pa_nil rfl)) rfl)) rfl)) rfl)))) pa_nil rfl)) rfl)) rfl)) rfl)))) rfl (Or.inl rfl)))
        (no_implicit_lambda% (@pss_cons _ _ _ _ _ (no_implicit_lambda% (@ps_set _ _ 11 _ _ _ _ nd rfl (Or.inl rfl) (no_implicit_lambda% (pe_op op_cat (no_implicit_lambda% (pv 11)) (no_implicit_lambda% (@pe_lst _ _ _ _ (no_implicit_lambda% (@pa_cons _ _ _ _ _ (no_implicit_lambda% (@pe_tup _ _ _ _ _ (no_implicit_lambda% (@pa_cons _ _ _ _ _ (no_implicit_lambda% (pv 5)) (no_implicit_lambda% (@pa_cons _ _ _ _ _ pe_str (no_implicit_lambda% (@pa_cons _ _ _ _ _ (no_implicit_lambda% (pv 7)) (no_implicit_lambda% (@pa_cons _ _ _ _ _ (no_implicit_lambda% (pv 8)) pa_nil rfl)) rfl)) rfl)) rfl)))) (no_implicit_lambda% (@pa_cons _ _ _ _ _ (no_implicit_lambda% (@pe_tup _ _ _ _ _ (no_implicit_lambda% (@pa_cons _ _ _ _ _ (no_implicit_lambda% (pv 5)) (no_implicit_lambda% (@pa_cons _ _ _ _ _ pe_str (no_implicit_lambda% (@pa_cons _ _ _ _ _ (no_implicit_lambda% (pv 7)) (no_implicit_lambda% (@pa_cons _ _ _ _ _ (no_implicit_lambda% (pv 8)) pa_nil rfl)) rfl)) rfl)) rfl)))) (no_implicit_lambda% (@pa_cons _ _ _ _ _ (no_implicit_lambda% (@pe_tup _ _ _ _ _ (no_implicit_lambda% (@pa_cons _ _ _ _ _ (no_implicit_lambda% (pv 5)) (no_implicit_lambda% (@pa_cons _ _ _ _ _ pe_non (no_implicit_lambda% (@pa_cons _ _ _ _ _ (no_implicit_lambda% (pv 7)) (no_implicit_lambda% (@pa_cons _ _ _ _ _ (no_implicit_lambda% (pv 8)) pa_nil rfl)) rfl)) rfl)) rfl)))) pa_nil rfl)) rfl)) rfl)))))) rfl (Or.inl rfl)))
        (no_implicit_lambda% (@pss_cons _ _ _ _ _ (no_implicit_lambda% (@ps_set _ _ 11 _ _ _ _ nd rfl (Or.inl rfl) (no_implicit_lambda% (pe_op op_cat (no_implicit_lambda% (pv 11)) (no_implicit_lambda% (@pe_lst _ _ _ _ (no_implicit_lambda% (@pa_cons _ _ _ _ _ (no_implicit_lambda% (@pe_tup _ _ _ _ _ (no_implicit_lambda% (@pa_cons _ _ _ _ _ (no_implicit_lambda% (pv 5)) (no_implicit_lambda% (@pa_cons _ _ _ _ _ pe_int (no_implicit_lambda% (@pa_cons _ _ _ _ _ (no_implicit_lambda% (pv 7)) (no_implicit_lambda% (@pa_cons _ _ _ _ _ (no_implicit_lambda% (pv 8)) pa_nil rfl)) rfl)) rfl)) rfl)))) (no_implicit_lambda% (@pa_cons _ _ _ _ _ (no_implicit_lambda% (@pe_tup _ _ _ _ _ (no_implicit_lambda% (@pa_cons _ _ _ _ _ (no_implicit_lambda% (pv 5)) (no_implicit_lambda% (@pa_cons _ _ _ _ _ (no_implicit_lambda% (pv 6)) (no_implicit_lambda% (@pa_cons _ _ _ _ _ (no_implicit_lambda% (pv 7)) (no_implicit_lambda% (@pa_cons _ _ _ _ _ pe_str pa_nil rfl)) rfl)) rfl)) rfl)))) (no_implicit_lambda% (@pa_cons _ _ _ _ _ (no_implicit_lambda% (@pe_tup _ _ _ _ _ (no_implicit_lambda% (@pa_cons _ _ _ _ _ (no_implicit_lambda% (pv 5)) (no_implicit_lambda% (@pa_cons _ _ _ _ _ (no_implicit_lambda% (pv 6)) (no_implicit_lambda% (@pa_cons _ _ _ _ _ (no_implicit_lambda% (pv 7)) (no_implicit_lambda% (@pa_cons _ _ _ _ _ pe_str pa_nil rfl)) rfl)) rfl)) rfl)))) pa_nil rfl)) rfl)) rfl)))))) rfl (Or.inl rfl)))
        (no_implicit_lambda% (@pss_cons _ _ _ _ _ (no_implicit_lambda% (@ps_set _ _ 11 _ _ _ _ nd rfl (Or.inl rfl) (no_implicit_lambda% (pe_op op_cat (no_implicit_lambda% (pv 11)) (no_implicit_lambda% (@pe_lst _ _ _ _ (no_implicit_lambda% (@pa_cons _ _ _ _ _ (no_implicit_lambda% (@pe_tup _ _ _ _ _ (no_implicit_lambda% (@pa_cons _ _ _ _ _ (no_implicit_lambda% (pv 5)) (no_implicit_lambda% (@pa_cons _ _ _ _ _ (no_implicit_lambda% (pv 6)) (no_implicit_lambda% (@pa_cons _ _ _ _ _ (no_implicit_lambda% (pv 7)) (no_implicit_lambda% (@pa_cons _ _ _ _ _ pe_str pa_nil rfl)) rfl)) rfl)) rfl)))) (no_implicit_lambda% (@pa_cons _ _ _ _ _ (no_implicit_lambda% (@pe_tup _ _ _ _ _ (no_implicit_lambda% (@pa_cons _ _ _ _ _ (no_implicit_lambda% (pv 5)) (no_implicit_lambda% (@pa_cons _ _ _ _ _ (no_implicit_lambda% (pv 6)) (no_implicit_lambda% (@pa_cons _ _ _ _ _ (no_implicit_lambda% (pv 7)) (no_implicit_lambda% (@pa_cons _ _ _ _ _ pe_non pa_nil rfl)) rfl)) rfl)) rfl)))) (no_implicit_lambda% (@pa_cons _ _ _ _ _ (no_implicit_lambda% (@pe_tup _ _ _ _ _ (no_implicit_lambda% (@pa_cons _ _ _ _ _ (no_implicit_lambda% (pv 5)) (no_implicit_lambda% (@pa_cons _ _ _ _ _ (no_implicit_lambda% (pv 6)) (no_implicit_lambda% (@pa_cons _ _ _ _ _ (no_implicit_lambda% (pv 7)) (no_implicit_lambda% (@pa_cons _ _ _ _ _ pe_str pa_nil rfl)) rfl)) rfl)) rfl)))) pa_nil rfl)) rfl)) rfl)))))) rfl (Or.inl rfl)))
        (no_implicit_lambda% (@pss_cons _ _ _ _ _ (no_implicit_lambda% (@ps_set _ _ 11 _ _ _ _ nd rfl (Or.inl rfl) (no_implicit_lambda% (pe_op op_cat (no_implicit_lambda% (pv 11)) (no_implicit_lambda% (@pe_lst _ _ _ _ (no_implicit_lambda% (@pa_cons _ _ _ _ _ (no_implicit_lambda% (@pe_tup _ _ _ _ _ (no_implicit_lambda% (@pa_cons _ _ _ _ _ (no_implicit_lambda% (pv 5)) (no_implicit_lambda% (@pa_cons _ _ _ _ _ (no_implicit_lambda% (pv 6)) (no_implicit_lambda% (@pa_cons _ _ _ _ _ (no_implicit_lambda% (pv 7)) (no_implicit_lambda% (@pa_cons _ _ _ _ _ pe_int pa_nil rfl)) rfl)) rfl)) rfl)))) (no_implicit_lambda% (@pa_cons _ _ _ _ _ (no_implicit_lambda% (@pe_tup _ _ _ _ _ (no_implicit_lambda% (@pa_cons _ _ _ _ _ (no_implicit_lambda% (pv 5)) (no_implicit_lambda% (@pa_cons _ _ _ _ _ (no_implicit_lambda% (pv 6)) (no_implicit_lambda% (@pa_cons _ _ _ _ _ (no_implicit_lambda% (pv 7)) (no_implicit_lambda% (@pa_cons _ _ _ _ _ (no_implicit_lambda% (@pe_lst _ _ _ _ (no_implicit_lambda% (@pa_cons _ _ _ _ _ pe_str pa_nil rfl)))) pa_nil rfl)) rfl)) rfl)) rfl)))) (no_implicit_lambda% (@pa_cons _ _ _ _ _ (no_implicit_lambda% (@pe_lst _ _ _ _ (no_implicit_lambda% (@pa_cons _ _ _ _ _ (no_implicit_lambda% (pv 5)) (no_implicit_lambda% (@pa_cons _ _ _ _ _ (no_implicit_lambda% (pv 6)) (no_implicit_lambda% (@pa_cons _ _ _ _ _ (no_implicit_lambda% (pv 7)) (no_implicit_lambda% (@pa_cons _ _ _ _ _ (no_implicit_lambda% (pv 8)) pa_nil rfl)) rfl)) rfl)) rfl)))) pa_nil rfl)) rfl)) rfl)))))) rfl (Or.inl rfl)))
        (no_implicit_lambda% (@pss_cons _ _ _ _ _ (no_implicit_lambda% (@ps_set _ _ 11 _ _ _ _ nd rfl (Or.inl rfl) (no_implicit_lambda% (pe_op op_cat (no_implicit_lambda% (pv 11)) (no_implicit_lambda% (@pe_lst _ _ _ _ (no_implicit_lambda% (@pa_cons _ _ _ _ _ (no_implicit_lambda% (@pe_tup _ _ _ _ _ (no_implicit_lambda% (@pa_cons _ _ _ _ _ (no_implicit_lambda% (pv 5)) (no_implicit_lambda% (@pa_cons _ _ _ _ _ (no_implicit_lambda% (pv 6)) (no_implicit_lambda% (@pa_cons _ _ _ _ _ (no_implicit_lambda% (pv 7)) pa_nil rfl)) rfl)) rfl)))) (no_implicit_lambda% (@pa_cons _ _ _ _ _ (no_implicit_lambda% (@pe_tup _ _ _ _ _ (no_implicit_lambda% (@pa_cons _ _ _ _ _ (no_implicit_lambda% (pv 5)) (no_implicit_lambda% (@pa_cons _ _ _ _ _ (no_implicit_lambda% (pv 6)) (no_implicit_lambda% (@pa_cons _ _ _ _ _ (no_implicit_lambda% (pv 7)) (no_implicit_lambda% (@pa_cons _ _ _ _ _ (no_implicit_lambda% (pv 8)) (no_implicit_lambda% (@pa_cons _ _ _ _ _ (no_implicit_lambda% (pv 8)) pa_nil rfl)) rfl)) rfl)) rfl)) rfl)))) (no_implicit_lambda% (@pa_cons _ _ _ _ _ (no_implicit_lambda% (@pe_tup _ _ _ _ _ (no_implicit_lambda% (@pa_cons _ _ _ _ _ (no_implicit_lambda% (pe_callTy call_str_int rfl T.str_ PyProof.Rows.boot_str (no_implicit_lambda% (@pa_cons _ _ _ _ _ (no_implicit_lambda% (pv 5)) pa_nil rfl)))) (no_implicit_lambda% (@pa_cons _ _ _ _ _ (no_implicit_lambda% (pv 6)) (no_implicit_lambda% (@pa_cons _ _ _ _ _ (no_implicit_lambda% (pv 7)) (no_implicit_lambda% (@pa_cons _ _ _ _ _ (no_implicit_lambda% (pv 8)) pa_nil rfl)) rfl)) rfl)) rfl)))) (no_implicit_lambda% (@pa_cons _ _ _ _ _ pe_str (no_implicit_lambda% (@pa_cons _ _ _ _ _ pe_int pa_nil rfl)) rfl)) rfl)) rfl)) rfl)))))) rfl (Or.inl rfl)))
        (no_implicit_lambda% (@pss_cons _ _ _ _ _ (no_implicit_lambda% (@ps_set _ _ 11 _ _ _ _ nd rfl (Or.inl rfl) (no_implicit_lambda% (pe_op op_cat (no_implicit_lambda% (pv 11)) (no_implicit_lambda% (@pe_lst _ _ _ _ (no_implicit_lambda% (@pa_cons _ _ _ _ _ (no_implicit_lambda% (@pe_tup _ _ _ _ _ (no_implicit_lambda% (@pa_cons _ _ _ _ _ pe_bl (no_implicit_lambda% (@pa_cons _ _ _ _ _ (no_implicit_lambda% (pv 6)) (no_implicit_lambda% (@pa_cons _ _ _ _ _ (no_implicit_lambda% (pv 7)) (no_implicit_lambda% (@pa_cons _ _ _ _ _ (no_implicit_lambda% (pv 8)) pa_nil rfl)) rfl)) rfl)) rfl)))) (no_implicit_lambda% (@pa_cons _ _ _ _ _ (no_implicit_lambda% (@pe_tup _ _ _ _ _ (no_implicit_lambda% (@pa_cons _ _ _ _ _ (no_implicit_lambda% (pv 5)) (no_implicit_lambda% (@pa_cons _ _ _ _ _ (no_implicit_lambda% (pv 6)) (no_implicit_lambda% (@pa_cons _ _ _ _ _ pe_bl (no_implicit_lambda% (@pa_cons _ _ _ _ _ (no_implicit_lambda% (pv 8)) pa_nil rfl)) rfl)) rfl)) rfl)))) (no_implicit_lambda% (@pa_cons _ _ _ _ _ (no_implicit_lambda% (@pe_tup _ _ _ _ _ (no_implicit_lambda% (@pa_cons _ _ _ _ _ pe_non (no_implicit_lambda% (@pa_cons _ _ _ _ _ (no_implicit_lambda% (pv 6)) (no_implicit_lambda% (@pa_cons _ _ _ _ _ (no_implicit_lambda% (pv 7)) (no_implicit_lambda% (@pa_cons _ _ _ _ _ (no_implicit_lambda% (pv 8)) pa_nil rfl)) rfl)) rfl)) rfl)))) pa_nil rfl)) rfl)) rfl)))))) rfl (Or.inl rfl)))
        (no_implicit_lambda% (@pss_cons _ _ _ _ _ (no_implicit_lambda% (@ps_set _ _ 11 _ _ _ _ nd rfl (Or.inl rfl) (no_implicit_lambda% (pe_op op_cat (no_implicit_lambda% (pv 11)) (no_implicit_lambda% (@pe_lst _ _ _ _ (no_implicit_lambda% (@pa_cons _ _ _ _ _ (no_implicit_lambda% (@pe_tup _ _ _ _ _ (no_implicit_lambda% (@pa_cons _ _ _ _ _ (no_implicit_lambda% (pv 5)) (no_implicit_lambda% (@pa_cons _ _ _ _ _ pe_str (no_implicit_lambda% (@pa_cons _ _ _ _ _ (no_implicit_lambda% (pv 7)) (no_implicit_lambda% (@pa_cons _ _ _ _ _ (no_implicit_lambda% (pv 8)) pa_nil rfl)) rfl)) rfl)) rfl)))) pa_nil rfl)))))) rfl (Or.inl rfl)))
        (no_implicit_lambda% (@pss_cons _ _ _ _ _ (no_implicit_lambda% (@ps_set _ _ 11 _ _ _ _ nd rfl (Or.inl rfl) (no_implicit_lambda% (pe_op op_cat (no_implicit_lambda% (pv 11)) (no_implicit_lambda% (@pe_lst _ _ _ _ (no_implicit_lambda% (@pa_cons _ _ _ _ _ (no_implicit_lambda% (@pe_tup _ _ _ _ _ (no_implicit_lambda% (@pa_cons _ _ _ _ _ (no_implicit_lambda% (pv 5)) (no_implicit_lambda% (@pa_cons _ _ _ _ _ (no_implicit_lambda% (pv 6)) (no_implicit_lambda% (@pa_cons _ _ _ _ _ pe_non (no_implicit_lambda% (@pa_cons _ _ _ _ _ (no_implicit_lambda% (pv 8)) pa_nil rfl)) rfl)) rfl)) rfl)))) (no_implicit_lambda% (@pa_cons _ _ _ _ _ (no_implicit_lambda% (@pe_tup _ _ _ _ _ (no_implicit_lambda% (@pa_cons _ _ _ _ _ (no_implicit_lambda% (pv 5)) (no_implicit_lambda% (@pa_lit _ _ _ _ _ (.tup (.cons .str .nil)) (no_implicit_lambda% (@pa_cons _ _ _ _ _ (no_implicit_lambda% (pv 7)) (no_implicit_lambda% (@pa_cons _ _ _ _ _ (no_implicit_lambda% (pv 8)) pa_nil rfl)) rfl)))) rfl)))) (no_implicit_lambda% (@pa_cons _ _ _ _ _ (no_implicit_lambda% (@pe_tup _ _ _ _ _ (no_implicit_lambda% (@pa_cons _ _ _ _ _ (no_implicit_lambda% (pv 5)) (no_implicit_lambda% (@pa_cons _ _ _ _ _ (no_implicit_lambda% (pv 6)) (no_implicit_lambda% (@pa_cons _ _ _ _ _ (no_implicit_lambda% (pv 7)) (no_implicit_lambda% (@pa_cons _ _ _ _ _ pe_str pa_nil rfl)) rfl)) rfl)) rfl)))) pa_nil rfl)) rfl)) rfl)))))) rfl (Or.inl rfl)))
        (no_implicit_lambda% (@pss_cons _ _ _ _ _ (no_implicit_lambda% (@ps_set _ _ 4 _ _ _ _ nd rfl (Or.inl rfl) (no_implicit_lambda% (pe_op op_cat (no_implicit_lambda% (pv 4)) (no_implicit_lambda% (pe_comp ["_law_way"] [2, 10, 9] (no_implicit_lambda% (pi_listK K (no_implicit_lambda% (pv 11)))) (fun _ => (no_implicit_lambda% (pg_name (i := 0) (show (["_law_way", "_law_many", "_law_high", "_law_low"] : List Str).Nodup from by decide +kernel) rfl (Or.inl rfl) (Or.inr rfl)))) (fun _ => pcs_nil) (fun _ => (no_implicit_lambda% (@pe_tup _ _ _ _ _ (no_implicit_lambda% (@pa_cons _ _ _ _ _ (no_implicit_lambda% (pv 1)) (no_implicit_lambda% (@pa_cons _ _ _ _ _ (no_implicit_lambda% (pe_op op_catT1 (no_implicit_lambda% (pe_op op_catT1 (no_implicit_lambda% (pv 3)) (no_implicit_lambda% (@pe_tup _ _ _ _ _ (no_implicit_lambda% (@pa_cons _ _ _ _ _ (no_implicit_lambda% (pv 0)) pa_nil rfl)))))) (no_implicit_lambda% (pv 2)))) pa_nil rfl)) rfl))))))))) rfl (Or.inl rfl)))
        (no_implicit_lambda% (@pss_cons _ _ _ _ _ (no_implicit_lambda% (ps_ifJ (no_implicit_lambda% (pt_cmpR op_gt (no_implicit_lambda% (pe_callB (call_lenK K) rfl T.len_ PySem.boot_len (no_implicit_lambda% (@pa_cons _ _ _ _ _ (no_implicit_lambda% (pv 3)) pa_nil rfl)))) pe_int (nomark _))) (no_implicit_lambda% (@pss_one _ _ _ (no_implicit_lambda% (ps_expr (no_implicit_lambda% (pe_bmK K PySem.F.plainAttrs_list PySem.F.slot_list_append PySem.F.type_list_append mt_append (no_implicit_lambda% (pv 4)) (no_implicit_lambda% (@pa_cons _ _ _ _ _ (no_implicit_lambda% (@pe_tup _ _ _ _ _ (no_implicit_lambda% (@pa_cons _ _ _ _ _ (no_implicit_lambda% (pv 2)) (no_implicit_lambda% (@pa_cons _ _ _ _ _ (no_implicit_lambda% (pe_op op_catT1 (no_implicit_lambda% (pv 3)) (no_implicit_lambda% (@pe_tup _ _ _ _ _ (no_implicit_lambda% (@pa_cons _ _ _ _ _ (no_implicit_lambda% (@pe_ix _ _ _ _ _ _ _ (ix_tupK K) (no_implicit_lambda% (pv 3)) (no_implicit_lambda% (pv 1)) (fun _ _ => rfl))) pa_nil rfl)))))) pa_nil rfl)) rfl)))) pa_nil rfl)))))))) pss_nil))
        (no_implicit_lambda% (@pss_one _ _ _ (no_implicit_lambda% (@ps_ret _ _ _ _ (no_implicit_lambda% (pv 4)))))))))))))))))))))))))))))))))))))))))), ?_⟩
    walk_at "rd"
    refine rd_gtup (SqT.of h1) rfl ?_
    walk_at "rd"
    refine ⟨small_line (by simp), rd_new fun p1 G1 e1 k1 _ => ?_⟩
    walk_at "ds"
    refine ⟨small_line (by simp), rd_new fun p2 G2 e2 k2 _ => ?_⟩
    walk_at "ds"
    refine ⟨small_line (by simp), rd_new fun p3 G3 e3 k3 _ => ?_⟩
    walk_at "ds"
    refine ⟨small_line (by simp), rd_new fun p4 G4 e4 k4 _ => ?_⟩
    walk_at "ds"
    refine rd_listT (SqT.of ((e1.trans (e2.trans (e3.trans e4))) _ _ h2)) (rd_new fun p5 G5 e5 k5 _ => ?_)
    walk_at "ds"
    refine ⟨small_line (by simp), rd_new fun p6 G6 e6 k6 _ => ?_⟩
    walk_at "ds"
    refine ⟨small_line (by simp), rd_new fun p7 G7 e7 k7 _ => ?_⟩
    walk_at "ds"
    refine ⟨small_line (by simp), rd_new fun p8 G8 e8 k8 _ => ?_⟩
    walk_at "ds"
    refine ⟨small_line (by simp), rd_new fun p9 G9 e9 k9 _ => ?_⟩
    walk_at "ds"
    refine ⟨small_line (by simp), rd_new fun p10 G10 e10 k10 _ => ?_⟩
    walk_at "rd"
    have F1 : NoHs G10 p10 11 := ⟨_, k10, by simp, (.cons ⟨(thg_non _ _), rfl⟩ (.cons ⟨(thg_bl _ _ _), rfl⟩ (.cons ⟨(thg_int _ _ _), rfl⟩ (.cons ⟨(thg_str _ _ (by decide +kernel)), rfl⟩ (.cons ⟨((thg_tup (n := 3) k1 (by simp) (.nil _ _)).ext (e2.trans (e3.trans (e4.trans (e5.trans (e6.trans (e7.trans (e8.trans (e9.trans e10))))))))), ((house_tup ((e2.trans (e3.trans (e4.trans (e5.trans (e6.trans (e7.trans (e8.trans (e9.trans e10)))))))) _ _ k1)).trans (houseL_len (by simp)))⟩ (.cons ⟨((thg_lst (n := 3) k2 (by simp) (.nil _ _)).ext (e3.trans (e4.trans (e5.trans (e6.trans (e7.trans (e8.trans (e9.trans e10)))))))), (house_lst ((e3.trans (e4.trans (e5.trans (e6.trans (e7.trans (e8.trans (e9.trans e10))))))) _ _ k2))⟩ (.cons ⟨((thg_tup (n := 3) k3 (by simp) (.cons (thg_int _ _ _) (.nil _ _))).ext (e4.trans (e5.trans (e6.trans (e7.trans (e8.trans (e9.trans e10))))))), ((house_tup ((e4.trans (e5.trans (e6.trans (e7.trans (e8.trans (e9.trans e10)))))) _ _ k3)).trans (houseL_len (by simp)))⟩ (.cons ⟨((thg_lst (n := 3) k4 (by simp) (.cons (thg_int _ _ _) (.cons (tr.up.ext (e1.trans (e2.trans (e3.trans e4)))) (.nil _ _)))).ext (e5.trans (e6.trans (e7.trans (e8.trans (e9.trans e10)))))), (house_lst ((e5.trans (e6.trans (e7.trans (e8.trans (e9.trans e10))))) _ _ k4))⟩ (.cons ⟨((thg_tup (n := 3) k6 (by simp) (.cons (thg_int _ _ _) (.cons ((thg_lst (n := 2) k5 (Nat.le_trans hxl (by decide)) (hts.up.ext (e1.trans (e2.trans (e3.trans (e4.trans e5)))))).ext e6) (.nil _ _)))).ext (e7.trans (e8.trans (e9.trans e10)))), ((house_tup ((e7.trans (e8.trans (e9.trans e10))) _ _ k6)).trans (houseL_w (ways_lst ((e6.trans (e7.trans (e8.trans (e9.trans e10)))) _ _ k5))))⟩ (.cons ⟨((thg_tup (n := 3) k8 (by simp) (.cons (thg_int _ _ _) (.cons (tr.up.ext (e1.trans (e2.trans (e3.trans (e4.trans (e5.trans (e6.trans (e7.trans e8)))))))) (.cons ((thg_tup (n := 2) k7 (by simp) (.nil _ _)).ext e8) (.nil _ _))))).ext (e9.trans e10)), ((house_tup ((e9.trans e10) _ _ k8)).trans (houseL_len (by simp)))⟩ (.cons ⟨((thg_tup (n := 3) k9 (by simp) (.cons (thg_int _ _ _) (.cons (thg_non _ _) (.nil _ _)))).ext e10), ((house_tup (e10 _ _ k9)).trans (houseL_w rfl))⟩ (.nil _))))))))))))⟩
    clear k1 k2 k3 k4 k5 k6 k7 k8 k9 k10
    have b10 : Ext H G10 := Ext.trans (Ext.rfl' H) (e1.trans (e2.trans (e3.trans (e4.trans (e5.trans (e6.trans (e7.trans (e8.trans (e9.trans e10)))))))))
    clear e1 e2 e3 e4 e5 e6 e7 e8 e9 e10
    refine ⟨small_line (by simp), rd_new fun p11 G11 e11 k11 _ => ?_⟩
    walk_at "ds"
    refine ⟨small_line (by simp), rd_new fun p12 G12 e12 k12 _ => ?_⟩
    walk_at "ds"
    refine ⟨small_line (by simp), rd_new fun p13 G13 e13 k13 _ => ?_⟩
    walk_at "ds"
    refine ⟨small_line (by simp), rd_new fun p14 G14 e14 k14 _ => ?_⟩
    walk_at "ds"
    refine ⟨small_line (by simp), rd_new fun p15 G15 e15 k15 _ => ?_⟩
    walk_at "ds"
    refine ⟨small_line (by simp), rd_new fun p16 G16 e16 k16 _ => ?_⟩
    walk_at "ds"
    refine ⟨small_line (by simp), rd_new fun p17 G17 e17 k17 _ => ?_⟩
    walk_at "ds"
    refine ⟨small_line (by simp), rd_new fun p18 G18 e18 k18 _ => ?_⟩
    walk_at "ds"
    refine ⟨small_line (by simp), rd_new fun p19 G19 e19 k19 _ => ?_⟩
    walk_at "ds"
    refine ⟨small_line (by simp), rd_new fun p20 G20 e20 k20 _ => ?_⟩
    walk_at "ds"
    refine ⟨small_line (by simp), rd_new fun p21 G21 e21 k21 _ => ?_⟩
    walk_at "ds"
    refine ⟨small_line (by simp), rd_new fun p22 G22 e22 k22 _ => ?_⟩
    walk_at "ds"
    refine ⟨small_line (by simp), rd_new fun p23 G23 e23 k23 _ => ?_⟩
    walk_at "ds"
    refine ⟨small_line (by simp), rd_new fun p24 G24 e24 k24 _ => ?_⟩
    walk_at "ds"
    refine ⟨small_line (by simp), rd_new fun p25 G25 e25 k25 _ => ?_⟩
    walk_at "ds"
    refine ⟨small_line (by simp), rd_new fun p26 G26 e26 k26 _ => ?_⟩
    walk_at "ds"
    refine ⟨small_line (by simp), rd_new fun p27 G27 e27 k27 _ => ?_⟩
    walk_at "rd"
    have F2 : NoHs G27 p27 9 := ⟨_, k27, by simp, (.cons ⟨((thg_tup (n := 3) k12 (by simp) (.cons (thg_int _ _ _) (.cons ((thg_tup (n := 2) k11 (by simp) (.nil _ _)).ext e12) (.nil _ _)))).ext (e13.trans (e14.trans (e15.trans (e16.trans (e17.trans (e18.trans (e19.trans (e20.trans (e21.trans (e22.trans (e23.trans (e24.trans (e25.trans (e26.trans e27))))))))))))))), ((house_tup ((e13.trans (e14.trans (e15.trans (e16.trans (e17.trans (e18.trans (e19.trans (e20.trans (e21.trans (e22.trans (e23.trans (e24.trans (e25.trans (e26.trans e27)))))))))))))) _ _ k12)).trans (houseL_m (by decide)))⟩ (.cons ⟨((thg_tup (n := 3) k14 (by simp) (.cons (thg_int _ _ _) (.cons ((thg_tup (n := 2) k13 (by simp) (.nil _ _)).ext e14) (.nil _ _)))).ext (e15.trans (e16.trans (e17.trans (e18.trans (e19.trans (e20.trans (e21.trans (e22.trans (e23.trans (e24.trans (e25.trans (e26.trans e27))))))))))))), ((house_tup ((e15.trans (e16.trans (e17.trans (e18.trans (e19.trans (e20.trans (e21.trans (e22.trans (e23.trans (e24.trans (e25.trans (e26.trans e27)))))))))))) _ _ k14)).trans (houseL_m (by decide)))⟩ (.cons ⟨((thg_tup (n := 3) k16 (by simp) (.cons (thg_int _ _ _) (.cons ((thg_tup (n := 2) k15 (by simp) (.nil _ _)).ext e16) (.nil _ _)))).ext (e17.trans (e18.trans (e19.trans (e20.trans (e21.trans (e22.trans (e23.trans (e24.trans (e25.trans (e26.trans e27))))))))))), ((house_tup ((e17.trans (e18.trans (e19.trans (e20.trans (e21.trans (e22.trans (e23.trans (e24.trans (e25.trans (e26.trans e27)))))))))) _ _ k16)).trans (houseL_m (by decide)))⟩ (.cons ⟨((thg_tup (n := 3) k18 (by simp) (.cons (thg_bl _ _ _) (.cons ((thg_tup (n := 2) k17 (by simp) (.nil _ _)).ext e18) (.nil _ _)))).ext (e19.trans (e20.trans (e21.trans (e22.trans (e23.trans (e24.trans (e25.trans (e26.trans e27))))))))), ((house_tup ((e19.trans (e20.trans (e21.trans (e22.trans (e23.trans (e24.trans (e25.trans (e26.trans e27)))))))) _ _ k18)).trans rfl)⟩ (.cons ⟨((thg_tup (n := 3) k20 (by simp) (.cons (thg_str _ _ (by decide +kernel)) (.cons ((thg_tup (n := 2) k19 (by simp) (.nil _ _)).ext e20) (.nil _ _)))).ext (e21.trans (e22.trans (e23.trans (e24.trans (e25.trans (e26.trans e27))))))), ((house_tup ((e21.trans (e22.trans (e23.trans (e24.trans (e25.trans (e26.trans e27)))))) _ _ k20)).trans rfl)⟩ (.cons ⟨((thg_tup (n := 3) k21 (by simp) (.cons (thg_non _ _) (.cons ((tr.up.ext b10).ext (e11.trans (e12.trans (e13.trans (e14.trans (e15.trans (e16.trans (e17.trans (e18.trans (e19.trans (e20.trans e21))))))))))) (.nil _ _)))).ext (e22.trans (e23.trans (e24.trans (e25.trans (e26.trans e27)))))), ((house_tup ((e22.trans (e23.trans (e24.trans (e25.trans (e26.trans e27))))) _ _ k21)).trans rfl)⟩ (.cons ⟨((thg_tup (n := 3) k24 (by simp) (.cons (thg_int _ _ _) (.cons ((thg_tup (n := 2) k23 (by simp) (.cons ((thg_tup (n := 1) k22 (by simp) (.nil _ _)).ext e23) (.nil _ _))).ext e24) (.nil _ _)))).ext (e25.trans (e26.trans e27))), ((house_tup ((e25.trans (e26.trans e27)) _ _ k24)).trans (houseL_w ((ways_tup ((e24.trans (e25.trans (e26.trans e27))) _ _ k23)).trans (ways_bad (List.mem_singleton.mpr rfl) ((way_tup ((e23.trans (e24.trans (e25.trans (e26.trans e27)))) _ _ k22)).trans rfl)))))⟩ (.cons ⟨((thg_tup (n := 3) k26 (by simp) (.cons (thg_int _ _ _) (.cons ((thg_tup (n := 2) k25 (by simp) (.cons (thg_non _ _) (.nil _ _))).ext e26) (.nil _ _)))).ext e27), ((house_tup (e27 _ _ k26)).trans (houseL_w ((ways_tup ((e26.trans e27) _ _ k25)).trans (ways_bad (List.mem_singleton.mpr rfl) rfl))))⟩ (.cons ⟨((tr.up.up.ext b10).ext (e11.trans (e12.trans (e13.trans (e14.trans (e15.trans (e16.trans (e17.trans (e18.trans (e19.trans (e20.trans (e21.trans (e22.trans (e23.trans (e24.trans (e25.trans (e26.trans e27))))))))))))))))), (ways_no_house ((e11.trans (e12.trans (e13.trans (e14.trans (e15.trans (e16.trans (e17.trans (e18.trans (e19.trans (e20.trans (e21.trans (e22.trans (e23.trans (e24.trans (e25.trans (e26.trans e27)))))))))))))))) _ _ (b10 _ _ h2)))⟩ (.nil _))))))))))⟩
    obtain ⟨xs1, x1, y1, z1⟩ := F1.ext (e11.trans (e12.trans (e13.trans (e14.trans (e15.trans (e16.trans (e17.trans (e18.trans (e19.trans (e20.trans (e21.trans (e22.trans (e23.trans (e24.trans (e25.trans (e26.trans e27))))))))))))))))
    obtain ⟨xs2, x2, y2, z2⟩ := F2
    refine rd_cat x1 x2 (small9 (by omega)) (rd_new fun p28 G28 e28 k28 _ => ?_)
    have F3 : NoHs G28 p28 20 := ⟨_, k28, by rw [List.length_append]; omega, (z1.app z2).ext e28⟩
    clear k11 k12 k13 k14 k15 k16 k17 k18 k19 k20 k21 k22 k23 k24 k25 k26 k27 k28 x1 y1 z1 x2 y2 z2 F1
    have b28 : Ext H G28 := Ext.trans b10 (e11.trans (e12.trans (e13.trans (e14.trans (e15.trans (e16.trans (e17.trans (e18.trans (e19.trans (e20.trans (e21.trans (e22.trans (e23.trans (e24.trans (e25.trans (e26.trans (e27.trans e28)))))))))))))))))
    clear e11 e12 e13 e14 e15 e16 e17 e18 e19 e20 e21 e22 e23 e24 e25 e26 e27 e28
    walk_at "rd"
    generalize hσ : List.set _ 4 (some (V.ref p28)) = σ0
    have hσ' : σ0 = [some (.ref p), some (.int a), some (.int m), some (.ref r), some (.ref p28), none, none, none, none, none, none, none] := hσ.symm
    clear hσ
    subst hσ'
    refine ⟨small_line (by simp), rd_new fun p29 G29 e29 k29 _ => ?_⟩
    walk_at "rd"
    refine rd_gtup (SqT.of k29) rfl ?_
    walk_at "rd"
    refine ⟨small_line (by simp), rd_new fun p30 G30 e30 k30 _ => ?_⟩
    walk_at "rd"
    refine ⟨small_line (by simp), rd_new fun p31 G31 e31 k31 _ => ?_⟩
    walk_at "rd"
    generalize hσ : List.set _ 10 (some (V.ref p31)) = σ0
    have hσ' : σ0 = [some (.ref p), some (.int a), some (.int m), some (.ref r), some (.ref p28), some (.int 0), some (.str (Str.ofString "up")), some (.int 0), some (.str (Str.ofString "a")), some (.ref p30), some (.ref p31), none] := hσ.symm
    clear hσ
    subst hσ'
    refine ⟨fun σ' J => ∃ (at_ i1 i2 : Int) (z1 z2 : Str) (lo hi : Addr) (xl xh : List V), (0 ≤ i1 ∧ i1 < 12) ∧ z1.length ≤ 1000 ∧ z2.length ≤ 1000 ∧ J lo = some (.tup xl) ∧ J hi = some (.tup xh) ∧ xl.length ≤ 100 ∧ xh.length ≤ 100 ∧ Ths J 2 xl ∧ Ths J 2 xh ∧ Ext G28 J ∧ (0 < bs.length → 0 ≤ at_ ∧ at_ < bs.length) ∧ σ' = [some (.ref p), some (.int at_), some (.int m), some (.ref r), some (.ref p28), some (.int i1), some (.str z1), some (.int i2), some (.str z2), some (.ref lo), some (.ref hi), none], ?_, ?_⟩
    · walk_at "rd"
      refine rd_lenT (SqT.of ((e29.trans (e30.trans e31)) _ _ (b28 _ _ h2))) ?_
      walk_at "rd"
      refine ite2 (fun hc => ?_) (fun hc => ?_)
      · have hpos : 0 < bs.length := by
          rw [List.length_map] at hc
          simp only [decide_eq_true_eq] at hc
          omega
        have eJ : Ext H G31 := b28.trans (e29.trans (e30.trans e31))
        walk_at "rd"
        refine rd_lenT (SqT.of (eJ _ _ h2)) ?_
        try refine rd_I (show (0 : Int) < (((bs.map V.ref).length : Nat) : Int) by rw [List.length_map]; omega) ?_
        walk_at "rd"
        rw [List.length_map]
        have a0 : 0 ≤ a % ((bs.length : Nat) : Int) := Int.emod_nonneg _ (by omega)
        have a1 : a % ((bs.length : Nat) : Int) < ((bs.length : Nat) : Int) := Int.emod_lt_of_pos _ (by omega)
        generalize a % ((bs.length : Nat) : Int) = at_ at a0 a1 ⊢
        have hlt : at_.toNat < bs.length := by omega
        have hlw : at_.toNat < ws.length := by omega
        obtain ⟨bv, hb⟩ : ∃ b, bs[at_.toNat]? = some b := ⟨_, List.getElem?_eq_getElem hlt⟩
        obtain ⟨⟨r0, d0, o0, g0⟩, hw⟩ : ∃ u, ws[at_.toNat]? = some u := ⟨_, List.getElem?_eq_getElem hlw⟩
        have hwt : H bv = some (.tup [.int r0, .str d0, .int o0, .str g0]) := hal.2 _ _ _ hb hw
        have wok := ok.ok _ (List.mem_of_getElem? hw)
        have w0 : 0 ≤ r0 := wok.r0
        have w1 : r0 < m := wok.r1
        have w2 : d0.length ≤ 1000 := deed_len wok.dd
        have w3 : g0.length ≤ 1000 := sign_len wok.sg
        refine rd_ixT (SqT.of (eJ _ _ h2)) (v := .ref bv) (atI_of a0 (by rw [List.getElem?_map, hb]; rfl)) ?_
        clear hb hw hlt hlw wok
        walk_at "rd"
        refine rd_gtup (SqT.of (eJ _ _ hwt)) rfl ?_
        walk_at "rd"
        refine rd_slT1 (eJ _ _ h2) fun lo J1 j1 kl => ?_
        walk_at "rd"
        refine rd_slT1 ((eJ.trans j1) _ _ h2) fun hi J2 j2 kh => ?_
        walk_at "rd"
        exact ⟨at_, r0, o0, d0, g0, lo, hi, _, _, ⟨w0, by omega⟩, w2, w3, j2 _ _ kl, kh, cut_len hxl, cut_len hxl, (hts.up.ext (eJ.trans (j1.trans j2))).cut, (hts.up.ext (eJ.trans (j1.trans j2))).cut, (e29.trans (e30.trans e31)).trans (j1.trans j2), fun _ => ⟨a0, a1⟩, rfl⟩
      · have hno : ¬ 0 < bs.length := by
          rw [List.length_map] at hc
          simp only [decide_eq_true_eq] at hc
          omega
        walk_at "rd"
        exact ⟨a, 0, 0, Str.ofString "up", Str.ofString "a", p30, p31, [], [], ⟨by decide, by decide⟩, by decide +kernel, by decide +kernel, (e31 _ _ k30), k31, by simp, by simp, .nil _ _, .nil _ _, (e29.trans (e30.trans e31)), fun hq => absurd hq hno, rfl⟩
    rintro σ' J ⟨at_, i1, i2, z1, z2, lo, hi, xl, xh, hi1, hz1, hz2, klo, khi, ll, lh, tl, th, ej, hat, rfl⟩
    clear k29 k30 k31 e29 e30 e31
    have bJ : Ext H J := b28.trans ej
    walk_at "rd"
    refine ⟨small_line (by simp), rd_new fun p32 G32 e32 k32 _ => ?_⟩
    walk_at "ds"
    refine ⟨small_line (by simp), rd_new fun p33 G33 e33 k33 _ => ?_⟩
    walk_at "ds"
    refine ⟨small_line (by simp), rd_new fun p34 G34 e34 k34 _ => ?_⟩
    walk_at "ds"
    refine ⟨small_line (by simp), rd_new fun p35 G35 e35 k35 _ => ?_⟩
    walk_at "ds"
    refine ⟨small_line (by simp), rd_new fun p36 G36 e36 k36 _ => ?_⟩
    walk_at "rd"
    have A1 : NoWs G36 m p36 4 := ⟨_, k36, by simp, (.cons ⟨((thg_tup (n := 1) k32 (by simp) (.cons (thg_int _ _ _) (.cons (thg_str _ _ hz1) (.cons (thg_int _ _ _) (.cons (thg_str _ _ hz2) (.nil _ _)))))).ext (e33.trans (e34.trans (e35.trans e36)))), ((way_tup ((e33.trans (e34.trans (e35.trans e36))) _ _ k32)).trans (wayL_r (.inl (room_hi (Int.le_refl _)))))⟩ (.cons ⟨((thg_tup (n := 1) k33 (by simp) (.cons (thg_int _ _ _) (.cons (thg_str _ _ hz1) (.cons (thg_int _ _ _) (.cons (thg_str _ _ hz2) (.nil _ _)))))).ext (e34.trans (e35.trans e36))), ((way_tup ((e34.trans (e35.trans e36)) _ _ k33)).trans (wayL_r (.inr (.inl (room_hi (Int.le_refl _))))))⟩ (.cons ⟨((thg_tup (n := 1) k34 (by simp) (.cons (thg_int _ _ _) (.cons (thg_str _ _ hz1) (.cons (thg_int _ _ _) (.cons (thg_str _ _ hz2) (.nil _ _)))))).ext (e35.trans e36)), ((way_tup ((e35.trans e36) _ _ k34)).trans (wayL_r (.inl (room_lo (by decide)))))⟩ (.cons ⟨((thg_tup (n := 1) k35 (by simp) (.cons (thg_int _ _ _) (.cons (thg_str _ _ hz1) (.cons (thg_int _ _ _) (.cons (thg_str _ _ hz2) (.nil _ _)))))).ext e36), ((way_tup (e36 _ _ k35)).trans (wayL_r (.inr (.inl (room_lo (by decide))))))⟩ (.nil _ _)))))⟩
    clear k32 k33 k34 k35 k36
    have b36 : Ext H G36 := Ext.trans bJ (e32.trans (e33.trans (e34.trans (e35.trans e36))))
    have c36 : Ext J G36 := (e32.trans (e33.trans (e34.trans (e35.trans e36))))
    clear e32 e33 e34 e35 e36
    refine ⟨small_line (by simp), rd_new fun p37 G37 e37 k37 _ => ?_⟩
    walk_at "ds"
    refine ⟨small_line (by simp), rd_new fun p38 G38 e38 k38 _ => ?_⟩
    walk_at "ds"
    refine ⟨small_line (by simp), rd_new fun p39 G39 e39 k39 _ => ?_⟩
    walk_at "ds"
    refine ⟨small_line (by simp), rd_new fun p40 G40 e40 k40 _ => ?_⟩
    walk_at "rd"
    have B0 : NoWs G40 m p40 3 := ⟨_, k40, by simp, (.cons ⟨((thg_tup (n := 1) k37 (by simp) (.cons (thg_int _ _ _) (.cons (thg_str _ _ (by decide +kernel)) (.cons (thg_int _ _ _) (.cons (thg_str _ _ hz2) (.nil _ _)))))).ext (e38.trans (e39.trans e40))), ((way_tup ((e38.trans (e39.trans e40)) _ _ k37)).trans (wayL_r (.inr (.inr (.inl (by decide +kernel))))))⟩ (.cons ⟨((thg_tup (n := 1) k38 (by simp) (.cons (thg_int _ _ _) (.cons (thg_str _ _ (by decide +kernel)) (.cons (thg_int _ _ _) (.cons (thg_str _ _ hz2) (.nil _ _)))))).ext (e39.trans e40)), ((way_tup ((e39.trans e40) _ _ k38)).trans (wayL_r (.inr (.inr (.inl (by decide +kernel))))))⟩ (.cons ⟨((thg_tup (n := 1) k39 (by simp) (.cons (thg_int _ _ _) (.cons (thg_non _ _) (.cons (thg_int _ _ _) (.cons (thg_str _ _ hz2) (.nil _ _)))))).ext e40), ((way_tup (e40 _ _ k39)).trans (wayL_r (.inr (.inr (.inl rfl)))))⟩ (.nil _ _))))⟩
    obtain ⟨xs1, x1, y1, q1⟩ := A1.ext (e37.trans (e38.trans (e39.trans e40)))
    obtain ⟨xs2, x2, y2, q2⟩ := B0
    refine rd_cat x1 x2 (small9 (by omega)) (rd_new fun p41 G41 e41 k41 _ => ?_)
    have A2 : NoWs G41 m p41 7 := ⟨_, k41, by rw [List.length_append]; omega, (q1.app q2).ext e41⟩
    clear k37 k38 k39 k40 k41 x1 y1 q1 x2 y2 q2 A1
    have b41 : Ext H G41 := Ext.trans b36 (e37.trans (e38.trans (e39.trans (e40.trans e41))))
    have c41 : Ext J G41 := Ext.trans c36 (e37.trans (e38.trans (e39.trans (e40.trans e41))))
    clear e37 e38 e39 e40 e41
    walk_at "rd"
    generalize hσ : List.set _ 11 (some (V.ref p41)) = σ0
    have hσ' : σ0 = [some (.ref p), some (.int at_), some (.int m), some (.ref r), some (.ref p28), some (.int i1), some (.str z1), some (.int i2), some (.str z2), some (.ref lo), some (.ref hi), some (.ref p41)] := hσ.symm
    clear hσ
    subst hσ'
    refine ⟨small_line (by simp), rd_new fun p42 G42 e42 k42 _ => ?_⟩
    walk_at "ds"
    refine ⟨small_line (by simp), rd_new fun p43 G43 e43 k43 _ => ?_⟩
    walk_at "ds"
    refine ⟨small_line (by simp), rd_new fun p44 G44 e44 k44 _ => ?_⟩
    walk_at "ds"
    refine ⟨small_line (by simp), rd_new fun p45 G45 e45 k45 _ => ?_⟩
    walk_at "rd"
    have B1 : NoWs G45 m p45 3 := ⟨_, k45, by simp, (.cons ⟨((thg_tup (n := 1) k42 (by simp) (.cons (thg_int _ _ _) (.cons (thg_int _ _ _) (.cons (thg_int _ _ _) (.cons (thg_str _ _ hz2) (.nil _ _)))))).ext (e43.trans (e44.trans e45))), ((way_tup ((e43.trans (e44.trans e45)) _ _ k42)).trans (wayL_r (.inr (.inr (.inl rfl)))))⟩ (.cons ⟨((thg_tup (n := 1) k43 (by simp) (.cons (thg_int _ _ _) (.cons (thg_str _ _ hz1) (.cons (thg_int _ _ _) (.cons (thg_str _ _ (by decide +kernel)) (.nil _ _)))))).ext (e44.trans e45)), ((way_tup ((e44.trans e45) _ _ k43)).trans (wayL_r (.inr (.inr (.inr (by decide +kernel))))))⟩ (.cons ⟨((thg_tup (n := 1) k44 (by simp) (.cons (thg_int _ _ _) (.cons (thg_str _ _ hz1) (.cons (thg_int _ _ _) (.cons (thg_str _ _ (by decide +kernel)) (.nil _ _)))))).ext e45), ((way_tup (e45 _ _ k44)).trans (wayL_r (.inr (.inr (.inr (by decide +kernel))))))⟩ (.nil _ _))))⟩
    obtain ⟨xs1, x1, y1, q1⟩ := A2.ext (e42.trans (e43.trans (e44.trans e45)))
    obtain ⟨xs2, x2, y2, q2⟩ := B1
    refine rd_cat x1 x2 (small9 (by omega)) (rd_new fun p46 G46 e46 k46 _ => ?_)
    have A3 : NoWs G46 m p46 10 := ⟨_, k46, by rw [List.length_append]; omega, (q1.app q2).ext e46⟩
    clear k42 k43 k44 k45 k46 x1 y1 q1 x2 y2 q2 A2
    have b46 : Ext H G46 := Ext.trans b41 (e42.trans (e43.trans (e44.trans (e45.trans e46))))
    have c46 : Ext J G46 := Ext.trans c41 (e42.trans (e43.trans (e44.trans (e45.trans e46))))
    clear e42 e43 e44 e45 e46
    walk_at "rd"
    generalize hσ : List.set _ 11 (some (V.ref p46)) = σ0
    have hσ' : σ0 = [some (.ref p), some (.int at_), some (.int m), some (.ref r), some (.ref p28), some (.int i1), some (.str z1), some (.int i2), some (.str z2), some (.ref lo), some (.ref hi), some (.ref p46)] := hσ.symm
    clear hσ
    subst hσ'
    refine ⟨small_line (by simp), rd_new fun p47 G47 e47 k47 _ => ?_⟩
    walk_at "ds"
    refine ⟨small_line (by simp), rd_new fun p48 G48 e48 k48 _ => ?_⟩
    walk_at "ds"
    refine ⟨small_line (by simp), rd_new fun p49 G49 e49 k49 _ => ?_⟩
    walk_at "ds"
    refine ⟨small_line (by simp), rd_new fun p50 G50 e50 k50 _ => ?_⟩
    walk_at "rd"
    have B2 : NoWs G50 m p50 3 := ⟨_, k50, by simp, (.cons ⟨((thg_tup (n := 1) k47 (by simp) (.cons (thg_int _ _ _) (.cons (thg_str _ _ hz1) (.cons (thg_int _ _ _) (.cons (thg_str _ _ (by decide +kernel)) (.nil _ _)))))).ext (e48.trans (e49.trans e50))), ((way_tup ((e48.trans (e49.trans e50)) _ _ k47)).trans (wayL_r (.inr (.inr (.inr (by decide +kernel))))))⟩ (.cons ⟨((thg_tup (n := 1) k48 (by simp) (.cons (thg_int _ _ _) (.cons (thg_str _ _ hz1) (.cons (thg_int _ _ _) (.cons (thg_non _ _) (.nil _ _)))))).ext (e49.trans e50)), ((way_tup ((e49.trans e50) _ _ k48)).trans (wayL_r (.inr (.inr (.inr rfl)))))⟩ (.cons ⟨((thg_tup (n := 1) k49 (by simp) (.cons (thg_int _ _ _) (.cons (thg_str _ _ hz1) (.cons (thg_int _ _ _) (.cons (thg_str _ _ (by decide +kernel)) (.nil _ _)))))).ext e50), ((way_tup (e50 _ _ k49)).trans (wayL_r (.inr (.inr (.inr (by decide +kernel))))))⟩ (.nil _ _))))⟩
    obtain ⟨xs1, x1, y1, q1⟩ := A3.ext (e47.trans (e48.trans (e49.trans e50)))
    obtain ⟨xs2, x2, y2, q2⟩ := B2
    refine rd_cat x1 x2 (small9 (by omega)) (rd_new fun p51 G51 e51 k51 _ => ?_)
    have A4 : NoWs G51 m p51 13 := ⟨_, k51, by rw [List.length_append]; omega, (q1.app q2).ext e51⟩
    clear k47 k48 k49 k50 k51 x1 y1 q1 x2 y2 q2 A3
    have b51 : Ext H G51 := Ext.trans b46 (e47.trans (e48.trans (e49.trans (e50.trans e51))))
    have c51 : Ext J G51 := Ext.trans c46 (e47.trans (e48.trans (e49.trans (e50.trans e51))))
    clear e47 e48 e49 e50 e51
    walk_at "rd"
    generalize hσ : List.set _ 11 (some (V.ref p51)) = σ0
    have hσ' : σ0 = [some (.ref p), some (.int at_), some (.int m), some (.ref r), some (.ref p28), some (.int i1), some (.str z1), some (.int i2), some (.str z2), some (.ref lo), some (.ref hi), some (.ref p51)] := hσ.symm
    clear hσ
    subst hσ'
    refine ⟨small_line (by simp), rd_new fun p52 G52 e52 k52 _ => ?_⟩
    walk_at "ds"
    refine ⟨small_line (by simp), rd_new fun p53 G53 e53 k53 _ => ?_⟩
    walk_at "ds"
    refine ⟨small_line (by simp), rd_new fun p54 G54 e54 k54 _ => ?_⟩
    walk_at "ds"
    refine ⟨small_line (by simp), rd_new fun p55 G55 e55 k55 _ => ?_⟩
    walk_at "ds"
    refine ⟨small_line (by simp), rd_new fun p56 G56 e56 k56 _ => ?_⟩
    walk_at "rd"
    have B3 : NoWs G56 m p56 3 := ⟨_, k56, by simp, (.cons ⟨((thg_tup (n := 1) k52 (by simp) (.cons (thg_int _ _ _) (.cons (thg_str _ _ hz1) (.cons (thg_int _ _ _) (.cons (thg_int _ _ _) (.nil _ _)))))).ext (e53.trans (e54.trans (e55.trans e56)))), ((way_tup ((e53.trans (e54.trans (e55.trans e56))) _ _ k52)).trans (wayL_r (.inr (.inr (.inr rfl)))))⟩ (.cons ⟨((thg_tup (n := 1) k54 (by simp) (.cons (thg_int _ _ _) (.cons (thg_str _ _ hz1) (.cons (thg_int _ _ _) (.cons ((thg_lst (n := 0) k53 (by simp) (.cons (thg_str _ _ (by decide +kernel)) (.nil _ _))).ext e54) (.nil _ _)))))).ext (e55.trans e56)), ((way_tup ((e55.trans e56) _ _ k54)).trans (wayL_r (.inr (.inr (.inr rfl)))))⟩ (.cons ⟨((thg_lst (n := 1) k55 (by simp) (.cons (thg_int _ _ _) (.cons (thg_str _ _ hz1) (.cons (thg_int _ _ _) (.cons (thg_str _ _ hz2) (.nil _ _)))))).ext e56), (way_lst (e56 _ _ k55))⟩ (.nil _ _))))⟩
    obtain ⟨xs1, x1, y1, q1⟩ := A4.ext (e52.trans (e53.trans (e54.trans (e55.trans e56))))
    obtain ⟨xs2, x2, y2, q2⟩ := B3
    refine rd_cat x1 x2 (small9 (by omega)) (rd_new fun p57 G57 e57 k57 _ => ?_)
    have A5 : NoWs G57 m p57 16 := ⟨_, k57, by rw [List.length_append]; omega, (q1.app q2).ext e57⟩
    clear k52 k53 k54 k55 k56 k57 x1 y1 q1 x2 y2 q2 A4
    have b57 : Ext H G57 := Ext.trans b51 (e52.trans (e53.trans (e54.trans (e55.trans (e56.trans e57)))))
    have c57 : Ext J G57 := Ext.trans c51 (e52.trans (e53.trans (e54.trans (e55.trans (e56.trans e57)))))
    clear e52 e53 e54 e55 e56 e57
    walk_at "rd"
    generalize hσ : List.set _ 11 (some (V.ref p57)) = σ0
    have hσ' : σ0 = [some (.ref p), some (.int at_), some (.int m), some (.ref r), some (.ref p28), some (.int i1), some (.str z1), some (.int i2), some (.str z2), some (.ref lo), some (.ref hi), some (.ref p57)] := hσ.symm
    clear hσ
    subst hσ'
    refine ⟨small_line (by simp), rd_new fun p58 G58 e58 k58 _ => ?_⟩
    walk_at "ds"
    refine ⟨small_line (by simp), rd_new fun p59 G59 e59 k59 _ => ?_⟩
    walk_at "ds"
    refine ⟨_, rfl, log_small hi1.1 (by omega), ?_⟩
    walk_at "ds"
    refine ⟨small_line (by simp), rd_new fun p60 G60 e60 k60 _ => ?_⟩
    walk_at "ds"
    refine ⟨small_line (by simp), rd_new fun p61 G61 e61 k61 _ => ?_⟩
    walk_at "rd"
    have B4 : NoWs G61 m p61 5 := ⟨_, k61, by simp, (.cons ⟨((thg_tup (n := 1) k58 (by simp) (.cons (thg_int _ _ _) (.cons (thg_str _ _ hz1) (.cons (thg_int _ _ _) (.nil _ _))))).ext (e59.trans (e60.trans e61))), ((way_tup ((e59.trans (e60.trans e61)) _ _ k58)).trans (wayL_len (by simp)))⟩ (.cons ⟨((thg_tup (n := 1) k59 (by simp) (.cons (thg_int _ _ _) (.cons (thg_str _ _ hz1) (.cons (thg_int _ _ _) (.cons (thg_str _ _ hz2) (.cons (thg_str _ _ hz2) (.nil _ _))))))).ext (e60.trans e61)), ((way_tup ((e60.trans e61) _ _ k59)).trans (wayL_len (by simp)))⟩ (.cons ⟨((thg_tup (n := 1) k60 (by simp) (.cons (thg_str _ _ (str_small hi1.1 hi1.2)) (.cons (thg_str _ _ hz1) (.cons (thg_int _ _ _) (.cons (thg_str _ _ hz2) (.nil _ _)))))).ext e61), ((way_tup (e61 _ _ k60)).trans (wayL_r (.inl rfl)))⟩ (.cons ⟨(thg_str _ _ (by decide +kernel)), rfl⟩ (.cons ⟨(thg_int _ _ _), rfl⟩ (.nil _ _))))))⟩
    obtain ⟨xs1, x1, y1, q1⟩ := A5.ext (e58.trans (e59.trans (e60.trans e61)))
    obtain ⟨xs2, x2, y2, q2⟩ := B4
    refine rd_cat x1 x2 (small9 (by omega)) (rd_new fun p62 G62 e62 k62 _ => ?_)
    have A6 : NoWs G62 m p62 21 := ⟨_, k62, by rw [List.length_append]; omega, (q1.app q2).ext e62⟩
    clear k58 k59 k60 k61 k62 x1 y1 q1 x2 y2 q2 A5
    have b62 : Ext H G62 := Ext.trans b57 (e58.trans (e59.trans (e60.trans (e61.trans e62))))
    have c62 : Ext J G62 := Ext.trans c57 (e58.trans (e59.trans (e60.trans (e61.trans e62))))
    clear e58 e59 e60 e61 e62
    walk_at "rd"
    generalize hσ : List.set _ 11 (some (V.ref p62)) = σ0
    have hσ' : σ0 = [some (.ref p), some (.int at_), some (.int m), some (.ref r), some (.ref p28), some (.int i1), some (.str z1), some (.int i2), some (.str z2), some (.ref lo), some (.ref hi), some (.ref p62)] := hσ.symm
    clear hσ
    subst hσ'
    refine ⟨small_line (by simp), rd_new fun p63 G63 e63 k63 _ => ?_⟩
    walk_at "ds"
    refine ⟨small_line (by simp), rd_new fun p64 G64 e64 k64 _ => ?_⟩
    walk_at "ds"
    refine ⟨small_line (by simp), rd_new fun p65 G65 e65 k65 _ => ?_⟩
    walk_at "ds"
    refine ⟨small_line (by simp), rd_new fun p66 G66 e66 k66 _ => ?_⟩
    walk_at "rd"
    have B5 : NoWs G66 m p66 3 := ⟨_, k66, by simp, (.cons ⟨((thg_tup (n := 1) k63 (by simp) (.cons (thg_bl _ _ _) (.cons (thg_str _ _ hz1) (.cons (thg_int _ _ _) (.cons (thg_str _ _ hz2) (.nil _ _)))))).ext (e64.trans (e65.trans e66))), ((way_tup ((e64.trans (e65.trans e66)) _ _ k63)).trans (wayL_r (.inl rfl)))⟩ (.cons ⟨((thg_tup (n := 1) k64 (by simp) (.cons (thg_int _ _ _) (.cons (thg_str _ _ hz1) (.cons (thg_bl _ _ _) (.cons (thg_str _ _ hz2) (.nil _ _)))))).ext (e65.trans e66)), ((way_tup ((e65.trans e66) _ _ k64)).trans (wayL_r (.inr (.inl rfl))))⟩ (.cons ⟨((thg_tup (n := 1) k65 (by simp) (.cons (thg_non _ _) (.cons (thg_str _ _ hz1) (.cons (thg_int _ _ _) (.cons (thg_str _ _ hz2) (.nil _ _)))))).ext e66), ((way_tup (e66 _ _ k65)).trans (wayL_r (.inl rfl)))⟩ (.nil _ _))))⟩
    obtain ⟨xs1, x1, y1, q1⟩ := A6.ext (e63.trans (e64.trans (e65.trans e66)))
    obtain ⟨xs2, x2, y2, q2⟩ := B5
    refine rd_cat x1 x2 (small9 (by omega)) (rd_new fun p67 G67 e67 k67 _ => ?_)
    have A7 : NoWs G67 m p67 24 := ⟨_, k67, by rw [List.length_append]; omega, (q1.app q2).ext e67⟩
    clear k63 k64 k65 k66 k67 x1 y1 q1 x2 y2 q2 A6
    have b67 : Ext H G67 := Ext.trans b62 (e63.trans (e64.trans (e65.trans (e66.trans e67))))
    have c67 : Ext J G67 := Ext.trans c62 (e63.trans (e64.trans (e65.trans (e66.trans e67))))
    clear e63 e64 e65 e66 e67
    walk_at "rd"
    generalize hσ : List.set _ 11 (some (V.ref p67)) = σ0
    have hσ' : σ0 = [some (.ref p), some (.int at_), some (.int m), some (.ref r), some (.ref p28), some (.int i1), some (.str z1), some (.int i2), some (.str z2), some (.ref lo), some (.ref hi), some (.ref p67)] := hσ.symm
    clear hσ
    subst hσ'
    refine ⟨small_line (by simp), rd_new fun p68 G68 e68 k68 _ => ?_⟩
    walk_at "ds"
    refine ⟨small_line (by simp), rd_new fun p69 G69 e69 k69 _ => ?_⟩
    walk_at "rd"
    have B6 : NoWs G69 m p69 1 := ⟨_, k69, by simp, (.cons ⟨((thg_tup (n := 1) k68 (by simp) (.cons (thg_int _ _ _) (.cons (thg_str _ _ (by decide +kernel)) (.cons (thg_int _ _ _) (.cons (thg_str _ _ hz2) (.nil _ _)))))).ext e69), ((way_tup (e69 _ _ k68)).trans (wayL_r (.inr (.inr (.inl (by decide +kernel))))))⟩ (.nil _ _))⟩
    obtain ⟨xs1, x1, y1, q1⟩ := A7.ext (e68.trans e69)
    obtain ⟨xs2, x2, y2, q2⟩ := B6
    refine rd_cat x1 x2 (small9 (by omega)) (rd_new fun p70 G70 e70 k70 _ => ?_)
    have A8 : NoWs G70 m p70 25 := ⟨_, k70, by rw [List.length_append]; omega, (q1.app q2).ext e70⟩
    clear k68 k69 k70 x1 y1 q1 x2 y2 q2 A7
    have b70 : Ext H G70 := Ext.trans b67 (e68.trans (e69.trans e70))
    have c70 : Ext J G70 := Ext.trans c67 (e68.trans (e69.trans e70))
    clear e68 e69 e70
    walk_at "rd"
    generalize hσ : List.set _ 11 (some (V.ref p70)) = σ0
    have hσ' : σ0 = [some (.ref p), some (.int at_), some (.int m), some (.ref r), some (.ref p28), some (.int i1), some (.str z1), some (.int i2), some (.str z2), some (.ref lo), some (.ref hi), some (.ref p70)] := hσ.symm
    clear hσ
    subst hσ'
    refine ⟨small_line (by simp), rd_new fun p71 G71 e71 k71 _ => ?_⟩
    walk_at "ds"
    refine ⟨small_line (by simp), rd_new fun p72 G72 e72 k72 _ => ?_⟩
    walk_at "ds"
    refine ⟨small_line (by simp), rd_new fun p73 G73 e73 k73 _ => ?_⟩
    walk_at "ds"
    refine ⟨small_line (by simp), rd_new fun p74 G74 e74 k74 _ => ?_⟩
    walk_at "ds"
    refine ⟨small_line (by simp), rd_new fun p75 G75 e75 k75 _ => ?_⟩
    walk_at "rd"
    have B7 : NoWs G75 m p75 3 := ⟨_, k75, by simp, (.cons ⟨((thg_tup (n := 1) k71 (by simp) (.cons (thg_int _ _ _) (.cons (thg_str _ _ hz1) (.cons (thg_non _ _) (.cons (thg_str _ _ hz2) (.nil _ _)))))).ext (e72.trans (e73.trans (e74.trans e75)))), ((way_tup ((e72.trans (e73.trans (e74.trans e75))) _ _ k71)).trans (wayL_r (.inr (.inl rfl))))⟩ (.cons ⟨((thg_tup (n := 1) k73 (by simp) (.cons (thg_int _ _ _) (.cons ((thg_tup (n := 0) k72 (by simp) (.cons (thg_str _ _ (by decide +kernel)) (.nil _ _))).ext e73) (.cons (thg_int _ _ _) (.cons (thg_str _ _ hz2) (.nil _ _)))))).ext (e74.trans e75)), ((way_tup ((e74.trans e75) _ _ k73)).trans (wayL_r (.inr (.inr (.inl rfl)))))⟩ (.cons ⟨((thg_tup (n := 1) k74 (by simp) (.cons (thg_int _ _ _) (.cons (thg_str _ _ hz1) (.cons (thg_int _ _ _) (.cons (thg_str _ _ (by decide +kernel)) (.nil _ _)))))).ext e75), ((way_tup (e75 _ _ k74)).trans (wayL_r (.inr (.inr (.inr (by decide +kernel))))))⟩ (.nil _ _))))⟩
    obtain ⟨xs1, x1, y1, q1⟩ := A8.ext (e71.trans (e72.trans (e73.trans (e74.trans e75))))
    obtain ⟨xs2, x2, y2, q2⟩ := B7
    refine rd_cat x1 x2 (small9 (by omega)) (rd_new fun p76 G76 e76 k76 _ => ?_)
    have A9 : NoWs G76 m p76 28 := ⟨_, k76, by rw [List.length_append]; omega, (q1.app q2).ext e76⟩
    clear k71 k72 k73 k74 k75 k76 x1 y1 q1 x2 y2 q2 A8
    have b76 : Ext H G76 := Ext.trans b70 (e71.trans (e72.trans (e73.trans (e74.trans (e75.trans e76)))))
    have c76 : Ext J G76 := Ext.trans c70 (e71.trans (e72.trans (e73.trans (e74.trans (e75.trans e76)))))
    clear e71 e72 e73 e74 e75 e76
    walk_at "rd"
    generalize hσ : List.set _ 11 (some (V.ref p76)) = σ0
    have hσ' : σ0 = [some (.ref p), some (.int at_), some (.int m), some (.ref r), some (.ref p28), some (.int i1), some (.str z1), some (.int i2), some (.str z2), some (.ref lo), some (.ref hi), some (.ref p76)] := hσ.symm
    clear hσ
    subst hσ'
    obtain ⟨ss, s1, s2, s3⟩ := A9
    refine rd_iLx (SqL.of s1) ?_
    refine comp_list (xs := ss) (fun i ys H' => Ext G76 H' ∧ NoHl H' ys ∧ ys.length = i) (small9 (by omega)) ⟨fun _ _ z => z, .nil _, rfl⟩ (fun i ys H' _ h => ⟨SqL.of (h.1 _ _ s1), Nat.le_of_eq h.2.2⟩) ?_ ?_
    · rintro i x ys H' hx ⟨e, ht, hl⟩
      have tx := s3 x (List.mem_of_getElem? hx)
      walk_at "rd"
      refine iteT ?_
      walk_at "rd"
      refine ⟨small_line (by simp), rd_new fun u1 J1 j1 v1 _ => ?_⟩
      walk_at "rd"
      refine rd_catT1 ((c76.trans (e.trans j1)) _ _ klo) v1 (small9 (by simp; omega)) fun u2 J2 j2 v2 => ?_
      walk_at "rd"
      refine rd_catT1 v2 ((c76.trans (e.trans (j1.trans j2))) _ _ khi) (small9 (by simp; omega)) fun u3 J3 j3 v3 => ?_
      walk_at "rd"
      refine ⟨small_line (by simp), rd_new fun u4 J4 j4 v4 _ => ?_⟩
      have eA : Ext G76 J3 := e.trans (j1.trans (j2.trans j3))
      have t3 : Thg J3 3 (.ref u3) := thg_tup v3 (by simp; omega) (((tl.ext (c76.trans eA)).app (.cons (tx.ext eA).1 (.nil _ _))).app (th.ext (c76.trans eA)))
      have t4 : NoH J4 (.ref u4) := ⟨thg_tup v4 (by simp) (.cons (thg_int _ _ _) (.cons (t3.ext j4) (.nil _ _))), (house_tup v4).trans (houseL_w ((ways_tup (j4 _ _ v3)).trans (ways_bad (List.mem_append_left _ (List.mem_append_right _ (List.mem_singleton.mpr rfl))) (tx.ext (eA.trans j4)).2)))⟩
      exact ⟨eA.trans j4, (ht.ext (j1.trans (j2.trans (j3.trans j4)))).app (.cons t4 (.nil _)), by rw [List.length_append, hl]; rfl⟩
    · rintro ys H' pl ⟨e, ht, hl⟩ hpl
      have eP : Ext G76 (upd H' pl (.lst ys)) := e.trans (ext_upd hpl)
      have tP : NoHs (upd H' pl (.lst ys)) pl ss.length := ⟨ys, upd_same, hl, ht.ext (ext_upd hpl)⟩
      generalize upd H' pl (.lst ys) = J5 at eP tP ⊢
      obtain ⟨ys', y1, y2, y3⟩ := tP
      obtain ⟨xs1, x1, x2, x3⟩ := F3.ext (ej.trans (c76.trans eP))
      refine rd_cat x1 y1 (small9 (by omega)) (rd_new fun pf J6 e6 k6 f6 => ?_)
      have b6 : Ext H J6 := b76.trans (eP.trans e6)
      have hpf : H pf = none := (b76.trans eP).none f6
      have l6 : (xs1 ++ ys').length ≤ 100 ∧ 1 ≤ (xs1 ++ ys').length := by rw [List.length_append]; omega
      have t5 : NoHl J5 (xs1 ++ ys') := x3.app y3
      have t6 : NoHl J6 (xs1 ++ ys') := t5.ext e6
      generalize xs1 ++ ys' = xs6 at k6 l6 t5 t6
      clear ht hl hpl y1 y2 y3 x1 x2 x3 eP s1 s2 s3 klo khi tl th F3
      walk_at "rd"
      refine ⟨fun σ' J7 => ∃ xs, J7 pf = some (.lst xs) ∧ (1 ≤ xs.length ∧ xs.length ≤ 200) ∧ NoHl J7 xs ∧ Ext H J7 ∧ σ' = [some (.ref p), some (.int at_), some (.int m), some (.ref r), some (.ref pf), some (.int i1), some (.str z1), some (.int i2), some (.str z2), some (.ref lo), some (.ref hi), some (.ref p76)], ?_, ?_⟩
      · walk_at "rd"
        refine rd_lenT (SqT.of (b6 _ _ h2)) ?_
        walk_at "rd"
        refine ite2 (fun hc => ?_) (fun hc => ?_)
        · have hpos : 0 < bs.length := by
            rw [List.length_map] at hc
            simp only [decide_eq_true_eq] at hc
            omega
          obtain ⟨a0, a1⟩ := hat hpos
          have hlt : at_.toNat < bs.length := by omega
          obtain ⟨bv, hb⟩ : ∃ b, bs[at_.toNat]? = some b := ⟨_, List.getElem?_eq_getElem hlt⟩
          have hbm : V.ref bv ∈ bs.map V.ref := List.mem_map.mpr ⟨bv, List.mem_of_getElem? hb, rfl⟩
          have tb : Thg H 1 (.ref bv) := hts _ hbm
          walk_at "rd"
          refine ⟨rd_tyL (SqL.of k6), ?_⟩
          walk_at "rd"
          refine rd_ixT (SqT.of (b6 _ _ h2)) (v := .ref bv) (atI_of a0 (by rw [List.getElem?_map, hb]; rfl)) ?_
          walk_at "rd"
          refine ⟨small_line (by simp), rd_new fun u1 J1 j1 v1 _ => ?_⟩
          walk_at "rd"
          refine rd_catT1 ((b6.trans j1) _ _ h2) v1 (small9 (by simp; omega)) fun u2 J2 j2 v2 => ?_
          walk_at "rd"
          refine ⟨small_line (by simp), rd_new fun u3 J3 j3 v3 _ => ?_⟩
          walk_at "rd"
          have jA : Ext J6 J3 := j1.trans (j2.trans j3)
          refine rd_append (jA _ _ k6) (Nat.lt_of_le_of_lt l6.1 (by decide)) ?_
          walk_at "rd"
          have n2 : u2 ≠ pf := by
            rintro rfl
            have := (j1.trans j2) _ _ k6
            rw [v2] at this
            cases this
          have n3 : u3 ≠ pf := by
            rintro rfl
            have := jA _ _ k6
            rw [v3] at this
            cases this
          have eW : Ext H (upd J3 pf (.lst (xs6 ++ [.ref u3]))) := ext_write (b6.trans jA) hpf
          have eW5 : Ext J5 (upd J3 pf (.lst (xs6 ++ [.ref u3]))) := ext_write (e6.trans jA) f6
          have w2 : upd J3 pf (.lst (xs6 ++ [.ref u3])) u2 = some (.tup (bs.map V.ref ++ [.ref bv])) := (upd_ne n2).trans (j3 _ _ v2)
          have w3 : upd J3 pf (.lst (xs6 ++ [.ref u3])) u3 = some (.tup [.int m, .ref u2]) := (upd_ne n3).trans v3
          have t2 : Thg (upd J3 pf (.lst (xs6 ++ [.ref u3]))) 2 (.ref u2) := thg_tup w2 (by simp; omega) ((hts.ext eW).app (.cons (tb.ext eW) (.nil _ _)))
          have t3 : Thg (upd J3 pf (.lst (xs6 ++ [.ref u3]))) 3 (.ref u3) := thg_tup w3 (by simp) (.cons (thg_int _ _ _) (.cons t2 (.nil _ _)))
          have t4 : NoH (upd J3 pf (.lst (xs6 ++ [.ref u3]))) (.ref u3) := ⟨t3.up, (house_tup w3).trans (houseL_w ((ways_tup w2).trans (ways_twice hbm)))⟩
          exact ⟨_, upd_same, by simp; omega, (t5.ext eW5).app (.cons t4 (.nil _)), eW, rfl⟩
        · walk_at "rd"
          exact ⟨xs6, k6, ⟨l6.2, Nat.le_trans l6.1 (by decide)⟩, t6, b6, rfl⟩
      · rintro σ' J7 ⟨xs, g1, g2, g3, g4, rfl⟩
        walk_at "rd"
        exact q pf J7 xs g4 g1 g2.1 g2.2 g3
theorem cut_mem {xs : List V} {lo hi : Option Int} {x : V} (h : x ∈ cutV xs lo hi) : x ∈ xs := List.mem_of_mem_drop (List.mem_of_mem_take h)
noncomputable def sp_law (K : PySem.W.Frag) : Sp := fun vs H Q _ => ∃ (a : Addr) (ns : List Int), vs = [.ref a] ∧ SqL K H a (ns.map V.int) ∧ ns.length ≤ 63 ∧ ∀ H', Q (.bl true) H'
noncomputable abbrev s_law : Stmt := stq 158
theorem sc_law : FnScope ["_law_script", "_law_house_here", "_law_way", "_law_bad", "_law_first", "_law_thing", "_law_k"] ["_law_script"] (defScope s_law) := ⟨rfl, rfl, rfl, by decide +kernel, rfl, by decide +kernel, by decide +kernel⟩
theorem ok_law {P : Program} {w : World} {K : PySem.W.Frag} {mg : Str → Option Value} {base : Heap} {f : Addr} {fd : FuncData} (F : Fun K "law" "law" s_law f fd) (T : Blt mg) (C__law_refused : Cal P w K mg base "_law_refused" 11 ["_law_way", "_law_thing", "_law_far"] (sp__law_refused K)) (C__law_looked : Cal P w K mg base "_law_looked" 8 ["_law_thing"] (sp__law_looked K)) (C__law_draws : Cal P w K mg base "_law_draws" 2 ["_law_cell_here", "_law_widths", "_law_prime"] (sp__law_draws K)) (C__law_cell : Cal P w K mg base "_law_cell" 1 ["_law_script", "_law_k"] (sp__law_cell K)) (C__law_bad_things : Cal P w K mg base "_law_bad_things" 1 ["_law_house_here", "_law_at"] (sp__law_bad_things K)) (C__law_house : Cal P w K mg base "_law_house" 4 ["_law_cell_here", "_law_prime"] (sp__law_house K)) (C0_shown_house : Cal P w K mg base "shown_house" 7 ["house"] (fun vs H Q _ => sp_shown_house K vs H Q E0)) : FnOk P w K mg base CX0 12 f fd ["_law_script"] (sp_law K) := by
  have nd := (sc_law).nd
  refine F.ok sc_law (fun vs H Q E h => ?_) (fun cdv A outer s H vs Q E hr h => ?_)
  · obtain ⟨a, ns, rfl, _⟩ := h; rfl
  · obtain ⟨a, ns, rfl, ha, hl, q⟩ := h
    refine ⟨_, (no_implicit_lambda% (pss_cons (no_implicit_lambda% (ps_set (i := 1) nd rfl (Or.inl rfl) (no_implicit_lambda% (pe_cal C__law_house hr (no_implicit_lambda% (pa_cons (no_implicit_lambda% (pe_cal C__law_cell hr (no_implicit_lambda% (pa_cons (no_implicit_lambda% (pv 0)) (no_implicit_lambda% (pa_cons pe_int pa_nil)))))) (no_implicit_lambda% (pa_cons pe_int pa_nil))))))))
        (no_implicit_lambda% (pss_cons (no_implicit_lambda% (ps_set (i := 2) nd rfl (Or.inl rfl) (no_implicit_lambda% (pe_cal C__law_draws hr (no_implicit_lambda% (pa_cons (no_implicit_lambda% (pe_cal C__law_cell hr (no_implicit_lambda% (pa_cons (no_implicit_lambda% (pv 0)) (no_implicit_lambda% (pa_cons pe_int pa_nil)))))) (no_implicit_lambda% (pa_cons (no_implicit_lambda% (pe_lst (no_implicit_lambda% (pa_cons pe_int (no_implicit_lambda% (pa_cons pe_int pa_nil)))))) (no_implicit_lambda% (pa_cons pe_int pa_nil))))))))))
        (no_implicit_lambda% (pss_cons (no_implicit_lambda% (ps_set (i := 3) nd rfl (Or.inl rfl) (no_implicit_lambda% (pe_cal C__law_bad_things hr (no_implicit_lambda% (pa_cons (no_implicit_lambda% (pv 1)) (no_implicit_lambda% (pa_cons (no_implicit_lambda% (pe_ix (ix_listK K) (no_implicit_lambda% (pv 2)) pe_int (fun _ _ => rfl))) pa_nil))))))))
        (no_implicit_lambda% (pss_cons (no_implicit_lambda% (ps_set (i := 4) nd rfl (Or.inl rfl) (no_implicit_lambda% (pe_ix (ix_listK K) (no_implicit_lambda% (pe_cal C__law_draws hr (no_implicit_lambda% (pa_cons (no_implicit_lambda% (pe_cal C__law_cell hr (no_implicit_lambda% (pa_cons (no_implicit_lambda% (pv 0)) (no_implicit_lambda% (pa_cons pe_int pa_nil)))))) (no_implicit_lambda% (pa_cons (no_implicit_lambda% (pe_lst (no_implicit_lambda% (pa_cons (no_implicit_lambda% (pe_callB (call_lenK K) rfl T.len_ PySem.boot_len (no_implicit_lambda% (pa_cons (no_implicit_lambda% (pv 3)) pa_nil)))) pa_nil)))) (no_implicit_lambda% (pa_cons pe_int pa_nil)))))))) pe_int (fun _ _ => rfl)))))
        (no_implicit_lambda% (pss_cons (no_implicit_lambda% (ps_for PassesOwn.never rfl (no_implicit_lambda% (pi_listK K (no_implicit_lambda% (pe_slice (sl_listK K) (no_implicit_lambda% (pe_op op_cat (no_implicit_lambda% (pv 3)) (no_implicit_lambda% (pv 3)))) (po_some (no_implicit_lambda% (pv 4))) (po_some (no_implicit_lambda% (pe_op op_add (no_implicit_lambda% (pv 4)) pe_int))))))) (no_implicit_lambda% (pg_name (i := 5) nd rfl (Or.inl rfl))) (no_implicit_lambda% (pss_cons (no_implicit_lambda% (ps_if (no_implicit_lambda% (pt_not (no_implicit_lambda% (pt_val (no_implicit_lambda% (pe_cal C__law_looked hr (no_implicit_lambda% (pa_cons (no_implicit_lambda% (pv 5)) pa_nil)))))))) (no_implicit_lambda% (pss_one (no_implicit_lambda% (ps_ret pe_bl)))) pss_nil))
        (no_implicit_lambda% (pss_one (no_implicit_lambda% (ps_for PassesOwn.never rfl (no_implicit_lambda% (pi_range1 rfl T.range_ (no_implicit_lambda% (pa_cons pe_int pa_nil)))) (no_implicit_lambda% (pg_name (i := 6) nd rfl (Or.inl rfl))) (no_implicit_lambda% (pss_one (no_implicit_lambda% (ps_if (no_implicit_lambda% (pt_not (no_implicit_lambda% (pt_val (no_implicit_lambda% (pe_cal C__law_refused hr (no_implicit_lambda% (pa_cons (no_implicit_lambda% (pv 6)) (no_implicit_lambda% (pa_cons (no_implicit_lambda% (pv 5)) (no_implicit_lambda% (pa_cons (no_implicit_lambda% (pe_ix (ix_listK K) (no_implicit_lambda% (pe_lst (no_implicit_lambda% (pa_cons pe_int (no_implicit_lambda% (pa_cons pe_int pa_nil)))))) (no_implicit_lambda% (pe_ix (ix_listK K) (no_implicit_lambda% (pv 2)) pe_int (fun _ _ => rfl))) (fun _ _ => rfl))) pa_nil)))))))))))) (no_implicit_lambda% (pss_one (no_implicit_lambda% (ps_ret pe_bl)))) pss_nil))))))))))))
        (no_implicit_lambda% (pss_one (no_implicit_lambda% (ps_ret (no_implicit_lambda% (pe_cmpR op_in_str (no_implicit_lambda% (pe_slice sl_str (no_implicit_lambda% (pe_cal C0_shown_house hr (no_implicit_lambda% (pa_cons (no_implicit_lambda% (pv 1)) pa_nil)))) po_none (po_some pe_int))) pe_str (by with_unfolding_all rfl))))))))))))))))), ?_⟩
    walk_at "rd"
    refine ⟨a, ns, 0, rfl, ha, hl, by decide, fun z => ?_⟩
    walk_at "rd"
    refine ⟨z, _, rfl, by decide, fun v m ws H1 e1 hv ok => ?_⟩
    walk_at "rd"
    refine ⟨a, ns, 1, rfl, ha.ext e1, hl, by decide, fun z2 => ?_⟩
    walk_at "rd"
    refine ⟨small_line (by simp), rd_new fun w0 H2 e2 hw0 _ => ?_⟩
    walk_at "rd"
    refine mk_draws [100, 2] hw0 (by decide) (by decide) (by decide) fun dq ds H3 e3 hd _ hdl hdb => ?_
    have hdl2 : ds.length = 2 := hdl
    match ds, hdl2 with
    | [d0, d1], _ =>
    have hd1 := hdb 1 d1 2 rfl rfl
    have e13 : Ext H1 H3 := e2.trans e3
    clear e2 e3 hw0 hdb hdl
    walk_at "rd"
    refine rd_ixL (SqL.of hd) (v := .int d0) rfl ?_
    walk_at "rd"
    refine ⟨v, m, ws, d0, rfl, hv.ext e13, ok, fun l H4 xs e4 hl4 lx1 lx2 hno => ?_⟩
    walk_at "rd"
    refine ⟨a, ns, 2, rfl, ha.ext (e1.trans (e13.trans e4)), hl, by decide, fun z3 => ?_⟩
    walk_at "rd"
    refine rd_lenL (SqL.of hl4) ?_
    walk_at "rd"
    refine ⟨small_line (by simp), rd_new fun w1 H5 e5 hw1 _ => ?_⟩
    walk_at "rd"
    refine mk_draws [((xs.length : Nat) : Int)] hw1 (fun x hx => ?_) (by simp) (by decide) fun fq fs H6 e6 hf _ hfl hfb => ?_
    · rw [List.mem_singleton] at hx
      subst hx
      exact ⟨by omega, by omega⟩
    have hfl1 : fs.length = 1 := hfl
    match fs, hfl1 with
    | [f0], _ =>
    have hf0 := hfb 0 f0 _ rfl rfl
    have e46 : Ext H4 H6 := e5.trans e6
    clear e5 e6 hw1 hfb hfl
    walk_at "rd"
    refine rd_ixL (SqL.of hf) (v := .int f0) rfl ?_
    walk_at "rd"
    refine rd_cat (e46 _ _ hl4) (e46 _ _ hl4) (small9 (by omega)) (rd_new fun c1 H7 e7 k7 _ => ?_)
    walk_at "rd"
    refine rd_slL (SqL.of k7) (rd_new fun c2 H8 e8 k8 _ => ?_)
    have e48 : Ext H4 H8 := e46.trans (e7.trans e8)
    have hno8 : ∀ x ∈ cutV (xs ++ xs) (some f0) (some (f0 + 12)), NoH H4 x := fun x hx => by
      rcases List.mem_append.mp (cut_mem hx) with h | h <;> exact hno x h
    generalize cutV (xs ++ xs) (some f0) (some (f0 + 12)) = ys at k8 hno8
    refine rd_iLx (SqL.of k8) ?_
    refine forL (xs := ys) (fun j σ Hf => ∃ k1 k2, σ = [some (.ref a), some v, some (.ref dq), some (.ref l), some (.int f0), k1, k2] ∧ Ext H8 Hf) ⟨none, none, rfl, fun _ _ z => z⟩ (fun j σ Hf _ h => SqL.of (h.choose_spec.choose_spec.2 _ _ k8)) ?_ ?_
    · rintro j x σ Hf hx ⟨k1, k2, rfl, ef⟩
      have nx : NoH Hf x := (hno8 x (List.mem_of_getElem? hx)).ext (e48.trans ef)
      walk_at "rd"
      refine ⟨x, rfl, nx, fun Hg eg => ?_⟩
      walk_at "rd"
      refine iteF ?_
      walk_at "rd"
      refine rd_i1x ⟨by decide, by decide⟩ ?_
      refine forR (fun i σ Hh => ∃ k2, σ = [some (.ref a), some v, some (.ref dq), some (.ref l), some (.int f0), some x, k2] ∧ Ext Hg Hh) ⟨_, rfl, fun _ _ z => z⟩ ?_ ?_
      · rintro i σ Hh hi ⟨k2, rfl, eh⟩
        walk_at "rd"
        refine ⟨small_line (by simp), rd_new fun p1 Hi ei ki _ => ?_⟩
        walk_at "rd"
        refine rd_ixL (SqL.of ((e4.trans (e48.trans (ef.trans (eg.trans (eh.trans ei))))) _ _ hd)) (v := .int d1) rfl ?_
        obtain ⟨u, hu, hu2⟩ := two_at (a := .int 0) (b := .int 1001) hd1.1 hd1.2
        refine rd_ixL (SqL.of ki) (v := u) hu ?_
        obtain ⟨f9, rfl⟩ : ∃ f9, u = .int f9 := by
          rcases hu2 with rfl | rfl
          · exact ⟨_, rfl⟩
          · exact ⟨_, rfl⟩
        walk_at "rd"
        refine ⟨_, x, f9, rfl, nx.ext (eg.trans (eh.trans ei)), fun Hj ej => ?_⟩
        walk_at "rd"
        refine iteF ?_
        walk_at "rd"
        exact ⟨_, rfl, eh.trans (ei.trans ej)⟩
      · rintro σ Hh ⟨k2, rfl, eh⟩
        exact ⟨_, _, rfl, ef.trans (eg.trans eh)⟩
    · rintro σ Hf ⟨k1, k2, rfl, ef⟩
      walk_at "rd"
      refine ⟨v, rfl, .inr ⟨m, ws, hv.ext (e13.trans (e4.trans (e48.trans ef))), ok, fun zz Hz c ez hc c1 c2 lz => ?_⟩⟩
      walk_at "rd"
      refine ⟨zz, rfl, Nat.le_trans lz (by decide), ?_⟩
      rw [slice_one hc]
      walk_at "rd"
      refine ⟨_, _, rfl, rfl, ?_⟩
      rw [dig_in ⟨c, by omega⟩ c1]
      exact q Hz
theorem all_mk {l : PySem.W.OpenLaw} {w : World} {K : PySem.W.Frag} {h : Heap} {mg : Str → Option Value} {fa : Addr} (X : K.In h) (G : h.Ns mainGlobals mg) (hfa : mg "law" = some (.ref fa))
    {f0 : Addr} {od0 an0 : Option Addr} {sl0 : Array (Option Value)} {oc0 kV0 dc0 pm0 cd0 ct0 : Value} (a0 : PySem.W.nsIn K mainGlobals "way_text" = some (some (.ref f0))) (l0 : K.lookup f0 = some ⟨oc0, od0, .func (PySem.W.fnOf "way_text" "way_text" (defArgs s_way_text) (defBody s_way_text) (defScope s_way_text) .none kV0 dc0 pm0 an0 cd0 ct0), sl0⟩) (c0 : PySem.W.codeIn K cd0 "way_text" = true) (k0 : PySem.W.keepIn K (.ref f0) = true)
    {f1 : Addr} {od1 an1 : Option Addr} {sl1 : Array (Option Value)} {oc1 kV1 dc1 pm1 cd1 ct1 : Value} (a1 : PySem.W.nsIn K mainGlobals "is_sign" = some (some (.ref f1))) (l1 : K.lookup f1 = some ⟨oc1, od1, .func (PySem.W.fnOf "is_sign" "is_sign" (defArgs s_is_sign) (defBody s_is_sign) (defScope s_is_sign) .none kV1 dc1 pm1 an1 cd1 ct1), sl1⟩) (c1 : PySem.W.codeIn K cd1 "is_sign" = true) (k1 : PySem.W.keepIn K (.ref f1) = true)
    {f2 : Addr} {od2 an2 : Option Addr} {sl2 : Array (Option Value)} {oc2 kV2 dc2 pm2 cd2 ct2 : Value} (a2 : PySem.W.nsIn K mainGlobals "is_deed" = some (some (.ref f2))) (l2 : K.lookup f2 = some ⟨oc2, od2, .func (PySem.W.fnOf "is_deed" "is_deed" (defArgs s_is_deed) (defBody s_is_deed) (defScope s_is_deed) .none kV2 dc2 pm2 an2 cd2 ct2), sl2⟩) (c2 : PySem.W.codeIn K cd2 "is_deed" = true) (k2 : PySem.W.keepIn K (.ref f2) = true)
    {f3 : Addr} {od3 an3 : Option Addr} {sl3 : Array (Option Value)} {oc3 kV3 dc3 pm3 cd3 ct3 : Value} (a3 : PySem.W.nsIn K mainGlobals "is_whole" = some (some (.ref f3))) (l3 : K.lookup f3 = some ⟨oc3, od3, .func (PySem.W.fnOf "is_whole" "is_whole" (defArgs s_is_whole) (defBody s_is_whole) (defScope s_is_whole) .none kV3 dc3 pm3 an3 cd3 ct3), sl3⟩) (c3 : PySem.W.codeIn K cd3 "is_whole" = true) (k3 : PySem.W.keepIn K (.ref f3) = true)
    {f4 : Addr} {od4 an4 : Option Addr} {sl4 : Array (Option Value)} {oc4 kV4 dc4 pm4 cd4 ct4 : Value} (a4 : PySem.W.nsIn K mainGlobals "is_room" = some (some (.ref f4))) (l4 : K.lookup f4 = some ⟨oc4, od4, .func (PySem.W.fnOf "is_room" "is_room" (defArgs s_is_room) (defBody s_is_room) (defScope s_is_room) .none kV4 dc4 pm4 an4 cd4 ct4), sl4⟩) (c4 : PySem.W.codeIn K cd4 "is_room" = true) (k4 : PySem.W.keepIn K (.ref f4) = true)
    {f5 : Addr} {od5 an5 : Option Addr} {sl5 : Array (Option Value)} {oc5 kV5 dc5 pm5 cd5 ct5 : Value} (a5 : PySem.W.nsIn K mainGlobals "is_way" = some (some (.ref f5))) (l5 : K.lookup f5 = some ⟨oc5, od5, .func (PySem.W.fnOf "is_way" "is_way" (defArgs s_is_way) (defBody s_is_way) (defScope s_is_way) .none kV5 dc5 pm5 an5 cd5 ct5), sl5⟩) (c5 : PySem.W.codeIn K cd5 "is_way" = true) (k5 : PySem.W.keepIn K (.ref f5) = true)
    {f6 : Addr} {od6 an6 : Option Addr} {sl6 : Array (Option Value)} {oc6 kV6 dc6 pm6 cd6 ct6 : Value} (a6 : PySem.W.nsIn K mainGlobals "are_ways" = some (some (.ref f6))) (l6 : K.lookup f6 = some ⟨oc6, od6, .func (PySem.W.fnOf "are_ways" "are_ways" (defArgs s_are_ways) (defBody s_are_ways) (defScope s_are_ways) .none kV6 dc6 pm6 an6 cd6 ct6), sl6⟩) (c6 : PySem.W.codeIn K cd6 "are_ways" = true) (k6 : PySem.W.keepIn K (.ref f6) = true)
    {f7 : Addr} {od7 an7 : Option Addr} {sl7 : Array (Option Value)} {oc7 kV7 dc7 pm7 cd7 ct7 : Value} (a7 : PySem.W.nsIn K mainGlobals "is_house" = some (some (.ref f7))) (l7 : K.lookup f7 = some ⟨oc7, od7, .func (PySem.W.fnOf "is_house" "is_house" (defArgs s_is_house) (defBody s_is_house) (defScope s_is_house) .none kV7 dc7 pm7 an7 cd7 ct7), sl7⟩) (c7 : PySem.W.codeIn K cd7 "is_house" = true) (k7 : PySem.W.keepIn K (.ref f7) = true)
    {f8 : Addr} {od8 an8 : Option Addr} {sl8 : Array (Option Value)} {oc8 kV8 dc8 pm8 cd8 ct8 : Value} (a8 : PySem.W.nsIn K mainGlobals "refuse_no_house" = some (some (.ref f8))) (l8 : K.lookup f8 = some ⟨oc8, od8, .func (PySem.W.fnOf "refuse_no_house" "refuse_no_house" (defArgs s_refuse_no_house) (defBody s_refuse_no_house) (defScope s_refuse_no_house) .none kV8 dc8 pm8 an8 cd8 ct8), sl8⟩) (c8 : PySem.W.codeIn K cd8 "refuse_no_house" = true) (k8 : PySem.W.keepIn K (.ref f8) = true)
    {f9 : Addr} {od9 an9 : Option Addr} {sl9 : Array (Option Value)} {oc9 kV9 dc9 pm9 cd9 ct9 : Value} (a9 : PySem.W.nsIn K mainGlobals "shown_house" = some (some (.ref f9))) (l9 : K.lookup f9 = some ⟨oc9, od9, .func (PySem.W.fnOf "shown_house" "shown_house" (defArgs s_shown_house) (defBody s_shown_house) (defScope s_shown_house) .none kV9 dc9 pm9 an9 cd9 ct9), sl9⟩) (c9 : PySem.W.codeIn K cd9 "shown_house" = true) (k9 : PySem.W.keepIn K (.ref f9) = true)
    {f10 : Addr} {od10 an10 : Option Addr} {sl10 : Array (Option Value)} {oc10 kV10 dc10 pm10 cd10 ct10 : Value} (a10 : PySem.W.nsIn K mainGlobals "forward" = some (some (.ref f10))) (l10 : K.lookup f10 = some ⟨oc10, od10, .func (PySem.W.fnOf "forward" "forward" (defArgs s_forward) (defBody s_forward) (defScope s_forward) .none kV10 dc10 pm10 an10 cd10 ct10), sl10⟩) (c10 : PySem.W.codeIn K cd10 "forward" = true) (k10 : PySem.W.keepIn K (.ref f10) = true)
    {f11 : Addr} {od11 an11 : Option Addr} {sl11 : Array (Option Value)} {oc11 kV11 dc11 pm11 cd11 ct11 : Value} (a11 : PySem.W.nsIn K mainGlobals "rooms_at" = some (some (.ref f11))) (l11 : K.lookup f11 = some ⟨oc11, od11, .func (PySem.W.fnOf "rooms_at" "rooms_at" (defArgs s_rooms_at) (defBody s_rooms_at) (defScope s_rooms_at) .none kV11 dc11 pm11 an11 cd11 ct11), sl11⟩) (c11 : PySem.W.codeIn K cd11 "rooms_at" = true) (k11 : PySem.W.keepIn K (.ref f11) = true)
    {f12 : Addr} {od12 an12 : Option Addr} {sl12 : Array (Option Value)} {oc12 kV12 dc12 pm12 cd12 ct12 : Value} (a12 : PySem.W.nsIn K mainGlobals "fallen" = some (some (.ref f12))) (l12 : K.lookup f12 = some ⟨oc12, od12, .func (PySem.W.fnOf "fallen" "fallen" (defArgs s_fallen) (defBody s_fallen) (defScope s_fallen) .none kV12 dc12 pm12 an12 cd12 ct12), sl12⟩) (c12 : PySem.W.codeIn K cd12 "fallen" = true) (k12 : PySem.W.keepIn K (.ref f12) = true)
    {f13 : Addr} {od13 an13 : Option Addr} {sl13 : Array (Option Value)} {oc13 kV13 dc13 pm13 cd13 ct13 : Value} (a13 : PySem.W.nsIn K mainGlobals "risen" = some (some (.ref f13))) (l13 : K.lookup f13 = some ⟨oc13, od13, .func (PySem.W.fnOf "risen" "risen" (defArgs s_risen) (defBody s_risen) (defScope s_risen) .none kV13 dc13 pm13 an13 cd13 ct13), sl13⟩) (c13 : PySem.W.codeIn K cd13 "risen" = true) (k13 : PySem.W.keepIn K (.ref f13) = true)
    {f14 : Addr} {od14 an14 : Option Addr} {sl14 : Array (Option Value)} {oc14 kV14 dc14 pm14 cd14 ct14 : Value} (a14 : PySem.W.nsIn K mainGlobals "kept" = some (some (.ref f14))) (l14 : K.lookup f14 = some ⟨oc14, od14, .func (PySem.W.fnOf "kept" "kept" (defArgs s_kept) (defBody s_kept) (defScope s_kept) .none kV14 dc14 pm14 an14 cd14 ct14), sl14⟩) (c14 : PySem.W.codeIn K cd14 "kept" = true) (k14 : PySem.W.keepIn K (.ref f14) = true)
    {f15 : Addr} {od15 an15 : Option Addr} {sl15 : Array (Option Value)} {oc15 kV15 dc15 pm15 cd15 ct15 : Value} (a15 : PySem.W.nsIn K mainGlobals "shortest" = some (some (.ref f15))) (l15 : K.lookup f15 = some ⟨oc15, od15, .func (PySem.W.fnOf "shortest" "shortest" (defArgs s_shortest) (defBody s_shortest) (defScope s_shortest) .none kV15 dc15 pm15 an15 cd15 ct15), sl15⟩) (c15 : PySem.W.codeIn K cd15 "shortest" = true) (k15 : PySem.W.keepIn K (.ref f15) = true)
    {f16 : Addr} {od16 an16 : Option Addr} {sl16 : Array (Option Value)} {oc16 kV16 dc16 pm16 cd16 ct16 : Value} (a16 : PySem.W.nsIn K mainGlobals "walked" = some (some (.ref f16))) (l16 : K.lookup f16 = some ⟨oc16, od16, .func (PySem.W.fnOf "walked" "walked" (defArgs s_walked) (defBody s_walked) (defScope s_walked) .none kV16 dc16 pm16 an16 cd16 ct16), sl16⟩) (c16 : PySem.W.codeIn K cd16 "walked" = true) (k16 : PySem.W.keepIn K (.ref f16) = true)
    {f17 : Addr} {od17 an17 : Option Addr} {sl17 : Array (Option Value)} {oc17 kV17 dc17 pm17 cd17 ct17 : Value} (a17 : PySem.W.nsIn K mainGlobals "open_ways" = some (some (.ref f17))) (l17 : K.lookup f17 = some ⟨oc17, od17, .func (PySem.W.fnOf "open_ways" "open_ways" (defArgs s_open_ways) (defBody s_open_ways) (defScope s_open_ways) .none kV17 dc17 pm17 an17 cd17 ct17), sl17⟩) (c17 : PySem.W.codeIn K cd17 "open_ways" = true) (k17 : PySem.W.keepIn K (.ref f17) = true)
    {f18 : Addr} {od18 an18 : Option Addr} {sl18 : Array (Option Value)} {oc18 kV18 dc18 pm18 cd18 ct18 : Value} (a18 : PySem.W.nsIn K mainGlobals "turned_about" = some (some (.ref f18))) (l18 : K.lookup f18 = some ⟨oc18, od18, .func (PySem.W.fnOf "turned_about" "turned_about" (defArgs s_turned_about) (defBody s_turned_about) (defScope s_turned_about) .none kV18 dc18 pm18 an18 cd18 ct18), sl18⟩) (c18 : PySem.W.codeIn K cd18 "turned_about" = true) (k18 : PySem.W.keepIn K (.ref f18) = true)
    {f19 : Addr} {od19 an19 : Option Addr} {sl19 : Array (Option Value)} {oc19 kV19 dc19 pm19 cd19 ct19 : Value} (a19 : PySem.W.nsIn K mainGlobals "_law_one" = some (some (.ref f19))) (l19 : K.lookup f19 = some ⟨oc19, od19, .func (PySem.W.fnOf "_law_one" "_law_one" (defArgs s__law_one) (defBody s__law_one) (defScope s__law_one) .none kV19 dc19 pm19 an19 cd19 ct19), sl19⟩) (c19 : PySem.W.codeIn K cd19 "_law_one" = true) (k19 : PySem.W.keepIn K (.ref f19) = true)
    {f20 : Addr} {od20 an20 : Option Addr} {sl20 : Array (Option Value)} {oc20 kV20 dc20 pm20 cd20 ct20 : Value} (a20 : PySem.W.nsIn K mainGlobals "is_bare" = some (some (.ref f20))) (l20 : K.lookup f20 = some ⟨oc20, od20, .func (PySem.W.fnOf "is_bare" "is_bare" (defArgs s_is_bare) (defBody s_is_bare) (defScope s_is_bare) .none kV20 dc20 pm20 an20 cd20 ct20), sl20⟩) (c20 : PySem.W.codeIn K cd20 "is_bare" = true) (k20 : PySem.W.keepIn K (.ref f20) = true)
    {f21 : Addr} {od21 an21 : Option Addr} {sl21 : Array (Option Value)} {oc21 kV21 dc21 pm21 cd21 ct21 : Value} (a21 : PySem.W.nsIn K mainGlobals "side_by_side" = some (some (.ref f21))) (l21 : K.lookup f21 = some ⟨oc21, od21, .func (PySem.W.fnOf "side_by_side" "side_by_side" (defArgs s_side_by_side) (defBody s_side_by_side) (defScope s_side_by_side) .none kV21 dc21 pm21 an21 cd21 ct21), sl21⟩) (c21 : PySem.W.codeIn K cd21 "side_by_side" = true) (k21 : PySem.W.keepIn K (.ref f21) = true)
    {f22 : Addr} {od22 an22 : Option Addr} {sl22 : Array (Option Value)} {oc22 kV22 dc22 pm22 cd22 ct22 : Value} (a22 : PySem.W.nsIn K mainGlobals "refuse_bad_rooms" = some (some (.ref f22))) (l22 : K.lookup f22 = some ⟨oc22, od22, .func (PySem.W.fnOf "refuse_bad_rooms" "refuse_bad_rooms" (defArgs s_refuse_bad_rooms) (defBody s_refuse_bad_rooms) (defScope s_refuse_bad_rooms) .none kV22 dc22 pm22 an22 cd22 ct22), sl22⟩) (c22 : PySem.W.codeIn K cd22 "refuse_bad_rooms" = true) (k22 : PySem.W.keepIn K (.ref f22) = true)
    {f23 : Addr} {od23 an23 : Option Addr} {sl23 : Array (Option Value)} {oc23 kV23 dc23 pm23 cd23 ct23 : Value} (a23 : PySem.W.nsIn K mainGlobals "first_words" = some (some (.ref f23))) (l23 : K.lookup f23 = some ⟨oc23, od23, .func (PySem.W.fnOf "first_words" "first_words" (defArgs s_first_words) (defBody s_first_words) (defScope s_first_words) .none kV23 dc23 pm23 an23 cd23 ct23), sl23⟩) (c23 : PySem.W.codeIn K cd23 "first_words" = true) (k23 : PySem.W.keepIn K (.ref f23) = true)
    {f24 : Addr} {od24 an24 : Option Addr} {sl24 : Array (Option Value)} {oc24 kV24 dc24 pm24 cd24 ct24 : Value} (a24 : PySem.W.nsIn K mainGlobals "first_word" = some (some (.ref f24))) (l24 : K.lookup f24 = some ⟨oc24, od24, .func (PySem.W.fnOf "first_word" "first_word" (defArgs s_first_word) (defBody s_first_word) (defScope s_first_word) .none kV24 dc24 pm24 an24 cd24 ct24), sl24⟩) (c24 : PySem.W.codeIn K cd24 "first_word" = true) (k24 : PySem.W.keepIn K (.ref f24) = true)
    {f25 : Addr} {od25 an25 : Option Addr} {sl25 : Array (Option Value)} {oc25 kV25 dc25 pm25 cd25 ct25 : Value} (a25 : PySem.W.nsIn K mainGlobals "reads" = some (some (.ref f25))) (l25 : K.lookup f25 = some ⟨oc25, od25, .func (PySem.W.fnOf "reads" "reads" (defArgs s_reads) (defBody s_reads) (defScope s_reads) .none kV25 dc25 pm25 an25 cd25 ct25), sl25⟩) (c25 : PySem.W.codeIn K cd25 "reads" = true) (k25 : PySem.W.keepIn K (.ref f25) = true)
    {f26 : Addr} {od26 an26 : Option Addr} {sl26 : Array (Option Value)} {oc26 kV26 dc26 pm26 cd26 ct26 : Value} (a26 : PySem.W.nsIn K mainGlobals "ranks" = some (some (.ref f26))) (l26 : K.lookup f26 = some ⟨oc26, od26, .func (PySem.W.fnOf "ranks" "ranks" (defArgs s_ranks) (defBody s_ranks) (defScope s_ranks) .none kV26 dc26 pm26 an26 cd26 ct26), sl26⟩) (c26 : PySem.W.codeIn K cd26 "ranks" = true) (k26 : PySem.W.keepIn K (.ref f26) = true)
    {f27 : Addr} {od27 an27 : Option Addr} {sl27 : Array (Option Value)} {oc27 kV27 dc27 pm27 cd27 ct27 : Value} (a27 : PySem.W.nsIn K mainGlobals "stops" = some (some (.ref f27))) (l27 : K.lookup f27 = some ⟨oc27, od27, .func (PySem.W.fnOf "stops" "stops" (defArgs s_stops) (defBody s_stops) (defScope s_stops) .none kV27 dc27 pm27 an27 cd27 ct27), sl27⟩) (c27 : PySem.W.codeIn K cd27 "stops" = true) (k27 : PySem.W.keepIn K (.ref f27) = true)
    {f28 : Addr} {od28 an28 : Option Addr} {sl28 : Array (Option Value)} {oc28 kV28 dc28 pm28 cd28 ct28 : Value} (a28 : PySem.W.nsIn K mainGlobals "greatest" = some (some (.ref f28))) (l28 : K.lookup f28 = some ⟨oc28, od28, .func (PySem.W.fnOf "greatest" "greatest" (defArgs s_greatest) (defBody s_greatest) (defScope s_greatest) .none kV28 dc28 pm28 an28 cd28 ct28), sl28⟩) (c28 : PySem.W.codeIn K cd28 "greatest" = true) (k28 : PySem.W.keepIn K (.ref f28) = true)
    {f29 : Addr} {od29 an29 : Option Addr} {sl29 : Array (Option Value)} {oc29 kV29 dc29 pm29 cd29 ct29 : Value} (a29 : PySem.W.nsIn K mainGlobals "fate" = some (some (.ref f29))) (l29 : K.lookup f29 = some ⟨oc29, od29, .func (PySem.W.fnOf "fate" "fate" (defArgs s_fate) (defBody s_fate) (defScope s_fate) .none kV29 dc29 pm29 an29 cd29 ct29), sl29⟩) (c29 : PySem.W.codeIn K cd29 "fate" = true) (k29 : PySem.W.keepIn K (.ref f29) = true)
    {f30 : Addr} {od30 an30 : Option Addr} {sl30 : Array (Option Value)} {oc30 kV30 dc30 pm30 cd30 ct30 : Value} (a30 : PySem.W.nsIn K mainGlobals "backward" = some (some (.ref f30))) (l30 : K.lookup f30 = some ⟨oc30, od30, .func (PySem.W.fnOf "backward" "backward" (defArgs s_backward) (defBody s_backward) (defScope s_backward) .none kV30 dc30 pm30 an30 cd30 ct30), sl30⟩) (c30 : PySem.W.codeIn K cd30 "backward" = true) (k30 : PySem.W.keepIn K (.ref f30) = true)
    {f31 : Addr} {od31 an31 : Option Addr} {sl31 : Array (Option Value)} {oc31 kV31 dc31 pm31 cd31 ct31 : Value} (a31 : PySem.W.nsIn K mainGlobals "answer" = some (some (.ref f31))) (l31 : K.lookup f31 = some ⟨oc31, od31, .func (PySem.W.fnOf "answer" "answer" (defArgs s_answer) (defBody s_answer) (defScope s_answer) .none kV31 dc31 pm31 an31 cd31 ct31), sl31⟩) (c31 : PySem.W.codeIn K cd31 "answer" = true) (k31 : PySem.W.keepIn K (.ref f31) = true)
    {f32 : Addr} {od32 an32 : Option Addr} {sl32 : Array (Option Value)} {oc32 kV32 dc32 pm32 cd32 ct32 : Value} (a32 : PySem.W.nsIn K mainGlobals "_law_two" = some (some (.ref f32))) (l32 : K.lookup f32 = some ⟨oc32, od32, .func (PySem.W.fnOf "_law_two" "_law_two" (defArgs s__law_two) (defBody s__law_two) (defScope s__law_two) .none kV32 dc32 pm32 an32 cd32 ct32), sl32⟩) (c32 : PySem.W.codeIn K cd32 "_law_two" = true) (k32 : PySem.W.keepIn K (.ref f32) = true)
    {f33 : Addr} {od33 an33 : Option Addr} {sl33 : Array (Option Value)} {oc33 kV33 dc33 pm33 cd33 ct33 : Value} (a33 : PySem.W.nsIn K mainGlobals "_law_refused" = some (some (.ref f33))) (l33 : K.lookup f33 = some ⟨oc33, od33, .func (PySem.W.fnOf "_law_refused" "_law_refused" (defArgs s__law_refused) (defBody s__law_refused) (defScope s__law_refused) .none kV33 dc33 pm33 an33 cd33 ct33), sl33⟩) (c33 : PySem.W.codeIn K cd33 "_law_refused" = true) (k33 : PySem.W.keepIn K (.ref f33) = true)
    {f34 : Addr} {od34 an34 : Option Addr} {sl34 : Array (Option Value)} {oc34 kV34 dc34 pm34 cd34 ct34 : Value} (a34 : PySem.W.nsIn K mainGlobals "ring_places" = some (some (.ref f34))) (l34 : K.lookup f34 = some ⟨oc34, od34, .func (PySem.W.fnOf "ring_places" "ring_places" (defArgs s_ring_places) (defBody s_ring_places) (defScope s_ring_places) .none kV34 dc34 pm34 an34 cd34 ct34), sl34⟩) (c34 : PySem.W.codeIn K cd34 "ring_places" = true) (k34 : PySem.W.keepIn K (.ref f34) = true)
    {f35 : Addr} {od35 an35 : Option Addr} {sl35 : Array (Option Value)} {oc35 kV35 dc35 pm35 cd35 ct35 : Value} (a35 : PySem.W.nsIn K mainGlobals "sees_same" = some (some (.ref f35))) (l35 : K.lookup f35 = some ⟨oc35, od35, .func (PySem.W.fnOf "sees_same" "sees_same" (defArgs s_sees_same) (defBody s_sees_same) (defScope s_sees_same) .none kV35 dc35 pm35 an35 cd35 ct35), sl35⟩) (c35 : PySem.W.codeIn K cd35 "sees_same" = true) (k35 : PySem.W.keepIn K (.ref f35) = true)
    {f36 : Addr} {od36 an36 : Option Addr} {sl36 : Array (Option Value)} {oc36 kV36 dc36 pm36 cd36 ct36 : Value} (a36 : PySem.W.nsIn K mainGlobals "sees_rise" = some (some (.ref f36))) (l36 : K.lookup f36 = some ⟨oc36, od36, .func (PySem.W.fnOf "sees_rise" "sees_rise" (defArgs s_sees_rise) (defBody s_sees_rise) (defScope s_sees_rise) .none kV36 dc36 pm36 an36 cd36 ct36), sl36⟩) (c36 : PySem.W.codeIn K cd36 "sees_rise" = true) (k36 : PySem.W.keepIn K (.ref f36) = true)
    {f37 : Addr} {od37 an37 : Option Addr} {sl37 : Array (Option Value)} {oc37 kV37 dc37 pm37 cd37 ct37 : Value} (a37 : PySem.W.nsIn K mainGlobals "sees_closed" = some (some (.ref f37))) (l37 : K.lookup f37 = some ⟨oc37, od37, .func (PySem.W.fnOf "sees_closed" "sees_closed" (defArgs s_sees_closed) (defBody s_sees_closed) (defScope s_sees_closed) .none kV37 dc37 pm37 an37 cd37 ct37), sl37⟩) (c37 : PySem.W.codeIn K cd37 "sees_closed" = true) (k37 : PySem.W.keepIn K (.ref f37) = true)
    {f38 : Addr} {od38 an38 : Option Addr} {sl38 : Array (Option Value)} {oc38 kV38 dc38 pm38 cd38 ct38 : Value} (a38 : PySem.W.nsIn K mainGlobals "sees_never" = some (some (.ref f38))) (l38 : K.lookup f38 = some ⟨oc38, od38, .func (PySem.W.fnOf "sees_never" "sees_never" (defArgs s_sees_never) (defBody s_sees_never) (defScope s_sees_never) .none kV38 dc38 pm38 an38 cd38 ct38), sl38⟩) (c38 : PySem.W.codeIn K cd38 "sees_never" = true) (k38 : PySem.W.keepIn K (.ref f38) = true)
    {f39 : Addr} {od39 an39 : Option Addr} {sl39 : Array (Option Value)} {oc39 kV39 dc39 pm39 cd39 ct39 : Value} (a39 : PySem.W.nsIn K mainGlobals "_law_looked" = some (some (.ref f39))) (l39 : K.lookup f39 = some ⟨oc39, od39, .func (PySem.W.fnOf "_law_looked" "_law_looked" (defArgs s__law_looked) (defBody s__law_looked) (defScope s__law_looked) .none kV39 dc39 pm39 an39 cd39 ct39), sl39⟩) (c39 : PySem.W.codeIn K cd39 "_law_looked" = true) (k39 : PySem.W.keepIn K (.ref f39) = true)
    {f40 : Addr} {od40 an40 : Option Addr} {sl40 : Array (Option Value)} {oc40 kV40 dc40 pm40 cd40 ct40 : Value} (a40 : PySem.W.nsIn K mainGlobals "_law_mixed" = some (some (.ref f40))) (l40 : K.lookup f40 = some ⟨oc40, od40, .func (PySem.W.fnOf "_law_mixed" "_law_mixed" (defArgs s__law_mixed) (defBody s__law_mixed) (defScope s__law_mixed) .none kV40 dc40 pm40 an40 cd40 ct40), sl40⟩) (c40 : PySem.W.codeIn K cd40 "_law_mixed" = true) (k40 : PySem.W.keepIn K (.ref f40) = true)
    {f41 : Addr} {od41 an41 : Option Addr} {sl41 : Array (Option Value)} {oc41 kV41 dc41 pm41 cd41 ct41 : Value} (a41 : PySem.W.nsIn K mainGlobals "_law_draws" = some (some (.ref f41))) (l41 : K.lookup f41 = some ⟨oc41, od41, .func (PySem.W.fnOf "_law_draws" "_law_draws" (defArgs s__law_draws) (defBody s__law_draws) (defScope s__law_draws) .none kV41 dc41 pm41 an41 cd41 ct41), sl41⟩) (c41 : PySem.W.codeIn K cd41 "_law_draws" = true) (k41 : PySem.W.keepIn K (.ref f41) = true)
    {f42 : Addr} {od42 an42 : Option Addr} {sl42 : Array (Option Value)} {oc42 kV42 dc42 pm42 cd42 ct42 : Value} (a42 : PySem.W.nsIn K mainGlobals "_law_cell" = some (some (.ref f42))) (l42 : K.lookup f42 = some ⟨oc42, od42, .func (PySem.W.fnOf "_law_cell" "_law_cell" (defArgs s__law_cell) (defBody s__law_cell) (defScope s__law_cell) .none kV42 dc42 pm42 an42 cd42 ct42), sl42⟩) (c42 : PySem.W.codeIn K cd42 "_law_cell" = true) (k42 : PySem.W.keepIn K (.ref f42) = true)
    {f43 : Addr} {od43 an43 : Option Addr} {sl43 : Array (Option Value)} {oc43 kV43 dc43 pm43 cd43 ct43 : Value} (a43 : PySem.W.nsIn K mainGlobals "_law_bad_things" = some (some (.ref f43))) (l43 : K.lookup f43 = some ⟨oc43, od43, .func (PySem.W.fnOf "_law_bad_things" "_law_bad_things" (defArgs s__law_bad_things) (defBody s__law_bad_things) (defScope s__law_bad_things) .none kV43 dc43 pm43 an43 cd43 ct43), sl43⟩) (c43 : PySem.W.codeIn K cd43 "_law_bad_things" = true) (k43 : PySem.W.keepIn K (.ref f43) = true)
    {f44 : Addr} {od44 an44 : Option Addr} {sl44 : Array (Option Value)} {oc44 kV44 dc44 pm44 cd44 ct44 : Value} (a44 : PySem.W.nsIn K mainGlobals "_law_unlike" = some (some (.ref f44))) (l44 : K.lookup f44 = some ⟨oc44, od44, .func (PySem.W.fnOf "_law_unlike" "_law_unlike" (defArgs s__law_unlike) (defBody s__law_unlike) (defScope s__law_unlike) .none kV44 dc44 pm44 an44 cd44 ct44), sl44⟩) (c44 : PySem.W.codeIn K cd44 "_law_unlike" = true) (k44 : PySem.W.keepIn K (.ref f44) = true)
    {f45 : Addr} {od45 an45 : Option Addr} {sl45 : Array (Option Value)} {oc45 kV45 dc45 pm45 cd45 ct45 : Value} (a45 : PySem.W.nsIn K mainGlobals "_law_drawn_house" = some (some (.ref f45))) (l45 : K.lookup f45 = some ⟨oc45, od45, .func (PySem.W.fnOf "_law_drawn_house" "_law_drawn_house" (defArgs s__law_drawn_house) (defBody s__law_drawn_house) (defScope s__law_drawn_house) .none kV45 dc45 pm45 an45 cd45 ct45), sl45⟩) (c45 : PySem.W.codeIn K cd45 "_law_drawn_house" = true) (k45 : PySem.W.keepIn K (.ref f45) = true)
    {f46 : Addr} {od46 an46 : Option Addr} {sl46 : Array (Option Value)} {oc46 kV46 dc46 pm46 cd46 ct46 : Value} (a46 : PySem.W.nsIn K mainGlobals "_law_gate_house" = some (some (.ref f46))) (l46 : K.lookup f46 = some ⟨oc46, od46, .func (PySem.W.fnOf "_law_gate_house" "_law_gate_house" (defArgs s__law_gate_house) (defBody s__law_gate_house) (defScope s__law_gate_house) .none kV46 dc46 pm46 an46 cd46 ct46), sl46⟩) (c46 : PySem.W.codeIn K cd46 "_law_gate_house" = true) (k46 : PySem.W.keepIn K (.ref f46) = true)
    {f47 : Addr} {od47 an47 : Option Addr} {sl47 : Array (Option Value)} {oc47 kV47 dc47 pm47 cd47 ct47 : Value} (a47 : PySem.W.nsIn K mainGlobals "_law_ring_house" = some (some (.ref f47))) (l47 : K.lookup f47 = some ⟨oc47, od47, .func (PySem.W.fnOf "_law_ring_house" "_law_ring_house" (defArgs s__law_ring_house) (defBody s__law_ring_house) (defScope s__law_ring_house) .none kV47 dc47 pm47 an47 cd47 ct47), sl47⟩) (c47 : PySem.W.codeIn K cd47 "_law_ring_house" = true) (k47 : PySem.W.keepIn K (.ref f47) = true)
    {f48 : Addr} {od48 an48 : Option Addr} {sl48 : Array (Option Value)} {oc48 kV48 dc48 pm48 cd48 ct48 : Value} (a48 : PySem.W.nsIn K mainGlobals "_law_spare" = some (some (.ref f48))) (l48 : K.lookup f48 = some ⟨oc48, od48, .func (PySem.W.fnOf "_law_spare" "_law_spare" (defArgs s__law_spare) (defBody s__law_spare) (defScope s__law_spare) .none kV48 dc48 pm48 an48 cd48 ct48), sl48⟩) (c48 : PySem.W.codeIn K cd48 "_law_spare" = true) (k48 : PySem.W.keepIn K (.ref f48) = true)
    {f49 : Addr} {od49 an49 : Option Addr} {sl49 : Array (Option Value)} {oc49 kV49 dc49 pm49 cd49 ct49 : Value} (a49 : PySem.W.nsIn K mainGlobals "_law_house" = some (some (.ref f49))) (l49 : K.lookup f49 = some ⟨oc49, od49, .func (PySem.W.fnOf "_law_house" "_law_house" (defArgs s__law_house) (defBody s__law_house) (defScope s__law_house) .none kV49 dc49 pm49 an49 cd49 ct49), sl49⟩) (c49 : PySem.W.codeIn K cd49 "_law_house" = true) (k49 : PySem.W.keepIn K (.ref f49) = true)
    {f50 : Addr} {od50 an50 : Option Addr} {sl50 : Array (Option Value)} {oc50 kV50 dc50 pm50 cd50 ct50 : Value} (a50 : PySem.W.nsIn K mainGlobals "law" = some (some (.ref f50))) (l50 : K.lookup f50 = some ⟨oc50, od50, .func (PySem.W.fnOf "law" "law" (defArgs s_law) (defBody s_law) (defScope s_law) .none kV50 dc50 pm50 an50 cd50 ct50), sl50⟩) (c50 : PySem.W.codeIn K cd50 "law" = true) (k50 : PySem.W.keepIn K (.ref f50) = true)
    (z0 : PySem.W.nsIn K mainGlobals "len" = some none)
    (z1 : PySem.W.nsIn K mainGlobals "isinstance" = some none)
    (z2 : PySem.W.nsIn K mainGlobals "tuple" = some none)
    (z3 : PySem.W.nsIn K mainGlobals "list" = some none)
    (z4 : PySem.W.nsIn K mainGlobals "int" = some none)
    (z5 : PySem.W.nsIn K mainGlobals "bool" = some none)
    (z6 : PySem.W.nsIn K mainGlobals "range" = some none)
    (z7 : PySem.W.nsIn K mainGlobals "zip" = some none)
    (z8 : PySem.W.nsIn K mainGlobals "max" = some none)
    (z9 : PySem.W.nsIn K mainGlobals "min" = some none)
    (z10 : PySem.W.nsIn K mainGlobals "abs" = some none)
    (z11 : PySem.W.nsIn K mainGlobals "all" = some none)
    (z12 : PySem.W.nsIn K mainGlobals "ValueError" = some none)
    (z13 : PySem.W.nsIn K mainGlobals "enumerate" = some none)
    (z14 : PySem.W.nsIn K mainGlobals "set" = some none)
    (z15 : PySem.W.nsIn K mainGlobals "str" = some none)
    (z16 : PySem.W.nsIn K mainGlobals "reversed" = some none)
    (z17 : PySem.W.nsIn K mainGlobals "any" = some none)
    (z18 : PySem.W.nsIn K mainGlobals "sorted" = some none)
    {t0 : Tok} (v0 : PySem.W.nsIn K mainGlobals "GREATEST_WAYS" = some (some (.int 100 t0)))
    {t1 : Tok} (v1 : PySem.W.nsIn K mainGlobals "GREATEST_MANY" = some (some (.int 12 t1)))
    {e0 : Addr} {q0_0 u0_0 q0_1 u0_1 q0_2 u0_2 q0_3 u0_3 : Tok} {ep0 : Nat} (x0 : PySem.W.nsIn K mainGlobals "TURNED" = some (some (.ref e0))) (y0 : K.lookup e0 = some (gdO w [("up", q0_0, .str "down" u0_0), ("down", q0_1, .str "up" u0_1), ("stay", q0_2, .str "stay" u0_2), ("zero", q0_3, .str "zero" u0_3)] ep0)) (w0 : (e0 == sysModules) = false)
    (hxf : xfB K allC raisedC = true)
    : ∃ fd : FuncData, (∀ (s : Shared) (v : Value), BindsTo s fd ⟨[v], []⟩ [("_law_script", v)]) ∧ ∀ base : Heap, K.In base → base.Ns mainGlobals mg → FnOk l.prog w K mg base CX0 12 fa fd ["_law_script"] (sp_law K) := by
  have e := hfa.symm.trans (PySem.W.mg_of X G a50)
  cases e
  have T : Blt mg := ⟨PySem.W.mg_none_of X G z0, PySem.W.mg_none_of X G z1, PySem.W.mg_none_of X G z2, PySem.W.mg_none_of X G z3, PySem.W.mg_none_of X G z4, PySem.W.mg_none_of X G z5, PySem.W.mg_none_of X G z6, PySem.W.mg_none_of X G z7, PySem.W.mg_none_of X G z8, PySem.W.mg_none_of X G z9, PySem.W.mg_none_of X G z10, PySem.W.mg_none_of X G z11, PySem.W.mg_none_of X G z12, PySem.W.mg_none_of X G z13, PySem.W.mg_none_of X G z14, PySem.W.mg_none_of X G z15, PySem.W.mg_none_of X G z16, PySem.W.mg_none_of X G z17, PySem.W.mg_none_of X G z18⟩
  have D0 : Dfn K mg "way_text" s_way_text ["way"] := ⟨f0, _, PySem.W.mg_of X G a0, fun_mk (st := s_way_text) l0 c0 k0, (fun_mk (st := s_way_text) l0 c0 k0).binds (ps := ["way"]) fun _ _ _ _ _ _ us hl => match us, hl with | [_], _ => rfl⟩
  have D1 : Dfn K mg "is_sign" s_is_sign ["thing"] := ⟨f1, _, PySem.W.mg_of X G a1, fun_mk (st := s_is_sign) l1 c1 k1, (fun_mk (st := s_is_sign) l1 c1 k1).binds (ps := ["thing"]) fun _ _ _ _ _ _ us hl => match us, hl with | [_], _ => rfl⟩
  have D2 : Dfn K mg "is_deed" s_is_deed ["thing"] := ⟨f2, _, PySem.W.mg_of X G a2, fun_mk (st := s_is_deed) l2 c2 k2, (fun_mk (st := s_is_deed) l2 c2 k2).binds (ps := ["thing"]) fun _ _ _ _ _ _ us hl => match us, hl with | [_], _ => rfl⟩
  have D3 : Dfn K mg "is_whole" s_is_whole ["thing"] := ⟨f3, _, PySem.W.mg_of X G a3, fun_mk (st := s_is_whole) l3 c3 k3, (fun_mk (st := s_is_whole) l3 c3 k3).binds (ps := ["thing"]) fun _ _ _ _ _ _ us hl => match us, hl with | [_], _ => rfl⟩
  have D4 : Dfn K mg "is_room" s_is_room ["thing", "many"] := ⟨f4, _, PySem.W.mg_of X G a4, fun_mk (st := s_is_room) l4 c4 k4, (fun_mk (st := s_is_room) l4 c4 k4).binds (ps := ["thing", "many"]) fun _ _ _ _ _ _ us hl => match us, hl with | [_, _], _ => rfl⟩
  have D5 : Dfn K mg "is_way" s_is_way ["thing", "many"] := ⟨f5, _, PySem.W.mg_of X G a5, fun_mk (st := s_is_way) l5 c5 k5, (fun_mk (st := s_is_way) l5 c5 k5).binds (ps := ["thing", "many"]) fun _ _ _ _ _ _ us hl => match us, hl with | [_, _], _ => rfl⟩
  have D6 : Dfn K mg "are_ways" s_are_ways ["thing", "many"] := ⟨f6, _, PySem.W.mg_of X G a6, fun_mk (st := s_are_ways) l6 c6 k6, (fun_mk (st := s_are_ways) l6 c6 k6).binds (ps := ["thing", "many"]) fun _ _ _ _ _ _ us hl => match us, hl with | [_, _], _ => rfl⟩
  have D7 : Dfn K mg "is_house" s_is_house ["thing"] := ⟨f7, _, PySem.W.mg_of X G a7, fun_mk (st := s_is_house) l7 c7 k7, (fun_mk (st := s_is_house) l7 c7 k7).binds (ps := ["thing"]) fun _ _ _ _ _ _ us hl => match us, hl with | [_], _ => rfl⟩
  have D8 : Dfn K mg "refuse_no_house" s_refuse_no_house ["thing"] := ⟨f8, _, PySem.W.mg_of X G a8, fun_mk (st := s_refuse_no_house) l8 c8 k8, (fun_mk (st := s_refuse_no_house) l8 c8 k8).binds (ps := ["thing"]) fun _ _ _ _ _ _ us hl => match us, hl with | [_], _ => rfl⟩
  have D9 : Dfn K mg "shown_house" s_shown_house ["house"] := ⟨f9, _, PySem.W.mg_of X G a9, fun_mk (st := s_shown_house) l9 c9 k9, (fun_mk (st := s_shown_house) l9 c9 k9).binds (ps := ["house"]) fun _ _ _ _ _ _ us hl => match us, hl with | [_], _ => rfl⟩
  have D10 : Dfn K mg "forward" s_forward ["house", "place"] := ⟨f10, _, PySem.W.mg_of X G a10, fun_mk (st := s_forward) l10 c10 k10, (fun_mk (st := s_forward) l10 c10 k10).binds (ps := ["house", "place"]) fun _ _ _ _ _ _ us hl => match us, hl with | [_, _], _ => rfl⟩
  have D11 : Dfn K mg "rooms_at" s_rooms_at ["house", "place", "l"] := ⟨f11, _, PySem.W.mg_of X G a11, fun_mk (st := s_rooms_at) l11 c11 k11, (fun_mk (st := s_rooms_at) l11 c11 k11).binds (ps := ["house", "place", "l"]) fun _ _ _ _ _ _ us hl => match us, hl with | [_, _, _], _ => rfl⟩
  have D12 : Dfn K mg "fallen" s_fallen ["house"] := ⟨f12, _, PySem.W.mg_of X G a12, fun_mk (st := s_fallen) l12 c12 k12, (fun_mk (st := s_fallen) l12 c12 k12).binds (ps := ["house"]) fun _ _ _ _ _ _ us hl => match us, hl with | [_], _ => rfl⟩
  have D13 : Dfn K mg "risen" s_risen ["house"] := ⟨f13, _, PySem.W.mg_of X G a13, fun_mk (st := s_risen) l13 c13 k13, (fun_mk (st := s_risen) l13 c13 k13).binds (ps := ["house"]) fun _ _ _ _ _ _ us hl => match us, hl with | [_], _ => rfl⟩
  have D14 : Dfn K mg "kept" s_kept ["house"] := ⟨f14, _, PySem.W.mg_of X G a14, fun_mk (st := s_kept) l14 c14 k14, (fun_mk (st := s_kept) l14 c14 k14).binds (ps := ["house"]) fun _ _ _ _ _ _ us hl => match us, hl with | [_], _ => rfl⟩
  have D15 : Dfn K mg "shortest" s_shortest ["house", "place", "goal"] := ⟨f15, _, PySem.W.mg_of X G a15, fun_mk (st := s_shortest) l15 c15 k15, (fun_mk (st := s_shortest) l15 c15 k15).binds (ps := ["house", "place", "goal"]) fun _ _ _ _ _ _ us hl => match us, hl with | [_, _, _], _ => rfl⟩
  have D16 : Dfn K mg "walked" s_walked ["house", "place", "walk"] := ⟨f16, _, PySem.W.mg_of X G a16, fun_mk (st := s_walked) l16 c16 k16, (fun_mk (st := s_walked) l16 c16 k16).binds (ps := ["house", "place", "walk"]) fun _ _ _ _ _ _ us hl => match us, hl with | [_, _, _], _ => rfl⟩
  have D17 : Dfn K mg "open_ways" s_open_ways ["house", "place"] := ⟨f17, _, PySem.W.mg_of X G a17, fun_mk (st := s_open_ways) l17 c17 k17, (fun_mk (st := s_open_ways) l17 c17 k17).binds (ps := ["house", "place"]) fun _ _ _ _ _ _ us hl => match us, hl with | [_, _], _ => rfl⟩
  have D18 : Dfn K mg "turned_about" s_turned_about ["house"] := ⟨f18, _, PySem.W.mg_of X G a18, fun_mk (st := s_turned_about) l18 c18 k18, (fun_mk (st := s_turned_about) l18 c18 k18).binds (ps := ["house"]) fun _ _ _ _ _ _ us hl => match us, hl with | [_], _ => rfl⟩
  have D19 : Dfn K mg "_law_one" s__law_one ["_law_way", "_law_thing", "_law_far"] := ⟨f19, _, PySem.W.mg_of X G a19, fun_mk (st := s__law_one) l19 c19 k19, (fun_mk (st := s__law_one) l19 c19 k19).binds (ps := ["_law_way", "_law_thing", "_law_far"]) fun _ _ _ _ _ _ us hl => match us, hl with | [_, _, _], _ => rfl⟩
  have D20 : Dfn K mg "is_bare" s_is_bare ["house"] := ⟨f20, _, PySem.W.mg_of X G a20, fun_mk (st := s_is_bare) l20 c20 k20, (fun_mk (st := s_is_bare) l20 c20 k20).binds (ps := ["house"]) fun _ _ _ _ _ _ us hl => match us, hl with | [_], _ => rfl⟩
  have D21 : Dfn K mg "side_by_side" s_side_by_side ["house", "bare"] := ⟨f21, _, PySem.W.mg_of X G a21, fun_mk (st := s_side_by_side) l21 c21 k21, (fun_mk (st := s_side_by_side) l21 c21 k21).binds (ps := ["house", "bare"]) fun _ _ _ _ _ _ us hl => match us, hl with | [_, _], _ => rfl⟩
  have D22 : Dfn K mg "refuse_bad_rooms" s_refuse_bad_rooms ["house", "p", "q"] := ⟨f22, _, PySem.W.mg_of X G a22, fun_mk (st := s_refuse_bad_rooms) l22 c22 k22, (fun_mk (st := s_refuse_bad_rooms) l22 c22 k22).binds (ps := ["house", "p", "q"]) fun _ _ _ _ _ _ us hl => match us, hl with | [_, _, _], _ => rfl⟩
  have D23 : Dfn K mg "first_words" s_first_words ["house", "p", "q", "length", "many"] := ⟨f23, _, PySem.W.mg_of X G a23, fun_mk (st := s_first_words) l23 c23 k23, (fun_mk (st := s_first_words) l23 c23 k23).binds (ps := ["house", "p", "q", "length", "many"]) fun _ _ _ _ _ _ us hl => match us, hl with | [_, _, _, _, _], _ => rfl⟩
  have D24 : Dfn K mg "first_word" s_first_word ["house", "p", "q"] := ⟨f24, _, PySem.W.mg_of X G a24, fun_mk (st := s_first_word) l24 c24 k24, (fun_mk (st := s_first_word) l24 c24 k24).binds (ps := ["house", "p", "q"]) fun _ _ _ _ _ _ us hl => match us, hl with | [_, _, _], _ => rfl⟩
  have D25 : Dfn K mg "reads" s_reads ["house", "p", "q", "text"] := ⟨f25, _, PySem.W.mg_of X G a25, fun_mk (st := s_reads) l25 c25 k25, (fun_mk (st := s_reads) l25 c25 k25).binds (ps := ["house", "p", "q", "text"]) fun _ _ _ _ _ _ us hl => match us, hl with | [_, _, _, _], _ => rfl⟩
  have D26 : Dfn K mg "ranks" s_ranks ["house", "place"] := ⟨f26, _, PySem.W.mg_of X G a26, fun_mk (st := s_ranks) l26 c26 k26, (fun_mk (st := s_ranks) l26 c26 k26).binds (ps := ["house", "place"]) fun _ _ _ _ _ _ us hl => match us, hl with | [_, _], _ => rfl⟩
  have D27 : Dfn K mg "stops" s_stops ["house", "place"] := ⟨f27, _, PySem.W.mg_of X G a27, fun_mk (st := s_stops) l27 c27 k27, (fun_mk (st := s_stops) l27 c27 k27).binds (ps := ["house", "place"]) fun _ _ _ _ _ _ us hl => match us, hl with | [_, _], _ => rfl⟩
  have D28 : Dfn K mg "greatest" s_greatest ["house", "place"] := ⟨f28, _, PySem.W.mg_of X G a28, fun_mk (st := s_greatest) l28 c28 k28, (fun_mk (st := s_greatest) l28 c28 k28).binds (ps := ["house", "place"]) fun _ _ _ _ _ _ us hl => match us, hl with | [_, _], _ => rfl⟩
  have D29 : Dfn K mg "fate" s_fate ["house", "place"] := ⟨f29, _, PySem.W.mg_of X G a29, fun_mk (st := s_fate) l29 c29 k29, (fun_mk (st := s_fate) l29 c29 k29).binds (ps := ["house", "place"]) fun _ _ _ _ _ _ us hl => match us, hl with | [_, _], _ => rfl⟩
  have D30 : Dfn K mg "backward" s_backward ["house", "goal"] := ⟨f30, _, PySem.W.mg_of X G a30, fun_mk (st := s_backward) l30 c30 k30, (fun_mk (st := s_backward) l30 c30 k30).binds (ps := ["house", "goal"]) fun _ _ _ _ _ _ us hl => match us, hl with | [_, _], _ => rfl⟩
  have D31 : Dfn K mg "answer" s_answer ["house", "place", "goal"] := ⟨f31, _, PySem.W.mg_of X G a31, fun_mk (st := s_answer) l31 c31 k31, (fun_mk (st := s_answer) l31 c31 k31).binds (ps := ["house", "place", "goal"]) fun _ _ _ _ _ _ us hl => match us, hl with | [_, _, _], _ => rfl⟩
  have D32 : Dfn K mg "_law_two" s__law_two ["_law_way", "_law_thing", "_law_far"] := ⟨f32, _, PySem.W.mg_of X G a32, fun_mk (st := s__law_two) l32 c32 k32, (fun_mk (st := s__law_two) l32 c32 k32).binds (ps := ["_law_way", "_law_thing", "_law_far"]) fun _ _ _ _ _ _ us hl => match us, hl with | [_, _, _], _ => rfl⟩
  have D33 : Dfn K mg "_law_refused" s__law_refused ["_law_way", "_law_thing", "_law_far"] := ⟨f33, _, PySem.W.mg_of X G a33, fun_mk (st := s__law_refused) l33 c33 k33, (fun_mk (st := s__law_refused) l33 c33 k33).binds (ps := ["_law_way", "_law_thing", "_law_far"]) fun _ _ _ _ _ _ us hl => match us, hl with | [_, _, _], _ => rfl⟩
  have D34 : Dfn K mg "ring_places" s_ring_places ["house", "place", "walk", "ring"] := ⟨f34, _, PySem.W.mg_of X G a34, fun_mk (st := s_ring_places) l34 c34 k34, (fun_mk (st := s_ring_places) l34 c34 k34).binds (ps := ["house", "place", "walk", "ring"]) fun _ _ _ _ _ _ us hl => match us, hl with | [_, _, _, _], _ => rfl⟩
  have D35 : Dfn K mg "sees_same" s_sees_same ["house", "place", "walk", "ring"] := ⟨f35, _, PySem.W.mg_of X G a35, fun_mk (st := s_sees_same) l35 c35 k35, (fun_mk (st := s_sees_same) l35 c35 k35).binds (ps := ["house", "place", "walk", "ring"]) fun _ _ _ _ _ _ us hl => match us, hl with | [_, _, _, _], _ => rfl⟩
  have D36 : Dfn K mg "sees_rise" s_sees_rise ["house", "place", "walk", "ring"] := ⟨f36, _, PySem.W.mg_of X G a36, fun_mk (st := s_sees_rise) l36 c36 k36, (fun_mk (st := s_sees_rise) l36 c36 k36).binds (ps := ["house", "place", "walk", "ring"]) fun _ _ _ _ _ _ us hl => match us, hl with | [_, _, _, _], _ => rfl⟩
  have D37 : Dfn K mg "sees_closed" s_sees_closed ["house", "stairs"] := ⟨f37, _, PySem.W.mg_of X G a37, fun_mk (st := s_sees_closed) l37 c37 k37, (fun_mk (st := s_sees_closed) l37 c37 k37).binds (ps := ["house", "stairs"]) fun _ _ _ _ _ _ us hl => match us, hl with | [_, _], _ => rfl⟩
  have D38 : Dfn K mg "sees_never" s_sees_never ["house", "place", "goal", "stairs"] := ⟨f38, _, PySem.W.mg_of X G a38, fun_mk (st := s_sees_never) l38 c38 k38, (fun_mk (st := s_sees_never) l38 c38 k38).binds (ps := ["house", "place", "goal", "stairs"]) fun _ _ _ _ _ _ us hl => match us, hl with | [_, _, _, _], _ => rfl⟩
  have D39 : Dfn K mg "_law_looked" s__law_looked ["_law_thing"] := ⟨f39, _, PySem.W.mg_of X G a39, fun_mk (st := s__law_looked) l39 c39 k39, (fun_mk (st := s__law_looked) l39 c39 k39).binds (ps := ["_law_thing"]) fun _ _ _ _ _ _ us hl => match us, hl with | [_], _ => rfl⟩
  have D40 : Dfn K mg "_law_mixed" s__law_mixed ["_law_cell_here", "_law_k", "_law_prime"] := ⟨f40, _, PySem.W.mg_of X G a40, fun_mk (st := s__law_mixed) l40 c40 k40, (fun_mk (st := s__law_mixed) l40 c40 k40).binds (ps := ["_law_cell_here", "_law_k", "_law_prime"]) fun _ _ _ _ _ _ us hl => match us, hl with | [_, _, _], _ => rfl⟩
  have D41 : Dfn K mg "_law_draws" s__law_draws ["_law_cell_here", "_law_widths", "_law_prime"] := ⟨f41, _, PySem.W.mg_of X G a41, fun_mk (st := s__law_draws) l41 c41 k41, (fun_mk (st := s__law_draws) l41 c41 k41).binds (ps := ["_law_cell_here", "_law_widths", "_law_prime"]) fun _ _ _ _ _ _ us hl => match us, hl with | [_, _, _], _ => rfl⟩
  have D42 : Dfn K mg "_law_cell" s__law_cell ["_law_script", "_law_k"] := ⟨f42, _, PySem.W.mg_of X G a42, fun_mk (st := s__law_cell) l42 c42 k42, (fun_mk (st := s__law_cell) l42 c42 k42).binds (ps := ["_law_script", "_law_k"]) fun _ _ _ _ _ _ us hl => match us, hl with | [_, _], _ => rfl⟩
  have D43 : Dfn K mg "_law_bad_things" s__law_bad_things ["_law_house_here", "_law_at"] := ⟨f43, _, PySem.W.mg_of X G a43, fun_mk (st := s__law_bad_things) l43 c43 k43, (fun_mk (st := s__law_bad_things) l43 c43 k43).binds (ps := ["_law_house_here", "_law_at"]) fun _ _ _ _ _ _ us hl => match us, hl with | [_, _], _ => rfl⟩
  have D44 : Dfn K mg "_law_unlike" s__law_unlike ["_law_ways"] := ⟨f44, _, PySem.W.mg_of X G a44, fun_mk (st := s__law_unlike) l44 c44 k44, (fun_mk (st := s__law_unlike) l44 c44 k44).binds (ps := ["_law_ways"]) fun _ _ _ _ _ _ us hl => match us, hl with | [_], _ => rfl⟩
  have D45 : Dfn K mg "_law_drawn_house" s__law_drawn_house ["_law_cell_here", "_law_prime"] := ⟨f45, _, PySem.W.mg_of X G a45, fun_mk (st := s__law_drawn_house) l45 c45 k45, (fun_mk (st := s__law_drawn_house) l45 c45 k45).binds (ps := ["_law_cell_here", "_law_prime"]) fun _ _ _ _ _ _ us hl => match us, hl with | [_, _], _ => rfl⟩
  have D46 : Dfn K mg "_law_gate_house" s__law_gate_house ["_law_cell_here", "_law_prime"] := ⟨f46, _, PySem.W.mg_of X G a46, fun_mk (st := s__law_gate_house) l46 c46 k46, (fun_mk (st := s__law_gate_house) l46 c46 k46).binds (ps := ["_law_cell_here", "_law_prime"]) fun _ _ _ _ _ _ us hl => match us, hl with | [_, _], _ => rfl⟩
  have D47 : Dfn K mg "_law_ring_house" s__law_ring_house ["_law_cell_here", "_law_prime"] := ⟨f47, _, PySem.W.mg_of X G a47, fun_mk (st := s__law_ring_house) l47 c47 k47, (fun_mk (st := s__law_ring_house) l47 c47 k47).binds (ps := ["_law_cell_here", "_law_prime"]) fun _ _ _ _ _ _ us hl => match us, hl with | [_, _], _ => rfl⟩
  have D48 : Dfn K mg "_law_spare" s__law_spare ["_law_cell_here", "_law_width"] := ⟨f48, _, PySem.W.mg_of X G a48, fun_mk (st := s__law_spare) l48 c48 k48, (fun_mk (st := s__law_spare) l48 c48 k48).binds (ps := ["_law_cell_here", "_law_width"]) fun _ _ _ _ _ _ us hl => match us, hl with | [_, _], _ => rfl⟩
  have D49 : Dfn K mg "_law_house" s__law_house ["_law_cell_here", "_law_prime"] := ⟨f49, _, PySem.W.mg_of X G a49, fun_mk (st := s__law_house) l49 c49 k49, (fun_mk (st := s__law_house) l49 c49 k49).binds (ps := ["_law_cell_here", "_law_prime"]) fun _ _ _ _ _ _ us hl => match us, hl with | [_, _], _ => rfl⟩
  refine ⟨PySem.W.fnOf "law" "law" (defArgs s_law) (defBody s_law) (defScope s_law) .none kV50 dc50 pm50 an50 cd50 ct50, fun s v => .of_eq rfl, fun base KB GB => ?_⟩
  have XF : Xf K mg base allC raisedC := xf_mk KB GB hxf
  have C0 : Cal l.prog w K mg base "way_text" 1 ["way"] (sp_way_text K) := ok_way_text D0 T
  have C1 : Cal l.prog w K mg base "is_sign" 1 ["thing"] (sp_is_sign K) := ok_is_sign D1 T
  have C2 : Cal l.prog w K mg base "is_deed" 1 ["thing"] (sp_is_deed K) := ok_is_deed D2 T ⟨_, PySem.W.mg_of X G x0, gdk_TURNED y0 w0⟩
  have C3 : Cal l.prog w K mg base "is_whole" 1 ["thing"] (sp_is_whole K) := ok_is_whole D3 T
  have C4 : Cal l.prog w K mg base "is_room" 2 ["thing", "many"] (sp_is_room K) := ok_is_room D4 T C3
  have C5 : Cal l.prog w K mg base "is_way" 3 ["thing", "many"] (sp_is_way K) := ok_is_way D5 T C1 C2 C4
  have C6 : Cal l.prog w K mg base "are_ways" 4 ["thing", "many"] (sp_are_ways K) := ok_are_ways D6 T ⟨_, PySem.W.mg_of X G v0⟩ C5
  have C7 : Cal l.prog w K mg base "is_house" 5 ["thing"] (sp_is_house K) := ok_is_house D7 T ⟨_, PySem.W.mg_of X G v1⟩ C6 C3
  have C8 : CalX l.prog w K mg base "refuse_no_house" 6 ["thing"] (sp_refuse_no_house K) := ok_refuse_no_house D8 T XF C7
  have C9 : CalX l.prog w K mg base "shown_house" 7 ["house"] (sp_shown_house K) := ok_shown_house D9 T C0 C8
  have C10 : CalX l.prog w K mg base "forward" 7 ["house", "place"] (sp_forward K) := ok_forward D10 T C8
  have C11 : CalX l.prog w K mg base "rooms_at" 8 ["house", "place", "l"] (sp_rooms_at K) := ok_rooms_at D11 T C10
  have C12 : CalX l.prog w K mg base "fallen" 7 ["house"] (sp_fallen K) := ok_fallen D12 T C8
  have C13 : CalX l.prog w K mg base "risen" 7 ["house"] (sp_risen K) := ok_risen D13 T C8
  have C14 : CalX l.prog w K mg base "kept" 7 ["house"] (sp_kept K) := ok_kept D14 T C8
  have C15 : CalX l.prog w K mg base "shortest" 7 ["house", "place", "goal"] (sp_shortest K) := ok_shortest D15 T C8
  have C16 : CalX l.prog w K mg base "walked" 7 ["house", "place", "walk"] (sp_walked K) := ok_walked D16 T C8
  have C17 : CalX l.prog w K mg base "open_ways" 7 ["house", "place"] (sp_open_ways K) := ok_open_ways D17 T C8
  have C18 : CalX l.prog w K mg base "turned_about" 7 ["house"] (sp_turned_about K) := ok_turned_about D18 T C8
  have C19 : CalX l.prog w K mg base "_law_one" 9 ["_law_way", "_law_thing", "_law_far"] (sp__law_one K) := ok__law_one D19 T C10 C11 C12 C13 C14 C15 C16 C17 C18
  have C20 : CalX l.prog w K mg base "is_bare" 7 ["house"] (sp_is_bare K) := ok_is_bare D20 T C8
  have C21 : CalX l.prog w K mg base "side_by_side" 8 ["house", "bare"] (sp_side_by_side K) := ok_side_by_side D21 T XF C20 C8
  have C22 : CalX l.prog w K mg base "refuse_bad_rooms" 7 ["house", "p", "q"] (sp_refuse_bad_rooms K) := ok_refuse_bad_rooms D22 T C8
  have C23 : CalX l.prog w K mg base "first_words" 8 ["house", "p", "q", "length", "many"] (sp_first_words K) := ok_first_words D23 T C22
  have C24 : CalX l.prog w K mg base "first_word" 8 ["house", "p", "q"] (sp_first_word K) := ok_first_word D24 T C22
  have C25 : CalX l.prog w K mg base "reads" 8 ["house", "p", "q", "text"] (sp_reads K) := ok_reads D25 T C22
  have C26 : CalX l.prog w K mg base "ranks" 7 ["house", "place"] (sp_ranks K) := ok_ranks D26 T C8
  have C27 : CalX l.prog w K mg base "stops" 8 ["house", "place"] (sp_stops K) := ok_stops D27 T C10
  have C28 : CalX l.prog w K mg base "greatest" 8 ["house", "place"] (sp_greatest K) := ok_greatest D28 T C10
  have C29 : CalX l.prog w K mg base "fate" 9 ["house", "place"] (sp_fate K) := ok_fate D29 T C28
  have C30 : CalX l.prog w K mg base "backward" 8 ["house", "goal"] (sp_backward K) := ok_backward D30 T C10 C18
  have C31 : CalX l.prog w K mg base "answer" 8 ["house", "place", "goal"] (sp_answer K) := ok_answer D31 T C15
  have C32 : CalX l.prog w K mg base "_law_two" 10 ["_law_way", "_law_thing", "_law_far"] (sp__law_two K) := ok__law_two D32 T C9 C20 C21 C23 C24 C25 C26 C27 C29 C28 C30 C31
  have C33 : Cal l.prog w K mg base "_law_refused" 11 ["_law_way", "_law_thing", "_law_far"] (sp__law_refused K) := ok__law_refused D33 T XF C19 C32
  have C34 : Cal l.prog w K mg base "ring_places" 6 ["house", "place", "walk", "ring"] (sp_ring_places K) := ok_ring_places D34 T C7
  have C35 : Cal l.prog w K mg base "sees_same" 7 ["house", "place", "walk", "ring"] (sp_sees_same K) := ok_sees_same D35 T C34
  have C36 : Cal l.prog w K mg base "sees_rise" 7 ["house", "place", "walk", "ring"] (sp_sees_rise K) := ok_sees_rise D36 T C34
  have C37 : Cal l.prog w K mg base "sees_closed" 6 ["house", "stairs"] (sp_sees_closed K) := ok_sees_closed D37 T C7
  have C38 : Cal l.prog w K mg base "sees_never" 7 ["house", "place", "goal", "stairs"] (sp_sees_never K) := ok_sees_never D38 T C37
  have C39 : Cal l.prog w K mg base "_law_looked" 8 ["_law_thing"] (sp__law_looked K) := ok__law_looked D39 T C7 C35 C36 C38 C37
  have C40 : Cal l.prog w K mg base "_law_mixed" 1 ["_law_cell_here", "_law_k", "_law_prime"] (sp__law_mixed K) := ok__law_mixed D40 T
  have C41 : Cal l.prog w K mg base "_law_draws" 2 ["_law_cell_here", "_law_widths", "_law_prime"] (sp__law_draws K) := ok__law_draws D41 T C40
  have C42 : Cal l.prog w K mg base "_law_cell" 1 ["_law_script", "_law_k"] (sp__law_cell K) := ok__law_cell D42 T
  have C43 : Cal l.prog w K mg base "_law_bad_things" 1 ["_law_house_here", "_law_at"] (sp__law_bad_things K) := ok__law_bad_things D43 T
  have C44 : Cal l.prog w K mg base "_law_unlike" 1 ["_law_ways"] (sp__law_unlike K) := ok__law_unlike D44 T
  have C45 : Cal l.prog w K mg base "_law_drawn_house" 3 ["_law_cell_here", "_law_prime"] (sp__law_drawn_house K) := ok__law_drawn_house D45 T C44 C41
  have C46 : Cal l.prog w K mg base "_law_gate_house" 3 ["_law_cell_here", "_law_prime"] (sp__law_gate_house K) := ok__law_gate_house D46 T C44 C41
  have C47 : Cal l.prog w K mg base "_law_ring_house" 3 ["_law_cell_here", "_law_prime"] (sp__law_ring_house K) := ok__law_ring_house D47 T C41
  have C48 : Cal l.prog w K mg base "_law_spare" 1 ["_law_cell_here", "_law_width"] (sp__law_spare K) := ok__law_spare D48 T
  have C49 : Cal l.prog w K mg base "_law_house" 4 ["_law_cell_here", "_law_prime"] (sp__law_house K) := ok__law_house D49 T C45 C46 C47 C48 C41
  exact ok_law (fun_mk (st := s_law) l50 c50 k50) T C33 C39 C41 C42 C43 C49 C9.cal
theorem walk {l : PySem.W.OpenLaw} {q : Program} {loose : List Str} {XP : (Str → Option Value) → Heap → Prop} {YP : World → Heap → Prop} {d : DefRec} {K : Params → PySem.W.Frag} (hn : l.most = some 63) (hdf : d.params.defaults = [])
    (hY : ∀ (w : World) (h : Heap), YP w h → (K w.params).In h)
    (F : ∀ (w : World) (mg : Str → Option Value) (fa : Addr) (h : Heap), (K w.params).In h → h.Ns mainGlobals mg → mg d.name = some (.ref fa) →
      ∃ fd : FuncData, (∀ (s : Shared) (u : Value), BindsTo s fd ⟨[u], []⟩ [("_law_script", u)]) ∧ ∀ base : Heap, (K w.params).In base → base.Ns mainGlobals mg → FnOk l.prog w (K w.params) mg base CX0 12 fa fd ["_law_script"] (sp_law (K w.params))) :
    PySem.W.WalkO q loose XP YP l.row.toRowW d [] (fun f vs => PySem.call f vs) :=
  L2.walk_of (n := 63) (k := 12) (x := "_law_script") (CX := fun _ => CX0) (sp := fun w => sp_law (K w.params)) hn (by decide) hdf ⟨rfl, by decide, by decide⟩ hY F (fun _ _ a ns hl _ hS => ⟨a, ns, rfl, hS, hl, fun _ => rfl⟩) fun _ _ _ _ _ z => z
end My
open PySem PySem.W PyProof.Rows
set_option maxRecDepth 100000 in
set_option maxHeartbeats 0 in
theorem PySem.Challenge.cw_stairrooms_k14_no_house_is_refused_holds : PySem.Challenge.rw_stairrooms_k14_no_house_is_refused.Holds := by
  refine My.top ?_
  k_fill
  refine My.walk (l := PySem.Challenge.rw_stairrooms_k14_no_house_is_refused) rfl rfl (fun w h Y => by first | exact PySem.W.kIn_of Y | exact PySem.W.km_in_of Y) ?F
  case F =>
    intro w mg fa h KX G hmg
    refine' My.all_mk KX G hmg ?a0 ?l0 ?c0 ?k0 ?a1 ?l1 ?c1 ?k1 ?a2 ?l2 ?c2 ?k2 ?a3 ?l3 ?c3 ?k3 ?a4 ?l4 ?c4 ?k4 ?a5 ?l5 ?c5 ?k5 ?a6 ?l6 ?c6 ?k6 ?a7 ?l7 ?c7 ?k7 ?a8 ?l8 ?c8 ?k8 ?a9 ?l9 ?c9 ?k9 ?a10 ?l10 ?c10 ?k10 ?a11 ?l11 ?c11 ?k11 ?a12 ?l12 ?c12 ?k12 ?a13 ?l13 ?c13 ?k13 ?a14 ?l14 ?c14 ?k14 ?a15 ?l15 ?c15 ?k15 ?a16 ?l16 ?c16 ?k16 ?a17 ?l17 ?c17 ?k17 ?a18 ?l18 ?c18 ?k18 ?a19 ?l19 ?c19 ?k19 ?a20 ?l20 ?c20 ?k20 ?a21 ?l21 ?c21 ?k21 ?a22 ?l22 ?c22 ?k22 ?a23 ?l23 ?c23 ?k23 ?a24 ?l24 ?c24 ?k24 ?a25 ?l25 ?c25 ?k25 ?a26 ?l26 ?c26 ?k26 ?a27 ?l27 ?c27 ?k27 ?a28 ?l28 ?c28 ?k28 ?a29 ?l29 ?c29 ?k29 ?a30 ?l30 ?c30 ?k30 ?a31 ?l31 ?c31 ?k31 ?a32 ?l32 ?c32 ?k32 ?a33 ?l33 ?c33 ?k33 ?a34 ?l34 ?c34 ?k34 ?a35 ?l35 ?c35 ?k35 ?a36 ?l36 ?c36 ?k36 ?a37 ?l37 ?c37 ?k37 ?a38 ?l38 ?c38 ?k38 ?a39 ?l39 ?c39 ?k39 ?a40 ?l40 ?c40 ?k40 ?a41 ?l41 ?c41 ?k41 ?a42 ?l42 ?c42 ?k42 ?a43 ?l43 ?c43 ?k43 ?a44 ?l44 ?c44 ?k44 ?a45 ?l45 ?c45 ?k45 ?a46 ?l46 ?c46 ?k46 ?a47 ?l47 ?c47 ?k47 ?a48 ?l48 ?c48 ?k48 ?a49 ?l49 ?c49 ?k49 ?a50 ?l50 ?c50 ?k50 ?z0 ?z1 ?z2 ?z3 ?z4 ?z5 ?z6 ?z7 ?z8 ?z9 ?z10 ?z11 ?z12 ?z13 ?z14 ?z15 ?z16 ?z17 ?z18 ?v0 ?v1 ?x0 ?y0 ?w0 ?hxf
    (case a0 => k_is); (case l0 => k_is); (case c0 => k_is); (case k0 => k_is)
    (case a1 => k_is); (case l1 => k_is); (case c1 => k_is); (case k1 => k_is)
    (case a2 => k_is); (case l2 => k_is); (case c2 => k_is); (case k2 => k_is)
    (case a3 => k_is); (case l3 => k_is); (case c3 => k_is); (case k3 => k_is)
    (case a4 => k_is); (case l4 => k_is); (case c4 => k_is); (case k4 => k_is)
    (case a5 => k_is); (case l5 => k_is); (case c5 => k_is); (case k5 => k_is)
    (case a6 => k_is); (case l6 => k_is); (case c6 => k_is); (case k6 => k_is)
    (case a7 => k_is); (case l7 => k_is); (case c7 => k_is); (case k7 => k_is)
    (case a8 => k_is); (case l8 => k_is); (case c8 => k_is); (case k8 => k_is)
    (case a9 => k_is); (case l9 => k_is); (case c9 => k_is); (case k9 => k_is)
    (case a10 => k_is); (case l10 => k_is); (case c10 => k_is); (case k10 => k_is)
    (case a11 => k_is); (case l11 => k_is); (case c11 => k_is); (case k11 => k_is)
    (case a12 => k_is); (case l12 => k_is); (case c12 => k_is); (case k12 => k_is)
    (case a13 => k_is); (case l13 => k_is); (case c13 => k_is); (case k13 => k_is)
    (case a14 => k_is); (case l14 => k_is); (case c14 => k_is); (case k14 => k_is)
    (case a15 => k_is); (case l15 => k_is); (case c15 => k_is); (case k15 => k_is)
    (case a16 => k_is); (case l16 => k_is); (case c16 => k_is); (case k16 => k_is)
    (case a17 => k_is); (case l17 => k_is); (case c17 => k_is); (case k17 => k_is)
    (case a18 => k_is); (case l18 => k_is); (case c18 => k_is); (case k18 => k_is)
    (case a19 => k_is); (case l19 => k_is); (case c19 => k_is); (case k19 => k_is)
    (case a20 => k_is); (case l20 => k_is); (case c20 => k_is); (case k20 => k_is)
    (case a21 => k_is); (case l21 => k_is); (case c21 => k_is); (case k21 => k_is)
    (case a22 => k_is); (case l22 => k_is); (case c22 => k_is); (case k22 => k_is)
    (case a23 => k_is); (case l23 => k_is); (case c23 => k_is); (case k23 => k_is)
    (case a24 => k_is); (case l24 => k_is); (case c24 => k_is); (case k24 => k_is)
    (case a25 => k_is); (case l25 => k_is); (case c25 => k_is); (case k25 => k_is)
    (case a26 => k_is); (case l26 => k_is); (case c26 => k_is); (case k26 => k_is)
    (case a27 => k_is); (case l27 => k_is); (case c27 => k_is); (case k27 => k_is)
    (case a28 => k_is); (case l28 => k_is); (case c28 => k_is); (case k28 => k_is)
    (case a29 => k_is); (case l29 => k_is); (case c29 => k_is); (case k29 => k_is)
    (case a30 => k_is); (case l30 => k_is); (case c30 => k_is); (case k30 => k_is)
    (case a31 => k_is); (case l31 => k_is); (case c31 => k_is); (case k31 => k_is)
    (case a32 => k_is); (case l32 => k_is); (case c32 => k_is); (case k32 => k_is)
    (case a33 => k_is); (case l33 => k_is); (case c33 => k_is); (case k33 => k_is)
    (case a34 => k_is); (case l34 => k_is); (case c34 => k_is); (case k34 => k_is)
    (case a35 => k_is); (case l35 => k_is); (case c35 => k_is); (case k35 => k_is)
    (case a36 => k_is); (case l36 => k_is); (case c36 => k_is); (case k36 => k_is)
    (case a37 => k_is); (case l37 => k_is); (case c37 => k_is); (case k37 => k_is)
    (case a38 => k_is); (case l38 => k_is); (case c38 => k_is); (case k38 => k_is)
    (case a39 => k_is); (case l39 => k_is); (case c39 => k_is); (case k39 => k_is)
    (case a40 => k_is); (case l40 => k_is); (case c40 => k_is); (case k40 => k_is)
    (case a41 => k_is); (case l41 => k_is); (case c41 => k_is); (case k41 => k_is)
    (case a42 => k_is); (case l42 => k_is); (case c42 => k_is); (case k42 => k_is)
    (case a43 => k_is); (case l43 => k_is); (case c43 => k_is); (case k43 => k_is)
    (case a44 => k_is); (case l44 => k_is); (case c44 => k_is); (case k44 => k_is)
    (case a45 => k_is); (case l45 => k_is); (case c45 => k_is); (case k45 => k_is)
    (case a46 => k_is); (case l46 => k_is); (case c46 => k_is); (case k46 => k_is)
    (case a47 => k_is); (case l47 => k_is); (case c47 => k_is); (case k47 => k_is)
    (case a48 => k_is); (case l48 => k_is); (case c48 => k_is); (case k48 => k_is)
    (case a49 => k_is); (case l49 => k_is); (case c49 => k_is); (case k49 => k_is)
    (case a50 => k_is); (case l50 => k_is); (case c50 => k_is); (case k50 => k_is)
    (case z0 => k_is)
    (case z1 => k_is)
    (case z2 => k_is)
    (case z3 => k_is)
    (case z4 => k_is)
    (case z5 => k_is)
    (case z6 => k_is)
    (case z7 => k_is)
    (case z8 => k_is)
    (case z9 => k_is)
    (case z10 => k_is)
    (case z11 => k_is)
    (case z12 => k_is)
    (case z13 => k_is)
    (case z14 => k_is)
    (case z15 => k_is)
    (case z16 => k_is)
    (case z17 => k_is)
    (case z18 => k_is)
    (case v0 => k_is)
    (case v1 => k_is)
    (case x0 => k_is); (case y0 => k_is); (case w0 => first | rfl | k_is)
    (case hxf => first | kernel_rfl | k_is)
