import PyProof.Rows.All
import Wide.All
import OpenK.AllK
import Wide.FinOn
import Lean
import PyProof.EqAt
import PyProof.EqKinds
import PyProof.TupleCall
import KE.KLam
import PySem.Challenge.RW_stairrooms_k65_a_hundred_ways
set_option Elab.async false
namespace PySem.W.Fast
theorem tw4016264766742016246 : True := trivial
theorem tw16782337245556510126 : True := trivial
theorem tw2199959158694611284 : True := trivial
theorem tw17255055402382703068 : True := trivial
theorem tw16725872844886285762 : True := trivial
theorem tw897556049694929739 : True := trivial
theorem tw4878039616555099582 : True := trivial
theorem tw16398102544092031521 : True := trivial
theorem tw16386913830018001124 : True := trivial
theorem tw9478813727029378433 : True := trivial
theorem tw253724354142678732 : True := trivial
theorem tw1814972903898060060 : True := trivial
theorem tw11258306804293243132 : True := trivial
theorem tw11774656981024081848 : True := trivial
theorem tw4373642396805675364 : True := trivial
theorem tw14757225000569427560 : True := trivial
theorem tw4708572616275660465 : True := trivial
theorem tw317520914050522945 : True := trivial
theorem tw17733047304165068773 : True := trivial
theorem tw15738021625795601203 : True := trivial
theorem tw12604261892636925892 : True := trivial
theorem tw8325147438673079581 : True := trivial
theorem tw2973379562459248654 : True := trivial
theorem tw16040925991244642869 : True := trivial
theorem tw17260584022165661726 : True := trivial
theorem tw911810538002268367 : True := trivial
theorem tw5824247625822886979 : True := trivial
theorem tw17179734013377141832 : True := trivial
theorem tw1051583392116282988 : True := trivial
theorem tw10760031201136348398 : True := trivial
theorem tw6492568839464336172 : True := trivial
theorem tw14309114003992510232 : True := trivial
theorem tw11040902395418374828 : True := trivial
theorem tw3634083293858476255 : True := trivial
theorem tw3809979766996421824 : True := trivial
theorem tw4221310431163856405 : True := trivial
theorem tw15415030129712708594 : True := trivial
theorem tw6592538181826838868 : True := trivial
theorem tw6460737211137875664 : True := trivial
theorem tw10166892954511498249 : True := trivial
theorem tw4721787911493776067 : True := trivial
theorem tw12909053014537255453 : True := trivial
theorem tw7796508728722278515 : True := trivial
theorem tw11855722608778128229 : True := trivial
theorem tw14702557882293241901 : True := trivial
theorem tw9002392303285804385 : True := trivial
theorem tw4918694162171632466 : True := trivial
theorem tw10350288868709284642 : True := trivial
theorem tw6502013626171302762 : True := trivial
theorem tw13679643304169797691 : True := trivial
theorem tw8878512636737413035 : True := trivial
theorem tw9779106197386186623 : True := trivial
theorem tw3501889831259424984 : True := trivial
theorem tw1692235544166657602 : True := trivial
theorem tw11296645311156999791 : True := trivial
theorem tw3015604971527890583 : True := trivial
theorem tw2122511160286549640 : True := trivial
theorem tw11672800155852956706 : True := trivial
theorem tw8201457069280204918 : True := trivial
theorem tw7387496920539170626 : True := trivial
theorem tw11029396596865941829 : True := trivial
theorem tw7091575474642696731 : True := trivial
theorem tw6034192224097964318 : True := trivial
theorem tw2801974123689400889 : True := trivial
theorem tw13261574445939288711 : True := trivial
theorem tw621812022307901172 : True := trivial
theorem tw3855638733940352994 : True := trivial
theorem tw14999770152523916156 : True := trivial
theorem tw4264358708234735246 : True := trivial
theorem tw3924725502804413793 : True := trivial
theorem tw14836224472968703893 : True := trivial
theorem tw12390782021942118942 : True := trivial
theorem tw11408623696531555632 : True := trivial
theorem tw3773624442522805073 : True := trivial
theorem tw3093781508513788219 : True := trivial
theorem tw1322433467843712534 : True := trivial
theorem tw11655376856063916228 : True := trivial
theorem tw9867131338692390694 : True := trivial
theorem tw447717403241242290 : True := trivial
theorem tw1536147683505774889 : True := trivial
theorem tw14185583342123384908 : True := trivial
theorem tw13170554741523819223 : True := trivial
theorem tw12664327836493813462 : True := trivial
theorem tw8562296191053873827 : True := trivial
theorem tw6463597329013779217 : True := trivial
theorem tw6406724726538629663 : True := trivial
theorem tw5279998573280466062 : True := trivial
theorem tw16176690743668362219 : True := trivial
theorem tw14988306749868862141 : True := trivial
theorem tw11971130579796114034 : True := trivial
theorem tw1057306937073154610 : True := trivial
theorem tw999255627539997526 : True := trivial
theorem tw9834661911540460081 : True := trivial
theorem tw8385567426930851361 : True := trivial
theorem tw6584469308530667732 : True := trivial
theorem tw5669588431854456260 : True := trivial
theorem tw439055297870408345 : True := trivial
theorem tw3299272117925849540 : True := trivial
theorem tw2904058922640873309 : True := trivial
theorem tw18174231678347352628 : True := trivial
theorem tw16949064816178058999 : True := trivial
theorem tw15881911615934975264 : True := trivial
theorem tw10932722520931459696 : True := trivial
theorem tw6690677384477064843 : True := trivial
theorem tw6403897618177400563 : True := trivial
theorem tw6089560412477784131 : True := trivial
theorem tw4801039527111802282 : True := trivial
theorem tw17109937557647268800 : True := trivial
theorem tw17002439396945247550 : True := trivial
theorem tw1697718313761481620 : True := trivial
theorem tw15732654264858244716 : True := trivial
theorem tw15250516977012177893 : True := trivial
theorem tw15197701262192620583 : True := trivial
theorem tw13956058649364723422 : True := trivial
theorem tw12801111013253028214 : True := trivial
theorem tw10548826715568245312 : True := trivial
theorem tw8744267035563872481 : True := trivial
theorem tw7393957277229836691 : True := trivial
theorem tw6878535200312667207 : True := trivial
theorem tw5619098228389421230 : True := trivial
theorem tw3457502311278330140 : True := trivial
theorem tw2308842233520690658 : True := trivial
theorem tw2168224380260717174 : True := trivial
theorem tw1875788394568091543 : True := trivial
theorem tw18147453742554186446 : True := trivial
theorem tw18133197322224867361 : True := trivial
theorem tw17405974757215459542 : True := trivial
theorem tw15968237232650601322 : True := trivial
theorem tw14832175709080873599 : True := trivial
theorem tw13580389790971816817 : True := trivial
theorem tw13114515122707653793 : True := trivial
theorem tw1296409530997820298 : True := trivial
theorem tw11872690636868124001 : True := trivial
theorem tw8863156965792605256 : True := trivial
theorem tw8576866337993464856 : True := trivial
theorem tw4540096454399951189 : True := trivial
theorem tw4102359912796715673 : True := trivial
theorem tw3625882601150649006 : True := trivial
theorem tw3319072228906548485 : True := trivial
theorem tw3121732170634265723 : True := trivial
theorem tw2762985067018713519 : True := trivial
theorem tw18416646843746589632 : True := trivial
theorem tw16178294753266878621 : True := trivial
theorem tw15699315692412800413 : True := trivial
theorem tw15269425654929456476 : True := trivial
theorem tw11930047750849440119 : True := trivial
theorem tw1059446635175154315 : True := trivial
theorem tw10154314827766144001 : True := trivial
theorem tw902582806634263858 : True := trivial
theorem tw8856496367326549158 : True := trivial
theorem tw8125729627420895708 : True := trivial
theorem tw7889161881964539818 : True := trivial
theorem tw7202327286928840429 : True := trivial
theorem tw705330452703051597 : True := trivial
theorem tw6093179522131556990 : True := trivial
theorem tw55107133691585252 : True := trivial
theorem tw4992925186480290751 : True := trivial
theorem tw3975676623463710300 : True := trivial
theorem tw1898551579183717137 : True := trivial
theorem tw17651429341429293936 : True := trivial
theorem tw1754243070517289278 : True := trivial
theorem tw15524740491475941218 : True := trivial
theorem tw1539576199135281160 : True := trivial
theorem tw14882510809304047780 : True := trivial
theorem tw1465564398378206461 : True := trivial
theorem tw14566858309784005721 : True := trivial
theorem tw13587954947775276195 : True := trivial
theorem tw10607476577711411036 : True := trivial
theorem tw9308319285386913480 : True := trivial
theorem tw9028414481108622758 : True := trivial
theorem tw8938549127931359579 : True := trivial
theorem tw8835519533490355076 : True := trivial
theorem tw8185630143887121337 : True := trivial
theorem tw8128315874942280492 : True := trivial
theorem tw6620348973694338139 : True := trivial
theorem tw6056548384089880543 : True := trivial
theorem tw18066811921283522515 : True := trivial
theorem tw17949153669898374660 : True := trivial
theorem tw16118308844857193260 : True := trivial
theorem tw15856698116174445793 : True := trivial
theorem tw14800109303040266240 : True := trivial
theorem tw1304240117979556626 : True := trivial
theorem tw11909862417612479929 : True := trivial
theorem tw11858878876565515630 : True := trivial
theorem tw11735653163353574974 : True := trivial
theorem tw11383850339681254435 : True := trivial
theorem tw10150324261921262226 : True := trivial
theorem tw9281662355237421915 : True := trivial
theorem tw9248597171148506525 : True := trivial
theorem tw6588169051226274246 : True := trivial
theorem tw6266016949813577251 : True := trivial
theorem tw5725444066816760673 : True := trivial
theorem tw5136782093820589260 : True := trivial
theorem tw477595423994022719 : True := trivial
theorem tw4746302684295054048 : True := trivial
theorem tw4137366243734310183 : True := trivial
theorem tw2648121624305032702 : True := trivial
theorem tw16967094079153205249 : True := trivial
theorem tw16865412676593439493 : True := trivial
theorem tw16080655234471338842 : True := trivial
theorem tw15414259988211055499 : True := trivial
theorem tw15313990622018235984 : True := trivial
theorem tw14560837491469231475 : True := trivial
theorem tw14075074499185348901 : True := trivial
theorem tw13838018814042065490 : True := trivial
theorem tw12969595849073868859 : True := trivial
theorem tw12170451868844119946 : True := trivial
theorem tw12124443520851957044 : True := trivial
theorem tw11469663846147530161 : True := trivial
theorem tw10576813361638309727 : True := trivial
theorem tw10500720501580190231 : True := trivial
theorem tw9916047131747534395 : True := trivial
theorem tw931510637493425866 : True := trivial
theorem tw8708482821940700748 : True := trivial
theorem tw8568187914498332850 : True := trivial
theorem tw82748431570670151 : True := trivial
theorem tw8186763794367992775 : True := trivial
theorem tw7750769465160294860 : True := trivial
theorem tw7627118995241731642 : True := trivial
theorem tw7383744862196479187 : True := trivial
theorem tw7341270039093922885 : True := trivial
theorem tw7134983793405793177 : True := trivial
theorem tw7115244209674446852 : True := trivial
theorem tw6583481740336291847 : True := trivial
theorem tw6393150591798677637 : True := trivial
theorem tw6178244272827954729 : True := trivial
theorem tw6121026886529796221 : True := trivial
theorem tw5472344985826550877 : True := trivial
theorem tw5140171473248983199 : True := trivial
theorem tw4337561567144917162 : True := trivial
theorem tw3941131271490555836 : True := trivial
theorem tw3866599564448483793 : True := trivial
theorem tw3841998164913821987 : True := trivial
theorem tw3797301031838899788 : True := trivial
theorem tw3104486758596841148 : True := trivial
theorem tw1901317781093569649 : True := trivial
theorem tw18032779900021213040 : True := trivial
theorem tw17990003072128590093 : True := trivial
theorem tw17729564300890611173 : True := trivial
theorem tw17652695096001567504 : True := trivial
theorem tw17628590533929976792 : True := trivial
theorem tw17571631200592639834 : True := trivial
theorem tw17438179399263098937 : True := trivial
theorem tw17329969520162680104 : True := trivial
theorem tw17258839070269863901 : True := trivial
theorem tw17065142239566038489 : True := trivial
theorem tw16964212798373946863 : True := trivial
theorem tw16924412733494049589 : True := trivial
theorem tw16503717402094505217 : True := trivial
theorem tw16477329177891185698 : True := trivial
theorem tw16283258727396688951 : True := trivial
theorem tw16245695487900975421 : True := trivial
theorem tw16221219022901355867 : True := trivial
theorem tw15729792075999087868 : True := trivial
theorem tw15565656631415577005 : True := trivial
theorem tw15186367229040268510 : True := trivial
theorem tw15170883547044141151 : True := trivial
theorem tw1488474676173749703 : True := trivial
theorem tw14793259975867257014 : True := trivial
theorem tw14775263502782431712 : True := trivial
theorem tw14670137783204244808 : True := trivial
theorem tw14221475358252599964 : True := trivial
theorem tw14221084762423404224 : True := trivial
theorem tw14025392896863203041 : True := trivial
theorem tw13135487405686255751 : True := trivial
theorem tw12951820434879171755 : True := trivial
theorem tw12357872333080808881 : True := trivial
theorem tw12065540673060277790 : True := trivial
theorem tw11787554532782738252 : True := trivial
theorem tw11364142691922409913 : True := trivial
theorem tw11339562753883754242 : True := trivial
theorem tw11137535781475439334 : True := trivial
theorem tw10769681086646498438 : True := trivial
theorem tw1069010634818593453 : True := trivial
theorem tw1004593339420490729 : True := trivial
theorem tw976709547398631384 : True := trivial
theorem tw974001917477778970 : True := trivial
theorem tw9145153853609440834 : True := trivial
theorem tw8247069255634196442 : True := trivial
theorem tw8111691339550187361 : True := trivial
theorem tw8035931760809384120 : True := trivial
theorem tw762384175361060421 : True := trivial
theorem tw7620779201999659187 : True := trivial
theorem tw7175792842613744815 : True := trivial
theorem tw684117499851941213 : True := trivial
theorem tw5425565988235752197 : True := trivial
theorem tw4933930183700603765 : True := trivial
theorem tw4930073243635710979 : True := trivial
theorem tw3566807236516140644 : True := trivial
theorem tw3008007984704827758 : True := trivial
theorem tw2800321189394573348 : True := trivial
theorem tw18189657841938801392 : True := trivial
theorem tw18127141830633905074 : True := trivial
theorem tw17939888687896264705 : True := trivial
theorem tw17843839365795533554 : True := trivial
theorem tw178370783828623596 : True := trivial
theorem tw1682181479755940848 : True := trivial
theorem tw16306601271817509428 : True := trivial
theorem tw16291823179772653766 : True := trivial
theorem tw16204094875209007955 : True := trivial
theorem tw16029895960380650870 : True := trivial
theorem tw15831574140416324556 : True := trivial
theorem tw15801317192440724364 : True := trivial
theorem tw15660991250957307376 : True := trivial
theorem tw14876317631354250296 : True := trivial
theorem tw14750251384015127882 : True := trivial
theorem tw13392218115919352882 : True := trivial
theorem tw12865433501954476891 : True := trivial
theorem tw12289990805704456368 : True := trivial
theorem tw11788803944947964044 : True := trivial
theorem tw9539095207651657643 : True := trivial
theorem tw8487562230406468105 : True := trivial
theorem tw8057538161448419100 : True := trivial
theorem tw7937346951877118417 : True := trivial
theorem tw7258929849126983957 : True := trivial
theorem tw6704578965310311189 : True := trivial
theorem tw6169767553621521813 : True := trivial
theorem tw6130821448147606368 : True := trivial
theorem tw5950158449063615346 : True := trivial
theorem tw5708804837514111757 : True := trivial
theorem tw4088347019790499076 : True := trivial
theorem tw2792723481025802335 : True := trivial
theorem tw2780415966309772251 : True := trivial
theorem tw2696157109874119690 : True := trivial
theorem tw17915051066750267265 : True := trivial
theorem tw1751447207448873119 : True := trivial
theorem tw17259577006381911698 : True := trivial
theorem tw16821967185522334815 : True := trivial
theorem tw15073084007737812838 : True := trivial
theorem tw14109453767193502313 : True := trivial
theorem tw14044808164122211230 : True := trivial
theorem tw1382559312744143635 : True := trivial
theorem tw10276969695076772373 : True := trivial
theorem tw10118012357411222232 : True := trivial
theorem tw10035081181641441020 : True := trivial
theorem tw9642658117253805749 : True := trivial
theorem tw837507559583589549 : True := trivial
theorem tw6976374140160972476 : True := trivial
theorem tw6619962110570900069 : True := trivial
theorem tw6617364818316592001 : True := trivial
theorem tw5612490812926955764 : True := trivial
theorem tw5102186755607942603 : True := trivial
theorem tw501385587569502014 : True := trivial
theorem tw4732811752034325442 : True := trivial
theorem tw4664008279301310266 : True := trivial
theorem tw4248219703154640514 : True := trivial
theorem tw404968458719316295 : True := trivial
theorem tw3937447510773505585 : True := trivial
theorem tw3608133595379548684 : True := trivial
theorem tw1921160878016633958 : True := trivial
theorem tw1906729888136766467 : True := trivial
theorem tw18324572440802094995 : True := trivial
theorem tw167336832753583806 : True := trivial
theorem tw15769360928889565510 : True := trivial
theorem tw14931363111589739018 : True := trivial
theorem tw14585778381282314952 : True := trivial
theorem tw14451425568386719407 : True := trivial
theorem tw14424131277925039975 : True := trivial
theorem tw14318957944991924802 : True := trivial
theorem tw14292392306617517729 : True := trivial
theorem tw1311390456105013778 : True := trivial
theorem tw12261729195969336472 : True := trivial
theorem tw12078363514133923244 : True := trivial
theorem tw119775208399524090 : True := trivial
theorem tw11950575282948044451 : True := trivial
theorem tw11883736081812832149 : True := trivial
theorem tw10602856759635532317 : True := trivial
theorem tw10574732147149305561 : True := trivial
theorem tw1024123932853393264 : True := trivial
theorem tw9578026534446552097 : True := trivial
theorem tw9467629813166748578 : True := trivial
theorem tw940465597526089649 : True := trivial
theorem tw9404376500200941770 : True := trivial
theorem tw9337504207740955038 : True := trivial
theorem tw92919152876705750 : True := trivial
theorem tw9085195453500331236 : True := trivial
theorem tw8783073200307453229 : True := trivial
theorem tw8677169583234457159 : True := trivial
theorem tw8539956084285006220 : True := trivial
theorem tw8521597775319928436 : True := trivial
theorem tw8340926499216404060 : True := trivial
theorem tw8338600121835276020 : True := trivial
theorem tw8229460734390689525 : True := trivial
theorem tw8147721191793257292 : True := trivial
theorem tw8143298780573084396 : True := trivial
theorem tw8039774922555296384 : True := trivial
theorem tw800831887125934919 : True := trivial
theorem tw7863108119856694670 : True := trivial
theorem tw7693350481814642131 : True := trivial
theorem tw7575712259109976473 : True := trivial
theorem tw7247887190665584843 : True := trivial
theorem tw720755081136891062 : True := trivial
theorem tw7176572640101177836 : True := trivial
theorem tw7174068339476759842 : True := trivial
theorem tw6919964502871595589 : True := trivial
theorem tw6680830925899447215 : True := trivial
theorem tw6658185936689682968 : True := trivial
theorem tw6008010531490865865 : True := trivial
theorem tw5956051100702781606 : True := trivial
theorem tw590611807225418770 : True := trivial
theorem tw5766181095882713430 : True := trivial
theorem tw5643517080389645038 : True := trivial
theorem tw5442971307982108685 : True := trivial
theorem tw5168400519034163868 : True := trivial
theorem tw4997450903056089975 : True := trivial
theorem tw4959773886489378410 : True := trivial
theorem tw4939278323791658419 : True := trivial
theorem tw4769826392853288355 : True := trivial
theorem tw4672492687276399408 : True := trivial
theorem tw4599613092869839139 : True := trivial
theorem tw4532786408525356839 : True := trivial
theorem tw4417070962139673907 : True := trivial
theorem tw4307926830116509514 : True := trivial
theorem tw4237640369940289380 : True := trivial
theorem tw4202673366249849491 : True := trivial
theorem tw4169430970946328830 : True := trivial
theorem tw3823650005643028596 : True := trivial
theorem tw3711776433476670718 : True := trivial
theorem tw3606794102148988539 : True := trivial
theorem tw3415376743198261602 : True := trivial
theorem tw3255010964159781038 : True := trivial
theorem tw3220723017206680370 : True := trivial
theorem tw3196363977017356276 : True := trivial
theorem tw3161077796674850459 : True := trivial
theorem tw3154977719449785152 : True := trivial
theorem tw3027349785267461129 : True := trivial
theorem tw2651210568008831048 : True := trivial
theorem tw2642144764089699081 : True := trivial
theorem tw2470030994460905622 : True := trivial
theorem tw2365589340776583484 : True := trivial
theorem tw2342838551658309370 : True := trivial
theorem tw2064118905727727203 : True := trivial
theorem tw2057708657320182929 : True := trivial
theorem tw1980078614172103820 : True := trivial
theorem tw1976669565243702794 : True := trivial
theorem tw18438895364323578133 : True := trivial
theorem tw18420665075302107787 : True := trivial
theorem tw18406689318668271181 : True := trivial
theorem tw18353754962900487674 : True := trivial
theorem tw18131939131286866181 : True := trivial
theorem tw18027970315504703877 : True := trivial
theorem tw17994301212061070119 : True := trivial
theorem tw17963879024589997906 : True := trivial
theorem tw17925923492730016652 : True := trivial
theorem tw17584191335013195612 : True := trivial
theorem tw17238752558760652402 : True := trivial
theorem tw17234483976792478675 : True := trivial
theorem tw17186049221098573887 : True := trivial
theorem tw17104333970416622323 : True := trivial
theorem tw16980547499210933930 : True := trivial
theorem tw16844485081735603738 : True := trivial
theorem tw16840622159041910090 : True := trivial
theorem tw16835956152608702361 : True := trivial
theorem tw16743919102785911483 : True := trivial
theorem tw16701388476486077624 : True := trivial
theorem tw16661892316655955262 : True := trivial
theorem tw16661212229125270991 : True := trivial
theorem tw16575673167688372683 : True := trivial
theorem tw16469943266984779137 : True := trivial
theorem tw16288524480538194225 : True := trivial
theorem tw16194716560986651551 : True := trivial
theorem tw16010564223820826558 : True := trivial
theorem tw1599608497217551579 : True := trivial
theorem tw15829181571673270705 : True := trivial
theorem tw15676261240554180864 : True := trivial
theorem tw15641575440650329080 : True := trivial
theorem tw15593639298716513902 : True := trivial
theorem tw15438610589593914328 : True := trivial
theorem tw15415129679944277146 : True := trivial
theorem tw15291515778787918541 : True := trivial
theorem tw15268917627751355144 : True := trivial
theorem tw1523954634173995102 : True := trivial
theorem tw15104015179872336855 : True := trivial
theorem tw14905269560852764671 : True := trivial
theorem tw14598121482242819015 : True := trivial
theorem tw14550693921475344484 : True := trivial
theorem tw14429984225472846677 : True := trivial
theorem tw14397947794671477899 : True := trivial
theorem tw14330286943426774435 : True := trivial
theorem tw14324394720252608761 : True := trivial
theorem tw14316703349718095352 : True := trivial
theorem tw13817142068744991791 : True := trivial
theorem tw13814131451427507189 : True := trivial
theorem tw13786455662358949411 : True := trivial
theorem tw13769731409856085057 : True := trivial
theorem tw13732165248360646341 : True := trivial
theorem tw13573848267779960677 : True := trivial
theorem tw13501672401922333513 : True := trivial
theorem tw1348930903838789814 : True := trivial
theorem tw13298203722689827917 : True := trivial
theorem tw12996499756298277263 : True := trivial
theorem tw12993445975515111361 : True := trivial
theorem tw12661369023874259431 : True := trivial
theorem tw12585790354688115527 : True := trivial
theorem tw12441502783428931068 : True := trivial
theorem tw12340981958623863397 : True := trivial
theorem tw12083225706203450762 : True := trivial
theorem tw12038977606169228428 : True := trivial
theorem tw11860059332995364445 : True := trivial
theorem tw11801650391622900179 : True := trivial
theorem tw1166147933733307185 : True := trivial
theorem tw11646202046503260017 : True := trivial
theorem tw11644868132232139897 : True := trivial
theorem tw11583934061965207798 : True := trivial
theorem tw1147197816589727344 : True := trivial
theorem tw11304072722765767021 : True := trivial
theorem tw10897373541712964772 : True := trivial
theorem tw10846541316933110243 : True := trivial
theorem tw10805502978675567416 : True := trivial
theorem tw10787819557663234410 : True := trivial
theorem tw10785498421680218836 : True := trivial
theorem tw1073818698688927204 : True := trivial
theorem tw10698238366409207256 : True := trivial
theorem tw10388815045332656835 : True := trivial
theorem tw10307936806763208701 : True := trivial
theorem tw10178320482404669705 : True := trivial
theorem tw10121643642846045468 : True := trivial
theorem tw10017577030591726147 : True := trivial
theorem tw9602979466950630956 : True := trivial
theorem tw912290570786946579 : True := trivial
theorem tw8777541643666118068 : True := trivial
theorem tw8722415481117505015 : True := trivial
theorem tw8572175281459272771 : True := trivial
theorem tw8444893750286939596 : True := trivial
theorem tw8125407811402774585 : True := trivial
theorem tw7956301941440062040 : True := trivial
theorem tw7687211529486759510 : True := trivial
theorem tw7552210041123771490 : True := trivial
theorem tw7239762555138251476 : True := trivial
theorem tw684210181549580303 : True := trivial
theorem tw6744984778823417519 : True := trivial
theorem tw6340304130596135008 : True := trivial
theorem tw6158425238486604569 : True := trivial
theorem tw6112935292994349818 : True := trivial
theorem tw5920227957080817638 : True := trivial
theorem tw5861546300858528307 : True := trivial
theorem tw5533809914848052129 : True := trivial
theorem tw5096499008420852698 : True := trivial
theorem tw4802236077587990626 : True := trivial
theorem tw4688525537532491644 : True := trivial
theorem tw4138905410403352593 : True := trivial
theorem tw397431815971221653 : True := trivial
theorem tw3830783680494933951 : True := trivial
theorem tw3612554134655720397 : True := trivial
theorem tw343839832772155065 : True := trivial
theorem tw3410111710019587186 : True := trivial
theorem tw2904033067149887106 : True := trivial
theorem tw2433480451663381876 : True := trivial
theorem tw2217001567337907910 : True := trivial
theorem tw2135739184021596844 : True := trivial
theorem tw2093290091728733057 : True := trivial
theorem tw1882481057627660943 : True := trivial
theorem tw18334927389422029420 : True := trivial
theorem tw18159918767601648018 : True := trivial
theorem tw17831088686795452451 : True := trivial
theorem tw17795394019121955329 : True := trivial
theorem tw17716863462265859512 : True := trivial
theorem tw17694846207451314135 : True := trivial
theorem tw17581992280946622230 : True := trivial
theorem tw17423125552162021742 : True := trivial
theorem tw17405045028177135956 : True := trivial
theorem tw17235446214152045 : True := trivial
theorem tw1703860651114587486 : True := trivial
theorem tw17018876735161736770 : True := trivial
theorem tw16669810761675009345 : True := trivial
theorem tw16219145617115034907 : True := trivial
theorem tw15877547465285291163 : True := trivial
theorem tw15860708213811878519 : True := trivial
theorem tw15659586693977764946 : True := trivial
theorem tw15227536787642769132 : True := trivial
theorem tw1488503510874697304 : True := trivial
theorem tw14849095896601040367 : True := trivial
theorem tw14415884991196681418 : True := trivial
theorem tw13921919005729749812 : True := trivial
theorem tw13809386149585982481 : True := trivial
theorem tw13746588304753895505 : True := trivial
theorem tw12898871719091480922 : True := trivial
theorem tw1283506980011859969 : True := trivial
theorem tw1218770742548784908 : True := trivial
theorem tw11282886037220131173 : True := trivial
theorem tw11166862733661299840 : True := trivial
theorem tw10240230265299486439 : True := trivial
theorem tw10143209758796899180 : True := trivial
theorem tw10063842601507977493 : True := trivial
theorem tw9936902662144560194 : True := trivial
theorem tw9930359092145622687 : True := trivial
theorem tw9892624805917520583 : True := trivial
theorem tw9842035976387663078 : True := trivial
theorem tw9802983821206752271 : True := trivial
theorem tw9623524494010043433 : True := trivial
theorem tw9591621326534694922 : True := trivial
theorem tw9590536906216307355 : True := trivial
theorem tw9583254098639418403 : True := trivial
theorem tw9456409991113330330 : True := trivial
theorem tw9119751986894142981 : True := trivial
theorem tw8755266905418455375 : True := trivial
theorem tw8612541938085228305 : True := trivial
theorem tw8604979696160575008 : True := trivial
theorem tw8462929888207567711 : True := trivial
theorem tw8377945894465552080 : True := trivial
theorem tw8282170167223215797 : True := trivial
theorem tw8089249423132065445 : True := trivial
theorem tw8047032804361144261 : True := trivial
theorem tw8037652997034423971 : True := trivial
theorem tw7980446502605500991 : True := trivial
theorem tw790865764145957086 : True := trivial
theorem tw7904445426397662059 : True := trivial
theorem tw7897135418779063302 : True := trivial
theorem tw7875707854763748492 : True := trivial
theorem tw7848866751621661257 : True := trivial
theorem tw7720199258136328419 : True := trivial
theorem tw7616961570073629773 : True := trivial
theorem tw7574902415414485744 : True := trivial
theorem tw7316228966491291649 : True := trivial
theorem tw7260967713776090138 : True := trivial
theorem tw7259079589770855615 : True := trivial
theorem tw7240639191980452486 : True := trivial
theorem tw7074213860272172147 : True := trivial
theorem tw7036346233635388438 : True := trivial
theorem tw698542696526539648 : True := trivial
theorem tw6967400520518718212 : True := trivial
theorem tw6942357351460751399 : True := trivial
theorem tw689209177001064519 : True := trivial
theorem tw6862412981468502264 : True := trivial
theorem tw6787905781562076304 : True := trivial
theorem tw6743822951217308217 : True := trivial
theorem tw6690671887076279761 : True := trivial
theorem tw6520993039526896910 : True := trivial
theorem tw6451087710923075982 : True := trivial
theorem tw6429728187070590260 : True := trivial
theorem tw6329672369177362234 : True := trivial
theorem tw6181847661251503008 : True := trivial
theorem tw5994711959094706394 : True := trivial
theorem tw5830895008884556760 : True := trivial
theorem tw5821001088122574322 : True := trivial
theorem tw5819105399919881484 : True := trivial
theorem tw5717963241065829162 : True := trivial
theorem tw5689819888249312427 : True := trivial
theorem tw5581984692328104656 : True := trivial
theorem tw5581349078452510653 : True := trivial
theorem tw5430882940802126740 : True := trivial
theorem tw5350998768358884751 : True := trivial
theorem tw5295854211047901153 : True := trivial
theorem tw5215882272569172211 : True := trivial
theorem tw5213485622955226937 : True := trivial
theorem tw512557566824241540 : True := trivial
theorem tw5051596291613938045 : True := trivial
theorem tw5019332986140449700 : True := trivial
theorem tw5010354932100547165 : True := trivial
theorem tw4855646995411632120 : True := trivial
theorem tw4841996503232482665 : True := trivial
theorem tw4566636315000093172 : True := trivial
theorem tw4512399344915413118 : True := trivial
theorem tw4396202689630218944 : True := trivial
theorem tw4355615645706949100 : True := trivial
theorem tw4256779784062091372 : True := trivial
theorem tw4090099033456441411 : True := trivial
theorem tw405987165440772289 : True := trivial
theorem tw3855077825024126993 : True := trivial
theorem tw3816595399192403062 : True := trivial
theorem tw3760063030202703356 : True := trivial
theorem tw3725507860900426652 : True := trivial
theorem tw3711315289400063114 : True := trivial
theorem tw3624387153200950280 : True := trivial
theorem tw3497212847013558094 : True := trivial
theorem tw3465091326942903629 : True := trivial
theorem tw3427924564325372817 : True := trivial
theorem tw3348767965124786929 : True := trivial
theorem tw3268437569422444630 : True := trivial
theorem tw3258786278723069861 : True := trivial
theorem tw3182821167057557991 : True := trivial
theorem tw3096949930750721708 : True := trivial
theorem tw3017139974649574989 : True := trivial
theorem tw2980206271122236284 : True := trivial
theorem tw2773274263299585572 : True := trivial
theorem tw2520694231678862498 : True := trivial
theorem tw2448602276733661166 : True := trivial
theorem tw2391854224791940314 : True := trivial
theorem tw2355404199824840798 : True := trivial
theorem tw2323472592885037881 : True := trivial
theorem tw2313535712752964479 : True := trivial
theorem tw2264417401548668637 : True := trivial
theorem tw2248526150547823735 : True := trivial
theorem tw2212462317411977730 : True := trivial
theorem tw2187499721780371684 : True := trivial
theorem tw2084367668108250050 : True := trivial
theorem tw2045930578084102194 : True := trivial
theorem tw2027406687892281398 : True := trivial
theorem tw1994766901024307645 : True := trivial
theorem tw1923656493189036919 : True := trivial
theorem tw18341061495759717185 : True := trivial
theorem tw18243320616058850534 : True := trivial
theorem tw1818218476948158209 : True := trivial
theorem tw18109355491918435820 : True := trivial
theorem tw18038851775406917655 : True := trivial
theorem tw17923257353744980054 : True := trivial
theorem tw17908656721387608039 : True := trivial
theorem tw17887424493272649068 : True := trivial
theorem tw17843169823834903998 : True := trivial
theorem tw17744632191838401134 : True := trivial
theorem tw17723765623042550390 : True := trivial
theorem tw176977295656723065 : True := trivial
theorem tw17690871460500525271 : True := trivial
theorem tw17645572048654386869 : True := trivial
theorem tw17644514534155135092 : True := trivial
theorem tw17415715754555401154 : True := trivial
theorem tw17389396115470475288 : True := trivial
theorem tw17375602352810135561 : True := trivial
theorem tw17357414001117552268 : True := trivial
theorem tw17263339626445266389 : True := trivial
theorem tw17218974888202052536 : True := trivial
theorem tw16988158499489311127 : True := trivial
theorem tw16982485362242456822 : True := trivial
theorem tw1691102865124860179 : True := trivial
theorem tw16855797853226630161 : True := trivial
theorem tw16826725409987885975 : True := trivial
theorem tw16801269517542960672 : True := trivial
theorem tw16761591470956491853 : True := trivial
theorem tw16702496124019576060 : True := trivial
theorem tw16632375998614247822 : True := trivial
theorem tw16526325248041854055 : True := trivial
theorem tw16507177298177948937 : True := trivial
theorem tw16408023001231065620 : True := trivial
theorem tw1629198167979442983 : True := trivial
theorem tw16291882091215157828 : True := trivial
theorem tw16235577574615639896 : True := trivial
theorem tw15853727897521883275 : True := trivial
theorem tw15834326765199268030 : True := trivial
theorem tw15786528573266890262 : True := trivial
theorem tw156604256827902990 : True := trivial
theorem tw15641155157065175805 : True := trivial
theorem tw15615506901333172577 : True := trivial
theorem tw15319796435752655959 : True := trivial
theorem tw15313973635310571597 : True := trivial
theorem tw15266785391687444539 : True := trivial
theorem tw15003257448840769609 : True := trivial
theorem tw14977234088687162302 : True := trivial
theorem tw1492062709326496596 : True := trivial
theorem tw14785510111872020634 : True := trivial
theorem tw14736829792906978706 : True := trivial
theorem tw14650229311272632197 : True := trivial
theorem tw1462485287220791352 : True := trivial
theorem tw1460478622569836974 : True := trivial
theorem tw14538086128319557123 : True := trivial
theorem tw1443262904182790944 : True := trivial
theorem tw14322595565739780087 : True := trivial
theorem tw14321144422957734134 : True := trivial
theorem tw1428814744893504695 : True := trivial
theorem tw13996213523464280658 : True := trivial
theorem tw13894333538876106382 : True := trivial
theorem tw13888251672469135178 : True := trivial
theorem tw13853986760110017063 : True := trivial
theorem tw13847991401066540787 : True := trivial
theorem tw13841191037290658594 : True := trivial
theorem tw13820470126673855253 : True := trivial
theorem tw13788262537284159298 : True := trivial
theorem tw1372833672288217791 : True := trivial
theorem tw13611136168108132581 : True := trivial
theorem tw1358744676988583611 : True := trivial
theorem tw13385619842731796546 : True := trivial
theorem tw1333033107083303026 : True := trivial
theorem tw1324101839160434027 : True := trivial
theorem tw13185835248587936794 : True := trivial
theorem tw13140385074510843379 : True := trivial
theorem tw13055914441102849027 : True := trivial
theorem tw13040376429104872777 : True := trivial
theorem tw13021086612755893400 : True := trivial
theorem tw12992001612654045271 : True := trivial
theorem tw12878273097781070547 : True := trivial
theorem tw12840604464936152123 : True := trivial
theorem tw12820798865115190907 : True := trivial
theorem tw12770933533733738652 : True := trivial
theorem tw12725217407329787103 : True := trivial
theorem tw12685030140052518048 : True := trivial
theorem tw12679859039530741841 : True := trivial
theorem tw12650994420537281789 : True := trivial
theorem tw12626095124700806591 : True := trivial
theorem tw12296552071639831032 : True := trivial
theorem tw12150866365501820893 : True := trivial
theorem tw12141280797297536670 : True := trivial
theorem tw11985937269989024962 : True := trivial
theorem tw11892039915525360660 : True := trivial
theorem tw11846370373574997029 : True := trivial
theorem tw11733558587685641503 : True := trivial
theorem tw11711933507911999672 : True := trivial
theorem tw11701492411309977178 : True := trivial
theorem tw11687504721054253588 : True := trivial
theorem tw11665305186481523908 : True := trivial
theorem tw11612187849094769778 : True := trivial
theorem tw11609425286787412919 : True := trivial
theorem tw11605670760853518920 : True := trivial
theorem tw11365700717142005424 : True := trivial
theorem tw11362101791794971524 : True := trivial
theorem tw11344577156118076396 : True := trivial
theorem tw11263300996269092271 : True := trivial
theorem tw1118635096375682459 : True := trivial
theorem tw11137867353881252704 : True := trivial
theorem tw11083616581157620123 : True := trivial
theorem tw11061817912359866892 : True := trivial
theorem tw11030641428109492703 : True := trivial
theorem tw10747110127714012418 : True := trivial
theorem tw10424792985553544811 : True := trivial
theorem tw1031021603403437821 : True := trivial
theorem tw10275949009854564666 : True := trivial
theorem tw10263077061500514125 : True := trivial
theorem tw10241033358962818077 : True := trivial
theorem tw10095913671755900038 : True := trivial
theorem tw10053539800044614232 : True := trivial
theorem tw10044013261082468525 : True := trivial
end PySem.W.Fast
section
open PySem PySem.W PyProof.Rows
set_option maxRecDepth 100000 in
set_option maxHeartbeats 0 in
open_top My.top for PySem.Challenge.rw_stairrooms_k65_a_hundred_ways
end
set_option linter.all false
set_option maxRecDepth 100000
namespace L2
open PySem PySem.Spec PyProof.Rows
noncomputable abbrev Key := Sum Int Str
noncomputable def keyIs : Key → Value → Bool
  | .inl k, v => Value.isInt k v
  | .inr x, v => Value.isStrOf x v
noncomputable def keyH (w : World) : Key → Int
  | .inl k => hashInt k
  | .inr x => hashStr w x
theorem keyIs_shape : ∀ {k : Key} {v : Value}, keyIs k v = true → (∃ i t, k = Sum.inl i ∧ v = Value.int i t) ∨ (∃ x t, k = Sum.inr x ∧ v = Value.str x t)
  | .inl i, v, h => by
    obtain ⟨t, e⟩ := Value.isInt_shape (k := i) (v := v) h
    exact .inl ⟨i, t, rfl, e⟩
  | .inr x, v, h => by
    obtain ⟨t, e⟩ := Value.isStrOf_shape (x := x) (v := v) h
    exact .inr ⟨x, t, rfl, e⟩
theorem keyIs_int (i : Int) (t : Tok) : keyIs (.inl i) (.int i t) = true := by simp [keyIs, Value.isInt]
theorem keyIs_str (x : Str) (t : Tok) : keyIs (.inr x) (.str x t) = true := by simp [keyIs, Value.isStrOf]
theorem key_ll (a b : Int) : decide ((Sum.inl a : Key) = Sum.inl b) = (a == b) := by
  by_cases e : a = b
  · subst e; simp
  · have h : ¬ (Sum.inl a : Key) = Sum.inl b := fun q => e (Sum.inl.inj q)
    rw [decide_eq_false h]
    exact (beq_eq_false_iff_ne.mpr e).symm
theorem key_rr (a b : Str) : decide ((Sum.inr a : Key) = Sum.inr b) = decide (a = b) := by
  by_cases e : a = b
  · subst e; simp
  · have h : ¬ (Sum.inr a : Key) = Sum.inr b := fun q => e (Sum.inr.inj q)
    rw [decide_eq_false h, decide_eq_false e]
theorem key_lr (a : Int) (b : Str) : decide ((Sum.inl a : Key) = Sum.inr b) = false := decide_eq_false (fun q => nomatch q)
theorem key_rl (a : Str) (b : Int) : decide ((Sum.inr a : Key) = Sum.inl b) = false := decide_eq_false (fun q => nomatch q)
noncomputable def mixKind (prog : Program) (w : World) : PySem.KeyKind prog w Key where
  is := keyIs
  hash := keyH w
  inj := fun v a b ha hb => by
    rcases keyIs_shape ha with ⟨i, t, rfl, rfl⟩ | ⟨x, t, rfl, rfl⟩
    · rcases keyIs_shape hb with ⟨j, u, rfl, e⟩ | ⟨y, u, rfl, e⟩
      · injection e with e1 _; rw [e1]
      · exact nomatch e
    · rcases keyIs_shape hb with ⟨j, u, rfl, e⟩ | ⟨y, u, rfl, e⟩
      · exact nomatch e
      · injection e with e1 _; rw [e1]
  byValue := fun k v h => by
    rcases keyIs_shape h with ⟨i, t, rfl, rfl⟩ | ⟨x, t, rfl, rfl⟩ <;> rfl
  pyHash := fun hv h => by
    rcases keyIs_shape hv with ⟨i, t, rfl, rfl⟩ | ⟨x, t, rfl, rfl⟩
    · exact wpAny_pyHash_int h
    · exact wpAny_pyHash_str h
  eqBool := fun hu hv h => by
    rcases keyIs_shape hu with ⟨i, t, rfl, rfl⟩ | ⟨x, t, rfl, rfl⟩
    · rcases keyIs_shape hv with ⟨j, u, rfl, rfl⟩ | ⟨y, u, rfl, rfl⟩
      · rw [key_ll] at h; exact wpAny_eqBool_int h
      · rw [key_lr] at h; exact SeqAt.EqAt.int_str i t y u _ _ _ _ h
    · rcases keyIs_shape hv with ⟨j, u, rfl, rfl⟩ | ⟨y, u, rfl, rfl⟩
      · rw [key_rl] at h; exact SeqAt.EqAt.str_int x t j u _ _ _ _ h
      · rw [key_rr] at h; exact wpAny_eqBool_str h
  «strs» := fun k x t v h => by
    rcases keyIs_shape h with ⟨i, u, rfl, e⟩ | ⟨y, u, rfl, e⟩
    · exact nomatch e
    · injection e with e1 _
      subst e1
      cases v <;> rfl
theorem mixKind_int (prog : Program) (w : World) (i : Int) (t : Tok) : (mixKind prog w).is (.inl i) (.int i t) = true := keyIs_int i t
theorem mixKind_str (prog : Program) (w : World) (x : Str) (t : Tok) : (mixKind prog w).is (.inr x) (.str x t) = true := keyIs_str x t
end L2
namespace L2
open PySem PySem.Spec PyProof.Rows
inductive V where
  | non | bl (b : Bool) | int (i : Int) | str (x : Str) | byt (b : Array UInt8) | flt (b : UInt64) | ref (a : Addr) | ty (n : String)
  deriving DecidableEq
noncomputable def RelV : V → Value → Prop
  | .non, u => u = Value.none
  | .bl b, u => u = Value.bool b
  | .int i, u => ∃ t, u = Value.int i t
  | .str x, u => ∃ t, u = Value.str x t
  | .byt b, u => ∃ t, u = Value.bytes b t
  | .flt b, u => ∃ t, u = Value.float b t
  | .ref a, u => u = Value.ref a
  | .ty n, u => u = Value.type n
noncomputable abbrev Vals : List V → List Value → Prop := Paired RelV
theorem Vals.length {xs : List V} {us : List Value} (r : Vals xs us) : xs.length = us.length := Paired.length r
theorem Vals.get : ∀ {xs : List V} {us : List Value} {i : Nat} {x : V}, Vals xs us → xs[i]? = some x → ∃ u, us[i]? = some u ∧ RelV x u
  | _, _, _, _, .nil, e => by simp at e
  | _, _, 0, _, .cons r _, e => by simp at e; subst e; exact ⟨_, rfl, r⟩
  | _, _, i + 1, x, .cons _ t, e => by
    obtain ⟨u, h1, h2⟩ := Vals.get (i := i) (x := x) t (by simpa using e)
    exact ⟨u, by simpa using h1, h2⟩
theorem Vals.append : ∀ {xs ys : List V} {us ws : List Value}, Vals xs us → Vals ys ws → Vals (xs ++ ys) (us ++ ws)
  | _, _, _, _, .nil, s => s
  | _, _, _, _, .cons r t, s => .cons r (Vals.append t s)
theorem Vals.take : ∀ {xs : List V} {us : List Value} (n : Nat), Vals xs us → Vals (xs.take n) (us.take n)
  | _, _, 0, _ => .nil
  | _, _, _ + 1, .nil => .nil
  | _, _, n + 1, .cons r t => .cons r (Vals.take n t)
theorem Vals.drop : ∀ {xs : List V} {us : List Value} (n : Nat), Vals xs us → Vals (xs.drop n) (us.drop n)
  | _, _, 0, r => r
  | _, _, _ + 1, .nil => .nil
  | _, _, n + 1, .cons _ t => Vals.drop n t
noncomputable def RelO : Option V → Option Value → Prop
  | some v, some u => RelV v u
  | none, none => True
  | _, _ => False
noncomputable def KV {κ : Type} : List (κ × V) → List (κ × Value) → Prop := Paired fun (p : κ × V) (q : κ × Value) => p.1 = q.1 ∧ RelV p.2 q.2
noncomputable def kV : Key → V
  | .inl i => .int i
  | .inr x => .str x
inductive HO where
  /-- a list -/
  | lst (xs : List V)
  /-- a tuple (never changes) -/
  | tup (xs : List V)
  /-- a dict whose keys are ints and texts; one whose keys are tuples of ints and texts (the empty one is both) -/
  | dK (kvs : List (Key × V)) | dT (kvs : List (List Key × V))
  /-- a set of ints: its members, its size -/
  | set (S : Int → Bool) (n : Nat)
  /-- an instance of the class at C, its dict at dx, its attributes -/
  | ins (C dx : Addr) (fs : List (Str × V))
  /-- the dict of the instance at x -/
  | own (x : Addr)
  /-- the dict of an exception -/
  | xd (fs : List (Str × V))
  /-- a bound method, f of x -/
  | met (f x : Addr)
  /-- a range object lo, lo + 1, .. below hi -/
  | rng (lo hi : Int)
  /-- a thing that is known to the object (the script; a dict while a loop walks it): read, never written while it is so -/
  | frz (o : Obj) (u : HO)
  /-- a code object's table -/
  | tbl (ps : Array Value)
  /-- any other thing, by what is true of its one object (a def of one's own: SetO a S n := HO.ext fun h => ..) -/
  | ext (φ : Heap → Prop)
noncomputable abbrev Hp := Addr → Option HO
noncomputable def upd (H : Hp) (a : Addr) (o : HO) : Hp := fun b => if b = a then some o else H b
theorem upd_same {H : Hp} {a : Addr} {o : HO} : upd H a o a = some o := by unfold upd; rw [if_pos rfl]
theorem upd_ne {H : Hp} {a b : Addr} {o : HO} (h : b ≠ a) : upd H a o b = H b := by unfold upd; rw [if_neg h]
theorem ne_of {H : Hp} {a b : Addr} {o u : HO} (h : H a = some o) (h' : H b = some u) (d : o ≠ u) : a ≠ b := by
  intro e; subst e; rw [h] at h'; exact d (Option.some.inj h')
theorem ne_of_none {H : Hp} {a b : Addr} {o : HO} (h : H a = some o) (h' : H b = none) : a ≠ b := by
  intro e; subst e; rw [h] at h'; cases h'
section
variable (P : Program) (w : World)
noncomputable def ObjOk (H : Hp) (h : Heap) (a : Addr) : HO → Prop
  | .lst xs => xs.length ≤ sizeLine ∧ ∃ (its : List Value) (n : Nat), Vals xs its ∧ h.get? a = some { cls := .type "list", data := .seq its.toArray n }
  | .tup xs => xs.length ≤ sizeLine ∧ ∃ its : List Value, Vals xs its ∧ IsTup h a its.toArray
  | .dK kvs => kvs.length ≤ sizeLine ∧ (a == sysModules) = false ∧ ∃ vs, KV kvs vs ∧ h.DictOf (mixKind P w) a vs
  | .dT kvs => kvs.length ≤ sizeLine ∧ (a == sysModules) = false ∧ ∃ xs : List (List Key × Addr × Value),
      Paired (fun (p : List Key × V) (q : List Key × Addr × Value) => p.1 = q.1 ∧ H q.2.1 = some (.tup (p.1.map kV)) ∧ RelV p.2 q.2.2) kvs xs ∧
      ∃ o es ep, h.get? a = some o ∧ o.ExactDict ∧ o.data = .dict es ep ∧ es.toList = xs.map (entryOfKey (tupleKind (mixKind P w))) ∧ (xs.map (·.1)).Nodup
  | .set S n => h.SetOf (intKind P w) a S n
  | .ins C dx fs => H dx = some (.own a) ∧ fs.length ≤ 1000 ∧ dx ≠ a ∧ h.get? a = some (PySem.W.instObj C dx) ∧
      ∃ mA, h.Ns1 dx mA ∧ (∀ f, RelO (fs.lookup f) (mA f)) ∧ PySem.Within mA (fs.map (·.1))
  | .own _ => ∃ o, h.get? a = some o
  | .xd fs => ∃ mA, h.Ns1 a mA ∧ ∀ f, RelO (fs.lookup f) (mA f)
  | .rng lo hi => ∃ t u v, h.get? a = some { cls := .type "range", data := .fields #[.int lo t, .int hi u, .int 1 v] }
  | .frz o u => h.get? a = some o ∧ ObjOk H h a u
  | .tbl ps => h.get? a = some { cls := .none, data := .fields ps }
  | .met f x => h.get? a = some (PySem.W.methodObj (.ref f) (.ref x))
  | .ext φ => φ h ∧ (∃ o, h.get? a = some o) ∧ ∀ h1 h2 : Heap, φ h1 → (∀ o, h1.get? a = some o → h2.get? a = some o) → φ h2
noncomputable def HOk (H : Hp) (h : Heap) : Prop := ∀ a o, H a = some o → ObjOk P w H h a o
end
section
variable {P : Program} {w : World} {H H' : Hp} {h h' : Heap} {a : Addr} {o : HO}
theorem ObjOk.lt (x : ObjOk P w H h a o) : a < h.objs.size := by
  cases o with
  | lst xs => obtain ⟨_, _, _, _, e⟩ := x; exact Heap.lt_size e
  | tup xs => obtain ⟨_, _, _, p⟩ := x; exact p.lt
  | dK kvs => obtain ⟨_, _, _, _, o, _, _, e, _⟩ := x; exact Heap.lt_size e
  | dT kvs => obtain ⟨_, _, _, _, o, _, _, e, _⟩ := x; exact Heap.lt_size e
  | set S n => obtain ⟨o, _, _, _, e, _⟩ := x; exact Heap.lt_size e
  | ins C dx fs => obtain ⟨_, _, _, e, _⟩ := x; exact Heap.lt_size e
  | own y => obtain ⟨_, e⟩ := x; exact Heap.lt_size e
  | xd fs => obtain ⟨_, ⟨_, _, _, e, _⟩, _⟩ := x; exact Heap.lt_size e
  | rng lo hi => obtain ⟨_, _, _, e⟩ := x; exact Heap.lt_size e
  | frz ob u => obtain ⟨e, _⟩ := x; exact Heap.lt_size e
  | tbl ps => exact Heap.lt_size (show h.get? a = some _ from x)
  | met f y => exact Heap.lt_size (show h.get? a = some _ from x)
  | ext φ => obtain ⟨_, ⟨_, e⟩, _⟩ := x; exact Heap.lt_size e
theorem Paired.mapP {α β : Type} {F G : α → β → Prop} : ∀ {l₁ : List α} {l₂ : List β}, Paired F l₁ l₂ → (∀ a b, F a b → G a b) → Paired G l₁ l₂
  | _, _, .nil, _ => .nil
  | _, _, .cons r t, f => .cons (f _ _ r) (Paired.mapP t f)
theorem ObjOk.stay (x : ObjOk P w H h a o) (k : ∀ b u, (b = a ∨ H b = some (.own a)) → h.get? b = some u → h'.get? b = some u)
    (ho : ∀ b, H b = some (.own a) → H' b = some (.own a)) (ht : ∀ b xs, H b = some (.tup xs) → H' b = some (.tup xs)) : ObjOk P w H' h' a o := by
  induction o with
  | lst xs => obtain ⟨z, its, n, r, e⟩ := x; exact ⟨z, its, n, r, k _ _ (.inl rfl) e⟩
  | tup xs => obtain ⟨z, its, r, ob, e, c⟩ := x; exact ⟨z, its, r, ob, k _ _ (.inl rfl) e, c⟩
  | dK kvs => obtain ⟨z, y, vs, r, ob, es, ep, e, c⟩ := x; exact ⟨z, y, vs, r, ob, es, ep, k _ _ (.inl rfl) e, c⟩
  | dT kvs =>
    obtain ⟨z, y, xs, r, ob, es, ep, e, c⟩ := x
    exact ⟨z, y, xs, Paired.mapP r fun p q z => ⟨z.1, ht _ _ z.2.1, z.2.2⟩, ob, es, ep, k _ _ (.inl rfl) e, c⟩
  | set S n => obtain ⟨ob, es, ep, t, e, c⟩ := x; exact ⟨ob, es, ep, t, k _ _ (.inl rfl) e, c⟩
  | ins C dx fs =>
    obtain ⟨d, z, ne, e, mA, ⟨od, es, ep, e2, c⟩, r⟩ := x
    exact ⟨ho _ d, z, ne, k _ _ (.inl rfl) e, mA, ⟨od, es, ep, k _ _ (.inr d) e2, c⟩, r⟩
  | own y => obtain ⟨ob, e⟩ := x; exact ⟨ob, k _ _ (.inl rfl) e⟩
  | xd fs => obtain ⟨mA, ⟨od, es, ep, e, c⟩, r⟩ := x; exact ⟨mA, ⟨od, es, ep, k _ _ (.inl rfl) e, c⟩, r⟩
  | rng lo hi => obtain ⟨t, u, v, e⟩ := x; exact ⟨t, u, v, k _ _ (.inl rfl) e⟩
  | frz ob u ih => obtain ⟨e, q⟩ := x; exact ⟨k _ _ (.inl rfl) e, ih q⟩
  | tbl ps =>
    have e : h.get? a = some { cls := .none, data := .fields ps } := x
    show h'.get? a = some { cls := .none, data := .fields ps }
    exact k a _ (.inl rfl) e
  | met f y =>
    have e : h.get? a = some (PySem.W.methodObj (.ref f) (.ref y)) := x
    show h'.get? a = some (PySem.W.methodObj (.ref f) (.ref y))
    exact k a _ (.inl rfl) e
  | ext φ => obtain ⟨p, ⟨o, e⟩, st⟩ := x; exact ⟨st _ _ p fun o q => k _ _ (.inl rfl) q, ⟨o, k _ _ (.inl rfl) e⟩, st⟩
theorem HOk.lt (x : HOk P w H h) (e : H a = some o) : a < h.objs.size := (x a o e).lt
theorem HOk.fresh (x : HOk P w H h) (e : h.objs.size ≤ a) : H a = none := by
  cases q : H a with
  | none => rfl
  | some u => exact absurd (Nat.lt_of_lt_of_le (x.lt q) e) (Nat.lt_irrefl _)
theorem HOk.kept (x : HOk P w H h) (k : ∀ b u, h.get? b = some u → h'.get? b = some u) : HOk P w H h' := fun a o e =>
  (x a o e).stay (fun b u _ q => k b u q) (fun _ q => q) fun _ _ q => q
theorem HOk.laid (x : HOk P w H h) (k : ∀ b u, h.get? b = some u → h'.get? b = some u) (hp : h.objs.size ≤ a) (new : ObjOk P w (upd H a o) h' a o) : HOk P w (upd H a o) h' := fun b u e => by
  have hn := x.fresh hp
  by_cases hb : b = a
  · subst hb; rw [upd_same] at e; cases e; exact new
  · rw [upd_ne hb] at e
    exact (x b u e).stay (fun c v _ q => k c v q) (fun c q => by rw [upd_ne (ne_of_none q hn)]; exact q) fun c xs q => by rw [upd_ne (ne_of_none q hn)]; exact q
end
noncomputable def Rd (H : Hp) (a : Addr) (u : HO) : Prop := H a = some u ∨ ∃ o, H a = some (.frz o u)
theorem Rd.ok {P : Program} {w : World} {H : Hp} {h : Heap} {a : Addr} {u : HO} (r : Rd H a u) (x : HOk P w H h) : ObjOk P w H h a u := by
  rcases r with r | ⟨o, r⟩
  · exact x a u r
  · obtain ⟨_, q⟩ := x a _ r
    exact q
noncomputable def Mut : Option HO → Prop
  | some (.lst _) => True
  | some (.dK _) => True
  | some (.dT _) => True
  | some (.set _ _) => True
  | some (.ins _ _ _) => True
  | some (.ext _) => True
  | _ => False
section
variable {P : Program} {w : World} {H : Hp} {h h' : Heap} {x e : Addr} {o' : HO}
theorem HOk.write (ok : HOk P w H h) (mu : Mut (H x)) (he : e = x ∨ H e = some (.own x)) (k : ∀ b u, b ≠ e → h.get? b = some u → h'.get? b = some u) (heo : ∃ u, h'.get? e = some u)
    (new : ObjOk P w (upd H x o') h' x o') : HOk P w (upd H x o') h' := fun b u q => by
  have nown : ∀ c y, H c = some (.own y) → c ≠ x := fun c y r z => by subst z; rw [r] at mu; exact mu
  have ntup : ∀ c xs, H c = some (.tup xs) → c ≠ x := fun c xs r z => by subst z; rw [r] at mu; exact mu
  by_cases hb : b = x
  · subst hb; rw [upd_same] at q; cases q; exact new
  · rw [upd_ne hb] at q
    by_cases hbe : b = e
    · have q' : H b = some (.own x) := by
        rcases he with z | z
        · exact absurd (hbe.trans z) hb
        · rw [hbe]; exact z
      rw [q] at q'; cases q'
      obtain ⟨v, hv⟩ := heo
      exact ⟨v, by rw [hbe]; exact hv⟩
    · refine (ok b u q).stay (fun c v hc r => k c v ?_ r) (fun c r => by rw [upd_ne (nown c b r)]; exact r) fun c xs r => by rw [upd_ne (ntup c xs r)]; exact r
      rcases hc with rfl | hc
      · exact hbe
      · rintro rfl
        rcases he with z | z
        · exact nown c b hc z
        · rw [hc] at z; cases z; exact hb rfl
end
structure Un (fs ex : List Addr) (H H' : Hp) (h h' : Heap) : Prop where
  keep : ∀ b o, h.get? b = some o → H b = none → b ∉ fs → b ∉ ex → h'.get? b = some o
  slot : ∀ b o, h.get? b = some o → H b = none → b ∈ fs → b ∉ ex → ∃ sl, h'.get? b = some { o with slots := sl }
  free : ∀ b o, h.get? b = some o → H b = none → b ∉ ex → H' b = none
  there : ∀ b o, h.get? b = some o → b ∉ ex → ∃ o', h'.get? b = some o'
  tups : ∀ b xs, H b = some (.tup xs) → H' b = some (.tup xs)
  frzs : ∀ b o u, H b = some (.frz o u) → H' b = some (.frz o u)
  tbls : ∀ b ps, H b = some (.tbl ps) → ∃ more, H' b = some (.tbl (ps ++ more))
section
variable {fs fs' ex ex' : List Addr} {H H1 H2 : Hp} {h h1 h2 h' : Heap} {a x e : Addr} {o : HO}
theorem Un.any (u : Un fs ex H H1 h h1) {b : Addr} {ob : Obj} (q : h.get? b = some ob) (n : H b = none) (hx : b ∉ ex) : ∃ sl, h1.get? b = some { ob with slots := sl } := by
  by_cases hb : b ∈ fs
  · exact u.slot b ob q n hb hx
  · exact ⟨ob.slots, u.keep b ob q n hb hx⟩
theorem Un.kept (k : ∀ b u, h.get? b = some u → h'.get? b = some u) : Un fs ex H H h h' :=
  ⟨fun b ob q _ _ _ => k b ob q, fun b ob q _ _ _ => ⟨ob.slots, k b ob q⟩, fun _ _ _ n _ => n, fun b ob q _ => ⟨ob, k b ob q⟩, fun _ _ q => q, fun _ _ _ q => q, fun _ ps q => ⟨#[], by rw [q]; simp⟩⟩
theorem Un.refl : Un fs ex H H h h := Un.kept fun _ _ q => q
theorem Un.laid (k : ∀ b u, h.get? b = some u → h'.get? b = some u) (hp : h.objs.size ≤ a) (hn : H a = none) : Un fs ex H (upd H a o) h h' where
  keep := fun b u q _ _ _ => k b u q
  slot := fun b u q _ _ _ => ⟨u.slots, k b u q⟩
  free := fun b u q n _ => by rw [upd_ne (Nat.ne_of_lt (Nat.lt_of_lt_of_le (Heap.lt_size q) hp))]; exact n
  there := fun b u q _ => ⟨u, k b u q⟩
  tups := fun b xs q => by rw [upd_ne (ne_of_none q hn)]; exact q
  frzs := fun b u xs q => by rw [upd_ne (ne_of_none q hn)]; exact q
  tbls := fun b ps q => ⟨#[], by rw [upd_ne (ne_of_none q hn), q]; simp⟩
theorem Un.write (mu : Mut (H x)) (he : e = x ∨ H e = some (.own x)) (k : ∀ b u, b ≠ e → h.get? b = some u → h'.get? b = some u) (heo : ∃ u, h'.get? e = some u) : Un fs ex H (upd H x o) h h' := by
  have hx : ∀ b, H b = none → b ≠ x := fun b n z => by subst z; rw [n] at mu; exact mu
  have hb : ∀ b, H b = none → b ≠ e := fun b n z => by
    subst z
    rcases he with r | r
    · exact hx b n r
    · rw [n] at r; cases r
  have hm : ∀ b u, H b = some u → ¬ Mut (some u) → b ≠ x := fun b u q nm z => by subst z; rw [q] at mu; exact nm mu
  refine ⟨fun b u q n _ _ => k b u (hb b n) q, fun b u q n _ _ => ⟨u.slots, k b u (hb b n) q⟩, fun b u q n _ => by rw [upd_ne (hx b n)]; exact n, fun b u q _ => ?_,
    fun b xs q => by rw [upd_ne (hm b _ q fun z => z)]; exact q, fun b u xs q => by rw [upd_ne (hm b _ q fun z => z)]; exact q, fun b ps q => ⟨#[], by rw [upd_ne (hm b _ q fun z => z), q]; simp⟩⟩
  by_cases hbe : b = e
  · subst hbe; exact heo
  · exact ⟨u, k b u hbe q⟩
end
noncomputable def trk (h : Heap) (H : Hp) : List Addr := (List.range h.objs.size).filter fun a => (H a).isSome
noncomputable def hidT (h : Heap) (H : Hp) : Heap := PySem.W.hideAll h (trk h H)
theorem hidT_size (h : Heap) (H : Hp) : (hidT h H).objs.size = h.objs.size := PySem.W.hideAll_size _ _
theorem hidT_get {h : Heap} {H : Hp} {b : Addr} {o : Obj} (e : h.get? b = some o) (n : H b = none) : (hidT h H).get? b = some o :=
  PySem.W.hideAll_get _ e fun hm => by
    have q : (H b).isSome = true := (List.mem_filter.mp hm).2
    rw [n] at q; simp at q
theorem of_hidT {h : Heap} {H : Hp} {b : Addr} {o : Obj} (e : (hidT h H).get? b = some o) : h.get? b = some o ∧ H b = none := by
  have e' : h.get? b = some o := PySem.W.of_hideAll (trk h H) e
  refine ⟨e', ?_⟩
  cases q : H b with
  | none => rfl
  | some x =>
    have hm : b ∈ trk h H := List.mem_filter.mpr ⟨List.mem_range.mpr (Heap.lt_size e'), by simp [q]⟩
    have z : (hidT h H).get? b = none := PySem.W.hideAll_none (trk h H) hm
    rw [z] at e; cases e
end L2
namespace L2
open PySem PySem.Spec PyProof.Rows
structure Mod (K : PySem.W.Frag) (mg : Str → Option Value) (base : Heap) : Prop where
  kin : K.In base
  glob : base.Ns mainGlobals mg
  blt : ∃ mb, base.Ns builtinsNs mb ∧ ∀ x : Str, x ≠ "__name__" → mb x = bootBuiltins x
  nolimit : base.NoLimit
structure Cx where
  prog : Program
  w : World
  K : PySem.W.Frag
  mg : Str → Option Value
  base : Heap
  A : Around
  N : List Str
  s₀ : Shared
  H₀ : Hp
  env : Env
  outer : List Env
  stack : List Env
  ex : List Addr
  fn : Str → Bool
  calm : Bool
  pn : List (Addr × Obj)
  xe : Value → Shared → Prop
noncomputable def frs (l : List Env) : List Addr := l.filterMap (·.frame)
noncomputable abbrev Cx.fs (X : Cx) : List Addr := frs X.outer
noncomputable def Vis (sc : Scope) (x : Str) : Prop := sc.names.lookup x = some .local ∨ sc.names.lookup x = some .cell ∨ sc.names.lookup x = some .free
noncomputable def Loc (sc : Scope) (x : Str) : Prop := sc.names.lookup x = some .local ∨ sc.names.lookup x = some .cell
noncomputable def Look (env : Env) (h : Heap) (m : Str → Option Value) (x : Str) (u : Value) : Prop :=
  (env.kindOf x = some .local ∧ m x = some u) ∨ ((env.kindOf x = some .cell ∨ env.kindOf x = some .free) ∧ ∃ c, env.cells.lookup x = some c ∧ h.IsCell c (some u))
structure Cx.Ok (X : Cx) : Prop where
  mod : Mod X.K X.mg X.base
  kind : X.env.scope.kind = .function
  glob : X.env.globals = mainGlobals
  blt : X.env.builtins = builtinsNs
  above : X.s₀.heap.objs.size ≤ X.env.locals
  inj : ∀ x y c, X.env.cells.lookup x = some c → X.env.cells.lookup y = some c → x = y
  has : ∀ x, (X.env.kindOf x = some .cell ∨ X.env.kindOf x = some .free) → ∃ c, X.env.cells.lookup x = some c
  cab : ∀ x c, X.fn x = true → X.env.cells.lookup x = some c → X.s₀.heap.objs.size ≤ c
  hd : X.calm = true → X.A.handled = none
  frames : X.A.frames = some X.stack
  stk : X.stack = X.outer ∨ (X.stack = X.env :: X.outer ∧ X.env.frame = some X.env.locals)
  exf : ∀ b ∈ X.ex, b ≠ X.env.locals ∧ ∀ x c, X.env.cells.lookup x = some c → c ≠ b
  bs : ∀ b o, X.base.get? b = some o → X.s₀.heap.get? b = some o ∧ X.H₀ b = none
  bsz : X.base.objs.size ≤ X.s₀.heap.objs.size
  noex : ∀ b o, X.base.get? b = some o → b ∉ X.ex
  exfs : ∀ b ∈ X.ex, b ∉ X.fs
  funs : X.s₀.heap.FunFrames X.base X.outer
  frf : ∀ b ∈ X.fs, X.H₀ b = none
structure Inv (X : Cx) (pins : List (Addr × Obj)) (σ : List (Option V)) (H : Hp) (s : Shared) : Prop where
  ok : X.Ok
  os : s.os = X.s₀.os
  bare : AllBare s.gens
  base : Un X.fs X.ex X.H₀ H X.s₀.heap s.heap
  loc : ∃ m, s.heap.Ns X.env.locals m ∧ ∀ (i : Nat) (x : Str) (v : V), X.N[i]? = some x → σ[i]? = some (some v) → Vis X.env.scope x → ∃ u, RelV v u ∧ Look X.env s.heap m x u
  cell : ∀ x c, X.env.cells.lookup x = some c → ∃ v, s.heap.IsCell c v
  free : H X.env.locals = none
  freeC : ∀ x c, X.env.cells.lookup x = some c → H c = none
  pin : ∀ p ∈ X.pn ++ pins, s.heap.get? p.1 = some p.2 ∧ H p.1 = none ∧ p.1 ≠ X.env.locals ∧ p.1 ∉ X.fs ∧ ∀ v, p.2.data ≠ .cell v
  hok : HOk X.prog X.w H s.heap
  len : σ.length = X.N.length
section
variable {X : Cx} {pins : List (Addr × Obj)} {σ : List (Option V)} {H H' : Hp} {s : Shared} {h' : Heap}
theorem Cx.Ok.nofr (ok : X.Ok) {b : Addr} {o : Obj} (e : X.base.get? b = some o) : b ∉ X.fs := fun hb => by
  have := (ok.funs.mem hb).1
  rw [e] at this; cases this
theorem Inv.bs (I : Inv X pins σ H s) : ∀ b o, X.base.get? b = some o → s.heap.get? b = some o ∧ H b = none := fun b o e =>
  ⟨I.base.keep b o (I.ok.bs b o e).1 (I.ok.bs b o e).2 (I.ok.nofr e) (I.ok.noex b o e), I.base.free b o (I.ok.bs b o e).1 (I.ok.bs b o e).2 (I.ok.noex b o e)⟩
theorem Inv.bk (I : Inv X pins σ H s) : ∀ b o, X.base.get? b = some o → s.heap.get? b = some o := fun b o e => (I.bs b o e).1
theorem Inv.mod (I : Inv X pins σ H s) : Mod X.K X.mg X.base := I.ok.mod
theorem Inv.kIn (I : Inv X pins σ H s) : X.K.In s.heap := I.ok.mod.kin.keeps I.bk
theorem Inv.lt (I : Inv X pins σ H s) : X.env.locals < s.heap.objs.size := let ⟨_, hn, _⟩ := I.loc; hn.lt
theorem Inv.sz (I : Inv X pins σ H s) : X.s₀.heap.objs.size ≤ s.heap.objs.size := Nat.le_trans I.ok.above (Nat.le_of_lt I.lt)
theorem Inv.nofs (I : Inv X pins σ H s) {a : Addr} (h : s.heap.objs.size ≤ a) : a ∉ X.fs := fun hb => by
  obtain ⟨_, o, ho, _⟩ := I.ok.funs.mem hb
  exact absurd (Nat.lt_of_lt_of_le (Heap.lt_size ho) (Nat.le_trans I.sz h)) (Nat.lt_irrefl _)
theorem Inv.cne (I : Inv X pins σ H s) : ∀ x c, X.env.cells.lookup x = some c → c ≠ X.env.locals := fun x c e z => by
  obtain ⟨v, o, ho, hd⟩ := I.cell x c e
  obtain ⟨m, ⟨o', es, ep, ho', hd', _⟩, _⟩ := I.loc
  rw [z, ho'] at ho; cases ho; rw [hd'] at hd; cases hd
theorem Inv.funs (I : Inv X pins σ H s) : s.heap.FunFrames X.base X.outer := by
  have all : ∀ (l : List Env), (∀ b ∈ frs l, b ∈ X.fs) → X.s₀.heap.FunFrames X.base l → s.heap.FunFrames X.base l := by
    intro l
    induction l with
    | nil => intro _ _; trivial
    | cons env r ih =>
      intro hs hl
      obtain ⟨hk, ⟨L, o, hf, hn, ho, hd⟩, hr⟩ := hl
      have hL : L ∈ X.fs := hs L (by unfold frs; rw [List.filterMap_cons, hf]; exact List.mem_cons_self)
      obtain ⟨sl, e⟩ := I.base.slot L o ho (I.ok.frf L hL) hL fun z => I.ok.exfs L z hL
      exact ⟨hk, ⟨L, _, hf, hn, e, hd⟩, ih (fun b hb => hs b (by unfold frs; rw [List.filterMap_cons, hf]; exact List.mem_cons_of_mem _ hb)) hr⟩
  exact all X.outer (fun _ hb => hb) I.ok.funs
theorem Inv.stack (I : Inv X pins σ H s) : s.heap.FunFrames X.base X.stack := by
  rcases I.ok.stk with e | ⟨e, hf⟩
  · rw [e]; exact I.funs
  · rw [e]
    obtain ⟨m, hn, _⟩ := I.loc
    refine .cons (by rw [I.ok.kind]; decide) hf hn ?_ I.funs
    exact Heap.get?_none_of_le (Nat.le_trans I.ok.bsz I.ok.above)
theorem Inv.stkSub (I : Inv X pins σ H s) : ∀ b ∈ frs X.stack, b ∈ X.env.locals :: X.fs := fun b hb => by
  rcases I.ok.stk with e | ⟨e, hf⟩
  · rw [e] at hb; exact List.mem_cons_of_mem _ hb
  · rw [e] at hb
    unfold frs at hb
    rw [List.filterMap_cons, hf] at hb
    exact hb
theorem Inv.stkFree (I : Inv X pins σ H s) : ∀ b ∈ frs X.stack, H b = none := fun b hb => by
  rcases List.mem_cons.mp (I.stkSub b hb) with e | hb
  · rw [e]; exact I.free
  · obtain ⟨_, o, ho, _⟩ := I.ok.funs.mem hb
    exact I.base.free b o ho (I.ok.frf b hb) fun z => I.ok.exfs b z hb
theorem Inv.step {g' : Array GenState} {t' : Nat} {d' : Drawn} {ch : List Addr} (I : Inv X pins σ H s)
    (hch : ∀ b ∈ ch, (b ∈ X.ex ∨ X.s₀.heap.objs.size ≤ b) ∧ b ≠ X.env.locals ∧ (∀ x c, X.env.cells.lookup x = some c → c ≠ b) ∧ ∀ p ∈ X.pn ++ pins, p.1 ≠ b)
    (keep : ∀ b o, b ≠ X.env.locals → b ∉ X.fs → b ∉ ch → s.heap.get? b = some o → H b = none → h'.get? b = some o)
    (slot : ∀ b o, b ≠ X.env.locals → b ∈ X.fs → b ∉ ch → s.heap.get? b = some o → H b = none → ∃ sl, h'.get? b = some { o with slots := sl }) (free : ∀ b o, b ∉ ch → s.heap.get? b = some o → H b = none → H' b = none)
    (there : ∀ b o, b ∉ ch → s.heap.get? b = some o → ∃ o', h'.get? b = some o')
    (tups : ∀ b xs, H b = some (.tup xs) → H' b = some (.tup xs)) (frzs : ∀ b o u, H b = some (.frz o u) → H' b = some (.frz o u)) (tbls : ∀ b ps, H b = some (.tbl ps) → ∃ more, H' b = some (.tbl (ps ++ more)))
    (ns : ∀ m, s.heap.Ns X.env.locals m → h'.Ns X.env.locals m) (hok : HOk X.prog X.w H' h') (hg : AllBare g') :
    Inv X pins σ H' { s with heap := h', gens := g', drawn := d', toks := t' } := by
  have neL : ∀ b o, X.s₀.heap.get? b = some o → b ≠ X.env.locals := fun b o e => Nat.ne_of_lt (Nat.lt_of_lt_of_le (Heap.lt_size e) I.ok.above)
  have neC : ∀ b o, X.s₀.heap.get? b = some o → b ∉ X.ex → b ∉ ch := fun b o e hx hb => by
    rcases (hch b hb).1 with z | z
    · exact hx z
    · exact absurd (Nat.lt_of_lt_of_le (Heap.lt_size e) z) (Nat.lt_irrefl _)
  have cellK : ∀ x c, X.env.cells.lookup x = some c → ∀ v, s.heap.IsCell c v → h'.IsCell c v := fun x c e v ⟨o, ho, hd⟩ => by
    have nch : c ∉ ch := fun z => (hch c z).2.2.1 x c e rfl
    by_cases hc : c ∈ X.fs
    · obtain ⟨sl, q⟩ := slot c o (I.cne x c e) hc nch ho (I.freeC x c e)
      exact ⟨_, q, hd⟩
    · exact ⟨o, keep c o (I.cne x c e) hc nch ho (I.freeC x c e), hd⟩
  refine ⟨I.ok, I.os, hg, ⟨fun b o e n hb hx => ?_, fun b o e n hb hx => ?_, fun b o e n hx => ?_, fun b o e hx => ?_, fun b xs e => tups b xs (I.base.tups b xs e), fun b o xs e => frzs b o xs (I.base.frzs b o xs e), fun b ps e => ?_⟩, ?_, fun x c e => ?_, ?_, fun x c e => ?_, fun p hp => ?_, hok, I.len⟩
  · exact keep b o (neL b o e) hb (neC b o e hx) (I.base.keep b o e n hb hx) (I.base.free b o e n hx)
  · obtain ⟨sl, e1⟩ := I.base.slot b o e n hb hx
    obtain ⟨sl', e2⟩ := slot b _ (neL b o e) hb (neC b o e hx) e1 (I.base.free b o e n hx)
    exact ⟨sl', e2⟩
  · obtain ⟨o', e1⟩ := I.base.there b o e hx
    exact free b o' (neC b o e hx) e1 (I.base.free b o e n hx)
  · obtain ⟨o', e1⟩ := I.base.there b o e hx
    exact there b o' (neC b o e hx) e1
  · obtain ⟨m1, e1⟩ := I.base.tbls b ps e
    obtain ⟨m2, e2⟩ := tbls b _ e1
    exact ⟨m1 ++ m2, by rw [e2, Array.append_assoc]⟩
  · obtain ⟨m, hn, hl⟩ := I.loc
    refine ⟨m, ns m hn, fun i x v e1 e2 e3 => ?_⟩
    obtain ⟨u, r, l⟩ := hl i x v e1 e2 e3
    refine ⟨u, r, ?_⟩
    rcases l with l | ⟨k, c, e, z⟩
    · exact .inl l
    · exact .inr ⟨k, c, e, cellK x c e _ z⟩
  · obtain ⟨v, z⟩ := I.cell x c e
    exact ⟨v, cellK x c e v z⟩
  · obtain ⟨m, ⟨o, _, _, ho, _⟩, _⟩ := I.loc
    exact free _ o (fun z => (hch _ z).2.1 rfl) ho I.free
  · obtain ⟨v, o, ho, hd⟩ := I.cell x c e
    exact free c o (fun z => (hch c z).2.2.1 x c e rfl) ho (I.freeC x c e)
  · obtain ⟨e, n, ne, nf, d⟩ := I.pin p hp
    have nch : p.1 ∉ ch := fun z => (hch p.1 z).2.2.2 p hp rfl
    exact ⟨keep p.1 p.2 ne nf nch e n, free p.1 p.2 nch e n, ne, nf, d⟩
theorem Inv.un {t' : Nat} (I : Inv X pins σ H s) (u : Un X.fs [] H H' s.heap h') (hok : HOk X.prog X.w H' h') : Inv X pins σ H' { s with heap := h', toks := t' } := by
  obtain ⟨m, ⟨o, es, ep, ho, r⟩, _⟩ := id I.loc
  obtain ⟨sl, hL⟩ := u.any ho I.free (by simp)
  exact I.step (g' := s.gens) (d' := s.drawn) (ch := []) (fun _ z => nomatch z) (fun b o _ hb _ e n => u.keep b o e n hb (by simp)) (fun b o _ hb _ e n => u.slot b o e n hb (by simp)) (fun b o _ e n => u.free b o e n (by simp)) (fun b o _ e => u.there b o e (by simp)) u.tups u.frzs u.tbls (fun m' hm => by
    obtain ⟨o', es', ep', ho', r'⟩ := hm
    rw [ho] at ho'; cases ho'
    exact ⟨_, es', ep', hL, r'⟩) hok I.bare
theorem Inv.call {g' : Array GenState} {t' : Nat} {d' : Drawn} {ch : List Addr} (I : Inv X pins σ H s) (u : Un (frs X.stack) ch H H' s.heap h') (hok : HOk X.prog X.w H' h') (hg : AllBare g')
    (hch : ∀ b ∈ ch, (b ∈ X.ex ∨ X.s₀.heap.objs.size ≤ b) ∧ b ≠ X.env.locals ∧ (∀ x c, X.env.cells.lookup x = some c → c ≠ b) ∧ ∀ p ∈ X.pn ++ pins, p.1 ≠ b) :
    Inv X pins σ H' { s with heap := h', gens := g', drawn := d', toks := t' } := by
  obtain ⟨m, ⟨o, es, ep, ho, r⟩, _⟩ := id I.loc
  obtain ⟨sl, hL⟩ := u.any ho I.free fun z => (hch _ z).2.1 rfl
  exact I.step (ch := ch) hch (fun b o hL hb hc e n => u.keep b o e n (fun z => (List.mem_cons.mp (I.stkSub b z)).elim hL hb) hc) (fun b o _ _ hc e n => u.any e n hc) (fun b o hc e n => u.free b o e n hc) (fun b o hc e => u.there b o e hc) u.tups u.frzs u.tbls (fun m' hm => by
    obtain ⟨o', es', ep', ho', r'⟩ := hm
    rw [ho] at ho'; cases ho'
    exact ⟨_, es', ep', hL, r'⟩) hok hg
theorem Inv.turned {t' : Nat} {it : Addr} (I : Inv X pins σ H s) (k : ∀ b o, b ≠ it → s.heap.get? b = some o → h'.get? b = some o) (hn : H it = none) (hL : it ≠ X.env.locals)
    (h1 : it ∈ X.ex ∨ X.s₀.heap.objs.size ≤ it) (h2 : ∀ x c, X.env.cells.lookup x = some c → c ≠ it) (h3 : ∀ p ∈ X.pn ++ pins, p.1 ≠ it) : Inv X pins σ H { s with heap := h', toks := t' } := by
  have nit : ∀ b u, H b = some u → b ≠ it := fun b u e z => by rw [z, hn] at e; cases e
  refine I.step (g' := s.gens) (d' := s.drawn) (ch := [it]) (fun b hb => ?_) (fun b o _ _ hc e _ => k b o (fun z => hc (by simp [z])) e) (fun b o _ _ hc e _ => ⟨o.slots, k b o (fun z => hc (by simp [z])) e⟩) (fun _ _ _ _ n => n)
    (fun b o hc e => ⟨o, k b o (fun z => hc (by simp [z])) e⟩) (fun _ _ e => e) (fun _ _ _ e => e) (fun b ps e => ⟨#[], by rw [e]; simp⟩) (fun m hm => ?_) (fun b u e => ?_) I.bare
  · have e : b = it := by simpa using hb
    subst e
    exact ⟨h1, hL, h2, h3⟩
  · obtain ⟨o, es, ep, ho, r⟩ := hm
    exact ⟨o, es, ep, k _ o (Ne.symm hL) ho, r⟩
  · refine (I.hok b u e).stay (fun c v hc q => k c v ?_ q) (fun _ q => q) fun _ _ q => q
    rcases hc with z | z
    · rw [z]; exact nit b u e
    · exact nit c _ z
theorem Inv.tok (I : Inv X pins σ H s) (t : Nat) : Inv X pins σ H { s with toks := t } := I.un (h' := s.heap) (t' := t) Un.refl I.hok
theorem Inv.kept {t' : Nat} (I : Inv X pins σ H s) (k : ∀ b u, s.heap.get? b = some u → h'.get? b = some u) : Inv X pins σ H { s with heap := h', toks := t' } := I.un (Un.kept k) (I.hok.kept k)
theorem Inv.laid {a : Addr} {o : HO} {t' : Nat} (I : Inv X pins σ H s) (k : ∀ b u, s.heap.get? b = some u → h'.get? b = some u) (hp : s.heap.objs.size ≤ a) (new : ObjOk X.prog X.w (upd H a o) h' a o) :
    Inv X pins σ (upd H a o) { s with heap := h', toks := t' } := I.un (Un.laid k hp (I.hok.fresh hp)) (I.hok.laid k hp new)
theorem Inv.write {x e : Addr} {o : HO} {t' : Nat} (I : Inv X pins σ H s) (mu : Mut (H x)) (he : e = x ∨ H e = some (.own x)) (k : ∀ b u, b ≠ e → s.heap.get? b = some u → h'.get? b = some u) (heo : ∃ u, h'.get? e = some u)
    (new : ObjOk X.prog X.w (upd H x o) h' x o) : Inv X pins σ (upd H x o) { s with heap := h', toks := t' } := I.un (Un.write mu he k heo) (I.hok.write mu he k heo new)
theorem Inv.pins_of {pins' : List (Addr × Obj)} (I : Inv X pins σ H s) (h : ∀ p ∈ pins', s.heap.get? p.1 = some p.2 ∧ H p.1 = none ∧ p.1 ≠ X.env.locals ∧ p.1 ∉ X.fs ∧ ∀ v, p.2.data ≠ .cell v) : Inv X pins' σ H s :=
  ⟨I.ok, I.os, I.bare, I.base, I.loc, I.cell, I.free, I.freeC, fun p hp => (List.mem_append.mp hp).elim (fun z => I.pin p (List.mem_append_left _ z)) (h p), I.hok, I.len⟩
theorem nodup_ix {N : List Str} (hN : N.Nodup) {i j : Nat} {x : Str} (a : N[i]? = some x) (b : N[j]? = some x) : i = j := by
  obtain ⟨h1, e1⟩ := List.getElem?_eq_some_iff.mp a
  obtain ⟨h2, e2⟩ := List.getElem?_eq_some_iff.mp b
  exact (List.getElem_inj hN).mp (e1.trans e2.symm)
theorem store_ok2 {M : Model} {A : Around} {E : Value → Shared → Prop} {i : Nat} {x : Str} {v : V} {u : Value} {Q : Unit → Shared → Prop} (I : Inv X pins σ H s) (hN : X.N.Nodup) (hi : X.N[i]? = some x) (hx : Loc X.env.scope x) (r : RelV v u)
    (h : ∀ s', Inv X pins (σ.set i (some v)) H s' → (∃ a, Heap.SameBut a s.heap s'.heap ∧ (a = X.env.locals ∨ X.env.cells.lookup x = some a)) → Q () s') (hf : X.fn x = true ∨ X.env.scope.names.lookup x = some .local := by first | exact .inl rfl | exact .inr rfl | assumption) : wpAny M A (storeName X.env x u) Q E s := by
  obtain ⟨m, hn, hl⟩ := id I.loc
  have hcls : (X.env.scope.kind == .class || (X.env.scope.kind == .module && X.env.locals != X.env.globals)) = false := by rw [I.ok.kind]; rfl
  have hiσ : i < σ.length := by rw [I.len]; exact (List.getElem?_eq_some_iff.mp hi).1
  have cne := I.cne
  have tracked : ∀ {a : Addr} {h' : Heap}, (∃ o, s.heap.get? a = some o ∧ H a = none) → Heap.SameBut a s.heap h' → HOk X.prog X.w H h' := fun {a h'} ha hs b ob e => by
    obtain ⟨_, _, hfree⟩ := ha
    refine (I.hok b ob e).stay (fun c w' hc q => (hs.2 c ?_).trans q) (fun _ q => q) fun _ _ q => q
    rintro rfl
    rcases hc with rfl | hc
    · rw [hfree] at e; cases e
    · rw [hfree] at hc; cases hc
  rcases hx with hk | hk
  · refine wpAny_storeName_local hk hn (fun h' hn' hs => ?_) hcls
    obtain ⟨oL, _, _, hoL, _⟩ := id hn
    refine h _ ⟨I.ok, I.os, I.bare, ⟨fun b o e n hb hx => ?_, fun b o e n hb hx => ?_, I.base.free, fun b o e hx => ?_, I.base.tups, I.base.frzs, I.base.tbls⟩, ⟨_, hn', fun j y v' e1 e2 e3 => ?_⟩, fun y c e => ?_, I.free, I.freeC, fun p hp => ?_, tracked ⟨oL, hoL, I.free⟩ hs, by simpa using I.len⟩ ⟨_, hs, .inl rfl⟩
    · exact (hs.2 b (Nat.ne_of_lt (Nat.lt_of_lt_of_le (Heap.lt_size e) I.ok.above))).trans (I.base.keep b o e n hb hx)
    · obtain ⟨sl, e1⟩ := I.base.slot b o e n hb hx
      exact ⟨sl, (hs.2 b (Nat.ne_of_lt (Nat.lt_of_lt_of_le (Heap.lt_size e) I.ok.above))).trans e1⟩
    · obtain ⟨o', e1⟩ := I.base.there b o e hx
      exact ⟨o', (hs.2 b (Nat.ne_of_lt (Nat.lt_of_lt_of_le (Heap.lt_size e) I.ok.above))).trans e1⟩
    · by_cases hj : j = i
      · subst hj
        rw [hi] at e1; cases e1
        rw [List.getElem?_set_self hiσ] at e2
        cases e2
        exact ⟨u, r, .inl ⟨hk, by simp⟩⟩
      · rw [List.getElem?_set_ne (Ne.symm hj)] at e2
        obtain ⟨u', r', q⟩ := hl j y v' e1 e2 e3
        refine ⟨u', r', ?_⟩
        rcases q with ⟨k, e⟩ | ⟨k, c, e, z⟩
        · refine .inl ⟨k, ?_⟩
          have : y ≠ x := fun e => hj (nodup_ix hN e1 (e ▸ hi))
          simp [this, e]
        · exact .inr ⟨k, c, e, z.sameBut hs (cne y c e)⟩
    · obtain ⟨w', z⟩ := I.cell y c e
      exact ⟨w', z.sameBut hs (cne y c e)⟩
    · obtain ⟨e, n, ne, nf, d⟩ := I.pin p hp
      exact ⟨(hs.2 p.1 ne).trans e, n, ne, nf, d⟩
  · have hfn : X.fn x = true := by
      rcases hf with z | z
      · exact z
      · rw [z] at hk; cases hk
    obtain ⟨c, hc⟩ := I.ok.has x (.inl hk)
    obtain ⟨w', z⟩ := I.cell x c hc
    refine wpAny_storeName_cell I.ok.kind hk hc z (fun h' hc' hs => ?_)
    obtain ⟨oc, hoc, hocd⟩ := id z
    refine h { s with heap := h' } ⟨I.ok, I.os, I.bare, ⟨fun b o e n hb hx => ?_, fun b o e n hb hx => ?_, I.base.free, fun b o e hx => ?_, I.base.tups, I.base.frzs, I.base.tbls⟩, ⟨m, hn.sameBut hs (Ne.symm (cne x c hc)), fun j y v' e1 e2 e3 => ?_⟩, fun y c' e => ?_, I.free, I.freeC, fun p hp => ?_, tracked ⟨oc, hoc, I.freeC x c hc⟩ hs, by simpa using I.len⟩ ⟨c, hs, .inr hc⟩
    · exact (hs.2 b (Nat.ne_of_lt (Nat.lt_of_lt_of_le (Heap.lt_size e) (I.ok.cab x c hfn hc)))).trans (I.base.keep b o e n hb hx)
    · obtain ⟨sl, e1⟩ := I.base.slot b o e n hb hx
      exact ⟨sl, (hs.2 b (Nat.ne_of_lt (Nat.lt_of_lt_of_le (Heap.lt_size e) (I.ok.cab x c hfn hc)))).trans e1⟩
    · obtain ⟨o', e1⟩ := I.base.there b o e hx
      exact ⟨o', (hs.2 b (Nat.ne_of_lt (Nat.lt_of_lt_of_le (Heap.lt_size e) (I.ok.cab x c hfn hc)))).trans e1⟩
    · by_cases hj : j = i
      · subst hj
        rw [hi] at e1; cases e1
        rw [List.getElem?_set_self hiσ] at e2
        cases e2
        exact ⟨u, r, .inr ⟨.inl hk, c, hc, hc'⟩⟩
      · rw [List.getElem?_set_ne (Ne.symm hj)] at e2
        obtain ⟨u', r', q⟩ := hl j y v' e1 e2 e3
        refine ⟨u', r', ?_⟩
        rcases q with q | ⟨k, c', e, z'⟩
        · exact .inl q
        · refine .inr ⟨k, c', e, z'.sameBut hs ?_⟩
          rintro rfl
          exact hj (nodup_ix hN e1 (I.ok.inj _ _ _ e hc ▸ hi))
    · by_cases hcc : c' = c
      · subst hcc; exact ⟨_, hc'⟩
      · obtain ⟨w2, z2⟩ := I.cell y c' e
        exact ⟨w2, z2.sameBut hs hcc⟩
    · obtain ⟨e, n, ne, nf, d⟩ := I.pin p hp
      refine ⟨(hs.2 p.1 ?_).trans e, n, ne, nf, d⟩
      intro q
      rw [q, hoc] at e
      have q' : oc = p.2 := Option.some.inj e
      exact d w' (by rw [← q']; exact hocd)
theorem store_ok {M : Model} {A : Around} {E : Value → Shared → Prop} {i : Nat} {x : Str} {v : V} {u : Value} {Q : Unit → Shared → Prop} (I : Inv X pins σ H s) (hN : X.N.Nodup) (hi : X.N[i]? = some x) (hx : Loc X.env.scope x) (r : RelV v u)
    (h : ∀ s', Inv X pins (σ.set i (some v)) H s' → Q () s') (hf : X.fn x = true ∨ X.env.scope.names.lookup x = some .local := by first | exact .inl rfl | exact .inr rfl | assumption) : wpAny M A (storeName X.env x u) Q E s :=
  store_ok2 I hN hi hx r (fun s' I' _ => h s' I') hf
theorem Inv.call' {s' : Shared} {ch : List Addr} (I : Inv X pins σ H s) (ho : s'.os = s.os) (u : Un (frs X.stack) ch H H' s.heap s'.heap) (hok : HOk X.prog X.w H' s'.heap) (hg : AllBare s'.gens)
    (hch : ∀ b ∈ ch, (b ∈ X.ex ∨ X.s₀.heap.objs.size ≤ b) ∧ b ≠ X.env.locals ∧ (∀ x c, X.env.cells.lookup x = some c → c ≠ b) ∧ ∀ p ∈ X.pn ++ pins, p.1 ≠ b) : Inv X pins σ H' s' := by
  obtain ⟨h', g', d', t', o'⟩ := s'
  have e : o' = s.os := ho
  subst e
  exact I.call (g' := g') (t' := t') (d' := d') u hok hg hch
end
noncomputable abbrev XK := Value → Option Addr → Hp → Prop
noncomputable abbrev St := List (Option V)
noncomputable abbrev VK := V → Hp → Prop
noncomputable abbrev TE := St → Hp → VK → Prop
noncomputable abbrev TT := St → Hp → (Bool → Hp → Prop) → Prop
noncomputable abbrev TA := St → Hp → (List V → Hp → Prop) → Prop
structure Ends where
  nx : St → Hp → Prop
  rt : VK
  bk : St → Hp → Prop := fun _ _ => False
  ct : St → Hp → Prop := fun _ _ => False
noncomputable abbrev TS := Ends → St → Hp → Prop
noncomputable def EP (X : Cx) (pins : List (Addr × Obj)) (σ : St) (Q : VK) (u : Value) (s' : Shared) : Prop := ∃ v H', Inv X pins σ H' s' ∧ RelV v u ∧ Q v H'
noncomputable def TP (X : Cx) (pins : List (Addr × Obj)) (σ : St) (Q : Bool → Hp → Prop) (b : Bool) (s' : Shared) : Prop := ∃ H', Inv X pins σ H' s' ∧ Q b H'
noncomputable def AP (X : Cx) (pins : List (Addr × Obj)) (σ : St) (Q : List V → Hp → Prop) (us : List Value) (s' : Shared) : Prop := ∃ vs H', Inv X pins σ H' s' ∧ Vals vs us ∧ Q vs H'
noncomputable def SP (X : Cx) (pins : List (Addr × Obj)) (D : Ends) (f : Flow) (s' : Shared) : Prop :=
  match f with
  | .next => ∃ σ' H', Inv X pins σ' H' s' ∧ D.nx σ' H'
  | .brk => ∃ σ' H', Inv X pins σ' H' s' ∧ D.bk σ' H'
  | .cont => ∃ σ' H', Inv X pins σ' H' s' ∧ D.ct σ' H'
  | .ret u => ∃ v σ' H', Inv X pins σ' H' s' ∧ RelV v u ∧ D.rt v H'
noncomputable def PE (X : Cx) (e : Expr) (t : TE) : Prop :=
  ∀ (pins : List (Addr × Obj)) (s : Shared) (σ : St) (H : Hp) (Q : VK), Inv X pins σ H s → t σ H Q → wpAny (model X.prog X.w) X.A (eval e X.env) (EP X pins σ Q) X.xe s
noncomputable def PT (X : Cx) (e : Expr) (t : TT) : Prop :=
  ∀ (pins : List (Addr × Obj)) (s : Shared) (σ : St) (H : Hp) (Q : Bool → Hp → Prop), Inv X pins σ H s → t σ H Q → wpAny (model X.prog X.w) X.A (isTrue e X.env (eval e X.env)) (TP X pins σ Q) X.xe s
noncomputable def PW (X : Cx) (e : Expr) (t : TT) : Prop :=
  ∀ (whole : Sem Value) (pins : List (Addr × Obj)) (s : Shared) (σ : St) (H : Hp) (Q : Bool → Hp → Prop), Inv X pins σ H s → t σ H Q → wpAny (model X.prog X.w) X.A (isTrue e X.env whole) (TP X pins σ Q) X.xe s
theorem PW.pt {X : Cx} {e : Expr} {t : TT} (h : PW X e t) : PT X e t := h _
noncomputable def PA (X : Cx) (es : List Expr) (t : TA) : Prop :=
  ∀ (pos : Pos) (pins : List (Addr × Obj)) (s : Shared) (σ : St) (H : Hp) (Q : List V → Hp → Prop), Inv X pins σ H s → t σ H Q → wpAny (model X.prog X.w) X.A (spliced (backTo pos (starEach es X.env))) (AP X pins σ Q) X.xe s
noncomputable def PS (X : Cx) (st : Stmt) (t : TS) : Prop :=
  ∀ (pins : List (Addr × Obj)) (s : Shared) (σ : St) (H : Hp) (D : Ends), Inv X pins σ H s → t D σ H → wpAny (model X.prog X.w) X.A (exec st X.env) (SP X pins D) X.xe s
noncomputable def PSs (X : Cx) (st : List Stmt) (t : TS) : Prop :=
  ∀ (pins : List (Addr × Obj)) (s : Shared) (σ : St) (H : Hp) (D : Ends), Inv X pins σ H s → t D σ H → wpAny (model X.prog X.w) X.A (execs st X.env) (SP X pins D) X.xe s
theorem thn {α : Type} {t : Sem α} {Q Q' : α → Shared → Prop} {M : Model} {A : Around} {E : Value → Shared → Prop} {s : Shared} (h : wpAny M A t Q E s) (hQ : ∀ a s, Q a s → Q' a s) : wpAny M A t Q' E s := wpAny_mono h hQ fun _ _ x => x
end L2
namespace L2
open PySem PySem.Spec PyProof.Rows
section
variable {X : Cx}
theorem bin {a b : Expr} {ta tb : TE} (ha : PE X a ta) (hb : PE X b tb) {pins : List (Addr × Obj)} {s : Shared} {σ : St} {H : Hp} {R : V → V → Hp → Prop} (I : Inv X pins σ H s) (h : ta σ H fun x H1 => tb σ H1 fun y H2 => R x y H2)
    {α : Type} {Q : α → Shared → Prop} {f : Value → Value → Sem α}
    (hf : ∀ v u s2 x y H2, Inv X pins σ H2 s2 → RelV x v → RelV y u → R x y H2 → wpAny (model X.prog X.w) X.A (f v u) Q X.xe s2) :
    wpAny (model X.prog X.w) X.A (eval a X.env) (fun v s₁ => wpAny (model X.prog X.w) X.A (eval b X.env) (fun u s₂ => wpAny (model X.prog X.w) X.A (f v u) Q X.xe s₂) X.xe s₁) X.xe s := by
  refine thn (ha pins s σ H _ I h) fun v s1 ⟨x, H1, I1, r1, q1⟩ => ?_
  refine thn (hb pins s1 σ H1 _ I1 q1) fun u s2 ⟨y, H2, I2, r2, q2⟩ => ?_
  exact hf v u s2 x y H2 I2 r1 r2 q2
noncomputable def tVar (i : Nat) : TE := fun σ H Q => ∃ v, σ[i]? = some (some v) ∧ Q v H
noncomputable def tC (v : V) : TE := fun _ H Q => Q v H
theorem pe_var {i : Nat} {x : Str} {pos : Pos} (hN : X.N[i]? = some x) (hv : Vis X.env.scope x) (hd : (x == ("__debug__" : Str)) = false := by decide) (hcd : (x == ("__classdict__" : Str)) = false := by decide) : PE X (.Name x pos) (tVar i) := by
  intro pins s σ H Q I h
  obtain ⟨v, e, h⟩ := h
  obtain ⟨m, hn, hl⟩ := I.loc
  obtain ⟨u, r, l⟩ := hl i x v hN e hv
  have fin : EP X pins σ Q u s := ⟨v, H, I, r, h⟩
  rcases l with ⟨hk, hm⟩ | ⟨hk, c, hc, hcell⟩
  · exact wpAny_Name (wpAny_loadName_local I.ok.kind hk hn hm fin) hd
  · rcases hk with hk | hk
    · exact wpAny_Name (wpAny_loadName_cell I.ok.kind hk hc hcell fin) hd
    · exact wpAny_Name (wpAny_loadName_free I.ok.kind hk hc hcell fin hcd) hd
theorem pe_int {i j pos} : PE X (.Constant (.int i) j pos) (tC (.int i)) := fun _ _ _ H _ I h => wpAny_Constant_int ⟨.int i, H, I.tok _, ⟨_, rfl⟩, h⟩
theorem pe_bl {b j pos} : PE X (.Constant (.bool b) j pos) (tC (.bl b)) := fun _ _ _ H _ I h => Constant_bool ⟨.bl b, H, I, rfl, h⟩
theorem pe_non {j pos} : PE X (.Constant .none j pos) (tC .non) := fun _ _ _ H _ I h => Constant_none ⟨.non, H, I, rfl, h⟩
theorem pe_str {x j pos} : PE X (.Constant (.str x) j pos) (tC (.str x)) := fun _ _ _ H _ I h => Calls.Constant_str ⟨.str x, H, I.tok _, ⟨_, rfl⟩, h⟩
noncomputable def Gl (X : Cx) (x : Str) : Prop := X.env.kindOf x = some .globalImplicit
theorem ld_glob {E : Value → Shared → Prop} {pins : List (Addr × Obj)} {s : Shared} {σ : St} {H : Hp} {x : Str} {u : Value} {pos : Pos} {Q : Value → Shared → Prop} (I : Inv X pins σ H s) (hg : Gl X x) (hm : X.mg x = some u) (h : Q u s)
    (hd : (x == ("__debug__" : Str)) = false := by decide) : wpAny (model X.prog X.w) X.A (eval (.Name x pos) X.env) Q E s :=
  Calls.Name_function_global I.ok.kind hg (Calls.loadGlobal_global (by rw [I.ok.glob]; exact I.mod.glob.keeps I.bk) hm h) hd
theorem ld_blt {E : Value → Shared → Prop} {pins : List (Addr × Obj)} {s : Shared} {σ : St} {H : Hp} {x : Str} {u : Value} {pos : Pos} {Q : Value → Shared → Prop} (I : Inv X pins σ H s) (hg : Gl X x) (hm : X.mg x = none) (hv : bootBuiltins x = some u) (h : Q u s)
    (hn : x ≠ "__name__" := by decide) (hd : (x == ("__debug__" : Str)) = false := by decide) : wpAny (model X.prog X.w) X.A (eval (.Name x pos) X.env) Q E s := by
  obtain ⟨mb, h1, h2⟩ := I.mod.blt
  exact Calls.Name_function_global I.ok.kind hg (Calls.loadGlobal_builtin (by rw [I.ok.glob]; exact I.mod.glob.keeps I.bk) hm (by rw [I.ok.blt]; exact h1.keeps I.bk) ((h2 x hn).trans hv) h) hd
theorem pe_glob {x : Str} {v : V} {u : Value} {pos : Pos} (hg : Gl X x) (hm : X.mg x = some u) (r : RelV v u) (hd : (x == ("__debug__" : Str)) = false := by decide) : PE X (.Name x pos) (tC v) :=
  fun _ _ _ H _ I h => ld_glob I hg hm ⟨v, H, I, r, h⟩ hd
theorem pe_bltn {x : Str} {v : V} {u : Value} {pos : Pos} (hg : Gl X x) (hm : X.mg x = none) (hv : bootBuiltins x = some u) (r : RelV v u) (hn : x ≠ "__name__" := by decide) (hd : (x == ("__debug__" : Str)) = false := by decide) : PE X (.Name x pos) (tC v) :=
  fun _ _ _ H _ I h => ld_blt I hg hm hv ⟨v, H, I, r, h⟩ hn hd
variable {a b : Expr} {ta tb : TE} {pos : Pos}
noncomputable def PC (X : Cx) (op : CmpOp) (a b : Expr) (t : TE) : Prop :=
  ∀ (pins : List (Addr × Obj)) (s : Shared) (σ : St) (H : Hp) (Q : VK), Inv X pins σ H s → t σ H Q →
    wpAny (model X.prog X.w) X.A (eval a X.env) (fun v s₁ => wpAny (model X.prog X.w) X.A (eval b X.env) (fun u s₂ => wpAny (model X.prog X.w) X.A (compareOp op v u) (EP X pins σ Q) X.xe s₂) X.xe s₁) X.xe s
noncomputable def tB (t : TE) : TT := fun σ H Q => t σ H fun x H1 => ∃ c, x = .bl c ∧ Q c H1
theorem pe_cmp {op : CmpOp} {t : TE} (h : PC X op a b t) (h1 : behindInMarks op b = false := by first | exact nobehind _ (by decide) (by decide) | rfl) : PE X (.Compare a [op] [b] pos) t := fun pins s σ H Q I hw => wpAny_Compare1 (h pins s σ H Q I hw) h1
theorem pt_cmp {op : CmpOp} {t : TE} (h : PC X op a b t) (h1 : behindInMarks op b = false := by first | exact nobehind _ (by decide) (by decide) | rfl) : PT X (.Compare a [op] [b] pos) (tB t) := by
  intro pins s σ H Q I hw
  refine wpAny_isTrue_Compare1 (thn (h pins s σ H _ I hw) fun v s1 h1 => thn h1 fun u s2 h2 => thn h2 fun c s3 ⟨x, H1, I1, r1, q1⟩ => ?_) h1
  obtain ⟨d, rfl, q⟩ := q1
  cases r1
  exact wpAny_truthy_bool ⟨H1, I1, q⟩
theorem pt_val {e : Expr} {t : TE} (h : PE X e t) (he : ∀ whole, isTrue e X.env whole = (do let v ← whole; standAt e.pos; holding [v] (truthy v)) := by intro _; rfl) : PT X e (tB t) := by
  intro pins s σ H Q I hw
  refine isTrue_plain (thn (h pins s σ H _ I hw) fun v s1 ⟨x, H1, I1, r1, q1⟩ => ?_) (he _)
  obtain ⟨d, rfl, q⟩ := q1
  cases r1
  exact wpAny_truthy_bool ⟨H1, I1, q⟩
variable {tA tB' : TT} {rest : List Expr}
noncomputable def tOr (t u : TT) : TT := fun σ H Q => t σ H fun c H1 => if c = true then Q true H1 else u σ H1 Q
noncomputable def tNot (t : TT) : TT := fun σ H Q => t σ H fun c H1 => Q (!c) H1
theorem pw_or1 (ha : PT X a tA) : PW X (.BoolOp .Or [a] pos) tA := by
  intro wh pins s σ H Q I h
  refine isTrue_or (thn (ha pins s σ H Q I h) fun c s1 e => ?_)
  cases c with
  | false => exact isTrue_or_nil e
  | true => exact e
theorem pw_or (ha : PT X a tA) (hb : PW X (.BoolOp .Or (b :: rest) pos) tB') : PW X (.BoolOp .Or (a :: b :: rest) pos) (tOr tA tB') := by
  intro wh pins s σ H Q I h
  refine isTrue_or (thn (ha pins s σ H _ I h) fun c s1 ⟨H1, I1, q1⟩ => ?_)
  cases c with
  | true => exact ⟨H1, I1, q1⟩
  | false => exact hb wh pins s1 σ H1 Q I1 q1
theorem pt_not (ha : PT X a tA) : PT X (.UnaryOp .Not a pos) (tNot tA) := by
  intro pins s σ H Q I h
  exact isTrue_not (ha pins s σ H (fun c H1 => Q (!c) H1) I h)
noncomputable def tAndV (ta tb : TE) : TE := fun σ H Q => ta σ H fun x H1 => ∃ c, x = .bl c ∧ if c = true then tb σ H1 Q else Q (.bl false) H1
noncomputable def tOrV (ta tb : TE) : TE := fun σ H Q => ta σ H fun x H1 => ∃ c, x = .bl c ∧ if c = true then Q (.bl true) H1 else tb σ H1 Q
noncomputable def tNotV (ta : TE) : TE := fun σ H Q => ta σ H fun x H1 => ∃ c, x = .bl c ∧ Q (.bl (!c)) H1
theorem pe_one {op} {t : TE} (h : PE X a t) : PE X (.BoolOp op [a] pos) t := fun pins s σ H Q I hw => BoolOp_one (h pins s σ H Q I hw)
theorem pe_and (ha : PE X a ta) (hb : PE X (.BoolOp .And (b :: rest) pos) tb) : PE X (.BoolOp .And (a :: b :: rest) pos) (tAndV ta tb) := by
  intro pins s σ H Q I h
  refine BoolOp_and (thn (ha pins s σ H _ I h) fun v s1 ⟨x, H1, I1, r1, q1⟩ => ?_)
  obtain ⟨c, rfl, q1⟩ := q1
  cases r1
  refine wpAny_truthy_bool ?_
  cases c with
  | true => exact hb pins s1 σ H1 Q I1 q1
  | false => exact ⟨.bl false, H1, I1, rfl, q1⟩
theorem pe_or (ha : PE X a ta) (hb : PE X (.BoolOp .Or (b :: rest) pos) tb) : PE X (.BoolOp .Or (a :: b :: rest) pos) (tOrV ta tb) := by
  intro pins s σ H Q I h
  refine BoolOp_or (thn (ha pins s σ H _ I h) fun v s1 ⟨x, H1, I1, r1, q1⟩ => ?_)
  obtain ⟨c, rfl, q1⟩ := q1
  cases r1
  refine wpAny_truthy_bool ?_
  cases c with
  | false => exact hb pins s1 σ H1 Q I1 q1
  | true => exact ⟨.bl true, H1, I1, rfl, q1⟩
theorem pe_not (ha : PE X a ta) : PE X (.UnaryOp .Not a pos) (tNotV ta) := by
  intro pins s σ H Q I h
  refine UnaryOp_ (thn (ha pins s σ H _ I h) fun v s1 ⟨x, H1, I1, r1, q1⟩ => ?_)
  obtain ⟨c, rfl, q1⟩ := q1
  cases r1
  exact not_of (wpAny_truthy_bool ⟨.bl (!c), H1, I1, rfl, q1⟩)
noncomputable def tIf (t : TT) (ta tb : TE) : TE := fun σ H Q => t σ H fun c H1 => if c = true then ta σ H1 Q else tb σ H1 Q
theorem pe_ifExp {c : Expr} (hc : PT X c tA) (ha : PE X a ta) (hb : PE X b tb) : PE X (.IfExp c a b pos) (tIf tA ta tb) := by
  intro pins s σ H Q I h
  refine wpAny_IfExp (thn (hc pins s σ H _ I h) fun d s1 ⟨H1, I1, q1⟩ => ?_)
  cases d with
  | true => exact ha pins s1 σ H1 Q I1 q1
  | false => exact hb pins s1 σ H1 Q I1 q1
end
end L2
namespace L2
open PySem PySem.Spec PyProof.Rows
noncomputable def SqL (K : PySem.W.Frag) (H : Hp) (a : Addr) (xs : List V) : Prop :=
  Rd H a (.lst xs) ∨
    ∃ (o : Obj) (its : Array Value) (n : Nat), K.lookup a = some o ∧ o.cls = .type "list" ∧ o.dict = none ∧ o.data = .seq its n ∧ its.size ≤ sizeLine ∧ Vals xs its.toList
noncomputable def SqT (K : PySem.W.Frag) (H : Hp) (a : Addr) (xs : List V) : Prop :=
  Rd H a (.tup xs) ∨
    ∃ (o : Obj) (its : Array Value) (n : Nat), K.lookup a = some o ∧ o.cls = .type "tuple" ∧ o.data = .seq its n ∧ its.size ≤ sizeLine ∧ Vals xs its.toList
noncomputable def absV : Value → Option V
  | .none => some .non
  | .bool b => some (.bl b)
  | .int i _ => some (.int i)
  | .str x _ => some (.str x)
  | .bytes b _ => some (.byt b)
  | .float b _ => some (.flt b)
  | .ref a => some (.ref a)
  | .type n => some (.ty n)
  | _ => none
theorem RelV.abs {x : V} {u : Value} (r : RelV x u) : absV u = some x := by
  cases x with
  | non => cases r; rfl
  | bl _ => cases r; rfl
  | int _ => obtain ⟨t, rfl⟩ := r; rfl
  | str _ => obtain ⟨t, rfl⟩ := r; rfl
  | byt _ => obtain ⟨t, rfl⟩ := r; rfl
  | flt _ => obtain ⟨t, rfl⟩ := r; rfl
  | ref _ => cases r; rfl
  | ty _ => cases r; rfl
theorem RelV.inj {x y : V} {u : Value} (r : RelV x u) (q : RelV y u) : x = y := Option.some.inj (r.abs.symm.trans q.abs)
theorem Vals.inj : ∀ {xs ys : List V} {us : List Value}, Vals xs us → Vals ys us → xs = ys
  | _, _, _, .nil, .nil => rfl
  | _, _, _, .cons r t, .cons r' t' => by rw [r.inj r', Vals.inj t t']
section
variable {X : Cx} {pins : List (Addr × Obj)} {σ : St} {H : Hp} {s : Shared} {a : Addr} {xs ys : List V}
theorem SqL.of {K : PySem.W.Frag} (h : H a = some (.lst xs)) : SqL K H a xs := .inl (.inl h)
theorem SqT.of {K : PySem.W.Frag} (h : H a = some (.tup xs)) : SqT K H a xs := .inl (.inl h)
theorem Inv.list (I : Inv X pins σ H s) (h : SqL X.K H a xs) : ∃ its : List Value, Vals xs its ∧ PlainL s.heap a its.toArray ∧ xs.length ≤ sizeLine := by
  rcases h with h | ⟨o, its, n, hk, hc, hd, hs, hz, r⟩
  · obtain ⟨z, its, n, r, e⟩ := h.ok I.hok
    exact ⟨its, r, ⟨_, n, e, rfl, rfl, rfl⟩, z⟩
  · refine ⟨its.toList, r, ⟨o, n, I.kIn a o hk, hc, hd, by simpa using hs⟩, ?_⟩
    have e := r.length
    simp only [Array.length_toList] at e
    omega
theorem Inv.tuple (I : Inv X pins σ H s) (h : SqT X.K H a xs) : ∃ its : List Value, Vals xs its ∧ IsTup s.heap a its.toArray ∧ xs.length ≤ sizeLine := by
  rcases h with h | ⟨o, its, n, hk, hc, hs, hz, r⟩
  · obtain ⟨z, its, r, p⟩ := h.ok I.hok
    exact ⟨its, r, p, z⟩
  · refine ⟨its.toList, r, ⟨o, I.kIn a o hk, hc, n, by simpa using hs⟩, ?_⟩
    have e := r.length
    simp only [Array.length_toList] at e
    omega
theorem Inv.list_inj (I : Inv X pins σ H s) (h : SqL X.K H a xs) (h' : SqL X.K H a ys) : xs = ys := by
  obtain ⟨its, r, ⟨o, n, e, _, _, d⟩, _⟩ := I.list h
  obtain ⟨its', r', ⟨o', n', e', _, _, d'⟩, _⟩ := I.list h'
  rw [e] at e'; cases e'
  rw [d] at d'
  injection d' with d1 _
  have : its = its' := by simpa using congrArg Array.toList d1
  subst this
  exact r.inj r'
theorem Inv.tuple_inj (I : Inv X pins σ H s) (h : SqT X.K H a xs) (h' : SqT X.K H a ys) : xs = ys := by
  obtain ⟨its, r, ⟨o, e, _, n, d⟩, _⟩ := I.tuple h
  obtain ⟨its', r', ⟨o', e', _, n', d'⟩, _⟩ := I.tuple h'
  rw [e] at e'; cases e'
  rw [d] at d'
  injection d' with d1 _
  have : its = its' := by simpa using congrArg Array.toList d1
  subst this
  exact r.inj r'
end
noncomputable abbrev Cx.wish (X : Cx) (E : Value → Shared → Prop) : Cx := { X with xe := E }
noncomputable abbrev Cx.nox (X : Cx) : Cx := X.wish fun _ _ => False
theorem Cx.Ok.wish {X : Cx} (ok : X.Ok) (E : Value → Shared → Prop) : (X.wish E).Ok :=
  ⟨ok.mod, ok.kind, ok.glob, ok.blt, ok.above, ok.inj, ok.has, ok.cab, ok.hd, ok.frames, ok.stk, ok.exf, ok.bs, ok.bsz, ok.noex, ok.exfs, ok.funs, ok.frf⟩
theorem Cx.Ok.unwish {X : Cx} {E : Value → Shared → Prop} (ok : (X.wish E).Ok) : X.Ok :=
  ⟨ok.mod, ok.kind, ok.glob, ok.blt, ok.above, ok.inj, ok.has, ok.cab, ok.hd, ok.frames, ok.stk, ok.exf, ok.bs, ok.bsz, ok.noex, ok.exfs, ok.funs, ok.frf⟩
section
variable {X : Cx} {pins : List (Addr × Obj)} {σ : St} {H : Hp} {s : Shared} {E : Value → Shared → Prop}
theorem Inv.wish (I : Inv X pins σ H s) (E : Value → Shared → Prop) : Inv (X.wish E) pins σ H s := ⟨I.ok.wish E, I.os, I.bare, I.base, I.loc, I.cell, I.free, I.freeC, I.pin, I.hok, I.len⟩
theorem Inv.unwish (I : Inv (X.wish E) pins σ H s) : Inv X pins σ H s := ⟨I.ok.unwish, I.os, I.bare, I.base, I.loc, I.cell, I.free, I.freeC, I.pin, I.hok, I.len⟩
theorem SP.unwish {D : Ends} {f : Flow} {s' : Shared} (h : SP (X.wish E) pins D f s') : SP X pins D f s' := by
  cases f with
  | next => obtain ⟨σ', H', I, q⟩ := h; exact ⟨σ', H', I.unwish, q⟩
  | brk => obtain ⟨σ', H', I, q⟩ := h; exact ⟨σ', H', I.unwish, q⟩
  | cont => obtain ⟨σ', H', I, q⟩ := h; exact ⟨σ', H', I.unwish, q⟩
  | ret u => obtain ⟨v, σ', H', I, r, q⟩ := h; exact ⟨v, σ', H', I.unwish, r, q⟩
theorem PSs.nox {st : List Stmt} {t : TS} (h : PSs X.nox st t) : PSs X st t := fun pins s σ H D I hw =>
  wpAny_mono (h pins s σ H D (I.wish _) hw) (fun _ _ q => q.unwish) fun _ _ z => False.elim z
end
section
variable {X : Cx} {st : Stmt} {rest : List Stmt} {t u : TS} {e : Expr} {te : TE} {pos : Pos}
noncomputable def tNext : TS := fun D σ H => D.nx σ H
noncomputable def tSeq (t u : TS) : TS := fun D σ H => t { D with nx := u D } σ H
theorem pss_nil : PSs X [] tNext := fun _ _ σ H _ I h => wpAny_execs_nil ⟨σ, H, I, h⟩
theorem pss_cons (h1 : PS X st t) (h2 : PSs X rest u) : PSs X (st :: rest) (tSeq t u) := by
  intro pins s σ H D I h
  refine wpAny_execs_cons (thn (h1 pins s σ H { D with nx := u D } I h) fun f s1 q => ?_)
  cases f with
  | next =>
    obtain ⟨σ', H', I', q⟩ := q
    exact h2 pins s1 σ' H' D I' q
  | ret v => exact q
  | brk => exact q
  | cont => exact q
theorem pss_one (h1 : PS X st t) : PSs X [st] t := by
  intro pins s σ H D I h
  refine wpAny_execs_cons (thn (h1 pins s σ H D I h) fun f s1 q => ?_)
  cases f with
  | next => exact wpAny_execs_nil q
  | ret v => exact q
  | brk => exact q
  | cont => exact q
theorem Inv.quiet {pins : List (Addr × Obj)} {σ : St} {H : Hp} {s : Shared} (I : Inv X pins σ H s) : interactive X.env = false := by simp [interactive, I.ok.kind]
noncomputable def tDrop (te : TE) : TS := fun D σ H => te σ H fun _ H1 => D.nx σ H1
theorem ps_expr (he : PE X e te) (hs : swapsWith e none pos.line X.env = pure false := by rfl) : PS X (.Expr e pos) (tDrop te) := by
  intro pins s σ H D I h
  exact wpAny_Expr_any (thn (he pins s σ H _ I h) fun v s1 ⟨x, H1, I1, r1, q1⟩ => ⟨σ, H1, I1, q1⟩) I.quiet hs
noncomputable def tRet (te : TE) : TS := fun D σ H => te σ H D.rt
theorem ps_ret (he : PE X e te) : PS X (.Return (some e) pos) (tRet te) := by
  intro pins s σ H D I h
  exact wpAny_Return_some (thn (he pins s σ H _ I h) fun v s1 ⟨x, H1, I1, r1, q1⟩ => ⟨x, σ, H1, I1, r1, q1⟩)
noncomputable def tIfS (c : TT) (t u : TS) : TS := fun D σ H => c σ H fun b H1 => if b = true then t D σ H1 else u D σ H1
theorem ps_if {c : Expr} {a b : List Stmt} {tc : TT} (hc : PT X c tc) (ha : PSs X a t) (hb : PSs X b u) : PS X (.If c a b pos) (tIfS tc t u) := by
  intro pins s σ H D I h
  refine wpAny_If (thn (hc pins s σ H _ I h) fun d s1 ⟨H1, I1, q1⟩ => ?_)
  cases d with
  | true => exact ha pins s1 σ H1 D I1 q1
  | false => exact hb pins s1 σ H1 D I1 q1
noncomputable def tNever : TS := fun _ _ _ => False
theorem ps_never : PS X st tNever := fun _ _ _ _ _ _ h => h.elim
end
noncomputable abbrev TG := V → St → Hp → (St → Hp → Prop) → Prop
noncomputable abbrev TGs := List V → St → Hp → (St → Hp → Prop) → Prop
noncomputable def PG (X : Cx) (target : Expr) (t : TG) : Prop :=
  ∀ (pins : List (Addr × Obj)) (s : Shared) (σ : St) (H : Hp) (v : V) (u : Value) (Q : St → Hp → Prop), Inv X pins σ H s → RelV v u → t v σ H Q →
    wpAny (model X.prog X.w) X.A (assign target X.env u) (fun _ s' => ∃ σ' H', Inv X pins σ' H' s' ∧ Q σ' H') X.xe s
noncomputable def PGs (X : Cx) (ts : List Expr) (t : TGs) : Prop :=
  ∀ (pins : List (Addr × Obj)) (s : Shared) (σ : St) (H : Hp) (vs : List V) (us : List Value) (Q : St → Hp → Prop), Inv X pins σ H s → Vals vs us → t vs σ H Q →
    wpAny (model X.prog X.w) X.A (assignInOrder ((assignEach ts X.env).map (·.2)) us) (fun _ s' => ∃ σ' H', Inv X pins σ' H' s' ∧ Q σ' H') X.xe s
section
variable {X : Cx} {pos : Pos}
noncomputable def gName (i : Nat) : TG := fun v σ H Q => Q (σ.set i (some v)) H
theorem pg_name {i : Nat} {x : Str} (hN : X.N.Nodup) (hi : X.N[i]? = some x) (hx : Loc X.env.scope x) (hf : X.fn x = true ∨ X.env.scope.names.lookup x = some .local := by first | exact .inl rfl | exact .inr rfl | assumption) : PG X (.Name x pos) (gName i) := by
  intro pins s σ H v u Q I r h
  exact wpAny_assign_Name (store_ok I hN hi hx r (fun s' I' => ⟨_, H, I', h⟩) hf)
noncomputable def gNil : TGs := fun vs σ H Q => vs = [] ∧ Q σ H
noncomputable def gCons (t : TG) (u : TGs) : TGs := fun vs σ H Q => ∃ v r, vs = v :: r ∧ t v σ H fun σ' H' => u r σ' H' Q
theorem pgs_nil : PGs X [] gNil := by
  intro pins s σ H vs us Q I r h
  obtain ⟨e, h⟩ := h
  subst e
  cases r
  exact assignInOrder_nil ⟨σ, H, I, h⟩
theorem pgs_cons {e : Expr} {es : List Expr} {t : TG} {u : TGs} (h1 : PG X e t) (h2 : PGs X es u)
    (hs : (assignEach (e :: es) X.env).map (·.2) = assign e X.env :: (assignEach es X.env).map (·.2) := by rfl) : PGs X (e :: es) (gCons t u) := by
  intro pins s σ H vs us Q I r h
  obtain ⟨v, vr, e1, h⟩ := h
  subst e1
  cases r with
  | cons r rr =>
    rw [hs]
    refine assignInOrder_cons (thn (h1 pins s σ H _ _ _ I r h) fun _ s1 ⟨σ1, H1, I1, q1⟩ => ?_)
    exact h2 pins s1 σ1 H1 _ _ Q I1 rr q1
noncomputable def gTup (K : PySem.W.Frag) (n : Nat) (t : TGs) : TG := fun v σ H Q => ∃ a xs, v = .ref a ∧ SqT K H a xs ∧ xs.length = n ∧ t xs σ H Q
theorem pg_tup {es : List Expr} {k : Nat} {t : TGs} {n : Nat} (hc : X.calm = true) (h : PGs X es t)
    (hn : (assignEach es X.env).length = n := by rfl) (hst : (assignEach es X.env).findIdx? (·.1) = none := by rfl) : PG X (.Tuple es k pos) (gTup X.K n t) := by
  intro pins s σ H v u Q I r hw
  obtain ⟨a, xs, e1, hq, hl, hw⟩ := hw
  subst e1
  cases r
  obtain ⟨its, rv, ht, hz⟩ := I.tuple hq
  refine assign_Tuple_tuple (I.ok.hd hc) ht (by simp [hn, ← hl, rv.length]) hst fun h' hx => ?_
  have I1 : Inv X pins σ H { s with heap := h' } := I.kept (t' := s.toks) fun b o e => hx b o (Nat.ne_of_lt (Heap.lt_size e)) e
  exact h pins _ σ H xs _ Q I1 (by simpa using rv) hw
noncomputable def tAsg (te : TE) (g : TG) : TS := fun D σ H => te σ H fun x H1 => g x σ H1 D.nx
theorem ps_set {i : Nat} {x : Str} {e : Expr} {te : TE} {pos' : Pos} (hN : X.N.Nodup) (hi : X.N[i]? = some x) (hx : Loc X.env.scope x) (he : PE X e te) (hs : swapsWith e (some (.Name x pos')) pos.line X.env = pure false := by rfl) (hf : X.fn x = true ∨ X.env.scope.names.lookup x = some .local := by first | exact .inl rfl | exact .inr rfl | assumption) :
    PS X (.Assign [.Name x pos'] e pos) (tAsg te (gName i)) := by
  intro pins s σ H D I h
  refine wpAny_Assign_Name (thn (he pins s σ H _ I h) fun v s1 ⟨y, H1, I1, r1, q1⟩ => ?_) hs
  exact store_ok I1 hN hi hx r1 (fun s2 I2 => ⟨_, H1, I2, q1⟩) hf
end
section
variable {X : Cx} {pos : Pos}
end
structure It where
  go : Nat → Hp → Prop
  yld : Nat → Hp → V → Hp → Prop
  stop : Nat → Hp → Prop
noncomputable def FpOk (X : Cx) (pins : List (Addr × Obj)) (H : Hp) (b : Addr) : Prop :=
  H b = none ∧ b ≠ X.env.locals ∧ b ∉ X.fs ∧ (b ∈ X.ex ∨ X.s₀.heap.objs.size ≤ b) ∧ (∀ x c, X.env.cells.lookup x = some c → c ≠ b) ∧ ∀ p ∈ X.pn ++ pins, p.1 ≠ b
theorem Inv.fpOk {X : Cx} {pins : List (Addr × Obj)} {σ : St} {H H' : Hp} {s : Shared} {b : Addr} (I : Inv X pins σ H s) (hb : s.heap.objs.size ≤ b) (hn : H' b = none) : FpOk X pins H' b := by
  refine ⟨hn, Nat.ne_of_gt (Nat.lt_of_lt_of_le I.lt hb), I.nofs hb, .inr (Nat.le_trans I.sz hb), fun x c e z => ?_, fun p hp z => ?_⟩
  · obtain ⟨v, q⟩ := I.cell x c e
    exact absurd (Nat.lt_of_lt_of_le q.lt (by rw [z]; exact hb)) (Nat.lt_irrefl _)
  · exact absurd (Nat.lt_of_lt_of_le (Heap.lt_size (I.pin p hp).1) (by rw [z]; exact hb)) (Nat.lt_irrefl _)
structure Turn (P : Program) (w : World) (K : PySem.W.Frag) (tg : Expr) (J : It) (fp : List Addr) (it : Addr) (tn : Nat → Heap → Prop) : Prop where
  mem : it ∈ fp
  obj : ∀ i h, tn i h → ∀ b ∈ fp, ∃ o, h.get? b = some o ∧ ∀ v, o.data ≠ .cell v
  keep : ∀ i h h', tn i h → (∀ b ∈ fp, ∀ o, h.get? b = some o → h'.get? b = some o) → tn i h'
  item : ∀ (X : Cx), X.prog = P → X.w = w → X.K = K → X.calm = true → ∀ (i : Nat) (pins : List (Addr × Obj)) (s : Shared) (σ : St) (H : Hp) (E : Value → Shared → Prop), Inv X pins σ H s → (∀ b ∈ fp, FpOk X pins H b) → tn i s.heap → J.go i H →
    wpAny (model P w) X.A (pyNext (.ref it)) (fun r s1 => ∃ u, r = some u ∧
      wpAny (model P w) X.A (letOwnedTupleGo tg (.ref it) u) (fun _ s2 => ∃ x H', Inv X pins σ H' s2 ∧ RelV x u ∧ J.yld i H x H' ∧ tn (i + 1) s2.heap ∧ ∀ b ∈ fp, H' b = none) E s1) E s
  done : ∀ (X : Cx), X.prog = P → X.w = w → X.K = K → X.calm = true → ∀ (i : Nat) (pins : List (Addr × Obj)) (s : Shared) (σ : St) (H : Hp) (E : Value → Shared → Prop), Inv X pins σ H s → (∀ b ∈ fp, FpOk X pins H b) → tn i s.heap → J.stop i H →
    wpAny (model P w) X.A (pyNext (.ref it)) (fun r s1 => r = none ∧ Inv X pins σ H s1) E s
  self : ∀ (A : Around) (i : Nat) (s : Shared) (Q : Value → Shared → Prop) (E : Value → Shared → Prop), tn i s.heap → Q (.ref it) s → wpAny (model P w) A (pyIter (.ref it)) Q E s
noncomputable abbrev TI := St → Hp → (It → Hp → Prop) → Prop
noncomputable def PIE (X : Cx) (pins : List (Addr × Obj)) (σ : St) (tg : Expr) (R : It → Hp → Prop) (itv : Value) (s2 : Shared) : Prop :=
  ∃ (it : Addr) (fp : List Addr) (tn : Nat → Heap → Prop) (J : It) (H' : Hp), itv = .ref it ∧ Inv X pins σ H' s2 ∧ Turn X.prog X.w X.K tg J fp it tn ∧ tn 0 s2.heap ∧ (∀ b ∈ fp, FpOk X pins H' b) ∧ R J H'
noncomputable def PI (X : Cx) (tg iter : Expr) (wi : TI) : Prop :=
  ∀ (pins : List (Addr × Obj)) (s : Shared) (σ : St) (H : Hp) (R : It → Hp → Prop), Inv X pins σ H s → wi σ H R →
    wpAny (model X.prog X.w) X.A (eval iter X.env) (fun v s1 => wpAny (model X.prog X.w) X.A (pyIter v) (PIE X pins σ tg R) X.xe s1) X.xe s
theorem go_of {M : Model} {A : Around} {E : Value → Shared → Prop} {s : Shared} {tg : Expr} {it : Addr} {u : Value} {o : Obj} {n : String} {vs : Array Value} {Q : Unit → Shared → Prop} (ho : s.heap.get? it = some o) (hc : o.cls = .type n) (hd : o.data = .fields vs)
    (hn : ["enumerate", "zip", "dict_itemiterator", "dict_reverseitemiterator", "odict_iterator", "itertools.zip_longest", "itertools.pairwise"].contains n = false) (hQ : Q () s) : wpAny M A (letOwnedTupleGo tg (.ref it) u) Q E s := by
  unfold letOwnedTupleGo
  cases tg <;> first
    | exact wpAny_pure hQ
    | (cases u <;> first
        | exact wpAny_pure hQ
        | (refine wpAny_bind (wpAny_load ho ?_)
           rw [hc, hd]
           show wpAny M A (if (["enumerate", "zip", "dict_itemiterator", "dict_reverseitemiterator", "odict_iterator", "itertools.zip_longest", "itertools.pairwise"].contains n && vs[0]? == some (rawInt _)) = true then _ else _) Q E s
           rw [if_neg (by intro h; rw [hn, Bool.false_and] at h; cases h)]
           exact wpAny_pure hQ))
noncomputable def Itl (K : PySem.W.Frag) (a : Addr) : It :=
  ⟨fun i H => ∃ xs x, SqL K H a xs ∧ xs[i]? = some x, fun i H x H' => H' = H ∧ ∀ xs, SqL K H a xs → xs[i]? = some x, fun i H => ∃ xs, SqL K H a xs ∧ xs.length ≤ i⟩
noncomputable def Itt (K : PySem.W.Frag) (a : Addr) : It :=
  ⟨fun i H => ∃ xs x, SqT K H a xs ∧ xs[i]? = some x, fun i H x H' => H' = H ∧ ∀ xs, SqT K H a xs → xs[i]? = some x, fun i H => ∃ xs, SqT K H a xs ∧ xs.length ≤ i⟩
noncomputable def Itr (lo : Int) (n : Nat) : It := ⟨fun i _ => i < n, fun i H x H' => H' = H ∧ x = .int (lo + i), fun i _ => n ≤ i⟩
theorem turn_list {P : Program} {w : World} {K : PySem.W.Frag} {tg : Expr} (a it : Addr) : Turn P w K tg (Itl K a) [it] it (fun i h => h.IsListIter it a i) where
  mem := by simp
  obj := fun i h st b hb => by
    have e : b = it := by simpa using hb
    subst e
    obtain ⟨o, e, c, d⟩ := st
    exact ⟨o, e, fun v z => by rw [d] at z; cases z⟩
  keep := fun i h h' st k => st.at fun o e => k it (by simp) o e
  item := by
    intro X hP hw hK hc i pins s σ H E I hf st hg
    subst hP hw hK
    obtain ⟨xs, x, hq, hx⟩ := hg
    obtain ⟨its, rv, p, hz⟩ := I.list hq
    obtain ⟨u, hu, ru⟩ := rv.get hx
    obtain ⟨f0, f1, f2, f3, f4, f5⟩ := hf it (by simp)
    refine wpAny_pyNext_list_item st p.isList (x := u) (by simpa using hu) fun h' st' sb => ?_
    have I1 : Inv X pins σ H { s with heap := h' } := I.turned (t' := s.toks) (fun b o hb e => (sb.2 b hb).trans e) f0 f1 f3 f4 f5
    obtain ⟨o, e, c, d⟩ := id st'
    exact ⟨u, rfl, go_of (s := { s with heap := h' }) e c d (by decide) ⟨x, H, I1, ru, ⟨rfl, fun ys hy => by rw [I.list_inj hy hq]; exact hx⟩, st', fun b hb => (hf b hb).1⟩⟩
  done := by
    intro X hP hw hK hc i pins s σ H E I hf st hg
    subst hP hw hK
    obtain ⟨xs, hq, hx⟩ := hg
    obtain ⟨its, rv, p, hz⟩ := I.list hq
    obtain ⟨f0, f1, f2, f3, f4, f5⟩ := hf it (by simp)
    have hl := rv.length
    exact wpAny_pyNext_list_end (I.ok.hd hc) st p.isList (by simp; omega) fun h' eb => ⟨rfl, I.turned (t' := s.toks) (fun b o hb e => eb b o hb e) f0 f1 f3 f4 f5⟩
  self := fun _ _ _ _ _ st h => wpAny_pyIter_listiter st h
theorem turn_tuple {P : Program} {w : World} {K : PySem.W.Frag} {tg : Expr} (a it : Addr) : Turn P w K tg (Itt K a) [it] it (fun i h => h.IsTupleIter it a i) where
  mem := by simp
  obj := fun i h st b hb => by
    have e : b = it := by simpa using hb
    subst e
    obtain ⟨o, e, c, d⟩ := st
    exact ⟨o, e, fun v z => by rw [d] at z; cases z⟩
  keep := fun i h h' st k => st.at fun o e => k it (by simp) o e
  item := by
    intro X hP hw hK hc i pins s σ H E I hf st hg
    subst hP hw hK
    obtain ⟨xs, x, hq, hx⟩ := hg
    obtain ⟨its, rv, p, hz⟩ := I.tuple hq
    obtain ⟨u, hu, ru⟩ := rv.get hx
    obtain ⟨f0, f1, f2, f3, f4, f5⟩ := hf it (by simp)
    refine wpAny_pyNext_tuple_item st (show s.heap.IsTuple a its.toArray from p) (x := u) (by simpa using hu) fun h' st' sb => ?_
    have I1 : Inv X pins σ H { s with heap := h' } := I.turned (t' := s.toks) (fun b o hb e => (sb.2 b hb).trans e) f0 f1 f3 f4 f5
    obtain ⟨o, e, c, d⟩ := id st'
    exact ⟨u, rfl, go_of (s := { s with heap := h' }) e c d (by decide) ⟨x, H, I1, ru, ⟨rfl, fun ys hy => by rw [I.tuple_inj hy hq]; exact hx⟩, st', fun b hb => (hf b hb).1⟩⟩
  done := by
    intro X hP hw hK hc i pins s σ H E I hf st hg
    subst hP hw hK
    obtain ⟨xs, hq, hx⟩ := hg
    obtain ⟨its, rv, p, hz⟩ := I.tuple hq
    obtain ⟨f0, f1, f2, f3, f4, f5⟩ := hf it (by simp)
    have hl := rv.length
    exact wpAny_pyNext_tuple_end (I.ok.hd hc) st (show s.heap.IsTuple a its.toArray from p) (by simp; omega) fun h' eb => ⟨rfl, I.turned (t' := s.toks) (fun b o hb e => eb b o hb e) f0 f1 f3 f4 f5⟩
  self := fun _ _ _ _ _ st h => wpAny_pyIter_tupleiter st h
theorem turn_range {P : Program} {w : World} {K : PySem.W.Frag} {tg : Expr} (it : Addr) (lo : Int) (n : Nat) : Turn P w K tg (Itr lo n) [it] it (fun i h => IsRangeIter h it (lo + (i : Nat) * 1) ((n : Int) - (i : Nat)) 1) where
  mem := by simp
  obj := fun i h st b hb => by
    have e : b = it := by simpa using hb
    subst e
    exact ⟨_, st, fun v z => by
      have z' : Data.fields _ = Data.cell v := z
      cases z'⟩
  keep := fun i h h' st k => k it (by simp) _ st
  item := by
    intro X hP hw hK hc i pins s σ H E I hf st hg
    subst hP hw hK
    obtain ⟨f0, f1, f2, f3, f4, f5⟩ := hf it (by simp)
    have W := Walks.range (prog := X.prog) (w := X.w) (I.ok.hd hc) it lo 1 n
    refine W.item i s _ _ hg st fun v h' tk hv st' kk => ?_
    obtain ⟨t, rfl⟩ := hv
    have I1 : Inv X pins σ H { s with heap := h', toks := tk } := I.turned (fun b o hb e => kk b o (by simpa using hb) e) f0 f1 f3 f4 f5
    refine ⟨_, rfl, go_of (s := { s with heap := h', toks := tk }) (n := "range_iterator") st' rfl rfl (by decide) ⟨.int (lo + i), H, I1, ⟨t, ?_⟩, ⟨rfl, rfl⟩, st', fun b hb => (hf b hb).1⟩⟩
    rw [Int.mul_one]
  done := by
    intro X hP hw hK hc i pins s σ H E I hf st hg
    subst hP hw hK
    obtain ⟨f0, f1, f2, f3, f4, f5⟩ := hf it (by simp)
    exact wpAny_pyNext_range_end (I.ok.hd hc) st (by have : n ≤ i := hg; omega) fun h' eb => ⟨rfl, I.turned (t' := s.toks) (fun b o hb e => eb b o hb e) f0 f1 f3 f4 f5⟩
  self := fun _ _ _ _ _ st h => wpAny_pyIter_rangeiter st h
end L2
namespace L2
open PySem PySem.Spec PyProof.Rows
section
variable {X : Cx} {tg : Expr}
noncomputable def iList (K : PySem.W.Frag) (tl : TE) : TI := fun σ H R => tl σ H fun x H1 => ∃ a, x = .ref a ∧ (∃ xs, SqL K H1 a xs) ∧ R (Itl K a) H1
noncomputable def iTup (K : PySem.W.Frag) (tl : TE) : TI := fun σ H R => tl σ H fun x H1 => ∃ a, x = .ref a ∧ (∃ xs, SqT K H1 a xs) ∧ R (Itt K a) H1
theorem pi_list {l : Expr} {tl : TE} (hl : PE X l tl) : PI X tg l (iList X.K tl) := by
  intro pins s σ H R I h
  refine thn (hl pins s σ H _ I h) fun v s1 ⟨x, H1, I1, r1, q1⟩ => ?_
  obtain ⟨a, e, ⟨xs, hq⟩, q⟩ := q1
  subst e
  cases r1
  obtain ⟨its, rv, p, hz⟩ := I1.list hq
  refine wpAny_pyIter_list p.isList ?_
  refine ⟨s1.heap.objs.size, [s1.heap.objs.size], _, _, H1, rfl, I1.kept (t' := s1.toks) fun b o e => Heap.get?_push_of_some _ e, turn_list a _, ⟨_, Heap.get?_push_size _ rfl, rfl, rfl⟩, fun b hb => ?_, q⟩
  have e : b = s1.heap.objs.size := by simpa using hb
  subst e
  exact I1.fpOk (Nat.le_refl _) (I1.hok.fresh (Nat.le_refl _))
theorem pi_tup {l : Expr} {tl : TE} (hl : PE X l tl) : PI X tg l (iTup X.K tl) := by
  intro pins s σ H R I h
  refine thn (hl pins s σ H _ I h) fun v s1 ⟨x, H1, I1, r1, q1⟩ => ?_
  obtain ⟨a, e, ⟨xs, hq⟩, q⟩ := q1
  subst e
  cases r1
  obtain ⟨its, rv, p, hz⟩ := I1.tuple hq
  refine wpAny_pyIter_tuple (show s1.heap.IsTuple a its.toArray from p) ?_
  refine ⟨s1.heap.objs.size, [s1.heap.objs.size], _, _, H1, rfl, I1.kept (t' := s1.toks) fun b o e => Heap.get?_push_of_some _ e, turn_tuple a _, ⟨_, Heap.get?_push_size _ rfl, rfl, rfl⟩, fun b hb => ?_, q⟩
  have e : b = s1.heap.objs.size := by simpa using hb
  subst e
  exact I1.fpOk (Nat.le_refl _) (I1.hok.fresh (Nat.le_refl _))
theorem range_it {pins : List (Addr × Obj)} {σ : St} {H : Hp} {s : Shared} {R : It → Hp → Prop} {E : Value → Shared → Prop} {lo hi : Int} {t u v : Tok} {tk : Nat} (I : Inv X pins σ H s) (h1 : -(2 ^ 62) ≤ lo) (h2 : lo < 2 ^ 62) (h3 : -(2 ^ 62) ≤ hi) (h4 : hi < 2 ^ 62)
    (q : R (Itr lo (hi - lo).toNat) H) : wpAny (model X.prog X.w) X.A (pyIter (.ref s.heap.objs.size)) (PIE X pins σ tg R) E { s with heap := s.heap.push { cls := .type "range", data := .fields #[.int lo t, .int hi u, .int 1 v] }, toks := tk } := by
  refine wpAny_pyIter_range (IsRange.new ..) (small_one h1 h2 h3 h4) ?_
  have I1 : Inv X pins σ H { s with heap := s.heap.push { cls := .type "range", data := .fields #[.int lo t, .int hi u, .int 1 v] }, toks := tk } := I.kept fun b o e => Heap.get?_push_of_some _ e
  refine ⟨(s.heap.push { cls := .type "range", data := .fields #[.int lo t, .int hi u, .int 1 v] }).objs.size, [(s.heap.push { cls := .type "range", data := .fields #[.int lo t, .int hi u, .int 1 v] }).objs.size], _, _, H, rfl,
    I1.kept (t' := tk) fun b o e => Heap.get?_push_of_some _ e, turn_range _ lo (hi - lo).toNat, ?_, fun b hb => ?_, q⟩
  · have e1 : lo + ((0 : Nat) : Int) * 1 = lo := by simp
    have e2 : (((hi - lo).toNat : Nat) : Int) - ((0 : Nat) : Int) = Builtin.Range.rangeSize lo hi 1 := by rw [rangeSize_one]; split <;> omega
    show IsRangeIter _ _ (lo + ((0 : Nat) : Int) * 1) ((((hi - lo).toNat : Nat) : Int) - ((0 : Nat) : Int)) 1
    rw [e1, e2]
    exact Heap.get?_push_size _ rfl
  · have e : b = (s.heap.push { cls := .type "range", data := .fields #[.int lo t, .int hi u, .int 1 v] }).objs.size := by simpa using hb
    subst e
    exact I1.fpOk (Nat.le_refl _) (I1.hok.fresh (Nat.le_refl _))
noncomputable def iRng1 (ta : TA) : TI := fun σ H R => ta σ H fun vs H1 => ∃ j : Int, vs = [.int j] ∧ -(2 ^ 62) ≤ j ∧ j < 2 ^ 62 ∧ R (Itr 0 j.toNat) H1
theorem pi_range1 {a : Expr} {ta : TA} {p pos : Pos} (hg : Gl X "range") (hm : X.mg "range" = none) (ha : PA X [a] ta) (hs : starEach [a] X.env = [(false, eval a X.env)] := by rfl) : PI X tg (.Call (.Name "range" p) [a] [] pos) (iRng1 ta) := by
  intro pins s σ H R I h
  refine Call_ (ld_blt I hg hm boot_range (PyProof.Rows.callWith_type1 (thn (ha pos pins s σ H _ I h) fun us s1 ⟨vs, H1, I1, r1, q1⟩ => ?_) hs rfl))
  obtain ⟨j, e, q1, q2, q⟩ := q1
  subst e
  cases r1 with
  | cons r rr =>
    cases rr
    obtain ⟨t, rfl⟩ := r
    exact call_range_1 (range_it I1 (by omega) (by omega) q1 q2 (by simpa using q))
noncomputable def tFor (wi : TI) (g : TG) (tb : TS) : TS := fun D σ H => wi σ H fun J H1 => ∃ W : Nat → Nat → St → Hp → Prop, (∃ m, W 0 m σ H1) ∧ ∀ i m σ H, W i m σ H →
  (J.stop i H ∧ D.nx σ H) ∨ (J.go i H ∧ ∃ N : St → Hp → Prop, (∀ σ' H', N σ' H' → ∃ m', m' < m ∧ W (i + 1) m' σ' H') ∧ ∀ x H', J.yld i H x H' → g x σ H' fun σ2 H2 => tb { D with nx := N, ct := N, bk := D.nx } σ2 H2)
noncomputable def pinsAt (fp : List Addr) (h : Heap) : List (Addr × Obj) := fp.filterMap fun b => (h.get? b).map fun o => (b, o)
theorem mem_pinsAt {fp : List Addr} {h : Heap} {b : Addr} {o : Obj} (hb : b ∈ fp) (e : h.get? b = some o) : (b, o) ∈ pinsAt fp h := List.mem_filterMap.mpr ⟨b, hb, by rw [e]; rfl⟩
theorem of_pinsAt {fp : List Addr} {h : Heap} {p : Addr × Obj} (hp : p ∈ pinsAt fp h) : p.1 ∈ fp ∧ h.get? p.1 = some p.2 := by
  obtain ⟨b, hb, e⟩ := List.mem_filterMap.mp hp
  cases q : h.get? b with
  | none => rw [q] at e; cases e
  | some o =>
    rw [q] at e
    have e' : (b, o) = p := Option.some.inj e
    subst e'
    exact ⟨hb, q⟩
theorem Inv.pinned {pins : List (Addr × Obj)} {σ : St} {H : Hp} {s : Shared} {fp : List Addr} (I : Inv X pins σ H s) (hf : ∀ b ∈ fp, FpOk X pins H b) (ho : ∀ b ∈ fp, ∃ o, s.heap.get? b = some o ∧ ∀ v, o.data ≠ .cell v) : Inv X (pins ++ pinsAt fp s.heap) σ H s :=
  I.pins_of fun p hp => (List.mem_append.mp hp).elim (fun z => I.pin p (List.mem_append_right _ z)) fun z => by
    obtain ⟨hb, e⟩ := of_pinsAt z
    obtain ⟨f0, f1, f2, _⟩ := hf p.1 hb
    obtain ⟨o, e', d⟩ := ho p.1 hb
    rw [e] at e'; cases e'
    exact ⟨e, f0, f1, f2, d⟩
theorem Inv.unpinned {pins pl : List (Addr × Obj)} {σ : St} {H : Hp} {s : Shared} (I : Inv X (pins ++ pl) σ H s) : Inv X pins σ H s := I.pins_of fun p hp => I.pin p (List.mem_append_right _ (List.mem_append_left _ hp))
theorem ps_for {iter : Expr} {body : List Stmt} {wi : TI} {g : TG} {tb : TS} {pos : Pos} (hp : PassesOwn (model X.prog X.w) X.A X.env X.xe) (hc : X.calm = true) (hi : PI X tg iter wi) (hg : PG X tg g) (hb : PSs X body tb)
    (hs : ∀ x, foldedSetIterable iter X.env x = pure x := by intro _; rfl) : PS X (.For tg iter body [] pos) (tFor wi g tb) := by
  intro pins s σ H D I h
  refine wpAny_For (thn (hi pins s σ H _ I h) fun v s1 h1 => thn h1 fun itv s2 h2 => ?_) hs
  obtain ⟨it, fp, tn, J, H2, e, I2, T, st2, f2, W, ⟨m0, w0⟩, turn⟩ := h2
  subst e
  -- what stays true of the iterator's objects through the loop
  have stat : ∀ {H' : Hp}, (∀ b ∈ fp, H' b = none) → ∀ b ∈ fp, FpOk X pins H' b := fun hn b hb => ⟨hn b hb, (f2 b hb).2⟩
  refine codeAny_forLoop_any (fun n s' => ∃ i σ' H', Inv X pins σ' H' s' ∧ tn i s'.heap ∧ (∀ b ∈ fp, H' b = none) ∧ W i n σ' H') ?_ m0 ⟨0, σ, H2, I2, st2, fun b hb => (f2 b hb).1, w0⟩
  rintro n s3 ⟨i, σ3, H3, I3, st3, fr3, w3⟩
  rcases turn i n σ3 H3 w3 with ⟨stop, qn⟩ | ⟨go, N, hN, step⟩
  · refine wpAny_passesOwn hp (thn (T.done X rfl rfl rfl hc i pins s3 σ3 H3 X.xe I3 (stat fr3) st3 stop) fun r s4 ⟨hr, I4⟩ => ?_)
    subst hr
    exact wpAny_execs_nil ⟨σ3, H3, I4, qn⟩
  · refine wpAny_passesOwn hp (thn (T.item X rfl rfl rfl hc i pins s3 σ3 H3 X.xe I3 (stat fr3) st3 go) fun r s4 ⟨u, hr, h4⟩ => ?_)
    subst hr
    refine wpAny_passesOwn hp (thn h4 fun _ s5 ⟨x, H5, I5, r5, y5, st5, fr5⟩ => ?_)
    have I5' := I5.pinned (stat fr5) (T.obj _ _ st5)
    refine wpAny_passesOwn hp (thn (hg _ s5 σ3 H5 x u _ I5' r5 (step x H5 y5)) fun _ s6 ⟨σ6, H6, I6, q6⟩ => ?_)
    refine wpAny_passesOwn hp (thn (hb _ s6 σ6 H6 _ I6 q6) fun f s7 q7 => ?_)
    have again : ∀ {σ7 : St} {H7 : Hp}, Inv X (pins ++ pinsAt fp s5.heap) σ7 H7 s7 → N σ7 H7 → ∃ m, m < n ∧ ∃ i σ' H', Inv X pins σ' H' s7 ∧ tn i s7.heap ∧ (∀ b ∈ fp, H' b = none) ∧ W i m σ' H' := fun {σ7 H7} I7 n7 => by
      obtain ⟨m', hm, w7⟩ := hN σ7 H7 n7
      refine ⟨m', hm, i + 1, σ7, H7, I7.unpinned, T.keep _ _ _ st5 fun b hb o e => (I7.pin (b, o) (List.mem_append_right _ (List.mem_append_right _ (mem_pinsAt hb e)))).1, fun b hb => ?_, w7⟩
      obtain ⟨o, e, d⟩ := T.obj _ _ st5 b hb
      exact (I7.pin (b, o) (List.mem_append_right _ (List.mem_append_right _ (mem_pinsAt hb e)))).2.1
    cases f with
    | next => obtain ⟨σ7, H7, I7, n7⟩ := q7; exact again I7 n7
    | cont => obtain ⟨σ7, H7, I7, n7⟩ := q7; exact again I7 n7
    | brk => obtain ⟨σ7, H7, I7, q7⟩ := q7; exact ⟨σ7, H7, I7.unpinned, q7⟩
    | ret v => obtain ⟨x7, σ7, H7, I7, r7, q7⟩ := q7; exact ⟨x7, σ7, H7, I7.unpinned, r7, q7⟩
end
theorem for_list {K : PySem.W.Frag} {a : Addr} {xs : List V} {g : TG} {tb : TS} {D : Ends} {σ : St} {H : Hp} (Pv : Nat → St → Hp → Prop) (h0 : Pv 0 σ H) (hl : ∀ i σ H, i ≤ xs.length → Pv i σ H → SqL K H a xs)
    (hs : ∀ i x σ H, xs[i]? = some x → Pv i σ H → g x σ H fun σ2 H2 => tb { D with nx := Pv (i + 1), ct := Pv (i + 1), bk := D.nx } σ2 H2) (hd : ∀ σ H, Pv xs.length σ H → D.nx σ H) :
    ∃ W : Nat → Nat → St → Hp → Prop, (∃ m, W 0 m σ H) ∧ ∀ i m σ H, W i m σ H →
      ((Itl K a).stop i H ∧ D.nx σ H) ∨ ((Itl K a).go i H ∧ ∃ N : St → Hp → Prop, (∀ σ' H', N σ' H' → ∃ m', m' < m ∧ W (i + 1) m' σ' H') ∧ ∀ x H', (Itl K a).yld i H x H' → g x σ H' fun σ2 H2 => tb { D with nx := N, ct := N, bk := D.nx } σ2 H2) := by
  refine ⟨fun i m σ H => m = xs.length - i ∧ i ≤ xs.length ∧ Pv i σ H, ⟨xs.length, by simp, Nat.zero_le _, h0⟩, ?_⟩
  rintro i m σ H ⟨rfl, hi, p⟩
  have q := hl i σ H hi p
  by_cases hlt : i < xs.length
  · refine .inr ⟨⟨xs, xs[i], q, by simp [hlt]⟩, Pv (i + 1), fun σ' H' p' => ⟨xs.length - (i + 1), by omega, rfl, hlt, p'⟩, fun x H' y => ?_⟩
    obtain ⟨e, y⟩ := y
    subst e
    exact hs i x σ _ (y xs q) p
  · have e : i = xs.length := by omega
    subst e
    exact .inl ⟨⟨xs, q, Nat.le_refl _⟩, hd σ H p⟩
theorem for_range {lo : Int} {n : Nat} {g : TG} {tb : TS} {D : Ends} {σ : St} {H : Hp} (Pv : Nat → St → Hp → Prop) (h0 : Pv 0 σ H)
    (hs : ∀ i σ H, i < n → Pv i σ H → g (.int (lo + i)) σ H fun σ2 H2 => tb { D with nx := Pv (i + 1), ct := Pv (i + 1), bk := D.nx } σ2 H2) (hd : ∀ σ H, Pv n σ H → D.nx σ H) :
    ∃ W : Nat → Nat → St → Hp → Prop, (∃ m, W 0 m σ H) ∧ ∀ i m σ H, W i m σ H →
      ((Itr lo n).stop i H ∧ D.nx σ H) ∨ ((Itr lo n).go i H ∧ ∃ N : St → Hp → Prop, (∀ σ' H', N σ' H' → ∃ m', m' < m ∧ W (i + 1) m' σ' H') ∧ ∀ x H', (Itr lo n).yld i H x H' → g x σ H' fun σ2 H2 => tb { D with nx := N, ct := N, bk := D.nx } σ2 H2) := by
  refine ⟨fun i m σ H => m = n - i ∧ i ≤ n ∧ Pv i σ H, ⟨n, by simp, Nat.zero_le _, h0⟩, ?_⟩
  rintro i m σ H ⟨rfl, hi, p⟩
  by_cases hlt : i < n
  · refine .inr ⟨hlt, Pv (i + 1), fun σ' H' p' => ⟨n - (i + 1), by omega, rfl, hlt, p'⟩, fun x H' y => ?_⟩
    obtain ⟨e, y⟩ := y
    subst e y
    exact hs i σ _ hlt p
  · have e : i = n := by omega
    subst e
    exact .inl ⟨Nat.le_refl _, hd σ H p⟩
end L2
namespace L2
open PySem PySem.Spec PyProof.Rows
noncomputable abbrev R2 := V → V → Hp → VK → Prop
noncomputable def OpR (X : Cx) (f : Value → Value → Sem Value) (r : R2) : Prop :=
  ∀ (pins : List (Addr × Obj)) (s : Shared) (σ : St) (H : Hp) (x y : V) (v u : Value) (Q : VK), Inv X pins σ H s → RelV x v → RelV y u → r x y H Q →
    wpAny (model X.prog X.w) X.A (f v u) (EP X pins σ Q) X.xe s
noncomputable def CallR (X : Cx) (f : Value) (r : List V → Hp → VK → Prop) : Prop :=
  ∀ (pins : List (Addr × Obj)) (s : Shared) (σ : St) (H : Hp) (xs : List V) (us : List Value) (Q : VK), Inv X pins σ H s → Vals xs us → r xs H Q →
    wpAny (model X.prog X.w) X.A (call f us) (EP X pins σ Q) X.xe s
noncomputable def TruR (X : Cx) (r : V → Hp → (Bool → Hp → Prop) → Prop) : Prop :=
  ∀ (pins : List (Addr × Obj)) (s : Shared) (σ : St) (H : Hp) (x : V) (v : Value) (Q : Bool → Hp → Prop), Inv X pins σ H s → RelV x v → r x H Q →
    wpAny (model X.prog X.w) X.A (truthy v) (TP X pins σ Q) X.xe s
noncomputable def tOp (r : R2) (ta tb : TE) : TE := fun σ H Q => ta σ H fun x H1 => tb σ H1 fun y H2 => r x y H2 Q
noncomputable def rI (C : Int → Int → Prop) (g : Int → Int → V) : R2 := fun x y H Q => ∃ i j, x = .int i ∧ y = .int j ∧ C i j ∧ Q (g i j) H
noncomputable def rI0 (g : Int → Int → V) : R2 := fun x y H Q => ∃ i j, x = .int i ∧ y = .int j ∧ Q (g i j) H
section
variable {X : Cx} {a b c : Expr} {ta tb tc : TE} {pos : Pos}
theorem binT (ha : PE X a ta) (hb : PE X b tb) {pins : List (Addr × Obj)} {s : Shared} {σ : St} {H : Hp} {R : V → V → Hp → Prop} (I : Inv X pins σ H s)
    (h : ta σ H fun x H1 => tb σ H1 fun y H2 => R x y H2) {Q : Value → Shared → Prop} {f : Value → Value → Sem Value}
    (hf : ∀ v u s2 x y H2, Inv X pins σ H2 s2 → RelV x v → RelV y u → R x y H2 → wpAny (model X.prog X.w) X.A (f v u) Q X.xe s2) :
    wpAny (model X.prog X.w) X.A (eval a X.env) (fun v s₁ => wpAny (model X.prog X.w) X.A (eval b X.env) (fun u s₂ => wpAny (model X.prog X.w) X.A (f v u) Q X.xe s₂) X.xe s₁) X.xe s := by
  refine thn (ha pins s σ H _ I h) fun v s1 ⟨x, H1, I1, r1, q1⟩ => ?_
  refine thn (hb pins s1 σ H1 _ I1 q1) fun u s2 ⟨y, H2, I2, r2, q2⟩ => ?_
  exact hf v u s2 x y H2 I2 r1 r2 q2
theorem pe_op {op : Operator} {r : R2} (ho : OpR X (binaryOp op) r) (ha : PE X a ta) (hb : PE X b tb) : PE X (.BinOp a op b pos) (tOp r ta tb) := by
  intro pins s σ H Q I h
  exact wpAny_BinOp (binT ha hb I h fun v u s2 x y H2 I2 rx ry q => ho pins s2 σ H2 x y v u Q I2 rx ry q)
theorem opI {f : Value → Value → Sem Value} {C : Int → Int → Prop} {g : Int → Int → Int}
    (rule : ∀ (i j : Int) (t u : Tok) (s : Shared) (Q : Value → Shared → Prop) (E : Value → Shared → Prop), C i j → Q (.int (g i j) s.toks) { s with toks := s.toks + 1 } → wpAny (model X.prog X.w) X.A (f (.int i t) (.int j u)) Q E s) :
    OpR X f (rI C fun i j => .int (g i j)) := by
  intro pins s σ H x y v u Q I rx ry h
  obtain ⟨i, j, rfl, rfl, hc, q⟩ := h
  obtain ⟨t, rfl⟩ := rx
  obtain ⟨t', rfl⟩ := ry
  exact rule i j t t' s _ _ hc ⟨.int (g i j), H, I.tok _, ⟨_, rfl⟩, q⟩
theorem opI0 {f : Value → Value → Sem Value} {g : Int → Int → Int}
    (rule : ∀ (i j : Int) (t u : Tok) (s : Shared) (Q : Value → Shared → Prop) (E : Value → Shared → Prop), Q (.int (g i j) s.toks) { s with toks := s.toks + 1 } → wpAny (model X.prog X.w) X.A (f (.int i t) (.int j u)) Q E s) :
    OpR X f (rI0 fun i j => .int (g i j)) := by
  intro pins s σ H x y v u Q I rx ry h
  obtain ⟨i, j, rfl, rfl, q⟩ := h
  obtain ⟨t, rfl⟩ := rx
  obtain ⟨t', rfl⟩ := ry
  exact rule i j t t' s _ _ ⟨.int (g i j), H, I.tok _, ⟨_, rfl⟩, q⟩
theorem opB0 {f : Value → Value → Sem Value} {g : Int → Int → Bool}
    (rule : ∀ (i j : Int) (t u : Tok) (s : Shared) (Q : Value → Shared → Prop) (E : Value → Shared → Prop), Q (.bool (g i j)) s → wpAny (model X.prog X.w) X.A (f (.int i t) (.int j u)) Q E s) :
    OpR X f (rI0 fun i j => .bl (g i j)) := by
  intro pins s σ H x y v u Q I rx ry h
  obtain ⟨i, j, rfl, rfl, q⟩ := h
  obtain ⟨t, rfl⟩ := rx
  obtain ⟨t', rfl⟩ := ry
  exact rule i j t t' s _ _ ⟨.bl (g i j), H, I, rfl, q⟩
noncomputable def CPow (i j : Int) : Prop := 0 ≤ j ∧ j ≤ 1000000 ∧ i.natAbs < 2 ^ 64
noncomputable def CMul (i j : Int) : Prop := (-(2 ^ 64) < i ∧ i < 2 ^ 64) ∨ (-(2 ^ 64) < j ∧ j < 2 ^ 64)
theorem CMul.ok {i j : Int} (h : CMul i j) : IntMulOk i j := by
  rcases h with ⟨h1, h2⟩ | ⟨h1, h2⟩
  · exact .of_left (intBits_le_64 h1 h2)
  · exact .of_right (intBits_le_64 h1 h2)
theorem op_add : OpR X (binaryOp .Add) (rI0 fun i j => .int (i + j)) := opI0 fun _ _ _ _ _ _ _ q => add_int q
theorem op_sub : OpR X (binaryOp .Sub) (rI0 fun i j => .int (i - j)) := opI0 fun _ _ _ _ _ _ _ q => sub_int q
theorem op_mul : OpR X (binaryOp .Mult) (rI CMul fun i j => .int (i * j)) := opI fun _ _ _ _ _ _ _ hc q => mul_int q hc.ok
theorem op_mod : OpR X (binaryOp .Mod) (rI (fun _ j => 0 < j) fun i j => .int (i % j)) := opI fun i j _ _ _ _ _ hc q => by
  have h1 : (0 : Int) < j := hc
  exact mod_int' (by omega) (by rw [Int.fmod_eq_emod_of_nonneg i (by omega)]; exact q)
theorem op_pow : OpR X (binaryOp .Pow) (rI CPow fun i j => .int (i ^ j.toNat)) := opI fun _ _ _ _ _ _ _ hc q => pow_int_small hc.1 hc.2.1 hc.2.2 q
end
noncomputable def scal : V → V → Bool
  | .non, .non => true | .non, .int _ => true | .int _, .non => true | .non, .bl _ => true | .bl _, .non => true | .non, .str _ => true | .str _, .non => true
  | .int _, .int _ => true | .bl _, .bl _ => true | .str _, .str _ => true | .byt _, .byt _ => true
  | .int _, .str _ => true | .str _, .int _ => true | .bl _, .str _ => true | .str _, .bl _ => true
  | _, _ => false
noncomputable def rEq : R2 := fun x y H Q => scal x y = true ∧ Q (.bl (decide (x = y))) H
noncomputable def rNe : R2 := fun x y H Q => scal x y = true ∧ Q (.bl (!decide (x = y))) H
theorem dec_int {i j : Int} : decide (V.int i = V.int j) = (i == j) := by
  rw [Bool.eq_iff_iff]
  simp
theorem dec_bl {i j : Bool} : decide (V.bl i = V.bl j) = (i == j) := by
  rw [Bool.eq_iff_iff]
  simp
theorem dec_str {i j : Str} : decide (V.str i = V.str j) = (i == j) := by
  rw [Bool.eq_iff_iff]
  simp
theorem dec_byt {i j : Array UInt8} : decide (V.byt i = V.byt j) = (i.toList == j.toList) := by
  rw [Bool.eq_iff_iff]
  cases i
  cases j
  simp
section
variable {X : Cx} {a b c : Expr} {ta tb tc : TE} {pos : Pos}
theorem fin_bl {pins : List (Addr × Obj)} {σ : St} {H : Hp} {s : Shared} {Q : VK} {k k' : Bool} (I : Inv X pins σ H s) (q : Q (.bl k) H) (e : k = k') : EP X pins σ Q (.bool k') s := by
  subst e
  exact ⟨.bl k, H, I, rfl, q⟩
theorem op_eq : OpR X (compareOp .Eq) rEq := by
  intro pins s σ H x y v u Q I rx ry h
  obtain ⟨hs, q⟩ := h
  cases x with
  | non =>
    cases rx
    cases y with
    | non => cases ry; exact PySem.EqNone.eq_none_none (fin_bl I q (by simp))
    | bl j => cases ry; exact PySem.EqNone.eq_none_bool (fin_bl I q (by simp))
    | int j => obtain ⟨t', rfl⟩ := ry; exact PySem.EqNone.eq_none_int (fin_bl I q (by simp))
    | str j => obtain ⟨t', rfl⟩ := ry; exact PySem.EqNone.eq_none_str (fin_bl I q (by simp))
    | _ => exact absurd (show false = true from hs) Bool.false_ne_true
  | bl i =>
    cases rx
    cases y with
    | non => cases ry; exact PySem.EqNone.eq_bool_none (fin_bl I q (by simp))
    | bl j => cases ry; exact eq_bool (fin_bl I q dec_bl)
    | str j => obtain ⟨t', rfl⟩ := ry; exact PySem.EqMixed.eq_bool_str (fin_bl I q (by simp))
    | _ => exact absurd (show false = true from hs) Bool.false_ne_true
  | int i =>
    obtain ⟨t, rfl⟩ := rx
    cases y with
    | non => cases ry; exact PySem.EqNone.eq_int_none (fin_bl I q (by simp))
    | int j => obtain ⟨t', rfl⟩ := ry; exact eq_int (fin_bl I q dec_int)
    | str j => obtain ⟨t', rfl⟩ := ry; exact PySem.EqMixed.eq_int_str (fin_bl I q (by simp))
    | _ => exact absurd (show false = true from hs) Bool.false_ne_true
  | str i =>
    obtain ⟨t, rfl⟩ := rx
    cases y with
    | non => cases ry; exact PySem.EqNone.eq_str_none (fin_bl I q (by simp))
    | bl j => cases ry; exact PySem.EqMixed.eq_str_bool (fin_bl I q (by simp))
    | int j => obtain ⟨t', rfl⟩ := ry; exact PySem.EqMixed.eq_str_int (fin_bl I q (by simp))
    | str j => obtain ⟨t', rfl⟩ := ry; exact eq_str (fin_bl I q dec_str)
    | _ => exact absurd (show false = true from hs) Bool.false_ne_true
  | byt i =>
    obtain ⟨t, rfl⟩ := rx
    cases y with
    | byt j => obtain ⟨t', rfl⟩ := ry; exact PySem.W.eq_bytes (fin_bl I q dec_byt)
    | _ => exact absurd (show false = true from hs) Bool.false_ne_true
  | _ => cases y <;> exact absurd (show false = true from hs) Bool.false_ne_true
theorem op_ne : OpR X (compareOp .NotEq) rNe := by
  intro pins s σ H x y v u Q I rx ry h
  obtain ⟨hs, q⟩ := h
  cases x with
  | non =>
    cases rx
    cases y with
    | non => cases ry; exact PySem.EqNone.ne_none_none (fin_bl I q (by simp))
    | bl j => cases ry; exact PySem.EqNone.ne_none_bool (fin_bl I q (by simp))
    | int j => obtain ⟨t', rfl⟩ := ry; exact PySem.EqNone.ne_none_int (fin_bl I q (by simp))
    | str j => obtain ⟨t', rfl⟩ := ry; exact PySem.EqNone.ne_none_str (fin_bl I q (by simp))
    | _ => exact absurd (show false = true from hs) Bool.false_ne_true
  | bl i =>
    cases rx
    cases y with
    | non => cases ry; exact PySem.EqNone.ne_bool_none (fin_bl I q (by simp))
    | bl j => cases ry; exact ne_bool (fin_bl I q (congrArg not dec_bl))
    | str j => obtain ⟨t', rfl⟩ := ry; exact PySem.EqMixed.ne_bool_str (fin_bl I q (by simp))
    | _ => exact absurd (show false = true from hs) Bool.false_ne_true
  | int i =>
    obtain ⟨t, rfl⟩ := rx
    cases y with
    | non => cases ry; exact PySem.EqNone.ne_int_none (fin_bl I q (by simp))
    | int j => obtain ⟨t', rfl⟩ := ry; exact ne_int (fin_bl I q (congrArg not dec_int))
    | str j => obtain ⟨t', rfl⟩ := ry; exact PySem.EqMixed.ne_int_str (fin_bl I q (by simp))
    | _ => exact absurd (show false = true from hs) Bool.false_ne_true
  | str i =>
    obtain ⟨t, rfl⟩ := rx
    cases y with
    | non => cases ry; exact PySem.EqNone.ne_str_none (fin_bl I q (by simp))
    | bl j => cases ry; exact PySem.EqMixed.ne_str_bool (fin_bl I q (by simp))
    | int j => obtain ⟨t', rfl⟩ := ry; exact PySem.EqMixed.ne_str_int (fin_bl I q (by simp))
    | str j => obtain ⟨t', rfl⟩ := ry; exact ne_str (fin_bl I q (congrArg not dec_str))
    | _ => exact absurd (show false = true from hs) Bool.false_ne_true
  | byt i =>
    obtain ⟨t, rfl⟩ := rx
    cases y with
    | byt j => obtain ⟨t', rfl⟩ := ry; exact PySem.W.ne_bytes (fin_bl I q (congrArg not dec_byt))
    | _ => exact absurd (show false = true from hs) Bool.false_ne_true
  | _ => cases y <;> exact absurd (show false = true from hs) Bool.false_ne_true
theorem op_lt : OpR X (compareOp .Lt) (rI0 fun i j => .bl (decide (i < j))) := opB0 fun _ _ _ _ _ _ _ q => lt_int q
theorem op_le : OpR X (compareOp .LtE) (rI0 fun i j => .bl (decide (i ≤ j))) := opB0 fun _ _ _ _ _ _ _ q => le_int q
theorem op_gt : OpR X (compareOp .Gt) (rI0 fun i j => .bl (decide (j < i))) := opB0 fun _ _ _ _ _ _ _ q => gt_int q
theorem op_ge : OpR X (compareOp .GtE) (rI0 fun i j => .bl (decide (j ≤ i))) := opB0 fun _ _ _ _ _ _ _ q => ge_int q
theorem op_in_str : OpR X (compareOp .In) (fun x y H Q => ∃ i j, x = .str i ∧ y = .str j ∧ Q (.bl (!(Builtin.Str.occurrences j i 0 j.length 1).isEmpty)) H) := by
  intro pins s σ H x y v u Q I rx ry h
  obtain ⟨i, j, rfl, rfl, q⟩ := h
  obtain ⟨t, rfl⟩ := rx
  obtain ⟨t', rfl⟩ := ry
  exact in_str (fin_bl I q rfl)
theorem nomark (b : Expr) {op : CmpOp} (h : op ≠ .In := by decide) (h2 : op ≠ .NotIn := by decide) : behindInMarks op b = false := by
  have e1 : (op == CmpOp.In) = false := by cases op <;> first | rfl | exact absurd rfl h
  have e2 : (op == CmpOp.NotIn) = false := by cases op <;> first | rfl | exact absurd rfl h2
  cases b <;> simp [behindInMarks, e1, e2]
theorem pe_cmpR {op : CmpOp} {r : R2} (ho : OpR X (compareOp op) r) (ha : PE X a ta) (hb : PE X b tb) (hm : behindInMarks op b = false) : PE X (.Compare a [op] [b] pos) (tOp r ta tb) := by
  intro pins s σ H Q I h
  exact wpAny_Compare1 (binT ha hb I h fun v u s2 x y H2 I2 rx ry q => ho pins s2 σ H2 x y v u Q I2 rx ry q) hm
noncomputable def tTest (t : TE) : TT := fun σ H Q => t σ H fun x H' => ∃ k, x = .bl k ∧ Q k H'
theorem pt_cmpR {op : CmpOp} {r : R2} (ho : OpR X (compareOp op) r) (ha : PE X a ta) (hb : PE X b tb) (hm : behindInMarks op b = false) : PT X (.Compare a [op] [b] pos) (tTest (tOp r ta tb)) := by
  intro pins s σ H Q I h
  refine wpAny_isTrue_Compare1 (thn (ha pins s σ H _ I h) fun v s1 ⟨x, H1, I1, r1, q1⟩ => thn (hb pins s1 σ H1 _ I1 q1) fun u s2 ⟨y, H2, I2, r2, q2⟩ =>
    thn (ho pins s2 σ H2 x y v u _ I2 r1 r2 q2) fun c s3 ⟨z, H3, I3, r3, k, e, q3⟩ => ?_) hm
  subst e
  cases r3
  exact wpAny_truthy_bool ⟨H3, I3, q3⟩
noncomputable def tChain (r r' : R2) (ta tb tc : TE) : TE := fun σ H Q => ta σ H fun x H1 => tb σ H1 fun y H2 => r x y H2 fun z H3 => ∃ k, z = .bl k ∧
  (if k = true then tc σ H3 fun w' H4 => r' y w' H4 Q else Q (.bl false) H3)
theorem pe_chain {op op' : CmpOp} {r r' : R2} (ho : OpR X (compareOp op) r) (ho' : OpR X (compareOp op') r') (ha : PE X a ta) (hb : PE X b tb) (hc : PE X c tc)
    (hm : lastMarks [op, op'] [b, c] = false := by with_unfolding_all rfl) : PE X (.Compare a [op, op'] [b, c] pos) (tChain r r' ta tb tc) := by
  intro pins s σ H Q I h
  refine Compare_chain (thn (ha pins s σ H _ I h) fun v s1 ⟨x, H1, I1, r1, q1⟩ => chain_link (thn (hb pins s1 σ H1 _ I1 q1) fun u s2 ⟨y, H2, I2, r2, q2⟩ =>
    thn (ho pins s2 σ H2 x y v u _ I2 r1 r2 q2) fun d s3 ⟨z, H3, I3, r3, k, e, q3⟩ => ?_)) hm
  subst e
  cases r3
  refine wpAny_truthy_bool ?_
  cases k with
  | false => exact ite_ff ⟨.bl false, H3, I3, rfl, q3⟩
  | true => exact ite_tt (chain_last (thn (hc pins s3 σ H3 _ I3 q3) fun w' s4 ⟨z', H4, I4, r4, q4⟩ => ho' pins s4 σ H4 y z' u w' Q I4 r2 r4 q4))
noncomputable def TruV (K : PySem.W.Frag) (x : V) (H : Hp) (k : Bool) : Prop :=
  match x with
  | .non => k = false
  | .bl b => k = b
  | .int i => k = (i != 0)
  | .str y => y.length ≤ sizeLine ∧ k = ((y.length : Int) != 0)
  | .byt y => y.size ≤ sizeLine ∧ k = ((y.size : Int) != 0)
  | .ref p => (∃ xs, SqL K H p xs ∧ k = !xs.isEmpty) ∨ (∃ xs, SqT K H p xs ∧ k = !xs.isEmpty) ∨ ∃ kvs, H p = some (.dK kvs) ∧ k = !kvs.isEmpty
  | _ => False
theorem isEmpty_kv {κ : Type} {kvs : List (κ × V)} {vs : List (κ × Value)} (r : KV kvs vs) : (!vs.isEmpty) = !kvs.isEmpty := by
  cases r <;> rfl
theorem isEmpty_of {xs : List V} {its : List Value} (r : Vals xs its) : (!its.toArray.isEmpty) = !xs.isEmpty := by
  cases r <;> simp
theorem line63 : (sizeLine : Nat) < 2 ^ 63 := by rw [sizeLine_eq]; decide
theorem tru_ok : TruR X (fun x H Q => ∃ k, TruV X.K x H k ∧ Q k H) := by
  intro pins s σ H x v Q I rx h
  obtain ⟨k, e, q⟩ := h
  have hl := line63
  have hs : sizeLine = 16777216 := sizeLine_eq
  cases x with
  | non =>
    cases rx
    have e' : k = false := e
    subst e'
    exact truthy_none ⟨H, I, q⟩
  | bl b =>
    cases rx
    have e' : k = b := e
    subst e'
    exact wpAny_truthy_bool ⟨H, I, q⟩
  | int i =>
    obtain ⟨t, rfl⟩ := rx
    have e' : k = (i != 0) := e
    subst e'
    exact PySem.P.truthy_int ⟨H, I, q⟩
  | str y =>
    obtain ⟨t, rfl⟩ := rx
    obtain ⟨hy, e'⟩ : y.length ≤ sizeLine ∧ k = ((y.length : Int) != 0) := e
    subst e'
    exact PySem.P.truthy_str (by omega) ⟨H, I.tok _, q⟩
  | byt y =>
    obtain ⟨t, rfl⟩ := rx
    obtain ⟨hy, e'⟩ : y.size ≤ sizeLine ∧ k = ((y.size : Int) != 0) := e
    subst e'
    exact PySem.W.truthy_bytes (by omega) ⟨H, I.tok _, q⟩
  | ref p =>
    cases rx
    have e' : (∃ xs, SqL X.K H p xs ∧ k = !xs.isEmpty) ∨ (∃ xs, SqT X.K H p xs ∧ k = !xs.isEmpty) ∨ ∃ kvs, H p = some (.dK kvs) ∧ k = !kvs.isEmpty := e
    rcases e' with ⟨xs, hx, e'⟩ | ⟨xs, hx, e'⟩ | ⟨kvs, hx, e'⟩
    · subst e'
      obtain ⟨its, r, pl, hz⟩ := I.list hx
      have hlen := r.length
      exact wpAny_truthy_list pl.isList (by simp only [List.size_toArray]; omega) ⟨H, I.tok _, by rw [isEmpty_of r]; exact q⟩
    · subst e'
      obtain ⟨its, r, pl, hz⟩ := I.tuple hx
      have hlen := r.length
      exact truthy_tuple pl (by simp only [List.size_toArray]; omega) ⟨H, I.tok _, by rw [isEmpty_of r]; exact q⟩
    · subst e'
      obtain ⟨hz, hS, vs, r, m⟩ : kvs.length ≤ sizeLine ∧ (p == sysModules) = false ∧ ∃ vs, KV kvs vs ∧ s.heap.DictOf (mixKind X.prog X.w) p vs := I.hok p _ hx
      have hlen : kvs.length = vs.length := Paired.length r
      exact wpAny_truthy_dict hS m (by omega) ⟨H, I.tok _, by rw [isEmpty_kv r]; exact q⟩
  | _ => exact (show False from e).elim
theorem pt_truth (ha : PE X a ta) (he : ∀ whole, isTrue a X.env whole = (do let v ← whole; standAt a.pos; holding [v] (truthy v))) :
    PT X a (fun σ H Q => ta σ H fun x H' => ∃ k, TruV X.K x H' k ∧ Q k H') := by
  intro pins s σ H Q I h
  exact isTrue_plain (thn (ha pins s σ H _ I h) fun v s1 ⟨x, H1, I1, r1, q1⟩ => tru_ok pins s1 σ H1 x v Q I1 r1 q1) (he _)
theorem op_add_str : OpR X (binaryOp .Add) (fun x y H Q => ∃ i j, x = .str i ∧ y = .str j ∧ i.length + j.length ≤ sizeLine ∧ Q (.str (i ++ j)) H) := by
  intro pins s σ H x y v u Q I rx ry h
  obtain ⟨i, j, rfl, rfl, hz, q⟩ := h
  obtain ⟨t, rfl⟩ := rx
  obtain ⟨t', rfl⟩ := ry
  exact add_str (fun t' tk => ⟨.str (i ++ j), H, I.tok _, ⟨_, rfl⟩, q⟩) hz
theorem vals1 {x : V} {us : List Value} (r : Vals [x] us) : ∃ u, us = [u] ∧ RelV x u := by
  cases r with
  | cons r1 r2 => cases r2; exact ⟨_, rfl, r1⟩
theorem vals2 {x y : V} {us : List Value} (r : Vals [x, y] us) : ∃ u w', us = [u, w'] ∧ RelV x u ∧ RelV y w' := by
  cases r with
  | cons r1 r2 =>
    cases r2 with
    | cons r3 r4 => cases r4; exact ⟨_, _, rfl, r1, r3⟩
theorem call_str_int : CallR X (.type "str") (fun xs H Q => ∃ i, xs = [.int i] ∧ i.natAbs.log2 < 1920 ∧ Q (.str (toString i)) H) := by
  intro pins s σ H xs us Q I r h
  obtain ⟨i, rfl, hz, q⟩ := h
  obtain ⟨u, rfl, t, rfl⟩ := vals1 r
  exact PySem.P.str_of_int hz ⟨.str _, H, I.tok _, ⟨_, rfl⟩, q⟩
end
end L2
namespace L2
open PySem PySem.Spec PyProof.Rows
structure ObjM (h : Heap) (x dx C : Addr) (mA : Str → Option Value) : Prop where
  obj : h.get? x = some (PySem.W.instObj C dx)
  ns : h.Ns1 dx mA
  ne : dx ≠ x
theorem lookIn_ns {h : Heap} {dx : Addr} {mA : Str → Option Value} (n : h.Ns1 dx mA) : ∃ od, h.get? dx = some od ∧ ∀ name, PySem.W.lookIn name od = some (mA name) := by
  obtain ⟨o, es, ep, ho, hd, hk, _, hm⟩ := n
  refine ⟨o, ho, fun name => ?_⟩
  have e := hm name
  unfold nsFind findBy at e
  rw [← Array.find?_toList] at e
  unfold PySem.W.lookIn
  rw [hd]
  dsimp only
  split
  · rename_i y q
    rw [q] at e
    exact congrArg some e
  · rename_i q
    rw [q] at e
    have a : es.toList.any (·.refKey) = false := by
      rw [List.any_eq_false]
      intro y hy
      obtain ⟨z, t, hkey⟩ := hk y (Array.mem_toList_iff.mp hy)
      simp [DictEntry.refKey, hkey]
    have a' : ¬ es.toList.any (·.refKey) = true := by rw [a]; exact Bool.false_ne_true
    rw [if_neg a']
    exact congrArg some e
theorem ObjM.look {h : Heap} {x dx C : Addr} {mA : Str → Option Value} (I : ObjM h x dx C mA) : ∃ od, PySem.W.InstAt h x (PySem.W.instObj C dx) C (some od) ∧ ∀ name, PySem.W.lookIn name od = some (mA name) :=
  let ⟨od, ho, hl⟩ := lookIn_ns I.ns
  ⟨od, ⟨I.obj, rfl, rfl, ho⟩, hl⟩
section
variable {prog : Program} {w : World} {A : Around} {E : Value → Shared → Prop} {s : Shared} {K : PySem.W.Frag} {x dx C f : Addr} {mA : Str → Option Value} {name : Str} {v : Value}
theorem get_map {expr : Bool} {Q : Value → Shared → Prop} (X : K.In s.heap) (I : ObjM s.heap x dx C mA) (hg : PySem.W.plainGet K C name = true) (hh : PySem.W.hasDictIn K C = true)
    (ha : PySem.W.findIn K (.ref C) name = some none) (hv : mA name = some v) (hv' : PySem.W.handedIn v = true) (h : Q v { s with toks := s.toks + 1 }) :
    wpAny (model prog w) A (getAttr (.ref x) name expr) Q E s := by
  obtain ⟨od, J, hl⟩ := I.look
  exact PySem.W.get_value X J (PySem.W.plainGet_of hg).1 (PySem.W.findObj_own hh ha rfl (by rw [hl, hv])) hv' h
theorem get_meth {pl : Sem Bool} {Q : Value × List Value → Shared → Prop} (X : K.In s.heap) (I : ObjM s.heap x dx C mA) (hg : PySem.W.plainGet K C name = true)
    (hf : PySem.W.findIn K (.ref C) name = some (some (.ref f))) (ht : PySem.W.isFn K (.ref f) = true) (hv : mA name = none) (h : Q (.ref f, [.ref x]) s) :
    wpAny (model prog w) A (getMethod (.ref x) name pl) Q E s := by
  obtain ⟨od, J, hl⟩ := I.look
  exact PySem.W.method_fn X J (PySem.W.plainGet_of hg).1 (PySem.W.plainGet_of hg).2 hf (beq_iff_eq.mp ht) (by show (PySem.W.lookIn name od).map (·.isSome) = some false; rw [hl, hv]; rfl) h
theorem set_map {ns : List Str} {Q : Unit → Shared → Prop} (X : K.In s.heap) (I : ObjM s.heap x dx C mA)
    (hs : PySem.W.findIn K (.ref C) "__setattr__" = some (some (.builtin "object.__setattr__"))) (hp : PySem.W.plainOver K C = true) (ht : PySem.W.takerIn K C name = some none) (hh : PySem.W.hasDictIn K C = true)
    (hw : PySem.Within mA ns) (hsz : ns.length ≤ sizeLine)
    (h : ∀ h', ObjM h' x dx C (fun y => if y = name then some v else mA y) → Heap.SameBut dx s.heap h' → Q () { s with heap := h', toks := s.toks + 2 }) :
    wpAny (model prog w) A (setAttr (.ref x) name v) Q E s := by
  obtain ⟨od, J, hl⟩ := I.look
  refine PySem.W.set_plain X J hs (PySem.W.osa_open (s := { s with toks := s.toks + 1 }) (r := none) X J hp ht fun b => ?_)
  obtain ⟨cd, hc, hd'⟩ := PySem.W.any_some hh
  have hx : s.heap.get? x = some ⟨.ref C, some dx, .plain, #[]⟩ := I.obj
  refine wpAny_bind (wpAny_pure (wpAny_bind (wpAny_bind (wpAny_loadPart hx (wpAny_bind (PySem.W.Looks.here (s := { s with toks := s.toks + 1 }) (PySem.W.looks_clsIn X hc) ?_))))))
  rw [hd']
  refine wpAny_pure (a := some dx) (wpAny_bind (wpAny_pure (wpAny_bind ?_)))
  refine wpAny_nsSet1 (s := { s with toks := s.toks + 1 }) I.ns fun h' hn2 hs2 => ?_
  obtain ⟨oD, esD, epD, hoD, hdD, hcD⟩ := hn2.count (PySem.Within.cons name v hw)
  refine wpAny_bind (wpAny_lookBehind hoD (by rw [hdD]; exact pastItsLine_dict (Nat.le_trans hcD (by rw [List.length_cons]; omega))) ?_)
  exact wpAny_pure (h _ ⟨(hs2.2 _ (Ne.symm I.ne)).trans I.obj, hn2, I.ne⟩ hs2)
theorem make_map {R : Result → Shared → Prop} {vs : List Value} {kw : List (Str × Value)} (X : K.In s.heap) (hm : PySem.W.makesIn K C = true)
    (hi : PySem.W.findIn K (.ref C) "__init__" = some (some (.ref f))) (hf : PySem.W.typeIn K (.ref f) = some (.type "function"))
    (h : codeAny (model prog w) (A.under (.builtin "type.__call__" ⟨.ref C :: vs, kw⟩)) (.call (.ref f) ⟨.ref (s.heap.objs.size + 1) :: vs, kw⟩) (PySem.W.InitBack (s.heap.objs.size + 1) R)
      { s with heap := (s.heap.push PySem.W.emptyDict).push (PySem.W.instObj C s.heap.objs.size) }) :
    codeAny (model prog w) A (.call (.ref C) ⟨vs, kw⟩) R s := by
  obtain ⟨hh, g, d, t, os⟩ := s
  exact PySem.W.make_core (PySem.W.makes_of X hm) (PySem.W.looks_findIn X hi) (fun self => PySem.W.bind_fn X self hf) (.inl rfl) h
end
noncomputable def putF (f : Str) (v : V) : List (Str × V) → List (Str × V)
  | [] => [(f, v)]
  | (g, x) :: r => if g = f then (g, v) :: r else (g, x) :: putF f v r
theorem lookup_putF (f g : Str) (v : V) : ∀ fs : List (Str × V), (putF f v fs).lookup g = if g = f then some v else fs.lookup g
  | [] => by
    show List.lookup g [(f, v)] = _
    by_cases h : g = f
    · have hb : (g == f) = true := beq_iff_eq.mpr h
      simp only [List.lookup, hb, if_pos h]
    · have hb : (g == f) = false := beq_eq_false_iff_ne.mpr h
      simp only [List.lookup, hb, if_neg h]
  | (k, x) :: r => by
    have ih := lookup_putF f g v r
    rw [show putF f v ((k, x) :: r) = (if k = f then (k, v) :: r else (k, x) :: putF f v r) from rfl]
    by_cases hk : k = f
    · rw [if_pos hk]
      by_cases h : g = k
      · have hb : (g == k) = true := beq_iff_eq.mpr h
        simp only [List.lookup, hb, if_pos (h.trans hk)]
      · have hb : (g == k) = false := beq_eq_false_iff_ne.mpr h
        simp only [List.lookup, hb, if_neg (fun e : g = f => h (e.trans hk.symm))]
    · rw [if_neg hk]
      by_cases h : g = k
      · have hb : (g == k) = true := beq_iff_eq.mpr h
        simp only [List.lookup, hb, if_neg (fun e : g = f => hk (h.symm.trans e))]
      · have hb : (g == k) = false := beq_eq_false_iff_ne.mpr h
        simp only [List.lookup, hb]
        exact ih
theorem keys_putF (f : Str) (v : V) : ∀ fs : List (Str × V), f ∈ (putF f v fs).map (·.1) ∧ ∀ g, g ∈ fs.map (·.1) → g ∈ (putF f v fs).map (·.1)
  | [] => ⟨by simp [putF], fun g h => by simp at h⟩
  | (k, x) :: r => by
    obtain ⟨i1, i2⟩ := keys_putF f v r
    rw [show putF f v ((k, x) :: r) = (if k = f then (k, v) :: r else (k, x) :: putF f v r) from rfl]
    by_cases hk : k = f
    · rw [if_pos hk]
      subst hk
      exact ⟨by simp, fun g h => by simpa using h⟩
    · rw [if_neg hk]
      refine ⟨?_, fun g h => ?_⟩
      · rw [List.map_cons]
        exact List.mem_cons_of_mem _ i1
      · rw [List.map_cons] at h ⊢
        rcases List.mem_cons.mp h with e | e
        · exact List.mem_cons.mpr (.inl e)
        · exact List.mem_cons_of_mem _ (i2 g e)
theorem length_putF (f : Str) (v : V) : ∀ fs : List (Str × V), (putF f v fs).length ≤ fs.length + 1
  | [] => by simp [putF]
  | (k, x) :: r => by
    have ih := length_putF f v r
    rw [show putF f v ((k, x) :: r) = (if k = f then (k, v) :: r else (k, x) :: putF f v r) from rfl]
    by_cases hk : k = f
    · rw [if_pos hk, List.length_cons, List.length_cons]; omega
    · rw [if_neg hk, List.length_cons, List.length_cons]; omega
theorem RelO.some_of {v : V} {o : Option Value} (r : RelO (some v) o) : ∃ u, o = some u ∧ RelV v u := by
  cases o with
  | none => exact (show False from r).elim
  | some u => exact ⟨u, rfl, r⟩
theorem RelO.none_of {o : Option Value} (r : RelO none o) : o = none := by
  cases o with
  | none => rfl
  | some u => exact (show False from r).elim
theorem handed_of {v : V} {u : Value} (r : RelV v u) : PySem.W.handedIn u = true := by
  cases v with
  | non => cases (show u = Value.none from r); rfl
  | bl b => cases (show u = Value.bool b from r); rfl
  | int i => obtain ⟨t, e⟩ := (show ∃ t, u = Value.int i t from r); cases e; rfl
  | str x => obtain ⟨t, e⟩ := (show ∃ t, u = Value.str x t from r); cases e; rfl
  | byt b => obtain ⟨t, e⟩ := (show ∃ t, u = Value.bytes b t from r); cases e; rfl
  | flt b => obtain ⟨t, e⟩ := (show ∃ t, u = Value.float b t from r); cases e; rfl
  | ref a => cases (show u = Value.ref a from r); rfl
  | ty n => cases (show u = Value.type n from r); rfl
section
variable {P : Program} {w : World} {H H' : Hp} {h h' : Heap} {a C dx : Addr} {fs fs' : List (Str × V)}
theorem ins_get (hok : HOk P w H h) (e : H a = some (.ins C dx fs)) : ∃ mA, ObjM h a dx C mA ∧ (∀ f, RelO (fs.lookup f) (mA f)) ∧ PySem.Within mA (fs.map (·.1)) ∧ fs.length ≤ 1000 ∧ H dx = some (.own a) := by
  obtain ⟨d, z, ne, ob, mA, n, r, q⟩ := (show ObjOk P w H h a (.ins C dx fs) from hok a _ e)
  exact ⟨mA, ⟨ob, n, ne⟩, r, q, z, d⟩
end
structure Cls (K : PySem.W.Frag) (C : Addr) : Prop where
  pg : PySem.W.plainGet K C Str.empty = true
  hd : PySem.W.hasDictIn K C = true
  po : PySem.W.plainOver K C = true
  sa : PySem.W.findIn K (.ref C) "__setattr__" = some (some (.builtin "object.__setattr__"))
theorem Cls.get {K : PySem.W.Frag} {C : Addr} (c : Cls K C) (f : Str) : PySem.W.plainGet K C f = true := c.pg
noncomputable def NoAttr (K : PySem.W.Frag) (C : Addr) (f : Str) : Prop := PySem.W.findIn K (.ref C) f = some none
theorem NoAttr.taker {K : PySem.W.Frag} {C : Addr} {f : Str} (n : NoAttr K C f) : PySem.W.takerIn K C f = some none := by
  unfold PySem.W.takerIn
  rw [show PySem.W.findIn K (.ref C) f = some none from n]
  rfl
structure Meth (K : PySem.W.Frag) (C : Addr) (m : Str) (f : Addr) : Prop where
  at_ : PySem.W.findIn K (.ref C) m = some (some (.ref f))
  fn : PySem.W.isFn K (.ref f) = true
  kp : PySem.W.keepIn K (.ref f) = true
section
variable {X : Cx} {pins : List (Addr × Obj)} {σ : St} {H : Hp} {s : Shared} {a C dx : Addr} {fs : List (Str × V)} {f : Str} {v : V} {A : Around} {E : Value → Shared → Prop}
theorem getattr_ok {b : Bool} {Q : Value → Shared → Prop} (I : Inv X pins σ H s) (e : H a = some (.ins C dx fs)) (c : Cls X.K C) (n : NoAttr X.K C f) (l : fs.lookup f = some v)
    (h : ∀ u s', Inv X pins σ H s' → RelV v u → Q u s') : wpAny (model X.prog X.w) A (getAttr (.ref a) f b) Q E s := by
  obtain ⟨mA, O, r, _, _, _⟩ := ins_get I.hok e
  obtain ⟨u, hu, ru⟩ := RelO.some_of (v := v) (o := mA f) (by rw [← l]; exact r f)
  exact get_map I.kIn O (c.get f) c.hd n hu (handed_of ru) (h u _ (I.tok _) ru)
theorem getmeth_ok {m : Str} {g : Addr} {pl : Sem Bool} {Q : Value × List Value → Shared → Prop} (I : Inv X pins σ H s) (e : H a = some (.ins C dx fs)) (c : Cls X.K C) (k : Meth X.K C m g) (l : fs.lookup m = none)
    (h : Q (.ref g, [.ref a]) s) : wpAny (model X.prog X.w) A (getMethod (.ref a) m pl) Q E s := by
  obtain ⟨mA, O, r, _, _, _⟩ := ins_get I.hok e
  have hn : mA m = none := RelO.none_of (by rw [← l]; exact r m)
  exact get_meth I.kIn O (c.get m) k.at_ k.fn hn h
theorem setattr_ok {y : V} {u : Value} {Q : Unit → Shared → Prop} (I : Inv X pins σ H s) (e : H a = some (.ins C dx fs)) (c : Cls X.K C) (n : NoAttr X.K C f) (hl : fs.length < 1000) (ry : RelV y u)
    (h : ∀ s', Inv X pins σ (upd H a (.ins C dx (putF f y fs))) s' → Q () s') : wpAny (model X.prog X.w) A (setAttr (.ref a) f u) Q E s := by
  obtain ⟨mA, O, r, wi, _, ho⟩ := ins_get I.hok e
  have hz : (fs.map (·.1)).length ≤ sizeLine := by rw [List.length_map, sizeLine_eq]; omega
  refine set_map I.kIn O c.sa c.po n.taker c.hd wi hz fun h' O' sb => h _ ?_
  have hd : ∃ o, h'.get? dx = some o := let ⟨o, _, _, e', _⟩ := O'.ns; ⟨o, e'⟩
  refine I.write (x := a) (e := dx) (by rw [e]; exact True.intro) (.inr ho) (fun b q hb z => (sb.2 b hb).trans z) hd ?_
  refine ⟨by rw [upd_ne O.ne]; exact ho, ?_, O.ne, O'.obj, _, O'.ns, fun g => ?_, fun g hg => ?_⟩
  · have := length_putF f y fs; omega
  · show RelO ((putF f y fs).lookup g) (if g = f then some u else mA g)
    rw [lookup_putF]
    by_cases q : g = f
    · rw [if_pos q, if_pos q]; exact ry
    · rw [if_neg q, if_neg q]; exact r g
  · by_cases q : g = f
    · rw [q]; exact (keys_putF f y fs).1
    · refine (keys_putF f y fs).2 g (wi g fun z => hg ?_)
      show (if g = f then some u else mA g) = none
      rw [if_neg q]; exact z
theorem Inv.made (I : Inv X pins σ H s) : Inv X pins σ (upd (upd H s.heap.objs.size (.own (s.heap.objs.size + 1))) (s.heap.objs.size + 1) (.ins C s.heap.objs.size []))
    { s with heap := (s.heap.push PySem.W.emptyDict).push (PySem.W.instObj C s.heap.objs.size) } := by
  have e1 : (s.heap.push PySem.W.emptyDict).get? s.heap.objs.size = some PySem.W.emptyDict := Heap.get?_push_size s.heap rfl
  have e2 : ((s.heap.push PySem.W.emptyDict).push (PySem.W.instObj C s.heap.objs.size)).get? (s.heap.objs.size + 1) = some (PySem.W.instObj C s.heap.objs.size) := by
    have := Heap.get?_push_size (s.heap.push PySem.W.emptyDict) (o := PySem.W.instObj C s.heap.objs.size) rfl
    rwa [Heap.size_push] at this
  have e3 : (s.heap.push PySem.W.emptyDict).Ns s.heap.objs.size (fun _ => none) := ⟨PySem.W.emptyDict, #[], _, e1, rfl, (fun e he => absurd he (by simp)), fun _ => rfl⟩
  have I1 := I.laid (a := s.heap.objs.size) (o := .own (s.heap.objs.size + 1)) (h' := s.heap.push PySem.W.emptyDict) (t' := s.toks) (fun b u q => Heap.get?_push_of_some _ q) (Nat.le_refl _) ⟨_, e1⟩
  refine I1.laid (a := s.heap.objs.size + 1) (o := .ins C s.heap.objs.size []) (t' := s.toks) (fun b u q => Heap.get?_push_of_some _ q) (Nat.le_of_eq (Heap.size_push _ _)) ?_
  have ne : s.heap.objs.size ≠ s.heap.objs.size + 1 := Nat.ne_of_lt (Nat.lt_succ_self _)
  refine ⟨by rw [upd_ne ne, upd_same], Nat.zero_le _, ne, e2, fun _ => none, (Heap.Ns1.of_empty e3).at fun o q => Heap.get?_push_of_some _ q, fun _ => True.intro, fun y hy => absurd rfl hy⟩
theorem attr_of {prog : Program} {w : World} {env : Env} {e : Expr} {f : Str} {pos : Pos} {s : Shared} {Q : Value → Shared → Prop} (hb : attributeBase e f env (eval e env) = eval e env)
    (h : wpAny (model prog w) A (eval e env) (fun o s₁ => wpAny (model prog w) A (getAttr o f true) Q E s₁) E s) : wpAny (model prog w) A (eval (.Attribute e f pos) env) Q E s :=
  Attribute_any_ h (by rw [arm_eval_Attribute, hb])
end
noncomputable def tFld (K : PySem.W.Frag) (ta : TE) (f : Str) : TE := fun σ H Q => ta σ H fun x H1 => ∃ a C dx fs v, x = .ref a ∧ H1 a = some (.ins C dx fs) ∧ Cls K C ∧ NoAttr K C f ∧ fs.lookup f = some v ∧ Q v H1
noncomputable def sFld (K : PySem.W.Frag) (ta tv : TE) (f : Str) : TS := fun D σ H => tv σ H fun y H1 => ta σ H1 fun x H2 => ∃ a C dx fs, x = .ref a ∧ H2 a = some (.ins C dx fs) ∧ Cls K C ∧ NoAttr K C f ∧ fs.length < 1000 ∧
  D.nx σ (upd H2 a (.ins C dx (putF f y fs)))
section
variable {X : Cx} {o e value : Expr} {f : Str} {pos pos' tpos : Pos} {ta tv : TE}
theorem pe_fld (he : PE X e ta) (hb : attributeBase e f X.env (eval e X.env) = eval e X.env) : PE X (.Attribute e f pos) (tFld X.K ta f) := by
  intro pins s σ H Q I h
  refine attr_of hb (thn (he pins s σ H _ I h) fun u s1 ⟨x, H1, I1, rx, a, C, dx, fs, v, ex, ea, c, n, l, q⟩ => ?_)
  subst ex
  obtain rfl : u = Value.ref a := rx
  exact getattr_ok I1 ea c n l fun u' s2 I2 ru => ⟨v, H1, I2, ru, q⟩
theorem ps_fld (ha : PE X o ta) (hv : PE X value tv) (hs : swapsWith value (some (.Attribute o f pos')) pos.line X.env = pure false) : PS X (.Assign [.Attribute o f pos'] value pos) (sFld X.K ta tv f) := by
  intro pins s σ H D I h
  refine plainObj_wpAny_Assign_Attribute (thn (hv pins s σ H _ I h) fun u s1 ⟨y, H1, I1, ry, q⟩ => thn (ha pins s1 σ H1 _ I1 q) fun ov s2 ⟨x, H2, I2, rx, a, C, dx, fs, ex, ea, c, n, l, q2⟩ => ?_) hs
  subst ex
  obtain rfl : ov = Value.ref a := rx
  exact setattr_ok I2 ea c n l ry fun s3 I3 => ⟨σ, _, I3, q2⟩
theorem methcall_of {pl : Sem Bool} {m : Str} {apos : Pos} {args : List Expr} {pins : List (Addr × Obj)} {s : Shared} {σ : St} {H : Hp} {Q : Value → Shared → Prop} {te : TE} (he : PE X e te) (I : Inv X pins σ H s)
    (h : te σ H fun x H1 => ∃ a C dx fs g, x = .ref a ∧ H1 a = some (.ins C dx fs) ∧ Cls X.K C ∧ Meth X.K C m g ∧ fs.lookup m = none ∧
      ∀ s1, Inv X pins σ H1 s1 → wpAny (model X.prog X.w) X.A (callWith pos (.ref g) [.ref a] (backTo pos (starEach args X.env)) (backToKw pos (keywordEach [] X.env))) Q X.xe s1)
    (ht : eval (.Call (.Attribute e m apos) args [] pos) X.env = (do
      let ov ← eval e X.env
      standAt apos.atName
      let (f, first) ← holding [ov] (getMethod ov m pl)
      callWith pos f first (backTo pos (starEach args X.env)) (backToKw pos (keywordEach [] X.env)))) :
    wpAny (model X.prog X.w) X.A (eval (.Call (.Attribute e m apos) args [] pos) X.env) Q X.xe s := by
  refine PySem.W.methodCall_KW (pl := pl) (thn (he pins s σ H _ I h) fun u s1 ⟨x, H1, I1, rx, a, C, dx, fs, g, ex, ea, c, k, l, q⟩ => ?_) ht
  subst ex
  obtain rfl : u = Value.ref a := rx
  exact getmeth_ok I1 ea c k l (q s1 I1)
end
section
variable {X : Cx} {pins : List (Addr × Obj)} {σ : St} {H : Hp} {s : Shared} {A : Around} {E : Value → Shared → Prop} {Q : Value → Shared → Prop} {c : Value} {b : Bool}
inductive TyOf (K : PySem.W.Frag) (H : Hp) : V → Value → Prop where
  | non : TyOf K H .non (.type "NoneType")
  | bl (x : Bool) : TyOf K H (.bl x) (.type "bool")
  | int (i : Int) : TyOf K H (.int i) (.type "int")
  | str (x : Str) : TyOf K H (.str x) (.type "str")
  | flt (x : UInt64) : TyOf K H (.flt x) (.type "float")
  | lst {a : Addr} {xs : List V} (e : H a = some (.lst xs)) : TyOf K H (.ref a) (.type "list")
  | frz {a : Addr} {o : Obj} {xs : List V} (e : H a = some (.frz o (.lst xs))) : TyOf K H (.ref a) (.type "list")
  | tup {a : Addr} {xs : List V} (e : H a = some (.tup xs)) : TyOf K H (.ref a) (.type "tuple")
  | dK {a : Addr} {kvs : List (Key × V)} (e : H a = some (.dK kvs)) : TyOf K H (.ref a) (.type "dict")
  | dT {a : Addr} {kvs : List (List Key × V)} (e : H a = some (.dT kvs)) : TyOf K H (.ref a) (.type "dict")
  | ins {a C dx : Addr} {fs : List (Str × V)} (e : H a = some (.ins C dx fs)) (cl : Cls K C) (ha : PySem.W.findIn K (.ref C) "__class__" = some (some (.builtin "object.__class__")))
      (hn : PySem.W.specialIn K (.builtin "object.__class__") "__get__" = some (some (.builtin "getset_descriptor.__get__"))) (htk : PySem.W.takesIn K (.builtin "object.__class__") = some true)
      (hm : PySem.W.mroIn K C (.type "object") = some true) : TyOf K H (.ref a) (.ref C)
theorem isinst_ok {x : V} {u t : Value} (I : Inv X pins σ H s) (rx : RelV x u) (ty : TyOf X.K H x t) (e : PySem.W.kitOne X.K t c = some b) (h : ∀ tk, Q (.bool b) { s with toks := tk }) :
    wpAny (model X.prog X.w) A (call (.builtin "isinstance") [u, c]) Q E s := by
  cases ty with
  | non => cases (show u = Value.none from rx); exact PySem.W.kia_one PySem.W.kitx_none I.kIn True.intro e (fun z => nomatch z) h
  | bl y => cases (show u = Value.bool y from rx); exact PySem.W.kia_one PySem.W.kitx_bool I.kIn True.intro e (fun z => nomatch z) h
  | int i => obtain ⟨t, q⟩ := (show ∃ t, u = Value.int i t from rx); cases q; exact PySem.W.kia_one PySem.W.kitx_int I.kIn True.intro e (fun z => nomatch z) h
  | str y => obtain ⟨t, q⟩ := (show ∃ t, u = Value.str y t from rx); cases q; exact PySem.W.kia_one PySem.W.kitx_str I.kIn True.intro e (fun z => nomatch z) h
  | flt y => obtain ⟨t, q⟩ := (show ∃ t, u = Value.float y t from rx); cases q; exact PySem.W.kia_one PySem.W.kitx_float I.kIn True.intro e (fun z => nomatch z) h
  | @lst a xs ea =>
    cases (show u = Value.ref a from rx)
    obtain ⟨_, _, n, _, h1⟩ := (show ObjOk X.prog X.w H s.heap a (.lst xs) from I.hok a _ ea)
    exact PySem.W.kia_one PySem.W.kitx_list I.kIn ⟨_, h1, rfl⟩ e (fun z => nomatch z) h
  | @frz a ob xs ea =>
    cases (show u = Value.ref a from rx)
    obtain ⟨_, _, _, n, _, h1⟩ := (show ObjOk X.prog X.w H s.heap a (.frz ob (.lst xs)) from I.hok a _ ea)
    exact PySem.W.kia_one PySem.W.kitx_list I.kIn ⟨_, h1, rfl⟩ e (fun z => nomatch z) h
  | @tup a xs ea =>
    cases (show u = Value.ref a from rx)
    obtain ⟨_, _, _, p⟩ := (show ObjOk X.prog X.w H s.heap a (.tup xs) from I.hok a _ ea)
    obtain ⟨o, h1, h2, _⟩ := p
    exact PySem.W.kia_one PySem.W.kitx_tuple I.kIn ⟨o, h1, h2⟩ e (fun z => nomatch z) h
  | @dK a kvs ea =>
    cases (show u = Value.ref a from rx)
    obtain ⟨_, _, vs, _, p⟩ := (show ObjOk X.prog X.w H s.heap a (.dK kvs) from I.hok a _ ea)
    obtain ⟨o, es, ep, h1, h2, _⟩ := p
    exact PySem.W.kia_one PySem.W.kitx_dict I.kIn ⟨o, h1, h2.1⟩ e (fun z => nomatch z) h
  | @dT a kvs ea =>
    cases (show u = Value.ref a from rx)
    obtain ⟨_, _, xs, _, o, es, ep, h1, h2, _⟩ := (show ObjOk X.prog X.w H s.heap a (.dT kvs) from I.hok a _ ea)
    exact PySem.W.kia_one PySem.W.kitx_dict I.kIn ⟨o, h1, h2.1⟩ e (fun z => nomatch z) h
  | @ins a C dx fs ea cl ha hn htk hm =>
    cases (show u = Value.ref a from rx)
    obtain ⟨mA, O, _⟩ := ins_get I.hok ea
    obtain ⟨od, J, _⟩ := O.look
    exact PySem.W.kia_one (PySem.W.kitx_own (cl.get _) cl.hd ha hn htk hm) I.kIn J e (fun z => nomatch z) h
end
end L2
namespace L2
open PySem PySem.Spec PyProof.Rows
structure Room (k : Nat) (A : Around) : Prop where
  hd : A.handled = none
  dp : A.depth + 3 * k + 5 < recursionLimit
  un : A.units + 16 * k + 200 < cLine
theorem Room.mono {j k : Nat} {A : Around} (r : Room k A) (h : j ≤ k) : Room j A := ⟨r.hd, by have := r.dp; omega, by have := r.un; omega⟩
theorem Room.deeper {k : Nat} {A : Around} (r : Room (k + 1) A) (env : Env) : Room k (A.deeper env) :=
  ⟨r.hd, by have := r.dp; show A.depth + 1 + 3 * k + 5 < _; omega, by have := r.un; show A.units + 3 + 16 * k + 200 < _; omega⟩
theorem make_depth {A : Around} {C : Addr} {us : List Value} {kw : List (Str × Value)} : (A.under (.builtin "type.__call__" ⟨.ref C :: us, kw⟩)).depth = A.depth + 1 := by
  first | rfl | simp [Around.under, Code.weight, Code.isCreation, Code.isGuard, Code.isCaller, Code.frames, Code.isFrame, guardIds]
theorem make_units {A : Around} {C : Addr} {us : List Value} {kw : List (Str × Value)} : (A.under (.builtin "type.__call__" ⟨.ref C :: us, kw⟩)).units = A.units + 1 := by
  first | rfl | simp [Around.under, Code.cUnits, Code.frames, Code.isFrame]
theorem Room.make {k : Nat} {A : Around} (r : Room (k + 1) A) (C : Addr) (us : List Value) (kw : List (Str × Value)) : Room k (A.under (.builtin "type.__call__" ⟨.ref C :: us, kw⟩)) :=
  ⟨r.hd, by have := r.dp; rw [make_depth]; omega, by have := r.un; rw [make_units]; omega⟩
theorem Room.depth {k : Nat} {A : Around} (r : Room k A) : A.depth < recursionLimit := by have := r.dp; omega
theorem Room.units {k : Nat} {A : Around} (r : Room k A) : A.units + 64 < cLine := by have := r.un; omega
noncomputable def tNil : TA := fun _ H Q => Q [] H
noncomputable def tCons (ta : TE) (tr : TA) : TA := fun σ H Q => ta σ H fun x H1 => tr σ H1 fun xs H2 => Q (x :: xs) H2
section
variable {X : Cx} {e : Expr} {es : List Expr} {te : TE} {t : TA} {pos : Pos}
theorem pa_nil : PA X [] tNil := fun _ _ _ _ H Q I h => Calls.spliced_nil ⟨[], H, I, .nil, h⟩
theorem pa_cons (ha : PE X e te) (hr : PA X es t) (hs : starEach (e :: es) X.env = (false, eval e X.env) :: starEach es X.env := by rfl) : PA X (e :: es) (tCons te t) := by
  intro pos pins s σ H Q I h
  rw [hs]
  show wpAny _ _ (spliced ((false, eval e X.env) :: backTo pos (starEach es X.env))) _ _ s
  refine Calls.spliced_cons (thn (ha pins s σ H _ I h) fun u s1 ⟨x, H1, I1, r1, q1⟩ => ?_)
  exact thn (hr pos pins s1 σ H1 _ I1 q1) fun us s2 ⟨xs, H2, I2, r2, q2⟩ => ⟨x :: xs, H2, I2, .cons r1 r2, q2⟩
noncomputable def tTup (t : TA) : TE := fun σ H Q => t σ H fun xs H1 => xs.length ≤ sizeLine ∧ ∀ p, H1 p = none → Q (.ref p) (upd H1 p (.tup xs))
noncomputable def tLst (t : TA) : TE := fun σ H Q => t σ H fun xs H1 => xs.length ≤ sizeLine ∧ ∀ p, H1 p = none → Q (.ref p) (upd H1 p (.lst xs))
theorem pe_tup {x1} (h : PA X es t) : PE X (.Tuple es x1 pos) (tTup t) := by
  intro pins s σ H Q I hq
  refine wpAny_Tuple_spliced (thn (h pos pins s σ H _ I hq) fun us s1 ⟨xs, H1, I1, r, z, q⟩ => ⟨by rw [← r.length]; exact z, ?_⟩)
  have hf : H1 s1.heap.objs.size = none := I1.hok.fresh (Nat.le_refl _)
  refine ⟨.ref s1.heap.objs.size, upd H1 s1.heap.objs.size (.tup xs), I1.laid (t' := s1.toks) (fun b u e => Heap.get?_push_of_some _ e) (Nat.le_refl _) ?_, rfl, q _ hf⟩
  exact ⟨z, us, r, ⟨_, Heap.get?_push_size _ rfl, rfl, _, rfl⟩⟩
theorem pe_lst (h : PA X es t) : PE X (.List es pos) (tLst t) := by
  intro pins s σ H Q I hq
  refine wpAny_List_spliced (thn (h pos pins s σ H _ I hq) fun us s1 ⟨xs, H1, I1, r, z, q⟩ => ⟨by rw [← r.length]; exact z, ?_⟩)
  have hf : H1 s1.heap.objs.size = none := I1.hok.fresh (Nat.le_refl _)
  refine ⟨.ref s1.heap.objs.size, upd H1 s1.heap.objs.size (.lst xs), I1.laid (t' := s1.toks) (fun b u e => Heap.get?_push_of_some _ e) (Nat.le_refl _) ?_, rfl, q _ hf⟩
  exact ⟨z, us, 0, r, Heap.get?_push_size _ rfl⟩
end
noncomputable abbrev Sp := List V → Hp → VK → XK → Prop
noncomputable abbrev CXT := List Env → Hp → Shared → XK → Value → Shared → Prop
structure Env0 (P : Program) (w : World) (K : PySem.W.Frag) (mg : Str → Option Value) (base : Heap) (A : Around) (outer : List Env) (s : Shared) (H : Hp) : Prop where
  frames : A.frames = some outer
  mod : Mod K mg base
  bs : ∀ b o, base.get? b = some o → s.heap.get? b = some o ∧ H b = none
  bsz : base.objs.size ≤ s.heap.objs.size
  funs : s.heap.FunFrames base outer
  frf : ∀ b ∈ frs outer, H b = none
  hok : HOk P w H s.heap
  bare : AllBare s.gens
noncomputable def CE (outer : List Env) (P : Program) (w : World) (H : Hp) (s : Shared) (Q : VK) (u : Value) (s' : Shared) : Prop :=
  ∃ v H', s'.os = s.os ∧ AllBare s'.gens ∧ Un (frs outer) [] H H' s.heap s'.heap ∧ HOk P w H' s'.heap ∧ RelV v u ∧ Q v H'
noncomputable def CR (CX : CXT) (outer : List Env) (P : Program) (w : World) (H : Hp) (s : Shared) (Q : VK) (E : XK) (r : Result) (s' : Shared) : Prop :=
  match r with
  | .ok (.ret u) => CE outer P w H s Q u s'
  | .ok _ => False
  | .error e => CX outer H s E e s'
structure FnOk (P : Program) (w : World) (K : PySem.W.Frag) (mg : Str → Option Value) (base : Heap) (CX : CXT) (k : Nat) (f : Addr) (fd : FuncData) (ps : List Str) (sp : Sp) : Prop where
  len : ∀ vs H Q E, sp vs H Q E → vs.length = ps.length
  run : ∀ (A : Around) (outer : List Env) (s : Shared) (H : Hp) (args : Args) (us : List Value) (vs : List V) (Q : VK) (E : XK), Room k A → Env0 P w K mg base A outer s H → BindsTo s fd args (ps.zip us) → Vals vs us → sp vs H Q E →
    codeAny (model P w) A (.call (.ref f) args) (CR CX outer P w H s Q E) s
theorem Env0.make {P : Program} {w : World} {K : PySem.W.Frag} {mg : Str → Option Value} {base : Heap} {A : Around} {outer : List Env} {s : Shared} {H : Hp} (e : Env0 P w K mg base A outer s H) (C : Addr) (us : List Value) (kw : List (Str × Value)) :
    Env0 P w K mg base (A.under (.builtin "type.__call__" ⟨.ref C :: us, kw⟩)) outer s H := ⟨by first | exact e.frames | (simpa [Around.under, Code.envs, Code.isFrame, pushEnvs] using e.frames), e.mod, e.bs, e.bsz, e.funs, e.frf, e.hok, e.bare⟩
section
variable {X : Cx} {pins : List (Addr × Obj)} {σ : St} {H : Hp} {s s' : Shared}
theorem Inv.env0 (I : Inv X pins σ H s) : Env0 X.prog X.w X.K X.mg X.base X.A X.stack s H :=
  ⟨I.ok.frames, I.ok.mod, I.bs, Nat.le_trans I.ok.bsz I.sz, I.stack, I.stkFree, I.hok, I.bare⟩
theorem Inv.after {Q : VK} {u : Value} (I : Inv X pins σ H s) (h : CE X.stack X.prog X.w H s Q u s') : EP X pins σ Q u s' := by
  obtain ⟨v, H', os, bare, un, hok, r, q⟩ := h
  obtain ⟨hh, g, d, t, os'⟩ := s'
  obtain rfl : os' = s.os := os
  exact ⟨v, H', I.call (h' := hh) (g' := g) (d' := d) (t' := t) (ch := []) un hok bare (fun b z => absurd z (by simp)), r, q⟩
end
noncomputable def tCall (sp : Sp) (dvs : List V) (E : XK) (t : TA) : TE := fun σ H Q => t σ H fun vs H1 => sp (vs ++ dvs) H1 Q E
noncomputable def tMeth (C : Addr) (m : Str) (sp : Sp) (dvs : List V) (E : XK) (ta : TE) (t : TA) : TE := fun σ H Q => ta σ H fun x H1 => ∃ a dx fs, x = .ref a ∧ H1 a = some (.ins C dx fs) ∧ fs.lookup m = none ∧
  t σ H1 fun vs H2 => sp (x :: (vs ++ dvs)) H2 Q E
noncomputable def tMake (C : Addr) (sp : Sp) (dvs : List V) (E : XK) (t : TA) : TE := fun σ H Q => t σ H fun vs H1 => ∀ x dx, H1 x = none → H1 dx = none → dx ≠ x →
  sp (.ref x :: (vs ++ dvs)) (upd (upd H1 dx (.own x)) x (.ins C dx [])) (fun v H2 => v = .non ∧ Q (.ref x) H2) E
noncomputable def Binds (K : PySem.W.Frag) (fd : FuncData) (ps : List Str) (ds : List Value) : Prop :=
  ∀ (s : Shared) (us : List Value), K.In s.heap → (us ++ ds).length = ps.length → BindsTo s fd ⟨us, []⟩ (ps.zip (us ++ ds))
theorem Binds.all {K : PySem.W.Frag} {fd : FuncData} {ps : List Str} (h : ∀ us : List Value, us.length = ps.length → bindArgs fd ⟨us, []⟩ = pure (ps.zip us)) : Binds K fd ps [] := fun s us _ hl => by
  rw [List.append_nil] at hl ⊢
  exact .of_eq (h us hl)
noncomputable def Passes (CX : CXT) (X : Cx) (E : XK) : Prop := ∀ (pins : List (Addr × Obj)) (σ : St) (H : Hp) (s : Shared) (e : Value) (s' : Shared), Inv X pins σ H s → CX X.stack H s E e s' → X.xe e s'
section
variable {X : Cx} {CX : CXT} {k : Nat} {f C : Addr} {fd : FuncData} {ps : List Str} {sp : Sp} {dvs : List V} {ds : List Value} {E : XK} {x m : Str} {p pos apos : Pos} {e o : Expr} {es : List Expr} {ta : TE} {t : TA}
theorem run_fn {pins : List (Addr × Obj)} {σ : St} {H : Hp} {s : Shared} {Q : VK} {us : List Value} {vs : List V} (F : FnOk X.prog X.w X.K X.mg X.base CX k f fd ps sp) (hr : Room k X.A) (hb : Binds X.K fd ps ds) (hd : Vals dvs ds) (hx : Passes CX X E)
    (I : Inv X pins σ H s) (r : Vals vs us) (h : sp (vs ++ dvs) H Q E) : wpAny (model X.prog X.w) X.A (call (.ref f) us) (EP X pins σ Q) X.xe s := by
  have r2 : Vals (vs ++ dvs) (us ++ ds) := r.append hd
  have hl : (us ++ ds).length = ps.length := by rw [← r2.length]; exact F.len _ _ _ _ h
  refine wpAny_call (codeAny_mono (F.run X.A X.stack s H ⟨us, []⟩ (us ++ ds) (vs ++ dvs) Q E hr I.env0 (hb s us I.kIn hl) r2 h) fun r s' hq => ?_)
  cases r with
  | error e => exact hx pins σ H s e s' I hq
  | ok fl =>
    cases fl with
    | ret u => exact I.after hq
    | next => exact False.elim hq
    | brk => exact False.elim hq
    | cont => exact False.elim hq
theorem pe_call (F : FnOk X.prog X.w X.K X.mg X.base CX k f fd ps sp) (hr : Room k X.A) (hg : Gl X x) (hm : X.mg x = some (.ref f)) (hk : PySem.W.keepIn X.K (.ref f) = true) (hb : Binds X.K fd ps ds) (hd : Vals dvs ds) (hx : Passes CX X E)
    (ha : PA X (e :: es) t) (hdb : (x == ("__debug__" : Str)) = false := by decide) (he : starEach (e :: es) X.env = (false, eval e X.env) :: starEach es X.env := by rfl) (hpl : (backTo pos (starEach es X.env)).any (·.1) = false := by rfl) :
    PE X (.Call (.Name x p) (e :: es) [] pos) (tCall sp dvs E t) := by
  intro pins s σ H Q I h
  refine wpAny_Call_Name_kw (ld_glob I hg hm ?_ hdb)
  refine PySem.W.callWith_K (h₀ := X.base) I.ok.mod.kin hk (thn (ha pos pins s σ H _ I h) fun us s1 ⟨vs, H1, I1, r, q⟩ => ⟨I1.kIn, ?_⟩) he hpl
  exact run_fn F hr hb hd hx I1 r q
theorem pe_meth {pl : Sem Bool} (he : PE X o ta) (c : Cls X.K C) (hm : Meth X.K C m f) (F : FnOk X.prog X.w X.K X.mg X.base CX k f fd ps sp) (hr : Room k X.A) (hb : Binds X.K fd ps ds) (hd : Vals dvs ds) (hx : Passes CX X E) (ha : PA X (e :: es) t)
    (hst : starEach (e :: es) X.env = (false, eval e X.env) :: starEach es X.env := by rfl) (hpl : (backTo pos (starEach es X.env)).any (·.1) = false := by rfl)
    (ht : eval (.Call (.Attribute o m apos) (e :: es) [] pos) X.env = (do
      let ov ← eval o X.env
      standAt apos.atName
      let (f, first) ← holding [ov] (getMethod ov m pl)
      callWith pos f first (backTo pos (starEach (e :: es) X.env)) (backToKw pos (keywordEach [] X.env))) := by rfl) :
    PE X (.Call (.Attribute o m apos) (e :: es) [] pos) (tMeth C m sp dvs E ta t) := by
  intro pins s σ H Q I h
  refine PySem.W.methodCall_KW (pl := pl) (thn (he pins s σ H _ I h) fun u s1 ⟨x, H1, I1, rx, a, dx, fs, ex, ea, l, q⟩ => ?_) ht
  subst ex
  obtain rfl : u = Value.ref a := rx
  refine getmeth_ok I1 ea c hm l ?_
  refine PySem.W.callWith_K (first := [.ref a]) (h₀ := X.base) I.ok.mod.kin hm.kp (thn (ha pos pins s1 σ H1 _ I1 q) fun us s2 ⟨vs, H2, I2, r, q2⟩ => ⟨I2.kIn, ?_⟩) hst hpl
  exact run_fn (us := .ref a :: us) (vs := .ref a :: vs) F hr hb hd hx I2 (.cons rfl r) q2
theorem pe_meth0 {pl : Sem Bool} (he : PE X o ta) (c : Cls X.K C) (hm : Meth X.K C m f) (F : FnOk X.prog X.w X.K X.mg X.base CX k f fd ps sp) (hr : Room k X.A) (hb : Binds X.K fd ps ds) (hd : Vals dvs ds) (hx : Passes CX X E)
    (ht : eval (.Call (.Attribute o m apos) [] [] pos) X.env = (do
      let ov ← eval o X.env
      standAt apos.atName
      let (f, first) ← holding [ov] (getMethod ov m pl)
      callWith pos f first (backTo pos (starEach [] X.env)) (backToKw pos (keywordEach [] X.env))) := by rfl) :
    PE X (.Call (.Attribute o m apos) [] [] pos) (tMeth C m sp dvs E ta tNil) := by
  intro pins s σ H Q I h
  refine PySem.W.methodCall_KW (pl := pl) (thn (he pins s σ H _ I h) fun u s1 ⟨x, H1, I1, rx, a, dx, fs, ex, ea, l, q⟩ => ?_) ht
  subst ex
  obtain rfl : u = Value.ref a := rx
  refine getmeth_ok I1 ea c hm l ?_
  exact PySem.W.callWith_K0 (first := [.ref a]) I1.kIn hm.kp (run_fn (us := [.ref a]) (vs := [.ref a]) F hr hb hd hx I1 (.cons rfl .nil) q)
structure Mk (K : PySem.W.Frag) (C f : Addr) : Prop where
  makes : PySem.W.makesIn K C = true
  init : PySem.W.findIn K (.ref C) "__init__" = some (some (.ref f))
  fn : PySem.W.isFn K (.ref f) = true
  kp : PySem.W.keepIn K (.ref C) = true
theorem run_make {pins : List (Addr × Obj)} {σ : St} {H : Hp} {s : Shared} {Q : VK} {us : List Value} {vs : List V} (M : Mk X.K C f) (F : FnOk X.prog X.w X.K X.mg X.base CX k f fd ps sp) (hr : Room (k + 1) X.A) (hb : Binds X.K fd ps ds) (hd : Vals dvs ds)
    (hx : Passes CX X E) (I : Inv X pins σ H s) (r : Vals vs us)
    (h : ∀ x dx, H x = none → H dx = none → dx ≠ x → sp (.ref x :: (vs ++ dvs)) (upd (upd H dx (.own x)) x (.ins C dx [])) (fun v H2 => v = .non ∧ Q (.ref x) H2) E) :
    wpAny (model X.prog X.w) X.A (call (.ref C) us) (EP X pins σ Q) X.xe s := by
  have hq := h (s.heap.objs.size + 1) s.heap.objs.size (I.hok.fresh (Nat.le_succ _)) (I.hok.fresh (Nat.le_refl _)) (Nat.ne_of_lt (Nat.lt_succ_self _))
  have I2 := Inv.made (C := C) I
  have r2 : Vals (V.ref (s.heap.objs.size + 1) :: (vs ++ dvs)) (Value.ref (s.heap.objs.size + 1) :: (us ++ ds)) := .cons rfl (r.append hd)
  have hl : (Value.ref (s.heap.objs.size + 1) :: us ++ ds).length = ps.length := by
    have e := r2.length
    rw [F.len _ _ _ _ hq] at e
    exact e.symm
  refine wpAny_call (make_map (f := f) I.kIn M.makes M.init (beq_iff_eq.mp M.fn) (codeAny_mono (F.run _ X.stack _ _ ⟨Value.ref (s.heap.objs.size + 1) :: us, []⟩ (Value.ref (s.heap.objs.size + 1) :: (us ++ ds)) _ _ E (hr.make C us [])
    (I2.env0.make C us []) (hb _ (Value.ref (s.heap.objs.size + 1) :: us) I2.kIn hl) r2 hq) fun r s' hq' => ?_))
  cases r with
  | error e => exact hx pins σ _ _ e s' I2 hq'
  | ok fl =>
    cases fl with
    | ret u =>
      obtain ⟨v, H', I3, rv, ev, q3⟩ := I2.after hq'
      subst ev
      exact ⟨rv, ⟨V.ref (s.heap.objs.size + 1), H', I3, rfl, q3⟩⟩
    | next => exact False.elim hq'
    | brk => exact False.elim hq'
    | cont => exact False.elim hq'
theorem pe_make0 (M : Mk X.K C f) (F : FnOk X.prog X.w X.K X.mg X.base CX k f fd ps sp) (hr : Room (k + 1) X.A) (hg : Gl X x) (hm : X.mg x = some (.ref C)) (hb : Binds X.K fd ps ds) (hd : Vals dvs ds) (hx : Passes CX X E)
    (hdb : (x == ("__debug__" : Str)) = false := by decide) : PE X (.Call (.Name x p) [] [] pos) (tMake C sp dvs E tNil) := by
  intro pins s σ H Q I h
  refine wpAny_Call_Name_kw (ld_glob I hg hm ?_ hdb)
  exact PySem.W.callWith_K0 I.kIn M.kp (run_make (us := []) M F hr hb hd hx I .nil h)
end
section
variable {X : Cx} {CX : CXT} {k : Nat} {f C : Addr} {fd : FuncData} {ps ks : List Str} {sp : Sp} {E : XK} {x m : Str} {p pos apos kpos : Pos} {e o : Expr} {es : List Expr} {kws : List Keyword} {te ta : TE} {t tk : TA} {nm : Option Str}
variable {g : List Value → List Value → List Value} {gV : List V → List V → List V}
end
structure FnScope (N P : List Str) (sc : Scope) : Prop where
  kind : sc.kind = .function
  co : sc.isCoroutine = false
  gen : sc.isGenerator = false
  nd : N.Nodup
  pre : N.take P.length = P
  par : ∀ x ∈ P, sc.names.lookup x = some .local ∨ sc.names.lookup x = some .cell
  nofree : ∀ y ∈ sc.names, y.2 ≠ .free
theorem bindL_out {kindOf : Str → Option NameKind} {x : Str} : ∀ {binds : List (Str × Value)} {m : Str → Option Value}, (∀ v, (x, v) ∉ binds) → bindL kindOf binds m x = m x
  | [], _, _ => rfl
  | (n, v) :: r, m, h => by
    unfold bindL
    rw [bindL_out fun w hw => h w (List.mem_cons_of_mem _ hw)]
    split
    · have : x ≠ n := by rintro rfl; exact h v List.mem_cons_self
      simp [this]
    · rfl
theorem bindC_out {kindOf : Str → Option NameKind} {x : Str} : ∀ {binds : List (Str × Value)} {m : Str → Option Value}, (∀ v, (x, v) ∉ binds) → bindC kindOf binds m x = m x
  | [], _, _ => rfl
  | (n, v) :: r, m, h => by
    unfold bindC
    rw [bindC_out fun w hw => h w (List.mem_cons_of_mem _ hw)]
    split
    · rfl
    · have : x ≠ n := by rintro rfl; exact h v List.mem_cons_self
      simp [this]
theorem bindL_get {kindOf : Str → Option NameKind} {x : Str} {v : Value} : ∀ {P : List Str} {vs : List Value} {i : Nat} {m : Str → Option Value}, P.Nodup → P[i]? = some x → vs[i]? = some v → kindOf x = some .local →
    bindL kindOf (P.zip vs) m x = some v
  | [], _, _, _, _, h, _, _ => by simp at h
  | _ :: _, [], _, _, _, _, h, _ => by simp at h
  | p :: P, w :: vs, 0, m, nd, h1, h2, hk => by
    simp at h1 h2; subst h1; subst h2
    show bindL kindOf ((p, w) :: P.zip vs) m p = _
    unfold bindL
    rw [bindL_out fun v hv => (List.nodup_cons.mp nd).1 (List.of_mem_zip hv).1, if_pos hk]
    simp
  | p :: P, w :: vs, i + 1, m, nd, h1, h2, hk => by
    show bindL kindOf ((p, w) :: P.zip vs) m x = _
    unfold bindL
    exact bindL_get (i := i) (List.nodup_cons.mp nd).2 (by simpa using h1) (by simpa using h2) hk
theorem bindC_get {kindOf : Str → Option NameKind} {x : Str} {v : Value} : ∀ {P : List Str} {vs : List Value} {i : Nat} {m : Str → Option Value}, P.Nodup → P[i]? = some x → vs[i]? = some v → kindOf x ≠ some .local →
    bindC kindOf (P.zip vs) m x = some v
  | [], _, _, _, _, h, _, _ => by simp at h
  | _ :: _, [], _, _, _, _, h, _ => by simp at h
  | p :: P, w :: vs, 0, m, nd, h1, h2, hk => by
    simp at h1 h2; subst h1; subst h2
    show bindC kindOf ((p, w) :: P.zip vs) m p = _
    unfold bindC
    rw [bindC_out fun v hv => (List.nodup_cons.mp nd).1 (List.of_mem_zip hv).1, if_neg hk]
    simp
  | p :: P, w :: vs, i + 1, m, nd, h1, h2, hk => by
    show bindC kindOf ((p, w) :: P.zip vs) m x = _
    unfold bindC
    exact bindC_get (i := i) (List.nodup_cons.mp nd).2 (by simpa using h1) (by simpa using h2) hk
noncomputable def start (N : List Str) (vs : List V) : St := vs.map some ++ List.replicate (N.length - vs.length) none
noncomputable def cxOf (CX : CXT) (P : Program) (w : World) (K : PySem.W.Frag) (mg : Str → Option Value) (base : Heap) (N : List Str) (qual : Str) (scope : Scope) (f : Addr) (cd : Value) (A : Around) (outer : List Env) (s : Shared) (H : Hp) (E : XK) : Cx where
  prog := P
  w := w
  K := K
  mg := mg
  base := base
  A := A.deeper (envOfC qual scope s.heap.objs.size f cd)
  N := N
  s₀ := s
  H₀ := H
  env := envOfC qual scope s.heap.objs.size f cd
  outer := outer
  stack := envOfC qual scope s.heap.objs.size f cd :: outer
  ex := []
  calm := true
  fn := fun _ => true
  pn := []
  xe := fun e s' => wpAny (model P w) (A.deeper (envOfC qual scope s.heap.objs.size f cd)) (leaving (envOfC qual scope s.heap.objs.size f cd) e) (fun _ s'' => CX outer H s E e s'') (fun e' s'' => CX outer H s E e' s'') s'
theorem cell_has {sc : Scope} {n : Nat} {x : Str} (h : sc.names.lookup x = some .cell) : ∃ c, (cellsFrom n sc.names []).lookup x = some c := by
  have q := PySem.W.cellsFrom_some sc.names n [] (.inl h)
  exact Option.isSome_iff_exists.mp q
theorem inv_start {CX : CXT} {P : Program} {w : World} {K : PySem.W.Frag} {mg : Str → Option Value} {base : Heap} {N ps : List Str} {qual : Str} {scope : Scope} {f : Addr} {cd : Value} {A : Around} {outer : List Env} {s s1 : Shared} {H : Hp} {E : XK} {us : List Value} {vs : List V}
    (S : FnScope N ps scope) (hd : A.handled = none) (e0 : Env0 P w K mg base A outer s H) (hl : vs.length = ps.length) (r : Vals vs us)
    (x : InCallC s s.heap.objs.size (bindL (envOfC qual scope s.heap.objs.size f cd).kindOf (ps.zip us) fun _ => none) (cellsFrom (s.heap.objs.size + 1) scope.names []) (bindC (envOfC qual scope s.heap.objs.size f cd).kindOf (ps.zip us) fun _ => none) s1) :
    Inv (cxOf CX P w K mg base N qual scope f cd A outer s H E) [] (start N vs) H s1 := by
  have hpl : ps.length ≤ N.length := by have := congrArg List.length S.pre; rw [List.length_take] at this; omega
  obtain ⟨h1, tk, rfl, hk⟩ := x.done
  have noA : ∀ b : Addr, b ∉ (cxOf CX P w K mg base N qual scope f cd A outer s H E).ex := fun b z => absurd (show b ∈ ([] : List Addr) from z) (by simp)
  refine ⟨⟨e0.mod, S.kind, rfl, rfl, Nat.le_refl _, fun y z c h1 h2 => ?_, fun y hy => ?_, fun y c _ h => ?_, fun _ => hd, Around.frames_deeper e0.frames, .inr ⟨rfl, rfl⟩, fun b z => absurd z (noA b), e0.bs, e0.bsz, fun b _ _ => noA b, fun b z => absurd z (noA b), e0.funs, e0.frf⟩,
    rfl, e0.bare, Un.kept hk, ⟨_, x.toInCall.ns, fun i y v h1 h2 h3 => ?_⟩, fun y c h => ⟨_, x.cell y c h⟩, e0.hok.fresh (Nat.le_refl _), fun y c h => ?_, fun p hp => absurd (show p ∈ ([] : List (Addr × Obj)) from hp) (by simp), e0.hok.kept hk, ?_⟩
  · exact name_of_addr x.apart (PySem.mem_of_lookup h1) (PySem.mem_of_lookup h2)
  · have hy : scope.names.lookup y = some .cell ∨ scope.names.lookup y = some .free := hy
    rcases hy with hy | hy
    · exact cell_has hy
    · exact absurd rfl (S.nofree _ (PySem.mem_of_lookup hy))
  · exact Nat.le_of_lt (x.above y c (PySem.mem_of_lookup h))
  · have hi : i < vs.length := by
      unfold start at h2
      by_cases hi : i < vs.length
      · exact hi
      · rw [List.getElem?_append_right (by simpa using hi)] at h2
        rw [List.getElem?_replicate] at h2
        split at h2 <;> cases h2
    have ha : vs[i]? = some v := by
      unfold start at h2
      rw [List.getElem?_append_left (by simpa using hi), List.getElem?_map] at h2
      cases e : vs[i]? with
      | none => rw [e] at h2; cases h2
      | some a => rw [e] at h2; cases h2; rfl
    obtain ⟨u, hu, rv⟩ := r.get ha
    have hp : ps[i]? = some y := by
      rw [← S.pre, List.getElem?_take_of_lt (by omega)]; exact h1
    have ndP : ps.Nodup := by rw [← S.pre]; exact S.nd.sublist (List.take_sublist _ _)
    refine ⟨u, rv, ?_⟩
    rcases S.par y (List.mem_of_getElem? hp) with k | k
    · exact .inl ⟨k, bindL_get ndP hp hu k⟩
    · obtain ⟨c, e⟩ := cell_has (n := s.heap.objs.size + 1) k
      refine .inr ⟨.inl k, c, e, ?_⟩
      have q := x.cell y c e
      rw [bindC_get ndP hp hu (by show scope.names.lookup y ≠ _; rw [k]; decide)] at q
      exact q
  · exact e0.hok.fresh (Nat.le_of_lt (x.above y c (PySem.mem_of_lookup h)))
  · unfold start
    show _ = N.length
    rw [List.length_append, List.length_map, List.length_replicate]
    omega
theorem fn_of {CX : CXT} {P : Program} {w : World} {K : PySem.W.Frag} {mg : Str → Option Value} {base : Heap} {k : Nat} {f : Addr} {name qual : Str} {params : Arguments} {body : List Stmt} {scope : Scope} {dV kV doc pm cdv ct oc : Value} {an od : Option Addr}
    {osl : Array (Option Value)} {N ps : List Str} {sp : Sp} (lk : K.lookup f = some ⟨oc, od, .func (PySem.W.fnOf name qual params body scope dV kV doc pm an cdv ct), osl⟩) (hcd : PySem.W.codeIn K cdv qual = true) (S : FnScope N ps scope)
    (len : ∀ vs H Q E, sp vs H Q E → vs.length = ps.length)
    (hbody : ∀ (A : Around) (outer : List Env) (s : Shared) (H : Hp) (vs : List V) (Q : VK) (E : XK), Room k (A.deeper (envOfC qual scope s.heap.objs.size f cdv)) → sp vs H Q E →
      ∃ t, PSs (cxOf CX P w K mg base N qual scope f cdv A outer s H E) body t ∧ t { nx := fun _ H' => Q .non H', rt := Q } (start N vs) H) :
    FnOk P w K mg base CX (k + 1) f (PySem.W.fnOf name qual params body scope dV kV doc pm an cdv ct) ps sp := by
  refine ⟨len, fun A outer s H args us vs Q E hr e0 hb r hsp => ?_⟩
  have hl := len _ _ _ _ hsp
  have KX : K.In s.heap := e0.mod.kin.keeps fun b o e => (e0.bs b o e).1
  have lim : s.heap.NoLimit := e0.mod.nolimit.keeps fun b o e => (e0.bs b o e).1
  have hkind : ∀ y ∈ ps.zip us, scope.names.lookup y.1 = some .local ∨ (scope.names.lookup y.1 = some .cell ∧ ((cellsFrom (s.heap.objs.size + 1) scope.names []).lookup y.1).isSome = true) := fun ⟨n, v⟩ hy => by
    rcases S.par n (List.of_mem_zip hy).1 with q | q
    · exact .inl q
    · exact .inr ⟨q, PySem.W.cellsFrom_some _ _ _ (.inl q)⟩
  refine codeAny_call_function hr.depth (KX _ _ lk) rfl S.co S.gen rfl (PySem.W.codeRec_of KX hcd) (hb _ _ _ _ ?_)
  refine wpAny_newFunctionEnv_cells S.kind hkind fun env he s1 x => ?_
  subst he
  refine ⟨lim.keeps x.toInCall.keep, codeAny_func ?_⟩
  obtain ⟨t, ht, hq⟩ := hbody A outer s H vs Q E (hr.deeper _) hsp
  have I : Inv (cxOf CX P w K mg base N qual scope f cdv A outer s H E) [] (start N vs) H s1 := inv_start S hr.hd e0 hl r x
  refine wpAny_mono (ht [] s1 (start N vs) H _ I hq) (fun fl s' hs => ?_) fun e s' hs => hs
  have fin : ∀ {σ' : St} {H' : Hp} {v : V} {u : Value}, Inv (cxOf CX P w K mg base N qual scope f cdv A outer s H E) [] σ' H' s' → RelV v u → Q v H' → CE outer P w H s Q u s' :=
    fun {σ' H' v u} J rv q => ⟨v, H', J.os, J.bare, J.base, J.hok, rv, q⟩
  cases fl with
  | ret u =>
    obtain ⟨v, σ', H', J, rv, q⟩ := hs
    exact fin J rv q
  | next =>
    obtain ⟨σ', H', J, q⟩ := hs
    exact fin (v := V.non) (u := Value.none) J rfl q
  | brk =>
    obtain ⟨_, _, _, q⟩ := hs
    exact False.elim q
  | cont =>
    obtain ⟨_, _, _, q⟩ := hs
    exact False.elim q
end L2
namespace L2
open PySem PySem.Spec PyProof.Rows
section
variable {X : Cx} {x : Str} {p pos : Pos} {e : Expr} {es : List Expr} {t : TA} {id T : String} {r : List V → Hp → VK → Prop}
noncomputable def tCB (r : List V → Hp → VK → Prop) (t : TA) : TE := fun σ H Q => t σ H fun vs H1 => r vs H1 Q
theorem pe_callB (hc : CallR X (.builtin id) r) (hg : Gl X x) (hm : X.mg x = none) (hv : bootBuiltins x = some (.builtin id)) (ha : PA X (e :: es) t) (hn : x ≠ "__name__" := by decide) (hdb : (x == ("__debug__" : Str)) = false := by decide)
    (he : starEach (e :: es) X.env = (false, eval e X.env) :: starEach es X.env := by rfl) (hpl : (backTo pos (starEach es X.env)).any (·.1) = false := by rfl) : PE X (.Call (.Name x p) (e :: es) [] pos) (tCB r t) := by
  intro pins s σ H Q I h
  refine wpAny_Call_Name_kw (ld_blt I hg hm hv ?_ hn hdb)
  exact PyProof.Rows.callWith_builtin1 (thn (ha pos pins s σ H _ I h) fun us s1 ⟨vs, H1, I1, r1, q1⟩ => hc pins s1 σ H1 vs us Q I1 r1 q1) he hpl
theorem pe_callTy (hc : CallR X (.type T) r) (hg : Gl X x) (hm : X.mg x = none) (hv : bootBuiltins x = some (.type T)) (ha : PA X (e :: es) t) (hn : x ≠ "__name__" := by decide) (hdb : (x == ("__debug__" : Str)) = false := by decide)
    (he : starEach (e :: es) X.env = (false, eval e X.env) :: starEach es X.env := by rfl) (hpl : (backTo pos (starEach es X.env)).any (·.1) = false := by rfl) : PE X (.Call (.Name x p) (e :: es) [] pos) (tCB r t) := by
  intro pins s σ H Q I h
  refine wpAny_Call_Name_kw (ld_blt I hg hm hv ?_ hn hdb)
  exact PyProof.Rows.callWith_type1 (thn (ha pos pins s σ H _ I h) fun us s1 ⟨vs, H1, I1, r1, q1⟩ => hc pins s1 σ H1 vs us Q I1 r1 q1) he hpl
end
end L2
namespace HT
open PySem PyProof.Rows
section
open PySem.SeqAt
open PySem.AutoSeq1 (wpAny_loadPart')
open PySem.MeetsSeq PySem.MeetsSeq2 PySem.MeetsSeq3
end
section
variable {prog : Program} {w : World} {A : Around} {E : Value → Shared → Prop} {s : Shared}
theorem cat_tup {t b : Addr} {vs ws : List Value} {Q : Value → Shared → Prop} (ht : IsTup s.heap t vs.toArray) (hb : IsTup s.heap b ws.toArray) (hv : vs ≠ [])
    (h1 : ws = [] → Q (.ref t) s) (h2 : ws ≠ [] → Q (.ref s.heap.objs.size) { s with heap := s.heap.push { cls := .type "tuple", data := .seq (vs ++ ws).toArray } })
    (hsz : vs.length + ws.length ≤ sizeLine) : wpAny (model prog w) A (binaryOp .Add (.ref t) (.ref b)) Q E s := by
  obtain ⟨⟨cls, dd, data, sl⟩, ho, hc, n, hd⟩ := id ht
  obtain ⟨⟨cls2, dd2, data2, sl2⟩, ho2, hc2, n2, hd2⟩ := id hb
  simp only at hc hd hc2 hd2
  subst hc hd hc2 hd2
  have e : vs.toArray ++ ws.toArray = (vs ++ ws).toArray := by simp
  by_cases hw : ws = []
  · exact concat_meets ⟨_, ho, rfl⟩ ⟨_, ho2, rfl⟩ noFill_tuple_add seq_tuple_add PySem.F.slot_tuple_add PySem.F.entry_tuple_add (PySem.F.args_tuple_add_2 _ _)
      (tuple_addW1 t b vs.toArray ws.toArray n n2 dd dd2 sl sl2 (by simpa using hv) (by simp [hw])) ⟨ho, ho2, h1 hw⟩
  · refine concat_meets ⟨_, ho, rfl⟩ ⟨_, ho2, rfl⟩ noFill_tuple_add seq_tuple_add PySem.F.slot_tuple_add PySem.F.entry_tuple_add (PySem.F.args_tuple_add_2 _ _)
      (tuple_addW2 t b vs.toArray ws.toArray n n2 dd dd2 sl sl2 (by simpa using hv) (by simpa using hw) (by rw [List.size_toArray, List.size_toArray]; exact hsz)) ⟨ho, ho2, ?_⟩
    rw [e]
    exact h2 hw
noncomputable def sIx (n d : Nat) : Option Int → Nat
  | none => d
  | some v => if v < 0 then (v + (n : Int)).toNat else min v.toNat n
theorem sIx_none (n d : Nat) : sIx n d none = d := rfl
theorem sIx_nat (n d k : Nat) : sIx n d (some (k : Int)) = min k n := by
  show (if (k : Int) < 0 then ((k : Int) + (n : Int)).toNat else min (k : Int).toNat n) = min k n
  rw [if_neg (by omega), Int.toNat_natCast]
end
end HT
namespace L2
open PySem PySem.Spec PyProof.Rows
noncomputable abbrev TO := St → Hp → (Option Int → Hp → Prop) → Prop
noncomputable def PO (X : Cx) (e : Option Expr) (t : TO) : Prop :=
  ∀ (pins : List (Addr × Obj)) (s : Shared) (σ : St) (H : Hp) (Q : Option Int → Hp → Prop), Inv X pins σ H s → t σ H Q →
    wpAny (model X.prog X.w) X.A (evalPart e X.env) (fun u s' => ∃ o H', Inv X pins σ H' s' ∧ IsPart u o ∧ Q o H') X.xe s
noncomputable def tNoPart : TO := fun _ H Q => Q none H
noncomputable def tPart (t : TE) : TO := fun σ H Q => t σ H fun x H1 => ∃ i, x = .int i ∧ Q (some i) H1
section
variable {X : Cx} {e : Expr} {te : TE} {lo hi : Option Expr} {tl th : TO} {pos p2 : Pos}
theorem po_none : PO X none tNoPart := by
  intro pins s σ H Q I h
  rw [evalPart_none]
  exact wpAny_pure ⟨none, H, I, .none, h⟩
theorem po_some (h : PE X e te) : PO X (some e) (tPart te) := by
  intro pins s σ H Q I hw
  rw [evalPart_some]
  refine thn (h pins s σ H _ I hw) fun u s1 ⟨x, H1, I1, r1, q1⟩ => ?_
  obtain ⟨i, rfl, q⟩ := q1
  obtain ⟨t, rfl⟩ := r1
  exact ⟨some i, H1, I1, .int i t, q⟩
noncomputable def SlR (X : Cx) (r : V → Option Int → Option Int → Hp → VK → Prop) : Prop :=
  ∀ (pins : List (Addr × Obj)) (s : Shared) (σ : St) (H : Hp) (x : V) (v vl vu : Value) (lo hi : Option Int) (sl : Addr) (Q : VK), Inv X pins σ H s → RelV x v → s.heap.IsSliceOf sl vl vu .none → IsPart vl lo → IsPart vu hi → r x lo hi H Q →
    ∃ T id, typeLookup (.type T) "__getitem__" = pure (some (.builtin id)) ∧ s.TypeIs v T ∧ wpAny (model X.prog X.w) X.A (getItem v (.ref sl)) (EP X pins σ Q) X.xe s
noncomputable def tSl (r : V → Option Int → Option Int → Hp → VK → Prop) (te : TE) (tl th : TO) : TE := fun σ H Q => te σ H fun x H1 => tl σ H1 fun l H2 => th σ H2 fun u H3 => r x l u H3 Q
theorem pe_slice {r : V → Option Int → Option Int → Hp → VK → Prop} (hr : SlR X r) (he : PE X e te) (hl : PO X lo tl) (hu : PO X hi th) : PE X (.Subscript e (.Slice lo hi none p2) pos) (tSl r te tl th) := by
  intro pins s σ H Q I h
  refine Subscript_ (thn (he pins s σ H _ I h) fun v s1 ⟨x, H1, I1, r1, q1⟩ => ?_)
  refine wpAny_Slice (thn (hl pins s1 σ H1 _ I1 q1) fun vl s2 ⟨l, H2, I2, pl, q2⟩ => thn (hu pins s2 σ H2 _ I2 q2) fun vu s3 ⟨u, H3, I3, pu, q3⟩ => ?_)
  rw [evalPart_none]
  refine wpAny_pure ?_
  have I4 : Inv X pins σ H3 { s3 with heap := s3.heap.push { cls := .type "slice", data := .fields #[vl, vu, .none] } } := I3.kept (t' := s3.toks) fun b ob q => Heap.get?_push_of_some _ q
  obtain ⟨T, id, hT, ht, hg⟩ := hr pins { s3 with heap := s3.heap.push { cls := .type "slice", data := .fields #[vl, vu, .none] } } σ H3 x v vl vu l u s3.heap.objs.size Q I4 r1 (Heap.IsSliceOf.new ..) pl pu q3
  show wpAny (model X.prog X.w) X.A (subscriptTail e (.Slice lo hi none p2) v (.ref s3.heap.objs.size)) (EP X pins σ Q) X.xe { s3 with heap := s3.heap.push { cls := .type "slice", data := .fields #[vl, vu, .none] } }
  exact tail_any (ops := [.ref s3.heap.objs.size, v]) ht hT hg (by with_unfolding_all rfl)
noncomputable def cutV (xs : List V) (lo hi : Option Int) : List V := (xs.drop (HT.sIx xs.length 0 lo)).take (HT.sIx xs.length xs.length hi - HT.sIx xs.length 0 lo)
theorem cutV_length (xs : List V) (lo hi : Option Int) : (cutV xs lo hi).length ≤ xs.length := by
  unfold cutV
  rw [List.length_take, List.length_drop]
  omega
noncomputable def rCatT (K : PySem.W.Frag) : R2 := fun x y H Q => ∃ a b xs ys, x = .ref a ∧ y = .ref b ∧ SqT K H a xs ∧ SqT K H b ys ∧ xs ≠ [] ∧ xs.length + ys.length ≤ sizeLine ∧
  (ys = [] → Q (.ref a) H) ∧ (ys ≠ [] → ∀ p, H p = none → Q (.ref p) (upd H p (.tup (xs ++ ys))))
theorem Vals.nil_iff {xs : List V} {us : List Value} (r : Vals xs us) : us = [] ↔ xs = [] := by
  cases r with
  | nil => simp
  | cons _ _ => simp
theorem op_catT : OpR X (binaryOp .Add) (rCatT X.K) := by
  intro pins s σ H x y v u Q I rx ry h
  obtain ⟨a, b, xs, ys, rfl, rfl, ha, hb, hx, hz, q1, q2⟩ := h
  cases rx
  cases ry
  obtain ⟨its, r1, p1, _⟩ := I.tuple ha
  obtain ⟨its2, r2, p2, _⟩ := I.tuple hb
  refine HT.cat_tup p1 p2 (fun z => hx (r1.nil_iff.mp z)) (fun z => ⟨.ref a, H, I, rfl, q1 (r2.nil_iff.mp z)⟩) (fun z => ?_) (by rw [← r1.length, ← r2.length]; exact hz)
  refine ⟨.ref s.heap.objs.size, _, I.laid (t' := s.toks) (o := .tup (xs ++ ys)) (fun b ob q => Heap.get?_push_of_some _ q) (Nat.le_refl _) ?_, rfl, q2 (fun w => z (r2.nil_iff.mpr w)) _ (I.hok.fresh (Nat.le_refl _))⟩
  exact ⟨by rw [List.length_append]; exact hz, _, r1.append r2, IsTup.new _ _⟩
end
end L2
namespace L2
open PySem PySem.Spec PyProof.Rows
noncomputable def ixN (n : Nat) (i : Int) : Option Nat := if 0 ≤ i then (if i < n then some i.toNat else none) else if -(n : Int) ≤ i then some (i + n).toNat else none
noncomputable def atI {α : Type} (xs : List α) (i : Int) : Option α := (ixN xs.length i).bind fun j => xs[j]?
theorem ixN_seq {n : Nat} {i : Int} {j : Nat} (h : ixN n i = some j) : seqIndex? i n = some j ∧ j < n ∧ -(n : Int) ≤ i ∧ i < n := by
  unfold ixN at h
  by_cases h0 : 0 ≤ i
  · rw [if_pos h0] at h
    by_cases h1 : i < n
    · rw [if_pos h1] at h
      have e : i.toNat = j := Option.some.inj h
      exact ⟨by rw [seqIndex_of h0 h1, e], by omega, by omega, h1⟩
    · rw [if_neg h1] at h; cases h
  · rw [if_neg h0] at h
    by_cases h1 : -(n : Int) ≤ i
    · rw [if_pos h1] at h
      have e : (i + n).toNat = j := Option.some.inj h
      exact ⟨by rw [seqIndex_neg (by omega) h1, e], by omega, h1, by omega⟩
    · rw [if_neg h1] at h; cases h
theorem atI_get {α : Type} {xs : List α} {i : Int} {v : α} (h : atI xs i = some v) : ∃ j, seqIndex? i xs.length = some j ∧ xs[j]? = some v ∧ j < xs.length ∧ -(xs.length : Int) ≤ i ∧ i < xs.length := by
  unfold atI at h
  cases e : ixN xs.length i with
  | none => rw [e] at h; cases h
  | some j =>
    rw [e] at h
    obtain ⟨h1, h2, h3, h4⟩ := ixN_seq e
    exact ⟨j, h1, h, h2, h3, h4⟩
theorem atI_nat {α : Type} {xs : List α} {j : Nat} {v : α} (h : xs[j]? = some v) : atI xs (j : Int) = some v := by
  have hj : j < xs.length := (List.getElem?_eq_some_iff.mp h).1
  have e : ixN xs.length (j : Int) = some j := by
    unfold ixN
    rw [if_pos (by omega), if_pos (by omega)]; simp
  unfold atI; rw [e]; exact h
noncomputable def PlainIx (b : Expr) : Prop := ∀ o i, subscripted b false o i = operate [o, i] (getItem o i)
noncomputable def IxR (X : Cx) (r : R2) : Prop :=
  ∀ (value slice : Expr) (pins : List (Addr × Obj)) (s : Shared) (σ : St) (H : Hp) (x y : V) (v u : Value) (Q : VK), Inv X pins σ H s → RelV x v → RelV y u → r x y H Q →
    subscripted slice false v u = operate [v, u] (getItem v u) → wpAny (model X.prog X.w) X.A (subscriptTail value slice v u) (EP X pins σ Q) X.xe s
noncomputable def MtR (X : Cx) (id : String) (r : V → List V → Hp → VK → Prop) : Prop :=
  ∀ (pins : List (Addr × Obj)) (s : Shared) (σ : St) (H : Hp) (x : V) (xs : List V) (v : Value) (us : List Value) (Q : VK), Inv X pins σ H s → RelV x v → Vals xs us → r x xs H Q →
    wpAny (model X.prog X.w) X.A (call (.builtin id) (v :: us)) (EP X pins σ Q) X.xe s
section
variable {X : Cx} {a b : Expr} {ta tb : TE} {pos : Pos}
theorem pe_ix {r : R2} (hr : IxR X r) (ha : PE X a ta) (hb : PE X b tb) (hs : PlainIx b) : PE X (.Subscript a b pos) (tOp r ta tb) := by
  intro pins s σ H Q I h
  exact Subscript_ (binT ha hb I h fun v u s2 x y H2 I2 rx ry q => hr a b pins s2 σ H2 x y v u Q I2 rx ry q (hs _ _))
noncomputable def rIxL (K : PySem.W.Frag) : R2 := fun x y H Q => ∃ p xs i v, x = .ref p ∧ y = .int i ∧ SqL K H p xs ∧ atI xs i = some v ∧ Q v H
noncomputable def rIxT (K : PySem.W.Frag) : R2 := fun x y H Q => ∃ p xs i v, x = .ref p ∧ y = .int i ∧ SqT K H p xs ∧ atI xs i = some v ∧ Q v H
noncomputable def rIxS : R2 := fun x y H Q => ∃ z i c, x = .str z ∧ y = .int i ∧ z.length ≤ sizeLine ∧ atI z.cps.toList i = some c ∧ Q (.str ⟨#[c]⟩) H
theorem ix_list : IxR X (rIxL X.K) := by
  intro value slice pins s σ H x y v u Q I rx ry h hs
  obtain ⟨p, xs, i, z, rfl, rfl, hq, he, q⟩ := h
  cases rx
  obtain ⟨t, rfl⟩ := ry
  obtain ⟨its, r, pl, hz⟩ := I.list hq
  obtain ⟨j, h1, h2, h3, h4, h5⟩ := atI_get he
  obtain ⟨w, ew, rw'⟩ := r.get h2
  have hl := r.length
  have hn := line63
  have fin : EP X pins σ Q w s := ⟨z, H, I, rw', q⟩
  by_cases h0 : 0 ≤ i
  · have hj : i.toNat = j := by
      rw [seqIndex_of h0 h5] at h1
      exact Option.some.inj h1
    exact item_listR pl.isList h0 (by omega) (by rw [hj]; simpa using ew) fin hs
  · have hj : (i + (its.toArray.size : Int)).toNat = j := by
      rw [seqIndex_neg (by omega) h4] at h1
      rw [List.size_toArray, ← hl]
      exact Option.some.inj h1
    exact subscriptTail_builtinR (x := w) pl.isList.typeIs slot_list_getitem.lookup
      (wpAny_getItem_list_neg (Q := fun r s' => r = w ∧ EP X pins σ Q r s') pl.isList (by omega) (by rw [List.size_toArray] <;> omega) (by omega) (by rw [hj]; simpa using ew) ⟨rfl, fin⟩) hs
theorem ix_tup : IxR X (rIxT X.K) := by
  intro value slice pins s σ H x y v u Q I rx ry h hs
  obtain ⟨p, xs, i, z, rfl, rfl, hq, he, q⟩ := h
  cases rx
  obtain ⟨t, rfl⟩ := ry
  obtain ⟨its, r, pl, hz⟩ := I.tuple hq
  obtain ⟨j, h1, h2, h3, h4, h5⟩ := atI_get he
  obtain ⟨w, ew, rw'⟩ := r.get h2
  have hl := r.length
  have hn := line63
  have fin : EP X pins σ Q w s := ⟨z, H, I, rw', q⟩
  exact subscriptTail_builtinR (x := w) pl.typeIs slot_tuple_getitem.lookup
    (getItem_tuple (j := j) (Q := fun r s' => r = w ∧ EP X pins σ Q r s') pl (by omega) (by omega) (by rw [List.size_toArray, ← hl]; exact h1) (by simpa using ew) ⟨rfl, fin⟩) hs
theorem ix_str : IxR X rIxS := by
  intro value slice pins s σ H x y v u Q I rx ry h hs
  obtain ⟨z, i, c, rfl, rfl, hz, he, q⟩ := h
  obtain ⟨t, rfl⟩ := rx
  obtain ⟨t', rfl⟩ := ry
  obtain ⟨j, h1, h2, h3, h4, h5⟩ := atI_get he
  have hl : z.cps.toList.length = z.length := by simp [Str.length]
  rw [hl] at h1 h4 h5
  have hn := line63
  exact tail_any (typeIs_str s z t) slot_str_getitem.lookup (getItem_str (c := c) (by
    have e1 : decide (i < -(2 ^ 63 : Int)) = false := decide_eq_false (by omega)
    have e2 : decide (i ≥ 2 ^ 63) = false := decide_eq_false (by omega)
    rw [e1, e2, Bool.or_false]) (by rw [h1]; simpa using h2) ⟨.str ⟨#[c]⟩, H, I.tok _, ⟨_, rfl⟩, q⟩) hs
theorem Inv.lst {pins : List (Addr × Obj)} {σ : St} {H : Hp} {s : Shared} {p : Addr} {xs : List V} (I : Inv X pins σ H s) (h : H p = some (.lst xs)) :
    ∃ (its : List Value) (n : Nat), Vals xs its ∧ s.heap.get? p = some { cls := .type "list", data := .seq its.toArray n } ∧ xs.length ≤ sizeLine := by
  obtain ⟨z, its, n, r, e⟩ := I.hok p _ h
  exact ⟨its, n, r, e, z⟩
theorem slice_bounds (lo hi : Option Int) (n : Nat) : (sliceBounds lo hi none n).1 = ((HT.sIx n 0 lo : Nat) : Int) ∧ (sliceBounds lo hi none n).2.1 = ((HT.sIx n n hi : Nat) : Int) ∧ (sliceBounds lo hi none n).2.2 = 1 := by
  refine ⟨?_, ?_, rfl⟩
  · cases lo with
    | none => simp [sliceBounds, HT.sIx]
    | some i =>
      simp only [sliceBounds, HT.sIx, Option.getD_none, show (1 : Int) > 0 by decide, if_true]
      by_cases h : i < 0
      · simp only [h, if_true] <;> omega
      · simp only [h, if_false] <;> omega
  · cases hi with
    | none => simp [sliceBounds, HT.sIx]
    | some i =>
      simp only [sliceBounds, HT.sIx, Option.getD_none, show (1 : Int) > 0 by decide, if_true]
      by_cases h : i < 0
      · simp only [h, if_true] <;> omega
      · simp only [h, if_false] <;> omega
theorem slicePick_cut (its : List Value) (lo hi : Option Int) : slicePick its.toArray lo hi none = ((its.drop (HT.sIx its.length 0 lo)).take (HT.sIx its.length its.length hi - HT.sIx its.length 0 lo)).toArray := by
  obtain ⟨h1, h2, h3⟩ := slice_bounds lo hi its.toArray.size
  unfold slicePick
  rw [h1, h2, h3]
  simp only [sliceRange_one, pick_run, List.size_toArray] <;> rfl
noncomputable def rSlL (K : PySem.W.Frag) : V → Option Int → Option Int → Hp → VK → Prop := fun x lo hi H Q => ∃ a xs, x = .ref a ∧ SqL K H a xs ∧ ∀ p, H p = none → Q (.ref p) (upd H p (.lst (cutV xs lo hi)))
theorem sl_list : SlR X (rSlL X.K) := by
  intro pins s σ H x v vl vu lo hi sl Q I rx hs pl pu h
  obtain ⟨a, xs, rfl, hx, q⟩ := h
  cases rx
  obtain ⟨its, r, ht, hz⟩ := I.list hx
  have hlen := r.length
  refine ⟨"list", _, slot_list_getitem.lookup, ht.isList.typeIs, ?_⟩
  refine wpAny_getItem_list_slice ht.isList hs pl pu .none (by simp) ?_ (by rw [List.size_toArray] <;> omega)
  rw [slicePick_cut, ← hlen]
  refine ⟨.ref s.heap.objs.size, _, I.laid (t' := s.toks) (o := .lst (cutV xs lo hi)) (fun b ob q => Heap.get?_push_of_some _ q) (Nat.le_refl _) ?_, rfl, q _ (I.hok.fresh (Nat.le_refl _))⟩
  exact ⟨Nat.le_trans (cutV_length xs lo hi) hz, _, 0, (r.drop (HT.sIx xs.length 0 lo)).take (HT.sIx xs.length xs.length hi - HT.sIx xs.length 0 lo), Heap.get?_push_size _ rfl⟩
theorem call_len_seq : CallR X (.builtin "len") (fun xs H Q => ∃ p ys, xs = [.ref p] ∧ (SqL X.K H p ys ∨ SqT X.K H p ys) ∧ Q (.int ys.length) H) := by
  intro pins s σ H xs us Q I r h
  obtain ⟨p, ys, rfl, hq, q⟩ := h
  obtain ⟨u, rfl, rx⟩ := vals1 r
  cases rx
  have hn := line63
  rcases hq with hq | hq
  · obtain ⟨its, r', pl, hz⟩ := I.list hq
    have hlen := r'.length
    exact Calls.call_len_list pl.isList (by simp only [List.size_toArray] <;> omega) ⟨.int ys.length, H, I.tok _, ⟨s.toks + 1, by rw [List.size_toArray, hlen]⟩, q⟩
  · obtain ⟨its, r', pl, hz⟩ := I.tuple hq
    have hlen := r'.length
    exact len_tuple pl (by simp only [List.size_toArray] <;> omega) ⟨.int ys.length, H, I.tok _, ⟨s.toks + 1, by rw [List.size_toArray, hlen]⟩, q⟩
theorem call_len_str : CallR X (.builtin "len") (fun xs H Q => ∃ z, xs = [.str z] ∧ z.length ≤ sizeLine ∧ Q (.int z.length) H) := by
  intro pins s σ H xs us Q I r h
  obtain ⟨z, rfl, hz, q⟩ := h
  obtain ⟨u, rfl, t, rfl⟩ := vals1 r
  have hn := line63
  exact len_str (by omega) ⟨.int z.length, H, I.tok _, ⟨_, rfl⟩, q⟩
theorem call_tuple_of : CallR X (.type "tuple") (fun xs H Q => ∃ p ys, xs = [.ref p] ∧ ((SqL X.K H p ys ∧ ∀ l, H l = none → Q (.ref l) (upd H l (.tup ys))) ∨ (SqT X.K H p ys ∧ Q (.ref p) H))) := by
  intro pins s σ H xs us Q I r h
  obtain ⟨p, ys, rfl, h⟩ := h
  obtain ⟨u, rfl, rx⟩ := vals1 r
  cases rx
  rcases h with ⟨hq, q⟩ | ⟨hq, q⟩
  · obtain ⟨its, r', pl, hz⟩ := I.list hq
    have hlen := r'.length
    refine call_tuple_list pl.isList (fun h' kp => ?_) (by simp only [List.size_toArray] <;> omega)
    have I1 : Inv X pins σ H { s with heap := h' } := I.kept (t' := s.toks) kp
    have I2 : Inv X pins σ (upd H h'.objs.size (.tup ys)) { s with heap := h'.push { cls := .type "tuple", data := .seq its.toArray } } :=
      I1.laid (t' := s.toks) (fun b o e => Heap.get?_push_of_some _ e) (Nat.le_refl _) (show ObjOk X.prog X.w _ _ _ (.tup ys) from ⟨hz, its, r', IsTup.new _ _⟩)
    exact ⟨.ref h'.objs.size, _, I2, rfl, q _ (I1.hok.fresh (Nat.le_refl _))⟩
  · obtain ⟨its, r', pl, hz⟩ := I.tuple hq
    exact call_tuple_same pl ⟨.ref p, H, I, rfl, q⟩
noncomputable def tyV (K : PySem.W.Frag) (T : String) (x : V) (H : Hp) : Prop := match x with
  | .str _ => T = "str"
  | .int _ => T = "int"
  | .ref p => (T = "list" ∧ ∃ xs, SqL K H p xs) ∨ (T = "tuple" ∧ ∃ o, K.lookup p = some o ∧ o.cls = .type "tuple" ∧ o.dict = none) ∨
      (T = "dict" ∧ ((∃ kvs, H p = some (.dK kvs)) ∨ ∃ kvs, H p = some (.dT kvs))) ∨ (T = "set" ∧ ∃ S n, H p = some (.set S n))
  | _ => False
theorem tyV_is {pins : List (Addr × Obj)} {σ : St} {H : Hp} {s : Shared} {T : String} {x : V} {v : Value} (I : Inv X pins σ H s) (r : RelV x v) (ty : tyV X.K T x H) :
    s.TypeIs v T ∧ ∀ a, v = .ref a → ∃ ob, s.heap.get? a = some ob ∧ ob.dict = none := by
  cases x with
  | str z =>
    obtain ⟨t, rfl⟩ := r
    cases (show T = "str" from ty)
    exact ⟨typeIs_str s z t, fun _ e => nomatch e⟩
  | int i =>
    obtain ⟨t, rfl⟩ := r
    cases (show T = "int" from ty)
    exact ⟨typeIs_int s i t, fun _ e => nomatch e⟩
  | ref p =>
    cases r
    rcases ty with ⟨rfl, xs, hq⟩ | ⟨rfl, o, hk, hc, hd⟩ | ⟨rfl, hk⟩ | ⟨rfl, S, n, hk⟩
    · obtain ⟨its, _, pl, _⟩ := I.list hq
      refine ⟨pl.isList.typeIs, fun a e => ?_⟩
      cases e
      obtain ⟨o, n, e, c, hd, _⟩ := pl
      exact ⟨o, e, hd⟩
    · refine ⟨⟨o, I.kIn p o hk, hc⟩, fun a e => ?_⟩
      cases e
      exact ⟨o, I.kIn _ o hk, hd⟩
    · have z : ∃ o, s.heap.get? p = some o ∧ o.ExactDict := by
        rcases hk with ⟨kvs, hk⟩ | ⟨kvs, hk⟩
        · obtain ⟨_, _, _, _, o, _, _, e, ex, _⟩ := I.hok p _ hk
          exact ⟨o, e, ex⟩
        · obtain ⟨_, _, _, _, o, _, _, e, ex, _⟩ := I.hok p _ hk
          exact ⟨o, e, ex⟩
      obtain ⟨o, e, ex⟩ := z
      refine ⟨⟨o, e, ex.1⟩, fun a e2 => ?_⟩
      cases e2
      exact ⟨o, e, ex.2.1⟩
    · obtain ⟨o, _, _, _, e, ex, _⟩ := I.hok p _ hk
      refine ⟨⟨o, e, ex.1⟩, fun a e2 => ?_⟩
      cases e2
      exact ⟨o, e, ex.2.1⟩
  | _ => exact False.elim ty
noncomputable def tBM0 (K : PySem.W.Frag) (T : String) (r : V → List V → Hp → VK → Prop) (to : TE) : TE := fun σ H Q => to σ H fun x H1 => tyV K T x H1 ∧ r x [] H1 Q
noncomputable def tBM (K : PySem.W.Frag) (T : String) (r : V → List V → Hp → VK → Prop) (to : TE) (t : TA) : TE := fun σ H Q => to σ H fun x H1 => tyV K T x H1 ∧ t σ H1 fun xs H2 => r x xs H2 Q
variable {o e : Expr} {es : List Expr} {to : TE} {t : TA} {name : Str} {apos cpos : Pos} {T id : String} {r : V → List V → Hp → VK → Prop}
theorem pe_bm0 (pa : PlainAttrs T) (slot : Slot T name id) (hty : typeOf (.builtin id) = pure (.type "method_descriptor")) (hm : MtR X id r) (ho : PE X o to)
    (hbase : attributeBase o name X.env (eval o X.env) = eval o X.env := by rfl) (hline : (apos.endLine == cpos.line) = true := by rfl) : PE X (.Call (.Attribute o name apos) [] [] cpos) (tBM0 X.K T r to) := by
  intro pins s σ H Q I h
  refine wpAny_Call_method0_late hbase hline (thn (ho pins s σ H _ I h) fun v s1 ⟨x, H1, I1, r1, ty, q1⟩ => ?_)
  obtain ⟨h1, h2⟩ := tyV_is I1 r1 ty
  exact ⟨T, id, pa, slot, hty, h1, h2, Calls.callWith_builtin rfl (PySem.evalArgs_none (hm pins s1 σ H1 x [] v [] Q I1 r1 .nil q1))⟩
theorem pe_bm (pa : PlainAttrs T) (slot : Slot T name id) (hty : typeOf (.builtin id) = pure (.type "method_descriptor")) (hm : MtR X id r) (ho : PE X o to) (ha : PA X (e :: es) t)
    (hbase : attributeBase o name X.env (eval o X.env) = eval o X.env := by rfl)
    (hfew : ((backTo cpos (starEach (e :: es) X.env)).all (fun x => !x.1) && (backToKw cpos (keywordEach [] X.env)).all (fun x => x.1.isSome)
      && decide ((e :: es).length + ([] : List Keyword).length + (if ([] : List Keyword).isEmpty then 0 else 1) < 30)) = true := by rfl)
    (hline : (apos.endLine == cpos.line) = true := by rfl) (hs : starEach (e :: es) X.env = (false, eval e X.env) :: starEach es X.env := by rfl) (hplain : (backTo cpos (starEach es X.env)).any (·.1) = false := by rfl) :
    PE X (.Call (.Attribute o name apos) (e :: es) [] cpos) (tBM X.K T r to t) := by
  intro pins s σ H Q I h
  refine wpAny_Call_method_late hbase hfew hline rfl (thn (ho pins s σ H _ I h) fun v s1 ⟨x, H1, I1, r1, ty, q1⟩ => ?_)
  obtain ⟨h1, h2⟩ := tyV_is I1 r1 ty
  refine ⟨T, id, pa, slot, hty, h1, h2, ?_⟩
  have hA := ha cpos pins s1 σ H1 _ I1 q1
  rw [hs] at hA ⊢
  refine Calls.callWith_builtin (by show (false || (backTo cpos (starEach es X.env)).any (·.1)) = false; rw [hplain] <;> rfl) (Calls.evalArgs_plain ?_)
  exact thn hA fun us s2 ⟨vs, H2, I2, r2, q2⟩ => hm pins s2 σ H2 x vs v us Q I2 r1 r2 q2
end
end L2
namespace L2
open PySem PySem.Spec PyProof.Rows
noncomputable def MtM (X : Cx) (id : String) (r : V → List V → Hp → VK → Prop) : Prop :=
  ∀ (pins : List (Addr × Obj)) (s : Shared) (σ : St) (H : Hp) (x : V) (xs : List V) (v : Value) (us : List Value) (Q : VK), Inv X pins σ H s → RelV x v → Vals xs us → r x xs H Q →
    wpAny (model X.prog X.w) X.A (call (.builtin id) (v :: us)) (EP X pins σ Q) X.xe s
theorem Vals.one : ∀ {x : V} {us : List Value}, Vals [x] us → ∃ u, us = [u] ∧ RelV x u
  | _, _, .cons r .nil => ⟨_, rfl, r⟩
theorem Vals.zero : ∀ {us : List Value}, Vals [] us → us = []
  | _, .nil => rfl
theorem Vals.dropLast {xs : List V} {us : List Value} (h : Vals xs us) : Vals xs.dropLast us.dropLast := by
  induction h with
  | nil => exact .nil
  | cons r t ih =>
    cases t with
    | nil => exact .nil
    | cons q t' => exact .cons r ih
theorem erase_last {α : Type} (l : List α) : l.eraseIdx (l.length - 1) = l.dropLast := by
  induction l with
  | nil => rfl
  | cons a r ih =>
    cases r with
    | nil => rfl
    | cons b r =>
      have e : (a :: b :: r).length - 1 = ((b :: r).length - 1) + 1 := by
        have h1 : (a :: b :: r).length = r.length + 2 := rfl
        have h2 : (b :: r).length = r.length + 1 := rfl
        omega
      rw [e, List.eraseIdx_cons_succ, ih]
      all_goals rfl
section
variable {X : Cx} {pins : List (Addr × Obj)} {σ : St} {H : Hp} {s : Shared} {l b : Addr} {xs ys zs : List V}
theorem Inv.lset {its its' : List Value} {n : Nat} {f : Array Value → Array Value} {t' : Nat} (I : Inv X pins σ H s) (hH : H l = some (.lst xs))
    (e : s.heap.get? l = some { cls := .type "list", data := .seq its.toArray n }) (hf : f its.toArray = its'.toArray) (hv : Vals ys its') (hz : ys.length ≤ sizeLine) :
    Inv X pins σ (upd H l (.lst ys)) { s with heap := s.heap.update l (Obj.mapSeq f), toks := t' } := by
  have q := PySem.IsL.update e f
  rw [hf] at q
  refine I.write (x := l) (e := l) (by rw [hH]; exact trivial) (.inl rfl) (fun b' u hb hu => (Heap.get?_update_other s.heap (Obj.mapSeq f) (Ne.symm hb)).trans hu) ⟨_, q⟩ ?_
  exact ⟨hz, its', _, hv, q⟩
theorem Inv.lnew {its : List Value} {t' : Nat} (I : Inv X pins σ H s) (hv : Vals ys its) (hz : ys.length ≤ sizeLine) :
    Inv X pins σ (upd H s.heap.objs.size (.lst ys)) { s with heap := s.heap.push { cls := .type "list", data := .seq its.toArray }, toks := t' } :=
  I.laid (fun _ _ q => Heap.get?_push_of_some _ q) (Nat.le_refl _) ⟨hz, its, 0, hv, Heap.get?_push_size _ rfl⟩
theorem Inv.fresh (I : Inv X pins σ H s) : H s.heap.objs.size = none := I.hok.fresh (Nat.le_refl _)
theorem Inv.lstM (I : Inv X pins σ H s) (hH : H l = some (.lst xs)) : xs.length ≤ sizeLine ∧ ∃ (its : List Value) (n : Nat), Vals xs its ∧ xs.length = its.length ∧ s.heap.get? l = some { cls := .type "list", data := .seq its.toArray n } := by
  obtain ⟨z, its, n, r, e⟩ := I.hok l _ hH
  exact ⟨z, its, n, r, r.length, e⟩
theorem notLongL {n : Nat} (h : n ≤ sizeLine) : Builtin.List.listTooLong n = false := by
  unfold Builtin.List.listTooLong
  exact decide_eq_false (by omega)
end
section
variable {X : Cx}
noncomputable def rAppend : V → List V → Hp → VK → Prop := fun x vs H Q => ∃ l xs y, x = .ref l ∧ vs = [y] ∧ H l = some (.lst xs) ∧ xs.length < sizeLine ∧ Q .non (upd H l (.lst (xs ++ [y])))
theorem mt_append : MtM X "list.append" rAppend := by
  intro pins s σ H x vs v us Q I rx rv h
  obtain ⟨l, xs, y, rfl, rfl, hH, hz, q⟩ := h
  cases rx
  obtain ⟨u, rfl, ru⟩ := rv.one
  obtain ⟨z, its, n, r, hl, e⟩ := I.lstM hH
  refine call_meets F.slot_list_append ⟨_, e, rfl⟩ F.entry_list_append (F.args_list_append_2 _ _) (PySem.list_append l its.toArray n u (by rw [List.size_toArray]; omega)) ⟨e, ?_⟩
  refine ⟨.non, _, I.lset (its' := its ++ [u]) hH e (by simp) (r.append (.cons ru .nil)) ?_, rfl, q⟩
  rw [List.length_append, List.length_singleton]
  omega
noncomputable def rExtend : V → List V → Hp → VK → Prop := fun x vs H Q => ∃ l b xs zs, x = .ref l ∧ vs = [.ref b] ∧ H l = some (.lst xs) ∧ H b = some (.lst zs) ∧ xs.length + zs.length ≤ sizeLine ∧ Q .non (upd H l (.lst (xs ++ zs)))
theorem mt_extend : MtM X "list.extend" rExtend := by
  intro pins s σ H x vs v us Q I rx rv h
  obtain ⟨l, b, xs, zs, rfl, rfl, hH, hB, hz, q⟩ := h
  cases rx
  obtain ⟨u, rfl, ru⟩ := rv.one
  cases ru
  obtain ⟨z, its, n, r, hl, e⟩ := I.lstM hH
  obtain ⟨z2, its2, n2, r2, hl2, e2⟩ := I.lstM hB
  have hsz : its.toArray.size + its2.toArray.size ≤ sizeLine := by rw [List.size_toArray, List.size_toArray]; omega
  have hlong : ¬ (!its.toArray.isEmpty && Builtin.List.listTooLong (its.toArray.size + its2.toArray.size)) = true := by
    rw [notLongL hsz, Bool.and_false]
    exact Bool.false_ne_true
  refine call_meets F.slot_list_extend ⟨_, e, rfl⟩ F.entry_list_extend (F.args_list_extend_2 _ _)
    (AutoSeq1.list_extend_list_list_0 l its.toArray n b its2.toArray n2 hlong (by rw [List.size_toArray]; omega) (by omega)) ⟨e, e2, ?_⟩
  refine ⟨.non, _, I.lset (its' := its ++ its2) hH e (by simp) (r.append r2) ?_, rfl, q⟩
  rw [List.length_append]
  omega
noncomputable def rPop : V → List V → Hp → VK → Prop := fun x vs H Q => ∃ l xs y, x = .ref l ∧ vs = [] ∧ H l = some (.lst xs) ∧ xs[xs.length - 1]? = some y ∧ Q y (upd H l (.lst xs.dropLast))
theorem mt_pop : MtM X "list.pop" rPop := by
  intro pins s σ H x vs v us Q I rx rv h
  obtain ⟨l, xs, y, rfl, rfl, hH, hy, q⟩ := h
  cases rx
  have hus := rv.zero
  subst hus
  obtain ⟨z, its, n, r, hl, e⟩ := I.lstM hH
  obtain ⟨u, hu, ru⟩ := r.get hy
  have hy' : its.toArray[its.toArray.size - 1]? = some u := by
    show its.toArray[its.length - 1]? = some u
    rw [← Array.getElem?_toList, ← hl]
    exact hu
  refine call_meets F.slot_list_pop ⟨_, e, rfl⟩ F.entry_list_pop (F.args_list_pop_1 _) (MeetsSeq.list_pop_last l its.toArray n u hy' (by rw [List.size_toArray]; omega)) ⟨e, ?_⟩
  refine ⟨y, _, I.lset (its' := its.dropLast) hH e ?_ r.dropLast ?_, ru, q⟩
  · show its.toArray.eraseIdxIfInBounds (its.toArray.size - 1) = its.dropLast.toArray
    rw [List.size_toArray, List.eraseIdxIfInBounds_toArray, erase_last]
  · rw [List.length_dropLast]
    omega
noncomputable def rCat : R2 := fun x y H Q => ∃ l b xs zs, x = .ref l ∧ y = .ref b ∧ H l = some (.lst xs) ∧ H b = some (.lst zs) ∧ xs.length + zs.length ≤ sizeLine ∧ ∀ p, H p = none → Q (.ref p) (upd H p (.lst (xs ++ zs)))
theorem op_cat : OpR X (binaryOp .Add) rCat := by
  intro pins s σ H x y v u Q I rx ry h
  obtain ⟨l, b, xs, zs, rfl, rfl, hH, hB, hz, q⟩ := h
  cases rx
  cases ry
  obtain ⟨z, its, n, r, hl, e⟩ := I.lstM hH
  obtain ⟨z2, its2, n2, r2, hl2, e2⟩ := I.lstM hB
  refine PySem.P.add_list e e2 ?_ (by rw [List.size_toArray, List.size_toArray]; omega)
  have ea : its.toArray ++ its2.toArray = (its ++ its2).toArray := by simp
  rw [ea]
  exact ⟨.ref _, _, I.lnew (t' := s.toks) (r.append r2) (by rw [List.length_append]; omega), rfl, q _ I.fresh⟩
end
section
variable {prog : Program} {w : World} {A : Around} {E : Value → Shared → Prop} {s : Shared}
end
section
variable {X : Cx}
end
end L2
namespace Att
open PySem PySem.W PySem.Calls PyProof.Rows
theorem ints_of_wellAll {P : Params} {h : Heap} : ∀ (ns : List Int) (vs : List Value), WellAll P h vs (ns.map WData.int) → IntsAre vs ns := by
  intro ns
  induction ns with
  | nil =>
    intro vs w
    rw [List.map_nil] at w
    cases w
    exact .nil
  | cons n ns ih =>
    intro vs w
    rw [List.map_cons] at w
    cases w with
    | cons a b =>
      cases a
      exact .cons _ _ (ih _ b)
theorem script_of {l : OpenLaw} {n : Nat} (hn : l.most = some n) {P : Params} {h : Heap} {args : List WData} {vals : List Value}
    (hpre : l.row.toRowW.claim.pre args = true) (hwl : WellAll P h vals args) :
    ∃ a vs ns, vals = [Value.ref a] ∧ args = [WData.list (ns.map WData.int)] ∧ h.get? a = some { cls := .type "list", data := .seq vs.toArray } ∧ IntsAre vs ns ∧ ns.length ≤ n := by
  have hsh : WShape.hasAll [] args [.list .int] = true := (pre_splitW hpre).1
  have hc : l.pre.holds [] { args := args } = true := (pre_splitW hpre).2
  obtain ⟨d, r, rfl, h1, h2⟩ := hasAllW_cons hsh
  obtain rfl := hasAllW_nil h2
  obtain ⟨xs, rfl, h3⟩ := hasW_list h1
  obtain ⟨ns, rfl⟩ := items_int h3
  have hlen : ns.length ≤ n := by
    unfold OpenLaw.pre at hc
    have h4 : (WTm.not (.lt (.lit (.int (n : Int))) (.len (.arg 0)))).holds [] { args := [.list (ns.map .int)] } = true := by
      have h4 := (holds_andW hc).1
      rw [hn] at h4
      exact h4
    have h5 := condW_of h4 (w_not (w_lt w_lit (w_len_list (w_arg rfl))))
    rw [List.length_map] at h5
    refine Nat.le_of_not_lt fun q => ?_
    have q' : (n : Int) < ((ns.length : Nat) : Int) := by omega
    first
      | (rw [decide_eq_true q'] at h5; exact absurd h5 (by decide))
      | (simp at h5; omega)
  cases hwl with
  | cons w1 w2 =>
    cases w2
    cases w1 with
    | list ho hall => exact ⟨_, _, ns, rfl, rfl, ho, ints_of_wellAll ns _ hall, hlen⟩
theorem post_true (l : OpenLaw) (args : List WData) : l.row.toRowW.claim.post args (.bool true) args = true :=
  postW_of (r := l.row.toRowW) (X := (true == true))
    (show WShape.has [] (.bool true) .bool = true by first | rfl | decide | simp [WShape.has, WShape.arms, WShape.armsAll])
    (show (WTm.eq .res (.lit (.bool true))).value [] { args := args, res := some (.bool true), after := args } = some (.bool (true == true)) from w_eq_bool (w_res rfl) w_lit) rfl
theorem attach_call {l : OpenLaw} {n : Nat} {q : Program} {loose : List Str} {XP : (Str → Option Value) → Heap → Prop} {YP : World → Heap → Prop} {d : DefRec}
    (hn : l.most = some n) (hdf : d.params.defaults = [])
    (call : ∀ (w : World) (s₀ s₁ : Shared) (mg mb : Str → Option Value) (fa : Addr) (o : Obj) (pm cd doc : Value) (a : Addr) (vs : List Value) (ns : List Int),
      Ground q loose [] XP w s₀ mg mb s₁.heap → YP w s₁.heap →
      s₁.heap.get? fa = some o → o.data = .func (docDef d.name d.params d.body d.scope pm cd doc) → s₁.heap.CodeRec cd d.name → mg d.name = some (.ref fa) →
      s₁.heap.get? a = some { cls := .type "list", data := .seq vs.toArray } → IntsAre vs ns → ns.length ≤ n → s₁.gens = #[] →
      codeAny (model l.prog w) callerA (.call (.ref fa) ⟨[.ref a], []⟩) (fun r s' => r = .ok (.ret (.bool true)) ∧ OldK s₁.heap s'.heap ∧ s'.os = s₁.os ∧ AllBare s'.gens) s₁) :
    WalkO q loose XP YP l.row.toRowW d [] (fun f vs => PySem.call f vs) := by
  intro w s₀ s₁ mg mb G Y fa o pm cd doc dV kV ho hd hcd hD hmg hg args vals as hpre hlay hrd hwl hlo
  obtain rfl : dV = .none := Dflts.none hD hdf
  obtain rfl : kV = .none := Dflts.noKw hD
  obtain ⟨a, vs, ns, rfl, rfl, hobj, hints, hlen⟩ := script_of hn hpre hwl
  refine enter_call (codeAny_mono (call w s₀ s₁ mg mb fa o pm cd doc a vs ns G Y ho (fd_plain hd) hcd hmg hobj hints hlen hg) fun r s' hq => ?_)
  obtain ⟨rfl, h2, h3, h4⟩ := hq
  exact ⟨.inl ⟨.bool true, .bool true, [], rfl, fun _ => rfl, .bool true, post_true l _, fun _ => ⟨List.Pairwise.nil, fun _ hm => (nomatch hm)⟩⟩, h2, h3, h4⟩
section
variable {prog : Program} {w : World} {A : Around} {E : Value → Shared → Prop} {s : Shared} {K : Frag}
end
end Att
namespace L2
open PySem PySem.Spec PyProof.Rows
theorem vals_ints : ∀ {vs : List Value} {ns : List Int}, IntsAre vs ns → Vals (ns.map V.int) vs
  | _, _, .nil => .nil
  | _, _, .cons n t h => .cons ⟨t, rfl⟩ (vals_ints h)
noncomputable def Only (H : Hp) : Prop := ∀ b, H b = none ∨ ∃ o xs, H b = some (.frz o (.lst xs))
theorem law_call {P : Program} {w : World} {K : PySem.W.Frag} {mg mb : Str → Option Value} {CX : CXT} {k : Nat} {fa a : Addr} {fd : FuncData} {x : Str} {sp : Sp} {s₁ : Shared} {vs : List Value} {ns : List Int}
    (KX : K.In s₁.heap) (hns : s₁.heap.Ns mainGlobals mg) (hb : s₁.heap.Ns builtinsNs mb) (hbb : ∀ x : Str, x ≠ "__name__" → mb x = bootBuiltins x) (hlim : s₁.heap.NoLimit) (hg : s₁.gens = #[])
    (ha : s₁.heap.get? a = some { cls := .type "list", data := .seq vs.toArray }) (hi : IntsAre vs ns) (hl : ns.length ≤ sizeLine) (hr : Room k callerA)
    (F : ∀ base : Heap, K.In base → base.Ns mainGlobals mg → FnOk P w K mg base CX k fa fd [x] sp) (hbind : ∀ (s : Shared) (u : Value), BindsTo s fd ⟨[u], []⟩ [(x, u)])
    (hsp : ∀ H : Hp, Only H → SqL K H a (ns.map V.int) → sp [.ref a] H (fun v _ => v = .bl true) fun _ _ _ => False)
    (hCX : ∀ H e s', CX [] H s₁ (fun _ _ _ => False) e s' → False) :
    codeAny (model P w) callerA (.call (.ref fa) ⟨[.ref a], []⟩) (fun r s' => r = .ok (.ret (.bool true)) ∧ OldK s₁.heap s'.heap ∧ s'.os = s₁.os ∧ AllBare s'.gens) s₁ := by
  have rv := vals_ints hi
  have lenV := hi.length
  -- from an abstract heap in which nothing but the script may be tracked
  have core : ∀ H : Hp, Only H → SqL K H a (ns.map V.int) → HOk P w H s₁.heap → (∀ b, H b ≠ none → b = a) → (H a ≠ none → K.lookup a = none) →
      codeAny (model P w) callerA (.call (.ref fa) ⟨[.ref a], []⟩) (fun r s' => r = .ok (.ret (.bool true)) ∧ OldK s₁.heap s'.heap ∧ s'.os = s₁.os ∧ AllBare s'.gens) s₁ := by
    intro H hO hS hok hA hK
    have base_of : ∀ {b : Addr} {o : Obj}, s₁.heap.get? b = some o → H b = none → (hidT s₁.heap H).get? b = some o := fun e n => hidT_get e n
    have noA : ∀ {b : Addr} {o : Obj} {es : Array DictEntry} {ep : Nat}, s₁.heap.get? b = some o → o.data = .dict es ep → H b = none := fun {b o es ep} e d => by
      cases q : H b with
      | none => rfl
      | some u =>
        have e' : b = a := hA b (by rw [q]; simp)
        subst e'
        rw [ha] at e; cases e
        have d' : Data.seq vs.toArray _ = Data.dict es ep := d
        cases d'
    have nsK : ∀ {b : Addr} {m : Str → Option Value}, s₁.heap.Ns b m → (hidT s₁.heap H).Ns b m := fun {b m} ⟨o, es, ep, e, d, r⟩ => ⟨o, es, ep, base_of e (noA e d), d, r⟩
    have hKb : K.In (hidT s₁.heap H) := fun b o e => base_of (KX b o e) (by
      cases q : H b with
      | none => rfl
      | some u =>
        have e' : b = a := hA b (by rw [q]; simp)
        subst e'
        rw [hK (by rw [q]; simp)] at e; cases e)
    have hM : Mod K mg (hidT s₁.heap H) := ⟨hKb, nsK hns, ⟨mb, nsK hb, hbb⟩, let ⟨mc, h1, h2⟩ := hlim; ⟨mc, nsK h1, h2⟩⟩
    have e0 : Env0 P w K mg (hidT s₁.heap H) callerA [] s₁ H := ⟨rfl, hM, fun b o e => of_hidT e, Nat.le_of_eq (hidT_size _ _), trivial, fun b hb => absurd (show b ∈ ([] : List Addr) from hb) (by simp), hok, .of_eq hg⟩
    refine codeAny_mono ((F _ hKb (nsK hns)).run callerA [] s₁ H ⟨[.ref a], []⟩ [.ref a] [.ref a] _ _ hr e0 (hbind s₁ (.ref a)) (.cons rfl .nil) (hsp H hO hS)) fun r s' h => ?_
    cases r with
    | error e => exact (hCX H e s' h).elim
    | ok fl =>
      cases fl with
      | next => exact False.elim h
      | brk => exact False.elim h
      | cont => exact False.elim h
      | ret u =>
        obtain ⟨v, H', os, bare, un, hok', r', q⟩ := h
        have q' : v = .bl true := q
        subst q'
        obtain rfl : u = Value.bool true := r'
        refine ⟨rfl, OldK.of_keep fun b o e => ?_, os, bare⟩
        cases q : H b with
        | none => exact un.keep b o e q (by intro z; exact absurd (show b ∈ ([] : List Addr) from z) (by simp)) (by simp)
        | some u =>
          rcases hO b with z | ⟨ob, xs, z⟩
          · rw [q] at z; cases z
          · have z2 := un.frzs b ob _ z
            obtain ⟨e1, _⟩ := hok b _ z
            obtain ⟨e2, _⟩ := hok' b _ z2
            rw [e] at e1; cases e1
            exact e2
  cases hk : K.lookup a with
  | some o =>
    -- the script is one of the module's own objects
    have e := KX a o hk
    rw [ha] at e
    cases e
    refine core (fun _ => none) (fun _ => .inl rfl) (.inr ⟨_, vs.toArray, _, hk, rfl, rfl, rfl, by rw [List.size_toArray, lenV]; exact hl, by simpa using rv⟩) (fun b u z => by have z' : (none : Option HO) = some u := z; cases z') (fun b z => absurd rfl z) fun z => absurd rfl z
  | none =>
    refine core (fun b => if b = a then some (.frz { cls := .type "list", data := .seq vs.toArray } (.lst (ns.map V.int))) else none) (fun b => ?_) (.inl (.inr ⟨{ cls := .type "list", data := .seq vs.toArray }, if_pos rfl⟩)) (fun b u z => ?_) (fun b z => ?_) fun _ => hk
    · by_cases hb : b = a
      · exact .inr ⟨_, _, if_pos hb⟩
      · exact .inl (if_neg hb)
    · by_cases hb : b = a
      · have z' := (if_pos hb).symm.trans z
        cases z'
        subst hb
        exact ⟨ha, by rw [List.length_map]; exact hl, vs, _, rv, ha⟩
      · have z' := (if_neg hb).symm.trans z
        cases z'
    · by_cases hb : b = a
      · exact hb
      · exact absurd (if_neg hb) z
end L2
namespace L2
open PySem PySem.Spec PyProof.Rows
theorem walk_of {l : PySem.W.OpenLaw} {n k : Nat} {q : Program} {loose : List Str} {XP : (Str → Option Value) → Heap → Prop} {YP : World → Heap → Prop} {d : DefRec} {K : Params → PySem.W.Frag} {CX : World → CXT} {sp : World → Sp} {x : Str}
    (hn : l.most = some n) (hn2 : n ≤ sizeLine) (hdf : d.params.defaults = []) (hr : Room k callerA)
    (hY : ∀ (w : World) (h : Heap), YP w h → (K w.params).In h)
    (F : ∀ (w : World) (mg : Str → Option Value) (fa : Addr) (h : Heap), (K w.params).In h → h.Ns mainGlobals mg → mg d.name = some (.ref fa) →
      ∃ fd : FuncData, (∀ (s : Shared) (u : Value), BindsTo s fd ⟨[u], []⟩ [(x, u)]) ∧
        ∀ base : Heap, (K w.params).In base → base.Ns mainGlobals mg → FnOk l.prog w (K w.params) mg base (CX w) k fa fd [x] (sp w))
    (hsp : ∀ (w : World) (H : Hp) (a : Addr) (ns : List Int), ns.length ≤ n → Only H → SqL (K w.params) H a (ns.map V.int) → sp w [.ref a] H (fun v _ => v = .bl true) fun _ _ _ => False)
    (hCX : ∀ (w : World) (H : Hp) (s : Shared) (e : Value) (s' : Shared), CX w [] H s (fun _ _ _ => False) e s' → False) :
    PySem.W.WalkO q loose XP YP l.row.toRowW d [] (fun f vs => PySem.call f vs) := by
  refine Att.attach_call hn hdf fun w s₀ s₁ mg mb fa o pm cd doc a vs ns G Y ho hd hcd hmg hobj hints hlen hg => ?_
  have KX := hY w _ Y
  obtain ⟨fd, hb, hF⟩ := F w mg fa _ KX G.T.g hmg
  exact law_call KX G.T.g G.T.b G.T.builtins G.T.nolimit hg hobj hints (Nat.le_trans hlen hn2) hr hF hb (fun H hO hS => hsp w H a ns hlen hO hS) fun H e s' => hCX w H s₁ e s'
end L2
namespace L2
open PySem PySem.Spec PyProof.Rows
noncomputable def inClass (s : Stmt) (j : Nat) : Stmt := match s with
  | .ClassDef _ _ _ body _ _ _ _ _ _ _ => body.getD j (.Pass ⟨0, 0, 0, 0⟩)
  | _ => .Pass ⟨0, 0, 0, 0⟩
noncomputable def defArgs (s : Stmt) : Arguments := match s with
  | .FunctionDef _ a _ _ _ _ _ _ _ _ => a
  | _ => { posonlyargs := [], args := [], vararg := none, kwonlyargs := [], kw_defaults := [], kwarg := none, defaults := [] }
noncomputable def defBody (s : Stmt) : List Stmt := match s with
  | .FunctionDef _ _ b _ _ _ _ _ _ _ => b
  | _ => []
noncomputable def defScope (s : Stmt) : Scope := match s with
  | .FunctionDef _ _ _ _ _ _ sc _ _ _ => sc
  | _ => { kind := .function, names := [], isGenerator := false, isCoroutine := false }
noncomputable abbrev CX0 : CXT := fun _ _ _ _ _ _ => False
noncomputable abbrev E0 : XK := fun _ _ _ => False
theorem pass0 {X : Cx} : Passes CX0 X E0 := fun _ _ _ _ _ _ _ h => h.elim
structure Fun (K : PySem.W.Frag) (x qual : Str) (st : Stmt) (f : Addr) (fd : FuncData) : Prop where
  ex : ∃ (oc : Value) (od : Option Addr) (kV doc pm : Value) (an : Option Addr) (cdv ct : Value) (osl : Array (Option Value)),
    fd = PySem.W.fnOf x qual (defArgs st) (defBody st) (defScope st) .none kV doc pm an cdv ct ∧ K.lookup f = some ⟨oc, od, .func fd, osl⟩ ∧ PySem.W.codeIn K cdv qual = true
  kp : PySem.W.keepIn K (.ref f) = true
section
variable {P : Program} {w : World} {K : PySem.W.Frag} {mg : Str → Option Value} {base : Heap}
theorem Fun.ok {x qual : Str} {st : Stmt} {f : Addr} {fd : FuncData} {N ps : List Str} {k : Nat} {sp : Sp} (F : Fun K x qual st f fd) (S : FnScope N ps (defScope st)) (len : ∀ vs H Q E, sp vs H Q E → vs.length = ps.length)
    (hbody : ∀ (cdv : Value) (A : Around) (outer : List Env) (s : Shared) (H : Hp) (vs : List V) (Q : VK) (E : XK), Room k (A.deeper (envOfC qual (defScope st) s.heap.objs.size f cdv)) → sp vs H Q E →
      ∃ t, PSs (cxOf CX0 P w K mg base N qual (defScope st) f cdv A outer s H E).nox (defBody st) t ∧ t { nx := fun _ H' => Q .non H', rt := Q } (start N vs) H) : FnOk P w K mg base CX0 (k + 1) f fd ps sp := by
  obtain ⟨oc, od, kV, doc, pm, an, cdv, ct, osl, rfl, lk, hcd⟩ := F.ex
  refine fn_of lk hcd S len fun A outer s H vs Q E hr hsp => ?_
  obtain ⟨t, h, q⟩ := hbody cdv A outer s H vs Q E hr hsp
  exact ⟨t, h.nox, q⟩
theorem Fun.binds {x qual : Str} {st : Stmt} {f : Addr} {fd : FuncData} {ps : List Str} (F : Fun K x qual st f fd)
    (h : ∀ (kV doc pm : Value) (an : Option Addr) (cdv ct : Value) (us : List Value), us.length = ps.length → bindArgs (PySem.W.fnOf x qual (defArgs st) (defBody st) (defScope st) .none kV doc pm an cdv ct) ⟨us, []⟩ = pure (ps.zip us)) : Binds K fd ps [] := by
  obtain ⟨oc, od, kV, doc, pm, an, cdv, ct, osl, rfl, lk, hcd⟩ := F.ex
  exact .all (h kV doc pm an cdv ct)
theorem fun_mk {x qual : Str} {st : Stmt} {f : Addr} {oc : Value} {od an : Option Addr} {osl : Array (Option Value)} {kV doc pm cdv ct : Value} (l : K.lookup f = some ⟨oc, od, .func (PySem.W.fnOf x qual (defArgs st) (defBody st) (defScope st) .none kV doc pm an cdv ct), osl⟩)
    (c : PySem.W.codeIn K cdv qual = true) (k : PySem.W.keepIn K (.ref f) = true) : Fun K x qual st f (PySem.W.fnOf x qual (defArgs st) (defBody st) (defScope st) .none kV doc pm an cdv ct) := ⟨⟨oc, od, kV, doc, pm, an, cdv, ct, osl, rfl, l, c⟩, k⟩
end
theorem hu_of {A : Around} {k : Nat} (hr : Room k A) : A.units + 1 < cLine := Nat.lt_of_le_of_lt (Nat.add_le_add_left (by decide : 1 ≤ 64) _) hr.units
section
variable {X : Cx}
theorem pv (i : Nat) {x : Str} {pos : Pos} (hN : X.N[i]? = some x := by rfl) (hv : Vis X.env.scope x := by first | exact Or.inl rfl | exact Or.inr (Or.inl rfl) | exact Or.inr (Or.inr rfl)) (hd : (x == ("__debug__" : Str)) = false := by decide)
    (hcd : (x == ("__classdict__" : Str)) = false := by decide) : PE X (.Name x pos) (tVar i) := pe_var hN hv hd hcd
end
theorem iteF {A B : Prop} (h : B) : if false = true then A else B := by
  rw [if_neg Bool.false_ne_true]
  exact h
theorem iteT {A B : Prop} (h : A) : if true = true then A else B := by
  rw [if_pos rfl]
  exact h
theorem ite2 {c A B : Prop} [Decidable c] (h1 : c → A) (h2 : ¬ c → B) : if c then A else B := by
  by_cases h : c
  · rw [if_pos h]
    exact h1 h
  · rw [if_neg h]
    exact h2 h
end L2
set_option Elab.async false
set_option linter.all false
set_option maxRecDepth 100000
set_option maxHeartbeats 4000000
namespace L2
open PySem PySem.Spec PyProof.Rows
structure Blk where
  s : Shared
  H : Hp
  fp : List Addr
  C : Addr
noncomputable def clOf (names : List (Str × NameKind)) (cells : List (Str × Addr)) : List (Str × Addr) :=
  names.foldl (fun acc p => if p.2 == .free then (p.1, (cells.lookup p.1).getD 0) :: acc else acc) []
noncomputable def blk (X : Cx) (sc : Scope) (own : List Str) (js : List Nat) (z : Blk) : Cx where
  prog := X.prog
  w := X.w
  K := X.K
  mg := X.mg
  base := X.base
  A := X.A
  N := own ++ js.map fun j => X.N.getD j ""
  s₀ := z.s
  H₀ := z.H
  env := compEnvC sc (clOf sc.names X.env.cells) z.C X.env
  outer := X.stack
  stack := X.stack
  ex := z.fp
  fn := fun _ => false
  calm := X.calm
  pn := []
  xe := fun _ _ => False
noncomputable def okBlk (sc out : Scope) : Bool := sc.names.all fun p => p.2 != .cell && (p.2 != .local || sc.names.lookup p.1 == some .local) && (p.2 != .free || out.names.lookup p.1 == some .cell || out.names.lookup p.1 == some .free)
noncomputable def okCap (sc : Scope) (N : List Str) (js : List Nat) : Bool := js.all fun j => decide (j < N.length) && (sc.names.lookup (N.getD j "") == some .free)
noncomputable def capt (n : Nat) (js : List Nat) (σ : St) : St := List.replicate n none ++ js.map fun j => (σ[j]?).join
theorem clOf_gen (cells : List (Str × Addr)) : ∀ (names : List (Str × NameKind)) (acc : List (Str × Addr)) (x : Str) (c : Addr),
    (names.foldl (fun acc p => if p.2 == .free then (p.1, (cells.lookup p.1).getD 0) :: acc else acc) acc).lookup x = some c →
    ((x, NameKind.free) ∈ names ∧ c = (cells.lookup x).getD 0) ∨ acc.lookup x = some c
  | [], acc, x, c, h => .inr h
  | (n, k) :: r, acc, x, c, h => by
    rw [List.foldl_cons] at h
    rcases clOf_gen cells r _ x c h with ⟨h1, h2⟩ | h1
    · exact .inl ⟨List.mem_cons_of_mem _ h1, h2⟩
    · cases hk : (k == NameKind.free) with
      | false => 
        simp only [hk] at h1
        exact .inr h1
      | true =>
        simp only [hk, if_true] at h1
        rw [List.lookup_cons] at h1
        cases hx : (x == n) with
        | false => rw [hx] at h1; exact .inr h1
        | true =>
          rw [hx] at h1
          have e1 : x = n := by simpa using hx
          have e2 : k = .free := by simpa using hk
          subst e1 e2
          exact .inl ⟨List.mem_cons_self, (Option.some.inj h1).symm⟩
theorem clOf_has (cells : List (Str × Addr)) : ∀ (names : List (Str × NameKind)) (acc : List (Str × Addr)) (x : Str),
    ((x, NameKind.free) ∈ names ∨ (acc.lookup x).isSome = true) → ((names.foldl (fun acc p => if p.2 == .free then (p.1, (cells.lookup p.1).getD 0) :: acc else acc) acc).lookup x).isSome = true
  | [], acc, x, h => by
    rcases h with h | h
    · simp at h
    · exact h
  | (n, k) :: r, acc, x, h => by
    rw [List.foldl_cons]
    apply clOf_has cells r
    rcases h with h | h
    · rcases List.mem_cons.mp h with e | h
      · right
        cases e
        simp [List.lookup_cons]
      · exact .inl h
    · right
      cases hk : (k == NameKind.free) with
      | false => simpa [hk] using h
      | true =>
        simp only [hk, if_true, List.lookup_cons]
        cases hx : (x == n) with
        | true => rfl
        | false => exact h
theorem closure_eq {env : Env} {sc : Scope} (h : ∀ p ∈ sc.names, p.2 = .free → ∃ c, env.cells.lookup p.1 = some c) : closureFor sc env = pure (clOf sc.names env.cells) := by
  have go : ∀ (names : List (Str × NameKind)) (acc : List (Str × Addr)), (∀ p ∈ names, p.2 = NameKind.free → ∃ c, env.cells.lookup p.1 = some c) →
      (forIn names acc fun (p : Str × NameKind) (r : List (Str × Addr)) => (match p with | (name, kind) => if (kind == NameKind.free) = true then do let c ← cellOf env name; pure (ForInStep.yield ((name, c) :: r)) else pure (ForInStep.yield r) : Sem _)) =
      pure (names.foldl (fun acc p => if p.2 == .free then (p.1, (env.cells.lookup p.1).getD 0) :: acc else acc) acc) := by
    intro names
    induction names with
    | nil => intro acc _; rfl
    | cons p r ih =>
      intro acc hp
      obtain ⟨n, k⟩ := p
      rw [List.forIn_cons, List.foldl_cons]
      cases hk : (k == NameKind.free) with
      | false =>
        simp only [hk, Bool.false_eq_true, if_false]
        exact ih acc fun q hq => hp q (List.mem_cons_of_mem _ hq)
      | true =>
        obtain ⟨c, hc⟩ := hp (n, k) List.mem_cons_self (by simpa using hk)
        have e : cellOf env n = pure c := by
          unfold cellOf
          rw [show env.cells.lookup n = some c from hc]
        simp only [hk, if_true, e]
        have hc' : env.cells.lookup n = some c := hc
        rw [hc']
        exact ih _ fun q hq => hp q (List.mem_cons_of_mem _ hq)
  unfold closureFor clOf
  have := go sc.names [] h
  simp only [this]
  rfl
noncomputable def PCs (X : Cx) (ifs : List Expr) (t : TT) : Prop :=
  ∀ (pins : List (Addr × Obj)) (s : Shared) (σ : St) (H : Hp) (Q : Bool → Hp → Prop), Inv X pins σ H s → t σ H Q →
    wpAny (model X.prog X.w) X.A (forIn ifs true fun c r => if r = true then do let ok ← isTrue c X.env (eval c X.env); pure (ForInStep.yield ok) else pure (ForInStep.yield r)) (TP X pins σ Q) X.xe s
noncomputable def tYes : TT := fun _ H Q => Q true H
theorem pcs_nil {X : Cx} : PCs X [] tYes := fun _ _ _ H _ I h => wpAny_tests_nil ⟨H, I, h⟩
theorem pcs_one {X : Cx} {c : Expr} {t : TT} (h : PT X c t) : PCs X [c] t := fun pins s σ H Q I hq => wpAny_tests_one (h pins s σ H Q I hq)
theorem compLoop_own {prog : Program} {w : World} {A : Around} {R : Result → Shared → Prop} {t0 : Shared} {elt tgt iter : Expr} {ifs : List Expr} {sc : Scope} {ps : Pos} {itv acc : Value} {ce : Env} (Wd : Nat → Shared → Prop)
    (step : ∀ k t, Wd k t → wpAny (model prog w) A (pyNext itv) (fun got t1 =>
      match got with
      | none => R (.ok .next) t1
      | some u => wpAny (model prog w) A (letOwnedTupleGo tgt itv u) (fun _ t2 => wpAny (model prog w) A (assign tgt ce u) (fun _ t3 =>
          wpAny (model prog w) A (forIn ifs true fun c r => if r = true then do let ok ← isTrue c ce (eval c ce); pure (ForInStep.yield ok) else pure (ForInStep.yield r)) (fun yes t4 =>
            if yes = true then wpAny (model prog w) A (eval elt ce) (fun val t5 => wpAny (model prog w) A (call (.builtin "list.append") [acc, val]) (fun _ t6 => ∃ m, m < k ∧ Wd m t6) (fun _ _ => False) t5) (fun _ _ => False) t4
            else ∃ m, m < k ∧ Wd m t4) (fun _ _ => False) t3) (fun _ _ => False) t2) (fun _ _ => False) t1) (fun _ _ => False) t)
    (k0 : Nat) (start : Wd k0 t0) : codeAny (model prog w) A (.compLoop (.ListComp elt [⟨tgt, iter, ifs, 0⟩] sc ps) 0 itv acc ce) R t0 := by
  refine codeAny_loop rfl Wd (fun k t hW => ?turn) k0 start
  case turn =>
    have nox : ∀ {α : Type} {m : Sem α} {Q : α → Shared → Prop} {E : Value → Shared → Prop} {z : Shared}, wpAny (model prog w) A m Q (fun _ _ => False) z → wpAny (model prog w) A m Q E z := fun h => wpAny_mono h (fun _ _ q => q) fun _ _ f => f.elim
    show wpAny _ A ((compTurn (.ListComp elt [⟨tgt, iter, ifs, 0⟩] sc ps) 0 itv acc ce).onRaise (fun x => do noteFrame x ce; theTreesLotGoes x)) _ _ t
    apply wpAny_noted
    rw [compTurn_list]
    refine wpAny_bind (wpAny_standAt (wpAny_bind (nox (wpAny_mono (step k t hW) (fun got t1 h1 => ?_) fun _ _ f => f))))
    cases got with
    | none => exact wpAny_pure h1
    | some u =>
      refine wpAny_bind (nox (wpAny_mono h1 (fun _ t2 h2 => ?_) fun _ _ f => f))
      refine wpAny_bind (nox (wpAny_mono h2 (fun _ t3 h3 => ?_) fun _ _ f => f))
      refine wpAny_bind (nox (wpAny_mono h3 (fun yes t4 h4 => ?_) fun _ _ f => f))
      cases yes with
      | false =>
        rw [if_neg Bool.false_ne_true] at h4
        exact wpAny_pure ⟨rfl, h4⟩
      | true =>
        rw [if_pos rfl] at h4
        refine wpAny_bind (wpAny_bind (nox (wpAny_mono h4 (fun val t5 h5 => ?_) fun _ _ f => f)))
        exact wpAny_bind (nox (wpAny_mono h5 (fun _ t6 h6 => wpAny_pure (wpAny_pure ⟨rfl, h6⟩)) fun _ _ f => f))
section
variable {X : Cx} {pins : List (Addr × Obj)} {σ : St} {H : Hp} {s : Shared}
noncomputable def listObj (its : List Value) (n : Nat) : Obj := { cls := .type "list", data := .seq its.toArray n }
theorem okBlk_free {sc out : Scope} (h : okBlk sc out = true) {p : Str × NameKind} (hp : p ∈ sc.names) (hf : p.2 = .free) : out.names.lookup p.1 = some .cell ∨ out.names.lookup p.1 = some .free := by
  have := List.all_eq_true.mp h p hp
  simp only [hf, Bool.and_eq_true, Bool.or_eq_true, beq_iff_eq, bne_iff_ne, ne_eq, not_true, false_or] at this
  exact this.2
theorem okBlk_cell {sc out : Scope} (h : okBlk sc out = true) {p : Str × NameKind} (hp : p ∈ sc.names) : p.2 ≠ .cell := by
  have := List.all_eq_true.mp h p hp
  simp only [Bool.and_eq_true, bne_iff_ne, ne_eq] at this
  exact this.1.1
theorem okBlk_local {sc out : Scope} (h : okBlk sc out = true) {p : Str × NameKind} (hp : p ∈ sc.names) (hf : p.2 = .local) : sc.names.lookup p.1 = some .local := by
  have := List.all_eq_true.mp h p hp
  simp only [hf, Bool.and_eq_true, Bool.or_eq_true, beq_iff_eq, bne_iff_ne, ne_eq, not_true, false_or] at this
  exact this.1.2
theorem relabel_lookup {sc : Scope} {env : Env} {x : Str} : ∀ {names : List (Str × NameKind)} {k : NameKind}, (names.map fun (p : Str × NameKind) => match p with | (n, k) => if (k == NameKind.free && env.scope.kind == .function && env.kindOf n == some .cell) then (n, NameKind.cell) else (n, k)).lookup x = some k →
    ∃ k', names.lookup x = some k' ∧ (k' = k ∨ (k' = .free ∧ k = .cell))
  | [], _, h => by simp at h
  | (n, q) :: r, k, h => by
    rw [List.map_cons] at h
    rw [List.lookup_cons]
    cases hx : (x == n) with
    | true =>
      refine ⟨q, rfl, ?_⟩
      by_cases hc : (q == NameKind.free && env.scope.kind == .function && env.kindOf n == some .cell) = true
      · simp only [hc, if_true, List.lookup_cons, hx] at h
        right
        simp only [Bool.and_eq_true, beq_iff_eq] at hc
        exact ⟨hc.1.1, (Option.some.inj h).symm⟩
      · left
        have h2 : List.lookup x ((n, q) :: (r.map fun (p : Str × NameKind) => match p with | (n, k) => if (k == NameKind.free && env.scope.kind == .function && env.kindOf n == some .cell) then (n, NameKind.cell) else (n, k))) = some k := by
          have h3 := h
          dsimp only at h3
          rw [if_neg hc] at h3
          exact h3
        rw [List.lookup_cons, hx] at h2
        exact Option.some.inj h2
    | false =>
      have : List.lookup x (r.map fun (p : Str × NameKind) => match p with | (n, k) => if (k == NameKind.free && env.scope.kind == .function && env.kindOf n == some .cell) then (n, NameKind.cell) else (n, k)) = some k := by
        by_cases hc : (q == NameKind.free && env.scope.kind == .function && env.kindOf n == some .cell) = true
        · simpa only [hc, if_true, List.lookup_cons, hx] using h
        · dsimp only at h
          rw [if_neg hc, List.lookup_cons, hx] at h
          exact h
      exact relabel_lookup (sc := sc) this
theorem mem_of_lookup' {names : List (Str × NameKind)} {x : Str} {k : NameKind} (h : names.lookup x = some k) : (x, k) ∈ names := PySem.mem_of_lookup h
theorem cl_sub (ok : X.Ok) {sc : Scope} (hb : okBlk sc X.env.scope = true) {x : Str} {c : Addr} (h : (clOf sc.names X.env.cells).lookup x = some c) : X.env.cells.lookup x = some c := by
  rcases clOf_gen X.env.cells sc.names [] x c h with ⟨h1, h2⟩ | h1
  · obtain ⟨d, hd⟩ := ok.has x (okBlk_free hb h1 rfl)
    rw [hd] at h2 ⊢
    rw [h2]
    rfl
  · simp at h1
theorem cl_has {sc : Scope} {x : Str} {cells : List (Str × Addr)} (h : (x, NameKind.free) ∈ sc.names) : ∃ c, (clOf sc.names cells).lookup x = some c :=
  Option.isSome_iff_exists.mp (clOf_has cells sc.names [] x (.inl h))
theorem Inv.stk_lt (I : Inv X pins σ H s) {b : Addr} (hb : b ∈ frs X.stack) : b < s.heap.objs.size := by
  rcases List.mem_cons.mp (I.stkSub b hb) with e | h
  · rw [e]; exact I.lt
  · obtain ⟨_, o, ho, _⟩ := I.ok.funs.mem h
    exact Nat.lt_of_lt_of_le (Heap.lt_size ho) I.sz
theorem Inv.cell_lt (I : Inv X pins σ H s) {x : Str} {c : Addr} (h : X.env.cells.lookup x = some c) : c < s.heap.objs.size := by
  obtain ⟨v, q⟩ := I.cell x c h
  exact q.lt
theorem Inv.pin_lt (I : Inv X pins σ H s) {p : Addr × Obj} (h : p ∈ X.pn ++ pins) : p.1 < s.heap.objs.size := Heap.lt_size (I.pin p h).1
theorem blk_ok (I : Inv X pins σ H s) {sc : Scope} {own : List Str} {js : List Nat} {fp : List Addr} {C : Nat} (hk : sc.kind = .function) (hb : okBlk sc X.env.scope = true)
    (hfp : ∀ b ∈ fp, FpOk X pins H b) (hC : s.heap.objs.size ≤ C) (hlt : ∀ b ∈ fp, b < s.heap.objs.size) : (blk X sc own js ⟨s, H, fp, C⟩).Ok where
  mod := I.ok.mod
  kind := hk
  glob := I.ok.glob
  blt := I.ok.blt
  above := hC
  inj := fun x y c h1 h2 => I.ok.inj x y c (cl_sub I.ok hb h1) (cl_sub I.ok hb h2)
  has := fun x hx => by
    have hx' : (relabel sc X.env).names.lookup x = some .cell ∨ (relabel sc X.env).names.lookup x = some .free := hx
    have go : ∀ k, (relabel sc X.env).names.lookup x = some k → (k = .cell ∨ k = .free) → ∃ c, (clOf sc.names X.env.cells).lookup x = some c := fun k h hkk => by
      obtain ⟨k', h1, h2⟩ := relabel_lookup (sc := sc) (env := X.env) h
      have m := mem_of_lookup' h1
      rcases h2 with h2 | ⟨h2, _⟩
      · subst h2
        rcases hkk with e | e
        · exact absurd e (okBlk_cell hb m)
        · rw [e] at m; exact cl_has m
      · rw [h2] at m; exact cl_has m
    rcases hx' with h | h
    · exact go _ h (.inl rfl)
    · exact go _ h (.inr rfl)
  cab := fun x c h _ => by cases h
  hd := I.ok.hd
  frames := I.ok.frames
  stk := .inl rfl
  exf := fun b hb' => ⟨Nat.ne_of_lt (Nat.lt_of_lt_of_le (hlt b hb') hC), fun x c e => (hfp b hb').2.2.2.2.1 x c (cl_sub I.ok hb e)⟩
  bs := I.bs
  bsz := Nat.le_trans I.ok.bsz I.sz
  noex := fun b o e hb' => by
    rcases (hfp b hb').2.2.2.1 with z | z
    · exact I.ok.noex b o e z
    · exact absurd (Nat.lt_of_lt_of_le (Heap.lt_size e) (Nat.le_trans I.ok.bsz z)) (Nat.lt_irrefl _)
  exfs := fun b hb' hm => by
    rcases List.mem_cons.mp (I.stkSub b hm) with e | h
    · exact (hfp b hb').2.1 e
    · exact (hfp b hb').2.2.1 h
  funs := I.stack
  frf := I.stkFree
theorem capt_get {n : Nat} {js : List Nat} {i : Nat} {v : V} (h : (capt n js σ)[i]? = some (some v)) : ∃ k j, i = n + k ∧ js[k]? = some j ∧ σ[j]? = some (some v) := by
  unfold capt at h
  by_cases hi : i < n
  · rw [List.getElem?_append_left (by simpa using hi), List.getElem?_replicate] at h
    split at h <;> cases h
  · rw [List.getElem?_append_right (by simpa using Nat.le_of_not_lt hi), List.length_replicate, List.getElem?_map] at h
    cases e : js[i - n]? with
    | none => rw [e] at h; cases h
    | some j =>
      rw [e] at h
      refine ⟨i - n, j, by omega, e, ?_⟩
      have h' : (σ[j]?).join = some v := by simpa using h
      cases q : σ[j]? with
      | none => rw [q] at h'; cases h'
      | some o =>
        rw [q] at h'
        have : o = some v := h'
        rw [this]
theorem blk_inv (I : Inv X pins σ H s) {sc : Scope} {own : List Str} {js : List Nat} {fp : List Addr} {C D : Nat} {h1 : Heap} {tk : Nat} {o : Obj} {m : Str → Option Value} (hk : sc.kind = .function) (hb : okBlk sc X.env.scope = true) (hj : okCap sc X.N js = true)
    (hfp : ∀ b ∈ fp, FpOk X pins H b) (hlt : ∀ b ∈ fp, b < s.heap.objs.size) (hD : D = s.heap.objs.size) (hC : C = s.heap.objs.size + 1) (old : ∀ b o, s.heap.get? b = some o → h1.get? b = some o)
    (hDo : h1.get? D = some o) (hod : ∀ v, o.data ≠ .cell v) (hm : h1.Ns C m) :
    Inv (blk X sc own js ⟨s, H, fp, C⟩) [(D, o)] (capt own.length js σ) H { s with heap := h1, toks := tk } where
  ok := blk_ok I hk hb hfp (show @LE.le Nat _ s.heap.objs.size C by omega) hlt
  os := rfl
  bare := I.bare
  base := Un.kept old
  loc := by
    refine ⟨m, hm, fun i x v e1 e2 e3 => ?_⟩
    obtain ⟨k, j, rfl, ej, es⟩ := capt_get e2
    have e1' : (own ++ js.map fun j => X.N.getD j "")[own.length + k]? = some x := e1
    rw [List.getElem?_append_right (by omega), Nat.add_sub_cancel_left, List.getElem?_map, ej] at e1'
    have ex : X.N.getD j "" = x := by simpa using e1'
    have hjj := List.all_eq_true.mp hj j (List.mem_of_getElem? ej)
    simp only [Bool.and_eq_true, decide_eq_true_eq, beq_iff_eq] at hjj
    have exN : X.N[j]? = some x := by
      rw [← ex, List.getD_eq_getElem?_getD, List.getElem?_eq_getElem hjj.1]
      rfl
    have hfree : sc.names.lookup x = some .free := by rw [← ex]; exact hjj.2
    have hmem := mem_of_lookup' hfree
    have hout := okBlk_free hb hmem rfl
    obtain ⟨m0, hn0, hl0⟩ := I.loc
    obtain ⟨u, r, l⟩ := hl0 j x v exN es (by rcases hout with z | z; exact .inr (.inl z); exact .inr (.inr z))
    refine ⟨u, r, ?_⟩
    obtain ⟨c, hc⟩ := cl_has (cells := X.env.cells) hmem
    have hc' := cl_sub I.ok hb hc
    have hcell : s.heap.IsCell c (some u) := by
      rcases l with ⟨z, _⟩ | ⟨_, c', e', q⟩
      · have z' : X.env.scope.names.lookup x = some .local := z
        rcases hout with w | w <;> (rw [z'] at w; cases w)
      · rw [hc'] at e'; cases e'; exact q
    have hcell1 : h1.IsCell c (some u) := by
      obtain ⟨oc, ho, hd⟩ := hcell
      exact ⟨oc, old c oc ho, hd⟩
    right
    refine ⟨?_, c, hc, hcell1⟩
    have e3' : (relabel sc X.env).names.lookup x = some .local ∨ (relabel sc X.env).names.lookup x = some .cell ∨ (relabel sc X.env).names.lookup x = some .free := e3
    rcases e3' with z | z
    · obtain ⟨k', z1, z2⟩ := relabel_lookup (sc := sc) (env := X.env) z
      rw [hfree] at z1
      rcases z2 with z2 | ⟨_, z2⟩
      · rw [z2] at z1; cases z1
      · cases z2
    · exact z
  cell := fun x c e => by
    obtain ⟨v, oc, ho, hd⟩ := I.cell x c (cl_sub I.ok hb e)
    exact ⟨v, oc, old c oc ho, hd⟩
  free := I.hok.fresh (show @LE.le Nat _ s.heap.objs.size C by omega)
  freeC := fun x c e => I.freeC x c (cl_sub I.ok hb e)
  pin := fun p hp => by
    have e : p = (D, o) := by simpa [blk] using hp
    subst e
    refine ⟨hDo, I.hok.fresh (show @LE.le Nat _ s.heap.objs.size D by omega), ?_, fun z => ?_, hod⟩
    · exact Nat.ne_of_lt (show @LT.lt Nat _ D C by omega)
    · have h9 : @LT.lt Nat _ D s.heap.objs.size := I.stk_lt (b := D) z
      omega
  hok := I.hok.kept old
  len := by
    show (capt own.length js σ).length = (own ++ js.map fun j => X.N.getD j "").length
    simp [capt]
noncomputable def CompBody (J : It) (n : Nat) (js : List Nat) (g : TG) (tc : TT) (te : TE) (σ : St) (H : Hp) (Q : VK) : Prop :=
  ∃ W : Nat → Nat → List V → Hp → Prop, (∃ m, W 0 m [] H) ∧ ∀ i m ys H', W i m ys H' →
    (J.stop i H' ∧ ∀ p, H' p = none → Q (.ref p) (upd H' p (.lst ys))) ∨
    (J.go i H' ∧ ys.length < sizeLine ∧ ∃ N : List V → Hp → Prop, (∀ ys' H2, N ys' H2 → ∃ m', m' < m ∧ W (i + 1) m' ys' H2) ∧ ∀ x H2, J.yld i H' x H2 → g x (capt n js σ) H2 fun σ2 H3 => tc σ2 H3 fun b H4 =>
      if b = true then te σ2 H4 fun v H5 => N (ys ++ [v]) H5 else N ys H4)
noncomputable def tComp (n : Nat) (js : List Nat) (wi : TI) (g : TG) (tc : TT) (te : TE) : TE := fun σ H Q => wi σ H fun J H1 => CompBody J n js g tc te σ H1 Q
structure TurnAt (X : Cx) (tg : Expr) (J : It) (fp : List Addr) (it : Addr) (tn : Nat → Heap → Prop) : Prop where
  obj : ∀ i h, tn i h → ∀ b ∈ fp, ∃ o, h.get? b = some o ∧ ∀ v, o.data ≠ .cell v
  keep : ∀ i h h', tn i h → (∀ b ∈ fp, ∀ o, h.get? b = some o → h'.get? b = some o) → tn i h'
  item : ∀ (i : Nat) (pins : List (Addr × Obj)) (s : Shared) (σ : St) (H : Hp) (E : Value → Shared → Prop), Inv X pins σ H s → (∀ b ∈ fp, FpOk X pins H b) → tn i s.heap → J.go i H →
    wpAny (model X.prog X.w) X.A (pyNext (.ref it)) (fun r s1 => ∃ u, r = some u ∧
      wpAny (model X.prog X.w) X.A (letOwnedTupleGo tg (.ref it) u) (fun _ s2 => ∃ x H', Inv X pins σ H' s2 ∧ RelV x u ∧ J.yld i H x H' ∧ tn (i + 1) s2.heap ∧ ∀ b ∈ fp, H' b = none) E s1) E s
  done : ∀ (i : Nat) (pins : List (Addr × Obj)) (s : Shared) (σ : St) (H : Hp) (E : Value → Shared → Prop), Inv X pins σ H s → (∀ b ∈ fp, FpOk X pins H b) → tn i s.heap → J.stop i H →
    wpAny (model X.prog X.w) X.A (pyNext (.ref it)) (fun r s1 => r = none ∧ Inv X pins σ H s1) E s
  self : ∀ (A : Around) (i : Nat) (s : Shared) (Q : Value → Shared → Prop) (E : Value → Shared → Prop), tn i s.heap → Q (.ref it) s → wpAny (model X.prog X.w) A (pyIter (.ref it)) Q E s
theorem Turn.at_ {Y : Cx} {tg : Expr} {J : It} {fp : List Addr} {it : Addr} {tn : Nat → Heap → Prop} (T : Turn Y.prog Y.w Y.K tg J fp it tn) (hc : Y.calm = true) : TurnAt Y tg J fp it tn := ⟨T.obj, T.keep, T.item Y rfl rfl rfl hc, T.done Y rfl rfl rfl hc, T.self⟩
theorem comp_core {elt tg iter : Expr} {ifs : List Expr} {sc : Scope} {pos : Pos} {own : List Str} {js : List Nat} {g : TG} {tc : TT} {te : TE} {J : It} {it : Addr} {fp : List Addr} {tn : Nat → Heap → Prop} {RR : Value → Addr → Result → Shared → Prop} {E : Value → Shared → Prop}
    {Q : VK} {W : Nat → Nat → List V → Hp → Prop} (hk : sc.kind = .function) (hb : okBlk sc X.env.scope = true) (hj : okCap sc X.N js = true)
    (hg : ∀ C, PG (blk X sc own js ⟨s, H, fp, C⟩) tg g) (ht : ∀ C, PCs (blk X sc own js ⟨s, H, fp, C⟩) ifs tc) (he : ∀ C, PE (blk X sc own js ⟨s, H, fp, C⟩) elt te)
    (I : Inv X pins σ H s) (T : ∀ C, TurnAt (blk X sc own js ⟨s, H, fp, C⟩) tg J fp it tn) (st : tn 0 s.heap) (hfp : ∀ b ∈ fp, FpOk X pins H b) (w0 : ∃ m, W 0 m [] H)
    (turn : ∀ i m ys H', W i m ys H' → (J.stop i H' ∧ ∀ p, H' p = none → Q (.ref p) (upd H' p (.lst ys))) ∨
      (J.go i H' ∧ ys.length < sizeLine ∧ ∃ N : List V → Hp → Prop, (∀ ys' H2, N ys' H2 → ∃ m', m' < m ∧ W (i + 1) m' ys' H2) ∧ ∀ x H2, J.yld i H' x H2 → g x (capt own.length js σ) H2 fun σ2 H3 => tc σ2 H3 fun b H4 =>
        if b = true then te σ2 H4 fun v H5 => N (ys ++ [v]) H5 else N ys H4))
    (fin : ∀ D C s' ys H', H' D = none → Inv X pins σ (upd H' D (.lst ys)) s' → FpOk X pins (upd H' D (.lst ys)) C → (∃ m, s'.heap.Ns C m) → s.heap.objs.size ≤ C → Q (.ref D) (upd H' D (.lst ys)) → RR (.ref D) C (.ok .next) s') :
    wpAny (model X.prog X.w) X.A (newList []) (fun acc s₃ => wpAny (model X.prog X.w) X.A (newFunctionEnv sc X.env.globals (clOf sc.names X.env.cells) [] X.env.qual none .none (some X.env)) (fun cenv s₄ =>
      codeAny (model X.prog X.w) X.A (.compStart (.ListComp elt [⟨tg, iter, ifs, 0⟩] sc pos) 0 (.ref it) acc { cenv with scope := relabel sc X.env }) (RR acc cenv.locals) s₄) E s₃) E s := by
  have hlt : ∀ b ∈ fp, b < s.heap.objs.size := fun b hb' => by
    obtain ⟨o, e, _⟩ := (T 0).obj 0 s.heap st b hb'
    exact Heap.lt_size e
  refine wpAny_newObj_type (wpAny_newFunctionEnv (fun y hy => okBlk_cell hb hy) (by intro y hy; simp at hy) (fun h₁ hns₁ hsb₁ => ?_) hk)
  dsimp only at hns₁ hsb₁ ⊢
  generalize hH2 : s.heap.push { cls := .type "list", dict := none, data := .seq ([] : List Value).toArray } = H2 at hns₁ hsb₁ ⊢
  have hCs : H2.objs.size = s.heap.objs.size + 1 := by rw [← hH2, Heap.size_push]
  generalize hCe : H2.objs.size = C at *
  have below : ∀ b : Nat, b < s.heap.objs.size → b ≠ C := fun b hb' => by omega
  have old : ∀ b o, s.heap.get? b = some o → h₁.get? b = some o := fun b o e => hsb₁.extBut b o (below b (Heap.lt_size e)) (Heap.get?_push_of_some _ (hH2 ▸ Heap.get?_push_of_some _ e))
  have hDo : h₁.get? s.heap.objs.size = some (listObj [] 0) := hsb₁.extBut _ _ (show @Ne Nat s.heap.objs.size C by omega) (Heap.get?_push_of_some _ (hH2 ▸ Heap.get?_push_size _ rfl))
  generalize hDe : s.heap.objs.size = D at *
  -- the loop's word
  let Y : Cx := blk X sc own js ⟨s, H, fp, C⟩
  have J0 : Inv Y [(D, listObj [] 0)] (capt own.length js σ) H { s with heap := h₁, toks := s.toks + ([] : List (Str × Value)).length } :=
    blk_inv I hk hb hj hfp (by rw [hDe]; exact hlt) hDe.symm (by rw [hDe]; exact hCs) old hDo (fun v z => by cases z) hns₁
  have ndC : @Ne Nat D C := by omega
  have statF : ∀ {P' : List (Addr × Obj)} {H' : Hp}, (∀ b ∈ fp, H' b = none) → (∀ p ∈ P', p.1 ∉ fp) → ∀ b ∈ fp, FpOk Y P' H' b := fun {P' H'} hn hp b hb' => by
    obtain ⟨f0, f1, f2, f3, f4, f5⟩ := hfp b hb'
    refine ⟨hn b hb', fun z => below b (hlt b hb') z, fun z => ?_, .inl hb', fun x c e => f4 x c (cl_sub I.ok hb e), fun p hp' z => ?_⟩
    · rcases List.mem_cons.mp (I.stkSub b z) with e | h
      · exact f1 e
      · exact f2 h
    · have : p ∈ P' := by simpa [Y, blk] using hp'
      exact hp p this (by rw [z]; exact hb')
  have Dfp : D ∉ fp := fun z => by have h9 : @LT.lt Nat _ D D := hlt D z; omega
  have st1 : tn 0 h₁ := (T 0).keep 0 s.heap h₁ st fun b _ o e => old b o e
  have loop : ∀ s₃ : Shared, s₃ = { s with heap := h₁, toks := s.toks + ([] : List (Str × Value)).length } →
      codeAny (model X.prog X.w) X.A (.compLoop (.ListComp elt [⟨tg, iter, ifs, 0⟩] sc pos) 0 (.ref it) (.ref D) Y.env) (RR (.ref D) C) s₃ := by
    rintro s₃ rfl
    obtain ⟨m0, w0⟩ := w0
    refine compLoop_own (fun n s' => ∃ i ys its q H', Inv Y [(D, listObj its q)] (capt own.length js σ) H' s' ∧ Vals ys its ∧ ys.length ≤ sizeLine ∧ tn i s'.heap ∧ (∀ b ∈ fp, H' b = none) ∧ W i n ys H') ?_ m0
      ⟨0, [], [], 0, H, J0, .nil, Nat.zero_le _, st1, fun b hb' => (hfp b hb').1, w0⟩
    rintro n s3 ⟨i, ys, its, q, H3, I3, rv, hz, st3, fr3, w3⟩
    have pD : ∀ p ∈ [(D, listObj its q)], p.1 ∉ fp := fun p hp => by
      have e : p = (D, listObj its q) := by simpa using hp
      rw [e]; exact Dfp
    rcases turn i n ys H3 w3 with ⟨stop, qn⟩ | ⟨go, hlen, N, hN, step⟩
    · -- the end
      refine thn ((T C).done i _ s3 _ H3 _ I3 (statF fr3 pD) st3 stop) fun r s4 ⟨hr, I4⟩ => ?_
      subst hr
      show RR (.ref D) C (.ok .next) s4
      have hDp := I4.pin (D, listObj its q) (List.mem_append_right _ (List.mem_singleton.mpr rfl))
      have hD4 : s4.heap.get? D = some (listObj its q) := hDp.1
      have nD : H3 D = none := hDp.2.1
      have U : Un (frs X.stack) fp H H3 s.heap s4.heap := I4.base
      have neD : ∀ b o, s.heap.get? b = some o → b ≠ D := fun b o e => Nat.ne_of_lt (by have h9 : @LT.lt Nat _ b s.heap.objs.size := Heap.lt_size e; omega)
      have neDH : ∀ b o, H b = some o → b ≠ D := fun b o e => Nat.ne_of_lt (by have h9 : @LT.lt Nat _ b s.heap.objs.size := I.hok.lt e; omega)
      have U2 : Un (frs X.stack) fp H (upd H3 D (.lst ys)) s.heap s4.heap :=
        ⟨U.keep, U.slot, fun b o e n hx => by rw [upd_ne (neD b o e)]; exact U.free b o e n hx, U.there, fun b xs e => by rw [upd_ne (neDH b _ e)]; exact U.tups b xs e,
          fun b o u e => by rw [upd_ne (neDH b _ e)]; exact U.frzs b o u e, fun b ps e => by rw [upd_ne (neDH b _ e)]; exact U.tbls b ps e⟩
      have hok2 : HOk X.prog X.w (upd H3 D (.lst ys)) s4.heap := fun b o e => by
        by_cases hb' : b = D
        · subst hb'
          rw [upd_same] at e
          cases e
          exact ⟨hz, its, q, rv, hD4⟩
        · rw [upd_ne hb'] at e
          exact (I4.hok b o e).stay (fun c u _ z => z) (fun c z => by rw [upd_ne (ne_of_none z nD)]; exact z) fun c xs z => by rw [upd_ne (ne_of_none z nD)]; exact z
      have IX : Inv X pins σ (upd H3 D (.lst ys)) s4 := I.call' (ch := fp) I4.os U2 hok2 I4.bare fun b hb' => by
        obtain ⟨f0, f1, f2, f3, f4, f5⟩ := hfp b hb'
        exact ⟨f3, f1, f4, f5⟩
      obtain ⟨m4, hn4, _⟩ := I4.loc
      have nC : H3 C = none := I4.free
      refine fin D C s4 ys H3 nD IX ?_ ⟨m4, hn4⟩ (show @LE.le Nat _ D C by omega) (qn D nD)
      refine ⟨by rw [upd_ne (Ne.symm ndC)]; exact nC, ?_, ?_, ?_, ?_, ?_⟩
      · have h9 : @LT.lt Nat _ X.env.locals s.heap.objs.size := I.lt
        exact Nat.ne_of_gt (show @LT.lt Nat _ X.env.locals C by omega)
      · exact I.nofs (show @LE.le Nat _ s.heap.objs.size C by omega)
      · right
        have h9 : @LE.le Nat _ X.s₀.heap.objs.size s.heap.objs.size := I.sz
        exact (show @LE.le Nat _ X.s₀.heap.objs.size C by omega)
      · intro x c e
        have h9 : @LT.lt Nat _ c s.heap.objs.size := I.cell_lt e
        exact Nat.ne_of_lt (show @LT.lt Nat _ c C by omega)
      · intro p hp
        have h9 : @LT.lt Nat _ p.1 s.heap.objs.size := I.pin_lt hp
        exact Nat.ne_of_lt (show @LT.lt Nat _ p.1 C by omega)
    · -- a turn
      refine thn ((T C).item i _ s3 _ H3 _ I3 (statF fr3 pD) st3 go) fun r s4 ⟨u, hr, h4⟩ => ?_
      subst hr
      refine thn h4 fun _ s5 ⟨x, H5, I5, r5, y5, st5, fr5⟩ => ?_
      have I5' := I5.pinned (statF fr5 pD) ((T 0).obj _ _ st5)
      refine thn (hg _ _ s5 _ H5 x u _ I5' r5 (step x H5 y5)) fun _ s6 ⟨σ6, H6, I6, q6⟩ => ?_
      refine thn (ht _ _ s6 σ6 H6 _ I6 q6) fun ok s7 ⟨H7, I7, q7⟩ => ?_
      have back : ∀ {s' : Shared} {σ' : St} {H' : Hp} {ys' : List V} {its' : List Value} {q' : Nat}, Inv Y ([(D, listObj its' q')] ++ pinsAt fp s5.heap) σ' H' s' → Vals ys' its' → ys'.length ≤ sizeLine → N ys' H' →
          ∃ m, m < n ∧ ∃ i ys its q H', Inv Y [(D, listObj its q)] (capt own.length js σ) H' s' ∧ Vals ys its ∧ ys.length ≤ sizeLine ∧ tn i s'.heap ∧ (∀ b ∈ fp, H' b = none) ∧ W i m ys H' := by
        intro s' σ' H' ys' its' q' I' rv' hz' nn
        obtain ⟨m', hm, w'⟩ := hN ys' H' nn
        have hpin : ∀ b ∈ fp, ∀ o, s5.heap.get? b = some o → s'.heap.get? b = some o ∧ H' b = none := fun b hb' o e => by
          have := I'.pin (b, o) (List.mem_append_right _ (List.mem_append_right _ (mem_pinsAt hb' e)))
          exact ⟨this.1, this.2.1⟩
        refine ⟨m', hm, i + 1, ys', its', q', H', ?_, rv', hz', (T 0).keep _ _ _ st5 fun b hb' o e => (hpin b hb' o e).1, fun b hb' => ?_, w'⟩
        · have I'' := I'.unpinned
          obtain ⟨mm, hmm, _⟩ := id I''.loc
          refine ⟨I''.ok, I''.os, I''.bare, I''.base, ⟨mm, hmm, fun k x v e1 e2 e3 => ?_⟩, I''.cell, I''.free, I''.freeC, I''.pin, I''.hok, ?_⟩
          · -- the captured names: their cells are as they were at the block's beginning
            obtain ⟨m1, hn1, hl1⟩ := J0.loc
            obtain ⟨u1, r1, l1⟩ := hl1 k x v e1 e2 e3
            refine ⟨u1, r1, ?_⟩
            rcases l1 with ⟨z, zz⟩ | ⟨z, c, e, zz⟩
            · -- a captured name is no local one
              exfalso
              obtain ⟨k', j, rfl, ej, es⟩ := capt_get e2
              have e1' : (own ++ js.map fun j => X.N.getD j "")[own.length + k']? = some x := e1
              rw [List.getElem?_append_right (by omega), Nat.add_sub_cancel_left, List.getElem?_map, ej] at e1'
              have ex : X.N.getD j "" = x := by simpa using e1'
              have hjj := List.all_eq_true.mp hj j (List.mem_of_getElem? ej)
              simp only [Bool.and_eq_true, decide_eq_true_eq, beq_iff_eq] at hjj
              have hfree : sc.names.lookup x = some .free := by rw [← ex]; exact hjj.2
              obtain ⟨k2, z1, z2⟩ := relabel_lookup (sc := sc) (env := X.env) (show (relabel sc X.env).names.lookup x = some .local from z)
              rw [hfree] at z1
              rcases z2 with z2 | ⟨_, z2⟩
              · rw [z2] at z1; cases z1
              · cases z2
            · refine .inr ⟨z, c, e, ?_⟩
              have hcs : X.env.cells.lookup x = some c := cl_sub I.ok hb e
              obtain ⟨ov, oc, hoc, hdc⟩ := I.cell x c hcs
              have hoc1 := old c oc hoc
              obtain ⟨oz, hoz, hdz⟩ := zz
              have hoz' : h₁.get? c = some oz := hoz
              rw [hoc1] at hoz'
              cases hoz'
              have cnf : c ∉ fp := fun z' => (hfp c z').2.2.2.2.1 x c hcs rfl
              obtain ⟨sl, hh⟩ := I''.base.any hoc (I.freeC x c hcs) cnf
              exact ⟨_, hh, hdz⟩
          · show (capt own.length js σ).length = _
            exact J0.len
        · obtain ⟨o, e, d⟩ := (T 0).obj _ _ st5 b hb'
          exact (hpin b hb' o e).2
      cases ok with
      | false =>
        rw [if_neg Bool.false_ne_true] at q7 ⊢
        exact back I7 rv hz q7
      | true =>
        rw [if_pos rfl] at q7 ⊢
        refine thn (he _ _ s7 σ6 H7 _ I7 q7) fun xv s8 ⟨v, H8, I8, r8, q8⟩ => ?_
        have hDp := I8.pin (D, listObj its q) (List.mem_append_right _ (List.mem_append_left _ (List.mem_singleton.mpr rfl)))
        have hD8 : s8.heap.get? D = some { cls := .type "list", data := .seq its.toArray q } := hDp.1
        have hl := rv.length
        refine call_meets F.slot_list_append ⟨_, hD8, rfl⟩ F.entry_list_append (F.args_list_append_2 _ _) (PySem.list_append D its.toArray q xv (by rw [List.size_toArray]; omega)) ⟨hD8, ?_⟩
        have qq := PySem.IsL.update hD8 (fun a => a.push xv)
        have eqs : its.toArray.push xv = (its ++ [xv]).toArray := by simp
        rw [eqs] at qq
        obtain ⟨q2, hq2⟩ : ∃ q2, (s8.heap.update D (Obj.mapSeq fun a => a.push xv)).get? D = some (listObj (its ++ [xv]) q2) := ⟨_, qq⟩
        -- without the pin of D, the record turns, then it is pinned again
        have I8a : Inv Y (pinsAt fp s5.heap) σ6 H8 s8 := I8.pins_of fun p hp => I8.pin p (List.mem_append_right _ (List.mem_append_right _ hp))
        have nD8 : H8 D = none := hDp.2.1
        have I9 : Inv Y (pinsAt fp s5.heap) σ6 H8 { s8 with heap := s8.heap.update D (Obj.mapSeq fun a => a.push xv), toks := s8.toks } := by
          refine I8a.turned (it := D) (fun b o hb' e => (Heap.get?_update_other s8.heap (Obj.mapSeq fun a => a.push xv) (Ne.symm hb')).trans e) nD8 ndC (.inr (show @LE.le Nat _ s.heap.objs.size D by omega)) (fun x c e => ?_) fun p hp => ?_
          · have h9 : @LT.lt Nat _ c s.heap.objs.size := I.cell_lt (cl_sub I.ok hb e)
            exact Nat.ne_of_lt (show @LT.lt Nat _ c D by omega)
          · have hp' : p ∈ pinsAt fp s5.heap := by simpa [Y, blk] using hp
            obtain ⟨h1, _⟩ := of_pinsAt hp'
            exact fun z => Dfp (z ▸ h1)
        refine back (ys' := ys ++ [v]) (its' := its ++ [xv]) (q' := q2) (I9.pins_of fun p hp => ?_) (rv.append (.cons r8 .nil)) (by rw [List.length_append, List.length_singleton]; omega) q8
        rcases List.mem_append.mp hp with hp | hp
        · have e : p = (D, listObj (its ++ [xv]) q2) := by simpa using hp
          subst e
          refine ⟨hq2, nD8, ndC, fun z => ?_, fun v z => by cases z⟩
          have h9 : @LT.lt Nat _ D s.heap.objs.size := I.stk_lt (b := D) z
          omega
        · exact I9.pin p (List.mem_append_right _ hp)
  exact codeAny_compStart_list (loop _ rfl) ((T 0).self X.A 0 { s with heap := h₁, toks := s.toks + ([] : List (Str × Value)).length } _ _ st1 (loop _ rfl))
end
theorem comp_list {K : PySem.W.Frag} {a : Addr} {xs : List V} {n : Nat} {js : List Nat} {g : TG} {tc : TT} {te : TE} {Q : VK} {σ : St} {H : Hp} (Pv : Nat → List V → Hp → Prop) (hz : xs.length ≤ sizeLine) (h0 : Pv 0 [] H) (hl : ∀ i ys H, i ≤ xs.length → Pv i ys H → SqL K H a xs ∧ ys.length ≤ i)
    (hs : ∀ i x ys H, xs[i]? = some x → Pv i ys H → g x (capt n js σ) H fun σ2 H3 => tc σ2 H3 fun b H4 => if b = true then te σ2 H4 fun v H5 => Pv (i + 1) (ys ++ [v]) H5 else Pv (i + 1) ys H4)
    (hd : ∀ ys H p, Pv xs.length ys H → H p = none → Q (.ref p) (upd H p (.lst ys))) : CompBody (Itl K a) n js g tc te σ H Q := by
  refine ⟨fun i m ys H => m = xs.length - i ∧ i ≤ xs.length ∧ Pv i ys H, ⟨xs.length, by simp, Nat.zero_le _, h0⟩, ?_⟩
  rintro i m ys H ⟨rfl, hi, p⟩
  have q := hl i ys H hi p
  by_cases hlt : i < xs.length
  · refine .inr ⟨⟨xs, xs[i], q.1, by simp [hlt]⟩, by have := q.2; omega, Pv (i + 1), fun ys' H' p' => ⟨xs.length - (i + 1), by omega, rfl, hlt, p'⟩, fun x H' y => ?_⟩
    obtain ⟨e, y⟩ := y
    subst e
    exact hs i x ys _ (y xs q.1) p
  · have e : i = xs.length := by omega
    subst e
    exact .inl ⟨⟨xs, q.1, Nat.le_refl _⟩, fun p' hp => hd ys H p' p hp⟩
theorem comp_tup {K : PySem.W.Frag} {a : Addr} {xs : List V} {n : Nat} {js : List Nat} {g : TG} {tc : TT} {te : TE} {Q : VK} {σ : St} {H : Hp} (Pv : Nat → List V → Hp → Prop) (hz : xs.length ≤ sizeLine) (h0 : Pv 0 [] H) (hl : ∀ i ys H, i ≤ xs.length → Pv i ys H → SqT K H a xs ∧ ys.length ≤ i)
    (hs : ∀ i x ys H, xs[i]? = some x → Pv i ys H → g x (capt n js σ) H fun σ2 H3 => tc σ2 H3 fun b H4 => if b = true then te σ2 H4 fun v H5 => Pv (i + 1) (ys ++ [v]) H5 else Pv (i + 1) ys H4)
    (hd : ∀ ys H p, Pv xs.length ys H → H p = none → Q (.ref p) (upd H p (.lst ys))) : CompBody (Itt K a) n js g tc te σ H Q := by
  refine ⟨fun i m ys H => m = xs.length - i ∧ i ≤ xs.length ∧ Pv i ys H, ⟨xs.length, by simp, Nat.zero_le _, h0⟩, ?_⟩
  rintro i m ys H ⟨rfl, hi, p⟩
  have q := hl i ys H hi p
  by_cases hlt : i < xs.length
  · refine .inr ⟨⟨xs, xs[i], q.1, by simp [hlt]⟩, by have := q.2; omega, Pv (i + 1), fun ys' H' p' => ⟨xs.length - (i + 1), by omega, rfl, hlt, p'⟩, fun x H' y => ?_⟩
    obtain ⟨e, y⟩ := y
    subst e
    exact hs i x ys _ (y xs q.1) p
  · have e : i = xs.length := by omega
    subst e
    exact .inl ⟨⟨xs, q.1, Nat.le_refl _⟩, fun p' hp => hd ys H p' p hp⟩
end L2
set_option Elab.async false
set_option linter.all false
set_option maxRecDepth 100000
set_option maxHeartbeats 4000000
namespace L2
open PySem PySem.Spec PyProof.Rows
structure Cal (P : Program) (w : World) (K : PySem.W.Frag) (mg : Str → Option Value) (base : Heap) (x : Str) (k : Nat) (ps : List Str) (sp : Sp) : Prop where
  ex : ∃ (f : Addr) (fd : FuncData), mg x = some (.ref f) ∧ PySem.W.keepIn K (.ref f) = true ∧ Binds K fd ps [] ∧ FnOk P w K mg base CX0 k f fd ps sp
structure Dfn (K : PySem.W.Frag) (mg : Str → Option Value) (x : Str) (st : Stmt) (ps : List Str) : Prop where
  ex : ∃ (f : Addr) (fd : FuncData), mg x = some (.ref f) ∧ Fun K x x st f fd ∧ Binds K fd ps []
section
variable {P : Program} {w : World} {K : PySem.W.Frag} {mg : Str → Option Value} {base : Heap}
theorem Dfn.ok {x : Str} {st : Stmt} {N ps : List Str} {k : Nat} {sp : Sp} (D : Dfn K mg x st ps) (S : FnScope N ps (defScope st)) (len : ∀ vs H Q E, sp vs H Q E → vs.length = ps.length)
    (hbody : ∀ (X : Cx) (hX : ∃ f cdv A outer s H E, X = (cxOf CX0 P w K mg base N x (defScope st) f cdv A outer s H E).nox ∧ Room k X.A) (H : Hp) (vs : List V) (Q : VK) (E : XK), sp vs H Q E →
      ∃ t, PSs X (defBody st) t ∧ t { nx := fun _ H' => Q .non H', rt := Q } (start N vs) H) : Cal P w K mg base x (k + 1) ps sp := by
  obtain ⟨f, fd, hm, F, hb⟩ := D.ex
  exact ⟨f, fd, hm, F.kp, hb, F.ok S len fun cdv A outer s H vs Q E hr h => hbody _ ⟨f, cdv, A, outer, s, H, E, rfl, hr⟩ H vs Q E h⟩
end
section
variable {X : Cx}
theorem pe_cal {x : Str} {k j : Nat} {ps : List Str} {sp : Sp} {e : Expr} {es : List Expr} {t : TA} {p pos : Pos} (C : Cal X.prog X.w X.K X.mg X.base x j ps sp) (hr : Room k X.A) (ha : PA X (e :: es) t) (hjk : j ≤ k := by decide) (hg : Gl X x := by rfl) (hdb : (x == ("__debug__" : Str)) = false := by decide)
    (he : starEach (e :: es) X.env = (false, eval e X.env) :: starEach es X.env := by rfl) (hpl : (backTo pos (starEach es X.env)).any (·.1) = false := by rfl) :
    PE X (.Call (.Name x p) (e :: es) [] pos) (tCall sp [] E0 t) := by
  obtain ⟨f, fd, hm, hk, hb, F⟩ := C.ex
  exact pe_call F (hr.mono hjk) hg hm hk hb .nil pass0 ha hdb he hpl
theorem op_fdivL : OpR X (binaryOp .FloorDiv) (rI (fun _ j => 0 < j ∧ j < 2 ^ 64) fun i j => .int (i / j)) := opI fun i j _ _ _ _ _ hc q => by
  have h1 : (0 : Int) < j := hc.1
  have h2 : j < 2 ^ 64 := hc.2
  refine floordiv_int (by omega) (by rw [Int.fdiv_eq_ediv_of_nonneg i (by omega)]; exact q) (.inl (PyProof.noPylong_of_log2 ?_))
  have h0 : j.natAbs ≠ 0 := by omega
  have h64 : j.natAbs < 2 ^ 64 := by omega
  have := (Nat.log2_lt h0).mpr h64
  omega
noncomputable def kindV (H : Hp) : V → String → Prop
  | .non, n => n = "NoneType"
  | .bl _, n => n = "bool"
  | .int _, n => n = "int"
  | .str _, n => n = "str"
  | .ref a, n => (n = "list" ∧ ∃ xs, H a = some (.lst xs)) ∨ (n = "tuple" ∧ ∃ xs, H a = some (.tup xs))
  | _, _ => False
theorem kindV.ty {K : PySem.W.Frag} {H : Hp} {x : V} {n : String} (h : kindV H x n) : TyOf K H x (.type n) := by
  cases x with
  | non => cases (show n = "NoneType" from h); exact .non
  | bl b => cases (show n = "bool" from h); exact .bl b
  | int i => cases (show n = "int" from h); exact .int i
  | str z => cases (show n = "str" from h); exact .str z
  | ref a =>
    rcases h with ⟨rfl, xs, e⟩ | ⟨rfl, xs, e⟩
    · exact .lst e
    · exact .tup e
  | _ => exact False.elim h
noncomputable def isiB : String → String → Option Bool
  | "NoneType", "tuple" => some false | "NoneType", "int" => some false | "NoneType", "bool" => some false | "NoneType", "list" => some false | "NoneType", "str" => some false
  | "bool", "tuple" => some false | "bool", "int" => some true | "bool", "bool" => some true | "bool", "list" => some false | "bool", "str" => some false
  | "int", "tuple" => some false | "int", "int" => some true | "int", "bool" => some false | "int", "list" => some false | "int", "str" => some false
  | "str", "tuple" => some false | "str", "int" => some false | "str", "bool" => some false | "str", "list" => some false | "str", "str" => some true
  | "list", "tuple" => some false | "list", "int" => some false | "list", "bool" => some false | "list", "list" => some true | "list", "str" => some false
  | "tuple", "tuple" => some true | "tuple", "int" => some false | "tuple", "bool" => some false | "tuple", "list" => some false | "tuple", "str" => some false
  | _, _ => none
theorem isiB_kit {K : PySem.W.Frag} {n T : String} {b : Bool} (h : isiB n T = some b) : PySem.W.kitOne K (.type n) (.type T) = some b := by
  unfold isiB at h
  split at h <;> first
    | (cases h; kernel_rfl)
    | cases h
noncomputable def rIsi : List V → Hp → VK → Prop := fun xs H Q => ∃ x n T b, xs = [x, .ty T] ∧ kindV H x n ∧ isiB n T = some b ∧ Q (.bl b) H
theorem call_isi : CallR X (.builtin "isinstance") rIsi := by
  intro pins s σ H xs us Q I r h
  obtain ⟨x, n, T, b, rfl, hk, hb, q⟩ := h
  obtain ⟨u, w', rfl, r1, r2⟩ := vals2 r
  cases (show w' = Value.type T from r2)
  exact isinst_ok I r1 hk.ty (isiB_kit hb) fun tk => ⟨.bl b, H, I.tok tk, rfl, q⟩
noncomputable def rLen (K : PySem.W.Frag) : List V → Hp → VK → Prop := fun xs H Q => ∃ p ys, xs = [.ref p] ∧ (SqL K H p ys ∨ SqT K H p ys) ∧ Q (.int ys.length) H
theorem call_lenN : CallR X (.builtin "len") (rLen X.K) := call_len_seq
noncomputable def rTupOf (K : PySem.W.Frag) : List V → Hp → VK → Prop := fun xs H Q => ∃ p ys, xs = [.ref p] ∧ ((SqL K H p ys ∧ ∀ l, H l = none → Q (.ref l) (upd H l (.tup ys))) ∨ (SqT K H p ys ∧ Q (.ref p) H))
theorem call_tupN : CallR X (.type "tuple") (rTupOf X.K) := call_tuple_of
end
end L2
set_option Elab.async false
set_option linter.all false
set_option maxRecDepth 100000
set_option maxHeartbeats 4000000
namespace L2
open PySem PySem.Spec PyProof.Rows
noncomputable def Ext (H H' : Hp) : Prop := ∀ b o, H b = some o → H' b = some o
theorem Ext.rfl' (H : Hp) : Ext H H := fun _ _ h => h
theorem Ext.trans {H H1 H2 : Hp} (a : Ext H H1) (b : Ext H1 H2) : Ext H H2 := fun x o h => b x o (a x o h)
theorem Ext.none {H H' : Hp} (e : Ext H H') {l : Addr} (h : H' l = Option.none) : H l = Option.none := by
  cases q : H l with
  | none => rfl
  | some o => rw [e l o q] at h; cases h
section
variable {X : Cx} (K : PySem.W.Frag)
theorem ix_listK (h : X.K = K := by rfl) : IxR X (rIxL K) := by subst h; exact ix_list
theorem ix_tupK (h : X.K = K := by rfl) : IxR X (rIxT K) := by subst h; exact ix_tup
theorem sl_listK (h : X.K = K := by rfl) : SlR X (rSlL K) := by subst h; exact sl_list
theorem call_lenK (h : X.K = K := by rfl) : CallR X (.builtin "len") (rLen K) := by subst h; exact call_lenN
theorem call_tupK (h : X.K = K := by rfl) : CallR X (.type "tuple") (rTupOf K) := by subst h; exact call_tupN
theorem pi_listK {tg l : Expr} {tl : TE} (hl : PE X l tl) (h : X.K = K := by rfl) : PI X tg l (iList K tl) := by subst h; exact pi_list hl
theorem pi_tupK {tg l : Expr} {tl : TE} (hl : PE X l tl) (h : X.K = K := by rfl) : PI X tg l (iTup K tl) := by subst h; exact pi_tup hl
theorem pg_tupK {es : List Expr} {k : Nat} {t : TGs} {n : Nat} {pos : Pos} (hc : X.calm = true) (hg : PGs X es t) (h : X.K = K := by rfl)
    (hn : (assignEach es X.env).length = n := by rfl) (hst : (assignEach es X.env).findIdx? (·.1) = none := by rfl) : PG X (.Tuple es k pos) (gTup K n t) := by subst h; exact pg_tup hc hg hn hst
theorem pe_bmK {o e : Expr} {es : List Expr} {to : TE} {t : TA} {name : Str} {apos cpos : Pos} {T id : String} {r : V → List V → Hp → VK → Prop} (pa : PlainAttrs T) (slot : Slot T name id) (hty : typeOf (.builtin id) = pure (.type "method_descriptor")) (hm : MtR X id r) (ho : PE X o to) (ha : PA X (e :: es) t) (h : X.K = K := by rfl)
    (hbase : attributeBase o name X.env (eval o X.env) = eval o X.env := by rfl)
    (hfew : ((backTo cpos (starEach (e :: es) X.env)).all (fun x => !x.1) && (backToKw cpos (keywordEach [] X.env)).all (fun x => x.1.isSome)
      && decide ((e :: es).length + ([] : List Keyword).length + (if ([] : List Keyword).isEmpty then 0 else 1) < 30)) = true := by rfl)
    (hline : (apos.endLine == cpos.line) = true := by rfl) (hs : starEach (e :: es) X.env = (false, eval e X.env) :: starEach es X.env := by rfl) (hplain : (backTo cpos (starEach es X.env)).any (·.1) = false := by rfl) :
    PE X (.Call (.Attribute o name apos) (e :: es) [] cpos) (tBM K T r to t) := by subst h; exact pe_bm pa slot hty hm ho ha hbase hfew hline hs hplain
noncomputable def tTru (K : PySem.W.Frag) (ta : TE) : TT := fun σ H Q => ta σ H fun x H' => ∃ k, TruV K x H' k ∧ Q k H'
theorem pt_truthK {a : Expr} {ta : TE} (ha : PE X a ta) (he : ∀ whole, isTrue a X.env whole = (do let v ← whole; standAt a.pos; holding [v] (truthy v))) (h : X.K = K := by rfl) : PT X a (tTru K ta) := by subst h; exact pt_truth ha he
end
noncomputable def tInts (ns : List Int) : TA := fun _ H Q => Q (ns.map V.int) H
inductive IntsE : List Expr → List Int → Prop
  | n : IntsE [] []
  | c {i j pos es ns} : IntsE es ns → IntsE (.Constant (.int i) j pos :: es) (i :: ns)
theorem pa_ints {X : Cx} {es : List Expr} {ns : List Int} (h : IntsE es ns) : PA X es (tInts ns) := by
  induction h with
  | n => exact pa_nil
  | @c i j pos es ns _ ih =>
    intro p pins s σ H Q I hq
    exact pa_cons (e := .Constant (.int i) j pos) pe_int ih rfl p pins s σ H Q I hq
theorem rd_ints {σ : St} {H : Hp} {ns : List Int} {R : List V → Hp → Prop} (h : R (ns.map V.int) H) : tInts ns σ H R := h
noncomputable def tIfJ (c : TT) (t u : TS) : TS := fun D σ H => ∃ R : St → Hp → Prop, (c σ H fun b H1 => if b = true then t { D with nx := R } σ H1 else u { D with nx := R } σ H1) ∧ ∀ σ' H', R σ' H' → D.nx σ' H'
theorem ps_ifJ {X : Cx} {c : Expr} {a b : List Stmt} {tc : TT} {t u : TS} {pos : Pos} (hc : PT X c tc) (ha : PSs X a t) (hb : PSs X b u) : PS X (.If c a b pos) (tIfJ tc t u) := by
  intro pins s σ H D I h
  obtain ⟨R, h, hR⟩ := h
  refine thn (ps_if hc ha hb pins s σ H { D with nx := R } I h) fun f s1 q => ?_
  cases f with
  | next =>
    obtain ⟨σ', H', I', q⟩ := q
    exact ⟨σ', H', I', hR σ' H' q⟩
  | ret v => exact q
  | brk => exact q
  | cont => exact q
noncomputable def rItL (K : PySem.W.Frag) : V → Hp → (It → Hp → Prop) → Prop := fun x H R => ∃ a, x = .ref a ∧ (∃ xs, SqL K H a xs) ∧ R (Itl K a) H
noncomputable def rItT (K : PySem.W.Frag) : V → Hp → (It → Hp → Prop) → Prop := fun x H R => ∃ a, x = .ref a ∧ (∃ xs, SqT K H a xs) ∧ R (Itt K a) H
noncomputable def rIt1 : List V → Hp → (It → Hp → Prop) → Prop := fun vs H R => ∃ j : Int, vs = [.int j] ∧ -(2 ^ 62) ≤ j ∧ j < 2 ^ 62 ∧ R (Itr 0 j.toNat) H
noncomputable def ForBody (J : It) (g : TG) (tb : TS) (D : Ends) (σ : St) (H : Hp) : Prop := ∃ W : Nat → Nat → St → Hp → Prop, (∃ m, W 0 m σ H) ∧ ∀ i m σ H, W i m σ H →
  (J.stop i H ∧ D.nx σ H) ∨ (J.go i H ∧ ∃ N : St → Hp → Prop, (∀ σ' H', N σ' H' → ∃ m', m' < m ∧ W (i + 1) m' σ' H') ∧ ∀ x H', J.yld i H x H' → g x σ H' fun σ2 H2 => tb { D with nx := N, ct := N, bk := D.nx } σ2 H2)
theorem forL {K : PySem.W.Frag} {a : Addr} {xs : List V} {g : TG} {tb : TS} {D : Ends} {σ : St} {H : Hp} (Pv : Nat → St → Hp → Prop) (h0 : Pv 0 σ H) (hl : ∀ i σ H, i ≤ xs.length → Pv i σ H → SqL K H a xs)
    (hs : ∀ i x σ H, xs[i]? = some x → Pv i σ H → g x σ H fun σ2 H2 => tb ⟨Pv (i + 1), D.rt, D.nx, Pv (i + 1)⟩ σ2 H2) (hd : ∀ σ H, Pv xs.length σ H → D.nx σ H) : ForBody (Itl K a) g tb D σ H := for_list Pv h0 hl hs hd
theorem forR {lo : Int} {n : Nat} {g : TG} {tb : TS} {D : Ends} {σ : St} {H : Hp} (Pv : Nat → St → Hp → Prop) (h0 : Pv 0 σ H)
    (hs : ∀ i σ H, i < n → Pv i σ H → g (.int (lo + i)) σ H fun σ2 H2 => tb ⟨Pv (i + 1), D.rt, D.nx, Pv (i + 1)⟩ σ2 H2) (hd : ∀ σ H, Pv n σ H → D.nx σ H) : ForBody (Itr lo n) g tb D σ H := for_range Pv h0 hs hd
noncomputable def New (H : Hp) (o : HO) (R : VK) : Prop := ∀ p, H p = none → R (.ref p) (upd H p o)
section
variable {K : PySem.W.Frag} {D : Ends} {σ : St} {H : Hp} {Q : VK} {ta tb tc te : TE} {t u : TS} {c c' : TT}
theorem rd_seq (h : t ⟨u D, D.rt, D.bk, D.ct⟩ σ H) : tSeq t u D σ H := h
theorem rd_next (h : D.nx σ H) : tNext D σ H := h
theorem rd_ret (h : te σ H D.rt) : tRet te D σ H := h
theorem rd_asg {g : TG} (h : te σ H fun x H1 => g x σ H1 D.nx) : tAsg te g D σ H := h
theorem rd_drop (h : te σ H fun _ H1 => D.nx σ H1) : tDrop te D σ H := h
theorem rd_ifS (h : c σ H fun b H1 => if b = true then t D σ H1 else u D σ H1) : tIfS c t u D σ H := h
theorem rd_ifJ (R : St → Hp → Prop) (h : c σ H fun b H1 => if b = true then t ⟨R, D.rt, D.bk, D.ct⟩ σ H1 else u ⟨R, D.rt, D.bk, D.ct⟩ σ H1) (k : ∀ σ' H', R σ' H' → D.nx σ' H') : tIfJ c t u D σ H := ⟨R, h, k⟩
theorem rd_ifN (h : c σ H fun b H1 => if b = true then t D σ H1 else u D σ H1) : tIfJ c t u D σ H := ⟨D.nx, h, fun _ _ h => h⟩
theorem rd_name {i : Nat} {v : V} {R : St → Hp → Prop} (h : R (σ.set i (some v)) H) : gName i v σ H R := h
theorem rd_var {i : Nat} {v : V} (e : σ[i]? = some (some v)) (h : Q v H) : tVar i σ H Q := ⟨v, e, h⟩
theorem rd_c {v : V} (h : Q v H) : tC v σ H Q := h
theorem rd_op {r : R2} (h : ta σ H fun x H1 => tb σ H1 fun y H2 => r x y H2 Q) : tOp r ta tb σ H Q := h
theorem rd_CB {r : List V → Hp → VK → Prop} {a : TA} (h : a σ H fun vs H1 => r vs H1 Q) : tCB r a σ H Q := h
theorem rd_cons {a : TA} {R : List V → Hp → Prop} (h : ta σ H fun x H1 => a σ H1 fun xs H2 => R (x :: xs) H2) : tCons ta a σ H R := h
theorem rd_nil {R : List V → Hp → Prop} (h : R [] H) : tNil σ H R := h
theorem rd_test {R : Bool → Hp → Prop} (h : te σ H fun x H' => ∃ k, x = .bl k ∧ R k H') : tTest te σ H R := h
theorem rd_B {R : Bool → Hp → Prop} (h : te σ H fun x H' => ∃ k, x = .bl k ∧ R k H') : tB te σ H R := h
theorem rd_exb {b : Bool} {R : Bool → Prop} (h : R b) : ∃ k, V.bl b = V.bl k ∧ R k := ⟨b, rfl, h⟩
theorem rd_not {R : Bool → Hp → Prop} (h : c σ H fun b H1 => R (!b) H1) : tNot c σ H R := h
theorem rd_or {R : Bool → Hp → Prop} (h : c σ H fun b H1 => if b = true then R true H1 else c' σ H1 R) : tOr c c' σ H R := h
theorem rd_andV (h : ta σ H fun x H1 => ∃ k, x = .bl k ∧ if k = true then tb σ H1 Q else Q (.bl false) H1) : tAndV ta tb σ H Q := h
theorem rd_orV (h : ta σ H fun x H1 => ∃ k, x = .bl k ∧ if k = true then Q (.bl true) H1 else tb σ H1 Q) : tOrV ta tb σ H Q := h
theorem rd_notV (h : ta σ H fun x H1 => ∃ k, x = .bl k ∧ Q (.bl (!k)) H1) : tNotV ta σ H Q := h
theorem rd_ifE (h : c σ H fun b H1 => if b = true then ta σ H1 Q else tb σ H1 Q) : tIf c ta tb σ H Q := h
theorem rd_yes {R : Bool → Hp → Prop} (h : R true H) : tYes σ H R := h
theorem rd_I0 {g : Int → Int → V} {i j : Int} (h : Q (g i j) H) : rI0 g (.int i) (.int j) H Q := ⟨i, j, rfl, rfl, h⟩
theorem rd_I {C : Int → Int → Prop} {g : Int → Int → V} {i j : Int} (hc : C i j) (h : Q (g i j) H) : rI C g (.int i) (.int j) H Q := ⟨i, j, rfl, rfl, hc, h⟩
theorem rd_EqI {i j : Int} (h : Q (.bl (decide (i = j))) H) : rEq (.int i) (.int j) H Q := ⟨rfl, by
  have e : decide (V.int i = V.int j) = decide (i = j) := by rw [Bool.eq_iff_iff]; simp
  rw [e]; exact h⟩
theorem rd_NeI {i j : Int} (h : Q (.bl (!decide (i = j))) H) : rNe (.int i) (.int j) H Q := ⟨rfl, by
  have e : decide (V.int i = V.int j) = decide (i = j) := by rw [Bool.eq_iff_iff]; simp
  rw [e]; exact h⟩
theorem rd_ixL {p : Addr} {xs : List V} {i : Int} {v : V} (e : SqL K H p xs) (a : atI xs i = some v) (h : Q v H) : rIxL K (.ref p) (.int i) H Q := ⟨p, xs, i, v, rfl, rfl, e, a, h⟩
theorem rd_ixT {p : Addr} {xs : List V} {i : Int} {v : V} (e : SqT K H p xs) (a : atI xs i = some v) (h : Q v H) : rIxT K (.ref p) (.int i) H Q := ⟨p, xs, i, v, rfl, rfl, e, a, h⟩
theorem rd_lenL {p : Addr} {xs : List V} (e : SqL K H p xs) (h : Q (.int xs.length) H) : rLen K [.ref p] H Q := ⟨p, xs, rfl, .inl e, h⟩
theorem rd_lenT {p : Addr} {xs : List V} (e : SqT K H p xs) (h : Q (.int xs.length) H) : rLen K [.ref p] H Q := ⟨p, xs, rfl, .inr e, h⟩
theorem rd_tupL {p : Addr} {xs : List V} (e : SqL K H p xs) (h : New H (.tup xs) Q) : rTupOf K [.ref p] H Q := ⟨p, xs, rfl, .inl ⟨e, h⟩⟩
theorem rd_isi {x : V} {n T : String} {b : Bool} (hk : kindV H x n) (hb : isiB n T = some b) (h : Q (.bl b) H) : rIsi [x, .ty T] H Q := ⟨x, n, T, b, rfl, hk, hb, h⟩
theorem rd_call {sp : Sp} {a : TA} {E : XK} (h : a σ H fun vs H1 => sp (vs ++ []) H1 Q E) : tCall sp [] E a σ H Q := h
theorem rd_BM {T : String} {r : V → List V → Hp → VK → Prop} {a : TA} (h : te σ H fun x H1 => tyV K T x H1 ∧ a σ H1 fun xs H2 => r x xs H2 Q) : tBM K T r te a σ H Q := h
theorem rd_tup {a : TA} (h : a σ H fun xs H1 => xs.length ≤ sizeLine ∧ New H1 (.tup xs) Q) : tTup a σ H Q := h
theorem rd_lst {a : TA} (h : a σ H fun xs H1 => xs.length ≤ sizeLine ∧ New H1 (.lst xs) Q) : tLst a σ H Q := h
theorem rd_sl {r : V → Option Int → Option Int → Hp → VK → Prop} {tl th : TO} (h : te σ H fun x H1 => tl σ H1 fun l H2 => th σ H2 fun v H3 => r x l v H3 Q) : tSl r te tl th σ H Q := h
theorem rd_noPart {R : Option Int → Hp → Prop} (h : R none H) : tNoPart σ H R := h
theorem rd_part {R : Option Int → Hp → Prop} (h : te σ H fun x H1 => ∃ i, x = .int i ∧ R (some i) H1) : tPart te σ H R := h
theorem rd_exi {i : Int} {R : Int → Prop} (h : R i) : ∃ k, V.int i = V.int k ∧ R k := ⟨i, rfl, h⟩
theorem rd_chain {r r' : R2} (h : ta σ H fun x H1 => tb σ H1 fun y H2 => r x y H2 fun z H3 => ∃ k, z = .bl k ∧ (if k = true then tc σ H3 fun w' H4 => r' y w' H4 Q else Q (.bl false) H3)) : tChain r r' ta tb tc σ H Q := h
theorem rd_comp {n : Nat} {js : List Nat} {wi : TI} {g : TG} (h : wi σ H fun J H1 => CompBody J n js g c te σ H1 Q) : tComp n js wi g c te σ H Q := h
theorem rd_iL {R : It → Hp → Prop} (h : te σ H fun x H1 => rItL K x H1 R) : iList K te σ H R := h
theorem rd_iT {R : It → Hp → Prop} (h : te σ H fun x H1 => rItT K x H1 R) : iTup K te σ H R := h
theorem rd_iLx {p : Addr} {xs : List V} {R : It → Hp → Prop} (e : SqL K H p xs) (h : R (Itl K p) H) : rItL K (.ref p) H R := ⟨p, rfl, ⟨xs, e⟩, h⟩
theorem rd_iTx {p : Addr} {xs : List V} {R : It → Hp → Prop} (e : SqT K H p xs) (h : R (Itt K p) H) : rItT K (.ref p) H R := ⟨p, rfl, ⟨xs, e⟩, h⟩
theorem rd_i1 {a : TA} {R : It → Hp → Prop} (h : a σ H fun vs H1 => rIt1 vs H1 R) : iRng1 a σ H R := h
theorem rd_i1x {j : Int} {R : It → Hp → Prop} (h1 : -(2 ^ 62) ≤ j ∧ j < 2 ^ 62) (h : R (Itr 0 j.toNat) H) : rIt1 [.int j] H R := ⟨j, rfl, h1.1, h1.2, h⟩
theorem rd_for {wi : TI} {g : TG} (h : wi σ H fun J H1 => ForBody J g t D σ H1) : tFor wi g t D σ H := h
theorem rd_append {l : Addr} {xs : List V} {y : V} (e : H l = some (.lst xs)) (hz : xs.length < sizeLine) (h : Q .non (upd H l (.lst (xs ++ [y])))) : rAppend (.ref l) [y] H Q := ⟨l, xs, y, rfl, rfl, e, hz, h⟩
theorem rd_tyL {p : Addr} {xs : List V} (e : SqL K H p xs) : tyV K "list" (.ref p) H := .inl ⟨rfl, xs, e⟩
theorem rd_gtup {n : Nat} {g : TGs} {a : Addr} {xs : List V} {R : St → Hp → Prop} (e : SqT K H a xs) (hl : xs.length = n) (h : g xs σ H R) : gTup K n g (.ref a) σ H R := ⟨a, xs, rfl, e, hl, h⟩
theorem rd_gcons {g : TG} {gs : TGs} {v : V} {r : List V} {R : St → Hp → Prop} (h : g v σ H fun σ' H' => gs r σ' H' R) : gCons g gs (v :: r) σ H R := ⟨v, r, rfl, h⟩
theorem rd_gnil {R : St → Hp → Prop} (h : R σ H) : gNil [] σ H R := ⟨rfl, h⟩
theorem rd_cat {l b : Addr} {xs zs : List V} (e1 : H l = some (.lst xs)) (e2 : H b = some (.lst zs)) (hz : xs.length + zs.length ≤ sizeLine) (h : New H (.lst (xs ++ zs)) Q) : rCat (.ref l) (.ref b) H Q := ⟨l, b, xs, zs, rfl, rfl, e1, e2, hz, h⟩
theorem rd_slL {a : Addr} {xs : List V} {lo hi : Option Int} (e : SqL K H a xs) (h : New H (.lst (cutV xs lo hi)) Q) : rSlL K (.ref a) lo hi H Q := ⟨a, xs, rfl, e, h⟩
theorem rd_tTru {R : Bool → Hp → Prop} (h : te σ H fun x H' => ∃ k, TruV K x H' k ∧ R k H') : tTru K te σ H R := h
theorem rd_new {o : HO} {R : VK} (h : ∀ p H', Ext H H' → H' p = some o → H p = none → R (.ref p) H') : New H o R := fun p hp =>
  h p _ (fun b u e => by rw [upd_ne (ne_of_none e hp)]; exact e) upd_same hp
theorem ext_upd {p : Addr} {o : HO} (hp : H p = none) : Ext H (upd H p o) := fun b u e => by rw [upd_ne (ne_of_none e hp)]; exact e
end
theorem atI_of {α : Type} {xs : List α} {i : Int} {v : α} (h0 : 0 ≤ i) (h : xs[i.toNat]? = some v) : atI xs i = some v := by
  have := atI_nat h
  rwa [Int.toNat_of_nonneg h0] at this
end L2
set_option Elab.async false
set_option linter.all false
set_option maxRecDepth 100000
set_option maxHeartbeats 4000000
namespace L2
open PySem PySem.Spec PyProof.Rows
noncomputable def flatD : V → PyData → Prop
  | .non, .none => True
  | .bl b, .bool c => b = c
  | .int i, .int j => i = j
  | .str x, .str y => x = y ∧ (PyData.str y).canLay0 = true
  | _, _ => False
noncomputable def RepD (H : Hp) : Nat → V → PyData → Prop
  | 0, x, d => flatD x d
  | n + 1, x, d => flatD x d ∨ ∃ a xs ds, x = .ref a ∧ ((H a = some (.tup xs) ∧ d = .tuple ds) ∨ (H a = some (.lst xs) ∧ d = .list ds)) ∧ Paired (RepD H n) xs ds
section
variable {X : Cx} {pins : List (Addr × Obj)} {σ : St} {H : Hp} {s : Shared}
theorem flatD.reads {x : V} {d : PyData} {u : Value} (h : flatD x d) (r : RelV x u) : ∃ as, Reads s.heap u d as := by
  cases x with
  | non => cases d <;> first | exact False.elim h | (cases r; exact ⟨_, .none⟩)
  | bl b => cases d <;> first | exact False.elim h | (cases (show b = _ from h); cases r; exact ⟨_, .bool _⟩)
  | int i => cases d <;> first | exact False.elim h | (cases (show i = _ from h); obtain ⟨t, rfl⟩ := r; exact ⟨_, .int _ t⟩)
  | str z => cases d <;> first | exact False.elim h | (cases (show z = _ ∧ _ from h).1; obtain ⟨t, rfl⟩ := r; exact ⟨_, .str _ t⟩)
  | _ => cases d <;> exact False.elim h
theorem flatD.lay {x : V} {d : PyData} (h : flatD x d) : d.canLay0 = true ∧ d.depth = 0 := by
  cases x <;> cases d <;> first | exact False.elim h | exact ⟨rfl, rfl⟩ | exact ⟨h.2, rfl⟩
theorem reads_all {R : V → PyData → Prop} (ih : ∀ {x : V} {d : PyData} {u : Value}, R x d → RelV x u → ∃ as, Reads s.heap u d as) : ∀ {xs : List V} {ds : List PyData} {us : List Value}, Paired R xs ds → Vals xs us → ∃ as, ReadsAll s.heap us ds as
  | _, _, _, .nil, .nil => ⟨_, .nil⟩
  | _, _, _, .cons h t, .cons r rt => by
    obtain ⟨as, ha⟩ := ih h r
    obtain ⟨bs, hb⟩ := reads_all ih t rt
    exact ⟨_, .cons ha hb⟩
theorem RepD.reads (I : Inv X pins σ H s) : ∀ (n : Nat) {x : V} {d : PyData} {u : Value}, RepD H n x d → RelV x u → ∃ as, Reads s.heap u d as
  | 0, _, _, _, h, r => flatD.reads h r
  | n + 1, x, d, u, h, r => by
    rcases h with h | ⟨a, xs, ds, rfl, hh, hp⟩
    · exact flatD.reads h r
    · cases r
      rcases hh with ⟨e, rfl⟩ | ⟨e, rfl⟩
      · obtain ⟨its, rv, ⟨o, ho, hc, k, hd⟩, _⟩ := I.tuple (SqT.of e)
        obtain ⟨as, ha⟩ := reads_all (fun {x d u} => RepD.reads I n) hp rv
        exact ⟨_, .tuple ho hc hd (by simpa using ha)⟩
      · obtain ⟨its, k, rv, ho, _⟩ := I.lst e
        obtain ⟨as, ha⟩ := reads_all (fun {x d u} => RepD.reads I n) hp rv
        exact ⟨_, .list ho rfl rfl (by simpa using ha)⟩
theorem lay_all {R : V → PyData → Prop} {m : Nat} (ih : ∀ {x : V} {d : PyData}, R x d → d.canLay0 = true ∧ d.depth ≤ m) : ∀ {xs : List V} {ds : List PyData}, Paired R xs ds → PyData.canLayAll0 ds = true ∧ PyData.depthAll ds ≤ m
  | _, _, .nil => ⟨rfl, Nat.zero_le _⟩
  | _, _, .cons h t => by
    obtain ⟨h1, h2⟩ := ih h
    obtain ⟨h3, h4⟩ := lay_all ih t
    refine ⟨?_, ?_⟩
    · simp only [PyData.canLayAll0, h1, h3, Bool.and_self]
    · simp only [PyData.depthAll]
      exact Nat.max_le.mpr ⟨h2, h4⟩
theorem RepD.lay : ∀ (n : Nat) {x : V} {d : PyData}, RepD H n x d → d.canLay0 = true ∧ d.depth ≤ n
  | 0, _, _, h => ⟨(flatD.lay h).1, Nat.le_of_eq (flatD.lay h).2⟩
  | n + 1, x, d, h => by
    rcases h with h | ⟨a, xs, ds, rfl, hh, hp⟩
    · exact ⟨(flatD.lay h).1, by rw [(flatD.lay h).2]; exact Nat.zero_le _⟩
    · obtain ⟨h1, h2⟩ := lay_all (fun {x d} => RepD.lay n) hp
      rcases hh with ⟨e, rfl⟩ | ⟨e, rfl⟩
      · exact ⟨h1, Nat.succ_le_succ h2⟩
      · exact ⟨h1, Nat.succ_le_succ h2⟩
noncomputable def rEqD (neg : Bool) : R2 := fun x y H Q => ∃ n m d e, RepD H n x d ∧ RepD H m y e ∧ n ≤ 50 ∧ Q (.bl (if neg then !PyData.eqv d e else PyData.eqv d e)) H
theorem op_eqD {k : Nat} (hr : Room k X.A) : OpR X (compareOp .Eq) (rEqD false) := by
  intro pins s σ H x y v u Q I rx ry h
  obtain ⟨n, m, d, e, h1, h2, hn, q⟩ := h
  obtain ⟨as, ra⟩ := RepD.reads I n h1 rx
  obtain ⟨bs, rb⟩ := RepD.reads I m h2 ry
  have l1 := RepD.lay n h1
  have l2 := RepD.lay m h2
  have hu := hr.units
  have hm : min d.depth e.depth ≤ 50 := Nat.le_trans (Nat.min_le_left _ _) (Nat.le_trans l1.2 hn)
  exact SeqAt.compareEq_reads ra rb l1.1 l2.1 (by omega) ⟨.bl _, H, I, rfl, q⟩
theorem op_neD {k : Nat} (hr : Room k X.A) : OpR X (compareOp .NotEq) (rEqD true) := by
  intro pins s σ H x y v u Q I rx ry h
  obtain ⟨n, m, d, e, h1, h2, hn, q⟩ := h
  obtain ⟨as, ra⟩ := RepD.reads I n h1 rx
  obtain ⟨bs, rb⟩ := RepD.reads I m h2 ry
  have l1 := RepD.lay n h1
  have l2 := RepD.lay m h2
  have hu := hr.units
  have hm : min d.depth e.depth ≤ 50 := Nat.le_trans (Nat.min_le_left _ _) (Nat.le_trans l1.2 hn)
  exact SeqAt.compareNe_reads ra rb l1.1 l2.1 (by omega) ⟨.bl _, H, I, rfl, q⟩
end
end L2
set_option Elab.async false
set_option linter.all false
set_option maxRecDepth 100000
set_option maxHeartbeats 4000000
namespace L2
open PySem PySem.Spec PyProof.Rows
noncomputable def rAllL (K : PySem.W.Frag) : List V → Hp → VK → Prop := fun xs H Q => ∃ (p : Addr) (bs : List Bool), xs = [.ref p] ∧ SqL K H p (bs.map V.bl) ∧ Q (.bl (bs.all id)) H
theorem vals_bools : ∀ {bs : List Bool} {us : List Value}, Vals (bs.map V.bl) us → us = bs.map Value.bool
  | [], _, r => by cases r; rfl
  | b :: bs, _, r => by
    cases r with
    | cons r t => cases r; rw [vals_bools t]; rfl
theorem all_range (bs : List Bool) : ((List.range bs.length).all fun i => bs.getD i false) = bs.all id := by
  rw [Bool.eq_iff_iff, List.all_eq_true, List.all_eq_true]
  constructor
  · intro h b hb
    obtain ⟨i, hi, e⟩ := List.mem_iff_getElem.mp hb
    have := h i (List.mem_range.mpr hi)
    rw [List.getD_eq_getElem?_getD, List.getElem?_eq_getElem hi] at this
    rw [← e]
    exact this
  · intro h i hi
    have hi' := List.mem_range.mp hi
    rw [List.getD_eq_getElem?_getD, List.getElem?_eq_getElem hi']
    exact h _ (List.getElem_mem hi')
theorem call_allL {X : Cx} (K : PySem.W.Frag) (hc : X.calm = true) (hK : X.K = K := by rfl) : CallR X (.builtin "all") (rAllL K) := by
  subst hK
  intro pins s σ H xs us Q I r h
  obtain ⟨p, bs, rfl, hq, q⟩ := h
  obtain ⟨u, rfl, rx⟩ := vals1 r
  cases rx
  obtain ⟨its, rv, pl, hz⟩ := I.list hq
  have eb := vals_bools rv
  have hne : p ≠ s.heap.objs.size := Nat.ne_of_lt (by obtain ⟨o, n, e, _⟩ := pl; exact Heap.lt_size e)
  refine call_all_walk (wpAny_pyIter_list pl.isList ?_)
  have I1 : Inv X pins σ H { s with heap := s.heap.push { cls := .type "list_iterator", data := .fields #[.ref p, .int 0 0] } } := I.kept (t' := s.toks) fun b o e => Heap.get?_push_of_some _ e
  have hf := I.fpOk (H' := H) (Nat.le_refl s.heap.objs.size) I.fresh
  refine ⟨s.heap.objs.size, _, _, _, _, _, (fun i => bs.getD i false), rfl, Walks.list (A := X.A.in1) (I.ok.hd hc) _ p hne its.toArray, ⟨⟨_, Heap.get?_push_size _ rfl, rfl, rfl⟩, ?_⟩, ?_, fun h' tk hk => ?_⟩
  · exact pl.isList.push _
  · intro i v s' Q' E' hv hQ
    rw [eb] at hv
    have hv' : (bs.map Value.bool)[i]? = some v := by simpa using hv
    rw [List.getElem?_map] at hv'
    cases eg : bs[i]? with
    | none => rw [eg] at hv'; cases hv'
    | some b =>
      rw [eg] at hv'
      cases hv'
      have eb' : bs.getD i false = b := by rw [List.getD_eq_getElem?_getD, eg]; rfl
      have hQ' : Q' (bs.getD i false) s' := hQ
      rw [eb'] at hQ'
      exact wpAny_truthy_bool hQ'
  · obtain ⟨f0, f1, f2, f3, f4, f5⟩ := hf
    have hl := rv.length
    rw [List.length_map] at hl
    refine ⟨.bl (bs.all id), H, I1.turned (it := s.heap.objs.size) (fun b o hb e => hk b o (by simpa using hb) e) f0 f1 f3 f4 f5, ?_, q⟩
    show Value.bool _ = Value.bool _
    rw [List.size_toArray, ← hl, all_range]
end L2
set_option Elab.async false
set_option linter.all false
set_option maxRecDepth 100000
set_option maxHeartbeats 4000000
namespace L2
open PySem PySem.Spec PyProof.Rows
section
variable {D : Ends} {σ : St} {H : Hp} {Q : VK} {te : TE} {t : TS} {c : TT}
end
section
variable {prog : Program} {w : World} {A : Around} {E : Value → Shared → Prop} {s : Shared}
theorem next_tup {it t : Addr} {i : Nat} {ys : Array Value} {x : Value} {Q : Value → Shared → Prop} (gi : s.heap.IsTupleIter it t i) (gt : s.heap.IsTuple t ys) (gx : ys[i]? = some x)
    (q : ∀ h', h'.IsTupleIter it t (i + 1) → Heap.SameBut it s.heap h' → Q x { s with heap := h' }) : wpAny (model prog w) A (Builtin.SmallTypes.nextOf (.ref it)) Q E s := by
  obtain ⟨u, gu, gc, gd⟩ := id gi
  obtain ⟨v, gv, _, k, gk⟩ := gt
  unfold Builtin.SmallTypes.nextOf
  refine wpAny_bind (wpAny_callSpecial?_slot (name := Str.ofString "__next__") gi.typeIs F.slot_tuple_iterator_next (wpAny_call_entry F.slot_tuple_iterator_next gi.typeIs F.entry_tuple_iterator_next ?_ (F.args_tuple_iterator_next_1 _)))
  show wpAny _ _ (field (Value.ref it) 0 >>= _) _ _ s
  refine wpAny_bind (wpAny_field gu gd (x := Value.ref t) rfl ?_)
  show wpAny _ _ (if (Value.ref t == Value.none) = true then _ else _) _ _ s
  rw [if_neg (show ¬ (Value.ref t == Value.none) = true from Bool.false_ne_true)]
  show wpAny _ _ (field (Value.ref it) 1 >>= _) _ _ s
  refine wpAny_bind (wpAny_field gu gd (x := Value.int i 0) rfl ?_)
  show wpAny _ _ (seqItems? (Value.ref t) >>= _) _ _ s
  refine wpAny_bind (wpAny_seqItems gv gk ?_)
  simp only [Int.toNat_natCast, gx]
  refine wpAny_bind (wpAny_setField gu gd (by simp) (wpAny_pure ⟨x, rfl, wpAny_pure (q _ ?_ (Heap.SameBut.update ..))⟩))
  exact ⟨_, Heap.get?_update_self _ gu (Obj.isFreed_of_fields (Obj.data_mapFields gd _)), (Obj.cls_mapFields ..).trans gc, by rw [Obj.data_mapFields gd]; simp [rawInt]⟩
theorem stop_tup {it t : Addr} {i : Nat} {ys : Array Value} {Q : Value → Shared → Prop} (hA : A.handled = none) (gi : s.heap.IsTupleIter it t i) (gt : s.heap.IsTuple t ys) (gx : ys[i]? = none)
    (q : ∀ h' e, Heap.ExtBut it s.heap h' → (∃ o, h'.get? e = some o ∧ o.cls = .type "StopIteration") → E (.ref e) { s with heap := h' }) : wpAny (model prog w) A (Builtin.SmallTypes.nextOf (.ref it)) Q E s := by
  obtain ⟨u, gu, gc, gd⟩ := id gi
  obtain ⟨v, gv, _, k, gk⟩ := gt
  unfold Builtin.SmallTypes.nextOf
  refine wpAny_bind (wpAny_callSpecial?_slot (name := Str.ofString "__next__") gi.typeIs F.slot_tuple_iterator_next (wpAny_call_entry F.slot_tuple_iterator_next gi.typeIs F.entry_tuple_iterator_next ?_ (F.args_tuple_iterator_next_1 _)))
  show wpAny _ _ (field (Value.ref it) 0 >>= _) _ _ s
  refine wpAny_bind (wpAny_field gu gd (x := Value.ref t) rfl ?_)
  show wpAny _ _ (if (Value.ref t == Value.none) = true then _ else _) _ _ s
  rw [if_neg (show ¬ (Value.ref t == Value.none) = true from Bool.false_ne_true)]
  show wpAny _ _ (field (Value.ref it) 1 >>= _) _ _ s
  refine wpAny_bind (wpAny_field gu gd (x := Value.int i 0) rfl ?_)
  show wpAny _ _ (seqItems? (Value.ref t) >>= _) _ _ s
  refine wpAny_bind (wpAny_seqItems gv gk ?_)
  simp only [Int.toNat_natCast, gx]
  refine wpAny_bind (wpAny_rule (wpAny_bind (wpAny_setField gu gd (by simp) ?_)))
  show wpAny _ _ (newExc (Value.type "StopIteration") [] >>= _) _ _ _
  refine wpAny_bind ?_
  simp only [newExc, newTuple]
  refine wpAny_bind (wpAny_newObj_type (hd := by size_fits) ?_)
  refine wpAny_bind (m := firstArgMember _ _) (wpAny_of_eq (a := Value.none) (by first | rfl | (unfold firstArgMember; rfl)) ?_)
  refine wpAny_newObj_type (hd := by size_fits) ?_
  simp only [raiseNew]
  refine wpAny_bind (wpAny_handled ?_)
  first | rw [show Around.handled A.in1 = none from hA] | rw [hA]
  refine wpAny_bind (wpAny_pure (wpAny_throw ?_))
  exact q _ _ (((Heap.SameBut.update ..).extBut.push _).push _) ⟨_, Heap.get?_push_size _ rfl, rfl⟩
end
structure Sub (P : Program) (w : World) (K : PySem.W.Frag) (J : It) (it : Addr) (tn : Nat → Heap → Prop) : Prop where
  obj : ∀ i h, tn i h → ∃ o, h.get? it = some o ∧ ∀ v, o.data ≠ .cell v
  keep : ∀ i h h', tn i h → (∀ o, h.get? it = some o → h'.get? it = some o) → tn i h'
  item : ∀ (X : Cx), X.prog = P → X.w = w → X.K = K → ∀ (A : Around) (i : Nat) (pins : List (Addr × Obj)) (s : Shared) (σ : St) (H : Hp) (Q : Value → Shared → Prop) (E : Value → Shared → Prop), Inv X pins σ H s → FpOk X pins H it → tn i s.heap → J.go i H →
    (∀ x u h', Inv X pins σ H { s with heap := h' } → RelV x u → J.yld i H x H → tn (i + 1) h' → Heap.SameBut it s.heap h' → Q u { s with heap := h' }) → wpAny (model P w) A (Builtin.SmallTypes.nextOf (.ref it)) Q E s
  done : ∀ (X : Cx), X.prog = P → X.w = w → X.K = K → ∀ (A : Around), A.handled = none → ∀ (i : Nat) (pins : List (Addr × Obj)) (s : Shared) (σ : St) (H : Hp) (Q : Value → Shared → Prop) (E : Value → Shared → Prop), Inv X pins σ H s → FpOk X pins H it → tn i s.heap → J.stop i H →
    (∀ h' e, Heap.ExtBut it s.heap h' → (∃ o, h'.get? e = some o ∧ o.cls = .type "StopIteration") → E (.ref e) { s with heap := h' }) → wpAny (model P w) A (Builtin.SmallTypes.nextOf (.ref it)) Q E s
theorem sub_list {P : Program} {w : World} {K : PySem.W.Frag} (a it : Addr) : Sub P w K (Itl K a) it (fun i h => h.IsListIter it a i) where
  obj := fun i h st => by
    obtain ⟨o, e, c, d⟩ := st
    exact ⟨o, e, fun v z => by rw [d] at z; cases z⟩
  keep := fun i h h' st k => st.at k
  item := by
    intro X hP hw hK A i pins s σ H Q E I hf st hg hQ
    subst hP hw hK
    obtain ⟨xs, x, hq, hx⟩ := hg
    obtain ⟨its, rv, p, hz⟩ := I.list hq
    obtain ⟨u, hu, ru⟩ := rv.get hx
    obtain ⟨f0, f1, f2, f3, f4, f5⟩ := hf
    exact wpAny_nextOf_list_item st p.isList (x := u) (by simpa using hu) fun h' st' sb => hQ x u h' (I.turned (t' := s.toks) (it := it) (fun b o hb e => (sb.2 b hb).trans e) f0 f1 f3 f4 f5) ru ⟨rfl, fun ys hy => by rw [I.list_inj hy hq]; exact hx⟩ st' sb
  done := by
    intro X hP hw hK A hA i pins s σ H Q E I hf st hg hE
    subst hP hw hK
    obtain ⟨xs, hq, hx⟩ := hg
    obtain ⟨its, rv, p, hz⟩ := I.list hq
    have hl := rv.length
    exact wpAny_nextOf_list_end hA st p.isList (by simp; omega) hE
theorem sub_tup {P : Program} {w : World} {K : PySem.W.Frag} (a it : Addr) : Sub P w K (Itt K a) it (fun i h => h.IsTupleIter it a i) where
  obj := fun i h st => by
    obtain ⟨o, e, c, d⟩ := st
    exact ⟨o, e, fun v z => by rw [d] at z; cases z⟩
  keep := fun i h h' st k => st.at k
  item := by
    intro X hP hw hK A i pins s σ H Q E I hf st hg hQ
    subst hP hw hK
    obtain ⟨xs, x, hq, hx⟩ := hg
    obtain ⟨its, rv, p, hz⟩ := I.tuple hq
    obtain ⟨u, hu, ru⟩ := rv.get hx
    obtain ⟨f0, f1, f2, f3, f4, f5⟩ := hf
    exact next_tup st (show s.heap.IsTuple a its.toArray from p) (x := u) (by simpa using hu) fun h' st' sb => hQ x u h' (I.turned (t' := s.toks) (it := it) (fun b o hb e => (sb.2 b hb).trans e) f0 f1 f3 f4 f5) ru ⟨rfl, fun ys hy => by rw [I.tuple_inj hy hq]; exact hx⟩ st' sb
  done := by
    intro X hP hw hK A hA i pins s σ H Q E I hf st hg hE
    subst hP hw hK
    obtain ⟨xs, hq, hx⟩ := hg
    obtain ⟨its, rv, p, hz⟩ := I.tuple hq
    have hl := rv.length
    exact stop_tup hA st (show s.heap.IsTuple a its.toArray from p) (by simp; omega) hE
noncomputable def Itz (J1 J2 : It) : It := ⟨fun i H => J1.go i H ∧ J2.go i H, fun i H x H' => ∃ p u v, x = .ref p ∧ H p = none ∧ H' = upd H p (.tup [u, v]) ∧ J1.yld i H u H ∧ J2.yld i H v H, fun i H => J1.stop i H ∨ (J1.go i H ∧ J2.stop i H)⟩
structure Apart (z TI TO i1 i2 : Addr) : Prop where
  a : TI ≠ z
  b : TO ≠ z
  c : i1 ≠ z
  d : i2 ≠ z
  e : TI ≠ TO
  f : TI ≠ i1
  g : TI ≠ i2
  h : TO ≠ i1
  i : TO ≠ i2
  j : i1 ≠ i2
section
variable {X : Cx} {pins : List (Addr × Obj)} {σ : St} {H : Hp} {s : Shared}
theorem Inv.same {it : Addr} {k h' : Heap} (I : Inv X pins σ H { s with heap := k }) (f : FpOk X pins H it) (b : Heap.ExtBut it k h') : Inv X pins σ H { s with heap := h' } := by
  obtain ⟨f0, f1, f2, f3, f4, f5⟩ := f
  exact Inv.turned (s := { s with heap := k }) (t' := s.toks) (it := it) I (fun c o hb e => b c o hb e) f0 f1 f3 f4 f5
theorem zip_step {J1 J2 : It} {z TI TO i1 i2 : Addr} {t1 t2 : Nat → Heap → Prop} {A : Around} {E : Value → Shared → Prop} {a b : Value} {i : Nat} {Q : Value → Shared → Prop} (S1 : Sub X.prog X.w X.K J1 i1 t1) (S2 : Sub X.prog X.w X.K J2 i2 t2) (N : Apart z TI TO i1 i2)
    (I : Inv X pins σ H s) (hf : ∀ b ∈ [z, TI, TO, i1, i2], FpOk X pins H b) (gz : IsZip s.heap z TI TO .none) (gI : IsPair s.heap TI (.ref i1) (.ref i2)) (gO : IsPair s.heap TO a b) (g1 : t1 i s.heap) (g2 : t2 i s.heap) (go1 : J1.go i H) (go2 : J2.go i H)
    (q : ∀ x y h', Inv X pins σ (upd H s.heap.objs.size (.tup [x, y])) { s with heap := h' } → J1.yld i H x H → J2.yld i H y H → IsZip h' z TI TO (rawInt s.heap.objs.size) → IsPair h' TI (.ref i1) (.ref i2) → (∃ a b, IsPair h' TO a b) → t1 (i + 1) h' → t2 (i + 1) h' → Q (.ref s.heap.objs.size) { s with heap := h' }) :
    wpAny (model X.prog X.w) A (Builtin.«zip.__next__» ⟨[.ref z], []⟩) (fun fin s' => ∃ v, fin = .done (.ret v) ∧ Q v s') E s := by
  have fz := hf z (by simp)
  have fO := hf TO (by simp)
  have f1 := hf i1 (by simp)
  have f2 := hf i2 (by simp)
  show wpAny _ _ (field (Value.ref z) 2 >>= _) _ _ _
  refine wpAny_bind (wpAny_field gz rfl (x := Value.bool false) rfl ?_)
  show wpAny _ _ (field (Value.ref z) 3 >>= _) _ _ _
  refine wpAny_bind (wpAny_field gz rfl (x := Value.ref TI) rfl ?_)
  refine wpAny_bind (wpAny_seqItems gI rfl ?_)
  show wpAny _ _ (Builtin.SmallTypes.ownedTupleIsFree (Value.ref z) >>= _) _ _ _
  refine wpAny_bind ?_
  unfold Builtin.SmallTypes.ownedTupleIsFree
  refine wpAny_bind (wpAny_field gz rfl (x := Value.none) rfl (wpAny_pure ?_))
  simp only [if_true]
  refine wpAny_bind (wpAny_rule ?_)
  refine wpAny_bind (wpAny_field gz rfl (x := Value.ref TO) rfl ?_)
  refine wpAny_bind (wpAny_setField_rec gz (by simp) fun k1 gz1 b1 => ?_)
  replace gz1 : IsZip k1 z TI TO .ellipsis := gz1
  have s1 := b1.1
  replace b1 := b1.extBut
  have I1 : Inv X pins σ H { s with heap := k1 } := Inv.same (show Inv X pins σ H { s with heap := s.heap } from I) fz b1
  refine wpAny_bind ?_
  simp only [List.zipIdx_cons, List.zipIdx_nil, List.forIn_cons, List.forIn_nil]
  refine wpAny_bind (wpAny_bind (wpAny_onRaise ?_))
  show wpAny _ _ (Builtin.SmallTypes.nextOf (Value.ref i1) >>= _) _ _ _
  refine wpAny_bind (S1.item X rfl rfl rfl _ i pins _ σ H _ _ I1 f1 (S1.keep i _ _ g1 fun o e => b1 _ _ N.c e) go1 fun x ux k2 I2 rx yx t12 b2 => wpAny_pure ?_)
  replace I2 : Inv X pins σ H { s with heap := k2 } := I2
  have s2 := b2.1
  replace b2 := b2.extBut
  have gO2 : IsPair k2 TO a b := b2 _ _ N.h (b1 _ _ N.b gO)
  refine wpAny_bind (wpAny_seqItems gO2 rfl ?_)
  refine wpAny_bind (wpAny_updateSeq_pair gO2 fun k3 gO3 b3 => ?_)
  replace gO3 : IsPair k3 TO ux b := gO3
  have s3 := b3.1
  replace b3 := b3.extBut
  have I3 : Inv X pins σ H { s with heap := k3 } := Inv.same I2 fO b3
  refine wpAny_bind (wpAny_letGo (wpAny_pure ?_))
  refine wpAny_bind (wpAny_bind (wpAny_onRaise ?_))
  show wpAny _ _ (Builtin.SmallTypes.nextOf (Value.ref i2) >>= _) _ _ _
  refine wpAny_bind (S2.item X rfl rfl rfl _ i pins _ σ H _ _ I3 f2 (S2.keep i _ _ g2 fun o e => b3 _ _ (Ne.symm N.i) (b2 _ _ (Ne.symm N.j) (b1 _ _ N.d e))) go2 fun y uy k4 I4 ry yy t24 b4 => wpAny_pure ?_)
  replace I4 : Inv X pins σ H { s with heap := k4 } := I4
  have s4 := b4.1
  replace b4 := b4.extBut
  have gO4 : IsPair k4 TO ux b := b4 _ _ N.i gO3
  refine wpAny_bind (wpAny_seqItems gO4 rfl ?_)
  refine wpAny_bind (wpAny_updateSeq_pair gO4 fun k5 gO5 b5 => ?_)
  replace gO5 : IsPair k5 TO ux uy := gO5
  have s5 := b5.1
  replace b5 := b5.extBut
  have I5 : Inv X pins σ H { s with heap := k5 } := Inv.same I4 fO b5
  refine wpAny_bind (wpAny_letGo (wpAny_pure (wpAny_pure ?_)))
  refine wpAny_bind (wpAny_seqItems gO5 rfl ?_)
  refine wpAny_bind (wpAny_newTuple ?_)
  have sz : k5.objs.size = s.heap.objs.size := by rw [s5, s4, s3, s2, s1]
  have gz5 : IsZip k5 z TI TO .ellipsis := b5 _ _ (Ne.symm N.b) (b4 _ _ (Ne.symm N.d) (b3 _ _ (Ne.symm N.b) (b2 _ _ (Ne.symm N.c) gz1)))
  have gI5 : IsPair k5 TI (.ref i1) (.ref i2) := b5 _ _ N.e (b4 _ _ N.g (b3 _ _ N.e (b2 _ _ N.f (b1 _ _ N.a gI))))
  have t15 : t1 (i + 1) k5 := S1.keep _ _ _ (S1.keep _ _ _ (S1.keep _ _ _ t12 fun o e => b3 _ _ (Ne.symm N.h) e) fun o e => b4 _ _ N.j e) fun o e => b5 _ _ (Ne.symm N.h) e
  have t25 : t2 (i + 1) k5 := S2.keep _ _ _ t24 fun o e => b5 _ _ (Ne.symm N.i) e
  have lz : z < k5.objs.size := Heap.lt_size gz5
  have I6 : Inv X pins σ (upd H k5.objs.size (.tup [x, y])) { s with heap := k5.push { cls := .type "tuple", data := .seq #[ux, uy] } } :=
    I5.laid (t' := s.toks) (o := .tup [x, y]) (fun b ob e => Heap.get?_push_of_some _ e) (Nat.le_refl _) ⟨by show 2 ≤ sizeLine; decide, [ux, uy], .cons rx (.cons ry .nil), IsTup.new _ _⟩
  have fz6 : FpOk X pins (upd H k5.objs.size (.tup [x, y])) z := by
    obtain ⟨c0, c1, c2, c3, c4, c5⟩ := fz
    exact ⟨by rw [upd_ne (Nat.ne_of_lt lz)]; exact c0, c1, c2, c3, c4, c5⟩
  show wpAny _ _ (Builtin.SmallTypes.ownedTupleHandOut (Value.ref z) (Value.ref k5.objs.size) >>= _) _ _ _
  refine wpAny_bind ?_
  unfold Builtin.SmallTypes.ownedTupleHandOut
  have gz6 : IsZip (k5.push { cls := .type "tuple", data := .seq #[ux, uy] }) z TI TO .ellipsis := Heap.get?_push_of_some _ gz5
  refine wpAny_bind (wpAny_setField_rec gz6 (by simp) fun k7 gz7 b7 => ?_)
  replace gz7 : IsZip k7 z TI TO (rawInt k5.objs.size) := gz7
  replace b7 := b7.extBut
  have I7 : Inv X pins σ (upd H k5.objs.size (.tup [x, y])) { s with heap := k7 } := Inv.same I6 fz6 b7
  refine wpAny_setField_rec gz7 (by simp) fun k8 gz8 b8 => ?_
  replace gz8 : IsZip k8 z TI TO (rawInt k5.objs.size) := gz8
  replace b8 := b8.extBut
  have I8 : Inv X pins σ (upd H k5.objs.size (.tup [x, y])) { s with heap := k8 } := Inv.same I7 fz6 b8
  have up : ∀ b o, b ≠ z → k5.get? b = some o → k8.get? b = some o := fun b o ne e => b8 _ _ ne (b7 _ _ ne (Heap.get?_push_of_some _ e))
  rw [sz] at I8 gz8
  refine wpAny_pure ⟨_, rfl, ?_⟩
  show Q (.ref k5.objs.size) _
  rw [sz]
  exact q x y k8 I8 yx yy gz8 (up _ _ N.a gI5) ⟨_, _, up _ _ N.b gO5⟩ (S1.keep _ _ _ t15 fun o e => up _ o N.c e) (S2.keep _ _ _ t25 fun o e => up _ o N.d e)
theorem zip_stop {J1 J2 : It} {z TI TO i1 i2 : Addr} {t1 t2 : Nat → Heap → Prop} {A : Around} {E : Value → Shared → Prop} {a b : Value} {i : Nat} {Q : Fin → Shared → Prop} (hA : A.handled = none) (S1 : Sub X.prog X.w X.K J1 i1 t1) (S2 : Sub X.prog X.w X.K J2 i2 t2) (N : Apart z TI TO i1 i2)
    (I : Inv X pins σ H s) (hf : ∀ b ∈ [z, TI, TO, i1, i2], FpOk X pins H b) (gz : IsZip s.heap z TI TO .none) (gI : IsPair s.heap TI (.ref i1) (.ref i2)) (gO : IsPair s.heap TO a b) (g1 : t1 i s.heap) (g2 : t2 i s.heap) (st : J1.stop i H ∨ (J1.go i H ∧ J2.stop i H))
    (q : ∀ h' e, Inv X pins σ H { s with heap := h' } → (∃ o, h'.get? e = some o ∧ o.cls = .type "StopIteration") → E (.ref e) { s with heap := h' }) :
    wpAny (model X.prog X.w) A (Builtin.«zip.__next__» ⟨[.ref z], []⟩) Q E s := by
  have fz := hf z (by simp)
  have fO := hf TO (by simp)
  have f1 := hf i1 (by simp)
  have f2 := hf i2 (by simp)
  show wpAny _ _ (field (Value.ref z) 2 >>= _) _ _ _
  refine wpAny_bind (wpAny_field gz rfl (x := Value.bool false) rfl ?_)
  show wpAny _ _ (field (Value.ref z) 3 >>= _) _ _ _
  refine wpAny_bind (wpAny_field gz rfl (x := Value.ref TI) rfl ?_)
  refine wpAny_bind (wpAny_seqItems gI rfl ?_)
  show wpAny _ _ (Builtin.SmallTypes.ownedTupleIsFree (Value.ref z) >>= _) _ _ _
  refine wpAny_bind ?_
  unfold Builtin.SmallTypes.ownedTupleIsFree
  refine wpAny_bind (wpAny_field gz rfl (x := Value.none) rfl (wpAny_pure ?_))
  simp only [if_true]
  refine wpAny_bind (wpAny_rule ?_)
  refine wpAny_bind (wpAny_field gz rfl (x := Value.ref TO) rfl ?_)
  refine wpAny_bind (wpAny_setField_rec gz (by simp) fun k1 gz1 b1 => ?_)
  replace gz1 : IsZip k1 z TI TO .ellipsis := gz1
  replace b1 := b1.extBut
  have I1 : Inv X pins σ H { s with heap := k1 } := Inv.same (show Inv X pins σ H { s with heap := s.heap } from I) fz b1
  refine wpAny_bind ?_
  simp only [List.zipIdx_cons, List.zipIdx_nil, List.forIn_cons, List.forIn_nil]
  refine wpAny_bind (wpAny_bind (wpAny_onRaise ?_))
  show wpAny _ _ (Builtin.SmallTypes.nextOf (Value.ref i1) >>= _) _ _ _
  have t11 : t1 i k1 := S1.keep i _ _ g1 fun o e => b1 _ _ N.c e
  rcases st with st | ⟨go, st⟩
  · refine wpAny_bind (S1.done X rfl rfl rfl _ hA i pins _ σ H _ _ I1 f1 t11 st fun k2 e b2 he => ?_)
    obtain ⟨oe, hoe, hce⟩ := he
    have gz2 : IsZip k2 z TI TO .ellipsis := b2 _ _ (Ne.symm N.c) gz1
    have I2 : Inv X pins σ H { s with heap := k2 } := Inv.same I1 f1 b2
    have ne : e ≠ z := fun x => by subst x; rw [gz2] at hoe; cases hoe; simp at hce
    exact wpAny_setField_rec gz2 (by simp) fun k3 _ b3 => q k3 e (Inv.same I2 fz b3.extBut) ⟨oe, b3.extBut _ _ ne hoe, hce⟩
  · refine wpAny_bind (S1.item X rfl rfl rfl _ i pins _ σ H _ _ I1 f1 t11 go fun x ux k2 I2 rx yx t12 b2 => wpAny_pure ?_)
    replace I2 : Inv X pins σ H { s with heap := k2 } := I2
    replace b2 := b2.extBut
    have gO2 : IsPair k2 TO a b := b2 _ _ N.h (b1 _ _ N.b gO)
    refine wpAny_bind (wpAny_seqItems gO2 rfl ?_)
    refine wpAny_bind (wpAny_updateSeq_pair gO2 fun k3 gO3 b3 => ?_)
    replace b3 := b3.extBut
    have I3 : Inv X pins σ H { s with heap := k3 } := Inv.same I2 fO b3
    refine wpAny_bind (wpAny_letGo (wpAny_pure ?_))
    refine wpAny_bind (wpAny_bind (wpAny_onRaise ?_))
    show wpAny _ _ (Builtin.SmallTypes.nextOf (Value.ref i2) >>= _) _ _ _
    refine wpAny_bind (S2.done X rfl rfl rfl _ hA i pins _ σ H _ _ I3 f2 (S2.keep i _ _ g2 fun o e => b3 _ _ (Ne.symm N.i) (b2 _ _ (Ne.symm N.j) (b1 _ _ N.d e))) st fun k4 e b4 he => ?_)
    obtain ⟨oe, hoe, hce⟩ := he
    have gz4 : IsZip k4 z TI TO .ellipsis := b4 _ _ (Ne.symm N.d) (b3 _ _ (Ne.symm N.b) (b2 _ _ (Ne.symm N.c) gz1))
    have I4 : Inv X pins σ H { s with heap := k4 } := Inv.same I3 f2 b4
    have ne : e ≠ z := fun x => by subst x; rw [gz4] at hoe; cases hoe; simp at hce
    exact wpAny_setField_rec gz4 (by simp) fun k5 _ b5 => q k5 e (Inv.same I4 fz b5.extBut) ⟨oe, b5.extBut _ _ ne hoe, hce⟩
end
theorem turn_zip {P : Program} {w : World} {K : PySem.W.Frag} {elts : List Expr} {kk : Nat} {ps : Pos} {J1 J2 : It} {z TI TO i1 i2 : Addr} {t1 t2 : Nat → Heap → Prop} (S1 : Sub P w K J1 i1 t1) (S2 : Sub P w K J2 i2 t2) (N : Apart z TI TO i1 i2) :
    Turn P w K (.Tuple elts kk ps) (Itz J1 J2) [z, TI, TO, i1, i2] z (fun i h => IsZip h z TI TO .none ∧ IsPair h TI (.ref i1) (.ref i2) ∧ (∃ a b, IsPair h TO a b) ∧ t1 i h ∧ t2 i h) where
  mem := by simp
  obj := fun i h st b hb => by
    obtain ⟨gz, gI, ⟨a, c, gO⟩, g1, g2⟩ := st
    simp only [List.mem_cons, List.not_mem_nil, or_false] at hb
    rcases hb with rfl | rfl | rfl | rfl | rfl
    · exact ⟨_, gz, fun v e => by cases (show Data.fields _ = Data.cell v from e)⟩
    · exact ⟨_, gI, fun v e => by cases (show Data.seq _ _ = Data.cell v from e)⟩
    · exact ⟨_, gO, fun v e => by cases (show Data.seq _ _ = Data.cell v from e)⟩
    · exact S1.obj _ _ g1
    · exact S2.obj _ _ g2
  keep := fun i h h' st k => by
    obtain ⟨gz, gI, ⟨a, c, gO⟩, g1, g2⟩ := st
    exact ⟨k z (by simp) _ gz, k TI (by simp) _ gI, ⟨a, c, k TO (by simp) _ gO⟩, S1.keep _ _ _ g1 fun o e => k i1 (by simp) o e, S2.keep _ _ _ g2 fun o e => k i2 (by simp) o e⟩
  item := by
    intro X hP hw hK hc i pins s σ H E I hf st hg
    subst hP hw hK
    obtain ⟨gz, gI, ⟨a, c, gO⟩, g1, g2⟩ := st
    have gT : s.TypeIs (.ref z) "zip" := ⟨_, gz, rfl⟩
    unfold pyNext
    refine wpAny_bind (wpAny_attempt (wpAny_callSpecial?_slot (name := Str.ofString "__next__") gT F.slot_zip_next (wpAny_call_entry F.slot_zip_next gT F.entry_zip_next
      (zip_step S1 S2 N I hf gz gI gO g1 g2 hg.1 hg.2 fun x y h' I' yx yy gz' gI' gO' g1' g2' => wpAny_pure ⟨_, rfl, ?_⟩) (F.args_zip_next_1 _))))
    have lt : ∀ b ∈ [z, TI, TO, i1, i2], b ≠ s.heap.objs.size := fun b hb => by
      obtain ⟨f0, f1, f2, f3, f4, f5⟩ := hf b hb
      simp only [List.mem_cons, List.not_mem_nil, or_false] at hb
      rcases hb with rfl | rfl | rfl | rfl | rfl
      · exact Nat.ne_of_lt (Heap.lt_size gz)
      · exact Nat.ne_of_lt (Heap.lt_size gI)
      · exact Nat.ne_of_lt (Heap.lt_size gO)
      · obtain ⟨o, e, _⟩ := S1.obj _ _ g1; exact Nat.ne_of_lt (Heap.lt_size e)
      · obtain ⟨o, e, _⟩ := S2.obj _ _ g2; exact Nat.ne_of_lt (Heap.lt_size e)
    have fz : FpOk X pins (upd H s.heap.objs.size (.tup [x, y])) z := by
      obtain ⟨c0, c1, c2, c3, c4, c5⟩ := hf z (by simp)
      exact ⟨by rw [upd_ne (lt z (by simp))]; exact c0, c1, c2, c3, c4, c5⟩
    obtain ⟨a', c', gO'⟩ := gO'
    refine wpAny_letOwnedTupleGo_zip (s := { s with heap := h' }) gz' fun k gk bk => ?_
    refine ⟨.ref s.heap.objs.size, upd H s.heap.objs.size (.tup [x, y]), Inv.same I' fz bk.extBut, rfl, ⟨_, x, y, rfl, I.hok.fresh (Nat.le_refl _), rfl, yx, yy⟩,
      ⟨gk, bk.extBut _ _ N.a gI', ⟨_, _, bk.extBut _ _ N.b gO'⟩, S1.keep _ _ _ g1' fun o e => bk.extBut _ _ N.c e, S2.keep _ _ _ g2' fun o e => bk.extBut _ _ N.d e⟩, fun b hb => ?_⟩
    rw [upd_ne (lt b hb)]
    exact (hf b hb).1
  done := by
    intro X hP hw hK hc i pins s σ H E I hf st hg
    subst hP hw hK
    obtain ⟨gz, gI, ⟨a, c, gO⟩, g1, g2⟩ := st
    have gT : s.TypeIs (.ref z) "zip" := ⟨_, gz, rfl⟩
    unfold pyNext
    refine wpAny_bind (wpAny_attempt (wpAny_callSpecial?_slot (name := Str.ofString "__next__") gT F.slot_zip_next (wpAny_call_entry F.slot_zip_next gT F.entry_zip_next
      (zip_stop (I.ok.hd hc) S1 S2 N I hf gz gI gO g1 g2 hg fun h' e I' he => ?_) (F.args_zip_next_1 _))))
    obtain ⟨o, ho, hc'⟩ := he
    refine wpAny_bind (wpAny_isInstance (s := { s with heap := h' }) (T := "StopIteration") (b := true) ⟨o, ho, hc'⟩ isSubtype_stop ?_)
    exact wpAny_pure ⟨rfl, I'⟩
  self := fun _ _ _ _ _ st h => wpAny_pyIter_zip st.1 h
noncomputable abbrev zT1 (h : Heap) (a : Addr) : Heap := h.push { cls := .type "tuple_iterator", data := .fields #[.ref a, .int 0 0] }
section
variable {K : PySem.W.Frag} {σ : St} {H : Hp} {Q : VK}
end
noncomputable def rCatT1 : R2 := fun x y H Q => ∃ a b xs ys, x = .ref a ∧ y = .ref b ∧ H a = some (.tup xs) ∧ H b = some (.tup ys) ∧ xs.length + ys.length ≤ sizeLine ∧ ∀ p H', Ext H H' → H' p = some (.tup (xs ++ ys)) → Q (.ref p) H'
theorem op_catT1 {X : Cx} : OpR X (binaryOp .Add) rCatT1 := by
  intro pins s σ H x y v u Q I rx ry h
  obtain ⟨a, b, xs, ys, rfl, rfl, ha, hb, hz, q⟩ := h
  cases rx
  cases ry
  by_cases hx : xs = []
  · subst hx
    obtain ⟨its, r1, p1, _⟩ := I.tuple (SqT.of ha)
    obtain ⟨its2, r2, p2, _⟩ := I.tuple (SqT.of hb)
    have e := r1.nil_iff.mpr rfl
    subst e
    obtain ⟨⟨cls, dd, data, sl⟩, ho, hc, n, hd⟩ := id p1
    obtain ⟨⟨cls2, dd2, data2, sl2⟩, ho2, hc2, n2, hd2⟩ := id p2
    simp only at hc hd hc2 hd2
    subst hc hd hc2 hd2
    refine concat_meets ⟨_, ho, rfl⟩ ⟨_, ho2, rfl⟩ noFill_tuple_add seq_tuple_add PySem.F.slot_tuple_add PySem.F.entry_tuple_add (PySem.F.args_tuple_add_2 _ _)
      (tuple_addW0 a b _ _ n n2 dd dd2 sl sl2 (by simp)) ⟨ho, ho2, ⟨.ref b, H, I, rfl, q b H (fun _ _ h => h) (by simpa using hb)⟩⟩
  · refine op_catT pins s σ H (.ref a) (.ref b) _ _ Q I rfl rfl ⟨a, b, xs, ys, rfl, rfl, SqT.of ha, SqT.of hb, hx, hz, fun hy => ?_, fun hy p hp => ?_⟩
    · subst hy
      exact q a H (fun _ _ h => h) (by simpa using ha)
    · exact q p _ (ext_upd hp) upd_same
theorem rd_catT1 {H : Hp} {Q : VK} {a b : Addr} {xs ys : List V} (ha : H a = some (.tup xs)) (hb : H b = some (.tup ys)) (hz : xs.length + ys.length ≤ sizeLine) (h : ∀ p H', Ext H H' → H' p = some (.tup (xs ++ ys)) → Q (.ref p) H') : rCatT1 (.ref a) (.ref b) H Q := ⟨a, b, xs, ys, rfl, rfl, ha, hb, hz, h⟩
end L2
set_option Elab.async false
set_option linter.all false
set_option maxRecDepth 100000
set_option maxHeartbeats 4000000
namespace L2
open PySem PySem.Spec PyProof.Rows
mutual
inductive LitE : Expr → TE → Prop
  | non {j pos} : LitE (.Constant .none j pos) (tC .non)
  | bl {b j pos} : LitE (.Constant (.bool b) j pos) (tC (.bl b))
  | int {i j pos} : LitE (.Constant (.int i) j pos) (tC (.int i))
  | str {x j pos} : LitE (.Constant (.str x) j pos) (tC (.str x))
  | tup {es ta k pos} : LitsE es ta → LitE (.Tuple es k pos) (tTup ta)
inductive LitsE : List Expr → TA → Prop
  | nil : LitsE [] tNil
  | cons {e te es ta} : LitE e te → LitsE es ta → LitsE (e :: es) (tCons te ta)
end
end L2
set_option Elab.async false
set_option linter.all false
set_option maxRecDepth 100000
set_option maxHeartbeats 4000000
namespace L2
open PySem PySem.Spec PyProof.Rows
section
variable {X : Cx} {pins : List (Addr × Obj)} {σ : St} {H : Hp} {s : Shared}
end
section
variable {X : Cx} {pins : List (Addr × Obj)} {σ : St} {H : Hp} {s : Shared}
end
end L2
set_option Elab.async false
set_option linter.all false
set_option maxRecDepth 100000
set_option maxHeartbeats 4000000
namespace L2
open PySem PySem.Spec PyProof.Rows
section
variable {P : Program} {w : World} {K : PySem.W.Frag} {mg : Str → Option Value} {base : Heap}
end
end L2
set_option Elab.async false
set_option linter.all false
set_option maxRecDepth 100000
set_option maxHeartbeats 4000000
namespace L2
open PySem PySem.Spec PyProof.Rows
section
variable {prog : Program} {w : World} {A : Around} {E : Value → Shared → Prop}
end
section
variable {X : Cx} {pos : Pos}
end
end L2
set_option Elab.async false
set_option linter.all false
set_option maxRecDepth 100000
set_option maxHeartbeats 4000000
namespace L2
open PySem PySem.Spec PyProof.Rows
section
variable {κ : Type} [DecidableEq κ]
noncomputable def valV (kvs : List (κ × V)) (k : κ) : Option V := (kvs.find? fun kv => decide (kv.1 = k)).map (·.2)
noncomputable def putK (kvs : List (κ × V)) (k : κ) (v : V) : List (κ × V) :=
  if (kvs.any fun kv => decide (kv.1 = k)) = true then kvs.map (fun kv => if kv.1 = k then (kv.1, v) else kv) else kvs ++ [(k, v)]
theorem valV_pos {p : κ × V} {r : List (κ × V)} {k : κ} (e : p.1 = k) : valV (p :: r) k = some p.2 := by simp [valV, List.find?_cons, e]
theorem valV_neg {p : κ × V} {r : List (κ × V)} {k : κ} (e : ¬ p.1 = k) : valV (p :: r) k = valV r k := by simp [valV, List.find?_cons, e]
theorem length_putK (kvs : List (κ × V)) (k : κ) (v : V) : (putK kvs k v).length ≤ kvs.length + 1 := by
  unfold putK
  split
  · rw [List.length_map]; omega
  · rw [List.length_append, List.length_cons, List.length_nil]; omega
theorem RelO.isSome_eq {o : Option V} {u : Option Value} (r : RelO o u) : o.isSome = u.isSome := by
  cases o with
  | none => cases u with
    | none => rfl
    | some _ => exact (show False from r).elim
  | some _ => cases u with
    | none => exact (show False from r).elim
    | some _ => rfl
theorem KV.val {kvs : List (κ × V)} {vs : List (κ × Value)} (r : KV kvs vs) (k : κ) : RelO (valV kvs k) (valueAt vs k) := by
  unfold KV at r
  induction r with
  | nil => exact True.intro
  | @cons p q ps qs h t ih =>
    obtain ⟨h1, h2⟩ := h
    by_cases e : p.1 = k
    · have e' : q.1 = k := h1.symm.trans e
      have b : valueAt (q :: qs) k = some q.2 := by simp [valueAt, List.find?_cons, e']
      rw [valV_pos e, b]; exact h2
    · have e' : ¬ q.1 = k := fun z => e (h1.trans z)
      have b : valueAt (q :: qs) k = valueAt qs k := by simp [valueAt, List.find?_cons, e']
      rw [valV_neg e, b]; exact ih
theorem KV.any {kvs : List (κ × V)} {vs : List (κ × Value)} (r : KV kvs vs) (k : κ) : (kvs.any fun kv => decide (kv.1 = k)) = vs.any fun kv => decide (kv.1 = k) := by
  unfold KV at r
  induction r with
  | nil => rfl
  | cons h t ih => rw [List.any_cons, List.any_cons, ih, h.1]
theorem KV.repl {kvs : List (κ × V)} {vs : List (κ × Value)} (r : KV kvs vs) (k : κ) {y : V} {u : Value} (ry : RelV y u) :
    KV (kvs.map fun kv => if kv.1 = k then (kv.1, y) else kv) (vs.map fun kv => if kv.1 = k then (kv.1, u) else kv) := by
  unfold KV at r ⊢
  induction r with
  | nil => exact .nil
  | @cons p q ps qs h t ih =>
    rw [List.map_cons, List.map_cons]
    refine .cons ?_ ih
    obtain ⟨h1, h2⟩ := h
    by_cases e : p.1 = k
    · rw [if_pos e, if_pos (h1.symm.trans e)]; exact ⟨h1, ry⟩
    · rw [if_neg e, if_neg (fun z => e (h1.trans z))]; exact ⟨h1, h2⟩
theorem KV.put {kvs : List (κ × V)} {vs : List (κ × Value)} (r : KV kvs vs) (k : κ) {y : V} {u : Value} (ry : RelV y u) : KV (putK kvs k y) (stored vs k u) := by
  unfold putK stored
  rw [r.any k]
  by_cases e : (vs.any fun kv => decide (kv.1 = k)) = true
  · rw [if_pos e, if_pos e]; exact r.repl k ry
  · rw [if_neg e, if_neg e]; exact Paired.snoc r ⟨rfl, ry⟩
theorem KV.keys {kvs : List (κ × V)} {vs : List (κ × Value)} (r : KV kvs vs) : kvs.map (·.1) = vs.map (·.1) := by
  unfold KV at r
  induction r with
  | nil => rfl
  | cons h t ih => rw [List.map_cons, List.map_cons, ih, h.1]
end
theorem kV_is {P : Program} {w : World} {k : Key} {u : Value} (r : RelV (kV k) u) : (mixKind P w).is k u = true := by
  cases k with
  | inl i => obtain ⟨t, e⟩ := (show ∃ t, u = Value.int i t from r); subst e; exact mixKind_int P w i t
  | inr x => obtain ⟨t, e⟩ := (show ∃ t, u = Value.str x t from r); subst e; exact mixKind_str P w x t
theorem items_are {P : Program} {w : World} : ∀ {ks : List Key} {us : List Value}, Vals (ks.map kV) us → ItemsAre (mixKind P w) ks us
  | [], _, r => by rw [List.map_nil] at r; cases r; exact .nil
  | k :: ks, _, r => by
    rw [List.map_cons] at r
    cases r with
    | cons h t => exact .cons (kV_is h) (items_are t)
noncomputable abbrev KT (H : Hp) : List (List Key × V) → List (List Key × Addr × Value) → Prop := Paired fun p q => p.1 = q.1 ∧ H q.2.1 = some (.tup (p.1.map kV)) ∧ RelV p.2 q.2.2
theorem KT.val {H : Hp} {kvs : List (List Key × V)} {xs : List (List Key × Addr × Value)} (r : KT H kvs xs) (k : List Key) : RelO (valV kvs k) ((atKey xs k).map (·.2)) := by
  induction r with
  | nil => exact True.intro
  | @cons p q ps qs h t ih =>
    obtain ⟨h1, _, h2⟩ := h
    by_cases e : p.1 = k
    · have e' : q.1 = k := h1.symm.trans e
      have b : atKey (q :: qs) k = some q.2 := by simp [atKey, List.find?_cons, e']
      rw [valV_pos e, b]; exact h2
    · have e' : ¬ q.1 = k := fun z => e (h1.trans z)
      have b : atKey (q :: qs) k = atKey qs k := by simp [atKey, List.find?_cons, e']
      rw [valV_neg e, b]; exact ih
section
variable {P : Program} {w : World} {H : Hp} {h : Heap} {a : Addr}
theorem rd_of {u : HO} (ok : HOk P w H h) (e : Rd H a u) : ObjOk P w H h a u := e.ok ok
theorem dk_rd {kvs : List (Key × V)} (ok : HOk P w H h) (e : Rd H a (.dK kvs)) : kvs.length ≤ sizeLine ∧ (a == sysModules) = false ∧ ∃ vs, KV kvs vs ∧ h.DictOf (mixKind P w) a vs :=
  show ObjOk P w H h a (.dK kvs) from rd_of ok e
theorem dk_of {kvs : List (Key × V)} (ok : HOk P w H h) (e : H a = some (.dK kvs)) : kvs.length ≤ sizeLine ∧ (a == sysModules) = false ∧ ∃ vs, KV kvs vs ∧ h.DictOf (mixKind P w) a vs := dk_rd ok (.inl e)
theorem key_of {ks : List Key} (ok : HOk P w H h) (e : H a = some (.tup (ks.map kV))) : (tupleKind (mixKind P w)).is h ks a := by
  obtain ⟨_, its, r, o, h1, h2, n, h3⟩ := (show ObjOk P w H h a (.tup (ks.map kV)) from ok a _ e)
  exact ⟨o, its.toArray, n, h1, h2, h3, by simpa using items_are r⟩
theorem dt_rd {kvs : List (List Key × V)} (ok : HOk P w H h) (e : Rd H a (.dT kvs)) : kvs.length ≤ sizeLine ∧ (a == sysModules) = false ∧
    ∃ xs, KT H kvs xs ∧ h.DictOfH (tupleKind (mixKind P w)) a xs := by
  obtain ⟨z, y, xs, r, o, es, ep, h1, h2, h3, h4, h5⟩ := (show ObjOk P w H h a (.dT kvs) from rd_of ok e)
  refine ⟨z, y, xs, r, o, es, ep, h1, h2, h3, h4, fun x hx => ?_, h5⟩
  have all : ∀ {l : List (List Key × V)} {m : List (List Key × Addr × Value)}, KT H l m → ∀ x ∈ m, (tupleKind (mixKind P w)).is h x.1 x.2.1 := by
    intro l m q
    induction q with
    | nil => intro x hx; exact nomatch hx
    | @cons p q ps qs hq t ih =>
      intro x hx
      rcases List.mem_cons.mp hx with e | hx
      · subst e
        exact key_of ok (by rw [← hq.1]; exact hq.2.1)
      · exact ih x hx
  exact all r x hx
end
noncomputable def DGet (H : Hp) (a : Addr) (y : V) (r : Option V) : Prop :=
  (∃ kvs k, Rd H a (.dK kvs) ∧ y = kV k ∧ r = valV kvs k) ∨ ∃ kvs k b, Rd H a (.dT kvs) ∧ y = .ref b ∧ H b = some (.tup (k.map kV)) ∧ r = valV kvs k
section
variable {X : Cx} {pins : List (Addr × Obj)} {σ : St} {H : Hp} {s : Shared} {a : Addr} {y v : V} {u r : Value} {o : Option V} {A : Around} {E : Value → Shared → Prop}
theorem Inv.big (I : Inv X pins σ H s) : sysModules < s.heap.objs.size := by
  have h : mainGlobals < s.heap.objs.size := (I.mod.glob.keeps I.bk).lt
  exact Nat.lt_trans (by decide) h
theorem d_getItem {Q : Value → Shared → Prop} (hu : A.units + 1 < cLine) (I : Inv X pins σ H s) (g : DGet H a y (some v)) (ry : RelV y u) (h : ∀ w' s', Inv X pins σ H s' → RelV v w' → Q w' s') :
    wpAny (model X.prog X.w) A (getItem (.ref a) u) Q E s := by
  rcases g with ⟨kvs, k, e, ey, l⟩ | ⟨kvs, k, b, e, ey, eb, l⟩
  · subst ey
    obtain ⟨z, hd, vs, rel, dd⟩ := dk_rd I.hok e
    obtain ⟨w', hw, rw'⟩ := RelO.some_of (v := v) (o := valueAt vs k) (by rw [l]; exact rel.val k)
    exact wpAny_getItem_of (kV_is ry) dd.mapOf hw (h w' _ (I.tok _) rw')
  · subst ey
    cases (show u = Value.ref b from ry)
    obtain ⟨z, hd, xs, rel, dd⟩ := dt_rd I.hok e
    obtain ⟨w', hw, rw'⟩ := RelO.some_of (v := v) (o := (atKey xs k).map (·.2)) (by rw [l]; exact rel.val k)
    obtain ⟨p, hp, hp2⟩ := Option.map_eq_some_iff.mp hw
    refine wpAny_getItem_heap (tupleKind_room_in1 hu) (key_of I.hok eb) dd hp ?_
    rw [hp2]
    exact h w' _ (I.tok _) rw'
theorem d_write {h' : Heap} {t' : Nat} {ob : HO} (I : Inv X pins σ H s) (mu : Mut (H a)) (hs : Heap.SameBut a s.heap h') (he : ∃ q, h'.get? a = some q) (new : ObjOk X.prog X.w (upd H a ob) h' a ob) :
    Inv X pins σ (upd H a ob) { s with heap := h', toks := t' } :=
  I.write (x := a) (e := a) mu (.inl rfl) (fun b q hb z => (hs.2 b hb).trans z) he new
theorem dk_new {P : Program} {w : World} {H' : Hp} {h' : Heap} {kvs : List (Key × V)} {vs : List (Key × Value)} (z : kvs.length ≤ sizeLine) (hd : (a == sysModules) = false) (rel : KV kvs vs) (dd : h'.DictOf (mixKind P w) a vs) :
    ObjOk P w H' h' a (.dK kvs) := ⟨z, hd, vs, rel, dd⟩
end
section
variable {X : Cx} {pins : List (Addr × Obj)} {σ : St} {H : Hp} {s : Shared} {a : Addr} {kvs : List (Key × V)} {k : Key} {u : Value} {A : Around} {E : Value → Shared → Prop}
end
noncomputable def NoSl (i : Expr) : Prop := ∀ ov iv, subscripted i false ov iv = operate [ov, iv] (getItem ov iv)
theorem subD_of {prog : Program} {w : World} {A : Around} {E : Value → Shared → Prop} {s : Shared} {env : Env} {value slice : Expr} {pos : Pos} {T id : String} {Q : Value → Shared → Prop}
    (hl : typeLookup (.type T) "__getitem__" = pure (some (.builtin id))) (hs : NoSl slice)
    (h : wpAny (model prog w) A (eval value env) (fun o s₁ => wpAny (model prog w) A (eval slice env) (fun i s₂ => s₂.TypeIs o T ∧ wpAny (model prog w) A (getItem o i) Q E s₂) E s₁) E s) :
    wpAny (model prog w) A (eval (.Subscript value slice pos) env) Q E s := by
  refine Subscript_ (wpAny_mono h (fun o s₁ h₁ => wpAny_mono h₁ (fun i s₂ h₂ => ?_) fun _ _ x => x) fun _ _ x => x)
  obtain ⟨hT, h₂⟩ := h₂
  unfold subscriptTail
  refine wpAny_bind ?_
  rw [getitemInPython_of_ne hT.not_modules]
  refine wpAny_bind (wpAny_specialOf hT hl ?_)
  have fin : wpAny (model prog w) A (subscripted slice false o i) (fun r s₃ => wpAny (model prog w) A (letTemporaryGo value o r >>= fun _ => pure r) Q E s₃) E s₂ := by
    rw [hs o i]
    exact wpAny_operating (wpAny_mono h₂ (fun r s₃ h₃ => wpAny_bind (wpAny_letTemporaryGo (wpAny_pure h₃))) fun _ _ x => x)
  first
    | exact wpAny_pure (wpAny_bind fin)
    | exact wpAny_bind (wpAny_pure (wpAny_bind fin))
    | exact wpAny_bind fin
theorem dict_typeIs {X : Cx} {pins : List (Addr × Obj)} {σ : St} {H : Hp} {s : Shared} {a : Addr} {y : V} {o : Option V} (I : Inv X pins σ H s) (g : DGet H a y o) : s.TypeIs (.ref a) "dict" := by
  rcases g with ⟨kvs, k, e, _, _⟩ | ⟨kvs, k, b, e, _, _, _⟩
  · obtain ⟨_, _, vs, _, dd⟩ := dk_rd I.hok e
    exact dd.typeIs
  · obtain ⟨_, _, xs, _, dd⟩ := dt_rd I.hok e
    exact dd.typeIs
noncomputable def tDGet (td ty : TE) : TE := fun σ H Q => td σ H fun x H1 => ty σ H1 fun y H2 => ∃ a v, x = .ref a ∧ DGet H2 a y (some v) ∧ Q v H2
section
variable {X : Cx} {o i e value : Expr} {pos pos' tpos : Pos} {td ty tv : TE}
theorem pe_dget (hu : X.A.units + 1 < cLine) (ho : PE X o td) (hi : PE X i ty) (hs : NoSl i) : PE X (.Subscript o i pos) (tDGet td ty) := by
  intro pins s σ H Q I h
  refine subD_of PySem.F.slot_dict_getitem.lookup hs (thn (ho pins s σ H _ I h) fun u s1 ⟨x, H1, I1, rx, q1⟩ => thn (hi pins s1 σ H1 _ I1 q1) fun iv s2 ⟨y, H2, I2, ry, a, v, ex, g, q2⟩ => ?_)
  subst ex
  obtain rfl : u = Value.ref a := rx
  exact ⟨dict_typeIs I2 g, d_getItem hu I2 g ry fun w' s3 I3 rw' => ⟨v, H2, I3, rw', q2⟩⟩
end
theorem dk_empty {P : Program} {w : World} {H : Hp} (h : Heap) (hb : sysModules < h.objs.size) : ObjOk P w H (h.push { cls := .type "dict", data := .dict #[] }) h.objs.size (.dK []) :=
  ⟨Nat.zero_le _, beq_eq_false_iff_ne.mpr (Ne.symm (Nat.ne_of_lt hb)), [], .nil, Heap.DictOf.new h⟩
section
variable {X : Cx} {pos : Pos}
end
noncomputable def tPairs : List (TE × TE) → St → Hp → (List (V × V) → Hp → Prop) → Prop
  | [], _, H, Q => Q [] H
  | (tk, tv) :: r, σ, H, Q => tk σ H fun x H1 => tv σ H1 fun y H2 => tPairs r σ H2 fun ps H3 => Q ((x, y) :: ps) H3
noncomputable abbrev VV : List (V × V) → List (Value × Value) → Prop := Paired fun p q => RelV p.1 q.1 ∧ RelV p.2 q.2
noncomputable def PPs (X : Cx) (pos : Pos) (keys : List (Option Expr)) (values : List Expr) (trs : List (TE × TE)) : Prop :=
  ∀ (pins : List (Addr × Obj)) (s : Shared) (σ : St) (H : Hp) (Q : List (V × V) → Hp → Prop), Inv X pins σ H s → tPairs trs σ H Q →
    wpAny (model X.prog X.w) X.A (evalPairs (pairTrees keys values X.env pos)) (fun vs s' => ∃ ps H', Inv X pins σ H' s' ∧ VV ps vs ∧ Q ps H') X.xe s
theorem pps_nil {X : Cx} {pos : Pos} : PPs X pos [] [] [] := fun pins s σ H Q I h => pairTrees_nil_walk ⟨[], H, I, .nil, h⟩
theorem pps_cons {X : Cx} {pos : Pos} {k v : Expr} {ks : List (Option Expr)} {vs : List Expr} {tk tv : TE} {trs : List (TE × TE)} (hk : PE X k tk) (hv : PE X v tv) (hr : PPs X pos ks vs trs) :
    PPs X pos (some k :: ks) (v :: vs) ((tk, tv) :: trs) := fun pins s σ H Q I h =>
  pairTrees_cons_walk (thn (hk pins s σ H _ I h) fun u s1 ⟨x, H1, I1, rx, q1⟩ => thn (hv pins s1 σ H1 _ I1 q1) fun w2 s2 ⟨y, H2, I2, ry, q2⟩ =>
    thn (hr pins s2 σ H2 _ I2 q2) fun ws s3 ⟨ps, H3, I3, rel, q3⟩ => ⟨(x, y) :: ps, H3, I3, .cons ⟨rx, ry⟩ rel, q3⟩)
noncomputable def mergeK (kvs more : List (Key × V)) : List (Key × V) := more.foldl (fun acc kv => putK acc kv.1 kv.2) kvs
theorem KV.merge : ∀ {more : List (Key × V)} {rs : List (Key × Value)} {kvs : List (Key × V)} {vs : List (Key × Value)}, KV more rs → KV kvs vs → KV (mergeK kvs more) (merged vs rs) := by
  intro more rs kvs vs r
  unfold KV at r
  induction r generalizing kvs vs with
  | nil => intro q; exact q
  | @cons p q ps qs h t ih =>
    intro r0
    have e : KV (putK kvs p.1 p.2) (stored vs q.1 q.2) := by
      have := r0.put p.1 h.2
      rw [← h.1]; exact this
    exact ih e
theorem length_mergeK : ∀ (more kvs : List (Key × V)), (mergeK kvs more).length ≤ kvs.length + more.length
  | [], kvs => by show kvs.length ≤ kvs.length + 0; omega
  | p :: r, kvs => by
    have h1 := length_mergeK r (putK kvs p.1 p.2)
    have h2 := length_putK kvs p.1 p.2
    show (mergeK (putK kvs p.1 p.2) r).length ≤ _
    rw [List.length_cons]; omega
theorem carries_of {P : Program} {w : World} : ∀ {kvs : List (Key × V)} {ws : List (Value × Value)}, VV (kvs.map fun kv => (kV kv.1, kv.2)) ws → ∃ rs, Carries (mixKind P w) ws rs ∧ KV kvs rs
  | [], _, r => by rw [List.map_nil] at r; cases r; exact ⟨[], True.intro, .nil⟩
  | p :: kvs, _, r => by
    rw [List.map_cons] at r
    cases r with
    | @cons a b as bs h t =>
      obtain ⟨rs, c, q⟩ := carries_of (P := P) (w := w) t
      obtain ⟨b1, b2⟩ := b
      exact ⟨(p.1, b2) :: rs, ⟨kV_is h.1, rfl, c⟩, .cons ⟨rfl, h.2⟩ q⟩
noncomputable def tDisp (trs : List (TE × TE)) : TE := fun σ H Q => ∀ p, H p = none → tPairs trs σ (upd H p (.dK [])) fun ps H2 => H2 p = some (.dK []) ∧ ∃ kvs : List (Key × V), ps = kvs.map (fun kv => (kV kv.1, kv.2)) ∧ kvs.length ≤ 15 ∧ Q (.ref p) (upd H2 p (.dK (mergeK [] kvs)))
theorem pe_disp {X : Cx} {pos : Pos} {keys : List (Option Expr)} {values : List Expr} {trs : List (TE × TE)} (h : PPs X pos keys values trs) (hall : keys.all (·.isSome) = true) (hl : keys.length = values.length) (h0 : keys ≠ [])
    (h15 : keys.length ≤ 15) : PE X (.Dict keys values pos) (tDisp trs) := by
  intro pins s σ H Q I q
  have hn := I.hok.fresh (Nat.le_refl s.heap.objs.size)
  have I1 := I.laid (a := s.heap.objs.size) (o := .dK []) (h' := s.heap.push { cls := .type "dict", data := .dict #[] }) (t' := s.toks) (fun _ _ q => Heap.get?_push_of_some _ q) (Nat.le_refl _) (dk_empty s.heap I.big)
  refine wpAny_Dict_walk (knd := mixKind X.prog X.w) hall hl h0 h15 (thn (h pins _ σ _ _ I1 (q _ hn)) fun ws s2 ⟨ps, H2, I2, rel, e, kvs, ep, lk, q2⟩ => ?_)
  subst ep
  obtain ⟨rs, c, rk⟩ := carries_of (P := X.prog) (w := X.w) rel
  obtain ⟨z, hd, vs0, r0, dd⟩ := dk_of I2.hok e
  cases r0
  refine ⟨rs, c, dd, fun h' dd' hs => ⟨.ref s.heap.objs.size, _, ?_, rfl, q2⟩⟩
  have hz : (mergeK [] kvs).length ≤ sizeLine := by
    have h1 := length_mergeK kvs []
    rw [List.length_nil] at h1
    rw [sizeLine_eq]; omega
  have he : ∃ q, h'.get? s.heap.objs.size = some q := let ⟨q, _, _, hq, _⟩ := dd'; ⟨q, hq⟩
  exact d_write I2 (by rw [e]; exact True.intro) hs he (dk_new hz hd (rk.merge .nil) dd')
section
variable {X : Cx} {pins : List (Addr × Obj)} {σ : St} {H : Hp} {s : Shared} {a : Addr} {y d : V} {u r : Value} {o : Option V} {A : Around} {E : Value → Shared → Prop}
end
section
variable {X : Cx} {o e f : Expr} {apos cpos : Pos} {td ty tx : TE}
end
section
variable {X : Cx} {pins : List (Addr × Obj)} {σ : St} {H : Hp} {s : Shared} {a : Addr} {kvs : List (Key × V)} {A : Around} {E : Value → Shared → Prop}
end
section
variable {X : Cx} {pins : List (Addr × Obj)} {σ : St} {H : Hp} {s : Shared} {a : Addr} {y : V} {u : Value} {A : Around} {E : Value → Shared → Prop}
end
end L2
namespace L2
open PySem PySem.Spec PyProof.Rows
section
variable {X : Cx}
end
section
variable {κ : Type} [DecidableEq κ]
end
end L2
set_option Elab.async false
set_option linter.all false
set_option maxRecDepth 100000
set_option maxHeartbeats 4000000
namespace L2
open PySem PySem.Spec PyProof.Rows
theorem entry_unchain : entryFor table "proto.unchain" = some Builtin.«proto.unchain» := entryFor_of_fast (by kernel_rfl)
theorem dict_mapFields (o : Obj) (f : Array Value → Array Value) : (o.mapFields f).dict = o.dict := by
  unfold Obj.mapFields
  split <;> rfl
noncomputable def Alone (h : Heap) (x : Addr) (dd : Option Addr) : Prop := ∃ o vs, h.get? x = some o ∧ o.data = .fields vs ∧ vs[2]? = some .none ∧ ∀ d, dd = some d → o.dict = some d
section
variable {prog : Program} {w : World} {A : Around} {E : Value → Shared → Prop} {s : Shared} {dd : Option Addr}
theorem unchain_alone {e : Value} {x : Addr} {Q : Value → Shared → Prop} (hx : Alone s.heap x dd) (q : Q .none s) :
    wpAny (model prog w) A (runValue (.builtin "proto.unchain" ⟨[e, .ref x, .ref x, .bool false], []⟩)) Q E s := by
  obtain ⟨o, vs, h1, h2, h3, _⟩ := hx
  refine wpAny_runValue (codeAny_builtin entry_unchain ?_)
  unfold Builtin.«proto.unchain»
  refine wpAny_bind (wpAny_field h1 h2 h3 ?_)
  rw [if_pos (show (Value.none == Value.none) = true from rfl)]
  exact wpAny_pure q
theorem raiseNew_in {α : Type} {a x : Addr} {o : Obj} {vs : Array Value} {Q : α → Shared → Prop} (hh : A.handled = some (.ref x)) (hx : Alone s.heap x dd) (hne : x ≠ a) (ho : s.heap.get? a = some o) (hd : o.data = .fields vs) (hz : 2 < vs.size)
    (q : ∀ h', Heap.SameBut a s.heap h' → (∃ o', h'.get? a = some o' ∧ o'.cls = o.cls) → E (.ref a) { s with heap := h' }) : wpAny (model prog w) A (raiseNew (.ref a) : Sem α) Q E s := by
  unfold raiseNew
  refine wpAny_bind (wpAny_handled ?_)
  rw [hh]
  have n1 : (Value.ref x != Value.ref a) = true := by simp [hne]
  dsimp only
  rw [if_pos n1]
  refine wpAny_bind (wpAny_holding (unchain_alone hx ?_))
  refine wpAny_bind ?_
  show wpAny _ _ (setField (.ref a) 2 (.ref x)) _ _ s
  refine wpAny_setField (i := 2) (x := .ref x) ho hd hz ?_
  refine wpAny_throw (q _ (Heap.SameBut.update ..) ⟨_, Heap.get?_update_self _ ho (Obj.isFreed_of_fields (Obj.data_mapFields hd _)), Obj.cls_mapFields ..⟩)
theorem Alone.keeps {h h' : Heap} {x : Addr} (a : Alone h x dd) (k : ∀ b o, h.get? b = some o → h'.get? b = some o) : Alone h' x dd := let ⟨o, vs, e, r⟩ := a; ⟨o, vs, k _ _ e, r⟩
theorem stop_in {α : Type} {x : Addr} {Q : α → Shared → Prop} (hh : A.handled = some (.ref x)) (hx : Alone s.heap x dd)
    (q : ∀ h' e, (∀ b o, s.heap.get? b = some o → h'.get? b = some o) → (∃ o, h'.get? e = some o ∧ o.cls = .type "StopIteration") → E (.ref e) { s with heap := h' }) :
    wpAny (model prog w) A (Builtin.SmallTypes.stopIteration : Sem α) Q E s := by
  unfold Builtin.SmallTypes.stopIteration
  refine wpAny_bind ?_
  unfold newExc newTuple
  refine wpAny_bind (wpAny_newObj_type ?_ (by size_fits))
  refine wpAny_bind (wpAny_of_eq (a := Value.none) (t := firstArgMember _ _) (by first | rfl | (unfold firstArgMember; rfl)) (wpAny_newObj_type ?_ (by size_fits)))
  have lt := Heap.lt_size hx.choose_spec.choose_spec.1
  refine raiseNew_in hh (hx.keeps fun b o e => Heap.get?_push_of_some _ (Heap.get?_push_of_some _ e)) (Nat.ne_of_lt ?_) (Heap.get?_push_size _ rfl) rfl (by simp [ownMembersOf]) fun h' k z => ?_
  · rw [Heap.size_push]; exact Nat.lt_succ_of_lt lt
  · obtain ⟨o', z1, z2⟩ := z
    refine q h' _ (fun b o e => ?_) ⟨o', z1, z2⟩
    have lb := Heap.lt_size e
    rw [k.2 b (Nat.ne_of_lt (by rw [Heap.size_push]; exact Nat.lt_succ_of_lt lb))]
    exact Heap.get?_push_of_some _ (Heap.get?_push_of_some _ e)
theorem next_over {it : Addr} {Q : Option Value → Shared → Prop}
    (h : wpAny (model prog w) A (callSpecial? (.ref it) "__next__") (fun _ _ => False) (fun e s' => ∃ p o, e = .ref p ∧ s'.heap.get? p = some o ∧ o.cls = .type "StopIteration" ∧ Q none s') s) :
    wpAny (model prog w) A (pyNext (.ref it)) Q E s := by
  unfold pyNext
  refine wpAny_bind (wpAny_attempt (wpAny_mono h (fun _ _ z => z.elim) fun e s' z => ?_))
  obtain ⟨p, o, rfl, z1, z2, z3⟩ := z
  exact wpAny_bind (wpAny_isInstance (T := "StopIteration") (b := true) ⟨o, z1, z2⟩ isSubtype_stop (wpAny_pure z3))
theorem list_endH {it l x : Addr} {i : Nat} {items : Array Value} {Q : Option Value → Shared → Prop} (hh : A.handled = some (.ref x)) (hx : Alone s.heap x dd) (hxi : x ≠ it)
    (hit : s.heap.IsListIter it l i) (hl : s.heap.IsList l items) (hi : items[i]? = none) (hQ : ∀ h', Heap.ExtBut it s.heap h' → Q none { s with heap := h' }) : wpAny (model prog w) A (pyNext (.ref it)) Q E s := by
  obtain ⟨o, ho, hc, hd⟩ := id hit
  obtain ⟨ol, hol, _, nl, hdl⟩ := hl
  refine next_over ?_
  refine wpAny_callSpecial?_slot (name := Str.ofString "__next__") hit.typeIs slot_listiter_next (wpAny_call_entry slot_listiter_next hit.typeIs entry_listiter_next ?_ (args_listiter_next _))
  have n0 : ¬ ((Value.ref l == Value.none) = true) := Bool.false_ne_true
  show wpAny _ _ (field (.ref it) 0 >>= fun q => _) _ _ s
  refine wpAny_bind (wpAny_field (x := .ref l) ho hd rfl ?_)
  show wpAny _ _ (ite ((Value.ref l == Value.none) = true) _ _) _ _ s
  rw [if_neg n0]
  show wpAny _ _ (field (.ref it) 1 >>= fun q => _) _ _ s
  refine wpAny_bind (wpAny_field (x := .int i 0) ho hd rfl ?_)
  show wpAny _ _ (seqItems? (.ref l) >>= fun q => _) _ _ s
  refine wpAny_bind (wpAny_seqItems hol hdl ?_)
  simp only [Int.toNat_natCast, hi]
  have S := Heap.SameBut.update s.heap it (Obj.mapFields (·.setIfInBounds 0 Value.none))
  refine wpAny_bind (wpAny_rule (wpAny_bind (wpAny_setField (x := .none) ho hd (by simp) ?_)))
  have al : Alone (s.heap.update it (Obj.mapFields (·.setIfInBounds 0 Value.none))) x dd := by
    obtain ⟨ox, vs, e1, r⟩ := hx
    exact ⟨ox, vs, (S.2 x hxi).trans e1, r⟩
  refine stop_in (A := A.in1) hh al fun h' e k z => ?_
  obtain ⟨oz, z1, z2⟩ := z
  exact ⟨e, oz, rfl, z1, z2, hQ h' fun b o' hb eb => k b o' ((S.2 b hb).trans eb)⟩
end
section
variable {M : Model} {A : Around} {E : Value → Shared → Prop} {s : Shared} {dd : Option Addr}
theorem Alone.eq {h h' : Heap} {x : Addr} (a : Alone h x dd) (k : h'.get? x = h.get? x) : Alone h' x dd := let ⟨o, vs, e, r⟩ := a; ⟨o, vs, k.trans e, r⟩
theorem flight_alone {B : Heap} {l : List Env} {e : Addr} {cls a0 fl : Value} {Q : Unit → Shared → Prop} (k : B.StaysIn s.heap) (hl : s.heap.FunFrames B l) (ht : s.heap.TracedAtW B e cls a0 fl) (al : Alone s.heap e dd)
    (q : ∀ h', B.StaysIn h' → h'.FunFrames B l → h'.TracedW B e cls a0 → s.heap.UpToSlots h' → Alone h' e dd → Q () { s with heap := h' }) : wpAny M A (setFlight (.ref e) none) Q E s := by
  obtain ⟨oe, vs, T, oT, ts, g1, g2, g3, g4, g5, g6, g7, g8, g9⟩ := ht
  have z : 3 < ts.size := (Array.getElem?_eq_some_iff.mp g9).1
  have S := Heap.SameBut.update s.heap T (Obj.mapFields (·.setIfInBounds 3 ((none : Option Addr).elim Value.none fun f => rawInt f)))
  have nT : ∀ b o, s.heap.get? b = some o → (∀ us, o.data ≠ .fields us) → b ≠ T := by
    rintro b o hb hn rfl
    rw [g7] at hb
    cases hb
    exact hn ts g8
  have n1 : (Value.ref T != Value.none) = true := by simp
  unfold setFlight
  refine wpAny_bind (wpAny_field g1 g3 g4 ?_)
  rw [if_pos n1]
  refine wpAny_setField g7 g8 z (q _ (fun b o hb => (S.2 b ?_).trans (k b o hb)) (hl.of_keeps fun b o hb hn => ⟨o, (S.2 b (nT b o hb hn)).trans hb, rfl⟩) ?_ (fun b o hb hn => ⟨o.slots, (S.2 b (nT b o hb hn)).trans hb⟩) (al.eq (S.2 e (Ne.symm g6))))
  · rintro rfl
    rw [g5] at hb
    cases hb
  · exact ⟨oe, vs, T, _, _, (S.2 e (Ne.symm g6)).trans g1, g2, g3, g4, g5, g6, Heap.get?_update_self _ g7 (Obj.isFreed_of_fields (Obj.data_mapFields g8 _)), Obj.data_mapFields g8 _, by simp [z]⟩
theorem entry_alone {B : Heap} {env : Env} {outer : List Env} {L e : Addr} {oe : Obj} {vs : Array Value} {head a0 : Value} {more : Bool} {Q : Unit → Shared → Prop} (hfr : A.frames = some (env :: outer)) (hl : s.heap.FunFrames B (env :: outer)) (hf : env.frame = some L)
    (g1 : s.heap.get? e = some oe) (k : B.StaysIn s.heap) (hen : B.get? e = none) (g3 : oe.data = .fields vs) (z : 1 < vs.size) (h0 : vs[0]? = some a0) (h2 : vs[2]? = some .none) (hdd : ∀ d, dd = some d → oe.dict = some d)
    (q : ∀ h', Heap.NotedW B (env :: outer) e oe.cls a0 (rawInt L) s.heap h' → Alone h' e dd → Q () { s with heap := h' }) :
    wpAny M A (frameOf env >>= fun a => entryPlaceOf L more >>= fun pl => EntryCells.newEntry head a .none (rawInt L) .none pl >>= fun b => setField (.ref e) 1 b) Q E s := by
  have ne : e ∉ (env :: outer).filterMap (·.frame) := fun hm => by
    obtain ⟨_, o, ho, hn⟩ := hl.mem hm
    rw [g1] at ho
    cases ho
    exact hn vs g3
  refine wpAny_bind (wpAny_frameOf_fun hfr hl hf fun h1 S1 => wpAny_bind (wpAny_entryPlaceOf fun pl hpl => wpAny_bind ?_))
  unfold EntryCells.newEntry newFields
  refine wpAny_newObj_type ?_ (hpl.sizeOk5 _ _ _ _ _)
  have t3 : (([head, .ref L, .none, rawInt L, .none] ++ (if pl.isEmpty then List.replicate 6 Value.none else pl)).toArray)[3]? = some (rawInt L) := by simp
  generalize ([head, .ref L, .none, rawInt L, .none] ++ (if pl.isEmpty then List.replicate 6 Value.none else pl)).toArray = ts at t3 ⊢
  have e1 : h1.get? e = some oe := (S1.2.1 e ne).trans g1
  have k1 : B.StaysIn h1 := fun b o hb => (S1.2.1 b fun hm => by rw [(hl.mem hm).1] at hb; cases hb).trans (k b o hb)
  have nT : h1.objs.size ≠ e := Nat.ne_of_gt (Heap.lt_size e1)
  have e2 := Heap.get?_push_of_some (h := h1) { cls := .type "traceback", dict := none, data := .fields ts } e1
  have eT := Heap.get?_push_size h1 (o := { cls := .type "traceback", dict := none, data := .fields ts }) rfl
  refine wpAny_setField e2 g3 z (q _ ?_ ?_)
  all_goals
    have S2 := Heap.SameBut.update (h1.push { cls := .type "traceback", dict := none, data := .fields ts }) e (Obj.mapFields (·.setIfInBounds 1 (Value.ref h1.objs.size)))
    have e3 := Heap.get?_update_self (Obj.mapFields (·.setIfInBounds 1 (Value.ref h1.objs.size))) e2 (Obj.isFreed_of_fields (Obj.data_mapFields g3 _))
    have d3 := Obj.data_mapFields g3 (·.setIfInBounds 1 (Value.ref h1.objs.size))
  · have up : ∀ b o, s.heap.get? b = some o → (∀ us, o.data ≠ .fields us) → ∃ sl, ((h1.push { cls := .type "traceback", dict := none, data := .fields ts }).update e (Obj.mapFields (·.setIfInBounds 1 (Value.ref h1.objs.size)))).get? b = some { o with slots := sl } := fun b o hb hn => by
      obtain ⟨sl, hs⟩ := S1.2.2 b o hb
      have nb : b ≠ e := by
        rintro rfl
        rw [g1] at hb
        cases hb
        exact hn vs g3
      exact ⟨sl, (S2.2 b nb).trans (Heap.get?_push_of_some _ hs)⟩
    refine ⟨fun b o hb => ?_, hl.of_keeps fun b o hb hn => ?_, ⟨_, _, h1.objs.size, _, ts, e3, ⟨Obj.cls_mapFields .., ?_⟩, d3, ?_, k1.fresh, nT, (S2.2 _ nT).trans eT, rfl, t3⟩, up⟩
    · have nb : b ≠ e := by
        rintro rfl
        rw [hen] at hb
        cases hb
      exact (S2.2 b nb).trans (Heap.get?_push_of_some _ (k1 b o hb))
    · obtain ⟨sl, z⟩ := up b o hb hn
      exact ⟨_, z, rfl⟩
    · rw [Array.getElem?_setIfInBounds_ne (by decide)]; exact h0
    · simp [z]
  · refine ⟨_, _, e3, d3, by rw [Array.getElem?_setIfInBounds_ne (by decide)]; exact h2, fun d z => ?_⟩
    rw [← hdd d z]
    exact dict_mapFields ..
theorem note_alone {B : Heap} {env : Env} {outer : List Env} {L e : Addr} {cls a0 : Value} {Q : Unit → Shared → Prop} (hfr : A.frames = some (env :: outer)) (hf : env.frame = some L) (fl : Heap.FlyingW B (env :: outer) e cls a0 s.heap) (al : Alone s.heap e dd)
    (q : ∀ h', Heap.HeldW B (env :: outer) e cls a0 L h' → s.heap.UpToSlots h' → Alone h' e dd → Q () { s with heap := h' }) : wpAny M A (noteFrame (.ref e) env) Q E s := by
  obtain ⟨k, hen, hl, oe, vs, T, oT, ts, g1, ⟨rfl, h0⟩, g3, g4, g5, g6, g7, g8, g9⟩ := fl
  have h2 : vs[2]? = some .none ∧ ∀ d, dd = some d → oe.dict = some d := by
    obtain ⟨o', vs', x1, x2, x3⟩ := al
    rw [g1] at x1
    cases x1
    rw [g3] at x2
    cases x2
    exact x3
  have z : 3 < ts.size := (Array.getElem?_eq_some_iff.mp g9).1
  have S := Heap.SameBut.update s.heap T (Obj.mapFields (·.setIfInBounds 3 Value.none))
  have nT : ∀ b o, s.heap.get? b = some o → (∀ us, o.data ≠ .fields us) → b ≠ T := by
    rintro b o hb hn rfl
    rw [g7] at hb
    cases hb
    exact hn ts g8
  have n1 : (Value.ref T != Value.none) = true := by simp
  have n2 : ¬ ((Value.none == rawInt L) = true) := by simp [rawInt]
  unfold noteFrame
  simp only [hf]
  refine wpAny_bind (wpAny_field g1 g3 g4 ?_)
  rw [if_pos n1]
  refine wpAny_bind (wpAny_field g7 g8 g9 ?_)
  rw [if_neg n2]
  refine wpAny_bind (wpAny_setField g7 g8 z ?_)
  refine entry_alone hfr (hl.of_keeps fun b o hb hn => ⟨o, (S.2 b (nT b o hb hn)).trans hb, rfl⟩) hf ((S.2 e (Ne.symm g6)).trans g1) (fun b o hb => (S.2 b ?_).trans (k b o hb)) hen g3 (Array.getElem?_eq_some_iff.mp g4).1 h0 h2.1 h2.2 fun h' N al' => ?_
  · rintro rfl
    rw [g5] at hb
    cases hb
  · obtain ⟨x1, x2, x3, x4⟩ := N
    exact q h' ⟨x1, hen, x2, x3⟩ (fun b o hb hn => x4 b o ((S.2 b (nT b o hb hn)).trans hb) hn) al'
theorem lands_alone {B : Heap} {l : List Env} {e : Addr} {cls a0 : Value} {Q : Unit → Shared → Prop} {L : Addr} (fl : Heap.HeldW B l e cls a0 L s.heap) (al : Alone s.heap e dd)
    (q : ∀ h', Heap.FlyingW B l e cls a0 h' → s.heap.UpToSlots h' → Alone h' e dd → Q () { s with heap := h' }) : wpAny M A (setFlight (.ref e) none) Q E s :=
  flight_alone fl.1 fl.2.2.1 fl.2.2.2 al fun h' a b c d f => q h' ⟨a, fl.2.1, b, c⟩ d f
theorem again_alone {B : Heap} {l : List Env} {e : Addr} {cls a0 : Value} {Q : Unit → Shared → Prop} (fl : Heap.FlyingW B l e cls a0 s.heap) (al : Alone s.heap e dd)
    (q : ∀ h', Heap.FlyingW B l e cls a0 h' → s.heap.UpToSlots h' → Alone h' e dd → Q () { s with heap := h' }) : wpAny M A (setFlight (.ref e) none) Q E s :=
  flight_alone fl.1 fl.2.2.1 fl.2.2.2.at al fun h' a b c d f => q h' ⟨a, fl.2.1, b, c⟩ d f
theorem leaves_alone {B : Heap} {env : Env} {outer : List Env} {L e : Addr} {cls a0 : Value} {Q : Unit → Shared → Prop} (hfr : A.frames = some (env :: outer)) (hf : env.frame = some L) (fl : Heap.FlyingW B (env :: outer) e cls a0 s.heap) (al : Alone s.heap e dd)
    (q : ∀ h', Heap.FlyingW B outer e cls a0 h' → s.heap.UpToSlots h' → Alone h' e dd → Q () { s with heap := h' }) : wpAny M A (leaving env (.ref e)) Q E s := by
  unfold leaving
  refine wpAny_bind (note_alone hfr hf fl al fun h1 H1 u1 a1 => lands_alone (s := { s with heap := h1 }) H1 a1 fun h2 F2 u2 a2 => ?_)
  obtain ⟨x1, x2, ⟨_, _, x3⟩, x4⟩ := F2
  exact q h2 ⟨x1, x2, x3, x4⟩ (u1.trans u2) a2
structure MadeX (h h' : Heap) (e : Addr) (cls : Value) (dd : Option Addr) : Prop where
  keeps : ∀ b o, h.get? b = some o → h'.get? b = some o
  new : h.get? e = none
  there : ∃ oe vs t, h'.get? e = some oe ∧ oe.cls = cls ∧ oe.data = .fields vs ∧ vs[0]? = some (.ref t) ∧ vs[1]? = some .none ∧ vs[2]? = some .none ∧ 1 < vs.size ∧ ∀ d, dd = some d → oe.dict = some d
theorem MadeX.of {h h' : Heap} {e : Addr} {cls : Value} {args : List Value} (hx : Heap.MadeExcOf h h' e cls args) : MadeX h h' e cls none := by
  obtain ⟨t, he, _, _⟩ := hx.there
  exact ⟨hx.keeps, hx.new, _, _, t, he, rfl, rfl, rfl, rfl, rfl, by simp, fun _ z => by cases z⟩
theorem made_alone {B h : Heap} {env : Env} {outer : List Env} {L e : Addr} {cls : Value} {Q : Unit → Shared → Prop} (hfr : A.frames = some (env :: outer)) (hf : env.frame = some L) (k : B.StaysIn h) (hl : h.FunFrames B (env :: outer)) (hx : MadeX h s.heap e cls dd)
    (q : ∀ h' a0, Heap.FlyingW B outer e cls a0 h' → s.heap.UpToSlots h' → Alone h' e dd → Q () { s with heap := h' }) : wpAny M A (leaving env (.ref e)) Q E s := by
  obtain ⟨oe, vs, t, he, rfl, hd, h0, h1, h2, hz, hdd⟩ := hx.there
  have fresh : ∀ b, h.get? b = none → B.get? b = none := fun b hb => by
    cases hq : B.get? b with
    | none => rfl
    | some o' => exact absurd (k b o' hq) (by rw [hb]; intro z; cases z)
  unfold leaving noteFrame
  simp only [hf]
  refine wpAny_bind (wpAny_bind (wpAny_field (x := .none) he hd h1 ?_))
  rw [if_neg (by decide)]
  refine entry_alone (a0 := .ref t) hfr (hl.of_keeps fun b o hb _ => ⟨o, hx.keeps b o hb, rfl⟩) hf he (fun b o hb => hx.keeps b o (k b o hb)) (fresh e hx.new) hd hz h0 h2 hdd fun h1 N a1 => ?_
  obtain ⟨x1, x2, x3, x4⟩ := N
  refine flight_alone (s := { s with heap := h1 }) x1 x2 x3 a1 fun h2 y1 y2 y3 y4 y5 => ?_
  obtain ⟨_, _, y2'⟩ := y2
  exact q h2 _ ⟨y1, fresh e hx.new, y2', y3⟩ (Heap.UpToSlots.trans x4 y4) y5
end
end L2
set_option Elab.async false
set_option linter.all false
set_option maxRecDepth 100000
set_option maxHeartbeats 4000000
namespace L2
open PySem PySem.Spec PyProof.Rows
theorem ObjOk.obj {P : Program} {w : World} {H : Hp} {h : Heap} {a : Addr} {o : HO} (x : ObjOk P w H h a o) : ∃ ob, h.get? a = some ob := by
  cases o with
  | lst xs => obtain ⟨_, _, _, _, e⟩ := x; exact ⟨_, e⟩
  | tup xs => obtain ⟨_, _, _, ob, e, _⟩ := x; exact ⟨_, e⟩
  | dK kvs => obtain ⟨_, _, _, _, ob, es, ep, e, _⟩ := x; exact ⟨_, e⟩
  | dT kvs => obtain ⟨_, _, _, _, ob, es, ep, e, _⟩ := x; exact ⟨_, e⟩
  | set S n => obtain ⟨ob, es, ep, t, e, _⟩ := x; exact ⟨_, e⟩
  | ins C dx fs => obtain ⟨_, _, _, e, _⟩ := x; exact ⟨_, e⟩
  | own y => exact x
  | xd fs => obtain ⟨mA, hn, _⟩ := x; obtain ⟨ob, es, ep, e, _⟩ := hn; exact ⟨_, e⟩
  | rng lo hi => obtain ⟨_, _, _, e⟩ := x; exact ⟨_, e⟩
  | frz ob u => exact ⟨_, x.1⟩
  | tbl ps => exact ⟨_, x⟩
  | met f y => exact ⟨_, x⟩
  | ext φ => exact x.2.1
structure Fly (P : Program) (w : World) (outer : List Env) (H : Hp) (s : Shared) (x : Addr) (cls : Value) (da : Option Addr) (H' : Hp) (s' : Shared) : Prop where
  os : s'.os = s.os
  bare : AllBare s'.gens
  un : Un (frs outer) [] H H' s.heap s'.heap
  hok : HOk P w H' s'.heap
  new : H' x = none
  alone : Alone s'.heap x da
  fly : ∃ B a0, Heap.FlyingW B outer x cls a0 s'.heap ∧ (∀ b o, s'.heap.get? b = some o → H' b ≠ none → B.get? b = some o) ∧
    ∀ b o o', s.heap.get? b = some o → b ∉ frs outer → s'.heap.get? b = some o' → B.get? b = some o'
noncomputable def CXE (P : Program) (w : World) : CXT := fun outer H s E e s' => ∃ x cls da H', e = .ref x ∧ E cls da H' ∧ Fly P w outer H s x cls da H' s'
section
variable {P : Program} {w : World} {K : PySem.W.Frag} {mg : Str → Option Value} {base : Heap} {N : List Str} {qual : Str} {scope : Scope} {f : Addr} {cd : Value} {A : Around} {outer : List Env} {s₀ : Shared} {H₀ : Hp} {E : XK}
theorem frs_mem {l : List Env} {env : Env} {a : Addr} (h : env ∈ l) (e : env.frame = some a) : a ∈ frs l := List.mem_filterMap.mpr ⟨env, h, e⟩
theorem fly_made {pins : List (Addr × Obj)} {σ : St} {H : Hp} {s : Shared} {h1 : Heap} {tk : Nat} {e : Addr} {cls : Value} {da : Option Addr} (I : Inv (cxOf (CXE P w) P w K mg base N qual scope f cd A outer s₀ H₀ E) pins σ H s)
    (hx : MadeX s.heap h1 e cls da) (hE : E cls da H) : (cxOf (CXE P w) P w K mg base N qual scope f cd A outer s₀ H₀ E).xe (.ref e) { s with heap := h1, toks := tk } := by
  have stk : (cxOf (CXE P w) P w K mg base N qual scope f cd A outer s₀ H₀ E).stack = envOfC qual scope s₀.heap.objs.size f cd :: outer := rfl
  have hL : ∀ b ∈ frs (envOfC qual scope s₀.heap.objs.size f cd :: outer), b ∈ frs outer ∨ b = s₀.heap.objs.size := fun b hb => by
    have := I.stkSub b hb
    rcases List.mem_cons.mp this with z | z
    · exact .inr z
    · exact .inl z
  have hfr : ∀ env ∈ (envOfC qual scope s₀.heap.objs.size f cd :: outer), ∀ a, env.frame = some a → a ∈ frs (envOfC qual scope s₀.heap.objs.size f cd :: outer) := fun env he a ha => frs_mem he ha
  have hff := PySem.W.funFrames_hide I.stack hfr
  have low : ∀ b o, s₀.heap.get? b = some o → b ∉ frs outer → b ∉ frs (envOfC qual scope s₀.heap.objs.size f cd :: outer) := fun b o hb hn hm => by
    rcases hL b hm with z | z
    · exact hn z
    · exact absurd (Heap.lt_size hb) (by rw [z]; exact Nat.lt_irrefl _)
  refine made_alone (B := PySem.W.hideAll s.heap (frs (envOfC qual scope s₀.heap.objs.size f cd :: outer))) (h := s.heap) I.ok.frames rfl (fun b o q => PySem.W.of_hideAll _ q) hff hx fun h' t x1 x4 x5 => ?_
  have up : ∀ b ∈ frs (envOfC qual scope s₀.heap.objs.size f cd :: outer), ∀ o, s.heap.get? b = some o → ∃ sl, h'.get? b = some { o with slots := sl } := fun b hb o ho => by
    obtain ⟨_, o', ho', hd⟩ := hff.mem hb
    rw [ho] at ho'
    cases ho'
    exact x4 b o (hx.keeps b o ho) hd
  have stay : ∀ b o, b ∉ frs (envOfC qual scope s₀.heap.objs.size f cd :: outer) → s.heap.get? b = some o → h'.get? b = some o := fun b o hn ho => x1.1 b o (PySem.W.hideAll_get _ ho hn)
  have trk : ∀ b, H b ≠ none → b ∉ frs (envOfC qual scope s₀.heap.objs.size f cd :: outer) := fun b hb hm => hb (I.stkFree b hm)
  have U := I.base
  have hnew : H e = none := by
    cases hq : H e with
    | none => rfl
    | some u =>
      obtain ⟨ob, z⟩ := (I.hok e u hq).obj
      rw [hx.new] at z
      cases z
  refine ⟨e, cls, da, H, rfl, hE, I.os, I.bare, ⟨fun b o q n hb _ => stay b o (low b o q hb) (U.keep b o q n hb (by intro z; cases z)), fun b o q n hb _ => ?_, fun b o q n _ => U.free b o q n (by intro z; cases z), fun b o q _ => ?_, U.tups, U.frzs, U.tbls⟩, fun a o q => ?_, hnew, x5, _, _, x1, fun b o q hb => ?_, fun b o o' q hb q' => ?_⟩
  · obtain ⟨sl, e1⟩ := U.slot b o q n hb (by intro z; cases z)
    obtain ⟨sl', e2⟩ := up b (by show b ∈ List.filterMap _ (_ :: _); exact List.mem_cons_of_mem _ hb) _ e1
    exact ⟨sl', e2⟩
  · obtain ⟨o1, e1⟩ := U.there b o q (by intro z; cases z)
    by_cases hb : b ∈ frs (envOfC qual scope s₀.heap.objs.size f cd :: outer)
    · obtain ⟨sl, e2⟩ := up b hb _ e1
      exact ⟨_, e2⟩
    · exact ⟨_, stay b _ hb e1⟩
  · refine (I.hok a o q).stay (fun b u hb z => stay b u (trk b ?_) z) (fun _ z => z) fun _ _ z => z
    rcases hb with rfl | hb
    · rw [q]; intro z; cases z
    · rw [hb]; intro z; cases z
  · obtain ⟨o1, e1⟩ : ∃ o1, s.heap.get? b = some o1 := by
      cases hq : H b with
      | none => exact absurd hq hb
      | some u => exact (I.hok b u hq).obj
    have := stay b o1 (trk b hb) e1
    rw [q] at this
    cases this
    exact PySem.W.hideAll_get _ e1 (trk b hb)
  · obtain ⟨o1, e1⟩ := U.there b o q (by intro z; cases z)
    have hn := low b o q hb
    have := stay b o1 hn e1
    rw [q'] at this
    cases this
    exact PySem.W.hideAll_get _ e1 hn
theorem fly_on {E' : XK} (hEE : ∀ cls da H, E' cls da H → E cls da H) : Passes (CXE P w) (cxOf (CXE P w) P w K mg base N qual scope f cd A outer s₀ H₀ E) E' := by
  intro pins σ H s e s' I h
  obtain ⟨x, cls, da, H', rfl, hE, F⟩ := h
  obtain ⟨B, a0, fl, f1, f2⟩ := F.fly
  have hL : ∀ b ∈ frs (envOfC qual scope s₀.heap.objs.size f cd :: outer), b ∈ frs outer ∨ b = s₀.heap.objs.size := fun b hb => by
    rcases List.mem_cons.mp (I.stkSub b hb) with z | z
    · exact .inr z
    · exact .inl z
  have low : ∀ b o, s₀.heap.get? b = some o → b ∉ frs outer → b ∉ frs (envOfC qual scope s₀.heap.objs.size f cd :: outer) := fun b o hb hn hm => by
    rcases hL b hm with z | z
    · exact hn z
    · exact absurd (Heap.lt_size hb) (by rw [z]; exact Nat.lt_irrefl _)
  have U := I.base
  have no : ∀ b : Addr, b ∉ ([] : List Addr) := fun b z => by cases z
  refine leaves_alone I.ok.frames rfl fl F.alone fun h' x1 x2 x3 => ?_
  have two : ∀ b o, s₀.heap.get? b = some o → ∃ o1 o2, s.heap.get? b = some o1 ∧ s'.heap.get? b = some o2 := fun b o q => by
    obtain ⟨o1, e1⟩ := U.there b o q (no b)
    obtain ⟨o2, e2⟩ := F.un.there b o1 e1 (no b)
    exact ⟨o1, o2, e1, e2⟩
  have stay : ∀ b o o2, s₀.heap.get? b = some o → b ∉ frs outer → s'.heap.get? b = some o2 → B.get? b = some o2 := fun b o o2 q hb q2 => by
    obtain ⟨o1, o2', e1, e2⟩ := two b o q
    exact f2 b o1 o2 e1 (low b o q hb) q2
  have hff := fl.2.2.1
  refine ⟨x, cls, da, H', rfl, hEE _ _ _ hE, F.os.trans I.os, F.bare, ⟨fun b o q n hb _ => ?_, fun b o q n hb _ => ?_, fun b o q n _ => ?_, fun b o q _ => ?_, fun b xs q => F.un.tups b xs (U.tups b xs q), fun b o u q => F.un.frzs b o u (U.frzs b o u q), fun b ps q => ?_⟩, fun a o q => ?_, F.new, x3, B, a0, x1, fun b o q hb => ?_, fun b o o' q hb q' => ?_⟩
  · have e1 := U.keep b o q n hb (no b)
    have e2 := F.un.keep b o e1 (U.free b o q n (no b)) (low b o q hb) (no b)
    exact x1.1 b o (stay b o o q hb e2)
  · obtain ⟨sl, e1⟩ := U.slot b o q n hb (no b)
    have hb' : b ∈ frs (envOfC qual scope s₀.heap.objs.size f cd :: outer) := by show b ∈ List.filterMap _ (_ :: _); exact List.mem_cons_of_mem _ hb
    obtain ⟨sl2, e2⟩ := F.un.slot b _ e1 (U.free b o q n (no b)) hb' (no b)
    obtain ⟨_, o', ho', hd⟩ := hff.mem hb'
    rw [e2] at ho'
    cases ho'
    obtain ⟨sl3, e3⟩ := x2 b _ e2 hd
    exact ⟨sl3, e3⟩
  · obtain ⟨o1, e1⟩ := U.there b o q (no b)
    exact F.un.free b o1 e1 (U.free b o q n (no b)) (no b)
  · obtain ⟨o1, o2, e1, e2⟩ := two b o q
    by_cases hb : b ∈ frs outer
    · have hb' : b ∈ frs (envOfC qual scope s₀.heap.objs.size f cd :: outer) := by show b ∈ List.filterMap _ (_ :: _); exact List.mem_cons_of_mem _ hb
      obtain ⟨_, o', ho', hd⟩ := hff.mem hb'
      obtain ⟨sl3, e3⟩ := x2 b _ ho' hd
      exact ⟨_, e3⟩
    · exact ⟨_, x1.1 b o2 (stay b o o2 q hb e2)⟩
  · obtain ⟨m1, e1⟩ := U.tbls b ps q
    obtain ⟨m2, e2⟩ := F.un.tbls b _ e1
    exact ⟨m1 ++ m2, by rw [e2, Array.append_assoc]⟩
  · refine (F.hok a o q).stay (fun b u hb z => x1.1 b u (f1 b u z ?_)) (fun _ z => z) fun _ _ z => z
    rcases hb with rfl | hb
    · rw [q]; intro z; cases z
    · rw [hb]; intro z; cases z
  · obtain ⟨o1, e1⟩ : ∃ o1, s'.heap.get? b = some o1 := by
      cases hq : H' b with
      | none => exact absurd hq hb
      | some u => exact (F.hok b u hq).obj
    have e2 := f1 b o1 e1 hb
    have := x1.1 b o1 e2
    rw [q] at this
    cases this
    exact e2
  · obtain ⟨o1, o2, e1, e2⟩ := two b o q
    have e3 := stay b o o2 q hb e2
    have := x1.1 b o2 e3
    rw [q'] at this
    cases this
    exact e3
end
end L2
set_option Elab.async false
set_option linter.all false
set_option maxRecDepth 100000
set_option maxHeartbeats 4000000
namespace L2
open PySem PySem.Spec PyProof.Rows
section
variable {prog : Program} {w : World} {A : Around} {E : Value → Shared → Prop} {K : PySem.W.Frag} {x D : Addr} {ox : Obj} {s : Shared}
structure InstC (h : Heap) (x : Addr) (ox : Obj) (D : Addr) : Prop where
  at_ : h.get? x = some ox
  cls : ox.cls = .ref D
theorem InstC.type {M : Model} {h : Heap} {y C : Addr} {oy : Obj} (I : InstC h y oy C) : PySem.W.Looks M h (typeOf (.ref y)) (.ref C) := by
  have z : PySem.W.Looks M h (typeOf (.ref y)) oy.cls := (PySem.W.Looks.ld I.at_).andThen .now
  rwa [I.cls] at z
theorem xc_find {M : Model} {h : Heap} (X : K.In h) (ha : PySem.W.findIn K (.ref D) "__class__" = some (some (.builtin "object.__class__"))) (hg : PySem.W.specialIn K (.builtin "object.__class__") "__get__" = some (some (.builtin "getset_descriptor.__get__")))
    (ht : PySem.W.takesIn K (.builtin "object.__class__") = some true) : PySem.W.Looks M h (Builtin.ObjectAttr.find (.ref x) (.ref D) "__class__") (.bind (.builtin "getset_descriptor.__get__") (.builtin "object.__class__")) := by
  have L1 := PySem.W.looks_findIn (M := M) X ha
  have L2 : PySem.W.Looks M h (Builtin.ObjectAttr.getOf (some (.builtin "object.__class__"))) (some (.builtin "getset_descriptor.__get__")) := PySem.W.looks_specialIn X hg
  have L3 := PySem.W.looks_takesIn (M := M) X ht
  refine L1.andThen (L2.andThen ?_)
  refine PySem.W.Looks.andThen (a := some (.builtin "getset_descriptor.__get__", .builtin "object.__class__")) (L3.andThen ?_) (PySem.W.Looks.tag .now)
  rw [if_pos rfl]
  exact .now
theorem xc_get {tp : Value} {R : Result → Shared → Prop} (X : K.In s.heap) (I : InstC s.heap x ox D) (hm : PySem.W.mroIn K D (.type "object") = some true) (hq : R (.ok (.ret (.ref D))) s) :
    codeAny (model prog w) A (.call (.builtin "getset_descriptor.__get__") ⟨[.builtin "object.__class__", .ref x, tp], []⟩) R s := by
  obtain ⟨hh, g, d, t, os⟩ := s
  have T0 := I.type (M := model prog w)
  have T1 := PySem.W.looks_mroIn (M := model prog w) X hm
  refine codeAny_call_builtin PySem.W.KF.slot_gs.plain PySem.W.KF.entry_gs (PySem.W.KF.slot_gs.check _ _ _ _ _ _ _ _ PySem.W.KF.type_class (PySem.W.KF.args_gs _ _ _) ?_)
  unfold Builtin.«getset_descriptor.__get__» Builtin.Getset_descriptor.descrGet; rw [PySem.W.dga_obj]
  refine wpAny_bind (wpAny_pure ?_); unfold Builtin.Getset_descriptor.descrGetter Builtin.Getset_descriptor.descrCheckInstance Builtin.Getset_descriptor.descrNameAndClass isInstance
  simp only [PySem.W.KF.owner_class]; repeat lk
  refine ⟨Code.quiet_builtin _ (by decide +kernel), codeAny_builtin PySem.W.KF.entry_class ?_⟩
  unfold Builtin.«object.__class__» shownTypeOf; repeat lk
  exact hq
theorem xc_entry {tk : Tok} {Q : Fin → Shared → Prop} (X : K.In s.heap) (I : InstC s.heap x ox D) (ha : PySem.W.findIn K (.ref D) "__class__" = some (some (.builtin "object.__class__"))) (hg : PySem.W.specialIn K (.builtin "object.__class__") "__get__" = some (some (.builtin "getset_descriptor.__get__")))
    (ht : PySem.W.takesIn K (.builtin "object.__class__") = some true) (hm : PySem.W.mroIn K D (.type "object") = some true)
    (hq : Q (.done (.ret (.ref D))) s) : wpAny (model prog w) A (Builtin.«object.__getattribute__» ⟨[.ref x, .str "__class__" tk], []⟩) Q E s := by
  obtain ⟨hh, g, d, t, os⟩ := s
  have L0 := I.type (M := model prog w)
  have L1 := xc_find (M := model prog w) (x := x) X ha hg ht
  unfold Builtin.«object.__getattribute__»
  refine wpAny_bind (wpAny_pure (wpAny_bind (wpAny_pure (wpAny_bind (L0.at (wpAny_bind (L1.at ?_)))))))
  show wpAny _ _ (holding [Value.builtin "object.__class__"] (call (Value.builtin "getset_descriptor.__get__") [.builtin "object.__class__", .ref x, .ref D]) >>= ret) _ _ _
  exact wpAny_bind (wpAny_holding (wpAny_call (xc_get (s := ⟨hh, g, d, t, os⟩) X I hm (wpAny_pure hq))))
theorem xc_check {nameV : Value} {M : Model} {Q : Unit → Shared → Prop} (X : K.In s.heap) (I : InstC s.heap x ox D) (hs : PySem.W.subIn K (.ref D) (.type "BaseException") = some true) (hq : Q () s) :
    wpAny M A (checkBuiltinCall "BaseException.__getattribute__" ⟨[.ref x, nameV], []⟩) Q E s := by
  have k1 : builtinKind "BaseException.__getattribute__" = some .slot := by decide +kernel
  have k2 : splitId "BaseException.__getattribute__" = some ("BaseException", "__getattribute__") := by decide +kernel
  have k3 := PySem.F.args_bexc_ga (.ref x) nameV
  have LI : PySem.W.Looks M s.heap (isInstance (.ref x) (.type "BaseException")) true := (I.type (M := M)).andThen (PySem.W.looks_subIn X hs)
  obtain ⟨hh, g, d, t, os⟩ := s
  simp only [checkBuiltinCall, k1, k2]
  refine wpAny_bind (LI.at ?_)
  repeat (any_goals (first | assumption | wp_step))
structure ExcK (K : PySem.W.Frag) (D : Addr) : Prop where
  lk : ∃ c d cd sl, K.lookup D = some ⟨c, d, .cls cd, sl⟩
  ga : PySem.W.findIn K (.ref D) "__getattribute__" = some (some (.builtin "BaseException.__getattribute__"))
  gt : PySem.W.findIn K (.ref D) "__getattr__" = some none
  sb : PySem.W.subIn K (.ref D) (.type "BaseException") = some true
  cf : PySem.W.findIn K (.ref D) "__class__" = some (some (.builtin "object.__class__"))
  cg : PySem.W.specialIn K (.builtin "object.__class__") "__get__" = some (some (.builtin "getset_descriptor.__get__"))
  ct : PySem.W.takesIn K (.builtin "object.__class__") = some true
  mo : PySem.W.mroIn K D (.type "object") = some true
theorem xc_attr {Q : Option Value → Shared → Prop} (X : K.In s.heap) (I : InstC s.heap x ox D) (F : ExcK K D)
    (h : Q (some (.ref D)) { s with toks := s.toks + 1 }) : wpAny (model prog w) A (getAttr? (.ref x) "__class__") Q E s := by
  obtain ⟨hh, g, d, t, os⟩ := s
  have L0 := I.type (M := model prog w)
  have L1 := PySem.W.looks_findIn (M := model prog w) X F.ga
  have L2 := PySem.W.looks_findIn (M := model prog w) X F.gt
  unfold getAttr? getAttrBy? getAttrBy
  refine wpAny_bind (wpAny_mkText (wpAny_bind (wpAny_attempt (wpAny_holding (wpAny_bind (L0.at (wpAny_bind (L1.at ?_))))))))
  repeat (any_goals (first | assumption | wp_step | lk))
  refine codeAny_call_builtin (PySem.F.excAttr_ValueError).ga.plain PySem.F.entry_bexc_ga (xc_check (s := ⟨hh, g, d, t + 1, os⟩) X I F.sb (xc_entry (s := ⟨hh, g, d, t + 1, os⟩) X I F.cf F.cg F.ct F.mo ?_))
  repeat (any_goals (first | assumption | wp_step | lk))
theorem kitx_exc (F : ExcK K D) : PySem.W.KitX K (.ref x) (.ref D) (fun h => InstC h x ox D) where
  ty := fun _ _ _ I => I.type
  it := fun M h X _ => by
    obtain ⟨c, d, cd, sl, ho⟩ := F.lk
    intro A' Q' E' s' k q
    unfold isType loadHead
    exact wpAny_bind (wpAny_loadPart (k _ _ (X _ _ ho)) (wpAny_pure q))
  ne := fun h tp dd its n sl X htp => by
    obtain ⟨c, d, cd, sl', ho⟩ := F.lk
    rw [Bool.eq_false_iff]
    intro q
    cases (show D = tp from Value.ref.inj (eq_of_beq q))
    have z := X _ _ ho
    rw [htp] at z
    cases z
  ca := fun X I k => xc_attr X I F k
end
noncomputable abbrev inH (X : Cx) (x : Addr) (oe : Obj) : Cx := { X with A := X.A.mark (some (.ref x)), calm := false, pn := (x, oe) :: X.pn, xe := fun _ _ => False }
noncomputable abbrev inM (X : Cx) (x : Addr) : Cx := { X with A := X.A.mark (some (.ref x)), calm := false, xe := fun _ _ => False }
section
variable {X : Cx} {pins : List (Addr × Obj)} {σ : St} {H : Hp} {s : Shared} {x : Addr} {oe : Obj}
theorem Cx.Ok.marked (ok : X.Ok) (x : Addr) : (inM X x).Ok :=
  ⟨ok.mod, ok.kind, ok.glob, ok.blt, ok.above, ok.inj, ok.has, ok.cab, (fun z => Bool.noConfusion z), ok.frames, ok.stk, ok.exf, ok.bs, ok.bsz, ok.noex, ok.exfs, ok.funs, ok.frf⟩
theorem Inv.marked (I : Inv X pins σ H s) (x : Addr) : Inv (inM X x) pins σ H s := ⟨I.ok.marked x, I.os, I.bare, I.base, I.loc, I.cell, I.free, I.freeC, I.pin, I.hok, I.len⟩
theorem Inv.pinH (I : Inv X pins σ H s) (h1 : s.heap.get? x = some oe) (h2 : H x = none) (h3 : x ≠ X.env.locals) (h4 : x ∉ X.fs) (h5 : ∀ v, oe.data ≠ .cell v) : Inv (inH X x oe) pins σ H s :=
  ⟨⟨I.ok.mod, I.ok.kind, I.ok.glob, I.ok.blt, I.ok.above, I.ok.inj, I.ok.has, I.ok.cab, (fun z => Bool.noConfusion z), I.ok.frames, I.ok.stk, I.ok.exf, I.ok.bs, I.ok.bsz, I.ok.noex, I.ok.exfs, I.ok.funs, I.ok.frf⟩, I.os, I.bare, I.base, I.loc, I.cell, I.free, I.freeC,
    fun p hp => by
      rcases List.mem_cons.mp hp with rfl | hp
      · exact ⟨h1, h2, h3, h4, h5⟩
      · exact I.pin p hp, I.hok, I.len⟩
theorem Inv.unpinH (ok : X.Ok) (I : Inv (inH X x oe) pins σ H s) : Inv X pins σ H s := ⟨ok, I.os, I.bare, I.base, I.loc, I.cell, I.free, I.freeC, fun p hp => I.pin p (List.mem_cons_of_mem _ hp), I.hok, I.len⟩
noncomputable def rIsiX (K : PySem.W.Frag) (x D : Addr) : List V → Hp → VK → Prop := fun xs H Q => ∃ b : Bool, ((∃ C, xs = [.ref x, .ref C] ∧ PySem.W.kitOne K (.ref D) (.ref C) = some b) ∨ (∃ T, xs = [.ref x, .ty T] ∧ PySem.W.kitOne K (.ref D) (.type T) = some b) ∨
  ∃ (p : Addr) (Cs : List Addr), xs = [.ref x, .ref p] ∧ H p = some (.tup (Cs.map V.ref)) ∧ PySem.W.kitAny K (.ref D) (Cs.map Value.ref) = some b) ∧ Q (.bl b) H
theorem vals_refs : ∀ {Cs : List Addr} {us : List Value}, Vals (Cs.map V.ref) us → us = Cs.map Value.ref
  | [], _, r => by cases r; rfl
  | _ :: _, _, r => by
    cases r with
    | cons r t => cases r; rw [vals_refs t]; rfl
theorem call_isiX {D : Addr} (F : ExcK X.K D) (hc : oe.cls = .ref D) : CallR (inH X x oe) (.builtin "isinstance") (rIsiX X.K x D) := by
  intro pins s σ H xs us Q I r h
  obtain ⟨b, h, q⟩ := h
  have p := (I.pin (x, oe) (List.mem_append_left _ List.mem_cons_self)).1
  have J : InstC s.heap x oe D := ⟨p, hc⟩
  rcases h with ⟨C, rfl, hk⟩ | ⟨T, rfl, hk⟩ | ⟨tp, Cs, rfl, ht, hk⟩
  · obtain ⟨u, w', rfl, r1, r2⟩ := vals2 r
    cases (show u = Value.ref x from r1)
    cases (show w' = Value.ref C from r2)
    exact PySem.W.kia_one (kitx_exc F) I.kIn J hk (fun z => nomatch z) fun tk => ⟨.bl b, H, I.tok tk, rfl, q⟩
  · obtain ⟨u, w', rfl, r1, r2⟩ := vals2 r
    cases (show u = Value.ref x from r1)
    cases (show w' = Value.type T from r2)
    exact PySem.W.kia_one (kitx_exc F) I.kIn J hk (fun z => nomatch z) fun tk => ⟨.bl b, H, I.tok tk, rfl, q⟩
  · obtain ⟨u, w', rfl, r1, r2⟩ := vals2 r
    cases (show u = Value.ref x from r1)
    cases (show w' = Value.ref tp from r2)
    obtain ⟨its, rv, ⟨⟨cls, dd, data, sl⟩, ho, hcl, n, hdt⟩, _⟩ := I.tuple (SqT.of ht)
    simp only at hcl hdt
    subst hcl hdt
    rw [vals_refs rv] at ho
    exact PySem.W.kia_tup (kitx_exc F) I.kIn J ho hk (fun z => nomatch z) fun tk => ⟨.bl b, H, I.tok tk, rfl, q⟩
end
noncomputable def tRaise (cls : Value) (E : XK) (t : TA) : TS := fun _ σ H => t σ H fun vs H1 => vs.length ≤ sizeLine ∧ E cls none H1
theorem own_mk {K : PySem.W.Frag} {h : Heap} {mg : Str → Option Value} {x : Str} {C : Addr} {bm : List Value} {nid : String} (X : K.In h) (G : h.Ns mainGlobals mg) (e : PySem.W.nsIn K mainGlobals x = some (some (.ref C))) (q : PySem.W.excIn K C bm nid = true) : OwnCls x C bm nid mg h := by
  constructor
  · exact PySem.W.mg_of X G e
  · unfold PySem.W.excIn at q
    cases hl : K.lookup C with
    | none => rw [hl] at q; cases q
    | some o =>
      rw [hl] at q
      obtain ⟨cl, dd, data, sl⟩ := o
      split at q
      · rename_i hh
        cases hh
        split at q
        · rename_i _ cd _ _ C' bm' k0 k1 k2 k3 n k5 hm hs
          simp only [Bool.and_eq_true, beq_iff_eq, Bool.not_eq_true'] at q
          obtain ⟨⟨⟨⟨⟨rfl, rfl⟩, d0⟩, t0⟩, o0⟩, i0⟩ := q
          obtain ⟨nm, bs, mro, ns, qn, hd, sn, sub, ab, col, del⟩ := cd
          try dsimp only at hm d0 o0 i0
          subst hm d0
          obtain ⟨l⟩ := sl
          simp only at hs
          subst hs
          exact ⟨_, _, _, _, _, _, _, _, _, _, _, _, _, _, _, _, _, X _ _ hl, .of_isNs (PySem.W.isNs_of_in X o0), PySem.W.nsMap_none_of_in X o0 i0, PySem.W.tail_of_in X t0⟩
        · cases q
      · cases q
section
variable {P : Program} {w : World} {K : PySem.W.Frag} {mg : Str → Option Value} {base : Heap} {N : List Str} {qual : Str} {scope : Scope} {f : Addr} {cd : Value} {A : Around} {outer : List Env} {s₀ : Shared} {H₀ : Hp} {E : XK}
theorem ps_raise {x : Str} {C : Addr} {B nid iid : String} {bm : List Value} {np cpos pos : Pos} {e : Expr} {es : List Expr} {t : TA} (O : OwnCls x C bm nid mg base) (FB : ExcBaseFacts B nid iid bm)
    (ha : PA (cxOf (CXE P w) P w K mg base N qual scope f cd A outer s₀ H₀ E) (e :: es) t) (hg : Gl (cxOf (CXE P w) P w K mg base N qual scope f cd A outer s₀ H₀ E) x := by rfl) (hd : (x == ("__debug__" : Str)) = false := by decide)
    (he : starEach (e :: es) (cxOf (CXE P w) P w K mg base N qual scope f cd A outer s₀ H₀ E).env = (false, eval e (cxOf (CXE P w) P w K mg base N qual scope f cd A outer s₀ H₀ E).env) :: starEach es (cxOf (CXE P w) P w K mg base N qual scope f cd A outer s₀ H₀ E).env := by rfl)
    (hpl : (backTo cpos (starEach es (cxOf (CXE P w) P w K mg base N qual scope f cd A outer s₀ H₀ E).env)).any (·.1) = false := by rfl) :
    PS (cxOf (CXE P w) P w K mg base N qual scope f cd A outer s₀ H₀ E) (.Raise (some (.Call (.Name x np) (e :: es) [] cpos)) none pos) (tRaise (.ref C) E t) := by
  intro pins s σ H D I h
  obtain ⟨tl, Nn, nm, q, bs, hdct, sn, sub, ab, col, dd, k0, k1, k2, k3, k5, mN, hC, hN, hni, T⟩ := O.obj
  refine wpAny_Raise_call_subT (newId := nid) (k5 := k5) (k3 := k3) (k2 := k2) (k1 := k1) (k0 := k0) (dd := dd) (col := col) (ab := ab) (sub := sub) (sn := sn) (hdct := hdct) (bs := bs) (q := q) (nm := nm) (C := C) (N := Nn) (bm := tl) FB (mN := mN) (T.hasType FB.hasBase) (I.ok.hd rfl) (by rw [he]; show (false || (backTo cpos (starEach es _)).any (·.1)) = false; rw [hpl]; rfl) hni (ld_glob I hg O.bound ⟨rfl, ?_⟩ hd)
  rw [he]
  have ha' := ha cpos pins s σ H _ I h
  rw [he] at ha'
  exact Calls.evalArgs_plain (thn ha' fun us s1 ⟨vs, H1, I1, r, z, q⟩ => ⟨rfl, by rw [← r.length]; exact z, I1.bk _ _ hC, hN.keeps I1.bk, T.keeps I1.bk, fun h' e hx => fly_made (tk := s1.toks) I1 (MadeX.of hx) q⟩)
end
theorem goes_ok {X : Cx} {pins : List (Addr × Obj)} {σ : St} {H : Hp} {s : Shared} {M : Model} {A : Around} {E : Value → Shared → Prop} {i : Nat} {x : Str} {pos : Pos} {Q : Unit → Shared → Prop} (I : Inv X pins σ H s) (hN : X.N.Nodup) (hi : X.N[i]? = some x) (hk : X.env.kindOf x = some .local)
    (h : ∀ s', Inv X pins (σ.set i none) H s' → Q () s') : wpAny M A (do bindName X.env x .none; unbindBehindTheSuite X.env x pos) Q E s := by
  obtain ⟨m, hn, hl⟩ := id I.loc
  have hiσ : i < σ.length := by rw [I.len]; exact (List.getElem?_eq_some_iff.mp hi).1
  have cne := I.cne
  refine wpAny_nameGoes_keeps hk hn (by rw [I.ok.kind]; rfl) fun h' v hn' hs => ?_
  obtain ⟨oL, _, _, hoL, _⟩ := id hn
  have low : ∀ {b : Addr} {o : Obj}, X.s₀.heap.get? b = some o → b ≠ X.env.locals := fun e => Nat.ne_of_lt (Nat.lt_of_lt_of_le (Heap.lt_size e) I.ok.above)
  refine h _ ⟨I.ok, I.os, I.bare, ⟨fun b o e n hb hx => (hs.2 b (low e)).trans (I.base.keep b o e n hb hx), fun b o e n hb hx => ?_, I.base.free, fun b o e hx => ?_, I.base.tups, I.base.frzs, I.base.tbls⟩, ⟨_, hn', fun j y v' e1 e2 e3 => ?_⟩, fun y c e => ?_, I.free, I.freeC, fun p hp => ?_, fun b ob e => ?_, by simpa using I.len⟩
  · obtain ⟨sl, e1⟩ := I.base.slot b o e n hb hx
    exact ⟨sl, (hs.2 b (low e)).trans e1⟩
  · obtain ⟨o', e1⟩ := I.base.there b o e hx
    exact ⟨o', (hs.2 b (low e)).trans e1⟩
  · by_cases hj : j = i
    · subst hj
      rw [List.getElem?_set_self hiσ] at e2
      cases e2
    · rw [List.getElem?_set_ne (Ne.symm hj)] at e2
      obtain ⟨u', r', q⟩ := hl j y v' e1 e2 e3
      refine ⟨u', r', ?_⟩
      rcases q with ⟨k, e⟩ | ⟨k, c, e, z⟩
      · refine .inl ⟨k, ?_⟩
        have : y ≠ x := fun e => hj (nodup_ix hN e1 (e ▸ hi))
        simp [this, e]
      · exact .inr ⟨k, c, e, z.sameBut hs (cne y c e)⟩
  · obtain ⟨w', z⟩ := I.cell y c e
    exact ⟨w', z.sameBut hs (cne y c e)⟩
  · obtain ⟨e, n, ne, nf, d⟩ := I.pin p hp
    exact ⟨(hs.2 p.1 ne).trans e, n, ne, nf, d⟩
  · refine (I.hok b ob e).stay (fun c w' hc q => (hs.2 c ?_).trans q) (fun _ q => q) fun _ _ q => q
    rintro rfl
    rcases hc with rfl | hc
    · rw [I.free] at e; cases e
    · rw [I.free] at hc; cases hc
section
noncomputable def PB (Y : Cx) (st : Stmt) (t : Ends → (St → XK) → St → Hp → Prop) : Prop :=
  ∀ (pins : List (Addr × Obj)) (s : Shared) (σ : St) (H : Hp) (D : Ends) (E : St → XK), Inv Y.nox pins σ H s → t D E σ H →
    wpAny (model Y.prog Y.w) Y.A (exec st Y.env) (SP Y.nox pins D) (fun e s' => ∃ σ1 H1 s1, Inv Y.nox pins σ1 H1 s1 ∧ CXE Y.prog Y.w Y.stack H1 s1 (E σ1) e s') s
noncomputable def PBs (Y : Cx) (st : List Stmt) (t : Ends → (St → XK) → St → Hp → Prop) : Prop :=
  ∀ (pins : List (Addr × Obj)) (s : Shared) (σ : St) (H : Hp) (D : Ends) (E : St → XK), Inv Y.nox pins σ H s → t D E σ H →
    wpAny (model Y.prog Y.w) Y.A (execs st Y.env) (SP Y.nox pins D) (fun e s' => ∃ σ1 H1 s1, Inv Y.nox pins σ1 H1 s1 ∧ CXE Y.prog Y.w Y.stack H1 s1 (E σ1) e s') s
noncomputable def bNext : Ends → (St → XK) → St → Hp → Prop := fun D _ σ H => D.nx σ H
theorem pbs_nil {Y : Cx} : PBs Y [] bNext := fun _ _ σ H _ _ I h => wpAny_execs_nil ⟨σ, H, I, h⟩
noncomputable def bSeq (t u : Ends → (St → XK) → St → Hp → Prop) : Ends → (St → XK) → St → Hp → Prop := fun D E σ H => t ⟨u D E, D.rt, D.bk, D.ct⟩ E σ H
theorem pbs_cons {Y : Cx} {st : Stmt} {rest : List Stmt} {t u : Ends → (St → XK) → St → Hp → Prop} (h1 : PB Y st t) (h2 : PBs Y rest u) : PBs Y (st :: rest) (bSeq t u) := by
  intro pins s σ H D E I h
  refine wpAny_execs_cons (thn (h1 pins s σ H ⟨u D E, D.rt, D.bk, D.ct⟩ E I h) fun f s1 q => ?_)
  cases f with
  | next =>
    obtain ⟨σ', H', I', q⟩ := q
    exact h2 pins s1 σ' H' D E I' q
  | brk => exact q
  | cont => exact q
  | ret v => exact q
end
structure CalX (P : Program) (w : World) (K : PySem.W.Frag) (mg : Str → Option Value) (base : Heap) (x : Str) (k : Nat) (ps : List Str) (sp : Sp) : Prop where
  ex : ∃ (f : Addr) (fd : FuncData), mg x = some (.ref f) ∧ PySem.W.keepIn K (.ref f) = true ∧ Binds K fd ps [] ∧ FnOk P w K mg base (CXE P w) k f fd ps sp
theorem Fly.lands {P : Program} {w : World} {l : List Env} {H : Hp} {s : Shared} {x : Addr} {cls a0 : Value} {H' : Hp} {s' : Shared} {B h5 : Heap} {da : Option Addr} (F : Fly P w l H s x cls da H' s') (fl : Heap.FlyingW B l x cls a0 s'.heap) (f1 : ∀ b o, s'.heap.get? b = some o → H' b ≠ none → B.get? b = some o)
    (f2 : ∀ b o o', s.heap.get? b = some o → b ∉ frs l → s'.heap.get? b = some o' → B.get? b = some o') (fl5 : Heap.FlyingW B l x cls a0 h5) (sm : s'.heap.UpToSlots h5) : Un (frs l) [] H H' s.heap h5 ∧ HOk P w H' h5 := by
  have no : ∀ b : Addr, b ∉ ([] : List Addr) := fun b z => by cases z
  have hff := fl.2.2.1
  have up : ∀ b ∈ frs l, ∀ o, s'.heap.get? b = some o → ∃ sl, h5.get? b = some { o with slots := sl } := fun b hb o ho => by
    obtain ⟨_, o', ho', hd⟩ := hff.mem hb
    rw [ho] at ho'
    cases ho'
    exact sm b o ho hd
  refine ⟨⟨fun b o q n hb _ => fl5.1 b o (f2 b o o q hb (F.un.keep b o q n hb (no b))), fun b o q n hb _ => ?_, F.un.free, fun b o q _ => ?_, F.un.tups, F.un.frzs, F.un.tbls⟩, fun a o q => ?_⟩
  · obtain ⟨sl, e1⟩ := F.un.slot b o q n hb (no b)
    obtain ⟨sl', e2⟩ := up b hb _ e1
    exact ⟨sl', e2⟩
  · obtain ⟨o2, e2⟩ := F.un.there b o q (no b)
    by_cases hb : b ∈ frs l
    · obtain ⟨sl, e3⟩ := up b hb _ e2
      exact ⟨_, e3⟩
    · exact ⟨_, fl5.1 b o2 (f2 b o o2 q hb e2)⟩
  · refine (F.hok a o q).stay (fun b u hb z => fl5.1 b u (f1 b u z ?_)) (fun _ z => z) fun _ _ z => z
    rcases hb with rfl | hb
    · rw [q]; intro z; cases z
    · rw [hb]; intro z; cases z
noncomputable def tTry (K : PySem.W.Frag) (C : Addr) (i : Nat) (tb : Ends → (St → XK) → St → Hp → Prop) (ts : Addr → Addr → Option Addr → TS) : TS := fun D σ H =>
  tb D (fun σ1 cls da H1 => ∃ Dx, cls = .ref Dx ∧ PySem.W.exmOne K (.ref Dx) (.ref C) = some true ∧ ExcK K Dx ∧ ∀ x, H1 x = none →
    ts x Dx da ⟨fun σ' H' => D.nx (σ'.set i none) H', D.rt, fun σ' H' => D.bk (σ'.set i none) H', fun σ' H' => D.ct (σ'.set i none) H'⟩ (σ1.set i (some (.ref x))) H1) σ H
theorem ps_try {Y : Cx} {i : Nat} {c n : Str} {C : Addr} {body : List Stmt} {b0 : Stmt} {suite : List Stmt} {np hpos pos : Pos} {tb : Ends → (St → XK) → St → Hp → Prop} {ts : Addr → Addr → Option Addr → TS}
    (hstk : Y.stack = Y.env :: Y.outer) (hfrm : Y.env.frame = some Y.env.locals) (hN : Y.N.Nodup) (hi : Y.N[i]? = some n) (hk : Y.env.kindOf n = some .local) (hx : Y.env.scope.names.lookup n = some .local) (hm : Y.mg c = some (.ref C)) (hg : Gl Y c) (hd : (c == ("__debug__" : Str)) = false)
    (hb : PBs Y body tb) (hs : ∀ (x : Addr) (oe : Obj) (Dx : Addr) (da : Option Addr), ExcK Y.K Dx → oe.cls = .ref Dx → (∃ vs, oe.data = .fields vs ∧ vs[2]? = some .none) → (∀ d, da = some d → oe.dict = some d) → PSs (inH Y x oe) (b0 :: suite) (ts x Dx da)) :
    PS Y.nox (.Try body [.ExceptHandler (some (.Name c np)) (some n) (b0 :: suite) hpos] [] [] pos) (tTry Y.K C i tb ts) := by
  intro pins s σ H D I h
  refine wpAny_Try_except (wpAny_mono (hb pins s σ H _ _ I h) (fun f s1 q => ?_) fun e s1 q => ?_)
  · cases f with
    | next => exact wpAny_execs_nil q
    | brk => exact q
    | cont => exact q
    | ret v => exact q
  obtain ⟨σ1, H1, s2, I1, x, cls, da, H', rfl, ⟨Dx, rfl, hex, hK, hts⟩, F⟩ := q
  obtain ⟨B, a0, fl, f1, f2⟩ := F.fly
  have ok : Y.nox.Ok := I1.ok
  have hfr : Y.A.frames = some (Y.env :: Y.outer) := by rw [← hstk]; exact ok.frames
  have fl' : Heap.FlyingW B (Y.env :: Y.outer) x (.ref Dx) a0 s1.heap := by rw [← hstk]; exact fl
  refine note_alone hfr hfrm fl' F.alone fun h4 hd4 sm4 al4 => lands_alone (s := { s1 with heap := h4 }) hd4 al4 fun h5 fl5 sm5 al5 => ?_
  have sm45 : s1.heap.UpToSlots h5 := sm4.trans sm5
  have lnd : ∀ h6, Heap.FlyingW B (Y.env :: Y.outer) x (.ref Dx) a0 h6 → s1.heap.UpToSlots h6 → ∀ g tk dr, g = s1.gens → Inv Y.nox pins σ1 H' ⟨h6, g, dr, tk, s1.os⟩ := fun h6 fl6 sm6 g tk dr eg => by
    obtain ⟨un, hok⟩ := F.lands fl f1 f2 (by rw [hstk]; exact fl6) sm6
    exact I1.call' (s' := ⟨h6, g, dr, tk, s1.os⟩) F.os un hok (by rw [eg]; exact F.bare) (fun b z => by cases z)
  have I5 := lnd h5 fl5 sm45 s1.gens s1.toks s1.drawn rfl
  have ty5 : PySem.W.Looks (model Y.prog Y.w) h5 (typeOf (.ref x)) (.ref Dx) := by
    obtain ⟨ob, hob, hc⟩ := fl5.there
    exact InstC.type ⟨hob, hc⟩
  refine wpAny_handleBy_cons (codeAny_handlers_test ?_) (by intro q; cases q)
  refine ld_glob (X := inM Y.nox x) (I5.marked x) hg hm ?_ hd
  refine (PySem.W.exm_one (M := model Y.prog Y.w) I5.kIn ty5 hex).here ?_
  dsimp only
  rw [if_pos rfl]
  refine codeAny_handlers_suite_as (again_alone (s := { s1 with heap := h5 }) fl5 al5 fun h6 fl6 sm6 al6 => ?_)
  have I6 := lnd h6 fl6 (sm45.trans sm6) s1.gens s1.toks s1.drawn rfl
  obtain ⟨oe, vs, he, hc, hdt, _⟩ := fl6.first
  have nfr : x ∉ frs (Y.env :: Y.outer) := fun hm' => by
    obtain ⟨_, o, ho, hnf⟩ := fl6.2.2.1.mem hm'
    rw [he] at ho
    cases ho
    exact hnf vs hdt
  have I7 := I6.pinH (x := x) he F.new (fun z => nfr (frs_mem (env := Y.env) List.mem_cons_self (by rw [hfrm, z]))) (fun z => nfr (by show x ∈ List.filterMap _ _; rw [List.filterMap_cons, hfrm]; exact List.mem_cons_of_mem _ z)) (fun v z => by rw [hdt] at z; cases z)
  refine store_ok (X := inH Y.nox x oe) (v := .ref x) I7 hN hi (.inl hx) rfl (fun s8 I8 => ?_) (.inr hx)
  refine wpAny_mono (hs x oe Dx da hK hc (by obtain ⟨o', vs', x1, x2, x3, _⟩ := al6; rw [he] at x1; cases x1; exact ⟨vs', x2, x3⟩) (by obtain ⟨o', vs', x1, _, _, x4⟩ := al6; rw [he] at x1; cases x1; exact x4) pins s8 _ H' _ I8 (hts x F.new)) (fun f s9 q => ?_) fun _ _ z => z.elim
  cases f with
  | next =>
    obtain ⟨σ', H9, I9, q⟩ := q
    exact goes_ok (X := Y.nox) (Inv.unpinH ok I9) hN hi hk fun s10 I10 => ⟨_, H9, I10, q⟩
  | brk =>
    obtain ⟨σ', H9, I9, q⟩ := q
    exact goes_ok (X := Y.nox) (Inv.unpinH ok I9) hN hi hk fun s10 I10 => ⟨_, H9, I10, q⟩
  | cont =>
    obtain ⟨σ', H9, I9, q⟩ := q
    exact goes_ok (X := Y.nox) (Inv.unpinH ok I9) hN hi hk fun s10 I10 => ⟨_, H9, I10, q⟩
  | ret u =>
    obtain ⟨v, σ', H9, I9, rv, q⟩ := q
    exact goes_ok (X := Y.nox) (Inv.unpinH ok I9) hN hi hk fun s10 I10 => ⟨v, _, H9, I10, rv, q⟩
theorem Dfn.okX {P : Program} {w : World} {K : PySem.W.Frag} {mg : Str → Option Value} {base : Heap} {x : Str} {st : Stmt} {N ps : List Str} {k : Nat} {sp : Sp} (D : Dfn K mg x st ps) (S : FnScope N ps (defScope st)) (len : ∀ vs H Q E, sp vs H Q E → vs.length = ps.length)
    (hbody : ∀ (f : Addr) (cdv : Value) (A : Around) (outer : List Env) (s : Shared) (H : Hp) (vs : List V) (Q : VK) (E : XK), Room k (A.deeper (envOfC x (defScope st) s.heap.objs.size f cdv)) → sp vs H Q E →
      ∃ t, PSs (cxOf (CXE P w) P w K mg base N x (defScope st) f cdv A outer s H E) (defBody st) t ∧ t { nx := fun _ H' => Q .non H', rt := Q } (start N vs) H) : CalX P w K mg base x (k + 1) ps sp := by
  obtain ⟨f, fd, hm, F, hb⟩ := D.ex
  obtain ⟨oc, od, kV, doc, pm, an, cdv, ct, osl, rfl, lk, hcd⟩ := F.ex
  exact ⟨f, _, hm, F.kp, hb, fn_of lk hcd S len fun A outer s H vs Q E hr h => hbody f cdv A outer s H vs Q E hr h⟩
section
variable {P : Program} {w : World} {K : PySem.W.Frag} {mg : Str → Option Value} {base : Heap} {N : List Str} {qual : Str} {scope : Scope} {f : Addr} {cd : Value} {A : Around} {outer : List Env} {s₀ : Shared} {H₀ : Hp} {E : XK}
end
noncomputable abbrev bmV : List Value := [.type "ValueError", .type "Exception", .type "BaseException", .type "object"]
noncomputable def cA (K : PySem.W.Frag) (x : Str) : Addr := match PySem.W.nsIn K mainGlobals x with
  | some (some (.ref C)) => C
  | _ => 0
noncomputable def excB (K : PySem.W.Frag) (x : Str) : Bool :=
  PySem.W.excIn K (cA K x) bmV "ValueError.__new__" && (match K.lookup (cA K x) with | some ⟨_, _, .cls _, _⟩ => true | _ => false) && PySem.W.findIn K (.ref (cA K x)) "__getattribute__" == some (some (.builtin "BaseException.__getattribute__")) &&
  PySem.W.findIn K (.ref (cA K x)) "__getattr__" == some none && PySem.W.subIn K (.ref (cA K x)) (.type "BaseException") == some true && PySem.W.findIn K (.ref (cA K x)) "__class__" == some (some (.builtin "object.__class__")) &&
  PySem.W.specialIn K (.builtin "object.__class__") "__get__" == some (some (.builtin "getset_descriptor.__get__")) && PySem.W.takesIn K (.builtin "object.__class__") == some true && PySem.W.mroIn K (cA K x) (.type "object") == some true
structure Xf (K : PySem.W.Frag) (mg : Str → Option Value) (base : Heap) (all raised : List Str) : Prop where
  cl : ∀ x ∈ all, mg x = some (.ref (cA K x))
  own : ∀ x ∈ raised, OwnCls x (cA K x) bmV "ValueError.__new__" mg base
  exk : ∀ x ∈ raised, ExcK K (cA K x)
  up : ∀ x ∈ raised, PySem.W.exmOne K (.ref (cA K x)) (.ref (cA K "StairError")) = some true
  kv : ∀ x ∈ raised, PySem.W.kitOne K (.ref (cA K x)) (.type "ValueError") = some true
  kc : ∀ x ∈ raised, ∀ y ∈ all, PySem.W.kitOne K (.ref (cA K x)) (.ref (cA K y)) = some (x == y || y == ("StairError" : Str))
noncomputable def xfB (K : PySem.W.Frag) (all raised : List Str) : Bool :=
  all.all (fun x => PySem.W.nsIn K mainGlobals x == some (some (.ref (cA K x)))) && raised.all (fun x => all.contains x && excB K x && PySem.W.exmOne K (.ref (cA K x)) (.ref (cA K "StairError")) == some true && PySem.W.kitOne K (.ref (cA K x)) (.type "ValueError") == some true &&
    all.all fun y => PySem.W.kitOne K (.ref (cA K x)) (.ref (cA K y)) == some (x == y || y == ("StairError" : Str)))
theorem xf_mk {K : PySem.W.Frag} {mg : Str → Option Value} {base : Heap} {all raised : List Str} (X : K.In base) (G : base.Ns mainGlobals mg) (h : xfB K all raised = true) : Xf K mg base all raised := by
  unfold xfB at h
  rw [Bool.and_eq_true, List.all_eq_true, List.all_eq_true] at h
  obtain ⟨h1, h2⟩ := h
  have n1 : ∀ x ∈ all, PySem.W.nsIn K mainGlobals x = some (some (.ref (cA K x))) := fun x hx => eq_of_beq (h1 x hx)
  have h3 : ∀ x ∈ raised, ((((x ∈ all ∧ excB K x = true) ∧ PySem.W.exmOne K (.ref (cA K x)) (.ref (cA K "StairError")) = some true) ∧ PySem.W.kitOne K (.ref (cA K x)) (.type "ValueError") = some true) ∧ ∀ y ∈ all, PySem.W.kitOne K (.ref (cA K x)) (.ref (cA K y)) = some (x == y || y == ("StairError" : Str))) := fun x hx => by
    have := h2 x hx
    simp only [Bool.and_eq_true, beq_iff_eq, List.contains_iff_mem, List.all_eq_true] at this
    exact this
  have e1 : ∀ x ∈ raised, PySem.W.excIn K (cA K x) bmV "ValueError.__new__" = true ∧ ExcK K (cA K x) := fun x hx => by
    have := (h3 x hx).1.1.1.2
    unfold excB at this
    simp only [Bool.and_eq_true, beq_iff_eq] at this
    obtain ⟨⟨⟨⟨⟨⟨⟨⟨a1, a2⟩, a3⟩, a4⟩, a5⟩, a6⟩, a7⟩, a8⟩, a9⟩ := this
    refine ⟨a1, ?_, a3, a4, a5, a6, a7, a8, a9⟩
    cases hl : K.lookup (cA K x) with
    | none => rw [hl] at a2; cases a2
    | some o =>
      rw [hl] at a2
      obtain ⟨c, d, data, sl⟩ := o
      cases data <;> first | exact ⟨_, _, _, _, rfl⟩ | cases a2
  exact ⟨fun x hx => PySem.W.mg_of X G (n1 x hx), fun x hx => own_mk X G (n1 x (h3 x hx).1.1.1.1) (e1 x hx).1, fun x hx => (e1 x hx).2, fun x hx => (h3 x hx).1.1.2, fun x hx => (h3 x hx).1.2, fun x hx => (h3 x hx).2⟩
theorem kitAny_no {K : PySem.W.Frag} {t : Value} : ∀ {Cs : List Addr}, (∀ C ∈ Cs, PySem.W.kitOne K t (.ref C) = some false) → PySem.W.kitAny K t (Cs.map Value.ref) = some false
  | [], _ => rfl
  | C :: Cs, h => by
    show (match PySem.W.kitOne K t (.ref C) with | some true => some true | some false => PySem.W.kitAny K t (Cs.map Value.ref) | none => none) = some false
    rw [h C List.mem_cons_self]
    exact kitAny_no fun D hD => h D (List.mem_cons_of_mem _ hD)
section
variable {K : PySem.W.Frag} {D : Ends} {σ : St} {H : Hp} {Q : VK} {E : XK} {C x : Addr}
theorem rd_raise {t : TA} {cls : Value} (h : t σ H fun vs H1 => vs.length ≤ sizeLine ∧ E cls none H1) : tRaise cls E t D σ H := h
theorem rd_isiC {C' : Addr} {b : Bool} (hk : PySem.W.kitOne K (.ref C) (.ref C') = some b) (h : Q (.bl b) H) : rIsiX K x C [.ref x, .ref C'] H Q := ⟨b, .inl ⟨C', rfl, hk⟩, h⟩
theorem rd_isiP {p : Addr} {Cs : List Addr} {b : Bool} (ht : H p = some (.tup (Cs.map V.ref))) (hk : PySem.W.kitAny K (.ref C) (Cs.map Value.ref) = some b) (h : Q (.bl b) H) : rIsiX K x C [.ref x, .ref p] H Q := ⟨b, .inr (.inr ⟨p, Cs, rfl, ht, hk⟩), h⟩
end
section
variable {K : PySem.W.Frag} {D : Ends} {σ : St} {H : Hp} {E : St → XK} {C : Addr} {i : Nat} {t u tb : Ends → (St → XK) → St → Hp → Prop} {ts : Addr → Addr → Option Addr → TS} {c : TT}
theorem rd_bseq (h : t ⟨u D E, D.rt, D.bk, D.ct⟩ E σ H) : bSeq t u D E σ H := h
theorem rd_bnext (h : D.nx σ H) : bNext D E σ H := h
end
end L2
set_option linter.all false
set_option maxRecDepth 100000
namespace Tb
open PySem
end Tb
set_option linter.all false
set_option maxRecDepth 100000
namespace Tb
open PySem
end Tb
set_option Elab.async false
set_option linter.all false
set_option maxRecDepth 100000
set_option maxHeartbeats 4000000
namespace L2
open PySem PySem.Spec PyProof.Rows
section
variable {P : Program} {w : World} {A : Around} {E : Value → Shared → Prop} {s : Shared} {K : Type} [DecidableEq K] {knd : KeyKind P w K}
end
section
variable {P : Program} {w : World} {A : Around} {E : Value → Shared → Prop} {s : Shared}
end
section
variable {P : Program} {w : World} {A : Around} {I : Addr} {fp wr : List Addr} {G : Array GenState → Array GenState → Prop} {n : Nat} {Pz : Nat → Value → Prop} {St : Nat → Shared → Prop}
end
end L2
set_option Elab.async false
set_option linter.all false
set_option maxRecDepth 100000
set_option maxHeartbeats 4000000
namespace L2
open PySem PySem.Spec PyProof.Rows
section
variable {P : Program} {w : World} {A : Around} {E : Value → Shared → Prop} {s : Shared}
end
end L2
set_option Elab.async false
set_option linter.all false
set_option maxRecDepth 100000
set_option maxHeartbeats 4000000
namespace L2
open PySem PySem.Spec PyProof.Rows
namespace SF
end SF
section
variable {P : Program} {w : World} {A : Around} {E : Value → Shared → Prop} {s : Shared}
end
end L2
set_option Elab.async false
set_option linter.all false
set_option maxRecDepth 100000
set_option maxHeartbeats 4000000
namespace L2
open PySem PySem.Spec PyProof.Rows
section
variable {P : Program} {w : World} {A : Around} {E : Value → Shared → Prop} {s : Shared}
end
end L2
set_option Elab.async false
set_option linter.all false
set_option maxRecDepth 100000
set_option maxHeartbeats 4000000
namespace PyProof.Rows
open PySem
section
variable {prog : Program} {w : World} {A : Around} {E : Value → Shared → Prop} {s : Shared} {κ : SortKind} {X : Keyed → Prop}
open Classical in
end
end PyProof.Rows
set_option Elab.async false
set_option linter.all false
set_option maxRecDepth 100000
set_option maxHeartbeats 4000000
namespace L2
open PySem PySem.Spec PyProof.Rows
section
variable {P : Program} {w : World} {A : Around} {E : Value → Shared → Prop} {s : Shared}
end
end L2
set_option Elab.async false
set_option linter.all false
set_option maxRecDepth 100000
set_option maxHeartbeats 4000000
namespace L2
open PySem PySem.Spec PyProof.Rows
section
variable {P : Program} {w : World} {A : Around} {E : Value → Shared → Prop} {s : Shared}
open Classical in
end
end L2
set_option Elab.async false
set_option linter.all false
set_option maxRecDepth 100000
set_option maxHeartbeats 4000000
namespace L2
open PySem PySem.Spec PyProof.Rows
section
variable {P : Program} {w : World}
end
section
variable {X : Cx} {pins : List (Addr × Obj)} {σ : St} {H : Hp} {s : Shared}
end
section
variable {X : Cx}
end
end L2
set_option Elab.async false
set_option linter.all false
set_option maxRecDepth 100000
set_option maxHeartbeats 4000000
namespace L2
open PySem PySem.Spec PyProof.Rows
section
variable {X : Cx} {pins : List (Addr × Obj)} {σ : St} {H : Hp} {s : Shared}
end
open AutoSeq1 (wpAny_loadPart') in
section
variable {K : PySem.W.Frag} {σ : St} {H : Hp} {Q : VK}
end
section
variable {X : Cx}
end
end L2
set_option Elab.async false
set_option linter.all false
set_option maxRecDepth 100000
set_option maxHeartbeats 4000000
namespace L2
open PySem PySem.Spec PyProof.Rows
noncomputable abbrev Row3 := Str × Tok × Value
noncomputable def gdE (w : World) (e : Row3) : DictEntry := ⟨PyData.keyHash w.params e.1, .str e.1 e.2.1, e.2.2⟩
noncomputable def gdO (w : World) (l : List Row3) (ep : Nat) : Obj := { cls := .type "dict", dict := none, data := .dict (l.map (gdE w)).toArray ep, slots := #[] }
structure GDict (w : World) (K : PySem.W.Frag) (a : Addr) (kvs : List (Key × V)) : Prop where
  has : ∃ l ep, K.lookup a = some (gdO w l ep) ∧ KV kvs (l.map fun e => ((Sum.inr e.1 : Key), e.2.2))
  nd : (kvs.map (·.1)).Nodup
  sm : (a == sysModules) = false
theorem gd_pairs {P : Program} {w : World} : ∀ l : List Row3, Pairs (mixKind P w) (l.map (gdE w)) (l.map fun e => ((Sum.inr e.1 : Key), e.2.2))
  | [] => .nil
  | e :: l => .cons (mixKind_str P w e.1 e.2.1) rfl (gd_pairs l)
theorem gd_keys {P : Program} {w : World} (l : List Row3) : KeysOf (mixKind P w) (l.map (gdE w)).toArray := fun e he => by
  have he' : e ∈ l.map (gdE w) := by simpa using he
  obtain ⟨x, _, rfl⟩ := List.mem_map.mp he'
  exact ⟨.inr x.1, mixKind_str P w x.1 x.2.1, rfl⟩
theorem GDict.at {X : Cx} {pins : List (Addr × Obj)} {σ : St} {H : Hp} {s : Shared} {a : Addr} {kvs : List (Key × V)} (D : GDict X.w X.K a kvs) (I : Inv X pins σ H s) : ∃ vs, KV kvs vs ∧ s.heap.DictOf (mixKind X.prog X.w) a vs := by
  obtain ⟨l, ep, hl, r⟩ := D.has
  refine ⟨_, r, gdO X.w l ep, _, ep, I.kIn _ _ hl, ⟨rfl, rfl, rfl⟩, rfl, gd_keys l, gd_pairs l, ?_⟩
  rw [← r.keys]
  exact D.nd
section
variable {X : Cx} {x : Str} {a : Addr} {kvs : List (Key × V)} {i : Expr} {ty : TE} {p pos : Pos}
noncomputable def tGGet (kvs : List (Key × V)) (ty : TE) : TE := fun σ H Q => ty σ H fun y H1 => ∃ k v, y = kV k ∧ valV kvs k = some v ∧ Q v H1
noncomputable def tGIn (neg : Bool) (kvs : List (Key × V)) (ty : TE) : TE := fun σ H Q => ty σ H fun y H1 => ∃ k, y = kV k ∧ Q (.bl (if neg then !(valV kvs k).isSome else (valV kvs k).isSome)) H1
theorem pe_gget (hg : Gl X x) (hm : X.mg x = some (.ref a)) (D : GDict X.w X.K a kvs) (hi : PE X i ty) (hs : NoSl i) (hd : (x == ("__debug__" : Str)) = false := by decide) : PE X (.Subscript (.Name x p) i pos) (tGGet kvs ty) := by
  intro pins s σ H Q I h
  refine subD_of PySem.F.slot_dict_getitem.lookup hs (ld_glob I hg hm (thn (hi pins s σ H _ I h) fun iv s2 ⟨y, H2, I2, ry, k, v, ey, hv, q⟩ => ?_) hd)
  subst ey
  obtain ⟨vs, rel, dd⟩ := D.at I2
  obtain ⟨w', hw, rw'⟩ := RelO.some_of (v := v) (o := valueAt vs k) (by rw [← hv]; exact rel.val k)
  exact ⟨dd.typeIs, wpAny_getItem_of (kV_is ry) dd.mapOf hw ⟨v, H2, I2.tok _, rw', q⟩⟩
theorem pc_gin (hg : Gl X x) (hm : X.mg x = some (.ref a)) (D : GDict X.w X.K a kvs) (hi : PE X i ty) (hd : (x == ("__debug__" : Str)) = false := by decide) : PC X .In i (.Name x p) (tGIn false kvs ty) := by
  intro pins s σ H Q I h
  refine thn (hi pins s σ H _ I h) fun iv s1 ⟨y, H1, I1, ry, k, ey, q⟩ => ld_glob I1 hg hm ?_ hd
  subst ey
  obtain ⟨vs, rel, dd⟩ := D.at I1
  refine wpAny_in_of (kV_is ry) D.sm dd.mapOf ?_
  rw [← (rel.val k).isSome_eq]
  exact ⟨.bl (valV kvs k).isSome, H1, I1.tok _, rfl, q⟩
theorem rd_gget {σ : St} {H : Hp} {Q : VK} (h : ty σ H fun y H1 => ∃ k v, y = kV k ∧ valV kvs k = some v ∧ Q v H1) : tGGet kvs ty σ H Q := h
theorem rd_gin {neg : Bool} {σ : St} {H : Hp} {Q : VK} (h : ty σ H fun y H1 => ∃ k, y = kV k ∧ Q (.bl (if neg then !(valV kvs k).isSome else (valV kvs k).isSome)) H1) : tGIn neg kvs ty σ H Q := h
theorem rd_keyS {R : V → Prop} {z : Str} {v : V} (hv : valV kvs (.inr z) = some v) (h : R v) : ∃ k v, V.str z = kV k ∧ valV kvs k = some v ∧ R v := ⟨.inr z, v, rfl, hv, h⟩
noncomputable def rLeS : R2 := fun x y H Q => ∃ a b, x = .str a ∧ y = .str b ∧ Q (.bl (!decide (b.cps.toList < a.cps.toList))) H
theorem op_leS : OpR X (compareOp .LtE) rLeS := by
  intro pins s σ H x y v u Q I rx ry h
  obtain ⟨a, b, rfl, rfl, q⟩ := h
  obtain ⟨t, rfl⟩ := rx
  obtain ⟨t', rfl⟩ := ry
  exact PySem.P.le_str ⟨.bl _, H, I, rfl, q⟩
theorem rd_leS {a b : Str} {H : Hp} {Q : VK} (h : Q (.bl (!decide (b.cps.toList < a.cps.toList))) H) : rLeS (.str a) (.str b) H Q := ⟨a, b, rfl, rfl, h⟩
theorem rd_disp {trs : List (TE × TE)} {σ : St} {H : Hp} {Q : VK} (h : ∀ p, H p = none → tPairs trs σ (upd H p (.dK [])) fun ps H2 => H2 p = some (.dK []) ∧ ∃ kvs : List (Key × V), ps = kvs.map (fun kv => (kV kv.1, kv.2)) ∧ kvs.length ≤ 15 ∧ Q (.ref p) (upd H2 p (.dK (mergeK [] kvs)))) : tDisp trs σ H Q := h
theorem rd_dget {td : TE} {σ : St} {H : Hp} {Q : VK} (h : td σ H fun x H1 => ty σ H1 fun y H2 => ∃ a v, x = .ref a ∧ DGet H2 a y (some v) ∧ Q v H2) : tDGet td ty σ H Q := h
end
end L2
set_option Elab.async false
set_option linter.all false
set_option maxRecDepth 100000
set_option maxHeartbeats 4000000
namespace L2
open PySem PySem.Spec PyProof.Rows
section
variable {prog : Program} {w : World} {A : Around} {E : Value → Shared → Prop} {s : Shared} {r d : Addr}
end
section
variable {X : Cx}
end
end L2
set_option Elab.async false
set_option linter.all false
set_option maxRecDepth 100000
set_option maxHeartbeats 4000000
namespace L2
open PySem PySem.Spec PyProof.Rows
section
variable {X : Cx}
end
end L2
set_option Elab.async false
set_option linter.all false
set_option maxRecDepth 100000
set_option maxHeartbeats 4000000
namespace L2
open PySem PySem.Spec PyProof.Rows
noncomputable def Its (z : Str) : It := ⟨fun i _ => i < z.cps.size, fun i H x H' => H' = H ∧ ∃ c, z.cps[i]? = some c ∧ x = .str ⟨#[c]⟩, fun i _ => z.cps.size ≤ i⟩
theorem turn_str {P : Program} {w : World} {K : PySem.W.Frag} {tg : Expr} (z : Str) (t : Tok) (it : Addr) : Turn P w K tg (Its z) [it] it (fun i h => h.IsStrIter it (strIterType z) z t i) where
  mem := by simp
  obj := fun i h st b hb => by
    have e : b = it := by simpa using hb
    subst e
    obtain ⟨o, e, c, d⟩ := st
    exact ⟨o, e, fun v z => by rw [d] at z; cases z⟩
  keep := fun i h h' st k => by
    obtain ⟨o, e, r⟩ := st
    exact ⟨o, k it (by simp) o e, r⟩
  item := by
    intro X hP hw hK hc i pins s σ H E I hf st hg
    subst hP hw hK
    have hx : z.cps[i]? = some z.cps[i] := Array.getElem?_eq_getElem hg
    obtain ⟨f0, f1, f2, f3, f4, f5⟩ := hf it (by simp)
    have fin : ∀ (ty : String), ty = strIterType z → ["enumerate", "zip", "dict_itemiterator", "dict_reverseitemiterator", "odict_iterator", "itertools.zip_longest", "itertools.pairwise"].contains ty = false → ∀ h', h'.IsStrIter it ty z t (i + 1) → Heap.SameBut it s.heap h' →
        ∃ u, some (Value.str ⟨#[z.cps[i]]⟩ s.toks) = some u ∧ wpAny (model X.prog X.w) X.A (letOwnedTupleGo tg (.ref it) u) (fun _ s2 => ∃ x H', Inv X pins σ H' s2 ∧ RelV x u ∧ (Its z).yld i H x H' ∧ s2.heap.IsStrIter it (strIterType z) z t (i + 1) ∧ ∀ b ∈ [it], H' b = none) E { s with heap := h', toks := s.toks + 1 } := by
      intro ty hty hn h' st' sb
      have I1 : Inv X pins σ H { s with heap := h', toks := s.toks + 1 } := I.turned (fun b o hb e => (sb.2 b hb).trans e) f0 f1 f3 f4 f5
      obtain ⟨o, e, c, d⟩ := id st'
      exact ⟨_, rfl, go_of (s := { s with heap := h', toks := s.toks + 1 }) e c d hn ⟨.str ⟨#[z.cps[i]]⟩, H, I1, ⟨_, rfl⟩, ⟨rfl, _, hx, rfl⟩, by rw [← hty]; exact st', fun b hb => (hf b hb).1⟩⟩
    cases ha : z.cps.all (· < 128) with
    | true =>
      have et : strIterType z = "str_ascii_iterator" := by unfold strIterType; rw [ha]; rfl
      rw [et] at st
      exact wpAny_pyNext_ascii_item st hx fun h' st' sb => fin _ et.symm (by decide) h' st' sb
    | false =>
      have et : strIterType z = "str_iterator" := by unfold strIterType; rw [ha]; rfl
      rw [et] at st
      exact wpAny_pyNext_wide_item st hx fun h' st' sb => fin _ et.symm (by decide) h' st' sb
  done := by
    intro X hP hw hK hc i pins s σ H E I hf st hg
    subst hP hw hK
    have hx : z.cps[i]? = none := Array.getElem?_eq_none hg
    obtain ⟨f0, f1, f2, f3, f4, f5⟩ := hf it (by simp)
    have fin : ∀ h', Heap.ExtBut it s.heap h' → (none : Option Value) = none ∧ Inv X pins σ H { s with heap := h' } := fun h' eb => ⟨rfl, I.turned (t' := s.toks) (fun b o hb e => eb b o hb e) f0 f1 f3 f4 f5⟩
    cases ha : z.cps.all (· < 128) with
    | true =>
      have et : strIterType z = "str_ascii_iterator" := by unfold strIterType; rw [ha]; rfl
      rw [et] at st
      exact wpAny_pyNext_ascii_end (I.ok.hd hc) st hx fin
    | false =>
      have et : strIterType z = "str_iterator" := by unfold strIterType; rw [ha]; rfl
      rw [et] at st
      exact wpAny_pyNext_wide_end (I.ok.hd hc) st hx fin
  self := fun A i s Q E st h => by
    cases ha : z.cps.all (· < 128) with
    | true =>
      have et : strIterType z = "str_ascii_iterator" := by unfold strIterType; rw [ha]; rfl
      rw [et] at st
      exact wpAny_pyIter_striter_ascii st h
    | false =>
      have et : strIterType z = "str_iterator" := by unfold strIterType; rw [ha]; rfl
      rw [et] at st
      exact wpAny_pyIter_striter_wide st h
section
variable {X : Cx} {tg : Expr}
noncomputable def iStr (tl : TE) : TI := fun σ H R => tl σ H fun x H1 => ∃ z, x = .str z ∧ R (Its z) H1
theorem pi_str {l : Expr} {tl : TE} (hl : PE X l tl) : PI X tg l (iStr tl) := by
  intro pins s σ H R I h
  refine thn (hl pins s σ H _ I h) fun v s1 ⟨x, H1, I1, r1, q1⟩ => ?_
  obtain ⟨z, rfl, q⟩ := q1
  obtain ⟨t, rfl⟩ := r1
  refine wpAny_pyIter_strU ?_
  refine ⟨s1.heap.objs.size, [s1.heap.objs.size], _, _, H1, rfl, I1.kept (t' := s1.toks) fun b o e => Heap.get?_push_of_some _ e, turn_str z t _, ⟨_, Heap.get?_push_size _ rfl, rfl, rfl⟩, fun b hb => ?_, q⟩
  have e : b = s1.heap.objs.size := by simpa using hb
  subst e
  exact I1.fpOk (Nat.le_refl _) (I1.hok.fresh (Nat.le_refl _))
end
theorem rd_iS {te : TE} {σ : St} {H : Hp} {R : It → Hp → Prop} (h : te σ H fun x H1 => ∃ z, x = .str z ∧ R (Its z) H1) : iStr te σ H R := h
section
variable {prog : Program} {w : World} {A : Around} {E : Value → Shared → Prop} {s : Shared}
end
section
variable {X : Cx} {tg : Expr}
end
end L2
set_option Elab.async false
set_option linter.all false
set_option maxRecDepth 100000
set_option maxHeartbeats 4000000
namespace L2
open PySem PySem.Spec PyProof.Rows
section
variable {X : Cx}
theorem strs_of : ∀ {zs : List Str} {us : List Value}, Vals (zs.map V.str) us → StrsAre us zs
  | [], _, r => by cases r; exact .nil
  | z :: zs, _, r => by
    cases r with
    | cons h t =>
      obtain ⟨t', rfl⟩ := h
      exact .cons z t' (strs_of t)
theorem pe_bm0K (K : PySem.W.Frag) {o : Expr} {to : TE} {name : Str} {apos cpos : Pos} {T id : String} {r : V → List V → Hp → VK → Prop} (pa : PlainAttrs T) (slot : Slot T name id) (hty : typeOf (.builtin id) = pure (.type "method_descriptor")) (hm : MtR X id r) (ho : PE X o to) (h : X.K = K := by rfl)
    (hbase : attributeBase o name X.env (eval o X.env) = eval o X.env := by rfl) (hline : (apos.endLine == cpos.line) = true := by rfl) : PE X (.Call (.Attribute o name apos) [] [] cpos) (tBM0 K T r to) := by
  subst h
  exact pe_bm0 pa slot hty hm ho hbase hline
end
theorem rd_bm0 {K : PySem.W.Frag} {T : String} {r : V → List V → Hp → VK → Prop} {to : TE} {σ : St} {H : Hp} {Q : VK} (h : to σ H fun x H1 => tyV K T x H1 ∧ r x [] H1 Q) : tBM0 K T r to σ H Q := h
end L2
set_option Elab.async false
set_option linter.all false
set_option maxRecDepth 100000
set_option maxHeartbeats 4000000
namespace L2
open PySem PySem.Spec PyProof.Rows
section
variable {X : Cx}
end
section
variable {X : Cx}
end
end L2
set_option Elab.async false
set_option linter.all false
set_option maxRecDepth 100000
set_option maxHeartbeats 4000000
namespace L2
open PySem PySem.Spec PyProof.Rows
section
variable {X : Cx}
end
end L2
set_option Elab.async false
set_option linter.all false
set_option maxRecDepth 100000
set_option maxHeartbeats 4000000
namespace L2
open PySem PySem.Spec PyProof.Rows
section
variable {P : Program} {w : World} {K : PySem.W.Frag} {mg : Str → Option Value} {base : Heap}
end
section
variable {X : Cx}
end
end L2
set_option Elab.async false
set_option linter.all false
set_option maxRecDepth 100000
set_option maxHeartbeats 4000000
namespace L2
open PySem PySem.Spec PyProof.Rows
section
variable {P : Program} {w : World} {A : Around} {E : Value → Shared → Prop} {s : Shared}
end
section
variable {P : Program} {w : World} {A : Around} {E : Value → Shared → Prop} {s : Shared}
end
end L2
set_option Elab.async false
set_option linter.all false
set_option maxRecDepth 100000
set_option maxHeartbeats 4000000
namespace L2
open PySem PySem.Spec PyProof.Rows
section
variable {P : Program} {w : World} {A : Around} {E : Value → Shared → Prop} {s : Shared}
end
end L2
set_option Elab.async false
set_option linter.all false
set_option maxRecDepth 100000
set_option maxHeartbeats 4000000
namespace L2
open PySem PySem.Spec PyProof.Rows
section
variable {X : Cx} {pins : List (Addr × Obj)} {σ : St} {H : Hp} {s : Shared}
end
section
variable {X : Cx}
end
end L2
set_option Elab.async false
set_option linter.all false
set_option maxRecDepth 100000
set_option maxHeartbeats 4000000
namespace L2
open PySem PySem.Spec PyProof.Rows
section
variable {P : Program} {w : World} {A : Around} {E : Value → Shared → Prop} {s : Shared}
end
section
variable {X : Cx}
end
end L2
set_option Elab.async false
set_option linter.all false
set_option maxRecDepth 100000
set_option maxHeartbeats 4000000
namespace L2
open PySem PySem.Spec PyProof.Rows
section
variable {X : Cx}
end
end L2
set_option Elab.async false
set_option linter.all false
set_option maxRecDepth 100000
set_option maxHeartbeats 4000000
namespace L2
open PySem PySem.Spec PyProof.Rows
section
variable {X : Cx} {pins : List (Addr × Obj)} {σ : St} {H : Hp} {s : Shared}
end
section
variable {X : Cx}
end
end L2
set_option Elab.async false
set_option linter.all false
set_option maxRecDepth 100000
set_option maxHeartbeats 4000000
namespace L2
open PySem PySem.Spec PyProof.Rows
section
variable {X : Cx}
end
end L2
set_option Elab.async false
set_option linter.all false
set_option maxRecDepth 100000
set_option maxHeartbeats 4000000
namespace L2
open PySem PySem.Spec PyProof.Rows
noncomputable def tFs3 (a b : Str) (te : TE) : TE := fun σ H Q => te σ H fun v H1 => ∃ i : Int, v = .int i ∧ i.natAbs.log2 < 1920 ∧ (Str.empty ++ a ++ (toString i : Str)).length ≤ sizeLine ∧ (Str.empty ++ a ++ (toString i : Str) ++ b).length ≤ sizeLine ∧ ∀ z, Q (.str z) H1
theorem pe_fs3 {X : Cx} {a b : Str} {j j2 : Nat} {e : Expr} {te : TE} {p1 p2 p3 pos : Pos} (he : PE X e te) (hz : (Str.empty ++ a).length ≤ sizeLine := by decide +kernel) : PE X (.JoinedStr [.Constant (.str a) j p1, .FormattedValue e (-1) none p2, .Constant (.str b) j2 p3] pos) (tFs3 a b te) := by
  intro pins s σ H Q I h
  refine JoinedStr_many (joinParts_cons (thn ((pe_str : PE X (.Constant (.str a) j p1) (tC (.str a))) pins s σ H (fun v H1 => v = V.str a ∧ H1 = H) I ⟨rfl, rfl⟩) fun v s1 ⟨x, H1, I1, r1, q1, q2⟩ => ?_))
  subst q1 q2
  obtain ⟨t, rfl⟩ := r1
  refine ⟨hz, joinParts_cons (FormattedValue_plain (thn (he pins s1 σ H1 _ I1 h) fun v s2 ⟨y, H2, I2, r2, i, e2, hl, hz2, hz3, q⟩ => ?_))⟩
  subst e2
  obtain ⟨t2, rfl⟩ := r2
  refine formatField_int_small hl ⟨hz2, joinParts_cons (thn ((pe_str : PE X (.Constant (.str b) j2 p3) (tC (.str b))) pins _ σ H2 (fun v H3 => v = V.str b ∧ H3 = H2) (I2.tok _) ⟨rfl, rfl⟩) fun v s3 ⟨x, H3, I3, r3, q1, q2⟩ => ?_)⟩
  subst q1 q2
  obtain ⟨t3, rfl⟩ := r3
  exact ⟨hz3, joinParts_nil ⟨.str _, H3, I3.tok _, ⟨_, rfl⟩, q _⟩ hz3⟩
theorem rd_fs3 {a b : Str} {te : TE} {σ : St} {H : Hp} {Q : VK} (h : te σ H fun v H1 => ∃ i : Int, v = .int i ∧ i.natAbs.log2 < 1920 ∧ (Str.empty ++ a ++ (toString i : Str)).length ≤ sizeLine ∧ (Str.empty ++ a ++ (toString i : Str) ++ b).length ≤ sizeLine ∧ ∀ z, Q (.str z) H1) : tFs3 a b te σ H Q := h
theorem try_as {K : PySem.W.Frag} {C : Addr} {i : Nat} {tb : Ends → (St → XK) → St → Hp → Prop} {ts : Addr → Addr → Option Addr → TS} {D : Ends} {σ : St} {H : Hp} (P : Addr → St → Hp → Prop) (h1 : ∀ E : St → XK, (∀ σ1 Dx H1, P Dx σ1 H1 → E σ1 (.ref Dx) none H1) → tb D E σ H)
    (h2 : ∀ σ1 Dx H1, P Dx σ1 H1 → PySem.W.exmOne K (.ref Dx) (.ref C) = some true ∧ ExcK K Dx ∧ ∀ x, H1 x = none → ts x Dx none ⟨fun σ' H' => D.nx (σ'.set i none) H', D.rt, fun σ' H' => D.bk (σ'.set i none) H', fun σ' H' => D.ct (σ'.set i none) H'⟩ (σ1.set i (some (.ref x))) H1) : tTry K C i tb ts D σ H :=
  h1 _ fun σ1 Dx H1 p => ⟨Dx, rfl, h2 σ1 Dx H1 p⟩
end L2
set_option Elab.async false
set_option linter.all false
set_option maxRecDepth 100000
set_option maxHeartbeats 4000000
namespace L2
open PySem PySem.Spec PyProof.Rows
section
variable {X : Cx} {x : Addr} {oe : Obj}
end
end L2
set_option Elab.async false
set_option linter.all false
set_option maxRecDepth 100000
set_option maxHeartbeats 4000000
namespace L2
open PySem PySem.Spec PyProof.Rows
section
variable {prog : Program} {w : World} {A : Around} {E : Value → Shared → Prop} {s : Shared} {dd : Option Addr}
theorem tup_endH {it t x : Addr} {i : Nat} {items : Array Value} {Q : Option Value → Shared → Prop} (hh : A.handled = some (.ref x)) (hx : Alone s.heap x dd) (hxi : x ≠ it)
    (hit : IsTupIter s.heap it t i) (ht : IsTup s.heap t items) (hi : items[i]? = none) (hQ : ∀ h', Heap.ExtBut it s.heap h' → Q none { s with heap := h' }) : wpAny (model prog w) A (pyNext (.ref it)) Q E s := by
  obtain ⟨o, ho, hc, hd⟩ := id hit
  obtain ⟨ol, hol, _, nl, hdl⟩ := ht
  refine next_over ?_
  refine wpAny_callSpecial?_slot (name := Str.ofString "__next__") hit.typeIs slot_tupleiter_next (wpAny_call_entry slot_tupleiter_next hit.typeIs entry_tupleiter_next ?_ (args_tupleiter_next _))
  have n0 : ¬ ((Value.ref t == Value.none) = true) := Bool.false_ne_true
  show wpAny _ _ (field (.ref it) 0 >>= fun q => _) _ _ s
  refine wpAny_bind (wpAny_field (x := .ref t) ho hd rfl ?_)
  show wpAny _ _ (ite ((Value.ref t == Value.none) = true) _ _) _ _ s
  rw [if_neg n0]
  show wpAny _ _ (field (.ref it) 1 >>= fun q => _) _ _ s
  refine wpAny_bind (wpAny_field (x := .int i 0) ho hd rfl ?_)
  show wpAny _ _ (seqItems? (.ref t) >>= fun q => _) _ _ s
  refine wpAny_bind (wpAny_seqItems hol hdl ?_)
  simp only [Int.toNat_natCast, hi]
  have S := Heap.SameBut.update s.heap it (Obj.mapFields (·.setIfInBounds 0 Value.none))
  refine wpAny_bind (wpAny_rule (wpAny_bind (wpAny_setField (x := .none) ho hd (by simp) ?_)))
  have al : Alone (s.heap.update it (Obj.mapFields (·.setIfInBounds 0 Value.none))) x dd := by
    obtain ⟨ox, vs, e1, r⟩ := hx
    exact ⟨ox, vs, (S.2 x hxi).trans e1, r⟩
  refine stop_in (A := A.in1) hh al fun h' e k z => ?_
  obtain ⟨oz, z1, z2⟩ := z
  exact ⟨e, oz, rfl, z1, z2, hQ h' fun b o' hb eb => k b o' ((S.2 b hb).trans eb)⟩
theorem unpackH {t x : Addr} {items : Array Value} {Q : List Value → Shared → Prop} (hh : A.handled = some (.ref x)) (hx : Alone s.heap x dd) (ht : IsTup s.heap t items)
    (hQ : ∀ h', Heap.ExtBut s.heap.objs.size s.heap h' → Q items.toList { s with heap := h' }) : wpAny (model prog w) A (unpackItems (.ref t) items.size none) Q E s := by
  have hlt : t ≠ s.heap.objs.size := by obtain ⟨o, ho, _⟩ := ht; exact Nat.ne_of_lt (Heap.lt_size ho)
  have hxl : x ≠ s.heap.objs.size := by obtain ⟨o, _, ho, _⟩ := hx; exact Nat.ne_of_lt (Heap.lt_size ho)
  unfold unpackItems
  refine wpAny_bind ?_
  unfold notIterableAtAll
  refine wpAny_bind (wpAny_specialOf ht.typeIs slot_tuple_iter.lookup ?_)
  refine wpAny_pure ?_
  simp only [Bool.false_eq_true, if_false]
  refine wpAny_bind (wpAny_holding (iter_tuple ht ?_))
  refine wpAny_bind (wpAny_holding (draw_tuple hlt items.size 0 _ _ ⟨_, Heap.get?_push_size _ rfl, rfl, rfl⟩ (ht.push _) (by omega) fun h1 hit1 hs1 => ?_))
  rw [show List.take items.size (List.drop 0 items.toList) = items.toList by rw [List.drop_zero]; exact List.take_of_length_le (by simp), if_neg (by simp)]
  have ht1 : IsTup h1 t items := (ht.push _).extBut hs1.extBut hlt
  have hx1 : Alone h1 x dd := by
    obtain ⟨ox, vs, e1, r⟩ := hx
    exact ⟨ox, vs, (hs1.2 x hxl).trans (Heap.get?_push_of_some _ e1), r⟩
  refine wpAny_bind (wpAny_holding (tup_endH hh hx1 hxl hit1 ht1 (by simp) fun h2 he2 => ?_))
  simp only [Option.isSome_none, Bool.false_eq_true, if_false]
  exact wpAny_pure (hQ h2 fun b o hb e => he2 b o hb (hs1.extBut b o hb (Heap.get?_push_of_some _ e)))
theorem assignH {env : Env} {elts : List Expr} {x1} {pos : Pos} {t x : Addr} {items : Array Value} {Q : Unit → Shared → Prop} (hh : A.handled = some (.ref x)) (hx : Alone s.heap x dd) (ht : IsTup s.heap t items)
    (hn : (assignEach elts env).length = items.size) (hstar : (assignEach elts env).findIdx? (·.1) = none)
    (h : ∀ h', Heap.ExtBut s.heap.objs.size s.heap h' → wpAny (model prog w) A (assignInOrder ((assignEach elts env).map (·.2)) items.toList) Q E { s with heap := h' }) :
    wpAny (model prog w) A (assign (.Tuple elts x1 pos) env (.ref t)) Q E s := by
  rw [assign_Tuple]
  refine wpAny_bind (wpAny_standAt ?_)
  unfold unpack
  rw [hn, hstar]
  exact wpAny_bind (wpAny_holding (unpackH hh hx ht h))
end
noncomputable def HdA (X : Cx) : Prop := ∃ x, X.A.handled = some (.ref x) ∧ ∀ pins σ H s, Inv X pins σ H s → Alone s.heap x none
noncomputable def Hz (X : Cx) (x : Addr) (oe : Obj) (z : Blk) : Prop := z.s.heap.get? x = some oe ∧ z.H x = none ∧ x ∉ z.fp ∧ x ∉ frs X.stack
section
variable {X : Cx} {x : Addr} {oe : Obj}
theorem hdA_blk {sc : Scope} {own : List Str} {js : List Nat} {z : Blk} (hal : ∃ vs, oe.data = .fields vs ∧ vs[2]? = some .none) (h : Hz (inH X x oe) x oe z) : HdA (blk (inH X x oe) sc own js z) := by
  obtain ⟨vs, hd, h2⟩ := hal
  exact ⟨x, rfl, fun pins σ H s I => ⟨oe, vs, I.base.keep x oe h.1 h.2.1 h.2.2.2 h.2.2.1, hd, h2, fun _ z => by cases z⟩⟩
theorem pg_tupH {Y : Cx} {es : List Expr} {k : Nat} {t : TGs} {n : Nat} {pos : Pos} (K : PySem.W.Frag) (hh : HdA Y) (h : PGs Y es t) (hK : Y.K = K := by rfl)
    (hn : (assignEach es Y.env).length = n := by rfl) (hst : (assignEach es Y.env).findIdx? (·.1) = none := by rfl) : PG Y (.Tuple es k pos) (gTup K n t) := by
  subst hK
  intro pins s σ H v u Q I r hw
  obtain ⟨a, xs, e1, hq, hl, hw⟩ := hw
  subst e1
  cases r
  obtain ⟨x, hx, al⟩ := hh
  obtain ⟨its, rv, ht, hz⟩ := I.tuple hq
  refine assignH hx (al _ _ _ _ I) ht (by simp [hn, ← hl, rv.length]) hst fun h' hx => ?_
  have I1 : Inv Y pins σ H { s with heap := h' } := I.kept (t' := s.toks) fun b o e => hx b o (Nat.ne_of_lt (Heap.lt_size e)) e
  exact h pins _ σ H xs _ Q I1 (by simpa using rv) hw
theorem turnH {Y : Cx} {tg : Expr} (hh : HdA Y) (a it : Addr) (hit : ∀ x, Y.A.handled = some (.ref x) → x ≠ it) : TurnAt Y tg (Itl Y.K a) [it] it (fun i h => h.IsListIter it a i) where
  obj := (turn_list (P := Y.prog) (w := Y.w) (K := Y.K) (tg := tg) a it).obj
  keep := (turn_list (P := Y.prog) (w := Y.w) (K := Y.K) (tg := tg) a it).keep
  item := by
    intro i pins s σ H E I hf st hg
    obtain ⟨xs, x, hq, hx⟩ := hg
    obtain ⟨its, rv, p, hz⟩ := I.list hq
    obtain ⟨u, hu, ru⟩ := rv.get hx
    obtain ⟨f0, f1, f2, f3, f4, f5⟩ := hf it (by simp)
    refine wpAny_pyNext_list_item st p.isList (x := u) (by simpa using hu) fun h' st' sb => ?_
    have I1 : Inv Y pins σ H { s with heap := h' } := I.turned (t' := s.toks) (fun b o hb e => (sb.2 b hb).trans e) f0 f1 f3 f4 f5
    obtain ⟨o, e, c, d⟩ := id st'
    exact ⟨u, rfl, go_of (s := { s with heap := h' }) e c d (by decide) ⟨x, H, I1, ru, ⟨rfl, fun ys hy => by rw [I.list_inj hy hq]; exact hx⟩, st', fun b hb => (hf b hb).1⟩⟩
  done := by
    intro i pins s σ H E I hf st hg
    obtain ⟨xs, hq, hx⟩ := hg
    obtain ⟨its, rv, p, hz⟩ := I.list hq
    obtain ⟨f0, f1, f2, f3, f4, f5⟩ := hf it (by simp)
    have hl := rv.length
    obtain ⟨x, hA, al⟩ := hh
    exact list_endH hA (al _ _ _ _ I) (hit x hA) st p.isList (by simp; omega) fun h' eb => ⟨rfl, I.turned (t' := s.toks) (fun b o hb e => eb b o hb e) f0 f1 f3 f4 f5⟩
  self := (turn_list (P := Y.prog) (w := Y.w) (K := Y.K) (tg := tg) a it).self
theorem pe_compH (K : PySem.W.Frag) {elt tg iter : Expr} {ifs : List Expr} {sc : Scope} {pos : Pos} (own : List Str) (js : List Nat) {ti : TE} {g : TG} {tc : TT} {te : TE} (hal : ∃ vs, oe.data = .fields vs ∧ vs[2]? = some .none) (hi : PE (inH X x oe) iter ti)
    (hg : ∀ z, HdA (blk (inH X x oe) sc own js z) → PG (blk (inH X x oe) sc own js z) tg g) (ht : ∀ z, PCs (blk (inH X x oe) sc own js z) ifs tc)
    (he : ∀ z, PE (blk (inH X x oe) sc own js z) elt te) (hK : X.K = K := by rfl) (hk : sc.kind = .function := by rfl) (hb : okBlk sc (inH X x oe).env.scope = true := by rfl) (hj : okCap sc (inH X x oe).N js = true := by rfl)
    (hs : ∀ y, foldedSetIterable iter (inH X x oe).env y = pure y := by intro _; rfl) : PE (inH X x oe) (.ListComp elt [⟨tg, iter, ifs, 0⟩] sc pos) (tComp own.length js (iList K ti) g tc te) := by
  subst hK
  intro pins s σ H Q I h
  rw [eval_ListComp]
  refine wpAny_comprehension_free (use := none) rfl hs (closure_eq fun p hp hf => I.ok.has p.1 (okBlk_free hb hp hf)) hk (fun p hp hl => okBlk_local hb hp hl) (thn (hi pins s σ H _ I h) fun v s1 h1 => ?_)
  obtain ⟨v1, H1, I1, r1, a, rfl, ⟨xs, hq⟩, W, w0, turn⟩ := h1
  cases r1
  obtain ⟨its, rv, p, hz⟩ := I1.list hq
  refine wpAny_pyIter_list p.isList ?_
  have I2 : Inv (inH X x oe) pins σ H1 { s1 with heap := s1.heap.push { cls := .type "list_iterator", data := .fields #[.ref a, .int 0 0] } } := I1.kept (t' := s1.toks) fun b o e => Heap.get?_push_of_some _ e
  have hp := I1.pin (x, oe) (List.mem_append_left _ List.mem_cons_self)
  have hz : ∀ C, Hz (inH X x oe) x oe ⟨{ s1 with heap := s1.heap.push { cls := .type "list_iterator", data := .fields #[.ref a, .int 0 0] } }, H1, [s1.heap.objs.size], C⟩ := fun C => by
    refine ⟨Heap.get?_push_of_some _ hp.1, hp.2.1, fun z => ?_, fun z => ?_⟩
    · have : x = s1.heap.objs.size := by simpa using z
      exact absurd (Heap.lt_size hp.1) (by rw [this]; exact Nat.lt_irrefl _)
    · rcases List.mem_cons.mp (I1.stkSub x z) with e | e
      · exact hp.2.2.1 e
      · exact hp.2.2.2.1 e
  refine comp_core (it := s1.heap.objs.size) (fp := [s1.heap.objs.size]) (J := Itl X.K a) (W := W) (RR := fun acc C => compPost (model X.prog X.w) (inH X x oe).A (inH X x oe).xe none (EP (inH X x oe) pins σ Q) acc C) hk hb hj (fun C => hg _ (hdA_blk hal (hz C))) (fun C => ht _) (fun C => he _) I2
    (fun C => turnH (hdA_blk hal (hz C)) a s1.heap.objs.size fun x' hx' => by
      cases (show some (Value.ref x) = some (Value.ref x') from hx')
      exact Nat.ne_of_lt (Heap.lt_size hp.1)) ⟨_, Heap.get?_push_size _ rfl, rfl, rfl⟩ (fun b hb => ?_) w0 turn ?_
  · have e : b = s1.heap.objs.size := by simpa using hb
    subst e
    exact I1.fpOk (Nat.le_refl _) (I1.hok.fresh (Nat.le_refl _))
  intro D C s' ys H' nD I' hC ⟨m, hm⟩ _ q
  refine ⟨m, hm, fun h' hs' => ?_⟩
  obtain ⟨f0, f1, f2, f3, f4, f5⟩ := hC
  exact ⟨.ref D, _, I'.turned (t' := s'.toks) (it := C) (fun b o hb' e => (hs'.2 b hb').trans e) f0 f1 f3 f4 f5, rfl, q⟩
end
end L2
namespace L2
open PySem PySem.Spec PyProof.Rows
section
variable {X : Cx}
noncomputable def rJoinX (K : PySem.W.Frag) : V → List V → Hp → VK → Prop := fun x vs H Q => ∃ sep l zs, x = .str sep ∧ vs = [.ref l] ∧ SqL K H l (List.map V.str zs) ∧ (zs.map (·.length)).sum + zs.length * sep.length ≤ 1000000 ∧ Q (.str (Txt.join sep zs)) H
theorem mt_joinX (K : PySem.W.Frag) (hK : X.K = K := by rfl) : MtR X "str.join" (rJoinX K) := by
  subst hK
  intro pins s σ H x vs v us Q I rx rv h
  obtain ⟨sep, l, zs, rfl, rfl, hl, hz, q⟩ := h
  obtain ⟨t, rfl⟩ := rx
  obtain ⟨u, rfl, ru⟩ := vals1 rv
  cases ru
  obtain ⟨its, r, pl, hsz⟩ := I.list hl
  exact PyProof.Rows.join_list pl.isList (by simpa using strs_of r) (Nat.le_trans hz (by decide)) fun t' k => ⟨.str _, H, I.tok _, ⟨_, rfl⟩, q⟩
end
end L2
set_option Elab.async false
set_option linter.all false
set_option maxRecDepth 100000
set_option maxHeartbeats 4000000
namespace L2
open PySem PySem.Spec PyProof.Rows
section
variable {prog : Program} {w : World} {A : Around} {E : Value → Shared → Prop} {K : PySem.W.Frag} {x D : Addr} {ox : Obj} {h : Heap} {g : Array GenState} {dr : Drawn} {t : Nat} {os : OsState}
variable {nm q : Str} {N : Addr} {bs bm bmB : List Value} {sn : List Str} {sub : List Value} {ab : Bool} {col : Option Bool} {dd : Option Addr} {k0 k1 k2 k3 k5 : Option Value} {newId : String} {name : Str} {v : Value}
end
section
variable {prog : Program} {w : World} {A : Around} {E : Value → Shared → Prop} {h : Heap} {g : Array GenState} {d : Drawn} {t : Nat} {os : OsState}
variable {nm q : Str} {C N : Addr} {bs bm bmB : List Value} {hdct : Bool} {sn : List Str} {sub : List Value} {ab : Bool} {col : Option Bool} {dd : Option Addr} {k0 k1 k2 k3 k5 : Option Value} {B newId initId : String} {K : PySem.W.Frag}
end
section
variable {P : Program} {w : World} {A : Around} {E : Value → Shared → Prop} {K : PySem.W.Frag} {s : Shared} {e C : Addr} {oe : Obj} {v : Value}
end
section
variable {M : Model} {A : Around} {E : Value → Shared → Prop} {env : Env} {nm q : Str} {C N : Addr} {bs bm bmB : List Value} {hdct : Bool} {sn : List Str} {sub : List Value} {ab : Bool} {col : Option Bool} {dd : Option Addr} {k0 k1 k2 k3 k5 : Option Value} {newId : String}
end
section
variable {prog : Program} {w : World} {A : Around} {E : Value → Shared → Prop} {s : Shared} {env : Env} {K : PySem.W.Frag} {nm q : Str} {C N : Addr} {bs bm bmB : List Value} {hdct : Bool} {sn : List Str} {sub : List Value} {ab : Bool} {col : Option Bool} {dd : Option Addr} {k0 k1 k2 k3 k5 : Option Value} {B newId initId : String}
end
section
variable {P : Program} {w : World} {K : PySem.W.Frag} {mg : Str → Option Value} {base : Heap} {N : List Str} {qual : Str} {scope : Scope} {f : Addr} {cd : Value} {A : Around} {outer : List Env} {s₀ : Shared} {H₀ : Hp} {E : XK}
end
end L2
set_option Elab.async false
set_option linter.all false
set_option maxRecDepth 100000
set_option maxHeartbeats 4000000
namespace L2
open PySem PySem.Spec PyProof.Rows
section
variable {P : Program} {w : World} {K : PySem.W.Frag} {mg : Str → Option Value} {base : Heap}
end
section
variable {Y : Cx} {x : Addr} {oe : Obj}
end
end L2
set_option Elab.async false
set_option linter.all false
set_option maxRecDepth 100000
set_option maxHeartbeats 4000000
namespace L2
open PySem PySem.Spec PyProof.Rows
section
variable {prog : Program} {w : World} {A : Around} {E : Value → Shared → Prop} {K : PySem.W.Frag} {x D : Addr} {ox : Obj} {od : Option Obj} {name : Str} {v : Value}
end
section
variable {X : Cx} {x D : Addr} {oe : Obj} {da : Option Addr}
end
end L2
set_option Elab.async false
set_option linter.all false
set_option maxRecDepth 100000
set_option maxHeartbeats 1000000
namespace L2
open PySem PySem.Spec PyProof.Rows
section
variable {P : Program} {w : World} {A : Around} {E : Value → Shared → Prop} {s : Shared}
end
section
variable {P : Program} {w : World} {A : Around} {E : Value → Shared → Prop} {s : Shared}
end
end L2
set_option Elab.async false
set_option linter.all false
set_option maxRecDepth 100000
set_option maxHeartbeats 400000
namespace L2
open PySem PySem.Spec PyProof.Rows
section
variable {P : Program} {w : World} {A : Around} {E : Value → Shared → Prop} {s : Shared}
end
section
variable {X : Cx}
end
end L2
set_option Elab.async false
set_option linter.all false
set_option maxRecDepth 100000
set_option maxHeartbeats 4000000
namespace L2
open PySem PySem.Spec PyProof.Rows
section
variable {prog : Program} {w : World} {A : Around} {E : Value → Shared → Prop} {s : Shared}
end
section
variable {prog : Program} {w : World} {A : Around} {E : Value → Shared → Prop} {s : Shared}
end
section
variable {X : Cx}
end
end L2
set_option Elab.async false
set_option linter.all false
set_option maxRecDepth 100000
set_option maxHeartbeats 4000000
namespace L2
open PySem PySem.Spec PyProof.Rows
theorem cf_cases {x : Str} {c : Addr} : ∀ (names : List (Str × NameKind)) (n : Nat) (acc : List (Str × Addr)), (cellsFrom n names acc).lookup x = some c → acc.lookup x = some c ∨ (n ≤ c ∧ (x, NameKind.cell) ∈ names)
  | [], _, _, h => .inl h
  | (y, k) :: r, n, acc, h => by
    unfold cellsFrom at h
    by_cases hk : (k == NameKind.cell) = true
    · rw [if_pos hk] at h
      have hk' : k = .cell := by simpa using hk
      subst hk'
      rcases cf_cases r (n + 1) ((y, n) :: acc) h with h | ⟨h1, h2⟩
      · rw [List.lookup_cons] at h
        cases hb : x == y with
        | true =>
          rw [hb] at h
          cases h
          rw [beq_iff_eq.mp hb]
          exact .inr ⟨Nat.le_refl _, List.mem_cons_self⟩
        | false => rw [hb] at h; exact .inl h
      · exact .inr ⟨Nat.le_of_succ_le h1, List.mem_cons_of_mem _ h2⟩
    · rw [if_neg hk] at h
      rcases cf_cases r n acc h with h | ⟨h1, h2⟩
      · exact .inl h
      · exact .inr ⟨h1, List.mem_cons_of_mem _ h2⟩
theorem cf_inj {x y : Str} {c : Addr} : ∀ (names : List (Str × NameKind)) (n : Nat) (acc : List (Str × Addr)), (∀ x c, acc.lookup x = some c → @LT.lt Nat _ c n) → (∀ x y c, acc.lookup x = some c → acc.lookup y = some c → x = y) → (cellsFrom n names acc).lookup x = some c → (cellsFrom n names acc).lookup y = some c → x = y
  | [], _, _, _, hi, h1, h2 => hi _ _ _ h1 h2
  | (z, k) :: r, n, acc, hb, hi, h1, h2 => by
    unfold cellsFrom at h1 h2
    by_cases hk : (k == NameKind.cell) = true
    · rw [if_pos hk] at h1 h2
      refine cf_inj r (n + 1) ((z, n) :: acc) (fun x c h => ?_) (fun x y c h1 h2 => ?_) h1 h2
      · rw [List.lookup_cons] at h
        cases e : x == z with
        | true => rw [e] at h; cases h; exact Nat.lt_succ_self _
        | false => rw [e] at h; exact Nat.lt_succ_of_lt (hb x c h)
      · rw [List.lookup_cons] at h1 h2
        cases e1 : x == z with
        | true =>
          rw [e1] at h1
          cases h1
          cases e2 : y == z with
          | true => rw [beq_iff_eq.mp e1, beq_iff_eq.mp e2]
          | false => rw [e2] at h2; exact absurd (hb _ _ h2) (Nat.lt_irrefl _)
        | false =>
          rw [e1] at h1
          cases e2 : y == z with
          | true => rw [e2] at h2; cases h2; exact absurd (hb _ _ h1) (Nat.lt_irrefl _)
          | false => rw [e2] at h2; exact hi _ _ _ h1 h2
    · rw [if_neg hk] at h1 h2
      exact cf_inj r n acc hb hi h1 h2
theorem cf_cell {x : Str} {c : Addr} : ∀ (names : List (Str × NameKind)) (h : Heap) (acc : List (Str × Addr)), (cellsFrom h.objs.size names acc).lookup x = some c → acc.lookup x = some c ∨ (pushCells h names).IsCell c none
  | [], _, _, e => .inl e
  | (y, k) :: r, h, acc, e => by
    unfold cellsFrom at e
    unfold pushCells
    by_cases hk : (k == NameKind.cell) = true
    · rw [if_pos hk] at e ⊢
      rw [← Heap.size_push h { cls := .type "cell", data := .cell none }] at e
      rcases cf_cell r (h.push { cls := .type "cell", data := .cell none }) ((y, h.objs.size) :: acc) e with e | e
      · rw [List.lookup_cons] at e
        cases hb : x == y with
        | true =>
          rw [hb] at e
          cases e
          exact .inr ⟨_, pushCells_keeps _ _ _ _ (Heap.get?_push_size _ rfl), rfl⟩
        | false => rw [hb] at e; exact .inl e
      · exact .inr e
    · rw [if_neg hk] at e ⊢
      exact cf_cell r h acc e
section
variable {M : Model} {A : Around} {E : Value → Shared → Prop} {s : Shared}
theorem newEnv_own {scope : Scope} {globals : Addr} {closure : List (Str × Addr)} {qual : Str} {func : Option Addr} {code : Value} {outer : Env} {builtins : Addr} {Q : Env → Shared → Prop}
    (hQ : Q (newEnv scope s.heap.objs.size globals (cellsFrom (s.heap.objs.size + 1) scope.names closure) qual func code (some outer) builtins) { s with heap := pushCells (s.heap.push { cls := .type "dict", data := .dict #[] }) scope.names }) :
    wpAny M A (newFunctionEnv scope globals closure [] qual func code (some outer) builtins) Q E s := by
  simp only [newFunctionEnv, Option.isSome_some, if_true]
  refine wpAny_bind (wpAny_alloc ?_)
  refine wpAny_bind (wpAny_layCells _ (fun name kind cells => by cases hkc : kind == NameKind.cell <;> simp [hkc]) _ _ _ _ ?_)
  rw [show ({ s with heap := s.heap.push { cls := .type "dict", data := .dict #[] } } : Shared).heap.objs.size = s.heap.objs.size + 1 from Heap.size_push ..]
  refine wpAny_bind ?_
  rw [List.forIn_nil]
  exact wpAny_pure (wpAny_pure hQ)
end
noncomputable def clsC (X : Cx) (sc : Scope) (C : Addr) : List (Str × Addr) := cellsFrom (Nat.succ C) sc.names (clOf sc.names X.env.cells)
noncomputable def blkC (X : Cx) (sc : Scope) (own : List Str) (js : List Nat) (z : Blk) : Cx where
  prog := X.prog
  w := X.w
  K := X.K
  mg := X.mg
  base := X.base
  A := X.A
  N := own ++ js.map fun j => X.N.getD j ""
  s₀ := z.s
  H₀ := z.H
  env := compEnvC sc (clsC X sc z.C) z.C X.env
  outer := X.stack
  stack := X.stack
  ex := z.fp
  fn := fun x => sc.names.lookup x == some .cell
  calm := X.calm
  pn := []
  xe := fun _ _ => False
noncomputable def okBlkC (sc out : Scope) : Bool := sc.names.all fun p => (p.2 != .cell || sc.names.lookup p.1 == some .cell) && (p.2 != .local || sc.names.lookup p.1 == some .local) && (p.2 != .free || out.names.lookup p.1 == some .cell || out.names.lookup p.1 == some .free) && (p.2 != .free || sc.names.lookup p.1 == some .free)
theorem okBlkC_free {sc out : Scope} (h : okBlkC sc out = true) {p : Str × NameKind} (hp : p ∈ sc.names) (hf : p.2 = .free) : out.names.lookup p.1 = some .cell ∨ out.names.lookup p.1 = some .free := by
  have := List.all_eq_true.mp h p hp
  simp [hf] at this
  exact this.1
theorem okBlkC_uniq {sc out : Scope} (h : okBlkC sc out = true) {x : Str} (hp : (x, NameKind.free) ∈ sc.names) (h2 : sc.names.lookup x = some .cell) : False := by
  have := List.all_eq_true.mp h _ hp
  simp [h2] at this
theorem okBlkC_cell {sc out : Scope} (h : okBlkC sc out = true) {p : Str × NameKind} (hp : p ∈ sc.names) (hf : p.2 = .cell) : sc.names.lookup p.1 = some .cell := by
  have := List.all_eq_true.mp h p hp
  simp [hf] at this
  exact this
theorem okBlkC_local {sc out : Scope} (h : okBlkC sc out = true) {p : Str × NameKind} (hp : p ∈ sc.names) (hf : p.2 = .local) : sc.names.lookup p.1 = some .local := by
  have := List.all_eq_true.mp h p hp
  simp [hf] at this
  exact this
section
variable {X : Cx} {pins : List (Addr × Obj)} {σ : St} {H : Hp} {s : Shared}
theorem clC_sub (ok : X.Ok) {sc : Scope} (hb : okBlkC sc X.env.scope = true) {x : Str} {c : Addr} (h : (clOf sc.names X.env.cells).lookup x = some c) : X.env.cells.lookup x = some c := by
  rcases clOf_gen X.env.cells sc.names [] x c h with ⟨h1, h2⟩ | h1
  · obtain ⟨d, hd⟩ := ok.has x (okBlkC_free hb h1 rfl)
    rw [hd] at h2 ⊢
    rw [h2]
    rfl
  · simp at h1
theorem clC_or (ok : X.Ok) {sc : Scope} (hb : okBlkC sc X.env.scope = true) {C : Addr} {x : Str} {c : Addr} (h : (clsC X sc C).lookup x = some c) : X.env.cells.lookup x = some c ∨ (@LT.lt Nat _ C c ∧ sc.names.lookup x = some .cell) := by
  rcases cf_cases _ _ _ h with h | ⟨h1, h2⟩
  · exact .inl (clC_sub ok hb h)
  · exact .inr ⟨h1, okBlkC_cell hb h2 rfl⟩
theorem clC_has {sc : Scope} {x : Str} {C : Addr} (h : (x, NameKind.free) ∈ sc.names) : ∃ c, (clsC X sc C).lookup x = some c := by
  obtain ⟨c, hc⟩ := cl_has (cells := X.env.cells) h
  exact Option.isSome_iff_exists.mp (PySem.W.cellsFrom_some sc.names _ _ (.inr (by rw [hc]; rfl)))
theorem clC_lt (I : Inv X pins σ H s) {sc : Scope} (hb : okBlkC sc X.env.scope = true) {x : Str} {c : Addr} (h : (clOf sc.names X.env.cells).lookup x = some c) : @LT.lt Nat _ c s.heap.objs.size := I.cell_lt (clC_sub I.ok hb h)
theorem blkC_ok (I : Inv X pins σ H s) {sc : Scope} {own : List Str} {js : List Nat} {fp : List Addr} {C : Nat} (hk : sc.kind = .function) (hb : okBlkC sc X.env.scope = true)
    (hfp : ∀ b ∈ fp, FpOk X pins H b) (hC : s.heap.objs.size ≤ C) (hlt : ∀ b ∈ fp, b < s.heap.objs.size) : (blkC X sc own js ⟨s, H, fp, C⟩).Ok where
  mod := I.ok.mod
  kind := hk
  glob := I.ok.glob
  blt := I.ok.blt
  above := hC
  inj := fun x y c h1 h2 => cf_inj sc.names _ _ (fun x c e => Nat.lt_succ_of_le (Nat.le_trans (Nat.le_of_lt (clC_lt I hb e)) hC)) (fun x y c e1 e2 => I.ok.inj x y c (clC_sub I.ok hb e1) (clC_sub I.ok hb e2)) h1 h2
  has := fun x hx => by
    have hx' : (relabel sc X.env).names.lookup x = some .cell ∨ (relabel sc X.env).names.lookup x = some .free := hx
    have go : ∀ k, (relabel sc X.env).names.lookup x = some k → (k = .cell ∨ k = .free) → ∃ c, (clsC X sc C).lookup x = some c := fun k h hkk => by
      obtain ⟨k', h1, h2⟩ := relabel_lookup (sc := sc) (env := X.env) h
      have m := mem_of_lookup' h1
      rcases h2 with h2 | ⟨h2, _⟩
      · subst h2
        rcases hkk with e | e
        · rw [e] at h1; exact Option.isSome_iff_exists.mp (PySem.W.cellsFrom_some sc.names _ _ (.inl h1))
        · rw [e] at m; exact clC_has m
      · rw [h2] at m; exact clC_has m
    rcases hx' with h | h
    · exact go _ h (.inl rfl)
    · exact go _ h (.inr rfl)
  cab := fun x c h e => by
    have hx : sc.names.lookup x = some .cell := by simpa [blkC] using h
    have e' : (clsC X sc C).lookup x = some c := e
    rcases cf_cases _ _ _ e' with e1 | ⟨e1, _⟩
    · rcases clOf_gen X.env.cells sc.names [] x c e1 with ⟨h1, _⟩ | h1
      · exact (okBlkC_uniq hb h1 hx).elim
      · simp at h1
    · exact Nat.le_trans hC (Nat.le_of_succ_le e1)
  hd := I.ok.hd
  frames := I.ok.frames
  stk := .inl rfl
  exf := fun b hb' => ⟨Nat.ne_of_lt (Nat.lt_of_lt_of_le (hlt b hb') hC), fun x c e => by
    rcases clC_or I.ok hb (C := C) e with e | ⟨e, _⟩
    · exact (hfp b hb').2.2.2.2.1 x c e
    · exact Nat.ne_of_gt (Nat.lt_trans (Nat.lt_of_lt_of_le (hlt b hb') hC) e)⟩
  bs := I.bs
  bsz := Nat.le_trans I.ok.bsz I.sz
  noex := fun b o e hb' => by
    rcases (hfp b hb').2.2.2.1 with z | z
    · exact I.ok.noex b o e z
    · exact absurd (Nat.lt_of_lt_of_le (Heap.lt_size e) (Nat.le_trans I.ok.bsz z)) (Nat.lt_irrefl _)
  exfs := fun b hb' hm => by
    rcases List.mem_cons.mp (I.stkSub b hm) with e | h
    · exact (hfp b hb').2.1 e
    · exact (hfp b hb').2.2.1 h
  funs := I.stack
  frf := I.stkFree
theorem blkC_inv (I : Inv X pins σ H s) {sc : Scope} {own : List Str} {js : List Nat} {fp : List Addr} {C D : Nat} {h1 : Heap} {tk : Nat} {o : Obj} {m : Str → Option Value} (hk : sc.kind = .function) (hb : okBlkC sc X.env.scope = true) (hj : okCap sc X.N js = true)
    (hfp : ∀ b ∈ fp, FpOk X pins H b) (hlt : ∀ b ∈ fp, b < s.heap.objs.size) (hD : D = s.heap.objs.size) (hC : C = s.heap.objs.size + 1) (old : ∀ b o, s.heap.get? b = some o → h1.get? b = some o)
    (hDo : h1.get? D = some o) (hod : ∀ v, o.data ≠ .cell v) (hm : h1.Ns C m) (hcl : ∀ x c, (clsC X sc C).lookup x = some c → (clOf sc.names X.env.cells).lookup x = some c ∨ h1.IsCell c none) :
    Inv (blkC X sc own js ⟨s, H, fp, C⟩) [(D, o)] (capt own.length js σ) H { s with heap := h1, toks := tk } where
  ok := blkC_ok I hk hb hfp (show @LE.le Nat _ s.heap.objs.size C by omega) hlt
  os := rfl
  bare := I.bare
  base := Un.kept old
  loc := by
    refine ⟨m, hm, fun i x v e1 e2 e3 => ?_⟩
    obtain ⟨k, j, rfl, ej, es⟩ := capt_get e2
    have e1' : (own ++ js.map fun j => X.N.getD j "")[own.length + k]? = some x := e1
    rw [List.getElem?_append_right (by omega), Nat.add_sub_cancel_left, List.getElem?_map, ej] at e1'
    have ex : X.N.getD j "" = x := by simpa using e1'
    have hjj := List.all_eq_true.mp hj j (List.mem_of_getElem? ej)
    simp only [Bool.and_eq_true, decide_eq_true_eq, beq_iff_eq] at hjj
    have exN : X.N[j]? = some x := by
      rw [← ex, List.getD_eq_getElem?_getD, List.getElem?_eq_getElem hjj.1]
      rfl
    have hfree : sc.names.lookup x = some .free := by rw [← ex]; exact hjj.2
    have hmem := mem_of_lookup' hfree
    have hout := okBlkC_free hb hmem rfl
    obtain ⟨m0, hn0, hl0⟩ := I.loc
    obtain ⟨u, r, l⟩ := hl0 j x v exN es (by rcases hout with z | z; exact .inr (.inl z); exact .inr (.inr z))
    refine ⟨u, r, ?_⟩
    obtain ⟨c, hc⟩ := clC_has (X := X) (C := C) hmem
    have hc' : X.env.cells.lookup x = some c := by
      rcases clC_or I.ok hb hc with e | ⟨_, e⟩
      · exact e
      · rw [hfree] at e; cases e
    have hcell : s.heap.IsCell c (some u) := by
      rcases l with ⟨z, _⟩ | ⟨_, c', e', q⟩
      · have z' : X.env.scope.names.lookup x = some .local := z
        rcases hout with w | w <;> (rw [z'] at w; cases w)
      · rw [hc'] at e'; cases e'; exact q
    have hcell1 : h1.IsCell c (some u) := by
      obtain ⟨oc, ho, hd⟩ := hcell
      exact ⟨oc, old c oc ho, hd⟩
    right
    refine ⟨?_, c, hc, hcell1⟩
    have e3' : (relabel sc X.env).names.lookup x = some .local ∨ (relabel sc X.env).names.lookup x = some .cell ∨ (relabel sc X.env).names.lookup x = some .free := e3
    rcases e3' with z | z
    · obtain ⟨k', z1, z2⟩ := relabel_lookup (sc := sc) (env := X.env) z
      rw [hfree] at z1
      rcases z2 with z2 | ⟨_, z2⟩
      · rw [z2] at z1; cases z1
      · cases z2
    · exact z
  cell := fun x c e => by
    rcases hcl x c e with e | e
    · obtain ⟨v, oc, ho, hd⟩ := I.cell x c (clC_sub I.ok hb e)
      exact ⟨v, oc, old c oc ho, hd⟩
    · exact ⟨none, e⟩
  free := I.hok.fresh (show @LE.le Nat _ s.heap.objs.size C by omega)
  freeC := fun x c e => by
    rcases clC_or I.ok hb (C := C) e with e | ⟨e, _⟩
    · exact I.freeC x c e
    · exact I.hok.fresh (show @LE.le Nat _ s.heap.objs.size c by omega)
  pin := fun p hp => by
    have e : p = (D, o) := by simpa [blkC] using hp
    subst e
    refine ⟨hDo, I.hok.fresh (show @LE.le Nat _ s.heap.objs.size D by omega), ?_, fun z => ?_, hod⟩
    · exact Nat.ne_of_lt (show @LT.lt Nat _ D C by omega)
    · have h9 : @LT.lt Nat _ D s.heap.objs.size := I.stk_lt (b := D) z
      omega
  hok := I.hok.kept old
  len := by
    show (capt own.length js σ).length = (own ++ js.map fun j => X.N.getD j "").length
    simp [capt]
theorem comp_coreC {elt tg iter : Expr} {ifs : List Expr} {sc : Scope} {pos : Pos} {own : List Str} {js : List Nat} {g : TG} {tc : TT} {te : TE} {J : It} {it : Addr} {fp : List Addr} {tn : Nat → Heap → Prop} {RR : Value → Addr → Result → Shared → Prop} {E : Value → Shared → Prop}
    {Q : VK} {W : Nat → Nat → List V → Hp → Prop} (hk : sc.kind = .function) (hb : okBlkC sc X.env.scope = true) (hj : okCap sc X.N js = true)
    (hg : ∀ C, PG (blkC X sc own js ⟨s, H, fp, C⟩) tg g) (ht : ∀ C, PCs (blkC X sc own js ⟨s, H, fp, C⟩) ifs tc) (he : ∀ C, PE (blkC X sc own js ⟨s, H, fp, C⟩) elt te)
    (I : Inv X pins σ H s) (T : ∀ C, TurnAt (blkC X sc own js ⟨s, H, fp, C⟩) tg J fp it tn) (st : tn 0 s.heap) (hfp : ∀ b ∈ fp, FpOk X pins H b) (w0 : ∃ m, W 0 m [] H)
    (turn : ∀ i m ys H', W i m ys H' → (J.stop i H' ∧ ∀ p, H' p = none → Q (.ref p) (upd H' p (.lst ys))) ∨
      (J.go i H' ∧ ys.length < sizeLine ∧ ∃ N : List V → Hp → Prop, (∀ ys' H2, N ys' H2 → ∃ m', m' < m ∧ W (i + 1) m' ys' H2) ∧ ∀ x H2, J.yld i H' x H2 → g x (capt own.length js σ) H2 fun σ2 H3 => tc σ2 H3 fun b H4 =>
        if b = true then te σ2 H4 fun v H5 => N (ys ++ [v]) H5 else N ys H4))
    (fin : ∀ D C s' ys H', H' D = none → Inv X pins σ (upd H' D (.lst ys)) s' → FpOk X pins (upd H' D (.lst ys)) C → (∃ m, s'.heap.Ns C m) → s.heap.objs.size ≤ C → Q (.ref D) (upd H' D (.lst ys)) → RR (.ref D) C (.ok .next) s') :
    wpAny (model X.prog X.w) X.A (newList []) (fun acc s₃ => wpAny (model X.prog X.w) X.A (newFunctionEnv sc X.env.globals (clOf sc.names X.env.cells) [] X.env.qual none .none (some X.env)) (fun cenv s₄ =>
      codeAny (model X.prog X.w) X.A (.compStart (.ListComp elt [⟨tg, iter, ifs, 0⟩] sc pos) 0 (.ref it) acc { cenv with scope := relabel sc X.env }) (RR acc cenv.locals) s₄) E s₃) E s := by
  have hlt : ∀ b ∈ fp, b < s.heap.objs.size := fun b hb' => by
    obtain ⟨o, e, _⟩ := (T 0).obj 0 s.heap st b hb'
    exact Heap.lt_size e
  refine wpAny_newObj_type (newEnv_own ?_)
  dsimp only
  generalize hH2 : s.heap.push { cls := .type "list", dict := none, data := .seq ([] : List Value).toArray } = H2 at *
  have hCs : H2.objs.size = s.heap.objs.size + 1 := by rw [← hH2, Heap.size_push]
  have hns₁ : (pushCells (H2.push { cls := .type "dict", data := .dict #[] }) sc.names).Ns H2.objs.size (fun _ => none) := (Heap.Ns.new H2 (.type "dict")).keeps (pushCells_keeps _ _)
  have hcl₁ : ∀ x c, (clsC X sc H2.objs.size).lookup x = some c → (clOf sc.names X.env.cells).lookup x = some c ∨ (pushCells (H2.push { cls := .type "dict", data := .dict #[] }) sc.names).IsCell c none := fun x c e => by
    have e' : (cellsFrom (H2.objs.size + 1) sc.names (clOf sc.names X.env.cells)).lookup x = some c := e
    rw [← Heap.size_push H2 { cls := .type "dict", data := .dict #[] }] at e'
    exact cf_cell _ _ _ e'
  have old : ∀ b o, s.heap.get? b = some o → (pushCells (H2.push { cls := .type "dict", data := .dict #[] }) sc.names).get? b = some o := fun b o e => pushCells_keeps _ _ b o (Heap.get?_push_of_some _ (hH2 ▸ Heap.get?_push_of_some _ e))
  have hDo : (pushCells (H2.push { cls := .type "dict", data := .dict #[] }) sc.names).get? s.heap.objs.size = some (listObj [] 0) := pushCells_keeps _ _ _ _ (Heap.get?_push_of_some _ (hH2 ▸ Heap.get?_push_size _ rfl))
  generalize pushCells (H2.push { cls := .type "dict", data := .dict #[] }) sc.names = h₁ at *
  generalize hCe : H2.objs.size = C at *
  have below : ∀ b : Nat, b < s.heap.objs.size → b ≠ C := fun b hb' => by omega
  generalize hDe : s.heap.objs.size = D at *
  -- the loop's word
  let Y : Cx := blkC X sc own js ⟨s, H, fp, C⟩
  have J0 : Inv Y [(D, listObj [] 0)] (capt own.length js σ) H { s with heap := h₁ } :=
    blkC_inv I hk hb hj hfp (by rw [hDe]; exact hlt) hDe.symm (by rw [hDe]; exact hCs) old hDo (fun v z => by cases z) hns₁ hcl₁
  have ndC : @Ne Nat D C := by omega
  have statF : ∀ {P' : List (Addr × Obj)} {H' : Hp}, (∀ b ∈ fp, H' b = none) → (∀ p ∈ P', p.1 ∉ fp) → ∀ b ∈ fp, FpOk Y P' H' b := fun {P' H'} hn hp b hb' => by
    obtain ⟨f0, f1, f2, f3, f4, f5⟩ := hfp b hb'
    refine ⟨hn b hb', fun z => below b (hlt b hb') z, fun z => ?_, .inl hb', fun x c e => ?_, fun p hp' z => ?_⟩
    · rcases List.mem_cons.mp (I.stkSub b z) with e | h
      · exact f1 e
      · exact f2 h
    · rcases clC_or I.ok hb (C := C) e with e | ⟨e, _⟩
      · exact f4 x c e
      · have h9 : @LT.lt Nat _ b s.heap.objs.size := by rw [hDe]; exact hlt b hb'
        exact Nat.ne_of_gt (show @LT.lt Nat _ b c by omega)
    · have : p ∈ P' := by simpa [Y, blkC] using hp'
      exact hp p this (by rw [z]; exact hb')
  have Dfp : D ∉ fp := fun z => by have h9 : @LT.lt Nat _ D D := hlt D z; omega
  have st1 : tn 0 h₁ := (T 0).keep 0 s.heap h₁ st fun b _ o e => old b o e
  have loop : ∀ s₃ : Shared, s₃ = { s with heap := h₁ } →
      codeAny (model X.prog X.w) X.A (.compLoop (.ListComp elt [⟨tg, iter, ifs, 0⟩] sc pos) 0 (.ref it) (.ref D) Y.env) (RR (.ref D) C) s₃ := by
    rintro s₃ rfl
    obtain ⟨m0, w0⟩ := w0
    refine compLoop_own (fun n s' => ∃ i ys its q H', Inv Y [(D, listObj its q)] (capt own.length js σ) H' s' ∧ Vals ys its ∧ ys.length ≤ sizeLine ∧ tn i s'.heap ∧ (∀ b ∈ fp, H' b = none) ∧ W i n ys H') ?_ m0
      ⟨0, [], [], 0, H, J0, .nil, Nat.zero_le _, st1, fun b hb' => (hfp b hb').1, w0⟩
    rintro n s3 ⟨i, ys, its, q, H3, I3, rv, hz, st3, fr3, w3⟩
    have pD : ∀ p ∈ [(D, listObj its q)], p.1 ∉ fp := fun p hp => by
      have e : p = (D, listObj its q) := by simpa using hp
      rw [e]; exact Dfp
    rcases turn i n ys H3 w3 with ⟨stop, qn⟩ | ⟨go, hlen, N, hN, step⟩
    · -- the end
      refine thn ((T C).done i _ s3 _ H3 _ I3 (statF fr3 pD) st3 stop) fun r s4 ⟨hr, I4⟩ => ?_
      subst hr
      show RR (.ref D) C (.ok .next) s4
      have hDp := I4.pin (D, listObj its q) (List.mem_append_right _ (List.mem_singleton.mpr rfl))
      have hD4 : s4.heap.get? D = some (listObj its q) := hDp.1
      have nD : H3 D = none := hDp.2.1
      have U : Un (frs X.stack) fp H H3 s.heap s4.heap := I4.base
      have neD : ∀ b o, s.heap.get? b = some o → b ≠ D := fun b o e => Nat.ne_of_lt (by have h9 : @LT.lt Nat _ b s.heap.objs.size := Heap.lt_size e; omega)
      have neDH : ∀ b o, H b = some o → b ≠ D := fun b o e => Nat.ne_of_lt (by have h9 : @LT.lt Nat _ b s.heap.objs.size := I.hok.lt e; omega)
      have U2 : Un (frs X.stack) fp H (upd H3 D (.lst ys)) s.heap s4.heap :=
        ⟨U.keep, U.slot, fun b o e n hx => by rw [upd_ne (neD b o e)]; exact U.free b o e n hx, U.there, fun b xs e => by rw [upd_ne (neDH b _ e)]; exact U.tups b xs e,
          fun b o u e => by rw [upd_ne (neDH b _ e)]; exact U.frzs b o u e, fun b ps e => by rw [upd_ne (neDH b _ e)]; exact U.tbls b ps e⟩
      have hok2 : HOk X.prog X.w (upd H3 D (.lst ys)) s4.heap := fun b o e => by
        by_cases hb' : b = D
        · subst hb'
          rw [upd_same] at e
          cases e
          exact ⟨hz, its, q, rv, hD4⟩
        · rw [upd_ne hb'] at e
          exact (I4.hok b o e).stay (fun c u _ z => z) (fun c z => by rw [upd_ne (ne_of_none z nD)]; exact z) fun c xs z => by rw [upd_ne (ne_of_none z nD)]; exact z
      have IX : Inv X pins σ (upd H3 D (.lst ys)) s4 := I.call' (ch := fp) I4.os U2 hok2 I4.bare fun b hb' => by
        obtain ⟨f0, f1, f2, f3, f4, f5⟩ := hfp b hb'
        exact ⟨f3, f1, f4, f5⟩
      obtain ⟨m4, hn4, _⟩ := I4.loc
      have nC : H3 C = none := I4.free
      refine fin D C s4 ys H3 nD IX ?_ ⟨m4, hn4⟩ (show @LE.le Nat _ D C by omega) (qn D nD)
      refine ⟨by rw [upd_ne (Ne.symm ndC)]; exact nC, ?_, ?_, ?_, ?_, ?_⟩
      · have h9 : @LT.lt Nat _ X.env.locals s.heap.objs.size := I.lt
        exact Nat.ne_of_gt (show @LT.lt Nat _ X.env.locals C by omega)
      · exact I.nofs (show @LE.le Nat _ s.heap.objs.size C by omega)
      · right
        have h9 : @LE.le Nat _ X.s₀.heap.objs.size s.heap.objs.size := I.sz
        exact (show @LE.le Nat _ X.s₀.heap.objs.size C by omega)
      · intro x c e
        have h9 : @LT.lt Nat _ c s.heap.objs.size := I.cell_lt e
        exact Nat.ne_of_lt (show @LT.lt Nat _ c C by omega)
      · intro p hp
        have h9 : @LT.lt Nat _ p.1 s.heap.objs.size := I.pin_lt hp
        exact Nat.ne_of_lt (show @LT.lt Nat _ p.1 C by omega)
    · -- a turn
      refine thn ((T C).item i _ s3 _ H3 _ I3 (statF fr3 pD) st3 go) fun r s4 ⟨u, hr, h4⟩ => ?_
      subst hr
      refine thn h4 fun _ s5 ⟨x, H5, I5, r5, y5, st5, fr5⟩ => ?_
      have I5' := I5.pinned (statF fr5 pD) ((T 0).obj _ _ st5)
      refine thn (hg _ _ s5 _ H5 x u _ I5' r5 (step x H5 y5)) fun _ s6 ⟨σ6, H6, I6, q6⟩ => ?_
      refine thn (ht _ _ s6 σ6 H6 _ I6 q6) fun ok s7 ⟨H7, I7, q7⟩ => ?_
      have back : ∀ {s' : Shared} {σ' : St} {H' : Hp} {ys' : List V} {its' : List Value} {q' : Nat}, Inv Y ([(D, listObj its' q')] ++ pinsAt fp s5.heap) σ' H' s' → Vals ys' its' → ys'.length ≤ sizeLine → N ys' H' →
          ∃ m, m < n ∧ ∃ i ys its q H', Inv Y [(D, listObj its q)] (capt own.length js σ) H' s' ∧ Vals ys its ∧ ys.length ≤ sizeLine ∧ tn i s'.heap ∧ (∀ b ∈ fp, H' b = none) ∧ W i m ys H' := by
        intro s' σ' H' ys' its' q' I' rv' hz' nn
        obtain ⟨m', hm, w'⟩ := hN ys' H' nn
        have hpin : ∀ b ∈ fp, ∀ o, s5.heap.get? b = some o → s'.heap.get? b = some o ∧ H' b = none := fun b hb' o e => by
          have := I'.pin (b, o) (List.mem_append_right _ (List.mem_append_right _ (mem_pinsAt hb' e)))
          exact ⟨this.1, this.2.1⟩
        refine ⟨m', hm, i + 1, ys', its', q', H', ?_, rv', hz', (T 0).keep _ _ _ st5 fun b hb' o e => (hpin b hb' o e).1, fun b hb' => ?_, w'⟩
        · have I'' := I'.unpinned
          obtain ⟨mm, hmm, _⟩ := id I''.loc
          refine ⟨I''.ok, I''.os, I''.bare, I''.base, ⟨mm, hmm, fun k x v e1 e2 e3 => ?_⟩, I''.cell, I''.free, I''.freeC, I''.pin, I''.hok, ?_⟩
          · -- the captured names: their cells are as they were at the block's beginning
            obtain ⟨m1, hn1, hl1⟩ := J0.loc
            obtain ⟨u1, r1, l1⟩ := hl1 k x v e1 e2 e3
            refine ⟨u1, r1, ?_⟩
            obtain ⟨k', j, rfl, ej, es⟩ := capt_get e2
            have e1' : (own ++ js.map fun j => X.N.getD j "")[own.length + k']? = some x := e1
            rw [List.getElem?_append_right (by omega), Nat.add_sub_cancel_left, List.getElem?_map, ej] at e1'
            have ex : X.N.getD j "" = x := by simpa using e1'
            have hjj := List.all_eq_true.mp hj j (List.mem_of_getElem? ej)
            simp only [Bool.and_eq_true, decide_eq_true_eq, beq_iff_eq] at hjj
            have hfree : sc.names.lookup x = some .free := by rw [← ex]; exact hjj.2
            rcases l1 with ⟨z, zz⟩ | ⟨z, c, e, zz⟩
            · -- a captured name is no local one
              exfalso
              obtain ⟨k2, z1, z2⟩ := relabel_lookup (sc := sc) (env := X.env) (show (relabel sc X.env).names.lookup x = some .local from z)
              rw [hfree] at z1
              rcases z2 with z2 | ⟨_, z2⟩
              · rw [z2] at z1; cases z1
              · cases z2
            · refine .inr ⟨z, c, e, ?_⟩
              have hcs : X.env.cells.lookup x = some c := by
                rcases clC_or I.ok hb (C := C) e with e | ⟨_, e⟩
                · exact e
                · rw [hfree] at e; cases e
              obtain ⟨ov, oc, hoc, hdc⟩ := I.cell x c hcs
              have hoc1 := old c oc hoc
              obtain ⟨oz, hoz, hdz⟩ := zz
              have hoz' : h₁.get? c = some oz := hoz
              rw [hoc1] at hoz'
              cases hoz'
              have cnf : c ∉ fp := fun z' => (hfp c z').2.2.2.2.1 x c hcs rfl
              obtain ⟨sl, hh⟩ := I''.base.any hoc (I.freeC x c hcs) cnf
              exact ⟨_, hh, hdz⟩
          · show (capt own.length js σ).length = _
            exact J0.len
        · obtain ⟨o, e, d⟩ := (T 0).obj _ _ st5 b hb'
          exact (hpin b hb' o e).2
      cases ok with
      | false =>
        rw [if_neg Bool.false_ne_true] at q7 ⊢
        exact back I7 rv hz q7
      | true =>
        rw [if_pos rfl] at q7 ⊢
        refine thn (he _ _ s7 σ6 H7 _ I7 q7) fun xv s8 ⟨v, H8, I8, r8, q8⟩ => ?_
        have hDp := I8.pin (D, listObj its q) (List.mem_append_right _ (List.mem_append_left _ (List.mem_singleton.mpr rfl)))
        have hD8 : s8.heap.get? D = some { cls := .type "list", data := .seq its.toArray q } := hDp.1
        have hl := rv.length
        refine call_meets F.slot_list_append ⟨_, hD8, rfl⟩ F.entry_list_append (F.args_list_append_2 _ _) (PySem.list_append D its.toArray q xv (by rw [List.size_toArray]; omega)) ⟨hD8, ?_⟩
        have qq := PySem.IsL.update hD8 (fun a => a.push xv)
        have eqs : its.toArray.push xv = (its ++ [xv]).toArray := by simp
        rw [eqs] at qq
        obtain ⟨q2, hq2⟩ : ∃ q2, (s8.heap.update D (Obj.mapSeq fun a => a.push xv)).get? D = some (listObj (its ++ [xv]) q2) := ⟨_, qq⟩
        -- without the pin of D, the record turns, then it is pinned again
        have I8a : Inv Y (pinsAt fp s5.heap) σ6 H8 s8 := I8.pins_of fun p hp => I8.pin p (List.mem_append_right _ (List.mem_append_right _ hp))
        have nD8 : H8 D = none := hDp.2.1
        have I9 : Inv Y (pinsAt fp s5.heap) σ6 H8 { s8 with heap := s8.heap.update D (Obj.mapSeq fun a => a.push xv), toks := s8.toks } := by
          refine I8a.turned (it := D) (fun b o hb' e => (Heap.get?_update_other s8.heap (Obj.mapSeq fun a => a.push xv) (Ne.symm hb')).trans e) nD8 ndC (.inr (show @LE.le Nat _ s.heap.objs.size D by omega)) (fun x c e => ?_) fun p hp => ?_
          · rcases clC_or I.ok hb (C := C) e with e | ⟨e, _⟩
            · have h9 : @LT.lt Nat _ c s.heap.objs.size := I.cell_lt e
              exact Nat.ne_of_lt (show @LT.lt Nat _ c D by omega)
            · exact Nat.ne_of_gt (show @LT.lt Nat _ D c by omega)
          · have hp' : p ∈ pinsAt fp s5.heap := by simpa [Y, blkC] using hp
            obtain ⟨h1, _⟩ := of_pinsAt hp'
            exact fun z => Dfp (z ▸ h1)
        refine back (ys' := ys ++ [v]) (its' := its ++ [xv]) (q' := q2) (I9.pins_of fun p hp => ?_) (rv.append (.cons r8 .nil)) (by rw [List.length_append, List.length_singleton]; omega) q8
        rcases List.mem_append.mp hp with hp | hp
        · have e : p = (D, listObj (its ++ [xv]) q2) := by simpa using hp
          subst e
          refine ⟨hq2, nD8, ndC, fun z => ?_, fun v z => by cases z⟩
          have h9 : @LT.lt Nat _ D s.heap.objs.size := I.stk_lt (b := D) z
          omega
        · exact I9.pin p (List.mem_append_right _ hp)
  exact codeAny_compStart_list (loop _ rfl) ((T 0).self X.A 0 { s with heap := h₁ } _ _ st1 (loop _ rfl))
theorem pe_compC {elt tg iter : Expr} {ifs : List Expr} {sc : Scope} {pos : Pos} (own : List Str) (js : List Nat) {wi : TI} {g : TG} {tc : TT} {te : TE} (hi : PI X tg iter wi) (hg : ∀ z, PG (blkC X sc own js z) tg g) (ht : ∀ z, PCs (blkC X sc own js z) ifs tc)
    (he : ∀ z, PE (blkC X sc own js z) elt te) (hc : X.calm = true := by rfl) (hk : sc.kind = .function := by rfl) (hb : okBlkC sc X.env.scope = true := by rfl) (hj : okCap sc X.N js = true := by rfl)
    (hs : ∀ x, foldedSetIterable iter X.env x = pure x := by intro _; rfl) : PE X (.ListComp elt [⟨tg, iter, ifs, 0⟩] sc pos) (tComp own.length js wi g tc te) := by
  intro pins s σ H Q I h
  rw [eval_ListComp]
  refine wpAny_comprehension_free (use := none) rfl hs (closure_eq fun p hp hf => I.ok.has p.1 (okBlkC_free hb hp hf)) hk (fun p hp hl => okBlkC_local hb hp hl) (thn (hi pins s σ H _ I h) fun v s1 h1 => thn h1 fun itv s2 h2 => ?_)
  obtain ⟨it, fp, tn, J, H2, e, I2, T, st2, f2, W, w0, turn⟩ := h2
  subst e
  refine comp_coreC (RR := fun acc C => compPost (model X.prog X.w) X.A X.xe none (EP X pins σ Q) acc C) hk hb hj (fun _ => hg _) (fun _ => ht _) (fun _ => he _) I2 (fun C => Turn.at_ (Y := blkC X sc own js ⟨_, _, _, C⟩) T hc) st2 f2 w0 turn ?_
  intro D C s' ys H' nD I' hC ⟨m, hm⟩ _ q
  refine ⟨m, hm, fun h' hs' => ?_⟩
  obtain ⟨f0, f1, f2, f3, f4, f5⟩ := hC
  exact ⟨.ref D, _, I'.turned (t' := s'.toks) (it := C) (fun b o hb' e => (hs'.2 b hb').trans e) f0 f1 f3 f4 f5, rfl, q⟩
end
end L2
set_option Elab.async false
set_option linter.all false
set_option maxRecDepth 100000
set_option maxHeartbeats 4000000
namespace L2
open PySem PySem.Spec PyProof.Rows
section
variable {cs : List (Addr × Obj)} {H H' : Hp} {b : Addr} {o : Obj} {P : Program} {w : World} {h h' : Heap} {fs ex : List Addr}
end
section
variable {X : Cx} {pins : List (Addr × Obj)} {σ : St} {H : Hp} {s : Shared}
end
end L2
set_option Elab.async false
set_option linter.all false
set_option maxRecDepth 100000
set_option maxHeartbeats 4000000
namespace L2
open PySem PySem.Spec PyProof.Rows
section
variable {X : Cx} {pins : List (Addr × Obj)} {σ : St} {H : Hp} {s : Shared}
end
end L2
set_option Elab.async false
set_option linter.all false
set_option maxRecDepth 100000
set_option maxHeartbeats 4000000
namespace L2
open PySem PySem.Spec PyProof.Rows
section
variable {M : Model} {A : Around} {E : Value → Shared → Prop} {s₀ s : Shared} {m cm : Str → Option Value} {env : Env} {own : List (Str × Addr)}
end
section
variable {M : Model} {A : Around} {E : Value → Shared → Prop} {s : Shared}
end
end L2
set_option Elab.async false
set_option linter.all false
set_option maxRecDepth 100000
set_option maxHeartbeats 4000000
namespace L2
open PySem PySem.Spec PyProof.Rows
section
variable {X : Cx}
end
end L2
set_option Elab.async false
set_option linter.all false
set_option maxRecDepth 100000
set_option maxHeartbeats 4000000
namespace L2
open PySem PySem.Spec PyProof.Rows
open AutoSeq1 (wpAny_loadPart') in
section
variable {K : PySem.W.Frag} {σ : St} {H : Hp} {Q : VK}
end
end L2
set_option Elab.async false
set_option linter.all false
set_option maxRecDepth 100000
set_option maxHeartbeats 4000000
namespace L2
open PySem PySem.Spec PyProof.Rows
section
variable {X : Cx}
end
end L2
set_option Elab.async false
set_option linter.all false
set_option maxRecDepth 100000
set_option maxHeartbeats 4000000
namespace L2.Og.Tb
open PySem
noncomputable def nx (m i : Nat) : Nat := (i * 5 + 1) % (m + 1)
noncomputable def it (m : Nat) : Nat → Nat → Nat
  | 0, i => i
  | n + 1, i => it m n (nx m i)
theorem it_add (m : Nat) : ∀ a b i, it m (a + b) i = it m b (it m a i)
  | 0, b, i => by rw [Nat.zero_add]; rfl
  | a + 1, b, i => by rw [Nat.succ_add]; exact it_add m a b (nx m i)
noncomputable def orb (m : Nat) : Nat → Nat → List Nat
  | 0, _ => []
  | n + 1, i => i :: orb m n (nx m i)
theorem orb_mem {m : Nat} : ∀ {n i j : Nat}, j ∈ orb m n i → ∃ k, k < n ∧ it m k i = j
  | 0, _, _, h => by cases h
  | n + 1, i, j, h => by
    rcases List.mem_cons.mp h with rfl | h
    · exact ⟨0, Nat.succ_pos _, rfl⟩
    · obtain ⟨k, hk, e⟩ := orb_mem h
      exact ⟨k + 1, Nat.succ_lt_succ hk, e⟩
noncomputable def good (m : Nat) : Bool := (List.range (m + 1)).all (fun j => (orb m (m + 1) 0).contains j) && it m (m + 1) 0 == 0
theorem good7 : good 7 = true := by decide +kernel
theorem good31 : good 31 = true := by decide +kernel
theorem good127 : good 127 = true := by decide +kernel
theorem good511 : good 511 = true := by decide +kernel
noncomputable def Mask (m : Nat) : Prop := m = 7 ∨ m = 31 ∨ m = 127 ∨ m = 511
theorem Mask.good {m : Nat} (h : Mask m) : good m = true := by
  rcases h with rfl | rfl | rfl | rfl
  · exact good7
  · exact good31
  · exact good127
  · exact good511
theorem reach0 {m : Nat} (h : Mask m) {j : Nat} (hj : j ≤ m) : ∃ k, k ≤ m ∧ it m k 0 = j := by
  have := h.good
  unfold Tb.good at this
  rw [Bool.and_eq_true, List.all_eq_true] at this
  have h1 := this.1 j (List.mem_range.mpr (by omega))
  rw [List.contains_iff_mem] at h1
  obtain ⟨k, hk, e⟩ := orb_mem h1
  exact ⟨k, by omega, e⟩
theorem round0 {m : Nat} (h : Mask m) : it m (m + 1) 0 = 0 := by
  have := h.good
  unfold Tb.good at this
  rw [Bool.and_eq_true] at this
  exact eq_of_beq this.2
theorem reach {m : Nat} (h : Mask m) {i j : Nat} (hi : i ≤ m) (hj : j ≤ m) : ∃ k, k ≤ m ∧ it m k i = j := by
  obtain ⟨a, ha, ea⟩ := reach0 h hi
  obtain ⟨b, hb, eb⟩ := reach0 h hj
  rcases Nat.lt_or_ge b a with hlt | hge
  · refine ⟨m + 1 - a + b, by omega, ?_⟩
    rw [← ea, ← it_add, show a + (m + 1 - a + b) = (m + 1) + b by omega, it_add, round0 h]
    exact eb
  · refine ⟨b - a, by omega, ?_⟩
    rw [← ea, ← it_add, show a + (b - a) = b by omega]
    exact eb
noncomputable def lp (m : Nat) : Nat → Nat × Nat → Nat × Nat
  | 0, s => s
  | n + 1, s => lp m n (SetTable.leap m s.1 s.2)
theorem lp_succ' (m : Nat) : ∀ n s, lp m (n + 1) s = SetTable.leap m (lp m n s).1 (lp m n s).2
  | 0, s => rfl
  | n + 1, s => by
    show lp m (n + 1) (SetTable.leap m s.1 s.2) = _
    rw [lp_succ' m n]
    rfl
theorem lp_pert (m : Nat) : ∀ n s, (lp m n s).2 = s.2 / 32 ^ n
  | 0, s => by simp [lp]
  | n + 1, s => by
    rw [lp_succ' m n s]
    show (lp m n s).2 / 32 = _
    rw [lp_pert m n s, Nat.div_div_eq_div_mul, Nat.pow_succ]
theorem lp_le (m : Nat) : ∀ n s, s.1 ≤ m → (lp m n s).1 ≤ m
  | 0, s, h => h
  | n + 1, s, h => by
    rw [lp_succ' m n s]
    show (_ % (m + 1)) ≤ m
    have := Nat.mod_lt ((lp m n s).1 * 5 + 1 + (lp m n s).2 / 32) (show 0 < m + 1 by omega)
    omega
theorem lp_zero (m : Nat) : ∀ n i, (lp m n (i, 0)).1 = it m n i
  | 0, i => rfl
  | n + 1, i => by
    show (lp m n (SetTable.leap m i 0)).1 = it m n (nx m i)
    have : SetTable.leap m i 0 = (nx m i, 0) := rfl
    rw [this]
    exact lp_zero m n _
theorem lp_add (m : Nat) : ∀ a b s, lp m (a + b) s = lp m b (lp m a s)
  | 0, b, s => by rw [Nat.zero_add]; rfl
  | a + 1, b, s => by rw [Nat.succ_add]; exact lp_add m a b _
theorem lp_reach {m : Nat} (h : Mask m) {i p j : Nat} (hi : i ≤ m) (hp : p < 2 ^ 64) (hj : j ≤ m) : ∃ n, n ≤ m + 13 ∧ (lp m n (i, p)).1 = j := by
  have hz : (lp m 13 (i, p)).2 = 0 := by
    rw [lp_pert]
    exact Nat.div_eq_of_lt (Nat.lt_of_lt_of_le hp (by decide))
  obtain ⟨k, hk, e⟩ := reach h (lp_le m 13 (i, p) hi) hj
  refine ⟨13 + k, by omega, ?_⟩
  rw [lp_add]
  have : lp m 13 (i, p) = ((lp m 13 (i, p)).1, 0) := by rw [← hz]
  rw [this, lp_zero]
  exact e
theorem bits_lt (h : Int) : SetTable.bits h < 2 ^ 64 := by
  unfold SetTable.bits
  have h1 := Int.emod_lt_of_pos h (show (0 : Int) < 2 ^ 64 by decide)
  have h2 := Int.emod_nonneg h (show (2 : Int) ^ 64 ≠ 0 by decide)
  omega
noncomputable def adv (t : SetTable) : Nat → SetTable.Probe → SetTable.Probe
  | 0, p => p
  | n + 1, p => adv t n (t.advance p)
theorem adv_add (t : SetTable) : ∀ a b p, adv t (a + b) p = adv t b (adv t a p)
  | 0, b, p => by rw [Nat.zero_add]; rfl
  | a + 1, b, p => by rw [Nat.succ_add]; exact adv_add t a b _
noncomputable def at_ (t : SetTable) (s : Nat × Nat) : SetTable.Probe := { j := s.1, more := SetTable.runEnd t.mask s.1 - s.1, i := s.1, perturb := s.2, dummy := none }
theorem adv_run (t : SetTable) : ∀ (r : Nat) (p : SetTable.Probe), p.more = r → adv t (r + 1) p = { p with j := (SetTable.leap t.mask p.i p.perturb).1, more := SetTable.runEnd t.mask (SetTable.leap t.mask p.i p.perturb).1 - (SetTable.leap t.mask p.i p.perturb).1, i := (SetTable.leap t.mask p.i p.perturb).1, perturb := (SetTable.leap t.mask p.i p.perturb).2 }
  | 0, p, h => by
    show t.advance p = _
    unfold SetTable.advance
    rw [if_neg (by omega)]
  | r + 1, p, h => by
    show adv t (r + 1) (t.advance p) = _
    have e : t.advance p = { p with j := p.j + 1, more := p.more - 1 } := by
      unfold SetTable.advance
      rw [if_pos (by omega)]
    rw [e, adv_run t r _ (by show p.more - 1 = r; omega)]
theorem adv_leap (t : SetTable) (s : Nat × Nat) : ∃ k, k ≤ 10 ∧ adv t k (at_ t s) = at_ t (SetTable.leap t.mask s.1 s.2) := by
  refine ⟨SetTable.runEnd t.mask s.1 - s.1 + 1, ?_, ?_⟩
  · unfold SetTable.runEnd
    split <;> omega
  · exact (adv_run t (SetTable.runEnd t.mask s.1 - s.1) (at_ t s) rfl).trans rfl
theorem adv_leaps (t : SetTable) : ∀ (n : Nat) (s : Nat × Nat), ∃ k, k ≤ 10 * n ∧ adv t k (at_ t s) = at_ t (lp t.mask n s)
  | 0, s => ⟨0, Nat.le_refl _, rfl⟩
  | n + 1, s => by
    obtain ⟨k1, h1, e1⟩ := adv_leap t s
    obtain ⟨k2, h2, e2⟩ := adv_leaps t n (SetTable.leap t.mask s.1 s.2)
    refine ⟨k1 + k2, by omega, ?_⟩
    rw [adv_add, e1, e2]
    rfl
theorem start_at (t : SetTable) (h : Int) : t.probeStart h = at_ t (SetTable.bits h % (t.mask + 1), SetTable.bits h) := rfl
theorem probe_meets {t : SetTable} (hm : Mask t.mask) {j : Nat} (hj : j ≤ t.mask) (h : Int) : ∃ K, K < 10 * SetTable.turns t.mask ∧ (adv t K (t.probeStart h)).j = j := by
  have h1 : SetTable.bits h % (t.mask + 1) ≤ t.mask := by
    have := Nat.mod_lt (SetTable.bits h) (show 0 < t.mask + 1 by omega)
    omega
  obtain ⟨n, hn, e⟩ := lp_reach hm h1 (bits_lt h) hj
  obtain ⟨K, hK, eK⟩ := adv_leaps t n (SetTable.bits h % (t.mask + 1), SetTable.bits h)
  refine ⟨K, by unfold SetTable.turns; omega, ?_⟩
  rw [start_at, eK]
  exact e
theorem slot_live {t : SetTable} {j i : Nat} (h : t.slot j = .live i) : t.place[i]? = some j := by
  unfold SetTable.slot at h
  dsimp only at h
  split at h
  · rename_i hq
    cases h
    exact eq_of_beq hq
  · split at h <;> cases h
theorem has_nil (j : Nat) : SetTable.has #[] j = false := rfl
theorem slot_cases {t : SetTable} (hd : t.dummies = #[]) (j : Nat) : t.slot j = .empty ∨ ∃ i, t.slot j = .live i := by
  unfold SetTable.slot
  dsimp only
  split
  · exact .inr ⟨_, rfl⟩
  · rw [hd, has_nil]
    exact .inl rfl
theorem range_sub : ∀ (n : Nat) (l : List Nat), (∀ j, j < n → j ∈ l) → n ≤ l.length
  | 0, l, _ => Nat.zero_le _
  | n + 1, l, h => by
    have hn := h n (Nat.lt_succ_self n)
    have := range_sub n (l.erase n) fun j hj => (List.mem_erase_of_ne (by omega)).mpr (h j (by omega))
    rw [List.length_erase_of_mem hn] at this
    have : 0 < l.length := List.length_pos_of_mem hn
    omega
theorem free_slot {t : SetTable} (hd : t.dummies = #[]) (h : t.place.size ≤ t.mask) : ∃ j, j ≤ t.mask ∧ t.slot j = .empty := by
  rcases Classical.em (∃ j, j ≤ t.mask ∧ t.slot j = .empty) with h1 | h1
  · exact h1
  · exfalso
    have := range_sub (t.mask + 1) t.place.toList fun j hj => by
      rcases slot_cases hd j with h2 | ⟨i, h2⟩
      · exact absurd ⟨j, by omega, h2⟩ h1
      · have := slot_live h2
        rw [← Array.getElem?_toList] at this
        exact List.mem_of_getElem? this
    rw [Array.length_toList] at this
    omega
theorem adv_dummy (t : SetTable) : ∀ n p, (adv t n p).dummy = p.dummy
  | 0, p => rfl
  | n + 1, p => by
    show (adv t n (t.advance p)).dummy = _
    rw [adv_dummy t n]
    unfold SetTable.advance
    split <;> rfl
theorem go_ok {t : SetTable} (hd : t.dummies = #[]) (hash : Nat → Int) (h : Int) : ∀ (K fuel : Nat) (p : SetTable.Probe), K < fuel → p.dummy = none → t.slot (adv t K p).j = .empty →
    (∃ j, SetTable.probe.go t hash h fuel p = some (.empty j none)) ∨ ∃ k j i, k < K ∧ SetTable.probe.go t hash h fuel p = some (.candidate j i (adv t (k + 1) p)) ∧ t.slot j = .live i := by
  intro K
  induction K with
  | zero =>
    intro fuel p hf hp hs
    obtain ⟨f, rfl⟩ : ∃ f, fuel = f + 1 := ⟨fuel - 1, by omega⟩
    refine .inl ⟨p.j, ?_⟩
    have hs' : t.slot p.j = .empty := hs
    unfold SetTable.probe.go
    rw [hs']
    dsimp only
    rw [hp]
  | succ K ih =>
    intro fuel p hf hp hs
    obtain ⟨f, rfl⟩ : ∃ f, fuel = f + 1 := ⟨fuel - 1, by omega⟩
    unfold SetTable.probe.go
    rcases slot_cases hd p.j with h1 | ⟨i, h1⟩
    · rw [h1]
      dsimp only
      rw [hp]
      exact .inl ⟨p.j, rfl⟩
    · rw [h1]
      dsimp only
      by_cases hq : (hash i == h) = true
      · rw [if_pos hq]
        exact .inr ⟨0, p.j, i, Nat.succ_pos _, rfl, h1⟩
      · rw [if_neg hq]
        have hp' : (t.advance p).dummy = none := by
          have := adv_dummy t 1 p
          rw [hp] at this
          exact this
        rcases ih f (t.advance p) (by omega) hp' hs with ⟨j, e⟩ | ⟨k, j, i', hk, e, hl⟩
        · exact .inl ⟨j, e⟩
        · exact .inr ⟨k + 1, j, i', by omega, e, hl⟩
theorem set_none_perm {α : Type} : ∀ {l : List (Option α)} {j : Nat} {k : α}, l[j]? = some none → ((l.set j (some k)).filterMap id).Perm (k :: l.filterMap id)
  | [], j, k, h => by cases h
  | x :: l, 0, k, h => by
    have : x = none := by simpa using h
    subst this
    exact .refl _
  | x :: l, j + 1, k, h => by
    have h' : l[j]? = some none := by simpa using h
    have ih := set_none_perm (k := k) h'
    cases x with
    | none => exact ih
    | some y => exact (List.Perm.cons y ih).trans (.swap _ _ _)
theorem set_none_len {α : Type} (l : List (Option α)) : (l.filterMap id).length + (l.filter (·.isNone)).length = l.length := by
  induction l with
  | nil => rfl
  | cons x l ih =>
    cases x <;> simp at ih ⊢ <;> omega
theorem free_some {m : Nat} (hm : Mask m) (owner : Array (Option Nat)) (hz : owner.size = m + 1) {j : Nat} (hj : owner[j]? = some none) : ∀ (fuel n i p : Nat), i ≤ m → n < fuel → (lp m n (i, p)).1 = j →
    ∃ j', SetTable.layClean.free m owner fuel i p = some j' ∧ owner[j']? = some none := by
  intro fuel
  induction fuel with
  | zero => intro n i p _ h; omega
  | succ fuel ih =>
    intro n i p hi hn he
    unfold SetTable.layClean.free
    split
    · rename_i k hk
      have h1 := List.find?_some hk
      have h2 := List.mem_range.mp (List.mem_of_find?_eq_some hk)
      refine ⟨i + k, rfl, ?_⟩
      have hb : i + k < owner.size := by
        rw [hz]
        unfold SetTable.runEnd at h2
        split at h2 <;> omega
      rw [Array.getElem?_eq_getElem hb]
      have : owner.getD (i + k) (some 0) = owner[i + k] := by
        rw [Array.getD_eq_getD_getElem?, Array.getElem?_eq_getElem hb]
        rfl
      rw [this] at h1
      congr 1
      cases hq : owner[i + k] with
      | none => rfl
      | some y => rw [hq] at h1; cases h1
    · rename_i hk
      cases n with
      | zero =>
        exfalso
        have h0 : i = j := he
        have := List.find?_eq_none.mp hk 0 (List.mem_range.mpr (by unfold SetTable.runEnd; split <;> omega))
        rw [Nat.add_zero, h0, Array.getD_eq_getD_getElem?, hj] at this
        simp at this
      | succ n =>
        have := lp_le m 1 (i, p) hi
        exact ih n (SetTable.leap m i p).1 (SetTable.leap m i p).2 this (by omega) he
noncomputable def layStep (mask : Nat) (acc : Option (Array (Option Nat) × Nat)) (h : Int) : Option (Array (Option Nat) × Nat) := do
  let (owner, k) ← acc
  let j ← SetTable.layClean.free mask owner (SetTable.turns mask) (SetTable.bits h % (mask + 1)) (SetTable.bits h)
  pure (owner.setIfInBounds j (some k), k + 1)
theorem some_none {l : List (Option Nat)} (h : (l.filterMap id).length < l.length) : ∃ j : Nat, l[j]? = some none := by
  have := set_none_len l
  have h1 : 0 < (l.filter (·.isNone)).length := by omega
  obtain ⟨x, hx⟩ := List.exists_mem_of_length_pos h1
  obtain ⟨hx1, hx2⟩ := List.mem_filter.mp hx
  have : x = none := by cases x <;> simp_all
  subst this
  obtain ⟨j, hj⟩ := List.getElem?_of_mem hx1
  exact ⟨j, hj⟩
theorem lay_fold {m : Nat} (hm : Mask m) : ∀ (hs : List Int) (owner : Array (Option Nat)) (k : Nat), owner.size = m + 1 → (owner.toList.filterMap id).Perm (List.range k) → k + hs.length ≤ m →
    ∃ owner', hs.foldl (layStep m) (some (owner, k)) = some (owner', k + hs.length) ∧ owner'.size = m + 1 ∧ (owner'.toList.filterMap id).Perm (List.range (k + hs.length))
  | [], owner, k, h1, h2, h3 => ⟨owner, rfl, h1, h2⟩
  | h :: hs, owner, k, h1, h2, h3 => by
    rw [List.length_cons] at h3 ⊢
    have hlt : (owner.toList.filterMap id).length < owner.toList.length := by
      rw [h2.length_eq, List.length_range, Array.length_toList, h1]
      omega
    obtain ⟨j, hj⟩ := some_none hlt
    rw [Array.getElem?_toList] at hj
    have hjm : j ≤ m := by
      have := (Array.getElem?_eq_some_iff.mp hj).1
      omega
    have hi : SetTable.bits h % (m + 1) ≤ m := by
      have := Nat.mod_lt (SetTable.bits h) (show 0 < m + 1 by omega)
      omega
    obtain ⟨n, hn, en⟩ := lp_reach hm hi (bits_lt h) hjm
    obtain ⟨j', e', hj'⟩ := free_some hm owner h1 hj (SetTable.turns m) n _ _ hi (by unfold SetTable.turns; omega) en
    have step : layStep m (some (owner, k)) h = some (owner.setIfInBounds j' (some k), k + 1) := by
      unfold layStep
      simp [e']
    rw [List.foldl_cons, step]
    have hp : ((owner.setIfInBounds j' (some k)).toList.filterMap id).Perm (List.range (k + 1)) := by
      rw [Array.toList_setIfInBounds]
      rw [← Array.getElem?_toList] at hj'
      refine (set_none_perm hj').trans ?_
      rw [List.range_succ]
      exact (List.Perm.cons k h2).trans (List.perm_append_comm (l₁ := [k]) (l₂ := List.range k))
    obtain ⟨o', f1, f2, f3⟩ := lay_fold hm hs (owner.setIfInBounds j' (some k)) (k + 1) (by simpa using h1) hp (by omega)
    exact ⟨o', by rw [f1]; congr 2; omega, f2, by rw [show k + (hs.length + 1) = k + 1 + hs.length by omega]; exact f3⟩
theorem relaid_ok (t : SetTable) {hashes : Array Int} {wanted m : Nat} (hm : Mask m) (hw : SetTable.sizeAbove wanted - 1 = m) (hn : hashes.size ≤ m) :
    ∃ t' order, t.relaid hashes wanted = some (t', order) ∧ t'.place.size = hashes.size ∧ t'.dummies = #[] ∧ t'.mask = m ∧ order.toList.Perm (List.range hashes.size) := by
  obtain ⟨o', f1, f2, f3⟩ := lay_fold hm hashes.toList (Array.replicate (m + 1) none) 0 (by simp) (by simp) (by rw [Array.length_toList]; omega)
  rw [Array.length_toList, Nat.zero_add] at f1 f3
  have hlay : SetTable.layClean m hashes = some o' := by
    show (hashes.foldl (layStep m) (some (Array.replicate (m + 1) none, 0))).map (·.1) = some o'
    rw [← Array.foldl_toList, f1]
    rfl
  have hsnd : ((List.range (m + 1)).filterMap fun j => (o'.getD j none).map (j, ·)).map (·.2) = o'.toList.filterMap id := by
    rw [List.map_filterMap]
    have : o'.toList = (List.range (m + 1)).map fun j => o'.getD j none := by
      apply List.ext_getElem
      · rw [Array.length_toList, List.length_map, List.length_range, f2]
      · intro i h1 h2
        rw [Array.length_toList] at h1
        simp [h1]
    rw [this, List.filterMap_map]
    congr 1
    funext j
    show ((o'.getD j none).map (j, ·)).map (·.2) = o'.getD j none
    cases o'.getD j none <;> rfl
  have hrel : t.relaid hashes wanted = some (({ mask := m, place := (((List.range (m + 1)).filterMap fun j => (o'.getD j none).map (j, ·)).map (·.1)).toArray, dummies := #[], finger := t.finger, led := t.led, moves := t.movedTo m, plain := t.plain } : SetTable), (((List.range (m + 1)).filterMap fun j => (o'.getD j none).map (j, ·)).map (·.2)).toArray) := by
    unfold SetTable.relaid
    rw [hw]
    unfold SetTable.laid
    rw [hlay]
    rfl
  refine ⟨_, _, hrel, ?_, rfl, rfl, ?_⟩
  · show (((List.range (m + 1)).filterMap fun j => (o'.getD j none).map (j, ·)).map (·.1)).toArray.size = _
    rw [List.size_toArray, List.length_map]
    have := congrArg List.length hsnd
    rw [List.length_map, f3.length_eq, List.length_range] at this
    exact this
  · show (((List.range (m + 1)).filterMap fun j => (o'.getD j none).map (j, ·)).map (·.2)).toArray.toList.Perm _
    rw [List.toList_toArray, hsnd]
    exact f3
theorem insertAt_size {α : Type} (xs : Array α) (p : Nat) (x : α) : (SetTable.insertAt xs p x).size = xs.size + 1 := by
  unfold SetTable.insertAt
  simp
  omega
theorem insertAt_mem {α : Type} {xs : Array α} {p : Nat} {x e : α} (h : e ∈ (SetTable.insertAt xs p x).toList) : e = x ∨ e ∈ xs.toList := by
  unfold SetTable.insertAt at h
  simp only [Array.toList_append, Array.toList_push, Array.toList_extract, List.mem_append, List.mem_singleton] at h
  rcases h with (h | h) | h
  · exact .inr (List.mem_of_mem_take (by simpa using h))
  · exact .inl h
  · exact .inr (List.mem_of_mem_drop (List.mem_of_mem_take h))
theorem above20 : SetTable.sizeAbove 20 - 1 = 31 := by decide +kernel
theorem above76 : SetTable.sizeAbove 76 - 1 = 127 := by decide +kernel
theorem above308 : SetTable.sizeAbove 308 - 1 = 511 := by decide +kernel
end L2.Og.Tb
namespace L2.Og
open PySem PySem.Spec PyProof.Rows
section
variable {P : Program} {w : World} {A : Around} {E : Value → Shared → Prop} {s : Shared} {K : Type} [DecidableEq K] {knd : KeyKind P w K}
theorem items_plain {ks : List K} {vs : List Value} (h : ItemsAre knd ks vs) : ∀ v ∈ vs, ∀ b, v ≠ .ref b := fun v hv b e => by
  have := h.byValue v hv
  subst e
  cases this
theorem notClass_plain (n : Nat) {v : Value} (h : ∀ b, v ≠ .ref b) : ofAClassStatement n v = pure false := by
  cases v with
  | ref b => exact absurd rfl (h b)
  | _ => unfold ofAClassStatement; rfl
theorem notClass_tuple {ks : List K} {b : Addr} {Q : Bool → Shared → Prop} (hk : IsTupleKey knd s.heap ks b) (h : Q false s) : wpAny (model P w) A (ofAClassStatement 8 (.ref b)) Q E s := by
  have hT := hk.typeIs
  obtain ⟨o, items, n, ho, hc, hd, hi⟩ := hk
  unfold ofAClassStatement
  refine wpAny_bind (wpAny_typeOf hT ?_)
  dsimp only
  refine wpAny_bind (wpAny_pure ?_)
  simp only [Bool.not_true, Bool.false_eq_true, if_false]
  refine wpAny_bind (wpAny_seqItems ho hd ?_)
  dsimp only
  refine wpAny_bind ?_
  rw [← Array.forIn_toList]
  refine wpAny_forIn_list _ (fun rest r s' => r.1 = none ∧ s' = s ∧ ∀ v ∈ rest, ∀ b, v ≠ .ref b) _ ?_ ?_ _ _ ⟨rfl, rfl, items_plain hi⟩
  · rintro v rest r s' ⟨hr, rfl, hall⟩
    rw [notClass_plain _ (hall v List.mem_cons_self)]
    refine wpAny_bind (wpAny_pure ?_)
    simp only [Bool.false_eq_true, if_false]
    exact wpAny_pure ⟨rfl, rfl, fun u hu => hall u (List.mem_cons_of_mem _ hu)⟩
  · rintro ⟨r1, r2⟩ s' ⟨hr, rfl, _⟩
    simp only at hr
    subst hr
    exact wpAny_pure h
theorem unseen {ks : List K} {b : Addr} {l : List Value} {Q : Bool → Shared → Prop} (hk : IsTupleKey knd s.heap ks b) (hl : ∀ y ∈ l, ∃ b' k', y = .ref b' ∧ IsTupleKey knd s.heap k' b') (h : Q false s) : wpAny (model P w) A (searchCouldBeSeen (.ref b) l) Q E s := by
  unfold searchCouldBeSeen
  refine wpAny_bind ?_
  refine wpAny_forIn_list _ (fun rest r s' => r.1 = none ∧ s' = s ∧ ∀ y ∈ rest, ∃ b' k', y = .ref b' ∧ IsTupleKey knd s.heap k' b') _ ?_ ?_ _ _ ⟨rfl, rfl, hl⟩
  · rintro v rest r s' ⟨hr, rfl, hall⟩
    obtain ⟨b', k', rfl, hk'⟩ := hall v List.mem_cons_self
    have next : ∀ y ∈ rest, ∃ b' k', y = .ref b' ∧ IsTupleKey knd s'.heap k' b' := fun y hy => hall y (List.mem_cons_of_mem _ hy)
    dsimp only
    split
    · exact wpAny_pure ⟨rfl, rfl, next⟩
    · refine wpAny_bind (wpAny_eqIsQuiet_tuple hk ?_)
      simp only [Bool.not_true, Bool.false_eq_true, if_false]
      refine wpAny_bind (wpAny_eqIsQuiet_tuple hk' ?_)
      simp only [Bool.not_true, Bool.false_eq_true, if_false]
      refine wpAny_bind (notClass_tuple hk ?_)
      simp only [Bool.false_eq_true, if_false]
      refine wpAny_bind (notClass_tuple hk' ?_)
      simp only [Bool.false_eq_true, if_false]
      exact wpAny_pure ⟨rfl, rfl, next⟩
  · rintro ⟨r1, r2⟩ s' ⟨hr, rfl, _⟩
    simp only at hr
    subst hr
    exact wpAny_pure h
theorem search_ok {a b : Addr} {k : List K} {h : Int} {o : Obj} {es : Array (Int × Value)} {ep : Nat} {t : SetTable} (hu : A.units < cLine) (hk : IsTupleKey knd s.heap k b) (ho : s.heap.get? a = some o) (hd : o.data = .set es ep t) (hf : t.fits es.size = true) (hm : Tb.Mask t.mask) (hdm : t.dummies = #[])
    (hall : ∀ e ∈ es.toList, ∃ b' k', e.2 = .ref b' ∧ IsTupleKey knd s.heap k' b' ∧ k' ≠ k) {Q : SetFound → Shared → Prop} (hQ : ∀ j, Q (.free j false) s) :
    ∀ (K fuel : Nat) (stand : Option SetTable.Probe), K < fuel → K < 10 * SetTable.turns t.mask → (stand.getD (t.probeStart h)).dummy = none → t.slot (Tb.adv t K (stand.getD (t.probeStart h))).j = .empty →
      wpAny (model P w) A (setSearchFrom a (.ref b) h true fuel stand) Q E s := by
  intro K
  induction K using Nat.strongRecOn with
  | ind K ih =>
    intro fuel stand hfu hK hdu hs
    obtain ⟨f, rfl⟩ : ∃ f, fuel = f + 1 := ⟨fuel - 1, by omega⟩
    unfold setSearchFrom
    refine wpAny_bind (wpAny_setState_of ho hd hf ?_)
    dsimp only
    have hg : t.gaveWay = false := by
      unfold SetTable.gaveWay
      rcases hm with e | e | e | e <;> rw [e] <;> rfl
    have hsz : t.place.size = es.size := by
      simp only [SetTable.fits, Bool.and_eq_true, beq_iff_eq] at hf
      exact hf.1
    have hsm : t.sameMemory t.moves t.mask = some true := by
      unfold SetTable.sameMemory
      rw [if_pos (beq_self_eq_true _)]
    rw [hg]
    simp only [Bool.false_eq_true, if_false]
    generalize hr : t.probe _ h (stand.getD (t.probeStart h)) = r
    obtain ⟨g, hr⟩ : ∃ g, SetTable.probe.go t g h (10 * SetTable.turns t.mask) (stand.getD (t.probeStart h)) = r := ⟨_, hr⟩
    rcases Tb.go_ok hdm g h K _ _ hK hdu hs with ⟨j, e⟩ | ⟨k', j, i, hk', e, hl⟩
    · rw [e] at hr
      subst hr
      exact wpAny_pure (hQ j)
    · rw [e] at hr
      subst hr
      have hpl := Tb.slot_live hl
      have hi : i < es.size := by
        rw [← hsz]
        exact (Array.getElem?_eq_some_iff.mp hpl).1
      have hmem : es[i] ∈ es.toList := by simp
      obtain ⟨b', k2, hy, hk2, hne⟩ := hall _ hmem
      have hes : es[i]? = some (es[i].1, .ref b') := by
        rw [Array.getElem?_eq_getElem hi, ← hy]
      have hst : ∀ y ∈ ((es.filter fun x => x.1 == h).toList.map fun x => x.2), ∃ b' k', y = Value.ref b' ∧ IsTupleKey knd s.heap k' b' := fun y hy => by
        obtain ⟨e0, he0, rfl⟩ := List.mem_map.mp hy
        have he1 : e0 ∈ es.toList := by
          have := Array.mem_toList_iff.mp he0
          exact Array.mem_toList_iff.mpr (Array.mem_filter.mp this).1
        obtain ⟨b3, k3, h1, h2, _⟩ := hall e0 he1
        exact ⟨b3, k3, h1, h2⟩
      have again : wpAny (model P w) A (setSearchFrom a (.ref b) h true f (some (Tb.adv t (k' + 1) (stand.getD (t.probeStart h))))) Q E s := by
        refine ih (K - (k' + 1)) (by omega) f _ (by omega) (by omega) ?_ ?_
        · show (Tb.adv t (k' + 1) _).dummy = none
          rw [Tb.adv_dummy]
          exact hdu
        · show t.slot (Tb.adv t (K - (k' + 1)) (Tb.adv t (k' + 1) _)).j = _
          rw [← Tb.adv_add, show k' + 1 + (K - (k' + 1)) = K by omega]
          exact hs
      have same : isSame (Value.ref b') (Value.ref b') = pure true := by
        unfold isSame
        simp
      dsimp only
      cases hled : t.led
      · simp only [Bool.not_false, if_true]
        refine wpAny_bind (unseen hk hst ?_)
        simp only [Bool.false_eq_true, if_false]
        rw [hes]
        dsimp only
        refine wpAny_bind (wpAny_holding (wpAny_eqBool_tuple hu hk2 hk ?_))
        rw [decide_eq_false hne]
        refine wpAny_bind (wpAny_setState_of ho hd hf ?_)
        dsimp only
        simp only [Bool.and_false, Bool.false_eq_true, if_false, hsm, if_true, hl, hes, same]
        exact wpAny_bind (wpAny_pure (wpAny_bind (wpAny_pure again)))
      · simp only [Bool.not_true, Bool.false_eq_true, if_false]
        rw [hes]
        dsimp only
        refine wpAny_bind (wpAny_holding (wpAny_eqBool_tuple hu hk2 hk ?_))
        rw [decide_eq_false hne]
        refine wpAny_bind (wpAny_setState_of ho hd hf ?_)
        dsimp only
        simp only [Bool.and_false, Bool.false_eq_true, if_false, hsm, if_true, hl, hes, same]
        exact wpAny_bind (wpAny_pure (wpAny_bind (wpAny_pure again)))
noncomputable def SetT (knd : KeyKind P w K) (h : Heap) (a : Addr) (ks : List (List K)) : Prop :=
  ∃ o es ep t, h.get? a = some o ∧ o.ExactSet ∧ o.data = .set es ep t ∧ t.place.size = es.size ∧ t.dummies = #[] ∧ Tb.Mask t.mask ∧ es.size * 5 < t.mask * 3 ∧ es.size = ks.length ∧ ∀ e ∈ es.toList, ∃ b k, e.2 = .ref b ∧ k ∈ ks ∧ IsTupleKey knd h k b
theorem key_stay {h h' : Heap} {a b : Addr} {k : List K} {o : Obj} {es : Array (Int × Value)} {ep : Nat} {t : SetTable} (hk : IsTupleKey knd h k b) (ho : h.get? a = some o) (hd : o.data = .set es ep t) (hs : Heap.SameBut a h h') : IsTupleKey knd h' k b := by
  obtain ⟨o', items, n, ho', hc, hd', hi⟩ := hk
  have hne : b ≠ a := by
    rintro rfl
    rw [ho] at ho'
    cases ho'
    rw [hd] at hd'
    cases hd'
  exact ⟨o', items, n, (hs.2 b hne).trans ho', hc, hd', hi⟩
theorem hashBy_plain (n : Nat) {v : Value} (h : ∀ b, v ≠ .ref b) : ∃ c, hashByValue n v = pure c := by
  cases v with
  | ref b => exact absurd rfl (h b)
  | _ => exact ⟨_, by cases n <;> unfold hashByValue <;> rfl⟩
theorem hashBy_tuple {ks : List K} {b : Addr} {Q : Bool → Shared → Prop} (hk : IsTupleKey knd s.heap ks b) (h : ∀ c, Q c s) : wpAny (model P w) A (hashByValue 8 (.ref b)) Q E s := by
  have hT := hk.typeIs
  obtain ⟨o, items, n, ho, hc, hd, hi⟩ := hk
  unfold hashByValue
  refine wpAny_bind (wpAny_specialOf hT F.slot_tuple_hash.lookup ?_)
  dsimp only
  refine wpAny_bind (wpAny_seqItems ho hd ?_)
  dsimp only [Option.getD_some]
  refine wpAny_bind ?_
  rw [← Array.forIn_toList]
  refine wpAny_forIn_list _ (fun rest r s' => (r.1 = none ∨ ∃ c, r.1 = some c) ∧ s' = s ∧ ∀ v ∈ rest, ∀ b, v ≠ .ref b) _ ?_ ?_ _ _ ⟨.inl rfl, rfl, items_plain hi⟩
  · rintro v rest r s' ⟨hr, rfl, hall⟩
    obtain ⟨c, hc'⟩ := hashBy_plain 7 (hall v List.mem_cons_self)
    rw [hc']
    refine wpAny_bind (wpAny_pure ?_)
    cases c
    · show wpAny _ _ (pure (ForInStep.done (some false, ()))) _ _ _
      exact wpAny_pure (wpAny_pure (h false))
    · simp only [Bool.not_true, Bool.false_eq_true, if_false]
      exact wpAny_pure ⟨.inl rfl, rfl, fun u hu => hall u (List.mem_cons_of_mem _ hu)⟩
  · rintro ⟨r1, r2⟩ s' ⟨hr, rfl, _⟩
    simp only at hr
    rcases hr with rfl | ⟨c, rfl⟩
    · exact wpAny_pure (h true)
    · exact wpAny_pure (h c)
theorem reorder_ok {α : Type} {es : Array α} {order : Array Nat} (h : order.toList.Perm (List.range es.size)) : (order.filterMap (es[·]?)).size = es.size ∧ ∀ e ∈ (order.filterMap (es[·]?)).toList, e ∈ es.toList := by
  have key : ∀ l : List Nat, (∀ i ∈ l, i < es.size) → (l.filterMap (es[·]?)).length = l.length ∧ ∀ e ∈ l.filterMap (es[·]?), e ∈ es.toList := by
    intro l
    induction l with
    | nil => intro _; exact ⟨rfl, fun e he => by cases he⟩
    | cons x l ih =>
      intro hl
      obtain ⟨i1, i2⟩ := ih fun i hi => hl i (List.mem_cons_of_mem _ hi)
      have hx := hl x List.mem_cons_self
      have e : (x :: l).filterMap (es[·]?) = es[x] :: l.filterMap (es[·]?) := by
        rw [List.filterMap_cons]
        simp [hx]
      rw [e]
      refine ⟨by rw [List.length_cons, List.length_cons, i1], fun y hy => ?_⟩
      rcases List.mem_cons.mp hy with rfl | hy
      · simp
      · exact i2 y hy
  have hlt : ∀ i ∈ order.toList, i < es.size := fun i hi => List.mem_range.mp (h.mem_iff.mp hi)
  obtain ⟨k1, k2⟩ := key order.toList hlt
  rw [Array.toList_filterMap]
  refine ⟨?_, k2⟩
  rw [← Array.length_toList, Array.toList_filterMap, k1, h.length_eq, List.length_range]
theorem add_tail {a : Addr} {o : Obj} {es es1 : Array (Int × Value)} {ep n : Nat} {t t1 : SetTable} {ks1 : List (List K)} {Q : Bool → Shared → Prop} (ho : s.heap.get? a = some o) (hex : o.ExactSet) (hd : o.data = .set es ep t) (hs1 : es1.size = n + 1) (hp1 : t1.place.size = es1.size) (hdm1 : t1.dummies = #[])
    (hm1 : Tb.Mask t1.mask) (hfull : n * 5 < t1.mask * 3) (hn : n < 200) (hlen : ks1.length = n + 1) (hall1 : ∀ e ∈ es1.toList, ∃ b k, e.2 = .ref b ∧ k ∈ ks1 ∧ IsTupleKey knd s.heap k b)
    (h : ∀ h', Heap.SameBut a s.heap h' → SetT knd h' a ks1 → Q true { s with heap := h' }) :
    wpAny (model P w) A (do
      storeSet a es1 t1
      if (!false && t1.tooFull) = true then do
        setRelay a (SetTable.grown (n + 1))
        pure true
      else pure true) Q E s := by
  have hline : n + 1 ≤ sizeLine := Nat.le_trans (show n + 1 ≤ 1000 by omega) (by decide)
  refine wpAny_bind (wpAny_storeSet_of ho hd ?_ (by omega))
  have ho1 : (s.heap.update a (Obj.putSet es1 t1)).get? a = some { o with data := .set es1 (ep + 1) t1 } := by
    have := Heap.get?_update_self (Obj.putSet es1 t1) ho (by rw [putSet_of es1 t1 hd]; rfl)
    rw [putSet_of es1 t1 hd] at this
    exact this
  have hsb1 := Heap.SameBut.update s.heap a (Obj.putSet es1 t1)
  generalize s.heap.update a (Obj.putSet es1 t1) = h1 at ho1 hsb1
  have hall2 : ∀ e ∈ es1.toList, ∃ b k, e.2 = .ref b ∧ k ∈ ks1 ∧ IsTupleKey knd h1 k b := fun e he => by
    obtain ⟨b, k, z1, z2, z3⟩ := hall1 e he
    exact ⟨b, k, z1, z2, key_stay z3 ho hd hsb1⟩
  have hfill : t1.fill = n + 1 := by
    unfold SetTable.fill
    rw [hdm1, hp1, hs1]
    rfl
  by_cases hq : t1.tooFull = true
  · rw [hq]
    simp only [Bool.not_false, Bool.and_self, if_true]
    have hq' : t1.mask * 3 ≤ (n + 1) * 5 := by
      unfold SetTable.tooFull at hq
      rw [hfill] at hq
      simpa using hq
    obtain ⟨m, hm, hw, hmn, hlt⟩ : ∃ m, Tb.Mask m ∧ SetTable.sizeAbove (SetTable.grown (n + 1)) - 1 = m ∧ n + 1 ≤ m ∧ (n + 1) * 5 < m * 3 ∧ SetTable.sizeAbove (SetTable.grown (n + 1)) ≤ sizeLine := by
      have hg : SetTable.grown (n + 1) = (n + 1) * 4 := by
        unfold SetTable.grown
        rw [if_neg (by omega)]
      rw [hg]
      rcases hm1 with e | e | e | e <;> rw [e] at hfull hq'
      · obtain rfl : n = 4 := by omega
        exact ⟨31, .inr (.inl rfl), Tb.above20, by omega, by omega, by decide +kernel⟩
      · obtain rfl : n = 18 := by omega
        exact ⟨127, .inr (.inr (.inl rfl)), Tb.above76, by omega, by omega, by decide +kernel⟩
      · obtain rfl : n = 76 := by omega
        exact ⟨511, .inr (.inr (.inr rfl)), Tb.above308, by omega, by omega, by decide +kernel⟩
      · omega
    have hfit1 : t1.fits es1.size = true := by
      simp only [SetTable.fits, Bool.and_eq_true, beq_iff_eq, decide_eq_true_eq]
      refine ⟨hp1, ?_⟩
      rw [hfill]
      rcases hm1 with e | e | e | e <;> omega
    obtain ⟨t2, order, hrel, hp2, hd2, hm2, hperm⟩ := Tb.relaid_ok t1 (hashes := es1.map (·.1)) hm hw (by rw [Array.size_map]; omega)
    rw [Array.size_map] at hp2 hperm
    obtain ⟨r1, r2⟩ := reorder_ok hperm
    refine wpAny_bind ?_
    unfold setRelay
    refine wpAny_bind (wpAny_setState_of (s := { s with heap := h1 }) ho1 rfl hfit1 ?_)
    dsimp only
    rw [if_neg (Nat.not_lt.mpr hlt.2), hrel]
    refine wpAny_bind ?_
    show wpAny _ _ (do
      if (order.filterMap (es1[·]?)).size != es1.size then unsupported "internal:set-table-lost-an-element"
      pure (order.filterMap (es1[·]?), t2)) _ _ _
    rw [r1]
    simp only [bne_self_eq_false, Bool.false_eq_true, if_false]
    refine wpAny_pure ?_
    dsimp only
    refine wpAny_storeSet_of (s := { s with heap := h1 }) ho1 rfl ?_ (by rw [r1]; omega)
    have ho2 : (h1.update a (Obj.putSet (order.filterMap (es1[·]?)) t2)).get? a = some { o with data := .set (order.filterMap (es1[·]?)) (ep + 1 + 1) t2 } := by
      have := Heap.get?_update_self (Obj.putSet (order.filterMap (es1[·]?)) t2) ho1 (by rw [putSet_of _ _ (o := { o with data := .set es1 (ep + 1) t1 }) rfl]; rfl)
      rw [putSet_of _ _ (o := { o with data := .set es1 (ep + 1) t1 }) rfl] at this
      exact this
    have hsb2 := Heap.SameBut.update h1 a (Obj.putSet (order.filterMap (es1[·]?)) t2)
    refine wpAny_pure (h _ (hsb1.trans hsb2) ⟨_, _, _, t2, ho2, hex, rfl, by rw [r1]; exact hp2, hd2, by rw [hm2]; exact hm, by rw [r1, hm2, hs1]; exact hlt.1, by rw [r1, hs1, hlen], fun e he => ?_⟩)
    obtain ⟨b, k, z1, z2, z3⟩ := hall2 e (r2 e he)
    exact ⟨b, k, z1, z2, key_stay z3 ho1 rfl hsb2⟩
  · have hq0 : t1.tooFull = false := by simpa using hq
    rw [hq0]
    simp only [Bool.and_false, Bool.false_eq_true, if_false]
    have hq' : (n + 1) * 5 < t1.mask * 3 := by
      unfold SetTable.tooFull at hq0
      rw [hfill] at hq0
      simpa using hq0
    exact wpAny_pure (h h1 hsb1 ⟨_, es1, _, t1, ho1, hex, rfl, hp1, hdm1, hm1, by rw [hs1]; exact hq', by rw [hs1, hlen], hall2⟩)
theorem add_ok {a b : Addr} {k : List K} {ks : List (List K)} {hsh : Int} {Q : Bool → Shared → Prop} (hu : A.units < cLine) (hk : IsTupleKey knd s.heap k b) (hS : SetT knd s.heap a ks) (hnew : k ∉ ks) (hsz : ks.length < 200)
    (h : ∀ h', Heap.SameBut a s.heap h' → SetT knd h' a (k :: ks) → Q true { s with heap := h' }) : wpAny (model P w) A (setAddHashed a (.ref b) hsh) Q E s := by
  obtain ⟨o, es, ep, t, ho, hex, hd, hp, hdm, hm, hfull, hlen, hall⟩ := hS
  have hle : es.size ≤ t.mask := by omega
  have hf : t.fits es.size = true := by
    simp only [SetTable.fits, Bool.and_eq_true, beq_iff_eq, decide_eq_true_eq]
    refine ⟨hp, ?_⟩
    unfold SetTable.fill
    rw [hdm, hp]
    simpa using hle
  obtain ⟨j0, hj0, hs0⟩ := Tb.free_slot hdm (by rw [hp]; exact hle)
  obtain ⟨N, hN, eN⟩ := Tb.probe_meets hm hj0 hsh
  have hall' : ∀ e ∈ es.toList, ∃ b' k', e.2 = .ref b' ∧ IsTupleKey knd s.heap k' b' ∧ k' ≠ k := fun e he => by
    obtain ⟨b', k', h1, h2, h3⟩ := hall e he
    exact ⟨b', k', h1, h3, fun z => hnew (z ▸ h2)⟩
  unfold setAddHashed setAddHashedIn
  refine wpAny_holding (wpAny_bind (wpAny_setState_of ho hd hf ?_))
  dsimp only
  have hsc : byScan (.ref b) es = false := rfl
  rw [hsc]
  simp only [Bool.false_eq_true, if_false]
  unfold setSearch
  have hturn : 10 * SetTable.turns t.mask < 100000 := by
    unfold SetTable.turns
    rcases hm with e | e | e | e <;> rw [e] <;> decide
  refine wpAny_bind (search_ok hu hk ho hd hf hm hdm hall' (fun j => ?_) N 100000 none (by omega) hN rfl (by show t.slot (Tb.adv t N (t.probeStart hsh)).j = _; rw [eN]; exact hs0))
  dsimp only
  refine wpAny_bind (wpAny_setState_of ho hd hf ?_)
  dsimp only
  have hput : (t.put j).1.place.size = es.size + 1 ∧ (t.put j).1.dummies = #[] ∧ (t.put j).1.mask = t.mask := by
    refine ⟨?_, ?_, rfl⟩
    · show (SetTable.insertAt t.place (SetTable.below t.place j) j).size = _
      rw [Tb.insertAt_size, hp]
    · show (if SetTable.has t.dummies j = true then _ else t.dummies) = #[]
      rw [hdm, Tb.has_nil]
      rfl
  have hins : ∀ e ∈ (SetTable.insertAt es (t.put j).2 (hsh, Value.ref b)).toList, ∃ b' k', e.2 = .ref b' ∧ k' ∈ k :: ks ∧ IsTupleKey knd s.heap k' b' := fun e he => by
    rcases Tb.insertAt_mem he with rfl | he
    · exact ⟨b, k, rfl, List.mem_cons_self, hk⟩
    · obtain ⟨b', k', z1, z2, z3⟩ := hall e he
      exact ⟨b', k', z1, List.mem_cons_of_mem _ z2, z3⟩
  have fin : ∀ c : Bool, wpAny (model P w) A (do
      storeSet a (SetTable.insertAt es (t.put j).2 (hsh, Value.ref b)) (if c = true then (t.put j).1 else { (t.put j).1 with plain := false })
      if (!false && (if c = true then (t.put j).1 else { (t.put j).1 with plain := false }).tooFull) = true then do
        setRelay a (SetTable.grown (es.size + 1))
        pure true
      else pure true) Q E s := fun c => by
    refine add_tail (ks1 := k :: ks) ho hex hd (Tb.insertAt_size _ _ _) ?_ ?_ ?_ ?_ (by omega) (by rw [List.length_cons, hlen]) hins h
    · rw [Tb.insertAt_size]
      cases c <;> exact hput.1
    · cases c <;> exact hput.2.1
    · cases c <;> exact hm
    · cases c <;> exact hfull
  cases hpl : (t.put j).1.plain
  · simp only [Bool.false_eq_true, if_false]
    exact wpAny_bind (wpAny_pure (fin true))
  · simp only [if_true]
    exact wpAny_bind (hashBy_tuple hk fin)
end
section
variable {P : Program} {w : World} {A : Around} {K : Type} [DecidableEq K] {knd : KeyKind P w K} {I : Addr} {fp wr : List Addr} {G : Array GenState → Array GenState → Prop} {n : Nat} {Pz : Nat → Value → Prop} {St : Nat → Shared → Prop}
theorem SetT.moved {h h' : Heap} {a : Addr} {ks : List (List K)} {wr : List Addr} (hS : SetT knd h a ks) (hk : ∀ b o, b ∉ wr → h.get? b = some o → h'.get? b = some o) (ha : a ∉ wr) (hw : ∀ b ∈ wr, ∀ o, h.get? b = some o → ∃ vs, o.data = .fields vs) : SetT knd h' a ks := by
  obtain ⟨o, es, ep, t, ho, hex, hd, h1, h2, h3, h4, h5, hall⟩ := hS
  refine ⟨o, es, ep, t, hk a o ha ho, hex, hd, h1, h2, h3, h4, h5, fun e he => ?_⟩
  obtain ⟨b, k, z1, z2, o', items, m, ho', hc, hd', hi⟩ := hall e he
  refine ⟨b, k, z1, z2, o', items, m, hk b o' (fun hb => ?_) ho', hc, hd', hi⟩
  obtain ⟨vs, hv⟩ := hw b hb o' ho'
  rw [hd'] at hv
  cases hv
theorem set_loop (W : WalksS P w A.in1 I fp wr G n Pz St) (S : Addr) (hS : S ∉ fp) (hu : A.in1.units < cLine) (bs : List Addr) (kk : List (List K)) (hnk : kk.length = n) (hnd : kk.Nodup) (hsz : n < 200)
    (hval : ∀ i v, Pz i v → ∃ b, v = .ref b ∧ bs[i]? = some b) (hwr : ∀ i s, St i s → ∀ b ∈ wr, ∀ o, s.heap.get? b = some o → ∃ vs, o.data = .fields vs) {R : Result → Shared → Prop} :
    ∀ (m i : Nat) (s : Shared), n - i = m → i ≤ n → St i s → SetT knd s.heap S (kk.take i).reverse → (∀ (j : Nat) (b : Addr) (k : List K), bs[j]? = some b → kk[j]? = some k → IsTupleKey knd s.heap k b) →
      (∀ s', Moved (S :: wr) G s s' → SetT knd s'.heap S kk.reverse → R (.ok (.ret .none)) s') →
      codeAny (model P w) A (.builtin "set.update.loop" ⟨[.ref S, .ref I], []⟩) R s := by
  have hSw : S ∉ wr := fun z => hS (W.sub _ z)
  have more : ∀ b ∈ wr, b ∈ S :: wr := fun b z => List.mem_cons_of_mem _ z
  intro m
  induction m with
  | zero =>
    intro i s hm hi hst hset hkeys hR
    obtain rfl : i = n := by omega
    refine codeAny_builtin F.entry_set_update_loop ?_
    rw [Around.under_plainId F.plain_set_update_loop _]
    show wpAny _ A.in1 (pyNext (.ref I) >>= _) _ _ s
    refine wpAny_bind (W.done s _ _ hst fun s' mv => ?_)
    rw [← hnk, List.take_length] at hset
    exact wpAny_pure (hR s' (mv.mono more) (hset.moved mv.heap hSw (hwr _ s hst)))
  | succ m ih =>
    intro i s hm hi hst hset hkeys hR
    have hlt : i < n := by omega
    refine codeAny_builtin F.entry_set_update_loop ?_
    rw [Around.under_plainId F.plain_set_update_loop _]
    show wpAny _ A.in1 (pyNext (.ref I) >>= _) _ _ s
    refine wpAny_bind (W.item i s _ _ hlt hst fun v s' hP hst' mv => ?_)
    obtain ⟨b, rfl, hb⟩ := hval i v hP
    have hki : kk[i]? = some kk[i] := List.getElem?_eq_getElem (by omega)
    have hset' := hset.moved mv.heap hSw (hwr _ s hst)
    have hkeys' : ∀ (j : Nat) (b : Addr) (k : List K), bs[j]? = some b → kk[j]? = some k → IsTupleKey knd s'.heap k b := fun j b k e1 e2 => by
      obtain ⟨o', items, q, ho', hc, hd', hi'⟩ := hkeys j b k e1 e2
      refine ⟨o', items, q, mv.heap b o' (fun hbw => ?_) ho', hc, hd', hi'⟩
      obtain ⟨vs, hv⟩ := hwr _ s hst b hbw o' ho'
      rw [hd'] at hv
      cases hv
    show wpAny _ A.in1 (holding [Value.ref b] (setAdd S (.ref b)) >>= _) _ _ s'
    refine wpAny_bind (wpAny_holding ?_)
    unfold setAdd
    refine wpAny_holding (wpAny_bind (wpAny_pyHash_tuple hu (hkeys' i b _ hb hki) ?_))
    have hnew : kk[i] ∉ (kk.take i).reverse := by
      rw [List.mem_reverse]
      intro z
      obtain ⟨q, hq, e⟩ := List.mem_iff_getElem.mp z
      rw [List.length_take] at hq
      rw [List.getElem_take] at e
      have := (List.getElem_inj hnd).mp e
      omega
    have htk : (kk.take (i + 1)).reverse = kk[i] :: (kk.take i).reverse := by
      rw [List.take_add_one, hki, List.reverse_append]
      rfl
    refine add_ok (s := { s' with toks := s'.toks + (kk[i].length + 1) }) hu (hkeys' i b _ hb hki) hset' hnew (by rw [List.length_reverse, List.length_take]; omega) fun h' sb hset2 => ?_
    obtain ⟨oS, esS, epS, tS, hoS, _, hdS, _⟩ := id hset'
    refine wpAny_pure ⟨plainId_quiet F.plain_set_update_loop _, ih (i + 1) _ (by omega) hlt (W.frame _ s' _ _ hst' (Nat.le_add_right _ _) fun c hc o e => ?_) (by rw [htk]; exact hset2) (fun j c k e1 e2 => key_stay (hkeys' j c k e1 e2) hoS hdS sb) fun s'' mv2 hS2 => ?_⟩
    · rw [sb.2 c (fun z : c = S => hS (z ▸ hc))]
      exact e
    · refine hR s'' (Moved.trans W.gtrans ((mv.mono more).then_heap (Nat.le_add_right _ _) fun c o hc e => ?_) mv2) hS2
      rw [sb.2 c (fun z : c = S => hc (by rw [z]; exact List.mem_cons_self))]
      exact e
end
end L2.Og
namespace L2.Og
open PySem PySem.Spec PyProof.Rows
section
variable {P : Program} {w : World} {A : Around} {E : Value → Shared → Prop} {s : Shared} {K : Type} [DecidableEq K] {knd : KeyKind P w K}
noncomputable abbrev setO (led : Bool) : Obj := { cls := .type "set", dict := none, data := .set #[] 0 (.fresh 0 0 led) }
noncomputable def SetMade (knd : KeyKind P w K) (s : Shared) (kk : List (List K)) (h' : Heap) : Prop :=
  SetT knd h' s.heap.objs.size kk.reverse ∧ ∀ b o, b < s.heap.objs.size → s.heap.get? b = some o → h'.get? b = some o
theorem sub_tup_fz : isSubtype (.type "tuple") (.type "frozenset") = pure false := by
  rw [isSubtype_type]
  kernel_rfl
theorem set_of_tuple {t : Addr} {ys : Array Value} {bs : List Addr} {kk : List (List K)} {Q : Value → Shared → Prop} (hA : A.handled = none) (hu : A.units + 5 < cLine) (gt : s.heap.IsTuple t ys) (hb : ys.toList = bs.map Value.ref)
    (hn : kk.length = ys.size) (hnd : kk.Nodup) (hz : ys.size < 200) (hkey : ∀ (j : Nat) (b : Addr) (k : List K), bs[j]? = some b → kk[j]? = some k → IsTupleKey knd s.heap k b)
    (h : ∀ (h' : Heap) (tk : Nat), SetMade knd s kk h' → Q (.ref s.heap.objs.size) { s with heap := h', toks := tk }) : wpAny (model P w) A (call (.type "set") [.ref t]) Q E s := by
  have x1 := F.called_set.notType
  have x2 := F.called_set.canCreate
  have x3 := F.typeCall_set_1 (.ref t)
  have x4 := F.called_set.made
  have x5 := F.called_set.sub
  obtain ⟨c, tl, x6⟩ := F.called_set.mro
  refine wpAny_call (codeAny_of_tree ?_)
  show wpAny _ _ (callAny (.type "set") _) _ _ _
  refine wpAny_pure ⟨Code.quiet_builtin _ (by decide +kernel), codeAny_builtin F.entry_type_call ?_⟩
  rw [Around.under_plain (weight_type_call_type "set" [.ref t] []) rfl]
  repeat (any_goals (first | assumption | wp_step))
  refine codeAny_mono (code_set_new_1 (.ref t) (E := E) (Q₁ := fun v s1 => ∃ led, v = .ref s.heap.objs.size ∧ s1 = { s with heap := s.heap.push (setO led) }) fun led => ⟨led, rfl, rfl⟩) fun r s1 hr => ?_
  cases r with
  | error e => exact hr
  | ok fl =>
    cases fl with
    | ret v =>
      obtain ⟨led, rfl, rfl⟩ := hr
      have gS : (s.heap.push (setO led)).get? s.heap.objs.size = some (setO led) := Heap.get?_push_size _ rfl
      have hT : Shared.TypeIs { s with heap := s.heap.push (setO led) } (.ref s.heap.objs.size) "set" := ⟨_, gS, rfl⟩
      have x7 := F.called_set.init.lookup
      have x8 := F.called_set.init.bind (.ref s.heap.objs.size)
      repeat (any_goals (first | assumption | wp_step))
      refine codeAny_mono (codeAny_call_builtin (R := wants (fun r s2 => r = .none ∧ ∃ h' tk, s2 = { s with heap := h', toks := tk } ∧ SetMade knd s kk h') E) F.called_set.init.plain F.entry_set_init (check_set_init_1 hT ?_)) fun r2 s2 hr2 => ?_
      · have g1 : (s.heap.push (setO led)).IsTuple t ys := gt.push _
        have hlt : t < s.heap.objs.size := by
          obtain ⟨o, ho, _⟩ := gt
          exact Heap.lt_size ho
        obtain ⟨ol, hol, hcl, nl, hdl⟩ := id g1
        obtain ⟨c0, d0, dt, sl⟩ := ol
        simp only at hcl hdl
        subst hcl hdl
        have y1 := F.sub_tuple_set
        have y2 := sub_tup_fz
        have y3 : (Value.type "tuple" == Value.type "dict") = false := by decide
        unfold Builtin.«set.__init__» noKeywords Builtin.Frozenset.updateFrom
        generalize hit : pyIter = PI
        wp_walk
        subst hit
        refine wpAny_pyIter_tuple g1 ?_
        refine wpAny_bind (wpAny_runValue ?_)
        have e1 : (s.heap.push (setO led)).objs.size = s.heap.objs.size + 1 := Heap.size_push _ _
        have hA3 : A.in1.in1.in1.handled = none := by simp [hA]
        have hne : t ≠ (s.heap.push (setO led)).objs.size := by
          rw [e1]
          exact Nat.ne_of_lt (Nat.lt_succ_of_lt hlt)
        have hSf : s.heap.objs.size ∉ [(s.heap.push (setO led)).objs.size, t] := by
          intro z
          rcases List.mem_cons.mp z with z | z
          · rw [e1] at z
            exact Nat.ne_of_lt (Nat.lt_succ_self _) z
          · exact Nat.ne_of_gt hlt (List.mem_singleton.mp z)
        have hbs : ∀ i : Nat, ys[i]? = (bs[i]?).map Value.ref := fun i => by
          rw [← Array.getElem?_toList, hb, List.getElem?_map]
        refine set_loop (knd := knd) ((Walks.tuple hA3 _ t hne ys).toS) s.heap.objs.size hSf (by simp only [Around.in1_units]; omega) bs kk hn hnd hz (fun i v hv => ?_) (fun i s' hs b hb' o ho => ?_) (ys.size - 0) 0 _ (by omega) (Nat.zero_le _) ⟨⟨_, Heap.get?_push_size _ rfl, rfl, rfl⟩, g1.push _⟩ ⟨setO led, #[], 0, _, Heap.get?_push_of_some _ gS, ⟨rfl, rfl, rfl⟩, rfl, rfl, rfl,   .inl rfl, (show 0 * 5 < 7 * 3 by decide), rfl, fun e he => by simp at he⟩ (fun j b k e1 e2 => ?_) fun s' mv hS' => ?_
        · have hv' : ys[i]? = some v := hv
          rw [hbs i] at hv'
          obtain ⟨b, e, rfl⟩ := Option.map_eq_some_iff.mp hv'
          exact ⟨b, rfl, e⟩
        · cases List.mem_singleton.mp hb'
          obtain ⟨o', ho', _, hd'⟩ := hs.1
          rw [ho'] at ho
          cases ho
          exact ⟨_, hd'⟩
        · obtain ⟨o, items, q, ho, r⟩ := hkey j b k e1 e2
          exact ⟨o, items, q, Heap.get?_push_of_some _ (Heap.get?_push_of_some _ ho), r⟩
        · obtain ⟨h', g', d', tk', os'⟩ := s'
          have q1 : g' = s.gens := mv.gens
          have q2 : d' = s.drawn := mv.drawn
          have q3 : os' = s.os := mv.os
          subst q1 q2 q3
          show wpAny _ _ _ _ _ _
          refine wpAny_pure ?_
          show wpAny _ _ (ret Value.none) _ _ _
          refine wpAny_pure ⟨rfl, h', tk', rfl, hS', fun b o hb e => mv.heap b o (fun z => ?_) (Heap.get?_push_of_some _ (Heap.get?_push_of_some _ e))⟩
          rcases List.mem_cons.mp z with z | z
          · exact Nat.ne_of_lt hb z
          · have z := List.mem_singleton.mp z
            rw [e1] at z
            exact Nat.ne_of_lt (Nat.lt_succ_of_lt hb) z
      · cases r2 with
        | error e => exact hr2
        | ok f2 =>
          cases f2 with
          | ret r =>
            obtain ⟨rfl, h', tk, rfl, hS'⟩ := hr2
            repeat (any_goals (first | assumption | wp_step))
            exact h _ _ hS'
          | _ => exact hr2.elim
    | _ => exact hr.elim
end
end L2.Og
namespace L2.Og
open PySem PySem.Spec PyProof.Rows
noncomputable def setX (a : Addr) (n : Nat) : HO := .ext fun h => ∃ o es ep t, h.get? a = some o ∧ o.ExactSet ∧ o.data = .set es ep t ∧ t.fits es.size = true ∧ es.size = n
theorem setX_ok {P : Program} {w : World} {H : Hp} {h : Heap} {a : Addr} {ks : List (List Key)} (S : SetT (mixKind P w) h a ks) : ObjOk P w H h a (setX a ks.length) := by
  obtain ⟨o, es, ep, t, ho, hex, hd, hp, hdm, hm, hfull, hlen, _⟩ := S
  refine ⟨⟨o, es, ep, t, ho, hex, hd, ?_, hlen⟩, ⟨o, ho⟩, fun h1 h2 z k => ?_⟩
  · simp only [SetTable.fits, Bool.and_eq_true, beq_iff_eq, decide_eq_true_eq]
    refine ⟨hp, ?_⟩
    unfold SetTable.fill
    rw [hdm, hp]
    have : es.size ≤ t.mask := by omega
    simpa using this
  · obtain ⟨o', es', ep', t', ho', r⟩ := z
    exact ⟨o', es', ep', t', k _ ho', r⟩
noncomputable def WaysAt (H : Hp) (p : Addr) (kk : List (List Key)) : Prop := ∃ bs : List Addr, H p = some (.tup (bs.map V.ref)) ∧ bs.length = kk.length ∧ ∀ (j : Nat) (b : Addr) (k : List Key), bs[j]? = some b → kk[j]? = some k → H b = some (.tup (k.map kV))
theorem vals_ref : ∀ {bs : List Addr} {us : List Value}, Vals (bs.map V.ref) us → us = bs.map Value.ref
  | [], _, .nil => rfl
  | b :: bs, _, .cons r t => by
    rw [List.map_cons, ← vals_ref (bs := bs) t]
    exact congrArg (· :: _) r
section
variable {X : Cx}
noncomputable def rSetOf : List V → Hp → VK → Prop := fun xs H Q => ∃ p kk, xs = [.ref p] ∧ WaysAt H p kk ∧ kk.Nodup ∧ kk.length < 200 ∧ ∀ l, H l = none → Q (.ref l) (upd H l (setX l kk.length))
theorem call_setT {k : Nat} (hr : Room k X.A) : CallR X (.type "set") rSetOf := by
  intro pins s σ H xs us Q I r h
  obtain ⟨p, kk, rfl, ⟨bs, h1, h2, h3⟩, hnd, hz, q⟩ := h
  obtain ⟨u, rfl, rx⟩ := vals1 r
  cases rx
  obtain ⟨_, its, rv, gt⟩ := I.hok p _ h1
  have ei := vals_ref rv
  subst ei
  have hu := hr.units
  have hA := hr.hd
  refine set_of_tuple (knd := mixKind X.prog X.w) (kk := kk) (bs := bs) hA (by omega) (show s.heap.IsTuple p _ from gt) rfl (by simp [h2]) hnd (by simp [h2]; exact hz) (fun j b k e1 e2 => ?_) fun h' tk hm => ?_
  · obtain ⟨_, is, rk, o, ho, hc, n, hd⟩ := I.hok b _ (h3 j b k e1 e2)
    exact ⟨o, _, n, ho, hc, hd, items_are rk⟩
  · have hok := setX_ok (H := upd H s.heap.objs.size (setX s.heap.objs.size kk.length)) hm.1
    rw [List.length_reverse] at hok
    exact ⟨.ref s.heap.objs.size, _, I.laid (t' := tk) (fun b o e => hm.2 b o (Heap.lt_size e) e) (Nat.le_refl _) hok, rfl, q _ (I.hok.fresh (Nat.le_refl _))⟩
noncomputable def rLenSet : List V → Hp → VK → Prop := fun xs H Q => ∃ p n, xs = [.ref p] ∧ H p = some (setX p n) ∧ n < 200 ∧ Q (.int n) H
theorem call_lenSet : CallR X (.builtin "len") rLenSet := by
  intro pins s σ H xs us Q I r h
  obtain ⟨p, n, rfl, hp, hn, q⟩ := h
  obtain ⟨u, rfl, rx⟩ := vals1 r
  cases rx
  obtain ⟨⟨o, es, ep, t, ho, hex, hd, hf, hs⟩, _⟩ := I.hok p _ hp
  refine call_len_set ho hex hd hf (by omega) ⟨.int n, H, I.tok _, ⟨s.toks + 1, by rw [hs]⟩, q⟩
theorem rd_setOf {H : Hp} {Q : VK} {p : Addr} {kk : List (List Key)} (h : WaysAt H p kk) (hnd : kk.Nodup) (hz : kk.length < 200) (q : ∀ l H', Ext H H' → H' l = some (setX l kk.length) → Q (.ref l) H') : rSetOf [.ref p] H Q :=
  ⟨p, kk, rfl, h, hnd, hz, fun l hl => q l _ (ext_upd hl) upd_same⟩
theorem rd_lenSet {H : Hp} {Q : VK} {p : Addr} {n : Nat} (h : H p = some (setX p n)) (hn : n < 200) (q : Q (.int n) H) : rLenSet [.ref p] H Q := ⟨p, n, rfl, h, hn, q⟩
end
end L2.Og
set_option Elab.async false
set_option linter.all false
set_option maxRecDepth 100000
set_option maxHeartbeats 4000000
namespace L2.Ti
open PySem PySem.Spec PyProof.Rows
section
variable {P : Program} {w : World} {A : Around} {E : Value → Shared → Prop} {s : Shared}
end
section
variable {P : Program} {w : World} {A : Around} {E : Value → Shared → Prop} {s : Shared}
end
section
variable {P : Program} {w : World} {A : Around} {E : Value → Shared → Prop} {s : Shared}
end
section
variable {X : Cx}
end
end L2.Ti
set_option Elab.async false
set_option linter.all false
set_option maxRecDepth 100000
set_option maxHeartbeats 4000000
namespace L2
open PySem PySem.Spec PyProof.Rows
section
variable {X : Cx} {pins : List (Addr × Obj)} {σ : St} {H : Hp} {s : Shared}
theorem ps_setCompC {i : Nat} {y : Str} {py : Pos} {elt tg iter : Expr} {ifs : List Expr} {sc : Scope} {pos spos : Pos} (own : List Str) (js : List Nat) {wi : TI} {g : TG} {tc : TT} {te : TE} (hN : X.N.Nodup) (hi' : X.N[i]? = some y) (hx : Loc X.env.scope y)
    (hi : PI X tg iter wi) (hg : ∀ z, PG (blkC X sc own js z) tg g) (ht : ∀ z, PCs (blkC X sc own js z) ifs tc)
    (he : ∀ z, PE (blkC X sc own js z) elt te) (hsw : swapsWith (.ListComp elt [⟨tg, iter, ifs, 0⟩] sc pos) (some (.Name y py)) spos.line X.env = pure true := by rfl) (hc : X.calm = true := by rfl) (hk : sc.kind = .function := by rfl) (hb : okBlkC sc X.env.scope = true := by rfl) (hj : okCap sc X.N js = true := by rfl)
    (hs : ∀ x, foldedSetIterable iter X.env x = pure x := by intro _; rfl) (hf : X.fn y = true ∨ X.env.scope.names.lookup y = some .local := by first | exact .inl rfl | exact .inr rfl | assumption) :
    PS X (.Assign [.Name y py] (.ListComp elt [⟨tg, iter, ifs, 0⟩] sc pos) spos) (tAsg (tComp own.length js wi g tc te) (gName i)) := by
  intro pins s σ H D' I h
  rw [exec_Assign_Name_used _ _ _ _ hsw]
  refine wpAny_bind (wpAny_standAt (wpAny_bind ?_))
  show wpAny _ X.A (do let _ ← comprehension (.ListComp elt [⟨tg, iter, ifs, 0⟩] sc pos) sc X.env _ (newList []) false (eval iter X.env) (some (assign (.Name y py) X.env))) _ _ s
  refine wpAny_bind (wpAny_mono (wpAny_comprehension_free (use := some (assign (.Name y py) X.env)) (Q := fun _ s' => SP X pins D' .next s') rfl hs (closure_eq fun p hp hf => I.ok.has p.1 (okBlkC_free hb hp hf)) hk (fun p hp hl => okBlkC_local hb hp hl)
    (thn (hi pins s σ H _ I h) fun v s1 h1 => thn h1 fun itv s2 h2 => ?_)) (fun _ s' hq => wpAny_pure (wpAny_pure hq)) fun _ _ e => e)
  obtain ⟨it, fp, tn, J, H2, e, I2, T, st2, f2, W, w0, turn⟩ := h2
  subst e
  refine comp_coreC (Q := fun x H1 => gName i x σ H1 D'.nx) (RR := fun acc C => compPost (model X.prog X.w) X.A X.xe (some (assign (.Name y py) X.env)) (fun _ s' => SP X pins D' .next s') acc C) hk hb hj (fun _ => hg _) (fun _ => ht _) (fun _ => he _) I2 (fun C => Turn.at_ (Y := blkC X sc own js ⟨_, _, _, C⟩) T hc) st2 f2 w0 turn ?_
  intro D C s' ys H' nD I' hC ⟨m, hm⟩ hCs q
  show wpAny _ X.A (assign (.Name y py) X.env (.ref D)) _ _ _
  refine wpAny_assign_Name (store_ok2 I' hN hi' hx (v := .ref D) rfl (fun s'' I'' ⟨a, hsb, ha⟩ => ?_) hf)
  obtain ⟨f0, f1, f2, f3, f4, f5⟩ := hC
  have hac : a ≠ C := by
    rcases ha with rfl | ha
    · exact Ne.symm f1
    · exact f4 y a ha
  refine ⟨m, hm.sameBut hsb (Ne.symm hac), fun h' hs' => ?_⟩
  exact ⟨_, _, I''.turned (t' := s''.toks) (it := C) (fun b o hb' e => (hs'.2 b hb').trans e) f0 f1 f3 f4 f5, q⟩
end
end L2
set_option Elab.async false
set_option linter.all false
namespace L2
open PySem PySem.Spec PyProof.Rows
section
variable {X : Cx}
end
end L2
set_option Elab.async false
set_option linter.all false
set_option maxRecDepth 100000
set_option maxHeartbeats 4000000
namespace L2
open PySem PySem.Spec PyProof.Rows
section
variable {X : Cx}
theorem vals_strs : ∀ (l : List (Str × Tok)), Vals ((l.map (·.1)).map V.str) (strValues l)
  | [] => .nil
  | (x, t) :: l => .cons ⟨t, rfl⟩ (vals_strs l)
noncomputable def rSplit : V → List V → Hp → VK → Prop := fun x vs H Q => ∃ z y : Str, x = .str z ∧ vs = [.str y] ∧ (y.length == 0) = false ∧ z.length + 2 ≤ sizeLine ∧ ∀ l, H l = none → Q (.ref l) (upd H l (.lst ((Txt.split z y).map V.str)))
theorem mt_split : MtR X "str.split" rSplit := by
  intro pins s σ H x vs v us Q I rx rv h
  obtain ⟨z, y, rfl, rfl, hy, hz, q⟩ := h
  obtain ⟨t, rfl⟩ := rx
  obtain ⟨u, rfl, t', rfl⟩ := vals1 rv
  have fin : ∀ (l : List (Str × Tok)) (k : Nat), l.map (·.1) = Txt.split z y → EP X pins σ Q (.ref s.heap.objs.size) { s with toks := k, heap := s.heap.push { cls := .type "list", data := .seq (strValues l).toArray } } := fun l k e => by
    have hn := split_le z y
    have rel := vals_strs l
    have hln : l.length = (Txt.split z y).length := by rw [← e, List.length_map]
    rw [e] at rel
    refine ⟨.ref s.heap.objs.size, _, I.laid (t' := k) (o := .lst ((Txt.split z y).map V.str)) (fun b o eb => Heap.get?_push_of_some _ eb) (Nat.le_refl _) ⟨by rw [List.length_map]; omega, _, _, rel, Heap.get?_push_size _ rfl⟩, rfl, q _ (I.hok.fresh (Nat.le_refl _))⟩
  cases h1 : (decide (z.length < y.length) || decide (Builtin.Str.strKind z < Builtin.Str.strKind y))
  · cases hf : (Builtin.Str.occurrences z y 0 z.length (z.length + 1)).isEmpty
    · have e : Txt.split z y = Builtin.Str.partsBetween z (Builtin.Str.occurrences z y 0 z.length (z.length + 1)) y.length := (if_neg (ne_true_of_eq_false h1)).trans (if_neg (ne_true_of_eq_false hf))
      refine call_meets F.slot_str_split (typeIs_str _ _ _) F.entry_str_split (F.args_str_split_2 _ _) (meets_str_split_sep z y t t' h1 hy hf (by omega) (by rw [← e]; have := split_le z y; omega)) ?_
      show wants (EP X pins σ Q) X.xe _ { s with toks := _, heap := s.heap.push { cls := .type "list", data := .seq (strsFrom s.toks (Builtin.Str.partsBetween z (Builtin.Str.occurrences z y 0 z.length (z.length + 1)) y.length)).toArray } }
      rw [strsFrom_eq]
      exact fin _ _ ((numbered_texts _ _).trans e.symm)
    · exact call_meets F.slot_str_split (typeIs_str _ _ _) F.entry_str_split (F.args_str_split_2 _ _) (meets_str_split_not_found z y t t' h1 hy hf) (fin [(z, t)] s.toks ((if_neg (ne_true_of_eq_false h1)).trans (if_pos hf)).symm)
  · exact call_meets F.slot_str_split (typeIs_str _ _ _) F.entry_str_split (F.args_str_split_2 _ _) (meets_str_split_cannot_occur z y t t' h1) (fin [(z, t)] s.toks (if_pos h1).symm)
theorem call_int_str : CallR X (.type "int") (fun xs H Q => ∃ z n, xs = [.str z] ∧ PySem.intText? z = some n ∧ z.length ≤ 640 ∧ Q (.int n) H) := by
  intro pins s σ H xs us Q I r h
  obtain ⟨z, n, rfl, hn, hl, q⟩ := h
  obtain ⟨u, rfl, t, rfl⟩ := vals1 r
  exact PySem.W.KIN.call_text hn hl ⟨.int n, H, I.tok _, ⟨_, rfl⟩, q⟩
end
theorem comp_str {z : Str} {n : Nat} {js : List Nat} {g : TG} {tc : TT} {te : TE} {Q : VK} {σ : St} {H : Hp} (Pv : Nat → List V → Hp → Prop) (hz : z.cps.size ≤ sizeLine) (h0 : Pv 0 [] H) (hl : ∀ i ys H, i ≤ z.cps.size → Pv i ys H → ys.length ≤ i)
    (hs : ∀ i c ys H, z.cps[i]? = some c → Pv i ys H → g (.str ⟨#[c]⟩) (capt n js σ) H fun σ2 H3 => tc σ2 H3 fun b H4 => if b = true then te σ2 H4 fun v H5 => Pv (i + 1) (ys ++ [v]) H5 else Pv (i + 1) ys H4)
    (hd : ∀ ys H p, Pv z.cps.size ys H → H p = none → Q (.ref p) (upd H p (.lst ys))) : CompBody (Its z) n js g tc te σ H Q := by
  refine ⟨fun i m ys H => m = z.cps.size - i ∧ i ≤ z.cps.size ∧ Pv i ys H, ⟨_, rfl, Nat.zero_le _, h0⟩, ?_⟩
  rintro i m ys H ⟨rfl, hi, p⟩
  have q := hl i ys H hi p
  rcases Nat.lt_or_ge i z.cps.size with l | l
  · refine .inr ⟨l, by omega, Pv (i + 1), fun ys' H' p' => ⟨z.cps.size - (i + 1), by omega, rfl, l, p'⟩, ?_⟩
    rintro x H' ⟨rfl, c, hc, rfl⟩
    exact hs i c ys H' hc p
  · have : i = z.cps.size := by omega
    subst this
    exact .inl ⟨l, fun p' hp => hd ys H p' p hp⟩
end L2
set_option Elab.async false
set_option linter.all false
set_option maxRecDepth 100000
set_option maxHeartbeats 4000000
namespace L2
open PySem PySem.Spec PyProof.Rows PySem.SeqAt PySem.MeetsSeq
section
variable {X : Cx}
end
end L2
set_option Elab.async false
set_option linter.all false
set_option maxRecDepth 100000
set_option maxHeartbeats 4000000
namespace L2
open PySem PySem.Spec PyProof.Rows
section
variable {X : Cx}
end
end L2
set_option Elab.async false
set_option linter.all false
set_option maxRecDepth 100000
set_option maxHeartbeats 4000000
namespace L2
open PySem PySem.Spec PyProof.Rows
structure MDfn (K : PySem.W.Frag) (C : Addr) (m qual : Str) (st : Stmt) (ps : List Str) : Prop where
  ex : ∃ (f : Addr) (fd : FuncData), Meth K C m f ∧ Fun K m qual st f fd ∧ Binds K fd ps []
structure MetX (P : Program) (w : World) (K : PySem.W.Frag) (mg : Str → Option Value) (base : Heap) (C : Addr) (m : Str) (k : Nat) (ps : List Str) (sp : Sp) : Prop where
  ex : ∃ (f : Addr) (fd : FuncData), Meth K C m f ∧ Binds K fd ps [] ∧ FnOk P w K mg base (CXE P w) k f fd ps sp
theorem MDfn.okX {P : Program} {w : World} {K : PySem.W.Frag} {mg : Str → Option Value} {base : Heap} {C : Addr} {m qual : Str} {st : Stmt} {N ps : List Str} {k : Nat} {sp : Sp} (D : MDfn K C m qual st ps) (S : FnScope N ps (defScope st)) (len : ∀ vs H Q E, sp vs H Q E → vs.length = ps.length)
    (hbody : ∀ (f : Addr) (cdv : Value) (A : Around) (outer : List Env) (s : Shared) (H : Hp) (vs : List V) (Q : VK) (E : XK), Room k (A.deeper (envOfC qual (defScope st) s.heap.objs.size f cdv)) → sp vs H Q E →
      ∃ t, PSs (cxOf (CXE P w) P w K mg base N qual (defScope st) f cdv A outer s H E) (defBody st) t ∧ t { nx := fun _ H' => Q .non H', rt := Q } (start N vs) H) : MetX P w K mg base C m (k + 1) ps sp := by
  obtain ⟨f, fd, hm, F, hb⟩ := D.ex
  obtain ⟨oc, od, kV, doc, pm, an, cdv, ct, osl, rfl, lk, hcd⟩ := F.ex
  exact ⟨f, _, hm, hb, fn_of lk hcd S len fun A outer s H vs Q E hr h => hbody f cdv A outer s H vs Q E hr h⟩
section
variable {P : Program} {w : World} {K : PySem.W.Frag} {mg : Str → Option Value} {base : Heap} {N : List Str} {qual : Str} {scope : Scope} {f : Addr} {cd : Value} {A : Around} {outer : List Env} {s₀ : Shared} {H₀ : Hp} {E : XK}
variable {C : Addr} {m : Str} {k j : Nat} {ps : List Str} {sp : Sp} {o e : Expr} {es : List Expr} {ta : TE} {t : TA} {apos pos : Pos} {pl : Sem Bool}
theorem pe_metX (M : MetX P w K mg base C m j ps sp) (c : Cls K C) (hr : Room k (cxOf (CXE P w) P w K mg base N qual scope f cd A outer s₀ H₀ E).A) (he : PE (cxOf (CXE P w) P w K mg base N qual scope f cd A outer s₀ H₀ E) o ta)
    (ha : PA (cxOf (CXE P w) P w K mg base N qual scope f cd A outer s₀ H₀ E) (e :: es) t) (hjk : j ≤ k := by decide)
    (hst : starEach (e :: es) (cxOf (CXE P w) P w K mg base N qual scope f cd A outer s₀ H₀ E).env = (false, eval e (cxOf (CXE P w) P w K mg base N qual scope f cd A outer s₀ H₀ E).env) :: starEach es (cxOf (CXE P w) P w K mg base N qual scope f cd A outer s₀ H₀ E).env := by rfl)
    (hpl : (backTo pos (starEach es (cxOf (CXE P w) P w K mg base N qual scope f cd A outer s₀ H₀ E).env)).any (·.1) = false := by rfl)
    (ht : eval (.Call (.Attribute o m apos) (e :: es) [] pos) (cxOf (CXE P w) P w K mg base N qual scope f cd A outer s₀ H₀ E).env = (do
      let ov ← eval o (cxOf (CXE P w) P w K mg base N qual scope f cd A outer s₀ H₀ E).env
      standAt apos.atName
      let (g9, first) ← holding [ov] (getMethod ov m pl)
      callWith pos g9 first (backTo pos (starEach (e :: es) (cxOf (CXE P w) P w K mg base N qual scope f cd A outer s₀ H₀ E).env)) (backToKw pos (keywordEach [] (cxOf (CXE P w) P w K mg base N qual scope f cd A outer s₀ H₀ E).env))) := by rfl) :
    PE (cxOf (CXE P w) P w K mg base N qual scope f cd A outer s₀ H₀ E) (.Call (.Attribute o m apos) (e :: es) [] pos) (tMeth C m sp [] E ta t) := by
  obtain ⟨f', fd, hm, hb, F⟩ := M.ex
  exact pe_meth he c hm F (hr.mono hjk) hb .nil (fly_on fun _ _ _ h => h) ha hst hpl ht
theorem pe_metX0 (M : MetX P w K mg base C m j ps sp) (c : Cls K C) (hr : Room k (cxOf (CXE P w) P w K mg base N qual scope f cd A outer s₀ H₀ E).A) (he : PE (cxOf (CXE P w) P w K mg base N qual scope f cd A outer s₀ H₀ E) o ta) (hjk : j ≤ k := by decide)
    (ht : eval (.Call (.Attribute o m apos) [] [] pos) (cxOf (CXE P w) P w K mg base N qual scope f cd A outer s₀ H₀ E).env = (do
      let ov ← eval o (cxOf (CXE P w) P w K mg base N qual scope f cd A outer s₀ H₀ E).env
      standAt apos.atName
      let (g9, first) ← holding [ov] (getMethod ov m pl)
      callWith pos g9 first (backTo pos (starEach [] (cxOf (CXE P w) P w K mg base N qual scope f cd A outer s₀ H₀ E).env)) (backToKw pos (keywordEach [] (cxOf (CXE P w) P w K mg base N qual scope f cd A outer s₀ H₀ E).env))) := by rfl) :
    PE (cxOf (CXE P w) P w K mg base N qual scope f cd A outer s₀ H₀ E) (.Call (.Attribute o m apos) [] [] pos) (tMeth C m sp [] E ta tNil) := by
  obtain ⟨f', fd, hm, hb, F⟩ := M.ex
  exact pe_meth0 he c hm F (hr.mono hjk) hb .nil (fly_on fun _ _ _ h => h) ht
theorem rd_meth {σ : St} {H : Hp} {Q : VK} (h : ta σ H fun x H1 => ∃ a dx fs, x = .ref a ∧ H1 a = some (.ins C dx fs) ∧ fs.lookup m = none ∧ t σ H1 fun vs H2 => sp (x :: (vs ++ [])) H2 Q E) : tMeth C m sp [] E ta t σ H Q := h
end
noncomputable def bAsgM (C : Addr) (m : Str) (i : Nat) (sp : Sp) (ta : TE) (t : TA) : Ends → (St → XK) → St → Hp → Prop := fun D E σ H => ta σ H fun x H1 => ∃ a dx fs, x = .ref a ∧ H1 a = some (.ins C dx fs) ∧ fs.lookup m = none ∧ t σ H1 fun vs H2 => sp (x :: vs) H2 (fun v H3 => D.nx (σ.set i (some v)) H3) (E σ)
theorem pb_asgM {Y : Cx} {m y : Str} {C : Addr} {i k j : Nat} {ps : List Str} {sp : Sp} {o e : Expr} {es : List Expr} {ta : TE} {t : TA} {apos pos pos2 pos3 : Pos} {pl : Sem Bool} (M : MetX Y.prog Y.w Y.K Y.mg Y.base C m j ps sp) (c : Cls Y.K C) (hr : Room k Y.A) (hN : Y.N.Nodup) (hi : Y.N[i]? = some y) (hx : Loc Y.env.scope y) (hob : PE Y.nox o ta) (ha : PA Y.nox (e :: es) t) (hjk : j ≤ k := by decide)
    (he : starEach (e :: es) Y.env = (false, eval e Y.env) :: starEach es Y.env := by rfl) (hpl : (backTo pos (starEach es Y.env)).any (·.1) = false := by rfl) (hs : swapsWith (.Call (.Attribute o m apos) (e :: es) [] pos) (some (.Name y pos3)) pos2.line Y.env = pure false := by rfl)
    (ht : eval (.Call (.Attribute o m apos) (e :: es) [] pos) Y.env = (do
      let ov ← eval o Y.env
      standAt apos.atName
      let (g9, first) ← holding [ov] (getMethod ov m pl)
      callWith pos g9 first (backTo pos (starEach (e :: es) Y.env)) (backToKw pos (keywordEach [] Y.env))) := by rfl)
    (hf : Y.fn y = true ∨ Y.env.scope.names.lookup y = some .local := by first | exact .inl rfl | exact .inr rfl | assumption) :
    PB Y (.Assign [.Name y pos3] (.Call (.Attribute o m apos) (e :: es) [] pos) pos2) (bAsgM C m i sp ta t) := by
  intro pins s σ H D E I h
  obtain ⟨f, fd, hm, hb, F⟩ := M.ex
  refine wpAny_Assign_Name (PySem.W.methodCall_KW (pl := pl) (wpAny_mono (hob pins s σ H _ I h) (fun u s1 ⟨x, H1, I1, rx, a, dx, fs, ex, ea, l, q⟩ => ?_) fun _ _ z => z.elim) ht) hs
  subst ex
  obtain rfl : u = Value.ref a := rx
  refine getmeth_ok (X := Y.nox) I1 ea c hm l ?_
  refine PySem.W.callWith_K (first := [.ref a]) (h₀ := Y.base) I.ok.mod.kin hm.kp (wpAny_mono (ha pos pins s1 σ H1 _ I1 q) (fun us s2 ⟨vs, H2, I2, r, q2⟩ => ⟨I2.kIn, ?_⟩) fun _ _ z => z.elim) he hpl
  have r2 : Vals (V.ref a :: vs) (Value.ref a :: us) := .cons rfl r
  have hl : (Value.ref a :: us).length = ps.length := by rw [← r2.length]; exact F.len _ _ _ _ q2
  have hb' := hb s2 (Value.ref a :: us) I2.kIn (by rw [List.append_nil]; exact hl)
  rw [List.append_nil] at hb'
  refine wpAny_call (codeAny_mono (F.run Y.A Y.stack s2 H2 ⟨Value.ref a :: us, []⟩ (Value.ref a :: us) (V.ref a :: vs) _ (E σ) (hr.mono hjk) I2.env0 hb' r2 q2) fun r s' hq => ?_)
  cases r with
  | error e => exact ⟨σ, H2, s2, I2, hq⟩
  | ok fl =>
    cases fl with
    | ret u =>
      obtain ⟨v, H3, I3, r3, q3⟩ := I2.after hq
      exact wpAny_mono (store_ok (X := Y.nox) (Q := fun _ s3 => SP Y.nox pins D .next s3) (E := fun _ _ => False) I3 hN hi hx r3 (fun s3 I4 => ⟨_, H3, I4, q3⟩) hf) (fun _ _ z => z) fun _ _ z => z.elim
    | next => exact False.elim hq
    | brk => exact False.elim hq
    | cont => exact False.elim hq
theorem rd_basgM {C : Addr} {m : Str} {i : Nat} {sp : Sp} {ta : TE} {t : TA} {D : Ends} {E : St → XK} {σ : St} {H : Hp} (h : ta σ H fun x H1 => ∃ a dx fs, x = .ref a ∧ H1 a = some (.ins C dx fs) ∧ fs.lookup m = none ∧ t σ H1 fun vs H2 => sp (x :: vs) H2 (fun v H3 => D.nx (σ.set i (some v)) H3) (E σ)) : bAsgM C m i sp ta t D E σ H := h
structure MkD (P : Program) (w : World) (K : PySem.W.Frag) (mg : Str → Option Value) (base : Heap) (x : Str) (k : Nat) (sp : Sp) : Prop where
  ex : ∃ (f : Addr) (fd : FuncData), mg x = some (.ref (cA K x)) ∧ Mk K (cA K x) f ∧ Binds K fd ["self"] [] ∧ FnOk P w K mg base CX0 k f fd ["self"] sp
theorem pe_mkD {X : Cx} {x : Str} {k j : Nat} {sp : Sp} {p pos : Pos} (M : MkD X.prog X.w X.K X.mg X.base x j sp) (hr : Room (k + 1) X.A) (hjk : j ≤ k := by decide) (hg : Gl X x := by rfl) (hdb : (x == ("__debug__" : Str)) = false := by decide) : PE X (.Call (.Name x p) [] [] pos) (tMake (cA X.K x) sp [] E0 tNil) := by
  obtain ⟨f, fd, hm, M, hb, F⟩ := M.ex
  exact pe_make0 M F (hr.mono (Nat.succ_le_succ hjk)) hg hm hb .nil pass0 hdb
theorem rd_make {C : Addr} {sp : Sp} {σ : St} {H : Hp} {Q : VK} (h : ∀ x dx, H x = none → H dx = none → dx ≠ x → sp [.ref x] (upd (upd H dx (.own x)) x (.ins C dx [])) (fun v H2 => v = .non ∧ Q (.ref x) H2) E0) : tMake C sp [] E0 tNil σ H Q := h
theorem Cal.toX {P : Program} {w : World} {K : PySem.W.Frag} {mg : Str → Option Value} {base : Heap} {x : Str} {k : Nat} {ps : List Str} {sp : Sp} (h : Cal P w K mg base x k ps sp) : CalX P w K mg base x k ps sp := by
  obtain ⟨f, fd, a, b, c, F⟩ := h.ex
  refine ⟨f, fd, a, b, c, F.len, fun A outer s H args us vs Q E r1 r2 r3 r4 r5 => codeAny_mono (F.run A outer s H args us vs Q E r1 r2 r3 r4 r5) fun r s' hq => ?_⟩
  cases r with
  | error e => exact False.elim hq
  | ok fl => cases fl <;> exact hq
section
variable {P : Program} {w : World} {K : PySem.W.Frag} {mg : Str → Option Value} {base : Heap} {N : List Str} {qual : Str} {scope : Scope} {f : Addr} {cd : Value} {A : Around} {outer : List Env} {s₀ : Shared} {H₀ : Hp} {E : XK}
noncomputable def tCalS (P : Program) (w : World) (K : PySem.W.Frag) (mg : Str → Option Value) (base : Heap) (k : Nat) (E : XK) (tf : TE) (t : TA) : TE := fun σ H Q => tf σ H fun y H1 => ∃ (x : Str) (j : Nat) (ps : List Str) (sp : Sp), y = .ref (cA K x) ∧ mg x = some (.ref (cA K x)) ∧ CalX P w K mg base x j ps sp ∧ j ≤ k ∧ t σ H1 fun vs H2 => sp vs H2 Q E
theorem pe_calS {fe i e : Expr} {es : List Expr} {k : Nat} {tf : TE} {t : TA} {p pos : Pos} (hr : Room k (cxOf (CXE P w) P w K mg base N qual scope f cd A outer s₀ H₀ E).A) (hf : PE (cxOf (CXE P w) P w K mg base N qual scope f cd A outer s₀ H₀ E) (.Subscript fe i p) tf)
    (ha : PA (cxOf (CXE P w) P w K mg base N qual scope f cd A outer s₀ H₀ E) (e :: es) t)
    (he : starEach (e :: es) (cxOf (CXE P w) P w K mg base N qual scope f cd A outer s₀ H₀ E).env = (false, eval e (cxOf (CXE P w) P w K mg base N qual scope f cd A outer s₀ H₀ E).env) :: starEach es (cxOf (CXE P w) P w K mg base N qual scope f cd A outer s₀ H₀ E).env := by rfl)
    (hpl : (backTo pos (starEach es (cxOf (CXE P w) P w K mg base N qual scope f cd A outer s₀ H₀ E).env)).any (·.1) = false := by rfl) :
    PE (cxOf (CXE P w) P w K mg base N qual scope f cd A outer s₀ H₀ E) (.Call (.Subscript fe i p) (e :: es) [] pos) (tCalS P w K mg base k E tf t) := by
  intro pins s σ H Q I h
  show wpAny _ _ (eval (.Subscript fe i p) _ >>= fun fv => callWith pos fv [] (backTo pos (starEach (e :: es) _)) (backToKw pos (keywordEach [] _))) _ _ s
  refine wpAny_bind (thn (hf pins s σ H _ I h) fun fv s1 ⟨y, H1, I1, ry, x, j, ps, sp, ey, hm, C, hjk, q⟩ => ?_)
  subst ey
  obtain rfl : fv = Value.ref (cA K x) := ry
  obtain ⟨f', fd, hm', hk, hb, F⟩ := C.ex
  rw [hm] at hm'
  cases hm'
  refine PySem.W.callWith_K (h₀ := base) I1.ok.mod.kin hk (thn (ha pos pins s1 σ H1 _ I1 q) fun us s2 ⟨vs, H2, I2, r, q2⟩ => ⟨I2.kIn, ?_⟩) he hpl
  exact run_fn F (hr.mono hjk) hb .nil (fly_on fun _ _ _ h => h) I2 r (by rw [List.append_nil]; exact q2)
end
theorem rd_calS {P : Program} {w : World} {K : PySem.W.Frag} {mg : Str → Option Value} {base : Heap} {k : Nat} {E : XK} {tf : TE} {t : TA} {σ : St} {H : Hp} {Q : VK} (h : tf σ H fun y H1 => ∃ (x : Str) (j : Nat) (ps : List Str) (sp : Sp), y = .ref (cA K x) ∧ mg x = some (.ref (cA K x)) ∧ CalX P w K mg base x j ps sp ∧ j ≤ k ∧ t σ H1 fun vs H2 => sp vs H2 Q E) : tCalS P w K mg base k E tf t σ H Q := h
theorem rd_fld {K : PySem.W.Frag} {ta : TE} {f : Str} {σ : St} {H : Hp} {Q : VK} (h : ta σ H fun x H1 => ∃ a C dx fs v, x = .ref a ∧ H1 a = some (.ins C dx fs) ∧ Cls K C ∧ NoAttr K C f ∧ fs.lookup f = some v ∧ Q v H1) : tFld K ta f σ H Q := h
theorem rd_sfld {K : PySem.W.Frag} {ta tv : TE} {f : Str} {D : Ends} {σ : St} {H : Hp} (h : tv σ H fun y H1 => ta σ H1 fun x H2 => ∃ a C dx fs, x = .ref a ∧ H2 a = some (.ins C dx fs) ∧ Cls K C ∧ NoAttr K C f ∧ fs.length < 1000 ∧ D.nx σ (upd H2 a (.ins C dx (putF f y fs)))) : sFld K ta tv f D σ H := h
theorem pc_gnin {X : Cx} {x : Str} {a : Addr} {kvs : List (Key × V)} {i : Expr} {ty : TE} {p : Pos} (hg : Gl X x) (hm : X.mg x = some (.ref a)) (D : GDict X.w X.K a kvs) (hi : PE X i ty) (hd : (x == ("__debug__" : Str)) = false := by decide) : PC X .NotIn i (.Name x p) (tGIn true kvs ty) := by
  intro pins s σ H Q I h
  refine thn (hi pins s σ H _ I h) fun iv s1 ⟨y, H1, I1, ry, k, ey, q⟩ => ld_glob I1 hg hm ?_ hd
  subst ey
  obtain ⟨vs, rel, dd⟩ := D.at I1
  refine wpAny_notIn_of (kV_is ry) D.sm dd.mapOf ?_
  rw [← (rel.val k).isSome_eq]
  exact ⟨.bl (!(valV kvs k).isSome), H1, I1.tok _, rfl, q⟩
end L2
set_option Elab.async false
set_option linter.all false
set_option maxRecDepth 100000
set_option maxHeartbeats 4000000
namespace L2
open PySem PySem.Spec PyProof.Rows
noncomputable abbrev zM2 (h : Heap) (a b : Addr) : Heap := (zT1 h a).push { cls := .type "list_iterator", data := .fields #[.ref b, .int 0 0] }
noncomputable abbrev zM3 (h : Heap) (a b : Addr) : Heap := (zM2 h a b).push { cls := .type "tuple", data := .seq #[.ref h.objs.size, .ref (zT1 h a).objs.size] }
noncomputable abbrev zM4 (h : Heap) (a b : Addr) : Heap := (zM3 h a b).push { cls := .type "tuple", data := .seq #[.none, .none] }
noncomputable abbrev zM5 (h : Heap) (a b : Addr) : Heap := (zM4 h a b).push { cls := .type "zip", data := .fields #[.none, .bool false, .bool false, .ref (zM2 h a b).objs.size, .ref (zM3 h a b).objs.size] }
theorem zipM_new (a b : Addr) (xs ys : Array Value) : Meets (Builtin.«zip.__new__» ⟨[.type "zip", .ref a, .ref b], []⟩) (fun _ R s => s.heap.IsTuple a xs ∧ s.heap.IsList b ys ∧ R (.ok (.ret (.ref (zM4 s.heap a b).objs.size))) { s with heap := zM5 s.heap a b }) :=
  .of_wp fun prog w A R s q => by
    obtain ⟨hp, g, d, tk, os⟩ := s; obtain ⟨ga, gb, q⟩ := q
    have hsub := sub_zip
    have gA : Heap.IsTuple (Shared.heap ⟨hp, g, d, tk, os⟩) a xs := ga
    have gB : Heap.IsList (Shared.heap ⟨hp.push { cls := .type "tuple_iterator", data := .fields #[.ref a, .int 0 0] }, g, d, tk, os⟩) b ys := Heap.IsList.push gb _
    wp_walk using wpAny_pyIter_tuple gA, wpAny_pyIter_list gB
    exact ⟨_, rfl, q⟩
theorem call_zipM {prog : Program} {w : World} {A : Around} {E : Value → Shared → Prop} {s : Shared} {a b : Addr} {xs ys : Array Value} {Q : Value → Shared → Prop} (ga : s.heap.IsTuple a xs) (gb : s.heap.IsList b ys)
    (q : ∀ h', IsZip h' (s.heap.objs.size + 4) (s.heap.objs.size + 2) (s.heap.objs.size + 3) .none → IsPair h' (s.heap.objs.size + 2) (.ref s.heap.objs.size) (.ref (s.heap.objs.size + 1)) → IsPair h' (s.heap.objs.size + 3) .none .none →
      h'.IsTupleIter s.heap.objs.size a 0 → h'.IsListIter (s.heap.objs.size + 1) b 0 → (∀ c o, s.heap.get? c = some o → h'.get? c = some o) → Q (.ref (s.heap.objs.size + 4)) { s with heap := h' }) :
    wpAny (model prog w) A (call (.type "zip") [.ref a, .ref b]) Q E s := by
  refine callType_new F.called_zip (by decide) (F.typeCall_zip_2 _ _) (F.newCall_zip_2 _ _) (fun ob => F.args_object_init_3 ob _ _) F.entry_zip_new (zipM_new a b xs ys) ⟨ga, gb, ?_⟩
  have n1 : (zT1 s.heap a).objs.size = s.heap.objs.size + 1 := Heap.size_push ..
  have n2 : (zM2 s.heap a b).objs.size = s.heap.objs.size + 2 := by rw [Heap.size_push, n1]
  have n3 : (zM3 s.heap a b).objs.size = s.heap.objs.size + 3 := by rw [Heap.size_push, n2]
  have n4 : (zM4 s.heap a b).objs.size = s.heap.objs.size + 4 := by rw [Heap.size_push, n3]
  have k5 : (zM5 s.heap a b).get? (zM4 s.heap a b).objs.size = some _ := Heap.get?_push_size _ rfl
  have k4 : (zM5 s.heap a b).get? (zM3 s.heap a b).objs.size = some _ := Heap.get?_push_of_some _ (Heap.get?_push_size _ rfl)
  have k3 : (zM5 s.heap a b).get? (zM2 s.heap a b).objs.size = some _ := Heap.get?_push_of_some _ (Heap.get?_push_of_some _ (Heap.get?_push_size _ rfl))
  have k2 : (zM5 s.heap a b).get? (zT1 s.heap a).objs.size = some _ := Heap.get?_push_of_some _ (Heap.get?_push_of_some _ (Heap.get?_push_of_some _ (Heap.get?_push_size _ rfl)))
  have k1 : (zM5 s.heap a b).get? s.heap.objs.size = some _ := Heap.get?_push_of_some _ (Heap.get?_push_of_some _ (Heap.get?_push_of_some _ (Heap.get?_push_of_some _ (Heap.get?_push_size _ rfl))))
  show _ ∧ _
  rw [n2, n3, n4] at k5
  rw [n1, n2] at k3
  rw [n3] at k4
  rw [n1] at k2
  rw [n4]
  exact ⟨⟨_, k5, rfl⟩, q _ k5 k3 k4 ⟨_, k1, rfl, rfl⟩ ⟨_, k2, rfl, rfl⟩ fun c o x => Heap.get?_push_of_some _ (Heap.get?_push_of_some _ (Heap.get?_push_of_some _ (Heap.get?_push_of_some _ (Heap.get?_push_of_some _ x))))⟩
section
variable {K : PySem.W.Frag} {σ : St} {H : Hp} {Q : VK}
noncomputable def rZipM (K : PySem.W.Frag) : List V → Hp → (It → Hp → Prop) → Prop := fun vs H R => ∃ a b xs ys, vs = [.ref a, .ref b] ∧ SqT K H a xs ∧ SqL K H b ys ∧ R (Itz (Itt K a) (Itl K b)) H
noncomputable def iZipM (K : PySem.W.Frag) (ta : TA) : TI := fun σ H R => ta σ H fun vs H1 => rZipM K vs H1 R
theorem pi_zipM {X : Cx} {elts : List Expr} {kk : Nat} {ps : Pos} (K : PySem.W.Frag) {a b : Expr} {ta : TA} {p pos : Pos} (hg : Gl X "zip") (hm : X.mg "zip" = none) (ha : PA X [a, b] ta) (hK : X.K = K := by rfl) (hs : starEach [a, b] X.env = [(false, eval a X.env), (false, eval b X.env)] := by rfl) (hs2 : starEach [b] X.env = [(false, eval b X.env)] := by rfl) :
    PI X (.Tuple elts kk ps) (.Call (.Name "zip" p) [a, b] [] pos) (iZipM K ta) := by
  subst hK
  intro pins s σ H R I h
  refine Call_ (ld_blt I hg hm PyProof.Rows.boot_zip (PyProof.Rows.callWith_type1 (thn (ha pos pins s σ H _ I h) fun us s1 ⟨vs, H1, I1, r1, q1⟩ => ?_) (by rw [hs, hs2]) (by rw [hs2]; rfl)))
  obtain ⟨l, m, xs, ys, e, ga, gb, q⟩ := q1
  subst e
  cases r1 with
  | cons r rr =>
    cases rr with
    | cons r' rr =>
      cases rr
      cases r
      cases r'
      obtain ⟨its, _, p1, _⟩ := I1.tuple ga
      obtain ⟨its2, _, p2, _⟩ := I1.list gb
      refine call_zipM (show s1.heap.IsTuple l its.toArray from p1) p2.isList fun h' gz gI gO g1 g2 k => ?_
      refine wpAny_pyIter_zip (s := { s1 with heap := h' }) gz ?_
      have N : Apart (s1.heap.objs.size + 4) (s1.heap.objs.size + 2) (s1.heap.objs.size + 3) s1.heap.objs.size (s1.heap.objs.size + 1) := by
        constructor <;> (intro h; have h' : @Eq Nat _ _ := h; omega)
      refine ⟨s1.heap.objs.size + 4, [s1.heap.objs.size + 4, s1.heap.objs.size + 2, s1.heap.objs.size + 3, s1.heap.objs.size, s1.heap.objs.size + 1], _, _, H1, rfl, I1.kept (t' := s1.toks) k, turn_zip (sub_tup l _) (sub_list m _) N, ⟨gz, gI, ⟨_, _, gO⟩, g1, g2⟩, fun b hb => ?_, q⟩
      have le : @LE.le Nat _ s1.heap.objs.size b := by
        simp only [List.mem_cons, List.not_mem_nil, or_false] at hb
        rcases hb with rfl | rfl | rfl | rfl | rfl
        · exact Nat.le_add_right _ _
        · exact Nat.le_add_right _ _
        · exact Nat.le_add_right _ _
        · exact Nat.le_refl _
        · exact Nat.le_add_right _ _
      exact I1.fpOk le (I1.hok.fresh le)
theorem rd_zipM {a : TA} {R : It → Hp → Prop} (h : a σ H fun vs H1 => rZipM K vs H1 R) : iZipM K a σ H R := h
theorem comp_zipM {a b : Addr} {xs ys : List V} {n : Nat} {js : List Nat} {g : TG} {tc : TT} {te : TE} (Pv : Nat → List V → Hp → Prop) (hz : xs.length ≤ sizeLine) (h0 : Pv 0 [] H) (hl : ∀ i zs H, Pv i zs H → SqT K H a xs ∧ SqL K H b ys ∧ zs.length ≤ i)
    (hs : ∀ i u v zs H p H', xs[i]? = some u → ys[i]? = some v → Pv i zs H → Ext H H' → H' p = some (.tup [u, v]) → H p = none → g (.ref p) (capt n js σ) H' fun σ2 H3 => tc σ2 H3 fun b H4 => if b = true then te σ2 H4 fun v H5 => Pv (i + 1) (zs ++ [v]) H5 else Pv (i + 1) zs H4)
    (hd : ∀ zs H p, Pv (min xs.length ys.length) zs H → H p = none → Q (.ref p) (upd H p (.lst zs))) : CompBody (Itz (Itt K a) (Itl K b)) n js g tc te σ H Q := by
  refine ⟨fun i m zs H => m = min xs.length ys.length - i ∧ i ≤ min xs.length ys.length ∧ Pv i zs H, ⟨min xs.length ys.length, by simp, Nat.zero_le _, h0⟩, ?_⟩
  rintro i m zs H ⟨rfl, hi, p⟩
  obtain ⟨qa, qb, ql⟩ := hl i zs H p
  by_cases hlt : i < min xs.length ys.length
  · have hx : i < xs.length := by omega
    have hy : i < ys.length := by omega
    refine .inr ⟨⟨⟨xs, xs[i], qa, by simp [hx]⟩, ⟨ys, ys[i], qb, by simp [hy]⟩⟩, by omega, Pv (i + 1), fun zs' H' p' => ⟨min xs.length ys.length - (i + 1), by omega, rfl, hlt, p'⟩, fun x H' y => ?_⟩
    obtain ⟨pp, u, v, rfl, hn, rfl, yu, yv⟩ := y
    exact hs i u v zs H pp _ (yu.2 xs qa) (yv.2 ys qb) p (ext_upd hn) upd_same hn
  · have e : i = min xs.length ys.length := by omega
    refine .inl ⟨?_, fun p' hp => hd zs H p' (e ▸ p) hp⟩
    by_cases h : xs.length ≤ i
    · exact .inl ⟨xs, qa, h⟩
    · exact .inr ⟨⟨xs, xs[i]'(by omega), qa, List.getElem?_eq_getElem (by omega)⟩, ⟨ys, qb, by omega⟩⟩
end
end L2
set_option Elab.async false
set_option linter.all false
set_option maxRecDepth 100000
set_option maxHeartbeats 4000000
namespace L2
open PySem PySem.Spec PyProof.Rows
section
variable {X : Cx}
noncomputable def rInT (neg : Bool) : R2 := fun x y H Q => ∃ n p xs d ds, RepD H n x d ∧ y = .ref p ∧ H p = some (.tup xs) ∧ Paired (RepD H n) xs ds ∧ n ≤ 50 ∧ Q (.bl (if neg then !(ds.any fun e => PyData.eqv e d) else ds.any fun e => PyData.eqv e d)) H
theorem op_inT {k : Nat} (hr : Room k X.A) : OpR X (compareOp .In) (rInT false) := by
  intro pins s σ H x y v u Q I rx ry h
  obtain ⟨n, p, xs, d, ds, h1, rfl, h2, h3, hn, q⟩ := h
  have h4 : RepD H (n + 1) (.ref p) (.tuple ds) := .inr ⟨p, xs, ds, rfl, .inl ⟨h2, rfl⟩, h3⟩
  obtain ⟨as, ra⟩ := RepD.reads I n h1 rx
  obtain ⟨bs, rb⟩ := RepD.reads I (n + 1) h4 ry
  have l1 := RepD.lay n h1
  have l2 := lay_all (fun {x d} => RepD.lay (H := H) n) h3
  have hu := hr.units
  have hm : min (PyData.depthAll ds) d.depth ≤ 50 := Nat.le_trans (Nat.min_le_right _ _) (Nat.le_trans l1.2 hn)
  exact SeqAt.in_tuple_reads rb ra l2.1 l1.1 (by omega) ⟨.bl _, H, I, rfl, q⟩
theorem op_notInT {k : Nat} (hr : Room k X.A) : OpR X (compareOp .NotIn) (rInT true) := by
  intro pins s σ H x y v u Q I rx ry h
  obtain ⟨n, p, xs, d, ds, h1, rfl, h2, h3, hn, q⟩ := h
  have h4 : RepD H (n + 1) (.ref p) (.tuple ds) := .inr ⟨p, xs, ds, rfl, .inl ⟨h2, rfl⟩, h3⟩
  obtain ⟨as, ra⟩ := RepD.reads I n h1 rx
  obtain ⟨bs, rb⟩ := RepD.reads I (n + 1) h4 ry
  have l1 := RepD.lay n h1
  have l2 := lay_all (fun {x d} => RepD.lay (H := H) n) h3
  have hu := hr.units
  have hm : min (PyData.depthAll ds) d.depth ≤ 50 := Nat.le_trans (Nat.min_le_right _ _) (Nat.le_trans l1.2 hn)
  exact SeqAt.notIn_tuple_reads rb ra l2.1 l1.1 (by omega) ⟨.bl _, H, I, rfl, q⟩
theorem rd_inT {neg : Bool} {n : Nat} {x : V} {p : Addr} {xs : List V} {d : PyData} {ds : List PyData} {H : Hp} {Q : VK} (h1 : RepD H n x d) (h2 : H p = some (.tup xs)) (h3 : Paired (RepD H n) xs ds) (hn : n ≤ 50) (q : Q (.bl (if neg then !(ds.any fun e => PyData.eqv e d) else ds.any fun e => PyData.eqv e d)) H) : rInT neg x (.ref p) H Q :=
  ⟨n, p, xs, d, ds, h1, rfl, h2, h3, hn, q⟩
end
end L2
set_option Elab.async false
set_option linter.all false
set_option maxRecDepth 100000
set_option maxHeartbeats 4000000
namespace Tx
open PySem
noncomputable abbrev numS (n : Int) : Str := Str.ofString (toString n)
theorem cut_inj {c : Nat} : ∀ {p q X Y : List Nat}, c ∉ p → c ∉ q → p ++ c :: X = q ++ c :: Y → p = q ∧ X = Y
  | [], [], _, _, _, _, h => ⟨rfl, (List.cons.inj h).2⟩
  | [], b :: q, _, _, _, hq, h => absurd (show c ∈ b :: q by rw [(List.cons.inj h).1]; exact List.mem_cons_self) hq
  | a :: p, [], _, _, hp, _, h => absurd (show c ∈ a :: p by rw [← (List.cons.inj h).1]; exact List.mem_cons_self) hp
  | a :: p, b :: q, _, _, hp, hq, h => by
    obtain ⟨e, h⟩ := List.cons.inj h
    obtain ⟨e1, e2⟩ := cut_inj (fun z => hp (List.mem_cons_of_mem _ z)) (fun z => hq (List.mem_cons_of_mem _ z)) h
    exact ⟨by rw [e, e1], e2⟩
theorem join2 (c : Nat) (p q : Str) (r : List Str) : (Str.join ⟨#[c]⟩ (p :: q :: r)).cps.toList = p.cps.toList ++ c :: (Str.join ⟨#[c]⟩ (q :: r)).cps.toList := by
  show ((p ++ (⟨#[c]⟩ : Str)) ++ Str.join ⟨#[c]⟩ (q :: r)).cps.toList = _
  rw [Str.cps_append, Str.cps_append]
  simp
theorem str_eq {p q : Str} (h : p.cps.toList = q.cps.toList) : p = q := Str.ext' (Array.toList_inj.mp h)
theorem join_inj {c : Nat} : ∀ {ps qs : List Str}, ps ≠ [] → qs ≠ [] → (∀ p ∈ ps, c ∉ p.cps.toList) → (∀ q ∈ qs, c ∉ q.cps.toList) → Str.join ⟨#[c]⟩ ps = Str.join ⟨#[c]⟩ qs → ps = qs
  | [], _, h, _, _, _, _ => absurd rfl h
  | _ :: _, [], _, h, _, _, _ => absurd rfl h
  | [p], [q], _, _, _, _, h => by rw [show p = q from h]
  | [p], q :: q2 :: qs, _, _, hp, _, h => by
    have e : p.cps.toList = _ := (congrArg (fun z : Str => z.cps.toList) h).trans (join2 c q q2 qs)
    exact absurd (by rw [e]; simp) (hp p List.mem_cons_self)
  | p :: p2 :: ps, [q], _, _, _, hq, h => by
    have e : q.cps.toList = _ := (congrArg (fun z : Str => z.cps.toList) h.symm).trans (join2 c p p2 ps)
    exact absurd (by rw [e]; simp) (hq q List.mem_cons_self)
  | p :: p2 :: ps, q :: q2 :: qs, _, _, hp, hq, h => by
    have e := (join2 c p p2 ps).symm.trans ((congrArg (fun z : Str => z.cps.toList) h).trans (join2 c q q2 qs))
    obtain ⟨e1, e2⟩ := cut_inj (hp p List.mem_cons_self) (hq q List.mem_cons_self) e
    rw [str_eq e1, join_inj (List.cons_ne_nil _ _) (List.cons_ne_nil _ _) (fun z hz => hp z (List.mem_cons_of_mem _ hz)) (fun z hz => hq z (List.mem_cons_of_mem _ hz)) (str_eq e2)]
theorem split_join {c : Nat} {ps : List Str} (hn : ps ≠ []) (hf : ∀ p ∈ ps, c ∉ p.cps.toList) : Txt.split (Str.join ⟨#[c]⟩ ps) ⟨#[c]⟩ = ps :=
  join_inj (fun h => by have := PyProof.Rows.split_pos (Str.join ⟨#[c]⟩ ps) ⟨#[c]⟩; rw [h] at this; cases this) hn (StrLaws.split_free _ c) hf (StrLaws.join_split _ _)
theorem tjoin (c : Nat) (ps : List Str) : Txt.join ⟨#[c]⟩ ps = Str.join ⟨#[c]⟩ ps := StrLaws.glued_eq_join _ _
theorem num_digit {n : Int} (h : 0 ≤ n) {c : Nat} (hc : c ∈ (numS n).cps.toList) : 48 ≤ c ∧ c ≤ 57 := by
  obtain ⟨m, rfl⟩ := Int.eq_ofNat_of_zero_le h
  rw [W.KIN.signs_num] at hc
  obtain ⟨ch, hch, rfl⟩ := List.mem_map.mp hc
  exact PyProof.Rows.digit_range (Nat.isDigit_of_mem_toDigits (by decide) (by decide) hch)
theorem num_len {n : Int} (h : 0 ≤ n) : 1 ≤ (numS n).length := by
  obtain ⟨m, rfl⟩ := Int.eq_ofNat_of_zero_le h
  have : (numS (m : Nat)).cps.toList.length = (numS (m : Nat)).length := Array.length_toList
  rw [← this, W.KIN.signs_num, List.length_map]
  exact PyProof.Rows.tDigits_len_ge 10 m
theorem num_len6 {n : Int} (h : 0 ≤ n) (h6 : n < 1000000) : (numS n).length ≤ 6 := by
  obtain ⟨m, rfl⟩ := Int.eq_ofNat_of_zero_le h
  have : (numS (m : Nat)).cps.toList.length = (numS (m : Nat)).length := Array.length_toList
  rw [← this, W.KIN.signs_num, List.length_map]
  exact PyProof.Rows.digits10_le (by decide) (show m < 10 ^ 6 by omega)
theorem lead0 (m : Nat) : 1 ≤ m → ∀ r, Nat.toDigits 10 m ≠ '0' :: r := by
  induction m using Nat.strongRecOn with
  | _ m ih =>
    intro h1 r e
    by_cases h : m < 10
    · rw [Nat.toDigits_of_lt_base h] at e
      have e1 := (List.cons.inj e).1
      have : ∀ d : Nat, d < 10 → 1 ≤ d → Nat.digitChar d ≠ '0' := by decide
      exact this m h h1 e1
    · have hm : m % 10 < 10 := Nat.mod_lt m (by decide)
      have t : Nat.toDigits 10 (m / 10) ++ Nat.toDigits 10 (m % 10) = Nat.toDigits 10 (10 * (m / 10) + m % 10) := Nat.toDigits_append_toDigits (by decide) (by omega) hm
      rw [Nat.div_add_mod] at t
      rw [← t] at e
      cases k : Nat.toDigits 10 (m / 10) with
      | nil => have := PyProof.Rows.tDigits_len_ge 10 (m / 10); rw [k] at this; cases this
      | cons a l =>
        rw [k] at e
        have ea : a = '0' := (List.cons.inj e).1
        exact ih (m / 10) (by omega) (by omega) l (by rw [k, ea])
theorem num_zero {n : Int} (h : 0 ≤ n) : numS n = ⟨#[48]⟩ ∨ ∀ r, (numS n).cps.toList ≠ 48 :: r := by
  obtain ⟨m, rfl⟩ := Int.eq_ofNat_of_zero_le h
  by_cases hm : m = 0
  · subst hm; exact .inl (by decide)
  · refine .inr fun r e => ?_
    rw [W.KIN.signs_num] at e
    cases k : Nat.toDigits 10 m with
    | nil => rw [k] at e; cases e
    | cons a l =>
      rw [k] at e
      have ea : a.toNat = 48 := (List.cons.inj e).1
      have : a = '0' := Char.toNat_inj.mp ea
      exact lead0 m (by omega) l (by rw [k, this])
theorem num_read {n : Int} (h : 0 ≤ n) (h6 : n < 1000000) : intText? (numS n) = some n := W.KIN.num_reads h (by omega)
theorem num_free {n : Int} (h : 0 ≤ n) {c : Nat} (hc : c < 48 ∨ 57 < c) : c ∉ (numS n).cps.toList := fun z => by have := num_digit h z; omega
end Tx
set_option linter.all false
namespace St
section
variable {b s : Int} {o a : List Int}
end
end St
set_option linter.all false
namespace St
end St
set_option linter.all false
namespace St
end St
set_option linter.all false
namespace St
end St
set_option linter.all false
namespace St
end St
set_option Elab.async false
set_option linter.all false
namespace Bfs
section
variable (nx : Pl → Nat → Option Pl) (s : Pl)
variable {nx s}
end
end Bfs
set_option Elab.async false
set_option linter.all false
namespace Bfs
end Bfs
set_option Elab.async false
set_option linter.all false
namespace Bfs
end Bfs
set_option Elab.async false
set_option linter.all false
set_option maxRecDepth 100000
namespace My
open PySem L2 St
set_option maxHeartbeats 4000000
noncomputable def stq (i : Nat) : Stmt := PySem.Challenge.pw_stairrooms_k65_a_hundred_ways.main.body.getD i (.Pass ⟨0, 0, 0, 0⟩)
local macro_rules | `(tactic| walk_at "cond") => `(tactic| first | decide | omega | (dsimp only; omega) | (unfold CMul; omega) | (unfold CPow; exact ⟨by decide, by decide, by decide⟩) | (dsimp only; exact ⟨by omega, by omega⟩) | exact .inr ⟨by decide, by decide⟩ | exact .inl ⟨by decide, by decide⟩ | (unfold SmallR; omega))
local macro_rules | `(tactic| walk_at "rd") => do
  let ts ← ("seq ret retN asg drop ifS next name var c op un CB cons nil ints test B exb not and or andV orV notV ifE yes I0 I U EqI NeI EqB NeB call BM tup lst sl noPart part exi chain comp iL iT i1 i2 i3 for tTru intB max2 min2 sub gcons gnil aug ipI zip rev par par2 lam calV raise fs try bseq bnext bplain bif bcall enum gget gin revL leS disp dget lrev disp1 din dnin dput min3 iS iD bm0 revS iD2 iLT thaw iD3 iDL dgt2 fs3 fs5 zipM fld sfld meth make calS basgM gget gin".splitOn " ").toArray.mapM fun n =>
    let i := Lean.mkIdent (.mkSimple ("rd_" ++ n))
    if n == "var" || n == "aug" then `(tacticSeq| ((with_reducible apply $i); (exact rfl)))
    else if n == "I" then `(tacticSeq| ((with_reducible apply $i); (walk_at "cond")))
    else `(tacticSeq| with_reducible refine $i ?_)
  `(tactic| repeat (first $[| $ts]* | dsimp only))
noncomputable def WaysAt (H : Hp) (p : Addr) (kk : List (List Key)) : Prop := ∃ bs : List Addr, H p = some (.tup (bs.map V.ref)) ∧ bs.length = kk.length ∧ ∀ (j : Nat) (b : Addr) (k : List Key), bs[j]? = some b → kk[j]? = some k → H b = some (.tup (k.map kV))
theorem WaysAt.ext {H H' : Hp} {p : Addr} {kk : List (List Key)} (e : Ext H H') (h : WaysAt H p kk) : WaysAt H' p kk := by
  obtain ⟨bs, h1, h2, h3⟩ := h
  exact ⟨bs, e _ _ h1, h2, fun j b k e1 e2 => e _ _ (h3 j b k e1 e2)⟩
structure Blt (mg : Str → Option Value) : Prop where
  len_ : mg "len" = none
  isinstance_ : mg "isinstance" = none
  tuple_ : mg "tuple" = none
  list_ : mg "list" = none
  int_ : mg "int" = none
  bool_ : mg "bool" = none
  range_ : mg "range" = none
  zip_ : mg "zip" = none
  max_ : mg "max" = none
  min_ : mg "min" = none
  abs_ : mg "abs" = none
  all_ : mg "all" = none
  ValueError_ : mg "ValueError" = none
  enumerate_ : mg "enumerate" = none
  set_ : mg "set" = none
  str_ : mg "str" = none
  reversed_ : mg "reversed" = none
  any_ : mg "any" = none
  sorted_ : mg "sorted" = none
noncomputable abbrev allC : List Str := ["Desk", "Endless", "NoDeed", "NoHouse", "NoLine", "NoPlace", "NoStair", "NoText", "NoWalk", "NoWay", "NotBare", "StairError", "TooGreat"]
noncomputable abbrev raisedC : List Str := ["NoPlace", "NoWay", "TooGreat", "NoDeed", "NoLine"]
noncomputable def isInt : V → Bool
  | .int _ => true
  | _ => false
theorem kind_whole {H : Hp} {v : V} {n : String} (h : kindV H v n) : ∃ b c, isiB n "int" = some b ∧ isiB n "bool" = some c ∧ (b && !c) = isInt v := by
  cases v with
  | non => cases (show n = "NoneType" from h); exact ⟨_, _, rfl, rfl, rfl⟩
  | bl b => cases (show n = "bool" from h); exact ⟨_, _, rfl, rfl, rfl⟩
  | int i => cases (show n = "int" from h); exact ⟨_, _, rfl, rfl, rfl⟩
  | str z => cases (show n = "str" from h); exact ⟨_, _, rfl, rfl, rfl⟩
  | ref a => rcases h with ⟨rfl, xs, e⟩ | ⟨rfl, xs, e⟩ <;> exact ⟨_, _, rfl, rfl, rfl⟩
  | _ => exact False.elim h
noncomputable def sp_is_whole (K : PySem.W.Frag) : Sp := fun vs H Q _ => ∃ v n, vs = [v] ∧ kindV H v n ∧ Q (.bl (isInt v)) H
noncomputable abbrev s_is_whole : Stmt := stq 16
theorem sc_is_whole : FnScope ["thing"] ["thing"] (defScope s_is_whole) := ⟨rfl, rfl, rfl, by decide +kernel, rfl, by decide +kernel, by decide +kernel⟩
theorem ok_is_whole {P : Program} {w : World} {K : PySem.W.Frag} {mg : Str → Option Value} {base : Heap} (D : Dfn K mg "is_whole" s_is_whole ["thing"]) (T : Blt mg) : Cal P w K mg base "is_whole" 1 ["thing"] (sp_is_whole K) := by
  have nd := (sc_is_whole).nd
  refine D.ok sc_is_whole (fun vs H Q E h => ?_) (fun X hX H vs Q E h => ?_)
  · obtain ⟨v, n, rfl, _⟩ := h; rfl
  · obtain ⟨f, cdv, A, outer, s, H0, E0, rfl, hr⟩ := hX
    obtain ⟨v, n, rfl, hk, q⟩ := h
    obtain ⟨b, c, hb, hc, e⟩ := kind_whole hk
    refine ⟨_, (no_implicit_lambda% (pss_one (no_implicit_lambda% (ps_ret (no_implicit_lambda% (pe_and (no_implicit_lambda% (pe_callB call_isi rfl T.isinstance_ PyProof.Rows.boot_isinstance (no_implicit_lambda% (pa_cons (no_implicit_lambda% (pv 0)) (no_implicit_lambda% (pa_cons (no_implicit_lambda% (pe_bltn (v := .ty "int") rfl T.int_ PyProof.Rows.boot_int rfl)) pa_nil)))))) (pe_one (no_implicit_lambda% (pe_not (no_implicit_lambda% (pe_callB call_isi rfl T.isinstance_ PyProof.Rows.boot_isinstance (no_implicit_lambda% (pa_cons (no_implicit_lambda% (pv 0)) (no_implicit_lambda% (pa_cons (no_implicit_lambda% (pe_bltn (v := .ty "bool") rfl T.bool_ PyProof.Rows.boot_bool rfl)) pa_nil))))))))))))))), ?_⟩
    walk_at "rd"
    refine rd_isi hk hb ?_
    walk_at "rd"
    cases b with
    | false => refine iteF ?_; rw [← e] at q; exact q
    | true =>
      refine iteT ?_
      walk_at "rd"
      refine rd_isi hk hc ?_
      walk_at "rd"
      rw [← e] at q; exact q
structure Way where
  room : Int
  deed : Str
  other : Int
  sign : Str
  deriving DecidableEq
noncomputable abbrev Way.key (w : Way) : List Key := [.inl w.room, .inr w.deed, .inl w.other, .inr w.sign]
noncomputable abbrev Way.vs (w : Way) : List V := [.int w.room, .str w.deed, .int w.other, .str w.sign]
theorem Way.key_inj {w u : Way} (h : w.key = u.key) : w = u := by
  cases w; cases u
  simp only [Way.key, List.cons.injEq, Sum.inl.injEq, Sum.inr.injEq] at h
  obtain ⟨rfl, rfl, rfl, rfl, _⟩ := h
  rfl
noncomputable def okSign (z : Str) : Prop := ∃ c : Nat, 97 ≤ c ∧ c ≤ 122 ∧ z = ⟨#[c]⟩
noncomputable def okDeed (z : Str) : Prop := z = "up" ∨ z = "down" ∨ z = "stay" ∨ z = "zero"
structure Way.Ok (m : Int) (w : Way) : Prop where
  r0 : 0 ≤ w.room
  r1 : w.room < m
  o0 : 0 ≤ w.other
  o1 : w.other < m
  dd : okDeed w.deed
  sg : okSign w.sign
structure HOuse (m : Int) (ws : List Way) : Prop where
  m1 : 1 ≤ m
  m12 : m ≤ 12
  few : ws.length ≤ 100
  ok : ∀ w ∈ ws, w.Ok m
  nd : ws.Nodup
theorem HOuse.keys {m : Int} {ws : List Way} (h : HOuse m ws) : (ws.map Way.key).Nodup := by
  have := h.nd
  unfold List.Nodup at this ⊢
  rw [List.pairwise_map]
  exact this.imp fun ne e => ne (Way.key_inj e)
noncomputable def HouseAt (H : Hp) (v : V) (m : Int) (ws : List Way) : Prop := ∃ p q, v = .ref p ∧ H p = some (.tup [.int m, .ref q]) ∧ WaysAt H q (ws.map Way.key)
theorem HouseAt.ext {H H' : Hp} {v : V} {m : Int} {ws : List Way} (e : Ext H H') (h : HouseAt H v m ws) : HouseAt H' v m ws := by
  obtain ⟨p, q, rfl, h1, h2⟩ := h
  exact ⟨p, q, rfl, e _ _ h1, h2.ext e⟩
theorem small9 {n : Nat} (h : n ≤ 1000) : n ≤ sizeLine := Nat.le_trans h (by decide)
noncomputable def sp_is_room (K : PySem.W.Frag) : Sp := fun vs H Q _ => ∃ i m, vs = [.int i, .int m] ∧ Q (.bl (decide (0 ≤ i) && decide (i < m))) H
noncomputable abbrev s_is_room : Stmt := stq 32
theorem sc_is_room : FnScope ["thing", "many"] ["thing", "many"] (defScope s_is_room) := ⟨rfl, rfl, rfl, by decide +kernel, rfl, by decide +kernel, by decide +kernel⟩
theorem ok_is_room {P : Program} {w : World} {K : PySem.W.Frag} {mg : Str → Option Value} {base : Heap} (D : Dfn K mg "is_room" s_is_room ["thing", "many"]) (T : Blt mg) (C_is_whole : Cal P w K mg base "is_whole" 1 ["thing"] (sp_is_whole K)) : Cal P w K mg base "is_room" 2 ["thing", "many"] (sp_is_room K) := by
  have nd := (sc_is_room).nd
  refine D.ok sc_is_room (fun vs H Q E h => ?_) (fun X hX H vs Q E h => ?_)
  · obtain ⟨i, m, rfl, _⟩ := h; rfl
  · obtain ⟨f, cdv, A, outer, s, H0, E0, rfl, hr⟩ := hX
    obtain ⟨i, m, rfl, q⟩ := h
    refine ⟨_, (no_implicit_lambda% (pss_one (no_implicit_lambda% (ps_ret (no_implicit_lambda% (pe_and (no_implicit_lambda% (pe_cal C_is_whole hr (no_implicit_lambda% (pa_cons (no_implicit_lambda% (pv 0)) pa_nil)))) (pe_one (no_implicit_lambda% (pe_chain op_le op_lt pe_int (no_implicit_lambda% (pv 0)) (no_implicit_lambda% (pv 1))))))))))), ?_⟩
    walk_at "rd"
    refine ⟨_, "int", rfl, rfl, ?_⟩
    refine rd_exb ?_
    refine iteT ?_
    walk_at "rd"
    cases h0 : decide (0 ≤ i) with
    | false =>
      rw [h0] at q
      refine iteF ?_
      exact q
    | true =>
      rw [h0] at q
      refine iteT ?_
      walk_at "rd"
      exact q
theorem room_yes {i m : Int} (h0 : 0 ≤ i) (h1 : i < m) : (decide (0 ≤ i) && decide (i < m)) = true := by rw [decide_eq_true h0, decide_eq_true h1]; rfl
noncomputable def gd_TURNED : List (Key × V) := [(.inr "up", .str "down"), (.inr "down", .str "up"), (.inr "stay", .str "stay"), (.inr "zero", .str "zero")]
theorem gdk_TURNED {w : World} {K : PySem.W.Frag} {a : Addr} {t1 t2 t3 t4 t5 t6 t7 t8 : Tok} {ep : Nat} (h : K.lookup a = some (gdO w [("up", t1, .str "down" t2), ("down", t3, .str "up" t4), ("stay", t5, .str "stay" t6), ("zero", t7, .str "zero" t8)] ep)) (hs : (a == sysModules) = false) : GDict w K a gd_TURNED :=
  ⟨⟨_, _, h, .cons ⟨rfl, ⟨_, rfl⟩⟩ (.cons ⟨rfl, ⟨_, rfl⟩⟩ (.cons ⟨rfl, ⟨_, rfl⟩⟩ (.cons ⟨rfl, ⟨_, rfl⟩⟩ .nil)))⟩, by decide +kernel, hs⟩
noncomputable def turnD (z : Str) : Str := if z = "up" then "down" else if z = "down" then "up" else z
theorem gd_has {z : Str} (h : okDeed z) : valV gd_TURNED (.inr z) = some (.str (turnD z)) := by
  rcases h with rfl | rfl | rfl | rfl <;> decide +kernel
noncomputable def sp_is_deed (K : PySem.W.Frag) : Sp := fun vs H Q _ => ∃ z, vs = [.str z] ∧ okDeed z ∧ Q (.bl true) H
noncomputable abbrev s_is_deed : Stmt := stq 33
theorem sc_is_deed : FnScope ["thing"] ["thing"] (defScope s_is_deed) := ⟨rfl, rfl, rfl, by decide +kernel, rfl, by decide +kernel, by decide +kernel⟩
theorem ok_is_deed {P : Program} {w : World} {K : PySem.W.Frag} {mg : Str → Option Value} {base : Heap} (D : Dfn K mg "is_deed" s_is_deed ["thing"]) (T : Blt mg) (g_TURNED : ∃ a, mg "TURNED" = some (.ref a) ∧ GDict w K a gd_TURNED) : Cal P w K mg base "is_deed" 1 ["thing"] (sp_is_deed K) := by
  have nd := (sc_is_deed).nd
  refine D.ok sc_is_deed (fun vs H Q E h => ?_) (fun X hX H vs Q E h => ?_)
  · obtain ⟨z, rfl, _⟩ := h; rfl
  · obtain ⟨f, cdv, A, outer, s, H0, E0, rfl, hr⟩ := hX
    obtain ⟨a_TURNED, m_TURNED, d_TURNED⟩ := g_TURNED
    obtain ⟨z, rfl, hz, q⟩ := h
    refine ⟨_, (no_implicit_lambda% (pss_one (no_implicit_lambda% (ps_ret (no_implicit_lambda% (pe_and (no_implicit_lambda% (pe_callB call_isi rfl T.isinstance_ PyProof.Rows.boot_isinstance (no_implicit_lambda% (pa_cons (no_implicit_lambda% (pv 0)) (no_implicit_lambda% (pa_cons (no_implicit_lambda% (pe_bltn (v := .ty "str") rfl T.str_ PyProof.Rows.boot_str rfl)) pa_nil)))))) (pe_one (no_implicit_lambda% (pe_cmp (pc_gin rfl m_TURNED d_TURNED (no_implicit_lambda% (pv 0))) (by with_unfolding_all rfl)))))))))), ?_⟩
    walk_at "rd"
    refine rd_isi (n := "str") rfl (b := true) rfl ?_
    walk_at "rd"
    refine iteT ?_
    walk_at "rd"
    refine ⟨.inr z, rfl, ?_⟩
    rw [gd_has hz]
    exact q
theorem sign_lo {c : Nat} (h : 97 ≤ c) : (!decide (([c] : List Nat) < (Str.ofString "a").cps.toList)) = true := by
  have e : (Str.ofString "a").cps.toList = [97] := by decide +kernel
  rw [e, decide_eq_false (fun z => by
    rw [List.cons_lt_cons_iff] at z
    rcases z with z|⟨_, z⟩
    ·omega
    ·cases z)]
  rfl
theorem sign_hi {c : Nat} (h : c ≤ 122) : (!decide ((Str.ofString "z").cps.toList < ([c] : List Nat))) = true := by
  have e : (Str.ofString "z").cps.toList = [122] := by decide +kernel
  rw [e, decide_eq_false (fun z => by
    rw [List.cons_lt_cons_iff] at z
    rcases z with z|⟨_, z⟩
    ·omega
    ·cases z)]
  rfl
noncomputable def sp_is_sign (K : PySem.W.Frag) : Sp := fun vs H Q _ => ∃ z, vs = [.str z] ∧ okSign z ∧ Q (.bl true) H
noncomputable abbrev s_is_sign : Stmt := stq 34
theorem sc_is_sign : FnScope ["thing"] ["thing"] (defScope s_is_sign) := ⟨rfl, rfl, rfl, by decide +kernel, rfl, by decide +kernel, by decide +kernel⟩
theorem ok_is_sign {P : Program} {w : World} {K : PySem.W.Frag} {mg : Str → Option Value} {base : Heap} (D : Dfn K mg "is_sign" s_is_sign ["thing"]) (T : Blt mg) : Cal P w K mg base "is_sign" 1 ["thing"] (sp_is_sign K) := by
  have nd := (sc_is_sign).nd
  refine D.ok sc_is_sign (fun vs H Q E h => ?_) (fun X hX H vs Q E h => ?_)
  · obtain ⟨z, rfl, _⟩ := h; rfl
  · obtain ⟨f, cdv, A, outer, s, H0, E0, rfl, hr⟩ := hX
    obtain ⟨z, rfl, ⟨c, hc1, hc2, rfl⟩, q⟩ := h
    refine ⟨_, (no_implicit_lambda% (pss_one (no_implicit_lambda% (ps_ret (no_implicit_lambda% (pe_and (no_implicit_lambda% (pe_callB call_isi rfl T.isinstance_ PyProof.Rows.boot_isinstance (no_implicit_lambda% (pa_cons (no_implicit_lambda% (pv 0)) (no_implicit_lambda% (pa_cons (no_implicit_lambda% (pe_bltn (v := .ty "str") rfl T.str_ PyProof.Rows.boot_str rfl)) pa_nil)))))) (pe_and (no_implicit_lambda% (pe_cmpR op_eq (no_implicit_lambda% (pe_callB call_len_str rfl T.len_ PySem.boot_len (no_implicit_lambda% (pa_cons (no_implicit_lambda% (pv 0)) pa_nil)))) pe_int (nomark _))) (pe_one (no_implicit_lambda% (pe_chain op_leS op_leS pe_str (no_implicit_lambda% (pv 0)) pe_str)))))))))), ?_⟩
    walk_at "rd"
    refine rd_isi (n := "str") rfl (b := true) rfl ?_
    walk_at "rd"
    refine iteT ?_
    walk_at "rd"
    refine ⟨_, rfl, small9 (show 1 ≤ 1000 by decide), ?_⟩
    walk_at "rd"
    refine iteT ?_
    walk_at "rd"
    rw [sign_lo hc1]
    refine iteT ?_
    walk_at "rd"
    rw [sign_hi hc2]
    exact q
theorem kind_tup {H : Hp} {p : Addr} {xs : List V} (h : H p = some (.tup xs)) : kindV H (.ref p) "tuple" := .inr ⟨rfl, xs, h⟩
noncomputable def sp_is_way (K : PySem.W.Frag) : Sp := fun vs H Q _ => ∃ p w m, vs = [.ref p, .int m] ∧ H p = some (.tup (Way.vs w)) ∧ w.Ok m ∧ Q (.bl true) H
noncomputable abbrev s_is_way : Stmt := stq 35
theorem sc_is_way : FnScope ["thing", "many"] ["thing", "many"] (defScope s_is_way) := ⟨rfl, rfl, rfl, by decide +kernel, rfl, by decide +kernel, by decide +kernel⟩
theorem ok_is_way {P : Program} {w : World} {K : PySem.W.Frag} {mg : Str → Option Value} {base : Heap} (D : Dfn K mg "is_way" s_is_way ["thing", "many"]) (T : Blt mg) (C_is_sign : Cal P w K mg base "is_sign" 1 ["thing"] (sp_is_sign K)) (C_is_deed : Cal P w K mg base "is_deed" 1 ["thing"] (sp_is_deed K)) (C_is_room : Cal P w K mg base "is_room" 2 ["thing", "many"] (sp_is_room K)) : Cal P w K mg base "is_way" 3 ["thing", "many"] (sp_is_way K) := by
  have nd := (sc_is_way).nd
  refine D.ok sc_is_way (fun vs H Q E h => ?_) (fun X hX H vs Q E h => ?_)
  · obtain ⟨p, w, m, rfl, _⟩ := h; rfl
  · obtain ⟨f, cdv, A, outer, s, H0, E0, rfl, hr⟩ := hX
    obtain ⟨p, w, m, rfl, hp, ok, q⟩ := h
    refine ⟨_, (no_implicit_lambda% (pss_cons (no_implicit_lambda% (ps_if (no_implicit_lambda% (PW.pt (pw_or (no_implicit_lambda% (pt_not (no_implicit_lambda% (pt_val (no_implicit_lambda% (pe_callB call_isi rfl T.isinstance_ PyProof.Rows.boot_isinstance (no_implicit_lambda% (pa_cons (no_implicit_lambda% (pv 0)) (no_implicit_lambda% (pa_cons (no_implicit_lambda% (pe_bltn (v := .ty "tuple") rfl T.tuple_ PyProof.Rows.boot_tuple rfl)) pa_nil)))))))))) (pw_or1 (no_implicit_lambda% (pt_cmpR op_ne (no_implicit_lambda% (pe_callB (call_lenK K) rfl T.len_ PySem.boot_len (no_implicit_lambda% (pa_cons (no_implicit_lambda% (pv 0)) pa_nil)))) pe_int (nomark _))))))) (no_implicit_lambda% (pss_one (no_implicit_lambda% (ps_ret pe_bl)))) pss_nil))
        (no_implicit_lambda% (pss_cons (no_implicit_lambda% (ps_if (no_implicit_lambda% (PW.pt (pw_or (no_implicit_lambda% (pt_not (no_implicit_lambda% (pt_val (no_implicit_lambda% (pe_cal C_is_room hr (no_implicit_lambda% (pa_cons (no_implicit_lambda% (pe_ix (ix_tupK K) (no_implicit_lambda% (pv 0)) pe_int (fun _ _ => rfl))) (no_implicit_lambda% (pa_cons (no_implicit_lambda% (pv 1)) pa_nil)))))))))) (pw_or1 (no_implicit_lambda% (pt_not (no_implicit_lambda% (pt_val (no_implicit_lambda% (pe_cal C_is_room hr (no_implicit_lambda% (pa_cons (no_implicit_lambda% (pe_ix (ix_tupK K) (no_implicit_lambda% (pv 0)) pe_int (fun _ _ => rfl))) (no_implicit_lambda% (pa_cons (no_implicit_lambda% (pv 1)) pa_nil)))))))))))))) (no_implicit_lambda% (pss_one (no_implicit_lambda% (ps_ret pe_bl)))) pss_nil))
        (no_implicit_lambda% (pss_one (no_implicit_lambda% (ps_ret (no_implicit_lambda% (pe_and (no_implicit_lambda% (pe_cal C_is_deed hr (no_implicit_lambda% (pa_cons (no_implicit_lambda% (pe_ix (ix_tupK K) (no_implicit_lambda% (pv 0)) pe_int (fun _ _ => rfl))) pa_nil)))) (pe_one (no_implicit_lambda% (pe_cal C_is_sign hr (no_implicit_lambda% (pa_cons (no_implicit_lambda% (pe_ix (ix_tupK K) (no_implicit_lambda% (pv 0)) pe_int (fun _ _ => rfl))) pa_nil))))))))))))))), ?_⟩
    walk_at "rd"
    refine rd_isi (kind_tup hp) (b := true) rfl ?_
    walk_at "rd"
    refine iteF ?_
    walk_at "rd"
    refine rd_lenT (SqT.of hp) ?_
    walk_at "rd"
    refine iteF ?_
    walk_at "rd"
    refine rd_ixT (SqT.of hp) (v := .int w.room) rfl ?_
    walk_at "rd"
    refine ⟨_, _, rfl, ?_⟩
    rw [room_yes ok.r0  ok.r1]
    walk_at "rd"
    refine iteF ?_
    walk_at "rd"
    refine rd_ixT (SqT.of hp) (v := .int w.other) rfl ?_
    walk_at "rd"
    refine ⟨_, _, rfl, ?_⟩
    rw [room_yes ok.o0  ok.o1]
    walk_at "rd"
    refine iteF ?_
    walk_at "rd"
    refine rd_ixT (SqT.of hp) (v := .str w.deed) rfl ?_
    walk_at "rd"
    refine ⟨_, rfl, ok.dd, ?_⟩
    walk_at "rd"
    refine iteT ?_
    walk_at "rd"
    refine rd_ixT (SqT.of hp) (v := .str w.sign) rfl ?_
    walk_at "rd"
    exact ⟨_, rfl, ok.sg, q⟩
theorem WaysAt.item {H : Hp} {ws : List Way} {bs : List Addr} (h : ∀ (j : Nat) (b : Addr) (k : List Key), bs[j]? = some b → (ws.map Way.key)[j]? = some k → H b = some (.tup (k.map kV))) {j : Nat} {b : Addr} {w : Way} (e1 : bs[j]? = some b) (e2 : ws[j]? = some w) : H b = some (.tup w.vs) :=
  h j b w.key e1 (by rw [List.getElem?_map, e2]; rfl)
noncomputable def sp_are_ways (K : PySem.W.Frag) : Sp := fun vs H Q _ => ∃ q ws m, vs = [.ref q, .int m] ∧ WaysAt H q (ws.map Way.key) ∧ HOuse m ws ∧ ∀ H', Ext H H' → Q (.bl true) H'
noncomputable abbrev s_are_ways : Stmt := stq 36
theorem sc_are_ways : FnScope ["thing", "many"] ["thing", "many"] (defScope s_are_ways) := ⟨rfl, rfl, rfl, by decide +kernel, rfl, by decide +kernel, by decide +kernel⟩
theorem ok_are_ways {P : Program} {w : World} {K : PySem.W.Frag} {mg : Str → Option Value} {base : Heap} (D : Dfn K mg "are_ways" s_are_ways ["thing", "many"]) (T : Blt mg) (g_GREATEST_WAYS : ∃ t, mg "GREATEST_WAYS" = some (.int 100 t)) (C_is_way : Cal P w K mg base "is_way" 3 ["thing", "many"] (sp_is_way K)) : Cal P w K mg base "are_ways" 4 ["thing", "many"] (sp_are_ways K) := by
  have nd := (sc_are_ways).nd
  refine D.ok sc_are_ways (fun vs H Q E h => ?_) (fun X hX H vs Q E h => ?_)
  · obtain ⟨p, w, m, rfl, _⟩ := h; rfl
  · obtain ⟨f, cdv, A, outer, s, H0, E0, rfl, hr⟩ := hX
    obtain ⟨t_GREATEST_WAYS, c_GREATEST_WAYS⟩ := g_GREATEST_WAYS
    obtain ⟨q, ws, m, rfl, hw, ok, qq⟩ := h
    obtain ⟨bs, h1, h2, h3⟩ := id hw
    rw [List.length_map] at h2
    have hfew := ok.few
    refine ⟨_, (no_implicit_lambda% (pss_cons (no_implicit_lambda% (ps_if (no_implicit_lambda% (PW.pt (pw_or (no_implicit_lambda% (pt_not (no_implicit_lambda% (pt_val (no_implicit_lambda% (pe_callB call_isi rfl T.isinstance_ PyProof.Rows.boot_isinstance (no_implicit_lambda% (pa_cons (no_implicit_lambda% (pv 0)) (no_implicit_lambda% (pa_cons (no_implicit_lambda% (pe_bltn (v := .ty "tuple") rfl T.tuple_ PyProof.Rows.boot_tuple rfl)) pa_nil)))))))))) (pw_or1 (no_implicit_lambda% (pt_cmpR op_gt (no_implicit_lambda% (pe_callB (call_lenK K) rfl T.len_ PySem.boot_len (no_implicit_lambda% (pa_cons (no_implicit_lambda% (pv 0)) pa_nil)))) (no_implicit_lambda% (pe_glob (v := .int 100) rfl c_GREATEST_WAYS ⟨_, rfl⟩)) (nomark _))))))) (no_implicit_lambda% (pss_one (no_implicit_lambda% (ps_ret pe_bl)))) pss_nil))
        (no_implicit_lambda% (pss_one (no_implicit_lambda% (ps_ret (no_implicit_lambda% (pe_and (no_implicit_lambda% (pe_callB (call_allL K rfl) rfl T.all_ PyProof.Rows.boot_all (no_implicit_lambda% (pa_cons (no_implicit_lambda% (pe_compC ["way"] [1] (no_implicit_lambda% (pi_tupK K (no_implicit_lambda% (pv 0)))) (fun _ => (no_implicit_lambda% (pg_name (i := 0) (show (["way", "many"] : List Str).Nodup from by decide +kernel) rfl (Or.inl rfl) (Or.inr rfl)))) (fun _ => pcs_nil) (fun _ => (no_implicit_lambda% (pe_cal C_is_way hr (no_implicit_lambda% (pa_cons (no_implicit_lambda% (pv 0)) (no_implicit_lambda% (pa_cons (no_implicit_lambda% (pv 1)) pa_nil))))))))) pa_nil)))) (pe_one (no_implicit_lambda% (pe_cmpR op_eq (no_implicit_lambda% (pe_callB Og.call_lenSet rfl T.len_ PySem.boot_len (no_implicit_lambda% (pa_cons (no_implicit_lambda% (pe_callTy (Og.call_setT hr) rfl T.set_ PyProof.Rows.boot_set (no_implicit_lambda% (pa_cons (no_implicit_lambda% (pv 0)) pa_nil)))) pa_nil)))) (no_implicit_lambda% (pe_callB (call_lenK K) rfl T.len_ PySem.boot_len (no_implicit_lambda% (pa_cons (no_implicit_lambda% (pv 0)) pa_nil)))) (nomark _)))))))))))), ?_⟩
    walk_at "rd"
    refine rd_isi (kind_tup h1) (b := true) rfl ?_
    walk_at "rd"
    refine iteF ?_
    walk_at "rd"
    refine rd_lenT (SqT.of h1) ?_
    walk_at "rd"
    rw [decide_eq_false (show ¬ ((100 : Int) < ((bs.map V.ref).length : Nat)) by rw [List.length_map]; omega)]
    refine iteF ?_
    walk_at "rd"
    refine rd_iTx (SqT.of h1) ?_
    refine comp_tup (xs := bs.map V.ref) (fun i ys H' => Ext H H' ∧ ys = (List.replicate i true).map V.bl) (small9 (by rw [List.length_map]; omega)) ⟨fun _ _ z => z, rfl⟩ (fun i ys H' hi h => ⟨SqT.of (h.1 _ _ h1), by rw [h.2]; simp⟩) ?_ ?_
    · rintro i x ys H' hx ⟨e, rfl⟩
      rw [List.getElem?_map] at hx
      obtain ⟨b, hb, rfl⟩ := Option.map_eq_some_iff.mp hx
      have hi : i < ws.length := by
        rw [← h2]
        exact (List.getElem?_eq_some_iff.mp hb).1
      have hwi : ws[i]? = some ws[i] := List.getElem?_eq_getElem hi
      walk_at "rd"
      refine iteT ?_
      walk_at "rd"
      refine ⟨b, ws[i], m, rfl, e _ _ (WaysAt.item h3 hb hwi), ok.ok _ (List.getElem_mem hi), e, ?_⟩
      rw [List.replicate_succ', List.map_append]
      rfl
    · rintro ys H' p ⟨e, rfl⟩ hp
      walk_at "rd"
      have eN : Ext H (upd H' p (.lst ((List.replicate (bs.map V.ref).length true).map V.bl))) := e.trans (ext_upd hp)
      refine ⟨p, List.replicate (bs.map V.ref).length true, rfl, SqL.of upd_same, ?_⟩
      rw [show (List.replicate (bs.map V.ref).length true).all id = true by simp]
      walk_at "rd"
      refine iteT ?_
      walk_at "rd"
      refine Og.rd_setOf (hw.ext eN) ok.keys (by rw [List.length_map]; omega) fun l H2 e2 hl => ?_
      walk_at "rd"
      refine Og.rd_lenSet hl (by rw [List.length_map]; omega) ?_
      walk_at "rd"
      refine rd_lenT (SqT.of ((eN.trans e2) _ _ h1)) ?_
      walk_at "rd"
      rw [show decide (((((ws.map Way.key).length : Nat) : Int)) = ((bs.map V.ref).length : Nat)) = true by rw [List.length_map, List.length_map, h2]; simp]
      exact qq _ (eN.trans e2)
noncomputable def sp_is_house (K : PySem.W.Frag) : Sp := fun vs H Q _ => ∃ v m ws, vs = [v] ∧ HouseAt H v m ws ∧ HOuse m ws ∧ ∀ H', Ext H H' → Q (.bl true) H'
noncomputable abbrev s_is_house : Stmt := stq 37
theorem sc_is_house : FnScope ["thing"] ["thing"] (defScope s_is_house) := ⟨rfl, rfl, rfl, by decide +kernel, rfl, by decide +kernel, by decide +kernel⟩
theorem ok_is_house {P : Program} {w : World} {K : PySem.W.Frag} {mg : Str → Option Value} {base : Heap} (D : Dfn K mg "is_house" s_is_house ["thing"]) (T : Blt mg) (g_GREATEST_MANY : ∃ t, mg "GREATEST_MANY" = some (.int 12 t)) (C_are_ways : Cal P w K mg base "are_ways" 4 ["thing", "many"] (sp_are_ways K)) (C_is_whole : Cal P w K mg base "is_whole" 1 ["thing"] (sp_is_whole K)) : Cal P w K mg base "is_house" 5 ["thing"] (sp_is_house K) := by
  have nd := (sc_is_house).nd
  refine D.ok sc_is_house (fun vs H Q E h => ?_) (fun X hX H vs Q E h => ?_)
  · obtain ⟨p, w, m, rfl, _⟩ := h; rfl
  · obtain ⟨f, cdv, A, outer, s, H0, E0, rfl, hr⟩ := hX
    obtain ⟨t_GREATEST_MANY, c_GREATEST_MANY⟩ := g_GREATEST_MANY
    obtain ⟨v, m, ws, rfl, ⟨p, r, rfl, h1, h2⟩, ok, q⟩ := h
    have m1 := ok.m1
    have m2 := ok.m12
    refine ⟨_, (no_implicit_lambda% (pss_cons (no_implicit_lambda% (ps_if (no_implicit_lambda% (PW.pt (pw_or (no_implicit_lambda% (pt_not (no_implicit_lambda% (pt_val (no_implicit_lambda% (pe_callB call_isi rfl T.isinstance_ PyProof.Rows.boot_isinstance (no_implicit_lambda% (pa_cons (no_implicit_lambda% (pv 0)) (no_implicit_lambda% (pa_cons (no_implicit_lambda% (pe_bltn (v := .ty "tuple") rfl T.tuple_ PyProof.Rows.boot_tuple rfl)) pa_nil)))))))))) (pw_or1 (no_implicit_lambda% (pt_cmpR op_ne (no_implicit_lambda% (pe_callB (call_lenK K) rfl T.len_ PySem.boot_len (no_implicit_lambda% (pa_cons (no_implicit_lambda% (pv 0)) pa_nil)))) pe_int (nomark _))))))) (no_implicit_lambda% (pss_one (no_implicit_lambda% (ps_ret pe_bl)))) pss_nil))
        (no_implicit_lambda% (pss_one (no_implicit_lambda% (ps_ret (no_implicit_lambda% (pe_and (no_implicit_lambda% (pe_cal C_is_whole hr (no_implicit_lambda% (pa_cons (no_implicit_lambda% (pe_ix (ix_tupK K) (no_implicit_lambda% (pv 0)) pe_int (fun _ _ => rfl))) pa_nil)))) (pe_and (no_implicit_lambda% (pe_chain op_le op_le pe_int (no_implicit_lambda% (pe_ix (ix_tupK K) (no_implicit_lambda% (pv 0)) pe_int (fun _ _ => rfl))) (no_implicit_lambda% (pe_glob (v := .int 12) rfl c_GREATEST_MANY ⟨_, rfl⟩)))) (pe_one (no_implicit_lambda% (pe_cal C_are_ways hr (no_implicit_lambda% (pa_cons (no_implicit_lambda% (pe_ix (ix_tupK K) (no_implicit_lambda% (pv 0)) pe_int (fun _ _ => rfl))) (no_implicit_lambda% (pa_cons (no_implicit_lambda% (pe_ix (ix_tupK K) (no_implicit_lambda% (pv 0)) pe_int (fun _ _ => rfl))) pa_nil)))))))))))))))), ?_⟩
    walk_at "rd"
    refine rd_isi (kind_tup h1) (b := true) rfl ?_
    walk_at "rd"
    refine iteF ?_
    walk_at "rd"
    refine rd_lenT (SqT.of h1) ?_
    walk_at "rd"
    refine iteF ?_
    walk_at "rd"
    refine rd_ixT (SqT.of h1) (v := .int m) rfl ?_
    walk_at "rd"
    refine ⟨_, "int", rfl, rfl, ?_⟩
    refine rd_exb (iteT ?_)
    walk_at "rd"
    refine rd_ixT (SqT.of h1) (v := .int m) rfl ?_
    walk_at "rd"
    rw [decide_eq_true m1]
    refine iteT ?_
    walk_at "rd"
    rw [decide_eq_true m2]
    refine iteT ?_
    walk_at "rd"
    refine rd_ixT (SqT.of h1) (v := .ref r) rfl ?_
    walk_at "rd"
    refine rd_ixT (SqT.of h1) (v := .int m) rfl ?_
    walk_at "rd"
    exact ⟨r, ws, m, rfl, h2, ok, q⟩
noncomputable def sp_refuse_no_house (K : PySem.W.Frag) : Sp := fun vs H Q _ => ∃ v m ws, vs = [v] ∧ HouseAt H v m ws ∧ HOuse m ws ∧ ∀ H', Ext H H' → Q .non H'
noncomputable abbrev s_refuse_no_house : Stmt := stq 38
theorem sc_refuse_no_house : FnScope ["thing"] ["thing"] (defScope s_refuse_no_house) := ⟨rfl, rfl, rfl, by decide +kernel, rfl, by decide +kernel, by decide +kernel⟩
theorem ok_refuse_no_house {P : Program} {w : World} {K : PySem.W.Frag} {mg : Str → Option Value} {base : Heap} (D : Dfn K mg "refuse_no_house" s_refuse_no_house ["thing"]) (T : Blt mg) (C_is_house : Cal P w K mg base "is_house" 5 ["thing"] (sp_is_house K)) : Cal P w K mg base "refuse_no_house" 6 ["thing"] (sp_refuse_no_house K) := by
  have nd := (sc_refuse_no_house).nd
  refine D.ok sc_refuse_no_house (fun vs H Q E h => ?_) (fun X hX H vs Q E h => ?_)
  · obtain ⟨p, w, m, rfl, _⟩ := h; rfl
  · obtain ⟨f, cdv, A, outer, s, H0, E0, rfl, hr⟩ := hX
    obtain ⟨v, m, ws, rfl, h1, ok, q⟩ := h
    refine ⟨_, (no_implicit_lambda% (pss_one (no_implicit_lambda% (ps_if (no_implicit_lambda% (pt_not (no_implicit_lambda% (pt_val (no_implicit_lambda% (pe_cal C_is_house hr (no_implicit_lambda% (pa_cons (no_implicit_lambda% (pv 0)) pa_nil)))))))) (no_implicit_lambda% (pss_one ps_never)) pss_nil)))), ?_⟩
    walk_at "rd"
    refine ⟨v, m, ws, rfl, h1, ok, fun H' e => ?_⟩
    refine rd_exb (iteF ?_)
    walk_at "rd"
    exact q H' e
theorem small_line {n : Nat} (h : n ≤ 1000000) : n ≤ sizeLine := Nat.le_trans h (by decide)
noncomputable def sp__law_cell (K : PySem.W.Frag) : Sp := fun vs H Q _ => ∃ (a : Addr) (ns : List Int) (k : Int), vs = [.ref a, .int k] ∧ SqL K H a (ns.map V.int) ∧ ns.length ≤ 63 ∧ 0 ≤ k ∧ ∀ z, Q (.int z) H
theorem atI_ints {ns : List Int} {i : Int} (h0 : 0 ≤ i) (h : i < ns.length) : ∃ z, atI (ns.map V.int) i = some (.int z) ∧ ns[i.toNat]? = some z := by
  have hi : i.toNat < ns.length := by omega
  refine ⟨ns[i.toNat], atI_of h0 ?_, List.getElem?_eq_getElem hi⟩
  rw [List.getElem?_map, List.getElem?_eq_getElem hi]
  rfl
noncomputable abbrev s__law_cell : Stmt := stq 126
theorem sc__law_cell : FnScope ["_law_script", "_law_k"] ["_law_script", "_law_k"] (defScope s__law_cell) := ⟨rfl, rfl, rfl, by decide +kernel, rfl, by decide +kernel, by decide +kernel⟩
theorem ok__law_cell {P : Program} {w : World} {K : PySem.W.Frag} {mg : Str → Option Value} {base : Heap} (D : Dfn K mg "_law_cell" s__law_cell ["_law_script", "_law_k"]) (T : Blt mg) : Cal P w K mg base "_law_cell" 1 ["_law_script", "_law_k"] (sp__law_cell K) := by
  have nd := (sc__law_cell).nd
  refine D.ok sc__law_cell (fun vs H Q E h => ?_) (fun X hX H vs Q E h => ?_)
  · obtain ⟨a, ns, k, rfl, _⟩ := h; rfl
  · obtain ⟨f, cdv, A, outer, s, H0, E0, rfl, hr⟩ := hX
    obtain ⟨a, ns, k, rfl, ha, hl, hk, q⟩ := h
    refine ⟨_, (no_implicit_lambda% (pss_cons (no_implicit_lambda% (ps_if (no_implicit_lambda% (pt_cmpR op_eq (no_implicit_lambda% (pe_callB (call_lenK K) rfl T.len_ PySem.boot_len (no_implicit_lambda% (pa_cons (no_implicit_lambda% (pv 0)) pa_nil)))) pe_int (nomark _))) (no_implicit_lambda% (pss_one (no_implicit_lambda% (ps_ret (no_implicit_lambda% (pe_op op_mul pe_int (no_implicit_lambda% (pe_op op_add (no_implicit_lambda% (pv 1)) pe_int)))))))) pss_nil))
        (no_implicit_lambda% (pss_cons (no_implicit_lambda% (ps_if (no_implicit_lambda% (pt_cmpR op_lt (no_implicit_lambda% (pv 1)) (no_implicit_lambda% (pe_callB (call_lenK K) rfl T.len_ PySem.boot_len (no_implicit_lambda% (pa_cons (no_implicit_lambda% (pv 0)) pa_nil)))) (nomark _))) (no_implicit_lambda% (pss_one (no_implicit_lambda% (ps_ret (no_implicit_lambda% (pe_ix (ix_listK K) (no_implicit_lambda% (pv 0)) (no_implicit_lambda% (pv 1)) (fun _ _ => rfl))))))) pss_nil))
        (no_implicit_lambda% (pss_one (no_implicit_lambda% (ps_ret (no_implicit_lambda% (pe_op op_add (no_implicit_lambda% (pe_ix (ix_listK K) (no_implicit_lambda% (pv 0)) (no_implicit_lambda% (pe_op op_mod (no_implicit_lambda% (pv 1)) (no_implicit_lambda% (pe_callB (call_lenK K) rfl T.len_ PySem.boot_len (no_implicit_lambda% (pa_cons (no_implicit_lambda% (pv 0)) pa_nil)))))) (fun _ _ => rfl))) (no_implicit_lambda% (pe_op op_mul pe_int (no_implicit_lambda% (pv 1)))))))))))))), ?_⟩
    walk_at "rd"
    refine rd_lenL ha ?_
    walk_at "rd"
    rw [List.length_map]
    by_cases h0 : (ns.length : Int) = 0
    · rw [decide_eq_true h0]
      refine iteT ?_
      walk_at "rd"
      exact q _
    · rw [decide_eq_false h0]
      refine iteF ?_
      walk_at "rd"
      refine rd_lenL ha ?_
      walk_at "rd"
      rw [List.length_map]
      by_cases h1 : k < ns.length
      · rw [decide_eq_true h1]
        refine iteT ?_
        obtain ⟨z, hz, _⟩ := atI_ints hk h1
        walk_at "rd"
        refine rd_ixL ha hz ?_
        exact q _
      · rw [decide_eq_false h1]
        refine iteF ?_
        walk_at "rd"
        refine rd_lenL ha ?_
        rw [List.length_map]
        have hp : (0 : Int) < ns.length := by omega
        refine rd_I hp ?_
        obtain ⟨z, hz, _⟩ := atI_ints (ns := ns) (Int.emod_nonneg k (by omega)) (Int.emod_lt_of_pos k hp)
        refine rd_ixL ha hz ?_
        walk_at "rd"
        exact q _
noncomputable def sp__law_mixed (K : PySem.W.Frag) : Sp := fun vs H Q _ => ∃ c k p, vs = [.int c, .int k, .int p] ∧ 0 ≤ k ∧ k < 100000 ∧ 0 < p ∧ ∀ z, 0 ≤ z → z < p → Q (.int z) H
noncomputable abbrev s__law_mixed : Stmt := stq 127
theorem sc__law_mixed : FnScope ["_law_cell_here", "_law_k", "_law_prime", "_law_far"] ["_law_cell_here", "_law_k", "_law_prime"] (defScope s__law_mixed) := ⟨rfl, rfl, rfl, by decide +kernel, rfl, by decide +kernel, by decide +kernel⟩
theorem ok__law_mixed {P : Program} {w : World} {K : PySem.W.Frag} {mg : Str → Option Value} {base : Heap} (D : Dfn K mg "_law_mixed" s__law_mixed ["_law_cell_here", "_law_k", "_law_prime"]) (T : Blt mg) : Cal P w K mg base "_law_mixed" 1 ["_law_cell_here", "_law_k", "_law_prime"] (sp__law_mixed K) := by
  have nd := (sc__law_mixed).nd
  refine D.ok sc__law_mixed (fun vs H Q E h => ?_) (fun X hX H vs Q E h => ?_)
  · obtain ⟨c, k, p, rfl, _⟩ := h; rfl
  · obtain ⟨f, cdv, A, outer, s, H0, E0, rfl, hr⟩ := hX
    obtain ⟨c, k, p, rfl, hk, hk2, hp, q⟩ := h
    refine ⟨_, (no_implicit_lambda% (pss_cons (no_implicit_lambda% (ps_set (i := 3) nd rfl (Or.inl rfl) (no_implicit_lambda% (pe_op op_mod (no_implicit_lambda% (pe_op op_mul (no_implicit_lambda% (pe_op op_add (no_implicit_lambda% (pe_op op_add (no_implicit_lambda% (pe_op op_add (no_implicit_lambda% (pv 0)) (no_implicit_lambda% (pe_op op_mul (no_implicit_lambda% (pe_op op_mul pe_int (no_implicit_lambda% (pv 1)))) (no_implicit_lambda% (pv 1)))))) (no_implicit_lambda% (pe_op op_mul pe_int (no_implicit_lambda% (pv 1)))))) pe_int)) pe_int)) pe_int))))
        (no_implicit_lambda% (pss_cons (no_implicit_lambda% (ps_set (i := 3) nd rfl (Or.inl rfl) (no_implicit_lambda% (pe_op op_mod (no_implicit_lambda% (pe_op op_mul (no_implicit_lambda% (pv 3)) (no_implicit_lambda% (pv 3)))) pe_int))))
        (no_implicit_lambda% (pss_one (no_implicit_lambda% (ps_ret (no_implicit_lambda% (pe_op op_mod (no_implicit_lambda% (pe_op op_mul (no_implicit_lambda% (pv 3)) pe_int)) (no_implicit_lambda% (pv 2)))))))))))), ?_⟩
    walk_at "rd"
    exact q _ (Int.emod_nonneg _ (by omega)) (Int.emod_lt_of_pos _ hp)
theorem ext_write {H H2 : Hp} {q : Addr} {o : HO} (e : Ext H H2) (hq : H q = none) : Ext H (upd H2 q o) := fun b u hb => by
  rw [upd_ne (ne_of_none hb hq)]
  exact e b u hb
noncomputable def sp__law_draws (K : PySem.W.Frag) : Sp := fun vs H Q _ => ∃ (c : Int) (w : Addr) (ws : List Int) (p : Int), vs = [.int c, .ref w, .int p] ∧ H w = some (.lst (ws.map V.int)) ∧ (∀ x ∈ ws, 0 < x ∧ x < 2 ^ 40) ∧ ws.length ≤ 10000 ∧ 0 < p ∧
  ∀ (q : Addr) (ds : List Int) (H' : Hp), Ext H H' → H' q = some (.lst (ds.map V.int)) → H q = none → ds.length = ws.length → (∀ (i : Nat) d x, ds[i]? = some d → ws[i]? = some x → 0 ≤ d ∧ d < x) → Q (.ref q) H'
theorem mk_draws {K : PySem.W.Frag} {H : Hp} {c : Int} {w : Addr} {p : Int} {Q : VK} {xe : XK} (ws : List Int) (h1 : H w = some (.lst (ws.map V.int))) (h2 : ∀ x ∈ ws, 0 < x ∧ x < 2 ^ 40) (h3 : ws.length ≤ 10000) (h4 : 0 < p)
    (k : ∀ (q : Addr) (ds : List Int) (H' : Hp), Ext H H' → H' q = some (.lst (ds.map V.int)) → H q = none → ds.length = ws.length → (∀ (i : Nat) d x, ds[i]? = some d → ws[i]? = some x → 0 ≤ d ∧ d < x) → Q (.ref q) H') : sp__law_draws K [.int c, .ref w, .int p] H Q xe := ⟨c, w, ws, p, rfl, h1, h2, h3, h4, k⟩
noncomputable abbrev s__law_draws : Stmt := stq 128
theorem sc__law_draws : FnScope ["_law_cell_here", "_law_widths", "_law_prime", "_law_left", "_law_found", "_law_k"] ["_law_cell_here", "_law_widths", "_law_prime"] (defScope s__law_draws) := ⟨rfl, rfl, rfl, by decide +kernel, rfl, by decide +kernel, by decide +kernel⟩
theorem ok__law_draws {P : Program} {w : World} {K : PySem.W.Frag} {mg : Str → Option Value} {base : Heap} (D : Dfn K mg "_law_draws" s__law_draws ["_law_cell_here", "_law_widths", "_law_prime"]) (T : Blt mg) (C__law_mixed : Cal P w K mg base "_law_mixed" 1 ["_law_cell_here", "_law_k", "_law_prime"] (sp__law_mixed K)) : Cal P w K mg base "_law_draws" 2 ["_law_cell_here", "_law_widths", "_law_prime"] (sp__law_draws K) := by
  have nd := (sc__law_draws).nd
  refine D.ok sc__law_draws (fun vs H Q E h => ?_) (fun X hX H vs Q E h => ?_)
  · obtain ⟨c, w, ws, p, rfl, _⟩ := h; rfl
  · obtain ⟨f, cdv, A, outer, s, H0, E0, rfl, hr⟩ := hX
    obtain ⟨c, w, ws, p, rfl, hw, hpos, hlen, hp, q⟩ := h
    refine ⟨_, (no_implicit_lambda% (pss_cons (no_implicit_lambda% (ps_set (i := 3) nd rfl (Or.inl rfl) pe_int))
        (no_implicit_lambda% (pss_cons (no_implicit_lambda% (ps_ifJ (no_implicit_lambda% (pt_cmpR op_ge (no_implicit_lambda% (pv 0)) (no_implicit_lambda% (pe_op op_pow pe_int pe_int)) (nomark _))) (no_implicit_lambda% (pss_one (no_implicit_lambda% (ps_set (i := 3) nd rfl (Or.inl rfl) (no_implicit_lambda% (pe_op op_sub (no_implicit_lambda% (pv 0)) (no_implicit_lambda% (pe_op op_pow pe_int pe_int)))))))) pss_nil))
        (no_implicit_lambda% (pss_cons (no_implicit_lambda% (ps_set (i := 4) nd rfl (Or.inl rfl) (no_implicit_lambda% (pe_lst pa_nil))))
        (no_implicit_lambda% (pss_cons (no_implicit_lambda% (ps_for PassesOwn.never rfl (no_implicit_lambda% (pi_range1 rfl T.range_ (no_implicit_lambda% (pa_cons (no_implicit_lambda% (pe_callB (call_lenK K) rfl T.len_ PySem.boot_len (no_implicit_lambda% (pa_cons (no_implicit_lambda% (pv 1)) pa_nil)))) pa_nil)))) (no_implicit_lambda% (pg_name (i := 5) nd rfl (Or.inl rfl))) (no_implicit_lambda% (pss_one (no_implicit_lambda% (ps_ifJ (no_implicit_lambda% (pt_cmpR op_gt (no_implicit_lambda% (pv 3)) pe_int (nomark _))) (no_implicit_lambda% (pss_cons (no_implicit_lambda% (ps_expr (no_implicit_lambda% (pe_bmK K PySem.F.plainAttrs_list PySem.F.slot_list_append PySem.F.type_list_append mt_append (no_implicit_lambda% (pv 4)) (no_implicit_lambda% (pa_cons (no_implicit_lambda% (pe_op op_mod (no_implicit_lambda% (pv 3)) (no_implicit_lambda% (pe_ix (ix_listK K) (no_implicit_lambda% (pv 1)) (no_implicit_lambda% (pv 5)) (fun _ _ => rfl))))) pa_nil))))))
        (no_implicit_lambda% (pss_one (no_implicit_lambda% (ps_set (i := 3) nd rfl (Or.inl rfl) (no_implicit_lambda% (pe_op op_fdivL (no_implicit_lambda% (pv 3)) (no_implicit_lambda% (pe_ix (ix_listK K) (no_implicit_lambda% (pv 1)) (no_implicit_lambda% (pv 5)) (fun _ _ => rfl))))))))))) (no_implicit_lambda% (pss_one (no_implicit_lambda% (ps_expr (no_implicit_lambda% (pe_bmK K PySem.F.plainAttrs_list PySem.F.slot_list_append PySem.F.type_list_append mt_append (no_implicit_lambda% (pv 4)) (no_implicit_lambda% (pa_cons (no_implicit_lambda% (pe_op op_mod (no_implicit_lambda% (pe_cal C__law_mixed hr (no_implicit_lambda% (pa_cons (no_implicit_lambda% (pv 0)) (no_implicit_lambda% (pa_cons (no_implicit_lambda% (pv 5)) (no_implicit_lambda% (pa_cons (no_implicit_lambda% (pv 2)) pa_nil)))))))) (no_implicit_lambda% (pe_ix (ix_listK K) (no_implicit_lambda% (pv 1)) (no_implicit_lambda% (pv 5)) (fun _ _ => rfl))))) pa_nil))))))))))))))
        (no_implicit_lambda% (pss_one (no_implicit_lambda% (ps_ret (no_implicit_lambda% (pv 4)))))))))))))), ?_⟩
    walk_at "rd"
    refine rd_ifJ (fun σ' H' => H' = H ∧ ∃ l, σ' = [some (.int c), some (.ref w), some (.int p), some (.int l), none, none]) ?_ ?_
    · walk_at "rd"
      refine ite2 (fun h => ?_) (fun h => ?_)
      · walk_at "rd"
        exact ⟨rfl, _, rfl⟩
      · walk_at "rd"
        exact ⟨rfl, _, rfl⟩
    rintro σ' H' ⟨rfl, l, rfl⟩
    walk_at "rd"
    refine ⟨small_line (by simp), rd_new fun f H1 e1 hf hfn => ?_⟩
    walk_at "rd"
    refine rd_lenL (SqL.of (e1 _ _ hw)) ?_
    rw [List.length_map]
    walk_at "rd"
    refine rd_i1x (by omega) ?_
    refine forR (fun i σ H2 => Ext H' H2 ∧ ∃ (l : Int) (k : Option V) (ds : List Int), σ = [some (.int c), some (.ref w), some (.int p), some (.int l), some (.ref f), k] ∧ H2 f = some (.lst (ds.map V.int)) ∧ ds.length = i ∧ ∀ (i : Nat) d x, ds[i]? = some d → ws[i]? = some x → 0 ≤ d ∧ d < x)
      ⟨e1, l, none, [], rfl, hf, rfl, fun i d x hd => by simp at hd⟩ ?_ ?_
    · rintro i σ H2 hi ⟨e2, l, k, ds, rfl, hf2, hds, hb⟩
      rw [Int.toNat_natCast] at hi
      have hwi : ws[i]? = some ws[i] := List.getElem?_eq_getElem hi
      have hx := hpos ws[i] (List.getElem_mem hi)
      have hat : atI (ws.map V.int) (0 + (i : Int)) = some (.int ws[i]) := by
        rw [Int.zero_add]
        exact atI_nat (by rw [List.getElem?_map, hwi]; rfl)
      have next : ∀ d, 0 ≤ d → d < ws[i] → ∀ (j : Nat) (d' x : Int), (ds ++ [d])[j]? = some d' → ws[j]? = some x → 0 ≤ d' ∧ d' < x := fun d h0 h1 j d' x hj hx' => by
        rcases Nat.lt_or_ge j ds.length with h | h
        · rw [List.getElem?_append_left h] at hj
          exact hb j d' x hj hx'
        · rw [List.getElem?_append_right h] at hj
          have hj0 : j - ds.length = 0 := by
            rcases Nat.eq_zero_or_pos (j - ds.length) with h | h
            · exact h
            · rw [List.getElem?_eq_none (by simp; omega)] at hj; cases hj
          rw [hj0] at hj
          have hji : j = i := by omega
          subst hji
          rw [hwi] at hx'
          cases hx'
          have : d = d' := by simpa using hj
          rw [← this]
          exact ⟨h0, h1⟩
      walk_at "rd"
      refine rd_ifN ?_
      walk_at "rd"
      refine ite2 (fun h => ?_) (fun h => ?_)
      · have h' : 1 < l := by simpa using h
        walk_at "rd"
        refine ⟨rd_tyL (SqL.of hf2), ?_⟩
        walk_at "rd"
        refine rd_ixL (SqL.of (e2 _ _ hw)) hat ?_
        refine rd_I (show 0 < ws[i] by omega) ?_
        walk_at "rd"
        refine rd_append hf2 (by rw [List.length_map]; exact Nat.lt_of_le_of_lt (show ds.length ≤ 10000 by omega) (by decide)) ?_
        walk_at "rd"
        refine rd_ixL (SqL.of (ext_write e2 hfn _ _ hw)) hat ?_
        refine rd_I (show 0 < ws[i] ∧ ws[i] < 2 ^ 64 by omega) ?_
        walk_at "rd"
        refine ⟨ext_write e2 hfn, _, _, ds ++ [l % ws[i]], rfl, ?_, by rw [List.length_append, hds]; rfl, next _ (Int.emod_nonneg _ (by omega)) (Int.emod_lt_of_pos _ (by omega))⟩
        rw [upd_same, List.map_append]
        rfl
      · walk_at "rd"
        refine ⟨rd_tyL (SqL.of hf2), ?_⟩
        walk_at "rd"
        refine ⟨c, 0 + (i : Int), p, rfl, by omega, by omega, hp, fun z hz0 hz1 => ?_⟩
        walk_at "rd"
        refine rd_ixL (SqL.of (e2 _ _ hw)) hat ?_
        refine rd_I (show 0 < ws[i] by omega) ?_
        walk_at "rd"
        refine rd_append hf2 (by rw [List.length_map]; exact Nat.lt_of_le_of_lt (show ds.length ≤ 10000 by omega) (by decide)) ?_
        walk_at "rd"
        refine ⟨ext_write e2 hfn, _, _, ds ++ [z % ws[i]], rfl, ?_, by rw [List.length_append, hds]; rfl, next _ (Int.emod_nonneg _ (by omega)) (Int.emod_lt_of_pos _ (by omega))⟩
        rw [upd_same, List.map_append]
        rfl
    · rintro σ H2 ⟨e2, l, k, ds, rfl, hf2, hds, hb⟩
      walk_at "rd"
      exact q f ds H2 e2 hf2 hfn (by rw [hds, Int.toNat_natCast]) hb
noncomputable def AlW (H : Hp) (bs : List Addr) (ws : List Way) : Prop := bs.length = ws.length ∧ ∀ (j : Nat) (b : Addr) (w : Way), bs[j]? = some b → ws[j]? = some w → H b = some (.tup w.vs)
theorem AlW.ext {H H' : Hp} {bs : List Addr} {ws : List Way} (e : Ext H H') (h : AlW H bs ws) : AlW H' bs ws := ⟨h.1, fun j b w e1 e2 => e _ _ (h.2 j b w e1 e2)⟩
theorem AlW.nil (H : Hp) : AlW H [] [] := ⟨rfl, fun j b w e => by simp at e⟩
theorem AlW.snoc {H : Hp} {bs : List Addr} {ws : List Way} {b : Addr} {w : Way} (h : AlW H bs ws) (hb : H b = some (.tup w.vs)) : AlW H (bs ++ [b]) (ws ++ [w]) := by
  refine ⟨by simp [h.1], fun j b' w' e1 e2 => ?_⟩
  rcases Nat.lt_or_ge j bs.length with hj | hj
  · rw [List.getElem?_append_left hj] at e1
    rw [List.getElem?_append_left (by rw [← h.1]; exact hj)] at e2
    exact h.2 j b' w' e1 e2
  · rw [List.getElem?_append_right hj] at e1
    rw [List.getElem?_append_right (by rw [← h.1]; exact hj), ← h.1] at e2
    cases hk : j - bs.length with
    | zero =>
      rw [hk] at e1 e2
      cases e1; cases e2
      exact hb
    | succ k => rw [hk] at e1; simp at e1
theorem AlW.ways {H : Hp} {p : Addr} {bs : List Addr} {ws : List Way} (h : AlW H bs ws) (hp : H p = some (.tup (bs.map V.ref))) : WaysAt H p (ws.map Way.key) :=
  ⟨bs, hp, by rw [List.length_map]; exact h.1, fun j b k e1 e2 => by
    rw [List.getElem?_map] at e2
    obtain ⟨w, hw, rfl⟩ := Option.map_eq_some_iff.mp e2
    exact h.2 j b w e1 hw⟩
theorem WaysAt.al {H : Hp} {p : Addr} {ws : List Way} (h : WaysAt H p (ws.map Way.key)) : ∃ bs : List Addr, H p = some (.tup (bs.map V.ref)) ∧ AlW H bs ws := by
  obtain ⟨bs, h1, h2, h3⟩ := h
  rw [List.length_map] at h2
  exact ⟨bs, h1, h2, fun j b w e1 e2 => WaysAt.item h3 e1 e2⟩
noncomputable abbrev Way.D (w : Way) : PyData := .tuple [.int w.room, .str w.deed, .int w.other, .str w.sign]
structure Way.Lay (w : Way) : Prop where
  d : (PyData.str w.deed).canLay0 = true
  s : (PyData.str w.sign).canLay0 = true
theorem sign_lay : ∀ c : Fin 123, 97 ≤ c.1 → (PyData.str ⟨#[c.1]⟩).canLay0 = true := by decide +kernel
theorem Way.Ok.lay {m : Int} {w : Way} (h : w.Ok m) : w.Lay := by
  constructor
  · rcases h.dd with e | e | e | e <;> rw [e] <;> decide +kernel
  · obtain ⟨c, h1, h2, e⟩ := h.sg
    rw [e]
    exact sign_lay ⟨c, Nat.lt_succ_of_le h2⟩ h1
theorem Way.rep {H : Hp} {b : Addr} {w : Way} (h : H b = some (.tup w.vs)) (l : w.Lay) : RepD H 1 (.ref b) w.D :=
  .inr ⟨b, w.vs, _, rfl, .inl ⟨h, rfl⟩, .cons rfl (.cons ⟨rfl, l.d⟩ (.cons rfl (.cons ⟨rfl, l.s⟩ .nil)))⟩
theorem Way.eqv (w u : Way) : PyData.eqv w.D u.D = decide (w = u) := by
  simp only [PyData.eqv, PyData.eqvAll]
  by_cases h : w = u
  · subst h; simp
  · rw [decide_eq_false h]
    obtain ⟨a, b, c, d⟩ := w
    obtain ⟨a', b', c', d'⟩ := u
    simp only [Way.mk.injEq, not_and] at h
    simp only [Bool.and_true, Bool.and_eq_false_iff, beq_eq_false_iff_ne]
    by_cases h1 : a = a'
    · by_cases h2 : b = b'
      · by_cases h3 : c = c'
        · exact .inr (.inr (.inr (h h1 h2 h3)))
        · exact .inr (.inr (.inl h3))
      · exact .inr (.inl h2)
    · exact .inl h1
theorem AlW.reps {H : Hp} : ∀ {bs : List Addr} {ws : List Way}, AlW H bs ws → (∀ w ∈ ws, w.Lay) → Paired (RepD H 1) (bs.map V.ref) (ws.map Way.D)
  | [], [], _, _ => .nil
  | [], _ :: _, h, _ => by cases h.1
  | _ :: _, [], h, _ => by cases h.1
  | b :: bs, w :: ws, h, l => .cons (Way.rep (h.2 0 b w rfl rfl) (l w List.mem_cons_self)) (AlW.reps ⟨Nat.succ.inj h.1, fun j b w e1 e2 => h.2 (j + 1) b w e1 e2⟩ fun u hu => l u (List.mem_cons_of_mem _ hu))
theorem any_mem (ws : List Way) (w : Way) : ((ws.map Way.D).any fun e => PyData.eqv e w.D) = decide (w ∈ ws) := by
  rw [List.any_map]
  induction ws with
  | nil => rfl
  | cons u ws ih =>
    rw [List.any_cons, ih, Function.comp_apply, Way.eqv]
    by_cases h : w ∈ ws
    · simp [h]
    · by_cases e : u = w
      · simp [e]
      · have : ¬ w = u := fun z => e z.symm
        simp [h, e, this]
theorem HouseAt.mk {H : Hp} {p q : Addr} {m : Int} {ws : List Way} (h1 : H p = some (.tup [.int m, .ref q])) (h2 : WaysAt H q (ws.map Way.key)) : HouseAt H (.ref p) m ws := ⟨p, q, rfl, h1, h2⟩
noncomputable def Way.turn (w : Way) : Way := ⟨w.other, turnD w.deed, w.room, w.sign⟩
theorem turnD_ok {z : Str} (h : okDeed z) : okDeed (turnD z) := by
  rcases h with rfl | rfl | rfl | rfl
  · exact .inr (.inl (by decide +kernel))
  · exact .inl (by decide +kernel)
  · exact .inr (.inr (.inl (by decide +kernel)))
  · exact .inr (.inr (.inr (by decide +kernel)))
theorem turnD_turn {z : Str} (h : okDeed z) : turnD (turnD z) = z := by
  rcases h with rfl | rfl | rfl | rfl <;> decide +kernel
theorem Way.turn_turn {m : Int} {w : Way} (h : w.Ok m) : w.turn.turn = w := by
  obtain ⟨a, b, c, d⟩ := w
  show (⟨a, turnD (turnD b), c, d⟩ : Way) = _
  rw [turnD_turn h.dd]
theorem Way.Ok.turn {m : Int} {w : Way} (h : w.Ok m) : w.turn.Ok m := ⟨h.o0, h.o1, h.r0, h.r1, turnD_ok h.dd, h.sg⟩
theorem turns_turn {m : Int} {ws : List Way} (h : ∀ w ∈ ws, w.Ok m) : (ws.map Way.turn).map Way.turn = ws := by
  rw [List.map_map]
  conv => rhs; rw [← List.map_id ws]
  exact List.map_congr_left fun w hw => Way.turn_turn (h w hw)
theorem HOuse.turn {m : Int} {ws : List Way} (h : HOuse m ws) : HOuse m (ws.map Way.turn) where
  m1 := h.m1
  m12 := h.m12
  few := by rw [List.length_map]; exact h.few
  ok := fun w hw => by
    obtain ⟨u, hu, rfl⟩ := List.mem_map.mp hw
    exact (h.ok u hu).turn
  nd := by
    have nd := h.nd
    unfold List.Nodup at nd ⊢
    rw [List.pairwise_map]
    refine nd.imp_of_mem fun {a b} ha hb ne e => ne ?_
    rw [← Way.turn_turn (h.ok a ha), ← Way.turn_turn (h.ok b hb), e]
noncomputable def sp_turned_way (K : PySem.W.Frag) : Sp := fun vs H Q _ => ∃ p w, vs = [.ref p] ∧ H p = some (.tup (Way.vs w)) ∧ okDeed w.deed ∧ ∀ v H', Ext H H' → H' v = some (.tup (Way.vs w.turn)) → Q (.ref v) H'
noncomputable abbrev s_turned_way : Stmt := stq 40
theorem sc_turned_way : FnScope ["way"] ["way"] (defScope s_turned_way) := ⟨rfl, rfl, rfl, by decide +kernel, rfl, by decide +kernel, by decide +kernel⟩
theorem ok_turned_way {P : Program} {w : World} {K : PySem.W.Frag} {mg : Str → Option Value} {base : Heap} (D : Dfn K mg "turned_way" s_turned_way ["way"]) (T : Blt mg) (g_TURNED : ∃ a, mg "TURNED" = some (.ref a) ∧ GDict w K a gd_TURNED) : Cal P w K mg base "turned_way" 1 ["way"] (sp_turned_way K) := by
  have nd := (sc_turned_way).nd
  refine D.ok sc_turned_way (fun vs H Q E h => ?_) (fun X hX H vs Q E h => ?_)
  · obtain ⟨p, w, rfl, _⟩ := h; rfl
  · obtain ⟨f, cdv, A, outer, s, H0, E0, rfl, hr⟩ := hX
    obtain ⟨a_TURNED, m_TURNED, d_TURNED⟩ := g_TURNED
    obtain ⟨p, w, rfl, hp, od, q⟩ := h
    refine ⟨_, (no_implicit_lambda% (pss_one (no_implicit_lambda% (ps_ret (no_implicit_lambda% (pe_tup (no_implicit_lambda% (pa_cons (no_implicit_lambda% (pe_ix (ix_tupK K) (no_implicit_lambda% (pv 0)) pe_int (fun _ _ => rfl))) (no_implicit_lambda% (pa_cons (no_implicit_lambda% (pe_gget rfl m_TURNED d_TURNED (no_implicit_lambda% (pe_ix (ix_tupK K) (no_implicit_lambda% (pv 0)) pe_int (fun _ _ => rfl))) (fun _ _ => rfl))) (no_implicit_lambda% (pa_cons (no_implicit_lambda% (pe_ix (ix_tupK K) (no_implicit_lambda% (pv 0)) pe_int (fun _ _ => rfl))) (no_implicit_lambda% (pa_cons (no_implicit_lambda% (pe_ix (ix_tupK K) (no_implicit_lambda% (pv 0)) pe_int (fun _ _ => rfl))) pa_nil)))))))))))))), ?_⟩
    walk_at "rd"
    refine rd_ixT (SqT.of hp) (v := .int w.other) rfl ?_
    walk_at "rd"
    refine rd_ixT (SqT.of hp) (v := .str w.deed) rfl ?_
    walk_at "rd"
    refine rd_keyS (gd_has od) ?_
    walk_at "rd"
    refine rd_ixT (SqT.of hp) (v := .int w.room) rfl ?_
    walk_at "rd"
    refine rd_ixT (SqT.of hp) (v := .str w.sign) rfl ?_
    walk_at "rd"
    exact ⟨small_line (by simp), rd_new fun v H' e hv _ => q v H' e hv⟩
noncomputable def sp_turned_about (K : PySem.W.Frag) : Sp := fun vs H Q _ => ∃ v m ws, vs = [v] ∧ HouseAt H v m ws ∧ HOuse m ws ∧ ∀ u H', Ext H H' → HouseAt H' u m (List.map Way.turn ws) → Q u H'
noncomputable abbrev s_turned_about : Stmt := stq 41
theorem sc_turned_about : FnScope ["house"] ["house"] (defScope s_turned_about) := ⟨rfl, rfl, rfl, by decide +kernel, rfl, by decide +kernel, by decide +kernel⟩
theorem ok_turned_about {P : Program} {w : World} {K : PySem.W.Frag} {mg : Str → Option Value} {base : Heap} (D : Dfn K mg "turned_about" s_turned_about ["house"]) (T : Blt mg) (C_turned_way : Cal P w K mg base "turned_way" 1 ["way"] (sp_turned_way K)) (C_refuse_no_house : Cal P w K mg base "refuse_no_house" 6 ["thing"] (sp_refuse_no_house K)) : Cal P w K mg base "turned_about" 7 ["house"] (sp_turned_about K) := by
  have nd := (sc_turned_about).nd
  refine D.ok sc_turned_about (fun vs H Q E h => ?_) (fun X hX H vs Q E h => ?_)
  · obtain ⟨v, m, ws, rfl, _⟩ := h; rfl
  · obtain ⟨f, cdv, A, outer, s, H0, E0, rfl, hr⟩ := hX
    obtain ⟨v, m, ws, rfl, h1, ok, q⟩ := h
    have hfew := ok.few
    refine ⟨_, (no_implicit_lambda% (pss_cons (no_implicit_lambda% (ps_expr (no_implicit_lambda% (pe_cal C_refuse_no_house hr (no_implicit_lambda% (pa_cons (no_implicit_lambda% (pv 0)) pa_nil))))))
        (no_implicit_lambda% (pss_one (no_implicit_lambda% (ps_ret (no_implicit_lambda% (pe_tup (no_implicit_lambda% (pa_cons (no_implicit_lambda% (pe_ix (ix_tupK K) (no_implicit_lambda% (pv 0)) pe_int (fun _ _ => rfl))) (no_implicit_lambda% (pa_cons (no_implicit_lambda% (pe_callTy (call_tupK K) rfl T.tuple_ PyProof.Rows.boot_tuple (no_implicit_lambda% (pa_cons (no_implicit_lambda% (pe_compC ["way"] [] (no_implicit_lambda% (pi_tupK K (no_implicit_lambda% (pe_ix (ix_tupK K) (no_implicit_lambda% (pv 0)) pe_int (fun _ _ => rfl))))) (fun _ => (no_implicit_lambda% (pg_name (i := 0) (show (["way"] : List Str).Nodup from by decide +kernel) rfl (Or.inl rfl) (Or.inr rfl)))) (fun _ => pcs_nil) (fun _ => (no_implicit_lambda% (pe_cal C_turned_way hr (no_implicit_lambda% (pa_cons (no_implicit_lambda% (pv 0)) pa_nil))))))) pa_nil)))) pa_nil)))))))))))), ?_⟩
    walk_at "rd"
    refine ⟨v, m, ws, rfl, h1, ok, fun H1 e1 => ?_⟩
    obtain ⟨p, r, rfl, g1, g2⟩ := h1.ext e1
    obtain ⟨bs, g3, al⟩ := WaysAt.al g2
    walk_at "rd"
    refine rd_ixT (SqT.of g1) (v := .int m) rfl ?_
    walk_at "rd"
    refine rd_ixT (SqT.of g1) (v := .ref r) rfl ?_
    refine rd_iTx (SqT.of g3) ?_
    refine comp_tup (xs := bs.map V.ref) (fun i ys H' => Ext H1 H' ∧ ∃ cs, ys = cs.map V.ref ∧ AlW H' cs ((ws.take i).map Way.turn)) (small9 (by rw [List.length_map, al.1]; omega)) ⟨Ext.rfl' _, [], rfl, AlW.nil _⟩ (fun i ys H' hi h => ⟨SqT.of (h.1 _ _ g3), ?_⟩) ?_ ?_
    · obtain ⟨_, cs, rfl, hc, _⟩ := h
      rw [List.length_map, hc, List.length_map, List.length_take]
      exact Nat.min_le_left _ _
    · rintro i x ys H' hx ⟨e2, cs, rfl, al2⟩
      rw [List.getElem?_map] at hx
      obtain ⟨b, hb, rfl⟩ := Option.map_eq_some_iff.mp hx
      have hi : i < ws.length := by
        rw [← al.1]
        exact (List.getElem?_eq_some_iff.mp hb).1
      have hwi : ws[i]? = some ws[i] := List.getElem?_eq_getElem hi
      walk_at "rd"
      refine iteT ?_
      walk_at "rd"
      refine ⟨b, ws[i], rfl, e2 _ _ (al.2 i b _ hb hwi), (ok.ok _ (List.getElem_mem hi)).dd, fun v H3 e3 hv => ?_⟩
      refine ⟨e2.trans e3, cs ++ [v], by rw [List.map_append]; rfl, ?_⟩
      rw [List.take_add_one, hwi, List.map_append]
      exact (al2.ext e3).snoc hv
    · rintro ys H' l ⟨e2, cs, rfl, al2⟩ hl
      rw [List.length_map, al.1, List.take_length] at al2
      walk_at "rd"
      have e3 : Ext H1 (upd H' l (.lst (cs.map V.ref))) := e2.trans (ext_upd hl)
      have al3 := al2.ext (ext_upd (o := .lst (cs.map V.ref)) hl)
      have hl3 : upd H' l (.lst (cs.map V.ref)) l = some (.lst (cs.map V.ref)) := upd_same
      generalize upd H' l (.lst (cs.map V.ref)) = H4 at e3 al3 hl3 ⊢
      refine rd_tupL (SqL.of hl3) (rd_new fun t H5 e5 ht _ => ?_)
      walk_at "rd"
      refine ⟨small_line (by simp), rd_new fun u H6 e6 hu _ => ?_⟩
      exact q _ H6 (e1.trans (e3.trans (e5.trans e6))) (HouseAt.mk hu (((al3.ext e5).ways ht).ext e6))
theorem num_log {n : Int} (h : 0 ≤ n) (h6 : n < 1000000) : n.natAbs.log2 < 1920 := by
  by_cases h0 : n.natAbs = 0
  · rw [h0]; decide
  · exact Nat.lt_of_lt_of_le ((Nat.log2_lt h0).mpr (show n.natAbs < 2 ^ 20 by omega)) (by decide)
open Tx in
noncomputable abbrev wayS (w : Way) : Str := Txt.join " " [numS w.room, w.deed, numS w.other, w.sign]
open Tx in
noncomputable def houseS (m : Int) (ws : List Way) : Str := numS m ++ (":" : Str) ++ Txt.join "," (ws.map fun w => (" " : Str) ++ wayS w)
theorem join4_len (a b c d : Str) : (Txt.join " " [a, b, c, d]).length = a.length + b.length + c.length + d.length + 3 := by
  show (Txt.join ⟨#[32]⟩ [a, b, c, d]).length = _
  rw [Tx.tjoin]
  show (a ++ (⟨#[32]⟩ : Str) ++ (b ++ (⟨#[32]⟩ : Str) ++ (c ++ (⟨#[32]⟩ : Str) ++ d))).length = _
  rw [Str.length_append, Str.length_append, Str.length_append, Str.length_append, Str.length_append, Str.length_append]
  show a.length + 1 + (b.length + 1 + (c.length + 1 + d.length)) = _
  omega
theorem deed4 {z : Str} (h : okDeed z) : z.length ≤ 4 := by
  rcases h with rfl | rfl | rfl | rfl <;> decide
theorem sign1_len {z : Str} (h : okSign z) : z.length = 1 := by
  obtain ⟨c, _, _, rfl⟩ := h
  rfl
theorem wayS_len {m : Int} {w : Way} (ok : w.Ok m) (hm : m ≤ 12) : (wayS w).length ≤ 20 := by
  rw [join4_len]
  have h1 := Tx.num_len6 ok.r0 (by have := ok.r1; omega)
  have h2 := Tx.num_len6 ok.o0 (by have := ok.o1; omega)
  have h3 := deed4 ok.dd
  have h4 := sign1_len ok.sg
  omega
theorem sum_len {k : Nat} : ∀ {zs : List Str}, (∀ z ∈ zs, z.length ≤ k) → (zs.map (·.length)).sum ≤ k * zs.length
  | [], _ => Nat.zero_le _
  | z :: zs, h => by
    have h1 := h z List.mem_cons_self
    have h2 := sum_len (k := k) fun x hx => h x (List.mem_cons_of_mem z hx)
    rw [List.map_cons, List.sum_cons, List.length_cons, Nat.mul_succ]
    omega
theorem join_len1 (c : Nat) {k : Nat} {zs : List Str} (h : ∀ z ∈ zs, z.length ≤ k) : (Txt.join ⟨#[c]⟩ zs).length ≤ (k + 1) * zs.length := by
  rw [Tx.tjoin]
  have h1 := StrLaws.join_length_le ⟨#[c]⟩ zs
  have h2 := sum_len h
  have h3 : (⟨#[c]⟩ : Str).length = 1 := rfl
  rw [h3, Nat.mul_one] at h1
  rw [Nat.succ_mul]
  omega
theorem joinX_fit {c : Nat} {k n : Nat} {zs : List Str} (h : ∀ z ∈ zs, z.length ≤ k) (hn : zs.length ≤ n) (hk : (k + 1) * n ≤ 1000000) : (zs.map (·.length)).sum + zs.length * (⟨#[c]⟩ : Str).length ≤ 1000000 := by
  have h2 := sum_len h
  have h3 : (⟨#[c]⟩ : Str).length = 1 := rfl
  have h4 := Nat.mul_le_mul_left (k + 1) hn
  rw [Nat.succ_mul] at h4
  rw [h3]
  omega
noncomputable def sp_way_text (K : PySem.W.Frag) : Sp := fun vs H Q _ => ∃ b w m, vs = [.ref b] ∧ H b = some (.tup (Way.vs w)) ∧ w.Ok m ∧ m ≤ 12 ∧ ∀ H', Ext H H' → Q (.str (wayS w)) H'
noncomputable abbrev s_way_text : Stmt := stq 89
theorem sc_way_text : FnScope ["way"] ["way"] (defScope s_way_text) := ⟨rfl, rfl, rfl, by decide +kernel, rfl, by decide +kernel, by decide +kernel⟩
theorem ok_way_text {P : Program} {w : World} {K : PySem.W.Frag} {mg : Str → Option Value} {base : Heap} (D : Dfn K mg "way_text" s_way_text ["way"]) (T : Blt mg) : Cal P w K mg base "way_text" 1 ["way"] (sp_way_text K) := by
  have nd := (sc_way_text).nd
  refine D.ok sc_way_text (fun vs H Q E h => ?_) (fun X hX H vs Q E h => ?_)
  · obtain ⟨b, w, m, rfl, _⟩ := h; rfl
  · obtain ⟨f, cdv, A, outer, s, H0, E0, rfl, hr⟩ := hX
    obtain ⟨b, w, m, rfl, hb, ok, m12, q⟩ := h
    have r1 := ok.r1
    have o1 := ok.o1
    refine ⟨_, (no_implicit_lambda% (pss_one (no_implicit_lambda% (ps_ret (no_implicit_lambda% (pe_bmK K PySem.F.plainAttrs_str PySem.F.slot_str_join PySem.F.type_str_join (mt_joinX K) pe_str (no_implicit_lambda% (pa_cons (no_implicit_lambda% (pe_lst (no_implicit_lambda% (pa_cons (no_implicit_lambda% (pe_callTy call_str_int rfl T.str_ PyProof.Rows.boot_str (no_implicit_lambda% (pa_cons (no_implicit_lambda% (pe_ix (ix_tupK K) (no_implicit_lambda% (pv 0)) pe_int (fun _ _ => rfl))) pa_nil)))) (no_implicit_lambda% (pa_cons (no_implicit_lambda% (pe_ix (ix_tupK K) (no_implicit_lambda% (pv 0)) pe_int (fun _ _ => rfl))) (no_implicit_lambda% (pa_cons (no_implicit_lambda% (pe_callTy call_str_int rfl T.str_ PyProof.Rows.boot_str (no_implicit_lambda% (pa_cons (no_implicit_lambda% (pe_ix (ix_tupK K) (no_implicit_lambda% (pv 0)) pe_int (fun _ _ => rfl))) pa_nil)))) (no_implicit_lambda% (pa_cons (no_implicit_lambda% (pe_ix (ix_tupK K) (no_implicit_lambda% (pv 0)) pe_int (fun _ _ => rfl))) pa_nil)))))))))) pa_nil)))))))), ?_⟩
    walk_at "rd"
    refine ⟨rfl, ?_⟩
    walk_at "rd"
    refine rd_ixT (SqT.of hb) rfl ?_
    walk_at "rd"
    refine ⟨_, rfl, num_log ok.r0 (by omega), ?_⟩
    walk_at "rd"
    refine rd_ixT (SqT.of hb) rfl ?_
    walk_at "rd"
    refine rd_ixT (SqT.of hb) rfl ?_
    walk_at "rd"
    refine ⟨_, rfl, num_log ok.o0 (by omega), ?_⟩
    walk_at "rd"
    refine rd_ixT (SqT.of hb) rfl ?_
    walk_at "rd"
    refine ⟨small_line (by simp), rd_new fun l H1 e1 hl _ => ?_⟩
    walk_at "rd"
    refine ⟨_, l, [Tx.numS w.room, w.deed, Tx.numS w.other, w.sign], rfl, rfl, SqL.of hl, ?_, q H1 e1⟩
    have h1 := Tx.num_len6 ok.r0 (by omega)
    have h2 := Tx.num_len6 ok.o0 (by omega)
    have h3 := deed4 ok.dd
    have h4 := sign1_len ok.sg
    show (Tx.numS w.room).length + (w.deed.length + ((Tx.numS w.other).length + (w.sign.length + 0))) + 4 * 1 ≤ 1000000
    omega
noncomputable def sp_shown_house (K : PySem.W.Frag) : Sp := fun vs H Q _ => ∃ v m ws, vs = [v] ∧ HouseAt H v m ws ∧ HOuse m ws ∧ ∀ H', Ext H H' → Q (.str (houseS m ws)) H'
noncomputable abbrev s_shown_house : Stmt := stq 90
theorem sc_shown_house : FnScope ["house"] ["house"] (defScope s_shown_house) := ⟨rfl, rfl, rfl, by decide +kernel, rfl, by decide +kernel, by decide +kernel⟩
theorem ok_shown_house {P : Program} {w : World} {K : PySem.W.Frag} {mg : Str → Option Value} {base : Heap} (D : Dfn K mg "shown_house" s_shown_house ["house"]) (T : Blt mg) (C_way_text : Cal P w K mg base "way_text" 1 ["way"] (sp_way_text K)) (C_refuse_no_house : Cal P w K mg base "refuse_no_house" 6 ["thing"] (sp_refuse_no_house K)) : Cal P w K mg base "shown_house" 7 ["house"] (sp_shown_house K) := by
  have nd := (sc_shown_house).nd
  refine D.ok sc_shown_house (fun vs H Q E h => ?_) (fun X hX H vs Q E h => ?_)
  · obtain ⟨v, m, ws, rfl, _⟩ := h; rfl
  · obtain ⟨f, cdv, A, outer, s, H0, E0, rfl, hr⟩ := hX
    obtain ⟨v, m, ws, rfl, hv, ok, q⟩ := h
    have m1 := ok.m1
    have m12 := ok.m12
    refine ⟨_, (no_implicit_lambda% (pss_cons (no_implicit_lambda% (ps_expr (no_implicit_lambda% (pe_cal C_refuse_no_house hr (no_implicit_lambda% (pa_cons (no_implicit_lambda% (pv 0)) pa_nil))))))
        (no_implicit_lambda% (pss_one (no_implicit_lambda% (ps_ret (no_implicit_lambda% (pe_op op_add_str (no_implicit_lambda% (pe_op op_add_str (no_implicit_lambda% (pe_callTy call_str_int rfl T.str_ PyProof.Rows.boot_str (no_implicit_lambda% (pa_cons (no_implicit_lambda% (pe_ix (ix_tupK K) (no_implicit_lambda% (pv 0)) pe_int (fun _ _ => rfl))) pa_nil)))) pe_str)) (no_implicit_lambda% (pe_bmK K PySem.F.plainAttrs_str PySem.F.slot_str_join PySem.F.type_str_join (mt_joinX K) pe_str (no_implicit_lambda% (pa_cons (no_implicit_lambda% (pe_compC ["way"] [] (no_implicit_lambda% (pi_tupK K (no_implicit_lambda% (pe_ix (ix_tupK K) (no_implicit_lambda% (pv 0)) pe_int (fun _ _ => rfl))))) (fun _ => (no_implicit_lambda% (pg_name (i := 0) (show (["way"] : List Str).Nodup from by decide +kernel) rfl (Or.inl rfl) (Or.inr rfl)))) (fun _ => pcs_nil) (fun _ => (no_implicit_lambda% (pe_op op_add_str pe_str (no_implicit_lambda% (pe_cal C_way_text hr (no_implicit_lambda% (pa_cons (no_implicit_lambda% (pv 0)) pa_nil))))))))) pa_nil)))))))))))), ?_⟩
    walk_at "rd"
    refine ⟨v, m, ws, rfl, hv, ok, fun H1 e1 => ?_⟩
    obtain ⟨p, r, rfl, g1, g2⟩ := id (hv.ext e1)
    obtain ⟨bs, g3, al⟩ := WaysAt.al g2
    have hfew := ok.few
    have lm : (Str.ofString (toString m)).length ≤ 6 := Tx.num_len6 (by omega) (by omega)
    have hl : ∀ w ∈ ws, ((" " : Str) ++ wayS w).length ≤ 21 := fun w hw => by
      rw [Str.length_append]
      have := wayS_len (ok.ok w hw) m12
      have : (Str.ofString " ").length = 1 := rfl
      omega
    walk_at "rd"
    refine rd_ixT (SqT.of g1) rfl ?_
    walk_at "rd"
    refine ⟨_, rfl, num_log (by omega) (by omega), ?_⟩
    walk_at "rd"
    refine ⟨_, _, rfl, rfl, small_line (by have : (Str.ofString ":").length = 1 := rfl; omega), ?_⟩
    walk_at "rd"
    refine ⟨rfl, ?_⟩
    walk_at "rd"
    refine rd_ixT (SqT.of g1) (v := .ref r) rfl ?_
    refine rd_iTx (SqT.of g3) ?_
    refine comp_tup (xs := bs.map V.ref) (fun i ys H' => Ext H1 H' ∧ ys = ((ws.take i).map fun w => (" " : Str) ++ wayS w).map V.str) (small9 (by rw [List.length_map, al.1]; omega)) ⟨Ext.rfl' _, rfl⟩ (fun i ys H' hi h => ⟨SqT.of (h.1 _ _ g3), ?_⟩) ?_ ?_
    · rw [h.2, List.length_map, List.length_map, List.length_take]
      exact Nat.min_le_left _ _
    · rintro i x ys H' hx ⟨e2, rfl⟩
      rw [List.getElem?_map] at hx
      obtain ⟨b, hb, rfl⟩ := Option.map_eq_some_iff.mp hx
      have hi : i < ws.length := by rw [← al.1]; exact (List.getElem?_eq_some_iff.mp hb).1
      have hw : ws[i]? = some ws[i] := List.getElem?_eq_getElem hi
      have okw := ok.ok _ (List.mem_of_getElem? hw)
      have hbw := e2 _ _ (al.2 i b _ hb hw)
      walk_at "rd"
      refine iteT ?_
      walk_at "rd"
      refine ⟨b, _, m, rfl, hbw, okw, m12, fun H3 e3 => ?_⟩
      walk_at "rd"
      refine ⟨_, _, rfl, rfl, small_line (by have := wayS_len okw m12; have : (Str.ofString " ").length = 1 := rfl; omega), ?_⟩
      walk_at "rd"
      refine ⟨e2.trans e3, ?_⟩
      rw [List.take_add_one, hw, List.map_append, List.map_append]
      rfl
    · rintro ys H' l ⟨e2, rfl⟩ hn
      rw [List.length_map, al.1, List.take_length]
      have e3 : Ext H1 (upd H' l (.lst ((ws.map fun w => (" " : Str) ++ wayS w).map V.str))) := e2.trans (ext_upd hn)
      have hl3 : upd H' l (.lst ((ws.map fun w => (" " : Str) ++ wayS w).map V.str)) l = some (.lst ((ws.map fun w => (" " : Str) ++ wayS w).map V.str)) := upd_same
      generalize upd H' l (.lst ((ws.map fun w => (" " : Str) ++ wayS w).map V.str)) = H4 at e3 hl3 ⊢
      walk_at "rd"
      have hall : ∀ z ∈ ws.map (fun w => (" " : Str) ++ wayS w), z.length ≤ 21 := fun z hz => by
        obtain ⟨w, hw, rfl⟩ := List.mem_map.mp hz
        exact hl w hw
      refine ⟨_, l, _, rfl, rfl, SqL.of hl3, joinX_fit (c := 44) hall (n := 100) (by rw [List.length_map]; exact hfew) (by decide), ?_⟩
      have hj := join_len1 44 hall
      rw [List.length_map] at hj
      refine ⟨_, _, rfl, rfl, small_line ?_, q H4 (e1.trans e3)⟩
      rw [Str.length_append]
      have h1 : (Str.ofString ":").length = 1 := rfl
      have h2 := Nat.mul_le_mul_left 22 hfew
      show (Str.ofString (toString m)).length + (Str.ofString ":").length + (Txt.join ⟨#[44]⟩ _).length ≤ 1000000
      omega
theorem dec_str {a b : Str} : decide (V.str a = V.str b) = decide (a = b) := by
  by_cases h : a = b
  · subst h; simp
  · rw [decide_eq_false h, decide_eq_false (fun z => h (V.str.inj z))]
theorem rd_EqS {a b : Str} {H : Hp} {Q : VK} (h : Q (.bl (decide (a = b))) H) : rEq (.str a) (.str b) H Q := ⟨rfl, by rw [dec_str]; exact h⟩
theorem rd_NeS {a b : Str} {H : Hp} {Q : VK} (h : Q (.bl (!decide (a = b))) H) : rNe (.str a) (.str b) H Q := ⟨rfl, by rw [dec_str]; exact h⟩
noncomputable def digB (c : Nat) : Bool := decide (48 ≤ c ∧ c ≤ 57)
noncomputable def numW (z : Str) : Bool := decide (1 ≤ z.length) && (decide (z.length ≤ 6) && ((z.cps.toList.map digB).all id && (decide (z = "0") || decide (z.cps.toList[0]? ≠ some 48))))
theorem dig_in (c : Nat) : (!(Builtin.Str.occurrences (Str.ofString "0123456789") ⟨#[c]⟩ 0 (Str.ofString "0123456789").length 1).isEmpty) = digB c := by
  rw [StrLaws.found_one, show (Str.ofString "0123456789").cps.toList = [48, 49, 50, 51, 52, 53, 54, 55, 56, 57] by decide +kernel]
  unfold digB
  rw [decide_eq_decide]
  simp only [List.mem_cons, List.not_mem_nil, or_false]
  omega
noncomputable def sp_is_number_word (K : PySem.W.Frag) : Sp := fun vs H Q _ => ∃ z : Str, vs = [.str z] ∧ z.length ≤ 1000000 ∧ ∀ H', Ext H H' → Q (.bl (numW z)) H'
noncomputable abbrev s_is_number_word : Stmt := stq 93
theorem sc_is_number_word : FnScope ["word"] ["word"] (defScope s_is_number_word) := ⟨rfl, rfl, rfl, by decide +kernel, rfl, by decide +kernel, by decide +kernel⟩
theorem ok_is_number_word {P : Program} {w : World} {K : PySem.W.Frag} {mg : Str → Option Value} {base : Heap} (D : Dfn K mg "is_number_word" s_is_number_word ["word"]) (T : Blt mg) (g_FIGURES : ∃ t, mg "FIGURES" = some (.str "0123456789" t)) (g_MOST_FIGURES : ∃ t, mg "MOST_FIGURES" = some (.int 6 t)) : Cal P w K mg base "is_number_word" 1 ["word"] (sp_is_number_word K) := by
  have nd := (sc_is_number_word).nd
  refine D.ok sc_is_number_word (fun vs H Q E h => ?_) (fun X hX H vs Q E h => ?_)
  · obtain ⟨n, rfl, _⟩ := h; rfl
  · obtain ⟨f, cdv, A, outer, s, H0, E0, rfl, hr⟩ := hX
    obtain ⟨t_FIGURES, c_FIGURES⟩ := g_FIGURES
    obtain ⟨t_MOST_FIGURES, c_MOST_FIGURES⟩ := g_MOST_FIGURES
    obtain ⟨z, rfl, hz, q⟩ := h
    refine ⟨_, (no_implicit_lambda% (pss_cons (no_implicit_lambda% (ps_if (no_implicit_lambda% (PW.pt (pw_or (no_implicit_lambda% (pt_cmpR op_lt (no_implicit_lambda% (pe_callB call_len_str rfl T.len_ PySem.boot_len (no_implicit_lambda% (pa_cons (no_implicit_lambda% (pv 0)) pa_nil)))) pe_int (nomark _))) (pw_or (no_implicit_lambda% (pt_cmpR op_gt (no_implicit_lambda% (pe_callB call_len_str rfl T.len_ PySem.boot_len (no_implicit_lambda% (pa_cons (no_implicit_lambda% (pv 0)) pa_nil)))) (no_implicit_lambda% (pe_glob (v := .int 6) rfl c_MOST_FIGURES ⟨_, rfl⟩)) (nomark _))) (pw_or1 (no_implicit_lambda% (pt_not (no_implicit_lambda% (pt_val (no_implicit_lambda% (pe_callB (call_allL K rfl) rfl T.all_ PyProof.Rows.boot_all (no_implicit_lambda% (pa_cons (no_implicit_lambda% (pe_compC ["sign"] [] (no_implicit_lambda% (pi_str (no_implicit_lambda% (pv 0)))) (fun _ => (no_implicit_lambda% (pg_name (i := 0) (show (["sign"] : List Str).Nodup from by decide +kernel) rfl (Or.inl rfl) (Or.inr rfl)))) (fun _ => pcs_nil) (fun _ => (no_implicit_lambda% (pe_cmpR op_in_str (no_implicit_lambda% (pv 0)) (no_implicit_lambda% (pe_glob (v := .str "0123456789") rfl c_FIGURES ⟨_, rfl⟩)) (by with_unfolding_all rfl)))))) pa_nil))))))))))))) (no_implicit_lambda% (pss_one (no_implicit_lambda% (ps_ret pe_bl)))) pss_nil))
        (no_implicit_lambda% (pss_one (no_implicit_lambda% (ps_ret (no_implicit_lambda% (pe_or (no_implicit_lambda% (pe_cmpR op_eq (no_implicit_lambda% (pv 0)) pe_str (nomark _))) (pe_one (no_implicit_lambda% (pe_cmpR op_ne (no_implicit_lambda% (pe_ix ix_str (no_implicit_lambda% (pv 0)) pe_int (fun _ _ => rfl))) pe_str (nomark _)))))))))))), ?_⟩
    walk_at "rd"
    refine ⟨z, rfl, small_line hz, ?_⟩
    walk_at "rd"
    by_cases h1 : (z.length : Int) < 1
    · rw [decide_eq_true h1]
      refine iteT (iteT ?_)
      walk_at "rd"
      have := q H (Ext.rfl' _)
      unfold numW at this
      rw [decide_eq_false (show ¬ 1 ≤ z.length by omega)] at this
      exact this
    rw [decide_eq_false h1]
    refine iteF ?_
    walk_at "rd"
    refine ⟨z, rfl, small_line hz, ?_⟩
    walk_at "rd"
    by_cases h2 : (6 : Int) < z.length
    · rw [decide_eq_true h2]
      refine iteT (iteT ?_)
      walk_at "rd"
      have := q H (Ext.rfl' _)
      unfold numW at this
      rw [decide_eq_false (show ¬ z.length ≤ 6 by omega), Bool.false_and, Bool.and_false] at this
      exact this
    rw [decide_eq_false h2]
    refine iteF ?_
    walk_at "rd"
    refine ⟨z, rfl, ?_⟩
    have hsz : z.cps.size = z.length := rfl
    refine comp_str (fun i ys H' => H' = H ∧ ys = ((z.cps.toList.take i).map digB).map V.bl) (small_line (by omega)) ⟨rfl, rfl⟩ ?_ ?_ ?_
    · rintro i ys H' _ ⟨rfl, rfl⟩
      rw [List.length_map, List.length_map, List.length_take]
      exact Nat.min_le_left _ _
    · rintro i c ys H' hc ⟨rfl, rfl⟩
      walk_at "rd"
      refine iteT ?_
      walk_at "rd"
      refine ⟨_, _, rfl, rfl, rfl, ?_⟩
      rw [dig_in, List.take_add_one, Array.getElem?_toList, hc, List.map_append, List.map_append]
      rfl
    rintro ys H' p1 ⟨rfl, rfl⟩ hp1
    rw [← Array.length_toList, List.take_length]
    have e1 : Ext H' (upd H' p1 (.lst ((z.cps.toList.map digB).map V.bl))) := ext_upd hp1
    have g1 : (upd H' p1 (.lst ((z.cps.toList.map digB).map V.bl))) p1 = _ := upd_same
    generalize upd H' p1 (.lst ((z.cps.toList.map digB).map V.bl)) = H1 at e1 g1
    have q1 := q H1 e1
    unfold numW at q1
    rw [decide_eq_true (show 1 ≤ z.length by omega), decide_eq_true (show z.length ≤ 6 by omega), Bool.true_and, Bool.true_and] at q1
    walk_at "rd"
    refine ⟨p1, _, rfl, SqL.of g1, ?_⟩
    walk_at "rd"
    cases hall : (z.cps.toList.map digB).all id with
    | false =>
      rw [hall, Bool.false_and] at q1
      refine iteT ?_
      walk_at "rd"
      exact q1
    | true =>
      rw [hall, Bool.true_and] at q1
      refine iteF ?_
      walk_at "rd"
      refine rd_EqS ?_
      refine ⟨_, rfl, ?_⟩
      by_cases h3 : z = "0"
      · rw [decide_eq_true h3] at q1 ⊢
        exact iteT q1
      rw [decide_eq_false h3] at q1 ⊢
      rw [Bool.false_or] at q1
      refine iteF ?_
      walk_at "rd"
      have hl : 0 < z.cps.toList.length := by rw [Array.length_toList]; omega
      have hc : z.cps.toList[0]? = some z.cps.toList[0] := List.getElem?_eq_getElem hl
      generalize z.cps.toList[0] = c at hc
      refine ⟨z, 0, c, rfl, rfl, small_line hz, atI_nat hc, ?_⟩
      walk_at "rd"
      refine rd_NeS ?_
      rw [hc] at q1
      have e0 : (!decide ((⟨#[c]⟩ : Str) = Str.ofString "0")) = decide (some c ≠ some 48) := by
        have : (Str.ofString "0") = ⟨#[48]⟩ := rfl
        rw [this]
        by_cases h4 : c = 48
        · subst h4; decide
        · rw [decide_eq_true (show some c ≠ some 48 from fun e => h4 (Option.some.inj e)), decide_eq_false (fun e => h4 (by injection e with e; simpa using e))]
          rfl
      rw [e0]
      exact q1
theorem num_isW {n : Int} (h : 0 ≤ n) (h6 : n < 1000000) : numW (Tx.numS n) = true := by
  unfold numW
  have hd : ((Tx.numS n).cps.toList.map digB).all id = true := by
    rw [List.all_map, List.all_eq_true]
    intro c hc
    exact decide_eq_true (Tx.num_digit h hc)
  rw [decide_eq_true (Tx.num_len h), decide_eq_true (Tx.num_len6 h h6), hd]
  rcases Tx.num_zero h with e | e
  · rw [decide_eq_true (show Tx.numS n = "0" from e)]
    rfl
  · have : (Tx.numS n).cps.toList[0]? ≠ some 48 := fun z => by
      cases k : (Tx.numS n).cps.toList with
      | nil => rw [k] at z; cases z
      | cons a l => rw [k] at z; cases z; exact e l k
    rw [decide_eq_true this, Bool.or_true]
    rfl
structure DeskK (K : PySem.W.Frag) (mg : Str → Option Value) : Prop where
  cl : Cls K (cA K "Desk")
  nH : NoAttr K (cA K "Desk") "house"
  nP : NoAttr K (cA K "Desk") "past"
  nU : NoAttr K (cA K "Desk") "undone"
  df : ∀ x ∈ (["rooms_deed", "way_deed", "close_deed", "turn_deed", "show_ask"] : List Str), mg x = some (.ref (cA K x))
noncomputable def kindsOf (z : Str) : Option (List Str) :=
  if z = "rooms" then some ["many"] else if z = "way" then some ["number", "deed", "number", "sign"] else if z = "close" then some ["number", "deed", "number", "sign"] else if z = "turn" then some [] else if z = "undo" then some [] else if z = "redo" then some [] else if z = "show" then some [] else
  if z = "reach" then some ["number", "number", "number", "number"] else if z = "forward" then some ["number", "number", "number"] else if z = "backward" then some ["number", "number", "number"] else if z = "most" then some ["number", "number"] else if z = "fate" then some ["number", "number"] else if z = "word" then some ["number", "number"] else none
noncomputable def LinesOk (K : PySem.W.Frag) (kvs : List (Key × V)) : Prop := ∀ z : Str, match kindsOf z with
  | some ks => ∃ b, valV kvs (.inr z) = some (.ref b) ∧ ∀ H, SqT K H b (ks.map V.str)
  | none => valV kvs (.inr z) = none
theorem cut_end {xs : List V} {n : Nat} (h : n ≤ xs.length) : cutV xs (some (n : Int)) none = xs.drop n := by
  unfold cutV
  rw [HT.sIx_none, HT.sIx_nat, Nat.min_eq_left h]
  exact List.take_of_length_le (by rw [List.length_drop]; exact Nat.le_refl _)
inductive Cmd
  | rooms (n : Int)
  | way (w : Way)
  | close (w : Way)
  | turn
  | undo
  | redo
  | show
noncomputable def Cmd.head : Cmd → Str
  | .rooms _ => "rooms"
  | .way _ => "way"
  | .close _ => "close"
  | .turn => "turn"
  | .undo => "undo"
  | .redo => "redo"
  | .show => "show"
noncomputable def wayWs (w : Way) : List Str := [Tx.numS w.room, w.deed, Tx.numS w.other, w.sign]
noncomputable def Cmd.tail : Cmd → List Str
  | .rooms n => [Tx.numS n]
  | .way w => wayWs w
  | .close w => wayWs w
  | _ => []
noncomputable abbrev Cmd.words (c : Cmd) : List Str := c.head :: c.tail
noncomputable def Cmd.line (c : Cmd) : Str := Txt.join " " c.words
noncomputable def Cmd.kinds : Cmd → List Str
  | .rooms _ => ["many"]
  | .way _ => ["number", "deed", "number", "sign"]
  | .close _ => ["number", "deed", "number", "sign"]
  | _ => []
noncomputable def Cmd.parts : Cmd → List V
  | .rooms n => [.int n]
  | .way w => Way.vs w
  | .close w => Way.vs w
  | _ => []
structure WayL (w : Way) : Prop where
  r0 : 0 ≤ w.room
  r6 : w.room < 1000000
  o0 : 0 ≤ w.other
  o6 : w.other < 1000000
  dd : okDeed w.deed
  sg : okSign w.sign
noncomputable def Cmd.Ok : Cmd → Prop
  | .rooms n => 1 ≤ n ∧ n ≤ 12
  | .way w => WayL w
  | .close w => WayL w
  | _ => True
theorem Cmd.kinds_of (c : Cmd) : kindsOf c.head = some c.kinds := by
  cases c with
  | rooms n => show kindsOf "rooms" = some (["many"] : List Str); decide +kernel
  | way w => show kindsOf "way" = some (["number", "deed", "number", "sign"] : List Str); decide +kernel
  | close w => show kindsOf "close" = some (["number", "deed", "number", "sign"] : List Str); decide +kernel
  | turn => show kindsOf "turn" = some ([] : List Str); decide +kernel
  | undo => show kindsOf "undo" = some ([] : List Str); decide +kernel
  | redo => show kindsOf "redo" = some ([] : List Str); decide +kernel
  | «show» => show kindsOf "show" = some ([] : List Str); decide +kernel
theorem Cmd.head_low (c : Cmd) : c.head.length ≤ 6 ∧ 32 ∉ c.head.cps.toList := by
  cases c with
  | rooms n => show (Str.ofString "rooms").length ≤ 6 ∧ 32 ∉ (Str.ofString "rooms").cps.toList; exact ⟨by decide, by decide⟩
  | way w => show (Str.ofString "way").length ≤ 6 ∧ 32 ∉ (Str.ofString "way").cps.toList; exact ⟨by decide, by decide⟩
  | close w => show (Str.ofString "close").length ≤ 6 ∧ 32 ∉ (Str.ofString "close").cps.toList; exact ⟨by decide, by decide⟩
  | turn => show (Str.ofString "turn").length ≤ 6 ∧ 32 ∉ (Str.ofString "turn").cps.toList; exact ⟨by decide, by decide⟩
  | undo => show (Str.ofString "undo").length ≤ 6 ∧ 32 ∉ (Str.ofString "undo").cps.toList; exact ⟨by decide, by decide⟩
  | redo => show (Str.ofString "redo").length ≤ 6 ∧ 32 ∉ (Str.ofString "redo").cps.toList; exact ⟨by decide, by decide⟩
  | «show» => show (Str.ofString "show").length ≤ 6 ∧ 32 ∉ (Str.ofString "show").cps.toList; exact ⟨by decide, by decide⟩
noncomputable def WordIs (k z : Str) (v : V) : Prop := (k = "many" ∧ ∃ n : Int, 1 ≤ n ∧ n ≤ 12 ∧ z = Tx.numS n ∧ v = .int n) ∨ (k = "number" ∧ ∃ n : Int, 0 ≤ n ∧ n < 1000000 ∧ z = Tx.numS n ∧ v = .int n) ∨ (k = "deed" ∧ okDeed z ∧ v = .str z) ∨ (k = "sign" ∧ okSign z ∧ v = .str z)
theorem Cmd.at_ {c : Cmd} (ok : c.Ok) : c.kinds.length = c.tail.length ∧ c.parts.length = c.tail.length ∧ ∀ (i : Nat) (k z : Str), c.kinds[i]? = some k → c.tail[i]? = some z → ∃ v, c.parts[i]? = some v ∧ WordIs k z v := by
  have four : ∀ {w : Way}, WayL w → ∀ (i : Nat) (k z : Str), (["number", "deed", "number", "sign"] : List Str)[i]? = some k → (wayWs w)[i]? = some z → ∃ v, (Way.vs w)[i]? = some v ∧ WordIs k z v := fun {w} ok i k z h1 h2 => by
    match i, h1, h2 with
    | 0, h1, h2 => cases h1; cases h2; exact ⟨_, rfl, .inr (.inl ⟨rfl, _, ok.r0, ok.r6, rfl, rfl⟩)⟩
    | 1, h1, h2 => cases h1; cases h2; exact ⟨_, rfl, .inr (.inr (.inl ⟨rfl, ok.dd, rfl⟩))⟩
    | 2, h1, h2 => cases h1; cases h2; exact ⟨_, rfl, .inr (.inl ⟨rfl, _, ok.o0, ok.o6, rfl, rfl⟩)⟩
    | 3, h1, h2 => cases h1; cases h2; exact ⟨_, rfl, .inr (.inr (.inr ⟨rfl, ok.sg, rfl⟩))⟩
    | i + 4, h1, h2 => cases h1
  cases c with
  | rooms n =>
    refine ⟨rfl, rfl, fun i k z h1 h2 => ?_⟩
    match i, h1, h2 with
    | 0, h1, h2 => cases h1; cases h2; exact ⟨_, rfl, .inl ⟨rfl, n, ok.1, ok.2, rfl, rfl⟩⟩
    | i + 1, h1, h2 => cases h1
  | way w => exact ⟨rfl, rfl, four ok⟩
  | close w => exact ⟨rfl, rfl, four ok⟩
  | turn => exact ⟨rfl, rfl, fun i k z h1 => by cases h1⟩
  | undo => exact ⟨rfl, rfl, fun i k z h1 => by cases h1⟩
  | redo => exact ⟨rfl, rfl, fun i k z h1 => by cases h1⟩
  | «show» => exact ⟨rfl, rfl, fun i k z h1 => by cases h1⟩
theorem WordIs.low {k z : Str} {v : V} (h : WordIs k z v) : z.length ≤ 6 ∧ 32 ∉ z.cps.toList := by
  rcases h with ⟨_, n, h1, h2, rfl, _⟩ | ⟨_, n, h1, h2, rfl, _⟩ | ⟨_, h, _⟩ | ⟨_, ⟨c, h1, h2, rfl⟩, _⟩
  · exact ⟨Tx.num_len6 (by omega) (by omega), Tx.num_free (by omega) (by omega)⟩
  · exact ⟨Tx.num_len6 h1 h2, Tx.num_free h1 (by omega)⟩
  · rcases h with rfl | rfl | rfl | rfl <;> exact ⟨by decide, by decide⟩
  · refine ⟨(by show 1 ≤ 6; decide), fun hc => ?_⟩
    have : 32 = c := by simpa using hc
    omega
theorem Cmd.tail_low {c : Cmd} (ok : c.Ok) : c.tail.length ≤ 4 ∧ ∀ z ∈ c.tail, z.length ≤ 6 ∧ 32 ∉ z.cps.toList := by
  obtain ⟨h1, _, h2⟩ := Cmd.at_ ok
  refine ⟨by cases c <;> simp [Cmd.tail, wayWs], fun z hz => ?_⟩
  obtain ⟨i, hi⟩ := List.getElem?_of_mem hz
  have hk := List.getElem?_eq_getElem (show i < c.kinds.length by rw [h1]; exact (List.getElem?_eq_some_iff.mp hi).1)
  obtain ⟨v, _, hw⟩ := h2 i _ z hk hi
  exact hw.low
theorem Cmd.split {c : Cmd} (ok : c.Ok) : Txt.split c.line " " = c.words := by
  show Txt.split (Txt.join ⟨#[32]⟩ c.words) ⟨#[32]⟩ = c.words
  rw [Tx.tjoin]
  refine Tx.split_join (List.cons_ne_nil _ _) fun p hp => ?_
  rcases List.mem_cons.mp hp with rfl | h
  · exact c.head_low.2
  · exact ((Cmd.tail_low ok).2 p h).2
theorem Cmd.line_len {c : Cmd} (ok : c.Ok) : c.line.length ≤ 1000 := by
  have h1 := Cmd.tail_low ok
  have hh := c.head_low.1
  have := join_len1 32 (k := 6) (zs := c.words) fun z hz => by
    rcases List.mem_cons.mp hz with rfl | h
    · exact hh
    · exact (h1.2 z h).1
  have h2 : c.words.length = c.tail.length + 1 := rfl
  have h3 : (6 + 1) * c.words.length ≤ 7 * 5 := Nat.mul_le_mul_left 7 (by omega)
  exact Nat.le_trans this (Nat.le_trans h3 (by decide))
theorem numW_deed {z : Str} (h : okDeed z) : numW z = false := by rcases h with rfl | rfl | rfl | rfl <;> decide +kernel
theorem numW_sign {z : Str} (h : okSign z) : numW z = false := by
  obtain ⟨c, h1, h2, rfl⟩ := h
  have : digB c = false := decide_eq_false (by omega)
  unfold numW
  show (_ && (_ && (([c].map digB).all id && _))) = false
  rw [show ([c].map digB).all id = false by rw [List.map_cons, this]; rfl]
  simp
noncomputable def sp_is_word_of (K : PySem.W.Frag) : Sp := fun vs H Q _ => ∃ k z v, vs = [.str k, .str z] ∧ WordIs k z v ∧ ∀ H', Ext H H' → Q (.bl true) H'
noncomputable abbrev s_is_word_of : Stmt := stq 108
theorem sc_is_word_of : FnScope ["kind", "word"] ["kind", "word"] (defScope s_is_word_of) := ⟨rfl, rfl, rfl, by decide +kernel, rfl, by decide +kernel, by decide +kernel⟩
theorem ok_is_word_of {P : Program} {w : World} {K : PySem.W.Frag} {mg : Str → Option Value} {base : Heap} (D : Dfn K mg "is_word_of" s_is_word_of ["kind", "word"]) (T : Blt mg) (g_GREATEST_MANY : ∃ t, mg "GREATEST_MANY" = some (.int 12 t)) (C_is_number_word : Cal P w K mg base "is_number_word" 1 ["word"] (sp_is_number_word K)) (C_is_sign : Cal P w K mg base "is_sign" 1 ["thing"] (sp_is_sign K)) (C_is_deed : Cal P w K mg base "is_deed" 1 ["thing"] (sp_is_deed K)) : Cal P w K mg base "is_word_of" 2 ["kind", "word"] (sp_is_word_of K) := by
  have nd := (sc_is_word_of).nd
  refine D.ok sc_is_word_of (fun vs H Q E h => ?_) (fun X hX H vs Q E h => ?_)
  · obtain ⟨k, z, v, rfl, _⟩ := h; rfl
  · obtain ⟨f, cdv, A, outer, s, H0, E0, rfl, hr⟩ := hX
    obtain ⟨t_GREATEST_MANY, c_GREATEST_MANY⟩ := g_GREATEST_MANY
    obtain ⟨k, z, v, rfl, hw, q⟩ := h
    have hl := hw.low
    refine ⟨_, (no_implicit_lambda% (pss_cons (no_implicit_lambda% (ps_if (no_implicit_lambda% (pt_cmpR op_eq (no_implicit_lambda% (pv 0)) pe_str (nomark _))) (no_implicit_lambda% (pss_one (no_implicit_lambda% (ps_ret (no_implicit_lambda% (pe_cal C_is_deed hr (no_implicit_lambda% (pa_cons (no_implicit_lambda% (pv 1)) pa_nil)))))))) pss_nil))
        (no_implicit_lambda% (pss_cons (no_implicit_lambda% (ps_if (no_implicit_lambda% (pt_cmpR op_eq (no_implicit_lambda% (pv 0)) pe_str (nomark _))) (no_implicit_lambda% (pss_one (no_implicit_lambda% (ps_ret (no_implicit_lambda% (pe_cal C_is_sign hr (no_implicit_lambda% (pa_cons (no_implicit_lambda% (pv 1)) pa_nil)))))))) pss_nil))
        (no_implicit_lambda% (pss_cons (no_implicit_lambda% (ps_if (no_implicit_lambda% (pt_cmpR op_eq (no_implicit_lambda% (pv 0)) pe_str (nomark _))) (no_implicit_lambda% (pss_one (no_implicit_lambda% (ps_ret (no_implicit_lambda% (pe_and (no_implicit_lambda% (pe_cal C_is_number_word hr (no_implicit_lambda% (pa_cons (no_implicit_lambda% (pv 1)) pa_nil)))) (pe_one (no_implicit_lambda% (pe_chain op_le op_le pe_int (no_implicit_lambda% (pe_callTy call_int_str rfl T.int_ PyProof.Rows.boot_int (no_implicit_lambda% (pa_cons (no_implicit_lambda% (pv 1)) pa_nil)))) (no_implicit_lambda% (pe_glob (v := .int 12) rfl c_GREATEST_MANY ⟨_, rfl⟩))))))))))) pss_nil))
        (no_implicit_lambda% (pss_one (no_implicit_lambda% (ps_ret (no_implicit_lambda% (pe_cal C_is_number_word hr (no_implicit_lambda% (pa_cons (no_implicit_lambda% (pv 1)) pa_nil)))))))))))))), ?_⟩
    walk_at "rd"
    refine rd_EqS ?_
    rcases hw with ⟨rfl, n, n1, n12, rfl, _⟩ | ⟨rfl, n, n0, n6, rfl, _⟩ | ⟨rfl, hz, _⟩ | ⟨rfl, hz, _⟩
    · refine rd_exb (iteF ?_)
      walk_at "rd"
      refine rd_EqS ?_
      refine rd_exb (iteF ?_)
      walk_at "rd"
      refine rd_EqS ?_
      refine rd_exb (iteT ?_)
      walk_at "rd"
      refine ⟨_, rfl, by omega, fun H1 e1 => ?_⟩
      rw [num_isW (by omega) (by omega)]
      walk_at "rd"
      refine iteT ?_
      walk_at "rd"
      refine ⟨_, n, rfl, Tx.num_read (by omega) (by omega), by omega, ?_⟩
      walk_at "rd"
      rw [decide_eq_true n1]
      refine iteT ?_
      walk_at "rd"
      rw [decide_eq_true n12]
      exact q H1 e1
    · refine rd_exb (iteF ?_)
      walk_at "rd"
      refine rd_EqS ?_
      refine rd_exb (iteF ?_)
      walk_at "rd"
      refine rd_EqS ?_
      refine rd_exb (iteF ?_)
      walk_at "rd"
      refine ⟨_, rfl, by omega, fun H1 e1 => ?_⟩
      rw [num_isW n0 n6]
      exact q H1 e1
    · refine rd_exb (iteT ?_)
      walk_at "rd"
      exact ⟨_, rfl, hz, q _ (Ext.rfl' _)⟩
    · refine rd_exb (iteF ?_)
      walk_at "rd"
      refine rd_EqS ?_
      refine rd_exb (iteT ?_)
      walk_at "rd"
      exact ⟨_, rfl, hz, q _ (Ext.rfl' _)⟩
noncomputable def sp_is_line (K : PySem.W.Frag) : Sp := fun vs H Q _ => ∃ l c, vs = [.ref l] ∧ H l = some (.lst (c.words.map V.str)) ∧ Cmd.Ok c ∧ ∀ H', Ext H H' → Q (.bl true) H'
noncomputable abbrev s_is_line : Stmt := stq 109
theorem sc_is_line : FnScope ["words"] ["words"] (defScope s_is_line) := ⟨rfl, rfl, rfl, by decide +kernel, rfl, by decide +kernel, by decide +kernel⟩
theorem ok_is_line {P : Program} {w : World} {K : PySem.W.Frag} {mg : Str → Option Value} {base : Heap} (D : Dfn K mg "is_line" s_is_line ["words"]) (T : Blt mg) (g_LINES : ∃ a, mg "LINES" = some (.ref a) ∧ ∃ kvs, GDict w K a kvs ∧ LinesOk K kvs) (C_is_word_of : Cal P w K mg base "is_word_of" 2 ["kind", "word"] (sp_is_word_of K)) : Cal P w K mg base "is_line" 3 ["words"] (sp_is_line K) := by
  have nd := (sc_is_line).nd
  refine D.ok sc_is_line (fun vs H Q E h => ?_) (fun X hX H vs Q E h => ?_)
  · obtain ⟨l, c, rfl, _⟩ := h; rfl
  · obtain ⟨f, cdv, A, outer, s, H0, E0, rfl, hr⟩ := hX
    obtain ⟨a_LINES, m_LINES, kv_LINES, d_LINES, ok_LINES⟩ := g_LINES
    obtain ⟨l, c, rfl, hl, ok, q⟩ := h
    obtain ⟨k1, k2, k3⟩ := Cmd.at_ ok
    obtain ⟨k4, _⟩ := Cmd.tail_low ok
    have hk := ok_LINES c.head
    rw [Cmd.kinds_of] at hk
    obtain ⟨b, hb1, hb2⟩ := hk
    refine ⟨_, (no_implicit_lambda% (pss_cons (no_implicit_lambda% (ps_if (no_implicit_lambda% (PW.pt (pw_or (no_implicit_lambda% (pt_cmp (pc_gnin rfl m_LINES d_LINES (no_implicit_lambda% (pe_ix (ix_listK K) (no_implicit_lambda% (pv 0)) pe_int (fun _ _ => rfl)))) (by with_unfolding_all rfl))) (pw_or1 (no_implicit_lambda% (pt_cmpR op_ne (no_implicit_lambda% (pe_callB (call_lenK K) rfl T.len_ PySem.boot_len (no_implicit_lambda% (pa_cons (no_implicit_lambda% (pe_gget rfl m_LINES d_LINES (no_implicit_lambda% (pe_ix (ix_listK K) (no_implicit_lambda% (pv 0)) pe_int (fun _ _ => rfl))) (fun _ _ => rfl))) pa_nil)))) (no_implicit_lambda% (pe_op op_sub (no_implicit_lambda% (pe_callB (call_lenK K) rfl T.len_ PySem.boot_len (no_implicit_lambda% (pa_cons (no_implicit_lambda% (pv 0)) pa_nil)))) pe_int)) (nomark _))))))) (no_implicit_lambda% (pss_one (no_implicit_lambda% (ps_ret pe_bl)))) pss_nil))
        (no_implicit_lambda% (pss_one (no_implicit_lambda% (ps_ret (no_implicit_lambda% (pe_callB (call_allL K rfl) rfl T.all_ PyProof.Rows.boot_all (no_implicit_lambda% (pa_cons (no_implicit_lambda% (pe_compC ["kind", "word"] [] (no_implicit_lambda% (pi_zipM K rfl T.zip_ (no_implicit_lambda% (pa_cons (no_implicit_lambda% (pe_gget rfl m_LINES d_LINES (no_implicit_lambda% (pe_ix (ix_listK K) (no_implicit_lambda% (pv 0)) pe_int (fun _ _ => rfl))) (fun _ _ => rfl))) (no_implicit_lambda% (pa_cons (no_implicit_lambda% (pe_slice (sl_listK K) (no_implicit_lambda% (pv 0)) (po_some pe_int) po_none)) pa_nil)))))) (fun _ => (no_implicit_lambda% (pg_tupK (n := 2) K rfl (pgs_cons (no_implicit_lambda% (pg_name (i := 0) (show (["kind", "word"] : List Str).Nodup from by decide +kernel) rfl (Or.inl rfl) (Or.inr rfl))) (pgs_cons (no_implicit_lambda% (pg_name (i := 1) (show (["kind", "word"] : List Str).Nodup from by decide +kernel) rfl (Or.inl rfl) (Or.inr rfl))) pgs_nil))))) (fun _ => pcs_nil) (fun _ => (no_implicit_lambda% (pe_cal C_is_word_of hr (no_implicit_lambda% (pa_cons (no_implicit_lambda% (pv 0)) (no_implicit_lambda% (pa_cons (no_implicit_lambda% (pv 1)) pa_nil))))))))) pa_nil)))))))))), ?_⟩
    walk_at "rd"
    refine rd_ixL (SqL.of hl) (v := .str c.head) (atI_nat (j := 0) rfl) ?_
    refine ⟨.inr c.head, rfl, ?_⟩
    rw [hb1]
    refine rd_exb (iteF ?_)
    walk_at "rd"
    refine rd_ixL (SqL.of hl) (v := .str c.head) (atI_nat (j := 0) rfl) ?_
    refine rd_keyS hb1 ?_
    walk_at "rd"
    refine rd_lenT (hb2 _) ?_
    walk_at "rd"
    refine rd_lenL (SqL.of hl) ?_
    walk_at "rd"
    rw [List.length_map, List.length_map, decide_eq_true (show ((c.kinds.length : Nat) : Int) = ((c.words.length : Nat) : Int) - 1 by show _ = ((c.tail.length + 1 : Nat) : Int) - 1; omega)]
    refine iteF ?_
    walk_at "rd"
    refine rd_ixL (SqL.of hl) (v := .str c.head) (atI_nat (j := 0) rfl) ?_
    refine rd_keyS hb1 ?_
    walk_at "rd"
    refine rd_slL (SqL.of hl) (rd_new fun l2 H2 e2 hl2 _ => ?_)
    rw [show cutV (c.words.map V.str) (some 1) none = c.tail.map V.str from cut_end (xs := c.words.map V.str) (n := 1) (by simp)] at hl2
    refine ⟨b, l2, _, _, rfl, hb2 _, SqL.of hl2, ?_⟩
    refine comp_zipM (xs := c.kinds.map V.str) (ys := c.tail.map V.str) (fun i zs H' => Ext H2 H' ∧ zs = (List.replicate i true).map V.bl) (small_line (by rw [List.length_map]; omega)) ⟨Ext.rfl' _, rfl⟩ (fun i zs H' h => ⟨hb2 _, SqL.of (h.1 _ _ hl2), by rw [h.2]; simp⟩) ?_ ?_
    · rintro i u v zs H3 p H4 hu hv ⟨e3, rfl⟩ e4 hp _
      rw [List.getElem?_map] at hu hv
      obtain ⟨k, hk, rfl⟩ := Option.map_eq_some_iff.mp hu
      obtain ⟨z, hz, rfl⟩ := Option.map_eq_some_iff.mp hv
      obtain ⟨v, _, hw⟩ := k3 i k z hk hz
      refine rd_gtup (SqT.of hp) rfl ?_
      walk_at "rd"
      refine iteT ?_
      walk_at "rd"
      refine ⟨k, z, v, rfl, hw, fun H5 e5 => ?_⟩
      refine ⟨e3.trans (e4.trans e5), ?_⟩
      rw [List.replicate_succ', List.map_append]
      rfl
    · rintro zs H3 p ⟨e3, rfl⟩ hp
      walk_at "rd"
      refine ⟨p, _, rfl, SqL.of upd_same, ?_⟩
      rw [show (List.replicate (min (c.kinds.map V.str).length (c.tail.map V.str).length) true).all id = true by simp]
      exact q _ (e2.trans (e3.trans (ext_upd hp)))
noncomputable def sp_value_of (K : PySem.W.Frag) : Sp := fun vs H Q _ => ∃ k z v, vs = [.str z] ∧ WordIs k z v ∧ ∀ H', Ext H H' → Q v H'
noncomputable abbrev s_value_of : Stmt := stq 110
theorem sc_value_of : FnScope ["word"] ["word"] (defScope s_value_of) := ⟨rfl, rfl, rfl, by decide +kernel, rfl, by decide +kernel, by decide +kernel⟩
theorem ok_value_of {P : Program} {w : World} {K : PySem.W.Frag} {mg : Str → Option Value} {base : Heap} (D : Dfn K mg "value_of" s_value_of ["word"]) (T : Blt mg) (C_is_number_word : Cal P w K mg base "is_number_word" 1 ["word"] (sp_is_number_word K)) : Cal P w K mg base "value_of" 2 ["word"] (sp_value_of K) := by
  have nd := (sc_value_of).nd
  refine D.ok sc_value_of (fun vs H Q E h => ?_) (fun X hX H vs Q E h => ?_)
  · obtain ⟨k, z, v, rfl, _⟩ := h; rfl
  · obtain ⟨f, cdv, A, outer, s, H0, E0, rfl, hr⟩ := hX
    obtain ⟨k, z, v, rfl, hw, q⟩ := h
    have hl := hw.low
    refine ⟨_, (no_implicit_lambda% (pss_one (no_implicit_lambda% (ps_ret (no_implicit_lambda% (pe_ifExp (no_implicit_lambda% (pt_val (no_implicit_lambda% (pe_cal C_is_number_word hr (no_implicit_lambda% (pa_cons (no_implicit_lambda% (pv 0)) pa_nil)))))) (no_implicit_lambda% (pe_callTy call_int_str rfl T.int_ PyProof.Rows.boot_int (no_implicit_lambda% (pa_cons (no_implicit_lambda% (pv 0)) pa_nil)))) (no_implicit_lambda% (pv 0)))))))), ?_⟩
    walk_at "rd"
    refine ⟨z, rfl, by omega, fun H1 e1 => ?_⟩
    rcases hw with ⟨_, n, n1, n12, rfl, rfl⟩ | ⟨_, n, n0, n6, rfl, rfl⟩ | ⟨_, hz, rfl⟩ | ⟨_, hz, rfl⟩
    · rw [num_isW (by omega) (by omega)]
      walk_at "rd"
      refine iteT ?_
      walk_at "rd"
      exact ⟨_, n, rfl, Tx.num_read (by omega) (by omega), by omega, q H1 e1⟩
    · rw [num_isW n0 n6]
      walk_at "rd"
      refine iteT ?_
      walk_at "rd"
      exact ⟨_, n, rfl, Tx.num_read n0 n6, by omega, q H1 e1⟩
    · rw [numW_deed hz]
      walk_at "rd"
      refine iteF ?_
      walk_at "rd"
      exact q H1 e1
    · rw [numW_sign hz]
      walk_at "rd"
      refine iteF ?_
      walk_at "rd"
      exact q H1 e1
noncomputable abbrev HV := Int × List Way
noncomputable def HvAt (H : Hp) (v : V) (h : HV) : Prop := HouseAt H v h.1 h.2 ∧ HOuse h.1 h.2
theorem HvAt.ext {H H' : Hp} {v : V} {h : HV} (e : Ext H H') (x : HvAt H v h) : HvAt H' v h := ⟨x.1.ext e, x.2⟩
noncomputable def Res (K : PySem.W.Frag) (H : Hp) (Q : VK) (E : XK) : Except Str HV → Prop
  | .error nm => ∀ H', Ext H H' → E (.ref (cA K nm)) none H'
  | .ok h => ∀ u H', Ext H H' → HvAt H' u h → Q u H'
noncomputable def wayD (h : HV) (w : Way) : Except Str HV := if ¬(w.room < h.1 ∧ w.other < h.1) then .error "NoPlace" else if w ∈ h.2 then .error "NoWay" else if 100 ≤ h.2.length then .error "TooGreat" else .ok (h.1, h.2 ++ [w])
noncomputable def closeD (h : HV) (w : Way) : Except Str HV := if w ∈ h.2 then .ok (h.1, h.2.filter fun u => decide (u ≠ w)) else .error "NoWay"
theorem WayL.lay {w : Way} (h : WayL w) : w.Lay := by
  constructor
  · rcases h.dd with e | e | e | e <;> rw [e] <;> decide +kernel
  · obtain ⟨c, h1, h2, e⟩ := h.sg
    rw [e]
    exact sign_lay ⟨c, Nat.lt_succ_of_le h2⟩ h1
theorem wayD_ok {h h' : HV} {w : Way} (hh : HOuse h.1 h.2) (wl : WayL w) (e : wayD h w = .ok h') : HOuse h'.1 h'.2 := by
  unfold wayD at e
  split at e
  · cases e
  rename_i h1
  split at e
  · cases e
  rename_i h2
  split at e
  · cases e
  rename_i h3
  cases e
  obtain ⟨r1, o1⟩ := Classical.not_not.mp h1
  refine ⟨hh.m1, hh.m12, by rw [List.length_append, List.length_singleton]; omega, fun u hu => ?_, ?_⟩
  · rcases List.mem_append.mp hu with z | z
    · exact hh.ok u z
    · rw [List.mem_singleton.mp z]
      exact ⟨wl.r0, r1, wl.o0, o1, wl.dd, wl.sg⟩
  · rw [List.nodup_append]
    exact ⟨hh.nd, by simp, fun a ha c hc z => h2 (by rw [← List.mem_singleton.mp hc, ← z]; exact ha)⟩
noncomputable def sp_rooms_deed (K : PySem.W.Frag) : Sp := fun vs H Q _ => ∃ v l n, vs = [v, .ref l] ∧ H l = some (.lst [.int n]) ∧ 1 ≤ n ∧ n ≤ 12 ∧ ∀ u H', Ext H H' → HvAt H' u (n, []) → Q u H'
noncomputable abbrev s_rooms_deed : Stmt := stq 111
theorem sc_rooms_deed : FnScope ["house", "parts"] ["house", "parts"] (defScope s_rooms_deed) := ⟨rfl, rfl, rfl, by decide +kernel, rfl, by decide +kernel, by decide +kernel⟩
theorem ok_rooms_deed {P : Program} {w : World} {K : PySem.W.Frag} {mg : Str → Option Value} {base : Heap} (D : Dfn K mg "rooms_deed" s_rooms_deed ["house", "parts"]) (T : Blt mg) : Cal P w K mg base "rooms_deed" 1 ["house", "parts"] (sp_rooms_deed K) := by
  have nd := (sc_rooms_deed).nd
  refine D.ok sc_rooms_deed (fun vs H Q E h => ?_) (fun X hX H vs Q E h => ?_)
  · obtain ⟨v, l, n, rfl, _⟩ := h; rfl
  · obtain ⟨f, cdv, A, outer, s, H0, E0, rfl, hr⟩ := hX
    obtain ⟨v, l, n, rfl, hl, n1, n12, q⟩ := h
    refine ⟨_, (no_implicit_lambda% (pss_one (no_implicit_lambda% (ps_ret (no_implicit_lambda% (pe_tup (no_implicit_lambda% (pa_cons (no_implicit_lambda% (pe_ix (ix_listK K) (no_implicit_lambda% (pv 1)) pe_int (fun _ _ => rfl))) (no_implicit_lambda% (pa_cons (no_implicit_lambda% (pe_tup pa_nil)) pa_nil)))))))))), ?_⟩
    walk_at "rd"
    refine rd_ixL (SqL.of hl) (v := .int n) (atI_nat (j := 0) rfl) ?_
    walk_at "rd"
    refine ⟨small_line (by simp), rd_new fun t H1 e1 ht _ => ?_⟩
    walk_at "rd"
    refine ⟨small_line (by simp), rd_new fun u H2 e2 hu _ => ?_⟩
    exact q _ H2 (e1.trans e2) ⟨⟨u, t, rfl, hu, [], e2 _ _ ht, rfl, fun j b k h => by simp at h⟩, ⟨n1, n12, Nat.zero_le _, fun w h => (nomatch h), List.nodup_nil⟩⟩
noncomputable def sp_way_deed (K : PySem.W.Frag) : Sp := fun vs H Q E => ∃ v h l w, vs = [v, .ref l] ∧ HvAt H v h ∧ H l = some (.lst (Way.vs w)) ∧ WayL w ∧ Res K H Q E (wayD h w)
noncomputable abbrev s_way_deed : Stmt := stq 112
theorem sc_way_deed : FnScope ["house", "parts", "way"] ["house", "parts"] (defScope s_way_deed) := ⟨rfl, rfl, rfl, by decide +kernel, rfl, by decide +kernel, by decide +kernel⟩
theorem ok_way_deed {P : Program} {w : World} {K : PySem.W.Frag} {mg : Str → Option Value} {base : Heap} (D : Dfn K mg "way_deed" s_way_deed ["house", "parts"]) (T : Blt mg) (g_GREATEST_WAYS : ∃ t, mg "GREATEST_WAYS" = some (.int 100 t)) (XF : Xf K mg base allC raisedC) (C_is_room : Cal P w K mg base "is_room" 2 ["thing", "many"] (sp_is_room K)) : CalX P w K mg base "way_deed" 3 ["house", "parts"] (sp_way_deed K) := by
  have nd := (sc_way_deed).nd
  refine D.okX sc_way_deed (fun vs H Q E h => ?_) (fun f cdv A outer s H vs Q E hr h => ?_)
  · obtain ⟨v, h, l, w, rfl, _⟩ := h; rfl
  · obtain ⟨t_GREATEST_WAYS, c_GREATEST_WAYS⟩ := g_GREATEST_WAYS
    obtain ⟨v, h, l, w, rfl, ⟨hv, ok⟩, hl, wl, r⟩ := h
    obtain ⟨m, ws⟩ := h
    obtain ⟨p, t, rfl, g1, g2⟩ := id hv
    obtain ⟨bs, g3, al⟩ := WaysAt.al g2
    have hfew := ok.few
    refine ⟨_, (no_implicit_lambda% (pss_cons (no_implicit_lambda% (ps_set (i := 2) nd rfl (Or.inl rfl) (no_implicit_lambda% (pe_callTy (call_tupK K) rfl T.tuple_ PyProof.Rows.boot_tuple (no_implicit_lambda% (pa_cons (no_implicit_lambda% (pv 1)) pa_nil))))))
        (no_implicit_lambda% (pss_cons (no_implicit_lambda% (ps_if (no_implicit_lambda% (PW.pt (pw_or (no_implicit_lambda% (pt_not (no_implicit_lambda% (pt_val (no_implicit_lambda% (pe_cal C_is_room hr (no_implicit_lambda% (pa_cons (no_implicit_lambda% (pe_ix (ix_tupK K) (no_implicit_lambda% (pv 2)) pe_int (fun _ _ => rfl))) (no_implicit_lambda% (pa_cons (no_implicit_lambda% (pe_ix (ix_tupK K) (no_implicit_lambda% (pv 0)) pe_int (fun _ _ => rfl))) pa_nil)))))))))) (pw_or1 (no_implicit_lambda% (pt_not (no_implicit_lambda% (pt_val (no_implicit_lambda% (pe_cal C_is_room hr (no_implicit_lambda% (pa_cons (no_implicit_lambda% (pe_ix (ix_tupK K) (no_implicit_lambda% (pv 2)) pe_int (fun _ _ => rfl))) (no_implicit_lambda% (pa_cons (no_implicit_lambda% (pe_ix (ix_tupK K) (no_implicit_lambda% (pv 0)) pe_int (fun _ _ => rfl))) pa_nil)))))))))))))) (no_implicit_lambda% (pss_one (no_implicit_lambda% (ps_raise (XF.own "NoPlace" (by decide +kernel)) PySem.F.excBase_ValueError (no_implicit_lambda% (pa_cons pe_str pa_nil)))))) pss_nil))
        (no_implicit_lambda% (pss_cons (no_implicit_lambda% (ps_if (no_implicit_lambda% (pt_cmpR (op_inT hr) (no_implicit_lambda% (pv 2)) (no_implicit_lambda% (pe_ix (ix_tupK K) (no_implicit_lambda% (pv 0)) pe_int (fun _ _ => rfl))) (by with_unfolding_all rfl))) (no_implicit_lambda% (pss_one (no_implicit_lambda% (ps_raise (XF.own "NoWay" (by decide +kernel)) PySem.F.excBase_ValueError (no_implicit_lambda% (pa_cons pe_str pa_nil)))))) pss_nil))
        (no_implicit_lambda% (pss_cons (no_implicit_lambda% (ps_if (no_implicit_lambda% (pt_cmpR op_ge (no_implicit_lambda% (pe_callB (call_lenK K) rfl T.len_ PySem.boot_len (no_implicit_lambda% (pa_cons (no_implicit_lambda% (pe_ix (ix_tupK K) (no_implicit_lambda% (pv 0)) pe_int (fun _ _ => rfl))) pa_nil)))) (no_implicit_lambda% (pe_glob (v := .int 100) rfl c_GREATEST_WAYS ⟨_, rfl⟩)) (nomark _))) (no_implicit_lambda% (pss_one (no_implicit_lambda% (ps_raise (XF.own "TooGreat" (by decide +kernel)) PySem.F.excBase_ValueError (no_implicit_lambda% (pa_cons (no_implicit_lambda% (pe_fs3 (no_implicit_lambda% (pe_glob (v := .int 100) rfl c_GREATEST_WAYS ⟨_, rfl⟩)))) pa_nil)))))) pss_nil))
        (no_implicit_lambda% (pss_one (no_implicit_lambda% (ps_ret (no_implicit_lambda% (pe_tup (no_implicit_lambda% (pa_cons (no_implicit_lambda% (pe_ix (ix_tupK K) (no_implicit_lambda% (pv 0)) pe_int (fun _ _ => rfl))) (no_implicit_lambda% (pa_cons (no_implicit_lambda% (pe_op op_catT1 (no_implicit_lambda% (pe_ix (ix_tupK K) (no_implicit_lambda% (pv 0)) pe_int (fun _ _ => rfl))) (no_implicit_lambda% (pe_tup (no_implicit_lambda% (pa_cons (no_implicit_lambda% (pv 2)) pa_nil)))))) pa_nil)))))))))))))))))), ?_⟩
    walk_at "rd"
    refine rd_tupL (SqL.of hl) (rd_new fun wt H1 e1 hwt _ => ?_)
    walk_at "rd"
    refine rd_ixT (SqT.of hwt) (v := .int w.room) rfl ?_
    walk_at "rd"
    refine rd_ixT (SqT.of (e1 _ _ g1)) (v := .int m) rfl ?_
    refine ⟨_, _, rfl, ?_⟩
    walk_at "rd"
    rw [decide_eq_true wl.r0, Bool.true_and]
    unfold wayD at r
    by_cases hr : w.room < m
    rotate_left
    · rw [decide_eq_false hr]
      rw [if_pos (fun z => hr z.1)] at r
      refine iteT ?_
      walk_at "rd"
      exact ⟨by decide, r H1 e1⟩
    rw [decide_eq_true hr]
    refine iteF ?_
    walk_at "rd"
    refine rd_ixT (SqT.of hwt) (v := .int w.other) rfl ?_
    walk_at "rd"
    refine rd_ixT (SqT.of (e1 _ _ g1)) (v := .int m) rfl ?_
    refine ⟨_, _, rfl, ?_⟩
    walk_at "rd"
    rw [decide_eq_true wl.o0, Bool.true_and]
    by_cases ho : w.other < m
    rotate_left
    · rw [decide_eq_false ho]
      rw [if_pos (fun z => ho z.2)] at r
      refine iteT ?_
      walk_at "rd"
      exact ⟨by decide, r H1 e1⟩
    rw [decide_eq_true ho]
    refine iteF ?_
    rw [if_neg (fun z => z ⟨hr, ho⟩)] at r
    walk_at "rd"
    refine rd_ixT (SqT.of (e1 _ _ g1)) (v := .ref t) rfl ?_
    refine rd_inT (Way.rep hwt wl.lay) (e1 _ _ g3) ((al.ext e1).reps fun u hu => (ok.ok u hu).lay) (by decide) ?_
    simp only [if_false, any_mem]
    refine rd_exb ?_
    by_cases hm : w ∈ ws
    · rw [decide_eq_true hm]
      rw [if_pos hm] at r
      refine iteT ?_
      walk_at "rd"
      exact ⟨by decide, r H1 e1⟩
    rw [decide_eq_false hm]
    rw [if_neg hm] at r
    refine iteF ?_
    walk_at "rd"
    refine rd_ixT (SqT.of (e1 _ _ g1)) (v := .ref t) rfl ?_
    walk_at "rd"
    refine rd_lenT (SqT.of (e1 _ _ g3)) ?_
    walk_at "rd"
    rw [List.length_map, al.1]
    by_cases h100 : 100 ≤ ws.length
    · rw [decide_eq_true (show (100 : Int) ≤ ((ws.length : Nat) : Int) by omega)]
      rw [if_pos h100] at r
      refine iteT ?_
      walk_at "rd"
      exact ⟨by decide, by decide +kernel, by decide +kernel, fun z => ⟨small_line (by simp), r H1 e1⟩⟩
    rw [decide_eq_false (show ¬ (100 : Int) ≤ ((ws.length : Nat) : Int) by omega)]
    rw [if_neg h100] at r
    refine iteF ?_
    walk_at "rd"
    refine rd_ixT (SqT.of (e1 _ _ g1)) (v := .int m) rfl ?_
    walk_at "rd"
    refine rd_ixT (SqT.of (e1 _ _ g1)) (v := .ref t) rfl ?_
    walk_at "rd"
    refine ⟨small_line (by simp), rd_new fun t2 H2 e2 ht2 _ => ?_⟩
    have e12 := e1.trans e2
    refine rd_catT1 (e12 _ _ g3) ht2 (small_line (by rw [List.length_map, al.1]; simp; omega)) fun t3 H3 e3 ht3 => ?_
    walk_at "rd"
    refine ⟨small_line (by simp), rd_new fun u H4 e4 hu _ => ?_⟩
    have hal : AlW H4 (bs ++ [wt]) (ws ++ [w]) := (al.ext (e12.trans (e3.trans e4))).snoc ((e2.trans (e3.trans e4)) _ _ hwt)
    have ht4 : H4 t3 = some (.tup ((bs ++ [wt]).map V.ref)) := by rw [List.map_append]; exact e4 _ _ ht3
    exact r _ H4 (e12.trans (e3.trans e4)) ⟨HouseAt.mk hu (hal.ways ht4), wayD_ok (h := (m, ws)) ok wl (by unfold wayD; rw [if_neg (fun z => z ⟨hr, ho⟩), if_neg hm, if_neg h100])⟩
theorem closeD_ok {h h' : HV} {w : Way} (hh : HOuse h.1 h.2) (e : closeD h w = .ok h') : HOuse h'.1 h'.2 := by
  unfold closeD at e
  split at e
  · cases e
    exact ⟨hh.m1, hh.m12, Nat.le_trans (List.length_filter_le _ _) hh.few, fun u hu => hh.ok u (List.mem_filter.mp hu).1, List.Pairwise.filter _ hh.nd⟩
  · cases e
noncomputable def sp_close_deed (K : PySem.W.Frag) : Sp := fun vs H Q E => ∃ v h l w, vs = [v, .ref l] ∧ HvAt H v h ∧ H l = some (.lst (Way.vs w)) ∧ WayL w ∧ Res K H Q E (closeD h w)
noncomputable abbrev s_close_deed : Stmt := stq 113
theorem sc_close_deed : FnScope ["house", "parts", "way"] ["house", "parts"] (defScope s_close_deed) := ⟨rfl, rfl, rfl, by decide +kernel, rfl, by decide +kernel, by decide +kernel⟩
theorem ok_close_deed {P : Program} {w : World} {K : PySem.W.Frag} {mg : Str → Option Value} {base : Heap} (D : Dfn K mg "close_deed" s_close_deed ["house", "parts"]) (T : Blt mg) (XF : Xf K mg base allC raisedC) : CalX P w K mg base "close_deed" 1 ["house", "parts"] (sp_close_deed K) := by
  have nd := (sc_close_deed).nd
  refine D.okX sc_close_deed (fun vs H Q E h => ?_) (fun f cdv A outer s H vs Q E hr h => ?_)
  · obtain ⟨v, h, l, w, rfl, _⟩ := h; rfl
  · obtain ⟨v, h, l, w, rfl, ⟨hv, ok⟩, hl, wl, r⟩ := h
    obtain ⟨m, ws⟩ := h
    obtain ⟨p, t, rfl, g1, g2⟩ := id hv
    obtain ⟨bs, g3, al⟩ := WaysAt.al g2
    have hfew := ok.few
    refine ⟨_, (no_implicit_lambda% (pss_cons (no_implicit_lambda% (ps_set (i := 2) nd rfl (Or.inr rfl) (no_implicit_lambda% (pe_callTy (call_tupK K) rfl T.tuple_ PyProof.Rows.boot_tuple (no_implicit_lambda% (pa_cons (no_implicit_lambda% (pv 1)) pa_nil))))))
        (no_implicit_lambda% (pss_cons (no_implicit_lambda% (ps_if (no_implicit_lambda% (pt_cmpR (op_notInT hr) (no_implicit_lambda% (pv 2)) (no_implicit_lambda% (pe_ix (ix_tupK K) (no_implicit_lambda% (pv 0)) pe_int (fun _ _ => rfl))) (by with_unfolding_all rfl))) (no_implicit_lambda% (pss_one (no_implicit_lambda% (ps_raise (XF.own "NoWay" (by decide +kernel)) PySem.F.excBase_ValueError (no_implicit_lambda% (pa_cons pe_str pa_nil)))))) pss_nil))
        (no_implicit_lambda% (pss_one (no_implicit_lambda% (ps_ret (no_implicit_lambda% (pe_tup (no_implicit_lambda% (pa_cons (no_implicit_lambda% (pe_ix (ix_tupK K) (no_implicit_lambda% (pv 0)) pe_int (fun _ _ => rfl))) (no_implicit_lambda% (pa_cons (no_implicit_lambda% (pe_callTy (call_tupK K) rfl T.tuple_ PyProof.Rows.boot_tuple (no_implicit_lambda% (pa_cons (no_implicit_lambda% (pe_compC ["other"] [2] (no_implicit_lambda% (pi_tupK K (no_implicit_lambda% (pe_ix (ix_tupK K) (no_implicit_lambda% (pv 0)) pe_int (fun _ _ => rfl))))) (fun _ => (no_implicit_lambda% (pg_name (i := 0) (show (["other", "way"] : List Str).Nodup from by decide +kernel) rfl (Or.inl rfl) (Or.inr rfl)))) (fun _ => (pcs_one (no_implicit_lambda% (pt_cmpR (op_neD hr) (no_implicit_lambda% (pv 0)) (no_implicit_lambda% (pv 1)) (nomark _))))) (fun _ => (no_implicit_lambda% (pv 0))))) pa_nil)))) pa_nil)))))))))))))), ?_⟩
    walk_at "rd"
    refine rd_tupL (SqL.of hl) (rd_new fun wt H1 e1 hwt _ => ?_)
    walk_at "rd"
    refine rd_ixT (SqT.of (e1 _ _ g1)) (v := .ref t) rfl ?_
    refine rd_inT (Way.rep hwt wl.lay) (e1 _ _ g3) ((al.ext e1).reps fun u hu => (ok.ok u hu).lay) (by decide) ?_
    simp only [if_true, any_mem]
    refine rd_exb ?_
    have okc : ∀ h', closeD (m, ws) w = .ok h' → HOuse h'.1 h'.2 := fun h' => closeD_ok (h := (m, ws)) ok
    unfold closeD at r okc
    by_cases hm : w ∈ ws
    rotate_left
    · rw [decide_eq_false hm]
      rw [if_neg hm] at r
      refine iteT ?_
      walk_at "rd"
      exact ⟨by decide, r H1 e1⟩
    rw [decide_eq_true hm]
    rw [if_pos hm] at r okc
    refine iteF ?_
    walk_at "rd"
    refine rd_ixT (SqT.of (e1 _ _ g1)) (v := .int m) rfl ?_
    walk_at "rd"
    refine rd_ixT (SqT.of (e1 _ _ g1)) (v := .ref t) rfl ?_
    refine rd_iTx (SqT.of (e1 _ _ g3)) ?_
    refine comp_tup (xs := bs.map V.ref) (fun i ys H' => Ext H1 H' ∧ ∃ cs, ys = cs.map V.ref ∧ AlW H' cs ((ws.take i).filter fun u => decide (u ≠ w))) (small9 (by rw [List.length_map, al.1]; omega)) ⟨Ext.rfl' _, [], rfl, AlW.nil _⟩ (fun i ys H' hi h => ⟨SqT.of ((e1.trans h.1) _ _ g3), ?_⟩) ?_ ?_
    · obtain ⟨_, cs, rfl, hc, _⟩ := h
      rw [List.length_map, hc]
      exact Nat.le_trans (List.length_filter_le _ _) (by rw [List.length_take]; exact Nat.min_le_left _ _)
    · rintro i x ys H' hx ⟨e2, cs, rfl, al2⟩
      rw [List.getElem?_map] at hx
      obtain ⟨b, hb, rfl⟩ := Option.map_eq_some_iff.mp hx
      have hi : i < ws.length := by
        rw [← al.1]
        exact (List.getElem?_eq_some_iff.mp hb).1
      have hwi : ws[i]? = some ws[i] := List.getElem?_eq_getElem hi
      have hbw := (e1.trans e2) _ _ (al.2 i b _ hb hwi)
      have hlu := (ok.ok _ (List.getElem_mem hi)).lay
      rw [List.take_add_one, hwi, List.filter_append]
      generalize ws[i] = u at hwi hbw hlu
      walk_at "rd"
      refine ⟨1, 1, _, _, Way.rep hbw hlu, Way.rep (e2 _ _ hwt) wl.lay, by decide, ?_⟩
      rw [Way.eqv]
      simp only [if_true]
      refine rd_exb ?_
      by_cases he : u = w
      · rw [decide_eq_true he]
        refine iteF ?_
        refine ⟨e2, cs, rfl, ?_⟩
        have : List.filter (fun u => decide (u ≠ w)) (some u).toList = [] := by subst he; simp
        rw [this, List.append_nil]
        exact al2
      · rw [decide_eq_false he]
        refine iteT ?_
        walk_at "rd"
        refine ⟨e2, cs ++ [b], by rw [List.map_append]; rfl, ?_⟩
        have : List.filter (fun u => decide (u ≠ w)) (some u).toList = [u] := by simp [he]
        rw [this]
        exact al2.snoc hbw
    · rintro ys H' l2 ⟨e2, cs, rfl, al2⟩ hl2
      rw [List.length_map, al.1, List.take_length] at al2
      walk_at "rd"
      have e3 : Ext H1 (upd H' l2 (.lst (cs.map V.ref))) := e2.trans (ext_upd hl2)
      have al3 := al2.ext (ext_upd (o := .lst (cs.map V.ref)) hl2)
      have hl3 : upd H' l2 (.lst (cs.map V.ref)) l2 = some (.lst (cs.map V.ref)) := upd_same
      generalize upd H' l2 (.lst (cs.map V.ref)) = H4 at e3 al3 hl3 ⊢
      refine rd_tupL (SqL.of hl3) (rd_new fun t2 H5 e5 ht _ => ?_)
      walk_at "rd"
      refine ⟨small_line (by simp), rd_new fun u H6 e6 hu _ => ?_⟩
      exact r _ H6 (e1.trans (e3.trans (e5.trans e6))) ⟨HouseAt.mk hu (((al3.ext e5).ways ht).ext e6), okc _ rfl⟩
noncomputable def sp_turn_deed (K : PySem.W.Frag) : Sp := fun vs H Q _ => ∃ v h p, vs = [v, p] ∧ HvAt H v h ∧ ∀ u H', Ext H H' → HvAt H' u (h.1, h.2.map Way.turn) → Q u H'
noncomputable abbrev s_turn_deed : Stmt := stq 114
theorem sc_turn_deed : FnScope ["house", "parts"] ["house", "parts"] (defScope s_turn_deed) := ⟨rfl, rfl, rfl, by decide +kernel, rfl, by decide +kernel, by decide +kernel⟩
theorem ok_turn_deed {P : Program} {w : World} {K : PySem.W.Frag} {mg : Str → Option Value} {base : Heap} (D : Dfn K mg "turn_deed" s_turn_deed ["house", "parts"]) (T : Blt mg) (C_turned_about : Cal P w K mg base "turned_about" 7 ["house"] (sp_turned_about K)) : Cal P w K mg base "turn_deed" 8 ["house", "parts"] (sp_turn_deed K) := by
  have nd := (sc_turn_deed).nd
  refine D.ok sc_turn_deed (fun vs H Q E h => ?_) (fun X hX H vs Q E h => ?_)
  · obtain ⟨v, h, p, rfl, _⟩ := h; rfl
  · obtain ⟨f, cdv, A, outer, s, H0, E0, rfl, hr⟩ := hX
    obtain ⟨v, h, p, rfl, ⟨hv, ok⟩, q⟩ := h
    refine ⟨_, (no_implicit_lambda% (pss_one (no_implicit_lambda% (ps_ret (no_implicit_lambda% (pe_cal C_turned_about hr (no_implicit_lambda% (pa_cons (no_implicit_lambda% (pv 0)) pa_nil)))))))), ?_⟩
    walk_at "rd"
    exact ⟨v, _, _, rfl, hv, ok, fun u H' e hu => q u H' e ⟨hu, ok.turn⟩⟩
noncomputable def sp_show_ask (K : PySem.W.Frag) : Sp := fun vs H Q _ => ∃ v h p, vs = [v, p] ∧ HvAt H v h ∧ ∀ H', Ext H H' → Q (.str (houseS h.1 h.2)) H'
noncomputable abbrev s_show_ask : Stmt := stq 115
theorem sc_show_ask : FnScope ["house", "parts"] ["house", "parts"] (defScope s_show_ask) := ⟨rfl, rfl, rfl, by decide +kernel, rfl, by decide +kernel, by decide +kernel⟩
theorem ok_show_ask {P : Program} {w : World} {K : PySem.W.Frag} {mg : Str → Option Value} {base : Heap} (D : Dfn K mg "show_ask" s_show_ask ["house", "parts"]) (T : Blt mg) (C_shown_house : Cal P w K mg base "shown_house" 7 ["house"] (sp_shown_house K)) : Cal P w K mg base "show_ask" 8 ["house", "parts"] (sp_show_ask K) := by
  have nd := (sc_show_ask).nd
  refine D.ok sc_show_ask (fun vs H Q E h => ?_) (fun X hX H vs Q E h => ?_)
  · obtain ⟨v, h, p, rfl, _⟩ := h; rfl
  · obtain ⟨f, cdv, A, outer, s, H0, E0, rfl, hr⟩ := hX
    obtain ⟨v, h, p, rfl, ⟨hv, ok⟩, q⟩ := h
    refine ⟨_, (no_implicit_lambda% (pss_one (no_implicit_lambda% (ps_ret (no_implicit_lambda% (pe_cal C_shown_house hr (no_implicit_lambda% (pa_cons (no_implicit_lambda% (pv 0)) pa_nil)))))))), ?_⟩
    walk_at "rd"
    exact ⟨v, _, _, rfl, hv, ok, q⟩
structure Dk where
  cur : HV
  past : List HV
  und : List HV
noncomputable def Dk.doD (d : Dk) (h : HV) : Dk := ⟨h, d.past ++ [d.cur], []⟩
noncomputable def dkF (v : V) (l1 l2 : Addr) : List (Str × V) := putF "undone" (.ref l2) (putF "past" (.ref l1) (putF "house" v []))
theorem nHP : ¬ (("house" : Str) = "past") := by decide +kernel
theorem nHU : ¬ (("house" : Str) = "undone") := by decide +kernel
theorem nPU : ¬ (("past" : Str) = "undone") := by decide +kernel
theorem dkF_eq (v : V) (l1 l2 : Addr) : dkF v l1 l2 = ([("house", v), ("past", .ref l1), ("undone", .ref l2)] : List (Str × V)) := by
  unfold dkF
  show putF "undone" (.ref l2) (putF "past" (.ref l1) ([("house", v)] : List (Str × V))) = _
  rw [show putF "past" (.ref l1) ([("house", v)] : List (Str × V)) = ([("house", v), ("past", .ref l1)] : List (Str × V)) by
    show (if ("house" : Str) = "past" then _ else (("house" : Str), v) :: _) = _
    rw [if_neg nHP]; rfl]
  show (if ("house" : Str) = "undone" then _ else (("house" : Str), v) :: (if ("past" : Str) = "undone" then _ else (("past" : Str), V.ref l1) :: _)) = _
  rw [if_neg nHU, if_neg nPU]
  rfl
theorem dk_house (v : V) (l1 l2 : Addr) : (dkF v l1 l2).lookup ("house" : Str) = some v := by
  unfold dkF
  rw [lookup_putF, if_neg nHU, lookup_putF, if_neg nHP, lookup_putF, if_pos rfl]
theorem dk_past (v : V) (l1 l2 : Addr) : (dkF v l1 l2).lookup ("past" : Str) = some (.ref l1) := by
  unfold dkF
  rw [lookup_putF, if_neg nPU, lookup_putF, if_pos rfl]
theorem dk_undone (v : V) (l1 l2 : Addr) : (dkF v l1 l2).lookup ("undone" : Str) = some (.ref l2) := by
  unfold dkF
  rw [lookup_putF, if_pos rfl]
theorem dk_no (v : V) (l1 l2 : Addr) {m : Str} (h1 : ¬ m = "undone") (h2 : ¬ m = "past") (h3 : ¬ m = "house") : (dkF v l1 l2).lookup m = none := by
  unfold dkF
  rw [lookup_putF, if_neg h1, lookup_putF, if_neg h2, lookup_putF, if_neg h3]
  rfl
theorem dk_len (v : V) (l1 l2 : Addr) : (dkF v l1 l2).length < 1000 := by rw [dkF_eq]; show 3 < 1000; decide
theorem dk_putH (v u : V) (l1 l2 : Addr) : putF "house" u (dkF v l1 l2) = dkF u l1 l2 := by
  rw [dkF_eq, dkF_eq]
  show (if ("house" : Str) = "house" then (("house" : Str), u) :: _ else _) = _
  rw [if_pos rfl]
theorem dk_putU (v : V) (l1 l2 l3 : Addr) : putF "undone" (.ref l3) (dkF v l1 l2) = dkF v l1 l3 := by
  rw [dkF_eq, dkF_eq]
  show (if ("house" : Str) = "undone" then _ else (("house" : Str), v) :: (if ("past" : Str) = "undone" then _ else (("past" : Str), V.ref l1) :: (if ("undone" : Str) = "undone" then (("undone" : Str), V.ref l3) :: _ else _))) = _
  rw [if_neg nHU, if_neg nPU, if_pos rfl]
structure DkAt (K : PySem.W.Frag) (H : Hp) (p l1 l2 : Addr) (d : Dk) : Prop where
  ob : ∃ dx v, H p = some (.ins (cA K "Desk") dx (dkF v l1 l2)) ∧ HvAt H v d.cur
  ps : ∃ vs, H l1 = some (.lst vs) ∧ Paired (HvAt H) vs d.past
  un : ∃ vs, H l2 = some (.lst vs) ∧ Paired (HvAt H) vs d.und
  ne : l1 ≠ l2
noncomputable def Tk (H H' : Hp) : Prop := ∀ b xs, H b = some (.tup xs) → H' b = some (.tup xs)
theorem HvAt.tk {H H' : Hp} {v : V} {h : HV} (e : Tk H H') (x : HvAt H v h) : HvAt H' v h := by
  obtain ⟨⟨p, q, rfl, h1, bs, h2, h3, h4⟩, ok⟩ := x
  exact ⟨⟨p, q, rfl, e _ _ h1, bs, e _ _ h2, h3, fun j b k e1 e2 => e _ _ (h4 j b k e1 e2)⟩, ok⟩
theorem hv_tk {H H' : Hp} (e : Tk H H') {vs : List V} {hs : List HV} (h : Paired (HvAt H) vs hs) : Paired (HvAt H') vs hs := Paired.mapP h fun _ _ x => x.tk e
theorem DkAt.ext {K : PySem.W.Frag} {H H' : Hp} {p l1 l2 : Addr} {d : Dk} (e : Ext H H') (h : DkAt K H p l1 l2 d) : DkAt K H' p l1 l2 d := by
  obtain ⟨⟨dx, v, a1, a2⟩, ⟨vs, b1, b2⟩, ⟨us, c1, c2⟩, ne⟩ := h
  exact ⟨⟨dx, v, e _ _ a1, a2.ext e⟩, ⟨vs, e _ _ b1, hv_tk (fun _ _ z => e _ _ z) b2⟩, ⟨us, e _ _ c1, hv_tk (fun _ _ z => e _ _ z) c2⟩, ne⟩
theorem pr_last {α β : Type} {F : α → β → Prop} {as : List α} {R : List β} {z : β} (h : Paired F as (R ++ [z])) : ∃ as' b, as = as' ++ [b] ∧ Paired F as' R ∧ F b z := by
  induction R generalizing as with
  | nil =>
    cases h with
    | cons a t =>
      cases t
      exact ⟨[], _, rfl, .nil, a⟩
  | cons r R ih =>
    cases h with
    | cons a t =>
      obtain ⟨as', b, rfl, h1, h2⟩ := ih t
      exact ⟨_ :: as', b, rfl, .cons a h1, h2⟩
theorem line17 {n : Nat} (h : n ≤ 24100) : n < sizeLine := Nat.lt_of_le_of_lt h (by decide)
noncomputable def Fr (H H' : Hp) (p l1 l2 : Addr) : Prop := ∀ b o, H b = some o → b ≠ p → b ≠ l1 → b ≠ l2 → H' b = some o
theorem Fr.of {H H' : Hp} {p l1 l2 : Addr} (e : Ext H H') : Fr H H' p l1 l2 := fun b o z _ _ _ => e b o z
noncomputable def sp_Desk_init (K : PySem.W.Frag) : Sp := fun vs H Q _ => ∃ p dx, vs = [.ref p] ∧ H p = some (.ins (cA K "Desk") dx []) ∧ ∀ l1 l2 H', H l1 = none → H l2 = none → DkAt K H' p l1 l2 ⟨(1, []), [], []⟩ → (∀ b o, H b = some o → b ≠ p → H' b = some o) → Q .non H'
noncomputable abbrev s_Desk_init : Stmt := inClass (stq 124) 0
theorem sc_Desk_init : FnScope ["self"] ["self"] (defScope s_Desk_init) := ⟨rfl, rfl, rfl, by decide +kernel, rfl, by decide +kernel, by decide +kernel⟩
theorem ok_Desk_init {P : Program} {w : World} {K : PySem.W.Frag} {mg : Str → Option Value} {base : Heap} {f : Addr} {fd : FuncData} (F : Fun K "__init__" "Desk.__init__" s_Desk_init f fd) (T : Blt mg) (TD : DeskK K mg) : FnOk P w K mg base CX0 1 f fd ["self"] (sp_Desk_init K) := by
  have nd := (sc_Desk_init).nd
  refine F.ok sc_Desk_init (fun vs H Q E h => ?_) (fun cdv A outer s H vs Q E hr h => ?_)
  · obtain ⟨p, dx, rfl, _⟩ := h; rfl
  · obtain ⟨p, dx, rfl, hp, q⟩ := h
    refine ⟨_, (no_implicit_lambda% (pss_cons (no_implicit_lambda% (ps_fld (no_implicit_lambda% (pv 0)) (no_implicit_lambda% (pe_tup (no_implicit_lambda% (pa_cons pe_int (no_implicit_lambda% (pa_cons (no_implicit_lambda% (pe_tup pa_nil)) pa_nil)))))) rfl))
        (no_implicit_lambda% (pss_cons (no_implicit_lambda% (ps_fld (no_implicit_lambda% (pv 0)) (no_implicit_lambda% (pe_lst pa_nil)) rfl))
        (no_implicit_lambda% (pss_one (no_implicit_lambda% (ps_fld (no_implicit_lambda% (pv 0)) (no_implicit_lambda% (pe_lst pa_nil)) rfl)))))))), ?_⟩
    walk_at "rd"
    refine ⟨small_line (by simp), rd_new fun t H1 e1 ht _ => ?_⟩
    walk_at "rd"
    refine ⟨small_line (by simp), rd_new fun u H2 e2 hu _ => ?_⟩
    walk_at "rd"
    have e12 := e1.trans e2
    refine ⟨p, _, dx, _, rfl, e12 _ _ hp, TD.cl, TD.nH, (by decide), ?_⟩
    have hv : HvAt H2 (.ref u) (1, []) := ⟨⟨u, t, rfl, hu, [], e2 _ _ ht, rfl, fun j b k h => by simp at h⟩, ⟨by decide, by decide, Nat.zero_le _, fun w h => (nomatch h), List.nodup_nil⟩⟩
    walk_at "rd"
    refine ⟨small_line (by simp), rd_new fun l1 H4 e4 hl1 hl1n => ?_⟩
    walk_at "rd"
    refine ⟨p, _, dx, _, rfl, e4 _ _ upd_same, TD.cl, TD.nP, (by have := length_putF "house" (V.ref u) []; exact Nat.lt_of_le_of_lt this (by decide)), ?_⟩
    walk_at "rd"
    refine ⟨small_line (by simp), rd_new fun l2 H5 e5 hl2 hl2n => ?_⟩
    walk_at "rd"
    refine ⟨p, _, dx, _, rfl, e5 _ _ upd_same, TD.cl, TD.nU, (by have h1 := length_putF "house" (V.ref u) []; have h2 := length_putF "past" (V.ref l1) (putF "house" (V.ref u) []); have h3 : ([] : List (Str × V)).length = 0 := rfl; omega), ?_⟩
    walk_at "rd"
    have hp2 := e12 _ _ hp
    have n1 : l1 ≠ p := fun e => by rw [e, upd_same] at hl1n; cases hl1n
    have n2 : l2 ≠ p := fun e => by rw [e, upd_same] at hl2n; cases hl2n
    have hl1n2 : H2 l1 = none := by rw [upd_ne n1] at hl1n; exact hl1n
    have hl1H4 : upd H4 p (.ins (cA K "Desk") dx (putF "past" (.ref l1) (putF "house" (.ref u) []))) l1 = some (.lst []) := by rw [upd_ne n1]; exact hl1
    have all : ∀ b o, H2 b = some o → b ≠ p → upd H5 p (.ins (cA K "Desk") dx (putF "undone" (.ref l2) (putF "past" (.ref l1) (putF "house" (.ref u) [])))) b = some o := fun b o z nb => by
      rw [upd_ne nb]
      refine e5 _ _ ?_
      rw [upd_ne nb]
      refine e4 _ _ ?_
      rw [upd_ne nb]
      exact z
    have n3 : l1 ≠ l2 := fun e => by rw [← e, hl1H4] at hl2n; cases hl2n
    refine q l1 l2 _ (e12.none hl1n2) ?_ ⟨⟨dx, .ref u, upd_same, hv.tk fun b xs z => all b _ z (ne_of z hp2 (by intro z; cases z))⟩, ⟨[], by rw [upd_ne n1]; exact e5 _ _ hl1H4, .nil⟩, ⟨[], by rw [upd_ne n2]; exact hl2, .nil⟩, n3⟩ fun b o hb hne => all b o (e12 _ _ hb) hne
    refine e12.none ?_
    rw [upd_ne n2] at hl2n
    have := e4.none hl2n
    rwa [upd_ne n2] at this
noncomputable def sp_Desk_do (K : PySem.W.Frag) : Sp := fun vs H Q _ => ∃ p l1 l2 d v h, vs = [.ref p, v] ∧ DkAt K H p l1 l2 d ∧ HvAt H v h ∧ d.past.length ≤ 10000 ∧ ∀ l3 H', H l3 = none → DkAt K H' p l1 l3 (d.doD h) → Fr H H' p l1 l2 → Q .non H'
noncomputable abbrev s_Desk_do : Stmt := inClass (stq 124) 2
theorem sc_Desk_do : FnScope ["self", "house"] ["self", "house"] (defScope s_Desk_do) := ⟨rfl, rfl, rfl, by decide +kernel, rfl, by decide +kernel, by decide +kernel⟩
theorem ok_Desk_do {P : Program} {w : World} {K : PySem.W.Frag} {mg : Str → Option Value} {base : Heap} (D : MDfn K (cA K "Desk") "do" "Desk.do" s_Desk_do ["self", "house"]) (T : Blt mg) (TD : DeskK K mg) : MetX P w K mg base (cA K "Desk") "do" 1 ["self", "house"] (sp_Desk_do K) := by
  have nd := (sc_Desk_do).nd
  refine D.okX sc_Desk_do (fun vs H Q E h => ?_) (fun f cdv A outer s H vs Q E hr h => ?_)
  · obtain ⟨p, l1, l2, d, v, h, rfl, _⟩ := h; rfl
  · obtain ⟨p, l1, l2, d, v, h, rfl, D, hv, hl, q⟩ := h
    obtain ⟨⟨dx, c, a1, a2⟩, ⟨vs, b1, b2⟩, ⟨us, c1, c2⟩, ne⟩ := id D
    have npl : p ≠ l1 := ne_of a1 b1 (by intro z; cases z)
    have vl := Paired.length b2
    refine ⟨_, (no_implicit_lambda% (pss_cons (no_implicit_lambda% (ps_expr (no_implicit_lambda% (pe_bmK K PySem.F.plainAttrs_list PySem.F.slot_list_append PySem.F.type_list_append mt_append (no_implicit_lambda% (pe_fld (no_implicit_lambda% (pv 0)) rfl)) (no_implicit_lambda% (pa_cons (no_implicit_lambda% (pe_fld (no_implicit_lambda% (pv 0)) rfl)) pa_nil))))))
        (no_implicit_lambda% (pss_cons (no_implicit_lambda% (ps_fld (no_implicit_lambda% (pv 0)) (no_implicit_lambda% (pv 1)) rfl))
        (no_implicit_lambda% (pss_one (no_implicit_lambda% (ps_fld (no_implicit_lambda% (pv 0)) (no_implicit_lambda% (pe_lst pa_nil)) rfl)))))))), ?_⟩
    walk_at "rd"
    refine ⟨p, _, dx, _, _, rfl, a1, TD.cl, TD.nP, dk_past _ _ _, ?_⟩
    refine ⟨rd_tyL (SqL.of b1), ?_⟩
    walk_at "rd"
    refine ⟨p, _, dx, _, _, rfl, a1, TD.cl, TD.nH, dk_house _ _ _, ?_⟩
    walk_at "rd"
    refine rd_append b1 (line17 (by omega)) ?_
    walk_at "rd"
    have ap : upd H l1 (.lst (vs ++ [c])) p = some (.ins (cA K "Desk") dx (dkF c l1 l2)) := by rw [upd_ne npl]; exact a1
    refine ⟨p, _, dx, _, rfl, ap, TD.cl, TD.nH, dk_len _ _ _, ?_⟩
    rw [dk_putH]
    walk_at "rd"
    refine ⟨small_line (by simp), rd_new fun l3 H3 e3 hl3 hl3n => ?_⟩
    walk_at "rd"
    refine ⟨p, _, dx, _, rfl, e3 _ _ upd_same, TD.cl, TD.nU, dk_len _ _ _, ?_⟩
    rw [dk_putU]
    have n1 : l3 ≠ p := fun e => by rw [e, upd_same] at hl3n; cases hl3n
    have n2 : l3 ≠ l1 := fun e => by rw [e, upd_ne npl.symm, upd_same] at hl3n; cases hl3n
    have all : ∀ b o, H b = some o → b ≠ p → b ≠ l1 → upd H3 p (.ins (cA K "Desk") dx (dkF v l1 l3)) b = some o := fun b o z nb nl => by
      rw [upd_ne nb]
      refine e3 _ _ ?_
      rw [upd_ne nb, upd_ne nl]
      exact z
    have tk : Tk H (upd H3 p (.ins (cA K "Desk") dx (dkF v l1 l3))) := fun b xs z => all b _ z (ne_of z a1 (by intro z; cases z)) (ne_of z b1 (by intro z; cases z))
    refine q l3 _ ?_ ⟨⟨dx, v, upd_same, hv.tk tk⟩, ⟨vs ++ [c], ?_, Paired.snoc (hv_tk tk b2) (a2.tk tk)⟩, ⟨[], by rw [upd_ne n1]; exact hl3, .nil⟩, n2.symm⟩ fun b o z n1 n2 _ => all b o z n1 n2
    · rw [upd_ne n1, upd_ne n2] at hl3n
      exact hl3n
    · rw [upd_ne npl.symm]
      refine e3 _ _ ?_
      rw [upd_ne npl.symm, upd_same]
noncomputable def sp_Desk_undo (K : PySem.W.Frag) : Sp := fun vs H Q E => ∃ p l1 l2 d, vs = [.ref p] ∧ DkAt K H p l1 l2 d ∧ d.und.length ≤ 10000 ∧ (d.past = [] → ∀ H', Ext H H' → E (.ref (cA K "NoDeed")) none H') ∧
  ∀ ps h, d.past = ps ++ [h] → ∀ H', DkAt K H' p l1 l2 ⟨h, ps, d.und ++ [d.cur]⟩ → Fr H H' p l1 l2 → Q .non H'
noncomputable abbrev s_Desk_undo : Stmt := inClass (stq 124) 3
theorem sc_Desk_undo : FnScope ["self"] ["self"] (defScope s_Desk_undo) := ⟨rfl, rfl, rfl, by decide +kernel, rfl, by decide +kernel, by decide +kernel⟩
theorem ok_Desk_undo {P : Program} {w : World} {K : PySem.W.Frag} {mg : Str → Option Value} {base : Heap} (D : MDfn K (cA K "Desk") "undo" "Desk.undo" s_Desk_undo ["self"]) (T : Blt mg) (XF : Xf K mg base allC raisedC) (TD : DeskK K mg) : MetX P w K mg base (cA K "Desk") "undo" 1 ["self"] (sp_Desk_undo K) := by
  have nd := (sc_Desk_undo).nd
  refine D.okX sc_Desk_undo (fun vs H Q E h => ?_) (fun f cdv A outer s H vs Q E hr h => ?_)
  · obtain ⟨p, l1, l2, d, rfl, _⟩ := h; rfl
  · obtain ⟨p, l1, l2, d, rfl, D, hl, qe, q⟩ := h
    obtain ⟨⟨dx, c, a1, a2⟩, ⟨vs, b1, b2⟩, ⟨us, c1, c2⟩, ne⟩ := id D
    have npl : p ≠ l1 := ne_of a1 b1 (by intro z; cases z)
    have npu : p ≠ l2 := ne_of a1 c1 (by intro z; cases z)
    have ul := Paired.length c2
    refine ⟨_, (no_implicit_lambda% (pss_cons (no_implicit_lambda% (ps_if (no_implicit_lambda% (pt_not (no_implicit_lambda% (pt_truthK K (no_implicit_lambda% (pe_fld (no_implicit_lambda% (pv 0)) rfl)) (fun _ => rfl))))) (no_implicit_lambda% (pss_one (no_implicit_lambda% (ps_raise (XF.own "NoDeed" (by decide +kernel)) PySem.F.excBase_ValueError (no_implicit_lambda% (pa_cons pe_str pa_nil)))))) pss_nil))
        (no_implicit_lambda% (pss_cons (no_implicit_lambda% (ps_expr (no_implicit_lambda% (pe_bmK K PySem.F.plainAttrs_list PySem.F.slot_list_append PySem.F.type_list_append mt_append (no_implicit_lambda% (pe_fld (no_implicit_lambda% (pv 0)) rfl)) (no_implicit_lambda% (pa_cons (no_implicit_lambda% (pe_fld (no_implicit_lambda% (pv 0)) rfl)) pa_nil))))))
        (no_implicit_lambda% (pss_one (no_implicit_lambda% (ps_fld (no_implicit_lambda% (pv 0)) (no_implicit_lambda% (pe_bm0K K PySem.F.plainAttrs_list PySem.F.slot_list_pop PySem.F.type_list_pop mt_pop (no_implicit_lambda% (pe_fld (no_implicit_lambda% (pv 0)) rfl)))) rfl)))))))), ?_⟩
    walk_at "rd"
    refine ⟨p, _, dx, _, _, rfl, a1, TD.cl, TD.nP, dk_past _ _ _, ?_⟩
    by_cases h0 : d.past = []
    · have : vs = [] := by rw [h0] at b2; cases b2; rfl
      subst this
      refine ⟨false, .inl ⟨_, SqL.of b1, rfl⟩, ?_⟩
      refine iteT ?_
      walk_at "rd"
      exact ⟨by decide, qe h0 _ (Ext.rfl' _)⟩
    obtain ⟨ps, h, hp⟩ : ∃ ps h, d.past = ps ++ [h] := ⟨d.past.dropLast, d.past.getLast h0, (List.dropLast_concat_getLast h0).symm⟩
    have q := q ps h hp
    rw [hp] at b2
    obtain ⟨vs', w, rfl, b3, b4⟩ : ∃ vs' w, vs = vs' ++ [w] ∧ Paired (HvAt H) vs' ps ∧ HvAt H w h := pr_last b2
    refine ⟨true, .inl ⟨_, SqL.of b1, by simp⟩, ?_⟩
    refine iteF ?_
    walk_at "rd"
    refine ⟨p, _, dx, _, _, rfl, a1, TD.cl, TD.nU, dk_undone _ _ _, ?_⟩
    refine ⟨rd_tyL (SqL.of c1), ?_⟩
    walk_at "rd"
    refine ⟨p, _, dx, _, _, rfl, a1, TD.cl, TD.nH, dk_house _ _ _, ?_⟩
    walk_at "rd"
    refine rd_append c1 (line17 (by omega)) ?_
    walk_at "rd"
    have a3 : upd H l2 (.lst (us ++ [c])) p = some (.ins (cA K "Desk") dx (dkF c l1 l2)) := by rw [upd_ne npu]; exact a1
    have b5 : upd H l2 (.lst (us ++ [c])) l1 = some (.lst (vs' ++ [w])) := by rw [upd_ne ne]; exact b1
    refine ⟨p, _, dx, _, _, rfl, a3, TD.cl, TD.nP, dk_past _ _ _, ?_⟩
    refine ⟨rd_tyL (SqL.of b5), ?_⟩
    walk_at "rd"
    refine ⟨l1, _, w, rfl, rfl, b5, by rw [List.length_append, List.length_singleton, Nat.add_sub_cancel, List.getElem?_append_right (Nat.le_refl _), Nat.sub_self]; rfl, ?_⟩
    rw [List.dropLast_concat]
    walk_at "rd"
    have a4 : upd (upd H l2 (.lst (us ++ [c]))) l1 (.lst vs') p = some (.ins (cA K "Desk") dx (dkF c l1 l2)) := by rw [upd_ne npl]; exact a3
    refine ⟨p, _, dx, _, rfl, a4, TD.cl, TD.nH, dk_len _ _ _, ?_⟩
    rw [dk_putH]
    have all : ∀ b o, H b = some o → b ≠ p → b ≠ l1 → b ≠ l2 → upd (upd (upd H l2 (.lst (us ++ [c]))) l1 (.lst vs')) p (.ins (cA K "Desk") dx (dkF w l1 l2)) b = some o := fun b o z n1 n2 n3 => by rw [upd_ne n1, upd_ne n2, upd_ne n3]; exact z
    have tk : Tk H (upd (upd (upd H l2 (.lst (us ++ [c]))) l1 (.lst vs')) p (.ins (cA K "Desk") dx (dkF w l1 l2))) := fun b xs z => all b _ z (ne_of z a1 (by intro z; cases z)) (ne_of z b1 (by intro z; cases z)) (ne_of z c1 (by intro z; cases z))
    exact q _ ⟨⟨dx, w, upd_same, b4.tk tk⟩, ⟨vs', by rw [upd_ne npl.symm, upd_same], hv_tk tk b3⟩, ⟨us ++ [c], by rw [upd_ne npu.symm, upd_ne ne.symm, upd_same], Paired.snoc (hv_tk tk c2) (a2.tk tk)⟩, ne⟩ all
noncomputable def sp_Desk_redo (K : PySem.W.Frag) : Sp := fun vs H Q E => ∃ p l1 l2 d, vs = [.ref p] ∧ DkAt K H p l1 l2 d ∧ d.past.length ≤ 10000 ∧ (d.und = [] → ∀ H', Ext H H' → E (.ref (cA K "NoDeed")) none H') ∧
  ∀ us h, d.und = us ++ [h] → ∀ H', DkAt K H' p l1 l2 ⟨h, d.past ++ [d.cur], us⟩ → Fr H H' p l1 l2 → Q .non H'
noncomputable abbrev s_Desk_redo : Stmt := inClass (stq 124) 4
theorem sc_Desk_redo : FnScope ["self"] ["self"] (defScope s_Desk_redo) := ⟨rfl, rfl, rfl, by decide +kernel, rfl, by decide +kernel, by decide +kernel⟩
theorem ok_Desk_redo {P : Program} {w : World} {K : PySem.W.Frag} {mg : Str → Option Value} {base : Heap} (D : MDfn K (cA K "Desk") "redo" "Desk.redo" s_Desk_redo ["self"]) (T : Blt mg) (XF : Xf K mg base allC raisedC) (TD : DeskK K mg) : MetX P w K mg base (cA K "Desk") "redo" 1 ["self"] (sp_Desk_redo K) := by
  have nd := (sc_Desk_redo).nd
  refine D.okX sc_Desk_redo (fun vs H Q E h => ?_) (fun f cdv A outer s H vs Q E hr h => ?_)
  · obtain ⟨p, l1, l2, d, rfl, _⟩ := h; rfl
  · obtain ⟨p, l1, l2, d, rfl, D, hl, qe, q⟩ := h
    obtain ⟨⟨dx, c, a1, a2⟩, ⟨us, b1, b2⟩, ⟨vs, c1, c2⟩, ne⟩ := id D
    have npl : p ≠ l1 := ne_of a1 b1 (by intro z; cases z)
    have npu : p ≠ l2 := ne_of a1 c1 (by intro z; cases z)
    have ul := Paired.length b2
    refine ⟨_, (no_implicit_lambda% (pss_cons (no_implicit_lambda% (ps_if (no_implicit_lambda% (pt_not (no_implicit_lambda% (pt_truthK K (no_implicit_lambda% (pe_fld (no_implicit_lambda% (pv 0)) rfl)) (fun _ => rfl))))) (no_implicit_lambda% (pss_one (no_implicit_lambda% (ps_raise (XF.own "NoDeed" (by decide +kernel)) PySem.F.excBase_ValueError (no_implicit_lambda% (pa_cons pe_str pa_nil)))))) pss_nil))
        (no_implicit_lambda% (pss_cons (no_implicit_lambda% (ps_expr (no_implicit_lambda% (pe_bmK K PySem.F.plainAttrs_list PySem.F.slot_list_append PySem.F.type_list_append mt_append (no_implicit_lambda% (pe_fld (no_implicit_lambda% (pv 0)) rfl)) (no_implicit_lambda% (pa_cons (no_implicit_lambda% (pe_fld (no_implicit_lambda% (pv 0)) rfl)) pa_nil))))))
        (no_implicit_lambda% (pss_one (no_implicit_lambda% (ps_fld (no_implicit_lambda% (pv 0)) (no_implicit_lambda% (pe_bm0K K PySem.F.plainAttrs_list PySem.F.slot_list_pop PySem.F.type_list_pop mt_pop (no_implicit_lambda% (pe_fld (no_implicit_lambda% (pv 0)) rfl)))) rfl)))))))), ?_⟩
    walk_at "rd"
    refine ⟨p, _, dx, _, _, rfl, a1, TD.cl, TD.nU, dk_undone _ _ _, ?_⟩
    by_cases h0 : d.und = []
    · have : vs = [] := by rw [h0] at c2; cases c2; rfl
      subst this
      refine ⟨false, .inl ⟨_, SqL.of c1, rfl⟩, ?_⟩
      refine iteT ?_
      walk_at "rd"
      exact ⟨by decide, qe h0 _ (Ext.rfl' _)⟩
    obtain ⟨ps, h, hp⟩ : ∃ ps h, d.und = ps ++ [h] := ⟨d.und.dropLast, d.und.getLast h0, (List.dropLast_concat_getLast h0).symm⟩
    have q := q ps h hp
    rw [hp] at c2
    obtain ⟨vs', w, rfl, c3, c4⟩ : ∃ vs' w, vs = vs' ++ [w] ∧ Paired (HvAt H) vs' ps ∧ HvAt H w h := pr_last c2
    refine ⟨true, .inl ⟨_, SqL.of c1, by simp⟩, ?_⟩
    refine iteF ?_
    walk_at "rd"
    refine ⟨p, _, dx, _, _, rfl, a1, TD.cl, TD.nP, dk_past _ _ _, ?_⟩
    refine ⟨rd_tyL (SqL.of b1), ?_⟩
    walk_at "rd"
    refine ⟨p, _, dx, _, _, rfl, a1, TD.cl, TD.nH, dk_house _ _ _, ?_⟩
    walk_at "rd"
    refine rd_append b1 (line17 (by omega)) ?_
    walk_at "rd"
    have a3 : upd H l1 (.lst (us ++ [c])) p = some (.ins (cA K "Desk") dx (dkF c l1 l2)) := by rw [upd_ne npl]; exact a1
    have c5 : upd H l1 (.lst (us ++ [c])) l2 = some (.lst (vs' ++ [w])) := by rw [upd_ne ne.symm]; exact c1
    refine ⟨p, _, dx, _, _, rfl, a3, TD.cl, TD.nU, dk_undone _ _ _, ?_⟩
    refine ⟨rd_tyL (SqL.of c5), ?_⟩
    walk_at "rd"
    refine ⟨l2, _, w, rfl, rfl, c5, by rw [List.length_append, List.length_singleton, Nat.add_sub_cancel, List.getElem?_append_right (Nat.le_refl _), Nat.sub_self]; rfl, ?_⟩
    rw [List.dropLast_concat]
    walk_at "rd"
    have a4 : upd (upd H l1 (.lst (us ++ [c]))) l2 (.lst vs') p = some (.ins (cA K "Desk") dx (dkF c l1 l2)) := by rw [upd_ne npu]; exact a3
    refine ⟨p, _, dx, _, rfl, a4, TD.cl, TD.nH, dk_len _ _ _, ?_⟩
    rw [dk_putH]
    have all : ∀ b o, H b = some o → b ≠ p → b ≠ l1 → b ≠ l2 → upd (upd (upd H l1 (.lst (us ++ [c]))) l2 (.lst vs')) p (.ins (cA K "Desk") dx (dkF w l1 l2)) b = some o := fun b o z n1 n2 n3 => by rw [upd_ne n1, upd_ne n3, upd_ne n2]; exact z
    have tk : Tk H (upd (upd (upd H l1 (.lst (us ++ [c]))) l2 (.lst vs')) p (.ins (cA K "Desk") dx (dkF w l1 l2))) := fun b xs z => all b _ z (ne_of z a1 (by intro z; cases z)) (ne_of z b1 (by intro z; cases z)) (ne_of z c1 (by intro z; cases z))
    exact q _ ⟨⟨dx, w, upd_same, c4.tk tk⟩, ⟨us ++ [c], by rw [upd_ne npl.symm, upd_ne ne, upd_same], Paired.snoc (hv_tk tk b2) (a2.tk tk)⟩, ⟨vs', by rw [upd_ne npu.symm, upd_same], hv_tk tk c3⟩, ne⟩ all
noncomputable def tellD (d : Dk) : Cmd → Except Str (Str × Dk)
  | .rooms n => .ok (houseS n [], d.doD (n, []))
  | .way w => match wayD d.cur w with
    | .error z => .error z
    | .ok h => .ok (houseS h.1 h.2, d.doD h)
  | .close w => match closeD d.cur w with
    | .error z => .error z
    | .ok h => .ok (houseS h.1 h.2, d.doD h)
  | .turn => .ok (houseS d.cur.1 (d.cur.2.map Way.turn), d.doD (d.cur.1, d.cur.2.map Way.turn))
  | .undo => match d.past.getLast? with
    | none => .error "NoDeed"
    | some h => .ok (houseS h.1 h.2, ⟨h, d.past.dropLast, d.und ++ [d.cur]⟩)
  | .redo => match d.und.getLast? with
    | none => .error "NoDeed"
    | some h => .ok (houseS h.1 h.2, ⟨h, d.past ++ [d.cur], d.und.dropLast⟩)
  | .show => .ok (houseS d.cur.1 d.cur.2, d)
noncomputable def gd_DEEDS (K : PySem.W.Frag) : List (Key × V) := [(.inr "rooms", .ref (cA K "rooms_deed")), (.inr "way", .ref (cA K "way_deed")), (.inr "close", .ref (cA K "close_deed")), (.inr "turn", .ref (cA K "turn_deed"))]
noncomputable def gd_ASKS (K : PySem.W.Frag) : List (Key × V) := [(.inr "show", .ref (cA K "show_ask")), (.inr "reach", .ref (cA K "reach_ask")), (.inr "forward", .ref (cA K "forward_ask")), (.inr "backward", .ref (cA K "backward_ask")), (.inr "most", .ref (cA K "most_ask")), (.inr "fate", .ref (cA K "fate_ask")), (.inr "word", .ref (cA K "word_ask"))]
theorem asks_no {K : PySem.W.Frag} {z : Str} (h : z ∈ (["rooms", "way", "close", "turn", "undo", "redo"] : List Str)) : valV (gd_ASKS K) (.inr z) = none := by
  have n : ∀ y ∈ (["show", "reach", "forward", "backward", "most", "fate", "word"] : List Str), ∀ z ∈ (["rooms", "way", "close", "turn", "undo", "redo"] : List Str), y ≠ z := by decide +kernel
  unfold gd_ASKS
  repeat rw [valV_neg (fun e => n _ (by simp) z h (Sum.inr.inj e))]
  rfl
theorem deeds_at (K : PySem.W.Frag) : valV (gd_DEEDS K) (.inr "rooms") = some (.ref (cA K "rooms_deed")) ∧ valV (gd_DEEDS K) (.inr "way") = some (.ref (cA K "way_deed")) ∧ valV (gd_DEEDS K) (.inr "close") = some (.ref (cA K "close_deed")) ∧ valV (gd_DEEDS K) (.inr "turn") = some (.ref (cA K "turn_deed")) := by
  have n : ("rooms" : Str) ≠ "way" ∧ ("rooms" : Str) ≠ "close" ∧ ("rooms" : Str) ≠ "turn" ∧ ("way" : Str) ≠ "close" ∧ ("way" : Str) ≠ "turn" ∧ ("close" : Str) ≠ "turn" := by decide +kernel
  obtain ⟨n1, n2, n3, n4, n5, n6⟩ := n
  unfold gd_DEEDS
  refine ⟨valV_pos rfl, ?_, ?_, ?_⟩
  · rw [valV_neg (fun e => n1 (Sum.inr.inj e)), valV_pos rfl]
  · rw [valV_neg (fun e => n2 (Sum.inr.inj e)), valV_neg (fun e => n4 (Sum.inr.inj e)), valV_pos rfl]
  · rw [valV_neg (fun e => n3 (Sum.inr.inj e)), valV_neg (fun e => n5 (Sum.inr.inj e)), valV_neg (fun e => n6 (Sum.inr.inj e)), valV_pos rfl]
noncomputable def Told (K : PySem.W.Frag) (H : Hp) (p l1 l2 : Addr) (Q : VK) (E : XK) : Except Str (Str × Dk) → Prop
  | .error nm => ∀ H', Ext H H' → E (.ref (cA K nm)) none H'
  | .ok (z, d') => ∀ l3 H', (l3 = l2 ∨ H l3 = none) → DkAt K H' p l1 l3 d' → Fr H H' p l1 l2 → Q (.str z) H'
noncomputable def sp_Desk_tell (K : PySem.W.Frag) : Sp := fun vs H Q E => ∃ p l1 l2 d c, vs = [.ref p, .str (Cmd.line c)] ∧ DkAt K H p l1 l2 d ∧ c.Ok ∧ d.past.length ≤ 10000 ∧ d.und.length ≤ 10000 ∧ Told K H p l1 l2 Q E (tellD d c)
noncomputable abbrev s_Desk_tell : Stmt := inClass (stq 124) 1
theorem sc_Desk_tell : FnScope ["self", "line", "words", "parts"] ["self", "line"] (defScope s_Desk_tell) := ⟨rfl, rfl, rfl, by decide +kernel, rfl, by decide +kernel, by decide +kernel⟩
theorem ok_Desk_tell {P : Program} {w : World} {K : PySem.W.Frag} {mg : Str → Option Value} {base : Heap} (D : MDfn K (cA K "Desk") "tell" "Desk.tell" s_Desk_tell ["self", "line"]) (T : Blt mg) (g_DEEDS : ∃ a, mg "DEEDS" = some (.ref a) ∧ GDict w K a (gd_DEEDS K)) (g_ASKS : ∃ a, mg "ASKS" = some (.ref a) ∧ GDict w K a (gd_ASKS K)) (XF : Xf K mg base allC raisedC) (TD : DeskK K mg) (MX_Desk_undo : MetX P w K mg base (cA K "Desk") "undo" 1 ["self"] (sp_Desk_undo K)) (MX_Desk_redo : MetX P w K mg base (cA K "Desk") "redo" 1 ["self"] (sp_Desk_redo K)) (MX_Desk_do : MetX P w K mg base (cA K "Desk") "do" 1 ["self", "house"] (sp_Desk_do K)) (C_shown_house : Cal P w K mg base "shown_house" 7 ["house"] (sp_shown_house K)) (C_rooms_deed : Cal P w K mg base "rooms_deed" 1 ["house", "parts"] (sp_rooms_deed K)) (C_turn_deed : Cal P w K mg base "turn_deed" 8 ["house", "parts"] (sp_turn_deed K)) (C_show_ask : Cal P w K mg base "show_ask" 8 ["house", "parts"] (sp_show_ask K)) (C_value_of : Cal P w K mg base "value_of" 2 ["word"] (sp_value_of K)) (C_is_line : Cal P w K mg base "is_line" 3 ["words"] (sp_is_line K)) (CX_way_deed : CalX P w K mg base "way_deed" 3 ["house", "parts"] (sp_way_deed K)) (CX_close_deed : CalX P w K mg base "close_deed" 1 ["house", "parts"] (sp_close_deed K)) : MetX P w K mg base (cA K "Desk") "tell" 9 ["self", "line"] (sp_Desk_tell K) := by
  have nd := (sc_Desk_tell).nd
  refine D.okX sc_Desk_tell (fun vs H Q E h => ?_) (fun f cdv A outer s H vs Q E hr h => ?_)
  · obtain ⟨p, l1, l2, d, c, rfl, _⟩ := h; rfl
  · obtain ⟨a_DEEDS, m_DEEDS, d_DEEDS⟩ := g_DEEDS
    obtain ⟨a_ASKS, m_ASKS, d_ASKS⟩ := g_ASKS
    obtain ⟨p, l1, l2, d, c, rfl, D, ok, f1, f2, r⟩ := h
    obtain ⟨k1, k2, k3⟩ := Cmd.at_ ok
    obtain ⟨k4, _⟩ := Cmd.tail_low ok
    have hll := Cmd.line_len ok
    refine ⟨_, (no_implicit_lambda% (pss_cons (no_implicit_lambda% (ps_set (i := 2) nd rfl (Or.inl rfl) (no_implicit_lambda% (pe_bmK K PySem.F.plainAttrs_str PySem.F.slot_str_split PySem.F.type_str_split mt_split (no_implicit_lambda% (pv 1)) (no_implicit_lambda% (pa_cons pe_str pa_nil))))))
        (no_implicit_lambda% (pss_cons (no_implicit_lambda% (ps_if (no_implicit_lambda% (pt_not (no_implicit_lambda% (pt_val (no_implicit_lambda% (pe_cal C_is_line hr (no_implicit_lambda% (pa_cons (no_implicit_lambda% (pv 2)) pa_nil)))))))) (no_implicit_lambda% (pss_one (no_implicit_lambda% (ps_raise (XF.own "NoLine" (by decide +kernel)) PySem.F.excBase_ValueError (no_implicit_lambda% (pa_cons pe_str pa_nil)))))) pss_nil))
        (no_implicit_lambda% (pss_cons (no_implicit_lambda% (ps_setCompC (i := 3) ["word"] [] nd rfl (Or.inl rfl) (no_implicit_lambda% (pi_listK K (no_implicit_lambda% (pe_slice (sl_listK K) (no_implicit_lambda% (pv 2)) (po_some pe_int) po_none)))) (fun _ => (no_implicit_lambda% (pg_name (i := 0) (show (["word"] : List Str).Nodup from by decide +kernel) rfl (Or.inl rfl) (Or.inr rfl)))) (fun _ => pcs_nil) (fun _ => (no_implicit_lambda% (pe_cal C_value_of hr (no_implicit_lambda% (pa_cons (no_implicit_lambda% (pv 0)) pa_nil)))))))
        (no_implicit_lambda% (pss_cons (no_implicit_lambda% (ps_if (no_implicit_lambda% (pt_cmp (pc_gin rfl m_ASKS d_ASKS (no_implicit_lambda% (pe_ix (ix_listK K) (no_implicit_lambda% (pv 2)) pe_int (fun _ _ => rfl)))) (by with_unfolding_all rfl))) (no_implicit_lambda% (pss_one (no_implicit_lambda% (ps_ret (no_implicit_lambda% (pe_calS hr (pe_gget rfl m_ASKS d_ASKS (no_implicit_lambda% (pe_ix (ix_listK K) (no_implicit_lambda% (pv 2)) pe_int (fun _ _ => rfl))) (fun _ _ => rfl)) (no_implicit_lambda% (pa_cons (no_implicit_lambda% (pe_fld (no_implicit_lambda% (pv 0)) rfl)) (no_implicit_lambda% (pa_cons (no_implicit_lambda% (pv 3)) pa_nil)))))))))) pss_nil))
        (no_implicit_lambda% (pss_cons (no_implicit_lambda% (ps_ifJ (no_implicit_lambda% (pt_cmpR op_eq (no_implicit_lambda% (pe_ix (ix_listK K) (no_implicit_lambda% (pv 2)) pe_int (fun _ _ => rfl))) pe_str (nomark _))) (no_implicit_lambda% (pss_one (no_implicit_lambda% (ps_expr (no_implicit_lambda% (pe_metX0 MX_Desk_undo TD.cl hr (no_implicit_lambda% (pv 0)))))))) (no_implicit_lambda% (pss_one (no_implicit_lambda% (ps_ifJ (no_implicit_lambda% (pt_cmpR op_eq (no_implicit_lambda% (pe_ix (ix_listK K) (no_implicit_lambda% (pv 2)) pe_int (fun _ _ => rfl))) pe_str (nomark _))) (no_implicit_lambda% (pss_one (no_implicit_lambda% (ps_expr (no_implicit_lambda% (pe_metX0 MX_Desk_redo TD.cl hr (no_implicit_lambda% (pv 0)))))))) (no_implicit_lambda% (pss_one (no_implicit_lambda% (ps_expr (no_implicit_lambda% (pe_metX MX_Desk_do TD.cl hr (no_implicit_lambda% (pv 0)) (no_implicit_lambda% (pa_cons (no_implicit_lambda% (pe_calS hr (pe_gget rfl m_DEEDS d_DEEDS (no_implicit_lambda% (pe_ix (ix_listK K) (no_implicit_lambda% (pv 2)) pe_int (fun _ _ => rfl))) (fun _ _ => rfl)) (no_implicit_lambda% (pa_cons (no_implicit_lambda% (pe_fld (no_implicit_lambda% (pv 0)) rfl)) (no_implicit_lambda% (pa_cons (no_implicit_lambda% (pv 3)) pa_nil)))))) pa_nil))))))))))))))
        (no_implicit_lambda% (pss_one (no_implicit_lambda% (ps_ret (no_implicit_lambda% (pe_cal C_shown_house hr (no_implicit_lambda% (pa_cons (no_implicit_lambda% (pe_fld (no_implicit_lambda% (pv 0)) rfl)) pa_nil)))))))))))))))))), ?_⟩
    walk_at "rd"
    refine ⟨rfl, ?_⟩
    walk_at "rd"
    refine ⟨_, _, rfl, rfl, rfl, small_line (by omega), fun wl hwn => ?_⟩
    rw [Cmd.split ok]
    have e1 : Ext H (upd H wl (.lst (c.words.map V.str))) := ext_upd hwn
    have h1 : upd H wl (.lst (c.words.map V.str)) wl = some (.lst (c.words.map V.str)) := upd_same
    generalize upd H wl (.lst (c.words.map V.str)) = H1 at e1 h1 ⊢
    walk_at "rd"
    refine ⟨wl, c, rfl, h1, ok, fun H2 e2 => ?_⟩
    walk_at "rd"
    refine iteF ?_
    walk_at "rd"
    have h2 := e2 _ _ h1
    refine rd_slL (SqL.of h2) (rd_new fun l3 H3 e3 hl3 _ => ?_)
    rw [show cutV (c.words.map V.str) (some 1) none = c.tail.map V.str from cut_end (xs := c.words.map V.str) (n := 1) (by simp)] at hl3
    refine rd_iLx (SqL.of hl3) ?_
    refine comp_list (xs := c.tail.map V.str) (fun i ys H' => Ext H3 H' ∧ ys = c.parts.take i) (small_line (by rw [List.length_map]; omega)) ⟨Ext.rfl' _, rfl⟩ (fun i ys H' _ h => ⟨SqL.of (h.1 _ _ hl3), by rw [h.2, List.length_take]; exact Nat.min_le_left _ _⟩) ?_ ?_
    · rintro i u ys H4 hu ⟨e4, rfl⟩
      rw [List.getElem?_map] at hu
      obtain ⟨z, hz, rfl⟩ := Option.map_eq_some_iff.mp hu
      have hk := List.getElem?_eq_getElem (show i < c.kinds.length by rw [k1]; exact (List.getElem?_eq_some_iff.mp hz).1)
      obtain ⟨v, hv, hw⟩ := k3 i _ z hk hz
      walk_at "rd"
      refine iteT ?_
      walk_at "rd"
      refine ⟨_, z, v, rfl, hw, fun H5 e5 => ⟨e4.trans e5, ?_⟩⟩
      rw [List.take_add_one, hv]
      rfl
    rintro ys H4 pt ⟨e4, rfl⟩ hpt
    rw [List.length_map, ← k2, List.take_length]
    have e5 := (e1.trans (e2.trans (e3.trans e4))).trans (ext_upd (o := .lst c.parts) hpt)
    have hp5 : upd H4 pt (.lst c.parts) pt = some (.lst c.parts) := upd_same
    have hw5 := ((e3.trans e4).trans (ext_upd (o := .lst c.parts) hpt)) _ _ h2
    generalize upd H4 pt (.lst c.parts) = H5 at e5 hp5 hw5 ⊢
    clear e4 e3 hl3 h2 e2 h1 e1 hpt hwn
    have D5 := D.ext e5
    obtain ⟨⟨dx, v, a1, a2⟩, _, _, _⟩ := id D5
    walk_at "rd"
    refine rd_ixL (SqL.of hw5) (v := .str c.head) (atI_nat (j := 0) rfl) ?_
    refine ⟨.inr c.head, rfl, ?_⟩
    by_cases hsh : c = .show
    · subst hsh
      refine rd_exb (iteT ?_)
      walk_at "rd"
      refine rd_ixL (SqL.of hw5) (v := .str "show") (atI_nat (j := 0) rfl) ?_
      refine rd_keyS (valV_pos rfl) ?_
      refine ⟨"show_ask", _, _, _, rfl, TD.df _ (by simp), C_show_ask.toX, by decide, ?_⟩
      walk_at "rd"
      refine ⟨p, _, dx, _, _, rfl, a1, TD.cl, TD.nH, dk_house _ _ _, ?_⟩
      walk_at "rd"
      have r2 : Told K H p l1 l2 Q E (.ok (houseS d.cur.1 d.cur.2, d)) := r
      clear r
      exact ⟨v, d.cur, _, rfl, a2, fun H6 e6 => r2 l2 H6 (.inl rfl) (D5.ext e6) (Fr.of (e5.trans e6))⟩
    have hno : valV (gd_ASKS K) (.inr c.head) = none := asks_no (by
      cases c with
      | rooms n => exact .head _
      | way w => exact .tail _ (.head _)
      | close w => exact .tail _ (.tail _ (.head _))
      | turn => exact .tail _ (.tail _ (.tail _ (.head _)))
      | undo => exact .tail _ (.tail _ (.tail _ (.tail _ (.head _))))
      | redo => exact .tail _ (.tail _ (.tail _ (.tail _ (.tail _ (.head _)))))
      | «show» => exact absurd rfl hsh)
    rw [hno]
    refine rd_exb (iteF ?_)
    clear hno
    walk_at "rd"
    refine rd_ifJ (fun σ H' => σ = [some (.ref p), some (.str c.line), some (.ref wl), some (.ref pt)] ∧ ∃ l3 d', tellD d c = .ok (houseS d'.cur.1 d'.cur.2, d') ∧ (l3 = l2 ∨ H l3 = none) ∧ DkAt K H' p l1 l3 d' ∧ Fr H H' p l1 l2) ?_ ?_
    rotate_left
    · rintro σ H6 ⟨rfl, l3, d', hd, hl3, D6, fr6⟩
      obtain ⟨⟨dx', v', a1', a2'⟩, _, _, _⟩ := id D6
      rw [hd] at r
      walk_at "rd"
      refine ⟨p, _, dx', _, _, rfl, a1', TD.cl, TD.nH, dk_house _ _ _, ?_⟩
      walk_at "rd"
      exact ⟨v', _, _, rfl, a2'.1, a2'.2, fun H7 e7 => r l3 H7 hl3 (D6.ext e7) (fun b o z n1 n2 n3 => e7 _ _ (fr6 b o z n1 n2 n3))⟩
    have frH : ∀ {H6 l3 d'}, tellD d c = .ok (houseS d'.cur.1 d'.cur.2, d') → (l3 = l2 ∨ H5 l3 = none) → DkAt K H6 p l1 l3 d' → Fr H5 H6 p l1 l2 → ∃ l3 d', tellD d c = .ok (houseS d'.cur.1 d'.cur.2, d') ∧ (l3 = l2 ∨ H l3 = none) ∧ DkAt K H6 p l1 l3 d' ∧ Fr H H6 p l1 l2 := fun {H6 l3 d'} h1 h2 h3 h4 => ⟨l3, d', h1, h2.imp id fun z => e5.none z, h3, fun b o z n1 n2 n3 => h4 b o (e5 _ _ z) n1 n2 n3⟩
    walk_at "rd"
    refine rd_ixL (SqL.of hw5) (v := .str c.head) (atI_nat (j := 0) rfl) ?_
    walk_at "rd"
    refine rd_EqS ?_
    cases c with
    | «show» => exact absurd rfl hsh
    | undo =>
      refine rd_exb (iteT ?_)
      walk_at "rd"
      refine ⟨p, dx, _, rfl, a1, dk_no _ _ _ (by decide +kernel) (by decide +kernel) (by decide +kernel), ?_⟩
      walk_at "rd"
      refine ⟨p, l1, l2, d, rfl, D5, f2, fun h0 H6 e6 => ?_, fun ps h hp H6 D6 fr => ?_⟩
      · rw [show tellD d .undo = .error "NoDeed" by show (match d.past.getLast? with | none => _ | some h => _) = _; rw [h0]; rfl] at r
        exact r _ (e5.trans e6)
      · refine ⟨rfl, frH ?_ (.inl rfl) D6 fr⟩
        show (match d.past.getLast? with | none => _ | some h => _) = _
        rw [hp, List.getLast?_concat]
        show Except.ok (_, (⟨h, (ps ++ [h]).dropLast, _⟩ : Dk)) = _
        rw [List.dropLast_concat]
    | redo =>
      refine rd_exb (iteF ?_)
      walk_at "rd"
      refine rd_ifJ _ ?_ (fun σ H' h => h)
      walk_at "rd"
      refine rd_ixL (SqL.of hw5) (v := .str "redo") (atI_nat (j := 0) rfl) ?_
      walk_at "rd"
      refine rd_EqS ?_
      refine rd_exb (iteT ?_)
      walk_at "rd"
      refine ⟨p, dx, _, rfl, a1, dk_no _ _ _ (by decide +kernel) (by decide +kernel) (by decide +kernel), ?_⟩
      walk_at "rd"
      refine ⟨p, l1, l2, d, rfl, D5, f1, fun h0 H6 e6 => ?_, fun us h hp H6 D6 fr => ?_⟩
      · rw [show tellD d .redo = .error "NoDeed" by show (match d.und.getLast? with | none => _ | some h => _) = _; rw [h0]; rfl] at r
        exact r _ (e5.trans e6)
      · refine ⟨rfl, frH ?_ (.inl rfl) D6 fr⟩
        show (match d.und.getLast? with | none => _ | some h => _) = _
        rw [hp, List.getLast?_concat]
        show Except.ok (_, (⟨h, _, (us ++ [h]).dropLast⟩ : Dk)) = _
        rw [List.dropLast_concat]
    | turn =>
      refine rd_exb (iteF ?_)
      walk_at "rd"
      refine rd_ifJ _ ?_ (fun σ H' h => h)
      walk_at "rd"
      refine rd_ixL (SqL.of hw5) (v := .str "turn") (atI_nat (j := 0) rfl) ?_
      walk_at "rd"
      refine rd_EqS ?_
      refine rd_exb (iteF ?_)
      walk_at "rd"
      refine ⟨_, dx, _, rfl, a1, dk_no _ _ _ (by decide +kernel) (by decide +kernel) (by decide +kernel), ?_⟩
      walk_at "rd"
      refine rd_ixL (SqL.of hw5) (v := .str "turn") (atI_nat (j := 0) rfl) ?_
      refine rd_keyS (deeds_at K).2.2.2 ?_
      refine ⟨"turn_deed", _, _, _, rfl, TD.df _ (by simp), C_turn_deed.toX, by decide, ?_⟩
      walk_at "rd"
      refine ⟨_, _, dx, _, _, rfl, a1, TD.cl, TD.nH, dk_house _ _ _, ?_⟩
      walk_at "rd"
      refine ⟨v, d.cur, _, rfl, a2, fun u H6 e6 hu => ?_⟩
      have hD : tellD d .turn = .ok (houseS (d.doD (d.cur.1, d.cur.2.map Way.turn)).cur.1 (d.doD (d.cur.1, d.cur.2.map Way.turn)).cur.2, d.doD (d.cur.1, d.cur.2.map Way.turn)) := rfl
      exact ⟨p, l1, l2, d, u, (d.cur.1, d.cur.2.map Way.turn), rfl, D5.ext e6, hu, f1, fun l3 H7 h3 D7 fr => ⟨rfl, frH hD (.inr (e6.none h3)) D7 fun b o z n1 n2 n3 => fr b o (e6 _ _ z) n1 n2 n3⟩⟩
    | rooms n =>
      refine rd_exb (iteF ?_)
      walk_at "rd"
      refine rd_ifJ _ ?_ (fun σ H' h => h)
      walk_at "rd"
      refine rd_ixL (SqL.of hw5) (v := .str "rooms") (atI_nat (j := 0) rfl) ?_
      walk_at "rd"
      refine rd_EqS ?_
      refine rd_exb (iteF ?_)
      walk_at "rd"
      refine ⟨_, dx, _, rfl, a1, dk_no _ _ _ (by decide +kernel) (by decide +kernel) (by decide +kernel), ?_⟩
      walk_at "rd"
      refine rd_ixL (SqL.of hw5) (v := .str "rooms") (atI_nat (j := 0) rfl) ?_
      refine rd_keyS (deeds_at K).1 ?_
      refine ⟨"rooms_deed", _, _, _, rfl, TD.df _ (by simp), C_rooms_deed.toX, by decide, ?_⟩
      walk_at "rd"
      refine ⟨_, _, dx, _, _, rfl, a1, TD.cl, TD.nH, dk_house _ _ _, ?_⟩
      walk_at "rd"
      refine ⟨v, pt, n, rfl, hp5, ok.1, ok.2, fun u H6 e6 hu => ?_⟩
      have hD : tellD d (.rooms n) = .ok (houseS (d.doD (n, [])).cur.1 (d.doD (n, [])).cur.2, d.doD (n, [])) := rfl
      exact ⟨p, l1, l2, d, u, (n, []), rfl, D5.ext e6, hu, f1, fun l3 H7 h3 D7 fr => ⟨rfl, frH hD (.inr (e6.none h3)) D7 fun b o z n1 n2 n3 => fr b o (e6 _ _ z) n1 n2 n3⟩⟩
    | way w =>
      refine rd_exb (iteF ?_)
      walk_at "rd"
      refine rd_ifJ _ ?_ (fun σ H' h => h)
      walk_at "rd"
      refine rd_ixL (SqL.of hw5) (v := .str "way") (atI_nat (j := 0) rfl) ?_
      walk_at "rd"
      refine rd_EqS ?_
      refine rd_exb (iteF ?_)
      walk_at "rd"
      refine ⟨_, dx, _, rfl, a1, dk_no _ _ _ (by decide +kernel) (by decide +kernel) (by decide +kernel), ?_⟩
      walk_at "rd"
      refine rd_ixL (SqL.of hw5) (v := .str "way") (atI_nat (j := 0) rfl) ?_
      refine rd_keyS (deeds_at K).2.1 ?_
      refine ⟨"way_deed", _, _, _, rfl, TD.df _ (by simp), CX_way_deed, by decide, ?_⟩
      walk_at "rd"
      refine ⟨_, _, dx, _, _, rfl, a1, TD.cl, TD.nH, dk_house _ _ _, ?_⟩
      walk_at "rd"
      refine ⟨v, d.cur, pt, w, rfl, a2, hp5, ok, ?_⟩
      have hD : tellD d (.way w) = match wayD d.cur w with | .error z => .error z | .ok h => .ok (houseS h.1 h.2, d.doD h) := rfl
      cases he : wayD d.cur w with
      | error nm =>
        rw [hD, he] at r
        exact fun H6 e6 => r H6 (e5.trans e6)
      | ok h =>
        rw [he] at hD
        have hE : tellD d (.way w) = .ok (houseS (d.doD h).cur.1 (d.doD h).cur.2, d.doD h) := hD
        intro u H6 e6 hu
        exact ⟨p, l1, l2, d, u, h, rfl, D5.ext e6, hu, f1, fun l3 H7 h3 D7 fr => ⟨rfl, frH (d' := d.doD h) hE (.inr (e6.none h3)) D7 fun b o z n1 n2 n3 => fr b o (e6 _ _ z) n1 n2 n3⟩⟩
    | close w =>
      refine rd_exb (iteF ?_)
      walk_at "rd"
      refine rd_ifJ _ ?_ (fun σ H' h => h)
      walk_at "rd"
      refine rd_ixL (SqL.of hw5) (v := .str "close") (atI_nat (j := 0) rfl) ?_
      walk_at "rd"
      refine rd_EqS ?_
      refine rd_exb (iteF ?_)
      walk_at "rd"
      refine ⟨_, dx, _, rfl, a1, dk_no _ _ _ (by decide +kernel) (by decide +kernel) (by decide +kernel), ?_⟩
      walk_at "rd"
      refine rd_ixL (SqL.of hw5) (v := .str "close") (atI_nat (j := 0) rfl) ?_
      refine rd_keyS (deeds_at K).2.2.1 ?_
      refine ⟨"close_deed", _, _, _, rfl, TD.df _ (by simp), CX_close_deed, by decide, ?_⟩
      walk_at "rd"
      refine ⟨_, _, dx, _, _, rfl, a1, TD.cl, TD.nH, dk_house _ _ _, ?_⟩
      walk_at "rd"
      refine ⟨v, d.cur, pt, w, rfl, a2, hp5, ok, ?_⟩
      have hD : tellD d (.close w) = match closeD d.cur w with | .error z => .error z | .ok h => .ok (houseS h.1 h.2, d.doD h) := rfl
      cases he : closeD d.cur w with
      | error nm =>
        rw [hD, he] at r
        exact fun H6 e6 => r H6 (e5.trans e6)
      | ok h =>
        rw [he] at hD
        have hE : tellD d (.close w) = .ok (houseS (d.doD h).cur.1 (d.doD h).cur.2, d.doD h) := hD
        intro u H6 e6 hu
        exact ⟨p, l1, l2, d, u, h, rfl, D5.ext e6, hu, f1, fun l3 H7 h3 D7 fr => ⟨rfl, frH (d' := d.doD h) hE (.inr (e6.none h3)) D7 fun b o z n1 n2 n3 => fr b o (e6 _ _ z) n1 n2 n3⟩⟩
local macro_rules | `(tactic| walk_at "ra") => do
  let ts ← ("seq asg c name".splitOn " ").toArray.mapM fun n =>
    let i := Lean.mkIdent (.mkSimple ("rd_" ++ n))
    `(tacticSeq| with_reducible refine $i ?_)
  `(tactic| repeat (first $[| $ts]* | dsimp only))
theorem paired_at {α β : Type} {F : α → β → Prop} {cs : List α} {ts : List β} (h : Paired F cs ts) : ∀ {i : Nat} {c : α}, cs[i]? = some c → ∃ t, ts[i]? = some t ∧ F c t := by
  induction h with
  | nil => intro i c e; simp at e
  | cons h t ih =>
    intro i c e
    cases i with
    | zero => cases e; exact ⟨_, rfl, h⟩
    | succ i => exact ih e
noncomputable def KndAt (H : Hp) (c : Addr) (t : Str × Bool) : Prop := H c = some (.tup [.str t.1, .bl t.2])
noncomputable def named (ts : List (Str × Bool)) (i : Nat) : List Str := ((ts.take i).filter (·.2)).map (·.1)
theorem named_succ {ts : List (Str × Bool)} {i : Nat} {t : Str × Bool} (h : ts[i]? = some t) : named ts (i + 1) = named ts i ++ if t.2 = true then [t.1] else [] := by
  unfold named
  rw [List.take_succ, h]
  simp only [Option.toList_some, List.filter_append, List.map_append]
  congr 1
  obtain ⟨a, b⟩ := t
  cases b <;> rfl
theorem named_len (ts : List (Str × Bool)) (i : Nat) : (named ts i).length ≤ i := by
  unfold named
  rw [List.length_map]
  exact Nat.le_trans (List.length_filter_le _ _) (by rw [List.length_take]; omega)
noncomputable def raisedL : List Str := ["NoPlace", "NoWay", "TooGreat", "NoDeed"]
noncomputable def tsL (nm : Str) : List (Str × Bool) := [("NoLine", nm == "NoLine"), ("NoPlace", nm == "NoPlace"), ("TooGreat", nm == "TooGreat"), ("NoWay", nm == "NoWay"), ("NoDeed", nm == "NoDeed"), ("NoText", nm == "NoText"), ("other", false)]
theorem ts_named {nm : Str} (h : nm ∈ raisedL) : named (tsL nm) 7 = [nm] := by
  have : ∀ y ∈ raisedL, named (tsL y) 7 = [y] := by decide +kernel
  exact this nm h
theorem raised_in {nm : Str} (h : nm ∈ raisedL) : nm ∈ raisedC := by
  have : ∀ y ∈ raisedL, y ∈ raisedC := by decide +kernel
  exact this nm h
theorem kc_at {K : PySem.W.Frag} {mg : Str → Option Value} {base : Heap} (XF : Xf K mg base allC raisedC) {nm y : Str} (h : nm ∈ raisedL) (hy : y ∈ allC) (hs : (y == ("StairError" : Str)) = false) : PySem.W.kitOne K (.ref (cA K nm)) (.ref (cA K y)) = some (nm == y) := by
  rw [XF.kc nm (raised_in h) y hy, hs, Bool.or_false]
theorem tellD_er {d : Dk} {c : Cmd} {nm : Str} (h : tellD d c = .error nm) : nm ∈ raisedL := by
  have hw : ∀ (x : HV) (w : Way), wayD x w = .error nm → nm ∈ raisedL := fun x w e => by
    unfold wayD at e
    split at e
    · cases e; exact .head _
    split at e
    · cases e; exact .tail _ (.head _)
    split at e
    · cases e; exact .tail _ (.tail _ (.head _))
    · cases e
  have hc : ∀ (x : HV) (w : Way), closeD x w = .error nm → nm ∈ raisedL := fun x w e => by
    unfold closeD at e
    split at e
    · cases e
    · cases e; exact .tail _ (.head _)
  cases c with
  | rooms n => cases h
  | turn => cases h
  | «show» => cases h
  | way w =>
    have h : (match wayD d.cur w with | .error z => Except.error z | .ok h => Except.ok (houseS h.1 h.2, d.doD h)) = .error nm := h
    cases e : wayD d.cur w with
    | error z => rw [e] at h; cases h; exact hw _ _ e
    | ok x => rw [e] at h; cases h
  | close w =>
    have h : (match closeD d.cur w with | .error z => Except.error z | .ok h => Except.ok (houseS h.1 h.2, d.doD h)) = .error nm := h
    cases e : closeD d.cur w with
    | error z => rw [e] at h; cases h; exact hc _ _ e
    | ok x => rw [e] at h; cases h
  | undo =>
    unfold tellD at h
    cases e : d.past.getLast? with
    | none => rw [e] at h; cases h; exact .tail _ (.tail _ (.tail _ (.head _)))
    | some x => rw [e] at h; cases h
  | redo =>
    unfold tellD at h
    cases e : d.und.getLast? with
    | none => rw [e] at h; cases h; exact .tail _ (.tail _ (.tail _ (.head _)))
    | some x => rw [e] at h; cases h
noncomputable def ToldL (K : PySem.W.Frag) (H : Hp) (p l1 l2 : Addr) (Q : VK) : Except Str (Str × Dk) → Prop
  | .error nm => ∀ t H', Ext H H' → H' t = some (.tup [.str "refused", .str nm]) → Q (.ref t) H'
  | .ok (z, d') => ∀ t l3 H', (l3 = l2 ∨ H l3 = none) → DkAt K H' p l1 l3 d' → Fr H H' p l1 l2 → H' t = some (.tup [.str "told", .str z]) → Q (.ref t) H'
noncomputable def sp__law_tell (K : PySem.W.Frag) : Sp := fun vs H Q _ => ∃ p l1 l2 d c, vs = [.ref p, .str (Cmd.line c)] ∧ DkAt K H p l1 l2 d ∧ c.Ok ∧ d.past.length ≤ 10000 ∧ d.und.length ≤ 10000 ∧ ToldL K H p l1 l2 Q (tellD d c)
noncomputable abbrev s__law_tell : Stmt := stq 129
theorem sc__law_tell : FnScope ["_law_desk", "_law_line_here", "_law_found", "e", "_law_kinds"] ["_law_desk", "_law_line_here"] (defScope s__law_tell) := ⟨rfl, rfl, rfl, by decide +kernel, rfl, by decide +kernel, by decide +kernel⟩
theorem ok__law_tell {P : Program} {w : World} {K : PySem.W.Frag} {mg : Str → Option Value} {base : Heap} (D : Dfn K mg "_law_tell" s__law_tell ["_law_desk", "_law_line_here"]) (T : Blt mg) (XF : Xf K mg base allC raisedC) (TD : DeskK K mg) (MX_Desk_tell : MetX P w K mg base (cA K "Desk") "tell" 9 ["self", "line"] (sp_Desk_tell K)) : Cal P w K mg base "_law_tell" 10 ["_law_desk", "_law_line_here"] (sp__law_tell K) := by
  have nd := (sc__law_tell).nd
  refine D.ok sc__law_tell (fun vs H Q E h => ?_) (fun X hX H vs Q E h => ?_)
  · obtain ⟨p, l1, l2, d, c, rfl, _⟩ := h; rfl
  · obtain ⟨f, cdv, A, outer, s, H0, E0, rfl, hr⟩ := hX
    obtain ⟨p, l1, l2, d, c, rfl, D, ok, f1, f2, r⟩ := h
    obtain ⟨⟨dx, v, a1, a2⟩, _, _, _⟩ := id D
    refine ⟨_, (no_implicit_lambda% (pss_cons (no_implicit_lambda% (ps_try (i := 3) rfl rfl nd rfl rfl rfl (XF.cl "StairError" (by decide +kernel)) rfl (by decide) (pbs_cons (pb_asgM (i := 2) MX_Desk_tell TD.cl hr nd rfl (Or.inl rfl) (no_implicit_lambda% (pv 0)) (no_implicit_lambda% (pa_cons (no_implicit_lambda% (pv 1)) pa_nil))) pbs_nil) (fun x oe Dx da hK hc hal hdd => (no_implicit_lambda% (pss_cons (no_implicit_lambda% (ps_set (i := 4) nd rfl (Or.inl rfl) (no_implicit_lambda% (pe_lst (no_implicit_lambda% (pa_cons (no_implicit_lambda% (pe_tup (no_implicit_lambda% (pa_cons pe_str (no_implicit_lambda% (pa_cons (no_implicit_lambda% (pe_callB (call_isiX hK hc) rfl T.isinstance_ PyProof.Rows.boot_isinstance (no_implicit_lambda% (pa_cons (no_implicit_lambda% (pv 3)) (no_implicit_lambda% (pa_cons (no_implicit_lambda% (pe_glob (v := .ref (cA K "NoLine")) rfl (XF.cl "NoLine" (by decide +kernel)) rfl)) pa_nil)))))) pa_nil)))))) (no_implicit_lambda% (pa_cons (no_implicit_lambda% (pe_tup (no_implicit_lambda% (pa_cons pe_str (no_implicit_lambda% (pa_cons (no_implicit_lambda% (pe_callB (call_isiX hK hc) rfl T.isinstance_ PyProof.Rows.boot_isinstance (no_implicit_lambda% (pa_cons (no_implicit_lambda% (pv 3)) (no_implicit_lambda% (pa_cons (no_implicit_lambda% (pe_glob (v := .ref (cA K "NoPlace")) rfl (XF.cl "NoPlace" (by decide +kernel)) rfl)) pa_nil)))))) pa_nil)))))) pa_nil))))))))
        (no_implicit_lambda% (pss_cons (no_implicit_lambda% (ps_set (i := 4) nd rfl (Or.inl rfl) (no_implicit_lambda% (pe_op op_cat (no_implicit_lambda% (pv 4)) (no_implicit_lambda% (pe_lst (no_implicit_lambda% (pa_cons (no_implicit_lambda% (pe_tup (no_implicit_lambda% (pa_cons pe_str (no_implicit_lambda% (pa_cons (no_implicit_lambda% (pe_callB (call_isiX hK hc) rfl T.isinstance_ PyProof.Rows.boot_isinstance (no_implicit_lambda% (pa_cons (no_implicit_lambda% (pv 3)) (no_implicit_lambda% (pa_cons (no_implicit_lambda% (pe_glob (v := .ref (cA K "TooGreat")) rfl (XF.cl "TooGreat" (by decide +kernel)) rfl)) pa_nil)))))) pa_nil)))))) (no_implicit_lambda% (pa_cons (no_implicit_lambda% (pe_tup (no_implicit_lambda% (pa_cons pe_str (no_implicit_lambda% (pa_cons (no_implicit_lambda% (pe_callB (call_isiX hK hc) rfl T.isinstance_ PyProof.Rows.boot_isinstance (no_implicit_lambda% (pa_cons (no_implicit_lambda% (pv 3)) (no_implicit_lambda% (pa_cons (no_implicit_lambda% (pe_glob (v := .ref (cA K "NoWay")) rfl (XF.cl "NoWay" (by decide +kernel)) rfl)) pa_nil)))))) pa_nil)))))) pa_nil))))))))))
        (no_implicit_lambda% (pss_cons (no_implicit_lambda% (ps_set (i := 4) nd rfl (Or.inl rfl) (no_implicit_lambda% (pe_op op_cat (no_implicit_lambda% (pv 4)) (no_implicit_lambda% (pe_lst (no_implicit_lambda% (pa_cons (no_implicit_lambda% (pe_tup (no_implicit_lambda% (pa_cons pe_str (no_implicit_lambda% (pa_cons (no_implicit_lambda% (pe_callB (call_isiX hK hc) rfl T.isinstance_ PyProof.Rows.boot_isinstance (no_implicit_lambda% (pa_cons (no_implicit_lambda% (pv 3)) (no_implicit_lambda% (pa_cons (no_implicit_lambda% (pe_glob (v := .ref (cA K "NoDeed")) rfl (XF.cl "NoDeed" (by decide +kernel)) rfl)) pa_nil)))))) pa_nil)))))) (no_implicit_lambda% (pa_cons (no_implicit_lambda% (pe_tup (no_implicit_lambda% (pa_cons pe_str (no_implicit_lambda% (pa_cons (no_implicit_lambda% (pe_callB (call_isiX hK hc) rfl T.isinstance_ PyProof.Rows.boot_isinstance (no_implicit_lambda% (pa_cons (no_implicit_lambda% (pv 3)) (no_implicit_lambda% (pa_cons (no_implicit_lambda% (pe_glob (v := .ref (cA K "NoText")) rfl (XF.cl "NoText" (by decide +kernel)) rfl)) pa_nil)))))) pa_nil)))))) pa_nil))))))))))
        (no_implicit_lambda% (pss_cons (no_implicit_lambda% (ps_set (i := 4) nd rfl (Or.inl rfl) (no_implicit_lambda% (pe_op op_cat (no_implicit_lambda% (pv 4)) (no_implicit_lambda% (pe_lst (no_implicit_lambda% (pa_cons (no_implicit_lambda% (pe_tup (no_implicit_lambda% (pa_cons pe_str (no_implicit_lambda% (pa_cons (no_implicit_lambda% (pe_callB (call_isiX hK hc) rfl T.isinstance_ PyProof.Rows.boot_isinstance (no_implicit_lambda% (pa_cons (no_implicit_lambda% (pv 3)) (no_implicit_lambda% (pa_cons (no_implicit_lambda% (pe_tup (no_implicit_lambda% (pa_cons (no_implicit_lambda% (pe_glob (v := .ref (cA K "Endless")) rfl (XF.cl "Endless" (by decide +kernel)) rfl)) (no_implicit_lambda% (pa_cons (no_implicit_lambda% (pe_glob (v := .ref (cA K "NoHouse")) rfl (XF.cl "NoHouse" (by decide +kernel)) rfl)) (no_implicit_lambda% (pa_cons (no_implicit_lambda% (pe_glob (v := .ref (cA K "NoStair")) rfl (XF.cl "NoStair" (by decide +kernel)) rfl)) (no_implicit_lambda% (pa_cons (no_implicit_lambda% (pe_glob (v := .ref (cA K "NotBare")) rfl (XF.cl "NotBare" (by decide +kernel)) rfl)) (no_implicit_lambda% (pa_cons (no_implicit_lambda% (pe_glob (v := .ref (cA K "NoWalk")) rfl (XF.cl "NoWalk" (by decide +kernel)) rfl)) pa_nil)))))))))))) pa_nil)))))) pa_nil)))))) pa_nil))))))))
        (no_implicit_lambda% (pss_one (no_implicit_lambda% (ps_ret (no_implicit_lambda% (pe_tup (no_implicit_lambda% (pa_cons pe_str (no_implicit_lambda% (pa_cons (no_implicit_lambda% (pe_bmK K PySem.F.plainAttrs_str PySem.F.slot_str_join PySem.F.type_str_join (mt_joinX K) pe_str (no_implicit_lambda% (pa_cons (no_implicit_lambda% (pe_compH K ["_law_word", "_law_here"] [] hal (no_implicit_lambda% (pv 4)) (fun _ hh => (no_implicit_lambda% (pg_tupH (n := 2) K hh (pgs_cons (no_implicit_lambda% (pg_name (i := 0) (show (["_law_word", "_law_here"] : List Str).Nodup from by decide +kernel) rfl (Or.inl rfl) (Or.inr rfl))) (pgs_cons (no_implicit_lambda% (pg_name (i := 1) (show (["_law_word", "_law_here"] : List Str).Nodup from by decide +kernel) rfl (Or.inl rfl) (Or.inr rfl))) pgs_nil))))) (fun _ => (pcs_one (no_implicit_lambda% (pt_val (no_implicit_lambda% (pv 1)))))) (fun _ => (no_implicit_lambda% (pv 0))))) pa_nil)))) pa_nil)))))))))))))))))))))
        (no_implicit_lambda% (pss_cons (no_implicit_lambda% (ps_if (no_implicit_lambda% (pt_not (no_implicit_lambda% (pt_val (no_implicit_lambda% (pe_callB call_isi rfl T.isinstance_ PyProof.Rows.boot_isinstance (no_implicit_lambda% (pa_cons (no_implicit_lambda% (pv 2)) (no_implicit_lambda% (pa_cons (no_implicit_lambda% (pe_bltn (v := .ty "str") rfl T.str_ PyProof.Rows.boot_str rfl)) pa_nil)))))))))) (no_implicit_lambda% (pss_one (no_implicit_lambda% (ps_ret (no_implicit_lambda% (pe_tup (no_implicit_lambda% (pa_cons pe_str (no_implicit_lambda% (pa_cons pe_non pa_nil)))))))))) pss_nil))
        (no_implicit_lambda% (pss_one (no_implicit_lambda% (ps_ret (no_implicit_lambda% (pe_tup (no_implicit_lambda% (pa_cons pe_str (no_implicit_lambda% (pa_cons (no_implicit_lambda% (pv 2)) pa_nil)))))))))))))), ?_⟩
    walk_at "ra"
    refine try_as (fun Dx σ1 H1 => Ext H H1 ∧ (∃ nm, tellD d c = .error nm ∧ Dx = cA K nm) ∧ σ1 = [some (.ref p), some (.str c.line), none, none, none]) (fun E9 hE => ?_) ?_
    · walk_at "rd"
      refine ⟨p, dx, _, rfl, a1, dk_no _ _ _ (by decide +kernel) (by decide +kernel) (by decide +kernel), ?_⟩
      walk_at "rd"
      refine ⟨p, l1, l2, d, c, rfl, D, ok, f1, f2, ?_⟩
      cases he : tellD d c with
      | error nm => exact fun H1 e1 => hE _ _ _ ⟨e1, ⟨nm, he, rfl⟩, rfl⟩
      | ok x =>
        obtain ⟨z, d'⟩ := x
        rw [he] at r
        intro l3 H1 h3 D1 fr
        walk_at "rd"
        refine rd_isi (n := "str") rfl (b := true) rfl ?_
        walk_at "rd"
        refine iteF ?_
        walk_at "rd"
        refine ⟨small_line (by simp), rd_new fun t H2 e2 ht _ => ?_⟩
        exact r t l3 H2 h3 (D1.ext e2) (fun b o z n1 n2 n3 => e2 _ _ (fr b o z n1 n2 n3)) ht
    · rintro σ1 Dx H1 ⟨eH1, ⟨nm, he, rfl⟩, rfl⟩
      rw [he] at r
      have hnm := tellD_er he
      have r : ∀ t H', Ext H H' → H' t = some (.tup [.str "refused", .str nm]) → Q (.ref t) H' := r
      clear he
      refine ⟨XF.up nm (raised_in hnm), XF.exk nm (raised_in hnm), fun x hx => ?_⟩
      walk_at "rd"
      refine rd_isiC (kc_at XF hnm (y := "NoLine") (by decide +kernel) (by decide +kernel)) ?_
      walk_at "rd"
      refine ⟨small_line (by simp), rd_new fun c1 H2 e2 hc1 _ => ?_⟩
      walk_at "rd"
      refine rd_isiC (kc_at XF hnm (y := "NoPlace") (by decide +kernel) (by decide +kernel)) ?_
      walk_at "rd"
      refine ⟨small_line (by simp), rd_new fun c2 H3 e3 hc2 _ => ?_⟩
      walk_at "rd"
      refine ⟨small_line (by simp), rd_new fun l1' H4 e4 hl1 _ => ?_⟩
      walk_at "rd"
      refine rd_isiC (kc_at XF hnm (y := "TooGreat") (by decide +kernel) (by decide +kernel)) ?_
      walk_at "rd"
      refine ⟨small_line (by simp), rd_new fun c3 H5 e5 hc3 _ => ?_⟩
      walk_at "rd"
      refine rd_isiC (kc_at XF hnm (y := "NoWay") (by decide +kernel) (by decide +kernel)) ?_
      walk_at "rd"
      refine ⟨small_line (by simp), rd_new fun c4 H6 e6 hc4 _ => ?_⟩
      walk_at "rd"
      refine ⟨small_line (by simp), rd_new fun l2' H7 e7 hl2 _ => ?_⟩
      walk_at "rd"
      refine rd_cat ((e5.trans (e6.trans e7)) _ _ hl1) hl2 (small_line (by simp)) (rd_new fun l3' H8 e8 hl3 _ => ?_)
      walk_at "rd"
      refine rd_isiC (kc_at XF hnm (y := "NoDeed") (by decide +kernel) (by decide +kernel)) ?_
      walk_at "rd"
      refine ⟨small_line (by simp), rd_new fun c5 H9 e9 hc5 _ => ?_⟩
      walk_at "rd"
      refine rd_isiC (kc_at XF hnm (y := "NoText") (by decide +kernel) (by decide +kernel)) ?_
      walk_at "rd"
      refine ⟨small_line (by simp), rd_new fun c6 HA eA hc6 _ => ?_⟩
      walk_at "rd"
      refine ⟨small_line (by simp), rd_new fun l4' HB eB hl4 _ => ?_⟩
      walk_at "rd"
      refine rd_cat ((e9.trans (eA.trans eB)) _ _ hl3) hl4 (small_line (by simp)) (rd_new fun l5' HC eC hl5 _ => ?_)
      walk_at "rd"
      refine ⟨small_line (by simp), rd_new fun ta HD eD hta _ => ?_⟩
      walk_at "rd"
      refine rd_isiP (Cs := (["Endless", "NoHouse", "NoStair", "NotBare", "NoWalk"] : List Str).map (cA K)) hta (kitAny_no fun C hC => ?_) ?_
      · obtain ⟨y, hy, rfl⟩ := List.mem_map.mp hC
        have h1 : ∀ y ∈ (["Endless", "NoHouse", "NoStair", "NotBare", "NoWalk"] : List Str), y ∈ allC ∧ (y == ("StairError" : Str)) = false ∧ ∀ x ∈ raisedL, (x == y) = false := by decide +kernel
        obtain ⟨b1, b2, b3⟩ := h1 y hy
        exact (kc_at XF hnm b1 b2).trans (by rw [b3 nm hnm])
      walk_at "rd"
      refine ⟨small_line (by simp), rd_new fun c7 HE eE hc7 _ => ?_⟩
      walk_at "rd"
      refine ⟨small_line (by simp), rd_new fun l6' HF eF hl6 _ => ?_⟩
      walk_at "rd"
      refine rd_cat ((eD.trans (eE.trans eF)) _ _ hl5) hl6 (small_line (by simp)) (rd_new fun l7' HG eG hl7 _ => ?_)
      have eFG := eF.trans eG
      have eEG := eE.trans eFG
      have eBG := eB.trans (eC.trans (eD.trans eEG))
      have eAG := eA.trans eBG
      have e8G := e8.trans (e9.trans eAG)
      have e7G := e7.trans e8G
      have e6G := e6.trans e7G
      have e4G := e4.trans (e5.trans e6G)
      have pk : Paired (KndAt HG) [c1, c2, c3, c4, c5, c6, c7] (tsL nm) := .cons ((e3.trans e4G) _ _ hc1) (.cons (e4G _ _ hc2) (.cons (e6G _ _ hc3) (.cons (e7G _ _ hc4) (.cons (eAG _ _ hc5) (.cons (eBG _ _ hc6) (.cons (eFG _ _ hc7) .nil))))))
      have hl7 : HG l7' = some (.lst (List.map V.ref [c1, c2, c3, c4, c5, c6, c7])) := hl7
      have e1G : Ext H HG := eH1.trans (e2.trans (e3.trans e4G))
      clear eFG eEG eBG eAG e8G e7G e6G e4G e2 e3 e4 e5 e6 e7 e8 e9 eA eB eC eD eE eF eG hc1 hc2 hc3 hc4 hc5 hc6 hc7 hl1 hl2 hl3 hl4 hl5 hl6 hta eH1
      walk_at "rd"
      refine ⟨rfl, ?_⟩
      walk_at "rd"
      refine rd_iLx (SqL.of hl7) ?_
      refine comp_list (xs := List.map V.ref [c1, c2, c3, c4, c5, c6, c7]) (fun i ys H' => H' = HG ∧ ys = List.map V.str (named (tsL nm) i)) (small_line (by simp)) ⟨rfl, rfl⟩ (fun i ys H' hi h => ⟨by rw [h.1]; exact SqL.of hl7, by rw [h.2, List.length_map]; exact named_len _ _⟩) ?_ ?_
      · rintro i u ys H' hu ⟨rfl, rfl⟩
        rw [List.getElem?_map] at hu
        obtain ⟨c, hc, rfl⟩ := Option.map_eq_some_iff.mp hu
        obtain ⟨t, ht, hk⟩ := paired_at pk hc
        rw [named_succ ht]
        obtain ⟨nm', b⟩ := t
        refine rd_gtup (SqT.of hk) rfl ?_
        walk_at "rd"
        cases b with
        | true =>
          refine iteT ?_
          walk_at "rd"
          exact ⟨rfl, by rw [List.map_append]; rfl⟩
        | false =>
          refine iteF ?_
          exact ⟨rfl, by simp⟩
      · rintro ys H' l8 ⟨rfl, rfl⟩ hl8
        walk_at "rd"
        rw [show named (tsL nm) (List.map V.ref [c1, c2, c3, c4, c5, c6, c7]).length = [nm] from ts_named hnm]
        have hj : ∀ y ∈ raisedL, Txt.join (Str.ofString " ") [y] = y ∧ ([y].map (·.length)).sum + [y].length * (Str.ofString " ").length ≤ 1000000 := by decide +kernel
        obtain ⟨j1, j2⟩ := hj nm hnm
        refine ⟨_, l8, [nm], rfl, rfl, SqL.of upd_same, j2, ?_⟩
        rw [j1]
        walk_at "rd"
        refine ⟨small_line (by simp), rd_new fun t HI eI ht _ => ?_⟩
        exact r t HI (e1G.trans ((ext_upd hl8).trans eI)) ht
noncomputable abbrev wayW (w : Way) : List Str := [⟨#[]⟩, Tx.numS w.room, w.deed, Tx.numS w.other, w.sign]
theorem way_join (w : Way) : (" " : Str) ++ wayS w = Str.join ⟨#[32]⟩ (wayW w) := by
  show (⟨#[32]⟩ : Str) ++ Txt.join ⟨#[32]⟩ [Tx.numS w.room, w.deed, Tx.numS w.other, w.sign] = (⟨#[]⟩ : Str) ++ (⟨#[32]⟩ : Str) ++ Str.join ⟨#[32]⟩ [Tx.numS w.room, w.deed, Tx.numS w.other, w.sign]
  rw [Tx.tjoin]
  rfl
noncomputable abbrev waysS (ws : List Way) : List Str := ws.map fun w => (" " : Str) ++ wayS w
theorem way21 {m : Int} {w : Way} (ok : w.Ok m) (hm : m ≤ 12) : ((" " : Str) ++ wayS w).length ≤ 21 := by
  rw [Str.length_append]
  have := wayS_len ok hm
  have : (Str.ofString " ").length = 1 := rfl
  omega
theorem ways_len {m : Int} {ws : List Way} (ok : ∀ w ∈ ws, w.Ok m) (hm : m ≤ 12) (hf : ws.length ≤ 100) : (Txt.join "," (waysS ws)).length ≤ 2200 := by
  have h := join_len1 44 (k := 21) (zs := waysS ws) fun z hz => by
    obtain ⟨w, hw, rfl⟩ := List.mem_map.mp hz
    exact way21 (ok w hw) hm
  rw [List.length_map] at h
  have := Nat.mul_le_mul_left 22 hf
  show (Txt.join ⟨#[44]⟩ (waysS ws)).length ≤ 2200
  omega
theorem way_txt (w : Way) : (" " : Str) ++ Tx.numS w.room ++ (" " : Str) ++ w.deed ++ (" " : Str) ++ Tx.numS w.other ++ (" " : Str) ++ w.sign = (" " : Str) ++ wayS w := by
  rw [way_join]
  show (⟨#[32]⟩ : Str) ++ Tx.numS w.room ++ (⟨#[32]⟩ : Str) ++ w.deed ++ (⟨#[32]⟩ : Str) ++ Tx.numS w.other ++ (⟨#[32]⟩ : Str) ++ w.sign = (⟨#[]⟩ : Str) ++ (⟨#[32]⟩ : Str) ++ (Tx.numS w.room ++ (⟨#[32]⟩ : Str) ++ (w.deed ++ (⟨#[32]⟩ : Str) ++ (Tx.numS w.other ++ (⟨#[32]⟩ : Str) ++ w.sign)))
  simp only [Str.append_assoc]
  exact (Str.empty_append _).symm
noncomputable def sp__law_house_text (K : PySem.W.Frag) : Sp := fun vs H Q _ => ∃ v m ws, vs = [v] ∧ HouseAt H v m ws ∧ HOuse m ws ∧ ∀ H', Ext H H' → Q (.str (houseS m ws)) H'
noncomputable abbrev s__law_house_text : Stmt := stq 130
theorem sc__law_house_text : FnScope ["_law_house", "_law_words"] ["_law_house"] (defScope s__law_house_text) := ⟨rfl, rfl, rfl, by decide +kernel, rfl, by decide +kernel, by decide +kernel⟩
theorem ok__law_house_text {P : Program} {w : World} {K : PySem.W.Frag} {mg : Str → Option Value} {base : Heap} (D : Dfn K mg "_law_house_text" s__law_house_text ["_law_house"]) (T : Blt mg) : Cal P w K mg base "_law_house_text" 1 ["_law_house"] (sp__law_house_text K) := by
  have nd := (sc__law_house_text).nd
  refine D.ok sc__law_house_text (fun vs H Q E h => ?_) (fun X hX H vs Q E h => ?_)
  · obtain ⟨v, m, ws, rfl, _⟩ := h; rfl
  · obtain ⟨f, cdv, A, outer, s, H0, E0, rfl, hr⟩ := hX
    obtain ⟨v, m, ws, rfl, hv, ok, q⟩ := h
    have m1 := ok.m1
    have m12 := ok.m12
    have hfew := ok.few
    obtain ⟨p, r, rfl, g1, g2⟩ := id hv
    obtain ⟨bs, g3, al⟩ := WaysAt.al g2
    refine ⟨_, (no_implicit_lambda% (pss_cons (no_implicit_lambda% (ps_setCompC (i := 1) ["_law_room", "_law_deed", "_law_other", "_law_sign"] [] nd rfl (Or.inl rfl) (no_implicit_lambda% (pi_tupK K (no_implicit_lambda% (pe_ix (ix_tupK K) (no_implicit_lambda% (pv 0)) pe_int (fun _ _ => rfl))))) (fun _ => (no_implicit_lambda% (pg_tupK (n := 4) K rfl (pgs_cons (no_implicit_lambda% (pg_name (i := 0) (show (["_law_room", "_law_deed", "_law_other", "_law_sign"] : List Str).Nodup from by decide +kernel) rfl (Or.inl rfl) (Or.inr rfl))) (pgs_cons (no_implicit_lambda% (pg_name (i := 1) (show (["_law_room", "_law_deed", "_law_other", "_law_sign"] : List Str).Nodup from by decide +kernel) rfl (Or.inl rfl) (Or.inr rfl))) (pgs_cons (no_implicit_lambda% (pg_name (i := 2) (show (["_law_room", "_law_deed", "_law_other", "_law_sign"] : List Str).Nodup from by decide +kernel) rfl (Or.inl rfl) (Or.inr rfl))) (pgs_cons (no_implicit_lambda% (pg_name (i := 3) (show (["_law_room", "_law_deed", "_law_other", "_law_sign"] : List Str).Nodup from by decide +kernel) rfl (Or.inl rfl) (Or.inr rfl))) pgs_nil))))))) (fun _ => pcs_nil) (fun _ => (no_implicit_lambda% (pe_op op_add_str (no_implicit_lambda% (pe_op op_add_str (no_implicit_lambda% (pe_op op_add_str (no_implicit_lambda% (pe_op op_add_str (no_implicit_lambda% (pe_op op_add_str (no_implicit_lambda% (pe_op op_add_str (no_implicit_lambda% (pe_op op_add_str pe_str (no_implicit_lambda% (pe_callTy call_str_int rfl T.str_ PyProof.Rows.boot_str (no_implicit_lambda% (pa_cons (no_implicit_lambda% (pv 0)) pa_nil)))))) pe_str)) (no_implicit_lambda% (pv 1)))) pe_str)) (no_implicit_lambda% (pe_callTy call_str_int rfl T.str_ PyProof.Rows.boot_str (no_implicit_lambda% (pa_cons (no_implicit_lambda% (pv 2)) pa_nil)))))) pe_str)) (no_implicit_lambda% (pv 3)))))))
        (no_implicit_lambda% (pss_one (no_implicit_lambda% (ps_ret (no_implicit_lambda% (pe_op op_add_str (no_implicit_lambda% (pe_op op_add_str (no_implicit_lambda% (pe_callTy call_str_int rfl T.str_ PyProof.Rows.boot_str (no_implicit_lambda% (pa_cons (no_implicit_lambda% (pe_ix (ix_tupK K) (no_implicit_lambda% (pv 0)) pe_int (fun _ _ => rfl))) pa_nil)))) pe_str)) (no_implicit_lambda% (pe_bmK K PySem.F.plainAttrs_str PySem.F.slot_str_join PySem.F.type_str_join (mt_joinX K) pe_str (no_implicit_lambda% (pa_cons (no_implicit_lambda% (pv 1)) pa_nil)))))))))))), ?_⟩
    walk_at "rd"
    refine rd_ixT (SqT.of g1) (v := .ref r) rfl ?_
    refine rd_iTx (SqT.of g3) ?_
    refine comp_tup (xs := bs.map V.ref) (fun i ys H' => H' = H ∧ ys = (waysS (ws.take i)).map V.str) (small9 (by rw [List.length_map, al.1]; omega)) ⟨rfl, rfl⟩ (fun i ys H' hi h => ⟨by rw [h.1]; exact SqT.of g3, ?_⟩) ?_ ?_
    · rw [h.2, List.length_map, List.length_map, List.length_take]
      exact Nat.min_le_left _ _
    · rintro i x ys H' hx ⟨rfl, rfl⟩
      rw [List.getElem?_map] at hx
      obtain ⟨b, hb, rfl⟩ := Option.map_eq_some_iff.mp hx
      have hi : i < ws.length := by rw [← al.1]; exact (List.getElem?_eq_some_iff.mp hb).1
      have hw : ws[i]? = some ws[i] := List.getElem?_eq_getElem hi
      have okw := ok.ok _ (List.mem_of_getElem? hw)
      have hbw := al.2 i b _ hb hw
      have r1 := okw.r1
      have o1 := okw.o1
      have l1 : (Str.ofString (toString ws[i].room)).length ≤ 6 := Tx.num_len6 okw.r0 (by omega)
      have l2 : (Str.ofString (toString ws[i].other)).length ≤ 6 := Tx.num_len6 okw.o0 (by omega)
      have l3 := deed4 okw.dd
      have l4 := sign1_len okw.sg
      have l5 : (Str.ofString " ").length = 1 := rfl
      walk_at "rd"
      refine rd_gtup (SqT.of hbw) rfl ?_
      walk_at "rd"
      refine iteT ?_
      walk_at "rd"
      refine ⟨_, rfl, num_log okw.r0 (by omega), ?_⟩
      walk_at "rd"
      refine ⟨_, _, rfl, rfl, small_line (by omega), ?_⟩
      walk_at "rd"
      refine ⟨_, _, rfl, rfl, small_line (by simp only [Str.length_append]; omega), ?_⟩
      walk_at "rd"
      refine ⟨_, _, rfl, rfl, small_line (by simp only [Str.length_append]; omega), ?_⟩
      walk_at "rd"
      refine ⟨_, _, rfl, rfl, small_line (by simp only [Str.length_append]; omega), ?_⟩
      walk_at "rd"
      refine ⟨_, rfl, num_log okw.o0 (by omega), ?_⟩
      walk_at "rd"
      refine ⟨_, _, rfl, rfl, small_line (by simp only [Str.length_append]; omega), ?_⟩
      walk_at "rd"
      refine ⟨_, _, rfl, rfl, small_line (by simp only [Str.length_append]; omega), ?_⟩
      walk_at "rd"
      refine ⟨_, _, rfl, rfl, small_line (by simp only [Str.length_append]; omega), ?_⟩
      refine ⟨rfl, ?_⟩
      have e := way_txt ws[i]
      unfold Tx.numS at e
      rw [e]
      unfold waysS
      rw [List.take_add_one, hw, List.map_append, List.map_append]
      rfl
    · rintro ys H' l ⟨rfl, rfl⟩ hn
      rw [List.length_map, al.1, List.take_length]
      have e3 : Ext H' (upd H' l (.lst ((waysS ws).map V.str))) := ext_upd hn
      have hl3 : upd H' l (.lst ((waysS ws).map V.str)) l = some (.lst ((waysS ws).map V.str)) := upd_same
      generalize upd H' l (.lst ((waysS ws).map V.str)) = H4 at e3 hl3 ⊢
      have lm : (Str.ofString (toString m)).length ≤ 6 := Tx.num_len6 (by omega) (by omega)
      have l1 : (Str.ofString ":").length = 1 := rfl
      have hj := ways_len ok.ok m12 hfew
      walk_at "rd"
      refine rd_ixT (SqT.of (e3 _ _ g1)) rfl ?_
      walk_at "rd"
      refine ⟨_, rfl, num_log (by omega) (by omega), ?_⟩
      walk_at "rd"
      refine ⟨_, _, rfl, rfl, small_line (by omega), ?_⟩
      walk_at "rd"
      refine ⟨rfl, ?_⟩
      walk_at "rd"
      refine ⟨_, l, _, rfl, rfl, SqL.of hl3, joinX_fit (c := 44) (k := 21) (fun z hz => ?_) (n := 100) (by rw [List.length_map]; exact hfew) (by decide), ?_⟩
      · obtain ⟨w, hw, rfl⟩ := List.mem_map.mp hz
        exact way21 (ok.ok w hw) m12
      · exact ⟨_, _, rfl, rfl, small_line (by simp only [Str.length_append]; omega), q H4 e3⟩
noncomputable def deedN (k : Nat) : Str := if k % 4 = 0 then "up" else if k % 4 = 1 then "down" else if k % 4 = 2 then "stay" else "zero"
noncomputable def wayN (m k : Nat) : Way := ⟨((k / 4 % m : Nat) : Int), deedN k, ((k / 4 / m % m : Nat) : Int), ⟨#[97 + k / 4 / m / m % 26]⟩⟩
theorem deedN_ok (k : Nat) : okDeed (deedN k) := by
  unfold deedN
  split
  · exact .inl rfl
  split
  · exact .inr (.inl rfl)
  split
  · exact .inr (.inr (.inl rfl))
  · exact .inr (.inr (.inr rfl))
theorem wayN_L {m : Nat} (k : Nat) (h2 : 2 ≤ m) (h12 : m ≤ 12) : WayL (wayN m k) := by
  have h1 : k / 4 % m < m := Nat.mod_lt _ (by omega)
  have h3 : k / 4 / m % m < m := Nat.mod_lt _ (by omega)
  have h4 : k / 4 / m / m % 26 < 26 := Nat.mod_lt _ (by omega)
  exact ⟨Int.natCast_nonneg _, by show ((k / 4 % m : Nat) : Int) < 1000000; omega, Int.natCast_nonneg _, by show ((k / 4 / m % m : Nat) : Int) < 1000000; omega, deedN_ok k, ⟨_, by omega, by omega, rfl⟩⟩
theorem wayN_in {m : Nat} (k : Nat) (h2 : 2 ≤ m) : (wayN m k).room < m ∧ (wayN m k).other < m := by
  have h1 : k / 4 % m < m := Nat.mod_lt _ (by omega)
  have h3 : k / 4 / m % m < m := Nat.mod_lt _ (by omega)
  exact ⟨by show ((k / 4 % m : Nat) : Int) < _; omega, by show ((k / 4 / m % m : Nat) : Int) < _; omega⟩
theorem deedN_inj : ∀ a b : Fin 4, deedN a.1 = deedN b.1 → a = b := by decide +kernel
theorem deedN_mod (k : Nat) : deedN k = deedN (k % 4) := by unfold deedN; rw [Nat.mod_mod]
theorem wayN_inj {m k j : Nat} (h2 : 2 ≤ m) (hk : k < 416) (hj : j < 416) (e : wayN m k = wayN m j) : k = j := by
  have e1 : ((k / 4 % m : Nat) : Int) = ((j / 4 % m : Nat) : Int) := congrArg Way.room e
  have e2 : ((k / 4 / m % m : Nat) : Int) = ((j / 4 / m % m : Nat) : Int) := congrArg Way.other e
  have e3 : deedN k = deedN j := congrArg Way.deed e
  have e4 : (⟨#[97 + k / 4 / m / m % 26]⟩ : Str) = ⟨#[97 + j / 4 / m / m % 26]⟩ := congrArg Way.sign e
  have e1 := Int.ofNat_inj.mp e1
  have e2 := Int.ofNat_inj.mp e2
  have e5 : 97 + k / 4 / m / m % 26 = 97 + j / 4 / m / m % 26 := by
    have := congrArg (fun z : Str => z.cps.toList) e4
    simpa using this
  rw [deedN_mod k, deedN_mod j] at e3
  have e6 := congrArg Fin.val (deedN_inj ⟨k % 4, Nat.mod_lt _ (by omega)⟩ ⟨j % 4, Nat.mod_lt _ (by omega)⟩ e3)
  have e6 : k % 4 = j % 4 := e6
  have lt : ∀ x : Nat, x < 416 → x / 4 / m / m < 26 := fun x hx => by
    rw [Nat.div_div_eq_div_mul, Nat.div_div_eq_div_mul]
    refine Nat.div_lt_of_lt_mul ?_
    have : 4 ≤ m * m := Nat.mul_le_mul h2 h2
    have : 4 * (m * m) * 26 = m * m * 104 := by omega
    show x < 4 * (m * m) * 26
    omega
  have l1 := Nat.mod_eq_of_lt (lt k hk)
  have l2 := Nat.mod_eq_of_lt (lt j hj)
  have e7 : k / 4 / m / m = j / 4 / m / m := by omega
  have e8 : k / 4 / m = j / 4 / m := by
    rw [← Nat.div_add_mod (k / 4 / m) m, ← Nat.div_add_mod (j / 4 / m) m, e7, e2]
  have e9 : k / 4 = j / 4 := by
    rw [← Nat.div_add_mod (k / 4) m, ← Nat.div_add_mod (j / 4) m, e8, e1]
  omega
theorem abc_at : ∀ c : Fin 26, ("abcdefghijklmnopqrstuvwxyz" : Str).cps.toList[c.1]? = some (97 + c.1) := by decide +kernel
noncomputable def deedL : List Str := ["up", "down", "stay", "zero"]
theorem deedL_at : ∀ c : Fin 4, (deedL.map V.str)[c.1]? = some (.str (deedN c.1)) := fun c => by
  have : ∀ c : Fin 4, deedL[c.1]? = some (deedN c.1) := by decide +kernel
  rw [List.getElem?_map, this]
  rfl
noncomputable def sp__law_way (K : PySem.W.Frag) : Sp := fun vs H Q _ => ∃ m k : Nat, vs = [.int (m : Int), .int (k : Int)] ∧ 2 ≤ m ∧ m ≤ 12 ∧ ∀ t H', Ext H H' → H' t = some (.tup (Way.vs (wayN m k))) → Q (.ref t) H'
noncomputable abbrev s__law_way : Stmt := stq 131
theorem sc__law_way : FnScope ["_law_many", "_law_k", "_law_deed"] ["_law_many", "_law_k"] (defScope s__law_way) := ⟨rfl, rfl, rfl, by decide +kernel, rfl, by decide +kernel, by decide +kernel⟩
theorem ok__law_way {P : Program} {w : World} {K : PySem.W.Frag} {mg : Str → Option Value} {base : Heap} (D : Dfn K mg "_law_way" s__law_way ["_law_many", "_law_k"]) (T : Blt mg) : Cal P w K mg base "_law_way" 1 ["_law_many", "_law_k"] (sp__law_way K) := by
  have nd := (sc__law_way).nd
  refine D.ok sc__law_way (fun vs H Q E h => ?_) (fun X hX H vs Q E h => ?_)
  · obtain ⟨m, k, rfl, _⟩ := h; rfl
  · obtain ⟨f, cdv, A, outer, s, H0, E0, rfl, hr⟩ := hX
    obtain ⟨m, k, rfl, m2, m12, q⟩ := h
    have mp : (0 : Int) < (m : Int) ∧ (m : Int) < 2 ^ 64 := by omega
    have mq : (0 : Int) < (m : Int) := by omega
    refine ⟨_, (no_implicit_lambda% (pss_cons (no_implicit_lambda% (ps_set (i := 2) nd rfl (Or.inl rfl) (no_implicit_lambda% (pe_ix (ix_listK K) (no_implicit_lambda% (pe_lst (no_implicit_lambda% (pa_cons pe_str (no_implicit_lambda% (pa_cons pe_str (no_implicit_lambda% (pa_cons pe_str (no_implicit_lambda% (pa_cons pe_str pa_nil)))))))))) (no_implicit_lambda% (pe_op op_mod (no_implicit_lambda% (pv 1)) pe_int)) (fun _ _ => rfl)))))
        (no_implicit_lambda% (pss_one (no_implicit_lambda% (ps_ret (no_implicit_lambda% (pe_tup (no_implicit_lambda% (pa_cons (no_implicit_lambda% (pe_op op_mod (no_implicit_lambda% (pe_op op_fdivL (no_implicit_lambda% (pv 1)) pe_int)) (no_implicit_lambda% (pv 0)))) (no_implicit_lambda% (pa_cons (no_implicit_lambda% (pv 2)) (no_implicit_lambda% (pa_cons (no_implicit_lambda% (pe_op op_mod (no_implicit_lambda% (pe_op op_fdivL (no_implicit_lambda% (pe_op op_fdivL (no_implicit_lambda% (pv 1)) pe_int)) (no_implicit_lambda% (pv 0)))) (no_implicit_lambda% (pv 0)))) (no_implicit_lambda% (pa_cons (no_implicit_lambda% (pe_ix ix_str pe_str (no_implicit_lambda% (pe_op op_mod (no_implicit_lambda% (pe_op op_fdivL (no_implicit_lambda% (pe_op op_fdivL (no_implicit_lambda% (pe_op op_fdivL (no_implicit_lambda% (pv 1)) pe_int)) (no_implicit_lambda% (pv 0)))) (no_implicit_lambda% (pv 0)))) pe_int)) (fun _ _ => rfl))) pa_nil)))))))))))))))), ?_⟩
    walk_at "rd"
    refine ⟨small_line (by simp), rd_new fun l H1 e1 hl _ => ?_⟩
    walk_at "rd"
    refine rd_ixL (SqL.of hl) (v := .str (deedN k)) (show atI (deedL.map V.str) ((k % 4 : Nat) : Int) = _ from atI_nat (by rw [deedN_mod]; exact deedL_at ⟨k % 4, Nat.mod_lt _ (by omega)⟩)) ?_
    walk_at "rd"
    refine ⟨_, _, 97 + k / 4 / m / m % 26, rfl, rfl, (by decide), (show atI _ ((k / 4 / m / m % 26 : Nat) : Int) = _ from atI_nat (abc_at ⟨k / 4 / m / m % 26, Nat.mod_lt _ (by omega)⟩)), ?_⟩
    walk_at "rd"
    refine ⟨small_line (by simp), rd_new fun t H2 e2 ht _ => ?_⟩
    exact q t H2 (e1.trans e2) ht
theorem WayL.line_len {w : Way} (h : WayL w) {z : Str} (hz : z.length ≤ 6) : ([z, Tx.numS w.room, w.deed, Tx.numS w.other, w.sign].map (·.length)).sum + 5 * (Str.ofString " ").length ≤ 1000000 := by
  have h1 := Tx.num_len6 h.r0 h.r6
  have h2 := Tx.num_len6 h.o0 h.o6
  have h3 := deed4 h.dd
  have h4 := sign1_len h.sg
  have h5 : (Str.ofString " ").length = 1 := rfl
  simp only [List.map_cons, List.map_nil, List.sum_cons, List.sum_nil]
  omega
noncomputable def sp__law_line (K : PySem.W.Frag) : Sp := fun vs H Q _ => ∃ z b w, vs = [.str z, .ref b] ∧ H b = some (.tup (Way.vs w)) ∧ WayL w ∧ z.length ≤ 6 ∧ ∀ H', Ext H H' → Q (.str (Txt.join " " (z :: wayWs w))) H'
noncomputable abbrev s__law_line : Stmt := stq 132
theorem sc__law_line : FnScope ["_law_word", "_law_way_here"] ["_law_word", "_law_way_here"] (defScope s__law_line) := ⟨rfl, rfl, rfl, by decide +kernel, rfl, by decide +kernel, by decide +kernel⟩
theorem ok__law_line {P : Program} {w : World} {K : PySem.W.Frag} {mg : Str → Option Value} {base : Heap} (D : Dfn K mg "_law_line" s__law_line ["_law_word", "_law_way_here"]) (T : Blt mg) : Cal P w K mg base "_law_line" 1 ["_law_word", "_law_way_here"] (sp__law_line K) := by
  have nd := (sc__law_line).nd
  refine D.ok sc__law_line (fun vs H Q E h => ?_) (fun X hX H vs Q E h => ?_)
  · obtain ⟨z, b, w, rfl, _⟩ := h; rfl
  · obtain ⟨f, cdv, A, outer, s, H0, E0, rfl, hr⟩ := hX
    obtain ⟨z, b, w, rfl, hb, wl, hz, q⟩ := h
    refine ⟨_, (no_implicit_lambda% (pss_one (no_implicit_lambda% (ps_ret (no_implicit_lambda% (pe_bmK K PySem.F.plainAttrs_str PySem.F.slot_str_join PySem.F.type_str_join (mt_joinX K) pe_str (no_implicit_lambda% (pa_cons (no_implicit_lambda% (pe_lst (no_implicit_lambda% (pa_cons (no_implicit_lambda% (pv 0)) (no_implicit_lambda% (pa_cons (no_implicit_lambda% (pe_callTy call_str_int rfl T.str_ PyProof.Rows.boot_str (no_implicit_lambda% (pa_cons (no_implicit_lambda% (pe_ix (ix_tupK K) (no_implicit_lambda% (pv 1)) pe_int (fun _ _ => rfl))) pa_nil)))) (no_implicit_lambda% (pa_cons (no_implicit_lambda% (pe_ix (ix_tupK K) (no_implicit_lambda% (pv 1)) pe_int (fun _ _ => rfl))) (no_implicit_lambda% (pa_cons (no_implicit_lambda% (pe_callTy call_str_int rfl T.str_ PyProof.Rows.boot_str (no_implicit_lambda% (pa_cons (no_implicit_lambda% (pe_ix (ix_tupK K) (no_implicit_lambda% (pv 1)) pe_int (fun _ _ => rfl))) pa_nil)))) (no_implicit_lambda% (pa_cons (no_implicit_lambda% (pe_ix (ix_tupK K) (no_implicit_lambda% (pv 1)) pe_int (fun _ _ => rfl))) pa_nil)))))))))))) pa_nil)))))))), ?_⟩
    walk_at "rd"
    refine ⟨rfl, ?_⟩
    walk_at "rd"
    refine rd_ixT (SqT.of hb) rfl ?_
    walk_at "rd"
    refine ⟨_, rfl, num_log wl.r0 wl.r6, ?_⟩
    walk_at "rd"
    refine rd_ixT (SqT.of hb) rfl ?_
    walk_at "rd"
    refine rd_ixT (SqT.of hb) rfl ?_
    walk_at "rd"
    refine ⟨_, rfl, num_log wl.o0 wl.o6, ?_⟩
    walk_at "rd"
    refine rd_ixT (SqT.of hb) rfl ?_
    walk_at "rd"
    refine ⟨small_line (by simp), rd_new fun l H1 e1 hl _ => ?_⟩
    walk_at "rd"
    refine ⟨_, l, z :: wayWs w, rfl, rfl, SqL.of hl, wl.line_len hz, ?_⟩
    exact q H1 e1
noncomputable def sp__law_turned (K : PySem.W.Frag) : Sp := fun vs H Q _ => ∃ v h, vs = [v] ∧ HvAt H v h ∧ ∀ u H', Ext H H' → HvAt H' u (h.1, h.2.map Way.turn) → Q u H'
noncomputable abbrev s__law_turned : Stmt := stq 133
theorem sc__law_turned : FnScope ["_law_house", "_law_deeds"] ["_law_house"] (defScope s__law_turned) := ⟨rfl, rfl, rfl, by decide +kernel, rfl, by decide +kernel, by decide +kernel⟩
theorem ok__law_turned {P : Program} {w : World} {K : PySem.W.Frag} {mg : Str → Option Value} {base : Heap} (D : Dfn K mg "_law_turned" s__law_turned ["_law_house"]) (T : Blt mg) : Cal P w K mg base "_law_turned" 1 ["_law_house"] (sp__law_turned K) := by
  have nd := (sc__law_turned).nd
  refine D.ok sc__law_turned (fun vs H Q E h => ?_) (fun X hX H vs Q E h => ?_)
  · obtain ⟨v, h, rfl, _⟩ := h; rfl
  · obtain ⟨f, cdv, A, outer, s, H0, E0, rfl, hr⟩ := hX
    obtain ⟨v, h, rfl, ⟨h1, ok⟩, q⟩ := h
    obtain ⟨m, ws⟩ := h
    have hfew := ok.few
    obtain ⟨p, r, rfl, g1, g2⟩ := h1
    obtain ⟨bs, g3, al⟩ := WaysAt.al g2
    refine ⟨_, (no_implicit_lambda% (pss_cons (no_implicit_lambda% (ps_set (i := 1) nd rfl (Or.inr rfl) (no_implicit_lambda% (pe_disp (no_implicit_lambda% (pps_cons pe_str pe_str (no_implicit_lambda% (pps_cons pe_str pe_str (no_implicit_lambda% (pps_cons pe_str pe_str (no_implicit_lambda% (pps_cons pe_str pe_str pps_nil)))))))) rfl rfl (by decide) (by decide)))))
        (no_implicit_lambda% (pss_one (no_implicit_lambda% (ps_ret (no_implicit_lambda% (pe_tup (no_implicit_lambda% (pa_cons (no_implicit_lambda% (pe_ix (ix_tupK K) (no_implicit_lambda% (pv 0)) pe_int (fun _ _ => rfl))) (no_implicit_lambda% (pa_cons (no_implicit_lambda% (pe_callTy (call_tupK K) rfl T.tuple_ PyProof.Rows.boot_tuple (no_implicit_lambda% (pa_cons (no_implicit_lambda% (pe_compC ["_law_room", "_law_deed", "_law_other", "_law_sign"] [1] (no_implicit_lambda% (pi_tupK K (no_implicit_lambda% (pe_ix (ix_tupK K) (no_implicit_lambda% (pv 0)) pe_int (fun _ _ => rfl))))) (fun _ => (no_implicit_lambda% (pg_tupK (n := 4) K rfl (pgs_cons (no_implicit_lambda% (pg_name (i := 0) (show (["_law_room", "_law_deed", "_law_other", "_law_sign", "_law_deeds"] : List Str).Nodup from by decide +kernel) rfl (Or.inl rfl) (Or.inr rfl))) (pgs_cons (no_implicit_lambda% (pg_name (i := 1) (show (["_law_room", "_law_deed", "_law_other", "_law_sign", "_law_deeds"] : List Str).Nodup from by decide +kernel) rfl (Or.inl rfl) (Or.inr rfl))) (pgs_cons (no_implicit_lambda% (pg_name (i := 2) (show (["_law_room", "_law_deed", "_law_other", "_law_sign", "_law_deeds"] : List Str).Nodup from by decide +kernel) rfl (Or.inl rfl) (Or.inr rfl))) (pgs_cons (no_implicit_lambda% (pg_name (i := 3) (show (["_law_room", "_law_deed", "_law_other", "_law_sign", "_law_deeds"] : List Str).Nodup from by decide +kernel) rfl (Or.inl rfl) (Or.inr rfl))) pgs_nil))))))) (fun _ => pcs_nil) (fun _ => (no_implicit_lambda% (pe_tup (no_implicit_lambda% (pa_cons (no_implicit_lambda% (pv 2)) (no_implicit_lambda% (pa_cons (no_implicit_lambda% (pe_dget (hu_of hr) (no_implicit_lambda% (pv 4)) (no_implicit_lambda% (pv 1)) (fun _ _ => rfl))) (no_implicit_lambda% (pa_cons (no_implicit_lambda% (pv 0)) (no_implicit_lambda% (pa_cons (no_implicit_lambda% (pv 3)) pa_nil))))))))))))) pa_nil)))) pa_nil)))))))))))), ?_⟩
    walk_at "rd"
    intro dp hdp
    show _ ∧ _
    refine ⟨upd_same, gd_TURNED, rfl, by decide, ?_⟩
    have hD : upd (upd H dp (.dK [])) dp (.dK (mergeK [] gd_TURNED)) dp = some (.dK gd_TURNED) := upd_same
    have eD : Ext H (upd (upd H dp (.dK [])) dp (.dK (mergeK [] gd_TURNED))) := ext_write (ext_upd hdp) hdp
    generalize upd (upd H dp (.dK [])) dp (.dK (mergeK [] gd_TURNED)) = H1 at hD eD ⊢
    walk_at "rd"
    refine rd_ixT (SqT.of (eD _ _ g1)) (v := .int m) rfl ?_
    walk_at "rd"
    refine rd_ixT (SqT.of (eD _ _ g1)) (v := .ref r) rfl ?_
    refine rd_iTx (SqT.of (eD _ _ g3)) ?_
    refine comp_tup (xs := bs.map V.ref) (fun i ys H' => Ext H1 H' ∧ ∃ cs, ys = cs.map V.ref ∧ AlW H' cs ((ws.take i).map Way.turn)) (small9 (by rw [List.length_map, al.1]; omega)) ⟨Ext.rfl' _, [], rfl, AlW.nil _⟩ (fun i ys H' hi h => ⟨SqT.of (h.1 _ _ (eD _ _ g3)), ?_⟩) ?_ ?_
    · obtain ⟨_, cs, rfl, hc, _⟩ := h
      rw [List.length_map, hc, List.length_map, List.length_take]
      exact Nat.min_le_left _ _
    · rintro i x ys H' hx ⟨e2, cs, rfl, al2⟩
      rw [List.getElem?_map] at hx
      obtain ⟨b, hb, rfl⟩ := Option.map_eq_some_iff.mp hx
      have hi : i < ws.length := by
        rw [← al.1]
        exact (List.getElem?_eq_some_iff.mp hb).1
      have hwi : ws[i]? = some ws[i] := List.getElem?_eq_getElem hi
      have hw := e2 _ _ (eD _ _ (al.2 i b _ hb hwi))
      refine rd_gtup (SqT.of hw) rfl ?_
      walk_at "rd"
      refine iteT ?_
      walk_at "rd"
      refine ⟨dp, .str (turnD ws[i].deed), rfl, .inl ⟨gd_TURNED, .inr ws[i].deed, .inl (e2 _ _ hD), rfl, (gd_has (ok.ok _ (List.getElem_mem hi)).dd).symm⟩, ?_⟩
      walk_at "rd"
      refine ⟨small_line (by simp), rd_new fun v H3 e3 hv _ => ?_⟩
      refine ⟨e2.trans e3, cs ++ [v], by rw [List.map_append]; rfl, ?_⟩
      rw [List.take_add_one, hwi, List.map_append]
      exact (al2.ext e3).snoc hv
    · rintro ys H' l ⟨e2, cs, rfl, al2⟩ hl
      rw [List.length_map, al.1, List.take_length] at al2
      walk_at "rd"
      have e3 : Ext H1 (upd H' l (.lst (cs.map V.ref))) := e2.trans (ext_upd hl)
      have al3 := al2.ext (ext_upd (o := .lst (cs.map V.ref)) hl)
      have hl3 : upd H' l (.lst (cs.map V.ref)) l = some (.lst (cs.map V.ref)) := upd_same
      generalize upd H' l (.lst (cs.map V.ref)) = H4 at e3 al3 hl3 ⊢
      refine rd_tupL (SqL.of hl3) (rd_new fun t H5 e5 ht _ => ?_)
      walk_at "rd"
      refine ⟨small_line (by simp), rd_new fun u H6 e6 hu _ => ?_⟩
      exact q _ H6 (eD.trans (e3.trans (e5.trans e6))) ⟨HouseAt.mk hu (((al3.ext e5).ways ht).ext e6), ok.turn⟩
theorem mem_join {c x : Nat} : ∀ {ps : List Str}, x ∈ (Str.join ⟨#[c]⟩ ps).cps.toList → x = c ∨ ∃ p ∈ ps, x ∈ p.cps.toList
  | [], h => by cases h
  | [p], h => .inr ⟨p, List.mem_cons_self, h⟩
  | p :: q :: r, h => by
    rw [Tx.join2] at h
    rcases List.mem_append.mp h with h | h
    · exact .inr ⟨p, List.mem_cons_self, h⟩
    · rcases List.mem_cons.mp h with h | h
      · exact .inl h
      · rcases mem_join h with h | ⟨y, hy, h⟩
        · exact .inl h
        · exact .inr ⟨y, List.mem_cons_of_mem _ hy, h⟩
theorem deed_sign {z : Str} (h : okDeed z) : ∀ c ∈ z.cps.toList, 97 ≤ c ∧ c ≤ 122 := by
  rcases h with rfl | rfl | rfl | rfl <;> decide +kernel
theorem sign_sign {z : Str} (h : okSign z) : ∀ c ∈ z.cps.toList, 97 ≤ c ∧ c ≤ 122 := by
  obtain ⟨c, h1, h2, rfl⟩ := h
  intro x hx
  have : x = c := by simpa using hx
  omega
theorem wayW_of {m : Int} {w : Way} (ok : w.Ok m) {p : Str} (hp : p ∈ wayW w) {c : Nat} (hc : c ∈ p.cps.toList) : (48 ≤ c ∧ c ≤ 57) ∨ (97 ≤ c ∧ c ≤ 122) := by
  simp only [List.mem_cons, List.not_mem_nil, or_false] at hp
  rcases hp with rfl | rfl | rfl | rfl | rfl
  · cases hc
  · exact .inl (Tx.num_digit ok.r0 hc)
  · exact .inr (deed_sign ok.dd c hc)
  · exact .inl (Tx.num_digit ok.o0 hc)
  · exact .inr (sign_sign ok.sg c hc)
theorem str_lay {z : Str} (h : ∀ c ∈ z.cps.toList, c < 1114112) : (PyData.str z).canLay0 = true := by
  show PyData.strOk z = true
  unfold PyData.strOk
  rw [Array.all_eq_true_iff_forall_mem]
  exact fun c hc => decide_eq_true (h c (Array.mem_toList_iff.mpr hc))
theorem house_low {m : Int} {ws : List Way} (ok : HOuse m ws) : (PyData.str (houseS m ws)).canLay0 = true := by
  refine str_lay fun c hc => ?_
  have m1 := ok.m1
  have m12 := ok.m12
  have e : houseS m ws = Str.join ⟨#[58]⟩ [Tx.numS m, Txt.join ⟨#[44]⟩ (waysS ws)] := rfl
  rw [e, Tx.tjoin] at hc
  rcases mem_join hc with h | ⟨p, hp, h⟩
  · omega
  · simp only [List.mem_cons, List.not_mem_nil, or_false] at hp
    rcases hp with rfl | rfl
    · have := Tx.num_digit (by omega) h; omega
    · rcases mem_join h with h | ⟨p, hp, h⟩
      · omega
      · obtain ⟨w, hw, rfl⟩ := List.mem_map.mp hp
        rw [way_join] at h
        rcases mem_join h with h | ⟨p, hp, h⟩
        · omega
        · have := wayW_of (ok.ok w hw) hp h; omega
structure Apt (H : Hp) (l1 l2 b : Addr) (xs : List V) : Prop where
  at_ : H b = some (.lst xs)
  n1 : b ≠ l1
  n2 : b ≠ l2
theorem Apt.step {K : PySem.W.Frag} {H H' : Hp} {p l1 l2 l3 b : Addr} {d : Dk} {xs : List V} (D : DkAt K H p l1 l2 d) (fr : Fr H H' p l1 l2) (h3 : l3 = l2 ∨ H l3 = none) (a : Apt H l1 l2 b xs) : Apt H' l1 l3 b xs := by
  obtain ⟨⟨dx, v, a1, a2⟩, _, _, _⟩ := D
  refine ⟨fr b _ a.at_ (ne_of a.at_ a1 (by intro z; cases z)) a.n1 a.n2, a.n1, fun e => ?_⟩
  rcases h3 with h | h
  · exact a.n2 (e.trans h)
  · rw [← e, a.at_] at h; cases h
theorem Apt.ext {H H' : Hp} {l1 l2 b : Addr} {xs : List V} (e : Ext H H') (a : Apt H l1 l2 b xs) : Apt H' l1 l2 b xs := ⟨e _ _ a.at_, a.n1, a.n2⟩
theorem Fr.tk {K : PySem.W.Frag} {H H' : Hp} {p l1 l2 : Addr} {d : Dk} (D : DkAt K H p l1 l2 d) (fr : Fr H H' p l1 l2) : Tk H H' := by
  obtain ⟨⟨dx, v, a1, a2⟩, ⟨vs, b1, _⟩, ⟨us, c1, _⟩, _⟩ := D
  exact fun b xs z => fr b _ z (ne_of z a1 (by intro z; cases z)) (ne_of z b1 (by intro z; cases z)) (ne_of z c1 (by intro z; cases z))
theorem told_rep {H : Hp} {t : Addr} {a b : Str} (h : H t = some (.tup [.str a, .str b])) (la : (PyData.str a).canLay0 = true) (lb : (PyData.str b).canLay0 = true) : RepD H 1 (.ref t) (.tuple [.str a, .str b]) :=
  .inr ⟨t, [.str a, .str b], _, rfl, .inl ⟨h, rfl⟩, .cons ⟨rfl, la⟩ (.cons ⟨rfl, lb⟩ .nil)⟩
theorem told_eqv (a b c d : Str) : PyData.eqv (.tuple [.str a, .str b]) (.tuple [.str c, .str d]) = (decide (a = c) && decide (b = d)) := by
  simp only [PyData.eqv, PyData.eqvAll]
  by_cases h1 : a = c <;> by_cases h2 : b = d <;> simp [h1, h2]
noncomputable def duesD (d : Dk) : List (Cmd × HV) → Prop
  | [] => True
  | (c, h) :: r => c.Ok ∧ ∃ d', tellD d c = .ok (houseS h.1 h.2, d') ∧ HOuse h.1 h.2 ∧ d'.past.length ≤ d.past.length + 1 ∧ d'.und.length ≤ d.und.length + 1 ∧ duesD d' r
noncomputable def DueAt (H : Hp) (c : Addr) (x : Cmd × HV) : Prop := ∃ v, H c = some (.tup [.str x.1.line, v]) ∧ HvAt H v x.2
theorem DueAt.tk {H H' : Hp} {c : Addr} {x : Cmd × HV} (e : Tk H H') (h : DueAt H c x) : DueAt H' c x := by
  obtain ⟨v, h1, h2⟩ := h
  exact ⟨v, e _ _ h1, h2.tk e⟩
theorem ToldL.ok {K : PySem.W.Frag} {H : Hp} {p l1 l2 : Addr} {Q : VK} {d d' : Dk} {c : Cmd} {z : Str} (e : tellD d c = .ok (z, d'))
    (k : ∀ t l3 H', (l3 = l2 ∨ H l3 = none) → DkAt K H' p l1 l3 d' → Fr H H' p l1 l2 → H' t = some (.tup [.str "told", .str z]) → Q (.ref t) H') : ToldL K H p l1 l2 Q (tellD d c) := by rw [e]; exact k
theorem ToldL.no {K : PySem.W.Frag} {H : Hp} {p l1 l2 : Addr} {Q : VK} {d : Dk} {c : Cmd} {z : Str} (e : tellD d c = .error z)
    (k : ∀ t H', Ext H H' → H' t = some (.tup [.str "refused", .str z]) → Q (.ref t) H') : ToldL K H p l1 l2 Q (tellD d c) := by rw [e]; exact k
theorem told_lay : (PyData.str "told").canLay0 = true ∧ (PyData.str "refused").canLay0 = true := by decide +kernel
noncomputable def sp__law_all (K : PySem.W.Frag) : Sp := fun vs H Q _ => ∃ p l1 l2 d b cs xs, vs = [.ref p, .ref b] ∧ DkAt K H p l1 l2 d ∧ Apt H l1 l2 b (cs.map V.ref) ∧ Paired (DueAt H) cs xs ∧ duesD d xs ∧ xs.length ≤ 100 ∧ d.past.length ≤ 1000 ∧ d.und.length ≤ 1000 ∧ ∀ H', Q (.bl true) H'
theorem due_at {d : Dk} {xs : List (Cmd × HV)} {i : Nat} {x : Cmd × HV} (h : duesD d (xs.drop i)) (e : xs[i]? = some x) : x.1.Ok ∧ ∃ d', tellD d x.1 = .ok (houseS x.2.1 x.2.2, d') ∧ HOuse x.2.1 x.2.2 ∧ d'.past.length ≤ d.past.length + 1 ∧ d'.und.length ≤ d.und.length + 1 ∧ duesD d' (xs.drop (i + 1)) := by
  obtain ⟨hi, rfl⟩ := List.getElem?_eq_some_iff.mp e
  rw [List.drop_eq_getElem_cons hi] at h
  exact h
noncomputable abbrev s__law_all : Stmt := stq 134
theorem sc__law_all : FnScope ["_law_desk", "_law_dues"] ["_law_desk", "_law_dues"] (defScope s__law_all) := ⟨rfl, rfl, rfl, by decide +kernel, rfl, by decide +kernel, by decide +kernel⟩
theorem ok__law_all {P : Program} {w : World} {K : PySem.W.Frag} {mg : Str → Option Value} {base : Heap} (D : Dfn K mg "_law_all" s__law_all ["_law_desk", "_law_dues"]) (T : Blt mg) (C__law_tell : Cal P w K mg base "_law_tell" 10 ["_law_desk", "_law_line_here"] (sp__law_tell K)) (C__law_house_text : Cal P w K mg base "_law_house_text" 1 ["_law_house"] (sp__law_house_text K)) : Cal P w K mg base "_law_all" 11 ["_law_desk", "_law_dues"] (sp__law_all K) := by
  have nd := (sc__law_all).nd
  refine D.ok sc__law_all (fun vs H Q E h => ?_) (fun X hX H vs Q E h => ?_)
  · obtain ⟨p, l1, l2, d, b, cs, xs, rfl, _⟩ := h; rfl
  · obtain ⟨f, cdv, A, outer, s, H0, E0, rfl, hr⟩ := hX
    obtain ⟨p, l1, l2, d, b, cs, xs, rfl, D, ab, pr, du, hx, f1, f2, q⟩ := h
    have hcl := Paired.length pr
    refine ⟨_, (no_implicit_lambda% (pss_one (no_implicit_lambda% (ps_ret (no_implicit_lambda% (pe_callB (call_allL K rfl) rfl T.all_ PyProof.Rows.boot_all (no_implicit_lambda% (pa_cons (no_implicit_lambda% (pe_compC ["_law_word", "_law_due"] [0] (no_implicit_lambda% (pi_listK K (no_implicit_lambda% (pv 1)))) (fun _ => (no_implicit_lambda% (pg_tupK (n := 2) K rfl (pgs_cons (no_implicit_lambda% (pg_name (i := 0) (show (["_law_word", "_law_due", "_law_desk"] : List Str).Nodup from by decide +kernel) rfl (Or.inl rfl) (Or.inr rfl))) (pgs_cons (no_implicit_lambda% (pg_name (i := 1) (show (["_law_word", "_law_due", "_law_desk"] : List Str).Nodup from by decide +kernel) rfl (Or.inl rfl) (Or.inr rfl))) pgs_nil))))) (fun _ => pcs_nil) (fun _ => (no_implicit_lambda% (pe_cmpR (op_eqD hr) (no_implicit_lambda% (pe_cal C__law_tell hr (no_implicit_lambda% (pa_cons (no_implicit_lambda% (pv 2)) (no_implicit_lambda% (pa_cons (no_implicit_lambda% (pv 0)) pa_nil)))))) (no_implicit_lambda% (pe_tup (no_implicit_lambda% (pa_cons pe_str (no_implicit_lambda% (pa_cons (no_implicit_lambda% (pe_cal C__law_house_text hr (no_implicit_lambda% (pa_cons (no_implicit_lambda% (pv 1)) pa_nil)))) pa_nil)))))) (nomark _)))))) pa_nil)))))))), ?_⟩
    walk_at "rd"
    refine rd_iLx (SqL.of ab.at_) ?_
    refine comp_list (xs := cs.map V.ref) (fun i ys H' => ∃ l3 d', DkAt K H' p l1 l3 d' ∧ Apt H' l1 l3 b (cs.map V.ref) ∧ Tk H H' ∧ duesD d' (xs.drop i) ∧ d'.past.length ≤ 1000 + i ∧ d'.und.length ≤ 1000 + i ∧ ys = (List.replicate i true).map V.bl) (small_line (by rw [List.length_map]; omega)) ⟨l2, d, D, ab, fun _ _ z => z, du, f1, f2, rfl⟩ (fun i ys H' hi h => ?_) ?_ ?_
    · obtain ⟨l3, d', _, ab', _, _, _, _, rfl⟩ := h
      exact ⟨SqL.of ab'.at_, by simp⟩
    · rintro i u ys H' hu ⟨l3, d', D', ab', tk, du', g1, g2, rfl⟩
      rw [List.getElem?_map] at hu
      obtain ⟨c, hc, rfl⟩ := Option.map_eq_some_iff.mp hu
      obtain ⟨x, hxi, hda⟩ := paired_at pr hc
      obtain ⟨v, h1, h2⟩ := hda.tk tk
      have hi : i < xs.length := (List.getElem?_eq_some_iff.mp hxi).1
      obtain ⟨ok, d2, e2, ho, b1, b2, du2⟩ := due_at du' hxi
      refine rd_gtup (SqT.of h1) rfl ?_
      walk_at "rd"
      refine iteT ?_
      walk_at "rd"
      refine ⟨p, l1, l3, d', x.1, rfl, D', ok, by omega, by omega, ToldL.ok e2 ?_⟩
      intro t l4 H2 h4 D2 fr ht
      have tk2 := fr.tk D'
      have h2' := h2.tk tk2
      walk_at "rd"
      refine ⟨v, x.2.1, x.2.2, rfl, h2'.1, h2'.2, fun H3 e3 => ?_⟩
      walk_at "rd"
      refine ⟨small_line (by simp), rd_new fun u H4 e4 hu _ => ?_⟩
      refine ⟨1, 1, _, _, told_rep ((e3.trans e4) _ _ ht) told_lay.1 (house_low ho), told_rep hu told_lay.1 (house_low ho), by decide, ?_⟩
      rw [told_eqv]
      simp only [decide_true, Bool.and_self]
      have e34 := e3.trans e4
      refine ⟨l4, d2, D2.ext e34, (ab'.step D' fr h4).ext e34, fun b xs z => e34 _ _ (tk2 _ _ (tk _ _ z)), du2, by omega, by omega, ?_⟩
      rw [List.replicate_succ', List.map_append]
      rfl
    · rintro ys H' r ⟨l3, d', D', ab', tk, du', g1, g2, rfl⟩ hr
      walk_at "rd"
      refine ⟨r, _, rfl, SqL.of upd_same, ?_⟩
      rw [show (List.replicate (cs.map V.ref).length true).all id = true by simp]
      exact q _
theorem cA_at {K : PySem.W.Frag} {x : Str} {C : Addr} (h : PySem.W.nsIn K mainGlobals x = some (some (.ref C))) : cA K x = C := by
  unfold cA
  rw [h]
noncomputable def dkB (K : PySem.W.Frag) : Bool :=
  PySem.W.nsIn K mainGlobals "Desk" == some (some (.ref (cA K "Desk"))) && PySem.W.plainGet K (cA K "Desk") Str.empty && PySem.W.hasDictIn K (cA K "Desk") && PySem.W.plainOver K (cA K "Desk") &&
  PySem.W.findIn K (.ref (cA K "Desk")) "__setattr__" == some (some (.builtin "object.__setattr__")) && PySem.W.findIn K (.ref (cA K "Desk")) "house" == some none && PySem.W.findIn K (.ref (cA K "Desk")) "past" == some none && PySem.W.findIn K (.ref (cA K "Desk")) "undone" == some none &&
  PySem.W.makesIn K (cA K "Desk") && PySem.W.keepIn K (.ref (cA K "Desk")) && (["rooms_deed", "way_deed", "close_deed", "turn_deed", "show_ask"] : List Str).all fun x => PySem.W.nsIn K mainGlobals x == some (some (.ref (cA K x)))
theorem desk_mk {K : PySem.W.Frag} {mg : Str → Option Value} {h : Heap} (X : K.In h) (G : h.Ns mainGlobals mg) (b : dkB K = true) : DeskK K mg ∧ mg "Desk" = some (.ref (cA K "Desk")) ∧ PySem.W.makesIn K (cA K "Desk") = true ∧ PySem.W.keepIn K (.ref (cA K "Desk")) = true := by
  unfold dkB at b
  simp only [Bool.and_eq_true, beq_iff_eq, List.all_eq_true] at b
  obtain ⟨⟨⟨⟨⟨⟨⟨⟨⟨⟨h1, h2⟩, h3⟩, h4⟩, h5⟩, h6⟩, h7⟩, h8⟩, h9⟩, hA⟩, hB⟩ := b
  exact ⟨⟨⟨h2, h3, h4, h5⟩, h6, h7, h8, fun x hx => PySem.W.mg_of X G (hB x hx)⟩, PySem.W.mg_of X G h1, h9, hA⟩
theorem meth_mk {K : PySem.W.Frag} {C f : Addr} {m qual : Str} {st : Stmt} {oc : Value} {od an : Option Addr} {osl : Array (Option Value)} {kV doc pm cdv ct : Value} {ps : List Str} (nD : PySem.W.nsIn K mainGlobals "Desk" = some (some (.ref C))) (a : PySem.W.findIn K (.ref C) m = some (some (.ref f)))
    (l : K.lookup f = some ⟨oc, od, .func (PySem.W.fnOf m qual (defArgs st) (defBody st) (defScope st) .none kV doc pm an cdv ct), osl⟩) (c : PySem.W.codeIn K cdv qual = true) (k : PySem.W.keepIn K (.ref f) = true) (i : PySem.W.isFn K (.ref f) = true)
    (hb : Fun K m qual st f (PySem.W.fnOf m qual (defArgs st) (defBody st) (defScope st) .none kV doc pm an cdv ct) → Binds K (PySem.W.fnOf m qual (defArgs st) (defBody st) (defScope st) .none kV doc pm an cdv ct) ps []) : MDfn K (cA K "Desk") m qual st ps := by
  have F := fun_mk (st := st) l c k
  exact ⟨⟨f, _, ⟨by rw [cA_at nD]; exact a, i, k⟩, F, hb F⟩⟩
noncomputable def TupOk (K : PySem.W.Frag) (b : Addr) (ks : List Str) : Prop := ∃ (od : Option Addr) (its : Array Value) (n : Nat) (sl : Array (Option Value)), K.lookup b = some ⟨.type "tuple", od, .seq its n, sl⟩ ∧ its.size ≤ sizeLine ∧ Vals (ks.map V.str) its.toList
theorem TupOk.sq {K : PySem.W.Frag} {b : Addr} {ks : List Str} (h : TupOk K b ks) (H : Hp) : SqT K H b (ks.map V.str) := by
  obtain ⟨od, its, n, sl, h1, h2, h3⟩ := h
  exact .inr ⟨_, its, n, h1, rfl, rfl, h2, h3⟩
noncomputable def rowsOk (K : PySem.W.Frag) : List (Str × Addr × List Str) → Prop
  | [] => True
  | r :: t => TupOk K r.2.1 r.2.2 ∧ rowsOk K t
noncomputable def kindsL : List (Str × Addr × List Str) → Str → Option (List Str)
  | [], _ => none
  | r :: t, z => if z = r.1 then some r.2.2 else kindsL t z
theorem lines_at {K : PySem.W.Frag} (z : Str) : ∀ {rows : List (Str × Addr × List Str)}, rowsOk K rows → match kindsL rows z with
    | some ks => ∃ b, valV (rows.map fun r => ((.inr r.1 : Key), V.ref r.2.1)) (.inr z) = some (.ref b) ∧ ∀ H, SqT K H b (ks.map V.str)
    | none => valV (rows.map fun r => ((.inr r.1 : Key), V.ref r.2.1)) (.inr z) = none
  | [], _ => rfl
  | r :: t, h => by
    by_cases e : z = r.1
    · rw [show kindsL (r :: t) z = some r.2.2 from if_pos e]
      exact ⟨r.2.1, by rw [List.map_cons, e]; exact valV_pos rfl, h.1.sq⟩
    · rw [show kindsL (r :: t) z = kindsL t z from if_neg e, List.map_cons, valV_neg (fun x => e (Sum.inr.inj x).symm)]
      exact lines_at z h.2
theorem gdk_DEEDS {w : World} {K : PySem.W.Frag} {a r1 r2 r3 r4 : Addr} {t1 t2 t3 t4 : Tok} {ep : Nat} (h : K.lookup a = some (gdO w [("rooms", t1, .ref r1), ("way", t2, .ref r2), ("close", t3, .ref r3), ("turn", t4, .ref r4)] ep)) (hs : (a == sysModules) = false)
    (n1 : PySem.W.nsIn K mainGlobals "rooms_deed" = some (some (.ref r1))) (n2 : PySem.W.nsIn K mainGlobals "way_deed" = some (some (.ref r2))) (n3 : PySem.W.nsIn K mainGlobals "close_deed" = some (some (.ref r3))) (n4 : PySem.W.nsIn K mainGlobals "turn_deed" = some (some (.ref r4))) : GDict w K a (gd_DEEDS K) := by
  obtain rfl := cA_at n1
  obtain rfl := cA_at n2
  obtain rfl := cA_at n3
  obtain rfl := cA_at n4
  exact ⟨⟨_, _, h, .cons ⟨rfl, rfl⟩ (.cons ⟨rfl, rfl⟩ (.cons ⟨rfl, rfl⟩ (.cons ⟨rfl, rfl⟩ .nil)))⟩, (show ([.inr "rooms", .inr "way", .inr "close", .inr "turn"] : List Key).Nodup by decide +kernel), hs⟩
theorem gdk_ASKS {w : World} {K : PySem.W.Frag} {a r1 r2 r3 r4 r5 r6 r7 : Addr} {t1 t2 t3 t4 t5 t6 t7 : Tok} {ep : Nat} (h : K.lookup a = some (gdO w [("show", t1, .ref r1), ("reach", t2, .ref r2), ("forward", t3, .ref r3), ("backward", t4, .ref r4), ("most", t5, .ref r5), ("fate", t6, .ref r6), ("word", t7, .ref r7)] ep)) (hs : (a == sysModules) = false)
    (n1 : PySem.W.nsIn K mainGlobals "show_ask" = some (some (.ref r1))) (n2 : PySem.W.nsIn K mainGlobals "reach_ask" = some (some (.ref r2))) (n3 : PySem.W.nsIn K mainGlobals "forward_ask" = some (some (.ref r3))) (n4 : PySem.W.nsIn K mainGlobals "backward_ask" = some (some (.ref r4))) (n5 : PySem.W.nsIn K mainGlobals "most_ask" = some (some (.ref r5))) (n6 : PySem.W.nsIn K mainGlobals "fate_ask" = some (some (.ref r6))) (n7 : PySem.W.nsIn K mainGlobals "word_ask" = some (some (.ref r7))) : GDict w K a (gd_ASKS K) := by
  obtain rfl := cA_at n1
  obtain rfl := cA_at n2
  obtain rfl := cA_at n3
  obtain rfl := cA_at n4
  obtain rfl := cA_at n5
  obtain rfl := cA_at n6
  obtain rfl := cA_at n7
  exact ⟨⟨_, _, h, .cons ⟨rfl, rfl⟩ (.cons ⟨rfl, rfl⟩ (.cons ⟨rfl, rfl⟩ (.cons ⟨rfl, rfl⟩ (.cons ⟨rfl, rfl⟩ (.cons ⟨rfl, rfl⟩ (.cons ⟨rfl, rfl⟩ .nil))))))⟩, (show ([.inr "show", .inr "reach", .inr "forward", .inr "backward", .inr "most", .inr "fate", .inr "word"] : List Key).Nodup by decide +kernel), hs⟩
theorem gdk_LINES {w : World} {K : PySem.W.Frag} {a b0 b1 b2 b3 b4 b5 b6 b7 b8 b9 b10 b11 b12 : Addr} {t0 t1 t2 t3 t4 t5 t6 t7 t8 t9 t10 t11 t12 : Tok} {ep : Nat} (h : K.lookup a = some (gdO w [("rooms", t0, .ref b0), ("way", t1, .ref b1), ("close", t2, .ref b2), ("turn", t3, .ref b3), ("undo", t4, .ref b4), ("redo", t5, .ref b5), ("show", t6, .ref b6), ("reach", t7, .ref b7), ("forward", t8, .ref b8), ("backward", t9, .ref b9), ("most", t10, .ref b10), ("fate", t11, .ref b11), ("word", t12, .ref b12)] ep)) (hs : (a == sysModules) = false)
    (u0 : TupOk K b0 ["many"]) (u1 : TupOk K b1 ["number", "deed", "number", "sign"]) (u2 : TupOk K b2 ["number", "deed", "number", "sign"]) (u3 : TupOk K b3 []) (u4 : TupOk K b4 []) (u5 : TupOk K b5 []) (u6 : TupOk K b6 []) (u7 : TupOk K b7 ["number", "number", "number", "number"]) (u8 : TupOk K b8 ["number", "number", "number"]) (u9 : TupOk K b9 ["number", "number", "number"]) (u10 : TupOk K b10 ["number", "number"]) (u11 : TupOk K b11 ["number", "number"]) (u12 : TupOk K b12 ["number", "number"]) : ∃ kvs, GDict w K a kvs ∧ LinesOk K kvs := by
  have R : rowsOk K [("rooms", b0, ["many"]), ("way", b1, ["number", "deed", "number", "sign"]), ("close", b2, ["number", "deed", "number", "sign"]), ("turn", b3, []), ("undo", b4, []), ("redo", b5, []), ("show", b6, []), ("reach", b7, ["number", "number", "number", "number"]), ("forward", b8, ["number", "number", "number"]), ("backward", b9, ["number", "number", "number"]), ("most", b10, ["number", "number"]), ("fate", b11, ["number", "number"]), ("word", b12, ["number", "number"])] := ⟨u0, u1, u2, u3, u4, u5, u6, u7, u8, u9, u10, u11, u12, trivial⟩
  refine ⟨([("rooms", b0, ["many"]), ("way", b1, ["number", "deed", "number", "sign"]), ("close", b2, ["number", "deed", "number", "sign"]), ("turn", b3, []), ("undo", b4, []), ("redo", b5, []), ("show", b6, []), ("reach", b7, ["number", "number", "number", "number"]), ("forward", b8, ["number", "number", "number"]), ("backward", b9, ["number", "number", "number"]), ("most", b10, ["number", "number"]), ("fate", b11, ["number", "number"]), ("word", b12, ["number", "number"])] : List (Str × Addr × List Str)).map (fun (r : Str × Addr × List Str) => ((.inr r.1 : Key), V.ref r.2.1)), ⟨⟨_, _, h, .cons ⟨rfl, rfl⟩ (.cons ⟨rfl, rfl⟩ (.cons ⟨rfl, rfl⟩ (.cons ⟨rfl, rfl⟩ (.cons ⟨rfl, rfl⟩ (.cons ⟨rfl, rfl⟩ (.cons ⟨rfl, rfl⟩ (.cons ⟨rfl, rfl⟩ (.cons ⟨rfl, rfl⟩ (.cons ⟨rfl, rfl⟩ (.cons ⟨rfl, rfl⟩ (.cons ⟨rfl, rfl⟩ (.cons ⟨rfl, rfl⟩ .nil))))))))))))⟩, (show ([.inr "rooms", .inr "way", .inr "close", .inr "turn", .inr "undo", .inr "redo", .inr "show", .inr "reach", .inr "forward", .inr "backward", .inr "most", .inr "fate", .inr "word"] : List Key).Nodup by decide +kernel), hs⟩, fun z => ?_⟩
  exact lines_at z R
noncomputable def wk (M A j : Nat) : Way := wayN M ((A + j) % 416)
noncomputable def wsN (M A i : Nat) : List Way := (List.range i).map (wk M A)
theorem wk_inj {M A i j : Nat} (h2 : 2 ≤ M) (hi : i < 416) (hj : j < 416) (e : wk M A i = wk M A j) : i = j := by
  have := wayN_inj h2 (Nat.mod_lt _ (by omega)) (Nat.mod_lt _ (by omega)) e
  omega
theorem wsN_succ (M A i : Nat) : wsN M A (i + 1) = wsN M A i ++ [wk M A i] := by
  unfold wsN
  rw [List.range_succ, List.map_append]
  rfl
theorem wsN_new {M A i j : Nat} (h2 : 2 ≤ M) (hj : i ≤ j) (h : j < 416) : wk M A j ∉ wsN M A i := fun hm => by
  obtain ⟨k, hk, e⟩ := List.mem_map.mp hm
  have := List.mem_range.mp hk
  have := wk_inj h2 (by omega) h e
  omega
theorem wsN_len (M A i : Nat) : (wsN M A i).length = i := by unfold wsN; rw [List.length_map, List.length_range]
theorem wk_L {M : Nat} (A j : Nat) (h2 : 2 ≤ M) (h12 : M ≤ 12) : WayL (wk M A j) := wayN_L _ h2 h12
theorem wk_in {M : Nat} (A j : Nat) (h2 : 2 ≤ M) : (wk M A j).room < M ∧ (wk M A j).other < M := wayN_in _ h2
theorem hsN {M i : Nat} (A : Nat) (h2 : 2 ≤ M) (h12 : M ≤ 12) (hi : i ≤ 100) : HOuse M (wsN M A i) := by
  refine ⟨by omega, by omega, by rw [wsN_len]; exact hi, fun w hw => ?_, ?_⟩
  · obtain ⟨k, hk, rfl⟩ := List.mem_map.mp hw
    have h := wk_L A k h2 h12
    have h' := wk_in A k h2
    exact ⟨h.r0, h'.1, h.o0, h'.2, h.dd, h.sg⟩
  · unfold wsN List.Nodup
    rw [List.pairwise_map]
    refine List.Pairwise.imp_of_mem (fun {x y} hx hy ne e => ?_) (List.nodup_range (n := i))
    have h3 := List.mem_range.mp hx
    have h4 := List.mem_range.mp hy
    exact ne (wk_inj h2 (by omega) (by omega) e)
theorem tell_way {d : Dk} {w : Way} {h : HV} (e : wayD d.cur w = .ok h) : tellD d (.way w) = .ok (houseS h.1 h.2, d.doD h) := by
  show (match wayD d.cur w with | .error z => Except.error z | .ok h => Except.ok (houseS h.1 h.2, d.doD h)) = _
  rw [e]
theorem tell_wayE {d : Dk} {w : Way} {z : Str} (e : wayD d.cur w = .error z) : tellD d (.way w) = .error z := by
  show (match wayD d.cur w with | .error z => Except.error z | .ok h => Except.ok (houseS h.1 h.2, d.doD h)) = _
  rw [e]
theorem tell_close {d : Dk} {w : Way} {h : HV} (e : closeD d.cur w = .ok h) : tellD d (.close w) = .ok (houseS h.1 h.2, d.doD h) := by
  show (match closeD d.cur w with | .error z => Except.error z | .ok h => Except.ok (houseS h.1 h.2, d.doD h)) = _
  rw [e]
theorem tell_closeE {d : Dk} {w : Way} {z : Str} (e : closeD d.cur w = .error z) : tellD d (.close w) = .error z := by
  show (match closeD d.cur w with | .error z => Except.error z | .ok h => Except.ok (houseS h.1 h.2, d.doD h)) = _
  rw [e]
theorem wayD_new {h : HV} {w : Way} (r : w.room < h.1 ∧ w.other < h.1) (n : w ∉ h.2) (l : h.2.length < 100) : wayD h w = .ok (h.1, h.2 ++ [w]) := by
  unfold wayD
  rw [if_neg (fun z => z r), if_neg n, if_neg (by omega)]
theorem wayD_full {h : HV} {w : Way} (r : w.room < h.1 ∧ w.other < h.1) (n : w ∉ h.2) (l : 100 ≤ h.2.length) : wayD h w = .error "TooGreat" := by
  unfold wayD
  rw [if_neg (fun z => z r), if_neg n, if_pos l]
theorem wayD_there {h : HV} {w : Way} (r : w.room < h.1 ∧ w.other < h.1) (n : w ∈ h.2) : wayD h w = .error "NoWay" := by
  unfold wayD
  rw [if_neg (fun z => z r), if_pos n]
theorem wayD_no {h : HV} {w : Way} (r : ¬(w.room < h.1 ∧ w.other < h.1)) : wayD h w = .error "NoPlace" := by
  unfold wayD
  rw [if_pos r]
theorem closeD_in {h : HV} {w : Way} (n : w ∈ h.2) : closeD h w = .ok (h.1, h.2.filter fun u => decide (u ≠ w)) := by
  unfold closeD
  rw [if_pos n]
theorem closeD_no {h : HV} {w : Way} (n : w ∉ h.2) : closeD h w = .error "NoWay" := by
  unfold closeD
  rw [if_neg n]
noncomputable def dN (M A i : Nat) : Dk := ⟨((M : Int), wsN M A i), ((1 : Int), []) :: (List.range i).map (fun j => ((M : Int), wsN M A j)), []⟩
theorem dN_past (M A i : Nat) : (dN M A i).past.length = i + 1 := by
  show (_ :: List.map _ (List.range i)).length = _
  rw [List.length_cons, List.length_map, List.length_range]
theorem dN_succ (M A i : Nat) : (dN M A i).doD ((M : Int), wsN M A i ++ [wk M A i]) = dN M A (i + 1) := by
  unfold dN Dk.doD
  rw [wsN_succ, List.range_succ, List.map_append]
  rfl
theorem told_way {M i : Nat} (A : Nat) (h2 : 2 ≤ M) (hi : i < 100) : tellD (dN M A i) (.way (wk M A i)) = .ok (houseS M (wsN M A (i + 1)), dN M A (i + 1)) := by
  have e := wayD_new (h := ((M : Int), wsN M A i)) (w := wk M A i) (wk_in A i h2) (wsN_new h2 (Nat.le_refl _) (by omega)) (by show (wsN M A i).length < 100; rw [wsN_len]; exact hi)
  rw [tell_way (d := dN M A i) e, dN_succ, ← wsN_succ]
theorem turn_ok {c x : HV} {P u : List HV} (e : x = (c.1, c.2.map Way.turn)) : tellD ⟨c, P, u⟩ .turn = .ok (houseS x.1 x.2, ⟨x, P ++ [c], []⟩) := by
  subst e
  rfl
theorem undo_ok {c h : HV} {P u : List HV} : tellD ⟨c, P ++ [h], u⟩ .undo = .ok (houseS h.1 h.2, ⟨h, P, u ++ [c]⟩) := by
  simp only [tellD, List.getLast?_concat, List.dropLast_concat]
theorem redo_ok {c h : HV} {P u : List HV} : tellD ⟨c, P, u ++ [h]⟩ .redo = .ok (houseS h.1 h.2, ⟨h, P ++ [c], u⟩) := by
  simp only [tellD, List.getLast?_concat, List.dropLast_concat]
theorem last_dues {W L0 L1 L2 : HV} {P : List HV} (hW : HOuse W.1 W.2) (h0 : HOuse L0.1 L0.2) (h1 : HOuse L1.1 L1.2) (h2 : HOuse L2.1 L2.2) (e1 : L2 = (L1.1, L1.2.map Way.turn)) (e2 : L1 = (L2.1, L2.2.map Way.turn)) :
    duesD ⟨L1, P ++ [W] ++ [L0], []⟩ [(.turn, L2), (.turn, L1), (.undo, L2), (.undo, L1), (.undo, L0), (.undo, W), (.redo, L0), (.redo, L1), (.redo, L2)] :=
  ⟨trivial, _, turn_ok e1, h2, (by simp <;> omega), (by simp <;> omega), trivial, _, turn_ok e2, h1, (by simp <;> omega), (by simp <;> omega), trivial, _, undo_ok, h2, (by simp <;> omega), (by simp <;> omega), trivial, _, undo_ok, h1, (by simp <;> omega), (by simp <;> omega), trivial, _, undo_ok, h0, (by simp <;> omega), (by simp <;> omega), trivial, _, undo_ok, hW, (by simp <;> omega), (by simp <;> omega),
    trivial, _, redo_ok, h0, (by simp <;> omega), (by simp <;> omega), trivial, _, redo_ok, h1, (by simp <;> omega), (by simp <;> omega), trivial, _, redo_ok, h2, (by simp <;> omega), (by simp <;> omega), trivial⟩
theorem rd_toldN {t u : Addr} {a b : Str} {H : Hp} {Q : VK} (ht : H t = some (.tup [.str a, .str b])) (hu : H u = some (.tup [.str a, .str b])) (la : (PyData.str a).canLay0 = true) (lb : (PyData.str b).canLay0 = true) (k : Q (.bl false) H) : rEqD true (.ref t) (.ref u) H Q :=
  ⟨1, 1, _, _, told_rep ht la lb, told_rep hu la lb, by decide, by rw [told_eqv]; simpa using k⟩
noncomputable def BadAt (H : Hp) (c : Addr) (x : Way × Str) : Prop := ∃ b, H c = some (.tup [.ref b, .str x.2]) ∧ H b = some (.tup (Way.vs x.1))
theorem raised_lay {z : Str} (h : z ∈ raisedL) : (PyData.str z).canLay0 = true := by
  have : ∀ y ∈ raisedL, (PyData.str y).canLay0 = true := by decide +kernel
  exact this z h
noncomputable def badsN (M A g r : Nat) : List (Way × Str) := [(wk M A 100, "TooGreat"), (wk M A g, "NoWay"), (⟨(M : Int) + r, "up", 0, "a"⟩, "NoPlace"), (⟨0, "up", M, "z"⟩, "NoPlace")]
theorem bads_ok {M A g r : Nat} (h2 : 2 ≤ M) (h12 : M ≤ 12) (hg : g < 100) (hr : r < 12) : ∀ x ∈ badsN M A g r, WayL x.1 ∧ x.2 ∈ raisedL ∧ tellD (dN M A 100) (.way x.1) = .error x.2 := by
  intro x hx
  have hgm : wk M A g ∈ wsN M A 100 := List.mem_map.mpr ⟨g, List.mem_range.mpr hg, rfl⟩
  simp only [badsN, List.mem_cons, List.not_mem_nil, or_false] at hx
  rcases hx with rfl | rfl | rfl | rfl
  · exact ⟨wk_L A _ h2 h12, (show ("TooGreat" : Str) ∈ raisedL by decide +kernel), tell_wayE (wayD_full (h := ((M : Int), wsN M A 100)) (wk_in A _ h2) (wsN_new h2 (Nat.le_refl _) (by omega)) (by show 100 ≤ (wsN M A 100).length; rw [wsN_len]; exact Nat.le_refl _))⟩
  · exact ⟨wk_L A _ h2 h12, (show ("NoWay" : Str) ∈ raisedL by decide +kernel), tell_wayE (wayD_there (h := ((M : Int), wsN M A 100)) (wk_in A _ h2) hgm)⟩
  · exact ⟨⟨by show (0 : Int) ≤ (M : Int) + r; omega, by show (M : Int) + r < 1000000; omega, (show (0 : Int) ≤ 0 by decide), (show (0 : Int) < 1000000 by decide), .inl rfl, ⟨97, by decide, by decide, rfl⟩⟩, (show ("NoPlace" : Str) ∈ raisedL by decide +kernel), tell_wayE (wayD_no fun z => by have : (M : Int) + r < M := z.1; omega)⟩
  · exact ⟨⟨(show (0 : Int) ≤ 0 by decide), (show (0 : Int) < 1000000 by decide), by show (0 : Int) ≤ M; omega, by show (M : Int) < 1000000; omega, .inl rfl, ⟨122, by decide, by decide, rfl⟩⟩, (show ("NoPlace" : Str) ∈ raisedL by decide +kernel), tell_wayE (wayD_no fun z => by have : (M : Int) < M := z.2; omega)⟩
theorem four {ds : List Int} (h : ds.length = 4) : ∃ a b c d, ds = [a, b, c, d] := by
  match ds, h with
  | [a, b, c, d], _ => exact ⟨a, b, c, d, rfl⟩
theorem line_show : ("show" : Str) = Cmd.line .show := by decide +kernel
theorem line_rooms (n : Int) : ("rooms " : Str) ++ Tx.numS n = Cmd.line (.rooms n) := by
  have : Cmd.line (.rooms n) = (("rooms" : Str) ++ (" " : Str)) ++ Tx.numS n := by
    show Txt.join ⟨#[32]⟩ [("rooms" : Str), Tx.numS n] = _
    rw [Tx.tjoin]
    rfl
  rw [this, show ("rooms" : Str) ++ (" " : Str) = "rooms " by decide +kernel]
theorem house_none (n : Int) : Tx.numS n ++ (":" : Str) = houseS n [] := by
  unfold houseS
  show _ = Tx.numS n ++ (":" : Str) ++ Txt.join ⟨#[44]⟩ []
  rw [Tx.tjoin]
  exact (Str.append_empty _).symm
theorem less_len {w : Way} : ∀ {ws : List Way}, ws.Nodup → w ∈ ws → (ws.filter fun u => decide (u ≠ w)).length + 1 = ws.length
  | [], _, h => nomatch h
  | a :: t, nd, h => by
    have n1 := (List.nodup_cons.mp nd).1
    have n2 := (List.nodup_cons.mp nd).2
    by_cases e : a = w
    · subst e
      rw [List.filter_cons_of_neg (by simp), List.filter_eq_self.mpr fun u hu => decide_eq_true (show u ≠ a from fun z => n1 (by rw [← z]; exact hu))]
      rfl
    · rw [List.filter_cons_of_pos (by simpa using e), List.length_cons, List.length_cons, less_len n2 ((List.mem_cons.mp h).resolve_left (Ne.symm e))]
theorem less_no (w : Way) (ws : List Way) : w ∉ ws.filter fun u => decide (u ≠ w) := fun h => by
  have := (List.mem_filter.mp h).2
  simp at this
theorem line_one : ("turn" : Str) = Cmd.line .turn ∧ ("undo" : Str) = Cmd.line .undo ∧ ("redo" : Str) = Cmd.line .redo := by decide +kernel
theorem Apt.new {K : PySem.W.Frag} {H H' : Hp} {p l1 l2 b : Addr} {d : Dk} {xs : List V} (D : DkAt K H p l1 l2 d) (hb : H' b = some (.lst xs)) (hn : H b = none) : Apt H' l1 l2 b xs := by
  obtain ⟨_, ⟨vs, b1, _⟩, ⟨us, c1, _⟩, _⟩ := D
  exact ⟨hb, fun e => (by rw [e, b1] at hn; cases hn), fun e => (by rw [e, c1] at hn; cases hn)⟩
noncomputable def sp_law (K : PySem.W.Frag) : Sp := fun vs H Q _ => ∃ (a : Addr) (ns : List Int), vs = [.ref a] ∧ SqL K H a (ns.map V.int) ∧ ns.length ≤ 63 ∧ ∀ H', Q (.bl true) H'
noncomputable abbrev s_law : Stmt := stq 135
theorem sc_law : FnScope ["_law_script", "_law_draws_here", "_law_many", "_law_desk", "_law_house", "_law_k", "_law_way_here", "_law_more", "_law_gone", "_law_none", "_law_word", "_law_less_one", "_law_last", "_law_about", "_law_dues"] ["_law_script"] (defScope s_law) := ⟨rfl, rfl, rfl, by decide +kernel, rfl, by decide +kernel, by decide +kernel⟩
theorem ok_law {P : Program} {w : World} {K : PySem.W.Frag} {mg : Str → Option Value} {base : Heap} {f : Addr} {fd : FuncData} (F : Fun K "law" "law" s_law f fd) (T : Blt mg) (TD : DeskK K mg) (MK_Desk : MkD P w K mg base "Desk" 1 (sp_Desk_init K)) (C__law_all : Cal P w K mg base "_law_all" 11 ["_law_desk", "_law_dues"] (sp__law_all K)) (C__law_turned : Cal P w K mg base "_law_turned" 1 ["_law_house"] (sp__law_turned K)) (C__law_tell : Cal P w K mg base "_law_tell" 10 ["_law_desk", "_law_line_here"] (sp__law_tell K)) (C__law_line : Cal P w K mg base "_law_line" 1 ["_law_word", "_law_way_here"] (sp__law_line K)) (C__law_house_text : Cal P w K mg base "_law_house_text" 1 ["_law_house"] (sp__law_house_text K)) (C__law_way : Cal P w K mg base "_law_way" 1 ["_law_many", "_law_k"] (sp__law_way K)) (C__law_draws : Cal P w K mg base "_law_draws" 2 ["_law_cell_here", "_law_widths", "_law_prime"] (sp__law_draws K)) (C__law_cell : Cal P w K mg base "_law_cell" 1 ["_law_script", "_law_k"] (sp__law_cell K)) : FnOk P w K mg base CX0 12 f fd ["_law_script"] (sp_law K) := by
  have nd := (sc_law).nd
  refine F.ok sc_law (fun vs H Q E h => ?_) (fun cdv A outer s H vs Q E hr h => ?_)
  · obtain ⟨a, ns, rfl, _⟩ := h; rfl
  · obtain ⟨a, ns, rfl, ha, hlen, q⟩ := h
    refine ⟨_, (no_implicit_lambda% (pss_cons (no_implicit_lambda% (ps_set (i := 1) nd rfl (Or.inl rfl) (no_implicit_lambda% (pe_cal C__law_draws hr (no_implicit_lambda% (pa_cons (no_implicit_lambda% (pe_cal C__law_cell hr (no_implicit_lambda% (pa_cons (no_implicit_lambda% (pv 0)) (no_implicit_lambda% (pa_cons pe_int pa_nil)))))) (no_implicit_lambda% (pa_cons (no_implicit_lambda% (pe_lst (no_implicit_lambda% (pa_ints (.c (.c (.c (.c .n)))))))) (no_implicit_lambda% (pa_cons pe_int pa_nil))))))))))
        (no_implicit_lambda% (pss_cons (no_implicit_lambda% (ps_set (i := 2) nd rfl (Or.inl rfl) (no_implicit_lambda% (pe_op op_add pe_int (no_implicit_lambda% (pe_ix (ix_listK K) (no_implicit_lambda% (pv 1)) pe_int (fun _ _ => rfl)))))))
        (no_implicit_lambda% (pss_cons (no_implicit_lambda% (ps_set (i := 3) nd rfl (Or.inl rfl) (no_implicit_lambda% (pe_mkD MK_Desk hr))))
        (no_implicit_lambda% (pss_cons (no_implicit_lambda% (ps_if (no_implicit_lambda% (pt_cmpR (op_neD hr) (no_implicit_lambda% (pe_cal C__law_tell hr (no_implicit_lambda% (pa_cons (no_implicit_lambda% (pv 3)) (no_implicit_lambda% (pa_cons (no_implicit_lambda% (pe_op op_add_str pe_str (no_implicit_lambda% (pe_callTy call_str_int rfl T.str_ PyProof.Rows.boot_str (no_implicit_lambda% (pa_cons (no_implicit_lambda% (pv 2)) pa_nil)))))) pa_nil)))))) (no_implicit_lambda% (pe_tup (no_implicit_lambda% (pa_cons pe_str (no_implicit_lambda% (pa_cons (no_implicit_lambda% (pe_op op_add_str (no_implicit_lambda% (pe_callTy call_str_int rfl T.str_ PyProof.Rows.boot_str (no_implicit_lambda% (pa_cons (no_implicit_lambda% (pv 2)) pa_nil)))) pe_str)) pa_nil)))))) (nomark _))) (no_implicit_lambda% (pss_one (no_implicit_lambda% (ps_ret pe_bl)))) pss_nil))
        (no_implicit_lambda% (pss_cons (no_implicit_lambda% (ps_set (i := 4) nd rfl (Or.inl rfl) (no_implicit_lambda% (pe_tup (no_implicit_lambda% (pa_cons (no_implicit_lambda% (pv 2)) (no_implicit_lambda% (pa_cons (no_implicit_lambda% (pe_tup pa_nil)) pa_nil))))))))
        (no_implicit_lambda% (pss_cons (no_implicit_lambda% (ps_for PassesOwn.never rfl (no_implicit_lambda% (pi_range1 rfl T.range_ (no_implicit_lambda% (pa_cons pe_int pa_nil)))) (no_implicit_lambda% (pg_name (i := 5) nd rfl (Or.inl rfl))) (no_implicit_lambda% (pss_cons (no_implicit_lambda% (ps_set (i := 6) nd rfl (Or.inl rfl) (no_implicit_lambda% (pe_cal C__law_way hr (no_implicit_lambda% (pa_cons (no_implicit_lambda% (pv 2)) (no_implicit_lambda% (pa_cons (no_implicit_lambda% (pe_op op_mod (no_implicit_lambda% (pe_op op_add (no_implicit_lambda% (pe_ix (ix_listK K) (no_implicit_lambda% (pv 1)) pe_int (fun _ _ => rfl))) (no_implicit_lambda% (pv 5)))) pe_int)) pa_nil))))))))
        (no_implicit_lambda% (pss_cons (no_implicit_lambda% (ps_set (i := 4) nd rfl (Or.inl rfl) (no_implicit_lambda% (pe_tup (no_implicit_lambda% (pa_cons (no_implicit_lambda% (pv 2)) (no_implicit_lambda% (pa_cons (no_implicit_lambda% (pe_op op_catT1 (no_implicit_lambda% (pe_ix (ix_tupK K) (no_implicit_lambda% (pv 4)) pe_int (fun _ _ => rfl))) (no_implicit_lambda% (pe_tup (no_implicit_lambda% (pa_cons (no_implicit_lambda% (pv 6)) pa_nil)))))) pa_nil))))))))
        (no_implicit_lambda% (pss_one (no_implicit_lambda% (ps_if (no_implicit_lambda% (pt_cmpR (op_neD hr) (no_implicit_lambda% (pe_cal C__law_tell hr (no_implicit_lambda% (pa_cons (no_implicit_lambda% (pv 3)) (no_implicit_lambda% (pa_cons (no_implicit_lambda% (pe_cal C__law_line hr (no_implicit_lambda% (pa_cons pe_str (no_implicit_lambda% (pa_cons (no_implicit_lambda% (pv 6)) pa_nil)))))) pa_nil)))))) (no_implicit_lambda% (pe_tup (no_implicit_lambda% (pa_cons pe_str (no_implicit_lambda% (pa_cons (no_implicit_lambda% (pe_cal C__law_house_text hr (no_implicit_lambda% (pa_cons (no_implicit_lambda% (pv 4)) pa_nil)))) pa_nil)))))) (nomark _))) (no_implicit_lambda% (pss_one (no_implicit_lambda% (ps_ret pe_bl)))) pss_nil))))))))))
        (no_implicit_lambda% (pss_cons (no_implicit_lambda% (ps_set (i := 7) nd rfl (Or.inl rfl) (no_implicit_lambda% (pe_cal C__law_way hr (no_implicit_lambda% (pa_cons (no_implicit_lambda% (pv 2)) (no_implicit_lambda% (pa_cons (no_implicit_lambda% (pe_op op_mod (no_implicit_lambda% (pe_op op_add (no_implicit_lambda% (pe_ix (ix_listK K) (no_implicit_lambda% (pv 1)) pe_int (fun _ _ => rfl))) pe_int)) pe_int)) pa_nil))))))))
        (no_implicit_lambda% (pss_cons (no_implicit_lambda% (ps_set (i := 8) nd rfl (Or.inr rfl) (no_implicit_lambda% (pe_ix (ix_tupK K) (no_implicit_lambda% (pe_ix (ix_tupK K) (no_implicit_lambda% (pv 4)) pe_int (fun _ _ => rfl))) (no_implicit_lambda% (pe_ix (ix_listK K) (no_implicit_lambda% (pv 1)) pe_int (fun _ _ => rfl))) (fun _ _ => rfl)))))
        (no_implicit_lambda% (pss_cons (no_implicit_lambda% (ps_set (i := 9) nd rfl (Or.inl rfl) (no_implicit_lambda% (pe_tup (no_implicit_lambda% (pa_cons (no_implicit_lambda% (pe_op op_add (no_implicit_lambda% (pv 2)) (no_implicit_lambda% (pe_ix (ix_listK K) (no_implicit_lambda% (pv 1)) pe_int (fun _ _ => rfl))))) (no_implicit_lambda% (pa_cons pe_str (no_implicit_lambda% (pa_cons pe_int (no_implicit_lambda% (pa_cons pe_str pa_nil))))))))))))
        (no_implicit_lambda% (pss_cons (no_implicit_lambda% (ps_for PassesOwn.never rfl (no_implicit_lambda% (pi_listK K (no_implicit_lambda% (pe_lst (no_implicit_lambda% (pa_cons (no_implicit_lambda% (pe_tup (no_implicit_lambda% (pa_cons (no_implicit_lambda% (pv 7)) (no_implicit_lambda% (pa_cons pe_str pa_nil)))))) (no_implicit_lambda% (pa_cons (no_implicit_lambda% (pe_tup (no_implicit_lambda% (pa_cons (no_implicit_lambda% (pv 8)) (no_implicit_lambda% (pa_cons pe_str pa_nil)))))) (no_implicit_lambda% (pa_cons (no_implicit_lambda% (pe_tup (no_implicit_lambda% (pa_cons (no_implicit_lambda% (pv 9)) (no_implicit_lambda% (pa_cons pe_str pa_nil)))))) (no_implicit_lambda% (pa_cons (no_implicit_lambda% (pe_tup (no_implicit_lambda% (pa_cons (no_implicit_lambda% (pe_tup (no_implicit_lambda% (pa_cons pe_int (no_implicit_lambda% (pa_cons pe_str (no_implicit_lambda% (pa_cons (no_implicit_lambda% (pv 2)) (no_implicit_lambda% (pa_cons pe_str pa_nil)))))))))) (no_implicit_lambda% (pa_cons pe_str pa_nil)))))) pa_nil)))))))))))) (no_implicit_lambda% (pg_tupK (n := 2) K rfl (pgs_cons (no_implicit_lambda% (pg_name (i := 6) nd rfl (Or.inl rfl))) (pgs_cons (no_implicit_lambda% (pg_name (i := 10) nd rfl (Or.inl rfl))) pgs_nil)))) (no_implicit_lambda% (pss_cons (no_implicit_lambda% (ps_if (no_implicit_lambda% (pt_cmpR (op_neD hr) (no_implicit_lambda% (pe_cal C__law_tell hr (no_implicit_lambda% (pa_cons (no_implicit_lambda% (pv 3)) (no_implicit_lambda% (pa_cons (no_implicit_lambda% (pe_cal C__law_line hr (no_implicit_lambda% (pa_cons pe_str (no_implicit_lambda% (pa_cons (no_implicit_lambda% (pv 6)) pa_nil)))))) pa_nil)))))) (no_implicit_lambda% (pe_tup (no_implicit_lambda% (pa_cons pe_str (no_implicit_lambda% (pa_cons (no_implicit_lambda% (pv 10)) pa_nil)))))) (nomark _))) (no_implicit_lambda% (pss_one (no_implicit_lambda% (ps_ret pe_bl)))) pss_nil))
        (no_implicit_lambda% (pss_one (no_implicit_lambda% (ps_if (no_implicit_lambda% (pt_cmpR (op_neD hr) (no_implicit_lambda% (pe_cal C__law_tell hr (no_implicit_lambda% (pa_cons (no_implicit_lambda% (pv 3)) (no_implicit_lambda% (pa_cons pe_str pa_nil)))))) (no_implicit_lambda% (pe_tup (no_implicit_lambda% (pa_cons pe_str (no_implicit_lambda% (pa_cons (no_implicit_lambda% (pe_cal C__law_house_text hr (no_implicit_lambda% (pa_cons (no_implicit_lambda% (pv 4)) pa_nil)))) pa_nil)))))) (nomark _))) (no_implicit_lambda% (pss_one (no_implicit_lambda% (ps_ret pe_bl)))) pss_nil))))))))
        (no_implicit_lambda% (pss_cons (no_implicit_lambda% (ps_if (no_implicit_lambda% (pt_cmpR (op_neD hr) (no_implicit_lambda% (pe_cal C__law_tell hr (no_implicit_lambda% (pa_cons (no_implicit_lambda% (pv 3)) (no_implicit_lambda% (pa_cons (no_implicit_lambda% (pe_cal C__law_line hr (no_implicit_lambda% (pa_cons pe_str (no_implicit_lambda% (pa_cons (no_implicit_lambda% (pv 7)) pa_nil)))))) pa_nil)))))) (no_implicit_lambda% (pe_tup (no_implicit_lambda% (pa_cons pe_str (no_implicit_lambda% (pa_cons pe_str pa_nil)))))) (nomark _))) (no_implicit_lambda% (pss_one (no_implicit_lambda% (ps_ret pe_bl)))) pss_nil))
        (no_implicit_lambda% (pss_cons (no_implicit_lambda% (ps_set (i := 11) nd rfl (Or.inl rfl) (no_implicit_lambda% (pe_tup (no_implicit_lambda% (pa_cons (no_implicit_lambda% (pv 2)) (no_implicit_lambda% (pa_cons (no_implicit_lambda% (pe_callTy (call_tupK K) rfl T.tuple_ PyProof.Rows.boot_tuple (no_implicit_lambda% (pa_cons (no_implicit_lambda% (pe_compC ["_law_way_here"] [8] (no_implicit_lambda% (pi_tupK K (no_implicit_lambda% (pe_ix (ix_tupK K) (no_implicit_lambda% (pv 4)) pe_int (fun _ _ => rfl))))) (fun _ => (no_implicit_lambda% (pg_name (i := 0) (show (["_law_way_here", "_law_gone"] : List Str).Nodup from by decide +kernel) rfl (Or.inl rfl) (Or.inr rfl)))) (fun _ => (pcs_one (no_implicit_lambda% (pt_cmpR (op_neD hr) (no_implicit_lambda% (pv 0)) (no_implicit_lambda% (pv 1)) (nomark _))))) (fun _ => (no_implicit_lambda% (pv 0))))) pa_nil)))) pa_nil))))))))
        (no_implicit_lambda% (pss_cons (no_implicit_lambda% (ps_if (no_implicit_lambda% (pt_cmpR (op_neD hr) (no_implicit_lambda% (pe_cal C__law_tell hr (no_implicit_lambda% (pa_cons (no_implicit_lambda% (pv 3)) (no_implicit_lambda% (pa_cons (no_implicit_lambda% (pe_cal C__law_line hr (no_implicit_lambda% (pa_cons pe_str (no_implicit_lambda% (pa_cons (no_implicit_lambda% (pv 8)) pa_nil)))))) pa_nil)))))) (no_implicit_lambda% (pe_tup (no_implicit_lambda% (pa_cons pe_str (no_implicit_lambda% (pa_cons (no_implicit_lambda% (pe_cal C__law_house_text hr (no_implicit_lambda% (pa_cons (no_implicit_lambda% (pv 11)) pa_nil)))) pa_nil)))))) (nomark _))) (no_implicit_lambda% (pss_one (no_implicit_lambda% (ps_ret pe_bl)))) pss_nil))
        (no_implicit_lambda% (pss_cons (no_implicit_lambda% (ps_set (i := 12) nd rfl (Or.inl rfl) (no_implicit_lambda% (pe_tup (no_implicit_lambda% (pa_cons (no_implicit_lambda% (pv 2)) (no_implicit_lambda% (pa_cons (no_implicit_lambda% (pe_op op_catT1 (no_implicit_lambda% (pe_ix (ix_tupK K) (no_implicit_lambda% (pv 11)) pe_int (fun _ _ => rfl))) (no_implicit_lambda% (pe_tup (no_implicit_lambda% (pa_cons (no_implicit_lambda% (pv 8)) pa_nil)))))) pa_nil))))))))
        (no_implicit_lambda% (pss_cons (no_implicit_lambda% (ps_if (no_implicit_lambda% (pt_cmpR (op_neD hr) (no_implicit_lambda% (pe_cal C__law_tell hr (no_implicit_lambda% (pa_cons (no_implicit_lambda% (pv 3)) (no_implicit_lambda% (pa_cons (no_implicit_lambda% (pe_cal C__law_line hr (no_implicit_lambda% (pa_cons pe_str (no_implicit_lambda% (pa_cons (no_implicit_lambda% (pv 8)) pa_nil)))))) pa_nil)))))) (no_implicit_lambda% (pe_tup (no_implicit_lambda% (pa_cons pe_str (no_implicit_lambda% (pa_cons (no_implicit_lambda% (pe_cal C__law_house_text hr (no_implicit_lambda% (pa_cons (no_implicit_lambda% (pv 12)) pa_nil)))) pa_nil)))))) (nomark _))) (no_implicit_lambda% (pss_one (no_implicit_lambda% (ps_ret pe_bl)))) pss_nil))
        (no_implicit_lambda% (pss_cons (no_implicit_lambda% (ps_if (no_implicit_lambda% (pt_cmpR (op_neD hr) (no_implicit_lambda% (pe_cal C__law_tell hr (no_implicit_lambda% (pa_cons (no_implicit_lambda% (pv 3)) (no_implicit_lambda% (pa_cons (no_implicit_lambda% (pe_cal C__law_line hr (no_implicit_lambda% (pa_cons pe_str (no_implicit_lambda% (pa_cons (no_implicit_lambda% (pv 7)) pa_nil)))))) pa_nil)))))) (no_implicit_lambda% (pe_tup (no_implicit_lambda% (pa_cons pe_str (no_implicit_lambda% (pa_cons pe_str pa_nil)))))) (nomark _))) (no_implicit_lambda% (pss_one (no_implicit_lambda% (ps_ret pe_bl)))) pss_nil))
        (no_implicit_lambda% (pss_cons (no_implicit_lambda% (ps_set (i := 13) nd rfl (Or.inl rfl) (no_implicit_lambda% (pe_cal C__law_turned hr (no_implicit_lambda% (pa_cons (no_implicit_lambda% (pv 12)) pa_nil))))))
        (no_implicit_lambda% (pss_cons (no_implicit_lambda% (ps_set (i := 14) nd rfl (Or.inl rfl) (no_implicit_lambda% (pe_lst (no_implicit_lambda% (pa_cons (no_implicit_lambda% (pe_tup (no_implicit_lambda% (pa_cons pe_str (no_implicit_lambda% (pa_cons (no_implicit_lambda% (pv 13)) pa_nil)))))) (no_implicit_lambda% (pa_cons (no_implicit_lambda% (pe_tup (no_implicit_lambda% (pa_cons pe_str (no_implicit_lambda% (pa_cons (no_implicit_lambda% (pv 12)) pa_nil)))))) (no_implicit_lambda% (pa_cons (no_implicit_lambda% (pe_tup (no_implicit_lambda% (pa_cons pe_str (no_implicit_lambda% (pa_cons (no_implicit_lambda% (pv 13)) pa_nil)))))) (no_implicit_lambda% (pa_cons (no_implicit_lambda% (pe_tup (no_implicit_lambda% (pa_cons pe_str (no_implicit_lambda% (pa_cons (no_implicit_lambda% (pv 12)) pa_nil)))))) (no_implicit_lambda% (pa_cons (no_implicit_lambda% (pe_tup (no_implicit_lambda% (pa_cons pe_str (no_implicit_lambda% (pa_cons (no_implicit_lambda% (pv 11)) pa_nil)))))) (no_implicit_lambda% (pa_cons (no_implicit_lambda% (pe_tup (no_implicit_lambda% (pa_cons pe_str (no_implicit_lambda% (pa_cons (no_implicit_lambda% (pv 4)) pa_nil)))))) pa_nil))))))))))))))))
        (no_implicit_lambda% (pss_one (no_implicit_lambda% (ps_ret (no_implicit_lambda% (pe_cal C__law_all hr (no_implicit_lambda% (pa_cons (no_implicit_lambda% (pv 3)) (no_implicit_lambda% (pa_cons (no_implicit_lambda% (pe_op op_cat (no_implicit_lambda% (pv 14)) (no_implicit_lambda% (pe_lst (no_implicit_lambda% (pa_cons (no_implicit_lambda% (pe_tup (no_implicit_lambda% (pa_cons pe_str (no_implicit_lambda% (pa_cons (no_implicit_lambda% (pv 11)) pa_nil)))))) (no_implicit_lambda% (pa_cons (no_implicit_lambda% (pe_tup (no_implicit_lambda% (pa_cons pe_str (no_implicit_lambda% (pa_cons (no_implicit_lambda% (pv 12)) pa_nil)))))) (no_implicit_lambda% (pa_cons (no_implicit_lambda% (pe_tup (no_implicit_lambda% (pa_cons pe_str (no_implicit_lambda% (pa_cons (no_implicit_lambda% (pv 13)) pa_nil)))))) pa_nil)))))))))) pa_nil)))))))))))))))))))))))))))))))))))))))))))))), ?_⟩
    walk_at "rd"
    refine ⟨a, ns, 0, rfl, ha, hlen, by omega, fun z => ?_⟩
    walk_at "rd"
    refine ⟨small_line (by simp), rd_new fun w H1 e1 hw1 hw => ?_⟩
    walk_at "rd"
    refine mk_draws [11, 400, 100, 12] hw1 (by decide) (by decide) (by decide) fun dq ds H2 e2 hd hdn hl hb => ?_
    obtain ⟨d0, d1, d2, d3, rfl⟩ := four hl
    have b0 := hb 0 _ _ rfl rfl
    have b1 := hb 1 _ _ rfl rfl
    have b2 := hb 2 _ _ rfl rfl
    have b3 := hb 3 _ _ rfl rfl
    clear hb hl hdn hw1
    obtain ⟨c0, rfl⟩ : ∃ c : Nat, d0 = (c : Int) := ⟨d0.toNat, by omega⟩
    obtain ⟨A', rfl⟩ : ∃ c : Nat, d1 = (c : Int) := ⟨d1.toNat, by omega⟩
    obtain ⟨g, rfl⟩ : ∃ c : Nat, d2 = (c : Int) := ⟨d2.toNat, by omega⟩
    obtain ⟨r, rfl⟩ : ∃ c : Nat, d3 = (c : Int) := ⟨d3.toNat, by omega⟩
    have hg : g < 100 := by omega
    have hr : r < 12 := by omega
    walk_at "rd"
    refine rd_ixL (SqL.of hd) (v := .int (c0 : Int)) (atI_nat (j := 0) rfl) ?_
    walk_at "rd"
    rw [show (2 : Int) + (c0 : Int) = ((2 + c0 : Nat) : Int) by omega]
    have m2 : 2 ≤ 2 + c0 := by omega
    have m12 : 2 + c0 ≤ 12 := by omega
    generalize hdv : List.map V.int [(c0 : Int), (A' : Int), (g : Int), (r : Int)] = dv at hd
    have dv1 : dv[1]? = some (.int (A' : Int)) := by rw [← hdv]; rfl
    have dv2 : dv[2]? = some (.int (g : Int)) := by rw [← hdv]; rfl
    have dv3 : dv[3]? = some (.int (r : Int)) := by rw [← hdv]; rfl
    clear hdv
    generalize 2 + c0 = M at m2 m12 ⊢
    clear b0 b1 b2 b3
    intro p dx hp hdx hne
    have hd3 : upd (upd H2 dx (.own p)) p (.ins (cA K "Desk") dx []) dq = some (.lst dv) := by
      rw [upd_ne (ne_of_none hd hp), upd_ne (ne_of_none hd hdx)]; exact hd
    refine ⟨p, dx, rfl, upd_same, fun l1 l2 H3 n1 n2 D fr => ⟨rfl, ?_⟩⟩
    have ap : Apt H3 l1 l2 dq dv := ⟨fr _ _ hd3 (ne_of_none hd hp), ne_of_none hd3 n1, ne_of_none hd3 n2⟩
    clear fr n1 n2 hd3 hp hdx hne hd e2 e1
    walk_at "rd"
    refine ⟨_, rfl, num_log (by omega) (by omega), ?_⟩
    walk_at "rd"
    rw [show Str.ofString (toString (M : Int)) = Tx.numS (M : Int) from rfl]
    refine ⟨_, _, rfl, rfl, small_line (by have := Tx.num_len6 (n := (M : Int)) (by omega) (by omega); have h6 : (Str.ofString "rooms ").length = 6 := rfl; omega), ?_⟩
    walk_at "rd"
    rw [line_rooms]
    refine ⟨p, l1, l2, _, .rooms M, rfl, D, ⟨by omega, by omega⟩, by decide, by decide, ToldL.ok (d' := dN M A' 0) rfl ?_⟩
    intro t l3 H4 h4 D4 fr ht
    have ap4 := ap.step D fr h4
    walk_at "rd"
    refine ⟨_, rfl, num_log (by omega) (by omega), ?_⟩
    walk_at "rd"
    rw [show Str.ofString (toString (M : Int)) = Tx.numS (M : Int) from rfl]
    refine ⟨_, _, rfl, rfl, small_line (by have := Tx.num_len6 (n := (M : Int)) (by omega) (by omega); have h6 : (Str.ofString ":").length = 1 := rfl; omega), ?_⟩
    rw [house_none]
    walk_at "rd"
    refine ⟨small_line (by simp), rd_new fun u H5 e5 hu _ => ?_⟩
    refine rd_toldN (e5 _ _ ht) hu told_lay.1 (house_low (hsN A' m2 m12 (i := 0) (Nat.zero_le _))) ?_
    refine rd_exb (iteF ?_)
    walk_at "rd"
    have D5 := D4.ext e5
    have ap5 := ap4.ext e5
    clear D ap D4 ap4 e5 fr h4 ht hu
    clear H1 H2 w hw z
    refine ⟨small_line (by simp), rd_new fun tn H6 e6 htn _ => ?_⟩
    walk_at "rd"
    refine ⟨small_line (by simp), rd_new fun hn H7 e7 hhn _ => ?_⟩
    walk_at "rd"
    have D7 := D5.ext (e6.trans e7)
    have ap7 := ap5.ext (e6.trans e7)
    have hv7 : HvAt H7 (.ref hn) ((M : Int), wsN M A' 0) := ⟨⟨hn, tn, rfl, hhn, [], e7 _ _ htn, rfl, fun j b k h => by simp at h⟩, hsN A' m2 m12 (Nat.zero_le _)⟩
    clear D5 ap5 e6 e7 htn hhn
    refine rd_i1x (by omega) ?_
    refine forR (fun i σ H' => ∃ v k1 w1 l3, σ = [some (.ref a), some (.ref dq), some (.int (M : Int)), some (.ref p), some v, k1, w1, none, none, none, none, none, none, none, none] ∧ DkAt K H' p l1 l3 (dN M A' i) ∧ Apt H' l1 l3 dq dv ∧ HvAt H' v ((M : Int), wsN M A' i)) ⟨.ref hn, none, none, l3, rfl, D7, ap7, hv7⟩ ?_ ?_
    · clear D7 ap7 hv7 l3
      rintro i σ H8 hi ⟨v, k1, w1, l3, rfl, D, ap, hv⟩
      have hi : i < 100 := hi
      have hvv := hv
      obtain ⟨⟨pv, t, rfl, g1, g2⟩, ok⟩ := hvv
      obtain ⟨bs, g3, al⟩ := WaysAt.al g2
      have hal := al.1
      rw [wsN_len] at hal
      walk_at "rd"
      refine rd_ixL (SqL.of ap.at_) (v := .int (A' : Int)) (atI_nat (j := 1) dv1) ?_
      walk_at "rd"
      rw [show ((A' : Int) + (0 + (i : Int))) % 416 = (((A' + i) % 416 : Nat) : Int) by omega]
      refine ⟨M, (A' + i) % 416, rfl, m2, m12, fun wt H9 e9 hwt => ?_⟩
      walk_at "rd"
      refine rd_ixT (SqT.of (e9 _ _ g1)) (v := .ref t) rfl ?_
      walk_at "rd"
      refine ⟨small_line (by simp), rd_new fun t2 HA eA ht2 _ => ?_⟩
      have e12 := e9.trans eA
      refine rd_catT1 (e12 _ _ g3) ht2 (small_line (by rw [List.length_map, hal]; simp; omega)) fun t3 HB eB ht3 => ?_
      walk_at "rd"
      refine ⟨small_line (by simp), rd_new fun u HC eC hu _ => ?_⟩
      have e14 := e12.trans (eB.trans eC)
      have hwC := (eA.trans (eB.trans eC)) _ _ hwt
      have al4 : AlW HC (bs ++ [wt]) (wsN M A' (i + 1)) := by rw [wsN_succ]; exact (al.ext e14).snoc hwC
      have ht4 : HC t3 = some (.tup ((bs ++ [wt]).map V.ref)) := by rw [List.map_append]; exact eC _ _ ht3
      have hvC : HvAt HC (.ref u) ((M : Int), wsN M A' (i + 1)) := ⟨HouseAt.mk hu (al4.ways ht4), hsN A' m2 m12 (by omega)⟩
      have DC := D.ext e14
      have apC := ap.ext e14
      clear D ap hv g1 g2 g3 al al4 ht4 ht3 ht2 hu hwt e9 eA eB eC e12 e14 ok
      walk_at "rd"
      refine ⟨"way", wt, wk M A' i, rfl, hwC, wk_L A' i m2 m12, by decide, fun HD eD => ?_⟩
      walk_at "rd"
      refine ⟨p, l1, l3, dN M A' i, .way (wk M A' i), rfl, DC.ext eD, wk_L A' i m2 m12, by rw [dN_past]; omega, Nat.zero_le _, ToldL.ok (told_way A' m2 hi) ?_⟩
      intro tt l4 HE h4 DE fr ht
      have apE := (apC.ext eD).step (DC.ext eD) fr h4
      have hvE := (hvC.ext eD).tk (fr.tk (DC.ext eD))
      clear DC apC hvC fr h4 eD hwC
      walk_at "rd"
      refine ⟨.ref u, (M : Int), wsN M A' (i + 1), rfl, hvE.1, hvE.2, fun HF eF => ?_⟩
      walk_at "rd"
      refine ⟨small_line (by simp), rd_new fun uu HG eG huu _ => ?_⟩
      refine rd_toldN ((eF.trans eG) _ _ ht) huu told_lay.1 (house_low hvE.2) ?_
      refine rd_exb (iteF ?_)
      walk_at "rd"
      exact ⟨.ref u, _, _, l4, rfl, DE.ext (eF.trans eG), apE.ext (eF.trans eG), hvE.ext (eF.trans eG)⟩
    clear D7 ap7 hv7 l3
    rintro σ H8 ⟨v, k1, w1, l3, rfl, D, ap, hv⟩
    obtain ⟨D, ap, hv⟩ : DkAt K H8 p l1 l3 (dN M A' 100) ∧ Apt H8 l1 l3 dq dv ∧ HvAt H8 v ((M : Int), wsN M A' 100) := ⟨D, ap, hv⟩
    have hvv := hv
    obtain ⟨⟨pv, t, rfl, g1, g2⟩, okW⟩ := hvv
    obtain ⟨bs, g3, al⟩ := WaysAt.al g2
    have hal := al.1
    rw [wsN_len] at hal
    walk_at "rd"
    refine rd_ixL (SqL.of ap.at_) (v := .int (A' : Int)) (atI_nat (j := 1) dv1) ?_
    walk_at "rd"
    rw [show ((A' : Int) + 100) % 416 = (((A' + 100) % 416 : Nat) : Int) by omega]
    refine ⟨M, (A' + 100) % 416, rfl, m2, m12, fun mt H9 e9 hmt => ?_⟩
    walk_at "rd"
    refine rd_ixT (SqT.of (e9 _ _ g1)) (v := .ref t) rfl ?_
    walk_at "rd"
    refine rd_ixL (SqL.of (e9 _ _ ap.at_)) (v := .int (g : Int)) (atI_nat (j := 2) dv2) ?_
    have hgb : g < bs.length := by omega
    refine rd_ixT (SqT.of (e9 _ _ g3)) (v := .ref bs[g]) (atI_nat (j := g) (by rw [List.getElem?_map, List.getElem?_eq_getElem hgb]; rfl)) ?_
    have hgt : H9 bs[g] = some (.tup (Way.vs (wk M A' g))) := e9 _ _ (al.2 g _ _ (List.getElem?_eq_getElem hgb) (by unfold wsN; rw [List.getElem?_map, List.getElem?_range hg]; rfl))
    generalize bs[g] = gt at hgt ⊢
    walk_at "rd"
    refine rd_ixL (SqL.of (e9 _ _ ap.at_)) (v := .int (r : Int)) (atI_nat (j := 3) dv3) ?_
    walk_at "rd"
    refine ⟨small_line (by simp), rd_new fun nt HA eA hnt _ => ?_⟩
    walk_at "rd"
    refine ⟨small_line (by simp), rd_new fun i1 HB eB hi1 _ => ?_⟩
    walk_at "rd"
    refine ⟨small_line (by simp), rd_new fun i2 HC eC hi2 _ => ?_⟩
    walk_at "rd"
    refine ⟨small_line (by simp), rd_new fun i3 HD eD hi3 _ => ?_⟩
    walk_at "rd"
    refine ⟨small_line (by simp), rd_new fun zt HE eE hzt _ => ?_⟩
    walk_at "rd"
    refine ⟨small_line (by simp), rd_new fun i4 HF eF hi4 _ => ?_⟩
    walk_at "rd"
    refine ⟨small_line (by simp), rd_new fun il HG eG hil hilN => ?_⟩
    have eFG := eF.trans eG
    have eDG := eD.trans (eE.trans eFG)
    have eCG := eC.trans eDG
    have eBG := eB.trans eCG
    have eAG := eA.trans eBG
    have e8G := e9.trans eAG
    have hil : HG il = some (.lst ([i1, i2, i3, i4].map V.ref)) := hil
    have pb : Paired (BadAt HG) [i1, i2, i3, i4] (badsN M A' g r) := .cons ⟨mt, eCG _ _ hi1, eAG _ _ hmt⟩ (.cons ⟨gt, eDG _ _ hi2, eAG _ _ hgt⟩ (.cons ⟨nt, (eE.trans eFG) _ _ hi3, eBG _ _ hnt⟩ (.cons ⟨zt, eG _ _ hi4, eFG _ _ hzt⟩ .nil)))
    have DG := D.ext e8G
    have apG := ap.ext e8G
    have apl : Apt HG l1 l3 il ([i1, i2, i3, i4].map V.ref) := by
      obtain ⟨_, ⟨vs, b1, _⟩, ⟨us, c1, _⟩, _⟩ := D.ext (e9.trans (eA.trans (eB.trans (eC.trans (eD.trans (eE.trans eF))))))
      exact ⟨hil, fun e => (by rw [e, b1] at hilN; cases hilN), fun e => (by rw [e, c1] at hilN; cases hilN)⟩
    have hvG := hv.ext e8G
    have hmG := eAG _ _ hmt
    have hgG := eAG _ _ hgt
    clear hi1 hi2 hi3 hi4 hnt hzt hmt hgt hil hilN eFG eDG eCG eBG eAG e8G e9 eA eB eC eD eE eF eG D ap hv g1 g2 g3 al hgb hal
    walk_at "rd"
    refine rd_iLx (SqL.of apl.at_) ?_
    refine forL (xs := [i1, i2, i3, i4].map V.ref) (fun i σ H' => ∃ k1 w1 wd l4, σ = [some (.ref a), some (.ref dq), some (.int (M : Int)), some (.ref p), some (.ref pv), k1, w1, some (.ref mt), some (.ref gt), some (.ref nt), wd, none, none, none, none] ∧ DkAt K H' p l1 l4 (dN M A' 100) ∧ Apt H' l1 l4 dq dv ∧ Apt H' l1 l4 il ([i1, i2, i3, i4].map V.ref) ∧ Tk HG H') ⟨_, _, none, l3, rfl, DG, apG, apl, fun _ _ z => z⟩ (fun i σ H' _ h => by obtain ⟨_, _, _, _, _, _, _, x, _⟩ := h; exact SqL.of x.at_) ?_ ?_
    · clear DG apG apl
      rintro i x σ H9 hx ⟨k1, w1, wd, l3, rfl, D, ap, al, tk⟩
      rw [List.getElem?_map] at hx
      obtain ⟨c, hc, rfl⟩ := Option.map_eq_some_iff.mp hx
      obtain ⟨x, hxi, b, h1, h2⟩ := paired_at pb hc
      obtain ⟨wl, hz, he⟩ := bads_ok m2 m12 hg hr x (List.mem_of_getElem? hxi)
      have h1 := tk _ _ h1
      have h2 := tk _ _ h2
      have hv9 := hvG.tk tk
      clear hx hxi hc c0
      obtain ⟨xw, xz⟩ := x
      refine rd_gtup (SqT.of h1) rfl ?_
      walk_at "rd"
      refine ⟨"way", b, xw, rfl, h2, wl, by decide, fun HA eA => ?_⟩
      walk_at "rd"
      refine ⟨p, l1, l3, dN M A' 100, .way xw, rfl, D.ext eA, wl, by rw [dN_past]; omega, Nat.zero_le _, ToldL.no he ?_⟩
      intro tt HB eB ht
      walk_at "rd"
      refine ⟨small_line (by simp), rd_new fun uu HC eC huu _ => ?_⟩
      refine rd_toldN (eC _ _ ht) huu told_lay.2 (raised_lay hz) ?_
      refine rd_exb (iteF ?_)
      have eAC := eA.trans (eB.trans eC)
      have D1 := D.ext eAC
      walk_at "rd"
      rw [line_show]
      refine ⟨p, l1, l3, dN M A' 100, .show, rfl, D1, trivial, by rw [dN_past]; omega, Nat.zero_le _, ToldL.ok (d' := dN M A' 100) rfl ?_⟩
      intro t2 l4 HD h4 DD fr ht2
      have apD := (ap.ext eAC).step D1 fr h4
      have alD := (al.ext eAC).step D1 fr h4
      have tkD : Tk HG HD := fun b xs z => fr.tk D1 _ _ (eAC _ _ (tk _ _ z))
      have hvD := hvG.tk tkD
      walk_at "rd"
      refine ⟨.ref pv, (M : Int), wsN M A' 100, rfl, hvD.1, hvD.2, fun HE eE => ?_⟩
      walk_at "rd"
      refine ⟨small_line (by simp), rd_new fun u2 HF eF hu2 _ => ?_⟩
      refine rd_toldN ((eE.trans eF) _ _ ht2) hu2 told_lay.1 (house_low hvD.2) ?_
      refine rd_exb (iteF ?_)
      walk_at "rd"
      have eEF := eE.trans eF
      exact ⟨_, _, _, l4, rfl, DD.ext eEF, apD.ext eEF, alD.ext eEF, fun b xs z => eEF _ _ (tkD _ _ z)⟩
    clear DG apG apl
    rintro σ H9 ⟨k1, w1, wd, l3, rfl, D, -, -, tk⟩
    have hm9 := tk _ _ hmG
    have hg9 := tk _ _ hgG
    have hv9 := hvG.tk tk
    clear hmG hgG hvG tk pb ap dv1 dv2 dv3
    have hmore : wk M A' 100 ∉ wsN M A' 100 := wsN_new m2 (Nat.le_refl _) (by omega)
    have hgin : wk M A' g ∈ wsN M A' 100 := List.mem_map.mpr ⟨g, List.mem_range.mpr hg, rfl⟩
    walk_at "rd"
    refine ⟨"close", mt, wk M A' 100, rfl, hm9, wk_L A' _ m2 m12, by decide, fun HA eA => ?_⟩
    walk_at "rd"
    refine ⟨p, l1, l3, dN M A' 100, .close (wk M A' 100), rfl, D.ext eA, wk_L A' _ m2 m12, by rw [dN_past]; omega, Nat.zero_le _, ToldL.no (tell_closeE (d := dN M A' 100) (closeD_no hmore)) ?_⟩
    intro tt HB eB ht
    walk_at "rd"
    refine ⟨small_line (by simp), rd_new fun uu HC eC huu _ => ?_⟩
    refine rd_toldN (eC _ _ ht) huu told_lay.2 (raised_lay (show ("NoWay" : Str) ∈ raisedL by decide +kernel)) ?_
    refine rd_exb (iteF ?_)
    have eAC := eA.trans (eB.trans eC)
    have D1 := D.ext eAC
    have hm1 := eAC _ _ hm9
    have hg1 := eAC _ _ hg9
    have hv1 := hv9.ext eAC
    clear D hm9 hg9 hv9 eAC eA eB eC ht huu
    walk_at "rd"
    obtain ⟨⟨_, t1, hpv, g1, g2⟩, _⟩ := id hv1
    cases hpv
    obtain ⟨bs1, g3, al⟩ := WaysAt.al g2
    have hal := al.1
    rw [wsN_len] at hal
    refine rd_ixT (SqT.of g1) (v := .ref t1) rfl ?_
    refine rd_iTx (SqT.of g3) ?_
    have hO := hsN A' m2 m12 (Nat.le_refl 100)
    have ec : closeD ((M : Int), wsN M A' 100) (wk M A' g) = .ok ((M : Int), (wsN M A' 100).filter fun u => decide (u ≠ wk M A' g)) := closeD_in hgin
    have hO0 := closeD_ok (h := ((M : Int), wsN M A' 100)) hO ec
    have hll := less_len hO.nd hgin
    have hno := less_no (wk M A' g) (wsN M A' 100)
    have hmo : wk M A' 100 ∉ (wsN M A' 100).filter (fun u => decide (u ≠ wk M A' g)) ++ [wk M A' g] := fun h => by
      rcases List.mem_append.mp h with h | h
      · exact hmore (List.mem_filter.mp h).1
      · have := wk_inj m2 (by omega) (by omega) (List.mem_singleton.mp h); omega
    rw [wsN_len] at hll
    refine comp_tup (xs := bs1.map V.ref) (fun i ys H' => Ext HC H' ∧ ∃ cs, ys = cs.map V.ref ∧ AlW H' cs (((wsN M A' 100).take i).filter fun u => decide (u ≠ wk M A' g))) (small9 (by rw [List.length_map, hal]; omega)) ⟨Ext.rfl' _, [], rfl, AlW.nil _⟩ (fun i ys H' hi h => ⟨SqT.of (h.1 _ _ g3), ?_⟩) ?_ ?_
    · obtain ⟨_, cs, rfl, hc, _⟩ := h
      rw [List.length_map, hc]
      exact Nat.le_trans (List.length_filter_le _ _) (by rw [List.length_take]; exact Nat.min_le_left _ _)
    · rintro i x ys H' hx ⟨e2, cs, rfl, al2⟩
      rw [List.getElem?_map] at hx
      obtain ⟨b, hb, rfl⟩ := Option.map_eq_some_iff.mp hx
      have hi : i < (wsN M A' 100).length := by
        rw [← al.1]
        exact (List.getElem?_eq_some_iff.mp hb).1
      have hwi := List.getElem?_eq_getElem hi
      have hbw := e2 _ _ (al.2 i b _ hb hwi)
      have hlu := (hO.ok _ (List.getElem_mem hi)).lay
      rw [List.take_add_one, hwi, List.filter_append]
      generalize (wsN M A' 100)[i] = u at hwi hbw hlu
      walk_at "rd"
      refine ⟨1, 1, _, _, Way.rep hbw hlu, Way.rep (e2 _ _ hg1) (wk_L A' g m2 m12).lay, by decide, ?_⟩
      rw [Way.eqv]
      simp only [if_true]
      refine rd_exb ?_
      by_cases he : u = wk M A' g
      · rw [decide_eq_true he]
        refine iteF ?_
        refine ⟨e2, cs, rfl, ?_⟩
        have : List.filter (fun u => decide (u ≠ wk M A' g)) (some u).toList = [] := by rw [he]; simp
        rw [this, List.append_nil]
        exact al2
      · rw [decide_eq_false he]
        refine iteT ?_
        walk_at "rd"
        refine ⟨e2, cs ++ [b], by rw [List.map_append]; rfl, ?_⟩
        have : List.filter (fun u => decide (u ≠ wk M A' g)) (some u).toList = [u] := by simp [he]
        rw [this]
        exact al2.snoc hbw
    rintro ys H' l2' ⟨e2, cs, rfl, al2⟩ hl2
    rw [List.length_map, al.1, List.take_length] at al2
    generalize hLO : (wsN M A' 100).filter (fun u => decide (u ≠ wk M A' g)) = LO at al2 ec hO0 hll hno hmo
    walk_at "rd"
    have e3 : Ext HC (upd H' l2' (.lst (cs.map V.ref))) := e2.trans (ext_upd hl2)
    have al3 := al2.ext (ext_upd (o := .lst (cs.map V.ref)) hl2)
    have hl3 : upd H' l2' (.lst (cs.map V.ref)) l2' = some (.lst (cs.map V.ref)) := upd_same
    generalize upd H' l2' (.lst (cs.map V.ref)) = H4 at e3 al3 hl3 ⊢
    refine rd_tupL (SqL.of hl3) (rd_new fun tl H5 e5 htl _ => ?_)
    walk_at "rd"
    refine ⟨small_line (by simp), rd_new fun lo H6 e6 hlo _ => ?_⟩
    have hvo : HvAt H6 (.ref lo) ((M : Int), LO) := ⟨HouseAt.mk hlo (((al3.ext e5).ways htl).ext e6), hO0⟩
    have e36 := e3.trans (e5.trans e6)
    have D2 := D1.ext e36
    have hm2 := e36 _ _ hm1
    have hg2 := e36 _ _ hg1
    have hv2 := hv1.ext e36
    clear D1 hm1 hg1 hv1 g1 g2 g3 al al2 al3 hl2 hl3 htl hlo e2 e3 e5 e6 e36 hLO hal hgin hmore
    walk_at "rd"
    refine ⟨"close", gt, wk M A' g, rfl, hg2, wk_L A' _ m2 m12, by decide, fun HA eA => ?_⟩
    walk_at "rd"
    refine ⟨p, l1, l3, dN M A' 100, .close (wk M A' g), rfl, D2.ext eA, wk_L A' _ m2 m12, by rw [dN_past]; omega, Nat.zero_le _, ToldL.ok (tell_close (d := dN M A' 100) ec) ?_⟩
    intro t2 l4 HB h4 DB fr ht2
    have tkB : Tk H6 HB := fun b xs z => fr.tk (D2.ext eA) _ _ (eA _ _ z)
    have hm3 := tkB _ _ hm2
    have hg3 := tkB _ _ hg2
    have hv3 := hv2.tk tkB
    have hvo3 := hvo.tk tkB
    clear D2 hm2 hg2 hv2 hvo tkB fr h4 eA
    walk_at "rd"
    refine ⟨.ref lo, (M : Int), LO, rfl, hvo3.1, hO0, fun HE eE => ?_⟩
    walk_at "rd"
    refine ⟨small_line (by simp), rd_new fun u2 HF eF hu2 _ => ?_⟩
    refine rd_toldN ((eE.trans eF) _ _ ht2) hu2 told_lay.1 (house_low hO0) ?_
    refine rd_exb (iteF ?_)
    have eEF := eE.trans eF
    have D4 : DkAt K HF p l1 l4 ⟨((M : Int), LO), (dN M A' 100).past ++ [((M : Int), wsN M A' 100)], []⟩ := DB.ext eEF
    have hm4 := eEF _ _ hm3
    have hg4 := eEF _ _ hg3
    have hv4 := hv3.ext eEF
    have hvo4 := hvo3.ext eEF
    clear DB hm3 hg3 hv3 hvo3 eE eF eEF hu2 ht2
    walk_at "rd"
    obtain ⟨⟨_, tl, hpl, g1, g2⟩, _⟩ := id hvo4
    cases hpl
    obtain ⟨cs1, g3, al⟩ := WaysAt.al g2
    have hal := al.1
    refine rd_ixT (SqT.of g1) (v := .ref tl) rfl ?_
    walk_at "rd"
    refine ⟨small_line (by simp), rd_new fun tg HA eA htg _ => ?_⟩
    refine rd_catT1 (eA _ _ g3) htg (small_line (by rw [List.length_map, hal]; simp; omega)) fun t3 HB eB ht3 => ?_
    walk_at "rd"
    refine ⟨small_line (by simp), rd_new fun la HC eC hla _ => ?_⟩
    have eAC := eA.trans (eB.trans eC)
    have al4 : AlW HC (cs1 ++ [gt]) (LO ++ [wk M A' g]) := (al.ext eAC).snoc (eAC _ _ hg4)
    have ht4 : HC t3 = some (.tup ((cs1 ++ [gt]).map V.ref)) := by rw [List.map_append]; exact eC _ _ ht3
    have e1 : wayD ((M : Int), LO) (wk M A' g) = .ok ((M : Int), LO ++ [wk M A' g]) := wayD_new (h := ((M : Int), LO)) (wk_in A' g m2) hno (by show LO.length < 100; omega)
    have hO1 := wayD_ok (h := ((M : Int), LO)) hO0 (wk_L A' g m2 m12) e1
    have hva : HvAt HC (.ref la) ((M : Int), LO ++ [wk M A' g]) := ⟨HouseAt.mk hla (al4.ways ht4), hO1⟩
    have D5 := D4.ext eAC
    have hm5 := eAC _ _ hm4
    have hg5 := eAC _ _ hg4
    have hv5 := hv4.ext eAC
    have hvo5 := hvo4.ext eAC
    clear D4 hm4 hg4 hv4 hvo4 g1 g2 g3 al al4 ht4 hla ht3 htg eA eB eC eAC hal
    walk_at "rd"
    refine ⟨"way", gt, wk M A' g, rfl, hg5, wk_L A' _ m2 m12, by decide, fun HD eD => ?_⟩
    walk_at "rd"
    refine ⟨p, l1, l4, _, .way (wk M A' g), rfl, D5.ext eD, wk_L A' _ m2 m12, by rw [List.length_append, dN_past]; simp, Nat.zero_le _, ToldL.ok (tell_way (d := ⟨((M : Int), LO), (dN M A' 100).past ++ [((M : Int), wsN M A' 100)], []⟩) e1) ?_⟩
    intro t5 l5 HE h5 DE fr ht5
    have tkE : Tk HC HE := fun b xs z => fr.tk (D5.ext eD) _ _ (eD _ _ z)
    have hm6 := tkE _ _ hm5
    have hv6 := hv5.tk tkE
    have hvo6 := hvo5.tk tkE
    have hva6 := hva.tk tkE
    clear D5 hm5 hg5 hv5 hvo5 hva tkE fr h5 eD
    walk_at "rd"
    refine ⟨.ref la, (M : Int), LO ++ [wk M A' g], rfl, hva6.1, hO1, fun HF eF => ?_⟩
    walk_at "rd"
    refine ⟨small_line (by simp), rd_new fun u5 HG eG hu5 _ => ?_⟩
    refine rd_toldN ((eF.trans eG) _ _ ht5) hu5 told_lay.1 (house_low hO1) ?_
    refine rd_exb (iteF ?_)
    have eFG := eF.trans eG
    have D7 : DkAt K HG p l1 l5 ⟨((M : Int), LO ++ [wk M A' g]), (dN M A' 100).past ++ [((M : Int), wsN M A' 100)] ++ [((M : Int), LO)], []⟩ := DE.ext eFG
    have hm7 := eFG _ _ hm6
    have hv7 := hv6.ext eFG
    have hvo7 := hvo6.ext eFG
    have hva7 := hva6.ext eFG
    clear DE hm6 hv6 hvo6 hva6 eF eG eFG hu5 ht5
    walk_at "rd"
    refine ⟨"way", mt, wk M A' 100, rfl, hm7, wk_L A' _ m2 m12, by decide, fun HA eA => ?_⟩
    walk_at "rd"
    refine ⟨p, l1, l5, _, .way (wk M A' 100), rfl, D7.ext eA, wk_L A' _ m2 m12, by rw [List.length_append, List.length_append, dN_past]; simp, Nat.zero_le _, ToldL.no (tell_wayE (d := ⟨((M : Int), LO ++ [wk M A' g]), (dN M A' 100).past ++ [((M : Int), wsN M A' 100)] ++ [((M : Int), LO)], []⟩) (wayD_full (wk_in A' 100 m2) hmo (by show 100 ≤ (LO ++ [wk M A' g]).length; rw [List.length_append, List.length_singleton]; omega))) ?_⟩
    intro tt HB eB ht
    walk_at "rd"
    refine ⟨small_line (by simp), rd_new fun uu HC eC huu _ => ?_⟩
    refine rd_toldN (eC _ _ ht) huu told_lay.2 (raised_lay (show ("TooGreat" : Str) ∈ raisedL by decide +kernel)) ?_
    refine rd_exb (iteF ?_)
    walk_at "rd"
    have eAC := eA.trans (eB.trans eC)
    refine ⟨.ref la, ((M : Int), LO ++ [wk M A' g]), rfl, hva7.ext eAC, fun ab HD eD hab => ?_⟩
    have eAD := eAC.trans eD
    have D8 := D7.ext eAD
    have hv8 := hv7.ext eAD
    have hvo8 := hvo7.ext eAD
    have hva8 := hva7.ext eAD
    clear D7 hm7 hv7 hvo7 hva7 eA eB eC eD eAC eAD huu ht
    have hO2 : HOuse (M : Int) ((LO ++ [wk M A' g]).map Way.turn) := HOuse.turn hO1
    have e2 : ((M : Int), LO ++ [wk M A' g]) = ((M : Int), ((LO ++ [wk M A' g]).map Way.turn).map Way.turn) := by rw [turns_turn hO1.ok]
    have hd := last_dues (W := ((M : Int), wsN M A' 100)) (L0 := ((M : Int), LO)) (L1 := ((M : Int), LO ++ [wk M A' g])) (L2 := ((M : Int), (LO ++ [wk M A' g]).map Way.turn)) (P := (dN M A' 100).past) hO hO0 hO1 hO2 rfl e2
    have hab : HvAt HD ab ((M : Int), (LO ++ [wk M A' g]).map Way.turn) := hab
    generalize ((M : Int), (LO ++ [wk M A' g]).map Way.turn) = L2 at hd hab
    generalize ((M : Int), LO ++ [wk M A' g]) = L1 at hd hva8 D8
    generalize ((M : Int), LO) = L0 at hd hvo8 D8
    generalize ((M : Int), wsN M A' 100) = W at hd hv8 D8
    have hpl : (dN M A' 100).past.length ≤ 500 := by rw [dN_past]; omega
    generalize (dN M A' 100).past = P at hd D8 hpl
    walk_at "rd"
    refine ⟨small_line (by simp), rd_new fun j1 H1 e1 hj1 _ => ?_⟩
    walk_at "rd"
    refine ⟨small_line (by simp), rd_new fun j2 H2 e2 hj2 _ => ?_⟩
    walk_at "rd"
    refine ⟨small_line (by simp), rd_new fun j3 H3 e3 hj3 _ => ?_⟩
    walk_at "rd"
    refine ⟨small_line (by simp), rd_new fun j4 H4 e4 hj4 _ => ?_⟩
    walk_at "rd"
    refine ⟨small_line (by simp), rd_new fun j5 H5 e5 hj5 _ => ?_⟩
    walk_at "rd"
    refine ⟨small_line (by simp), rd_new fun j6 H6 e6 hj6 _ => ?_⟩
    walk_at "rd"
    refine ⟨small_line (by simp), rd_new fun jl H7 e7 hjl _ => ?_⟩
    walk_at "rd"
    refine ⟨small_line (by simp), rd_new fun j7 H8 e8 hj7 _ => ?_⟩
    walk_at "rd"
    refine ⟨small_line (by simp), rd_new fun j8 H9 e9 hj8 _ => ?_⟩
    walk_at "rd"
    refine ⟨small_line (by simp), rd_new fun j9 HE eE hj9 _ => ?_⟩
    walk_at "rd"
    refine ⟨small_line (by simp), rd_new fun jm HF eF hjm _ => ?_⟩
    have f9 := eE.trans eF
    have f8 := e9.trans f9
    have f7 := e8.trans f8
    refine rd_cat (f7 _ _ hjl) hjm (small_line (by simp)) (rd_new fun jn HG eG hjn hjN => ?_)
    walk_at "rd"
    have q9 := f9.trans eG
    have q8 := f8.trans eG
    have q7 := f7.trans eG
    have q6 := e7.trans q7
    have q5 := e6.trans q6
    have q4 := e5.trans q5
    have q3 := e4.trans q4
    have q2 := e3.trans q3
    have q1 := e2.trans q2
    have q0 := e1.trans q1
    obtain ⟨lt, lu, lr⟩ := line_one
    rw [lt] at hj1 hj2
    rw [lu] at hj3 hj4 hj5 hj6
    rw [lr] at hj7 hj8 hj9
    have D9 := D8.ext (e1.trans (e2.trans (e3.trans (e4.trans (e5.trans (e6.trans (e7.trans f7)))))))
    refine ⟨p, l1, l5, _, jn, [j1, j2, j3, j4, j5, j6, j7, j8, j9], _, rfl, D9.ext eG, Apt.new D9 hjn hjN, .cons ⟨_, q1 _ _ hj1, hab.ext q0⟩ (.cons ⟨_, q2 _ _ hj2, hva8.ext q0⟩ (.cons ⟨_, q3 _ _ hj3, hab.ext q0⟩ (.cons ⟨_, q4 _ _ hj4, hva8.ext q0⟩ (.cons ⟨_, q5 _ _ hj5, hvo8.ext q0⟩ (.cons ⟨_, q6 _ _ hj6, hv8.ext q0⟩
      (.cons ⟨_, q8 _ _ hj7, hvo8.ext q0⟩ (.cons ⟨_, q9 _ _ hj8, hva8.ext q0⟩ (.cons ⟨_, (eF.trans eG) _ _ hj9, hab.ext q0⟩ .nil)))))))), hd, (by simp), (by simp; omega), Nat.zero_le _, fun HH => ?_⟩
    exact q _
noncomputable abbrev Dq (K : PySem.W.Frag) (mg : Str → Option Value) (x : Str) (st : Stmt) : Prop := ∃ (f : Addr) (fd : FuncData), mg x = some (.ref f) ∧ Fun K x x st f fd
theorem dq {K : PySem.W.Frag} {h : Heap} {mg : Str → Option Value} (X : K.In h) (G : h.Ns mainGlobals mg) {x : Str} {st : Stmt} {f : Addr} {od an : Option Addr} {sl : Array (Option Value)} {oc kV dc pm cd ct : Value} (a : PySem.W.nsIn K mainGlobals x = some (some (.ref f))) (l : K.lookup f = some ⟨oc, od, .func (PySem.W.fnOf x x (defArgs st) (defBody st) (defScope st) .none kV dc pm an cd ct), sl⟩) (c : PySem.W.codeIn K cd x = true) (k : PySem.W.keepIn K (.ref f) = true) : Dq K mg x st := ⟨f, _, PySem.W.mg_of X G a, fun_mk (st := st) l c k⟩
noncomputable abbrev bd (x : Str) (st : Stmt) (us : List Value) (r : List (Str × Value)) : Prop := ∀ (kV doc pm : Value) (an : Option Addr) (cdv ct : Value), bindArgs (PySem.W.fnOf x x (defArgs st) (defBody st) (defScope st) .none kV doc pm an cdv ct) ⟨us, []⟩ = pure r
theorem dfn1 {K : PySem.W.Frag} {mg : Str → Option Value} {x : Str} {st : Stmt} (p0 : Str) (d : Dq K mg x st) (h : ∀ u0, bd x st [u0] [(p0, u0)]) : Dfn K mg x st [p0] := let ⟨f, fd, a, F⟩ := d; ⟨f, fd, a, F, F.binds (ps := [p0]) fun _ _ _ _ _ _ us hl => match us, hl with | [_], _ => h _ _ _ _ _ _ _⟩
theorem dfn2 {K : PySem.W.Frag} {mg : Str → Option Value} {x : Str} {st : Stmt} (p0 p1 : Str) (d : Dq K mg x st) (h : ∀ u0 u1, bd x st [u0, u1] [(p0, u0), (p1, u1)]) : Dfn K mg x st [p0, p1] := let ⟨f, fd, a, F⟩ := d; ⟨f, fd, a, F, F.binds (ps := [p0, p1]) fun _ _ _ _ _ _ us hl => match us, hl with | [_, _], _ => h _ _ _ _ _ _ _ _⟩
theorem dfn3 {K : PySem.W.Frag} {mg : Str → Option Value} {x : Str} {st : Stmt} (p0 p1 p2 : Str) (d : Dq K mg x st) (h : ∀ u0 u1 u2, bd x st [u0, u1, u2] [(p0, u0), (p1, u1), (p2, u2)]) : Dfn K mg x st [p0, p1, p2] := let ⟨f, fd, a, F⟩ := d; ⟨f, fd, a, F, F.binds (ps := [p0, p1, p2]) fun _ _ _ _ _ _ us hl => match us, hl with | [_, _, _], _ => h _ _ _ _ _ _ _ _ _⟩
theorem all_mk {l : PySem.W.OpenLaw} {w : World} {K : PySem.W.Frag} {h : Heap} {mg : Str → Option Value} {fa : Addr} (X : K.In h) (G : h.Ns mainGlobals mg) (hfa : mg "law" = some (.ref fa))
    (d0 : Dq K mg "way_text" s_way_text)
    (d1 : Dq K mg "is_sign" s_is_sign)
    (d2 : Dq K mg "is_deed" s_is_deed)
    (d3 : Dq K mg "is_whole" s_is_whole)
    (d4 : Dq K mg "is_room" s_is_room)
    (d5 : Dq K mg "is_way" s_is_way)
    (d6 : Dq K mg "are_ways" s_are_ways)
    (d7 : Dq K mg "is_house" s_is_house)
    (d8 : Dq K mg "refuse_no_house" s_refuse_no_house)
    (d9 : Dq K mg "shown_house" s_shown_house)
    {CD : Addr} (nD : PySem.W.nsIn K mainGlobals "Desk" = some (some (.ref CD))) (hdk : dkB K = true)
    {f10 : Addr} {od10 an10 : Option Addr} {sl10 : Array (Option Value)} {oc10 kV10 dc10 pm10 cd10 ct10 : Value} (a10 : PySem.W.findIn K (.ref CD) "undo" = some (some (.ref f10))) (l10 : K.lookup f10 = some ⟨oc10, od10, .func (PySem.W.fnOf "undo" "Desk.undo" (defArgs s_Desk_undo) (defBody s_Desk_undo) (defScope s_Desk_undo) .none kV10 dc10 pm10 an10 cd10 ct10), sl10⟩) (c10 : PySem.W.codeIn K cd10 "Desk.undo" = true) (k10 : PySem.W.keepIn K (.ref f10) = true) (i10 : PySem.W.isFn K (.ref f10) = true)
    {f11 : Addr} {od11 an11 : Option Addr} {sl11 : Array (Option Value)} {oc11 kV11 dc11 pm11 cd11 ct11 : Value} (a11 : PySem.W.findIn K (.ref CD) "redo" = some (some (.ref f11))) (l11 : K.lookup f11 = some ⟨oc11, od11, .func (PySem.W.fnOf "redo" "Desk.redo" (defArgs s_Desk_redo) (defBody s_Desk_redo) (defScope s_Desk_redo) .none kV11 dc11 pm11 an11 cd11 ct11), sl11⟩) (c11 : PySem.W.codeIn K cd11 "Desk.redo" = true) (k11 : PySem.W.keepIn K (.ref f11) = true) (i11 : PySem.W.isFn K (.ref f11) = true)
    {f12 : Addr} {od12 an12 : Option Addr} {sl12 : Array (Option Value)} {oc12 kV12 dc12 pm12 cd12 ct12 : Value} (a12 : PySem.W.findIn K (.ref CD) "do" = some (some (.ref f12))) (l12 : K.lookup f12 = some ⟨oc12, od12, .func (PySem.W.fnOf "do" "Desk.do" (defArgs s_Desk_do) (defBody s_Desk_do) (defScope s_Desk_do) .none kV12 dc12 pm12 an12 cd12 ct12), sl12⟩) (c12 : PySem.W.codeIn K cd12 "Desk.do" = true) (k12 : PySem.W.keepIn K (.ref f12) = true) (i12 : PySem.W.isFn K (.ref f12) = true)
    (d13 : Dq K mg "rooms_deed" s_rooms_deed)
    (d14 : Dq K mg "way_deed" s_way_deed)
    (d15 : Dq K mg "close_deed" s_close_deed)
    (d16 : Dq K mg "turned_way" s_turned_way)
    (d17 : Dq K mg "turned_about" s_turned_about)
    (d18 : Dq K mg "turn_deed" s_turn_deed)
    (d19 : Dq K mg "show_ask" s_show_ask)
    (d20 : Dq K mg "is_number_word" s_is_number_word)
    (d21 : Dq K mg "value_of" s_value_of)
    (d22 : Dq K mg "is_word_of" s_is_word_of)
    (d23 : Dq K mg "is_line" s_is_line)
    {f24 : Addr} {od24 an24 : Option Addr} {sl24 : Array (Option Value)} {oc24 kV24 dc24 pm24 cd24 ct24 : Value} (a24 : PySem.W.findIn K (.ref CD) "tell" = some (some (.ref f24))) (l24 : K.lookup f24 = some ⟨oc24, od24, .func (PySem.W.fnOf "tell" "Desk.tell" (defArgs s_Desk_tell) (defBody s_Desk_tell) (defScope s_Desk_tell) .none kV24 dc24 pm24 an24 cd24 ct24), sl24⟩) (c24 : PySem.W.codeIn K cd24 "Desk.tell" = true) (k24 : PySem.W.keepIn K (.ref f24) = true) (i24 : PySem.W.isFn K (.ref f24) = true)
    (d25 : Dq K mg "_law_tell" s__law_tell)
    (d26 : Dq K mg "_law_house_text" s__law_house_text)
    (d27 : Dq K mg "_law_all" s__law_all)
    (d28 : Dq K mg "_law_turned" s__law_turned)
    (d29 : Dq K mg "_law_line" s__law_line)
    (d30 : Dq K mg "_law_way" s__law_way)
    {f31 : Addr} {od31 an31 : Option Addr} {sl31 : Array (Option Value)} {oc31 kV31 dc31 pm31 cd31 ct31 : Value} (a31 : PySem.W.findIn K (.ref CD) "__init__" = some (some (.ref f31))) (l31 : K.lookup f31 = some ⟨oc31, od31, .func (PySem.W.fnOf "__init__" "Desk.__init__" (defArgs s_Desk_init) (defBody s_Desk_init) (defScope s_Desk_init) .none kV31 dc31 pm31 an31 cd31 ct31), sl31⟩) (c31 : PySem.W.codeIn K cd31 "Desk.__init__" = true) (k31 : PySem.W.keepIn K (.ref f31) = true) (i31 : PySem.W.isFn K (.ref f31) = true)
    (d32 : Dq K mg "_law_mixed" s__law_mixed)
    (d33 : Dq K mg "_law_draws" s__law_draws)
    (d34 : Dq K mg "_law_cell" s__law_cell)
    {f35 : Addr} {od35 an35 : Option Addr} {sl35 : Array (Option Value)} {oc35 kV35 dc35 pm35 cd35 ct35 : Value} (a35 : PySem.W.nsIn K mainGlobals "law" = some (some (.ref f35))) (l35 : K.lookup f35 = some ⟨oc35, od35, .func (PySem.W.fnOf "law" "law" (defArgs s_law) (defBody s_law) (defScope s_law) .none kV35 dc35 pm35 an35 cd35 ct35), sl35⟩) (c35 : PySem.W.codeIn K cd35 "law" = true) (k35 : PySem.W.keepIn K (.ref f35) = true)
    (z0 : PySem.W.nsIn K mainGlobals "len" = some none)
    (z1 : PySem.W.nsIn K mainGlobals "isinstance" = some none)
    (z2 : PySem.W.nsIn K mainGlobals "tuple" = some none)
    (z3 : PySem.W.nsIn K mainGlobals "list" = some none)
    (z4 : PySem.W.nsIn K mainGlobals "int" = some none)
    (z5 : PySem.W.nsIn K mainGlobals "bool" = some none)
    (z6 : PySem.W.nsIn K mainGlobals "range" = some none)
    (z7 : PySem.W.nsIn K mainGlobals "zip" = some none)
    (z8 : PySem.W.nsIn K mainGlobals "max" = some none)
    (z9 : PySem.W.nsIn K mainGlobals "min" = some none)
    (z10 : PySem.W.nsIn K mainGlobals "abs" = some none)
    (z11 : PySem.W.nsIn K mainGlobals "all" = some none)
    (z12 : PySem.W.nsIn K mainGlobals "ValueError" = some none)
    (z13 : PySem.W.nsIn K mainGlobals "enumerate" = some none)
    (z14 : PySem.W.nsIn K mainGlobals "set" = some none)
    (z15 : PySem.W.nsIn K mainGlobals "str" = some none)
    (z16 : PySem.W.nsIn K mainGlobals "reversed" = some none)
    (z17 : PySem.W.nsIn K mainGlobals "any" = some none)
    (z18 : PySem.W.nsIn K mainGlobals "sorted" = some none)
    {t0 : Tok} (v0 : PySem.W.nsIn K mainGlobals "GREATEST_WAYS" = some (some (.int 100 t0)))
    {t1 : Tok} (v1 : PySem.W.nsIn K mainGlobals "GREATEST_MANY" = some (some (.int 12 t1)))
    {t2 : Tok} (v2 : PySem.W.nsIn K mainGlobals "FIGURES" = some (some (.str "0123456789" t2)))
    {t3 : Tok} (v3 : PySem.W.nsIn K mainGlobals "MOST_FIGURES" = some (some (.int 6 t3)))
    {e0 : Addr} {q0_0 u0_0 q0_1 u0_1 q0_2 u0_2 q0_3 u0_3 : Tok} {ep0 : Nat} (x0 : PySem.W.nsIn K mainGlobals "TURNED" = some (some (.ref e0))) (y0 : K.lookup e0 = some (gdO w [("up", q0_0, .str "down" u0_0), ("down", q0_1, .str "up" u0_1), ("stay", q0_2, .str "stay" u0_2), ("zero", q0_3, .str "zero" u0_3)] ep0)) (w0 : (e0 == sysModules) = false)
    {e1 r1_0 r1_1 r1_2 r1_3 r1_4 r1_5 r1_6 r1_7 r1_8 r1_9 r1_10 r1_11 r1_12 : Addr} {q1_0 q1_1 q1_2 q1_3 q1_4 q1_5 q1_6 q1_7 q1_8 q1_9 q1_10 q1_11 q1_12 : Tok} {ep1 : Nat} (x1 : PySem.W.nsIn K mainGlobals "LINES" = some (some (.ref e1))) (y1 : K.lookup e1 = some (gdO w [("rooms", q1_0, .ref r1_0), ("way", q1_1, .ref r1_1), ("close", q1_2, .ref r1_2), ("turn", q1_3, .ref r1_3), ("undo", q1_4, .ref r1_4), ("redo", q1_5, .ref r1_5), ("show", q1_6, .ref r1_6), ("reach", q1_7, .ref r1_7), ("forward", q1_8, .ref r1_8), ("backward", q1_9, .ref r1_9), ("most", q1_10, .ref r1_10), ("fate", q1_11, .ref r1_11), ("word", q1_12, .ref r1_12)] ep1)) (w1 : (e1 == sysModules) = false) (n1_0 : TupOk K r1_0 ["many"]) (n1_1 : TupOk K r1_1 ["number", "deed", "number", "sign"]) (n1_2 : TupOk K r1_2 ["number", "deed", "number", "sign"]) (n1_3 : TupOk K r1_3 []) (n1_4 : TupOk K r1_4 []) (n1_5 : TupOk K r1_5 []) (n1_6 : TupOk K r1_6 []) (n1_7 : TupOk K r1_7 ["number", "number", "number", "number"]) (n1_8 : TupOk K r1_8 ["number", "number", "number"]) (n1_9 : TupOk K r1_9 ["number", "number", "number"]) (n1_10 : TupOk K r1_10 ["number", "number"]) (n1_11 : TupOk K r1_11 ["number", "number"]) (n1_12 : TupOk K r1_12 ["number", "number"])
    {e2 r2_0 r2_1 r2_2 r2_3 : Addr} {q2_0 q2_1 q2_2 q2_3 : Tok} {ep2 : Nat} (x2 : PySem.W.nsIn K mainGlobals "DEEDS" = some (some (.ref e2))) (y2 : K.lookup e2 = some (gdO w [("rooms", q2_0, .ref r2_0), ("way", q2_1, .ref r2_1), ("close", q2_2, .ref r2_2), ("turn", q2_3, .ref r2_3)] ep2)) (w2 : (e2 == sysModules) = false) (n2_0 : PySem.W.nsIn K mainGlobals "rooms_deed" = some (some (.ref r2_0))) (n2_1 : PySem.W.nsIn K mainGlobals "way_deed" = some (some (.ref r2_1))) (n2_2 : PySem.W.nsIn K mainGlobals "close_deed" = some (some (.ref r2_2))) (n2_3 : PySem.W.nsIn K mainGlobals "turn_deed" = some (some (.ref r2_3)))
    {e3 r3_0 r3_1 r3_2 r3_3 r3_4 r3_5 r3_6 : Addr} {q3_0 q3_1 q3_2 q3_3 q3_4 q3_5 q3_6 : Tok} {ep3 : Nat} (x3 : PySem.W.nsIn K mainGlobals "ASKS" = some (some (.ref e3))) (y3 : K.lookup e3 = some (gdO w [("show", q3_0, .ref r3_0), ("reach", q3_1, .ref r3_1), ("forward", q3_2, .ref r3_2), ("backward", q3_3, .ref r3_3), ("most", q3_4, .ref r3_4), ("fate", q3_5, .ref r3_5), ("word", q3_6, .ref r3_6)] ep3)) (w3 : (e3 == sysModules) = false) (n3_0 : PySem.W.nsIn K mainGlobals "show_ask" = some (some (.ref r3_0))) (n3_1 : PySem.W.nsIn K mainGlobals "reach_ask" = some (some (.ref r3_1))) (n3_2 : PySem.W.nsIn K mainGlobals "forward_ask" = some (some (.ref r3_2))) (n3_3 : PySem.W.nsIn K mainGlobals "backward_ask" = some (some (.ref r3_3))) (n3_4 : PySem.W.nsIn K mainGlobals "most_ask" = some (some (.ref r3_4))) (n3_5 : PySem.W.nsIn K mainGlobals "fate_ask" = some (some (.ref r3_5))) (n3_6 : PySem.W.nsIn K mainGlobals "word_ask" = some (some (.ref r3_6)))
    (hxf : xfB K allC raisedC = true)
    : ∃ fd : FuncData, (∀ (s : Shared) (v : Value), BindsTo s fd ⟨[v], []⟩ [("_law_script", v)]) ∧ ∀ base : Heap, K.In base → base.Ns mainGlobals mg → FnOk l.prog w K mg base CX0 12 fa fd ["_law_script"] (sp_law K) := by
  have e := hfa.symm.trans (PySem.W.mg_of X G a35)
  cases e
  have T : Blt mg := ⟨PySem.W.mg_none_of X G z0, PySem.W.mg_none_of X G z1, PySem.W.mg_none_of X G z2, PySem.W.mg_none_of X G z3, PySem.W.mg_none_of X G z4, PySem.W.mg_none_of X G z5, PySem.W.mg_none_of X G z6, PySem.W.mg_none_of X G z7, PySem.W.mg_none_of X G z8, PySem.W.mg_none_of X G z9, PySem.W.mg_none_of X G z10, PySem.W.mg_none_of X G z11, PySem.W.mg_none_of X G z12, PySem.W.mg_none_of X G z13, PySem.W.mg_none_of X G z14, PySem.W.mg_none_of X G z15, PySem.W.mg_none_of X G z16, PySem.W.mg_none_of X G z17, PySem.W.mg_none_of X G z18⟩
  have D0 := dfn1 "way" d0 fun _ _ _ _ _ _ _ => rfl
  have D1 := dfn1 "thing" d1 fun _ _ _ _ _ _ _ => rfl
  have D2 := dfn1 "thing" d2 fun _ _ _ _ _ _ _ => rfl
  have D3 := dfn1 "thing" d3 fun _ _ _ _ _ _ _ => rfl
  have D4 := dfn2 "thing" "many" d4 fun _ _ _ _ _ _ _ _ => rfl
  have D5 := dfn2 "thing" "many" d5 fun _ _ _ _ _ _ _ _ => rfl
  have D6 := dfn2 "thing" "many" d6 fun _ _ _ _ _ _ _ _ => rfl
  have D7 := dfn1 "thing" d7 fun _ _ _ _ _ _ _ => rfl
  have D8 := dfn1 "thing" d8 fun _ _ _ _ _ _ _ => rfl
  have D9 := dfn1 "house" d9 fun _ _ _ _ _ _ _ => rfl
  have D13 := dfn2 "house" "parts" d13 fun _ _ _ _ _ _ _ _ => rfl
  have D14 := dfn2 "house" "parts" d14 fun _ _ _ _ _ _ _ _ => rfl
  have D15 := dfn2 "house" "parts" d15 fun _ _ _ _ _ _ _ _ => rfl
  have D16 := dfn1 "way" d16 fun _ _ _ _ _ _ _ => rfl
  have D17 := dfn1 "house" d17 fun _ _ _ _ _ _ _ => rfl
  have D18 := dfn2 "house" "parts" d18 fun _ _ _ _ _ _ _ _ => rfl
  have D19 := dfn2 "house" "parts" d19 fun _ _ _ _ _ _ _ _ => rfl
  have D20 := dfn1 "word" d20 fun _ _ _ _ _ _ _ => rfl
  have D21 := dfn1 "word" d21 fun _ _ _ _ _ _ _ => rfl
  have D22 := dfn2 "kind" "word" d22 fun _ _ _ _ _ _ _ _ => rfl
  have D23 := dfn1 "words" d23 fun _ _ _ _ _ _ _ => rfl
  have D25 := dfn2 "_law_desk" "_law_line_here" d25 fun _ _ _ _ _ _ _ _ => rfl
  have D26 := dfn1 "_law_house" d26 fun _ _ _ _ _ _ _ => rfl
  have D27 := dfn2 "_law_desk" "_law_dues" d27 fun _ _ _ _ _ _ _ _ => rfl
  have D28 := dfn1 "_law_house" d28 fun _ _ _ _ _ _ _ => rfl
  have D29 := dfn2 "_law_word" "_law_way_here" d29 fun _ _ _ _ _ _ _ _ => rfl
  have D30 := dfn2 "_law_many" "_law_k" d30 fun _ _ _ _ _ _ _ _ => rfl
  have D32 := dfn3 "_law_cell_here" "_law_k" "_law_prime" d32 fun _ _ _ _ _ _ _ _ _ => rfl
  have D33 := dfn3 "_law_cell_here" "_law_widths" "_law_prime" d33 fun _ _ _ _ _ _ _ _ _ => rfl
  have D34 := dfn2 "_law_script" "_law_k" d34 fun _ _ _ _ _ _ _ _ => rfl
  refine ⟨PySem.W.fnOf "law" "law" (defArgs s_law) (defBody s_law) (defScope s_law) .none kV35 dc35 pm35 an35 cd35 ct35, fun s v => .of_eq rfl, fun base KB GB => ?_⟩
  have XF : Xf K mg base allC raisedC := xf_mk KB GB hxf
  obtain ⟨TD, hDm, hDk, hDp⟩ := desk_mk X G hdk
  have C0 := @ok_way_text l.prog w K mg base D0 T
  have C1 := @ok_is_sign l.prog w K mg base D1 T
  have C2 := @ok_is_deed l.prog w K mg base D2 T ⟨_, PySem.W.mg_of X G x0, gdk_TURNED y0 w0⟩
  have C3 := @ok_is_whole l.prog w K mg base D3 T
  have C4 := @ok_is_room l.prog w K mg base D4 T C3
  have C5 := @ok_is_way l.prog w K mg base D5 T C1 C2 C4
  have C6 := @ok_are_ways l.prog w K mg base D6 T ⟨_, PySem.W.mg_of X G v0⟩ C5
  have C7 := @ok_is_house l.prog w K mg base D7 T ⟨_, PySem.W.mg_of X G v1⟩ C6 C3
  have C8 := @ok_refuse_no_house l.prog w K mg base D8 T C7
  have C9 := @ok_shown_house l.prog w K mg base D9 T C0 C8
  have C10 : MetX l.prog w K mg base (cA K "Desk") "undo" 1 ["self"] (sp_Desk_undo K) := ok_Desk_undo (meth_mk (st := s_Desk_undo) nD a10 l10 c10 k10 i10 fun F => F.binds (ps := ["self"]) fun _ _ _ _ _ _ us hl => match us, hl with | [_], _ => rfl) T XF TD
  have C11 : MetX l.prog w K mg base (cA K "Desk") "redo" 1 ["self"] (sp_Desk_redo K) := ok_Desk_redo (meth_mk (st := s_Desk_redo) nD a11 l11 c11 k11 i11 fun F => F.binds (ps := ["self"]) fun _ _ _ _ _ _ us hl => match us, hl with | [_], _ => rfl) T XF TD
  have C12 : MetX l.prog w K mg base (cA K "Desk") "do" 1 ["self", "house"] (sp_Desk_do K) := ok_Desk_do (meth_mk (st := s_Desk_do) nD a12 l12 c12 k12 i12 fun F => F.binds (ps := ["self", "house"]) fun _ _ _ _ _ _ us hl => match us, hl with | [_, _], _ => rfl) T TD
  have C13 := @ok_rooms_deed l.prog w K mg base D13 T
  have C14 : CalX l.prog w K mg base "way_deed" 3 ["house", "parts"] (sp_way_deed K) := ok_way_deed D14 T ⟨_, PySem.W.mg_of X G v0⟩ XF C4
  have C15 : CalX l.prog w K mg base "close_deed" 1 ["house", "parts"] (sp_close_deed K) := ok_close_deed D15 T XF
  have C16 := @ok_turned_way l.prog w K mg base D16 T ⟨_, PySem.W.mg_of X G x0, gdk_TURNED y0 w0⟩
  have C17 := @ok_turned_about l.prog w K mg base D17 T C16 C8
  have C18 := @ok_turn_deed l.prog w K mg base D18 T C17
  have C19 := @ok_show_ask l.prog w K mg base D19 T C9
  have C20 := @ok_is_number_word l.prog w K mg base D20 T ⟨_, PySem.W.mg_of X G v2⟩ ⟨_, PySem.W.mg_of X G v3⟩
  have C21 := @ok_value_of l.prog w K mg base D21 T C20
  have C22 := @ok_is_word_of l.prog w K mg base D22 T ⟨_, PySem.W.mg_of X G v1⟩ C20 C1 C2
  have C23 := @ok_is_line l.prog w K mg base D23 T ⟨_, PySem.W.mg_of X G x1, gdk_LINES y1 w1 n1_0 n1_1 n1_2 n1_3 n1_4 n1_5 n1_6 n1_7 n1_8 n1_9 n1_10 n1_11 n1_12⟩ C22
  have C24 : MetX l.prog w K mg base (cA K "Desk") "tell" 9 ["self", "line"] (sp_Desk_tell K) := ok_Desk_tell (meth_mk (st := s_Desk_tell) nD a24 l24 c24 k24 i24 fun F => F.binds (ps := ["self", "line"]) fun _ _ _ _ _ _ us hl => match us, hl with | [_, _], _ => rfl) T ⟨_, PySem.W.mg_of X G x2, gdk_DEEDS y2 w2 n2_0 n2_1 n2_2 n2_3⟩ ⟨_, PySem.W.mg_of X G x3, gdk_ASKS y3 w3 n3_0 n3_1 n3_2 n3_3 n3_4 n3_5 n3_6⟩ XF TD C10 C11 C12 C9 C13 C18 C19 C21 C23 C14 C15
  have C25 := @ok__law_tell l.prog w K mg base D25 T XF TD C24
  have C26 := @ok__law_house_text l.prog w K mg base D26 T
  have C27 := @ok__law_all l.prog w K mg base D27 T C25 C26
  have C28 := @ok__law_turned l.prog w K mg base D28 T
  have C29 := @ok__law_line l.prog w K mg base D29 T
  have C30 := @ok__law_way l.prog w K mg base D30 T
  have C31 : MkD l.prog w K mg base "Desk" 1 (sp_Desk_init K) := let F := fun_mk (st := s_Desk_init) l31 c31 k31; ⟨⟨f31, _, hDm, ⟨hDk, by rw [cA_at nD]; exact a31, i31, hDp⟩, F.binds (ps := ["self"]) fun _ _ _ _ _ _ us hl => match us, hl with | [_], _ => rfl, ok_Desk_init F T TD⟩⟩
  have C32 := @ok__law_mixed l.prog w K mg base D32 T
  have C33 := @ok__law_draws l.prog w K mg base D33 T C32
  have C34 := @ok__law_cell l.prog w K mg base D34 T
  exact ok_law (fun_mk (st := s_law) l35 c35 k35) T TD C31 C27 C28 C25 C29 C26 C30 C33 C34
theorem walk {l : PySem.W.OpenLaw} {q : Program} {loose : List Str} {XP : (Str → Option Value) → Heap → Prop} {YP : World → Heap → Prop} {d : DefRec} {K : Params → PySem.W.Frag} (hn : l.most = some 63) (hdf : d.params.defaults = [])
    (hY : ∀ (w : World) (h : Heap), YP w h → (K w.params).In h)
    (F : ∀ (w : World) (mg : Str → Option Value) (fa : Addr) (h : Heap), (K w.params).In h → h.Ns mainGlobals mg → mg d.name = some (.ref fa) →
      ∃ fd : FuncData, (∀ (s : Shared) (u : Value), BindsTo s fd ⟨[u], []⟩ [("_law_script", u)]) ∧ ∀ base : Heap, (K w.params).In base → base.Ns mainGlobals mg → FnOk l.prog w (K w.params) mg base CX0 12 fa fd ["_law_script"] (sp_law (K w.params))) :
    PySem.W.WalkO q loose XP YP l.row.toRowW d [] (fun f vs => PySem.call f vs) :=
  L2.walk_of (n := 63) (k := 12) (x := "_law_script") (CX := fun _ => CX0) (sp := fun w => sp_law (K w.params)) hn (by decide) hdf ⟨rfl, by decide, by decide⟩ hY F (fun _ _ a ns hl _ hS => ⟨a, ns, rfl, hS, hl, fun _ => rfl⟩) fun _ _ _ _ _ z => z
end My
open PySem PySem.W PyProof.Rows
set_option maxRecDepth 100000 in
set_option maxHeartbeats 0 in
theorem PySem.Challenge.cw_stairrooms_k65_a_hundred_ways_holds : PySem.Challenge.rw_stairrooms_k65_a_hundred_ways.Holds := by
  refine My.top ?_
  k_fill
  refine My.walk (l := PySem.Challenge.rw_stairrooms_k65_a_hundred_ways) rfl rfl (fun w h Y => by first | exact PySem.W.kIn_of Y | exact PySem.W.km_in_of Y) ?F
  case F =>
    intro w mg fa h KX G hmg
    have q := @My.dq _ _ _ KX G
    refine' My.all_mk KX G hmg (q ?a0 ?l0 ?c0 ?k0) (q ?a1 ?l1 ?c1 ?k1) (q ?a2 ?l2 ?c2 ?k2) (q ?a3 ?l3 ?c3 ?k3) (q ?a4 ?l4 ?c4 ?k4) (q ?a5 ?l5 ?c5 ?k5) (q ?a6 ?l6 ?c6 ?k6) (q ?a7 ?l7 ?c7 ?k7) (q ?a8 ?l8 ?c8 ?k8) (q ?a9 ?l9 ?c9 ?k9) ?nD ?hdk ?a10 ?l10 ?c10 ?k10 ?i10 ?a11 ?l11 ?c11 ?k11 ?i11 ?a12 ?l12 ?c12 ?k12 ?i12 (q ?a13 ?l13 ?c13 ?k13) (q ?a14 ?l14 ?c14 ?k14) (q ?a15 ?l15 ?c15 ?k15) (q ?a16 ?l16 ?c16 ?k16) (q ?a17 ?l17 ?c17 ?k17) (q ?a18 ?l18 ?c18 ?k18) (q ?a19 ?l19 ?c19 ?k19) (q ?a20 ?l20 ?c20 ?k20) (q ?a21 ?l21 ?c21 ?k21) (q ?a22 ?l22 ?c22 ?k22) (q ?a23 ?l23 ?c23 ?k23) ?a24 ?l24 ?c24 ?k24 ?i24 (q ?a25 ?l25 ?c25 ?k25) (q ?a26 ?l26 ?c26 ?k26) (q ?a27 ?l27 ?c27 ?k27) (q ?a28 ?l28 ?c28 ?k28) (q ?a29 ?l29 ?c29 ?k29) (q ?a30 ?l30 ?c30 ?k30) ?a31 ?l31 ?c31 ?k31 ?i31 (q ?a32 ?l32 ?c32 ?k32) (q ?a33 ?l33 ?c33 ?k33) (q ?a34 ?l34 ?c34 ?k34) ?a35 ?l35 ?c35 ?k35 ?z0 ?z1 ?z2 ?z3 ?z4 ?z5 ?z6 ?z7 ?z8 ?z9 ?z10 ?z11 ?z12 ?z13 ?z14 ?z15 ?z16 ?z17 ?z18 ?v0 ?v1 ?v2 ?v3 ?x0 ?y0 ?w0 ?x1 ?y1 ?w1 ?n1_0 ?n1_1 ?n1_2 ?n1_3 ?n1_4 ?n1_5 ?n1_6 ?n1_7 ?n1_8 ?n1_9 ?n1_10 ?n1_11 ?n1_12 ?x2 ?y2 ?w2 ?n2_0 ?n2_1 ?n2_2 ?n2_3 ?x3 ?y3 ?w3 ?n3_0 ?n3_1 ?n3_2 ?n3_3 ?n3_4 ?n3_5 ?n3_6 ?hxf
    (case nD => k_is); (case hdk => first | kernel_rfl | k_is)
    case a0|l0|c0|k0|a1|l1|c1|k1|a2|l2|c2|k2|a3|l3|c3|k3|a4|l4|c4|k4|a5|l5|c5|k5|a6|l6|c6|k6|a7|l7|c7|k7|a8|l8|c8|k8|a9|l9|c9|k9|a10|l10|c10|k10|i10|a11|l11|c11|k11|i11|a12|l12|c12|k12|i12|a13|l13|c13|k13|a14|l14|c14|k14|a15|l15|c15|k15|a16|l16|c16|k16|a17|l17|c17|k17|a18|l18|c18|k18|a19|l19|c19|k19|a20|l20|c20|k20|a21|l21|c21|k21|a22|l22|c22|k22|a23|l23|c23|k23|a24|l24|c24|k24|i24|a25|l25|c25|k25|a26|l26|c26|k26|a27|l27|c27|k27|a28|l28|c28|k28|a29|l29|c29|k29|a30|l30|c30|k30|a31|l31|c31|k31|i31|a32|l32|c32|k32|a33|l33|c33|k33|a34|l34|c34|k34|a35|l35|c35|k35|z0|z1|z2|z3|z4|z5|z6|z7|z8|z9|z10|z11|z12|z13|z14|z15|z16|z17|z18|v0|v1|v2|v3=>k_is
    (case x0 => k_is); (case y0 => k_is); (case w0 => first | rfl | k_is)
    (case x1 => k_is); (case y1 => k_is); (case w1 => first | rfl | k_is)
    (case n1_0 => refine ⟨_, _, _, _, by k_is, by decide, ?_⟩; repeat (first | exact .nil | refine .cons ⟨_, rfl⟩ ?_))
    (case n1_1 => refine ⟨_, _, _, _, by k_is, by decide, ?_⟩; repeat (first | exact .nil | refine .cons ⟨_, rfl⟩ ?_))
    (case n1_2 => refine ⟨_, _, _, _, by k_is, by decide, ?_⟩; repeat (first | exact .nil | refine .cons ⟨_, rfl⟩ ?_))
    (case n1_3 => refine ⟨_, _, _, _, by k_is, by decide, ?_⟩; repeat (first | exact .nil | refine .cons ⟨_, rfl⟩ ?_))
    (case n1_4 => refine ⟨_, _, _, _, by k_is, by decide, ?_⟩; repeat (first | exact .nil | refine .cons ⟨_, rfl⟩ ?_))
    (case n1_5 => refine ⟨_, _, _, _, by k_is, by decide, ?_⟩; repeat (first | exact .nil | refine .cons ⟨_, rfl⟩ ?_))
    (case n1_6 => refine ⟨_, _, _, _, by k_is, by decide, ?_⟩; repeat (first | exact .nil | refine .cons ⟨_, rfl⟩ ?_))
    (case n1_7 => refine ⟨_, _, _, _, by k_is, by decide, ?_⟩; repeat (first | exact .nil | refine .cons ⟨_, rfl⟩ ?_))
    (case n1_8 => refine ⟨_, _, _, _, by k_is, by decide, ?_⟩; repeat (first | exact .nil | refine .cons ⟨_, rfl⟩ ?_))
    (case n1_9 => refine ⟨_, _, _, _, by k_is, by decide, ?_⟩; repeat (first | exact .nil | refine .cons ⟨_, rfl⟩ ?_))
    (case n1_10 => refine ⟨_, _, _, _, by k_is, by decide, ?_⟩; repeat (first | exact .nil | refine .cons ⟨_, rfl⟩ ?_))
    (case n1_11 => refine ⟨_, _, _, _, by k_is, by decide, ?_⟩; repeat (first | exact .nil | refine .cons ⟨_, rfl⟩ ?_))
    (case n1_12 => refine ⟨_, _, _, _, by k_is, by decide, ?_⟩; repeat (first | exact .nil | refine .cons ⟨_, rfl⟩ ?_))
    (case x2 => k_is); (case y2 => k_is); (case w2 => first | rfl | k_is)
    (case n2_0 => k_is)
    (case n2_1 => k_is)
    (case n2_2 => k_is)
    (case n2_3 => k_is)
    (case x3 => k_is); (case y3 => k_is); (case w3 => first | rfl | k_is)
    (case n3_0 => k_is)
    (case n3_1 => k_is)
    (case n3_2 => k_is)
    (case n3_3 => k_is)
    (case n3_4 => k_is)
    (case n3_5 => k_is)
    (case n3_6 => k_is)
    (case hxf => first | kernel_rfl | k_is)
