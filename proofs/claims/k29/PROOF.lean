import PyProof.Rows.All
import Wide.All
import OpenK.AllK
import Wide.FinOn
import Lean
import PyProof.EqAt
import PyProof.EqKinds
import PyProof.TupleCall
import PyProof.Rows.Catch
import PyProof.Rows.TupIter
import PyProof.TupleIter
import PyProof.Seq
import PyProof.ExcInit
import PyProof.ExcClass2
import KE.KIntText
import PyProof.StrOps2
import PyProof.ConsumeWalk
import PyProof.Rows.RuleM_int
import PyProof.ZipIter
import PyProof.EnumMake
import KE.KLam
import PyProof.StrWalks
import PyProof.Rows.TupAssign
import PyProof.Rows.Range3
import PyProof.DictWalks
import PyProof.DictUpdate
import PyProof.P3In
import PySem.Challenge.RW_tenreckon_k29_scaled
set_option Elab.async false
set_option linter.all false
set_option maxRecDepth 100000
namespace PySem.W.Fast
theorem tw1941372298021198482:True:=trivial
theorem tw18417253661190730629:True:=trivial
theorem tw13194190914264158832:True:=trivial
theorem tw18090264274711557029:True:=trivial
theorem tw861502493610598483:True:=trivial
theorem tw13591048310350326776:True:=trivial
theorem tw6583667887555694182:True:=trivial
theorem tw768862023291137818:True:=trivial
theorem tw12267637034586444168:True:=trivial
theorem tw10254530241529151675:True:=trivial
theorem tw329941283463616030:True:=trivial
theorem tw17521337959378179880:True:=trivial
theorem tw8831155922039959720:True:=trivial
theorem tw1745904855532632988:True:=trivial
theorem tw7774113678449685934:True:=trivial
theorem tw16079625458684974924:True:=trivial
theorem tw14814267008950123050:True:=trivial
theorem tw10982607960206986724:True:=trivial
theorem tw10794316228461398450:True:=trivial
theorem tw2343285291557775378:True:=trivial
theorem tw9817592762322798685:True:=trivial
theorem tw17445344336706051463:True:=trivial
theorem tw8057509151949241040:True:=trivial
theorem tw4705034193704625203:True:=trivial
theorem tw6657536258744368796:True:=trivial
theorem tw16828129974981846989:True:=trivial
theorem tw5665240888008139550:True:=trivial
theorem tw266865212036300189:True:=trivial
theorem tw18111429629039517087:True:=trivial
theorem tw11346864328391097527:True:=trivial
theorem tw15568320322881618571:True:=trivial
theorem tw18407495941553956032:True:=trivial
theorem tw1198783387198779033:True:=trivial
theorem tw2956708394376553000:True:=trivial
theorem tw2480015634913765671:True:=trivial
theorem tw10282777137419654623:True:=trivial
theorem tw12550775161083096063:True:=trivial
theorem tw14538725608371270373:True:=trivial
theorem tw2314974601033795270:True:=trivial
theorem tw3592811809046731828:True:=trivial
theorem tw9113380124883318265:True:=trivial
theorem tw7933485763601977624:True:=trivial
theorem tw9646623106273453227:True:=trivial
theorem tw13968170938045774931:True:=trivial
theorem tw9387514328989991554:True:=trivial
theorem tw13037224057902187189:True:=trivial
theorem tw640624198105042115:True:=trivial
theorem tw2997492091776894028:True:=trivial
theorem tw9553971096990549364:True:=trivial
theorem tw2005429899714657693:True:=trivial
theorem tw16209886269506037329:True:=trivial
theorem tw13913613514976480042:True:=trivial
theorem tw14383122354028845282:True:=trivial
theorem tw7766106395892283477:True:=trivial
theorem tw7422445781565681216:True:=trivial
theorem tw539538531456391632:True:=trivial
theorem tw4766597723019941021:True:=trivial
theorem tw10373885705245885314:True:=trivial
theorem tw8737599933303070863:True:=trivial
theorem tw13571862603940711859:True:=trivial
theorem tw256182404569192445:True:=trivial
theorem tw9959121941294770655:True:=trivial
theorem tw3456351732281881909:True:=trivial
theorem tw3956626150722534798:True:=trivial
theorem tw13053394406489344094:True:=trivial
theorem tw8272569733616993153:True:=trivial
theorem tw13705283562680751584:True:=trivial
theorem tw8374155422468719031:True:=trivial
theorem tw730961619353400375:True:=trivial
theorem tw15831126876759372255:True:=trivial
theorem tw4704452742865826424:True:=trivial
theorem tw15240619367488684849:True:=trivial
theorem tw13385558918117058561:True:=trivial
theorem tw6542358382571353910:True:=trivial
theorem tw8186657734068701312:True:=trivial
theorem tw14592624751514493413:True:=trivial
theorem tw16422413458241162112:True:=trivial
theorem tw5000232492035539693:True:=trivial
theorem tw11844019762684407370:True:=trivial
theorem tw8997383693586321770:True:=trivial
theorem tw12298192366917762067:True:=trivial
theorem tw8413399678365625193:True:=trivial
theorem tw12064304430848566033:True:=trivial
theorem tw1207101557538958131:True:=trivial
theorem tw7480016910919988345:True:=trivial
theorem tw17713387462200973399:True:=trivial
theorem tw3721919958574915784:True:=trivial
theorem tw16212330677787901120:True:=trivial
theorem tw1692201390411429781:True:=trivial
theorem tw786537726763496527:True:=trivial
theorem tw15779231459743154856:True:=trivial
theorem tw17659185236578331656:True:=trivial
theorem tw12772213712371865176:True:=trivial
theorem tw11468729153070441980:True:=trivial
theorem tw6278996535519779258:True:=trivial
theorem tw15577281813014381367:True:=trivial
theorem tw16140922888777852060:True:=trivial
theorem tw2941924889016668590:True:=trivial
theorem tw12740759652641322565:True:=trivial
theorem tw5462360663327728810:True:=trivial
theorem tw1537541725227008683:True:=trivial
theorem tw3520257249291928256:True:=trivial
theorem tw15235614512728720:True:=trivial
theorem tw256976265262469064:True:=trivial
theorem tw18183970276198133131:True:=trivial
theorem tw3300454383303005205:True:=trivial
theorem tw14117097954491500355:True:=trivial
theorem tw10052031235695348791:True:=trivial
theorem tw13812277999558781770:True:=trivial
theorem tw14961746396406840608:True:=trivial
theorem tw13349420017058727143:True:=trivial
theorem tw1181674027530198351:True:=trivial
theorem tw15214748959534726111:True:=trivial
theorem tw14845619989558847073:True:=trivial
theorem tw14404928986312190071:True:=trivial
theorem tw8498532028676091811:True:=trivial
theorem tw6145912378217320015:True:=trivial
theorem tw991626836265849350:True:=trivial
theorem tw16873086082458093902:True:=trivial
theorem tw5274540628290517091:True:=trivial
theorem tw10886659093417053267:True:=trivial
theorem tw18335596039185421423:True:=trivial
theorem tw16765560720781731146:True:=trivial
theorem tw10387345722656961088:True:=trivial
theorem tw6420159726195949164:True:=trivial
theorem tw6472337539984862722:True:=trivial
theorem tw8285278889055680438:True:=trivial
theorem tw10295913840692754127:True:=trivial
theorem tw615563214671542189:True:=trivial
theorem tw4211115844707057057:True:=trivial
theorem tw14963028359598502718:True:=trivial
theorem tw15052318979288761249:True:=trivial
theorem tw5486008376365147428:True:=trivial
theorem tw258922573401459892:True:=trivial
theorem tw10425772144798254840:True:=trivial
theorem tw8000062065404616838:True:=trivial
theorem tw12770481643036789091:True:=trivial
theorem tw424408320835691240:True:=trivial
theorem tw13459084325293418506:True:=trivial
theorem tw10842938092177581297:True:=trivial
theorem tw384561282630992784:True:=trivial
theorem tw7990135213862412714:True:=trivial
theorem tw2314633323536394700:True:=trivial
theorem tw10551173667578312727:True:=trivial
theorem tw10801879617336347724:True:=trivial
theorem tw15763482434359817770:True:=trivial
theorem tw8185545411690514434:True:=trivial
theorem tw18328257000508772394:True:=trivial
theorem tw11421057715548341654:True:=trivial
theorem tw6056707288978253535:True:=trivial
theorem tw13135312941875745310:True:=trivial
theorem tw6798380500665416597:True:=trivial
theorem tw12396662096508845406:True:=trivial
theorem tw12954591660760965231:True:=trivial
theorem tw12408111787983249662:True:=trivial
theorem tw17170472223608059050:True:=trivial
theorem tw1405720946626083897:True:=trivial
theorem tw247591363613054380:True:=trivial
theorem tw14520296925931582552:True:=trivial
theorem tw855453113358079251:True:=trivial
theorem tw5890639436620234070:True:=trivial
theorem tw12768989823518198380:True:=trivial
theorem tw14993981098963755598:True:=trivial
theorem tw13547939009206843870:True:=trivial
theorem tw4321966507151631593:True:=trivial
theorem tw9456574344343218679:True:=trivial
theorem tw10236332898609347644:True:=trivial
theorem tw13421457143807847188:True:=trivial
theorem tw11153126096140912846:True:=trivial
theorem tw14243238205550065757:True:=trivial
theorem tw11024694936033576346:True:=trivial
theorem tw5008593111378822452:True:=trivial
theorem tw17817366049700826239:True:=trivial
theorem tw5217270863462422736:True:=trivial
theorem tw1840220198017710270:True:=trivial
theorem tw11373181179767321252:True:=trivial
theorem tw2694234056635809718:True:=trivial
theorem tw6701911527682315725:True:=trivial
theorem tw15438627641174518403:True:=trivial
theorem tw360634875079729221:True:=trivial
theorem tw7921390202802761869:True:=trivial
theorem tw18293242582946804979:True:=trivial
theorem tw6162269159774324313:True:=trivial
theorem tw4015202173357781934:True:=trivial
theorem tw11911167908941700269:True:=trivial
theorem tw9510108024173832781:True:=trivial
theorem tw11524815483048965402:True:=trivial
theorem tw15752536640612570366:True:=trivial
theorem tw10510019762269167821:True:=trivial
theorem tw11766667032028208565:True:=trivial
theorem tw15541240446876304647:True:=trivial
theorem tw10164718903369591474:True:=trivial
theorem tw2333105410213810865:True:=trivial
theorem tw11513857634932158529:True:=trivial
theorem tw16746677531222629524:True:=trivial
theorem tw2527701527901579348:True:=trivial
theorem tw15499940227032437249:True:=trivial
theorem tw18310463660012746435:True:=trivial
theorem tw4971374062829452455:True:=trivial
theorem tw1599053048872161195:True:=trivial
theorem tw9223045988441327695:True:=trivial
theorem tw13931877327420345601:True:=trivial
theorem tw6526287140368922620:True:=trivial
theorem tw4096438862311573950:True:=trivial
theorem tw8757050672659960515:True:=trivial
theorem tw13711697494001597007:True:=trivial
theorem tw1717767836212652739:True:=trivial
theorem tw15733337929971156237:True:=trivial
theorem tw12717557048674177747:True:=trivial
theorem tw8752102160057688731:True:=trivial
theorem tw3233987462203235646:True:=trivial
theorem tw4860023922305330110:True:=trivial
theorem tw7151132215420815488:True:=trivial
theorem tw5459702643516471331:True:=trivial
theorem tw8319933024895762948:True:=trivial
theorem tw14736888041290939073:True:=trivial
theorem tw2597523674469684444:True:=trivial
theorem tw1725486776273817318:True:=trivial
theorem tw5072417060200589145:True:=trivial
theorem tw10792498714594961201:True:=trivial
theorem tw8212203176049278890:True:=trivial
theorem tw866652123128751154:True:=trivial
theorem tw17691633702590694504:True:=trivial
theorem tw6084841979344569690:True:=trivial
theorem tw17760279517084355780:True:=trivial
theorem tw6229817132586351632:True:=trivial
theorem tw2950685276103557050:True:=trivial
theorem tw18031968618487185184:True:=trivial
theorem tw16860917588515726111:True:=trivial
theorem tw2789304352393801511:True:=trivial
theorem tw18361725300881549022:True:=trivial
theorem tw10611411778653204182:True:=trivial
theorem tw14935156969734317764:True:=trivial
theorem tw16925712312323332580:True:=trivial
theorem tw14594842627406614536:True:=trivial
theorem tw622995879521568732:True:=trivial
theorem tw16101134707931498060:True:=trivial
theorem tw9879335643197240621:True:=trivial
theorem tw7007286002206832825:True:=trivial
theorem tw14441679199631801671:True:=trivial
theorem tw18384110700954362821:True:=trivial
theorem tw5323657890516693427:True:=trivial
theorem tw14074196154385387334:True:=trivial
theorem tw7249310025045793396:True:=trivial
theorem tw14785633479632635281:True:=trivial
theorem tw896239598344801917:True:=trivial
theorem tw6782663255696616371:True:=trivial
theorem tw11308061921803828041:True:=trivial
theorem tw9947508896943372755:True:=trivial
theorem tw13631397514672939371:True:=trivial
theorem tw6124413428159637790:True:=trivial
theorem tw6549852094080907030:True:=trivial
theorem tw12431713363859531893:True:=trivial
theorem tw15771247859494662083:True:=trivial
theorem tw12901003280762261817:True:=trivial
theorem tw17312402878845073609:True:=trivial
theorem tw12887044766017154078:True:=trivial
theorem tw13307065042914920193:True:=trivial
theorem tw13367274342830030513:True:=trivial
theorem tw1708089923452030704:True:=trivial
theorem tw4804111812005502284:True:=trivial
theorem tw12461081396071149458:True:=trivial
theorem tw10698057553749749337:True:=trivial
theorem tw18094105663378112561:True:=trivial
theorem tw3641951560692057861:True:=trivial
theorem tw2990168724187919761:True:=trivial
theorem tw6690350156832105676:True:=trivial
theorem tw11219443903484984970:True:=trivial
theorem tw9744259246892133002:True:=trivial
theorem tw14479964200598819128:True:=trivial
theorem tw13298828918039433023:True:=trivial
theorem tw1891733041441978011:True:=trivial
theorem tw14135006944967825841:True:=trivial
theorem tw12435058653956393420:True:=trivial
theorem tw13567515925198824819:True:=trivial
theorem tw4884199854448574:True:=trivial
theorem tw6945566481307383155:True:=trivial
theorem tw8739830900816887780:True:=trivial
theorem tw14036186469904095446:True:=trivial
theorem tw14202271707224943307:True:=trivial
theorem tw13956191218907399338:True:=trivial
theorem tw12921946191010883867:True:=trivial
theorem tw14801369171006070438:True:=trivial
theorem tw17464319187374939960:True:=trivial
theorem tw7164969610272591079:True:=trivial
theorem tw11161164713144168021:True:=trivial
theorem tw8392358500681263680:True:=trivial
theorem tw16145670418848962200:True:=trivial
theorem tw17292613610259460706:True:=trivial
theorem tw4562827626845409882:True:=trivial
theorem tw16919654943277366748:True:=trivial
theorem tw17016834523296244275:True:=trivial
theorem tw3308634892276815127:True:=trivial
theorem tw10958628066121416707:True:=trivial
theorem tw12132596417379514657:True:=trivial
theorem tw9615563845995560447:True:=trivial
theorem tw17852080271459398996:True:=trivial
theorem tw8919978131948313185:True:=trivial
theorem tw17382457898008728272:True:=trivial
theorem tw16203965252921439515:True:=trivial
theorem tw9461873434466728008:True:=trivial
theorem tw3919386906821981792:True:=trivial
theorem tw16723463757517087524:True:=trivial
theorem tw13953587524928339648:True:=trivial
theorem tw2570914705882880060:True:=trivial
theorem tw206757683497733573:True:=trivial
theorem tw6148498323302512570:True:=trivial
theorem tw2080317491765294665:True:=trivial
theorem tw16902440903046159558:True:=trivial
theorem tw12903330217458380548:True:=trivial
theorem tw2261719852989239553:True:=trivial
theorem tw447263597446747957:True:=trivial
theorem tw12459912946257978736:True:=trivial
theorem tw15565715512253457277:True:=trivial
theorem tw4953865588907285216:True:=trivial
theorem tw172746767574481773:True:=trivial
theorem tw16108870410212019532:True:=trivial
theorem tw13946496683202179788:True:=trivial
theorem tw6714880395473160397:True:=trivial
theorem tw5994696166404524948:True:=trivial
theorem tw4545961482378311905:True:=trivial
theorem tw15326580083554890809:True:=trivial
theorem tw4051853165826885262:True:=trivial
theorem tw8908233856664302321:True:=trivial
theorem tw2333531293284704758:True:=trivial
theorem tw16086907953836968628:True:=trivial
theorem tw14154597600763967237:True:=trivial
theorem tw4517560463748656503:True:=trivial
theorem tw16670775579421159206:True:=trivial
theorem tw14842496431369740429:True:=trivial
theorem tw15978794797337165890:True:=trivial
theorem tw4470585836733325578:True:=trivial
theorem tw3198059409981156222:True:=trivial
theorem tw9104974531708491489:True:=trivial
theorem tw17680797132471856694:True:=trivial
theorem tw10539347186207431242:True:=trivial
theorem tw354308444213283272:True:=trivial
theorem tw17592209452093105858:True:=trivial
theorem tw5171440476677080432:True:=trivial
theorem tw5239429619861171699:True:=trivial
theorem tw7322748291113730364:True:=trivial
theorem tw10953238642706405951:True:=trivial
theorem tw694261584828832409:True:=trivial
theorem tw3985964047577975286:True:=trivial
theorem tw9969077435446430640:True:=trivial
theorem tw4186743451310774866:True:=trivial
theorem tw17577329170770402720:True:=trivial
theorem tw3581434408401558974:True:=trivial
theorem tw15895094517606616290:True:=trivial
theorem tw1293241653719404408:True:=trivial
theorem tw609457278022895560:True:=trivial
theorem tw2868442198168577507:True:=trivial
theorem tw14819390147424179368:True:=trivial
theorem tw5832146486336120021:True:=trivial
theorem tw2768188642542392010:True:=trivial
theorem tw14553807712399142462:True:=trivial
theorem tw13439652990877377571:True:=trivial
theorem tw3300257896294614128:True:=trivial
theorem tw12884060626414724322:True:=trivial
theorem tw7220529860990300233:True:=trivial
theorem tw3831019782443316194:True:=trivial
theorem tw9584292182412213727:True:=trivial
theorem tw18418582437962087742:True:=trivial
theorem tw866717566613908145:True:=trivial
theorem tw5233118043267047457:True:=trivial
theorem tw17397653436517662659:True:=trivial
theorem tw11267315532378154396:True:=trivial
theorem tw16607193741793207195:True:=trivial
theorem tw13160504802963445071:True:=trivial
theorem tw2595618661548880785:True:=trivial
theorem tw6329614223026926184:True:=trivial
theorem tw17883462748017686043:True:=trivial
theorem tw4063829332388037331:True:=trivial
theorem tw8806403697108878469:True:=trivial
theorem tw14938211915633500526:True:=trivial
theorem tw2576523973992343609:True:=trivial
theorem tw8950108695139179302:True:=trivial
theorem tw8297923619242306668:True:=trivial
theorem tw5285915839522022235:True:=trivial
theorem tw11489344026974618541:True:=trivial
theorem tw4449297822257671152:True:=trivial
theorem tw5694767641087392711:True:=trivial
theorem tw17360015989920007124:True:=trivial
theorem tw14833712730911297017:True:=trivial
theorem tw10294118229990073760:True:=trivial
theorem tw5037459499596335280:True:=trivial
theorem tw2483420100392427323:True:=trivial
theorem tw13215348057498601715:True:=trivial
theorem tw4903002758410956813:True:=trivial
theorem tw11215392098479208961:True:=trivial
theorem tw8833860146974802555:True:=trivial
theorem tw6248682570935725439:True:=trivial
theorem tw16378183091871739711:True:=trivial
theorem tw11564986514327137767:True:=trivial
theorem tw6522051377940421278:True:=trivial
theorem tw9461912720999461741:True:=trivial
theorem tw15554417296805563061:True:=trivial
theorem tw14537775516033599862:True:=trivial
theorem tw6900931685637148767:True:=trivial
theorem tw4493901809537577575:True:=trivial
theorem tw4859391219904099992:True:=trivial
theorem tw429539710256275620:True:=trivial
theorem tw3652199383789512132:True:=trivial
theorem tw1532491051758110099:True:=trivial
theorem tw4413860948169739490:True:=trivial
theorem tw7998583776865276027:True:=trivial
theorem tw8757255369765604158:True:=trivial
theorem tw599730875272715187:True:=trivial
theorem tw9950792792127014553:True:=trivial
theorem tw3374319085511977134:True:=trivial
theorem tw16615150188913437886:True:=trivial
theorem tw14671739901194505220:True:=trivial
theorem tw1979317910248211280:True:=trivial
theorem tw10159399881129095643:True:=trivial
theorem tw6172094611929405055:True:=trivial
theorem tw7867829370405329436:True:=trivial
theorem tw8834805137890396735:True:=trivial
theorem tw13885670934486923800:True:=trivial
theorem tw15042883488752021643:True:=trivial
theorem tw2400638427578300857:True:=trivial
theorem tw9402243437249704421:True:=trivial
theorem tw3350206127114907401:True:=trivial
theorem tw15805137534098808535:True:=trivial
theorem tw10479991185640055810:True:=trivial
theorem tw11502921971960690029:True:=trivial
theorem tw13053770412826190925:True:=trivial
theorem tw5341297951324810720:True:=trivial
theorem tw2759284407945088205:True:=trivial
theorem tw11408881796089955267:True:=trivial
theorem tw13462424878891718212:True:=trivial
theorem tw14219159868682941630:True:=trivial
theorem tw11717715558655726156:True:=trivial
theorem tw15792790952358468732:True:=trivial
theorem tw1402340071739887797:True:=trivial
theorem tw15590096980072825465:True:=trivial
theorem tw1922157984580058403:True:=trivial
theorem tw7828442866392281868:True:=trivial
theorem tw15036080040530398195:True:=trivial
theorem tw11063759124802658401:True:=trivial
theorem tw2399617604181995578:True:=trivial
theorem tw8006371003960147343:True:=trivial
theorem tw17351735930882485243:True:=trivial
theorem tw9919008367099125623:True:=trivial
theorem tw10988312798546598065:True:=trivial
theorem tw17510684818845775701:True:=trivial
theorem tw4323258101793500111:True:=trivial
theorem tw6325675986683464353:True:=trivial
theorem tw7374399212775623666:True:=trivial
theorem tw10312438410070409164:True:=trivial
theorem tw17435391645217708394:True:=trivial
theorem tw10297410513487048360:True:=trivial
theorem tw5344687154915797982:True:=trivial
theorem tw14611616552423853409:True:=trivial
theorem tw2595585439558603231:True:=trivial
theorem tw9757595895972200118:True:=trivial
theorem tw5783627655825047438:True:=trivial
theorem tw3953844824629472508:True:=trivial
theorem tw14261769069557060686:True:=trivial
theorem tw13669536469129627823:True:=trivial
theorem tw5002640475654186023:True:=trivial
theorem tw8909772338491405060:True:=trivial
theorem tw8219003486749837733:True:=trivial
theorem tw2084650752826471497:True:=trivial
theorem tw8331849164307833061:True:=trivial
theorem tw1915925776726481438:True:=trivial
theorem tw11266997524610791606:True:=trivial
theorem tw16053306600634468012:True:=trivial
theorem tw11401859456886640639:True:=trivial
theorem tw140001813534094272:True:=trivial
theorem tw17890440400047909864:True:=trivial
theorem tw9252304221032618942:True:=trivial
theorem tw4382473104129494423:True:=trivial
theorem tw3676754643040562684:True:=trivial
theorem tw2827255003249426055:True:=trivial
theorem tw11280630913190679075:True:=trivial
theorem tw4772062507164038959:True:=trivial
theorem tw7837367980739423823:True:=trivial
theorem tw4734895289157585001:True:=trivial
theorem tw2925816871977632210:True:=trivial
theorem tw12468840222048715292:True:=trivial
theorem tw3075201292733833056:True:=trivial
theorem tw6651725471809605288:True:=trivial
theorem tw11153475782318119604:True:=trivial
theorem tw18003772858949239459:True:=trivial
theorem tw13343918040275786880:True:=trivial
theorem tw16109456028575089023:True:=trivial
theorem tw2692750590507578028:True:=trivial
theorem tw6327569006664949090:True:=trivial
theorem tw3433779192033484610:True:=trivial
theorem tw296083027919845158:True:=trivial
theorem tw3365755272349913518:True:=trivial
theorem tw4547051000311932777:True:=trivial
theorem tw4290864757253303354:True:=trivial
theorem tw11738243743197964597:True:=trivial
theorem tw17823556299335049440:True:=trivial
theorem tw9201617497623189827:True:=trivial
theorem tw14564479935002850509:True:=trivial
theorem tw11151835277377553703:True:=trivial
theorem tw12681666616541194006:True:=trivial
theorem tw15621116118777243554:True:=trivial
theorem tw5388589039460942527:True:=trivial
theorem tw4561898282857576226:True:=trivial
theorem tw10576836333797772347:True:=trivial
theorem tw5960047855520388891:True:=trivial
theorem tw3328118118096588273:True:=trivial
theorem tw6469784823511061222:True:=trivial
theorem tw14081431093454284249:True:=trivial
theorem tw5498123283257192965:True:=trivial
theorem tw12727641955093265886:True:=trivial
theorem tw7050804516273991350:True:=trivial
theorem tw14454166528178196959:True:=trivial
theorem tw15142666989864626641:True:=trivial
theorem tw4993863958327201973:True:=trivial
theorem tw16103829930404553856:True:=trivial
theorem tw13769103115541136327:True:=trivial
theorem tw6597789921013551971:True:=trivial
theorem tw1205274952441263945:True:=trivial
theorem tw11076892268299887525:True:=trivial
theorem tw17267597263503486738:True:=trivial
theorem tw11033627544408312984:True:=trivial
theorem tw8833496514701923757:True:=trivial
theorem tw5444512763150141072:True:=trivial
theorem tw5634867526602368427:True:=trivial
theorem tw13831308528885131752:True:=trivial
theorem tw8995945545434573385:True:=trivial
theorem tw523537741815420091:True:=trivial
theorem tw3543459598558145280:True:=trivial
theorem tw9331231397406362311:True:=trivial
theorem tw11692469974320434101:True:=trivial
theorem tw1972164579936704799:True:=trivial
theorem tw2358075552688931204:True:=trivial
theorem tw12330612334027959195:True:=trivial
theorem tw16531682779099013679:True:=trivial
theorem tw726351398001015727:True:=trivial
theorem tw1070438729232803039:True:=trivial
theorem tw3369321489733940265:True:=trivial
theorem tw3049343062529576306:True:=trivial
theorem tw13322777563574152365:True:=trivial
theorem tw8972062959192195235:True:=trivial
theorem tw6702445572142316249:True:=trivial
theorem tw7350462372000428638:True:=trivial
theorem tw12301033059052437259:True:=trivial
theorem tw938635154573522699:True:=trivial
theorem tw17508347553164502932:True:=trivial
theorem tw10550934584343373414:True:=trivial
theorem tw11898673842065290130:True:=trivial
theorem tw1825952489489211193:True:=trivial
theorem tw2132029292895624192:True:=trivial
theorem tw6408400580700104982:True:=trivial
theorem tw3671519592330383864:True:=trivial
theorem tw3778530596728393105:True:=trivial
theorem tw9972681490609642005:True:=trivial
theorem tw2983494736656345032:True:=trivial
theorem tw8535803893964050539:True:=trivial
theorem tw4538635040379822027:True:=trivial
theorem tw14727194681476072466:True:=trivial
theorem tw16217903435359918192:True:=trivial
theorem tw17410218998227585676:True:=trivial
theorem tw3726453103677007866:True:=trivial
theorem tw3436067635600285980:True:=trivial
theorem tw9388066449989048879:True:=trivial
theorem tw15475723433398761304:True:=trivial
theorem tw5874822333441161849:True:=trivial
theorem tw13484562703626004877:True:=trivial
theorem tw3897268976836264337:True:=trivial
theorem tw12003660372656728261:True:=trivial
theorem tw10741264400317747893:True:=trivial
theorem tw2259672571474061568:True:=trivial
theorem tw6858818405166986180:True:=trivial
theorem tw7476452910721959123:True:=trivial
theorem tw16409965706819354750:True:=trivial
theorem tw14391293386007564604:True:=trivial
theorem tw8159993647027272844:True:=trivial
theorem tw3475869608268796686:True:=trivial
theorem tw11962351593759143498:True:=trivial
theorem tw1000662321505670351:True:=trivial
theorem tw16120054744476736488:True:=trivial
theorem tw2455152089536381482:True:=trivial
theorem tw11429584451438056573:True:=trivial
theorem tw10510056951384868246:True:=trivial
theorem tw15861351967447197489:True:=trivial
theorem tw2997480634906808460:True:=trivial
theorem tw15433366417846715934:True:=trivial
theorem tw7900394595670775223:True:=trivial
theorem tw13757698761724263525:True:=trivial
theorem tw443766864951011646:True:=trivial
theorem tw5702276774652866934:True:=trivial
theorem tw4334401890000744311:True:=trivial
theorem tw12188032599808994241:True:=trivial
theorem tw2392593158011319353:True:=trivial
theorem tw3303267245142563540:True:=trivial
theorem tw12738610918357793766:True:=trivial
theorem tw16003985067176294414:True:=trivial
theorem tw5289818103960998278:True:=trivial
theorem tw5872530126848033075:True:=trivial
theorem tw14849461344987154502:True:=trivial
theorem tw11317637306720784765:True:=trivial
theorem tw13557862171009465336:True:=trivial
theorem tw1937721966566455358:True:=trivial
theorem tw10161179621583223854:True:=trivial
theorem tw15495752065017430504:True:=trivial
theorem tw18157406047293677543:True:=trivial
theorem tw16060203290454839817:True:=trivial
theorem tw12826555694032677247:True:=trivial
theorem tw4102176305081739490:True:=trivial
theorem tw10375405629913823727:True:=trivial
theorem tw643336161829623379:True:=trivial
theorem tw10374632558016547081:True:=trivial
theorem tw18441984877410159329:True:=trivial
theorem tw7557421358154311045:True:=trivial
theorem tw11662115353561507501:True:=trivial
theorem tw15254633091992210921:True:=trivial
theorem tw896878414759379649:True:=trivial
theorem tw4171853373547519906:True:=trivial
theorem tw18101783494082082527:True:=trivial
theorem tw13855379610559885079:True:=trivial
theorem tw9381626543082597023:True:=trivial
theorem tw5662061979359257339:True:=trivial
theorem tw1932759071263863916:True:=trivial
theorem tw14424681132571578402:True:=trivial
theorem tw6046103115902281144:True:=trivial
theorem tw11095110211248682772:True:=trivial
theorem tw12542895121996172375:True:=trivial
theorem tw6631347999910079877:True:=trivial
theorem tw14995258362815363992:True:=trivial
theorem tw12798174099139212305:True:=trivial
theorem tw17260811203177919210:True:=trivial
theorem tw6968137755033780318:True:=trivial
theorem tw5010956058597451964:True:=trivial
theorem tw13313058339493701161:True:=trivial
theorem tw12369848792361866835:True:=trivial
theorem tw15012102849882553082:True:=trivial
theorem tw13069393092227542028:True:=trivial
theorem tw3419001889969749887:True:=trivial
theorem tw4684226298888400098:True:=trivial
theorem tw2187251505897268136:True:=trivial
theorem tw2135409205425526673:True:=trivial
theorem tw2172276787581067923:True:=trivial
theorem tw17155049476370652306:True:=trivial
theorem tw12917704675397863716:True:=trivial
theorem tw6194202620331982285:True:=trivial
theorem tw2144661209622563809:True:=trivial
theorem tw628631919661052299:True:=trivial
theorem tw13142635158332540280:True:=trivial
theorem tw463774138113389760:True:=trivial
theorem tw1401067106901849026:True:=trivial
theorem tw13366278800048369731:True:=trivial
theorem tw17348111734160510231:True:=trivial
theorem tw15127105006835628225:True:=trivial
theorem tw5438652380644606353:True:=trivial
theorem tw14859695947638507448:True:=trivial
theorem tw14827714588952709054:True:=trivial
theorem tw3270257207059953099:True:=trivial
theorem tw6953138203311097117:True:=trivial
theorem tw14904681115217272601:True:=trivial
theorem tw7592715696027808041:True:=trivial
theorem tw3215387988796971590:True:=trivial
theorem tw14935467056822913822:True:=trivial
theorem tw16279288168775177219:True:=trivial
theorem tw9784134513789038367:True:=trivial
theorem tw6125853113672642322:True:=trivial
theorem tw12930229547647579594:True:=trivial
theorem tw15593559885672580101:True:=trivial
theorem tw9116068151291705539:True:=trivial
theorem tw9304451534382375720:True:=trivial
theorem tw17483705464198625004:True:=trivial
theorem tw10876078143196172821:True:=trivial
theorem tw18248855084332350957:True:=trivial
theorem tw14332157829676619468:True:=trivial
theorem tw1205604411410820431:True:=trivial
theorem tw3801850119919557013:True:=trivial
theorem tw4849480874435393781:True:=trivial
theorem tw15870398105094248349:True:=trivial
theorem tw8899516883271353254:True:=trivial
theorem tw5362036446546632119:True:=trivial
theorem tw4683681711962371626:True:=trivial
theorem tw2629151800749243262:True:=trivial
theorem tw14334995849660946996:True:=trivial
theorem tw8232614014015475128:True:=trivial
theorem tw8733291241859026926:True:=trivial
theorem tw4635989785427082552:True:=trivial
theorem tw14560624547652848805:True:=trivial
theorem tw16260866306193365299:True:=trivial
theorem tw5522115075389312692:True:=trivial
theorem tw87601786513091389:True:=trivial
theorem tw5537553045615171315:True:=trivial
theorem tw4313010194945074917:True:=trivial
theorem tw15402603294489630176:True:=trivial
theorem tw14398111036562950334:True:=trivial
theorem tw4026147355466621588:True:=trivial
theorem tw6128106870883400570:True:=trivial
theorem tw16822532161544500889:True:=trivial
theorem tw4341293187932698999:True:=trivial
theorem tw12549542988036985293:True:=trivial
theorem tw211337195705725219:True:=trivial
theorem tw13303234937177203706:True:=trivial
theorem tw2424988045566436242:True:=trivial
theorem tw3042748168174471775:True:=trivial
theorem tw6188973233030003785:True:=trivial
theorem tw17518593693041627797:True:=trivial
theorem tw15401437161963490237:True:=trivial
theorem tw3382625519597670723:True:=trivial
theorem tw9320515035125037321:True:=trivial
theorem tw17013487888433625170:True:=trivial
theorem tw16412085850373738351:True:=trivial
theorem tw740290905518256060:True:=trivial
theorem tw6060609690816243450:True:=trivial
theorem tw14958820412457663293:True:=trivial
theorem tw4077048163395320219:True:=trivial
theorem tw13996866031312336078:True:=trivial
theorem tw8060666987683057360:True:=trivial
theorem tw561727478393794602:True:=trivial
theorem tw10988764466652934233:True:=trivial
theorem tw11824586356888161845:True:=trivial
theorem tw11434409910335936926:True:=trivial
theorem tw13861969467909019144:True:=trivial
theorem tw8318101203651539667:True:=trivial
theorem tw14689541978594310382:True:=trivial
theorem tw16151628708876355199:True:=trivial
theorem tw17137270108147033825:True:=trivial
theorem tw17271881437230615512:True:=trivial
theorem tw2474200967059427378:True:=trivial
theorem tw11566098044289413073:True:=trivial
theorem tw2708214617527550399:True:=trivial
theorem tw15621415185263527259:True:=trivial
theorem tw7538781388859322016:True:=trivial
theorem tw13034982811429478159:True:=trivial
theorem tw13861322856664149509:True:=trivial
theorem tw7217548393331319763:True:=trivial
theorem tw16636501806038632012:True:=trivial
theorem tw12125097214300078407:True:=trivial
theorem tw8047209995159408440:True:=trivial
theorem tw15699961213505342161:True:=trivial
theorem tw13813618637161013713:True:=trivial
theorem tw13601115934706021691:True:=trivial
theorem tw2773992215795510196:True:=trivial
theorem tw1378205811072252300:True:=trivial
theorem tw16756451883985382160:True:=trivial
theorem tw16766484511958638138:True:=trivial
theorem tw18383651708701053236:True:=trivial
theorem tw4408816720484365081:True:=trivial
theorem tw2046362190076281809:True:=trivial
theorem tw18367749455379333440:True:=trivial
theorem tw1342123614928995077:True:=trivial
theorem tw16132249320637822498:True:=trivial
theorem tw4075453323654395381:True:=trivial
theorem tw14341141199694864594:True:=trivial
theorem tw506581581156960101:True:=trivial
theorem tw2295934692909999376:True:=trivial
theorem tw987426779421491659:True:=trivial
theorem tw11384182702204212275:True:=trivial
theorem tw8915285831880473931:True:=trivial
theorem tw7873748247521183178:True:=trivial
theorem tw16797375974695604193:True:=trivial
theorem tw12020253756985099128:True:=trivial
theorem tw7509565986652818475:True:=trivial
theorem tw5306753302271460952:True:=trivial
theorem tw8981176238543900561:True:=trivial
theorem tw11180800956215176064:True:=trivial
theorem tw17338325484393633139:True:=trivial
theorem tw4607425872040536859:True:=trivial
theorem tw651700358538967526:True:=trivial
theorem tw11907897558876765624:True:=trivial
theorem tw11402884983299125971:True:=trivial
theorem tw12250869413391326473:True:=trivial
theorem tw9433028549170029634:True:=trivial
theorem tw8171798328758944481:True:=trivial
theorem tw2107523057676978006:True:=trivial
theorem tw1835201335921387983:True:=trivial
theorem tw5483103596317574428:True:=trivial
theorem tw2741014181512449073:True:=trivial
theorem tw17877845533520812795:True:=trivial
theorem tw12138319994727072339:True:=trivial
theorem tw13073492499399858440:True:=trivial
theorem tw15504105790966721872:True:=trivial
theorem tw14170518179582410385:True:=trivial
theorem tw10016166984437732892:True:=trivial
theorem tw13394580363473044415:True:=trivial
theorem tw5221592684559293012:True:=trivial
theorem tw16955839230299176341:True:=trivial
theorem tw16005714805435085966:True:=trivial
theorem tw15702583709834301711:True:=trivial
theorem tw18105302477358141223:True:=trivial
theorem tw17187875760726034783:True:=trivial
theorem tw12297992134047619483:True:=trivial
theorem tw446995266069924076:True:=trivial
theorem tw18400553757987027518:True:=trivial
theorem tw13539809779269347639:True:=trivial
theorem tw10888863842102328177:True:=trivial
theorem tw14617222483516278133:True:=trivial
theorem tw12091130801917272685:True:=trivial
theorem tw14811890972901180937:True:=trivial
theorem tw6880980288501444468:True:=trivial
theorem tw1142673529048489019:True:=trivial
theorem tw12715800853834201459:True:=trivial
theorem tw11107512795663914464:True:=trivial
theorem tw7764699552788554220:True:=trivial
theorem tw1956260828630720203:True:=trivial
theorem tw17062427158221528723:True:=trivial
theorem tw13141587033338554882:True:=trivial
theorem tw4757880891971583632:True:=trivial
theorem tw7231845647793152400:True:=trivial
theorem tw9358312197846296583:True:=trivial
theorem tw1986786360949550309:True:=trivial
theorem tw16721508838639397229:True:=trivial
theorem tw13710940844802916613:True:=trivial
theorem tw9536688357841153863:True:=trivial
theorem tw17318462890700432884:True:=trivial
theorem tw14387916025512776202:True:=trivial
theorem tw15764947353670896545:True:=trivial
theorem tw8356303796347215682:True:=trivial
theorem tw258204147387103276:True:=trivial
theorem tw8122695690928665766:True:=trivial
theorem tw14226173905949225808:True:=trivial
theorem tw16753820520455620202:True:=trivial
theorem tw11525993766095887173:True:=trivial
theorem tw13622603851894308203:True:=trivial
theorem tw2213964242967304950:True:=trivial
theorem tw7181997581385953548:True:=trivial
theorem tw17590705303994421779:True:=trivial
theorem tw7873786274422454737:True:=trivial
theorem tw8157277791214410489:True:=trivial
theorem tw4480162626587320490:True:=trivial
theorem tw12670982853097334264:True:=trivial
theorem tw11066385474520676512:True:=trivial
theorem tw12132732476715806282:True:=trivial
theorem tw14196522196718054806:True:=trivial
theorem tw4046790133079468173:True:=trivial
theorem tw6105849179199505303:True:=trivial
theorem tw14664691819916384248:True:=trivial
theorem tw5263133172445716209:True:=trivial
theorem tw8080008513338510535:True:=trivial
theorem tw15925456577456769635:True:=trivial
theorem tw4548300405975405348:True:=trivial
theorem tw9317495090193701157:True:=trivial
theorem tw5086489192560080304:True:=trivial
theorem tw7485256538410118956:True:=trivial
theorem tw17862349074038704544:True:=trivial
theorem tw16654469307462801742:True:=trivial
theorem tw1956775160557780875:True:=trivial
theorem tw28018229315631829:True:=trivial
theorem tw9796564346219866840:True:=trivial
theorem tw10713865542653931438:True:=trivial
theorem tw14934011241717051027:True:=trivial
theorem tw15932183184989994656:True:=trivial
theorem tw10910644110388302437:True:=trivial
theorem tw2078950565319712143:True:=trivial
theorem tw6607644564249050058:True:=trivial
theorem tw10095894221667365369:True:=trivial
theorem tw10861573186032746274:True:=trivial
theorem tw5725222548895626118:True:=trivial
theorem tw8432719020341155521:True:=trivial
theorem tw2403389108928632939:True:=trivial
theorem tw8480184845173159842:True:=trivial
theorem tw12843764043397292189:True:=trivial
theorem tw15806707075529380192:True:=trivial
theorem tw9404705873571188630:True:=trivial
theorem tw3992765435912101610:True:=trivial
theorem tw8996207646774452837:True:=trivial
theorem tw6548459193220583526:True:=trivial
theorem tw577049184839899653:True:=trivial
theorem tw2228412568605170491:True:=trivial
theorem tw14294133066467233204:True:=trivial
theorem tw14782954611325821827:True:=trivial
theorem tw14260533273033392520:True:=trivial
theorem tw16682895059504647277:True:=trivial
theorem tw9806118890596472461:True:=trivial
theorem tw14061609134260724683:True:=trivial
theorem tw8865387616306378214:True:=trivial
theorem tw1495895850433845275:True:=trivial
theorem tw16859961878692490766:True:=trivial
theorem tw10310341975313369176:True:=trivial
theorem tw16035376269474964883:True:=trivial
theorem tw17963105932079019327:True:=trivial
theorem tw2353497105660221152:True:=trivial
theorem tw8185220541750880888:True:=trivial
theorem tw3110587219445414310:True:=trivial
theorem tw17658959251048325594:True:=trivial
theorem tw14329579894275425762:True:=trivial
theorem tw9530734954097333506:True:=trivial
theorem tw7091221385724896812:True:=trivial
theorem tw3997487885647526937:True:=trivial
theorem tw2646887283097553488:True:=trivial
theorem tw16248296213531012650:True:=trivial
theorem tw14172470266813156586:True:=trivial
theorem tw3335794202401238526:True:=trivial
theorem tw5992840812097835891:True:=trivial
theorem tw12382822922155266910:True:=trivial
theorem tw8166255043249204926:True:=trivial
theorem tw17339309145561079191:True:=trivial
theorem tw547895379624588593:True:=trivial
theorem tw17590876675597686902:True:=trivial
theorem tw9045458381397004210:True:=trivial
theorem tw6030501089693204938:True:=trivial
theorem tw14577027041581768965:True:=trivial
theorem tw4436474186459923750:True:=trivial
theorem tw16773468814595293053:True:=trivial
theorem tw3099597729799864441:True:=trivial
theorem tw7501186508268903616:True:=trivial
theorem tw9003107776662980439:True:=trivial
theorem tw5404398260228975080:True:=trivial
theorem tw8912161614967838395:True:=trivial
theorem tw3238445694619138142:True:=trivial
theorem tw7943549864190904611:True:=trivial
theorem tw7046044490832178742:True:=trivial
theorem tw6575520176995025181:True:=trivial
theorem tw10624116801336726872:True:=trivial
theorem tw4189273013823423559:True:=trivial
theorem tw13851971633180934007:True:=trivial
theorem tw9197174079833555027:True:=trivial
theorem tw11368310244458860372:True:=trivial
theorem tw8422229294311615681:True:=trivial
theorem tw9768418358887946270:True:=trivial
theorem tw5137589814051832496:True:=trivial
theorem tw6216382948874008006:True:=trivial
theorem tw14760874974797668852:True:=trivial
theorem tw6356304189028158447:True:=trivial
theorem tw16728255500844073214:True:=trivial
theorem tw4946147512530127568:True:=trivial
theorem tw6851275008772768644:True:=trivial
theorem tw514280064592716601:True:=trivial
theorem tw4309217394794523951:True:=trivial
theorem tw4039707410889071942:True:=trivial
theorem tw5449601097390414333:True:=trivial
theorem tw8431482922422412695:True:=trivial
theorem tw12147665669636231765:True:=trivial
theorem tw819570635367399668:True:=trivial
theorem tw14607143338591219252:True:=trivial
theorem tw14647417624928369756:True:=trivial
theorem tw10395332584310045583:True:=trivial
theorem tw1158361714356455011:True:=trivial
theorem tw15743010393045028110:True:=trivial
theorem tw11212356425047092601:True:=trivial
theorem tw14903569129155370506:True:=trivial
theorem tw11481637867367846703:True:=trivial
theorem tw18146532975450069615:True:=trivial
theorem tw16493865465440409018:True:=trivial
theorem tw8274446707539698164:True:=trivial
theorem tw17499849576073844966:True:=trivial
theorem tw7424060955962978353:True:=trivial
theorem tw15227483606004533461:True:=trivial
theorem tw12488014758255163090:True:=trivial
theorem tw209982475168477708:True:=trivial
theorem tw4938610541543285704:True:=trivial
theorem tw12269216009862288129:True:=trivial
theorem tw13674586047789940208:True:=trivial
theorem tw3681537716864247207:True:=trivial
theorem tw17334828202450815106:True:=trivial
theorem tw10911716485165742097:True:=trivial
theorem tw5274481202262711730:True:=trivial
theorem tw5920806927976990809:True:=trivial
theorem tw9860861378791804195:True:=trivial
theorem tw5667099127317398114:True:=trivial
theorem tw18124618509676941091:True:=trivial
theorem tw13032259773685033708:True:=trivial
theorem tw13348088958985639553:True:=trivial
theorem tw17678831435119133177:True:=trivial
theorem tw16226643914720891334:True:=trivial
end PySem.W.Fast
section
open PySem PySem.W PyProof.Rows
set_option maxRecDepth 100000 in
set_option maxHeartbeats 0 in
open_top hd for PySem.Challenge.rw_tenreckon_k29_scaled
end
namespace L2
open PySem PySem.Spec PyProof.Rows
noncomputable abbrev Key:=Sum Int Str
noncomputable def D8q:Key ->Value ->Bool
 | .inl k,v=>Value.isInt k v
 | .inr x,v=>Value.isStrOf x v
noncomputable def keyH (w:World):Key ->Int
 | .inl k=>hashInt k
 | .inr x=>hashStr w x
theorem Z3:∀{k:Key} {v:Value},D8q k v=true ->(∃i t,k=Sum.inl i/\v=Value.int i t)\/(∃x t,k=Sum.inr x/\v=Value.str x t)
 | .inl i,v,h=>by
   obtain⟨t,e⟩:=Value.isInt_shape (k:=i) (v:=v) h
   exact .inl ⟨i,t,rfl,e⟩
 | .inr x,v,h=>by
   obtain⟨t,e⟩:=Value.isStrOf_shape (x:=x) (v:=v) h
   exact .inr ⟨x,t,rfl,e⟩
theorem V3h(i:Int)(t:Tok):D8q (.inl i) (.int i t)=true:=by simp[D8q,Value.isInt]
theorem V3q(x:Str)(t:Tok):D8q (.inr x) (.str x t)=true:=by simp[D8q,Value.isStrOf]
theorem A0fy(a b:Int):decide ((Sum.inl a:Key)=Sum.inl b)=(a==b):=by
 by_cases e:a=b
 . subst e;simp
 have h:¬(Sum.inl a:Key)=Sum.inl b:=fun q=>e (Sum.inl.inj q)
 rw[decide_eq_false h]
 exact(beq_eq_false_iff_ne.mpr e).symm
theorem A0gv(a b:Str):decide ((Sum.inr a:Key)=Sum.inr b)=decide (a=b):=by
 by_cases e:a=b
 . subst e;simp
 have h:¬(Sum.inr a:Key)=Sum.inr b:=fun q=>e (Sum.inr.inj q)
 rw[decide_eq_false h,decide_eq_false e]
theorem A0eu(a:Int)(b:Str):decide ((Sum.inl a:Key)=Sum.inr b)=false:=decide_eq_false (fun q=>nomatch q)
theorem A0gd(a:Str)(b:Int):decide ((Sum.inr a:Key)=Sum.inl b)=false:=decide_eq_false (fun q=>nomatch q)
noncomputable def Z9 (prog:Program) (w:World):PySem.KeyKind prog w Key where
 is:=D8q
 hash:=keyH w
 inj :=fun v a b ha hb=>by
   rcases Z3 ha with⟨i,t,rfl,rfl⟩|⟨x,t,rfl,rfl⟩
   . rcases Z3 hb with⟨j,u,rfl,e⟩|⟨y,u,rfl,e⟩
     . injection e with e1 _;rw[e1]
     . exact nomatch e
   . rcases Z3 hb with⟨j,u,rfl,e⟩|⟨y,u,rfl,e⟩
     . exact nomatch e
     . injection e with e1 _;rw[e1]
 byValue:=fun k v h=>by
   rcases Z3 h with⟨i,t,rfl,rfl⟩|⟨x,t,rfl,rfl⟩<;>rfl
 pyHash:=fun hv h=>by
   rcases Z3 hv with⟨i,t,rfl,rfl⟩|⟨x,t,rfl,rfl⟩
   . exact wpAny_pyHash_int h
   . exact wpAny_pyHash_str h
 eqBool:=fun hu hv h=>by
   rcases Z3 hu with⟨i,t,rfl,rfl⟩|⟨x,t,rfl,rfl⟩
   . rcases Z3 hv with⟨j,u,rfl,rfl⟩|⟨y,u,rfl,rfl⟩
     . rw[A0fy] at h;exact wpAny_eqBool_int h
     . rw[A0eu] at h;exact SeqAt.EqAt.int_str i t y u _ _ _ _ h
   . rcases Z3 hv with⟨j,u,rfl,rfl⟩|⟨y,u,rfl,rfl⟩
     . rw[A0gd] at h;exact SeqAt.EqAt.str_int x t j u _ _ _ _ h
     . rw[A0gv] at h;exact wpAny_eqBool_str h
 «strs» := fun k x t v h => by
   rcases Z3 h with⟨i,u,rfl,e⟩|⟨y,u,rfl,e⟩
   . exact nomatch e
   . injection e with e1 _
     subst e1
     cases v<;>rfl
theorem J0r(prog:Program)(w:World)(i:Int)(t:Tok):(Z9 prog w).is (.inl i) (.int i t)=true:=V3h i t
theorem J0y(prog:Program)(w:World)(x:Str)(t:Tok):(Z9 prog w).is (.inr x) (.str x t)=true:=V3q x t
inductive V where
 |non|bl (b:Bool)|int (i:Int)|str (x:Str)|byt (b:Array UInt8)|flt (b:UInt64)|ref (a:Addr)|ty (n:String)
 deriving DecidableEq
noncomputable def V0:V ->Value ->Prop
 | .non,u=>u=Value.none
 | .bl b,u=>u=Value.bool b
 | .int i,u=>∃t,u=Value.int i t
 | .str x,u=>∃t,u=Value.str x t
 | .byt b,u=>∃t,u=Value.bytes b t
 | .flt b,u=>∃t,u=Value.float b t
 | .ref a,u=>u=Value.ref a
 | .ty n,u=>u=Value.type n
noncomputable abbrev U3:List V ->List Value ->Prop:=Paired V0
theorem U3.length{xs:List V}{us:List Value}(r:U3 xs us):xs.length=us.length:=Paired.length r
theorem U3.get:∀{xs:List V} {us:List Value} {i:Nat} {x:V},U3 xs us ->xs[i]?=some x ->∃u,us[i]?=some u/\V0 x u
 |_,_,_,_,.nil,e=>by simp at e
 |_,_,0,_,.cons r _,e=>by simp at e;subst e;exact⟨_,rfl,r⟩
 | _,_,i+1,x,.cons _ t,e=>by
   obtain⟨u,h1,h2⟩:=U3.get (i:=i) (x:=x) t (by simpa using e)
   exact⟨u,by simpa using h1,h2⟩
theorem U3.append:∀{xs ys:List V} {us ws:List Value},U3 xs us ->U3 ys ws ->U3 (xs++ys) (us++ws)
 |_,_,_,_,.nil,s=>s
 |_,_,_,_,.cons r t,s=> .cons r (U3.append t s)
noncomputable def A7f:Option V ->Option Value ->Prop
 |some v,some u=>V0 v u
 |none,none=>True
 |_,_=>False
noncomputable def KV {κ:Type}:List (κ×V) ->List (κ×Value) ->Prop:=Paired fun(p:κ×V) (q:κ×Value)=>p.1=q.1/\V0 p.2 q.2
noncomputable def kV:Key ->V
 | .inl i=> .int i
 | .inr x=> .str x
inductive HO where
 |lst (xs:List V)
 |tup (xs:List V)
 |dK (kvs:List (Key×V))|dT (kvs:List (List Key×V))
 |set (S:Int ->Bool) (n:Nat)
 |ins (C dx:Addr) (fs:List (Str×V))
 |own (x:Addr)
 |xd (fs:List (Str×V))
 |met (f x:Addr)
 |rng (lo hi:Int)
 |frz (o:Obj) (u:HO)
 |tbl (ps:Array Value)
 |ext (φ:Heap ->Prop)
noncomputable abbrev Hp:=Addr ->Option HO
noncomputable def upd (H:Hp) (a:Addr) (o:HO):Hp:=fun b=>if b=a then some o else H b
theorem A7{H:Hp}{a:Addr}{o:HO}:upd H a o a=some o:=by unfold upd;rw[if_pos rfl]
theorem C9{H:Hp}{a b:Addr}{o:HO}(h:b≠a):upd H a o b=H b:=by unfold upd;rw[if_neg h]
theorem V0f{H:Hp}{a:Addr}{o u:HO}:upd (upd H a o) a u=upd H a u:=by
 funext b;unfold upd;split<;>rfl
theorem G9{H:Hp}{a b:Addr}{o u:HO}(h:H a=some o)(h':H b=some u)(d:o≠u):a≠b:=by
 intro e;subst e;rw[h] at h';exact d (Option.some.inj h')
theorem D8{H:Hp}{a b:Addr}{o:HO}(h:H a=some o)(h':H b=none):a≠b:=by
 intro e;subst e;rw[h] at h';cases h'
section
variable(P:Program)(w:World)
noncomputable def Y9 (H:Hp) (h:Heap) (a:Addr):HO ->Prop
 | .lst xs=>xs.length<=sizeLine/\∃(its:List Value) (n:Nat),U3 xs its/\h.get? a=some {cls:= .type "list",data:= .seq its.toArray n}
 | .tup xs=>xs.length<=sizeLine/\∃its:List Value,U3 xs its/\IsTup h a its.toArray
 | .dK kvs=>kvs.length<=sizeLine/\(a==sysModules)=false/\∃vs,KV kvs vs/\h.DictOf (Z9 P w) a vs
 | .dT kvs=>kvs.length<=sizeLine/\(a==sysModules)=false/\∃xs:List (List Key×Addr×Value),
     Paired (fun(p:List Key×V) (q:List Key×Addr×Value)=>p.1=q.1/\H q.2.1=some (.tup (p.1.map kV))/\V0 p.2 q.2.2) kvs xs/\
     ∃o es ep,h.get? a=some o/\o.ExactDict/\o.data= .dict es ep/\es.toList=xs.map (entryOfKey (tupleKind (Z9 P w)))/\(xs.map (·.1)).Nodup
 | .set S n=>h.SetOf (intKind P w) a S n
 | .ins C dx fs=>H dx=some (.own a)/\fs.length<=1000/\dx≠a/\h.get? a=some (PySem.W.instObj C dx)/\
     ∃mA,h.Ns1 dx mA/\(∀f,A7f (fs.lookup f) (mA f))/\PySem.Within mA (fs.map (·.1))
 | .own _=>∃o,h.get? a=some o
 | .xd fs=>∃mA,h.Ns1 a mA/\∀f,A7f (fs.lookup f) (mA f)
 | .rng lo hi=>∃t u v,h.get? a=some {cls:= .type "range",data:= .fields #[.int lo t,.int hi u,.int 1 v]}
 | .frz o u=>h.get? a=some o/\Y9 H h a u
 | .tbl ps=>h.get? a=some {cls:= .none,data:= .fields ps}
 | .met f x=>h.get? a=some (PySem.W.methodObj (.ref f) (.ref x))
 | .ext φ=>φ h/\(∃o,h.get? a=some o)/\∀h1 h2:Heap,φ h1 ->(∀o,h1.get? a=some o ->h2.get? a=some o) ->φ h2
noncomputable def HOk (H:Hp) (h:Heap):Prop:=∀a o,H a=some o ->Y9 P w H h a o
end
section
variable{P:Program}{w:World}{H H':Hp}{h h':Heap}{a:Addr}{o:HO}
theorem Y9.lt(x:Y9 P w H h a o):a<h.objs.size:=by
 cases o with
 |lst xs=>obtain⟨_,_,_,_,e⟩:=x;exact Heap.lt_size e
 |tup xs=>obtain⟨_,_,_,p⟩:=x;exact p.lt
 |dK kvs=>obtain⟨_,_,_,_,o,_,_,e,_⟩:=x;exact Heap.lt_size e
 |dT kvs=>obtain⟨_,_,_,_,o,_,_,e,_⟩:=x;exact Heap.lt_size e
 |set S n=>obtain⟨o,_,_,_,e,_⟩:=x;exact Heap.lt_size e
 |ins C dx fs=>obtain⟨_,_,_,e,_⟩:=x;exact Heap.lt_size e
 |own y=>obtain⟨_,e⟩:=x;exact Heap.lt_size e
 |xd fs=>obtain⟨_,⟨_,_,_,e,_⟩,_⟩:=x;exact Heap.lt_size e
 |rng lo hi=>obtain⟨_,_,_,e⟩:=x;exact Heap.lt_size e
 |frz ob u=>obtain⟨e,_⟩:=x;exact Heap.lt_size e
 |tbl ps=>exact Heap.lt_size (show h.get? a=some _ from x)
 |met f y=>exact Heap.lt_size (show h.get? a=some _ from x)
 |ext φ=>obtain⟨_,⟨_,e⟩,_⟩:=x;exact Heap.lt_size e
theorem Paired.mapP{α β:Type}{F G:α ->β ->Prop}:∀{l₁:List α} {l₂:List β},Paired F l₁ l₂ ->(∀a b,F a b ->G a b) ->Paired G l₁ l₂
 |_,_,.nil,_=> .nil
 |_,_,.cons r t,f=> .cons (f _ _ r) (Paired.mapP t f)
theorem Y9.stay(x:Y9 P w H h a o)(k:∀b u,(b=a\/H b=some (.own a)) ->h.get? b=some u ->h'.get? b=some u)
   (ho:∀b,H b=some (.own a) ->H' b=some (.own a)) (ht:∀b xs,H b=some (.tup xs) ->H' b=some (.tup xs)):Y9 P w H' h' a o:=by
 induction o with
 |lst xs=>obtain⟨z,its,n,r,e⟩:=x;exact⟨z,its,n,r,k _ _ (.inl rfl) e⟩
 |tup xs=>obtain⟨z,its,r,ob,e,c⟩:=x;exact⟨z,its,r,ob,k _ _ (.inl rfl) e,c⟩
 |dK kvs=>obtain⟨z,y,vs,r,ob,es,ep,e,c⟩:=x;exact⟨z,y,vs,r,ob,es,ep,k _ _ (.inl rfl) e,c⟩
 | dT kvs=>
   obtain⟨z,y,xs,r,ob,es,ep,e,c⟩:=x
   exact⟨z,y,xs,Paired.mapP r fun p q z=>⟨z.1,ht _ _ z.2.1,z.2.2⟩,ob,es,ep,k _ _ (.inl rfl) e,c⟩
 |set S n=>obtain⟨ob,es,ep,t,e,c⟩:=x;exact⟨ob,es,ep,t,k _ _ (.inl rfl) e,c⟩
 | ins C dx fs=>
   obtain⟨d,z,ne,e,mA,⟨od,es,ep,e2,c⟩,r⟩:=x
   exact⟨ho _ d,z,ne,k _ _ (.inl rfl) e,mA,⟨od,es,ep,k _ _ (.inr d) e2,c⟩,r⟩
 |own y=>obtain⟨ob,e⟩:=x;exact⟨ob,k _ _ (.inl rfl) e⟩
 |xd fs=>obtain⟨mA,⟨od,es,ep,e,c⟩,r⟩:=x;exact⟨mA,⟨od,es,ep,k _ _ (.inl rfl) e,c⟩,r⟩
 |rng lo hi=>obtain⟨t,u,v,e⟩:=x;exact⟨t,u,v,k _ _ (.inl rfl) e⟩
 |frz ob u ih=>obtain⟨e,q⟩:=x;exact⟨k _ _ (.inl rfl) e,ih q⟩
 | tbl ps=>
   have e:h.get? a=some {cls:= .none,data:= .fields ps}:=x
   show h'.get? a=some {cls:= .none,data:= .fields ps}
   exact k a _ (.inl rfl) e
 | met f y=>
   have e:h.get? a=some (PySem.W.methodObj (.ref f) (.ref y)):=x
   show h'.get? a=some (PySem.W.methodObj (.ref f) (.ref y))
   exact k a _ (.inl rfl) e
 |ext φ=>obtain⟨p,⟨o,e⟩,st⟩:=x;exact⟨st _ _ p fun o q=>k _ _ (.inl rfl) q,⟨o,k _ _ (.inl rfl) e⟩,st⟩
theorem HOk.lt(x:HOk P w H h)(e:H a=some o):a<h.objs.size:=(x a o e).lt
theorem HOk.fresh(x:HOk P w H h)(e:h.objs.size<=a):H a=none:=by
 cases q:H a with
 |none=>rfl
 |some u=>exact absurd (Nat.lt_of_lt_of_le (x.lt q) e) (Nat.lt_irrefl _)
theorem HOk.kept(x:HOk P w H h)(k:∀b u,h.get? b=some u ->h'.get? b=some u):HOk P w H h':=fun a o e=>
 (x a o e).stay (fun b u _ q=>k b u q) (fun _ q=>q) fun _ _ q=>q
theorem HOk.laid(x:HOk P w H h)(k:∀b u,h.get? b=some u ->h'.get? b=some u)(hp:h.objs.size<=a)(new:Y9 P w (upd H a o) h' a o):HOk P w (upd H a o) h':=fun b u e=>by
 have hn:=x.fresh hp
 by_cases hb:b=a
 . subst hb;rw[A7] at e;cases e;exact new
 . rw[C9 hb] at e
   exact(x b u e).stay (fun c v _ q=>k c v q) (fun c q=>by rw[C9 (D8 q hn)];exact q) fun c xs q=>by rw[C9 (D8 q hn)];exact q
end
noncomputable def Rd (H:Hp) (a:Addr) (u:HO):Prop:=H a=some u\/∃o,H a=some (.frz o u)
theorem Rd.ok{P:Program}{w:World}{H:Hp}{h:Heap}{a:Addr}{u:HO}(r:Rd H a u)(x:HOk P w H h):Y9 P w H h a u:=by
 rcases r with r|⟨o,r⟩
 . exact x a u r
 obtain⟨_,q⟩:=x a _ r
 exact q
noncomputable def Mut:Option HO ->Prop
 |some (.lst _)=>True
 |some (.dK _)=>True
 |some (.dT _)=>True
 |some (.set _ _)=>True
 |some (.ins _ _ _)=>True
 |some (.ext _)=>True
 |_=>False
section
variable{P:Program}{w:World}{H:Hp}{h h':Heap}{x e:Addr}{o':HO}
theorem HOk.write(ok:HOk P w H h)(mu:Mut (H x))(he:e=x\/H e=some (.own x))(k:∀b u,b≠e ->h.get? b=some u ->h'.get? b=some u)(heo:∃u,h'.get? e=some u)
   (new:Y9 P w (upd H x o') h' x o'):HOk P w (upd H x o') h':=fun b u q=>by
 have nown:∀c y,H c=some (.own y) ->c≠x:=fun c y r z=>by subst z;rw[r] at mu;exact mu
 have ntup:∀c xs,H c=some (.tup xs) ->c≠x:=fun c xs r z=>by subst z;rw[r] at mu;exact mu
 by_cases hb:b=x
 . subst hb;rw[A7] at q;cases q;exact new
 . rw[C9 hb] at q
   by_cases hbe:b=e
   . have q':H b=some (.own x):=by
       rcases he with z|z
       . exact absurd (hbe.trans z) hb
       . rw[hbe];exact z
     rw[q] at q';cases q'
     obtain⟨v,hv⟩:=heo
     exact⟨v,by rw[hbe];exact hv⟩
   . refine(ok b u q).stay (fun c v hc r=>k c v ?_ r) (fun c r=>by rw[C9 (nown c b r)];exact r) fun c xs r=>by rw[C9 (ntup c xs r)];exact r
     rcases hc with rfl|hc
     . exact hbe
     . rintro rfl
       rcases he with z|z
       . exact nown c b hc z
       . rw[hc] at z;cases z;exact hb rfl
end
structure Un(fs ex:List Addr)(H H':Hp)(h h':Heap):Prop where
 keep:∀b o,h.get? b=some o ->H b=none ->b ∉ fs ->b ∉ ex ->h'.get? b=some o
 slot:∀b o,h.get? b=some o ->H b=none ->b∈fs ->b ∉ ex ->∃sl,h'.get? b=some {o with slots:=sl}
 free:∀b o,h.get? b=some o ->H b=none ->b ∉ ex ->H' b=none
 there:∀b o,h.get? b=some o ->b ∉ ex ->∃o',h'.get? b=some o'
 tups:∀b xs,H b=some (.tup xs) ->H' b=some (.tup xs)
 frzs:∀b o u,H b=some (.frz o u) ->H' b=some (.frz o u)
 tbls:∀b ps,H b=some (.tbl ps) ->∃more,H' b=some (.tbl (ps++more))
section
variable{fs fs' ex ex':List Addr}{H H1 H2:Hp}{h h1 h2 h':Heap}{a x e:Addr}{o:HO}
theorem Un.any(u:Un fs ex H H1 h h1){b:Addr}{ob:Obj}(q:h.get? b=some ob)(n:H b=none)(hx:b ∉ ex):∃sl,h1.get? b=some {ob with slots:=sl}:=by
 by_cases hb:b∈fs
 . exact u.slot b ob q n hb hx
 exact⟨ob.slots,u.keep b ob q n hb hx⟩
theorem Un.kept(k:∀b u,h.get? b=some u ->h'.get? b=some u):Un fs ex H H h h':=
 ⟨fun b ob q _ _ _=>k b ob q,fun b ob q _ _ _=>⟨ob.slots,k b ob q⟩,fun _ _ _ n _=>n,fun b ob q _=>⟨ob,k b ob q⟩,fun _ _ q=>q,fun _ _ _ q=>q,fun _ ps q=>⟨#[],by rw[q];simp⟩⟩
theorem Un.refl:Un fs ex H H h h:=Un.kept fun _ _ q=>q
theorem Un.laid(k:∀b u,h.get? b=some u ->h'.get? b=some u)(hp:h.objs.size<=a)(hn:H a=none):Un fs ex H (upd H a o) h h' where
 keep:=fun b u q _ _ _=>k b u q
 slot:=fun b u q _ _ _=>⟨u.slots,k b u q⟩
 free:=fun b u q n _=>by rw[C9 (Nat.ne_of_lt (Nat.lt_of_lt_of_le (Heap.lt_size q) hp))];exact n
 there:=fun b u q _=>⟨u,k b u q⟩
 tups:=fun b xs q=>by rw[C9 (D8 q hn)];exact q
 frzs:=fun b u xs q=>by rw[C9 (D8 q hn)];exact q
 tbls:=fun b ps q=>⟨#[],by rw[C9 (D8 q hn),q];simp⟩
theorem Un.write(mu:Mut (H x))(he:e=x\/H e=some (.own x))(k:∀b u,b≠e ->h.get? b=some u ->h'.get? b=some u)(heo:∃u,h'.get? e=some u):Un fs ex H (upd H x o) h h':=by
 have hx:∀b,H b=none ->b≠x:=fun b n z=>by subst z;rw[n] at mu;exact mu
 have hb:∀b,H b=none ->b≠e:=fun b n z=>by
   subst z
   rcases he with r|r
   . exact hx b n r
   . rw[n] at r;cases r
 have hm:∀b u,H b=some u ->¬Mut (some u) ->b≠x:=fun b u q nm z=>by subst z;rw[q] at mu;exact nm mu
 refine⟨fun b u q n _ _=>k b u (hb b n) q,fun b u q n _ _=>⟨u.slots,k b u (hb b n) q⟩,fun b u q n _=>by rw[C9 (hx b n)];exact n,fun b u q _=>?_,
   fun b xs q=>by rw[C9 (hm b _ q fun z=>z)];exact q,fun b u xs q=>by rw[C9 (hm b _ q fun z=>z)];exact q,fun b ps q=>⟨#[],by rw[C9 (hm b _ q fun z=>z),q];simp⟩⟩
 by_cases hbe:b=e
 . subst hbe;exact heo
 exact⟨u,k b u hbe q⟩
end
noncomputable def trk (h:Heap) (H:Hp):List Addr:=(List.range h.objs.size).filter fun a=>(H a).isSome
noncomputable def D3g (h:Heap) (H:Hp):Heap:=PySem.W.hideAll h (trk h H)
theorem V2g(h:Heap)(H:Hp):(D3g h H).objs.size=h.objs.size:=PySem.W.hideAll_size _ _
theorem Y2r{h:Heap}{H:Hp}{b:Addr}{o:Obj}(e:h.get? b=some o)(n:H b=none):(D3g h H).get? b=some o:=
 PySem.W.hideAll_get _ e fun hm=>by
   have q:(H b).isSome=true:=(List.mem_filter.mp hm).2
   rw[n] at q;simp at q
theorem Z7u{h:Heap}{H:Hp}{b:Addr}{o:Obj}(e:(D3g h H).get? b=some o):h.get? b=some o/\H b=none:=by
 have e':h.get? b=some o:=PySem.W.of_hideAll (trk h H) e
 refine⟨e',?_⟩
 cases q:H b with
 |none=>rfl
 | some x=>
   have hm:b∈trk h H:=List.mem_filter.mpr ⟨List.mem_range.mpr (Heap.lt_size e'),by simp[q]⟩
   have z:(D3g h H).get? b=none:=PySem.W.hideAll_none (trk h H) hm
   rw[z] at e;cases e
structure Mod(K:PySem.W.Frag)(mg:Str ->Option Value)(base:Heap):Prop where
 kin:K.In base
 glob:base.Ns mainGlobals mg
 blt:∃mb,base.Ns builtinsNs mb/\∀x:Str,x≠"__name__" ->mb x=bootBuiltins x
 nolimit:base.NoLimit
structure Cx where
 prog:Program
 w:World
 K:PySem.W.Frag
 mg:Str ->Option Value
 base:Heap
 A:Around
 N:List Str
 s₀:Shared
 H₀:Hp
 env:Env
 outer:List Env
 stack:List Env
 ex:List Addr
 fn:Str ->Bool
 calm:Bool
 pn:List (Addr×Obj)
 xe:Value ->Shared ->Prop
noncomputable def frs (l:List Env):List Addr:=l.filterMap (·.frame)
noncomputable abbrev Cx.fs (X:Cx):List Addr:=frs X.outer
noncomputable def Vis (sc:Scope) (x:Str):Prop:=sc.names.lookup x=some .local\/sc.names.lookup x=some .cell\/sc.names.lookup x=some .free
noncomputable def Loc (sc:Scope) (x:Str):Prop:=sc.names.lookup x=some .local\/sc.names.lookup x=some .cell
noncomputable def Look (env:Env) (h:Heap) (m:Str ->Option Value) (x:Str) (u:Value):Prop:=
 (env.kindOf x=some .local/\m x=some u)\/((env.kindOf x=some .cell\/env.kindOf x=some .free)/\∃c,env.cells.lookup x=some c/\h.IsCell c (some u))
structure Cx.Ok(X:Cx):Prop where
 mod:Mod X.K X.mg X.base
 kind:X.env.scope.kind= .function
 glob:X.env.globals=mainGlobals
 blt:X.env.builtins=builtinsNs
 above:X.s₀.heap.objs.size<=X.env.locals
 inj:∀x y c,X.env.cells.lookup x=some c ->X.env.cells.lookup y=some c ->x=y
 has:∀x,(X.env.kindOf x=some .cell\/X.env.kindOf x=some .free) ->∃c,X.env.cells.lookup x=some c
 cab:∀x c,X.fn x=true ->X.env.cells.lookup x=some c ->X.s₀.heap.objs.size<=c
 hd:X.calm=true ->X.A.handled=none
 frames:X.A.frames=some X.stack
 stk:X.stack=X.outer\/(X.stack=X.env::X.outer/\X.env.frame=some X.env.locals)
 exf:∀b∈X.ex,b≠X.env.locals/\∀x c,X.env.cells.lookup x=some c ->c≠b
 bs:∀b o,X.base.get? b=some o ->X.s₀.heap.get? b=some o/\X.H₀ b=none
 bsz:X.base.objs.size<=X.s₀.heap.objs.size
 noex:∀b o,X.base.get? b=some o ->b ∉ X.ex
 exfs:∀b∈X.ex,b ∉ X.fs
 funs:X.s₀.heap.FunFrames X.base X.outer
 frf:∀b∈X.fs,X.H₀ b=none
structure Inv(X:Cx)(pins:List (Addr×Obj))(σ:List (Option V))(H:Hp)(s:Shared):Prop where
 ok:X.Ok
 os:s.os=X.s₀.os
 bare:AllBare s.gens
 base:Un X.fs X.ex X.H₀ H X.s₀.heap s.heap
 loc:∃m,s.heap.Ns X.env.locals m/\∀(i:Nat) (x:Str) (v:V),X.N[i]?=some x ->σ[i]?=some (some v) ->Vis X.env.scope x ->∃u,V0 v u/\Look X.env s.heap m x u
 cell:∀x c,X.env.cells.lookup x=some c ->∃v,s.heap.IsCell c v
 free:H X.env.locals=none
 freeC:∀x c,X.env.cells.lookup x=some c ->H c=none
 pin:∀p∈X.pn++pins,s.heap.get? p.1=some p.2/\H p.1=none/\p.1≠X.env.locals/\p.1 ∉ X.fs/\∀v,p.2.data≠ .cell v
 hok:HOk X.prog X.w H s.heap
 len:σ.length=X.N.length
section
variable{X:Cx}{pins:List (Addr×Obj)}{σ:List (Option V)}{H H':Hp}{s:Shared}{h':Heap}
theorem Cx.Ok.nofr(ok:X.Ok){b:Addr}{o:Obj}(e:X.base.get? b=some o):b ∉ X.fs:=fun hb=>by
 have:=(ok.funs.mem hb).1
 rw[e] at this;cases this
theorem Inv.bs(I:Inv X pins σ H s):∀b o,X.base.get? b=some o ->s.heap.get? b=some o/\H b=none:=fun b o e=>
 ⟨I.base.keep b o (I.ok.bs b o e).1 (I.ok.bs b o e).2 (I.ok.nofr e) (I.ok.noex b o e),I.base.free b o (I.ok.bs b o e).1 (I.ok.bs b o e).2 (I.ok.noex b o e)⟩
theorem Inv.bk(I:Inv X pins σ H s):∀b o,X.base.get? b=some o ->s.heap.get? b=some o:=fun b o e=>(I.bs b o e).1
theorem Inv.mod(I:Inv X pins σ H s):Mod X.K X.mg X.base:=I.ok.mod
theorem Inv.kIn(I:Inv X pins σ H s):X.K.In s.heap:=I.ok.mod.kin.keeps I.bk
theorem Inv.lt(I:Inv X pins σ H s):X.env.locals<s.heap.objs.size:=let⟨_,hn,_⟩:=I.loc;hn.lt
theorem Inv.sz(I:Inv X pins σ H s):X.s₀.heap.objs.size<=s.heap.objs.size:=Nat.le_trans I.ok.above (Nat.le_of_lt I.lt)
theorem Inv.nofs(I:Inv X pins σ H s){a:Addr}(h:s.heap.objs.size<=a):a ∉ X.fs:=fun hb=>by
 obtain⟨_,o,ho,_⟩:=I.ok.funs.mem hb
 exact absurd (Nat.lt_of_lt_of_le (Heap.lt_size ho) (Nat.le_trans I.sz h)) (Nat.lt_irrefl _)
theorem Inv.cne(I:Inv X pins σ H s):∀x c,X.env.cells.lookup x=some c ->c≠X.env.locals:=fun x c e z=>by
 obtain⟨v,o,ho,hd⟩:=I.cell x c e
 obtain⟨m,⟨o',es,ep,ho',hd',_⟩,_⟩:=I.loc
 rw[z,ho'] at ho;cases ho;rw[hd'] at hd;cases hd
theorem Inv.funs(I:Inv X pins σ H s):s.heap.FunFrames X.base X.outer:=by
 have all:∀(l:List Env),(∀b∈frs l,b∈X.fs) ->X.s₀.heap.FunFrames X.base l ->s.heap.FunFrames X.base l:=by
   intro l
   induction l with
   |nil=>intro _ _;trivial
   | cons env r ih=>
     intro hs hl
     obtain⟨hk,⟨L,o,hf,hn,ho,hd⟩,hr⟩:=hl
     have hL:L∈X.fs:=hs L (by unfold frs;rw[List.filterMap_cons,hf];exact List.mem_cons_self)
     obtain⟨sl,e⟩:=I.base.slot L o ho (I.ok.frf L hL) hL fun z=>I.ok.exfs L z hL
     exact⟨hk,⟨L,_,hf,hn,e,hd⟩,ih (fun b hb=>hs b (by unfold frs;rw[List.filterMap_cons,hf];exact List.mem_cons_of_mem _ hb)) hr⟩
 exact all X.outer (fun _ hb=>hb) I.ok.funs
theorem Inv.stack(I:Inv X pins σ H s):s.heap.FunFrames X.base X.stack:=by
 rcases I.ok.stk with e|⟨e,hf⟩
 . rw[e];exact I.funs
 rw[e]
 obtain⟨m,hn,_⟩:=I.loc
 refine .cons (by rw[I.ok.kind];decide) hf hn ?_ I.funs
 exact Heap.get?_none_of_le (Nat.le_trans I.ok.bsz I.ok.above)
theorem Inv.stkSub(I:Inv X pins σ H s):∀b∈frs X.stack,b∈X.env.locals::X.fs:=fun b hb=>by
 rcases I.ok.stk with e|⟨e,hf⟩
 . rw[e] at hb;exact List.mem_cons_of_mem _ hb
 . rw[e] at hb
   unfold frs at hb
   rw[List.filterMap_cons,hf] at hb
   exact hb
theorem Inv.stkFree(I:Inv X pins σ H s):∀b∈frs X.stack,H b=none:=fun b hb=>by
 rcases List.mem_cons.mp (I.stkSub b hb) with e|hb
 . rw[e];exact I.free
 . obtain⟨_,o,ho,_⟩:=I.ok.funs.mem hb
   exact I.base.free b o ho (I.ok.frf b hb) fun z=>I.ok.exfs b z hb
theorem Inv.step{g':Array GenState}{t':Nat}{d':Drawn}{ch:List Addr}(I:Inv X pins σ H s)
   (hch:∀b∈ch,(b∈X.ex\/X.s₀.heap.objs.size<=b)/\b≠X.env.locals/\(∀x c,X.env.cells.lookup x=some c ->c≠b)/\∀p∈X.pn++pins,p.1≠b)
   (keep:∀b o,b≠X.env.locals ->b ∉ X.fs ->b ∉ ch ->s.heap.get? b=some o ->H b=none ->h'.get? b=some o)
   (slot:∀b o,b≠X.env.locals ->b∈X.fs ->b ∉ ch ->s.heap.get? b=some o ->H b=none ->∃sl,h'.get? b=some {o with slots:=sl}) (free:∀b o,b ∉ ch ->s.heap.get? b=some o ->H b=none ->H' b=none)
   (there:∀b o,b ∉ ch ->s.heap.get? b=some o ->∃o',h'.get? b=some o')
   (tups:∀b xs,H b=some (.tup xs) ->H' b=some (.tup xs)) (frzs:∀b o u,H b=some (.frz o u) ->H' b=some (.frz o u)) (tbls:∀b ps,H b=some (.tbl ps) ->∃more,H' b=some (.tbl (ps++more)))
   (ns:∀m,s.heap.Ns X.env.locals m ->h'.Ns X.env.locals m) (hok:HOk X.prog X.w H' h') (hg:AllBare g'):
   Inv X pins σ H' {s with heap:=h',gens:=g',drawn:=d',toks:=t'}:=by
 have neL:∀b o,X.s₀.heap.get? b=some o ->b≠X.env.locals:=fun b o e=>Nat.ne_of_lt (Nat.lt_of_lt_of_le (Heap.lt_size e) I.ok.above)
 have neC:∀b o,X.s₀.heap.get? b=some o ->b ∉ X.ex ->b ∉ ch:=fun b o e hx hb=>by
   rcases(hch b hb).1 with z|z
   . exact hx z
   . exact absurd (Nat.lt_of_lt_of_le (Heap.lt_size e) z) (Nat.lt_irrefl _)
 have cellK:∀x c,X.env.cells.lookup x=some c ->∀v,s.heap.IsCell c v ->h'.IsCell c v:=fun x c e v ⟨o,ho,hd⟩=>by
   have nch:c ∉ ch:=fun z=>(hch c z).2.2.1 x c e rfl
   by_cases hc:c∈X.fs
   . obtain⟨sl,q⟩:=slot c o (I.cne x c e) hc nch ho (I.freeC x c e)
     exact⟨_,q,hd⟩
   . exact⟨o,keep c o (I.cne x c e) hc nch ho (I.freeC x c e),hd⟩
 refine⟨I.ok,I.os,hg,⟨fun b o e n hb hx=>?_,fun b o e n hb hx=>?_,fun b o e n hx=>?_,fun b o e hx=>?_,fun b xs e=>tups b xs (I.base.tups b xs e),fun b o xs e=>frzs b o xs (I.base.frzs b o xs e),fun b ps e=>?_⟩,?_,fun x c e=>?_,?_,fun x c e=>?_,fun p hp=>?_,hok,I.len⟩
 . exact keep b o (neL b o e) hb (neC b o e hx) (I.base.keep b o e n hb hx) (I.base.free b o e n hx)
 . obtain⟨sl,e1⟩:=I.base.slot b o e n hb hx
   obtain⟨sl',e2⟩:=slot b _ (neL b o e) hb (neC b o e hx) e1 (I.base.free b o e n hx)
   exact⟨sl',e2⟩
 . obtain⟨o',e1⟩:=I.base.there b o e hx
   exact free b o' (neC b o e hx) e1 (I.base.free b o e n hx)
 . obtain⟨o',e1⟩:=I.base.there b o e hx
   exact there b o' (neC b o e hx) e1
 . obtain⟨m1,e1⟩:=I.base.tbls b ps e
   obtain⟨m2,e2⟩:=tbls b _ e1
   exact⟨m1++m2,by rw[e2,Array.append_assoc]⟩
 . obtain⟨m,hn,hl⟩:=I.loc
   refine⟨m,ns m hn,fun i x v e1 e2 e3=>?_⟩
   obtain⟨u,r,l⟩:=hl i x v e1 e2 e3
   refine⟨u,r,?_⟩
   rcases l with l|⟨k,c,e,z⟩
   . exact .inl l
   . exact .inr ⟨k,c,e,cellK x c e _ z⟩
 . obtain⟨v,z⟩:=I.cell x c e
   exact⟨v,cellK x c e v z⟩
 . obtain⟨m,⟨o,_,_,ho,_⟩,_⟩:=I.loc
   exact free _ o (fun z=>(hch _ z).2.1 rfl) ho I.free
 . obtain⟨v,o,ho,hd⟩:=I.cell x c e
   exact free c o (fun z=>(hch c z).2.2.1 x c e rfl) ho (I.freeC x c e)
 obtain⟨e,n,ne,nf,d⟩:=I.pin p hp
 have nch:p.1 ∉ ch:=fun z=>(hch p.1 z).2.2.2 p hp rfl
 exact⟨keep p.1 p.2 ne nf nch e n,free p.1 p.2 nch e n,ne,nf,d⟩
theorem Inv.un{t':Nat}(I:Inv X pins σ H s)(u:Un X.fs [] H H' s.heap h')(hok:HOk X.prog X.w H' h'):Inv X pins σ H' {s with heap:=h',toks:=t'}:=by
 obtain⟨m,⟨o,es,ep,ho,r⟩,_⟩:=id I.loc
 obtain⟨sl,hL⟩:=u.any ho I.free (by simp)
 exact I.step (g':=s.gens) (d':=s.drawn) (ch:=[]) (fun _ z=>nomatch z) (fun b o _ hb _ e n=>u.keep b o e n hb (by simp)) (fun b o _ hb _ e n=>u.slot b o e n hb (by simp)) (fun b o _ e n=>u.free b o e n (by simp)) (fun b o _ e=>u.there b o e (by simp)) u.tups u.frzs u.tbls (fun m' hm=>by
   obtain⟨o',es',ep',ho',r'⟩:=hm
   rw[ho] at ho';cases ho'
   exact⟨_,es',ep',hL,r'⟩) hok I.bare
theorem Inv.call{g':Array GenState}{t':Nat}{d':Drawn}{ch:List Addr}(I:Inv X pins σ H s)(u:Un (frs X.stack) ch H H' s.heap h')(hok:HOk X.prog X.w H' h')(hg:AllBare g')
   (hch:∀b∈ch,(b∈X.ex\/X.s₀.heap.objs.size<=b)/\b≠X.env.locals/\(∀x c,X.env.cells.lookup x=some c ->c≠b)/\∀p∈X.pn++pins,p.1≠b):
   Inv X pins σ H' {s with heap:=h',gens:=g',drawn:=d',toks:=t'}:=by
 obtain⟨m,⟨o,es,ep,ho,r⟩,_⟩:=id I.loc
 obtain⟨sl,hL⟩:=u.any ho I.free fun z=>(hch _ z).2.1 rfl
 exact I.step (ch:=ch) hch (fun b o hL hb hc e n=>u.keep b o e n (fun z=>(List.mem_cons.mp (I.stkSub b z)).elim hL hb) hc) (fun b o _ _ hc e n=>u.any e n hc) (fun b o hc e n=>u.free b o e n hc) (fun b o hc e=>u.there b o e hc) u.tups u.frzs u.tbls (fun m' hm=>by
   obtain⟨o',es',ep',ho',r'⟩:=hm
   rw[ho] at ho';cases ho'
   exact⟨_,es',ep',hL,r'⟩) hok hg
theorem Inv.turned{t':Nat}{it:Addr}(I:Inv X pins σ H s)(k:∀b o,b≠it ->s.heap.get? b=some o ->h'.get? b=some o)(hn:H it=none)(hL:it≠X.env.locals)
   (h1:it∈X.ex\/X.s₀.heap.objs.size<=it) (h2:∀x c,X.env.cells.lookup x=some c ->c≠it) (h3:∀p∈X.pn++pins,p.1≠it):Inv X pins σ H {s with heap:=h',toks:=t'}:=by
 have nit:∀b u,H b=some u ->b≠it:=fun b u e z=>by rw[z,hn] at e;cases e
 refine I.step (g':=s.gens) (d':=s.drawn) (ch:=[it]) (fun b hb=>?_) (fun b o _ _ hc e _=>k b o (fun z=>hc (by simp[z])) e) (fun b o _ _ hc e _=>⟨o.slots,k b o (fun z=>hc (by simp[z])) e⟩) (fun _ _ _ _ n=>n)
   (fun b o hc e=>⟨o,k b o (fun z=>hc (by simp[z])) e⟩) (fun _ _ e=>e) (fun _ _ _ e=>e) (fun b ps e=>⟨#[],by rw[e];simp⟩) (fun m hm=>?_) (fun b u e=>?_) I.bare
 . have e:b=it:=by simpa using hb
   subst e
   exact⟨h1,hL,h2,h3⟩
 . obtain⟨o,es,ep,ho,r⟩:=hm
   exact⟨o,es,ep,k _ o (Ne.symm hL) ho,r⟩
 refine(I.hok b u e).stay (fun c v hc q=>k c v ?_ q) (fun _ q=>q) fun _ _ q=>q
 rcases hc with z|z
 . rw[z];exact nit b u e
 exact nit c _ z
theorem Inv.tok(I:Inv X pins σ H s)(t:Nat):Inv X pins σ H {s with toks:=t}:=I.un (h':=s.heap) (t':=t) Un.refl I.hok
theorem Inv.kept{t':Nat}(I:Inv X pins σ H s)(k:∀b u,s.heap.get? b=some u ->h'.get? b=some u):Inv X pins σ H {s with heap:=h',toks:=t'}:=I.un (Un.kept k) (I.hok.kept k)
theorem Inv.laid{a:Addr}{o:HO}{t':Nat}(I:Inv X pins σ H s)(k:∀b u,s.heap.get? b=some u ->h'.get? b=some u)(hp:s.heap.objs.size<=a)(new:Y9 X.prog X.w (upd H a o) h' a o):
   Inv X pins σ (upd H a o) {s with heap:=h',toks:=t'}:=I.un (Un.laid k hp (I.hok.fresh hp)) (I.hok.laid k hp new)
theorem Inv.write{x e:Addr}{o:HO}{t':Nat}(I:Inv X pins σ H s)(mu:Mut (H x))(he:e=x\/H e=some (.own x))(k:∀b u,b≠e ->s.heap.get? b=some u ->h'.get? b=some u)(heo:∃u,h'.get? e=some u)
   (new:Y9 X.prog X.w (upd H x o) h' x o):Inv X pins σ (upd H x o) {s with heap:=h',toks:=t'}:=I.un (Un.write mu he k heo) (I.hok.write mu he k heo new)
theorem Inv.pins_of{pins':List (Addr×Obj)}(I:Inv X pins σ H s)(h:∀p∈pins',s.heap.get? p.1=some p.2/\H p.1=none/\p.1≠X.env.locals/\p.1 ∉ X.fs/\∀v,p.2.data≠ .cell v):Inv X pins' σ H s:=
 ⟨I.ok,I.os,I.bare,I.base,I.loc,I.cell,I.free,I.freeC,fun p hp=>(List.mem_append.mp hp).elim (fun z=>I.pin p (List.mem_append_left _ z)) (h p),I.hok,I.len⟩
theorem C8v{N:List Str}(hN:N.Nodup){i j:Nat}{x:Str}(a:N[i]?=some x)(b:N[j]?=some x):i=j:=by
 obtain⟨h1,e1⟩:=List.getElem?_eq_some_iff.mp a
 obtain⟨h2,e2⟩:=List.getElem?_eq_some_iff.mp b
 exact(List.getElem_inj hN).mp (e1.trans e2.symm)
theorem D8a{M:Model}{A:Around}{E:Value ->Shared ->Prop}{i:Nat}{x:Str}{v:V}{u:Value}{Q:Unit ->Shared ->Prop}(I:Inv X pins σ H s)(hN:X.N.Nodup)(hi:X.N[i]?=some x)(hx:Loc X.env.scope x)(r:V0 v u)
   (h:∀s',Inv X pins (σ.set i (some v)) H s' ->(∃a,Heap.SameBut a s.heap s'.heap/\(a=X.env.locals\/X.env.cells.lookup x=some a)) ->Q () s') (hf:X.fn x=true\/X.env.scope.names.lookup x=some .local:=by first|exact .inl rfl|exact .inr rfl|assumption):wpAny M A (storeName X.env x u) Q E s:=by
 obtain⟨m,hn,hl⟩:=id I.loc
 have hcls:(X.env.scope.kind== .class||(X.env.scope.kind== .module&&X.env.locals !=X.env.globals))=false:=by rw[I.ok.kind];rfl
 have hiσ:i<σ.length:=by rw[I.len];exact(List.getElem?_eq_some_iff.mp hi).1
 have cne:=I.cne
 have tracked:∀{a:Addr} {h':Heap},(∃o,s.heap.get? a=some o/\H a=none) ->Heap.SameBut a s.heap h' ->HOk X.prog X.w H h':=fun{a h'} ha hs b ob e=>by
   obtain⟨_,_,hfree⟩:=ha
   refine(I.hok b ob e).stay (fun c w' hc q=>(hs.2 c ?_).trans q) (fun _ q=>q) fun _ _ q=>q
   rintro rfl
   rcases hc with rfl|hc
   . rw[hfree] at e;cases e
   . rw[hfree] at hc;cases hc
 rcases hx with hk|hk
 . refine wpAny_storeName_local hk hn (fun h' hn' hs=>?_) hcls
   obtain⟨oL,_,_,hoL,_⟩:=id hn
   refine h _ ⟨I.ok,I.os,I.bare,⟨fun b o e n hb hx=>?_,fun b o e n hb hx=>?_,I.base.free,fun b o e hx=>?_,I.base.tups,I.base.frzs,I.base.tbls⟩,⟨_,hn',fun j y v' e1 e2 e3=>?_⟩,fun y c e=>?_,I.free,I.freeC,fun p hp=>?_,tracked ⟨oL,hoL,I.free⟩ hs,by simpa using I.len⟩ ⟨_,hs,.inl rfl⟩
   . exact(hs.2 b (Nat.ne_of_lt (Nat.lt_of_lt_of_le (Heap.lt_size e) I.ok.above))).trans (I.base.keep b o e n hb hx)
   . obtain⟨sl,e1⟩:=I.base.slot b o e n hb hx
     exact⟨sl,(hs.2 b (Nat.ne_of_lt (Nat.lt_of_lt_of_le (Heap.lt_size e) I.ok.above))).trans e1⟩
   . obtain⟨o',e1⟩:=I.base.there b o e hx
     exact⟨o',(hs.2 b (Nat.ne_of_lt (Nat.lt_of_lt_of_le (Heap.lt_size e) I.ok.above))).trans e1⟩
   . by_cases hj:j=i
     . subst hj
       rw[hi] at e1;cases e1
       rw[List.getElem?_set_self hiσ] at e2
       cases e2
       exact⟨u,r,.inl ⟨hk,by simp⟩⟩
     . rw[List.getElem?_set_ne (Ne.symm hj)] at e2
       obtain⟨u',r',q⟩:=hl j y v' e1 e2 e3
       refine⟨u',r',?_⟩
       rcases q with⟨k,e⟩|⟨k,c,e,z⟩
       . refine .inl ⟨k,?_⟩
         have:y≠x:=fun e=>hj (C8v hN e1 (e▸hi))
         simp[this,e]
       . exact .inr ⟨k,c,e,z.sameBut hs (cne y c e)⟩
   . obtain⟨w',z⟩:=I.cell y c e
     exact⟨w',z.sameBut hs (cne y c e)⟩
   . obtain⟨e,n,ne,nf,d⟩:=I.pin p hp
     exact⟨(hs.2 p.1 ne).trans e,n,ne,nf,d⟩
 have hfn:X.fn x=true:=by
   rcases hf with z|z
   . exact z
   . rw[z] at hk;cases hk
 obtain⟨c,hc⟩:=I.ok.has x (.inl hk)
 obtain⟨w',z⟩:=I.cell x c hc
 refine wpAny_storeName_cell I.ok.kind hk hc z (fun h' hc' hs=>?_)
 obtain⟨oc,hoc,hocd⟩:=id z
 refine h {s with heap:=h'} ⟨I.ok,I.os,I.bare,⟨fun b o e n hb hx=>?_,fun b o e n hb hx=>?_,I.base.free,fun b o e hx=>?_,I.base.tups,I.base.frzs,I.base.tbls⟩,⟨m,hn.sameBut hs (Ne.symm (cne x c hc)),fun j y v' e1 e2 e3=>?_⟩,fun y c' e=>?_,I.free,I.freeC,fun p hp=>?_,tracked ⟨oc,hoc,I.freeC x c hc⟩ hs,by simpa using I.len⟩ ⟨c,hs,.inr hc⟩
 . exact(hs.2 b (Nat.ne_of_lt (Nat.lt_of_lt_of_le (Heap.lt_size e) (I.ok.cab x c hfn hc)))).trans (I.base.keep b o e n hb hx)
 . obtain⟨sl,e1⟩:=I.base.slot b o e n hb hx
   exact⟨sl,(hs.2 b (Nat.ne_of_lt (Nat.lt_of_lt_of_le (Heap.lt_size e) (I.ok.cab x c hfn hc)))).trans e1⟩
 . obtain⟨o',e1⟩:=I.base.there b o e hx
   exact⟨o',(hs.2 b (Nat.ne_of_lt (Nat.lt_of_lt_of_le (Heap.lt_size e) (I.ok.cab x c hfn hc)))).trans e1⟩
 . by_cases hj:j=i
   . subst hj
     rw[hi] at e1;cases e1
     rw[List.getElem?_set_self hiσ] at e2
     cases e2
     exact⟨u,r,.inr ⟨.inl hk,c,hc,hc'⟩⟩
   . rw[List.getElem?_set_ne (Ne.symm hj)] at e2
     obtain⟨u',r',q⟩:=hl j y v' e1 e2 e3
     refine⟨u',r',?_⟩
     rcases q with q|⟨k,c',e,z'⟩
     . exact .inl q
     . refine .inr ⟨k,c',e,z'.sameBut hs ?_⟩
       rintro rfl
       exact hj (C8v hN e1 (I.ok.inj _ _ _ e hc▸hi))
 . by_cases hcc:c'=c
   . subst hcc;exact⟨_,hc'⟩
   . obtain⟨w2,z2⟩:=I.cell y c' e
     exact⟨w2,z2.sameBut hs hcc⟩
 obtain⟨e,n,ne,nf,d⟩:=I.pin p hp
 refine⟨(hs.2 p.1 ?_).trans e,n,ne,nf,d⟩
 intro q
 rw[q,hoc] at e
 have q':oc=p.2:=Option.some.inj e
 exact d w' (by rw[<-q'];exact hocd)
theorem B1x{M:Model}{A:Around}{E:Value ->Shared ->Prop}{i:Nat}{x:Str}{v:V}{u:Value}{Q:Unit ->Shared ->Prop}(I:Inv X pins σ H s)(hN:X.N.Nodup)(hi:X.N[i]?=some x)(hx:Loc X.env.scope x)(r:V0 v u)
   (h:∀s',Inv X pins (σ.set i (some v)) H s' ->Q () s') (hf:X.fn x=true\/X.env.scope.names.lookup x=some .local:=by first|exact .inl rfl|exact .inr rfl|assumption):wpAny M A (storeName X.env x u) Q E s:=
 D8a I hN hi hx r (fun s' I' _=>h s' I') hf
theorem Inv.call'{s':Shared}{ch:List Addr}(I:Inv X pins σ H s)(ho:s'.os=s.os)(u:Un (frs X.stack) ch H H' s.heap s'.heap)(hok:HOk X.prog X.w H' s'.heap)(hg:AllBare s'.gens)
   (hch:∀b∈ch,(b∈X.ex\/X.s₀.heap.objs.size<=b)/\b≠X.env.locals/\(∀x c,X.env.cells.lookup x=some c ->c≠b)/\∀p∈X.pn++pins,p.1≠b):Inv X pins σ H' s':=by
 obtain⟨h',g',d',t',o'⟩:=s'
 have e:o'=s.os:=ho
 subst e
 exact I.call (g':=g') (t':=t') (d':=d') u hok hg hch
end
noncomputable abbrev XK:=Value ->Option Addr ->Hp ->Prop
noncomputable abbrev St:=List (Option V)
noncomputable abbrev VK:=V ->Hp ->Prop
noncomputable abbrev TE:=St ->Hp ->VK ->Prop
noncomputable abbrev TT:=St ->Hp ->(Bool ->Hp ->Prop) ->Prop
noncomputable abbrev TA:=St ->Hp ->(List V ->Hp ->Prop) ->Prop
structure G1n where
 nx:St ->Hp ->Prop
 rt:VK
 bk:St ->Hp ->Prop:=fun _ _=>False
 ct:St ->Hp ->Prop:=fun _ _=>False
noncomputable abbrev TS:=G1n ->St ->Hp ->Prop
noncomputable def EP (X:Cx) (pins:List (Addr×Obj)) (σ:St) (Q:VK) (u:Value) (s':Shared):Prop:=∃v H',Inv X pins σ H' s'/\V0 v u/\Q v H'
noncomputable def TP (X:Cx) (pins:List (Addr×Obj)) (σ:St) (Q:Bool ->Hp ->Prop) (b:Bool) (s':Shared):Prop:=∃H',Inv X pins σ H' s'/\Q b H'
noncomputable def AP (X:Cx) (pins:List (Addr×Obj)) (σ:St) (Q:List V ->Hp ->Prop) (us:List Value) (s':Shared):Prop:=∃vs H',Inv X pins σ H' s'/\U3 vs us/\Q vs H'
noncomputable def SP (X:Cx) (pins:List (Addr×Obj)) (D:G1n) (f:Flow) (s':Shared):Prop:=
 match f with
 | .next=>∃σ' H',Inv X pins σ' H' s'/\D.nx σ' H'
 | .brk=>∃σ' H',Inv X pins σ' H' s'/\D.bk σ' H'
 | .cont=>∃σ' H',Inv X pins σ' H' s'/\D.ct σ' H'
 | .ret u=>∃v σ' H',Inv X pins σ' H' s'/\V0 v u/\D.rt v H'
noncomputable def PE (X:Cx) (e:Expr) (t:TE):Prop:=
 ∀(pins:List (Addr×Obj)) (s:Shared) (σ:St) (H:Hp) (Q:VK),Inv X pins σ H s ->t σ H Q ->wpAny (model X.prog X.w) X.A (eval e X.env) (EP X pins σ Q) X.xe s
noncomputable def PT (X:Cx) (e:Expr) (t:TT):Prop:=
 ∀(pins:List (Addr×Obj)) (s:Shared) (σ:St) (H:Hp) (Q:Bool ->Hp ->Prop),Inv X pins σ H s ->t σ H Q ->wpAny (model X.prog X.w) X.A (isTrue e X.env (eval e X.env)) (TP X pins σ Q) X.xe s
noncomputable def PW (X:Cx) (e:Expr) (t:TT):Prop:=
 ∀(whole:Sem Value) (pins:List (Addr×Obj)) (s:Shared) (σ:St) (H:Hp) (Q:Bool ->Hp ->Prop),Inv X pins σ H s ->t σ H Q ->wpAny (model X.prog X.w) X.A (isTrue e X.env whole) (TP X pins σ Q) X.xe s
theorem PW.pt{X:Cx}{e:Expr}{t:TT}(h:PW X e t):PT X e t:=h _
noncomputable def PA (X:Cx) (es:List Expr) (t:TA):Prop:=
 ∀(pos:Pos) (pins:List (Addr×Obj)) (s:Shared) (σ:St) (H:Hp) (Q:List V ->Hp ->Prop),Inv X pins σ H s ->t σ H Q ->wpAny (model X.prog X.w) X.A (spliced (backTo pos (starEach es X.env))) (AP X pins σ Q) X.xe s
noncomputable def PS (X:Cx) (st:Stmt) (t:TS):Prop:=
 ∀(pins:List (Addr×Obj)) (s:Shared) (σ:St) (H:Hp) (D:G1n),Inv X pins σ H s ->t D σ H ->wpAny (model X.prog X.w) X.A (exec st X.env) (SP X pins D) X.xe s
noncomputable def PSs (X:Cx) (st:List Stmt) (t:TS):Prop:=
 ∀(pins:List (Addr×Obj)) (s:Shared) (σ:St) (H:Hp) (D:G1n),Inv X pins σ H s ->t D σ H ->wpAny (model X.prog X.w) X.A (execs st X.env) (SP X pins D) X.xe s
theorem thn{α:Type}{t:Sem α}{Q Q':α ->Shared ->Prop}{M:Model}{A:Around}{E:Value ->Shared ->Prop}{s:Shared}(h:wpAny M A t Q E s)(hQ:∀a s,Q a s ->Q' a s):wpAny M A t Q' E s:=wpAny_mono h hQ fun _ _ x=>x
section
variable{X:Cx}
noncomputable def tVar (i:Nat):TE:=fun σ H Q=>∃v,σ[i]?=some (some v)/\Q v H
noncomputable def tC (v:V):TE:=fun _ H Q=>Q v H
theorem Y0w{i:Nat}{x:Str}{pos:Pos}(hN:X.N[i]?=some x)(hv:Vis X.env.scope x)(hd:(x==("__debug__":Str))=false:=by decide)(hcd:(x==("__classdict__":Str))=false:=by decide):PE X (.Name x pos) (tVar i):=by
 intro pins s σ H Q I h
 obtain⟨v,e,h⟩:=h
 obtain⟨m,hn,hl⟩:=I.loc
 obtain⟨u,r,l⟩:=hl i x v hN e hv
 have fin:EP X pins σ Q u s:=⟨v,H,I,r,h⟩
 rcases l with⟨hk,hm⟩|⟨hk,c,hc,hcell⟩
 . exact wpAny_Name (wpAny_loadName_local I.ok.kind hk hn hm fin) hd
 rcases hk with hk|hk
 . exact wpAny_Name (wpAny_loadName_cell I.ok.kind hk hc hcell fin) hd
 exact wpAny_Name (wpAny_loadName_free I.ok.kind hk hc hcell fin hcd) hd
theorem A3{i j pos}:PE X (.Constant (.int i) j pos) (tC (.int i)):=fun _ _ _ H _ I h=>wpAny_Constant_int ⟨.int i,H,I.tok _,⟨_,rfl⟩,h⟩
theorem A2s{b j pos}:PE X (.Constant (.bool b) j pos) (tC (.bl b)):=fun _ _ _ H _ I h=>Constant_bool ⟨.bl b,H,I,rfl,h⟩
theorem J7k{j pos}:PE X (.Constant .none j pos) (tC .non):=fun _ _ _ H _ I h=>Constant_none ⟨.non,H,I,rfl,h⟩
theorem B3{x j pos}:PE X (.Constant (.str x) j pos) (tC (.str x)):=fun _ _ _ H _ I h=>Calls.Constant_str ⟨.str x,H,I.tok _,⟨_,rfl⟩,h⟩
noncomputable def Gl (X:Cx) (x:Str):Prop:=X.env.kindOf x=some .globalImplicit
theorem A2n{E:Value ->Shared ->Prop}{pins:List (Addr×Obj)}{s:Shared}{σ:St}{H:Hp}{x:Str}{u:Value}{pos:Pos}{Q:Value ->Shared ->Prop}(I:Inv X pins σ H s)(hg:Gl X x)(hm:X.mg x=some u)(h:Q u s)
   (hd:(x==("__debug__":Str))=false:=by decide):wpAny (model X.prog X.w) X.A (eval (.Name x pos) X.env) Q E s:=
 Calls.Name_function_global I.ok.kind hg (Calls.loadGlobal_global (by rw[I.ok.glob];exact I.mod.glob.keeps I.bk) hm h) hd
theorem G0w{E:Value ->Shared ->Prop}{pins:List (Addr×Obj)}{s:Shared}{σ:St}{H:Hp}{x:Str}{u:Value}{pos:Pos}{Q:Value ->Shared ->Prop}(I:Inv X pins σ H s)(hg:Gl X x)(hm:X.mg x=none)(hv:bootBuiltins x=some u)(h:Q u s)
   (hn:x≠"__name__":=by decide) (hd:(x==("__debug__":Str))=false:=by decide):wpAny (model X.prog X.w) X.A (eval (.Name x pos) X.env) Q E s:=by
 obtain⟨mb,h1,h2⟩:=I.mod.blt
 exact Calls.Name_function_global I.ok.kind hg (Calls.loadGlobal_builtin (by rw[I.ok.glob];exact I.mod.glob.keeps I.bk) hm (by rw[I.ok.blt];exact h1.keeps I.bk) ((h2 x hn).trans hv) h) hd
theorem A0av{x:Str}{v:V}{u:Value}{pos:Pos}(hg:Gl X x)(hm:X.mg x=some u)(r:V0 v u)(hd:(x==("__debug__":Str))=false:=by decide):PE X (.Name x pos) (tC v):=
 fun _ _ _ H _ I h=>A2n I hg hm ⟨v,H,I,r,h⟩ hd
theorem A0ah{x:Str}{v:V}{u:Value}{pos:Pos}(hg:Gl X x)(hm:X.mg x=none)(hv:bootBuiltins x=some u)(r:V0 v u)(hn:x≠"__name__":=by decide)(hd:(x==("__debug__":Str))=false:=by decide):PE X (.Name x pos) (tC v):=
 fun _ _ _ H _ I h=>G0w I hg hm hv ⟨v,H,I,r,h⟩ hn hd
variable{a b:Expr}{ta tb:TE}{pos:Pos}
noncomputable def tB (t:TE):TT:=fun σ H Q=>t σ H fun x H1=>∃c,x= .bl c/\Q c H1
theorem A0b{e:Expr}{t:TE}(h:PE X e t)(he:∀whole,isTrue e X.env whole=(do let v<-whole;standAt e.pos;holding [v] (truthy v)):=by intro _;rfl):PT X e (tB t):=by
 intro pins s σ H Q I hw
 refine isTrue_plain (thn (h pins s σ H _ I hw) fun v s1 hh_=>?_) (he _)
 obtain⟨x,H1,I1,r1,q1⟩:=hh_
 obtain⟨d,rfl,q⟩:=q1
 cases r1
 exact wpAny_truthy_bool ⟨H1,I1,q⟩
variable{tA tB':TT}{rest:List Expr}
noncomputable def tAnd (t u:TT):TT:=fun σ H Q=>t σ H fun c H1=>if c=true then u σ H1 Q else Q false H1
noncomputable def tOr (t u:TT):TT:=fun σ H Q=>t σ H fun c H1=>if c=true then Q true H1 else u σ H1 Q
noncomputable def tNot (t:TT):TT:=fun σ H Q=>t σ H fun c H1=>Q (!c) H1
theorem A3x(ha:PT X a tA):PW X (.BoolOp .And [a] pos) tA:=by
 intro wh pins s σ H Q I h
 refine isTrue_and (thn (ha pins s σ H Q I h) fun c s1 e=>?_)
 cases c with
 |true=>exact isTrue_and_nil e
 |false=>exact e
theorem C0s(ha:PT X a tA):PW X (.BoolOp .Or [a] pos) tA:=by
 intro wh pins s σ H Q I h
 refine isTrue_or (thn (ha pins s σ H Q I h) fun c s1 e=>?_)
 cases c with
 |false=>exact isTrue_or_nil e
 |true=>exact e
theorem A6s(ha:PT X a tA)(hb:PW X (.BoolOp .And (b::rest) pos) tB'):PW X (.BoolOp .And (a::b::rest) pos) (tAnd tA tB'):=by
 intro wh pins s σ H Q I h
 refine isTrue_and (thn (ha pins s σ H _ I h) fun c s1 ⟨H1,I1,q1⟩=>?_)
 cases c with
 |true=>exact hb wh pins s1 σ H1 Q I1 q1
 |false=>exact⟨H1,I1,q1⟩
theorem D8p(ha:PT X a tA)(hb:PW X (.BoolOp .Or (b::rest) pos) tB'):PW X (.BoolOp .Or (a::b::rest) pos) (tOr tA tB'):=by
 intro wh pins s σ H Q I h
 refine isTrue_or (thn (ha pins s σ H _ I h) fun c s1 ⟨H1,I1,q1⟩=>?_)
 cases c with
 |true=>exact⟨H1,I1,q1⟩
 |false=>exact hb wh pins s1 σ H1 Q I1 q1
theorem A4t(ha:PT X a tA):PT X (.UnaryOp .Not a pos) (tNot tA):=by
 intro pins s σ H Q I h
 exact isTrue_not (ha pins s σ H (fun c H1=>Q (!c) H1) I h)
noncomputable def A0mg (ta tb:TE):TE:=fun σ H Q=>ta σ H fun x H1=>∃c,x= .bl c/\if c=true then tb σ H1 Q else Q (.bl false) H1
noncomputable def tOrV (ta tb:TE):TE:=fun σ H Q=>ta σ H fun x H1=>∃c,x= .bl c/\if c=true then Q (.bl true) H1 else tb σ H1 Q
noncomputable def A0nn (ta:TE):TE:=fun σ H Q=>ta σ H fun x H1=>∃c,x= .bl c/\Q (.bl (!c)) H1
theorem A2e{op}{t:TE}(h:PE X a t):PE X (.BoolOp op [a] pos) t:=fun pins s σ H Q I hw=>BoolOp_one (h pins s σ H Q I hw)
theorem A6r(ha:PE X a ta)(hb:PE X (.BoolOp .And (b::rest) pos) tb):PE X (.BoolOp .And (a::b::rest) pos) (A0mg ta tb):=by
 intro pins s σ H Q I h
 refine BoolOp_and (thn (ha pins s σ H _ I h) fun v s1 hh_=>?_)
 obtain⟨x,H1,I1,r1,q1⟩:=hh_
 obtain⟨c,rfl,q1⟩:=q1
 cases r1
 refine wpAny_truthy_bool ?_
 cases c with
 |true=>exact hb pins s1 σ H1 Q I1 q1
 |false=>exact⟨.bl false,H1,I1,rfl,q1⟩
theorem J2k(ha:PE X a ta)(hb:PE X (.BoolOp .Or (b::rest) pos) tb):PE X (.BoolOp .Or (a::b::rest) pos) (tOrV ta tb):=by
 intro pins s σ H Q I h
 refine BoolOp_or (thn (ha pins s σ H _ I h) fun v s1 hh_=>?_)
 obtain⟨x,H1,I1,r1,q1⟩:=hh_
 obtain⟨c,rfl,q1⟩:=q1
 cases r1
 refine wpAny_truthy_bool ?_
 cases c with
 |false=>exact hb pins s1 σ H1 Q I1 q1
 |true=>exact⟨.bl true,H1,I1,rfl,q1⟩
theorem A0fr(ha:PE X a ta):PE X (.UnaryOp .Not a pos) (A0nn ta):=by
 intro pins s σ H Q I h
 refine UnaryOp_ (thn (ha pins s σ H _ I h) fun v s1 hh_=>?_)
 obtain⟨x,H1,I1,r1,q1⟩:=hh_
 obtain⟨c,rfl,q1⟩:=q1
 cases r1
 exact not_of (wpAny_truthy_bool ⟨.bl (!c),H1,I1,rfl,q1⟩)
noncomputable def tIf (t:TT) (ta tb:TE):TE:=fun σ H Q=>t σ H fun c H1=>if c=true then ta σ H1 Q else tb σ H1 Q
theorem A4r{c:Expr}(hc:PT X c tA)(ha:PE X a ta)(hb:PE X b tb):PE X (.IfExp c a b pos) (tIf tA ta tb):=by
 intro pins s σ H Q I h
 refine wpAny_IfExp (thn (hc pins s σ H _ I h) fun d s1 ⟨H1,I1,q1⟩=>?_)
 cases d with
 |true=>exact ha pins s1 σ H1 Q I1 q1
 |false=>exact hb pins s1 σ H1 Q I1 q1
end
noncomputable def SqL (K:PySem.W.Frag) (H:Hp) (a:Addr) (xs:List V):Prop:=
 Rd H a (.lst xs)\/
   ∃(o:Obj) (its:Array Value) (n:Nat),K.lookup a=some o/\o.cls= .type "list"/\o.dict=none/\o.data= .seq its n/\its.size<=sizeLine/\U3 xs its.toList
noncomputable def SqT (K:PySem.W.Frag) (H:Hp) (a:Addr) (xs:List V):Prop:=
 Rd H a (.tup xs)\/
   ∃(o:Obj) (its:Array Value) (n:Nat),K.lookup a=some o/\o.cls= .type "tuple"/\o.data= .seq its n/\its.size<=sizeLine/\U3 xs its.toList
noncomputable def absV:Value ->Option V
 | .none=>some .non
 | .bool b=>some (.bl b)
 | .int i _=>some (.int i)
 | .str x _=>some (.str x)
 | .bytes b _=>some (.byt b)
 | .float b _=>some (.flt b)
 | .ref a=>some (.ref a)
 | .type n=>some (.ty n)
 |_=>none
theorem V0.abs{x:V}{u:Value}(r:V0 x u):absV u=some x:=by
 cases x with
 |non=>cases r;rfl
 |bl _=>cases r;rfl
 |int _=>obtain⟨t,rfl⟩:=r;rfl
 |str _=>obtain⟨t,rfl⟩:=r;rfl
 |byt _=>obtain⟨t,rfl⟩:=r;rfl
 |flt _=>obtain⟨t,rfl⟩:=r;rfl
 |ref _=>cases r;rfl
 |ty _=>cases r;rfl
theorem V0.inj{x y:V}{u:Value}(r:V0 x u)(q:V0 y u):x=y:=Option.some.inj (r.abs.symm.trans q.abs)
theorem U3.inj:∀{xs ys:List V} {us:List Value},U3 xs us ->U3 ys us ->xs=ys
 |_,_,_,.nil,.nil=>rfl
 |_,_,_,.cons r t,.cons r' t'=>by rw[r.inj r',U3.inj t t']
section
variable{X:Cx}{pins:List (Addr×Obj)}{σ:St}{H:Hp}{s:Shared}{a:Addr}{xs ys:List V}
theorem SqL.of{K:PySem.W.Frag}(h:H a=some (.lst xs)):SqL K H a xs:= .inl (.inl h)
theorem SqT.of{K:PySem.W.Frag}(h:H a=some (.tup xs)):SqT K H a xs:= .inl (.inl h)
theorem Inv.list(I:Inv X pins σ H s)(h:SqL X.K H a xs):∃its:List Value,U3 xs its/\PlainL s.heap a its.toArray/\xs.length<=sizeLine:=by
 rcases h with h|⟨o,its,n,hk,hc,hd,hs,hz,r⟩
 . obtain⟨z,its,n,r,e⟩:=h.ok I.hok
   exact⟨its,r,⟨_,n,e,rfl,rfl,rfl⟩,z⟩
 refine⟨its.toList,r,⟨o,n,I.kIn a o hk,hc,hd,by simpa using hs⟩,?_⟩
 have e:=r.length
 simp only[Array.length_toList] at e
 omega
theorem Inv.tuple(I:Inv X pins σ H s)(h:SqT X.K H a xs):∃its:List Value,U3 xs its/\IsTup s.heap a its.toArray/\xs.length<=sizeLine:=by
 rcases h with h|⟨o,its,n,hk,hc,hs,hz,r⟩
 . obtain⟨z,its,r,p⟩:=h.ok I.hok
   exact⟨its,r,p,z⟩
 refine⟨its.toList,r,⟨o,I.kIn a o hk,hc,n,by simpa using hs⟩,?_⟩
 have e:=r.length
 simp only[Array.length_toList] at e
 omega
theorem Inv.list_inj(I:Inv X pins σ H s)(h:SqL X.K H a xs)(h':SqL X.K H a ys):xs=ys:=by
 obtain⟨its,r,⟨o,n,e,_,_,d⟩,_⟩:=I.list h
 obtain⟨its',r',⟨o',n',e',_,_,d'⟩,_⟩:=I.list h'
 rw[e] at e';cases e'
 rw[d] at d'
 injection d' with d1 _
 have:its=its':=by simpa using congrArg Array.toList d1
 subst this
 exact r.inj r'
theorem Inv.tuple_inj(I:Inv X pins σ H s)(h:SqT X.K H a xs)(h':SqT X.K H a ys):xs=ys:=by
 obtain⟨its,r,⟨o,e,_,n,d⟩,_⟩:=I.tuple h
 obtain⟨its',r',⟨o',e',_,n',d'⟩,_⟩:=I.tuple h'
 rw[e] at e';cases e'
 rw[d] at d'
 injection d' with d1 _
 have:its=its':=by simpa using congrArg Array.toList d1
 subst this
 exact r.inj r'
end
noncomputable abbrev Cx.wish (X:Cx) (E:Value ->Shared ->Prop):Cx:={X with xe:=E}
noncomputable abbrev Cx.nox (X:Cx):Cx:=X.wish fun _ _=>False
theorem Cx.Ok.wish{X:Cx}(ok:X.Ok)(E:Value ->Shared ->Prop):(X.wish E).Ok:=
 ⟨ok.mod,ok.kind,ok.glob,ok.blt,ok.above,ok.inj,ok.has,ok.cab,ok.hd,ok.frames,ok.stk,ok.exf,ok.bs,ok.bsz,ok.noex,ok.exfs,ok.funs,ok.frf⟩
theorem Cx.Ok.unwish{X:Cx}{E:Value ->Shared ->Prop}(ok:(X.wish E).Ok):X.Ok:=
 ⟨ok.mod,ok.kind,ok.glob,ok.blt,ok.above,ok.inj,ok.has,ok.cab,ok.hd,ok.frames,ok.stk,ok.exf,ok.bs,ok.bsz,ok.noex,ok.exfs,ok.funs,ok.frf⟩
section
variable{X:Cx}{pins:List (Addr×Obj)}{σ:St}{H:Hp}{s:Shared}{E:Value ->Shared ->Prop}
theorem Inv.wish(I:Inv X pins σ H s)(E:Value ->Shared ->Prop):Inv (X.wish E) pins σ H s:=⟨I.ok.wish E,I.os,I.bare,I.base,I.loc,I.cell,I.free,I.freeC,I.pin,I.hok,I.len⟩
theorem Inv.unwish(I:Inv (X.wish E) pins σ H s):Inv X pins σ H s:=⟨I.ok.unwish,I.os,I.bare,I.base,I.loc,I.cell,I.free,I.freeC,I.pin,I.hok,I.len⟩
theorem SP.unwish{D:G1n}{f:Flow}{s':Shared}(h:SP (X.wish E) pins D f s'):SP X pins D f s':=by
 cases f with
 |next=>obtain⟨σ',H',I,q⟩:=h;exact⟨σ',H',I.unwish,q⟩
 |brk=>obtain⟨σ',H',I,q⟩:=h;exact⟨σ',H',I.unwish,q⟩
 |cont=>obtain⟨σ',H',I,q⟩:=h;exact⟨σ',H',I.unwish,q⟩
 |ret u=>obtain⟨v,σ',H',I,r,q⟩:=h;exact⟨v,σ',H',I.unwish,r,q⟩
theorem PSs.nox{st:List Stmt}{t:TS}(h:PSs X.nox st t):PSs X st t:=fun pins s σ H D I hw=>
 wpAny_mono (h pins s σ H D (I.wish _) hw) (fun _ _ q=>q.unwish) fun _ _ z=>False.elim z
end
section
variable{X:Cx}{st:Stmt}{rest:List Stmt}{t u:TS}{e:Expr}{te:TE}{pos:Pos}
noncomputable def A0px:TS:=fun D σ H=>D.nx σ H
noncomputable def tSeq (t u:TS):TS:=fun D σ H=>t {D with nx:=u D} σ H
theorem D6:PSs X [] A0px:=fun _ _ σ H _ I h=>wpAny_execs_nil ⟨σ,H,I,h⟩
theorem A8(h1:PS X st t)(h2:PSs X rest u):PSs X (st::rest) (tSeq t u):=by
 intro pins s σ H D I h
 refine wpAny_execs_cons (thn (h1 pins s σ H {D with nx:=u D} I h) fun f s1 q=>?_)
 cases f with
 | next=>
   obtain⟨σ',H',I',q⟩:=q
   exact h2 pins s1 σ' H' D I' q
 |ret v=>exact q
 |brk=>exact q
 |cont=>exact q
theorem B0(h1:PS X st t):PSs X [st] t:=by
 intro pins s σ H D I h
 refine wpAny_execs_cons (thn (h1 pins s σ H D I h) fun f s1 q=>?_)
 cases f with
 |next=>exact wpAny_execs_nil q
 |ret v=>exact q
 |brk=>exact q
 |cont=>exact q
theorem Inv.quiet{pins:List (Addr×Obj)}{σ:St}{H:Hp}{s:Shared}(I:Inv X pins σ H s):interactive X.env=false:=by simp[interactive,I.ok.kind]
noncomputable def A0nx (te:TE):TS:=fun D σ H=>te σ H fun _ H1=>D.nx σ H1
theorem J9(he:PE X e te)(hs:swapsWith e none pos.line X.env=pure false:=by rfl):PS X (.Expr e pos) (A0nx te):=by
 intro pins s σ H D I h
 exact wpAny_Expr_any (thn (he pins s σ H _ I h) fun v s1 ⟨x,H1,I1,r1,q1⟩=>⟨σ,H1,I1,q1⟩) I.quiet hs
noncomputable def tRet (te:TE):TS:=fun D σ H=>te σ H D.rt
theorem C7(he:PE X e te):PS X (.Return (some e) pos) (tRet te):=by
 intro pins s σ H D I h
 exact wpAny_Return_some (thn (he pins s σ H _ I h) fun v s1 ⟨x,H1,I1,r1,q1⟩=>⟨x,σ,H1,I1,r1,q1⟩)
noncomputable def tIfS (c:TT) (t u:TS):TS:=fun D σ H=>c σ H fun b H1=>if b=true then t D σ H1 else u D σ H1
theorem J0{c:Expr}{a b:List Stmt}{tc:TT}(hc:PT X c tc)(ha:PSs X a t)(hb:PSs X b u):PS X (.If c a b pos) (tIfS tc t u):=by
 intro pins s σ H D I h
 refine wpAny_If (thn (hc pins s σ H _ I h) fun d s1 ⟨H1,I1,q1⟩=>?_)
 cases d with
 |true=>exact ha pins s1 σ H1 D I1 q1
 |false=>exact hb pins s1 σ H1 D I1 q1
end
noncomputable abbrev TG:=V ->St ->Hp ->(St ->Hp ->Prop) ->Prop
noncomputable abbrev TGs:=List V ->St ->Hp ->(St ->Hp ->Prop) ->Prop
noncomputable def PG (X:Cx) (target:Expr) (t:TG):Prop:=
 ∀ (pins:List (Addr×Obj)) (s:Shared) (σ:St) (H:Hp) (v:V) (u:Value) (Q:St ->Hp ->Prop),Inv X pins σ H s ->V0 v u ->t v σ H Q ->
   wpAny (model X.prog X.w) X.A (assign target X.env u) (fun _ s'=>∃σ' H',Inv X pins σ' H' s'/\Q σ' H') X.xe s
noncomputable def PGs (X:Cx) (ts:List Expr) (t:TGs):Prop:=
 ∀ (pins:List (Addr×Obj)) (s:Shared) (σ:St) (H:Hp) (vs:List V) (us:List Value) (Q:St ->Hp ->Prop),Inv X pins σ H s ->U3 vs us ->t vs σ H Q ->
   wpAny (model X.prog X.w) X.A (assignInOrder ((assignEach ts X.env).map (·.2)) us) (fun _ s'=>∃σ' H',Inv X pins σ' H' s'/\Q σ' H') X.xe s
noncomputable abbrev TIp:=V ->V ->Hp ->VK ->Prop
noncomputable def PIp (X:Cx) (op:Operator) (t:TIp):Prop:=
 ∀ (pins:List (Addr×Obj)) (s:Shared) (σ:St) (H:Hp) (x y:V) (v u:Value) (Q:VK),Inv X pins σ H s ->V0 x v ->V0 y u ->t x y H Q ->
   wpAny (model X.prog X.w) X.A (inplaceOp op v u) (EP X pins σ Q) X.xe s
section
variable{X:Cx}{pos:Pos}
noncomputable def D7d (i:Nat):TG:=fun v σ H Q=>Q (σ.set i (some v)) H
theorem Z2{i:Nat}{x:Str}(hN:X.N.Nodup)(hi:X.N[i]?=some x)(hx:Loc X.env.scope x)(hf:X.fn x=true\/X.env.scope.names.lookup x=some .local:=by first|exact .inl rfl|exact .inr rfl|assumption):PG X (.Name x pos) (D7d i):=by
 intro pins s σ H v u Q I r h
 exact wpAny_assign_Name (B1x I hN hi hx r (fun s' I'=>⟨_,H,I',h⟩) hf)
noncomputable def gNil:TGs:=fun vs σ H Q=>vs=[]/\Q σ H
noncomputable def A0np (t:TG) (u:TGs):TGs:=fun vs σ H Q=>∃v r,vs=v::r/\t v σ H fun σ' H'=>u r σ' H' Q
theorem G0u:PGs X [] gNil:=by
 intro pins s σ H vs us Q I r h
 obtain⟨e,h⟩:=h
 subst e
 cases r
 exact assignInOrder_nil ⟨σ,H,I,h⟩
theorem A7c{e:Expr}{es:List Expr}{t:TG}{u:TGs}(h1:PG X e t)(h2:PGs X es u)
   (hs:(assignEach (e::es) X.env).map (·.2)=assign e X.env::(assignEach es X.env).map (·.2):=by rfl):PGs X (e::es) (A0np t u):=by
 intro pins s σ H vs us Q I r h
 obtain⟨v,vr,e1,h⟩:=h
 subst e1
 cases r with
 | cons r rr=>
   rw[hs]
   refine assignInOrder_cons (thn (h1 pins s σ H _ _ _ I r h) fun _ s1 hh_=>?_)
   obtain⟨σ1,H1,I1,q1⟩:=hh_
   exact h2 pins s1 σ1 H1 _ _ Q I1 rr q1
noncomputable def gTup (K:PySem.W.Frag) (n:Nat) (t:TGs):TG:=fun v σ H Q=>∃a xs,v= .ref a/\SqT K H a xs/\xs.length=n/\t xs σ H Q
theorem Y0u{es:List Expr}{k:Nat}{t:TGs}{n:Nat}(hc:X.calm=true)(h:PGs X es t)
   (hn:(assignEach es X.env).length=n:=by rfl) (hst:(assignEach es X.env).findIdx? (·.1)=none:=by rfl):PG X (.Tuple es k pos) (gTup X.K n t):=by
 intro pins s σ H v u Q I r hw
 obtain⟨a,xs,e1,hq,hl,hw⟩:=hw
 subst e1
 cases r
 obtain⟨its,rv,ht,hz⟩:=I.tuple hq
 refine assign_Tuple_tuple (I.ok.hd hc) ht (by simp[hn, <-hl,rv.length]) hst fun h' hx=>?_
 have I1:Inv X pins σ H {s with heap:=h'}:=I.kept (t':=s.toks) fun b o e=>hx b o (Nat.ne_of_lt (Heap.lt_size e)) e
 exact h pins _ σ H xs _ Q I1 (by simpa using rv) hw
noncomputable def tAsg (te:TE) (g:TG):TS:=fun D σ H=>te σ H fun x H1=>g x σ H1 D.nx
theorem Y1r{tg e:Expr}{te:TE}{g:TG}(he:PE X e te)(hg:PG X tg g)(hs:swapsWithSole [tg] e pos.line X.env=pure false:=by rfl)(hw:swappedStores [tg] e X.env=pure none:=by rfl)
   (h1:(assignEach [tg] X.env).map (·.2)=[assign tg X.env]:=by rfl):PS X (.Assign [tg] e pos) (tAsg te g):=by
 intro pins s σ H D I h
 refine wpAny_Assign_stores (thn (he pins s σ H _ I h) fun v s1 hh_=>?_) hs hw
 obtain⟨x,H1,I1,r1,q1⟩:=hh_
 rw[h1]
 exact thn (hg pins s1 σ H1 x v _ I1 r1 q1) fun _ s2 q=>q
theorem D7{i:Nat}{x:Str}{e:Expr}{te:TE}{pos':Pos}(hN:X.N.Nodup)(hi:X.N[i]?=some x)(hx:Loc X.env.scope x)(he:PE X e te)(hs:swapsWith e (some (.Name x pos')) pos.line X.env=pure false:=by rfl)(hf:X.fn x=true\/X.env.scope.names.lookup x=some .local:=by first|exact .inl rfl|exact .inr rfl|assumption):
   PS X (.Assign [.Name x pos'] e pos) (tAsg te (D7d i)):=by
 intro pins s σ H D I h
 refine wpAny_Assign_Name (thn (he pins s σ H _ I h) fun v s1 hh_=>?_) hs
 obtain⟨y,H1,I1,r1,q1⟩:=hh_
 exact B1x I1 hN hi hx r1 (fun s2 I2=>⟨_,H1,I2,q1⟩) hf
noncomputable def tAug (i:Nat) (te:TE) (ti:TIp):TS:=fun D σ H=>∃x,σ[i]?=some (some x)/\te σ H fun y H1=>ti x y H1 fun z H2=>D.nx (σ.set i (some z)) H2
theorem A0et{i:Nat}{x:Str}{e:Expr}{te:TE}{op:Operator}{ti:TIp}{pos':Pos}(hN:X.N.Nodup)(hi:X.N[i]?=some x)(hx:Loc X.env.scope x)(he:PE X e te)(ho:PIp X op ti)(hf:X.fn x=true\/X.env.scope.names.lookup x=some .local:=by first|exact .inl rfl|exact .inr rfl|assumption):
   PS X (.AugAssign (.Name x pos') op e pos) (tAug i te ti):=by
 intro pins s σ H D I h
 obtain⟨v,e1,h⟩:=h
 obtain⟨m,hn,hl⟩:=I.loc
 have vis:Vis X.env.scope x:=by rcases hx with k|k;exact .inl k;exact .inr (.inl k)
 obtain⟨u,r,l⟩:=hl i x v hi e1 vis
 refine wpAny_AugAssign_Name ?_
 have go:wpAny (model X.prog X.w) X.A (eval e X.env) (fun w s₂=>wpAny (model X.prog X.w) X.A (inplaceOp op u w) (fun r s₃=>wpAny (model X.prog X.w) X.A (storeName X.env x r) (fun _=>SP X pins D .next) X.xe s₃) X.xe s₂) X.xe s:=by
   refine thn (he pins s σ H _ I h) fun w s1 hh_=>?_
   obtain⟨y,H1,I1,r1,q1⟩:=hh_
   refine thn (ho pins s1 σ H1 v y u w _ I1 r r1 q1) fun z s2 hh_=>?_
   obtain⟨zv,H2,I2,r2,q2⟩:=hh_
   exact B1x I2 hN hi hx r2 (fun s3 I3=>⟨_,H2,I3,q2⟩) hf
 rcases l with⟨hk,hm⟩|⟨hk,c,hc,hcell⟩
 . exact wpAny_loadName_local I.ok.kind hk hn hm go
 rcases hk with hk|hk
 . exact wpAny_loadName_cell I.ok.kind hk hc hcell go
 rcases hx with k|k
 . have:X.env.scope.names.lookup x=some .free:=hk
   rw[k] at this;cases this
 have:X.env.scope.names.lookup x=some .free:=hk
 rw[k] at this;cases this
noncomputable def ipI (f:Int ->Int ->Int):TIp:=fun x y H Q=>∃i j,x= .int i/\y= .int j/\Q (.int (f i j)) H
theorem A0fq:PIp X .Add (ipI fun i j=>i+j):=by
 intro pins s σ H x y v u Q I r1 r2 h
 obtain⟨i,j,e1,e2,q⟩:=h
 subst e1;subst e2
 obtain⟨t,rfl⟩:=r1
 obtain⟨t',rfl⟩:=r2
 exact iadd_int ⟨.int _,H,I.tok _,⟨_,rfl⟩,q⟩
end
section
variable{X:Cx}{pos:Pos}
noncomputable def Y2k (c:TT) (tb:TS):TS:=fun D σ H=>∃W:Nat ->St ->Hp ->Prop,(∃m,W m σ H)/\∀m σ H,W m σ H ->
 c σ H fun b H1=>if b=true then∃N:St ->Hp ->Prop,(∀σ' H',N σ' H' ->∃m',m'<m/\W m' σ' H')/\tb {D with nx:=N,ct:=N,bk:=D.nx} σ H1 else D.nx σ H1
theorem B9c{c:Expr}{body:List Stmt}{tc:TT}{tb:TS}(hp:PassesOwn (model X.prog X.w) X.A X.env X.xe)(hc:PT X c tc)(hb:PSs X body tb):PS X (.While c body [] pos) (Y2k tc tb):=by
 intro pins s σ H D I h
 obtain⟨W,⟨m0,w0⟩,turn⟩:=h
 refine wpAny_While (codeAny_whileLoop (fun n s'=>∃σ' H',Inv X pins σ' H' s'/\W n σ' H') ?_ m0 ⟨σ,H,I,w0⟩)
 rintro n s1 ⟨σ1,H1,I1,w1⟩
 refine wpAny_passesOwn hp (thn (hc pins s1 σ1 H1 _ I1 (turn n σ1 H1 w1)) fun b s2 ⟨H2,I2,q2⟩=>?_)
 cases b with
 | true=>
   obtain⟨N,hN,q2⟩:=q2
   rw[if_pos rfl]
   refine wpAny_passesOwn hp (thn (hb pins s2 σ1 H2 _ I2 q2) fun f s3 q3=>?_)
   cases f with
   | next=>
     obtain⟨σ3,H3,I3,n3⟩:=q3
     obtain⟨m',hm,w3⟩:=hN σ3 H3 n3
     exact⟨m',hm,σ3,H3,I3,w3⟩
   | cont=>
     obtain⟨σ3,H3,I3,n3⟩:=q3
     obtain⟨m',hm,w3⟩:=hN σ3 H3 n3
     exact⟨m',hm,σ3,H3,I3,w3⟩
   |brk=>exact q3
   |ret v=>exact q3
 | false=>
   rw[if_neg Bool.false_ne_true]
   exact wpAny_execs_nil ⟨σ1,H2,I2,q2⟩
end
structure It where
 go:Nat ->Hp ->Prop
 yld:Nat ->Hp ->V ->Hp ->Prop
 stop:Nat ->Hp ->Prop
noncomputable def A4s (X:Cx) (pins:List (Addr×Obj)) (H:Hp) (b:Addr):Prop:=
 H b=none/\b≠X.env.locals/\b ∉ X.fs/\(b∈X.ex\/X.s₀.heap.objs.size<=b)/\(∀x c,X.env.cells.lookup x=some c ->c≠b)/\∀p∈X.pn++pins,p.1≠b
theorem Inv.fpOk{X:Cx}{pins:List (Addr×Obj)}{σ:St}{H H':Hp}{s:Shared}{b:Addr}(I:Inv X pins σ H s)(hb:s.heap.objs.size<=b)(hn:H' b=none):A4s X pins H' b:=by
 refine⟨hn,Nat.ne_of_gt (Nat.lt_of_lt_of_le I.lt hb),I.nofs hb,.inr (Nat.le_trans I.sz hb),fun x c e z=>?_,fun p hp z=>?_⟩
 . obtain⟨v,q⟩:=I.cell x c e
   exact absurd (Nat.lt_of_lt_of_le q.lt (by rw[z];exact hb)) (Nat.lt_irrefl _)
 exact absurd (Nat.lt_of_lt_of_le (Heap.lt_size (I.pin p hp).1) (by rw[z];exact hb)) (Nat.lt_irrefl _)
structure Turn(P:Program)(w:World)(K:PySem.W.Frag)(tg:Expr)(J:It)(fp:List Addr)(it:Addr)(tn:Nat ->Heap ->Prop):Prop where
 mem:it∈fp
 obj:∀i h,tn i h ->∀b∈fp,∃o,h.get? b=some o/\∀v,o.data≠ .cell v
 keep:∀i h h',tn i h ->(∀b∈fp,∀o,h.get? b=some o ->h'.get? b=some o) ->tn i h'
 item:∀(X:Cx),X.prog=P ->X.w=w ->X.K=K ->X.calm=true ->∀(i:Nat) (pins:List (Addr×Obj)) (s:Shared) (σ:St) (H:Hp) (E:Value ->Shared ->Prop),Inv X pins σ H s ->(∀b∈fp,A4s X pins H b) ->tn i s.heap ->J.go i H ->
   wpAny (model P w) X.A (pyNext (.ref it)) (fun r s1=>∃u,r=some u/\
     wpAny (model P w) X.A (letOwnedTupleGo tg (.ref it) u) (fun _ s2=>∃x H',Inv X pins σ H' s2/\V0 x u/\J.yld i H x H'/\tn (i+1) s2.heap/\∀b∈fp,H' b=none) E s1) E s
 done:∀(X:Cx),X.prog=P ->X.w=w ->X.K=K ->X.calm=true ->∀(i:Nat) (pins:List (Addr×Obj)) (s:Shared) (σ:St) (H:Hp) (E:Value ->Shared ->Prop),Inv X pins σ H s ->(∀b∈fp,A4s X pins H b) ->tn i s.heap ->J.stop i H ->
   wpAny (model P w) X.A (pyNext (.ref it)) (fun r s1=>r=none/\Inv X pins σ H s1) E s
 self:∀(A:Around) (i:Nat) (s:Shared) (Q:Value ->Shared ->Prop) (E:Value ->Shared ->Prop),tn i s.heap ->Q (.ref it) s ->wpAny (model P w) A (pyIter (.ref it)) Q E s
noncomputable abbrev TI:=St ->Hp ->(It ->Hp ->Prop) ->Prop
noncomputable def PIE (X:Cx) (pins:List (Addr×Obj)) (σ:St) (tg:Expr) (R:It ->Hp ->Prop) (itv:Value) (s2:Shared):Prop:=
 ∃(it:Addr) (fp:List Addr) (tn:Nat ->Heap ->Prop) (J:It) (H':Hp),itv= .ref it/\Inv X pins σ H' s2/\Turn X.prog X.w X.K tg J fp it tn/\tn 0 s2.heap/\(∀b∈fp,A4s X pins H' b)/\R J H'
noncomputable def PI (X:Cx) (tg iter:Expr) (wi:TI):Prop:=
 ∀ (pins:List (Addr×Obj)) (s:Shared) (σ:St) (H:Hp) (R:It ->Hp ->Prop),Inv X pins σ H s ->wi σ H R ->
   wpAny (model X.prog X.w) X.A (eval iter X.env) (fun v s1=>wpAny (model X.prog X.w) X.A (pyIter v) (PIE X pins σ tg R) X.xe s1) X.xe s
theorem V0j{M:Model}{A:Around}{E:Value ->Shared ->Prop}{s:Shared}{tg:Expr}{it:Addr}{u:Value}{o:Obj}{n:String}{vs:Array Value}{Q:Unit ->Shared ->Prop}(ho:s.heap.get? it=some o)(hc:o.cls= .type n)(hd:o.data= .fields vs)
   (hn: ["enumerate","zip","dict_itemiterator","dict_reverseitemiterator","odict_iterator","itertools.zip_longest","itertools.pairwise"].contains n=false) (hQ:Q () s):wpAny M A (letOwnedTupleGo tg (.ref it) u) Q E s:=by
 unfold letOwnedTupleGo
 cases tg <;>first
   |exact wpAny_pure hQ
   |(cases u<;>first
       |exact wpAny_pure hQ
       | (refine wpAny_bind (wpAny_load ho ?_)
          rw[hc,hd]
          show wpAny M A (if(["enumerate","zip","dict_itemiterator","dict_reverseitemiterator","odict_iterator","itertools.zip_longest","itertools.pairwise"].contains n&&vs[0]?==some (rawInt _))=true then _ else _) Q E s
          rw[if_neg (by intro h;rw[hn,Bool.false_and] at h;cases h)]
          exact wpAny_pure hQ))
noncomputable def Itl (K:PySem.W.Frag) (a:Addr):It:=
 ⟨fun i H=>∃xs x,SqL K H a xs/\xs[i]?=some x,fun i H x H'=>H'=H/\∀xs,SqL K H a xs ->xs[i]?=some x,fun i H=>∃xs,SqL K H a xs/\xs.length<=i⟩
noncomputable def Itt (K:PySem.W.Frag) (a:Addr):It:=
 ⟨fun i H=>∃xs x,SqT K H a xs/\xs[i]?=some x,fun i H x H'=>H'=H/\∀xs,SqT K H a xs ->xs[i]?=some x,fun i H=>∃xs,SqT K H a xs/\xs.length<=i⟩
noncomputable def Itr (lo:Int) (n:Nat):It:=⟨fun i _=>i<n,fun i H x H'=>H'=H/\x= .int (lo+i),fun i _=>n<=i⟩
theorem V4c{P:Program}{w:World}{K:PySem.W.Frag}{tg:Expr}(a it:Addr):Turn P w K tg (Itl K a) [it] it (fun i h=>h.IsListIter it a i) where
 mem:=by simp
 obj:=fun i h st b hb=>by
   have e:b=it:=by simpa using hb
   subst e
   obtain⟨o,e,c,d⟩:=st
   exact⟨o,e,fun v z=>by rw[d] at z;cases z⟩
 keep:=fun i h h' st k=>st.at fun o e=>k it (by simp) o e
 item:=by
   intro X hP hw hK hc i pins s σ H E I hf st hg
   subst hP hw hK
   obtain⟨xs,x,hq,hx⟩:=hg
   obtain⟨its,rv,p,hz⟩:=I.list hq
   obtain⟨u,hu,ru⟩:=rv.get hx
   obtain⟨f0,f1,f2,f3,f4,f5⟩:=hf it (by simp)
   refine wpAny_pyNext_list_item st p.isList (x:=u) (by simpa using hu) fun h' st' sb=>?_
   have I1:Inv X pins σ H {s with heap:=h'}:=I.turned (t':=s.toks) (fun b o hb e=>(sb.2 b hb).trans e) f0 f1 f3 f4 f5
   obtain⟨o,e,c,d⟩:=id st'
   exact⟨u,rfl,V0j (s:={s with heap:=h'}) e c d (by decide) ⟨x,H,I1,ru,⟨rfl,fun ys hy=>by rw[I.list_inj hy hq];exact hx⟩,st',fun b hb=>(hf b hb).1⟩⟩
 done:=by
   intro X hP hw hK hc i pins s σ H E I hf st hg
   subst hP hw hK
   obtain⟨xs,hq,hx⟩:=hg
   obtain⟨its,rv,p,hz⟩:=I.list hq
   obtain⟨f0,f1,f2,f3,f4,f5⟩:=hf it (by simp)
   have hl:=rv.length
   exact wpAny_pyNext_list_end (I.ok.hd hc) st p.isList (by simp;omega) fun h' eb=>⟨rfl,I.turned (t':=s.toks) (fun b o hb e=>eb b o hb e) f0 f1 f3 f4 f5⟩
 self:=fun _ _ _ _ _ st h=>wpAny_pyIter_listiter st h
theorem J7s{P:Program}{w:World}{K:PySem.W.Frag}{tg:Expr}(it:Addr)(lo:Int)(n:Nat):Turn P w K tg (Itr lo n) [it] it (fun i h=>IsRangeIter h it (lo+(i:Nat)*1) ((n:Int)- (i:Nat)) 1) where
 mem:=by simp
 obj :=fun i h st b hb=>by
   have e:b=it:=by simpa using hb
   subst e
   exact⟨_,st,fun v z=>by
     have z':Data.fields _=Data.cell v:=z
     cases z'⟩
 keep:=fun i h h' st k=>k it (by simp) _ st
 item:=by
   intro X hP hw hK hc i pins s σ H E I hf st hg
   subst hP hw hK
   obtain⟨f0,f1,f2,f3,f4,f5⟩:=hf it (by simp)
   have W:=Walks.range (prog:=X.prog) (w:=X.w) (I.ok.hd hc) it lo 1 n
   refine W.item i s _ _ hg st fun v h' tk hv st' kk=>?_
   obtain⟨t,rfl⟩:=hv
   have I1:Inv X pins σ H {s with heap:=h',toks:=tk}:=I.turned (fun b o hb e=>kk b o (by simpa using hb) e) f0 f1 f3 f4 f5
   refine⟨_,rfl,V0j (s:={s with heap:=h',toks:=tk}) (n:="range_iterator") st' rfl rfl (by decide) ⟨.int (lo+i),H,I1,⟨t,?_⟩,⟨rfl,rfl⟩,st',fun b hb=>(hf b hb).1⟩⟩
   rw[Int.mul_one]
 done:=by
   intro X hP hw hK hc i pins s σ H E I hf st hg
   subst hP hw hK
   obtain⟨f0,f1,f2,f3,f4,f5⟩:=hf it (by simp)
   exact wpAny_pyNext_range_end (I.ok.hd hc) st (by have:n<=i:=hg;omega) fun h' eb=>⟨rfl,I.turned (t':=s.toks) (fun b o hb e=>eb b o hb e) f0 f1 f3 f4 f5⟩
 self:=fun _ _ _ _ _ st h=>wpAny_pyIter_rangeiter st h
section
variable{X:Cx}{tg:Expr}
noncomputable def J1w (K:PySem.W.Frag) (tl:TE):TI:=fun σ H R=>tl σ H fun x H1=>∃a,x= .ref a/\(∃xs,SqL K H1 a xs)/\R (Itl K a) H1
noncomputable def iTup (K:PySem.W.Frag) (tl:TE):TI:=fun σ H R=>tl σ H fun x H1=>∃a,x= .ref a/\(∃xs,SqT K H1 a xs)/\R (Itt K a) H1
theorem D9x{l:Expr}{tl:TE}(hl:PE X l tl):PI X tg l (J1w X.K tl):=by
 intro pins s σ H R I h
 refine thn (hl pins s σ H _ I h) fun v s1 hh_=>?_
 obtain⟨x,H1,I1,r1,q1⟩:=hh_
 obtain⟨a,e,⟨xs,hq⟩,q⟩:=q1
 subst e
 cases r1
 obtain⟨its,rv,p,hz⟩:=I1.list hq
 refine wpAny_pyIter_list p.isList ?_
 refine⟨s1.heap.objs.size,[s1.heap.objs.size],_,_,H1,rfl,I1.kept (t':=s1.toks) fun b o e=>Heap.get?_push_of_some _ e,V4c a _,⟨_,Heap.get?_push_size _ rfl,rfl,rfl⟩,fun b hb=>?_,q⟩
 have e:b=s1.heap.objs.size:=by simpa using hb
 subst e
 exact I1.fpOk (Nat.le_refl _) (I1.hok.fresh (Nat.le_refl _))
theorem Y1u{pins:List (Addr×Obj)}{σ:St}{H:Hp}{s:Shared}{R:It ->Hp ->Prop}{E:Value ->Shared ->Prop}{lo hi:Int}{t u v:Tok}{tk:Nat}(I:Inv X pins σ H s)(h1: -(2^62)<=lo)(h2:lo<2^62)(h3: -(2^62)<=hi)(h4:hi<2^62)
   (q:R (Itr lo (hi-lo).toNat) H):wpAny (model X.prog X.w) X.A (pyIter (.ref s.heap.objs.size)) (PIE X pins σ tg R) E {s with heap:=s.heap.push {cls:= .type "range",data:= .fields #[.int lo t,.int hi u,.int 1 v]},toks:=tk}:=by
 refine wpAny_pyIter_range (IsRange.new ..) (small_one h1 h2 h3 h4) ?_
 have I1:Inv X pins σ H {s with heap:=s.heap.push {cls:= .type "range",data:= .fields #[.int lo t,.int hi u,.int 1 v]},toks:=tk}:=I.kept fun b o e=>Heap.get?_push_of_some _ e
 refine⟨(s.heap.push {cls:= .type "range",data:= .fields #[.int lo t,.int hi u,.int 1 v]}).objs.size,[(s.heap.push {cls:= .type "range",data:= .fields #[.int lo t,.int hi u,.int 1 v]}).objs.size],_,_,H,rfl,
   I1.kept (t':=tk) fun b o e=>Heap.get?_push_of_some _ e,J7s _ lo (hi-lo).toNat,?_,fun b hb=>?_,q⟩
 . have e1:lo+((0:Nat):Int)*1=lo:=by simp
   have e2:(((hi-lo).toNat:Nat):Int)- ((0:Nat):Int)=Builtin.Range.rangeSize lo hi 1:=by rw[rangeSize_one];split<;>omega
   show IsRangeIter _ _ (lo+((0:Nat):Int)*1) ((((hi-lo).toNat:Nat):Int)- ((0:Nat):Int)) 1
   rw[e1,e2]
   exact Heap.get?_push_size _ rfl
 have e:b=(s.heap.push {cls:= .type "range",data:= .fields #[.int lo t,.int hi u,.int 1 v]}).objs.size:=by simpa using hb
 subst e
 exact I1.fpOk (Nat.le_refl _) (I1.hok.fresh (Nat.le_refl _))
noncomputable def A0mq (ta:TA):TI:=fun σ H R=>ta σ H fun vs H1=>∃j:Int,vs=[.int j]/\ -(2^62)<=j/\j<2^62/\R (Itr 0 j.toNat) H1
theorem B5e{a:Expr}{ta:TA}{p pos:Pos}(hg:Gl X "range")(hm:X.mg "range"=none)(ha:PA X [a] ta)(hs:starEach [a] X.env=[(false,eval a X.env)]:=by rfl):PI X tg (.Call (.Name "range" p) [a] [] pos) (A0mq ta):=by
 intro pins s σ H R I h
 refine Call_ (G0w I hg hm boot_range (PyProof.Rows.callWith_type1 (thn (ha pos pins s σ H _ I h) fun us s1 hh_=>?_) hs rfl))
 obtain⟨vs,H1,I1,r1,q1⟩:=hh_
 obtain⟨j,e,q1,q2,q⟩:=q1
 subst e
 cases r1 with
 | cons r rr=>
   cases rr
   obtain⟨t,rfl⟩:=r
   exact call_range_1 (Y1u I1 (by omega) (by omega) q1 q2 (by simpa using q))
noncomputable def tFor (wi:TI) (g:TG) (tb:TS):TS:=fun D σ H=>wi σ H fun J H1=>∃W:Nat ->Nat ->St ->Hp ->Prop,(∃m,W 0 m σ H1)/\∀i m σ H,W i m σ H ->
 (J.stop i H/\D.nx σ H)\/(J.go i H/\∃N:St ->Hp ->Prop,(∀σ' H',N σ' H' ->∃m',m'<m/\W (i+1) m' σ' H')/\∀x H',J.yld i H x H' ->g x σ H' fun σ2 H2=>tb {D with nx:=N,ct:=N,bk:=D.nx} σ2 H2)
noncomputable def A6q (fp:List Addr) (h:Heap):List (Addr×Obj):=fp.filterMap fun b=>(h.get? b).map fun o=>(b,o)
theorem A8n{fp:List Addr}{h:Heap}{b:Addr}{o:Obj}(hb:b∈fp)(e:h.get? b=some o):(b,o)∈A6q fp h:=List.mem_filterMap.mpr ⟨b,hb,by rw[e];rfl⟩
theorem V4p{fp:List Addr}{h:Heap}{p:Addr×Obj}(hp:p∈A6q fp h):p.1∈fp/\h.get? p.1=some p.2:=by
 obtain⟨b,hb,e⟩:=List.mem_filterMap.mp hp
 cases q:h.get? b with
 |none=>rw[q] at e;cases e
 | some o=>
   rw[q] at e
   have e':(b,o)=p:=Option.some.inj e
   subst e'
   exact⟨hb,q⟩
theorem Inv.pinned{pins:List (Addr×Obj)}{σ:St}{H:Hp}{s:Shared}{fp:List Addr}(I:Inv X pins σ H s)(hf:∀b∈fp,A4s X pins H b)(ho:∀b∈fp,∃o,s.heap.get? b=some o/\∀v,o.data≠ .cell v):Inv X (pins++A6q fp s.heap) σ H s:=
 I.pins_of fun p hp=>(List.mem_append.mp hp).elim (fun z=>I.pin p (List.mem_append_right _ z)) fun z=>by
   obtain⟨hb,e⟩:=V4p z
   obtain⟨f0,f1,f2,_⟩:=hf p.1 hb
   obtain⟨o,e',d⟩:=ho p.1 hb
   rw[e] at e';cases e'
   exact⟨e,f0,f1,f2,d⟩
theorem Inv.unpinned{pins pl:List (Addr×Obj)}{σ:St}{H:Hp}{s:Shared}(I:Inv X (pins++pl) σ H s):Inv X pins σ H s:=I.pins_of fun p hp=>I.pin p (List.mem_append_right _ (List.mem_append_left _ hp))
theorem C8m{iter:Expr}{body:List Stmt}{wi:TI}{g:TG}{tb:TS}{pos:Pos}(hp:PassesOwn (model X.prog X.w) X.A X.env X.xe)(hc:X.calm=true)(hi:PI X tg iter wi)(hg:PG X tg g)(hb:PSs X body tb)
   (hs:∀x,foldedSetIterable iter X.env x=pure x:=by intro _;rfl):PS X (.For tg iter body [] pos) (tFor wi g tb):=by
 intro pins s σ H D I h
 refine wpAny_For (thn (hi pins s σ H _ I h) fun v s1 h1=>thn h1 fun itv s2 h2=>?_) hs
 obtain⟨it,fp,tn,J,H2,e,I2,T,st2,f2,W,⟨m0,w0⟩,turn⟩:=h2
 subst e
 have stat:∀{H':Hp},(∀b∈fp,H' b=none) ->∀b∈fp,A4s X pins H' b:=fun hn b hb=>⟨hn b hb,(f2 b hb).2⟩
 refine codeAny_forLoop_any (fun n s'=>∃i σ' H',Inv X pins σ' H' s'/\tn i s'.heap/\(∀b∈fp,H' b=none)/\W i n σ' H') ?_ m0 ⟨0,σ,H2,I2,st2,fun b hb=>(f2 b hb).1,w0⟩
 rintro n s3 ⟨i,σ3,H3,I3,st3,fr3,w3⟩
 rcases turn i n σ3 H3 w3 with⟨stop,qn⟩|⟨go,N,hN,step⟩
 . refine wpAny_passesOwn hp (thn (T.done X rfl rfl rfl hc i pins s3 σ3 H3 X.xe I3 (stat fr3) st3 stop) fun r s4 ⟨hr,I4⟩=>?_)
   subst hr
   exact wpAny_execs_nil ⟨σ3,H3,I4,qn⟩
 refine wpAny_passesOwn hp (thn (T.item X rfl rfl rfl hc i pins s3 σ3 H3 X.xe I3 (stat fr3) st3 go) fun r s4 ⟨u,hr,h4⟩=>?_)
 subst hr
 refine wpAny_passesOwn hp (thn h4 fun _ s5 hh_=>?_)
 obtain⟨x,H5,I5,r5,y5,st5,fr5⟩:=hh_
 have I5':=I5.pinned (stat fr5) (T.obj _ _ st5)
 refine wpAny_passesOwn hp (thn (hg _ s5 σ3 H5 x u _ I5' r5 (step x H5 y5)) fun _ s6 hh_=>?_)
 obtain⟨σ6,H6,I6,q6⟩:=hh_
 refine wpAny_passesOwn hp (thn (hb _ s6 σ6 H6 _ I6 q6) fun f s7 q7=>?_)
 have again:∀{σ7:St} {H7:Hp},Inv X (pins++A6q fp s5.heap) σ7 H7 s7 ->N σ7 H7 ->∃m,m<n/\∃i σ' H',Inv X pins σ' H' s7/\tn i s7.heap/\(∀b∈fp,H' b=none)/\W i m σ' H':=fun{σ7 H7} I7 n7=>by
   obtain⟨m',hm,w7⟩:=hN σ7 H7 n7
   refine⟨m',hm,i+1,σ7,H7,I7.unpinned,T.keep _ _ _ st5 fun b hb o e=>(I7.pin (b,o) (List.mem_append_right _ (List.mem_append_right _ (A8n hb e)))).1,fun b hb=>?_,w7⟩
   obtain⟨o,e,d⟩:=T.obj _ _ st5 b hb
   exact(I7.pin (b,o) (List.mem_append_right _ (List.mem_append_right _ (A8n hb e)))).2.1
 cases f with
 |next=>obtain⟨σ7,H7,I7,n7⟩:=q7;exact again I7 n7
 |cont=>obtain⟨σ7,H7,I7,n7⟩:=q7;exact again I7 n7
 |brk=>obtain⟨σ7,H7,I7,q7⟩:=q7;exact⟨σ7,H7,I7.unpinned,q7⟩
 |ret v=>obtain⟨x7,σ7,H7,I7,r7,q7⟩:=q7;exact⟨x7,σ7,H7,I7.unpinned,r7,q7⟩
end
theorem B2c{K:PySem.W.Frag}{a:Addr}{xs:List V}{g:TG}{tb:TS}{D:G1n}{σ:St}{H:Hp}(Pv:Nat ->St ->Hp ->Prop)(h0:Pv 0 σ H)(hl:∀i σ H,i<=xs.length ->Pv i σ H ->SqL K H a xs)
   (hs:∀i x σ H,xs[i]?=some x ->Pv i σ H ->g x σ H fun σ2 H2=>tb {D with nx:=Pv (i+1),ct:=Pv (i+1),bk:=D.nx} σ2 H2) (hd:∀σ H,Pv xs.length σ H ->D.nx σ H):
   ∃ W:Nat ->Nat ->St ->Hp ->Prop,(∃m,W 0 m σ H)/\∀i m σ H,W i m σ H ->
     ((Itl K a).stop i H/\D.nx σ H)\/((Itl K a).go i H/\∃N:St ->Hp ->Prop,(∀σ' H',N σ' H' ->∃m',m'<m/\W (i+1) m' σ' H')/\∀x H',(Itl K a).yld i H x H' ->g x σ H' fun σ2 H2=>tb {D with nx:=N,ct:=N,bk:=D.nx} σ2 H2):=by
 refine⟨fun i m σ H=>m=xs.length-i/\i<=xs.length/\Pv i σ H,⟨xs.length,by simp,Nat.zero_le _,h0⟩,?_⟩
 rintro i m σ H ⟨rfl,hi,p⟩
 have q:=hl i σ H hi p
 by_cases hlt:i<xs.length
 . refine .inr ⟨⟨xs,xs[i],q,by simp[hlt]⟩,Pv (i+1),fun σ' H' p'=>⟨xs.length-(i+1),by omega,rfl,hlt,p'⟩,fun x H' y=>?_⟩
   obtain⟨e,y⟩:=y
   subst e
   exact hs i x σ _ (y xs q) p
 have e:i=xs.length:=by omega
 subst e
 exact .inl ⟨⟨xs,q,Nat.le_refl _⟩,hd σ H p⟩
theorem C0f{lo:Int}{n:Nat}{g:TG}{tb:TS}{D:G1n}{σ:St}{H:Hp}(Pv:Nat ->St ->Hp ->Prop)(h0:Pv 0 σ H)
   (hs:∀i σ H,i<n ->Pv i σ H ->g (.int (lo+i)) σ H fun σ2 H2=>tb {D with nx:=Pv (i+1),ct:=Pv (i+1),bk:=D.nx} σ2 H2) (hd:∀σ H,Pv n σ H ->D.nx σ H):
   ∃ W:Nat ->Nat ->St ->Hp ->Prop,(∃m,W 0 m σ H)/\∀i m σ H,W i m σ H ->
     ((Itr lo n).stop i H/\D.nx σ H)\/((Itr lo n).go i H/\∃N:St ->Hp ->Prop,(∀σ' H',N σ' H' ->∃m',m'<m/\W (i+1) m' σ' H')/\∀x H',(Itr lo n).yld i H x H' ->g x σ H' fun σ2 H2=>tb {D with nx:=N,ct:=N,bk:=D.nx} σ2 H2):=by
 refine⟨fun i m σ H=>m=n-i/\i<=n/\Pv i σ H,⟨n,by simp,Nat.zero_le _,h0⟩,?_⟩
 rintro i m σ H ⟨rfl,hi,p⟩
 by_cases hlt:i<n
 . refine .inr ⟨hlt,Pv (i+1),fun σ' H' p'=>⟨n-(i+1),by omega,rfl,hlt,p'⟩,fun x H' y=>?_⟩
   obtain⟨e,y⟩:=y
   subst e y
   exact hs i σ _ hlt p
 have e:i=n:=by omega
 subst e
 exact .inl ⟨Nat.le_refl _,hd σ H p⟩
theorem B9b{c:TT}{tb:TS}{D:G1n}{σ:St}{H:Hp}(Pv:St ->Hp ->Prop)(μ:St ->Hp ->Nat)(h0:Pv σ H)
   (hs:∀σ H,Pv σ H ->c σ H fun b H1=>if b=true then tb {D with nx:=fun σ' H'=>Pv σ' H'/\μ σ' H'<μ σ H,ct:=fun σ' H'=>Pv σ' H'/\μ σ' H'<μ σ H,bk:=D.nx} σ H1 else D.nx σ H1)
   (mono:∀σ H Q Q',(∀b H1,Q b H1 ->Q' b H1) ->c σ H Q ->c σ H Q'):Y2k c tb D σ H:=by
 refine⟨fun m σ H=>m=μ σ H/\Pv σ H,⟨_,rfl,h0⟩,?_⟩
 rintro m σ H ⟨rfl,p⟩
 refine mono σ H _ _ (fun b H1 q=>?_) (hs σ H p)
 cases b with
 |true=>exact⟨_,fun σ' H' ⟨p',l⟩=>⟨_,l,rfl,p'⟩,q⟩
 |false=>exact q
noncomputable abbrev R2:=V ->V ->Hp ->VK ->Prop
noncomputable def OpR (X:Cx) (f:Value ->Value ->Sem Value) (r:R2):Prop:=
 ∀ (pins:List (Addr×Obj)) (s:Shared) (σ:St) (H:Hp) (x y:V) (v u:Value) (Q:VK),Inv X pins σ H s ->V0 x v ->V0 y u ->r x y H Q ->
   wpAny (model X.prog X.w) X.A (f v u) (EP X pins σ Q) X.xe s
noncomputable def UnR (X:Cx) (f:Value ->Sem Value) (r:V ->Hp ->VK ->Prop):Prop:=
 ∀ (pins:List (Addr×Obj)) (s:Shared) (σ:St) (H:Hp) (x:V) (v:Value) (Q:VK),Inv X pins σ H s ->V0 x v ->r x H Q ->
   wpAny (model X.prog X.w) X.A (f v) (EP X pins σ Q) X.xe s
noncomputable def A5e (X:Cx) (f:Value) (r:List V ->Hp ->VK ->Prop):Prop:=
 ∀ (pins:List (Addr×Obj)) (s:Shared) (σ:St) (H:Hp) (xs:List V) (us:List Value) (Q:VK),Inv X pins σ H s ->U3 xs us ->r xs H Q ->
   wpAny (model X.prog X.w) X.A (call f us) (EP X pins σ Q) X.xe s
noncomputable def tOp (r:R2) (ta tb:TE):TE:=fun σ H Q=>ta σ H fun x H1=>tb σ H1 fun y H2=>r x y H2 Q
noncomputable def tUn (r:V ->Hp ->VK ->Prop) (ta:TE):TE:=fun σ H Q=>ta σ H fun x H1=>r x H1 Q
noncomputable def rI (C:Int ->Int ->Prop) (g:Int ->Int ->V):R2:=fun x y H Q=>∃i j,x= .int i/\y= .int j/\C i j/\Q (g i j) H
noncomputable def rI0 (g:Int ->Int ->V):R2:=fun x y H Q=>∃i j,x= .int i/\y= .int j/\Q (g i j) H
noncomputable def rU (g:Int ->V):V ->Hp ->VK ->Prop:=fun x H Q=>∃i,x= .int i/\Q (g i) H
section
variable{X:Cx}{a b c:Expr}{ta tb tc:TE}{pos:Pos}
theorem binT(ha:PE X a ta)(hb:PE X b tb){pins:List (Addr×Obj)}{s:Shared}{σ:St}{H:Hp}{R:V ->V ->Hp ->Prop}(I:Inv X pins σ H s)
   (h:ta σ H fun x H1=>tb σ H1 fun y H2=>R x y H2) {Q:Value ->Shared ->Prop} {f:Value ->Value ->Sem Value}
   (hf:∀v u s2 x y H2,Inv X pins σ H2 s2 ->V0 x v ->V0 y u ->R x y H2 ->wpAny (model X.prog X.w) X.A (f v u) Q X.xe s2):
   wpAny (model X.prog X.w) X.A (eval a X.env) (fun v s₁=>wpAny (model X.prog X.w) X.A (eval b X.env) (fun u s₂=>wpAny (model X.prog X.w) X.A (f v u) Q X.xe s₂) X.xe s₁) X.xe s:=by
 refine thn (ha pins s σ H _ I h) fun v s1 hh_=>?_
 obtain⟨x,H1,I1,r1,q1⟩:=hh_
 refine thn (hb pins s1 σ H1 _ I1 q1) fun u s2 hh_=>?_
 obtain⟨y,H2,I2,r2,q2⟩:=hh_
 exact hf v u s2 x y H2 I2 r1 r2 q2
theorem B1{op:Operator}{r:R2}(ho:OpR X (binaryOp op) r)(ha:PE X a ta)(hb:PE X b tb):PE X (.BinOp a op b pos) (tOp r ta tb):=by
 intro pins s σ H Q I h
 exact wpAny_BinOp (binT ha hb I h fun v u s2 x y H2 I2 rx ry q=>ho pins s2 σ H2 x y v u Q I2 rx ry q)
theorem B1a{op:UnaryOp}{r:V ->Hp ->VK ->Prop}(ho:UnR X (unaryOp op) r)(ha:PE X a ta):PE X (.UnaryOp op a pos) (tUn r ta):=by
 intro pins s σ H Q I h
 exact UnaryOp_ (thn (ha pins s σ H _ I h) fun v s1 ⟨x,H1,I1,r1,q1⟩=>ho pins s1 σ H1 x v Q I1 r1 q1)
theorem opI{f:Value ->Value ->Sem Value}{C:Int ->Int ->Prop}{g:Int ->Int ->Int}
   (rule:∀(i j:Int) (t u:Tok) (s:Shared) (Q:Value ->Shared ->Prop) (E:Value ->Shared ->Prop),C i j ->Q (.int (g i j) s.toks) {s with toks:=s.toks+1} ->wpAny (model X.prog X.w) X.A (f (.int i t) (.int j u)) Q E s):
   OpR X f (rI C fun i j=> .int (g i j)):=by
 intro pins s σ H x y v u Q I rx ry h
 obtain⟨i,j,rfl,rfl,hc,q⟩:=h
 obtain⟨t,rfl⟩:=rx
 obtain⟨t',rfl⟩:=ry
 exact rule i j t t' s _ _ hc ⟨.int (g i j),H,I.tok _,⟨_,rfl⟩,q⟩
theorem opI0{f:Value ->Value ->Sem Value}{g:Int ->Int ->Int}
   (rule:∀(i j:Int) (t u:Tok) (s:Shared) (Q:Value ->Shared ->Prop) (E:Value ->Shared ->Prop),Q (.int (g i j) s.toks) {s with toks:=s.toks+1} ->wpAny (model X.prog X.w) X.A (f (.int i t) (.int j u)) Q E s):
   OpR X f (rI0 fun i j=> .int (g i j)):=by
 intro pins s σ H x y v u Q I rx ry h
 obtain⟨i,j,rfl,rfl,q⟩:=h
 obtain⟨t,rfl⟩:=rx
 obtain⟨t',rfl⟩:=ry
 exact rule i j t t' s _ _ ⟨.int (g i j),H,I.tok _,⟨_,rfl⟩,q⟩
theorem opB0{f:Value ->Value ->Sem Value}{g:Int ->Int ->Bool}
   (rule:∀(i j:Int) (t u:Tok) (s:Shared) (Q:Value ->Shared ->Prop) (E:Value ->Shared ->Prop),Q (.bool (g i j)) s ->wpAny (model X.prog X.w) X.A (f (.int i t) (.int j u)) Q E s):
   OpR X f (rI0 fun i j=> .bl (g i j)):=by
 intro pins s σ H x y v u Q I rx ry h
 obtain⟨i,j,rfl,rfl,q⟩:=h
 obtain⟨t,rfl⟩:=rx
 obtain⟨t',rfl⟩:=ry
 exact rule i j t t' s _ _ ⟨.bl (g i j),H,I,rfl,q⟩
noncomputable def Y2q (i j:Int):Prop:=0<=j/\j<=1000000/\i.natAbs<2^64
noncomputable def C6t (i j:Int):Prop:=(-(2^64)<i/\i<2^64)\/(-(2^64)<j/\j<2^64)
theorem C6t.ok{i j:Int}(h:C6t i j):IntMulOk i j:=by
 rcases h with⟨h1,h2⟩|⟨h1,h2⟩
 . exact .of_left (intBits_le_64 h1 h2)
 exact .of_right (intBits_le_64 h1 h2)
theorem V4:OpR X (binaryOp .Add) (rI0 fun i j=> .int (i+j)):=opI0 fun _ _ _ _ _ _ _ q=>add_int q
theorem V2:OpR X (binaryOp .Sub) (rI0 fun i j=> .int (i-j)):=opI0 fun _ _ _ _ _ _ _ q=>sub_int q
theorem G2:OpR X (binaryOp .Mod) (rI (fun _ j=>0<j) fun i j=> .int (i % j)):=opI fun i j _ _ _ _ _ hc q=>by
 have h1:(0:Int)<j:=hc
 exact mod_int' (by omega) (by rw[Int.fmod_eq_emod_of_nonneg i (by omega)];exact q)
theorem G0q:OpR X (binaryOp .Pow) (rI Y2q fun i j=> .int (i^j.toNat)):=opI fun _ _ _ _ _ _ _ hc q=>pow_int_small hc.1 hc.2.1 hc.2.2 q
theorem Y1z:OpR X (binaryOp .LShift) (rI Y2q fun i j=> .int (i*2^j.toNat)):=opI fun _ _ _ _ _ _ _ hc q=>lshift_int_small hc.1 hc.2.1 hc.2.2 q
theorem unI{f:Value ->Sem Value}{g:Int ->Int}
   (rule:∀(i:Int) (t:Tok) (s:Shared) (Q:Value ->Shared ->Prop) (E:Value ->Shared ->Prop),Q (.int (g i) s.toks) {s with toks:=s.toks+1} ->wpAny (model X.prog X.w) X.A (f (.int i t)) Q E s):
   UnR X f (rU fun i=> .int (g i)):=by
 intro pins s σ H x v Q I rx h
 obtain⟨i,rfl,q⟩:=h
 obtain⟨t,rfl⟩:=rx
 exact rule i t s _ _ ⟨.int (g i),H,I.tok _,⟨_,rfl⟩,q⟩
theorem A5f:UnR X (unaryOp .USub) (rU fun i=> .int (-i)):=unI fun _ _ _ _ _ q=>neg_int q
end
noncomputable def scal:V ->V ->Bool
 | .non,.non=>true| .non,.int _=>true| .int _,.non=>true| .non,.bl _=>true| .bl _,.non=>true| .non,.str _=>true| .str _,.non=>true
 | .int _,.int _=>true| .bl _,.bl _=>true| .str _,.str _=>true| .byt _,.byt _=>true
 | .int _,.str _=>true| .str _,.int _=>true| .bl _,.str _=>true| .str _,.bl _=>true
 |_,_=>false
noncomputable def rEq:R2:=fun x y H Q=>scal x y=true/\Q (.bl (decide (x=y))) H
noncomputable def rNe:R2:=fun x y H Q=>scal x y=true/\Q (.bl (!decide (x=y))) H
theorem V1p{i j:Int}:decide (V.int i=V.int j)=(i==j):=by
 rw[Bool.eq_iff_iff]
 simp
theorem Y2b{i j:Bool}:decide (V.bl i=V.bl j)=(i==j):=by
 rw[Bool.eq_iff_iff]
 simp
theorem V0z{i j:Str}:decide (V.str i=V.str j)=(i==j):=by
 rw[Bool.eq_iff_iff]
 simp
theorem V1f{i j:Array UInt8}:decide (V.byt i=V.byt j)=(i.toList==j.toList):=by
 rw[Bool.eq_iff_iff]
 cases i
 cases j
 simp
section
variable{X:Cx}{a b c:Expr}{ta tb tc:TE}{pos:Pos}
theorem V6{pins:List (Addr×Obj)}{σ:St}{H:Hp}{s:Shared}{Q:VK}{k k':Bool}(I:Inv X pins σ H s)(q:Q (.bl k) H)(e:k=k'):EP X pins σ Q (.bool k') s:=by
 subst e
 exact⟨.bl k,H,I,rfl,q⟩
theorem G7:OpR X (compareOp .Eq) rEq:=by
 intro pins s σ H x y v u Q I rx ry h
 obtain⟨hs,q⟩:=h
 cases x with
 | non=>
   cases rx
   cases y with
   |non=>cases ry;exact PySem.EqNone.eq_none_none (V6 I q (by simp))
   |bl j=>cases ry;exact PySem.EqNone.eq_none_bool (V6 I q (by simp))
   |int j=>obtain⟨t',rfl⟩:=ry;exact PySem.EqNone.eq_none_int (V6 I q (by simp))
   |str j=>obtain⟨t',rfl⟩:=ry;exact PySem.EqNone.eq_none_str (V6 I q (by simp))
   |_=>exact absurd (show false=true from hs) Bool.false_ne_true
 | bl i=>
   cases rx
   cases y with
   |non=>cases ry;exact PySem.EqNone.eq_bool_none (V6 I q (by simp))
   |bl j=>cases ry;exact eq_bool (V6 I q Y2b)
   |str j=>obtain⟨t',rfl⟩:=ry;exact PySem.EqMixed.eq_bool_str (V6 I q (by simp))
   |_=>exact absurd (show false=true from hs) Bool.false_ne_true
 | int i=>
   obtain⟨t,rfl⟩:=rx
   cases y with
   |non=>cases ry;exact PySem.EqNone.eq_int_none (V6 I q (by simp))
   |int j=>obtain⟨t',rfl⟩:=ry;exact eq_int (V6 I q V1p)
   |str j=>obtain⟨t',rfl⟩:=ry;exact PySem.EqMixed.eq_int_str (V6 I q (by simp))
   |_=>exact absurd (show false=true from hs) Bool.false_ne_true
 | str i=>
   obtain⟨t,rfl⟩:=rx
   cases y with
   |non=>cases ry;exact PySem.EqNone.eq_str_none (V6 I q (by simp))
   |bl j=>cases ry;exact PySem.EqMixed.eq_str_bool (V6 I q (by simp))
   |int j=>obtain⟨t',rfl⟩:=ry;exact PySem.EqMixed.eq_str_int (V6 I q (by simp))
   |str j=>obtain⟨t',rfl⟩:=ry;exact eq_str (V6 I q V0z)
   |_=>exact absurd (show false=true from hs) Bool.false_ne_true
 | byt i=>
   obtain⟨t,rfl⟩:=rx
   cases y with
   |byt j=>obtain⟨t',rfl⟩:=ry;exact PySem.W.eq_bytes (V6 I q V1f)
   |_=>exact absurd (show false=true from hs) Bool.false_ne_true
 |_=>cases y<;>exact absurd (show false=true from hs) Bool.false_ne_true
theorem C7h:OpR X (compareOp .NotEq) rNe:=by
 intro pins s σ H x y v u Q I rx ry h
 obtain⟨hs,q⟩:=h
 cases x with
 | non=>
   cases rx
   cases y with
   |non=>cases ry;exact PySem.EqNone.ne_none_none (V6 I q (by simp))
   |bl j=>cases ry;exact PySem.EqNone.ne_none_bool (V6 I q (by simp))
   |int j=>obtain⟨t',rfl⟩:=ry;exact PySem.EqNone.ne_none_int (V6 I q (by simp))
   |str j=>obtain⟨t',rfl⟩:=ry;exact PySem.EqNone.ne_none_str (V6 I q (by simp))
   |_=>exact absurd (show false=true from hs) Bool.false_ne_true
 | bl i=>
   cases rx
   cases y with
   |non=>cases ry;exact PySem.EqNone.ne_bool_none (V6 I q (by simp))
   |bl j=>cases ry;exact ne_bool (V6 I q (congrArg not Y2b))
   |str j=>obtain⟨t',rfl⟩:=ry;exact PySem.EqMixed.ne_bool_str (V6 I q (by simp))
   |_=>exact absurd (show false=true from hs) Bool.false_ne_true
 | int i=>
   obtain⟨t,rfl⟩:=rx
   cases y with
   |non=>cases ry;exact PySem.EqNone.ne_int_none (V6 I q (by simp))
   |int j=>obtain⟨t',rfl⟩:=ry;exact ne_int (V6 I q (congrArg not V1p))
   |str j=>obtain⟨t',rfl⟩:=ry;exact PySem.EqMixed.ne_int_str (V6 I q (by simp))
   |_=>exact absurd (show false=true from hs) Bool.false_ne_true
 | str i=>
   obtain⟨t,rfl⟩:=rx
   cases y with
   |non=>cases ry;exact PySem.EqNone.ne_str_none (V6 I q (by simp))
   |bl j=>cases ry;exact PySem.EqMixed.ne_str_bool (V6 I q (by simp))
   |int j=>obtain⟨t',rfl⟩:=ry;exact PySem.EqMixed.ne_str_int (V6 I q (by simp))
   |str j=>obtain⟨t',rfl⟩:=ry;exact ne_str (V6 I q (congrArg not V0z))
   |_=>exact absurd (show false=true from hs) Bool.false_ne_true
 | byt i=>
   obtain⟨t,rfl⟩:=rx
   cases y with
   |byt j=>obtain⟨t',rfl⟩:=ry;exact PySem.W.ne_bytes (V6 I q (congrArg not V1f))
   |_=>exact absurd (show false=true from hs) Bool.false_ne_true
 |_=>cases y<;>exact absurd (show false=true from hs) Bool.false_ne_true
theorem D7u:OpR X (compareOp .Lt) (rI0 fun i j=> .bl (decide (i<j))):=opB0 fun _ _ _ _ _ _ _ q=>lt_int q
theorem A0eg:OpR X (compareOp .LtE) (rI0 fun i j=> .bl (decide (i<=j))):=opB0 fun _ _ _ _ _ _ _ q=>le_int q
theorem B9g:OpR X (compareOp .Gt) (rI0 fun i j=> .bl (decide (j<i))):=opB0 fun _ _ _ _ _ _ _ q=>gt_int q
theorem Y2h:OpR X (compareOp .GtE) (rI0 fun i j=> .bl (decide (j<=i))):=opB0 fun _ _ _ _ _ _ _ q=>ge_int q
theorem A0fa:OpR X (compareOp .Is) (fun x y H Q=>y= .non/\Q (.bl (decide (x= .non))) H):=by
 intro pins s σ H x y v u Q I rx ry h
 obtain⟨rfl,q⟩:=h
 cases ry
 refine is_none_gen (V6 I q ?_)
 cases x<;>first
   |(cases rx;rfl)
   |(obtain⟨t,rfl⟩:=rx;rfl)
theorem D0(b:Expr){op:CmpOp}(h:op≠ .In:=by decide)(h2:op≠ .NotIn:=by decide):behindInMarks op b=false:=by
 have e1:(op==CmpOp.In)=false:=by cases op<;>first|rfl|exact absurd rfl h
 have e2:(op==CmpOp.NotIn)=false:=by cases op<;>first|rfl|exact absurd rfl h2
 cases b<;>simp[behindInMarks,e1,e2]
theorem G6{op:CmpOp}{r:R2}(ho:OpR X (compareOp op) r)(ha:PE X a ta)(hb:PE X b tb)(hm:behindInMarks op b=false):PE X (.Compare a [op] [b] pos) (tOp r ta tb):=by
 intro pins s σ H Q I h
 exact wpAny_Compare1 (binT ha hb I h fun v u s2 x y H2 I2 rx ry q=>ho pins s2 σ H2 x y v u Q I2 rx ry q) hm
noncomputable def A0mn (t:TE):TT:=fun σ H Q=>t σ H fun x H'=>∃k,x= .bl k/\Q k H'
theorem D4{op:CmpOp}{r:R2}(ho:OpR X (compareOp op) r)(ha:PE X a ta)(hb:PE X b tb)(hm:behindInMarks op b=false):PT X (.Compare a [op] [b] pos) (A0mn (tOp r ta tb)):=by
 intro pins s σ H Q I h
 refine wpAny_isTrue_Compare1 (thn (ha pins s σ H _ I h) fun v s1 ⟨x,H1,I1,r1,q1⟩=>thn (hb pins s1 σ H1 _ I1 q1) fun u s2 ⟨y,H2,I2,r2,q2⟩=>
   thn (ho pins s2 σ H2 x y v u _ I2 r1 r2 q2) fun c s3 ⟨z,H3,I3,r3,k,e,q3⟩=>?_) hm
 subst e
 cases r3
 exact wpAny_truthy_bool ⟨H3,I3,q3⟩
theorem G0y:(sizeLine:Nat)<2^63:=by rw[sizeLine_eq];decide
theorem J8h:OpR X (binaryOp .Add) (fun x y H Q=>∃i j,x= .str i/\y= .str j/\i.length+j.length<=sizeLine/\Q (.str (i++j)) H):=by
 intro pins s σ H x y v u Q I rx ry h
 obtain⟨i,j,rfl,rfl,hz,q⟩:=h
 obtain⟨t,rfl⟩:=rx
 obtain⟨t',rfl⟩:=ry
 exact add_str (fun t' tk=>⟨.str (i++j),H,I.tok _,⟨_,rfl⟩,q⟩) hz
theorem C5p{x:V}{us:List Value}(r:U3 [x] us):∃u,us=[u]/\V0 x u:=by
 cases r with
 |cons r1 r2=>cases r2;exact⟨_,rfl,r1⟩
theorem Y0g{x y:V}{us:List Value}(r:U3 [x,y] us):∃u w',us=[u,w']/\V0 x u/\V0 y w':=by
 cases r with
 | cons r1 r2=>
   cases r2 with
   |cons r3 r4=>cases r4;exact⟨_,_,rfl,r1,r3⟩
theorem Z1(hc:X.calm=true):A5e X (.builtin "max") (fun xs H Q=>∃i j,xs=[.int i,.int j]/\Q (.int (if j>i then j else i)) H):=by
 intro pins s σ H xs us Q I r h
 obtain⟨i,j,rfl,q⟩:=h
 obtain⟨u,w',rfl,⟨t,rfl⟩,⟨t',rfl⟩⟩:=Y0g r
 refine max_two_ints (I.ok.hd hc) fun h' tk k=>⟨_,H,I.kept k,?_,q⟩
 by_cases hj:j>i
 . rw[if_pos hj,if_pos hj];exact⟨_,rfl⟩
 rw[if_neg hj,if_neg hj];exact⟨_,rfl⟩
theorem D8g(hc:X.calm=true):A5e X (.builtin "min") (fun xs H Q=>∃i j,xs=[.int i,.int j]/\Q (.int (if j<i then j else i)) H):=by
 intro pins s σ H xs us Q I r h
 obtain⟨i,j,rfl,q⟩:=h
 obtain⟨u,w',rfl,⟨t,rfl⟩,⟨t',rfl⟩⟩:=Y0g r
 refine min_two_ints (I.ok.hd hc) fun h' tk k=>⟨_,H,I.kept k,?_,q⟩
 by_cases hj:j<i
 . rw[if_pos hj,if_pos hj];exact⟨_,rfl⟩
 rw[if_neg hj,if_neg hj];exact⟨_,rfl⟩
theorem D7w:A5e X (.type "int") (fun xs H Q=>(∃i,xs=[.int i]/\Q (.int i) H)\/∃k,xs=[.bl k]/\Q (.int (if k then 1 else 0)) H):=by
 intro pins s σ H xs us Q I r h
 rcases h with⟨i,rfl,q⟩|⟨k,rfl,q⟩
 . obtain⟨u,rfl,t,rfl⟩:=C5p r
   exact call_int_int ⟨.int i,H,I,⟨_,rfl⟩,q⟩
 obtain⟨u,rfl,r1⟩:=C5p r
 cases r1
 exact call_int_bool ⟨.int (if k then 1 else 0),H,I.tok _,⟨_,rfl⟩,q⟩
theorem A3u:A5e X (.type "str") (fun xs H Q=>∃i,xs=[.int i]/\i.natAbs.log2<1920/\Q (.str (toString i)) H):=by
 intro pins s σ H xs us Q I r h
 obtain⟨i,rfl,hz,q⟩:=h
 obtain⟨u,rfl,t,rfl⟩:=C5p r
 exact PySem.P.str_of_int hz ⟨.str _,H,I.tok _,⟨_,rfl⟩,q⟩
end
structure J9s(h:Heap)(x dx C:Addr)(mA:Str ->Option Value):Prop where
 obj:h.get? x=some (PySem.W.instObj C dx)
 ns:h.Ns1 dx mA
 ne:dx≠x
theorem C0r{h:Heap}{dx:Addr}{mA:Str ->Option Value}(n:h.Ns1 dx mA):∃od,h.get? dx=some od/\∀name,PySem.W.lookIn name od=some (mA name):=by
 obtain⟨o,es,ep,ho,hd,hk,_,hm⟩:=n
 refine⟨o,ho,fun name=>?_⟩
 have e:=hm name
 unfold nsFind findBy at e
 rw[<-Array.find?_toList] at e
 unfold PySem.W.lookIn
 rw[hd]
 dsimp only
 split
 . rename_i y q
   rw[q] at e
   exact congrArg some e
 rename_i q
 rw[q] at e
 have a:es.toList.any (·.refKey)=false:=by
   rw[List.any_eq_false]
   intro y hy
   obtain⟨z,t,hkey⟩:=hk y (Array.mem_toList_iff.mp hy)
   simp[DictEntry.refKey,hkey]
 have a':¬es.toList.any (·.refKey)=true:=by rw[a];exact Bool.false_ne_true
 rw[if_neg a']
 exact congrArg some e
theorem J9s.look{h:Heap}{x dx C:Addr}{mA:Str ->Option Value}(I:J9s h x dx C mA):∃od,PySem.W.InstAt h x (PySem.W.instObj C dx) C (some od)/\∀name,PySem.W.lookIn name od=some (mA name):=
 let⟨od,ho,hl⟩:=C0r I.ns
 ⟨od,⟨I.obj,rfl,rfl,ho⟩,hl⟩
section
variable{prog:Program}{w:World}{A:Around}{E:Value ->Shared ->Prop}{s:Shared}{K:PySem.W.Frag}{x dx C f:Addr}{mA:Str ->Option Value}{name:Str}{v:Value}
theorem Z8w{expr:Bool}{Q:Value ->Shared ->Prop}(X:K.In s.heap)(I:J9s s.heap x dx C mA)(hg:PySem.W.plainGet K C name=true)(hh:PySem.W.hasDictIn K C=true)
   (ha:PySem.W.findIn K (.ref C) name=some none) (hv:mA name=some v) (hv':PySem.W.handedIn v=true) (h:Q v {s with toks:=s.toks+1}):
   wpAny (model prog w) A (getAttr (.ref x) name expr) Q E s:=by
 obtain⟨od,J,hl⟩:=I.look
 exact PySem.W.get_value X J (PySem.W.plainGet_of hg).1 (PySem.W.findObj_own hh ha rfl (by rw[hl,hv])) hv' h
theorem Y3n{pl:Sem Bool}{Q:Value×List Value ->Shared ->Prop}(X:K.In s.heap)(I:J9s s.heap x dx C mA)(hg:PySem.W.plainGet K C name=true)
   (hf:PySem.W.findIn K (.ref C) name=some (some (.ref f))) (ht:PySem.W.isFn K (.ref f)=true) (hv:mA name=none) (h:Q (.ref f,[.ref x]) s):
   wpAny (model prog w) A (getMethod (.ref x) name pl) Q E s:=by
 obtain⟨od,J,hl⟩:=I.look
 exact PySem.W.method_fn X J (PySem.W.plainGet_of hg).1 (PySem.W.plainGet_of hg).2 hf (beq_iff_eq.mp ht) (by show(PySem.W.lookIn name od).map (·.isSome)=some false;rw[hl,hv];rfl) h
theorem A0ax{ns:List Str}{Q:Unit ->Shared ->Prop}(X:K.In s.heap)(I:J9s s.heap x dx C mA)
   (hs:PySem.W.findIn K (.ref C) "__setattr__"=some (some (.builtin "object.__setattr__"))) (hp:PySem.W.plainOver K C=true) (ht:PySem.W.takerIn K C name=some none) (hh:PySem.W.hasDictIn K C=true)
   (hw:PySem.Within mA ns) (hsz:ns.length<=sizeLine)
   (h:∀h',J9s h' x dx C (fun y=>if y=name then some v else mA y) ->Heap.SameBut dx s.heap h' ->Q () {s with heap:=h',toks:=s.toks+2}):
   wpAny (model prog w) A (setAttr (.ref x) name v) Q E s:=by
 obtain⟨od,J,hl⟩:=I.look
 refine PySem.W.set_plain X J hs (PySem.W.osa_open (s:={s with toks:=s.toks+1}) (r:=none) X J hp ht fun b=>?_)
 obtain⟨cd,hc,hd'⟩:=PySem.W.any_some hh
 have hx:s.heap.get? x=some ⟨.ref C,some dx,.plain, #[]⟩:=I.obj
 refine wpAny_bind (wpAny_pure (wpAny_bind (wpAny_bind (wpAny_loadPart hx (wpAny_bind (PySem.W.Looks.here (s:={s with toks:=s.toks+1}) (PySem.W.looks_clsIn X hc) ?_))))))
 rw[hd']
 refine wpAny_pure (a:=some dx) (wpAny_bind (wpAny_pure (wpAny_bind ?_)))
 refine wpAny_nsSet1 (s:={s with toks:=s.toks+1}) I.ns fun h' hn2 hs2=>?_
 obtain⟨oD,esD,epD,hoD,hdD,hcD⟩:=hn2.count (PySem.Within.cons name v hw)
 refine wpAny_bind (wpAny_lookBehind hoD (by rw[hdD];exact pastItsLine_dict (Nat.le_trans hcD (by rw[List.length_cons];omega))) ?_)
 exact wpAny_pure (h _ ⟨(hs2.2 _ (Ne.symm I.ne)).trans I.obj,hn2,I.ne⟩ hs2)
theorem J2z{R:Result ->Shared ->Prop}{vs:List Value}{kw:List (Str×Value)}(X:K.In s.heap)(hm:PySem.W.makesIn K C=true)
   (hi:PySem.W.findIn K (.ref C) "__init__"=some (some (.ref f))) (hf:PySem.W.typeIn K (.ref f)=some (.type "function"))
   (h:codeAny (model prog w) (A.under (.builtin "type.__call__" ⟨.ref C::vs,kw⟩)) (.call (.ref f) ⟨.ref (s.heap.objs.size+1)::vs,kw⟩) (PySem.W.InitBack (s.heap.objs.size+1) R)
     {s with heap:=(s.heap.push PySem.W.emptyDict).push (PySem.W.instObj C s.heap.objs.size)}):
   codeAny (model prog w) A (.call (.ref C) ⟨vs,kw⟩) R s:=by
 obtain⟨hh,g,d,t,os⟩:=s
 exact PySem.W.make_core (PySem.W.makes_of X hm) (PySem.W.looks_findIn X hi) (fun self=>PySem.W.bind_fn X self hf) (.inl rfl) h
theorem V4d{R:Result ->Shared ->Prop}(X:K.In s.heap)(hm:PySem.W.makesIn K C=true)
   (hi:PySem.W.findIn K (.ref C) "__init__"=some (some (.builtin "object.__init__")))
   (hb:∀self,PySem.W.Looks (model prog w) s.heap (bindSpecial (.builtin "object.__init__") self) (.builtin "object.__init__",[self]))
   (h:codeAny (model prog w) (A.under (.builtin "type.__call__" ⟨[.ref C],[]⟩)) (.call (.builtin "object.__init__") ⟨[.ref (s.heap.objs.size+1)],[]⟩) (PySem.W.InitBack (s.heap.objs.size+1) R)
     {s with heap:=(s.heap.push PySem.W.emptyDict).push (PySem.W.instObj C s.heap.objs.size)}):
   codeAny (model prog w) A (.call (.ref C) ⟨[],[]⟩) R s:=by
 obtain⟨hh,g,d,t,os⟩:=s
 exact PySem.W.make_core (PySem.W.makes_of X hm) (PySem.W.looks_findIn X hi) hb (.inr ⟨rfl,rfl⟩) h
end
noncomputable def Y4 (f:Str) (v:V):List (Str×V) ->List (Str×V)
 | []=>[(f,v)]
 |(g,x)::r=>if g=f then(g,v)::r else(g,x)::Y4 f v r
theorem G4(f g:Str)(v:V):∀fs:List (Str×V),(Y4 f v fs).lookup g=if g=f then some v else fs.lookup g
 | []=>by
   show List.lookup g [(f,v)]=_
   by_cases h:g=f
   . have hb:(g==f)=true:=beq_iff_eq.mpr h
     simp only[List.lookup,hb,if_pos h]
   . have hb:(g==f)=false:=beq_eq_false_iff_ne.mpr h
     simp only[List.lookup,hb,if_neg h]
 | (k, x)::r=>by
   have ih:=G4 f g v r
   rw[show Y4 f v ((k,x)::r)=(if k=f then(k,v)::r else(k,x)::Y4 f v r) from rfl]
   by_cases hk:k=f
   . rw[if_pos hk]
     by_cases h:g=k
     . have hb:(g==k)=true:=beq_iff_eq.mpr h
       simp only[List.lookup,hb,if_pos (h.trans hk)]
     . have hb:(g==k)=false:=beq_eq_false_iff_ne.mpr h
       simp only[List.lookup,hb,if_neg (fun e:g=f=>h (e.trans hk.symm))]
   . rw[if_neg hk]
     by_cases h:g=k
     . have hb:(g==k)=true:=beq_iff_eq.mpr h
       simp only[List.lookup,hb,if_neg (fun e:g=f=>hk (h.symm.trans e))]
     . have hb:(g==k)=false:=beq_eq_false_iff_ne.mpr h
       simp only[List.lookup,hb]
       exact ih
theorem C0k(f:Str)(v:V):∀fs:List (Str×V),f∈(Y4 f v fs).map (·.1)/\∀g,g∈fs.map (·.1) ->g∈(Y4 f v fs).map (·.1)
 | []=>⟨by simp[Y4],fun g h=>by simp at h⟩
 | (k, x)::r=>by
   obtain⟨i1,i2⟩:=C0k f v r
   rw[show Y4 f v ((k,x)::r)=(if k=f then(k,v)::r else(k,x)::Y4 f v r) from rfl]
   by_cases hk:k=f
   . rw[if_pos hk]
     subst hk
     exact⟨by simp,fun g h=>by simpa using h⟩
   . rw[if_neg hk]
     refine⟨?_,fun g h=>?_⟩
     . rw[List.map_cons]
       exact List.mem_cons_of_mem _ i1
     . rw[List.map_cons] at h ⊢
       rcases List.mem_cons.mp h with e|e
       . exact List.mem_cons.mpr (.inl e)
       . exact List.mem_cons_of_mem _ (i2 g e)
theorem A2v(f:Str)(v:V):∀fs:List (Str×V),(Y4 f v fs).length<=fs.length+1
 | []=>by simp[Y4]
 | (k,x)::r=>by
   have ih:=A2v f v r
   rw[show Y4 f v ((k,x)::r)=(if k=f then(k,v)::r else(k,x)::Y4 f v r) from rfl]
   by_cases hk:k=f
   . rw[if_pos hk,List.length_cons,List.length_cons];omega
   . rw[if_neg hk,List.length_cons,List.length_cons];omega
theorem A7f.some_of{v:V}{o:Option Value}(r:A7f (some v) o):∃u,o=some u/\V0 v u:=by
 cases o with
 |none=>exact(show False from r).elim
 |some u=>exact⟨u,rfl,r⟩
theorem A7f.none_of{o:Option Value}(r:A7f none o):o=none:=by
 cases o with
 |none=>rfl
 |some u=>exact(show False from r).elim
theorem D7z{v:V}{u:Value}(r:V0 v u):PySem.W.handedIn u=true:=by
 cases v with
 |non=>cases(show u=Value.none from r);rfl
 |bl b=>cases(show u=Value.bool b from r);rfl
 |int i=>obtain⟨t,e⟩:=(show∃t,u=Value.int i t from r);cases e;rfl
 |str x=>obtain⟨t,e⟩:=(show∃t,u=Value.str x t from r);cases e;rfl
 |byt b=>obtain⟨t,e⟩:=(show∃t,u=Value.bytes b t from r);cases e;rfl
 |flt b=>obtain⟨t,e⟩:=(show∃t,u=Value.float b t from r);cases e;rfl
 |ref a=>cases(show u=Value.ref a from r);rfl
 |ty n=>cases(show u=Value.type n from r);rfl
section
variable{P:Program}{w:World}{H H':Hp}{h h':Heap}{a C dx:Addr}{fs fs':List (Str×V)}
theorem C6u(hok:HOk P w H h)(e:H a=some (.ins C dx fs)):∃mA,J9s h a dx C mA/\(∀f,A7f (fs.lookup f) (mA f))/\PySem.Within mA (fs.map (·.1))/\fs.length<=1000/\H dx=some (.own a):=by
 obtain⟨d,z,ne,ob,mA,n,r,q⟩:=(show Y9 P w H h a (.ins C dx fs) from hok a _ e)
 exact⟨mA,⟨ob,n,ne⟩,r,q,z,d⟩
end
structure Cls(K:PySem.W.Frag)(C:Addr):Prop where
 pg:PySem.W.plainGet K C Str.empty=true
 hd:PySem.W.hasDictIn K C=true
 po:PySem.W.plainOver K C=true
 sa:PySem.W.findIn K (.ref C) "__setattr__"=some (some (.builtin "object.__setattr__"))
theorem Cls.get{K:PySem.W.Frag}{C:Addr}(c:Cls K C)(f:Str):PySem.W.plainGet K C f=true:=c.pg
noncomputable def A0d (K:PySem.W.Frag) (C:Addr) (f:Str):Prop:=PySem.W.findIn K (.ref C) f=some none
theorem A0d.taker{K:PySem.W.Frag}{C:Addr}{f:Str}(n:A0d K C f):PySem.W.takerIn K C f=some none:=by
 unfold PySem.W.takerIn
 rw[show PySem.W.findIn K (.ref C) f=some none from n]
 rfl
structure A0c(K:PySem.W.Frag)(C:Addr)(m:Str)(f:Addr):Prop where
 at_:PySem.W.findIn K (.ref C) m=some (some (.ref f))
 fn:PySem.W.isFn K (.ref f)=true
 kp:PySem.W.keepIn K (.ref f)=true
section
variable{X:Cx}{pins:List (Addr×Obj)}{σ:St}{H:Hp}{s:Shared}{a C dx:Addr}{fs:List (Str×V)}{f:Str}{v:V}{A:Around}{E:Value ->Shared ->Prop}
theorem J8b{b:Bool}{Q:Value ->Shared ->Prop}(I:Inv X pins σ H s)(e:H a=some (.ins C dx fs))(c:Cls X.K C)(n:A0d X.K C f)(l:fs.lookup f=some v)
   (h:∀u s',Inv X pins σ H s' ->V0 v u ->Q u s'):wpAny (model X.prog X.w) A (getAttr (.ref a) f b) Q E s:=by
 obtain⟨mA,O,r,_,_,_⟩:=C6u I.hok e
 obtain⟨u,hu,ru⟩:=A7f.some_of (v:=v) (o:=mA f) (by rw[<-l];exact r f)
 exact Z8w I.kIn O (c.get f) c.hd n hu (D7z ru) (h u _ (I.tok _) ru)
theorem C8f{m:Str}{g:Addr}{pl:Sem Bool}{Q:Value×List Value ->Shared ->Prop}(I:Inv X pins σ H s)(e:H a=some (.ins C dx fs))(c:Cls X.K C)(k:A0c X.K C m g)(l:fs.lookup m=none)
   (h:Q (.ref g,[.ref a]) s):wpAny (model X.prog X.w) A (getMethod (.ref a) m pl) Q E s:=by
 obtain⟨mA,O,r,_,_,_⟩:=C6u I.hok e
 have hn:mA m=none:=A7f.none_of (by rw[<-l];exact r m)
 exact Y3n I.kIn O (c.get m) k.at_ k.fn hn h
theorem J8m{y:V}{u:Value}{Q:Unit ->Shared ->Prop}(I:Inv X pins σ H s)(e:H a=some (.ins C dx fs))(c:Cls X.K C)(n:A0d X.K C f)(hl:fs.length<1000)(ry:V0 y u)
   (h:∀s',Inv X pins σ (upd H a (.ins C dx (Y4 f y fs))) s' ->Q () s'):wpAny (model X.prog X.w) A (setAttr (.ref a) f u) Q E s:=by
 obtain⟨mA,O,r,wi,_,ho⟩:=C6u I.hok e
 have hz:(fs.map (·.1)).length<=sizeLine:=by rw[List.length_map,sizeLine_eq];omega
 refine A0ax I.kIn O c.sa c.po n.taker c.hd wi hz fun h' O' sb=>h _ ?_
 have hd:∃o,h'.get? dx=some o:=let⟨o,_,_,e',_⟩:=O'.ns;⟨o,e'⟩
 refine I.write (x:=a) (e:=dx) (by rw[e];exact True.intro) (.inr ho) (fun b q hb z=>(sb.2 b hb).trans z) hd ?_
 refine⟨by rw[C9 O.ne];exact ho,?_,O.ne,O'.obj,_,O'.ns,fun g=>?_,fun g hg=>?_⟩
 . have:=A2v f y fs;omega
 . show A7f ((Y4 f y fs).lookup g) (if g=f then some u else mA g)
   rw[G4]
   by_cases q:g=f
   . rw[if_pos q,if_pos q];exact ry
   . rw[if_neg q,if_neg q];exact r g
 by_cases q:g=f
 . rw[q];exact(C0k f y fs).1
 refine(C0k f y fs).2 g (wi g fun z=>hg ?_)
 show(if g=f then some u else mA g)=none
 rw[if_neg q];exact z
theorem Inv.made(I:Inv X pins σ H s):Inv X pins σ (upd (upd H s.heap.objs.size (.own (s.heap.objs.size+1))) (s.heap.objs.size+1) (.ins C s.heap.objs.size []))
   {s with heap:=(s.heap.push PySem.W.emptyDict).push (PySem.W.instObj C s.heap.objs.size)}:=by
 have e1:(s.heap.push PySem.W.emptyDict).get? s.heap.objs.size=some PySem.W.emptyDict:=Heap.get?_push_size s.heap rfl
 have e2:((s.heap.push PySem.W.emptyDict).push (PySem.W.instObj C s.heap.objs.size)).get? (s.heap.objs.size+1)=some (PySem.W.instObj C s.heap.objs.size):=by
   have:=Heap.get?_push_size (s.heap.push PySem.W.emptyDict) (o:=PySem.W.instObj C s.heap.objs.size) rfl
   rwa[Heap.size_push] at this
 have e3:(s.heap.push PySem.W.emptyDict).Ns s.heap.objs.size (fun _=>none):=⟨PySem.W.emptyDict, #[],_,e1,rfl,(fun e he=>absurd he (by simp)),fun _=>rfl⟩
 have I1:=I.laid (a:=s.heap.objs.size) (o:= .own (s.heap.objs.size+1)) (h':=s.heap.push PySem.W.emptyDict) (t':=s.toks) (fun b u q=>Heap.get?_push_of_some _ q) (Nat.le_refl _) ⟨_,e1⟩
 refine I1.laid (a:=s.heap.objs.size+1) (o:= .ins C s.heap.objs.size []) (t':=s.toks) (fun b u q=>Heap.get?_push_of_some _ q) (Nat.le_of_eq (Heap.size_push _ _)) ?_
 have ne:s.heap.objs.size≠s.heap.objs.size+1:=Nat.ne_of_lt (Nat.lt_succ_self _)
 refine⟨by rw[C9 ne,A7],Nat.zero_le _,ne,e2,fun _=>none,(Heap.Ns1.of_empty e3).at fun o q=>Heap.get?_push_of_some _ q,fun _=>True.intro,fun y hy=>absurd rfl hy⟩
theorem V0a{prog:Program}{w:World}{env:Env}{e:Expr}{f:Str}{pos:Pos}{s:Shared}{Q:Value ->Shared ->Prop}(hb:attributeBase e f env (eval e env)=eval e env)
   (h:wpAny (model prog w) A (eval e env) (fun o s₁=>wpAny (model prog w) A (getAttr o f true) Q E s₁) E s):wpAny (model prog w) A (eval (.Attribute e f pos) env) Q E s:=
 Attribute_any_ h (by rw[arm_eval_Attribute,hb])
end
noncomputable def tFld (K:PySem.W.Frag) (ta:TE) (f:Str):TE:=fun σ H Q=>ta σ H fun x H1=>∃a C dx fs v,x= .ref a/\H1 a=some (.ins C dx fs)/\Cls K C/\A0d K C f/\fs.lookup f=some v/\Q v H1
noncomputable def sFld (K:PySem.W.Frag) (ta tv:TE) (f:Str):TS:=fun D σ H=>tv σ H fun y H1=>ta σ H1 fun x H2=>∃a C dx fs,x= .ref a/\H2 a=some (.ins C dx fs)/\Cls K C/\A0d K C f/\fs.length<1000/\
 D.nx σ (upd H2 a (.ins C dx (Y4 f y fs)))
section
variable{X:Cx}{o e value:Expr}{f:Str}{pos pos' tpos:Pos}{ta tv:TE}
theorem J1(he:PE X e ta)(hb:attributeBase e f X.env (eval e X.env)=eval e X.env):PE X (.Attribute e f pos) (tFld X.K ta f):=by
 intro pins s σ H Q I h
 refine V0a hb (thn (he pins s σ H _ I h) fun u s1 hh_=>?_)
 obtain⟨x,H1,I1,rx,a,C,dx,fs,v,ex,ea,c,n,l,q⟩:=hh_
 subst ex
 obtain rfl:u=Value.ref a:=rx
 exact J8b I1 ea c n l fun u' s2 I2 ru=>⟨v,H1,I2,ru,q⟩
theorem A0y(ha:PE X o ta)(hv:PE X value tv)(hs:swapsWith value (some (.Attribute o f pos')) pos.line X.env=pure false):PS X (.Assign [.Attribute o f pos'] value pos) (sFld X.K ta tv f):=by
 intro pins s σ H D I h
 refine plainObj_wpAny_Assign_Attribute (thn (hv pins s σ H _ I h) fun u s1 ⟨y,H1,I1,ry,q⟩=>thn (ha pins s1 σ H1 _ I1 q) fun ov s2 hh_=>?_) hs
 obtain⟨x,H2,I2,rx,a,C,dx,fs,ex,ea,c,n,l,q2⟩:=hh_
 subst ex
 obtain rfl:ov=Value.ref a:=rx
 exact J8m I2 ea c n l ry fun s3 I3=>⟨σ,_,I3,q2⟩
end
section
variable{X:Cx}{pins:List (Addr×Obj)}{σ:St}{H:Hp}{s:Shared}{A:Around}{E:Value ->Shared ->Prop}{Q:Value ->Shared ->Prop}{c:Value}{b:Bool}
inductive B2d(K:PySem.W.Frag)(H:Hp):V ->Value ->Prop where
 |non:B2d K H .non (.type "NoneType")
 |bl (x:Bool):B2d K H (.bl x) (.type "bool")
 |int (i:Int):B2d K H (.int i) (.type "int")
 |str (x:Str):B2d K H (.str x) (.type "str")
 |flt (x:UInt64):B2d K H (.flt x) (.type "float")
 |lst {a:Addr} {xs:List V} (e:H a=some (.lst xs)):B2d K H (.ref a) (.type "list")
 |frz {a:Addr} {o:Obj} {xs:List V} (e:H a=some (.frz o (.lst xs))):B2d K H (.ref a) (.type "list")
 |tup {a:Addr} {xs:List V} (e:H a=some (.tup xs)):B2d K H (.ref a) (.type "tuple")
 |dK {a:Addr} {kvs:List (Key×V)} (e:H a=some (.dK kvs)):B2d K H (.ref a) (.type "dict")
 |dT {a:Addr} {kvs:List (List Key×V)} (e:H a=some (.dT kvs)):B2d K H (.ref a) (.type "dict")
 |ins {a C dx:Addr} {fs:List (Str×V)} (e:H a=some (.ins C dx fs)) (cl:Cls K C) (ha:PySem.W.findIn K (.ref C) "__class__"=some (some (.builtin "object.__class__")))
     (hn:PySem.W.specialIn K (.builtin "object.__class__") "__get__"=some (some (.builtin "getset_descriptor.__get__"))) (htk:PySem.W.takesIn K (.builtin "object.__class__")=some true)
     (hm:PySem.W.mroIn K C (.type "object")=some true):B2d K H (.ref a) (.ref C)
theorem V4h{x:V}{u t:Value}(I:Inv X pins σ H s)(rx:V0 x u)(ty:B2d X.K H x t)(e:PySem.W.kitOne X.K t c=some b)(h:∀tk,Q (.bool b) {s with toks:=tk}):
   wpAny (model X.prog X.w) A (call (.builtin "isinstance") [u,c]) Q E s:=by
 cases ty with
 |non=>cases(show u=Value.none from rx);exact PySem.W.kia_one PySem.W.kitx_none I.kIn True.intro e (fun z=>nomatch z) h
 |bl y=>cases(show u=Value.bool y from rx);exact PySem.W.kia_one PySem.W.kitx_bool I.kIn True.intro e (fun z=>nomatch z) h
 |int i=>obtain⟨t,q⟩:=(show∃t,u=Value.int i t from rx);cases q;exact PySem.W.kia_one PySem.W.kitx_int I.kIn True.intro e (fun z=>nomatch z) h
 |str y=>obtain⟨t,q⟩:=(show∃t,u=Value.str y t from rx);cases q;exact PySem.W.kia_one PySem.W.kitx_str I.kIn True.intro e (fun z=>nomatch z) h
 |flt y=>obtain⟨t,q⟩:=(show∃t,u=Value.float y t from rx);cases q;exact PySem.W.kia_one PySem.W.kitx_float I.kIn True.intro e (fun z=>nomatch z) h
 | @lst a xs ea=>
   cases(show u=Value.ref a from rx)
   obtain⟨_,_,n,_,h1⟩:=(show Y9 X.prog X.w H s.heap a (.lst xs) from I.hok a _ ea)
   exact PySem.W.kia_one PySem.W.kitx_list I.kIn ⟨_,h1,rfl⟩ e (fun z=>nomatch z) h
 | @frz a ob xs ea=>
   cases(show u=Value.ref a from rx)
   obtain⟨_,_,_,n,_,h1⟩:=(show Y9 X.prog X.w H s.heap a (.frz ob (.lst xs)) from I.hok a _ ea)
   exact PySem.W.kia_one PySem.W.kitx_list I.kIn ⟨_,h1,rfl⟩ e (fun z=>nomatch z) h
 | @tup a xs ea=>
   cases(show u=Value.ref a from rx)
   obtain⟨_,_,_,p⟩:=(show Y9 X.prog X.w H s.heap a (.tup xs) from I.hok a _ ea)
   obtain⟨o,h1,h2,_⟩:=p
   exact PySem.W.kia_one PySem.W.kitx_tuple I.kIn ⟨o,h1,h2⟩ e (fun z=>nomatch z) h
 | @dK a kvs ea=>
   cases(show u=Value.ref a from rx)
   obtain⟨_,_,vs,_,p⟩:=(show Y9 X.prog X.w H s.heap a (.dK kvs) from I.hok a _ ea)
   obtain⟨o,es,ep,h1,h2,_⟩:=p
   exact PySem.W.kia_one PySem.W.kitx_dict I.kIn ⟨o,h1,h2.1⟩ e (fun z=>nomatch z) h
 | @dT a kvs ea=>
   cases(show u=Value.ref a from rx)
   obtain⟨_,_,xs,_,o,es,ep,h1,h2,_⟩:=(show Y9 X.prog X.w H s.heap a (.dT kvs) from I.hok a _ ea)
   exact PySem.W.kia_one PySem.W.kitx_dict I.kIn ⟨o,h1,h2.1⟩ e (fun z=>nomatch z) h
 | @ins a C dx fs ea cl ha hn htk hm=>
   cases(show u=Value.ref a from rx)
   obtain⟨mA,O,_⟩:=C6u I.hok ea
   obtain⟨od,J,_⟩:=O.look
   exact PySem.W.kia_one (PySem.W.kitx_own (cl.get _) cl.hd ha hn htk hm) I.kIn J e (fun z=>nomatch z) h
end
structure Z5(k:Nat)(A:Around):Prop where
 hd:A.handled=none
 dp:A.depth+3*k+5<recursionLimit
 un:A.units+16*k+200<cLine
theorem Z5.mono{j k:Nat}{A:Around}(r:Z5 k A)(h:j<=k):Z5 j A:=⟨r.hd,by have:=r.dp;omega,by have:=r.un;omega⟩
theorem Z5.deeper{k:Nat}{A:Around}(r:Z5 (k+1) A)(env:Env):Z5 k (A.deeper env):=
 ⟨r.hd,by have:=r.dp;show A.depth+1+3*k+5<_;omega,by have:=r.un;show A.units+3+16*k+200<_;omega⟩
theorem J8s{A:Around}{C:Addr}{us:List Value}{kw:List (Str×Value)}:(A.under (.builtin "type.__call__" ⟨.ref C::us,kw⟩)).depth=A.depth+1:=by
 first|rfl|simp[Around.under,Code.weight,Code.isCreation,Code.isGuard,Code.isCaller,Code.frames,Code.isFrame,guardIds]
theorem J8u{A:Around}{C:Addr}{us:List Value}{kw:List (Str×Value)}:(A.under (.builtin "type.__call__" ⟨.ref C::us,kw⟩)).units=A.units+1:=by
 first|rfl|simp[Around.under,Code.cUnits,Code.frames,Code.isFrame]
theorem Z5.make{k:Nat}{A:Around}(r:Z5 (k+1) A)(C:Addr)(us:List Value)(kw:List (Str×Value)):Z5 k (A.under (.builtin "type.__call__" ⟨.ref C::us,kw⟩)):=
 ⟨r.hd,by have:=r.dp;rw[J8s];omega,by have:=r.un;rw[J8u];omega⟩
theorem Z5.depth{k:Nat}{A:Around}(r:Z5 k A):A.depth<recursionLimit:=by have:=r.dp;omega
theorem Z5.units{k:Nat}{A:Around}(r:Z5 k A):A.units+64<cLine:=by have:=r.un;omega
noncomputable def V4r:TA:=fun _ H Q=>Q [] H
noncomputable def J1j (ta:TE) (tr:TA):TA:=fun σ H Q=>ta σ H fun x H1=>tr σ H1 fun xs H2=>Q (x::xs) H2
section
variable{X:Cx}{e:Expr}{es:List Expr}{te:TE}{t:TA}{pos:Pos}
theorem A6:PA X [] V4r:=fun _ _ _ _ H Q I h=>Calls.spliced_nil ⟨[],H,I,.nil,h⟩
theorem A0(ha:PE X e te)(hr:PA X es t)(hs:starEach (e::es) X.env=(false,eval e X.env)::starEach es X.env:=by rfl):PA X (e::es) (J1j te t):=by
 intro pos pins s σ H Q I h
 rw[hs]
 show wpAny _ _ (spliced ((false,eval e X.env)::backTo pos (starEach es X.env))) _ _ s
 refine Calls.spliced_cons (thn (ha pins s σ H _ I h) fun u s1 hh_=>?_)
 obtain⟨x,H1,I1,r1,q1⟩:=hh_
 exact thn (hr pos pins s1 σ H1 _ I1 q1) fun us s2 ⟨xs,H2,I2,r2,q2⟩=>⟨x::xs,H2,I2,.cons r1 r2,q2⟩
noncomputable def tTup (t:TA):TE:=fun σ H Q=>t σ H fun xs H1=>xs.length<=sizeLine/\∀p,H1 p=none ->Q (.ref p) (upd H1 p (.tup xs))
noncomputable def tLst (t:TA):TE:=fun σ H Q=>t σ H fun xs H1=>xs.length<=sizeLine/\∀p,H1 p=none ->Q (.ref p) (upd H1 p (.lst xs))
theorem V3{x1}(h:PA X es t):PE X (.Tuple es x1 pos) (tTup t):=by
 intro pins s σ H Q I hq
 refine wpAny_Tuple_spliced (thn (h pos pins s σ H _ I hq) fun us s1 ⟨xs,H1,I1,r,z,q⟩=>⟨by rw[<-r.length];exact z,?_⟩)
 have hf:H1 s1.heap.objs.size=none:=I1.hok.fresh (Nat.le_refl _)
 refine⟨.ref s1.heap.objs.size,upd H1 s1.heap.objs.size (.tup xs),I1.laid (t':=s1.toks) (fun b u e=>Heap.get?_push_of_some _ e) (Nat.le_refl _) ?_,rfl,q _ hf⟩
 exact⟨z,us,r,⟨_,Heap.get?_push_size _ rfl,rfl,_,rfl⟩⟩
theorem U1(h:PA X es t):PE X (.List es pos) (tLst t):=by
 intro pins s σ H Q I hq
 refine wpAny_List_spliced (thn (h pos pins s σ H _ I hq) fun us s1 ⟨xs,H1,I1,r,z,q⟩=>⟨by rw[<-r.length];exact z,?_⟩)
 have hf:H1 s1.heap.objs.size=none:=I1.hok.fresh (Nat.le_refl _)
 refine⟨.ref s1.heap.objs.size,upd H1 s1.heap.objs.size (.lst xs),I1.laid (t':=s1.toks) (fun b u e=>Heap.get?_push_of_some _ e) (Nat.le_refl _) ?_,rfl,q _ hf⟩
 exact⟨z,us,0,r,Heap.get?_push_size _ rfl⟩
end
noncomputable abbrev Sp:=List V ->Hp ->VK ->XK ->Prop
noncomputable abbrev CXT:=List Env ->Hp ->Shared ->XK ->Value ->Shared ->Prop
structure D3s(P:Program)(w:World)(K:PySem.W.Frag)(mg:Str ->Option Value)(base:Heap)(A:Around)(outer:List Env)(s:Shared)(H:Hp):Prop where
 frames:A.frames=some outer
 mod:Mod K mg base
 bs:∀b o,base.get? b=some o ->s.heap.get? b=some o/\H b=none
 bsz:base.objs.size<=s.heap.objs.size
 funs:s.heap.FunFrames base outer
 frf:∀b∈frs outer,H b=none
 hok:HOk P w H s.heap
 bare:AllBare s.gens
noncomputable def CE (outer:List Env) (P:Program) (w:World) (H:Hp) (s:Shared) (Q:VK) (u:Value) (s':Shared):Prop:=
 ∃v H',s'.os=s.os/\AllBare s'.gens/\Un (frs outer) [] H H' s.heap s'.heap/\HOk P w H' s'.heap/\V0 v u/\Q v H'
noncomputable def CR (CX:CXT) (outer:List Env) (P:Program) (w:World) (H:Hp) (s:Shared) (Q:VK) (E:XK) (r:Result) (s':Shared):Prop:=
 match r with
 | .ok (.ret u)=>CE outer P w H s Q u s'
 | .ok _=>False
 | .error e=>CX outer H s E e s'
structure FnOk(P:Program)(w:World)(K:PySem.W.Frag)(mg:Str ->Option Value)(base:Heap)(CX:CXT)(k:Nat)(f:Addr)(fd:FuncData)(ps:List Str)(sp:Sp):Prop where
 len:∀vs H Q E,sp vs H Q E ->vs.length=ps.length
 run:∀(A:Around) (outer:List Env) (s:Shared) (H:Hp) (args:Args) (us:List Value) (vs:List V) (Q:VK) (E:XK),Z5 k A ->D3s P w K mg base A outer s H ->BindsTo s fd args (ps.zip us) ->U3 vs us ->sp vs H Q E ->
   codeAny (model P w) A (.call (.ref f) args) (CR CX outer P w H s Q E) s
theorem FnOk.mono{P:Program}{w:World}{K:PySem.W.Frag}{mg:Str ->Option Value}{base:Heap}{CX:CXT}{j k:Nat}{f:Addr}{fd:FuncData}{ps:List Str}{sp:Sp}(F:FnOk P w K mg base CX j f fd ps sp)(h:j<=k):
   FnOk P w K mg base CX k f fd ps sp:=⟨F.len,fun A outer s H args us vs Q E hr=>F.run A outer s H args us vs Q E (hr.mono h)⟩
theorem D3s.make{P:Program}{w:World}{K:PySem.W.Frag}{mg:Str ->Option Value}{base:Heap}{A:Around}{outer:List Env}{s:Shared}{H:Hp}(e:D3s P w K mg base A outer s H)(C:Addr)(us:List Value)(kw:List (Str×Value)):
   D3s P w K mg base (A.under (.builtin "type.__call__" ⟨.ref C::us,kw⟩)) outer s H:=⟨by first|exact e.frames|(simpa[Around.under,Code.envs,Code.isFrame,pushEnvs] using e.frames),e.mod,e.bs,e.bsz,e.funs,e.frf,e.hok,e.bare⟩
section
variable{X:Cx}{pins:List (Addr×Obj)}{σ:St}{H:Hp}{s s':Shared}
theorem Inv.env0(I:Inv X pins σ H s):D3s X.prog X.w X.K X.mg X.base X.A X.stack s H:=
 ⟨I.ok.frames,I.ok.mod,I.bs,Nat.le_trans I.ok.bsz I.sz,I.stack,I.stkFree,I.hok,I.bare⟩
theorem Inv.after{Q:VK}{u:Value}(I:Inv X pins σ H s)(h:CE X.stack X.prog X.w H s Q u s'):EP X pins σ Q u s':=by
 obtain⟨v,H',os,bare,un,hok,r,q⟩:=h
 obtain⟨hh,g,d,t,os'⟩:=s'
 obtain rfl:os'=s.os:=os
 exact⟨v,H',I.call (h':=hh) (g':=g) (d':=d) (t':=t) (ch:=[]) un hok bare (fun b z=>absurd z (by simp)),r,q⟩
end
noncomputable def A0ms (C:Addr) (sp:Sp) (dvs:List V) (E:XK) (t:TA):TE:=fun σ H Q=>t σ H fun vs H1=>∀x dx,H1 x=none ->H1 dx=none ->dx≠x ->
 sp (.ref x::(vs++dvs)) (upd (upd H1 dx (.own x)) x (.ins C dx [])) (fun v H2=>v= .non/\Q (.ref x) H2) E
noncomputable def A0p (K:PySem.W.Frag) (fd:FuncData) (ps:List Str) (ds:List Value):Prop:=
 ∀(s:Shared) (us:List Value),K.In s.heap ->(us++ds).length=ps.length ->BindsTo s fd ⟨us,[]⟩ (ps.zip (us++ds))
theorem A0p.all{K:PySem.W.Frag}{fd:FuncData}{ps:List Str}(h:∀us:List Value,us.length=ps.length ->bindArgs fd ⟨us,[]⟩=pure (ps.zip us)):A0p K fd ps []:=fun s us _ hl=>by
 rw[List.append_nil] at hl ⊢
 exact .of_eq (h us hl)
noncomputable def J7m (CX:CXT) (X:Cx) (E:XK):Prop:=∀(pins:List (Addr×Obj)) (σ:St) (H:Hp) (s:Shared) (e:Value) (s':Shared),Inv X pins σ H s ->CX X.stack H s E e s' ->X.xe e s'
section
variable{X:Cx}{CX:CXT}{k:Nat}{f C:Addr}{fd:FuncData}{ps:List Str}{sp:Sp}{dvs:List V}{ds:List Value}{E:XK}{x m:Str}{p pos apos:Pos}{e o:Expr}{es:List Expr}{ta:TE}{t:TA}
structure Mk(K:PySem.W.Frag)(C f:Addr):Prop where
 makes:PySem.W.makesIn K C=true
 init:PySem.W.findIn K (.ref C) "__init__"=some (some (.ref f))
 fn:PySem.W.isFn K (.ref f)=true
 kp:PySem.W.keepIn K (.ref C)=true
theorem Y1n{pins:List (Addr×Obj)}{σ:St}{H:Hp}{s:Shared}{Q:VK}{us:List Value}{vs:List V}(M:Mk X.K C f)(F:FnOk X.prog X.w X.K X.mg X.base CX k f fd ps sp)(hr:Z5 (k+1) X.A)(hb:A0p X.K fd ps ds)(hd:U3 dvs ds)
   (hx:J7m CX X E) (I:Inv X pins σ H s) (r:U3 vs us)
   (h:∀x dx,H x=none ->H dx=none ->dx≠x ->sp (.ref x::(vs++dvs)) (upd (upd H dx (.own x)) x (.ins C dx [])) (fun v H2=>v= .non/\Q (.ref x) H2) E):
   wpAny (model X.prog X.w) X.A (call (.ref C) us) (EP X pins σ Q) X.xe s:=by
 have hq:=h (s.heap.objs.size+1) s.heap.objs.size (I.hok.fresh (Nat.le_succ _)) (I.hok.fresh (Nat.le_refl _)) (Nat.ne_of_lt (Nat.lt_succ_self _))
 have I2:=Inv.made (C:=C) I
 have r2:U3 (V.ref (s.heap.objs.size+1)::(vs++dvs)) (Value.ref (s.heap.objs.size+1)::(us++ds)):= .cons rfl (r.append hd)
 have hl:(Value.ref (s.heap.objs.size+1)::us++ds).length=ps.length:=by
   have e:=r2.length
   rw[F.len _ _ _ _ hq] at e
   exact e.symm
 refine wpAny_call (J2z (f:=f) I.kIn M.makes M.init (beq_iff_eq.mp M.fn) (codeAny_mono (F.run _ X.stack _ _ ⟨Value.ref (s.heap.objs.size+1)::us,[]⟩ (Value.ref (s.heap.objs.size+1)::(us++ds)) _ _ E (hr.make C us [])
   (I2.env0.make C us []) (hb _ (Value.ref (s.heap.objs.size+1)::us) I2.kIn hl) r2 hq) fun r s' hq'=>?_))
 cases r with
 |error e=>exact hx pins σ _ _ e s' I2 hq'
 | ok fl=>
   cases fl with
   | ret u=>
     obtain⟨v,H',I3,rv,ev,q3⟩:=I2.after hq'
     subst ev
     exact⟨rv,⟨V.ref (s.heap.objs.size+1),H',I3,rfl,q3⟩⟩
   |next=>exact False.elim hq'
   |brk=>exact False.elim hq'
   |cont=>exact False.elim hq'
theorem G0e(M:Mk X.K C f)(F:FnOk X.prog X.w X.K X.mg X.base CX k f fd ps sp)(hr:Z5 (k+1) X.A)(hg:Gl X x)(hm:X.mg x=some (.ref C))(hb:A0p X.K fd ps ds)(hd:U3 dvs ds)(hx:J7m CX X E)
   (ha:PA X (e::es) t) (hdb:(x==("__debug__":Str))=false:=by decide) (he:starEach (e::es) X.env=(false,eval e X.env)::starEach es X.env:=by rfl) (hpl:(backTo pos (starEach es X.env)).any (·.1)=false:=by rfl):
   PE X (.Call (.Name x p) (e::es) [] pos) (A0ms C sp dvs E t):=by
 intro pins s σ H Q I h
 refine wpAny_Call_Name_kw (A2n I hg hm ?_ hdb)
 refine PySem.W.callWith_K (h₀:=X.base) I.ok.mod.kin M.kp (thn (ha pos pins s σ H _ I h) fun us s1 ⟨vs,H1,I1,r,q⟩=>⟨I1.kIn,?_⟩) he hpl
 exact Y1n M F hr hb hd hx I1 r q
end
section
variable{X:Cx}{CX:CXT}{k:Nat}{f C:Addr}{fd:FuncData}{ps ks:List Str}{sp:Sp}{E:XK}{x m:Str}{p pos apos kpos:Pos}{e o:Expr}{es:List Expr}{kws:List Keyword}{te ta:TE}{t tk:TA}{nm:Option Str}
structure A0gz(K:PySem.W.Frag)(fd:FuncData)(ps ks:List Str)(g:List Value ->List Value ->List Value)(gV:List V ->List V ->List V):Prop where
 to:∀(s:Shared) (us ws:List Value),K.In s.heap ->(g us ws).length=ps.length ->BindsTo s fd ⟨us,ks.zip ws⟩ (ps.zip (g us ws))
 rel:∀{vs:List V} {us:List Value} {zs:List V} {ws:List Value},U3 vs us ->U3 zs ws ->U3 (gV vs zs) (g us ws)
variable{g:List Value ->List Value ->List Value}{gV:List V ->List V ->List V}
end
structure B9(N P:List Str)(sc:Scope):Prop where
 kind:sc.kind= .function
 co:sc.isCoroutine=false
 gen:sc.isGenerator=false
 nd:N.Nodup
 pre:N.take P.length=P
 par:∀x∈P,sc.names.lookup x=some .local\/sc.names.lookup x=some .cell
 nofree:∀y∈sc.names,y.2≠ .free
theorem D8d{kindOf:Str ->Option NameKind}{x:Str}:∀{binds:List (Str×Value)} {m:Str ->Option Value},(∀v,(x,v) ∉ binds) ->bindL kindOf binds m x=m x
 | [],_,_=>rfl
 | (n,v)::r,m,h=>by
   unfold bindL
   rw[D8d fun w hw=>h w (List.mem_cons_of_mem _ hw)]
   split
   . have:x≠n:=by rintro rfl;exact h v List.mem_cons_self
     simp[this]
   . rfl
theorem D8h{kindOf:Str ->Option NameKind}{x:Str}:∀{binds:List (Str×Value)} {m:Str ->Option Value},(∀v,(x,v) ∉ binds) ->bindC kindOf binds m x=m x
 | [],_,_=>rfl
 | (n,v)::r,m,h=>by
   unfold bindC
   rw[D8h fun w hw=>h w (List.mem_cons_of_mem _ hw)]
   split
   . rfl
   . have:x≠n:=by rintro rfl;exact h v List.mem_cons_self
     simp[this]
theorem D7b{kindOf:Str ->Option NameKind}{x:Str}{v:Value}:∀{P:List Str} {vs:List Value} {i:Nat} {m:Str ->Option Value},P.Nodup ->P[i]?=some x ->vs[i]?=some v ->kindOf x=some .local ->
   bindL kindOf (P.zip vs) m x=some v
 | [],_,_,_,_,h,_,_=>by simp at h
 |_::_,[],_,_,_,_,h,_=>by simp at h
 | p::P,w::vs,0,m,nd,h1,h2,hk=>by
   simp at h1 h2;subst h1;subst h2
   show bindL kindOf ((p,w)::P.zip vs) m p=_
   unfold bindL
   rw[D8d fun v hv=>(List.nodup_cons.mp nd).1 (List.of_mem_zip hv).1,if_pos hk]
   simp
 | p::P,w::vs,i+1,m,nd,h1,h2,hk=>by
   show bindL kindOf ((p,w)::P.zip vs) m x=_
   unfold bindL
   exact D7b (i:=i) (List.nodup_cons.mp nd).2 (by simpa using h1) (by simpa using h2) hk
theorem D7p{kindOf:Str ->Option NameKind}{x:Str}{v:Value}:∀{P:List Str} {vs:List Value} {i:Nat} {m:Str ->Option Value},P.Nodup ->P[i]?=some x ->vs[i]?=some v ->kindOf x≠some .local ->
   bindC kindOf (P.zip vs) m x=some v
 | [],_,_,_,_,h,_,_=>by simp at h
 |_::_,[],_,_,_,_,h,_=>by simp at h
 | p::P,w::vs,0,m,nd,h1,h2,hk=>by
   simp at h1 h2;subst h1;subst h2
   show bindC kindOf ((p,w)::P.zip vs) m p=_
   unfold bindC
   rw[D8h fun v hv=>(List.nodup_cons.mp nd).1 (List.of_mem_zip hv).1,if_neg hk]
   simp
 | p::P,w::vs,i+1,m,nd,h1,h2,hk=>by
   show bindC kindOf ((p,w)::P.zip vs) m x=_
   unfold bindC
   exact D7p (i:=i) (List.nodup_cons.mp nd).2 (by simpa using h1) (by simpa using h2) hk
noncomputable def A4z (N:List Str) (vs:List V):St:=vs.map some++List.replicate (N.length-vs.length) none
noncomputable def A0w (CX:CXT) (P:Program) (w:World) (K:PySem.W.Frag) (mg:Str ->Option Value) (base:Heap) (N:List Str) (qual:Str) (scope:Scope) (f:Addr) (cd:Value) (A:Around) (outer:List Env) (s:Shared) (H:Hp) (E:XK):Cx where
 prog:=P
 w:=w
 K:=K
 mg:=mg
 base:=base
 A:=A.deeper (envOfC qual scope s.heap.objs.size f cd)
 N:=N
 s₀:=s
 H₀:=H
 env:=envOfC qual scope s.heap.objs.size f cd
 outer:=outer
 stack:=envOfC qual scope s.heap.objs.size f cd::outer
 ex:=[]
 calm:=true
 fn:=fun _=>true
 pn:=[]
 xe:=fun e s'=>wpAny (model P w) (A.deeper (envOfC qual scope s.heap.objs.size f cd)) (leaving (envOfC qual scope s.heap.objs.size f cd) e) (fun _ s''=>CX outer H s E e s'') (fun e' s''=>CX outer H s E e' s'') s'
theorem J2y{sc:Scope}{n:Nat}{x:Str}(h:sc.names.lookup x=some .cell):∃c,(cellsFrom n sc.names []).lookup x=some c:=by
 have q:=PySem.W.cellsFrom_some sc.names n [] (.inl h)
 exact Option.isSome_iff_exists.mp q
theorem D7e{CX:CXT}{P:Program}{w:World}{K:PySem.W.Frag}{mg:Str ->Option Value}{base:Heap}{N ps:List Str}{qual:Str}{scope:Scope}{f:Addr}{cd:Value}{A:Around}{outer:List Env}{s s1:Shared}{H:Hp}{E:XK}{us:List Value}{vs:List V}
   (S:B9 N ps scope) (hd:A.handled=none) (e0:D3s P w K mg base A outer s H) (hl:vs.length=ps.length) (r:U3 vs us)
   (x:InCallC s s.heap.objs.size (bindL (envOfC qual scope s.heap.objs.size f cd).kindOf (ps.zip us) fun _=>none) (cellsFrom (s.heap.objs.size+1) scope.names []) (bindC (envOfC qual scope s.heap.objs.size f cd).kindOf (ps.zip us) fun _=>none) s1):
   Inv (A0w CX P w K mg base N qual scope f cd A outer s H E) [] (A4z N vs) H s1:=by
 have hpl:ps.length<=N.length:=by have:=congrArg List.length S.pre;rw[List.length_take] at this;omega
 obtain⟨h1,tk,rfl,hk⟩:=x.done
 have noA:∀b:Addr,b ∉ (A0w CX P w K mg base N qual scope f cd A outer s H E).ex:=fun b z=>absurd (show b∈([]:List Addr) from z) (by simp)
 refine⟨⟨e0.mod,S.kind,rfl,rfl,Nat.le_refl _,fun y z c h1 h2=>?_,fun y hy=>?_,fun y c _ h=>?_,fun _=>hd,Around.frames_deeper e0.frames,.inr ⟨rfl,rfl⟩,fun b z=>absurd z (noA b),e0.bs,e0.bsz,fun b _ _=>noA b,fun b z=>absurd z (noA b),e0.funs,e0.frf⟩,
   rfl,e0.bare,Un.kept hk,⟨_,x.toInCall.ns,fun i y v h1 h2 h3=>?_⟩,fun y c h=>⟨_,x.cell y c h⟩,e0.hok.fresh (Nat.le_refl _),fun y c h=>?_,fun p hp=>absurd (show p∈([]:List (Addr×Obj)) from hp) (by simp),e0.hok.kept hk,?_⟩
 . exact name_of_addr x.apart (PySem.mem_of_lookup h1) (PySem.mem_of_lookup h2)
 . have hy:scope.names.lookup y=some .cell\/scope.names.lookup y=some .free:=hy
   rcases hy with hy|hy
   . exact J2y hy
   . exact absurd rfl (S.nofree _ (PySem.mem_of_lookup hy))
 . exact Nat.le_of_lt (x.above y c (PySem.mem_of_lookup h))
 . have hi:i<vs.length:=by
     unfold A4z at h2
     by_cases hi:i<vs.length
     . exact hi
     . rw[List.getElem?_append_right (by simpa using hi)] at h2
       rw[List.getElem?_replicate] at h2
       split at h2<;>cases h2
   have ha:vs[i]?=some v:=by
     unfold A4z at h2
     rw[List.getElem?_append_left (by simpa using hi),List.getElem?_map] at h2
     cases e:vs[i]? with
     |none=>rw[e] at h2;cases h2
     |some a=>rw[e] at h2;cases h2;rfl
   obtain⟨u,hu,rv⟩:=r.get ha
   have hp:ps[i]?=some y:=by
     rw[<-S.pre,List.getElem?_take_of_lt (by omega)];exact h1
   have ndP:ps.Nodup:=by rw[<-S.pre];exact S.nd.sublist (List.take_sublist _ _)
   refine⟨u,rv,?_⟩
   rcases S.par y (List.mem_of_getElem? hp) with k|k
   . exact .inl ⟨k,D7b ndP hp hu k⟩
   . obtain⟨c,e⟩:=J2y (n:=s.heap.objs.size+1) k
     refine .inr ⟨.inl k,c,e,?_⟩
     have q:=x.cell y c e
     rw[D7p ndP hp hu (by show scope.names.lookup y≠_;rw[k];decide)] at q
     exact q
 . exact e0.hok.fresh (Nat.le_of_lt (x.above y c (PySem.mem_of_lookup h)))
 unfold A4z
 show _=N.length
 rw[List.length_append,List.length_map,List.length_replicate]
 omega
theorem Y1b{CX:CXT}{P:Program}{w:World}{K:PySem.W.Frag}{mg:Str ->Option Value}{base:Heap}{k:Nat}{f:Addr}{name qual:Str}{params:Arguments}{body:List Stmt}{scope:Scope}{dV kV doc pm cdv ct oc:Value}{an od:Option Addr}
   {osl:Array (Option Value)} {N ps:List Str} {sp:Sp} (lk:K.lookup f=some ⟨oc,od,.func (PySem.W.fnOf name qual params body scope dV kV doc pm an cdv ct),osl⟩) (hcd:PySem.W.codeIn K cdv qual=true) (S:B9 N ps scope)
   (len:∀vs H Q E,sp vs H Q E ->vs.length=ps.length)
   (hbody:∀(A:Around) (outer:List Env) (s:Shared) (H:Hp) (vs:List V) (Q:VK) (E:XK),Z5 k (A.deeper (envOfC qual scope s.heap.objs.size f cdv)) ->sp vs H Q E ->
     ∃t,PSs (A0w CX P w K mg base N qual scope f cdv A outer s H E) body t/\t {nx:=fun _ H'=>Q .non H',rt:=Q} (A4z N vs) H):
   FnOk P w K mg base CX (k+1) f (PySem.W.fnOf name qual params body scope dV kV doc pm an cdv ct) ps sp:=by
 refine⟨len,fun A outer s H args us vs Q E hr e0 hb r hsp=>?_⟩
 have hl:=len _ _ _ _ hsp
 have KX:K.In s.heap:=e0.mod.kin.keeps fun b o e=>(e0.bs b o e).1
 have lim:s.heap.NoLimit:=e0.mod.nolimit.keeps fun b o e=>(e0.bs b o e).1
 have hkind:∀y∈ps.zip us,scope.names.lookup y.1=some .local\/(scope.names.lookup y.1=some .cell/\((cellsFrom (s.heap.objs.size+1) scope.names []).lookup y.1).isSome=true):=fun⟨n,v⟩ hy=>by
   rcases S.par n (List.of_mem_zip hy).1 with q|q
   . exact .inl q
   . exact .inr ⟨q,PySem.W.cellsFrom_some _ _ _ (.inl q)⟩
 refine codeAny_call_function hr.depth (KX _ _ lk) rfl S.co S.gen rfl (PySem.W.codeRec_of KX hcd) (hb _ _ _ _ ?_)
 refine wpAny_newFunctionEnv_cells S.kind hkind fun env he s1 x=>?_
 subst he
 refine⟨lim.keeps x.toInCall.keep,codeAny_func ?_⟩
 obtain⟨t,ht,hq⟩:=hbody A outer s H vs Q E (hr.deeper _) hsp
 have I:Inv (A0w CX P w K mg base N qual scope f cdv A outer s H E) [] (A4z N vs) H s1:=D7e S hr.hd e0 hl r x
 refine wpAny_mono (ht [] s1 (A4z N vs) H _ I hq) (fun fl s' hs=>?_) fun e s' hs=>hs
 have fin:∀{σ':St} {H':Hp} {v:V} {u:Value},Inv (A0w CX P w K mg base N qual scope f cdv A outer s H E) [] σ' H' s' ->V0 v u ->Q v H' ->CE outer P w H s Q u s':=
   fun{σ' H' v u} J rv q=>⟨v,H',J.os,J.bare,J.base,J.hok,rv,q⟩
 cases fl with
 | ret u=>
   obtain⟨v,σ',H',J,rv,q⟩:=hs
   exact fin J rv q
 | next=>
   obtain⟨σ',H',J,q⟩:=hs
   exact fin (v:=V.non) (u:=Value.none) J rfl q
 | brk=>
   obtain⟨_,_,_,q⟩:=hs
   exact False.elim q
 | cont=>
   obtain⟨_,_,_,q⟩:=hs
   exact False.elim q
section
variable{X:Cx}{x:Str}{p pos:Pos}{e:Expr}{es:List Expr}{t:TA}{id T:String}{r:List V ->Hp ->VK ->Prop}
noncomputable def tCB (r:List V ->Hp ->VK ->Prop) (t:TA):TE:=fun σ H Q=>t σ H fun vs H1=>r vs H1 Q
theorem V1(hc:A5e X (.builtin id) r)(hg:Gl X x)(hm:X.mg x=none)(hv:bootBuiltins x=some (.builtin id))(ha:PA X (e::es) t)(hn:x≠"__name__":=by decide)(hdb:(x==("__debug__":Str))=false:=by decide)
   (he:starEach (e::es) X.env=(false,eval e X.env)::starEach es X.env:=by rfl) (hpl:(backTo pos (starEach es X.env)).any (·.1)=false:=by rfl):PE X (.Call (.Name x p) (e::es) [] pos) (tCB r t):=by
 intro pins s σ H Q I h
 refine wpAny_Call_Name_kw (G0w I hg hm hv ?_ hn hdb)
 exact PyProof.Rows.callWith_builtin1 (thn (ha pos pins s σ H _ I h) fun us s1 ⟨vs,H1,I1,r1,q1⟩=>hc pins s1 σ H1 vs us Q I1 r1 q1) he hpl
theorem Y7(hc:A5e X (.type T) r)(hg:Gl X x)(hm:X.mg x=none)(hv:bootBuiltins x=some (.type T))(ha:PA X (e::es) t)(hn:x≠"__name__":=by decide)(hdb:(x==("__debug__":Str))=false:=by decide)
   (he:starEach (e::es) X.env=(false,eval e X.env)::starEach es X.env:=by rfl) (hpl:(backTo pos (starEach es X.env)).any (·.1)=false:=by rfl):PE X (.Call (.Name x p) (e::es) [] pos) (tCB r t):=by
 intro pins s σ H Q I h
 refine wpAny_Call_Name_kw (G0w I hg hm hv ?_ hn hdb)
 exact PyProof.Rows.callWith_type1 (thn (ha pos pins s σ H _ I h) fun us s1 ⟨vs,H1,I1,r1,q1⟩=>hc pins s1 σ H1 vs us Q I1 r1 q1) he hpl
end
end L2
namespace HT
open PySem PyProof.Rows
section
open PySem.SeqAt
open PySem.AutoSeq1 (wpAny_loadPart')
open PySem.MeetsSeq PySem.MeetsSeq2 PySem.MeetsSeq3
end
section
variable{prog:Program}{w:World}{A:Around}{E:Value ->Shared ->Prop}{s:Shared}
end
end HT
namespace L2
open PySem PySem.Spec PyProof.Rows
section
variable{X:Cx}{e:Expr}{te:TE}{lo hi:Option Expr}{tl th:TO}{pos p2:Pos}
end
noncomputable def ixN (n:Nat) (i:Int):Option Nat:=if 0<=i then(if i<n then some i.toNat else none) else if -(n:Int)<=i then some (i+n).toNat else none
noncomputable def atI {α:Type} (xs:List α) (i:Int):Option α:=(ixN xs.length i).bind fun j=>xs[j]?
theorem Z7r{n:Nat}{i:Int}{j:Nat}(h:ixN n i=some j):seqIndex? i n=some j/\j<n/\ -(n:Int)<=i/\i<n:=by
 unfold ixN at h
 by_cases h0:0<=i
 . rw[if_pos h0] at h
   by_cases h1:i<n
   . rw[if_pos h1] at h
     have e:i.toNat=j:=Option.some.inj h
     exact⟨by rw[seqIndex_of h0 h1,e],by omega,by omega,h1⟩
   . rw[if_neg h1] at h;cases h
 rw[if_neg h0] at h
 by_cases h1: -(n:Int)<=i
 . rw[if_pos h1] at h
   have e:(i+n).toNat=j:=Option.some.inj h
   exact⟨by rw[seqIndex_neg (by omega) h1,e],by omega,h1,by omega⟩
 rw[if_neg h1] at h;cases h
theorem V0q{α:Type}{xs:List α}{i:Int}{v:α}(h:atI xs i=some v):∃j,seqIndex? i xs.length=some j/\xs[j]?=some v/\j<xs.length/\ -(xs.length:Int)<=i/\i<xs.length:=by
 unfold atI at h
 cases e:ixN xs.length i with
 |none=>rw[e] at h;cases h
 | some j=>
   rw[e] at h
   obtain⟨h1,h2,h3,h4⟩:=Z7r e
   exact⟨j,h1,h,h2,h3,h4⟩
theorem U7{α:Type}{xs:List α}{j:Nat}{v:α}(h:xs[j]?=some v):atI xs (j:Int)=some v:=by
 have hj:j<xs.length:=(List.getElem?_eq_some_iff.mp h).1
 have e:ixN xs.length (j:Int)=some j:=by
   unfold ixN
   rw[if_pos (by omega),if_pos (by omega)];simp
 unfold atI;rw[e];exact h
noncomputable def Z9t (b:Expr):Prop:=∀o i,subscripted b false o i=operate [o,i] (getItem o i)
noncomputable def IxR (X:Cx) (r:R2):Prop:=
 ∀ (value slice:Expr) (pins:List (Addr×Obj)) (s:Shared) (σ:St) (H:Hp) (x y:V) (v u:Value) (Q:VK),Inv X pins σ H s ->V0 x v ->V0 y u ->r x y H Q ->
   subscripted slice false v u=operate [v,u] (getItem v u) ->wpAny (model X.prog X.w) X.A (subscriptTail value slice v u) (EP X pins σ Q) X.xe s
noncomputable def MtR (X:Cx) (id:String) (r:V ->List V ->Hp ->VK ->Prop):Prop:=
 ∀ (pins:List (Addr×Obj)) (s:Shared) (σ:St) (H:Hp) (x:V) (xs:List V) (v:Value) (us:List Value) (Q:VK),Inv X pins σ H s ->V0 x v ->U3 xs us ->r x xs H Q ->
   wpAny (model X.prog X.w) X.A (call (.builtin id) (v::us)) (EP X pins σ Q) X.xe s
section
variable{X:Cx}{a b:Expr}{ta tb:TE}{pos:Pos}
theorem V5{r:R2}(hr:IxR X r)(ha:PE X a ta)(hb:PE X b tb)(hs:Z9t b):PE X (.Subscript a b pos) (tOp r ta tb):=by
 intro pins s σ H Q I h
 exact Subscript_ (binT ha hb I h fun v u s2 x y H2 I2 rx ry q=>hr a b pins s2 σ H2 x y v u Q I2 rx ry q (hs _ _))
noncomputable def rIxL (K:PySem.W.Frag):R2:=fun x y H Q=>∃p xs i v,x= .ref p/\y= .int i/\SqL K H p xs/\atI xs i=some v/\Q v H
noncomputable def rIxT (K:PySem.W.Frag):R2:=fun x y H Q=>∃p xs i v,x= .ref p/\y= .int i/\SqT K H p xs/\atI xs i=some v/\Q v H
theorem A0a:IxR X (rIxL X.K):=by
 intro value slice pins s σ H x y v u Q I rx ry h hs
 obtain⟨p,xs,i,z,rfl,rfl,hq,he,q⟩:=h
 cases rx
 obtain⟨t,rfl⟩:=ry
 obtain⟨its,r,pl,hz⟩:=I.list hq
 obtain⟨j,h1,h2,h3,h4,h5⟩:=V0q he
 obtain⟨w,ew,rw'⟩:=r.get h2
 have hl:=r.length
 have hn:=G0y
 have fin:EP X pins σ Q w s:=⟨z,H,I,rw',q⟩
 by_cases h0:0<=i
 . have hj:i.toNat=j:=by
     rw[seqIndex_of h0 h5] at h1
     exact Option.some.inj h1
   exact item_listR pl.isList h0 (by omega) (by rw[hj];simpa using ew) fin hs
 have hj:(i+(its.toArray.size:Int)).toNat=j:=by
   rw[seqIndex_neg (by omega) h4] at h1
   rw[List.size_toArray, <-hl]
   exact Option.some.inj h1
 exact subscriptTail_builtinR (x:=w) pl.isList.typeIs slot_list_getitem.lookup
   (wpAny_getItem_list_neg (Q:=fun r s'=>r=w/\EP X pins σ Q r s') pl.isList (by omega) (by rw[List.size_toArray]<;>omega) (by omega) (by rw[hj];simpa using ew) ⟨rfl,fin⟩) hs
theorem Y2:IxR X (rIxT X.K):=by
 intro value slice pins s σ H x y v u Q I rx ry h hs
 obtain⟨p,xs,i,z,rfl,rfl,hq,he,q⟩:=h
 cases rx
 obtain⟨t,rfl⟩:=ry
 obtain⟨its,r,pl,hz⟩:=I.tuple hq
 obtain⟨j,h1,h2,h3,h4,h5⟩:=V0q he
 obtain⟨w,ew,rw'⟩:=r.get h2
 have hl:=r.length
 have hn:=G0y
 have fin:EP X pins σ Q w s:=⟨z,H,I,rw',q⟩
 exact subscriptTail_builtinR (x:=w) pl.typeIs slot_tuple_getitem.lookup
   (getItem_tuple (j:=j) (Q:=fun r s'=>r=w/\EP X pins σ Q r s') pl (by omega) (by omega) (by rw[List.size_toArray, <-hl];exact h1) (by simpa using ew) ⟨rfl,fin⟩) hs
noncomputable def B9k:V ->Bool
 | .non=>true
 | .bl _=>true
 | .int _=>true
 | .str _=>true
 |_=>false
noncomputable def eqV:V ->V ->Bool
 | .non,.non=>true
 | .bl a,.bl b=>a==b
 | .bl a,.int b=>(if a then 1 else 0)==b
 | .int a,.bl b=>a==(if b then 1 else 0)
 | .int a,.int b=>a==b
 | .str a,.str b=>a==b
 |_,_=>false
theorem A0fk{A:Around}{s:Shared}{y x:V}{u v:Value}(ry:V0 y u)(rx:V0 x v)(fy:B9k y=true)(fx:B9k x=true):SeqAt.EqAt A s u v (eqV y x):=by
 cases y with
 | non=>
   cases ry
   cases x with
   |non=>cases rx;exact SeqAt.EqAt.same _
   |bl b=>cases rx;exact SeqAt.EqAt.none_bool b
   |int b=>obtain⟨t,rfl⟩:=rx;exact SeqAt.EqAt.none_int b t
   |str b=>obtain⟨t,rfl⟩:=rx;exact SeqAt.EqAt.none_str b t
   |_=>exact absurd (show false=true from fx) Bool.false_ne_true
 | bl a=>
   cases ry
   cases x with
   |non=>cases rx;exact SeqAt.EqAt.bool_none a
   |bl b=>cases rx;exact SeqAt.EqAt.bool_bool a b
   |int b=>obtain⟨t,rfl⟩:=rx;exact SeqAt.EqAt.bool_int a b t
   |str b=>obtain⟨t,rfl⟩:=rx;exact SeqAt.EqAt.bool_str a b t
   |_=>exact absurd (show false=true from fx) Bool.false_ne_true
 | int a=>
   obtain⟨t',rfl⟩:=ry
   cases x with
   |non=>cases rx;exact SeqAt.EqAt.int_none a t'
   |bl b=>cases rx;exact SeqAt.EqAt.int_bool a t' b
   |int b=>obtain⟨t,rfl⟩:=rx;exact SeqAt.EqAt.int_int a t' b t
   |str b=>obtain⟨t,rfl⟩:=rx;exact SeqAt.EqAt.int_str a t' b t
   |_=>exact absurd (show false=true from fx) Bool.false_ne_true
 | str a=>
   obtain⟨t',rfl⟩:=ry
   cases x with
   |non=>cases rx;exact SeqAt.EqAt.str_none a t'
   |bl b=>cases rx;exact SeqAt.EqAt.str_bool a t' b
   |int b=>obtain⟨t,rfl⟩:=rx;exact SeqAt.EqAt.str_int a t' b t
   |str b=>obtain⟨t,rfl⟩:=rx;exact SeqAt.EqAt.str_str a t' b t
   |_=>exact absurd (show false=true from fx) Bool.false_ne_true
 |_=>exact absurd (show false=true from fy) Bool.false_ne_true
noncomputable def eqU (x:V) (u:Value):Bool:=match u with
 | .none=>eqV .non x
 | .bool b=>eqV (.bl b) x
 | .int i _=>eqV (.int i) x
 | .str z _=>eqV (.str z) x
 |_=>false
theorem Y2c{x y:V}{u:Value}(r:V0 y u)(f:B9k y=true):eqU x u=eqV y x:=by
 cases y with
 |non=>cases r;rfl
 |bl b=>cases r;rfl
 |int i=>obtain⟨t,rfl⟩:=r;rfl
 |str z=>obtain⟨t,rfl⟩:=r;rfl
 |_=>exact absurd (show false=true from f) Bool.false_ne_true
theorem B8w{x:V}:∀{xs:List V} {us:List Value},U3 xs us ->xs.all B9k=true ->us.any (eqU x)=xs.any fun y=>eqV y x
 |_,_,.nil,_=>rfl
 | y::xs,u::us,.cons r t,f=>by
   rw[List.all_cons,Bool.and_eq_true] at f
   rw[List.any_cons,List.any_cons,Y2c r f.1,B8w t f.2]
theorem B1b{A:Around}{s:Shared}{x:V}{v:Value}(rx:V0 x v)(fx:B9k x=true):∀{xs:List V} {us:List Value},U3 xs us ->xs.all B9k=true ->∀u∈us,SeqAt.EqAt A s u v (eqU x u)
 |_,_,.nil,_=>fun u hu=>by cases hu
 | y::xs,u::us,.cons r t,f=>fun u' hu=>by
   rw[List.all_cons,Bool.and_eq_true] at f
   rcases List.mem_cons.mp hu with rfl|hu
   . rw[Y2c r f.1];exact A0fk r rx f.1 fx
   . exact B1b rx fx t f.2 u' hu
noncomputable def inV (x:V) (xs:List V):Bool:=xs.any fun y=>eqV y x
noncomputable def rIn (K:PySem.W.Frag) (neg:Bool):R2:=fun x y H Q=>∃p xs,y= .ref p/\(SqL K H p xs\/SqT K H p xs)/\B9k x=true/\xs.all B9k=true/\Q (.bl (if neg then !inV x xs else inV x xs)) H
theorem A7b:OpR X (compareOp .In) (rIn X.K false):=by
 intro pins s σ H x y v u Q I rx ry h
 obtain⟨p,xs,rfl,hq,fx,fs,q⟩:=h
 cases ry
 rcases hq with hq|hq
 . obtain⟨its,r,pl,hz⟩:=I.list hq
   refine SeqAt.in_listAt (eqU x) pl.isList (fun w hw=>B1b rx fx r fs w (by simpa using hw)) ⟨.bl _,H,I,rfl,?_⟩
   rw[show its.toArray.any (eqU x)=its.any (eqU x) by simp,B8w r fs]
   exact q
 obtain⟨its,r,pl,hz⟩:=I.tuple hq
 refine SeqAt.in_tupleAt (eqU x) pl (fun w hw=>B1b rx fx r fs w (by simpa using hw)) ⟨.bl _,H,I,rfl,?_⟩
 rw[show its.toArray.any (eqU x)=its.any (eqU x) by simp,B8w r fs]
 exact q
theorem G0x:OpR X (compareOp .NotIn) (rIn X.K true):=by
 intro pins s σ H x y v u Q I rx ry h
 obtain⟨p,xs,rfl,hq,fx,fs,q⟩:=h
 cases ry
 rcases hq with hq|hq
 . obtain⟨its,r,pl,hz⟩:=I.list hq
   refine SeqAt.notIn_listAt (eqU x) pl.isList (fun w hw=>B1b rx fx r fs w (by simpa using hw)) ⟨.bl _,H,I,rfl,?_⟩
   rw[show its.toArray.any (eqU x)=its.any (eqU x) by simp,B8w r fs]
   exact q
 obtain⟨its,r,pl,hz⟩:=I.tuple hq
 refine SeqAt.notIn_tupleAt (eqU x) pl (fun w hw=>B1b rx fx r fs w (by simpa using hw)) ⟨.bl _,H,I,rfl,?_⟩
 rw[show its.toArray.any (eqU x)=its.any (eqU x) by simp,B8w r fs]
 exact q
theorem B9j:A5e X (.builtin "len") (fun xs H Q=>∃p ys,xs=[.ref p]/\(SqL X.K H p ys\/SqT X.K H p ys)/\Q (.int ys.length) H):=by
 intro pins s σ H xs us Q I r h
 obtain⟨p,ys,rfl,hq,q⟩:=h
 obtain⟨u,rfl,rx⟩:=C5p r
 cases rx
 have hn:=G0y
 rcases hq with hq|hq
 . obtain⟨its,r',pl,hz⟩:=I.list hq
   have hlen:=r'.length
   exact Calls.call_len_list pl.isList (by simp only[List.size_toArray]<;>omega) ⟨.int ys.length,H,I.tok _,⟨s.toks+1,by rw[List.size_toArray,hlen]⟩,q⟩
 obtain⟨its,r',pl,hz⟩:=I.tuple hq
 have hlen:=r'.length
 exact len_tuple pl (by simp only[List.size_toArray]<;>omega) ⟨.int ys.length,H,I.tok _,⟨s.toks+1,by rw[List.size_toArray,hlen]⟩,q⟩
theorem A3t:A5e X (.builtin "len") (fun xs H Q=>∃z,xs=[.str z]/\z.length<=sizeLine/\Q (.int z.length) H):=by
 intro pins s σ H xs us Q I r h
 obtain⟨z,rfl,hz,q⟩:=h
 obtain⟨u,rfl,t,rfl⟩:=C5p r
 have hn:=G0y
 exact len_str (by omega) ⟨.int z.length,H,I.tok _,⟨_,rfl⟩,q⟩
theorem A7x:A5e X (.type "list") (fun xs H Q=>∃p ys,xs=[.ref p]/\(SqL X.K H p ys\/SqT X.K H p ys)/\∀l,H l=none ->Q (.ref l) (upd H l (.lst ys))):=by
 intro pins s σ H xs us Q I r h
 obtain⟨p,ys,rfl,hq,q⟩:=h
 obtain⟨u,rfl,rx⟩:=C5p r
 cases rx
 have fin:∀(its:List Value),U3 ys its ->ys.length<=sizeLine ->∀(h':Heap) (c':Nat),(∀b o',s.heap.get? b=some o' ->h'.get? b=some o') ->
     h'.get? s.heap.objs.size=some {cls:= .type "list",dict:=none,data:= .seq its.toArray c',slots:= #[]} ->EP X pins σ Q (.ref s.heap.objs.size) {s with heap:=h'}:=fun its r' hz h' c' kp e=>
   ⟨.ref s.heap.objs.size,_,I.laid (t':=s.toks) kp (Nat.le_refl _) (show Y9 X.prog X.w _ h' _ (.lst ys) from⟨hz,its,c',r',e⟩),rfl,q _ (I.hok.fresh (Nat.le_refl _))⟩
 rcases hq with hq|hq
 . obtain⟨its,r',pl,hz⟩:=I.list hq
   have hlen:=r'.length
   obtain⟨o,ho,hc,n,hd⟩:=pl.isList
   exact call_list_seq p (.inl rfl) ho hc hd (fun h' c' kp e=>fin its r' hz h' c' kp e) (by simp only[List.size_toArray]<;>omega)
 obtain⟨its,r',pl,hz⟩:=I.tuple hq
 have hlen:=r'.length
 obtain⟨o,ho,hc,n,hd⟩:=pl
 exact call_list_seq p (.inr rfl) ho hc hd (fun h' c' kp e=>fin its r' hz h' c' kp e) (by simp only[List.size_toArray]<;>omega)
theorem D3f:A5e X (.type "tuple") (fun xs H Q=>∃p ys,xs=[.ref p]/\((SqL X.K H p ys/\∀l,H l=none ->Q (.ref l) (upd H l (.tup ys)))\/(SqT X.K H p ys/\Q (.ref p) H))):=by
 intro pins s σ H xs us Q I r h
 obtain⟨p,ys,rfl,h⟩:=h
 obtain⟨u,rfl,rx⟩:=C5p r
 cases rx
 rcases h with⟨hq,q⟩|⟨hq,q⟩
 . obtain⟨its,r',pl,hz⟩:=I.list hq
   have hlen:=r'.length
   refine call_tuple_list pl.isList (fun h' kp=>?_) (by simp only[List.size_toArray]<;>omega)
   have I1:Inv X pins σ H {s with heap:=h'}:=I.kept (t':=s.toks) kp
   have I2:Inv X pins σ (upd H h'.objs.size (.tup ys)) {s with heap:=h'.push {cls:= .type "tuple",data:= .seq its.toArray}}:=
     I1.laid (t':=s.toks) (fun b o e=>Heap.get?_push_of_some _ e) (Nat.le_refl _) (show Y9 X.prog X.w _ _ _ (.tup ys) from⟨hz,its,r',IsTup.new _ _⟩)
   exact⟨.ref h'.objs.size,_,I2,rfl,q _ (I1.hok.fresh (Nat.le_refl _))⟩
 obtain⟨its,r',pl,hz⟩:=I.tuple hq
 exact call_tuple_same pl ⟨.ref p,H,I,rfl,q⟩
noncomputable def tyV (K:PySem.W.Frag) (T:String) (x:V) (H:Hp):Prop:=match x with
 | .str _=>T="str"
 | .int _=>T="int"
 | .ref p=>(T="list"/\∃xs,SqL K H p xs)\/(T="tuple"/\∃o,K.lookup p=some o/\o.cls= .type "tuple"/\o.dict=none)\/
     (T="dict"/\((∃kvs,H p=some (.dK kvs))\/∃kvs,H p=some (.dT kvs)))\/(T="set"/\∃S n,H p=some (.set S n))
 |_=>False
theorem Y1e{pins:List (Addr×Obj)}{σ:St}{H:Hp}{s:Shared}{T:String}{x:V}{v:Value}(I:Inv X pins σ H s)(r:V0 x v)(ty:tyV X.K T x H):
   s.TypeIs v T/\∀a,v= .ref a ->∃ob,s.heap.get? a=some ob/\ob.dict=none:=by
 cases x with
 | str z=>
   obtain⟨t,rfl⟩:=r
   cases(show T="str" from ty)
   exact⟨typeIs_str s z t,fun _ e=>nomatch e⟩
 | int i=>
   obtain⟨t,rfl⟩:=r
   cases(show T="int" from ty)
   exact⟨typeIs_int s i t,fun _ e=>nomatch e⟩
 | ref p =>
   cases r
   rcases ty with⟨rfl,xs,hq⟩|⟨rfl,o,hk,hc,hd⟩|⟨rfl,hk⟩|⟨rfl,S,n,hk⟩
   . obtain⟨its,_,pl,_⟩:=I.list hq
     refine⟨pl.isList.typeIs,fun a e=>?_⟩
     cases e
     obtain⟨o,n,e,c,hd,_⟩:=pl
     exact⟨o,e,hd⟩
   . refine⟨⟨o,I.kIn p o hk,hc⟩,fun a e=>?_⟩
     cases e
     exact⟨o,I.kIn _ o hk,hd⟩
   . have z:∃o,s.heap.get? p=some o/\o.ExactDict:=by
       rcases hk with⟨kvs,hk⟩|⟨kvs,hk⟩
       . obtain⟨_,_,_,_,o,_,_,e,ex,_⟩:=I.hok p _ hk
         exact⟨o,e,ex⟩
       . obtain⟨_,_,_,_,o,_,_,e,ex,_⟩:=I.hok p _ hk
         exact⟨o,e,ex⟩
     obtain⟨o,e,ex⟩:=z
     refine⟨⟨o,e,ex.1⟩,fun a e2=>?_⟩
     cases e2
     exact⟨o,e,ex.2.1⟩
   . obtain⟨o,_,_,_,e,ex,_⟩:=I.hok p _ hk
     refine⟨⟨o,e,ex.1⟩,fun a e2=>?_⟩
     cases e2
     exact⟨o,e,ex.2.1⟩
 |_=>exact False.elim ty
noncomputable def tBM0 (K:PySem.W.Frag) (T:String) (r:V ->List V ->Hp ->VK ->Prop) (to:TE):TE:=fun σ H Q=>to σ H fun x H1=>tyV K T x H1/\r x [] H1 Q
noncomputable def tBM (K:PySem.W.Frag) (T:String) (r:V ->List V ->Hp ->VK ->Prop) (to:TE) (t:TA):TE:=fun σ H Q=>to σ H fun x H1=>tyV K T x H1/\t σ H1 fun xs H2=>r x xs H2 Q
variable{o e:Expr}{es:List Expr}{to:TE}{t:TA}{name:Str}{apos cpos:Pos}{T id:String}{r:V ->List V ->Hp ->VK ->Prop}
theorem A0ft(pa:PlainAttrs T)(slot:Slot T name id)(hty:typeOf (.builtin id)=pure (.type "method_descriptor"))(hm:MtR X id r)(ho:PE X o to)
   (hbase:attributeBase o name X.env (eval o X.env)=eval o X.env:=by rfl) (hline:(apos.endLine==cpos.line)=true:=by rfl):PE X (.Call (.Attribute o name apos) [] [] cpos) (tBM0 X.K T r to):=by
 intro pins s σ H Q I h
 refine wpAny_Call_method0_late hbase hline (thn (ho pins s σ H _ I h) fun v s1 hh_=>?_)
 obtain⟨x,H1,I1,r1,ty,q1⟩:=hh_
 obtain⟨h1,h2⟩:=Y1e I1 r1 ty
 exact⟨T,id,pa,slot,hty,h1,h2,Calls.callWith_builtin rfl (PySem.evalArgs_none (hm pins s1 σ H1 x [] v [] Q I1 r1 .nil q1))⟩
theorem C8e(pa:PlainAttrs T)(slot:Slot T name id)(hty:typeOf (.builtin id)=pure (.type "method_descriptor"))(hm:MtR X id r)(ho:PE X o to)(ha:PA X (e::es) t)
   (hbase:attributeBase o name X.env (eval o X.env)=eval o X.env:=by rfl)
   (hfew:((backTo cpos (starEach (e::es) X.env)).all (fun x=> !x.1)&&(backToKw cpos (keywordEach [] X.env)).all (fun x=>x.1.isSome)
     &&decide ((e::es).length+([]:List Keyword).length+(if([]:List Keyword).isEmpty then 0 else 1)<30))=true:=by rfl)
   (hline:(apos.endLine==cpos.line)=true:=by rfl) (hs:starEach (e::es) X.env=(false,eval e X.env)::starEach es X.env:=by rfl) (hplain:(backTo cpos (starEach es X.env)).any (·.1)=false:=by rfl):
   PE X (.Call (.Attribute o name apos) (e::es) [] cpos) (tBM X.K T r to t):=by
 intro pins s σ H Q I h
 refine wpAny_Call_method_late hbase hfew hline rfl (thn (ho pins s σ H _ I h) fun v s1 hh_=>?_)
 obtain⟨x,H1,I1,r1,ty,q1⟩:=hh_
 obtain⟨h1,h2⟩:=Y1e I1 r1 ty
 refine⟨T,id,pa,slot,hty,h1,h2,?_⟩
 have hA:=ha cpos pins s1 σ H1 _ I1 q1
 rw[hs] at hA ⊢
 refine Calls.callWith_builtin (by show(false||(backTo cpos (starEach es X.env)).any (·.1))=false;rw[hplain]<;>rfl) (Calls.evalArgs_plain ?_)
 exact thn hA fun us s2 ⟨vs,H2,I2,r2,q2⟩=>hm pins s2 σ H2 x vs v us Q I2 r1 r2 q2
end
noncomputable def MtM (X:Cx) (id:String) (r:V ->List V ->Hp ->VK ->Prop):Prop:=
 ∀ (pins:List (Addr×Obj)) (s:Shared) (σ:St) (H:Hp) (x:V) (xs:List V) (v:Value) (us:List Value) (Q:VK),Inv X pins σ H s ->V0 x v ->U3 xs us ->r x xs H Q ->
   wpAny (model X.prog X.w) X.A (call (.builtin id) (v::us)) (EP X pins σ Q) X.xe s
theorem U3.one{x:V}{us:List Value}(h:U3 [x] us):∃u,us=[u]/\V0 x u:=by
 cases h with
 |cons r t=>cases t;exact⟨_,rfl,r⟩
theorem U3.two{x y:V}{us:List Value}(h:U3 [x,y] us):∃u v,us=[u,v]/\V0 x u/\V0 y v:=by
 cases h with
 | cons r t=>
   cases t with
   |cons q z=>cases z;exact⟨_,_,rfl,r,q⟩
theorem U3.reverse{xs:List V}{us:List Value}(h:U3 xs us):U3 xs.reverse us.reverse:=by
 induction h with
 |nil=>exact .nil
 |cons r t ih=>rw[List.reverse_cons,List.reverse_cons];exact U3.append ih (.cons r .nil)
theorem U3.rep{xs:List V}{us:List Value}(h:U3 xs us):∀k:Nat,U3 (List.replicate k xs).flatten (List.replicate k us).flatten
 |0=> .nil
 | k+1=>by
   rw[List.replicate_succ,List.replicate_succ,List.flatten_cons,List.flatten_cons]
   exact U3.append h (U3.rep h k)
theorem D7g(its:List Value):∀(k:Nat) (acc:List Value),
   List.foldl (fun x1 x2=>x1++x2) acc.toArray (List.replicate k its.toArray)=(acc++(List.replicate k its).flatten).toArray
 |0,acc=>by simp
 | k +1,acc=>by
   have e:acc.toArray++its.toArray=(acc++its).toArray:=by simp
   have e2:(acc++its)++(List.replicate k its).flatten=acc++(List.replicate (k+1) its).flatten:=by
     rw[List.replicate_succ,List.flatten_cons,List.append_assoc]
   rw[<-e2, <-D7g its k (acc++its), <-e,List.replicate_succ,List.foldl_cons]
section
variable{X:Cx}{pins:List (Addr×Obj)}{σ:St}{H:Hp}{s:Shared}{l b:Addr}{xs ys zs:List V}
theorem Inv.lset{its its':List Value}{n:Nat}{f:Array Value ->Array Value}{t':Nat}(I:Inv X pins σ H s)(hH:H l=some (.lst xs))
   (e:s.heap.get? l=some {cls:= .type "list",data:= .seq its.toArray n}) (hf:f its.toArray=its'.toArray) (hv:U3 ys its') (hz:ys.length<=sizeLine):
   Inv X pins σ (upd H l (.lst ys)) {s with heap:=s.heap.update l (Obj.mapSeq f),toks:=t'}:=by
 have q:=PySem.IsL.update e f
 rw[hf] at q
 refine I.write (x:=l) (e:=l) (by rw[hH];exact trivial) (.inl rfl) (fun b' u hb hu=>(Heap.get?_update_other s.heap (Obj.mapSeq f) (Ne.symm hb)).trans hu) ⟨_,q⟩ ?_
 exact⟨hz,its',_,hv,q⟩
theorem Inv.lnew{its:List Value}{t':Nat}(I:Inv X pins σ H s)(hv:U3 ys its)(hz:ys.length<=sizeLine):
   Inv X pins σ (upd H s.heap.objs.size (.lst ys)) {s with heap:=s.heap.push {cls:= .type "list",data:= .seq its.toArray},toks:=t'}:=
 I.laid (fun _ _ q=>Heap.get?_push_of_some _ q) (Nat.le_refl _) ⟨hz,its,0,hv,Heap.get?_push_size _ rfl⟩
theorem Inv.fresh(I:Inv X pins σ H s):H s.heap.objs.size=none:=I.hok.fresh (Nat.le_refl _)
theorem Inv.lstM(I:Inv X pins σ H s)(hH:H l=some (.lst xs)):xs.length<=sizeLine/\∃(its:List Value) (n:Nat),U3 xs its/\xs.length=its.length/\s.heap.get? l=some {cls:= .type "list",data:= .seq its.toArray n}:=by
 obtain⟨z,its,n,r,e⟩:=I.hok l _ hH
 exact⟨z,its,n,r,r.length,e⟩
theorem Y2g{n:Nat}(h:n<=sizeLine):Builtin.List.listTooLong n=false:=by
 unfold Builtin.List.listTooLong
 exact decide_eq_false (by omega)
end
section
variable{X:Cx}
noncomputable def Z7q:V ->List V ->Hp ->VK ->Prop:=fun x vs H Q=>∃l xs y,x= .ref l/\vs=[y]/\H l=some (.lst xs)/\xs.length<sizeLine/\Q .non (upd H l (.lst (xs++ [y])))
theorem A0h:MtM X "list.append" Z7q:=by
 intro pins s σ H x vs v us Q I rx rv h
 obtain⟨l,xs,y,rfl,rfl,hH,hz,q⟩:=h
 cases rx
 obtain⟨u,rfl,ru⟩:=rv.one
 obtain⟨z,its,n,r,hl,e⟩:=I.lstM hH
 refine call_meets F.slot_list_append ⟨_,e,rfl⟩ F.entry_list_append (F.args_list_append_2 _ _) (PySem.list_append l its.toArray n u (by rw[List.size_toArray];omega)) ⟨e,?_⟩
 refine⟨.non,_,I.lset (its':=its++ [u]) hH e (by simp) (r.append (.cons ru .nil)) ?_,rfl,q⟩
 rw[List.length_append,List.length_singleton]
 omega
noncomputable def rCat:R2:=fun x y H Q=>∃l b xs zs,x= .ref l/\y= .ref b/\H l=some (.lst xs)/\H b=some (.lst zs)/\xs.length+zs.length<=sizeLine/\∀p,H p=none ->Q (.ref p) (upd H p (.lst (xs++zs)))
theorem B6p:OpR X (binaryOp .Add) rCat:=by
 intro pins s σ H x y v u Q I rx ry h
 obtain⟨l,b,xs,zs,rfl,rfl,hH,hB,hz,q⟩:=h
 cases rx
 cases ry
 obtain⟨z,its,n,r,hl,e⟩:=I.lstM hH
 obtain⟨z2,its2,n2,r2,hl2,e2⟩:=I.lstM hB
 refine PySem.P.add_list e e2 ?_ (by rw[List.size_toArray,List.size_toArray];omega)
 have ea:its.toArray++its2.toArray=(its++its2).toArray:=by simp
 rw[ea]
 exact⟨.ref _,_,I.lnew (t':=s.toks) (r.append r2) (by rw[List.length_append];omega),rfl,q _ I.fresh⟩
noncomputable def rRep:R2:=fun x y H Q=>∃l k xs,x= .ref l/\y= .int k/\H l=some (.lst xs)/\ -(2^63)<=k/\k<2^63/\xs.length*k.toNat<=sizeLine/\
 ∀p,H p=none ->Q (.ref p) (upd H p (.lst (List.replicate k.toNat xs).flatten))
theorem V0m{α:Type}(xs:List α)(k:Nat):(List.replicate k xs).flatten.length=k*xs.length:=by
 induction k with
 |zero=>simp
 |succ k ih=>rw[List.replicate_succ,List.flatten_cons,List.length_append,ih,Nat.succ_mul,Nat.add_comm]
theorem J8q:OpR X (binaryOp .Mult) rRep:=by
 intro pins s σ H x y v u Q I rx ry h
 obtain⟨l,k,xs,rfl,rfl,hH,h1,h2,hz,q⟩:=h
 cases rx
 obtain⟨t,rfl⟩:=ry
 obtain⟨z,its,n,r,hl,e⟩:=I.lstM hH
 have hlen:its.toArray.size*k.toNat<=sizeLine:=by rw[List.size_toArray, <-hl];exact hz
 have hcap:¬its.toArray.size*k.toNat>(2^63-1)/8:=by
   have:(sizeLine:Nat)<=(2^63-1)/8:=by decide
   omega
 have hfit:¬(!Builtin.List.listFitsIndex k)=true:=by
   rw[fitsIndex_both h1 h2]
   exact Bool.false_ne_true
 have hlong:¬Builtin.List.listTooLong (its.toArray.size*k.toNat)=true:=by
   rw[Y2g hlen]
   exact Bool.false_ne_true
 have hnew:List.foldl (fun x1 x2=>x1++x2) #[] (List.replicate (if its.toArray.isEmpty=true then 0 else k.toNat) its.toArray)=(List.replicate k.toNat its).flatten.toArray:=by
   have f0:∀m:Nat,List.foldl (fun x1 x2=>x1++x2) #[] (List.replicate m its.toArray)=(List.replicate m its).flatten.toArray:=fun m=>by
     have:=D7g its m []
     rw[List.nil_append] at this
     exact this
   rw[f0]
   cases its with
   |nil=>simp
   |cons a r'=>rw[if_neg (by simp)]
 refine wpAny_binaryOp_repeat_ref (T:="list") (U:="int") (by decide) ⟨_,e,rfl⟩ (fun s'=>typeIs_int s' k t) noFill_list_mul F.fills_int_mul F.slot_int_rmul repeat_list F.slot_int_index.lookup
   (call_meets F.slot_int_rmul (typeIs_int s k t) F.entry_int_rmul (F.args_int_rmul_2 _ _) (int___rmul___int_list k t l its.toArray n)
     ⟨e,rfl,⟨_,e,rfl⟩,call_meets F.slot_list_mul ⟨_,e,rfl⟩ F.entry_list_mul (F.args_list_mul_2 _ _) (AutoListH.list___mul___list_int_3 l its.toArray n k t hfit hcap hlong) ⟨e,?_⟩⟩)
 rw[hnew]
 exact⟨.ref _,_,I.lnew (t':=s.toks) (r.rep k.toNat) (by rw[V0m,Nat.mul_comm];exact hz),rfl,q _ I.fresh⟩
end
section
variable{prog:Program}{w:World}{A:Around}{E:Value ->Shared ->Prop}{s:Shared}
end
section
variable{X:Cx}
end
end L2
namespace Att
open PySem PySem.W PySem.Calls PyProof.Rows
theorem C6p{P:Params}{h:Heap}:∀(ns:List Int) (vs:List Value),WellAll P h vs (ns.map WData.int) ->IntsAre vs ns:=by
 intro ns
 induction ns with
 | nil=>
   intro vs w
   rw[List.map_nil] at w
   cases w
   exact .nil
 | cons n ns ih=>
   intro vs w
   rw[List.map_cons] at w
   cases w with
   | cons a b=>
     cases a
     exact .cons _ _ (ih _ b)
theorem V3y{l:OpenLaw}{n:Nat}(hn:l.most=some n){P:Params}{h:Heap}{args:List WData}{vals:List Value}
   (hpre:l.row.toRowW.claim.pre args=true) (hwl:WellAll P h vals args):
   ∃a vs ns,vals=[Value.ref a]/\args=[WData.list (ns.map WData.int)]/\h.get? a=some {cls:= .type "list",data:= .seq vs.toArray}/\IntsAre vs ns/\ns.length<=n:=by
 have hsh:WShape.hasAll [] args [.list .int]=true:=(pre_splitW hpre).1
 have hc:l.pre.holds [] {args:=args}=true:=(pre_splitW hpre).2
 obtain⟨d,r,rfl,h1,h2⟩:=hasAllW_cons hsh
 obtain rfl:=hasAllW_nil h2
 obtain⟨xs,rfl,h3⟩:=hasW_list h1
 obtain⟨ns,rfl⟩:=items_int h3
 have hlen:ns.length<=n:=by
   unfold OpenLaw.pre at hc
   have h4:(WTm.not (.lt (.lit (.int (n:Int))) (.len (.arg 0)))).holds [] {args:=[.list (ns.map .int)]}=true:=by
     have h4:=(holds_andW hc).1
     rw[hn] at h4
     exact h4
   have h5:=condW_of h4 (w_not (w_lt w_lit (w_len_list (w_arg rfl))))
   rw[List.length_map] at h5
   refine Nat.le_of_not_lt fun q=>?_
   have q':(n:Int)<((ns.length:Nat):Int):=by omega
   first
     |(rw[decide_eq_true q'] at h5;exact absurd h5 (by decide))
     |(simp at h5;omega)
 cases hwl with
 | cons w1 w2=>
   cases w2
   cases w1 with
   |list ho hall=>exact⟨_,_,ns,rfl,rfl,ho,C6p ns _ hall,hlen⟩
theorem V3n(l:OpenLaw)(args:List WData):l.row.toRowW.claim.post args (.bool true) args=true:=
 postW_of (r:=l.row.toRowW) (X:=(true==true))
   (show WShape.has [] (.bool true) .bool=true by first|rfl|decide|simp[WShape.has,WShape.arms,WShape.armsAll])
   (show(WTm.eq .res (.lit (.bool true))).value [] {args:=args,res:=some (.bool true),after:=args}=some (.bool (true==true)) from w_eq_bool (w_res rfl) w_lit) rfl
theorem attach_call{l:OpenLaw}{n:Nat}{q:Program}{loose:List Str}{XP:(Str ->Option Value) ->Heap ->Prop}{YP:World ->Heap ->Prop}{d:DefRec}
   (hn:l.most=some n) (hdf:d.params.defaults=[])
   (call:∀(w:World) (s₀ s₁:Shared) (mg mb:Str ->Option Value) (fa:Addr) (o:Obj) (pm cd doc:Value) (a:Addr) (vs:List Value) (ns:List Int),
     Ground q loose [] XP w s₀ mg mb s₁.heap ->YP w s₁.heap ->
     s₁.heap.get? fa=some o ->o.data= .func (docDef d.name d.params d.body d.scope pm cd doc) ->s₁.heap.CodeRec cd d.name ->mg d.name=some (.ref fa) ->
     s₁.heap.get? a=some {cls:= .type "list",data:= .seq vs.toArray} ->IntsAre vs ns ->ns.length<=n ->s₁.gens= #[] ->
     codeAny (model l.prog w) callerA (.call (.ref fa) ⟨[.ref a],[]⟩) (fun r s'=>r= .ok (.ret (.bool true))/\OldK s₁.heap s'.heap/\s'.os=s₁.os/\AllBare s'.gens) s₁):
   WalkO q loose XP YP l.row.toRowW d [] (fun f vs=>PySem.call f vs):=by
 intro w s₀ s₁ mg mb G Y fa o pm cd doc dV kV ho hd hcd hD hmg hg args vals as hpre hlay hrd hwl hlo
 obtain rfl:dV= .none:=Dflts.none hD hdf
 obtain rfl:kV= .none:=Dflts.noKw hD
 obtain⟨a,vs,ns,rfl,rfl,hobj,hints,hlen⟩:=V3y hn hpre hwl
 refine enter_call (codeAny_mono (call w s₀ s₁ mg mb fa o pm cd doc a vs ns G Y ho (fd_plain hd) hcd hmg hobj hints hlen hg) fun r s' hq=>?_)
 obtain⟨rfl,h2,h3,h4⟩:=hq
 exact⟨.inl ⟨.bool true,.bool true,[],rfl,fun _=>rfl,.bool true,V3n l _,fun _=>⟨List.Pairwise.nil,fun _ hm=>(nomatch hm)⟩⟩,h2,h3,h4⟩
section
variable{prog:Program}{w:World}{A:Around}{E:Value ->Shared ->Prop}{s:Shared}{K:Frag}
end
end Att
namespace L2
open PySem PySem.Spec PyProof.Rows
theorem D8m:∀{vs:List Value} {ns:List Int},IntsAre vs ns ->U3 (ns.map V.int) vs
 |_,_,.nil=> .nil
 |_,_,.cons n t h=> .cons ⟨t,rfl⟩ (D8m h)
noncomputable def G8 (s:Stmt) (j:Nat):Stmt:=match s with
 | .ClassDef _ _ _ body _ _ _ _ _ _ _=>body.getD j (.Pass ⟨0,0,0,0⟩)
 |_=> .Pass ⟨0,0,0,0⟩
noncomputable def B8 (s:Stmt):Arguments:=match s with
 | .FunctionDef _ a _ _ _ _ _ _ _ _=>a
 |_=>{posonlyargs:=[],args:=[],vararg:=none,kwonlyargs:=[],kw_defaults:=[],kwarg:=none,defaults:=[]}
noncomputable def B5 (s:Stmt):List Stmt:=match s with
 | .FunctionDef _ _ b _ _ _ _ _ _ _=>b
 |_=>[]
noncomputable def A1 (s:Stmt):Scope:=match s with
 | .FunctionDef _ _ _ _ _ _ sc _ _ _=>sc
 |_=>{kind:= .function,names:=[],isGenerator:=false,isCoroutine:=false}
noncomputable abbrev CX0:CXT:=fun _ _ _ _ _ _=>False
noncomputable abbrev E0:XK:=fun _ _ _=>False
theorem Y3s{X:Cx}:J7m CX0 X E0:=fun _ _ _ _ _ _ _ h=>h.elim
structure Fun(K:PySem.W.Frag)(x qual:Str)(st:Stmt)(f:Addr)(fd:FuncData):Prop where
 ex:∃(oc:Value) (od:Option Addr) (kV doc pm:Value) (an:Option Addr) (cdv ct:Value) (osl:Array (Option Value)),
   fd=PySem.W.fnOf x qual (B8 st) (B5 st) (A1 st) .none kV doc pm an cdv ct/\K.lookup f=some ⟨oc,od,.func fd,osl⟩/\PySem.W.codeIn K cdv qual=true
 kp:PySem.W.keepIn K (.ref f)=true
section
variable{P:Program}{w:World}{K:PySem.W.Frag}{mg:Str ->Option Value}{base:Heap}
theorem Fun.ok{x qual:Str}{st:Stmt}{f:Addr}{fd:FuncData}{N ps:List Str}{k:Nat}{sp:Sp}(F:Fun K x qual st f fd)(S:B9 N ps (A1 st))(len:∀vs H Q E,sp vs H Q E ->vs.length=ps.length)
   (hbody:∀(cdv:Value) (A:Around) (outer:List Env) (s:Shared) (H:Hp) (vs:List V) (Q:VK) (E:XK),Z5 k (A.deeper (envOfC qual (A1 st) s.heap.objs.size f cdv)) ->sp vs H Q E ->
     ∃t,PSs (A0w CX0 P w K mg base N qual (A1 st) f cdv A outer s H E).nox (B5 st) t/\t {nx:=fun _ H'=>Q .non H',rt:=Q} (A4z N vs) H):FnOk P w K mg base CX0 (k+1) f fd ps sp:=by
 obtain⟨oc,od,kV,doc,pm,an,cdv,ct,osl,rfl,lk,hcd⟩:=F.ex
 refine Y1b lk hcd S len fun A outer s H vs Q E hr hsp=>?_
 obtain⟨t,h,q⟩:=hbody cdv A outer s H vs Q E hr hsp
 exact⟨t,h.nox,q⟩
theorem Fun.binds{x qual:Str}{st:Stmt}{f:Addr}{fd:FuncData}{ps:List Str}(F:Fun K x qual st f fd)
   (h:∀(kV doc pm:Value) (an:Option Addr) (cdv ct:Value) (us:List Value),us.length=ps.length ->bindArgs (PySem.W.fnOf x qual (B8 st) (B5 st) (A1 st) .none kV doc pm an cdv ct) ⟨us,[]⟩=pure (ps.zip us)):A0p K fd ps []:=by
 obtain⟨oc,od,kV,doc,pm,an,cdv,ct,osl,rfl,lk,hcd⟩:=F.ex
 exact .all (h kV doc pm an cdv ct)
theorem U5{x qual:Str}{st:Stmt}{f:Addr}{oc:Value}{od an:Option Addr}{osl:Array (Option Value)}{kV doc pm cdv ct:Value}(l:K.lookup f=some ⟨oc,od,.func (PySem.W.fnOf x qual (B8 st) (B5 st) (A1 st) .none kV doc pm an cdv ct),osl⟩)
   (c:PySem.W.codeIn K cdv qual=true) (k:PySem.W.keepIn K (.ref f)=true):Fun K x qual st f (PySem.W.fnOf x qual (B8 st) (B5 st) (A1 st) .none kV doc pm an cdv ct):=⟨⟨oc,od,kV,doc,pm,an,cdv,ct,osl,rfl,l,c⟩,k⟩
end
theorem Y0{n:Nat}(h:n<=1000):n<sizeLine:=Nat.lt_of_le_of_lt h (by decide)
section
variable{X:Cx}
theorem pv(i:Nat){x:Str}{pos:Pos}(hN:X.N[i]?=some x:=by rfl)(hv:Vis X.env.scope x:=by first|exact Or.inl rfl|exact Or.inr (Or.inl rfl)|exact Or.inr (Or.inr rfl))(hd:(x==("__debug__":Str))=false:=by decide)
   (hcd:(x==("__classdict__":Str))=false:=by decide):PE X (.Name x pos) (tVar i):=Y0w hN hv hd hcd
end
theorem U8{A B:Prop}(h:B):if false=true then A else B:=by
 rw[if_neg Bool.false_ne_true]
 exact h
theorem Z8{A B:Prop}(h:A):if true=true then A else B:=by
 rw[if_pos rfl]
 exact h
theorem C5y{c A B:Prop} [Decidable c] (hc:c) (h:B):if(!decide c)=true then A else B:=by
 rw[decide_eq_true hc]
 exact U8 h
noncomputable def B7 (H H':Hp):Prop:=∀b o,H b=some o ->H' b=some o
theorem B7.refl(H:Hp):B7 H H:=fun _ _ h=>h
theorem B7.trans{H H1 H2:Hp}(a:B7 H H1)(b:B7 H1 H2):B7 H H2:=fun c o h=>b c o (a c o h)
theorem B7.free{H H':Hp}(e:B7 H H'){l:Addr}(h:H' l=Option.none):H l=Option.none:=by
 cases q:H l with
 |none=>rfl
 | some o=>
   rw[e l o q] at h
   cases h
theorem B7.seq{K:PySem.W.Frag}{H H':Hp}{a:Addr}{xs:List V}(e:B7 H H')(h:SqL K H a xs):SqL K H' a xs:=by
 rcases h with(h|⟨o,h⟩)|h
 . exact .inl (.inl (e _ _ h))
 . exact .inl (.inr ⟨o,e _ _ h⟩)
 exact .inr h
end L2
set_option maxHeartbeats 4000000
namespace L2
open PySem PySem.Spec PyProof.Rows
noncomputable abbrev A0s (C:Value) (t:Addr) (dd:Option Addr) (tb:Value):Obj:=
 {cls:=C,dict:=dd,data:= .fields #[.ref t,tb,.none,.none,.bool false,.none]}
structure A0qk(fs:List Addr)(h h':Heap)(a:Addr)(C:Value)(t:Addr)(dd:Option Addr)(T:Addr)(fl:Value):Prop where
 keep:∀b o,b ∉ fs ->b≠a ->h.get? b=some o ->h'.get? b=some o
 slot:∀b o,b≠a ->h.get? b=some o ->∃sl,h'.get? b=some {o with slots:=sl}
 new:h.get? T=none
 ne:T≠a
 exc:h'.get? a=some (A0s C t dd (.ref T))
 tbk:∃oT ts,h'.get? T=some oT/\oT.data= .fields ts/\ts[3]?=some fl
section
variable{M:Model}{A:Around}{E:Value ->Shared ->Prop}{s:Shared}{base:Heap}{env:Env}{outer:List Env}{L a t:Addr}{C:Value}{dd:Option Addr}{tb:Value}{Q:Unit ->Shared ->Prop}
theorem Z9p{oa:Obj}{vs:Array Value}{l:List Env}(hl:s.heap.FunFrames base l)(ha:s.heap.get? a=some oa)(hd:oa.data= .fields vs):a ∉ l.filterMap (·.frame):=by
 intro hm
 obtain⟨_,o,ho,hn⟩:=hl.mem hm
 rw[ha] at ho
 cases ho
 exact hn vs hd
theorem V0k{head:Value}{hn:Bool}(hfr:A.frames=some (env::outer))(hl:s.heap.FunFrames base (env::outer))(hf:env.frame=some L)
   (ha:s.heap.get? a=some (A0s C t dd tb))
   (h:∀h' T,A0qk ((env::outer).filterMap (·.frame)) s.heap h' a C t dd T (rawInt L) ->Q () {s with heap:=h'}):
   wpAny M A (do
     let x<-frameOf env
     let pl<-entryPlaceOf L hn
     let b<-EntryCells.newEntry head x .none (rawInt L) .none pl
     setField (.ref a) 1 b) Q E s:=by
 have na:=Z9p hl ha rfl
 refine wpAny_bind (wpAny_frameOf_fun hfr hl hf fun g hg=>?_)
 refine wpAny_bind (wpAny_entryPlaceOf fun pl hpl=>?_)
 unfold EntryCells.newEntry newFields
 refine wpAny_bind (wpAny_newObj_type ?_ (hpl.sizeOk5 _ _ _ _ _))
 have a1:g.get? a=some (A0s C t dd tb):=(hg.2.1 a na).trans ha
 have a2:=fun(z:Obj)=>Heap.get?_push_of_some (h:=g) z a1
 have nT:g.objs.size≠a:=Nat.ne_of_gt (Heap.lt_size a1)
 refine wpAny_setField (a2 _) rfl (by show 1<6;decide) (h _ g.objs.size ?_)
 have up:∀(z:Obj) (f:Obj ->Obj) b o,b≠a ->g.get? b=some o ->((g.push z).update a f).get? b=some o:=by
   intro z f b o hb e
   rw[Heap.get?_update_other _ _ (Ne.symm hb)]
   exact Heap.get?_push_of_some _ e
 refine⟨fun b o hb hba e=>up _ _ b o hba ((hg.2.1 b hb).trans e),fun b o hba e=>?_,?_,nT,?_,?_⟩
 . obtain⟨sl,e1⟩:=hg.2.2 b o e
   exact⟨sl,up _ _ b _ hba e1⟩
 . refine Heap.get?_none_of_le ?_
   rw[hg.1]
   exact Nat.le_refl _
 . exact Heap.get?_update_self _ (a2 _) rfl
 refine⟨_,_,(Heap.get?_update_other _ _ (Ne.symm nT)).trans (Heap.get?_push_size _ rfl),rfl,?_⟩
 first
   |(simp;done)
   |(rcases hpl with rfl|⟨_,_,_,_,_,_,_,rfl⟩<;>simp)
noncomputable def TbOk (h:Heap) (a:Addr) (tb:Value):Prop:=tb= .none\/∃T oT ts,tb= .ref T/\T≠a/\h.get? T=some oT/\oT.data= .fields ts/\ts[3]?=some .none
theorem A0fn(hfr:A.frames=some (env::outer))(hl:s.heap.FunFrames base (env::outer))(hf:env.frame=some L)
   (ha:s.heap.get? a=some (A0s C t dd tb)) (ht:TbOk s.heap a tb)
   (h:∀h' T,(∀b o,b ∉ (env::outer).filterMap (·.frame) ->b≠a ->tb≠ .ref b ->s.heap.get? b=some o ->h'.get? b=some o) ->
     (∀b o,b≠a ->tb≠ .ref b ->s.heap.get? b=some o ->∃sl,h'.get? b=some {o with slots:=sl}) ->s.heap.get? T=none ->T≠a ->
     h'.get? a=some (A0s C t dd (.ref T)) ->(∃oT ts,h'.get? T=some oT/\oT.data= .fields ts/\ts[3]?=some (rawInt L)) ->Q () {s with heap:=h'}):
   wpAny M A (noteFrame (.ref a) env) Q E s:=by
 unfold noteFrame
 simp only[hf]
 refine wpAny_bind (wpAny_field ha rfl (x:=tb) rfl ?_)
 rcases ht with rfl|⟨T,oT,ts,rfl,nT,hT,dT,h3⟩
 . rw[if_neg (by decide)]
   refine V0k hfr hl hf ha fun h' T N=>?_
   exact h h' T (fun b o hb hba _ e=>N.keep b o hb hba e) (fun b o hba _ e=>N.slot b o hba e) N.new N.ne N.exc N.tbk
 rw[if_pos (show(Value.ref T !=Value.none)=true by simp)]
 refine wpAny_bind (wpAny_field hT dT h3 ?_)
 rw[if_neg (show¬((Value.none==rawInt L)=true) by simp[rawInt])]
 refine wpAny_bind (wpAny_setField hT dT (Array.getElem?_eq_some_iff.mp h3).1 ?_)
 have oth:∀(f:Obj ->Obj) b,b≠T ->(s.heap.update T f).get? b=s.heap.get? b:=fun f b hb=>Heap.get?_update_other _ _ (Ne.symm hb)
 have nrec:∀b o,s.heap.get? b=some o ->(∀vs,o.data≠ .fields vs) ->b≠T:=by
   intro b o e hn q
   rw[q,hT] at e
   cases e
   exact hn ts dT
 refine V0k (s:={s with heap:=_}) hfr (hl.of_keeps fun b o e hn=>⟨o,(oth _ b (nrec b o e hn)).trans e,rfl⟩) hf ((oth _ a (Ne.symm nT)).trans ha) fun h' T' N=>?_
 have neb:∀b,Value.ref T≠Value.ref b ->b≠T:=fun b q z=>q (by rw[z])
 refine h h' T' (fun b o hb hba hbT e=>N.keep b o hb hba ((oth _ b (neb b hbT)).trans e)) (fun b o hba hbT e=>N.slot b o hba ((oth _ b (neb b hbT)).trans e)) ?_ N.ne N.exc N.tbk
 have nw:=N.new
 by_cases q:T'=T
 . subst q
   have:=Heap.get?_update_self (Obj.mapFields (·.setIfInBounds 3 Value.none)) hT (Obj.isFreed_of_fields (Obj.data_mapFields dT _))
   rw[nw] at this
   cases this
 rw[oth _ T' q] at nw
 exact nw
theorem A0gb{T:Addr}{oT:Obj}{ts:Array Value}{fl:Value}(ha:s.heap.get? a=some (A0s C t dd (.ref T)))(nT:T≠a)(hT:s.heap.get? T=some oT)(dT:oT.data= .fields ts)(h3:ts[3]?=some fl)
   (h:∀h',(∀b o,b≠T ->s.heap.get? b=some o ->h'.get? b=some o) ->TbOk h' a (.ref T) ->Q () {s with heap:=h'}):wpAny M A (setFlight (.ref a) none) Q E s:=by
 have sz:3<ts.size:=(Array.getElem?_eq_some_iff.mp h3).1
 unfold setFlight
 refine wpAny_bind (wpAny_field ha rfl (x:= .ref T) rfl ?_)
 rw[if_pos (show(Value.ref T !=Value.none)=true by simp)]
 refine wpAny_setField hT dT sz (h _ (fun b o hb e=>(Heap.get?_update_other _ _ (Ne.symm hb)).trans e) ?_)
 have d2:=Obj.data_mapFields dT (·.setIfInBounds 3 ((none:Option Addr).elim Value.none fun f=>rawInt f))
 exact .inr ⟨T,_,_,rfl,nT,Heap.get?_update_self _ hT (Obj.isFreed_of_fields d2),d2,by simp[sz]⟩
end
noncomputable def Hd (A:Around) (h:Heap):Prop:=A.handled=none\/∃x ox vs,A.handled=some (.ref x)/\h.get? x=some ox/\ox.data= .fields vs/\vs[2]?=some .none
theorem D3k : entryFor table "proto.unchain" = some Builtin.«proto.unchain» := entryFor_of_tree (by kernel_rfl)
section
variable{prog:Program}{w:World}{A:Around}{E:Value ->Shared ->Prop}{s:Shared}
theorem Hd.keeps{h h':Heap}(x:Hd A h)(k:∀b o,h.get? b=some o ->h'.get? b=some o):Hd A h':=by
 rcases x with z|⟨x,ox,vs,z,e,d,n⟩
 . exact .inl z
 exact .inr ⟨x,ox,vs,z,k x ox e,d,n⟩
theorem J2c{α:Type}{a:Addr}{oa:Obj}{ws:Array Value}{h₀:Heap}{Q:α ->Shared ->Prop}(hd:Hd A h₀)(k:∀b o,h₀.get? b=some o ->s.heap.get? b=some o)(na:h₀.get? a=none)
   (ha:s.heap.get? a=some oa) (da:oa.data= .fields ws) (h2:2<ws.size)
   (h:∀h',(∀b o,b≠a ->s.heap.get? b=some o ->h'.get? b=some o) ->(∃o',h'.get? a=some o'/\o'.cls=oa.cls) ->E (.ref a) {s with heap:=h'}):
   wpAny (model prog w) A (raiseNew (.ref a):Sem α) Q E s:=by
 unfold raiseNew
 refine wpAny_bind (wpAny_handled ?_)
 rcases hd with z|⟨x,ox,vs,z,e,d,n⟩
 . rw[z]
   exact wpAny_bind (wpAny_pure (wpAny_throw (h _ (fun b o _ e=>e) ⟨_,ha,rfl⟩)))
 rw[z]
 have nx:x≠a:=by
   intro q
   rw[q,na] at e
   cases e
 dsimp only
 rw[if_pos (show(Value.ref x !=Value.ref a)=true by simpa using nx)]
 refine wpAny_bind (wpAny_holding (wpAny_runValue (codeAny_builtin D3k ?_)))
 unfold Builtin.«proto.unchain»
 dsimp only
 refine wpAny_bind (wpAny_field (k x ox e) d n ?_)
 rw[if_pos (by decide)]
 refine wpAny_pure ?_
 dsimp only
 unfold updateField
 refine wpAny_bind (wpAny_bind (wpAny_load ha ?_))
 rw[da]
 dsimp only
 rw[if_pos h2]
 refine wpAny_update ha (wpAny_throw (h _ (fun b o hb e=>(Heap.get?_update_other _ _ (Ne.symm hb)).trans e) ⟨_,Heap.get?_update_self _ ha (Obj.isFreed_of_fields (Obj.data_mapFields da _)),Obj.cls_mapFields _ _⟩))
theorem V0g{α:Type}{Q:α ->Shared ->Prop}(hd:Hd A s.heap)
   (h:∀h' e,(∀b o,s.heap.get? b=some o ->h'.get? b=some o) ->({s with heap:=h'}:Shared).TypeIs (.ref e) "StopIteration" ->E (.ref e) {s with heap:=h'}):
   wpAny (model prog w) A (newExc (.type "StopIteration") []>>=fun e=>(raiseNew e:Sem α)) Q E s:=by
 refine wpAny_bind ?_
 simp only[newExc,newTuple]
 refine wpAny_bind (wpAny_newObj_type ?_ (by size_fits));refine wpAny_bind (m:=firstArgMember _ _) (wpAny_of_eq (a:=Value.none) (by first|rfl|(simp only[firstArgMember];rfl)) ?_)
 refine wpAny_newObj_type ?_ (by size_fits);dsimp only
 have k1:∀(z:Obj) b o,s.heap.get? b=some o ->(s.heap.push z).get? b=some o:=fun z b o e=>Heap.get?_push_of_some _ e
 have k2:∀(z y:Obj) b o,s.heap.get? b=some o ->((s.heap.push z).push y).get? b=some o:=fun z y b o e=>Heap.get?_push_of_some _ (Heap.get?_push_of_some _ e)
 have nw:∀(z:Obj),s.heap.get? (s.heap.push z).objs.size=none:=fun z=>Heap.get?_none_of_le (by rw[Heap.size_push];exact Nat.le_succ _)
 refine J2c (s:={s with heap:=_}) (h₀:=s.heap) hd (k2 _ _) (nw _) (Heap.get?_push_size _ rfl) rfl (by show 2<6;decide) fun h' k ⟨o',e',c'⟩=>h h' _ (fun b o e=>?_) ⟨o',e',c'⟩
 refine k b o ?_ (k2 _ _ b o e)
 intro q;rw[q,nw] at e;cases e
theorem C0t{it l:Addr}{i:Nat}{items:Array Value}{Q:Option Value ->Shared ->Prop}(hd:∀h':Heap,Heap.ExtBut it s.heap h' ->Hd A h')
   (hit:s.heap.IsListIter it l i) (hl:s.heap.IsList l items) (hx:items[i]?=none)
   (hQ:∀h',Heap.ExtBut it s.heap h' ->Q none {s with heap:=h'}):wpAny (model prog w) A (pyNext (.ref it)) Q E s:=by
 obtain⟨o,ho,hc,dt⟩:=id hit
 obtain⟨ol,hol,_,nl,dl⟩:=hl
 unfold pyNext
 refine wpAny_bind (wpAny_attempt (wpAny_callSpecial?_slot (name:=Str.ofString "__next__") hit.typeIs slot_listiter_next (wpAny_call_entry slot_listiter_next hit.typeIs entry_listiter_next ?_ (args_listiter_next _))))
 show wpAny _ _ (field (.ref it) 0>>=_) _ _ _;refine wpAny_bind (wpAny_field ho dt (x:= .ref l) rfl ?_)
 show wpAny _ _ (if(Value.ref l==Value.none)=true then _ else _) _ _ _;rw[if_neg (show¬((Value.ref l==Value.none)=true) by simp)]
 show wpAny _ _ (field (.ref it) 1>>=_) _ _ _;refine wpAny_bind (wpAny_field ho dt (x:= .int i 0) rfl ?_)
 show wpAny _ _ (seqItems? (.ref l)>>=_) _ _ _;refine wpAny_bind (wpAny_seqItems hol dl ?_)
 simp only[Int.toNat_natCast,hx]
 refine wpAny_bind (wpAny_rule (wpAny_bind (wpAny_setField ho dt (by simp) ?_)))
 have up:=fun f=>(Heap.SameBut.update (a:=it) (h:=s.heap) (f:=f)).extBut
 refine V0g (s:={s with heap:=_}) (A:=A.in1) (hd _ (up _)) fun h' e k ty=>?_
 refine wpAny_bind (wpAny_isInstance (T:="StopIteration") (b:=true) ty isSubtype_stop ?_)
 exact wpAny_pure (hQ h' fun b o hb z=>k b o (up _ b o hb z))
theorem B0y{it t:Addr}{i:Nat}{items:Array Value}{Q:Option Value ->Shared ->Prop}(hd:∀h':Heap,Heap.ExtBut it s.heap h' ->Hd A h')
   (hit:IsTupIter s.heap it t i) (hl:IsTup s.heap t items) (hx:items[i]?=none)
   (hQ:∀h',Heap.ExtBut it s.heap h' ->Q none {s with heap:=h'}):wpAny (model prog w) A (pyNext (.ref it)) Q E s:=by
 obtain⟨o,ho,hc,dt⟩:=id hit
 obtain⟨ol,hol,_,nl,dl⟩:=hl
 unfold pyNext
 refine wpAny_bind (wpAny_attempt (wpAny_callSpecial?_slot (name:=Str.ofString "__next__") hit.typeIs slot_tupleiter_next (wpAny_call_entry slot_tupleiter_next hit.typeIs entry_tupleiter_next ?_ (args_tupleiter_next _))))
 show wpAny _ _ (field (.ref it) 0>>=_) _ _ _;refine wpAny_bind (wpAny_field ho dt (x:= .ref t) rfl ?_)
 show wpAny _ _ (if(Value.ref t==Value.none)=true then _ else _) _ _ _;rw[if_neg (show¬((Value.ref t==Value.none)=true) by simp)]
 show wpAny _ _ (field (.ref it) 1>>=_) _ _ _;refine wpAny_bind (wpAny_field ho dt (x:= .int i 0) rfl ?_)
 show wpAny _ _ (seqItems? (.ref t)>>=_) _ _ _;refine wpAny_bind (wpAny_seqItems hol dl ?_)
 simp only[Int.toNat_natCast,hx]
 refine wpAny_bind (wpAny_rule (wpAny_bind (wpAny_setField ho dt (by simp) ?_)))
 have up:=fun f=>(Heap.SameBut.update (a:=it) (h:=s.heap) (f:=f)).extBut
 refine V0g (s:={s with heap:=_}) (A:=A.in1) (hd _ (up _)) fun h' e k ty=>?_
 refine wpAny_bind (wpAny_isInstance (T:="StopIteration") (b:=true) ty isSubtype_stop ?_)
 exact wpAny_pure (hQ h' fun b o hb z=>k b o (up _ b o hb z))
theorem V2s{t:Addr}{items:Array Value}{targets:List (Bool×(Value ->Sem Unit))}{Q:Unit ->Shared ->Prop}(hd:Hd A s.heap)(ht:IsTup s.heap t items)
   (hn:targets.length=items.size) (hst:targets.findIdx? (·.1)=none)
   (h:∀h',Heap.ExtBut s.heap.objs.size s.heap h' ->wpAny (model prog w) A (assignInOrder (targets.map (·.2)) items.toList) Q E {s with heap:=h'}):
   wpAny (model prog w) A (unpack (.ref t) targets) Q E s:=by
 have ne:t≠s.heap.objs.size:=by obtain⟨o,ho,_⟩:=ht;exact Nat.ne_of_lt (Heap.lt_size ho)
 unfold unpack
 rw[hn,hst]
 refine wpAny_bind (wpAny_holding ?_)
 unfold unpackItems
 refine wpAny_bind ?_
 unfold notIterableAtAll
 refine wpAny_bind (wpAny_specialOf ht.typeIs slot_tuple_iter.lookup (wpAny_pure ?_))
 simp only[Bool.false_eq_true,if_false]
 refine wpAny_bind (wpAny_holding (iter_tuple ht (wpAny_bind (wpAny_holding (draw_tuple ne items.size 0 _ _ ⟨_,Heap.get?_push_size _ rfl,rfl,rfl⟩ (ht.push _) (by omega) fun g hit sb=>?_)))))
 have all:List.take items.size (List.drop 0 items.toList)=items.toList:=List.take_of_length_le (by simp)
 rw[all,if_neg (by simp)]
 have old:∀b o,b≠s.heap.objs.size ->s.heap.get? b=some o ->g.get? b=some o:=fun b o hb e=>sb.extBut b o hb (Heap.get?_push_of_some _ e)
 refine wpAny_bind (wpAny_holding (B0y (fun h' k=>hd.keeps fun b o e=>?_) hit ((ht.push _).extBut sb.extBut ne) (by simp) fun h₂ he₂=>?_))
 . have nb:b≠s.heap.objs.size:=Nat.ne_of_lt (Heap.lt_size e)
   exact k b o nb (old b o nb e)
 simp only[Option.isSome_none,Bool.false_eq_true,if_false]
 exact wpAny_pure (h h₂ fun b o hb e=>he₂ b o hb (old b o hb e))
end
theorem Y9.there{P:Program}{w:World}{H:Hp}{h:Heap}{a:Addr}{o:HO}(x:Y9 P w H h a o):∃u,h.get? a=some u:=by
 cases o with
 |lst xs=>obtain⟨_,_,_,_,e⟩:=x;exact⟨_,e⟩
 |tup xs=>obtain⟨_,_,_,_,e,_⟩:=x;exact⟨_,e⟩
 |dK kvs=>obtain⟨_,_,_,_,o,_,_,e,_⟩:=x;exact⟨_,e⟩
 |dT kvs=>obtain⟨_,_,_,_,o,_,_,e,_⟩:=x;exact⟨_,e⟩
 |set S n=>obtain⟨o,_,_,_,e,_⟩:=x;exact⟨_,e⟩
 |ins C dx fs=>obtain⟨_,_,_,e,_⟩:=x;exact⟨_,e⟩
 |own y=>obtain⟨_,e⟩:=x;exact⟨_,e⟩
 |xd fs=>obtain⟨_,⟨_,_,_,e,_⟩,_⟩:=x;exact⟨_,e⟩
 |rng lo hi=>obtain⟨_,_,_,e⟩:=x;exact⟨_,e⟩
 |frz ob u=>obtain⟨e,_⟩:=x;exact⟨_,e⟩
 |tbl ps=>exact⟨_,show h.get? a=some _ from x⟩
 |met f y=>exact⟨_,show h.get? a=some _ from x⟩
 |ext φ=>obtain⟨_,e,_⟩:=x;exact e
theorem HOk.new{P:Program}{w:World}{H:Hp}{h:Heap}{a:Addr}(x:HOk P w H h)(e:h.get? a=none):H a=none:=by
 cases q:H a with
 |none=>rfl
 | some u=>
   obtain⟨o,z⟩:=(x a u q).there
   rw[e] at z
   cases z
structure Nw(X:Cx)(pins:List (Addr×Obj))(H:Hp)(b:Addr):Prop where
 un:H b=none
 loc:b≠X.env.locals
 fs:b ∉ X.fs
 old:X.s₀.heap.get? b=none
 cell:∀x c,X.env.cells.lookup x=some c ->c≠b
 pin:∀p∈X.pn++pins,p.1≠b
section
variable{X:Cx}{pins:List (Addr×Obj)}{σ:St}{H H':Hp}{s s':Shared}{a b t:Addr}{C:Value}{dd:Option Addr}
theorem Inv.fsFree(I:Inv X pins σ H s):∀b∈X.fs,H b=none:=fun b hb=>I.stkFree b (by
 rcases I.ok.stk with z|⟨z,zf⟩
 . rw[z];exact hb
 . rw[z]
   unfold frs
   rw[List.filterMap_cons,zf]
   exact List.mem_cons_of_mem _ hb)
theorem Inv.nw(I:Inv X pins σ H s)(hex:X.ex=[])(e:s.heap.get? b=none)(hu:H' b=none):Nw X pins H' b:=by
 refine⟨hu,?_,?_,?_,?_,?_⟩
 . rintro rfl
   obtain⟨m,⟨o,_,_,ho,_⟩,_⟩:=I.loc
   rw[e] at ho
   cases ho
 . intro hb
   obtain⟨_,o,ho,_⟩:=I.funs.mem hb
   rw[e] at ho
   cases ho
 . cases q:X.s₀.heap.get? b with
   |none=>rfl
   | some o=>
     obtain⟨o',z⟩:=I.base.there b o q (by rw[hex];simp)
     rw[e] at z
     cases z
 . rintro x c h rfl
   obtain⟨v,o,ho,_⟩:=I.cell x c h
   rw[e] at ho
   cases ho
 rintro p hp rfl
 obtain⟨z,_⟩:=I.pin p hp
 rw[e] at z
 cases z
theorem Inv.stepN{h':Heap}{ch:List Addr}(I:Inv X pins σ H s)(hch:∀b∈ch,Nw X pins H b)
   (keep:∀b o,b≠X.env.locals ->b ∉ X.fs ->b ∉ ch ->s.heap.get? b=some o ->h'.get? b=some o)
   (slot:∀b o,b ∉ ch ->s.heap.get? b=some o ->∃sl,h'.get? b=some {o with slots:=sl}):Inv X pins σ H {s with heap:=h'}:=by
 have neL:∀b o,X.s₀.heap.get? b=some o ->b≠X.env.locals:=fun b o e=>Nat.ne_of_lt (Nat.lt_of_lt_of_le (Heap.lt_size e) I.ok.above)
 have neC:∀b o,X.s₀.heap.get? b=some o ->b ∉ ch:=fun b o e hb=>by
   have z:=(hch b hb).old
   rw[e] at z
   cases z
 have cellK:∀x c,X.env.cells.lookup x=some c ->∀v,s.heap.IsCell c v ->h'.IsCell c v:=fun x c e v ⟨o,ho,hd⟩=>by
   have nch:c ∉ ch:=fun z=>(hch c z).cell x c e rfl
   obtain⟨sl,q⟩:=slot c o nch ho
   exact⟨_,q,hd⟩
 refine⟨I.ok,I.os,I.bare,⟨fun b o e n hb hx=>?_,fun b o e n hb hx=>?_,I.base.free,fun b o e hx=>?_,I.base.tups,I.base.frzs,I.base.tbls⟩,?_,fun x c e=>?_,I.free,I.freeC,fun p hp=>?_,?_,I.len⟩
 . exact keep b o (neL b o e) hb (neC b o e) (I.base.keep b o e n hb hx)
 . obtain⟨sl,e1⟩:=I.base.slot b o e n hb hx
   obtain⟨sl',e2⟩:=slot b _ (neC b o e) e1
   exact⟨sl',e2⟩
 . obtain⟨o',e1⟩:=I.base.there b o e hx
   obtain⟨sl',e2⟩:=slot b _ (neC b o e) e1
   exact⟨_,e2⟩
 . obtain⟨m,hn,hl⟩:=I.loc
   refine⟨m,?_,fun i x v e1 e2 e3=>?_⟩
   . obtain⟨o,es,ep,ho,r⟩:=hn
     obtain⟨sl,q⟩:=slot _ o (fun z=>(hch _ z).loc rfl) ho
     exact⟨_,es,ep,q,r⟩
   . obtain⟨u,r,l⟩:=hl i x v e1 e2 e3
     refine⟨u,r,?_⟩
     rcases l with l|⟨k,c,e,z⟩
     . exact .inl l
     . exact .inr ⟨k,c,e,cellK x c e _ z⟩
 . obtain⟨v,z⟩:=I.cell x c e
   exact⟨v,cellK x c e v z⟩
 . obtain⟨e,n,ne,nf,d⟩:=I.pin p hp
   exact⟨keep p.1 p.2 ne nf (fun z=>(hch p.1 z).pin p hp rfl) e,n,ne,nf,d⟩
 intro c o e
 have tr:∀b,H b≠none ->∀u,s.heap.get? b=some u ->h'.get? b=some u:=fun b hb u q=>
   keep b u (fun z=>hb (by rw[z];exact I.free)) (fun z=>hb (I.fsFree b z)) (fun z=>hb (hch b z).un) q
 refine(I.hok c o e).stay (fun b u hb q=>tr b ?_ u q) (fun _ q=>q) fun _ _ q=>q
 rcases hb with rfl|hb
 . rw[e];simp
 rw[hb];simp
noncomputable def Flt (X:Cx) (pins:List (Addr×Obj)) (H:Hp) (s:Shared) (a:Addr) (C:Value) (t:Addr) (dd:Option Addr):Prop:=
 Nw X pins H a/\∃tb,s.heap.get? a=some (A0s C t dd tb)/\TbOk s.heap a tb/\∀T,tb= .ref T ->Nw X pins H T
noncomputable def C9a (X:Cx) (pins:List (Addr×Obj)) (H:Hp) (s:Shared) (a:Addr) (C:Value) (t:Addr) (dd:Option Addr) (fl:Value):Prop:=
 Nw X pins H a/\∃T oT ts,s.heap.get? a=some (A0s C t dd (.ref T))/\T≠a/\Nw X pins H T/\s.heap.get? T=some oT/\oT.data= .fields ts/\ts[3]?=some fl
structure Body(X:Cx):Prop where
 ex:X.ex=[]
 st:X.stack=X.env::X.outer
 fr:X.env.frame=some X.env.locals
theorem C9a.flt(F:C9a X pins H s a C t dd .none):Flt X pins H s a C t dd:=by
 obtain⟨n,T,oT,ts,e,ne,nT,eT,dT,h3⟩:=F
 exact⟨n,_,e,.inr ⟨T,oT,ts,rfl,ne,eT,dT,h3⟩,fun T' z=>by cases z;exact nT⟩
noncomputable def J7x:Value ->List Addr
 | .ref z=>[z]
 |_=>[]
theorem J0z{M:Model}{E:Value ->Shared ->Prop}{Q:Unit ->Shared ->Prop}(B:Body X)(I:Inv X pins σ H s)(F:Flt X pins H s a C t dd)
   (k:∀s',Inv X pins σ H s' ->C9a X pins H s' a C t dd (rawInt X.env.locals) ->Q () s'):wpAny M X.A (noteFrame (.ref a) X.env) Q E s:=by
 obtain⟨na,tb,e,ht,nT⟩:=F
 have hfr:=I.ok.frames
 rw[B.st] at hfr
 have hl:=I.stack
 rw[B.st] at hl
 refine A0fn hfr hl B.fr e ht fun h' T k1 k2 k3 k4 k5 k6=>?_
 have ch:∀b,b ∉ a::J7x tb ->b≠a/\tb≠ .ref b:=by
   intro b hb
   refine⟨fun z=>hb (by rw[z];exact List.mem_cons_self),fun z=>hb ?_⟩
   rw[z]
   exact List.mem_cons_of_mem _ (List.mem_singleton.mpr rfl)
 have I':Inv X pins σ H {s with heap:=h'}:=by
   refine I.stepN (ch:=a::J7x tb) (fun b hb=>?_) (fun b o h1 h2 h3 q=>k1 b o ?_ (ch b h3).1 (ch b h3).2 q) (fun b o h3 q=>k2 b o (ch b h3).1 (ch b h3).2 q)
   . rcases List.mem_cons.mp hb with rfl|hb
     . exact na
     . cases tb<;>simp[J7x] at hb
       subst hb
       exact nT _ rfl
   . intro z
     rw[List.filterMap_cons,B.fr] at z
     rcases List.mem_cons.mp z with z|z
     . exact h1 z
     . exact h2 z
 obtain⟨oT,ts,q1,q2,q3⟩:=k6
 exact k _ I' ⟨na,T,oT,ts,k5,k4,I.nw B.ex k3 (I.hok.new k3),q1,q2,q3⟩
theorem C7b{M:Model}{A:Around}{E:Value ->Shared ->Prop}{Q:Unit ->Shared ->Prop}{fl:Value}(I:Inv X pins σ H s)(F:C9a X pins H s a C t dd fl)
   (k:∀s',Inv X pins σ H s' ->C9a X pins H s' a C t dd .none ->Q () s'):wpAny M A (setFlight (.ref a) none) Q E s:=by
 obtain⟨na,T,oT,ts,e,ne,nT,eT,dT,h3⟩:=F
 refine A0gb e ne eT dT h3 fun h' k1 k2=>?_
 have I':Inv X pins σ H {s with heap:=h'}:=I.stepN (ch:=[T]) (fun b hb=>by
   have:b=T:=by simpa using hb
   subst this
   exact nT) (fun b o _ _ hb q=>k1 b o (fun z=>hb (by simp[z])) q) (fun b o hb q=>⟨_,k1 b o (fun z=>hb (by simp[z])) q⟩)
 rcases k2 with z|⟨T',oT',ts',z,_,q1,q2,q3⟩
 . cases z
 cases z
 exact k _ I' ⟨na,T,oT',ts',k1 a _ (Ne.symm ne) e,ne,nT,q1,q2,q3⟩
theorem D8b{M:Model}{E:Value ->Shared ->Prop}{Q:Unit ->Shared ->Prop}(B:Body X)(I:Inv X pins σ H s)(F:Flt X pins H s a C t dd)
   (k:∀s',Inv X pins σ H s' ->C9a X pins H s' a C t dd .none ->Q () s'):wpAny M X.A (leaving X.env (.ref a)) Q E s:=by
 unfold leaving
 exact wpAny_bind (J0z B I F fun s1 I1 F1=>C7b I1 F1 k)
end
noncomputable abbrev EK:=Value ->Option Addr ->St ->Hp ->Prop
noncomputable def G5 (X:Cx) (EH:EK):Prop:=∀(pins:List (Addr×Obj)) (σ:St) (H:Hp) (s:Shared) (a t:Addr) (C:Value) (dd:Option Addr),Inv X pins σ H s ->Flt X pins H s a C t dd ->EH C dd σ H ->X.xe (.ref a) s
noncomputable def CX1 (P:Program) (w:World):CXT:=fun outer H s E e s'=>∃(a t:Addr) (C:Value) (dd:Option Addr) (H':Hp),e= .ref a/\s'.os=s.os/\AllBare s'.gens/\Un (frs outer) [] H H' s.heap s'.heap/\HOk P w H' s'.heap/\E C dd H'/\
 (s.heap.get? a=none/\H' a=none)/\∃T oT ts,s'.heap.get? a=some (A0s C t dd (.ref T))/\T≠a/\(s.heap.get? T=none/\H' T=none)/\s'.heap.get? T=some oT/\oT.data= .fields ts/\ts[3]?=some .none
theorem A8a{P:Program}{w:World}{K:PySem.W.Frag}{mg:Str ->Option Value}{base:Heap}{N:List Str}{qual:Str}{scope:Scope}{f:Addr}{cd:Value}{A:Around}{outer:List Env}{s:Shared}{H:Hp}{E:XK}:
   G5 (A0w (CX1 P w) P w K mg base N qual scope f cd A outer s H E) (fun C dd _ H'=>E C dd H'):=by
 intro pins σ H' s' a t C dd I F h
 refine D8b (X:=A0w (CX1 P w) P w K mg base N qual scope f cd A outer s H E) ⟨rfl,rfl,rfl⟩ I F fun s2 I2 F2=>?_
 obtain⟨na,T,oT,ts,e,ne,nT,eT,dT,h3⟩:=F2
 exact⟨a,t,C,dd,H',rfl,I2.os,I2.bare,I2.base,I2.hok,h,⟨na.old,na.un⟩,T,oT,ts,e,ne,⟨nT.old,nT.un⟩,eT,dT,h3⟩
section
variable{X:Cx}{k:Nat}{f C:Addr}{fd:FuncData}{ps:List Str}{sp:Sp}{dvs:List V}{ds:List Value}{EH:EK}{x m:Str}{p pos apos:Pos}{e o:Expr}{es:List Expr}{ta:TE}{t:TA}
theorem Z9k{pins:List (Addr×Obj)}{σ:St}{H:Hp}{s:Shared}{e:Value}{s':Shared}(hx:G5 X EH)(hex:X.ex=[])(I:Inv X pins σ H s)
   (h:CX1 X.prog X.w X.stack H s (fun C d H'=>EH C d σ H') e s'):X.xe e s':=by
 obtain⟨a,t,C,dd,H',rfl,os,bare,un,hok,hE,⟨a1,a2⟩,T,oT,ts,z,ne,⟨t1,t2⟩,eT,dT,h3⟩:=h
 have I':Inv X pins σ H' s':=I.call' (ch:=[]) os un hok bare (fun b q=>absurd q (by simp))
 exact hx pins σ H' s' a t C dd I' (C9a.flt ⟨I.nw hex a1 a2,T,oT,ts,z,ne,I.nw hex t1 t2,eT,dT,h3⟩) hE
theorem C6x{pins:List (Addr×Obj)}{σ:St}{H:Hp}{s:Shared}{Q:VK}{us:List Value}{vs:List V}(F:FnOk X.prog X.w X.K X.mg X.base (CX1 X.prog X.w) k f fd ps sp)(hr:Z5 k X.A)(hb:A0p X.K fd ps ds)(hd:U3 dvs ds)
   (hx:G5 X EH) (hex:X.ex=[]) (I:Inv X pins σ H s) (r:U3 vs us) (h:sp (vs++dvs) H Q (fun C d H'=>EH C d σ H')):wpAny (model X.prog X.w) X.A (call (.ref f) us) (EP X pins σ Q) X.xe s:=by
 have r2:U3 (vs++dvs) (us++ds):=r.append hd
 have hl:(us++ds).length=ps.length:=by rw[<-r2.length];exact F.len _ _ _ _ h
 refine wpAny_call (codeAny_mono (F.run X.A X.stack s H ⟨us,[]⟩ (us++ds) (vs++dvs) Q _ hr I.env0 (hb s us I.kIn hl) r2 h) fun r s' hq=>?_)
 cases r with
 |error e=>exact Z9k hx hex I hq
 | ok fl=>
   cases fl with
   |ret u=>exact I.after hq
   |next=>exact False.elim hq
   |brk=>exact False.elim hq
   |cont=>exact False.elim hq
noncomputable def D9z (sp:Sp) (dvs:List V) (EH:EK) (t:TA):TE:=fun σ H Q=>t σ H fun vs H1=>sp (vs++dvs) H1 Q (fun C d H'=>EH C d σ H')
theorem Y3v(F:FnOk X.prog X.w X.K X.mg X.base (CX1 X.prog X.w) k f fd ps sp)(hr:Z5 k X.A)(hg:Gl X x)(hm:X.mg x=some (.ref f))(hk:PySem.W.keepIn X.K (.ref f)=true)(hb:A0p X.K fd ps ds)(hd:U3 dvs ds)
   (hx:G5 X EH) (ha:PA X (e::es) t) (hex:X.ex=[]:=by rfl) (hdb:(x==("__debug__":Str))=false:=by decide) (he:starEach (e::es) X.env=(false,eval e X.env)::starEach es X.env:=by rfl)
   (hpl:(backTo pos (starEach es X.env)).any (·.1)=false:=by rfl):PE X (.Call (.Name x p) (e::es) [] pos) (D9z sp dvs EH t):=by
 intro pins s σ H Q I h
 refine wpAny_Call_Name_kw (A2n I hg hm ?_ hdb)
 refine PySem.W.callWith_K (h₀:=X.base) I.ok.mod.kin hk (thn (ha pos pins s σ H _ I h) fun us s1 ⟨vs,H1,I1,r,q⟩=>⟨I1.kIn,?_⟩) he hpl
 exact C6x F hr hb hd hx hex I1 r q
theorem V2h(F:FnOk X.prog X.w X.K X.mg X.base (CX1 X.prog X.w) k f fd ps sp)(hr:Z5 k X.A)(hg:Gl X x)(hm:X.mg x=some (.ref f))(hk:PySem.W.keepIn X.K (.ref f)=true)(hb:A0p X.K fd ps ds)(hd:U3 dvs ds)
   (hx:G5 X EH) (hex:X.ex=[]:=by rfl) (hdb:(x==("__debug__":Str))=false:=by decide):PE X (.Call (.Name x p) [] [] pos) (D9z sp dvs EH V4r):=by
 intro pins s σ H Q I h
 refine wpAny_Call_Name_kw (A2n I hg hm ?_ hdb)
 exact PySem.W.callWith_K0 I.kIn hk (C6x (us:=[]) F hr hb hd hx hex I .nil h)
end
section
variable{P:Program}{w:World}{K:PySem.W.Frag}{mg:Str ->Option Value}{base:Heap}
theorem Fun.okE{x qual:Str}{st:Stmt}{f:Addr}{fd:FuncData}{N ps:List Str}{k:Nat}{sp:Sp}(F:Fun K x qual st f fd)(S:B9 N ps (A1 st))(len:∀vs H Q E,sp vs H Q E ->vs.length=ps.length)
   (hbody:∀(X:Cx) (cdv:Value) (A:Around) (outer:List Env) (s:Shared) (H:Hp) (vs:List V) (Q:VK) (E:XK),X=A0w (CX1 P w) P w K mg base N qual (A1 st) f cdv A outer s H E ->Z5 k X.A ->G5 X (fun C dd _ H'=>E C dd H') ->sp vs H Q E ->
     ∃t,PSs (A0w (CX1 P w) P w K mg base N qual (A1 st) f cdv A outer s H E) (B5 st) t/\t {nx:=fun _ H'=>Q .non H',rt:=Q} (A4z N vs) H):FnOk P w K mg base (CX1 P w) (k+1) f fd ps sp:=by
 obtain⟨oc,od,kV,doc,pm,an,cdv,ct,osl,rfl,lk,hc⟩:=F.ex
 exact Y1b lk hc S len fun A outer s H vs Q E hr h=>hbody _ cdv A outer s H vs Q E rfl hr A8a h
theorem FnOk.up{k:Nat}{f:Addr}{fd:FuncData}{ps:List Str}{sp:Sp}(F:FnOk P w K mg base CX0 k f fd ps sp):FnOk P w K mg base (CX1 P w) k f fd ps sp:=by
 refine⟨F.len,fun A outer s H args us vs Q E hr e0 hb r h=>codeAny_mono (F.run A outer s H args us vs Q E hr e0 hb r h) fun r s' q=>?_⟩
 cases r with
 |error e=>exact False.elim q
 |ok fl=>cases fl<;>exact q
end
end L2
namespace L2
open PySem PySem.Spec PyProof.Rows PySem.W
theorem Z8y{K:Frag}{h:Heap}{C:Addr}{bmB:List Value}{newId:String}(X:K.In h)(q:excIn K C bmB newId=true):
   ∃ (bm:List Value) (N:Addr) (nm qn:Str) (bs:List Value) (hd:Bool) (sn:List Str) (sub:List Value) (ab:Bool) (col:Option Bool) (dd:Option Addr) (k0 k1 k2 k3 k5:Option Value) (mN:Str ->Option Value),
     h.get? C=some (excClassObj nm qn C N bs bm hd sn sub ab col dd k0 k1 k2 k3 k5 newId)/\h.Ns N mN/\mN "__init__"=none/\OwnTail h bmB bm:=by
 unfold excIn at q
 split at q
 . rename_i dd cd sl ho
   split at q
   . rename_i C' bm k0 k1 k2 k3 n k5 hm hs
     simp only[Bool.and_eq_true,beq_iff_eq,Bool.not_eq_true'] at q
     obtain⟨⟨⟨⟨⟨r1,r2⟩,r3⟩,r4⟩,r5⟩,r6⟩:=q
     subst r1 r2
     obtain⟨a1,a2,a3,a4,a5,a6,a7,a8,a9,a10,a11⟩:=cd
     dsimp only at hm r3 r5 r6
     subst hm r3
     have hsl:sl= #[k0,k1,k2,k3,some (.builtin n),k5]:=by
       obtain⟨l⟩:=sl
       simp only at hs
       rw[hs]
     subst hsl
     exact⟨bm,a4,a1,a5,a2,a6,a7,a8,a9,a10,dd,k0,k1,k2,k3,k5,_,X _ _ ho,.of_isNs (isNs_of_in X r5),nsMap_none_of_in X r5 r6,tail_of_in X r4⟩
   . cases q
 cases q
section
variable{X:Cx}{x:Str}{p cpos pos:Pos}{e:Expr}{es:List Expr}{t:TA}{C:Addr}{bmB:List Value}{B newId initId:String}{EH:EK}
noncomputable def A0fd (C:Addr) (EH:EK) (t:TA):TS:=fun _ σ H=>t σ H fun vs H1=>vs.length<=sizeLine/\EH (.ref C) none σ H1
theorem A2x(hg:Gl X x)(hm:X.mg x=some (.ref C))(q:excIn X.K C bmB newId=true)(FB:ExcBaseFacts B newId initId bmB)(hh:X.A.handled=none)(hx:G5 X EH)(ha:PA X (e::es) t)(hex:X.ex=[]:=by rfl)
   (hdb:(x==("__debug__":Str))=false:=by decide) (he:starEach (e::es) X.env=(false,eval e X.env)::starEach es X.env:=by rfl) (hpl:(backTo cpos (starEach es X.env)).any (·.1)=false:=by rfl):
   PS X (.Raise (some (.Call (.Name x p) (e::es) [] cpos)) none pos) (A0fd C EH t):=by
 intro pins s σ H D I h
 obtain⟨bm,N,nm,qn,bs,hd,sn,sub,ab,col,dd,k0,k1,k2,k3,k5,mN,hC,hN,hni,T⟩:=Z8y I.ok.mod.kin q
 refine wpAny_Raise_call_subT (C:=C) (nm:=nm) (q:=qn) (N:=N) (bs:=bs) (bm:=bm) (hdct:=hd) (sn:=sn) (sub:=sub) (ab:=ab) (col:=col) (dd:=dd) (k0:=k0) (k1:=k1) (k2:=k2) (k3:=k3) (k5:=k5) FB (mN:=mN) (T.hasType FB.hasBase) hh
   (by rw[he];show(false||(backTo cpos (starEach es X.env)).any (·.1))=false;rw[hpl];rfl) hni (A2n I hg hm ⟨rfl,?_⟩ hdb)
 have ha':=ha cpos pins s σ H _ I h
 rw[he] at ha' ⊢
 refine Calls.evalArgs_plain (wpAny_mono ha' (fun us s2 ⟨vs,H1,I1,r,z,q⟩=>⟨rfl,by rw[<-r.length];exact z,I1.bk _ _ hC,hN.keeps I1.bk,T.keeps I1.bk,fun h' a m=>?_⟩) fun _ _ y=>y)
 have I2:Inv X pins σ H1 {s2 with heap:=h'}:=I1.kept (t':=s2.toks) m.keeps
 obtain⟨t',e1,tn,e2⟩:=m.there
 exact hx pins σ H1 _ a t' (.ref C) none I2 ⟨I1.nw hex m.new (I1.hok.new m.new),.none,e1,.inl rfl,fun T z=>nomatch z⟩ q
end
section
variable{X:Cx}{pins:List (Addr×Obj)}{σ:St}{H:Hp}{s:Shared}
theorem Inv.track{a:Addr}{o:Obj}(I:Inv X pins σ H s)(n:Nw X pins H a)(e:s.heap.get? a=some o):Inv X pins σ (upd H a (.frz o (.own a))) s:=by
 have ne:∀b u,H b=some u ->b≠a:=fun b u z q=>by rw[q,n.un] at z;cases z
 have up:∀b,b≠a ->upd H a (.frz o (.own a)) b=H b:=fun b hb=>C9 hb
 refine⟨I.ok,I.os,I.bare,⟨I.base.keep,I.base.slot,fun b u z m hx=>?_,I.base.there,fun b xs z=>?_,fun b u v z=>?_,fun b ps z=>?_⟩,I.loc,I.cell,?_,fun x c z=>?_,fun p hp=>?_,fun b u z=>?_,I.len⟩
 . rw[up b fun q=>by rw[q,n.old] at z;cases z]
   exact I.base.free b u z m hx
 . have:=I.base.tups b xs z
   rw[up b (ne b _ this)];exact this
 . have:=I.base.frzs b u v z
   rw[up b (ne b _ this)];exact this
 . obtain⟨more,this⟩:=I.base.tbls b ps z
   exact⟨more,by rw[up b (ne b _ this)];exact this⟩
 . rw[up _ (Ne.symm n.loc)];exact I.free
 . rw[up _ (n.cell x c z)];exact I.freeC x c z
 . obtain⟨q1,q2,q3⟩:=I.pin p hp
   exact⟨q1,by rw[up _ (n.pin p hp)];exact q2,q3⟩
 by_cases hb:b=a
 . subst hb
   rw[A7] at z
   cases z
   exact⟨e,_,e⟩
 rw[up b hb] at z
 exact(I.hok b u z).stay (fun _ _ _ q=>q) (fun c q=>by rw[up c (ne c _ q)];exact q) (fun c xs q=>by rw[up c (ne c _ q)];exact q)
theorem V3b{M:Model}{A:Around}{E:Value ->Shared ->Prop}{i:Nat}{x:Str}{v:V}{Q:Unit ->Shared ->Prop}(I:Inv X pins σ H s)(hN:X.N.Nodup)(hi:X.N[i]?=some x)(hk:X.env.scope.names.lookup x=some .local)(hv:σ[i]?=some (some v))
   (k:∀s',Inv X pins (σ.set i none) H s' ->Q () s'):wpAny M A (unbindName X.env x) Q E s:=by
 obtain⟨m,hn,hl⟩:=id I.loc
 have hcls:(X.env.scope.kind== .class||(X.env.scope.kind== .module&&X.env.locals !=X.env.globals))=false:=by rw[I.ok.kind];rfl
 obtain⟨u,_,lk⟩:=hl i x v hi hv (.inl hk)
 have hm:m x=some u:=by
   rcases lk with⟨_,z⟩|⟨z,_⟩
   . exact z
   . have z:X.env.scope.names.lookup x=some .cell\/X.env.scope.names.lookup x=some .free:=z
     rw[hk] at z
     rcases z with z|z<;>cases z
 refine wpAny_unbindName_local hk hn hm hcls fun h' w' hn' hs=>k _ ?_
 obtain⟨oL,_,_,hoL,_⟩:=id hn
 have nl:∀b o,X.s₀.heap.get? b=some o ->b≠X.env.locals:=fun b o e=>Nat.ne_of_lt (Nat.lt_of_lt_of_le (Heap.lt_size e) I.ok.above)
 refine⟨I.ok,I.os,I.bare,⟨fun b o e n hb hx=>?_,fun b o e n hb hx=>?_,I.base.free,fun b o e hx=>?_,I.base.tups,I.base.frzs,I.base.tbls⟩,⟨_,hn',fun j y v' e1 e2 e3=>?_⟩,fun y c e=>?_,I.free,I.freeC,fun p hp=>?_,fun b u z=>?_,by simpa using I.len⟩
 . exact(hs.2 b (nl b o e)).trans (I.base.keep b o e n hb hx)
 . obtain⟨sl,e1⟩:=I.base.slot b o e n hb hx
   exact⟨sl,(hs.2 b (nl b o e)).trans e1⟩
 . obtain⟨o',e1⟩:=I.base.there b o e hx
   exact⟨o',(hs.2 b (nl b o e)).trans e1⟩
 . by_cases hj:j=i
   . subst hj
     have hlen:j<σ.length:=(List.getElem?_eq_some_iff.mp hv).1
     rw[List.getElem?_set_self hlen] at e2
     cases e2
   . rw[List.getElem?_set_ne (Ne.symm hj)] at e2
     obtain⟨u',r',q⟩:=hl j y v' e1 e2 e3
     refine⟨u',r',?_⟩
     rcases q with⟨k1,e⟩|⟨k1,c,e,z⟩
     . have:y≠x:=fun e=>hj (C8v hN e1 (e▸hi))
       exact .inl ⟨k1,by simp[this,e]⟩
     . exact .inr ⟨k1,c,e,z.sameBut hs (I.cne y c e)⟩
 . obtain⟨w2,z⟩:=I.cell y c e
   exact⟨w2,z.sameBut hs (I.cne y c e)⟩
 . obtain⟨e,n,ne,nf,d⟩:=I.pin p hp
   exact⟨(hs.2 p.1 ne).trans e,n,ne,nf,d⟩
 refine(I.hok b u z).stay (fun c w2 hc q=>(hs.2 c ?_).trans q) (fun _ q=>q) fun _ _ q=>q
 rintro rfl
 rcases hc with rfl|hc
 . rw[I.free] at z;cases z
 rw[I.free] at hc;cases hc
end
noncomputable abbrev Cx.hold (X:Cx) (pins:List (Addr×Obj)) (E:Value ->Shared ->Prop):Cx:={X with pn:=X.pn++pins,xe:=E}
noncomputable abbrev Cx.hnd (X:Cx) (pins:List (Addr×Obj)) (a:Addr):Cx:={X with A:=X.A.mark (some (.ref a)),calm:=false,pn:=X.pn++pins,xe:=fun _ _=>False}
section
variable{X:Cx}{pins pins':List (Addr×Obj)}{σ:St}{H:Hp}{s:Shared}{a:Addr}{E:Value ->Shared ->Prop}
theorem Inv.hold(I:Inv X pins σ H s):Inv (X.hold pins E) [] σ H s:=
 ⟨⟨I.ok.mod,I.ok.kind,I.ok.glob,I.ok.blt,I.ok.above,I.ok.inj,I.ok.has,I.ok.cab,I.ok.hd,I.ok.frames,I.ok.stk,I.ok.exf,I.ok.bs,I.ok.bsz,I.ok.noex,I.ok.exfs,I.ok.funs,I.ok.frf⟩,
   I.os,I.bare,I.base,I.loc,I.cell,I.free,I.freeC,fun p hp=>I.pin p (by simpa using hp),I.hok,I.len⟩
theorem Inv.unhold(I:Inv (X.hold pins E) pins' σ H s):Inv X pins σ H s:=
 ⟨⟨I.ok.mod,I.ok.kind,I.ok.glob,I.ok.blt,I.ok.above,I.ok.inj,I.ok.has,I.ok.cab,I.ok.hd,I.ok.frames,I.ok.stk,I.ok.exf,I.ok.bs,I.ok.bsz,I.ok.noex,I.ok.exfs,I.ok.funs,I.ok.frf⟩,
   I.os,I.bare,I.base,I.loc,I.cell,I.free,I.freeC,fun p hp=>I.pin p (List.mem_append_left _ hp),I.hok,I.len⟩
theorem Inv.hnd(I:Inv X pins σ H s):Inv (X.hnd pins a) [] σ H s:=
 ⟨⟨I.ok.mod,I.ok.kind,I.ok.glob,I.ok.blt,I.ok.above,I.ok.inj,I.ok.has,I.ok.cab,(fun z=>nomatch z),I.ok.frames,I.ok.stk,I.ok.exf,I.ok.bs,I.ok.bsz,I.ok.noex,I.ok.exfs,I.ok.funs,I.ok.frf⟩,
   I.os,I.bare,I.base,I.loc,I.cell,I.free,I.freeC,fun p hp=>I.pin p (by simpa using hp),I.hok,I.len⟩
theorem Inv.unhnd(ok:X.Ok)(I:Inv (X.hnd pins a) pins' σ H s):Inv X pins σ H s:=
 ⟨ok,I.os,I.bare,I.base,I.loc,I.cell,I.free,I.freeC,fun p hp=>I.pin p (List.mem_append_left _ hp),I.hok,I.len⟩
theorem Nw.unhold{b:Addr}(n:Nw (X.hold pins E) pins' H b):Nw X pins H b:=⟨n.un,n.loc,n.fs,n.old,n.cell,fun p hp=>n.pin p (List.mem_append_left _ hp)⟩
theorem Flt.unhold{t:Addr}{C:Value}{dd:Option Addr}(F:Flt (X.hold pins E) pins' H s a C t dd):Flt X pins H s a C t dd:=by
 obtain⟨n,tb,e,ok,m⟩:=F
 exact⟨n.unhold,tb,e,ok,fun T z=>(m T z).unhold⟩
theorem SP.unhold{D:G1n}{f:Flow}{s':Shared}(h:SP (X.hold pins E) pins' D f s'):SP X pins D f s':=by
 cases f with
 |next=>obtain⟨σ',H',I,q⟩:=h;exact⟨σ',H',I.unhold,q⟩
 |brk=>obtain⟨σ',H',I,q⟩:=h;exact⟨σ',H',I.unhold,q⟩
 |cont=>obtain⟨σ',H',I,q⟩:=h;exact⟨σ',H',I.unhold,q⟩
 |ret u=>obtain⟨v,σ',H',I,r,q⟩:=h;exact⟨v,σ',H',I.unhold,r,q⟩
end
structure G1q(K:Frag)(R:Addr):Prop where
 ty:typeIn K (.ref R)=some (.type "type")
 cl:(clsIn K R).isSome=true
 ex:subIn K (.ref R) (.type "BaseException")=some true
theorem A7s{K:Frag}{M:Model}{h:Heap}{R:Addr}(X:K.In h)(c:(clsIn K R).isSome=true):Looks M h (isType (.ref R)) true:=by
 unfold clsIn at c
 split at c
 . rename_i ho
   intro A' Q' E' s' k q
   unfold isType loadHead
   exact wpAny_bind (wpAny_loadPart (k _ _ (X _ _ ho)) (wpAny_pure q))
 cases c
theorem V2m{K:Frag}{M:Model}{A:Around}{E:Value ->Shared ->Prop}{s:Shared}{a R:Addr}{C:Value}{oa:Obj}{b:Bool}{Q:Bool ->Shared ->Prop}(X:K.In s.heap)(ha:s.heap.get? a=some oa)(hc:oa.cls=C)(c:G1q K R)
   (m:subIn K C (.ref R)=some b) (h:Q b s):wpAny M A (excMatches (.ref a) (.ref R)) Q E s:=by
 obtain⟨hp,g,d,tk,os⟩:=s
 have L1:Looks M hp (typeOf (.ref R)) (.type "type"):=looks_typeIn X c.ty
 have L2:Looks M hp (isSubtype (.ref R) (.type "BaseException")) true:=looks_subIn X c.ex
 have L3:Looks M hp (isSubtype C (.ref R)) b:=looks_subIn X m
 have L4:Looks M hp (typeOf (.ref a)) C:=hc▸(Looks.ld ha).andThen .now
 have L5:Looks M hp (isType (.ref R)) true:=A7s X c.cl
 unfold excMatches
 unfold isInstance
 refine wpAny_bind (wpAny_bind (L1.at ?_))
 rw[tc_notTuple]
 refine wpAny_pure ?_
 simp only[Bool.false_eq_true,if_false]
 refine wpAny_bind (wpAny_pure ?_)
 simp only[List.forIn_cons,List.forIn_nil]
 unfold isExcClass
 refine wpAny_bind (wpAny_bind (wpAny_bind (wpAny_bind (L5.at ?_))))
 simp only[if_true]
 refine L2.at ?_
 simp only[Bool.not_true,Bool.false_eq_true,if_false]
 refine wpAny_pure (wpAny_pure ?_)
 refine wpAny_bind (L4.at ?_)
 refine wpAny_bind (wpAny_bind (wpAny_bind (L3.at ?_)))
 cases b with
 |true=>simp only[if_true];exact wpAny_pure (wpAny_pure (wpAny_pure h))
 |false=>simp only[Bool.false_eq_true,if_false];exact wpAny_pure (wpAny_pure (wpAny_pure h))
noncomputable def tTry (K:Frag) (R:Addr) (i:Nat) (tb:EK ->TS) (ts:Addr ->TS):TS:=fun D σ H=>
 tb (fun C dd σ' H'=>subIn K C (.ref R)=some true/\∀(a t T:Addr),H' a=none ->
   ts a {nx:=fun σ2 H2=>D.nx (σ2.set i none) H2,rt:=D.rt,bk:=fun σ2 H2=>D.bk (σ2.set i none) H2,ct:=fun σ2 H2=>D.ct (σ2.set i none) H2}
     (σ'.set i (some (.ref a))) (upd H' a (.frz (A0s C t dd (.ref T)) (.own a)))) D σ H
section
variable{X:Cx}{x n:Str}{np hpos pos:Pos}{R:Addr}{i:Nat}{body suite:List Stmt}{b₀:Stmt}{tb:EK ->TS}{ts:Addr ->TS}
theorem Y1m(B:Body X)(hg:Gl X x)(hm:X.mg x=some (.ref R))(c:G1q X.K R)(hN:X.N.Nodup)(hi:X.N[i]?=some n)(hk:X.env.scope.names.lookup n=some .local)
   (hb:∀pins Ew EHb,G5 (X.hold pins Ew) EHb ->PSs (X.hold pins Ew) body (tb EHb)) (hs:∀pins a,PSs (X.hnd pins a) (b₀::suite) (ts a))
   (hdb:(x==("__debug__":Str))=false:=by decide) (hf:X.fn n=true\/X.env.scope.names.lookup n=some .local:=by first|exact .inl rfl|exact .inr rfl|assumption):
   PS X (.Try body [.ExceptHandler (some (.Name x np)) (some n) (b₀::suite) hpos] [] [] pos) (tTry X.K R i tb ts):=by
 intro pins s σ H D I h
 refine wpAny_Try_except ?_
 refine wpAny_mono (hb pins _ _ ?cat [] s σ H D I.hold h) (fun f s1 hf1=>?_) (fun e s1 he=>he)
 case cat=>
   intro pins' σ' H' s' a t C dd I' F' hE
   obtain⟨hsub,hE⟩:=hE
   show wpAny (model X.prog X.w) X.A (noteFrame (.ref a) X.env) _ X.xe s'
   have J:=I'.unhold
   have F:=F'.unhold
   refine J0z B J F fun s2 J2 F2=>C7b J2 F2 fun s3 J3 F3=>?_
   obtain⟨na,T,oT,ts',e3,ne3,nT3,eT3,dT3,h33⟩:=id F3
   refine wpAny_handleBy_cons (codeAny_handlers_test ?_) (by intro z;cases z)
   have K3:Inv (X.hnd pins a) [] σ' H' s3:=J3.hnd
   refine A2n K3 hg hm ?_ hdb
   refine V2m J3.kIn e3 rfl c hsub ?_
   show codeAny _ _ _ _ _
   refine codeAny_handlers_suite_as ?_
   refine C7b J3 F3 fun s4 J4 F4=>?_
   obtain⟨na4,T4,oT4,ts4,e4,_⟩:=id F4
   have J5:=J4.track na4 e4
   refine B1x (v:= .ref a) J5 hN hi (.inl hk) rfl (fun s5 J6=>?_) hf
   refine wpAny_mono (hs pins a [] s5 _ _ _ J6.hnd (hE a t T4 na4.un)) (fun f s6 hf6=>?_) (fun _ _ z=>z.elim)
   have fin:∀{σ6:St} {H6:Hp} {Q6:Unit ->Shared ->Prop},Inv (X.hnd pins a) [] σ6 H6 s6 ->(∀s7,Inv X pins (σ6.set i none) H6 s7 ->Q6 () s7) ->
       wpAny (model X.prog X.w) X.A (do bindName X.env n .none;unbindBehindTheSuite X.env n hpos) Q6 X.xe s6:=by
     intro σ6 H6 Q6 K6 k6
     have L6:=K6.unhnd J6.ok
     refine wpAny_bind (wpAny_bindName (B1x (v:= .non) L6 hN hi (.inl hk) rfl (fun s7 J7=>?_) hf))
     unfold unbindBehindTheSuite
     have hlen:i<σ6.length:=by rw[L6.len];exact(List.getElem?_eq_some_iff.mp hi).1
     refine wpAny_onRaise (V3b J7 hN hi hk (List.getElem?_set_self hlen) fun s8 J8=>k6 s8 ?_)
     rw[List.set_set] at J8
     exact J8
   cases f with
   |next=>obtain⟨σ6,H6,K6,q⟩:=hf6;exact fin K6 fun s7 J7=>⟨_,_,J7,q⟩
   |brk=>obtain⟨σ6,H6,K6,q⟩:=hf6;exact fin K6 fun s7 J7=>⟨_,_,J7,q⟩
   |cont=>obtain⟨σ6,H6,K6,q⟩:=hf6;exact fin K6 fun s7 J7=>⟨_,_,J7,q⟩
   |ret u=>obtain⟨v,σ6,H6,K6,r,q⟩:=hf6;exact fin K6 fun s7 J7=>⟨v,_,_,J7,r,q⟩
 cases f with
 |next=>exact wpAny_execs_nil (SP.unhold hf1)
 |brk=>exact SP.unhold hf1
 |cont=>exact SP.unhold hf1
 |ret u=>exact SP.unhold hf1
end
structure D3u(K:Frag)(C:Addr):Prop where
 ga:findIn K (.ref C) "__getattribute__"=some (some (.builtin "BaseException.__getattribute__"))
 gh:findIn K (.ref C) "__getattr__"=some none
 ca:findIn K (.ref C) "__class__"=some (some (.builtin "object.__class__"))
 sn:specialIn K (.builtin "object.__class__") "__get__"=some (some (.builtin "getset_descriptor.__get__"))
 tk:takesIn K (.builtin "object.__class__")=some true
 ob:mroIn K C (.type "object")=some true
 be:subIn K (.ref C) (.type "BaseException")=some true
 cl:(clsIn K C).isSome=true
theorem B1w{prog:Program}{w:World}{A:Around}{E:Value ->Shared ->Prop}{s:Shared}{K:Frag}{a C:Addr}{oa:Obj}{od:Option Obj}{Q:Option Value ->Shared ->Prop}(F:D3u K C)(X:K.In s.heap)(I:PySem.W.InstAt s.heap a oa C od)
   (h:Q (some (.ref C)) {s with toks:=s.toks+1}):wpAny (model prog w) A (getAttr? (.ref a) "__class__") Q E s:=by
 obtain⟨hp,g,d,t,os⟩:=s
 have L0:=I.type (M:=model prog w)
 have L1:=looks_findIn (M:=model prog w) X F.ga
 have L2:=looks_findIn (M:=model prog w) X F.gh
 have L3:Looks (model prog w) hp (isInstance (.ref a) (.type "BaseException")) true:=L0.andThen (looks_subIn X F.be)
 have hf:findObj K C od "__class__"=some (.bind (.builtin "getset_descriptor.__get__") (.builtin "object.__class__")):=by
   obtain⟨cd,hc⟩:=Option.isSome_iff_exists.mp F.cl
   unfold findObj
   rw[hc,Option.bind_some,F.ca,Option.bind_some]
   simp[F.sn,F.tk]
 have L4:=looks_find (M:=model prog w) X I hf
 have hk:builtinKind "BaseException.__getattribute__"=some .slot:=by decide+kernel
 have hsplit:splitId "BaseException.__getattribute__"=some ("BaseException","__getattribute__"):=by decide+kernel
 have hargs:=PySem.F.args_bexc_ga (.ref a) (.str "__class__" t)
 have hb:=PySem.F.attr_ValueError.ga.bind (.ref a)
 unfold getAttr? getAttrBy? getAttrBy
 refine wpAny_bind (wpAny_mkText (wpAny_bind (wpAny_attempt (wpAny_holding (wpAny_bind (L0.at (wpAny_bind (L1.at ?_))))))))
 dsimp only
 rw[if_neg (show¬((onTheHeap (Value.ref C)&&Value.builtin "BaseException.__getattribute__"==Value.builtin "object.__getattribute__")=true) by
   rw[show(Value.builtin "BaseException.__getattribute__"==Value.builtin "object.__getattribute__")=false by decide+kernel,Bool.and_false];exact Bool.false_ne_true)]
 unfold getAttrByItsOwn
 refine wpAny_bind (m:=hookBefore (.ref C)) (L2.at ?_)
 refine wpAny_bind (wpAny_attempt (wpAny_holding ?_))
 unfold callGetattribute
 rw[if_neg (by decide)]
 unfold boundAndCalled
 rw[hb]
 refine wpAny_bind (wpAny_pure ?_)
 refine wpAny_call (codeAny_call_builtin PySem.F.attr_ValueError.ga.plain PySem.F.entry_bexc_ga ?_)
 have chk:∀{A':Around} {Q':Unit ->Shared ->Prop} {E':Value ->Shared ->Prop},Q' () ⟨hp,g,d,t+1,os⟩ ->wpAny (model prog w) A' (checkBuiltinCall "BaseException.__getattribute__" ⟨[.ref a,.str "__class__" t],[]⟩) Q' E' ⟨hp,g,d,t+1,os⟩:=by
   intro A' Q' E' hq
   simp only[checkBuiltinCall,hk,hsplit]
   refine wpAny_bind ?_
   refine L3.at ?_
   repeat (first|assumption|wp_step)
 refine chk ?_
 show wpAny _ _ (Builtin.«object.__getattribute__» ⟨[.ref a, .str "__class__" t], []⟩) _ _ _
 unfold Builtin.«object.__getattribute__»
 refine wpAny_bind (wpAny_pure ?_)
 refine wpAny_bind (wpAny_pure ?_)
 refine wpAny_bind (L0.at (wpAny_bind (L4.at ?_)))
 dsimp only
 show wpAny _ _ (holding [Value.builtin "object.__class__"] (call (.builtin "getset_descriptor.__get__") [.builtin "object.__class__",.ref a,.ref C])>>=ret) _ _ _
 refine wpAny_bind (wpAny_holding (wpAny_call (class_get (s:=⟨hp,g,d,t+1,os⟩) X I F.ob (wpAny_pure ?_))))
 exact handed_on rfl (wpAny_pure h)
noncomputable def A0q (X:Cx):Prop:=X.A.handled=none\/∃x o u vs,X.A.handled=some (.ref x)/\X.H₀ x=some (.frz o u)/\o.data= .fields vs/\vs[2]?=some .none
section
variable{X:Cx}{pins:List (Addr×Obj)}{σ:St}{H:Hp}{s:Shared}
theorem Inv.hdA(I:Inv X pins σ H s)(h:A0q X):Hd X.A s.heap:=by
 rcases h with z|⟨x,o,u,vs,z,e,d,n⟩
 . exact .inl z
 exact .inr ⟨x,o,vs,z,(I.hok x _ (I.base.frzs x o u e)).1,d,n⟩
theorem Inv.hdB{it:Addr}(I:Inv X pins σ H s)(h:A0q X)(hn:H it=none):∀h':Heap,Heap.ExtBut it s.heap h' ->Hd X.A h':=by
 intro h' k
 rcases h with z|⟨x,o,u,vs,z,e,d,n⟩
 . exact .inl z
 have q:=I.base.frzs x o u e
 exact .inr ⟨x,o,vs,z,k x o (fun w=>by rw[w,hn] at q;cases q) (I.hok x _ q).1,d,n⟩
end
structure Y4a(P:Program)(w:World)(K:Frag)(tg:Expr)(J:It)(it:Addr)(tn:Nat ->Heap ->Prop):Prop where
 obj:∀i h,tn i h ->∃o,h.get? it=some o/\∀v,o.data≠ .cell v
 keep:∀i h h',tn i h ->(∀o,h.get? it=some o ->h'.get? it=some o) ->tn i h'
 item:∀(X:Cx),X.prog=P ->X.w=w ->X.K=K ->A0q X ->∀(i:Nat) (pins:List (Addr×Obj)) (s:Shared) (σ:St) (H:Hp) (E:Value ->Shared ->Prop),Inv X pins σ H s ->A4s X pins H it ->tn i s.heap ->J.go i H ->
   wpAny (model P w) X.A (pyNext (.ref it)) (fun r s1=>∃u,r=some u/\
     wpAny (model P w) X.A (letOwnedTupleGo tg (.ref it) u) (fun _ s2=>∃x,Inv X pins σ H s2/\V0 x u/\J.yld i H x H/\tn (i+1) s2.heap) E s1) E s
 done:∀(X:Cx),X.prog=P ->X.w=w ->X.K=K ->A0q X ->∀(i:Nat) (pins:List (Addr×Obj)) (s:Shared) (σ:St) (H:Hp) (E:Value ->Shared ->Prop),Inv X pins σ H s ->A4s X pins H it ->tn i s.heap ->J.stop i H ->
   wpAny (model P w) X.A (pyNext (.ref it)) (fun r s1=>r=none/\Inv X pins σ H s1) E s
 self:∀(A:Around) (i:Nat) (s:Shared) (Q:Value ->Shared ->Prop) (E:Value ->Shared ->Prop),tn i s.heap ->Q (.ref it) s ->wpAny (model P w) A (pyIter (.ref it)) Q E s
theorem J7u{P:Program}{w:World}{K:Frag}{tg:Expr}(a it:Addr):Y4a P w K tg (Itl K a) it (fun i h=>h.IsListIter it a i) where
 obj:=fun i h ⟨o,e,c,d⟩=>⟨o,e,fun v z=>by rw[d] at z;cases z⟩
 keep:=fun i h h' st k=>st.at fun o e=>k o e
 item:=by
   intro X hP hw hK hc i pins s σ H E I hf st hg
   subst hP hw hK
   obtain⟨xs,x,hq,hx⟩:=hg
   obtain⟨its,rv,p,hz⟩:=I.list hq
   obtain⟨u,hu,ru⟩:=rv.get hx
   obtain⟨f0,f1,f2,f3,f4,f5⟩:=hf
   refine wpAny_pyNext_list_item st p.isList (x:=u) (by simpa using hu) fun h' st' sb=>?_
   have I1:Inv X pins σ H {s with heap:=h'}:=I.turned (t':=s.toks) (fun b o hb e=>(sb.2 b hb).trans e) f0 f1 f3 f4 f5
   obtain⟨o,e,c,d⟩:=id st'
   exact⟨u,rfl,V0j (s:={s with heap:=h'}) e c d (by decide) ⟨x,I1,ru,⟨rfl,fun ys hy=>by rw[I.list_inj hy hq];exact hx⟩,st'⟩⟩
 done:=by
   intro X hP hw hK hc i pins s σ H E I hf st hg
   subst hP hw hK
   obtain⟨xs,hq,hx⟩:=hg
   obtain⟨its,rv,p,hz⟩:=I.list hq
   obtain⟨f0,f1,f2,f3,f4,f5⟩:=hf
   have hl:=rv.length
   exact C0t (I.hdB hc f0) st p.isList (by simp;omega) fun h' eb=>⟨rfl,I.turned (t':=s.toks) (fun b o hb e=>eb b o hb e) f0 f1 f3 f4 f5⟩
 self:=fun _ _ _ _ _ st h=>wpAny_pyIter_listiter st h
theorem V4t{P:Program}{w:World}{K:Frag}{tg:Expr}(a it:Addr):Y4a P w K tg (Itt K a) it (fun i h=>h.IsTupleIter it a i) where
 obj:=fun i h ⟨o,e,c,d⟩=>⟨o,e,fun v z=>by rw[d] at z;cases z⟩
 keep:=fun i h h' st k=>st.at fun o e=>k o e
 item:=by
   intro X hP hw hK hc i pins s σ H E I hf st hg
   subst hP hw hK
   obtain⟨xs,x,hq,hx⟩:=hg
   obtain⟨its,rv,p,hz⟩:=I.tuple hq
   obtain⟨u,hu,ru⟩:=rv.get hx
   obtain⟨f0,f1,f2,f3,f4,f5⟩:=hf
   refine wpAny_pyNext_tuple_item st (show s.heap.IsTuple a its.toArray from p) (x:=u) (by simpa using hu) fun h' st' sb=>?_
   have I1:Inv X pins σ H {s with heap:=h'}:=I.turned (t':=s.toks) (fun b o hb e=>(sb.2 b hb).trans e) f0 f1 f3 f4 f5
   obtain⟨o,e,c,d⟩:=id st'
   exact⟨u,rfl,V0j (s:={s with heap:=h'}) e c d (by decide) ⟨x,I1,ru,⟨rfl,fun ys hy=>by rw[I.tuple_inj hy hq];exact hx⟩,st'⟩⟩
 done:=by
   intro X hP hw hK hc i pins s σ H E I hf st hg
   subst hP hw hK
   obtain⟨xs,hq,hx⟩:=hg
   obtain⟨its,rv,p,hz⟩:=I.tuple hq
   obtain⟨f0,f1,f2,f3,f4,f5⟩:=hf
   have hl:=rv.length
   exact B0y (I.hdB hc f0) st p (by simp;omega) fun h' eb=>⟨rfl,I.turned (t':=s.toks) (fun b o hb e=>eb b o hb e) f0 f1 f3 f4 f5⟩
 self:=fun _ _ _ _ _ st h=>wpAny_pyIter_tupleiter st h
noncomputable def PIH (X:Cx) (tg iter:Expr) (wi:TI):Prop:=
 ∀ (pins:List (Addr×Obj)) (s:Shared) (σ:St) (H:Hp) (R:It ->Hp ->Prop),Inv X pins σ H s ->wi σ H R ->
   wpAny (model X.prog X.w) X.A (eval iter X.env) (fun v s1=>wpAny (model X.prog X.w) X.A (pyIter v) (fun itv s2=>∃(it:Addr) (tn:Nat ->Heap ->Prop) (J:It) (H':Hp),itv= .ref it/\Inv X pins σ H' s2/\Y4a X.prog X.w X.K tg J it tn/\tn 0 s2.heap/\
     A4s X pins H' it/\R J H') X.xe s1) X.xe s
section
variable{X:Cx}{tg:Expr}
theorem J2d{l:Expr}{tl:TE}(hl:PE X l tl):PIH X tg l (J1w X.K tl):=by
 intro pins s σ H R I h
 refine thn (hl pins s σ H _ I h) fun v s1 hh_=>?_
 obtain⟨x,H1,I1,r1,q1⟩:=hh_
 obtain⟨a,e,⟨xs,hq⟩,q⟩:=q1
 subst e
 cases r1
 obtain⟨its,rv,p,hz⟩:=I1.list hq
 exact wpAny_pyIter_list p.isList ⟨s1.heap.objs.size,_,_,H1,rfl,I1.kept (t':=s1.toks) fun b o e=>Heap.get?_push_of_some _ e,J7u a _,⟨_,Heap.get?_push_size _ rfl,rfl,rfl⟩,I1.fpOk (Nat.le_refl _) (I1.hok.fresh (Nat.le_refl _)),q⟩
theorem G0a{l:Expr}{tl:TE}(hl:PE X l tl):PIH X tg l (iTup X.K tl):=by
 intro pins s σ H R I h
 refine thn (hl pins s σ H _ I h) fun v s1 hh_=>?_
 obtain⟨x,H1,I1,r1,q1⟩:=hh_
 obtain⟨a,e,⟨xs,hq⟩,q⟩:=q1
 subst e
 cases r1
 obtain⟨its,rv,p,hz⟩:=I1.tuple hq
 exact wpAny_pyIter_tuple (show s1.heap.IsTuple a its.toArray from p) ⟨s1.heap.objs.size,_,_,H1,rfl,I1.kept (t':=s1.toks) fun b o e=>Heap.get?_push_of_some _ e,V4t a _,⟨_,Heap.get?_push_size _ rfl,rfl,rfl⟩,I1.fpOk (Nat.le_refl _) (I1.hok.fresh (Nat.le_refl _)),q⟩
theorem Z8e{es:List Expr}{k:Nat}{t:TGs}{n:Nat}{pos:Pos}(hc:A0q X)(h:PGs X es t)(hn:(assignEach es X.env).length=n:=by rfl)(hst:(assignEach es X.env).findIdx? (·.1)=none:=by rfl):PG X (.Tuple es k pos) (gTup X.K n t):=by
 intro pins s σ H v u Q I r q
 obtain⟨a,xs,ev,hq,hl,q⟩:=q
 subst ev
 cases r
 obtain⟨its,rv,p,hz⟩:=I.tuple hq
 rw[assign_Tuple]
 refine wpAny_bind (wpAny_standAt (V2s (I.hdA hc) p (by rw[hn, <-hl,rv.length];simp) hst fun h' hx=>?_))
 have I1:Inv X pins σ H {s with heap:=h'}:=I.kept (t':=s.toks) fun b o e=>hx b o (Nat.ne_of_lt (Heap.lt_size e)) e
 exact thn (h pins _ σ H xs its Q I1 rv q) fun _ s' z=>z
theorem A0au{K:Frag}{es:List Expr}{k:Nat}{t:TGs}{n:Nat}{pos:Pos}(hK:X.K=K)(hc:A0q X)(h:PGs X es t)(hn:(assignEach es X.env).length=n:=by rfl)(hst:(assignEach es X.env).findIdx? (·.1)=none:=by rfl):PG X (.Tuple es k pos) (gTup K n t):=by
 subst hK
 exact Z8e hc h hn hst
end
section
variable{X:Cx}
theorem V0h{pins:List (Addr×Obj)}{σ:St}{H:Hp}{s:Shared}{C:Addr}{h':Heap}(I:Inv X pins σ H s)(f:A4s X pins H C)(sb:Heap.SameBut C s.heap h'):Inv X pins σ H {s with heap:=h'}:=
 I.turned (t':=s.toks) (fun b o hb e=>(sb.2 b hb).trans e) f.1 f.2.1 f.2.2.2.1 f.2.2.2.2.1 f.2.2.2.2.2
end
section
variable{X:Cx}{a b c:Expr}{ta tb tc:TE}{pos:Pos}
theorem V9:OpR X (binaryOp .Mult) (rI IntMulOk fun i j=> .int (i*j)):=opI fun _ _ _ _ _ _ _ hc q=>mul_int q hc
theorem G3:OpR X (binaryOp .FloorDiv) (rI (fun _ j=>0<j/\j.natAbs.log2<9000) fun i j=> .int (i/j)):=opI fun i j _ _ _ _ _ hc q=>by
 have h1:(0:Int)<j:=hc.1
 exact floordiv_int (by omega) (by rw[Int.fdiv_eq_ediv_of_nonneg i (by omega)];exact q) (.inl (PyProof.noPylong_of_log2 hc.2))
theorem A8r{i:Int}{k:Nat}(h:i.natAbs<2^k)(hk:0<k):i.natAbs.log2<k:=by
 by_cases z:i.natAbs=0
 . rw[z];simpa using hk
 exact(Nat.log2_lt z).mpr h
inductive TyE(K:Frag)(H:Hp):V ->Value ->Prop where
 |of {x:V} {t:Value} (h:B2d K H x t):TyE K H x t
 |exc {a C t:Addr} {T:Value} {u:HO} (e:H a=some (.frz (A0s (.ref C) t none T) u)) (k:D3u K C):TyE K H (.ref a) (.ref C)
 |excD {a C t:Addr} {T:Value} {d:Addr} {u:HO} {fs:List (Str×V)} (e:H a=some (.frz (A0s (.ref C) t (some d) T) u)) (hd:H d=some (.xd fs)) (k:D3u K C):TyE K H (.ref a) (.ref C)
 |tupK {a:Addr} {o:Obj} (l:K.lookup a=some o) (c:o.cls= .type "tuple"):TyE K H (.ref a) (.type "tuple")
theorem J7y{pins:List (Addr×Obj)}{σ:St}{H:Hp}{s:Shared}{A:Around}{E:Value ->Shared ->Prop}{Q:Value ->Shared ->Prop}{c:Value}{b:Bool}{x:V}{u t:Value}(I:Inv X pins σ H s)(rx:V0 x u)(ty:TyE X.K H x t)
   (e:kitOne X.K t c=some b) (h:∀tk,Q (.bool b) {s with toks:=tk}):wpAny (model X.prog X.w) A (call (.builtin "isinstance") [u,c]) Q E s:=by
 cases ty with
 |of h'=>exact V4h I rx h' e h
 | exc ea k=>
   cases rx
   rename_i a C t0 T u0
   have o1:s.heap.get? a=some (A0s (.ref C) t0 none T):=(I.hok a _ ea).1
   refine kia_one (H:=fun h=>PySem.W.InstAt h a (A0s (.ref C) t0 none T) C none) ?_ I.kIn ⟨o1,rfl,rfl,trivial⟩ e (fun z=>nomatch z) h
   refine⟨fun M h _ J=>J.type,fun M h K _=>A7s K k.cl,fun h tp dd its n sl K htp=>?_,fun K J q=>B1w k K J q⟩
   refine Bool.eq_false_iff.mpr fun q=>?_
   have e:C=tp:=Value.ref.inj (beq_iff_eq.mp q)
   subst e
   have z:=k.cl
   unfold clsIn at z
   split at z
   . rename_i ho
     have y:=(K _ _ ho).symm.trans htp
     cases y
   . cases z
 | tupK l c=>
   cases rx
   exact PySem.W.kia_one PySem.W.kitx_tuple I.kIn ⟨_,I.kIn _ _ l,c⟩ e (fun z=>nomatch z) h
 | excD ea hd k=>
   cases rx
   rename_i a C t0 T d u0 fs
   have o1:s.heap.get? a=some (A0s (.ref C) t0 (some d) T):=(I.hok a _ ea).1
   obtain⟨mA,nA,_⟩:=(show∃mA,s.heap.Ns1 d mA/\∀f,A7f (fs.lookup f) (mA f) from I.hok d _ hd)
   obtain⟨od,o2,_⟩:=C0r nA
   refine kia_one (H:=fun h=>PySem.W.InstAt h a (A0s (.ref C) t0 (some d) T) C (some od)) ?_ I.kIn ⟨o1,rfl,rfl,o2⟩ e (fun z=>nomatch z) h
   refine⟨fun M h _ J=>J.type,fun M h K _=>A7s K k.cl,fun h tp dd its n sl K htp=>?_,fun K J q=>B1w k K J q⟩
   refine Bool.eq_false_iff.mpr fun q=>?_
   have e:C=tp:=Value.ref.inj (beq_iff_eq.mp q)
   subst e
   have z:=k.cl
   unfold clsIn at z
   split at z
   . rename_i ho
     have y:=(K _ _ ho).symm.trans htp
     cases y
   . cases z
noncomputable def clsV:V ->Option Value
 | .ty n=>some (.type n)
 | .ref a=>some (.ref a)
 |_=>none
theorem J2w:A5e X (.builtin "isinstance") (fun xs H Q=>∃x c cv t b,xs=[x,c]/\clsV c=some cv/\TyE X.K H x t/\kitOne X.K t cv=some b/\Q (.bl b) H):=by
 intro pins s σ H xs us Q I r h
 obtain⟨x,c,cv,t,b,rfl,hc,ty,e,q⟩:=h
 obtain⟨u,v,rfl,ru,rv⟩:=U3.two r
 have:v=cv:=by
   cases c<;>simp only[clsV] at hc<;>first|(cases hc;exact rv)|cases hc
 subst this
 exact J7y I ru ty e fun tk=>⟨.bl b,H,I.tok tk,rfl,q⟩
mutual
inductive RdD(K:Frag)(H:Hp):V ->PyData ->Prop where
 |non:RdD K H .non .none
 |bl (b:Bool):RdD K H (.bl b) (.bool b)
 |int (i:Int):RdD K H (.int i) (.int i)
 |str (x:Str):RdD K H (.str x) (.str x)
 |tup {a:Addr} {xs:List V} {ds:List PyData} (h:SqT K H a xs) (r:C8z K H xs ds):RdD K H (.ref a) (.tuple ds)
 |lst {a:Addr} {xs:List V} {ds:List PyData} (h:SqL K H a xs) (r:C8z K H xs ds):RdD K H (.ref a) (.list ds)
inductive C8z(K:Frag)(H:Hp):List V ->List PyData ->Prop where
 |nil:C8z K H [] []
 |cons {x:V} {xs:List V} {d:PyData} {ds:List PyData} (h:RdD K H x d) (r:C8z K H xs ds):C8z K H (x::xs) (d::ds)
end
mutual
theorem RdD.reads{pins:List (Addr×Obj)}{σ:St}{H:Hp}{s:Shared}(I:Inv X pins σ H s):∀{x:V} {d:PyData} {u:Value},RdD X.K H x d ->V0 x u ->∃as,Reads s.heap u d as
 |_,_,_,.non,r=>by cases r;exact⟨_,.none⟩
 |_,_,_,.bl b,r=>by cases r;exact⟨_,.bool b⟩
 |_,_,_,.int i,r=>by obtain⟨t,rfl⟩:=r;exact⟨_,.int i t⟩
 |_,_,_,.str x,r=>by obtain⟨t,rfl⟩:=r;exact⟨_,.str x t⟩
 | _,_,_,.tup h q,r=>by
   cases r
   obtain⟨its,rv,⟨o,e,c,n,d⟩,_⟩:=I.tuple h
   obtain⟨as,z⟩:=C8z.reads I q rv
   exact⟨_,reads_tuple_at e c d (by simpa using z)⟩
 | _,_,_,.lst h q,r=>by
   cases r
   obtain⟨its,rv,p,_⟩:=I.list h
   obtain⟨o,e,c,n,d⟩:=p.isList
   obtain⟨as,z⟩:=C8z.reads I q rv
   exact⟨_,reads_list_at e c d (by simpa using z)⟩
theorem C8z.reads{pins:List (Addr×Obj)}{σ:St}{H:Hp}{s:Shared}(I:Inv X pins σ H s):∀{xs:List V} {ds:List PyData} {us:List Value},C8z X.K H xs ds ->U3 xs us ->∃as,ReadsAll s.heap us ds as
 |_,_,_,.nil,r=>by cases r;exact⟨_,.nil⟩
 | _,_,_,.cons h q,r=>by
   cases r with
   | cons r1 r2=>
     obtain⟨as,z⟩:=RdD.reads I h r1
     obtain⟨bs,y⟩:=C8z.reads I q r2
     exact⟨_,.cons z y⟩
end
noncomputable def rEqD (K:Frag) (n:Bool):R2:=fun x y H Q=>∃d e,RdD K H x d/\RdD K H y e/\SeqAt.shaped d=true/\SeqAt.shaped e=true/\Q (.bl (if n then !PyData.eqv d e else PyData.eqv d e)) H
theorem B6u(hu:X.A.units+64<cLine):OpR X (compareOp .Eq) (rEqD X.K false):=by
 intro pins s σ H x y v u Q I rx ry q
 obtain⟨d,e,hx,hy,sd,se,q⟩:=q
 obtain⟨as,z⟩:=hx.reads I rx
 obtain⟨bs,z'⟩:=hy.reads I ry
 exact eq_dataH z z' sd se hu ⟨.bl (PyData.eqv d e),H,I,rfl,q⟩
theorem Y1j(hu:X.A.units+64<cLine):OpR X (compareOp .NotEq) (rEqD X.K true):=by
 intro pins s σ H x y v u Q I rx ry q
 obtain⟨d,e,hx,hy,sd,se,q⟩:=q
 obtain⟨as,z⟩:=hx.reads I rx
 obtain⟨bs,z'⟩:=hy.reads I ry
 exact ne_dataH z z' sd se hu ⟨.bl (!PyData.eqv d e),H,I,rfl,q⟩
inductive J3d(X:Cx):Expr ->TE ->Prop where
 |lit {x:Str} {j:Nat} {pos:Pos}:J3d X (.Constant (.str x) j pos) (tC (.str x))
 |int {v:Expr} {tv:TE} {pos:Pos} (h:PE X v tv):J3d X (.FormattedValue v (-1) none pos) (fun σ H Q=>tv σ H fun y H1=>∃i,y= .int i/\i.natAbs.log2<1920/\Q (.str (toString i)) H1)
theorem J3d.pe{e:Expr}{t:TE}(h:J3d X e t):PE X e t:=by
 cases h with
 |lit=>exact B3
 | int h=>
   intro pins s σ H Q I q
   refine FormattedValue_plain (thn (h pins s σ H _ I q) fun u s1 hh_=>?_)
   obtain⟨y,H1,I1,r,i,e,l,q⟩:=hh_
   subst e
   obtain⟨t,rfl⟩:=r
   exact formatField_int_small l ⟨.str (toString i),H1,I1.tok _,⟨_,rfl⟩,q⟩
inductive C0x(X:Cx):List Expr ->(Str ->TE) ->Prop where
 |nil:C0x X [] (fun out _ H Q=>out.length<=sizeLine/\Q (.str out) H)
 |cons {e:Expr} {es:List Expr} {t:TE} {r:Str ->TE} (h:J3d X e t) (hr:C0x X es r):C0x X (e::es) (fun out σ H Q=>t σ H fun x H1=>∃y,x= .str y/\(out++y).length<=sizeLine/\r (out++y) σ H1 Q)
theorem C0x.run{es:List Expr}{t:Str ->TE}(h:C0x X es t):∀(out:Str) (pins:List (Addr×Obj)) (s:Shared) (σ:St) (H:Hp) (Q:VK),Inv X pins σ H s ->t out σ H Q ->
   wpAny (model X.prog X.w) X.A (joinParts out (evalEach es X.env)) (EP X pins σ Q) X.xe s:=by
 induction h with
 | nil=>
   intro out pins s σ H Q I q
   exact joinParts_nil ⟨.str out,H,I.tok _,⟨_,rfl⟩,q.2⟩ q.1
 | @cons e es t r h hr ih=>
   intro out pins s σ H Q I q
   show wpAny _ _ (joinParts out (eval e X.env::evalEach es X.env)) _ _ _
   refine joinParts_cons (thn (h.pe pins s σ H _ I q) fun u s1 hh_=>?_)
   obtain⟨x,H1,I1,rx,y,ey,z,q⟩:=hh_
   subst ey
   obtain⟨t',rfl⟩:=rx
   exact⟨z,ih _ pins s1 σ H1 Q I1 q⟩
theorem G0v{e1 e2:Expr}{es:List Expr}{t:Str ->TE}{pos:Pos}(h:C0x X (e1::e2::es) t):PE X (.JoinedStr (e1::e2::es) pos) (t Str.empty):=by
 intro pins s σ H Q I q
 exact JoinedStr_many (h.run _ pins s σ H Q I q)
end
section
variable{P:Program}{w:World}{K:Frag}{mg:Str ->Option Value}{base:Heap}
end
section
variable{X:Cx}{k:Nat}{f:Addr}{fd:FuncData}{ps:List Str}{sp:Sp}{x:Str}{p pos:Pos}{e:Expr}{es:List Expr}{t:TA}
end
theorem Inv.big{X:Cx}{pins:List (Addr×Obj)}{σ:St}{H:Hp}{s:Shared}(I:Inv X pins σ H s):sysModules<s.heap.objs.size:=by
 have h:mainGlobals<s.heap.objs.size:=(I.mod.glob.keeps I.bk).lt
 exact Nat.lt_trans (by decide) h
theorem J1f{P:Program}{w:World}{H:Hp}(h:Heap)(hb:sysModules<h.objs.size):Y9 P w H (h.push {cls:= .type "dict",data:= .dict #[]}) h.objs.size (.dK []):=
 ⟨Nat.zero_le _,beq_eq_false_iff_ne.mpr (Ne.symm (Nat.ne_of_lt hb)),[],.nil,Heap.DictOf.new h⟩
noncomputable def A0fh:TE:=fun _ H Q=>∀p,H p=none ->Q (.ref p) (upd H p (.dK []))
theorem Y2m{X:Cx}{pos:Pos}:PE X (.Dict [] [] pos) A0fh:=fun pins s σ H Q I h=>
 wpAny_Dict_empty ⟨.ref s.heap.objs.size,_,I.laid (a:=s.heap.objs.size) (o:= .dK []) (t':=s.toks) (fun _ _ q=>Heap.get?_push_of_some _ q) (Nat.le_refl _) (J1f s.heap I.big),rfl,h _ (I.hok.fresh (Nat.le_refl _))⟩
noncomputable abbrev EKF:EK:=fun _ _ _ _=>False
theorem A0e{X:Cx}:G5 X EKF:=fun _ _ _ _ _ _ _ _ _ _ h=>h.elim
structure Def(K:Frag)(mg:Str ->Option Value)(x:Str)(ps:List Str)(st:Stmt)(f:Addr)(fd:FuncData):Prop where
 F:Fun K x x st f fd
 g:mg x=some (.ref f)
 b:A0p K fd ps []
theorem G0{K:Frag}{h:Heap}{mg:Str ->Option Value}{x:Str}{ps:List Str}{st:Stmt}{f:Addr}{oc:Value}{od an:Option Addr}{osl:Array (Option Value)}{kV doc pm cdv ct:Value}(X:K.In h)(G:h.Ns mainGlobals mg)
   (a:nsIn K mainGlobals x=some (some (.ref f))) (l:K.lookup f=some ⟨oc,od,.func (fnOf x x (B8 st) (B5 st) (A1 st) .none kV doc pm an cdv ct),osl⟩) (c:codeIn K cdv x=true) (k:keepIn K (.ref f)=true)
   (hb:∀(kV doc pm:Value) (an:Option Addr) (cdv ct:Value) (us:List Value),us.length=ps.length ->bindArgs (fnOf x x (B8 st) (B5 st) (A1 st) .none kV doc pm an cdv ct) ⟨us,[]⟩=pure (ps.zip us)):
   Def K mg x ps st f (fnOf x x (B8 st) (B5 st) (A1 st) .none kV doc pm an cdv ct):=
 ⟨U5 (st:=st) l c k,mg_of X G a,(U5 (st:=st) l c k).binds hb⟩
theorem A0n{c A B:Prop} [Decidable c] (h:¬c) (b:B):if decide c=true then A else B:=by rw[decide_eq_false h];exact U8 b
theorem A5u{c A B:Prop} [Decidable c] (h:c) (a:A):if decide c=true then A else B:=by rw[decide_eq_true h];exact Z8 a
theorem V8{c A B:Prop} [Decidable c] (a:c ->A) (b:¬c ->B):if decide c=true then A else B:=by
 by_cases h:c
 . exact A5u h (a h)
 exact A0n h (b h)
noncomputable def A0pb (t:TS):TS:=fun D σ H=>∃J:St ->Hp ->Prop,t {D with nx:=J} σ H/\∀σ' H',J σ' H' ->D.nx σ' H'
theorem C6{X:Cx}{st:Stmt}{t:TS}(h:PS X st t):PS X st (A0pb t):=by
 intro pins s σ H D I q
 obtain⟨J,q,k⟩:=q
 refine thn (h pins s σ H _ I q) fun f s' z=>?_
 cases f with
 |next=>obtain⟨σ',H',I',y⟩:=z;exact⟨σ',H',I',k _ _ y⟩
 |brk=>exact z
 |cont=>exact z
 |ret u=>exact z
theorem ixs{xs:List Int}{i:Int}(h0:0<=i)(h1:i<xs.length):∃v,v∈xs/\atI (xs.map V.int) i=some (.int v):=by
 obtain⟨j,rfl⟩:=Int.eq_ofNat_of_zero_le h0
 have hj:j<xs.length:=by omega
 exact⟨xs[j],List.getElem_mem hj,U7 (by simp[hj])⟩
theorem ixv{xs:List V}{i:Int}(h0:0<=i)(h1:i<xs.length):∃v,v∈xs/\atI xs i=some v:=by
 obtain⟨j,rfl⟩:=Int.eq_ofNat_of_zero_le h0
 have hj:j<xs.length:=by omega
 exact⟨xs[j],List.getElem_mem hj,U7 (by simp[hj])⟩
theorem B7.upd{H:Hp}{p:Addr}{o:HO}(h:H p=none):B7 H (L2.upd H p o):=fun b u e=>by rw[C9 (D8 e h)];exact e
theorem D3{n:Nat}(h:n<=1000):n<=sizeLine:=Nat.le_of_lt (Y0 h)
section
variable{X:Cx}{k j:Nat}{f:Addr}{fd:FuncData}{ps:List Str}{sp:Sp}{EH:EK}{x:Str}{st:Stmt}{p pos:Pos}{e:Expr}{es:List Expr}{t:TA}
theorem D5(D:Def X.K X.mg x ps st f fd)(F:FnOk X.prog X.w X.K X.mg X.base (CX1 X.prog X.w) j f fd ps sp)(hr:Z5 k X.A)(hx:G5 X EH)(ha:PA X (e::es) t)(hj:j<=k:=by decide)(hg:Gl X x:=by rfl)(hex:X.ex=[]:=by rfl)(hdb:(x==("__debug__":Str))=false:=by decide)
   (he:starEach (e::es) X.env=(false,eval e X.env)::starEach es X.env:=by rfl) (hpl:(backTo pos (starEach es X.env)).any (·.1)=false:=by rfl):PE X (.Call (.Name x p) (e::es) [] pos) (D9z sp [] EH t):=
 Y3v (F.mono hj) hr hg D.g D.F.kp D.b .nil hx ha hex hdb he hpl
theorem A0gj(D:Def X.K X.mg x ps st f fd)(F:FnOk X.prog X.w X.K X.mg X.base (CX1 X.prog X.w) j f fd ps sp)(hr:Z5 k X.A)(hx:G5 X EH)(hj:j<=k:=by decide)(hg:Gl X x:=by rfl)(hex:X.ex=[]:=by rfl)(hdb:(x==("__debug__":Str))=false:=by decide):
   PE X (.Call (.Name x p) [] [] pos) (D9z sp [] EH V4r):=
 V2h (F.mono hj) hr hg D.g D.F.kp D.b .nil hx hex hdb
theorem pty{n:Str}{T:String}(hm:X.mg n=none)(hv:bootBuiltins n=some (.type T))(hg:Gl X n:=by rfl)(hn:n≠"__name__":=by decide)(hdb:(n==("__debug__":Str))=false:=by decide):PE X (.Name n pos) (tC (.ty T)):=A0ah hg hm hv rfl hn hdb
theorem D3p{n:Str}{C:Addr}(hm:X.mg n=some (.ref C))(hg:Gl X n:=by rfl)(hdb:(n==("__debug__":Str))=false:=by decide):PE X (.Name n pos) (tC (.ref C)):=A0av hg hm rfl hdb
theorem J8x{a b:Expr}{ta tb:TE}(hm:X.mg "isinstance"=none)(ha:PE X a ta)(hb:PE X b tb)(hg:Gl X "isinstance":=by rfl)
   (h1:starEach [a,b] X.env=(false,eval a X.env)::starEach [b] X.env:=by rfl) (h2:starEach [b] X.env=(false,eval b X.env)::starEach [] X.env:=by rfl) (h3:(backTo pos (starEach [b] X.env)).any (·.1)=false:=by rfl):
   PE X (.Call (.Name "isinstance" p) [a,b] [] pos) (tCB (fun xs H Q=>∃x c cv t b,xs=[x,c]/\clsV c=some cv/\TyE X.K H x t/\kitOne X.K t cv=some b/\Q (.bl b) H) (J1j ta (J1j tb V4r))):=
 V1 J2w hg hm boot_isinstance (A0 ha (A0 hb A6 h2) h1) (he:=h1) (hpl:=h3)
theorem D6y{K:Frag}{a b:Expr}{ta tb:TE}(hK:X.K=K)(hm:X.mg "isinstance"=none)(ha:PE X a ta)(hb:PE X b tb)(hg:Gl X "isinstance":=by rfl)
   (h1:starEach [a,b] X.env=(false,eval a X.env)::starEach [b] X.env:=by rfl) (h2:starEach [b] X.env=(false,eval b X.env)::starEach [] X.env:=by rfl) (h3:(backTo pos (starEach [b] X.env)).any (·.1)=false:=by rfl):
   PE X (.Call (.Name "isinstance" p) [a,b] [] pos) (tCB (fun xs H Q=>∃x c cv t b,xs=[x,c]/\clsV c=some cv/\TyE K H x t/\kitOne K t cv=some b/\Q (.bl b) H) (J1j ta (J1j tb V4r))):=by
 subst hK
 exact J8x hm ha hb hg h1 h2 h3
end
section
variable{X:Cx}{k j:Nat}{f:Addr}{fd:FuncData}{ps:List Str}{sp:Sp}{x:Str}{st:Stmt}{p pos:Pos}{e:Expr}{es:List Expr}{t:TA}
end
structure Mk0(K:Frag)(C:Addr):Prop where
 makes:makesIn K C=true
 init:findIn K (.ref C) "__init__"=some (some (.builtin "object.__init__"))
 kp:keepIn K (.ref C)=true
section
variable{X:Cx}{k j:Nat}{f C:Addr}{fd:FuncData}{ps:List Str}{sp:Sp}{dvs:List V}{ds:List Value}{EH:EK}{x m:Str}{p pos apos:Pos}{e o:Expr}{es:List Expr}{ta:TE}{t:TA}
noncomputable def tNew (C:Addr):TE:=fun _ H Q=>∀x dx,H x=none ->H dx=none ->dx≠x ->Q (.ref x) (upd (upd H dx (.own x)) x (.ins C dx []))
theorem Z9f{pins:List (Addr×Obj)}{σ:St}{H:Hp}{s:Shared}{Q:VK}(M:Mk0 X.K C)(I:Inv X pins σ H s)(h:tNew C σ H Q):wpAny (model X.prog X.w) X.A (call (.ref C) []) (EP X pins σ Q) X.xe s:=by
 have hq:=h (s.heap.objs.size+1) s.heap.objs.size (I.hok.fresh (Nat.le_succ _)) (I.hok.fresh (Nat.le_refl _)) (Nat.ne_of_lt (Nat.lt_succ_self _))
 have I2:=Inv.made (C:=C) I
 have Y:=makes_of (M:=model X.prog X.w) I.kIn M.makes
 refine wpAny_call (V4d I.kIn M.makes M.init (fun self=>Looks.of_pure (oi_bind self)) ?_)
 have e2:((s.heap.push emptyDict).push (instObj C s.heap.objs.size)).get? (s.heap.objs.size+1)=some (instObj C s.heap.objs.size):=by
   have:=Heap.get?_push_size (s.heap.push emptyDict) (o:=instObj C s.heap.objs.size) rfl
   rwa[Heap.size_push] at this
 have t1:Looks (model X.prog X.w) ((s.heap.push emptyDict).push (instObj C s.heap.objs.size)) (typeOf (.ref (s.heap.objs.size+1))) (.ref C):=(Looks.ld e2).andThen .now
 have t2:Looks (model X.prog X.w) ((s.heap.push emptyDict).push (instObj C s.heap.objs.size)) (isInstance (.ref (s.heap.objs.size+1)) (.type "object")) true:=t1.andThen (Y.top.keeps fun b o e=>Heap.get?_push_of_some _ (Heap.get?_push_of_some _ e))
 refine codeAny_call_builtin oi_plain entry_oi (@check_slot (model X.prog X.w) _ _ _ "object.__init__" "object" "__init__" (.ref (s.heap.objs.size+1)) [] [] _ oi_kind oi_split t2 (oi_args (.ref (s.heap.objs.size+1))) ?_)
 rw[oi_run]
 exact wpAny_pure (And.intro rfl ⟨V.ref (s.heap.objs.size+1),_,I2,rfl,hq⟩)
theorem B1s(M:Mk0 X.K C)(hg:Gl X x)(hm:X.mg x=some (.ref C))(hdb:(x==("__debug__":Str))=false:=by decide):PE X (.Call (.Name x p) [] [] pos) (tNew C):=by
 intro pins s σ H Q I h
 refine wpAny_Call_Name_kw (A2n I hg hm ?_ hdb)
 exact callWith_K0 I.kIn M.kp (Z9f M I h)
noncomputable def Y1c (C:Addr) (m:Str) (sp:Sp) (dvs:List V) (EH:EK) (ta:TE) (t:TA):TE:=fun σ H Q=>ta σ H fun x H1=>∃a dx fs,x= .ref a/\H1 a=some (.ins C dx fs)/\fs.lookup m=none/\
 t σ H1 fun vs H2=>sp (x::(vs++dvs)) H2 Q (fun C d H'=>EH C d σ H')
theorem C5s{pl:Sem Bool}(he:PE X o ta)(c:Cls X.K C)(hm:A0c X.K C m f)(F:FnOk X.prog X.w X.K X.mg X.base (CX1 X.prog X.w) j f fd ps sp)(hr:Z5 k X.A)(hb:A0p X.K fd ps ds)(hd:U3 dvs ds)(hx:G5 X EH)(ha:PA X (e::es) t)
   (hj:j<=k:=by decide) (hex:X.ex=[]:=by rfl)
   (hst:starEach (e::es) X.env=(false,eval e X.env)::starEach es X.env:=by rfl) (hpl:(backTo pos (starEach es X.env)).any (·.1)=false:=by rfl)
   (ht:eval (.Call (.Attribute o m apos) (e::es) [] pos) X.env=(do
     let ov<-eval o X.env
     standAt apos.atName
     let(f,first)<-holding [ov] (getMethod ov m pl)
     callWith pos f first (backTo pos (starEach (e::es) X.env)) (backToKw pos (keywordEach [] X.env))):=by rfl):
   PE X (.Call (.Attribute o m apos) (e::es) [] pos) (Y1c C m sp dvs EH ta t):=by
 intro pins s σ H Q I h
 refine methodCall_KW (pl:=pl) (thn (he pins s σ H _ I h) fun u s1 hh_=>?_) ht
 obtain⟨x,H1,I1,rx,a,dx,fs,ex,ea,l,q⟩:=hh_
 subst ex
 obtain rfl:u=Value.ref a:=rx
 refine C8f I1 ea c hm l ?_
 refine callWith_K (first:=[.ref a]) (h₀:=X.base) I.ok.mod.kin hm.kp (thn (ha pos pins s1 σ H1 _ I1 q) fun us s2 ⟨vs,H2,I2,r,q2⟩=>⟨I2.kIn,?_⟩) hst hpl
 exact C6x (us:= .ref a::us) (vs:= .ref a::vs) (F.mono hj) hr hb hd hx hex I2 (.cons rfl r) q2
theorem A6t{pl:Sem Bool}(he:PE X o ta)(c:Cls X.K C)(hm:A0c X.K C m f)(F:FnOk X.prog X.w X.K X.mg X.base (CX1 X.prog X.w) j f fd ps sp)(hr:Z5 k X.A)(hb:A0p X.K fd ps ds)(hd:U3 dvs ds)(hx:G5 X EH)
   (hj:j<=k:=by decide) (hex:X.ex=[]:=by rfl)
   (ht:eval (.Call (.Attribute o m apos) [] [] pos) X.env=(do
     let ov<-eval o X.env
     standAt apos.atName
     let(f,first)<-holding [ov] (getMethod ov m pl)
     callWith pos f first (backTo pos (starEach [] X.env)) (backToKw pos (keywordEach [] X.env))):=by rfl):
   PE X (.Call (.Attribute o m apos) [] [] pos) (Y1c C m sp dvs EH ta V4r):=by
 intro pins s σ H Q I h
 refine methodCall_KW (pl:=pl) (thn (he pins s σ H _ I h) fun u s1 hh_=>?_) ht
 obtain⟨x,H1,I1,rx,a,dx,fs,ex,ea,l,q⟩:=hh_
 subst ex
 obtain rfl:u=Value.ref a:=rx
 refine C8f I1 ea c hm l ?_
 exact callWith_K0 (first:=[.ref a]) I1.kIn hm.kp (C6x (us:=[.ref a]) (vs:=[.ref a]) (F.mono hj) hr hb hd hx hex I1 (.cons rfl .nil) q)
noncomputable def A0gw (C:Addr) (sp:Sp) (dvs:List V) (EH:EK) (t:TA):TE:=fun σ H Q=>t σ H fun vs H1=>∀x dx,H1 x=none ->H1 dx=none ->dx≠x ->
 sp (.ref x::(vs++dvs)) (upd (upd H1 dx (.own x)) x (.ins C dx [])) (fun v H2=>v= .non/\Q (.ref x) H2) (fun C d H'=>EH C d σ H')
theorem V3j{pins:List (Addr×Obj)}{σ:St}{H:Hp}{s:Shared}{Q:VK}{us:List Value}{vs:List V}(M:Mk X.K C f)(F:FnOk X.prog X.w X.K X.mg X.base (CX1 X.prog X.w) k f fd ps sp)(hr:Z5 (k+1) X.A)(hb:A0p X.K fd ps ds)(hd:U3 dvs ds)
   (hx:G5 X EH) (hex:X.ex=[]) (I:Inv X pins σ H s) (r:U3 vs us)
   (h:∀x dx,H x=none ->H dx=none ->dx≠x ->sp (.ref x::(vs++dvs)) (upd (upd H dx (.own x)) x (.ins C dx [])) (fun v H2=>v= .non/\Q (.ref x) H2) (fun C d H'=>EH C d σ H')):
   wpAny (model X.prog X.w) X.A (call (.ref C) us) (EP X pins σ Q) X.xe s:=by
 have hq:=h (s.heap.objs.size+1) s.heap.objs.size (I.hok.fresh (Nat.le_succ _)) (I.hok.fresh (Nat.le_refl _)) (Nat.ne_of_lt (Nat.lt_succ_self _))
 have I2:=Inv.made (C:=C) I
 have r2:U3 (V.ref (s.heap.objs.size+1)::(vs++dvs)) (Value.ref (s.heap.objs.size+1)::(us++ds)):= .cons rfl (r.append hd)
 have hl:(Value.ref (s.heap.objs.size+1)::us++ds).length=ps.length:=by
   have e:=r2.length
   rw[F.len _ _ _ _ hq] at e
   exact e.symm
 refine wpAny_call (J2z (f:=f) I.kIn M.makes M.init (beq_iff_eq.mp M.fn) (codeAny_mono (F.run _ X.stack _ _ ⟨Value.ref (s.heap.objs.size+1)::us,[]⟩ (Value.ref (s.heap.objs.size+1)::(us++ds)) _ _ _ (hr.make C us [])
   (I2.env0.make C us []) (hb _ (Value.ref (s.heap.objs.size+1)::us) I2.kIn hl) r2 hq) fun r s' hq'=>?_))
 cases r with
 |error e=>exact Z9k hx hex I2 hq'
 | ok fl=>
   cases fl with
   | ret u=>
     obtain⟨v,H',I3,rv,ev,q3⟩:=I2.after hq'
     subst ev
     exact⟨rv,⟨V.ref (s.heap.objs.size+1),H',I3,rfl,q3⟩⟩
   |next=>exact False.elim hq'
   |brk=>exact False.elim hq'
   |cont=>exact False.elim hq'
theorem C5z(M:Mk X.K C f)(F:FnOk X.prog X.w X.K X.mg X.base (CX1 X.prog X.w) j f fd ps sp)(hr:Z5 k X.A)(hm:X.mg x=some (.ref C))(hb:A0p X.K fd ps ds)(hd:U3 dvs ds)(hx:G5 X EH)
   (ha:PA X (e::es) t) (hj:j+1<=k:=by decide) (hg:Gl X x:=by rfl) (hex:X.ex=[]:=by rfl) (hdb:(x==("__debug__":Str))=false:=by decide) (he:starEach (e::es) X.env=(false,eval e X.env)::starEach es X.env:=by rfl) (hpl:(backTo pos (starEach es X.env)).any (·.1)=false:=by rfl):
   PE X (.Call (.Name x p) (e::es) [] pos) (A0gw C sp dvs EH t):=by
 intro pins s σ H Q I h
 refine wpAny_Call_Name_kw (A2n I hg hm ?_ hdb)
 refine callWith_K (h₀:=X.base) I.ok.mod.kin M.kp (thn (ha pos pins s σ H _ I h) fun us s1 ⟨vs,H1,I1,r,q⟩=>⟨I1.kIn,?_⟩) he hpl
 exact V3j M F (hr.mono hj) hb hd hx hex I1 r q
end
theorem Z8f{n:Nat}(h:n<=sizeLine):Builtin.Str.tooLong n=false:=by
 unfold Builtin.Str.tooLong
 exact decide_eq_false (by omega)
section
variable{X:Cx}
end
structure Y4b(K:Frag)(x qual:Str)(st:Stmt)(dV:Value)(f:Addr)(fd:FuncData):Prop where
 ex:∃(oc:Value) (od:Option Addr) (kV doc pm:Value) (an:Option Addr) (cdv ct:Value) (osl:Array (Option Value)),
   fd=fnOf x qual (B8 st) (B5 st) (A1 st) dV kV doc pm an cdv ct/\K.lookup f=some ⟨oc,od,.func fd,osl⟩/\codeIn K cdv qual=true
 kp:keepIn K (.ref f)=true
section
variable{P:Program}{w:World}{K:Frag}{mg:Str ->Option Value}{base:Heap}
theorem Y4b.okE{x qual:Str}{st:Stmt}{dV:Value}{f:Addr}{fd:FuncData}{N ps:List Str}{k:Nat}{sp:Sp}(F:Y4b K x qual st dV f fd)(S:B9 N ps (A1 st))(len:∀vs H Q E,sp vs H Q E ->vs.length=ps.length)
   (hbody:∀(X:Cx) (cdv:Value) (A:Around) (outer:List Env) (s:Shared) (H:Hp) (vs:List V) (Q:VK) (E:XK),X=A0w (CX1 P w) P w K mg base N qual (A1 st) f cdv A outer s H E ->Z5 k X.A ->G5 X (fun C dd _ H'=>E C dd H') ->sp vs H Q E ->
     ∃t,PSs (A0w (CX1 P w) P w K mg base N qual (A1 st) f cdv A outer s H E) (B5 st) t/\t {nx:=fun _ H'=>Q .non H',rt:=Q} (A4z N vs) H):FnOk P w K mg base (CX1 P w) (k+1) f fd ps sp:=by
 obtain⟨oc,od,kV,doc,pm,an,cdv,ct,osl,rfl,lk,hc⟩:=F.ex
 exact Y1b lk hc S len fun A outer s H vs Q E hr h=>hbody _ cdv A outer s H vs Q E rfl hr A8a h
theorem V1j{x qual:Str}{st:Stmt}{dV:Value}{f:Addr}{oc:Value}{od an:Option Addr}{osl:Array (Option Value)}{kV doc pm cdv ct:Value}(l:K.lookup f=some ⟨oc,od,.func (fnOf x qual (B8 st) (B5 st) (A1 st) dV kV doc pm an cdv ct),osl⟩)
   (c:codeIn K cdv qual=true) (k:keepIn K (.ref f)=true):Y4b K x qual st dV f (fnOf x qual (B8 st) (B5 st) (A1 st) dV kV doc pm an cdv ct):=⟨⟨oc,od,kV,doc,pm,an,cdv,ct,osl,rfl,l,c⟩,k⟩
theorem J9n{fd:FuncData}{ps:List Str}{ds:List Value}{T:Addr}{o:Obj}{items:Array Value}{n:Nat}(hd:fd.defaults= .ref T)(ho:K.lookup T=some o)(hs:o.data= .seq items n)
   (h:∀us:List Value,(us++ds).length=ps.length ->∃k,bindArgs fd ⟨us,[]⟩=seqItems? fd.defaults>>=k/\k (some items)=pure (ps.zip (us++ds))):A0p K fd ps ds:=fun s us X hl=>by
 obtain⟨k,h1,h2⟩:=h us hl
 exact binds_K X hd ho hs h1 h2
end
section
variable{X:Cx}{k j:Nat}{f C:Addr}{fd:FuncData}{ps ks:List Str}{sp:Sp}{EH:EK}{x m:Str}{p pos apos:Pos}{e o:Expr}{es:List Expr}{kws:List Keyword}{ta:TE}{t tk:TA}{g:List Value ->List Value ->List Value}{gV:List V ->List V ->List V}
end
section
variable{X:Cx}{K:Frag}{e:Expr}{f:Str}{pos:Pos}{ta:TE}
theorem J1t(h:X.K=K):IxR X (rIxL K):=by subst h;exact A0a
theorem Z8m(h:X.K=K):IxR X (rIxT K):=by subst h;exact Y2
theorem A4q(h:X.K=K):OpR X (compareOp .In) (rIn K false):=by subst h;exact A7b
end
end L2
namespace TR
open PySem L2 PySem.W PyProof.Rows
structure Own(mg:Str ->Option Value):Prop where
 isi:mg "isinstance"=none
 int_:mg "int"=none
 bool_:mg "bool"=none
 str_:mg "str"=none
 list_:mg "list"=none
 tuple_:mg "tuple"=none
 dict_:mg "dict"=none
 len_:mg "len"=none
 range_:mg "range"=none
 min_:mg "min"=none
 max_:mg "max"=none
 abs_:mg "abs"=none
 any_:mg "any"=none
 all_:mg "all"=none
 sum_:mg "sum"=none
 repr_:mg "repr"=none
 enumerate_:mg "enumerate"=none
 reversed_:mg "reversed"=none
 zip_:mg "zip"=none
 sorted_:mg "sorted"=none
 divmod_:mg "divmod"=none
 set_:mg "set"=none
 ValueError_:mg "ValueError"=none
structure Kit(K:Frag):Prop where
 int_int:kitOne K (.type "int") (.type "int")=some true
 int_bool:kitOne K (.type "int") (.type "bool")=some false
 int_str:kitOne K (.type "int") (.type "str")=some false
 int_list:kitOne K (.type "int") (.type "list")=some false
 int_tuple:kitOne K (.type "int") (.type "tuple")=some false
 int_dict:kitOne K (.type "int") (.type "dict")=some false
 bool_int:kitOne K (.type "bool") (.type "int")=some true
 bool_bool:kitOne K (.type "bool") (.type "bool")=some true
 bool_str:kitOne K (.type "bool") (.type "str")=some false
 bool_list:kitOne K (.type "bool") (.type "list")=some false
 bool_tuple:kitOne K (.type "bool") (.type "tuple")=some false
 bool_dict:kitOne K (.type "bool") (.type "dict")=some false
 str_int:kitOne K (.type "str") (.type "int")=some false
 str_bool:kitOne K (.type "str") (.type "bool")=some false
 str_str:kitOne K (.type "str") (.type "str")=some true
 str_list:kitOne K (.type "str") (.type "list")=some false
 str_tuple:kitOne K (.type "str") (.type "tuple")=some false
 str_dict:kitOne K (.type "str") (.type "dict")=some false
 list_int:kitOne K (.type "list") (.type "int")=some false
 list_bool:kitOne K (.type "list") (.type "bool")=some false
 list_str:kitOne K (.type "list") (.type "str")=some false
 list_list:kitOne K (.type "list") (.type "list")=some true
 list_tuple:kitOne K (.type "list") (.type "tuple")=some false
 list_dict:kitOne K (.type "list") (.type "dict")=some false
 tuple_int:kitOne K (.type "tuple") (.type "int")=some false
 tuple_bool:kitOne K (.type "tuple") (.type "bool")=some false
 tuple_str:kitOne K (.type "tuple") (.type "str")=some false
 tuple_list:kitOne K (.type "tuple") (.type "list")=some false
 tuple_tuple:kitOne K (.type "tuple") (.type "tuple")=some true
 tuple_dict:kitOne K (.type "tuple") (.type "dict")=some false
 dict_int:kitOne K (.type "dict") (.type "int")=some false
 dict_bool:kitOne K (.type "dict") (.type "bool")=some false
 dict_str:kitOne K (.type "dict") (.type "str")=some false
 dict_list:kitOne K (.type "dict") (.type "list")=some false
 dict_tuple:kitOne K (.type "dict") (.type "tuple")=some false
 dict_dict:kitOne K (.type "dict") (.type "dict")=some true
 NoneType_int:kitOne K (.type "NoneType") (.type "int")=some false
 NoneType_bool:kitOne K (.type "NoneType") (.type "bool")=some false
 NoneType_str:kitOne K (.type "NoneType") (.type "str")=some false
 NoneType_list:kitOne K (.type "NoneType") (.type "list")=some false
 NoneType_tuple:kitOne K (.type "NoneType") (.type "tuple")=some false
 NoneType_dict:kitOne K (.type "NoneType") (.type "dict")=some false
theorem scK{N P:List Str}{sc:Scope}(a:sc.kind= .function:=by rfl)(b:sc.isCoroutine=false:=by rfl)(c:sc.isGenerator=false:=by rfl)(d:N.Nodup:=by decide+kernel)(e:N.take P.length=P:=by rfl)(f:∀x∈P,sc.names.lookup x=some .local\/sc.names.lookup x=some .cell:=by decide+kernel)(g:∀y∈sc.names,y.2≠ .free:=by decide+kernel):B9 N P sc:=⟨a,b,c,d,e,f,g⟩
theorem V1a{K:Frag}{H:Hp}(i:Int):TyE K H (.int i) (.type "int"):= .of (.int i)
theorem tyBl{K:Frag}{H:Hp}(b:Bool):TyE K H (.bl b) (.type "bool"):= .of (.bl b)
theorem J2r{K:Frag}{H:Hp}(z:Str):TyE K H (.str z) (.type "str"):= .of (.str z)
theorem A0ea{K:Frag}{H:Hp}:TyE K H .non (.type "NoneType"):= .of .non
theorem V0n{K:Frag}{H:Hp}{a:Addr}{xs:List V}(h:H a=some (.lst xs)):TyE K H (.ref a) (.type "list"):= .of (.lst h)
theorem A0ej{K:Frag}{H:Hp}{a:Addr}{xs:List V}(h:H a=some (.tup xs)):TyE K H (.ref a) (.type "tuple"):= .of (.tup h)
theorem A0ns{K:Frag}{H:Hp}{a:Addr}{xs:List (Key×V)}(h:H a=some (.dK xs)):TyE K H (.ref a) (.type "dict"):= .of (.dK h)
theorem B2d.same{K:Frag}{H H':Hp}{x:V}{t:Value}(h:B2d K H x t)(e:B7 H H'):B2d K H' x t:=by
 cases h with
 |non=>exact .non
 |bl x=>exact .bl x
 |int i=>exact .int i
 |str x=>exact .str x
 |flt x=>exact .flt x
 |lst z=>exact .lst (e _ _ z)
 |frz z=>exact .frz (e _ _ z)
 |tup z=>exact .tup (e _ _ z)
 |dK z=>exact .dK (e _ _ z)
 |dT z=>exact .dT (e _ _ z)
 |ins z a b c d f=>exact .ins (e _ _ z) a b c d f
theorem TyE.same{K:Frag}{H H':Hp}{x:V}{t:Value}(h:TyE K H x t)(e:B7 H H'):TyE K H' x t:=by
 cases h with
 |of h=>exact .of (B2d.same h e)
 |exc z k=>exact .exc (e _ _ z) k
 |excD z d k=>exact .excD (e _ _ z) (e _ _ d) k
 |tupK l c=>exact .tupK l c
noncomputable def A5v (lo hi:Int) (v:V):Prop:=∃i,v= .int i/\lo<=i/\i<=hi
noncomputable def A8f (K:Frag) (H:Hp) (lo hi:Int) (v:V):Prop:=∃t b1 b2,TyE K H v t/\kitOne K t (.type "int")=some b1/\kitOne K t (.type "bool")=some b2/\((b1&& !b2)=false\/∃i,v= .int i/\(i<lo\/hi<i))
section
variable{K:Frag}{H:Hp}{lo hi:Int}
theorem Z9x(T:Kit K){i:Int}(h:i<lo\/hi<i):A8f K H lo hi (.int i):=⟨_,_,_,V1a i,T.int_int,T.int_bool,.inr ⟨i,rfl,h⟩⟩
theorem A0gg(T:Kit K)(b:Bool):A8f K H lo hi (.bl b):=⟨_,_,_,tyBl b,T.bool_int,T.bool_bool,.inl rfl⟩
theorem Z9c(T:Kit K)(z:Str):A8f K H lo hi (.str z):=⟨_,_,_,J2r z,T.str_int,T.str_bool,.inl rfl⟩
theorem Z8r(T:Kit K):A8f K H lo hi .non:=⟨_,_,_,A0ea,T.NoneType_int,T.NoneType_bool,.inl rfl⟩
theorem Z9h(T:Kit K){a:Addr}{xs:List V}(h:H a=some (.lst xs)):A8f K H lo hi (.ref a):=⟨_,_,_,V0n h,T.list_int,T.list_bool,.inl rfl⟩
theorem Z9a(T:Kit K){a:Addr}{xs:List V}(h:H a=some (.tup xs)):A8f K H lo hi (.ref a):=⟨_,_,_,A0ej h,T.tuple_int,T.tuple_bool,.inl rfl⟩
end
noncomputable def Exc (p:Addr) (H H':Hp):Prop:=∀b o,H b=some o ->b≠p ->H' b=some o
theorem Exc.refl(p:Addr)(H:Hp):Exc p H H:=fun _ _ h _=>h
theorem Exc.trans{p:Addr}{H H1 H2:Hp}(a:Exc p H H1)(b:Exc p H1 H2):Exc p H H2:=fun c o h n=>b c o (a c o h n) n
theorem Exc.upd{p:Addr}{H:Hp}{o:HO}:Exc p H (L2.upd H p o):=fun b u e n=>by rw[C9 n];exact e
theorem Exc.of{p:Addr}{H H':Hp}(s:B7 H H'):Exc p H H':=fun b o h _=>s b o h
noncomputable def Has (P:Program) (w:World) (K:Frag) (mg:Str ->Option Value) (base:Heap) (C:Addr) (m:Str) (k:Nat) (ps:List Str) (sp:Sp):Prop:=∃f fd,A0c K C m f/\FnOk P w K mg base (CX1 P w) k f fd ps sp/\A0p K fd ps []
noncomputable def A5p (z:Str) (b:Bool):List Str:=if b then [z] else []
structure Fits(K:Frag)(C C1 C2 C3 C4 C5:Addr)(b1 b2 b3 b4 b5:Bool):Prop where
 k:D3u K C
 h1:kitOne K (.ref C) (.ref C1)=some b1
 h2:kitOne K (.ref C) (.ref C2)=some b2
 h3:kitOne K (.ref C) (.ref C3)=some b3
 h4:kitOne K (.ref C) (.ref C4)=some b4
 h5:kitOne K (.ref C) (.ref C5)=some b5
 hv:kitOne K (.ref C) (.type "ValueError")=some true
theorem len2{us:List Value}(h:us.length=2):∃a b,us=[a,b]:=by
 obtain⟨a,t,rfl⟩:=List.exists_cons_of_length_eq_add_one h
 obtain⟨b,t,rfl⟩:=List.exists_cons_of_length_eq_add_one (Nat.succ.inj h)
 exact⟨a,b,by rw[List.eq_nil_of_length_eq_zero (Nat.succ.inj (Nat.succ.inj h))]⟩
theorem len3{us:List Value}(h:us.length=3):∃a b c,us=[a,b,c]:=by
 obtain⟨a,t,rfl⟩:=List.exists_cons_of_length_eq_add_one h
 obtain⟨b,c,e⟩:=len2 (Nat.succ.inj h)
 exact⟨a,b,c,by rw[e]⟩
theorem len4{us:List Value}(h:us.length=4):∃a b c d,us=[a,b,c,d]:=by
 obtain⟨a,t,rfl⟩:=List.exists_cons_of_length_eq_add_one h
 obtain⟨b,c,d,e⟩:=len3 (Nat.succ.inj h)
 exact⟨a,b,c,d,by rw[e]⟩
theorem len5{us:List Value}(h:us.length=5):∃a b c d e,us=[a,b,c,d,e]:=by
 obtain⟨a,t,rfl⟩:=List.exists_cons_of_length_eq_add_one h
 obtain⟨b,c,d,e,z⟩:=len4 (Nat.succ.inj h)
 exact⟨a,b,c,d,e,by rw[z]⟩
theorem Z9u{us ds:List Value}{n:Nat}(h:(us++ds).length=n):us.length=n-ds.length:=by rw[List.length_append] at h;omega
end TR
namespace L2
open PySem PySem.Spec PyProof.Rows
section
variable{κ:Type} [DecidableEq κ]
noncomputable def C8q (kvs:List (κ×V)) (k:κ):Option V:=(kvs.find? fun kv=>decide (kv.1=k)).map (·.2)
noncomputable def A1d (kvs:List (κ×V)) (k:κ) (v:V):List (κ×V):=
 if(kvs.any fun kv=>decide (kv.1=k))=true then kvs.map (fun kv=>if kv.1=k then(kv.1,v) else kv) else kvs++ [(k,v)]
theorem C7y{p:κ×V}{r:List (κ×V)}{k:κ}(e:p.1=k):C8q (p::r) k=some p.2:=by simp[C8q,List.find?_cons,e]
theorem C7e{p:κ×V}{r:List (κ×V)}{k:κ}(e:¬p.1=k):C8q (p::r) k=C8q r k:=by simp[C8q,List.find?_cons,e]
theorem J2u(k:κ):∀kvs:List (κ×V),(kvs.any fun kv=>decide (kv.1=k))=(C8q kvs k).isSome
 | []=>rfl
 | p::r=>by
   rw[List.any_cons]
   by_cases e:p.1=k
   . simp only[C7y e,decide_eq_true e,Bool.true_or,Option.isSome_some]
   . rw[C7e e,decide_eq_false e,Bool.false_or];exact J2u k r
theorem B1v(kvs:List (κ×V))(k:κ)(v:V):(A1d kvs k v).length<=kvs.length+1:=by
 unfold A1d
 split
 . rw[List.length_map];omega
 rw[List.length_append,List.length_cons,List.length_nil];omega
theorem A7f.isSome_eq{o:Option V}{u:Option Value}(r:A7f o u):o.isSome=u.isSome:=by
 cases o with
 | none=>cases u with
   |none=>rfl
   |some _=>exact(show False from r).elim
 | some _=>cases u with
   |none=>exact(show False from r).elim
   |some _=>rfl
theorem KV.val{kvs:List (κ×V)}{vs:List (κ×Value)}(r:KV kvs vs)(k:κ):A7f (C8q kvs k) (valueAt vs k):=by
 unfold KV at r
 induction r with
 |nil=>exact True.intro
 | @cons p q ps qs h t ih=>
   obtain⟨h1,h2⟩:=h
   by_cases e:p.1=k
   . have e':q.1=k:=h1.symm.trans e
     have b:valueAt (q::qs) k=some q.2:=by simp[valueAt,List.find?_cons,e']
     rw[C7y e,b];exact h2
   . have e':¬q.1=k:=fun z=>e (h1.trans z)
     have b:valueAt (q::qs) k=valueAt qs k:=by simp[valueAt,List.find?_cons,e']
     rw[C7e e,b];exact ih
theorem KV.any{kvs:List (κ×V)}{vs:List (κ×Value)}(r:KV kvs vs)(k:κ):(kvs.any fun kv=>decide (kv.1=k))=vs.any fun kv=>decide (kv.1=k):=by
 unfold KV at r
 induction r with
 |nil=>rfl
 |cons h t ih=>rw[List.any_cons,List.any_cons,ih,h.1]
theorem KV.repl{kvs:List (κ×V)}{vs:List (κ×Value)}(r:KV kvs vs)(k:κ){y:V}{u:Value}(ry:V0 y u):
   KV (kvs.map fun kv=>if kv.1=k then(kv.1,y) else kv) (vs.map fun kv=>if kv.1=k then(kv.1,u) else kv):=by
 unfold KV at r ⊢
 induction r with
 |nil=>exact .nil
 | @cons p q ps qs h t ih=>
   rw[List.map_cons,List.map_cons]
   refine .cons ?_ ih
   obtain⟨h1,h2⟩:=h
   by_cases e:p.1=k
   . rw[if_pos e,if_pos (h1.symm.trans e)];exact⟨h1,ry⟩
   . rw[if_neg e,if_neg (fun z=>e (h1.trans z))];exact⟨h1,h2⟩
theorem KV.put{kvs:List (κ×V)}{vs:List (κ×Value)}(r:KV kvs vs)(k:κ){y:V}{u:Value}(ry:V0 y u):KV (A1d kvs k y) (stored vs k u):=by
 unfold A1d stored
 rw[r.any k]
 by_cases e:(vs.any fun kv=>decide (kv.1=k))=true
 . rw[if_pos e,if_pos e];exact r.repl k ry
 rw[if_neg e,if_neg e];exact Paired.snoc r ⟨rfl,ry⟩
theorem KV.length{kvs:List (κ×V)}{vs:List (κ×Value)}(r:KV kvs vs):kvs.length=vs.length:=Paired.length r
end
theorem V0x{P:Program}{w:World}{k:Key}{u:Value}(r:V0 (kV k) u):(Z9 P w).is k u=true:=by
 cases k with
 |inl i=>obtain⟨t,e⟩:=(show∃t,u=Value.int i t from r);subst e;exact J0r P w i t
 |inr x=>obtain⟨t,e⟩:=(show∃t,u=Value.str x t from r);subst e;exact J0y P w x t
theorem D8n{P:Program}{w:World}:∀{ks:List Key} {us:List Value},U3 (ks.map kV) us ->ItemsAre (Z9 P w) ks us
 | [],_,r=>by rw[List.map_nil] at r;cases r;exact .nil
 | k::ks,_,r=>by
   rw[List.map_cons] at r
   cases r with
   |cons h t=>exact .cons (V0x h) (D8n t)
noncomputable abbrev KT (H:Hp):List (List Key×V) ->List (List Key×Addr×Value) ->Prop:=Paired fun p q=>p.1=q.1/\H q.2.1=some (.tup (p.1.map kV))/\V0 p.2 q.2.2
theorem KT.val{H:Hp}{kvs:List (List Key×V)}{xs:List (List Key×Addr×Value)}(r:KT H kvs xs)(k:List Key):A7f (C8q kvs k) ((atKey xs k).map (·.2)):=by
 induction r with
 |nil=>exact True.intro
 | @cons p q ps qs h t ih=>
   obtain⟨h1,_,h2⟩:=h
   by_cases e:p.1=k
   . have e':q.1=k:=h1.symm.trans e
     have b:atKey (q::qs) k=some q.2:=by simp[atKey,List.find?_cons,e']
     rw[C7y e,b];exact h2
   . have e':¬q.1=k:=fun z=>e (h1.trans z)
     have b:atKey (q::qs) k=atKey qs k:=by simp[atKey,List.find?_cons,e']
     rw[C7e e,b];exact ih
theorem KT.repl{H:Hp}{kvs:List (List Key×V)}{xs:List (List Key×Addr×Value)}(r:KT H kvs xs)(k:List Key){y:V}{u:Value}(ry:V0 y u):
   KT H (kvs.map fun kv=>if kv.1=k then(kv.1,y) else kv) (xs.map (putAt k u)):=by
 induction r with
 |nil=>exact .nil
 | @cons p q ps qs h t ih=>
   rw[List.map_cons,List.map_cons]
   refine .cons ?_ ih
   obtain⟨h1,h2,h3⟩:=h
   unfold putAt
   by_cases e:p.1=k
   . rw[if_pos e,if_pos (h1.symm.trans e)];exact⟨h1,h2,ry⟩
   . rw[if_neg e,if_neg (fun z=>e (h1.trans z))];exact⟨h1,h2,h3⟩
theorem KT.put{H:Hp}{kvs:List (List Key×V)}{xs:List (List Key×Addr×Value)}(r:KT H kvs xs)(k:List Key){b:Addr}{y:V}{u:Value}(hb:H b=some (.tup (k.map kV)))(ry:V0 y u):
   KT H (A1d kvs k y) (storedH xs k b u):=by
 have e:(kvs.any fun kv=>decide (kv.1=k))=(atKey xs k).isSome:=by
   rw[J2u,(r.val k).isSome_eq,Option.isSome_map]
 unfold A1d storedH
 rw[e]
 by_cases q:(atKey xs k).isSome=true
 . rw[if_pos q,if_pos q];exact r.repl k ry
 rw[if_neg q,if_neg q];exact Paired.snoc r ⟨rfl,hb,ry⟩
theorem KT.keeps{H H':Hp}{kvs:List (List Key×V)}{xs:List (List Key×Addr×Value)}(r:KT H kvs xs)(ht:∀b ys,H b=some (.tup ys) ->H' b=some (.tup ys)):KT H' kvs xs:=
 Paired.mapP r fun _ _ z=>⟨z.1,ht _ _ z.2.1,z.2.2⟩
section
variable{P:Program}{w:World}{H:Hp}{h:Heap}{a:Addr}
theorem A0ed{u:HO}(ok:HOk P w H h)(e:Rd H a u):Y9 P w H h a u:=e.ok ok
theorem Y3q{kvs:List (Key×V)}(ok:HOk P w H h)(e:Rd H a (.dK kvs)):kvs.length<=sizeLine/\(a==sysModules)=false/\∃vs,KV kvs vs/\h.DictOf (Z9 P w) a vs:=
 show Y9 P w H h a (.dK kvs) from A0ed ok e
theorem A0eb{kvs:List (Key×V)}(ok:HOk P w H h)(e:H a=some (.dK kvs)):kvs.length<=sizeLine/\(a==sysModules)=false/\∃vs,KV kvs vs/\h.DictOf (Z9 P w) a vs:=Y3q ok (.inl e)
theorem J8f{ks:List Key}(ok:HOk P w H h)(e:H a=some (.tup (ks.map kV))):(tupleKind (Z9 P w)).is h ks a:=by
 obtain⟨_,its,r,o,h1,h2,n,h3⟩:=(show Y9 P w H h a (.tup (ks.map kV)) from ok a _ e)
 exact⟨o,its.toArray,n,h1,h2,h3,by simpa using D8n r⟩
theorem Y3b{kvs:List (List Key×V)}(ok:HOk P w H h)(e:Rd H a (.dT kvs)):kvs.length<=sizeLine/\(a==sysModules)=false/\
   ∃xs,KT H kvs xs/\h.DictOfH (tupleKind (Z9 P w)) a xs:=by
 obtain⟨z,y,xs,r,o,es,ep,h1,h2,h3,h4,h5⟩:=(show Y9 P w H h a (.dT kvs) from A0ed ok e)
 refine⟨z,y,xs,r,o,es,ep,h1,h2,h3,h4,fun x hx=>?_,h5⟩
 have all:∀{l:List (List Key×V)} {m:List (List Key×Addr×Value)},KT H l m ->∀x∈m,(tupleKind (Z9 P w)).is h x.1 x.2.1:=by
   intro l m q
   induction q with
   |nil=>intro x hx;exact nomatch hx
   | @cons p q ps qs hq t ih=>
     intro x hx
     rcases List.mem_cons.mp hx with e|hx
     . subst e
       exact J8f ok (by rw[<-hq.1];exact hq.2.1)
     . exact ih x hx
 exact all r x hx
theorem A0mh{kvs:List (List Key×V)}(ok:HOk P w H h)(e:H a=some (.dT kvs)):kvs.length<=sizeLine/\(a==sysModules)=false/\
   ∃xs,KT H kvs xs/\h.DictOfH (tupleKind (Z9 P w)) a xs:=Y3b ok (.inl e)
end
noncomputable def A5j (H:Hp) (a:Addr) (y:V) (r:Option V):Prop:=
 (∃kvs k,Rd H a (.dK kvs)/\y=kV k/\r=C8q kvs k)\/∃kvs k b,Rd H a (.dT kvs)/\y= .ref b/\H b=some (.tup (k.map kV))/\r=C8q kvs k
noncomputable def C9b (H:Hp) (a:Addr) (y v:V) (H':Hp):Prop:=
 (∃kvs k,H a=some (.dK kvs)/\y=kV k/\kvs.length<sizeLine/\H'=upd H a (.dK (A1d kvs k v)))\/
 ∃kvs k b,H a=some (.dT kvs)/\y= .ref b/\H b=some (.tup (k.map kV))/\kvs.length<sizeLine/\H'=upd H a (.dT (A1d kvs k v))
theorem A5j.k{H:Hp}{a:Addr}{kvs:List (Key×V)}{k:Key}(e:H a=some (.dK kvs)):A5j H a (kV k) (C8q kvs k):= .inl ⟨kvs,k,.inl e,rfl,rfl⟩
theorem C9b.k{H:Hp}{a:Addr}{kvs:List (Key×V)}{k:Key}{v:V}(e:H a=some (.dK kvs))(hl:kvs.length<sizeLine):C9b H a (kV k) v (upd H a (.dK (A1d kvs k v))):= .inl ⟨kvs,k,e,rfl,hl,rfl⟩
section
variable{X:Cx}{pins:List (Addr×Obj)}{σ:St}{H:Hp}{s:Shared}{a:Addr}{y v:V}{u r:Value}{o:Option V}{A:Around}{E:Value ->Shared ->Prop}
theorem V4m{Q:Value ->Shared ->Prop}(hu:A.units+1<cLine)(I:Inv X pins σ H s)(g:A5j H a y (some v))(ry:V0 y u)(h:∀w' s',Inv X pins σ H s' ->V0 v w' ->Q w' s'):
   wpAny (model X.prog X.w) A (getItem (.ref a) u) Q E s:=by
 rcases g with⟨kvs,k,e,ey,l⟩|⟨kvs,k,b,e,ey,eb,l⟩
 . subst ey
   obtain⟨z,hd,vs,rel,dd⟩:=Y3q I.hok e
   obtain⟨w',hw,rw'⟩:=A7f.some_of (v:=v) (o:=valueAt vs k) (by rw[l];exact rel.val k)
   exact wpAny_getItem_of (V0x ry) dd.mapOf hw (h w' _ (I.tok _) rw')
 subst ey
 cases(show u=Value.ref b from ry)
 obtain⟨z,hd,xs,rel,dd⟩:=Y3b I.hok e
 obtain⟨w',hw,rw'⟩:=A7f.some_of (v:=v) (o:=(atKey xs k).map (·.2)) (by rw[l];exact rel.val k)
 obtain⟨p,hp,hp2⟩:=Option.map_eq_some_iff.mp hw
 refine wpAny_getItem_heap (tupleKind_room_in1 hu) (J8f I.hok eb) dd hp ?_
 rw[hp2]
 exact h w' _ (I.tok _) rw'
theorem G1f{h':Heap}{t':Nat}{ob:HO}(I:Inv X pins σ H s)(mu:Mut (H a))(hs:Heap.SameBut a s.heap h')(he:∃q,h'.get? a=some q)(new:Y9 X.prog X.w (upd H a ob) h' a ob):
   Inv X pins σ (upd H a ob) {s with heap:=h',toks:=t'}:=
 I.write (x:=a) (e:=a) mu (.inl rfl) (fun b q hb z=>(hs.2 b hb).trans z) he new
theorem Y0v{P:Program}{w:World}{H':Hp}{h':Heap}{kvs:List (Key×V)}{vs:List (Key×Value)}(z:kvs.length<=sizeLine)(hd:(a==sysModules)=false)(rel:KV kvs vs)(dd:h'.DictOf (Z9 P w) a vs):
   Y9 P w H' h' a (.dK kvs):=⟨z,hd,vs,rel,dd⟩
theorem V3m{H':Hp}{Q:Unit ->Shared ->Prop}(hu:A.units+1<cLine)(I:Inv X pins σ H s)(g:C9b H a y v H')(ry:V0 y u)(rv:V0 v r)(h:∀s',Inv X pins σ H' s' ->Q () s'):
   wpAny (model X.prog X.w) A (setItem (.ref a) u r) Q E s:=by
 rcases g with⟨kvs,k,e,ey,l,eH⟩|⟨kvs,k,b,e,ey,eb,l,eH⟩
 . subst ey eH
   obtain⟨z,hd,vs,rel,dd⟩:=A0eb I.hok e
   have hz:vs.length<=sizeLine:=by rw[<-rel.length];exact z
   have hl:(A1d kvs k v).length<=sizeLine:=by have:=B1v kvs k v;omega
   refine wpAny_setItem_pairs (hsz:=hz) (V0x ry) dd fun h' dd' hs=>h _ ?_
   have he:∃q,h'.get? a=some q:=let⟨q,_,_,hq,_⟩:=dd';⟨q,hq⟩
   exact G1f I (by rw[e];exact True.intro) hs he (Y0v hl hd (rel.put k rv) dd')
 subst ey eH
 cases(show u=Value.ref b from ry)
 obtain⟨z,hd,xs,rel,dd⟩:=A0mh I.hok e
 have hz:xs.length<=sizeLine:=by rw[<-Paired.length rel];exact z
 have hl:(A1d kvs k v).length<=sizeLine:=by have:=B1v kvs k v;omega
 refine wpAny_setItem_heap (hsz:=hz) (tupleKind_room_in1 hu) (J8f I.hok eb) dd fun h' dd' hs=>h _ ?_
 obtain⟨q,es,ep,hq,h2,h3,h4,_,h5⟩:=dd'
 refine G1f I (by rw[e];exact True.intro) hs ⟨q,hq⟩ ⟨hl,hd,_,(rel.put k eb rv).keeps fun c ys ec=>?_,q,es,ep,hq,h2,h3,h4,h5⟩
 rw[C9 (G9 ec e (fun z=>nomatch z))]
 exact ec
end
section
variable{X:Cx}{pins:List (Addr×Obj)}{σ:St}{H:Hp}{s:Shared}{a:Addr}{kvs:List (Key×V)}{k:Key}{u:Value}{A:Around}{E:Value ->Shared ->Prop}
end
noncomputable def NoSl (i:Expr):Prop:=∀ov iv,subscripted i false ov iv=operate [ov,iv] (getItem ov iv)
theorem Z9w{prog:Program}{w:World}{A:Around}{E:Value ->Shared ->Prop}{s:Shared}{env:Env}{value slice:Expr}{pos:Pos}{T id:String}{Q:Value ->Shared ->Prop}
   (hl:typeLookup (.type T) "__getitem__"=pure (some (.builtin id))) (hs:NoSl slice)
   (h:wpAny (model prog w) A (eval value env) (fun o s₁=>wpAny (model prog w) A (eval slice env) (fun i s₂=>s₂.TypeIs o T/\wpAny (model prog w) A (getItem o i) Q E s₂) E s₁) E s):
   wpAny (model prog w) A (eval (.Subscript value slice pos) env) Q E s:=by
 refine Subscript_ (wpAny_mono h (fun o s₁ h₁=>wpAny_mono h₁ (fun i s₂ h₂=>?_) fun _ _ x=>x) fun _ _ x=>x)
 obtain⟨hT,h₂⟩:=h₂
 unfold subscriptTail
 refine wpAny_bind ?_
 rw[getitemInPython_of_ne hT.not_modules]
 refine wpAny_bind (wpAny_specialOf hT hl ?_)
 have fin:wpAny (model prog w) A (subscripted slice false o i) (fun r s₃=>wpAny (model prog w) A (letTemporaryGo value o r>>=fun _=>pure r) Q E s₃) E s₂:=by
   rw[hs o i]
   exact wpAny_operating (wpAny_mono h₂ (fun r s₃ h₃=>wpAny_bind (wpAny_letTemporaryGo (wpAny_pure h₃))) fun _ _ x=>x)
 first
   |exact wpAny_pure (wpAny_bind fin)
   |exact wpAny_bind (wpAny_pure (wpAny_bind fin))
   |exact wpAny_bind fin
theorem J1v{X:Cx}{pins:List (Addr×Obj)}{σ:St}{H:Hp}{s:Shared}{a:Addr}{y:V}{o:Option V}(I:Inv X pins σ H s)(g:A5j H a y o):s.TypeIs (.ref a) "dict":=by
 rcases g with⟨kvs,k,e,_,_⟩|⟨kvs,k,b,e,_,_,_⟩
 . obtain⟨_,_,vs,_,dd⟩:=Y3q I.hok e
   exact dd.typeIs
 obtain⟨_,_,xs,_,dd⟩:=Y3b I.hok e
 exact dd.typeIs
noncomputable def A0pf (td ty:TE):TE:=fun σ H Q=>td σ H fun x H1=>ty σ H1 fun y H2=>∃a v,x= .ref a/\A5j H2 a y (some v)/\Q v H2
noncomputable def A0mu (td ty tv:TE):TS:=fun D σ H=>tv σ H fun v H1=>td σ H1 fun x H2=>ty σ H2 fun y H3=>∃a H4,x= .ref a/\C9b H3 a y v H4/\D.nx σ H4
section
variable{X:Cx}{o i e value:Expr}{pos pos' tpos:Pos}{td ty tv:TE}
theorem U9(hu:X.A.units+1<cLine)(ho:PE X o td)(hi:PE X i ty)(hs:NoSl i):PE X (.Subscript o i pos) (A0pf td ty):=by
 intro pins s σ H Q I h
 refine Z9w PySem.F.slot_dict_getitem.lookup hs (thn (ho pins s σ H _ I h) fun u s1 ⟨x,H1,I1,rx,q1⟩=>thn (hi pins s1 σ H1 _ I1 q1) fun iv s2 hh_=>?_)
 obtain⟨y,H2,I2,ry,a,v,ex,g,q2⟩:=hh_
 subst ex
 obtain rfl:u=Value.ref a:=rx
 exact⟨J1v I2 g,V4m hu I2 g ry fun w' s3 I3 rw'=>⟨v,H2,I3,rw',q2⟩⟩
theorem A8d(hu:X.A.units+1<cLine)(ho:PE X o td)(hi:PE X i ty)(hv:PE X value tv)(hs:swapsWith value (some (.Subscript o i pos')) pos.line X.env=pure false):
   PS X (.Assign [.Subscript o i pos'] value pos) (A0mu td ty tv):=by
 intro pins s σ H D I h
 refine wpAny_Assign_Subscript (thn (hv pins s σ H _ I h) fun r s1 ⟨v,H1,I1,rv,q1⟩=>thn (ho pins s1 σ H1 _ I1 q1) fun u s2 ⟨x,H2,I2,rx,q2⟩=>thn (hi pins s2 σ H2 _ I2 q2) fun iv s3 hh_=>?_) hs
 obtain⟨y,H3,I3,ry,a,H4,ex,g,q3⟩:=hh_
 subst ex
 obtain rfl:u=Value.ref a:=rx
 exact V3m hu I3 g ry rv fun s4 I4=>⟨σ,H4,I4,q3⟩
end
section
variable{X:Cx}{pos:Pos}
end
noncomputable def J8c:List (TE×TE) ->St ->Hp ->(List (V×V) ->Hp ->Prop) ->Prop
 | [],_,H,Q=>Q [] H
 |(tk,tv)::r,σ,H,Q=>tk σ H fun x H1=>tv σ H1 fun y H2=>J8c r σ H2 fun ps H3=>Q ((x,y)::ps) H3
noncomputable abbrev VV:List (V×V) ->List (Value×Value) ->Prop:=Paired fun p q=>V0 p.1 q.1/\V0 p.2 q.2
noncomputable def PPs (X:Cx) (pos:Pos) (keys:List (Option Expr)) (values:List Expr) (trs:List (TE×TE)):Prop:=
 ∀ (pins:List (Addr×Obj)) (s:Shared) (σ:St) (H:Hp) (Q:List (V×V) ->Hp ->Prop),Inv X pins σ H s ->J8c trs σ H Q ->
   wpAny (model X.prog X.w) X.A (evalPairs (pairTrees keys values X.env pos)) (fun vs s'=>∃ps H',Inv X pins σ H' s'/\VV ps vs/\Q ps H') X.xe s
theorem Z9b{X:Cx}{pos:Pos}:PPs X pos [] [] []:=fun pins s σ H Q I h=>pairTrees_nil_walk ⟨[],H,I,.nil,h⟩
theorem J2g{X:Cx}{pos:Pos}{k v:Expr}{ks:List (Option Expr)}{vs:List Expr}{tk tv:TE}{trs:List (TE×TE)}(hk:PE X k tk)(hv:PE X v tv)(hr:PPs X pos ks vs trs):
   PPs X pos (some k::ks) (v::vs) ((tk,tv)::trs):=fun pins s σ H Q I h=>
 pairTrees_cons_walk (thn (hk pins s σ H _ I h) fun u s1 ⟨x,H1,I1,rx,q1⟩=>thn (hv pins s1 σ H1 _ I1 q1) fun w2 s2 ⟨y,H2,I2,ry,q2⟩=>
   thn (hr pins s2 σ H2 _ I2 q2) fun ws s3 ⟨ps,H3,I3,rel,q3⟩=>⟨(x,y)::ps,H3,I3,.cons ⟨rx,ry⟩ rel,q3⟩)
noncomputable def B2b (kvs more:List (Key×V)):List (Key×V):=more.foldl (fun acc kv=>A1d acc kv.1 kv.2) kvs
theorem KV.merge:∀{more:List (Key×V)} {rs:List (Key×Value)} {kvs:List (Key×V)} {vs:List (Key×Value)},KV more rs ->KV kvs vs ->KV (B2b kvs more) (merged vs rs):=by
 intro more rs kvs vs r
 unfold KV at r
 induction r generalizing kvs vs with
 |nil=>intro q;exact q
 | @cons p q ps qs h t ih=>
   intro r0
   have e:KV (A1d kvs p.1 p.2) (stored vs q.1 q.2):=by
     have:=r0.put p.1 h.2
     rw[<-h.1];exact this
   exact ih e
theorem B6c:∀(more kvs:List (Key×V)),(B2b kvs more).length<=kvs.length+more.length
 | [],kvs=>by show kvs.length<=kvs.length+0;omega
 | p::r,kvs=>by
   have h1:=B6c r (A1d kvs p.1 p.2)
   have h2:=B1v kvs p.1 p.2
   show(B2b (A1d kvs p.1 p.2) r).length<=_
   rw[List.length_cons];omega
theorem C7f{P:Program}{w:World}:∀{kvs:List (Key×V)} {ws:List (Value×Value)},VV (kvs.map fun kv=>(kV kv.1,kv.2)) ws ->∃rs,Carries (Z9 P w) ws rs/\KV kvs rs
 | [],_,r=>by rw[List.map_nil] at r;cases r;exact⟨[],True.intro,.nil⟩
 | p ::kvs,_,r=>by
   rw[List.map_cons] at r
   cases r with
   | @cons a b as bs h t=>
     obtain⟨rs,c,q⟩:=C7f (P:=P) (w:=w) t
     obtain⟨b1,b2⟩:=b
     exact⟨(p.1,b2)::rs,⟨V0x h.1,rfl,c⟩,.cons ⟨rfl,h.2⟩ q⟩
noncomputable def A0nk (trs:List (TE×TE)):TE:=fun σ H Q=>∀p,H p=none ->J8c trs σ (upd H p (.dK [])) fun ps H2=>H2 p=some (.dK [])/\∃kvs:List (Key×V),ps=kvs.map (fun kv=>(kV kv.1,kv.2))/\kvs.length<=15/\Q (.ref p) (upd H2 p (.dK (B2b [] kvs)))
theorem Z9s{X:Cx}{pos:Pos}{keys:List (Option Expr)}{values:List Expr}{trs:List (TE×TE)}(h:PPs X pos keys values trs)(hall:keys.all (·.isSome)=true)(hl:keys.length=values.length)(h0:keys≠ [])
   (h15:keys.length<=15):PE X (.Dict keys values pos) (A0nk trs):=by
 intro pins s σ H Q I q
 have hn:=I.hok.fresh (Nat.le_refl s.heap.objs.size)
 have I1:=I.laid (a:=s.heap.objs.size) (o:= .dK []) (h':=s.heap.push {cls:= .type "dict",data:= .dict #[]}) (t':=s.toks) (fun _ _ q=>Heap.get?_push_of_some _ q) (Nat.le_refl _) (J1f s.heap I.big)
 refine wpAny_Dict_walk (knd:=Z9 X.prog X.w) hall hl h0 h15 (thn (h pins _ σ _ _ I1 (q _ hn)) fun ws s2 hh_=>?_)
 obtain⟨ps,H2,I2,rel,e,kvs,ep,lk,q2⟩:=hh_
 subst ep
 obtain⟨rs,c,rk⟩:=C7f (P:=X.prog) (w:=X.w) rel
 obtain⟨z,hd,vs0,r0,dd⟩:=A0eb I2.hok e
 cases r0
 refine⟨rs,c,dd,fun h' dd' hs=>⟨.ref s.heap.objs.size,_,?_,rfl,q2⟩⟩
 have hz:(B2b [] kvs).length<=sizeLine:=by
   have h1:=B6c kvs []
   rw[List.length_nil] at h1
   rw[sizeLine_eq];omega
 have he:∃q,h'.get? s.heap.objs.size=some q:=let⟨q,_,_,hq,_⟩:=dd';⟨q,hq⟩
 exact G1f I2 (by rw[e];exact True.intro) hs he (Y0v hz hd (rk.merge .nil) dd')
end L2
namespace L2
open PySem PySem.Spec PyProof.Rows PySem.W
noncomputable def A2d (F:List Str) (env:Env):List (Str×Addr):=F.map fun x=>(x,(env.cells.lookup x).getD 0)
noncomputable def A5q (js:List Nat) (σ:St):St:=js.map fun j=>(σ[j]?).getD none
noncomputable abbrev Cx.compF (X:Cx) (scope:Scope) (N F:List Str) (C:Addr) (s₀:Shared) (H₀:Hp) (ex:List Addr) (pins:List (Addr×Obj)):Cx:=
 {X with N:=N++F,s₀:=s₀,H₀:=H₀,env:=compEnvC scope (A2d F X.env) C X.env,outer:=X.stack,ex:=ex,fn:=fun _=>false,pn:=pins,xe:=fun _ _=>False}
structure D9(N F:List Str)(js:List Nat)(sc:Scope)(XN:List Str)(env:Env):Prop where
 kind:sc.kind= .function
 cell:∀y∈sc.names,y.2≠ .cell
 loc:∀y∈sc.names,y.2= .local ->sc.names.lookup y.1=some .local
 nd:(N++F).Nodup
 clos:closureFor sc env=pure (A2d F env)
 fr:∀y∈(relabel sc env).names,y.2= .cell\/y.2= .free ->y.1∈F
 at_:∀(k:Nat) (x:Str),F[k]?=some x ->(∃j:Nat,js[k]?=some j/\XN[j]?=some x)/\(∃c,env.cells.lookup x=some c)/\env.kindOf x=some .cell/\(relabel sc env).names.lookup x=some .cell
 jl:js.length=F.length
noncomputable def B1k (n:Nat) (js:List Nat) (wi:TI) (g:TG) (tc:TT) (te:TE):TE:=fun σ H Q=>wi σ H fun J H1=>∀D,H1 D=none ->
 ∃ (m:Nat) (W:Nat ->List V ->Hp ->Prop),W 0 [] (upd H1 D (.lst []))/\∀i ys H2,W i ys H2 ->i<=m/\H2 D=some (.lst ys)/\((J.stop i H2/\Q (.ref D) H2)\/(i<m/\J.go i H2/\∀x H3,J.yld i H2 x H3 ->
   g x (List.replicate n none++A5q js σ) H3 fun σ4 H4=>tc σ4 H4 fun b H5=>if b=true then te σ4 H5 fun y H6=>H6 D=some (.lst ys)/\ys.length<sizeLine/\W (i+1) (ys++ [y]) (upd H6 D (.lst (ys++ [y]))) else W (i+1) ys H5))
theorem A0gc{F:List Str}{env:Env}{x:Str}{c:Addr}(h:(A2d F env).lookup x=some c):x∈F/\c=(env.cells.lookup x).getD 0:=by
 have:=PySem.mem_of_lookup h
 obtain⟨y,hy,e⟩:=List.mem_map.mp this
 cases e
 exact⟨hy,rfl⟩
theorem Y0r{env:Env}{x:Str}:∀{F:List Str},x∈F ->(A2d F env).lookup x=some ((env.cells.lookup x).getD 0)
 | y ::F,h=>by
   show List.lookup x ((y,(env.cells.lookup y).getD 0)::A2d F env)=_
   by_cases e:x=y
   . subst e;simp[List.lookup]
   . have hb:(x==y)=false:=beq_eq_false_iff_ne.mpr e
     rw[List.lookup_cons,hb]
     exact Y0r (by rcases List.mem_cons.mp h with z|z;exact absurd z e;exact z)
section
variable{X:Cx}{N F:List Str}{js:List Nat}{scope:Scope}
theorem D9.sub(S:D9 N F js scope X.N X.env):∀x c,(A2d F X.env).lookup x=some c ->X.env.cells.lookup x=some c:=fun x c z=>by
 obtain⟨hx,rfl⟩:=A0gc z
 obtain⟨k,hk⟩:=List.mem_iff_getElem?.mp hx
 obtain⟨_,⟨c,hc⟩,_⟩:=S.at_ k x hk
 rw[hc];rfl
theorem D9.has(S:D9 N F js scope X.N X.env){x:Str}(hx:x∈F):∃c,(A2d F X.env).lookup x=some c/\X.env.cells.lookup x=some c:=
 ⟨_,Y0r hx,S.sub _ _ (Y0r hx)⟩
theorem B5j{pins:List (Addr×Obj)}{σ:St}{H:Hp}{s:Shared}(S:D9 N F js scope X.N X.env)(I:Inv X pins σ H s){h':Heap}{m:Str ->Option Value}{C:Addr}(hc:∀x c v,X.env.cells.lookup x=some c ->s.heap.IsCell c v ->h'.IsCell c v):
   ∀(i:Nat) (x:Str) (v:V),(N++F)[i]?=some x ->(List.replicate N.length none++A5q js σ)[i]?=some (some v) ->∃u,V0 v u/\Look (compEnvC scope (A2d F X.env) C X.env) h' m x u:=by
 intro i x v e1 e2
 by_cases hi:i<N.length
 . rw[List.getElem?_append_left (by simpa using hi),List.getElem?_replicate] at e2
   split at e2<;>cases e2
 rw[List.getElem?_append_right (by omega)] at e1
 rw[List.getElem?_append_right (by simp;omega)] at e2
 rw[List.length_replicate] at e2
 obtain⟨⟨j,hj,hx⟩,⟨c,hcc⟩,kx,kr⟩:=S.at_ _ x e1
 unfold A5q at e2
 rw[List.getElem?_map,hj] at e2
 have e2:(σ[j]?).getD none=some v:=Option.some.inj e2
 have e3:σ[j]?=some (some v):=by
   cases q:σ[j]? with
   |none=>rw[q] at e2;cases e2
   |some o=>rw[q] at e2;exact congrArg some e2
 obtain⟨m0,_,hl⟩:=I.loc
 obtain⟨u,r,l⟩:=hl j x v hx e3 (.inr (.inl kx))
 refine⟨u,r,.inr ⟨.inl kr,c,?_,?_⟩⟩
 . obtain⟨c',h1,h2⟩:=S.has (List.mem_of_getElem? e1)
   rw[hcc] at h2
   cases h2
   exact h1
 rcases l with⟨k,_⟩|⟨_,c',h1,h2⟩
 . rw[kx] at k;cases k
 rw[hcc] at h1
 cases h1
 exact hc x c _ hcc h2
theorem G0g(S:D9 N F js scope X.N X.env)(σ:St):(List.replicate N.length none++A5q js σ:St).length=(N++F).length:=by
 unfold A5q
 rw[List.length_append,List.length_replicate,List.length_map,S.jl,List.length_append]
theorem D7y{pins:List (Addr×Obj)}{σ:St}{H:Hp}{s:Shared}{it:Addr}{h':Heap}(S:D9 N F js scope X.N X.env)(I:Inv X pins σ H s)(hf:A4s X pins H it)(hit:∃o,s.heap.get? it=some o)(hnb:X.base.get? it=none)
   (hns:h'.Ns s.heap.objs.size (fun _=>none)) (hsb:∀b o,s.heap.get? b=some o ->h'.get? b=some o) {tk:Nat}:
   Inv (X.compF scope N F s.heap.objs.size s H [it] (X.pn++pins)) [] (List.replicate N.length none++A5q js σ) H {s with heap:=h',toks:=tk}:=by
 obtain⟨f0,f1,f2,f3,f4,f5⟩:=hf
 obtain⟨oi,ei⟩:=hit
 have lt:it<s.heap.objs.size:=Heap.lt_size ei
 have ck:∀c v,s.heap.IsCell c v ->h'.IsCell c v:=fun c v ⟨o,e,d⟩=>⟨o,hsb _ _ e,d⟩
 have inF:∀x,((compEnvC scope (A2d F X.env) s.heap.objs.size X.env).kindOf x=some .cell\/(compEnvC scope (A2d F X.env) s.heap.objs.size X.env).kindOf x=some .free) ->x∈F:=by
   intro x z
   have z:(relabel scope X.env).names.lookup x=some .cell\/(relabel scope X.env).names.lookup x=some .free:=z
   rcases z with z|z
   . exact S.fr _ (PySem.mem_of_lookup z) (.inl rfl)
   . exact S.fr _ (PySem.mem_of_lookup z) (.inr rfl)
 refine⟨⟨I.ok.mod,S.kind,I.ok.glob,I.ok.blt,Nat.le_refl _,fun x y c z z'=>I.ok.inj x y c (S.sub x c z) (S.sub y c z'),fun x z=>?_,fun x c z _=>(nomatch z),I.ok.hd,I.ok.frames,.inl rfl,fun b hb=>?_,I.bs,Nat.le_trans I.ok.bsz I.sz,fun b o e hb=>?_,fun b hb hfs=>?_,I.stack,I.stkFree⟩,
   rfl,I.bare,Un.kept hsb,⟨_,hns,fun i x v e1 e2 e3=>B5j S I (fun x c v _ z=>ck c v z) i x v e1 e2⟩,fun x c z=>?_,I.hok.fresh (Nat.le_refl _),fun x c z=>I.freeC x c (S.sub x c z),fun p hp=>?_,I.hok.kept hsb,G0g S σ⟩
 . obtain⟨c,h1,_⟩:=S.has (inF x z)
   exact⟨c,h1⟩
 . have e:b=it:=by simpa using hb
   subst e
   exact⟨Nat.ne_of_lt lt,fun x c z=>f4 x c (S.sub x c z)⟩
 . have e':b=it:=by simpa using hb
   subst e'
   rw[hnb] at e
   cases e
 . have e':b=it:=by simpa using hb
   subst e'
   rcases List.mem_cons.mp (I.stkSub b hfs) with z|z
   . exact f1 z
   . exact f2 z
 . obtain⟨v,z'⟩:=I.cell x c (S.sub x c z)
   exact⟨v,ck c v z'⟩
 have hp':p∈X.pn++pins:=by simpa using hp
 obtain⟨q1,q2,q3,q4,q5⟩:=I.pin p hp'
 refine⟨hsb _ _ q1,q2,Nat.ne_of_lt (Heap.lt_size q1),fun z=>?_,q5⟩
 rcases List.mem_cons.mp (I.stkSub p.1 z) with z|z
 . exact q3 z
 exact q4 z
theorem D7h{pins pl:List (Addr×Obj)}{σ σ':St}{H H':Hp}{s s':Shared}{it:Addr}(S:D9 N F js scope X.N X.env)(I:Inv X pins σ H s)(hf:A4s X pins H it)(J:Inv (X.compF scope N F s.heap.objs.size s H [it] (X.pn++pins)) pl σ' H' s'):
   Inv (X.compF scope N F s.heap.objs.size s H [it] (X.pn++pins)) [] (List.replicate N.length none++A5q js σ) H' s':=by
 obtain⟨m,hn,_⟩:=J.loc
 refine⟨J.ok,J.os,J.bare,J.base,⟨m,hn,fun i x v e1 e2 e3=>B5j S I (fun x c v z q=>?_) i x v e1 e2⟩,J.cell,J.free,J.freeC,fun p hp=>J.pin p (by
   have hp:p∈(X.pn++pins)++ []:=hp
   rw[List.append_nil] at hp
   exact List.mem_append_left _ hp),J.hok,G0g S σ⟩
 obtain⟨o,e,d⟩:=q
 have ne:c ∉ [it]:=fun w=>hf.2.2.2.2.1 x c z (by simpa using w)
 obtain⟨sl,q⟩:=J.base.any e (I.freeC x c z) ne
 exact⟨_,q,d⟩
theorem C8j{elt target iter c:Expr}{scope:Scope}{pos:Pos}{N F:List Str}{js:List Nat}{wi:TI}{g:TG}{tc:TT}{te:TE}(S:D9 N F js scope X.N X.env)(hd:A0q X)(hi:PIH X target iter wi)(hex:X.ex=[])
   (hg:∀C s₀ H₀ ex pn,A0q (X.compF scope N F C s₀ H₀ ex pn) ->PG (X.compF scope N F C s₀ H₀ ex pn) target g)
   (hc:∀C s₀ H₀ ex pn,A0q (X.compF scope N F C s₀ H₀ ex pn) ->PT (X.compF scope N F C s₀ H₀ ex pn) c tc)
   (he:∀C s₀ H₀ ex pn,A0q (X.compF scope N F C s₀ H₀ ex pn) ->PE (X.compF scope N F C s₀ H₀ ex pn) elt te)
   {pins:List (Addr×Obj)} {s:Shared} {σ:St} {H:Hp} {Q:VK} {RR:Value ->Env ->Result ->Shared ->Prop} (I:Inv X pins σ H s) (h:(B1k N.length js wi g tc te) σ H Q)
   (hRR:∀(D C:Addr) (s6:Shared) (H5:Hp) (mm:Str ->Option Value),Inv X pins σ H5 s6 ->s6.heap.Ns C mm ->A4s X pins H5 C ->Q (.ref D) H5 ->RR (.ref D) (compEnvC scope (A2d F X.env) C X.env) (.ok .next) s6):
   wpAny (model X.prog X.w) X.A (eval iter X.env) (fun v s1=>wpAny (model X.prog X.w) X.A (pyIter v) (fun itv s2=>wpAny (model X.prog X.w) X.A (newList []) (fun acc s3=>wpAny (model X.prog X.w) X.A (newFunctionEnv scope X.env.globals (A2d F X.env) [] X.env.qual none .none (some X.env)) (fun cenv s4=>
     codeAny (model X.prog X.w) X.A (.compStart (.ListComp elt [⟨target,iter,[c],0⟩] scope pos) 0 itv acc {cenv with scope:=relabel scope X.env}) (RR acc {cenv with scope:=relabel scope X.env}) s4) X.xe s3) X.xe s2) X.xe s1) X.xe s:=by
 refine thn (hi pins s σ H _ I h) fun v s1 h1=>thn h1 fun itv s2 h2=>?_
 obtain⟨it,tn,J,H2,rfl,I2,T,st2,f2,R⟩:=h2
 obtain⟨oi,ei,di⟩:=T.obj _ _ st2
 have hf2:=I2.hok.fresh (Nat.le_refl _)
 refine wpAny_newObj_type ?_
 have I3:Inv X pins σ (upd H2 s2.heap.objs.size (.lst [])) {s2 with heap:=s2.heap.push {cls:= .type "list",dict:=none,data:= .seq ([]:List Value).toArray}}:=Inv.lnew (t':=s2.toks) I2 .nil (Nat.zero_le _)
 refine wpAny_newFunctionEnv S.cell (by intro y hy;simp at hy) (fun h4 hns hsb=>?_) S.kind
 dsimp only at hns hsb ⊢
 generalize hG:s2.heap.push {cls:= .type "list",dict:=none,data:= .seq ([]:List Value).toArray}=G at I3 hns hsb ⊢
 generalize hD:s2.heap.objs.size=D at I3 hf2
 have nD:it≠D:=by rw[<-hD];exact Nat.ne_of_lt (Heap.lt_size ei)
 have eiG:G.get? it=some oi:=by rw[<-hG];exact Heap.get?_push_of_some _ ei
 have kp:∀b o,G.get? b=some o ->h4.get? b=some o:=fun b o e=>hsb.extBut b o (Nat.ne_of_lt (Heap.lt_size e)) (Heap.get?_push_of_some _ e)
 have f3:A4s X pins (upd H2 D (.lst [])) it:=⟨by rw[C9 nD];exact f2.1,f2.2⟩
 have nb:X.base.get? it=none:=by
   cases q:X.base.get? it with
   |none=>rfl
   | some o=>
     have:=(I.ok.bs it o q).1
     rcases f2.2.2.2.1 with z|z
     . rw[hex] at z;simp at z
     . exact absurd (Nat.lt_of_lt_of_le (Heap.lt_size this) z) (Nat.lt_irrefl _)
 have hns':h4.Ns G.objs.size (fun _=>none):=by
   obtain⟨o,es,ep,q1,q2,q3,q4⟩:=hns
   exact⟨o,es,ep,q1,q2,q3,fun x=>by rw[q4];rfl⟩
 have I4:=D7y (tk:=s2.toks+([]:List (Str×Value)).length) S I3 f3 ⟨oi,eiG⟩ nb hns' kp
 have hdc:A0q (X.compF scope N F G.objs.size {s2 with heap:=G} (upd H2 D (.lst [])) [it] (X.pn++pins)):=by
   rcases hd with z|⟨x,o,u,vs,z,e,d,n⟩
   . exact .inl z
   . refine .inr ⟨x,o,u,vs,z,?_,d,n⟩
     have q:=I2.base.frzs x o u e
     show upd H2 D (.lst []) x=_
     rw[C9 fun w=>by rw[w,hf2] at q;cases q]
     exact q
 obtain⟨m,W,w0,turn⟩:=R D hf2
 have gg:=hg _ _ _ _ _ hdc
 have cc:=hc _ _ _ _ _ hdc
 have ee:=he _ _ _ _ _ hdc
 have fpc:∀{H':Hp} {σ':St} {s':Shared} {pl:List (Addr×Obj)},Inv (X.compF scope N F G.objs.size {s2 with heap:=G} (upd H2 D (.lst [])) [it] (X.pn++pins)) pl σ' H' s' ->H' it=none ->(∀p∈pl,p.1≠it) ->A4s (X.compF scope N F G.objs.size {s2 with heap:=G} (upd H2 D (.lst [])) [it] (X.pn++pins)) pl H' it:=by
   intro H' σ' s' pl J' hn hp
   refine⟨hn,Nat.ne_of_lt (Heap.lt_size eiG),?_,.inl (List.mem_singleton.mpr rfl),(fun x c z=>f2.2.2.2.2.1 x c (S.sub x c z)),fun p hpp=>?_⟩
   . intro z
     rcases List.mem_cons.mp (I.stkSub it z) with z|z
     . exact f2.2.1 z
     . exact f2.2.2.1 z
   . rcases List.mem_append.mp hpp with z|z
     . exact f2.2.2.2.2.2 p z
     . exact hp p z
 have loop:codeAny (model X.prog X.w) X.A (.compLoop (.ListComp elt [⟨target,iter,[c],0⟩] scope pos) 0 (.ref it) (.ref D) (compEnvC scope (A2d F X.env) G.objs.size X.env))
     (RR (.ref D) (compEnvC scope (A2d F X.env) G.objs.size X.env))
     {s2 with heap:=h4,toks:=s2.toks+([]:List (Str×Value)).length}:=by
   refine kct_loop (fun k s'=>∃i ys H',k=m+1-i/\Inv (X.compF scope N F G.objs.size {s2 with heap:=G} (upd H2 D (.lst [])) [it] (X.pn++pins)) [] (List.replicate N.length none++A5q js σ) H' s'/\tn i s'.heap/\H' it=none/\W i ys H') ?_ (m+1)
     ⟨0,[],_,rfl,I4,T.keep _ _ _ st2 fun o e=>kp it o (by rw[<-hG];exact Heap.get?_push_of_some _ e),f3.1,w0⟩
   rintro k s5 ⟨i,ys,H5,rfl,I5,st5,n5,w5⟩
   obtain⟨hi5,hD5,w5⟩:=turn i ys H5 w5
   rcases w5 with⟨stop,q⟩|⟨lt5,go,step⟩
   . refine wpAny_mono (T.done (X.compF scope N F G.objs.size {s2 with heap:=G} (upd H2 D (.lst [])) [it] (X.pn++pins)) rfl rfl rfl hdc i [] s5 _ H5 (fun _ _=>False) I5 (fpc I5 n5 (by simp)) st5 stop) (fun r s6 z=>?_) (fun _ _ z=>z.elim)
     obtain⟨rfl,I6⟩:=z
     obtain⟨mm,hn6,_⟩:=I6.loc
     have B6:=I6.base
     have J6:Inv X pins σ H5 s6:=by
       refine I3.call' (ch:=[it]) I6.os ⟨B6.keep,B6.slot,B6.free,B6.there,B6.tups,B6.frzs,B6.tbls⟩ I6.hok I6.bare (fun b hb=>?_)
       have e:b=it:=by simpa using hb
       subst e
       exact⟨f2.2.2.2.1,f2.2.1,f2.2.2.2.2.1,f2.2.2.2.2.2⟩
     have szG:X.s₀.heap.objs.size<=G.objs.size:=I3.sz
     refine hRR D G.objs.size s6 H5 mm J6 hn6 ⟨I6.free,?_,?_,.inr szG,?_,?_⟩ q
     . exact Nat.ne_of_gt I3.lt
     . intro z
       obtain⟨_,o,ho,_⟩:=I3.funs.mem z
       exact Nat.lt_irrefl _ (Heap.lt_size ho)
     . rintro x c z rfl
       obtain⟨v',o,ho,_⟩:=I3.cell x _ z
       exact Nat.lt_irrefl _ (Heap.lt_size ho)
     . rintro p hp z
       have zz:=(I3.pin p hp).1
       rw[z] at zz
       exact Nat.lt_irrefl _ (Heap.lt_size zz)
   . refine wpAny_mono (T.item (X.compF scope N F G.objs.size {s2 with heap:=G} (upd H2 D (.lst [])) [it] (X.pn++pins)) rfl rfl rfl hdc i [] s5 _ H5 (fun _ _=>False) I5 (fpc I5 n5 (by simp)) st5 go) (fun r s6 z=>?_) (fun _ _ z=>z.elim)
     obtain⟨u,rfl,z⟩:=z
     refine wpAny_mono z (fun _ s7 z=>?_) (fun _ _ z=>z.elim)
     obtain⟨x,I7,rx,yl,st7⟩:=z
     obtain⟨o7,e7,d7⟩:=T.obj _ _ st7
     obtain⟨p0,p1,p2,_⟩:=fpc I7 n5 (by simp)
     have I7':Inv (X.compF scope N F G.objs.size {s2 with heap:=G} (upd H2 D (.lst [])) [it] (X.pn++pins)) [(it,o7)] (List.replicate N.length none++A5q js σ) H5 s7:=I7.pins_of fun p hp=>by
       have e:p=(it,o7):=by simpa using hp
       subst e
       exact⟨e7,p0,p1,p2,d7⟩
     have back:∀{i':Nat} {ys':List V} {H':Hp} {σ':St} {s':Shared},i'=i+1 ->Inv (X.compF scope N F G.objs.size {s2 with heap:=G} (upd H2 D (.lst [])) [it] (X.pn++pins)) [(it,o7)] σ' H' s' ->W i' ys' H' ->
         ∃k',k'<m+1-i/\∃i ys H',k'=m+1-i/\Inv (X.compF scope N F G.objs.size {s2 with heap:=G} (upd H2 D (.lst [])) [it] (X.pn++pins)) [] (List.replicate N.length none++A5q js σ) H' s'/\tn i s'.heap/\H' it=none/\W i ys H':=by
       rintro i' ys' H' σ' s' rfl J' w'
       obtain⟨q1,q2,_⟩:=J'.pin (it,o7) (List.mem_append_right _ (List.mem_singleton.mpr rfl))
       refine⟨m+1-(i+1),by omega,i+1,ys',H',rfl,D7h S I3 f3 J',T.keep _ _ _ st7 fun o z=>?_,q2,w'⟩
       rw[e7] at z
       cases z
       exact q1
     refine wpAny_mono (gg [(it,o7)] s7 _ H5 x u _ I7' rx (step x H5 yl)) (fun _ s8 z=>?_) (fun _ _ z=>z.elim)
     obtain⟨σ8,H8,I8,q8⟩:=z
     refine wpAny_mono (cc [(it,o7)] s8 σ8 H8 _ I8 q8) (fun b s9 z=>?_) (fun _ _ z=>z.elim)
     obtain⟨H9,I9,q9⟩:=z
     cases b with
     | false=>
       simp only[Bool.false_eq_true,if_false] at q9 ⊢
       exact back rfl I9 q9
     | true=>
       simp only[if_true] at q9 ⊢
       refine wpAny_mono (ee [(it,o7)] s9 σ8 H9 _ I9 q9) (fun y s10 z=>?_) (fun _ _ z=>z.elim)
       obtain⟨yv,H10,I10,ry,hD10,hz10,w10⟩:=z
       refine wpAny_mono (A0h (X:=X.compF scope N F G.objs.size {s2 with heap:=G} (upd H2 D (.lst [])) [it] (X.pn++pins)) [(it,o7)] s10 σ8 H10 (.ref D) [yv] (.ref D) [y] (fun _ H11=>W (i+1) (ys++ [yv]) H11) I10 rfl (.cons ry .nil) ⟨D,ys,yv,rfl,rfl,hD10,hz10,w10⟩) (fun _ s11 z=>?_) (fun _ _ z=>z.elim)
       obtain⟨_,H11,I11,_,w11⟩:=z
       exact back rfl I11 w11
 exact codeAny_compStart_list loop (T.self _ 0 _ _ _ (T.keep _ _ _ st2 fun o e=>kp it o (by rw[<-hG];exact Heap.get?_push_of_some _ e)) loop)
theorem C7p{elt target iter:Expr}{c:Expr}{tc:TT}{pos:Pos}{wi:TI}{g:TG}{te:TE}(S:D9 N F js scope X.N X.env)(hd:A0q X)(hi:PIH X target iter wi)(hex:X.ex=[])
   (hg:∀C s₀ H₀ ex pn,A0q (X.compF scope N F C s₀ H₀ ex pn) ->PG (X.compF scope N F C s₀ H₀ ex pn) target g)
   (hc:∀C s₀ H₀ ex pn,A0q (X.compF scope N F C s₀ H₀ ex pn) ->PT (X.compF scope N F C s₀ H₀ ex pn) c tc)
   (he:∀C s₀ H₀ ex pn,A0q (X.compF scope N F C s₀ H₀ ex pn) ->PE (X.compF scope N F C s₀ H₀ ex pn) elt te)
   (hs:∀x,foldedSetIterable iter X.env x=pure x:=by intro _;rfl):PE X (.ListComp elt [⟨target,iter,[c],0⟩] scope pos) (B1k N.length js wi g tc te):=by
 intro pins s σ H Q I h
 rw[eval_ListComp]
 refine wpAny_comprehension_free (use:=none) rfl hs S.clos S.kind S.loc (C8j S hd hi hex hg hc he I h (RR:=fun acc ce r s'=>compPost (model X.prog X.w) X.A X.xe none (EP X pins σ Q) acc ce.locals r s') ?_)
 intro D C s6 H5 mm I6 n6 f6 q
 exact⟨mm,n6,fun h' sb=>⟨.ref D,H5,V0h I6 f6 sb,rfl,q⟩⟩
theorem Y2e{i:Nat}{y:Str}{py spos:Pos}{elt target iter:Expr}{c:Expr}{tc:TT}{pos:Pos}{wi:TI}{g:TG}{te:TE}(S:D9 N F js scope X.N X.env)(hd:A0q X)(hi:PIH X target iter wi)(hex:X.ex=[])
   (hg:∀C s₀ H₀ ex pn,A0q (X.compF scope N F C s₀ H₀ ex pn) ->PG (X.compF scope N F C s₀ H₀ ex pn) target g)
   (hc:∀C s₀ H₀ ex pn,A0q (X.compF scope N F C s₀ H₀ ex pn) ->PT (X.compF scope N F C s₀ H₀ ex pn) c tc)
   (he:∀C s₀ H₀ ex pn,A0q (X.compF scope N F C s₀ H₀ ex pn) ->PE (X.compF scope N F C s₀ H₀ ex pn) elt te) (hN:X.N.Nodup) (hi':X.N[i]?=some y) (hy:Loc X.env.scope y)
   (hf:X.fn y=true\/X.env.scope.names.lookup y=some .local:=by first|exact .inl rfl|exact .inr rfl|assumption)
   (hsw:swapsWith (.ListComp elt [⟨target,iter,[c],0⟩] scope pos) (some (.Name y py)) spos.line X.env=pure true:=by rfl)
   (hs:∀x,foldedSetIterable iter X.env x=pure x:=by intro _;rfl):PS X (.Assign [.Name y py] (.ListComp elt [⟨target,iter,[c],0⟩] scope pos) spos) (tAsg (B1k N.length js wi g tc te) (D7d i)):=by
 intro pins s σ H D I h
 rw[exec_Assign_Name_used _ _ _ _ hsw]
 refine wpAny_bind (wpAny_standAt (wpAny_bind ?_))
 show wpAny _ X.A (do let _<-comprehension (.ListComp elt [⟨target,iter,[c],0⟩] scope pos) scope X.env _ (newList []) false (eval iter X.env) (some (assign (.Name y py) X.env))) _ _ s
 refine wpAny_bind (wpAny_mono (wpAny_comprehension_free (Q:=fun _ s'=>SP X pins D .next s') rfl hs S.clos S.kind S.loc (C8j S hd hi hex hg hc he I h (RR:=fun acc ce r s'=>compPost (model X.prog X.w) X.A X.xe (some (assign (.Name y py) X.env)) (fun _ s'=>SP X pins D .next s') acc ce.locals r s') ?_))
   (fun _ s' hq=>wpAny_pure (wpAny_pure hq)) fun _ _ e=>e)
 intro D' C s6 H5 mm I6 n6 f6 q
 refine wpAny_assign_Name (D8a (v:= .ref D') I6 hN hi' hy rfl (fun s7 I7 st=>?_) hf)
 obtain⟨a,sb,ha⟩:=st
 have na:C≠a:=by
   rcases ha with rfl|ha
   . exact f6.2.1
   . exact(f6.2.2.2.2.1 y a ha).symm
 exact⟨mm,n6.sameBut sb na,fun h' sb'=>⟨_,_,V0h I7 f6 sb',q⟩⟩
end
structure Y3z(N F:List Str)(sc:Scope):Prop where
 kind:sc.kind= .function
 cell:∀y∈sc.names,y.2≠ .cell
 loc:∀y∈sc.names,y.2= .local ->sc.names.lookup y.1=some .local
 fr:∀y∈sc.names,y.2= .free ->y.1∈F
 nd:(N++F).Nodup
theorem B6y{sc:Scope}{env:Env}{F:List Str}(cell:∀y∈sc.names,y.2≠ .cell)(fr:∀y∈sc.names,y.2= .free ->y.1∈F):∀y∈(relabel sc env).names,y.2= .cell\/y.2= .free ->y.1∈F:=by
 intro y hy h
 obtain⟨⟨n,k⟩,hm,e⟩:=List.mem_map.mp hy
 dsimp only at e
 split at e
 . rename_i hc
   subst e
   simp only[Bool.and_eq_true] at hc
   exact fr (n,k) hm (by simpa using hc.1.1)
 subst e
 rcases h with h|h
 . exact absurd h (cell (n,k) hm)
 exact fr (n,k) hm h
theorem D9.of1{N:List Str}{x:Str}{j:Nat}{sc:Scope}{XN:List Str}{env:Env}(S:Y3z N [x] sc)(clos:closureFor sc env=pure (A2d [x] env))(hj:XN[j]?=some x)(hc:∃c,env.cells.lookup x=some c)(hk:env.kindOf x=some .cell)
   (hr:(relabel sc env).names.lookup x=some .cell):D9 N [x] [j] sc XN env:=
 ⟨S.kind,S.cell,S.loc,S.nd,clos,B6y S.cell S.fr,fun k y h=>match k,h with
   |0,h=>by cases h;exact⟨⟨j,rfl,hj⟩,hc,hk,hr⟩
   |k+1,h=>by simp at h,rfl⟩
theorem D9.of2{N:List Str}{x y:Str}{j k:Nat}{sc:Scope}{XN:List Str}{env:Env}(S:Y3z N [x,y] sc)(clos:closureFor sc env=pure (A2d [x,y] env))(hj:XN[j]?=some x)(hc:∃c,env.cells.lookup x=some c)(hk:env.kindOf x=some .cell)
   (hr:(relabel sc env).names.lookup x=some .cell) (hj':XN[k]?=some y) (hc':∃c,env.cells.lookup y=some c) (hk':env.kindOf y=some .cell) (hr':(relabel sc env).names.lookup y=some .cell):D9 N [x,y] [j,k] sc XN env:=
 ⟨S.kind,S.cell,S.loc,S.nd,clos,B6y S.cell S.fr,fun i z h=>match i,h with
   |0,h=>by cases h;exact⟨⟨j,rfl,hj⟩,hc,hk,hr⟩
   |1,h=>by cases h;exact⟨⟨k,rfl,hj'⟩,hc',hk',hr'⟩
   |i+2,h=>by simp at h,rfl⟩
theorem A1h(z:Str):∀zs:List Str,inV (.str z) (zs.map V.str)=zs.contains z
 | []=>rfl
 | y::zs=>by
   show(eqV (.str y) (.str z)||inV (.str z) (zs.map V.str))=_
   rw[A1h z zs,List.contains_cons]
   show((y==z)||_)=_
   rw[BEq.comm]
theorem A0g:∀zs:List Str,(zs.map V.str).all B9k=true
 | []=>rfl
 |_::zs=>A0g zs
theorem C7j{K:Frag}{H:Hp}{σ σf:L2.St}{a:Addr}{zs:List Str}{f:Str ->Bool}{tc:TT}{te:TE}{Q:VK}(hl:∀H,SqT K H a (zs.map V.str))(hz:zs.length<=100)
   (ht:∀(z:Str) (H':Hp) (Qb:Bool ->Hp ->Prop),B7 H H' ->Qb (f z) H' ->tc (some (.str z)::σf) H' Qb) (he:∀(z:Str) (H':Hp) (Qv:VK),Qv (.str z) H' ->te (some (.str z)::σf) H' Qv)
   (k:∀D H',B7 H H' ->H D=none ->H' D=some (.lst ((zs.filter f).map V.str)) ->Q (.ref D) H') {js:List Nat} (hj:A5q js σ=σf):B1k 1 js (iTup K (tC (.ref a))) (D7d 0) tc te σ H Q:=by
 refine⟨a,rfl,⟨_,hl H⟩,fun D hD=>⟨zs.length,fun i ys H2=>i<=zs.length/\ys=((zs.take i).filter f).map V.str/\H2=upd H D (.lst ys),⟨Nat.zero_le _,rfl,rfl⟩,?_⟩⟩
 rintro i ys H2 ⟨hi,rfl,rfl⟩
 refine⟨hi,A7,?_⟩
 have sm:B7 H (upd H D (.lst (((zs.take i).filter f).map V.str))):=B7.upd hD
 have lz:(((zs.take i).filter f).map V.str).length<=100:=by
   rw[List.length_map]
   exact Nat.le_trans (List.length_filter_le _ _) (by rw[List.length_take];omega)
 by_cases hlt:i<zs.length
 . refine .inr ⟨hlt,⟨_,V.str zs[i],hl _,by simp[hlt]⟩,fun x H3 y=>?_⟩
   obtain⟨rfl,y⟩:=y
   have ex:x=V.str zs[i]:=by
     have:=y _ (hl _)
     simp[hlt] at this
     exact this.symm
   subst ex
   rw[hj]
   show tc (some (.str zs[i])::σf) _ _
   refine ht _ _ _ sm ?_
   have et:(zs.take (i+1)).filter f=(zs.take i).filter f++(if f zs[i] then [zs[i]] else []):=by
     rw[List.take_succ_eq_append_getElem hlt,List.filter_append]
     congr 1
     cases hb:f zs[i]<;>simp[hb]
   cases hb:f zs[i] with
   | false=>
     refine U8 ⟨hlt,?_,rfl⟩
     rw[et,hb];simp
   | true=>
     refine Z8 (he _ _ _ ⟨A7,Nat.lt_of_le_of_lt lz (Y0 (by decide)),hlt,?_,?_⟩)
     . rw[et,hb];simp
     . rw[V0f]
 have e:i=zs.length:=by omega
 subst e
 refine .inl ⟨⟨_,hl _,by simp⟩,k D _ sm hD ?_⟩
 rw[List.take_length]
 exact A7
end L2
namespace L2
open PySem
section
variable{prog:Program}{w:World}{A:Around}{E:Value ->Shared ->Prop}{h:Heap}{g:Array GenState}{d:Drawn}{t:Nat}{os:OsState}
variable{nm q:Str}{C N:Addr}{bs bm bmB:List Value}{hdct:Bool}{sn:List Str}{sub:List Value}{ab:Bool}{col:Option Bool}{dd:Option Addr}{k0 k1 k2 k3 k5:Option Value}{B newId initId:String}
theorem B5z(F:ExcBaseFacts B newId initId bmB)(T:OwnTail h bmB bm){mN:Str ->Option Value}{rest:List Value}{fI:Addr}{oI:Obj}{Q:Fin ->Shared ->Prop}
   (hC:h.get? C=some (excClassObj nm q C N bs bm hdct sn sub ab col dd k0 k1 k2 k3 k5 newId)) (hn:h.Ns N mN) (hi:mN "__init__"=some (.ref fI))
   (hfI:h.get? fI=some oI) (hfc:oI.cls= .type "function")
   (hq:∀h' e,Heap.MadeExcOf h h' e (.ref C) rest ->
     wpAny (model prog w) A (call (.ref fI) (.ref e::rest)) (fun r s'=>r= .none/\Q (.done (.ret (.ref e))) s') E ⟨h',g,d,t,os⟩) (hrest:rest.length<=sizeLine):
   wpAny (model prog w) A (Builtin.«type.__call__» ⟨.ref C :: rest, []⟩) Q E ⟨h, g, d, t, os⟩ := by
 repeat (first|with_reducible refine wpAny_loadPart_at hC ?_|with_reducible refine wpAny_madeBy_exc hC ?_|wp_step)
 refine codeAny_call_builtin_code (Code.quiet_builtin _ F.quiet) (wpAny_check_new_subT F T hC ?_)
 refine codeAny_exc_new_subT F T hC ?_ hrest
 show wpAny _ _ _ _ _ _
 have hC₁:=Heap.get?_push_of_some {cls:= .ref C,data:= .fields #[.ref h.objs.size,.none,.none,.none,.bool false,.none]}
   (Heap.get?_push_of_some {cls:= .type "tuple",data:= .seq rest.toArray} hC)
 have hfI₁:=Heap.get?_push_of_some {cls:= .ref C,data:= .fields #[.ref h.objs.size,.none,.none,.none,.bool false,.none]}
   (Heap.get?_push_of_some {cls:= .type "tuple",data:= .seq rest.toArray} hfI)
 have hn₁:((h.push {cls:= .type "tuple",data:= .seq rest.toArray}).push {cls:= .ref C,data:= .fields #[.ref h.objs.size,.none,.none,.none,.bool false,.none]}).Ns N mN:=
   let⟨o,es,ep,e,r⟩:=hn;⟨o,es,ep,Heap.get?_push_of_some _ (Heap.get?_push_of_some _ e),r⟩
 have hget:((h.push {cls:= .type "tuple",data:= .seq rest.toArray}).push
     {cls:= .ref C,data:= .fields #[.ref h.objs.size,.none,.none,.none,.bool false,.none]}).get? (h.objs.size+1)=some
     {cls:= .ref C,data:= .fields #[.ref h.objs.size,.none,.none,.none,.bool false,.none]}:=by heap_get
 have hcC:(Value.ref C::bm).contains (.ref C)=true:=by simp
 have T₁:=T.keeps (h':=(h.push {cls:= .type "tuple",data:= .seq rest.toArray}).push {cls:= .ref C,data:= .fields #[.ref h.objs.size,.none,.none,.none,.bool false,.none]})
   fun b o e=>Heap.get?_push_of_some _ (Heap.get?_push_of_some _ e)
 unfold isInstance
 repeat (first|with_reducible refine wpAny_loadPart_at hget ?_|(with_reducible refine wpAny_isSubtype_exc hC₁ ?_;rw[hcC])|wp_step)
 show wpAny _ _ (typeLookup (.ref C) _) _ _ _
 refine wpAny_typeLookup_tail hC₁ hn₁ T₁ F.mroIs F.init.lookup ?_
 rw[hi]
 refine wpAny_holding (wpAny_bind ?_)
 unfold bindSpecial
 refine wpAny_bind (wpAny_typeOf (T:="function") ⟨_,hfI₁,hfc⟩ ?_)
 rw[if_pos (by decide)]
 refine wpAny_pure (wpAny_bind (wpAny_mono (hq _ (h.objs.size+1) ⟨fun b o hb=>Heap.get?_push_of_some _ (Heap.get?_push_of_some _ hb),Heap.get?_none_of_le (Nat.le_succ _),h.objs.size,hget,Heap.get?_none_of_le (Nat.le_refl _),?_⟩) (fun r s' hr=>?_) fun _ _ x=>x))
 . exact Heap.get?_push_of_some _ (Heap.get?_push_at rfl rfl)
 obtain⟨rfl,hQ⟩:=hr
 wp_walk
 exact hQ
theorem C8w(F:ExcBaseFacts B newId initId bmB)(T:OwnTail h bmB bm){mN:Str ->Option Value}{rest:List Value}{fI:Addr}{oI:Obj}{Q:Value ->Shared ->Prop}
   (hC:h.get? C=some (excClassObj nm q C N bs bm hdct sn sub ab col dd k0 k1 k2 k3 k5 newId)) (hn:h.Ns N mN) (hi:mN "__init__"=some (.ref fI))
   (hfI:h.get? fI=some oI) (hfc:oI.cls= .type "function")
   (hq:∀h' e,Heap.MadeExcOf h h' e (.ref C) rest ->
     wpAny (model prog w) (A.under (.builtin "type.__call__" ⟨.ref C::rest,[]⟩)) (call (.ref fI) (.ref e::rest)) (fun r s'=>r= .none/\Q (.ref e) s') E ⟨h',g,d,t,os⟩) (hrest:rest.length<=sizeLine):
   wpAny (model prog w) A (call (.ref C) rest) Q E ⟨h,g,d,t,os⟩:=by
 have f1:=tc_lookup
 have f2:=tc_bind (.ref C)
 have hT:(⟨h,g,d,t,os⟩:Shared).TypeIs (.ref C) "type":=⟨_,hC,rfl⟩
 refine wpAny_call (codeAny_of_tree ?_)
 show wpAny _ _ (callAny (.ref C) _) _ _ _
 repeat (any_goals (first|assumption|with_reducible refine wpAny_loadPart_at hC ?_|wp_step))
 refine⟨rfl,?_⟩
 refine codeAny_call_builtin_at (Code.quiet_builtin _ (by decide+kernel)) entry_typeCall (wpAny_check_type_call_sub hC (B5z (hrest:=hrest) F T hC hn hi hfI hfc fun h' e hm=>?_))
 exact hq h' e hm
end
section
variable{M:Model}{prog:Program}{w:World}{A:Around}{E:Value ->Shared ->Prop}{s:Shared}{env:Env}
variable{nm q:Str}{C N:Addr}{bs bm bmB:List Value}{hdct:Bool}{sn:List Str}{sub:List Value}{ab:Bool}{col:Option Bool}{dd:Option Addr}{k0 k1 k2 k3 k5:Option Value}{B newId initId:String}
theorem B1u{x:Sem Value}{Q:Flow ->Shared ->Prop}(hbase:bm.contains (.type "BaseException")=true)(hh:A.handled=none)
   (h:wpAny M A x (fun v s₁=>∃e t de,v= .ref e/\s₁.heap.get? C=some (excClassObj nm q C N bs bm hdct sn sub ab col dd k0 k1 k2 k3 k5 newId)/\
     s₁.heap.get? e=some {cls:= .ref C,dict:=de,data:= .fields #[.ref t,.none,.none,.none,.bool false,.none]}/\E (.ref e) s₁) E s):
   wpAny M A (raiseStmt env (some x) none) Q E s:=by
 have hcB:(Value.ref C::bm).contains (.type "BaseException")=true:=by rw[List.contains_cons,hbase,Bool.or_true]
 unfold raiseStmt
 refine wpAny_bind (wpAny_mono h (fun v s₁ h₁=>?_) fun _ _ x=>x)
 obtain⟨e,t,de,rfl,hC,he,hE⟩:=h₁
 obtain⟨hp,g,d,tk,os⟩:=s₁
 repeat (first|with_reducible refine wpAny_loadPart_at he ?_|with_reducible refine wpAny_loadPart_at hC ?_|(with_reducible refine wpAny_isSubtype_exc hC ?_;rw[hcB])|wp_step)
 exact wpAny_raiseNew_none hh hE
theorem C0p(F:ExcBaseFacts B newId initId bmB){mN:Str ->Option Value}{x:Str}{np cpos pos:Pos}{args:List Expr}{Q:Flow ->Shared ->Prop}{fI:Addr}{oI:Obj}
   (hbase:bm.contains (.type "BaseException")=true) (hh:A.handled=none) (hplain:(backTo cpos (starEach args env)).any (·.1)=false) (hi:mN "__init__"=some (.ref fI)) (hfc:oI.cls= .type "function")
   (h:wpAny (model prog w) A (eval (.Name x np) env) (fun f s₁=>f= .ref C/\wpAny (model prog w) A (evalArgs (.ref C) true (backTo cpos (starEach args env)) [])
     (fun a s₂=>a.kw=[]/\a.pos.length<=sizeLine/\s₂.heap.get? C=some (excClassObj nm q C N bs bm hdct sn sub ab col dd k0 k1 k2 k3 k5 newId)/\s₂.heap.Ns N mN/\OwnTail s₂.heap bmB bm/\s₂.heap.get? fI=some oI/\
       ∀ h' e,Heap.MadeExcOf s₂.heap h' e (.ref C) a.pos ->wpAny (model prog w) (A.under (.builtin "type.__call__" ⟨.ref C::a.pos,[]⟩)) (call (.ref fI) (.ref e::a.pos))
         (fun r s₃=>r= .none/\s₃.heap.get? C=some (excClassObj nm q C N bs bm hdct sn sub ab col dd k0 k1 k2 k3 k5 newId)/\(∃t de,s₃.heap.get? e=some {cls:= .ref C,dict:=de,data:= .fields #[.ref t,.none,.none,.none,.bool false,.none]})/\E (.ref e) s₃) E {s₂ with heap:=h'}) E s₁) E s):
   wpAny (model prog w) A (exec (.Raise (some (.Call (.Name x np) args [] cpos)) none pos) env) Q E s:=by
 rw[arm_exec_Raise]
 first
   |refine wpAny_bind (wpAny_standAt (B1u (C:=C) (nm:=nm) (q:=q) (N:=N) (bs:=bs) (bm:=bm) (hdct:=hdct) (sn:=sn) (sub:=sub) (ab:=ab) (col:=col) (dd:=dd) (k0:=k0) (k1:=k1) (k2:=k2) (k3:=k3) (k5:=k5) (newId:=newId) hbase hh (wpAny_bind (wpAny_mono (wpAny_Call_ofName (wpAny_mono h (fun f s₁ h₁=>?_) fun _ _ x=>x)) (fun v s₃ h₃=>wpAny_bind (wpAny_standAt (wpAny_pure h₃))) fun _ _ x=>x))))
   |(simp only[evalOpt,Option.map];refine wpAny_bind (wpAny_standAt (B1u (C:=C) (nm:=nm) (q:=q) (N:=N) (bs:=bs) (bm:=bm) (hdct:=hdct) (sn:=sn) (sub:=sub) (ab:=ab) (col:=col) (dd:=dd) (k0:=k0) (k1:=k1) (k2:=k2) (k3:=k3) (k5:=k5) (newId:=newId) hbase hh (wpAny_bind (wpAny_mono (wpAny_Call_ofName (wpAny_mono h (fun f s₁ h₁=>?_) fun _ _ x=>x)) (fun v s₃ h₃=>wpAny_bind (wpAny_standAt (wpAny_pure h₃))) fun _ _ x=>x)))))
 obtain⟨rfl,h₁⟩:=h₁
 unfold callWith
 refine wpAny_bind (wpAny_holding (wpAny_mono h₁ (fun a s₂ h₂=>wpAny_bind (wpAny_standAt ?_)) fun _ _ x=>x))
 obtain⟨apos,akw⟩:=a
 obtain⟨hkw,hlen,hC,hn,T,hf,h₂⟩:=h₂
 obtain rfl:akw=[]:=hkw
 obtain⟨hp,g,d,tk,os⟩:=s₂
 simp only[hplain]
 refine wpAny_bind (wpAny_keeperOf_exc hC ?_)
 refine wpAny_bind (C8w F T hC hn hi hf hfc (fun h' e hm=>wpAny_mono (h₂ h' e hm) (fun r s₃ z=>⟨z.1,wpAny_bind (wpAny_holding (wpAny_point (wpAny_pure ?_)))⟩) fun _ _ x=>x) hlen)
 obtain⟨_,hC3,⟨t,de,he⟩,hE⟩:=z
 exact⟨e,t,de,rfl,hC3,he,hE⟩
end
end L2
namespace L2
open PySem PySem.Spec PyProof.Rows PySem.W
noncomputable abbrev V0r:List Value:=[.type "ValueError",.type "Exception",.type "BaseException",.type "object"]
structure V4w(K:Frag)(C fI:Addr):Prop where
 cls:∃nm q N bs bm sn sub ab col dd k0 k1 k2 k3 k5,K.lookup C=some (excClassObj nm q C N bs bm true sn sub ab col dd k0 k1 k2 k3 k5 "ValueError.__new__")/\nsOkIn K N=true/\nsIn K N "__init__"=some (some (.ref fI))/\tailIn K V0r bm=true
 fn:∃o,K.lookup fI=some o/\o.cls= .type "function"
 sa:findIn K (.ref C) "__setattr__"=some (some (.builtin "object.__setattr__"))
 ob:mroIn K C (.type "object")=some true
theorem J8e{K:Frag}{h:Heap}{N:Addr}{mg:Str ->Option Value}{n:Str}{v:Value}(X:K.In h)(G:h.Ns N mg)(e:nsIn K N n=some (some v)):mg n=some v:=by
 obtain⟨o,es,ep,ho,hd,_,hf⟩:=G
 unfold nsIn at e
 split at e
 . rename_i c d es' n' sl q
   have:=X _ _ q
   rw[ho] at this
   cases this
   cases hd
   split at e
   . rename_i en he
     cases e
     rw[<-hf]
     unfold nsFind findBy
     rw[<-Array.find?_toList,he]
     rfl
   . split at e<;>cases e
 cases e
theorem C5u{h:Heap}(self:Value):∀{l:List Value},OwnTail h V0r l ->refuseLoop self "__setattr__" l=pure ()
 |_,.base=>PySem.F.store_ValueError.passes self
 |_,.own _ _ _ t=>by rw[refuseLoop_ref];exact C5u self t
section
variable{prog:Program}{w:World}{A:Around}{s:Shared}{K:Frag}{C e fI:Addr}{t:Addr}{R:Result ->Shared ->Prop}{name:Str}{tk:Tok}{v:Value}
theorem Z8x(X:K.In s.heap)(F:V4w K C fI)(he:s.heap.get? e=some (A0s (.ref C) t none .none))(ht:findIn K (.ref C) name=some none)
   (h:∀h' tk' d,(∀b ob,b≠e ->s.heap.get? b=some ob ->h'.get? b=some ob) ->h'.get? e=some (A0s (.ref C) t (some d) .none) ->h'.Ns1 d (fun y=>if y=name then some v else none) ->s.heap.get? d=none ->d≠e ->
     R (.ok (.ret .none)) {s with heap:=h',toks:=tk'}):
   codeAny (model prog w) A (.call (.builtin "object.__setattr__") ⟨[.ref e,.str name tk,v],[]⟩) R s:=by
 have SF:=PySem.F.store_object
 obtain⟨nm,q,N,bs,bm,sn,sub,ab,col,dd,k0,k1,k2,k3,k5,lC,nO,nI,tl⟩:=F.cls
 have hC:=X _ _ lC
 have I:PySem.W.InstAt s.heap e (A0s (.ref C) t none .none) C none:=⟨he,rfl,rfl,trivial⟩
 have hc:clsIn K C=some {name:=nm,bases:=bs,mro:= .ref C::bm,ns:=N,qualname:=q,hasDict:=true,slotNames:=sn,subclasses:=sub,abstract:=ab,collection:=col,hasDel:=false}:=by
   unfold clsIn
   rw[lC]
 have sub':Looks (model prog w) s.heap (isInstance (.ref e) (.type "object")) true:=I.type.andThen (looks_mroIn X F.ob)
 refine codeAny_call_builtin SF.slot.plain SF.entry (@check_slot (model prog w) _ _ s "object.__setattr__" "object" "__setattr__" (.ref e) [.str name tk,v] [] _ SF.kind SF.split sub' (SF.args (.ref e) (.str name tk) v) ?_)
 have hm:Looks (model prog w) s.heap (mroOf (.ref C)) (.ref C::bm):=(looks_clsIn X hc).andThen .now
 have L3:Looks (model prog w) s.heap (Builtin.ObjectAttr.storeTaker? none) none:= .now
 rw[osa_eq,refuse_eq]
 refine wpAny_bind (wpAny_bind (I.type.here (wpAny_bind (hm.here ?_))))
 rw[refuseLoop_ref,C5u _ (tail_of_in X tl)]
 refine wpAny_pure (wpAny_bind (I.type.here (wpAny_bind ((looks_findIn X ht).here (wpAny_bind (L3.here ?_))))))
 dsimp only
 refine wpAny_bind (wpAny_pure (wpAny_bind (wpAny_bind (wpAny_loadPart he (wpAny_bind (PySem.W.Looks.here (PySem.W.looks_clsIn X hc) ?_))))))
 have hx₁:(s.heap.push {cls:= .type "dict",data:= .dict #[]}).get? e=some (A0s (.ref C) t none .none):=Heap.get?_push_of_some _ he
 have hxs:e≠s.heap.objs.size:=Nat.ne_of_lt (Heap.lt_size he)
 show wpAny (model prog w) A.in1 (do
     let d<-alloc {cls:=Value.type "dict",data:=Data.dict #[]}
     update e fun o=>{cls:=o.cls,dict:=some d,data:=o.data,slots:=o.slots}
     pure (some d)) _ _ _
 refine wpAny_bind (wpAny_alloc' ?_)
 refine wpAny_bind (wpAny_update' hx₁ ?_)
 refine wpAny_pure ?_
 have hgd:((s.heap.push {cls:= .type "dict",data:= .dict #[]}).update e fun o=>{cls:=o.cls,dict:=some s.heap.objs.size,data:=o.data,slots:=o.slots}).get? s.heap.objs.size
     =some {cls:= .type "dict",data:= .dict #[]}:=
   (Heap.get?_update_ne _ _ _ _ hxs.symm).trans (Heap.get?_push_at rfl rfl)
 have hnd:((s.heap.push {cls:= .type "dict",data:= .dict #[]}).update e fun o=>{cls:=o.cls,dict:=some s.heap.objs.size,data:=o.data,slots:=o.slots}).Ns s.heap.objs.size (fun _=>none):=
   ⟨_, #[],_,hgd,rfl,fun e he=>absurd he (by simp),fun _=>rfl⟩
 show wpAny _ _ (Builtin.ObjectAttr.storeInDict s.heap.objs.size (.str name tk) name v) _ _ _
 unfold Builtin.ObjectAttr.storeInDict Builtin.ObjectAttr.newKeyGuard
 refine wpAny_bind (wpAny_pure (wpAny_bind (wpAny_nsSet1 (Heap.Ns1.of_empty hnd) fun h' hn' hs=>?_)))
 obtain⟨oD,esD,epD,hoD,hdD,hcD⟩:=hn'.count (Within.cons name v Within.nil)
 refine wpAny_bind (wpAny_lookBehind hoD (by rw[hdD];exact pastItsLine_dict (Nat.le_trans hcD (by rw[List.length_cons,List.length_nil,sizeLine_eq];omega))) ?_)
 have hx':h'.get? e=some (A0s (.ref C) t (some s.heap.objs.size) .none):=(hs.2 e hxs).trans (Heap.get?_update_self _ hx₁ rfl)
 refine wpAny_pure (h h' _ s.heap.objs.size (fun b ob hbx hb=>?_) hx' hn' (Heap.get?_none_of_le (Nat.le_refl _)) hxs.symm)
 exact(hs.2 b (Nat.ne_of_lt (Heap.lt_size hb))).trans ((Heap.get?_update_ne _ _ _ _ hbx).trans (Heap.get?_push_of_some _ hb))
end
noncomputable def A5t (e C t:Addr) (d:Option Addr):Heap ->Prop:=fun h=>h.get? e=some (A0s (.ref C) t d .none)
theorem Y1p{P:Program}{w:World}{H:Hp}{h:Heap}{e C t:Addr}{d:Option Addr}(q:h.get? e=some (A0s (.ref C) t d .none)):Y9 P w H h e (.ext (A5t e C t d)):=
 ⟨q,⟨_,q⟩,fun _ _ z k=>k _ z⟩
section
variable{X:Cx}{pins:List (Addr×Obj)}{σ:St}{H:Hp}{s:Shared}
theorem Inv.trackO{a:Addr}{ho:HO}(I:Inv X pins σ H s)(n:Nw X pins H a)(ok:Y9 X.prog X.w (upd H a ho) s.heap a ho):Inv X pins σ (upd H a ho) s:=by
 have ne:∀b u,H b=some u ->b≠a:=fun b u z q=>by rw[q,n.un] at z;cases z
 have up:∀b,b≠a ->upd H a ho b=H b:=fun b hb=>C9 hb
 refine⟨I.ok,I.os,I.bare,⟨I.base.keep,I.base.slot,fun b u z m hx=>?_,I.base.there,fun b xs z=>?_,fun b u v z=>?_,fun b ps z=>?_⟩,I.loc,I.cell,?_,fun x c z=>?_,fun p hp=>?_,fun b u z=>?_,I.len⟩
 . rw[up b fun q=>by rw[q,n.old] at z;cases z]
   exact I.base.free b u z m hx
 . have:=I.base.tups b xs z
   rw[up b (ne b _ this)];exact this
 . have:=I.base.frzs b u v z
   rw[up b (ne b _ this)];exact this
 . obtain⟨more,this⟩:=I.base.tbls b ps z
   exact⟨more,by rw[up b (ne b _ this)];exact this⟩
 . rw[up _ (Ne.symm n.loc)];exact I.free
 . rw[up _ (n.cell x c z)];exact I.freeC x c z
 . obtain⟨q1,q2,q3⟩:=I.pin p hp
   exact⟨q1,by rw[up _ (n.pin p hp)];exact q2,q3⟩
 by_cases hb:b=a
 . subst hb
   rw[A7] at z
   cases z
   exact ok
 rw[up b hb] at z
 exact(I.hok b u z).stay (fun _ _ _ q=>q) (fun c q=>by rw[up c (ne c _ q)];exact q) (fun c xs q=>by rw[up c (ne c _ q)];exact q)
noncomputable def rem (H:Hp) (a:Addr):Hp:=fun b=>if b=a then none else H b
theorem C8x{a:Addr}:rem H a a=none:=by unfold rem;rw[if_pos rfl]
theorem A8p{a b:Addr}(h:b≠a):rem H a b=H b:=by unfold rem;rw[if_neg h]
theorem Inv.forget{a:Addr}{φ:Heap ->Prop}(I:Inv X pins σ H s)(e:H a=some (.ext φ)):Inv X pins σ (rem H a) s:=by
 have ne:∀b u,H b=some u ->(∀φ,u≠ .ext φ) ->b≠a:=fun b u z q w=>by rw[w,e] at z;cases z;exact q _ rfl
 have non:∀b,H b=none ->rem H a b=none:=fun b z=>by
   by_cases q:b=a
   . rw[q];exact C8x
   . rw[A8p q];exact z
 refine⟨I.ok,I.os,I.bare,⟨I.base.keep,I.base.slot,fun b u z m hx=>non b (I.base.free b u z m hx),I.base.there,fun b xs z=>?_,fun b u v z=>?_,fun b ps z=>?_⟩,I.loc,I.cell,non _ I.free,fun x c z=>non _ (I.freeC x c z),fun p hp=>?_,fun b u z=>?_,I.len⟩
 . have:=I.base.tups b xs z
   rw[A8p (ne b _ this (fun _ q=>nomatch q))];exact this
 . have:=I.base.frzs b u v z
   rw[A8p (ne b _ this (fun _ q=>nomatch q))];exact this
 . obtain⟨more,this⟩:=I.base.tbls b ps z
   exact⟨more,by rw[A8p (ne b _ this (fun _ q=>nomatch q))];exact this⟩
 . obtain⟨q1,q2,q3⟩:=I.pin p hp
   exact⟨q1,non _ q2,q3⟩
 have hb:b≠a:=fun q=>by rw[q,C8x] at z;cases z
 rw[A8p hb] at z
 exact(I.hok b u z).stay (fun _ _ _ q=>q) (fun c q=>by rw[A8p (ne c _ q (fun _ w=>nomatch w))];exact q) (fun c xs q=>by rw[A8p (ne c _ q (fun _ w=>nomatch w))];exact q)
end
noncomputable def A0pp (C:Addr) (ta tv:TE) (f:Str):TS:=fun D σ H=>tv σ H fun y H1=>ta σ H1 fun x H2=>∃e t,x= .ref e/\H2 e=some (.ext (A5t e C t none))/\
 ∀d,H2 d=none ->d≠e ->D.nx σ (upd (upd H2 e (.ext (A5t e C t (some d)))) d (.xd [(f,y)]))
section
variable{X:Cx}{o value:Expr}{f:Str}{pos pos':Pos}{ta tv:TE}{C fI:Addr}
theorem A0ae(F:V4w X.K C fI)(hf:findIn X.K (.ref C) f=some none)(ha:PE X o ta)(hv:PE X value tv)(hs:swapsWith value (some (.Attribute o f pos')) pos.line X.env=pure false)(hex:X.ex=[]:=by rfl):
   PS X (.Assign [.Attribute o f pos'] value pos) (A0pp C ta tv f):=by
 intro pins s σ H D I h
 refine plainObj_wpAny_Assign_Attribute (thn (hv pins s σ H _ I h) fun u s1 ⟨y,H1,I1,ry,q⟩=>thn (ha pins s1 σ H1 _ I1 q) fun ov s2 hh_=>?_) hs
 obtain⟨x,H2,I2,rx,e,t,ex,ea,q2⟩:=hh_
 subst ex
 obtain rfl:ov=Value.ref e:=rx
 have he:s2.heap.get? e=some (A0s (.ref C) t none .none):=(I2.hok e _ ea).1
 refine set_plain I2.kIn (⟨he,rfl,rfl,trivial⟩:PySem.W.InstAt s2.heap e (A0s (.ref C) t none .none) C none) F.sa (Z8x (s:={s2 with toks:=s2.toks+1}) I2.kIn F he hf fun h' tk' d k1 k2 k3 k4 k5=>?_)
 have nd:H2 d=none:=I2.hok.new k4
 have I3:Inv X pins σ (upd H2 e (.ext (A5t e C t (some d)))) {s2 with heap:=h',toks:=tk'}:=
   I2.write (x:=e) (e:=e) (by rw[ea];exact trivial) (.inl rfl) (fun b u hb z=>k1 b u hb z) ⟨_,k2⟩ (Y1p k2)
 have nw:Nw X pins (upd H2 e (.ext (A5t e C t (some d)))) d:=I2.nw hex k4 (by rw[C9 k5];exact nd)
 refine⟨σ,_,I3.trackO (ho:= .xd [(f,y)]) nw ⟨_,k3,fun g=>?_⟩,q2 d nd k5⟩
 show A7f (List.lookup g [(f,y)]) (if g=f then some u else none)
 by_cases z:g=f
 . rw[if_pos z,z]
   have:List.lookup f [(f,y)]=some y:=by simp[List.lookup]
   rw[this];exact ry
 rw[if_neg z]
 have:List.lookup g [(f,y)]=none:=by
   have hb:(g==f)=false:=beq_eq_false_iff_ne.mpr z
   simp[List.lookup,hb]
 rw[this];exact trivial
end
noncomputable def D9v (C:Addr) (f:Str):Sp:=fun vs H Q _=>∃e t v,vs=[.ref e,v]/\H e=some (.ext (A5t e C t none))/\∀d,H d=none ->d≠e ->Q .non (upd (upd H e (.ext (A5t e C t (some d)))) d (.xd [(f,v)]))
noncomputable def A0aw (C:Addr) (f:Str) (EH:EK) (t:TA):TS:=fun _ σ H=>t σ H fun vs H1=>∃v,vs=[v]/\∀d H2,B7 H1 H2 ->H1 d=none ->H2 d=some (.xd [(f,v)]) ->EH (.ref C) (some d) σ H2
section
variable{X:Cx}{x f:Str}{p cpos pos:Pos}{e:Expr}{t:TA}{C fI:Addr}{fdI:FuncData}{ps:List Str}{EH:EK}{j k:Nat}
theorem V3e(hm:X.mg x=some (.ref C))(F:V4w X.K C fI)(G:FnOk X.prog X.w X.K X.mg X.base CX0 j fI fdI ps (D9v C f))(bI:A0p X.K fdI ps [])(hr:Z5 k X.A)(hx:G5 X EH)(ha:PA X [e] t)(hj:j+1<=k:=by decide)(hg:Gl X x:=by rfl)(hex:X.ex=[]:=by rfl)
   (hdb:(x==("__debug__":Str))=false:=by decide) (he:starEach [e] X.env=(false,eval e X.env)::starEach [] X.env:=by rfl) (hpl:(backTo cpos (starEach [] X.env)).any (·.1)=false:=by rfl):
   PS X (.Raise (some (.Call (.Name x p) [e] [] cpos)) none pos) (A0aw C f EH t):=by
 intro pins s σ H D I h
 obtain⟨nm,q,N,bs,bm,sn,sub,ab,col,dd,k0,k1,k2,k3,k5,lC,nO,nI,tl⟩:=F.cls
 obtain⟨oI,lI,cI⟩:=F.fn
 have T0:OwnTail X.base V0r bm:=tail_of_in I.ok.mod.kin tl
 have hN0:X.base.Ns N (X.base.nsMap N):= .of_isNs (isNs_of_in I.ok.mod.kin nO)
 have hi0:X.base.nsMap N "__init__"=some (.ref fI):=J8e I.ok.mod.kin hN0 nI
 refine C0p (C:=C) (nm:=nm) (q:=q) (N:=N) (bs:=bs) (bm:=bm) (hdct:=true) (sn:=sn) (sub:=sub) (ab:=ab) (col:=col) (dd:=dd) (k0:=k0) (k1:=k1) (k2:=k2) (k3:=k3) (k5:=k5) (oI:=oI) PySem.F.excBase_ValueError (mN:=X.base.nsMap N) (T0.hasType PySem.F.excBase_ValueError.hasBase) hr.hd
   (by rw[he];show(false||(backTo cpos (starEach [] X.env)).any (·.1))=false;rw[hpl];rfl) hi0 cI (A2n I hg hm ⟨rfl,?_⟩ hdb)
 have ha':=ha cpos pins s σ H _ I h
 rw[he] at ha' ⊢
 refine Calls.evalArgs_plain (wpAny_mono ha' (fun us s2 hh_=>?_) fun _ _ y=>y)
 obtain⟨vs,H1,I1,r,v,ev,z⟩:=hh_
 subst ev
 obtain⟨u,rfl,ru⟩:=r.one
 refine⟨rfl,D3 (by show 1<=1000;decide),I1.kIn _ _ lC,hN0.keeps I1.bk,T0.keeps I1.bk,I1.kIn _ _ lI,fun h' a m=>?_⟩
 obtain⟨t',e1,tn,e2⟩:=m.there
 have I2:Inv X pins σ H1 {s2 with heap:=h'}:=I1.kept (t':=s2.toks) m.keeps
 have na:H1 a=none:=I1.hok.new m.new
 have I3:=I2.trackO (ho:= .ext (A5t a C t' none)) (I1.nw hex m.new na) (Y1p e1)
 have sp0:D9v C f [.ref a,v] (upd H1 a (.ext (A5t a C t' none))) (fun v0 H'=>v0= .non/\∃d,H1 d=none/\d≠a/\H'=upd (upd (upd H1 a (.ext (A5t a C t' none))) a (.ext (A5t a C t' (some d)))) d (.xd [(f,v)])) E0:=
   ⟨a,t',v,rfl,A7,fun d nd nda=>⟨rfl,d,by rw[C9 nda] at nd;exact nd,nda,rfl⟩⟩
 have rr:U3 [.ref a,v] [.ref a,u]:= .cons rfl (.cons ru .nil)
 have hl:([Value.ref a,u]++ []).length=ps.length:=by
   have:=G.len _ _ _ _ sp0
   rw[<-this];rfl
 refine wpAny_call (codeAny_mono (G.run _ X.stack _ _ ⟨[.ref a,u],[]⟩ ([.ref a,u]++ []) [.ref a,v] _ E0 ((hr.mono hj).make C [u] []) (I3.env0.make C [u] []) (bI _ [.ref a,u] I3.kIn hl) rr sp0) fun r s' hq=>?_)
 cases r with
 |error e=>exact hq.elim
 | ok fl=>
   cases fl with
   | ret u0=>
     obtain⟨v0,H',I4,rv,ev,d,nd,nda,eH⟩:=I3.after hq
     subst ev eH
     have ea:(upd (upd (upd H1 a (.ext (A5t a C t' none))) a (.ext (A5t a C t' (some d)))) d (.xd [(f,v)])) a=some (.ext (A5t a C t' (some d))):=by
       rw[C9 (Ne.symm nda),A7]
     have g1:s'.heap.get? a=some (A0s (.ref C) t' (some d) .none):=(I4.hok a _ ea).1
     refine⟨rv,I4.kIn _ _ lC,⟨t',some d,g1⟩,?_⟩
     refine hx pins σ _ s' a t' (.ref C) (some d) (I4.forget ea) ⟨I1.nw hex m.new C8x,.none,g1,.inl rfl,fun T z=>nomatch z⟩ (z d _ (fun b ob q=>?_) nd ?_)
     . have nb:b≠a:=D8 q na
       have nbd:b≠d:=D8 q nd
       rw[A8p nb,C9 nbd,C9 nb,C9 nb]
       exact q
     . rw[A8p nda,A7]
   |next=>exact hq.elim
   |brk=>exact hq.elim
   |cont=>exact hq.elim
end
theorem V9w{prog:Program}{w:World}{A:Around}{E:Value ->Shared ->Prop}{s:Shared}{K:Frag}{a C:Addr}{oa:Obj}{od:Option Obj}{name:Str}{v:Value}{b:Bool}{Q:Value ->Shared ->Prop}(F:D3u K C)(X:K.In s.heap)(I:PySem.W.InstAt s.heap a oa C od)
   (hf:findObj K C od name=some (.value v)) (hh:handedIn v=true) (h:Q v {s with toks:=s.toks+1}):wpAny (model prog w) A (getAttr (.ref a) name b) Q E s:=by
 obtain⟨hp,g,d,t,os⟩:=s
 have L0:=I.type (M:=model prog w)
 have L1:=looks_findIn (M:=model prog w) X F.ga
 have L2:=looks_findIn (M:=model prog w) X F.gh
 have L3:Looks (model prog w) hp (isInstance (.ref a) (.type "BaseException")) true:=L0.andThen (looks_subIn X F.be)
 have L4:=looks_find (M:=model prog w) X I hf
 have hk:builtinKind "BaseException.__getattribute__"=some .slot:=by decide+kernel
 have hsplit:splitId "BaseException.__getattribute__"=some ("BaseException","__getattribute__"):=by decide+kernel
 have hargs:=PySem.F.args_bexc_ga (.ref a) (.str name t)
 have hb:=PySem.F.attr_ValueError.ga.bind (.ref a)
 unfold getAttr getAttrBy
 refine wpAny_bind (wpAny_mkText (wpAny_holding (wpAny_bind (L0.at (wpAny_bind (L1.at ?_))))))
 dsimp only
 rw[if_neg (show¬((onTheHeap (Value.ref C)&&Value.builtin "BaseException.__getattribute__"==Value.builtin "object.__getattribute__")=true) by
   rw[show(Value.builtin "BaseException.__getattribute__"==Value.builtin "object.__getattribute__")=false by decide+kernel,Bool.and_false];exact Bool.false_ne_true)]
 unfold getAttrByItsOwn
 refine wpAny_bind (m:=hookBefore (.ref C)) (L2.at ?_)
 refine wpAny_bind (wpAny_attempt (wpAny_holding ?_))
 unfold callGetattribute
 rw[if_neg (show¬((b&&onTheHeap (Value.builtin "BaseException.__getattribute__"))=true) by
   rw[show onTheHeap (Value.builtin "BaseException.__getattribute__")=false from rfl,Bool.and_false];exact Bool.false_ne_true)]
 unfold boundAndCalled
 rw[hb]
 refine wpAny_bind (wpAny_pure ?_)
 refine wpAny_call (codeAny_call_builtin PySem.F.attr_ValueError.ga.plain PySem.F.entry_bexc_ga ?_)
 have chk:∀{A':Around} {Q':Unit ->Shared ->Prop} {E':Value ->Shared ->Prop},Q' () ⟨hp,g,d,t+1,os⟩ ->wpAny (model prog w) A' (checkBuiltinCall "BaseException.__getattribute__" ⟨[.ref a,.str name t],[]⟩) Q' E' ⟨hp,g,d,t+1,os⟩:=by
   intro A' Q' E' hq
   simp only[checkBuiltinCall,hk,hsplit]
   refine wpAny_bind ?_
   refine L3.at ?_
   repeat (first|assumption|wp_step)
 refine chk ?_
 show wpAny _ _ (Builtin.«object.__getattribute__» ⟨[.ref a, .str name t], []⟩) _ _ _
 unfold Builtin.«object.__getattribute__»
 refine wpAny_bind (wpAny_pure ?_)
 refine wpAny_bind (wpAny_pure ?_)
 refine wpAny_bind (L0.at (wpAny_bind (L4.at ?_)))
 dsimp only
 refine wpAny_pure ?_
 exact handed_on hh h
noncomputable def A0eh (K:Frag) (ta:TE) (f:Str):TE:=fun σ H Q=>ta σ H fun x H1=>∃a C t T d u fs v,x= .ref a/\H1 a=some (.frz (A0s (.ref C) t (some d) T) u)/\H1 d=some (.xd fs)/\D3u K C/\(∃cd,clsIn K C=some cd/\cd.hasDict=true)/\findIn K (.ref C) f=some none/\fs.lookup f=some v/\Q v H1
section
variable{X:Cx}{e:Expr}{f:Str}{pos:Pos}{ta:TE}
theorem A0aa(he:PE X e ta)(hb:attributeBase e f X.env (eval e X.env)=eval e X.env):PE X (.Attribute e f pos) (A0eh X.K ta f):=by
 intro pins s σ H Q I h
 refine V0a hb (thn (he pins s σ H _ I h) fun u s1 hh_=>?_)
 obtain⟨x,H1,I1,rx,a,C,t,T,d,u0,fs,v,ex,ea,hd,k,⟨cd,hc,hD⟩,hn,l,q⟩:=hh_
 subst ex
 obtain rfl:u=Value.ref a:=rx
 have o1:s1.heap.get? a=some (A0s (.ref C) t (some d) T):=(I1.hok a _ ea).1
 obtain⟨mA,nA,rA⟩:=(show∃mA,s1.heap.Ns1 d mA/\∀f,A7f (fs.lookup f) (mA f) from I1.hok d _ hd)
 obtain⟨od,o2,lk⟩:=C0r nA
 obtain⟨uv,hu,ru⟩:=A7f.some_of (v:=v) (o:=mA f) (by rw[<-l];exact rA f)
 have J:PySem.W.InstAt s1.heap a (A0s (.ref C) t (some d) T) C (some od):=⟨o1,rfl,rfl,o2⟩
 have hf:findObj X.K C (some od) f=some (.value uv):=by
   unfold findObj
   rw[hc,Option.bind_some,hn,Option.bind_some]
   show((PySem.W.ownOf cd (some od) f).bind _)=_
   unfold PySem.W.ownOf
   rw[hD,if_pos rfl]
   show((lookIn f od).bind _)=_
   rw[lk f,hu]
   rfl
 exact V9w k I1.kIn J hf (D7z ru) ⟨v,H1,I1.tok _,ru,q⟩
end
noncomputable def B1y (z:Str) (n:Int):Str:=if n<1 then Str.empty else if(n==1||z.length==0)=true then z else⟨(List.replicate n.toNat z.cps).foldl (· ++ ·) #[]⟩
noncomputable def A0fc:R2:=fun x y H Q=>∃z n,x= .str z/\y= .int n/\ -(2^63)<=n/\n<2^63/\z.length*n.toNat<=sizeLine/\Q (.str (B1y z n)) H
theorem D7r(z:Array Nat):∀(k:Nat) (acc:Array Nat),((List.replicate k z).foldl (· ++ ·) acc).toList=acc.toList++(List.replicate k z.toList).flatten
 |0,acc=>by simp
 | k+1,acc=>by
   rw[List.replicate_succ,List.foldl_cons,D7r z k,Array.toList_append,List.replicate_succ,List.flatten_cons,List.append_assoc]
theorem A2k(z:Str):z.cps.toList.length=z.length:=Array.length_toList
theorem C5v(z:Str)(n:Int):(B1y z n).cps.toList=(List.replicate n.toNat z.cps.toList).flatten:=by
 unfold B1y
 split
 . have:n.toNat=0:=by omega
   rw[this];rfl
 split
 . rename_i h1 h2
   rcases Bool.or_eq_true _ _|>.mp h2 with h|h
   . have:n=1:=by simpa using h
     subst this
     simp
   . have e:z.length=0:=by simpa using h
     have e2:z.cps.toList=[]:=List.eq_nil_of_length_eq_zero (by rw[A2k];exact e)
     rw[e2]
     have:∀k:Nat,(List.replicate k ([]:List Nat)).flatten=[]:=fun k=>by simp
     rw[this]
 show((List.replicate n.toNat z.cps).foldl (· ++ ·) #[]).toList=_
 rw[D7r]
 rfl
theorem C8g(z:Str)(n:Int):(B1y z n).length=n.toNat*z.length:=by
 rw[<-A2k,C5v,V0m,A2k]
section
variable{X:Cx}
theorem J8a:OpR X (binaryOp .Mult) A0fc:=by
 intro pins s σ H x y v u Q I rx ry h
 obtain⟨z,n,rfl,rfl,h1,h2,hz,q⟩:=h
 obtain⟨t,rfl⟩:=rx
 obtain⟨t',rfl⟩:=ry
 have lo:¬n< -(2^63:Int):=by omega
 have hi:¬n>=(2^63:Int):=by omega
 have hl:=C8g z n
 have hs:(B1y z n).length<=sizeLine:=by rw[hl,Nat.mul_comm];exact hz
 refine PySem.P.mul_str (by rw[decide_eq_false lo,decide_eq_false hi];rfl) (fun n1 n2=>?_) (fun n1 n2=>Z8f hz) ?_
 . intro g
   have p:0<n:=by omega
   have e:((z.length*n.toNat:Nat):Int)=(z.length:Int)*n:=by rw[Int.natCast_mul,Int.toNat_of_nonneg (by omega)]
   have c:((z.length*n.toNat:Nat):Int)<=(sizeLine:Nat):=Int.ofNat_le.mpr hz
   have k:(sizeLine:Nat)<=2^63-1:=by decide
   have k':((sizeLine:Nat):Int)<=(2^63-1:Int):=by
     have:=Int.ofNat_le.mpr k
     exact this
   have:(z.length:Int)<=(2^63-1)/n:=(Int.le_ediv_iff_mul_le p).mpr (by omega)
   omega
 unfold B1y at q hs
 split
 . rw[if_pos (by assumption)] at q
   exact⟨by decide,.str _,H,I.tok _,⟨_,rfl⟩,q⟩
 rw[if_neg (by assumption)] at q hs
 split
 . rw[if_pos (by assumption)] at q
   exact⟨.str _,H,I,⟨_,rfl⟩,q⟩
 rw[if_neg (by assumption)] at q hs
 exact⟨hs,.str _,H,I.tok _,⟨_,rfl⟩,q⟩
theorem D3q:A5e X (.type "int") (fun xs H Q=>∃z n,xs=[.str z]/\PySem.intText? z=some n/\z.length<=640/\Q (.int n) H):=by
 intro pins s σ H xs us Q I r h
 obtain⟨z,n,rfl,h1,h2,q⟩:=h
 obtain⟨u,rfl,t,rfl⟩:=C5p r
 exact KIN.call_text h1 h2 ⟨.int n,H,I.tok _,⟨_,rfl⟩,q⟩
end
noncomputable def V4g (n:Nat):Str:=("1":Str)++B1y ("0":Str) (n:Int)
theorem V3d(n:Nat):(List.replicate n [48]).flatten=List.replicate n 48:=by
 induction n with
 |zero=>rfl
 |succ n ih=>rw[List.replicate_succ,List.flatten_cons,ih,List.replicate_succ];rfl
theorem B5g(n:Nat):(V4g n).cps.toList=49::List.replicate n 48:=by
 unfold V4g
 show(("1":Str).cps++(B1y ("0":Str) (n:Int)).cps).toList=_
 rw[Array.toList_append,C5v]
 have a:("1":Str).cps.toList=[49]:=by decide+kernel
 have b:("0":Str).cps.toList=[48]:=by decide+kernel
 rw[a,b]
 show [49]++(List.replicate n [48]).flatten=_
 rw[V3d]
 rfl
theorem J2j(n:Nat):(V4g n).length=n+1:=by
 rw[<-A2k,B5g]
 simp
theorem J7v(n:Nat):∀a:Nat,(List.replicate n 48).foldl (fun acc c=>acc*10+(c-48)) a=a*10^n:=by
 induction n with
 |zero=>intro a;simp
 | succ n ih=>
   intro a
   rw[List.replicate_succ,List.foldl_cons,ih,Nat.pow_succ]
   show(a*10+0)*10^n=_
   rw[Nat.add_zero,Nat.mul_assoc,Nat.mul_comm 10]
theorem Y0q(n:Nat)(h:n<=600):PySem.intText? (V4g n)=some ((10^n:Nat):Int):=by
 have e:PySem.NumText.digitsVal (V4g n).cps.toList=10^n:=by
   rw[B5g]
   unfold PySem.NumText.digitsVal
   rw[List.foldl_cons,J7v]
   show(0*10+1)*10^n=_
   omega
 rw[<-e]
 refine PySem.intText_digits ?_ ?_ ?_
 . rw[B5g]
   intro c hc
   rcases List.mem_cons.mp hc with rfl|hc
   . exact⟨by decide,by decide⟩
   . obtain⟨_,rfl⟩:=List.mem_replicate.mp hc
     exact⟨by decide,by decide⟩
 . rw[B5g];exact fun z=>nomatch z
 rw[J2j];omega
section
variable{X:Cx}
noncomputable def A0pr:V ->List V ->Hp ->VK ->Prop:=fun x vs H Q=>∃i,x= .int i/\vs=[]/\Q (.int ((Builtin.Int.intBits i:Nat):Int)) H
theorem D3n:MtR X "int.bit_length" A0pr:=by
 intro pins s σ H x xs v us Q I rx rs h
 obtain⟨i,rfl,rfl,q⟩:=h
 obtain⟨t,rfl⟩:=rx
 cases rs
 exact call_int_bit_length ⟨.int _,H,I.tok _,⟨_,rfl⟩,q⟩
end
section
variable{X:Cx}{a b:Expr}{rest:List Expr}{pos:Pos}{ta tb:TE}
end
section
variable{X:Cx}{j k:Nat}{f C:Addr}{fd:FuncData}{ps:List Str}{sp:Sp}{dvs:List V}{ds:List Value}{x m:Str}{p pos apos:Pos}{e o:Expr}{es:List Expr}{ta:TE}{t:TA}{st:Stmt}
end
section
variable{X:Cx}{N F:List Str}{js:List Nat}{scope:Scope}
theorem V3p{pins:List (Addr×Obj)}{σ:St}{H:Hp}{s:Shared}{fp:List Addr}{h':Heap}(S:D9 N F js scope X.N X.env)(I:Inv X pins σ H s)(hf:∀b∈fp,A4s X pins H b)(hit:∀b∈fp,∃o,s.heap.get? b=some o)(hnb:∀b∈fp,X.base.get? b=none)
   (hns:h'.Ns s.heap.objs.size (fun _=>none)) (hsb:∀b o,s.heap.get? b=some o ->h'.get? b=some o) {tk:Nat}:
   Inv (X.compF scope N F s.heap.objs.size s H fp (X.pn++pins)) [] (List.replicate N.length none++A5q js σ) H {s with heap:=h',toks:=tk}:=by
 have ck:∀c v,s.heap.IsCell c v ->h'.IsCell c v:=fun c v ⟨o,e,d⟩=>⟨o,hsb _ _ e,d⟩
 have inF:∀x,((compEnvC scope (A2d F X.env) s.heap.objs.size X.env).kindOf x=some .cell\/(compEnvC scope (A2d F X.env) s.heap.objs.size X.env).kindOf x=some .free) ->x∈F:=by
   intro x z
   have z:(relabel scope X.env).names.lookup x=some .cell\/(relabel scope X.env).names.lookup x=some .free:=z
   rcases z with z|z
   . exact S.fr _ (PySem.mem_of_lookup z) (.inl rfl)
   . exact S.fr _ (PySem.mem_of_lookup z) (.inr rfl)
 refine⟨⟨I.ok.mod,S.kind,I.ok.glob,I.ok.blt,Nat.le_refl _,fun x y c z z'=>I.ok.inj x y c (S.sub x c z) (S.sub y c z'),fun x z=>?_,fun x c z _=>(nomatch z),I.ok.hd,I.ok.frames,.inl rfl,fun b hb=>?_,I.bs,Nat.le_trans I.ok.bsz I.sz,fun b o e hb=>?_,fun b hb hfs=>?_,I.stack,I.stkFree⟩,
   rfl,I.bare,Un.kept hsb,⟨_,hns,fun i x v e1 e2 e3=>B5j S I (fun x c v _ z=>ck c v z) i x v e1 e2⟩,fun x c z=>?_,I.hok.fresh (Nat.le_refl _),fun x c z=>I.freeC x c (S.sub x c z),fun p hp=>?_,I.hok.kept hsb,G0g S σ⟩
 . obtain⟨c,h1,_⟩:=S.has (inF x z)
   exact⟨c,h1⟩
 . obtain⟨oi,ei⟩:=hit b hb
   exact⟨Nat.ne_of_lt (Heap.lt_size ei),fun x c z=>(hf b hb).2.2.2.2.1 x c (S.sub x c z)⟩
 . rw[hnb b hb] at e
   cases e
 . rcases List.mem_cons.mp (I.stkSub b hfs) with z|z
   . exact(hf b hb).2.1 z
   . exact(hf b hb).2.2.1 z
 . obtain⟨v,z'⟩:=I.cell x c (S.sub x c z)
   exact⟨v,ck c v z'⟩
 have hp':p∈X.pn++pins:=by simpa using hp
 obtain⟨q1,q2,q3,q4,q5⟩:=I.pin p hp'
 refine⟨hsb _ _ q1,q2,Nat.ne_of_lt (Heap.lt_size q1),fun z=>?_,q5⟩
 rcases List.mem_cons.mp (I.stkSub p.1 z) with z|z
 . exact q3 z
 exact q4 z
theorem J9k{pins pl:List (Addr×Obj)}{σ σ':St}{H H':Hp}{s s':Shared}{fp:List Addr}(S:D9 N F js scope X.N X.env)(I:Inv X pins σ H s)(hf:∀b∈fp,A4s X pins H b)(J:Inv (X.compF scope N F s.heap.objs.size s H fp (X.pn++pins)) pl σ' H' s'):
   Inv (X.compF scope N F s.heap.objs.size s H fp (X.pn++pins)) [] (List.replicate N.length none++A5q js σ) H' s':=by
 obtain⟨m,hn,_⟩:=J.loc
 refine⟨J.ok,J.os,J.bare,J.base,⟨m,hn,fun i x v e1 e2 e3=>B5j S I (fun x c v z q=>?_) i x v e1 e2⟩,J.cell,J.free,J.freeC,fun p hp=>J.pin p (by
   have hp:p∈(X.pn++pins)++ []:=hp
   rw[List.append_nil] at hp
   exact List.mem_append_left _ hp),J.hok,G0g S σ⟩
 obtain⟨o,e,d⟩:=q
 have ne:c ∉ fp:=fun w=>(hf c w).2.2.2.2.1 x c z rfl
 obtain⟨sl,q⟩:=J.base.any e (I.freeC x c z) ne
 exact⟨_,q,d⟩
theorem J9a{elt target iter c:Expr}{scope:Scope}{pos:Pos}{N F:List Str}{js:List Nat}{wi:TI}{g:TG}{tc:TT}{te:TE}(S:D9 N F js scope X.N X.env)(hd:A0q X)(hc0:X.calm=true)(hi:PI X target iter wi)(hex:X.ex=[])
   (hg:∀C s₀ H₀ ex pn,A0q (X.compF scope N F C s₀ H₀ ex pn) ->PG (X.compF scope N F C s₀ H₀ ex pn) target g)
   (hc:∀C s₀ H₀ ex pn,A0q (X.compF scope N F C s₀ H₀ ex pn) ->PT (X.compF scope N F C s₀ H₀ ex pn) c tc)
   (he:∀C s₀ H₀ ex pn,A0q (X.compF scope N F C s₀ H₀ ex pn) ->PE (X.compF scope N F C s₀ H₀ ex pn) elt te)
   {pins:List (Addr×Obj)} {s:Shared} {σ:St} {H:Hp} {Q:VK} {RR:Value ->Env ->Result ->Shared ->Prop} (I:Inv X pins σ H s) (h:(B1k N.length js wi g tc te) σ H Q)
   (hRR:∀(D C:Addr) (s6:Shared) (H5:Hp) (mm:Str ->Option Value),Inv X pins σ H5 s6 ->s6.heap.Ns C mm ->A4s X pins H5 C ->Q (.ref D) H5 ->RR (.ref D) (compEnvC scope (A2d F X.env) C X.env) (.ok .next) s6):
   wpAny (model X.prog X.w) X.A (eval iter X.env) (fun v s1=>wpAny (model X.prog X.w) X.A (pyIter v) (fun itv s2=>wpAny (model X.prog X.w) X.A (newList []) (fun acc s3=>wpAny (model X.prog X.w) X.A (newFunctionEnv scope X.env.globals (A2d F X.env) [] X.env.qual none .none (some X.env)) (fun cenv s4=>
     codeAny (model X.prog X.w) X.A (.compStart (.ListComp elt [⟨target,iter,[c],0⟩] scope pos) 0 itv acc {cenv with scope:=relabel scope X.env}) (RR acc {cenv with scope:=relabel scope X.env}) s4) X.xe s3) X.xe s2) X.xe s1) X.xe s:=by
 refine thn (hi pins s σ H _ I h) fun v s1 h1=>thn h1 fun itv s2 h2=>?_
 obtain⟨it,fp,tn,J,H2,rfl,I2,T,st2,f2,R⟩:=h2
 have ob2:=T.obj _ _ st2
 have hf2:=I2.hok.fresh (Nat.le_refl _)
 refine wpAny_newObj_type ?_
 have I3:Inv X pins σ (upd H2 s2.heap.objs.size (.lst [])) {s2 with heap:=s2.heap.push {cls:= .type "list",dict:=none,data:= .seq ([]:List Value).toArray}}:=Inv.lnew (t':=s2.toks) I2 .nil (Nat.zero_le _)
 refine wpAny_newFunctionEnv S.cell (by intro y hy;simp at hy) (fun h4 hns hsb=>?_) S.kind
 dsimp only at hns hsb ⊢
 generalize hG:s2.heap.push {cls:= .type "list",dict:=none,data:= .seq ([]:List Value).toArray}=G at I3 hns hsb ⊢
 generalize hD:s2.heap.objs.size=D at I3 hf2
 have nD:∀b∈fp,b≠D:=fun b hb=>by
   obtain⟨o,eo,_⟩:=ob2 b hb
   rw[<-hD];exact Nat.ne_of_lt (Heap.lt_size eo)
 have eiG:∀b∈fp,∃o,G.get? b=some o:=fun b hb=>by
   obtain⟨o,eo,_⟩:=ob2 b hb
   exact⟨o,by rw[<-hG];exact Heap.get?_push_of_some _ eo⟩
 have kp:∀b o,G.get? b=some o ->h4.get? b=some o:=fun b o e=>hsb.extBut b o (Nat.ne_of_lt (Heap.lt_size e)) (Heap.get?_push_of_some _ e)
 have f3:∀b∈fp,A4s X pins (upd H2 D (.lst [])) b:=fun b hb=>⟨by rw[C9 (nD b hb)];exact(f2 b hb).1,(f2 b hb).2⟩
 have nb:∀b∈fp,X.base.get? b=none:=fun b hb=>by
   cases q:X.base.get? b with
   |none=>rfl
   | some o=>
     have:=(I.ok.bs b o q).1
     rcases(f2 b hb).2.2.2.1 with z|z
     . rw[hex] at z;simp at z
     . exact absurd (Nat.lt_of_lt_of_le (Heap.lt_size this) z) (Nat.lt_irrefl _)
 have hns':h4.Ns G.objs.size (fun _=>none):=by
   obtain⟨o,es,ep,q1,q2,q3,q4⟩:=hns
   exact⟨o,es,ep,q1,q2,q3,fun x=>by rw[q4];rfl⟩
 have I4:=V3p (tk:=s2.toks+([]:List (Str×Value)).length) S I3 f3 eiG nb hns' kp
 have hdc:A0q (X.compF scope N F G.objs.size {s2 with heap:=G} (upd H2 D (.lst [])) fp (X.pn++pins)):=by
   rcases hd with z|⟨x,o,u,vs,z,e,d,n⟩
   . exact .inl z
   . refine .inr ⟨x,o,u,vs,z,?_,d,n⟩
     have q:=I2.base.frzs x o u e
     show upd H2 D (.lst []) x=_
     rw[C9 fun w=>by rw[w,hf2] at q;cases q]
     exact q
 obtain⟨m,W,w0,turn⟩:=R D hf2
 have gg:=hg _ _ _ _ _ hdc
 have cc:=hc _ _ _ _ _ hdc
 have ee:=he _ _ _ _ _ hdc
 have fpc:∀{H':Hp} {σ':St} {s':Shared} {pl:List (Addr×Obj)},Inv (X.compF scope N F G.objs.size {s2 with heap:=G} (upd H2 D (.lst [])) fp (X.pn++pins)) pl σ' H' s' ->(∀b∈fp,H' b=none) ->(∀b∈fp,∀p∈pl,p.1≠b) ->∀b∈fp,A4s (X.compF scope N F G.objs.size {s2 with heap:=G} (upd H2 D (.lst [])) fp (X.pn++pins)) pl H' b:=by
   intro H' σ' s' pl J' hn hp b hb
   obtain⟨oi,ei⟩:=eiG b hb
   refine⟨hn b hb,Nat.ne_of_lt (Heap.lt_size ei),?_,.inl hb,(fun x c z=>(f2 b hb).2.2.2.2.1 x c (S.sub x c z)),fun p hpp=>?_⟩
   . intro z
     rcases List.mem_cons.mp (I.stkSub b z) with z|z
     . exact(f2 b hb).2.1 z
     . exact(f2 b hb).2.2.1 z
   . rcases List.mem_append.mp hpp with z|z
     . exact(f2 b hb).2.2.2.2.2 p z
     . exact hp b hb p z
 have loop:codeAny (model X.prog X.w) X.A (.compLoop (.ListComp elt [⟨target,iter,[c],0⟩] scope pos) 0 (.ref it) (.ref D) (compEnvC scope (A2d F X.env) G.objs.size X.env))
     (RR (.ref D) (compEnvC scope (A2d F X.env) G.objs.size X.env))
     {s2 with heap:=h4,toks:=s2.toks+([]:List (Str×Value)).length}:=by
   refine kct_loop (fun k s'=>∃i ys H',k=m+1-i/\Inv (X.compF scope N F G.objs.size {s2 with heap:=G} (upd H2 D (.lst [])) fp (X.pn++pins)) [] (List.replicate N.length none++A5q js σ) H' s'/\tn i s'.heap/\(∀b∈fp,H' b=none)/\W i ys H') ?_ (m+1)
     ⟨0,[],_,rfl,I4,T.keep _ _ _ st2 fun b hb o e=>kp b o (by rw[<-hG];exact Heap.get?_push_of_some _ e),fun b hb=>(f3 b hb).1,w0⟩
   rintro k s5 ⟨i,ys,H5,rfl,I5,st5,n5,w5⟩
   obtain⟨hi5,hD5,w5⟩:=turn i ys H5 w5
   rcases w5 with⟨stop,q⟩|⟨lt5,go,step⟩
   . refine wpAny_mono (T.done (X.compF scope N F G.objs.size {s2 with heap:=G} (upd H2 D (.lst [])) fp (X.pn++pins)) rfl rfl rfl hc0 i [] s5 _ H5 (fun _ _=>False) I5 (fpc I5 n5 (by simp)) st5 stop) (fun r s6 z=>?_) (fun _ _ z=>z.elim)
     obtain⟨rfl,I6⟩:=z
     obtain⟨mm,hn6,_⟩:=I6.loc
     have B6:=I6.base
     have J6:Inv X pins σ H5 s6:=by
       refine I3.call' (ch:=fp) I6.os ⟨B6.keep,B6.slot,B6.free,B6.there,B6.tups,B6.frzs,B6.tbls⟩ I6.hok I6.bare (fun b hb=>⟨(f2 b hb).2.2.2.1,(f2 b hb).2.1,(f2 b hb).2.2.2.2.1,(f2 b hb).2.2.2.2.2⟩)
     have szG:X.s₀.heap.objs.size<=G.objs.size:=I3.sz
     refine hRR D G.objs.size s6 H5 mm J6 hn6 ⟨I6.free,?_,?_,.inr szG,?_,?_⟩ q
     . exact Nat.ne_of_gt I3.lt
     . intro z
       obtain⟨_,o,ho,_⟩:=I3.funs.mem z
       exact Nat.lt_irrefl _ (Heap.lt_size ho)
     . rintro x c z rfl
       obtain⟨v',o,ho,_⟩:=I3.cell x _ z
       exact Nat.lt_irrefl _ (Heap.lt_size ho)
     . rintro p hp z
       have zz:=(I3.pin p hp).1
       rw[z] at zz
       exact Nat.lt_irrefl _ (Heap.lt_size zz)
   . refine wpAny_mono (T.item (X.compF scope N F G.objs.size {s2 with heap:=G} (upd H2 D (.lst [])) fp (X.pn++pins)) rfl rfl rfl hc0 i [] s5 _ H5 (fun _ _=>False) I5 (fpc I5 n5 (by simp)) st5 go) (fun r s6 z=>?_) (fun _ _ z=>z.elim)
     obtain⟨u,rfl,z⟩:=z
     refine wpAny_mono z (fun _ s7 z=>?_) (fun _ _ z=>z.elim)
     obtain⟨x,H7,I7,rx,yl,st7,fr7⟩:=z
     have ob7:=T.obj _ _ st7
     have I7':Inv (X.compF scope N F G.objs.size {s2 with heap:=G} (upd H2 D (.lst [])) fp (X.pn++pins)) (A6q fp s7.heap) (List.replicate N.length none++A5q js σ) H7 s7:=I7.pinned (fpc I7 fr7 (by simp)) ob7
     have back:∀{i':Nat} {ys':List V} {H':Hp} {σ':St} {s':Shared},i'=i+1 ->Inv (X.compF scope N F G.objs.size {s2 with heap:=G} (upd H2 D (.lst [])) fp (X.pn++pins)) (A6q fp s7.heap) σ' H' s' ->W i' ys' H' ->
         ∃k',k'<m+1-i/\∃i ys H',k'=m+1-i/\Inv (X.compF scope N F G.objs.size {s2 with heap:=G} (upd H2 D (.lst [])) fp (X.pn++pins)) [] (List.replicate N.length none++A5q js σ) H' s'/\tn i s'.heap/\(∀b∈fp,H' b=none)/\W i ys H':=by
       rintro i' ys' H' σ' s' rfl J' w'
       refine⟨m+1-(i+1),by omega,i+1,ys',H',rfl,J9k S I3 f3 J',T.keep _ _ _ st7 fun b hb o z=>(J'.pin (b,o) (List.mem_append_right _ (A8n hb z))).1,fun b hb=>?_,w'⟩
       obtain⟨o,eo,_⟩:=ob7 b hb
       exact(J'.pin (b,o) (List.mem_append_right _ (A8n hb eo))).2.1
     refine wpAny_mono (gg (A6q fp s7.heap) s7 _ H7 x u _ I7' rx (step x H7 yl)) (fun _ s8 z=>?_) (fun _ _ z=>z.elim)
     obtain⟨σ8,H8,I8,q8⟩:=z
     refine wpAny_mono (cc (A6q fp s7.heap) s8 σ8 H8 _ I8 q8) (fun b s9 z=>?_) (fun _ _ z=>z.elim)
     obtain⟨H9,I9,q9⟩:=z
     cases b with
     | false=>
       simp only[Bool.false_eq_true,if_false] at q9 ⊢
       exact back rfl I9 q9
     | true=>
       simp only[if_true] at q9 ⊢
       refine wpAny_mono (ee (A6q fp s7.heap) s9 σ8 H9 _ I9 q9) (fun y s10 z=>?_) (fun _ _ z=>z.elim)
       obtain⟨yv,H10,I10,ry,hD10,hz10,w10⟩:=z
       refine wpAny_mono (A0h (X:=X.compF scope N F G.objs.size {s2 with heap:=G} (upd H2 D (.lst [])) fp (X.pn++pins)) (A6q fp s7.heap) s10 σ8 H10 (.ref D) [yv] (.ref D) [y] (fun _ H11=>W (i+1) (ys++ [yv]) H11) I10 rfl (.cons ry .nil) ⟨D,ys,yv,rfl,rfl,hD10,hz10,w10⟩) (fun _ s11 z=>?_) (fun _ _ z=>z.elim)
       obtain⟨_,H11,I11,_,w11⟩:=z
       exact back rfl I11 w11
 exact codeAny_compStart_list loop (T.self _ 0 _ _ _ (T.keep _ _ _ st2 fun b hb o e=>kp b o (by rw[<-hG];exact Heap.get?_push_of_some _ e)) loop)
theorem J2x{elt target iter:Expr}{c:Expr}{tc:TT}{pos:Pos}{wi:TI}{g:TG}{te:TE}(S:D9 N F js scope X.N X.env)(hd:A0q X)(hc0:X.calm=true)(hi:PI X target iter wi)(hex:X.ex=[])
   (hg:∀C s₀ H₀ ex pn,A0q (X.compF scope N F C s₀ H₀ ex pn) ->PG (X.compF scope N F C s₀ H₀ ex pn) target g)
   (hc:∀C s₀ H₀ ex pn,A0q (X.compF scope N F C s₀ H₀ ex pn) ->PT (X.compF scope N F C s₀ H₀ ex pn) c tc)
   (he:∀C s₀ H₀ ex pn,A0q (X.compF scope N F C s₀ H₀ ex pn) ->PE (X.compF scope N F C s₀ H₀ ex pn) elt te)
   (hs:∀x,foldedSetIterable iter X.env x=pure x:=by intro _;rfl):PE X (.ListComp elt [⟨target,iter,[c],0⟩] scope pos) (B1k N.length js wi g tc te):=by
 intro pins s σ H Q I h
 rw[eval_ListComp]
 refine wpAny_comprehension_free (use:=none) rfl hs S.clos S.kind S.loc (J9a S hd hc0 hi hex hg hc he I h (RR:=fun acc ce r s'=>compPost (model X.prog X.w) X.A X.xe none (EP X pins σ Q) acc ce.locals r s') ?_)
 intro D C s6 H5 mm I6 n6 f6 q
 exact⟨mm,n6,fun h' sb=>⟨.ref D,H5,V0h I6 f6 sb,rfl,q⟩⟩
end
theorem D9.of0{N:List Str}{sc:Scope}{XN:List Str}{env:Env}(S:Y3z N [] sc)(clos:closureFor sc env=pure (A2d [] env)):D9 N [] [] sc XN env:=
 ⟨S.kind,S.cell,S.loc,S.nd,clos,B6y S.cell S.fr,fun k y h=>by simp at h,rfl⟩
section
variable{X:Cx}{pins:List (Addr×Obj)}{σ:St}{H:Hp}{s:Shared}{h':Heap}
end
section
variable{X:Cx}{es:List Expr}{k:Nat}{tp:Pos}
noncomputable def tRev (K:Frag) (te ts:TE):TE:=fun σ H Q=>te σ H fun x H1=>ts σ H1 fun z H2=>z= .int (-1)/\∃a xs,x= .ref a/\SqL K H2 a xs/\∀p,H2 p=none ->Q (.ref p) (upd H2 p (.lst xs.reverse))
theorem B6b{α β:Type}{f:α ->Option β}{g:α ->β}:∀l:List α,(∀k∈l,f k=some (g k)) ->l.filterMap f=l.map g
 | [],_=>rfl
 | a::l,h=>by
   rw[List.filterMap_cons,h a (List.mem_cons_self ..)]
   show g a::l.filterMap f=g a::l.map g
   rw[B6b l fun k hk=>h k (List.mem_cons_of_mem _ hk)]
theorem Y1y(its:List Value):slicePick its.toArray none none (some (-1))=its.reverse.toArray:=by
 unfold slicePick
 congr 1
 show(sliceRange ((its.toArray.size:Int)-1) (-1) (-1)).filterMap (its.toArray[·]?)=its.reverse
 have e:sliceRange ((its.toArray.size:Int)-1) (-1) (-1)=(List.range its.length).map fun k=>its.length-1-k:=by
   unfold sliceRange
   have c:(if(-1:Int)>0 then(if((its.toArray.size:Int)-1)< -1 then(-1-((its.toArray.size:Int)-1)+ -1-1)/ -1 else 0) else(if((its.toArray.size:Int)-1)> -1 then(((its.toArray.size:Int)-1) - -1 - -1-1)/(- -1) else 0)).toNat=its.length:=by
     rw[if_neg (by decide),List.size_toArray]
     split
     . rw[show(- -1:Int)=1 by decide,Int.ediv_one];omega
     . omega
   show(List.range (if(-1:Int)>0 then(if((its.toArray.size:Int)-1)< -1 then(-1-((its.toArray.size:Int)-1)+ -1-1)/ -1 else 0) else(if((its.toArray.size:Int)-1)> -1 then(((its.toArray.size:Int)-1) - -1 - -1-1)/(- -1) else 0)).toNat).map (fun k:Nat=>(((its.toArray.size:Int)-1)+(-1)*(k:Int)).toNat)=_
   rw[c]
   refine List.map_congr_left fun k hk=>?_
   have:=List.mem_range.mp hk
   rw[List.size_toArray]
   omega
 rw[e]
 apply List.ext_getElem?
 intro i
 have fm:((List.range its.length).map fun k=>its.length-1-k).filterMap (its.toArray[·]?)=((List.range its.length).map fun k=>its.length-1-k).filterMap (its[·]?):=by simp
 rw[fm,List.filterMap_map]
 have g:(List.range its.length).filterMap ((its[·]?)∘fun k=>its.length-1-k)=its.reverse:=by
   have h1:∀k∈List.range its.length,((its[·]?)∘fun k=>its.length-1-k) k=some (its.reverse[k]?.getD .none):=fun k hk=>by
     have hk:=List.mem_range.mp hk
     show its[its.length-1-k]?=_
     rw[List.getElem?_reverse hk,List.getElem?_eq_getElem (by omega)]
     rfl
   rw[B6b _ h1]
   apply List.ext_getElem?
   intro j
   rw[List.getElem?_map]
   by_cases hj:j<its.length
   . rw[List.getElem?_range hj]
     show some (its.reverse[j]?.getD .none)=its.reverse[j]?
     rw[List.getElem?_eq_getElem (by simpa using hj)]
     rfl
   . rw[List.getElem?_eq_none (by simpa using hj),List.getElem?_eq_none (by simpa using hj)]
     rfl
 rw[g]
theorem A0gr{e st:Expr}{te ts:TE}{p2 pos:Pos}(he:PE X e te)(hst:PE X st ts):PE X (.Subscript e (.Slice none none (some st) p2) pos) (tRev X.K te ts):=by
 intro pins s σ H Q I h
 refine Subscript_ (thn (he pins s σ H _ I h) fun v s1 hh_=>?_)
 obtain⟨x,H1,I1,r1,q1⟩:=hh_
 refine wpAny_Slice ?_
 rw[evalPart_none]
 refine wpAny_pure (wpAny_pure ?_)
 rw[evalPart_some]
 refine thn (hst pins s1 σ H1 _ I1 q1) fun vs s3 hh_=>?_
 obtain⟨z,H3,I3,rz,q3⟩:=hh_
 obtain⟨rfl,a,xs,rfl,hx,q⟩:=q3
 obtain⟨t,rfl⟩:=rz
 cases r1
 have I4:Inv X pins σ H3 {s3 with heap:=s3.heap.push {cls:= .type "slice",data:= .fields #[.none,.none,.int (-1) t]}}:=I3.kept (t':=s3.toks) fun b ob q=>Heap.get?_push_of_some _ q
 obtain⟨its,r,ht,hz⟩:=I4.list hx
 have hlen:=r.length
 have hg:wpAny (model X.prog X.w) X.A (getItem (.ref a) (.ref s3.heap.objs.size)) (EP X pins σ Q) X.xe {s3 with heap:=s3.heap.push {cls:= .type "slice",data:= .fields #[.none,.none,.int (-1) t]}}:=by
   refine wpAny_getItem_list_slice ht.isList (Heap.IsSliceOf.new ..) .none .none (.int (-1) t) (by decide) ?_ (by rw[List.size_toArray]<;>omega)
   rw[Y1y]
   refine⟨.ref _,_,I4.laid (t':=s3.toks) (o:= .lst xs.reverse) (fun b ob q=>Heap.get?_push_of_some _ q) (Nat.le_refl _) ?_,rfl,q _ (I4.hok.fresh (Nat.le_refl _))⟩
   exact⟨by rw[List.length_reverse];exact hz,_,0,r.reverse,Heap.get?_push_size _ rfl⟩
 show wpAny (model X.prog X.w) X.A (subscriptTail e (.Slice none none (some st) p2) (.ref a) (.ref s3.heap.objs.size)) (EP X pins σ Q) X.xe {s3 with heap:=s3.heap.push {cls:= .type "slice",data:= .fields #[.none,.none,.int (-1) t]}}
 exact tail_any (ops:=[.ref a,.ref s3.heap.objs.size]) ht.isList.typeIs slot_list_getitem.lookup hg (by with_unfolding_all rfl)
end
noncomputable def Exc1 (D:Addr) (H H':Hp):Prop:=∀b o,H b=some o ->b≠D ->H' b=some o
theorem C7z{J:It}{g:TG}{tc:TT}{te:TE}{σ0:St}{H1:Hp}{QD:Addr ->Hp ->Prop}{n:Nat}(f:Nat ->Bool)(R:Nat ->V ->Hp ->Prop)(hn:n<=1000)
   (mono:∀i y H' H'' D l,R i y H' ->H' D=some (.lst l) ->Exc1 D H' H'' ->R i y H'')
   (step:∀(i:Nat) (H2:Hp) (Qy:VK) (Qn:Hp ->Prop),i<n ->B7 H1 H2 ->(f i=true ->∀y H6,B7 H2 H6 ->R i y H6 ->Qy y H6) ->(f i=false ->∀H6,B7 H2 H6 ->Qn H6) ->J.go i H2/\∀x H3,J.yld i H2 x H3 ->g x σ0 H3 fun σ4 H4=>tc σ4 H4 fun b H5=>if b=true then te σ4 H5 Qy else Qn H5)
   (stop:∀H2,B7 H1 H2 ->J.stop n H2)
   (k:∀D H' ys,B7 H1 H' ->H1 D=none ->H' D=some (.lst ys) ->ys.length=((List.range n).filter f).length ->(∀(j i:Nat) (y:V),((List.range n).filter f)[j]?=some i ->ys[j]?=some y ->R i y H') ->QD D H'):∀D,H1 D=none ->
   ∃ (m:Nat) (W:Nat ->List V ->Hp ->Prop),W 0 [] (upd H1 D (.lst []))/\∀i ys H2,W i ys H2 ->i<=m/\H2 D=some (.lst ys)/\((J.stop i H2/\QD D H2)\/(i<m/\J.go i H2/\∀x H3,J.yld i H2 x H3 ->
     g x σ0 H3 fun σ4 H4=>tc σ4 H4 fun b H5=>if b=true then te σ4 H5 fun y H6=>H6 D=some (.lst ys)/\ys.length<sizeLine/\W (i+1) (ys++ [y]) (upd H6 D (.lst (ys++ [y]))) else W (i+1) ys H5)):=by
 intro D hD
 refine⟨n,fun i ys H2=>i<=n/\ys.length=((List.range i).filter f).length/\H2 D=some (.lst ys)/\B7 H1 H2/\∀(j i':Nat) (y:V),((List.range i).filter f)[j]?=some i' ->ys[j]?=some y ->R i' y H2,⟨Nat.zero_le _,rfl,A7,B7.upd hD,fun j i' y h=>by simp at h⟩,?_⟩
 rintro i ys H2 ⟨hi,hl,hd,sm,hR⟩
 refine⟨hi,hd,?_⟩
 by_cases hlt:i<n
 . have fl :((List.range i).filter f).length<=i:=Nat.le_trans (List.length_filter_le _ _) (by simp)
   refine .inr ⟨hlt,step i H2 _ _ hlt sm (fun hf y H6 s6 r6=>?_) (fun hf H6 s6=>?_)⟩
   . have d6:H6 D=some (.lst ys):=s6 _ _ hd
     have ex:Exc1 D H6 (upd H6 D (.lst (ys++ [y]))):=fun b o e hb=>by rw[C9 hb];exact e
     have ef:(List.range (i+1)).filter f=(List.range i).filter f++ [i]:=by rw[List.range_succ,List.filter_append,List.filter_cons,hf];rfl
     refine⟨d6,Nat.lt_of_le_of_lt (by omega:ys.length<=1000) (Y0 (Nat.le_refl _)),hlt,by rw[ef,List.length_append,List.length_append,hl];rfl,A7,fun b o e=>?_,fun j i' z hi' hj=>?_⟩
     . rw[C9 (D8 e hD)]
       exact s6 _ _ (sm _ _ e)
     . rw[ef] at hi'
       by_cases hj':j<ys.length
       . rw[List.getElem?_append_left hj'] at hj
         rw[List.getElem?_append_left (by omega)] at hi'
         exact mono i' z H6 _ D ys (mono i' z H2 H6 D ys (hR j i' z hi' hj) hd fun b o e _=>s6 _ _ e) d6 ex
       . rw[List.getElem?_append_right (by omega)] at hj
         rw[List.getElem?_append_right (by omega)] at hi'
         have e0:j-ys.length=0:=by
           apply Classical.byContradiction
           intro q
           rw[List.getElem?_eq_none (by simp;omega)] at hj
           cases hj
         rw[e0] at hj
         rw[<-hl,e0] at hi'
         cases hj
         cases hi'
         exact mono _ _ H6 _ D ys r6 d6 ex
   . have ef:(List.range (i+1)).filter f=(List.range i).filter f:=by rw[List.range_succ,List.filter_append,List.filter_cons,hf];simp
     refine⟨hlt,by rw[ef];exact hl,s6 _ _ hd,sm.trans s6,fun j i' z hi' hj=>?_⟩
     rw[ef] at hi'
     exact mono i' z H2 H6 D ys (hR j i' z hi' hj) hd fun b o e _=>s6 _ _ e
 have e:i=n:=by omega
 subst e
 exact .inl ⟨stop H2 sm,k D H2 ys sm hD hd hl hR⟩
open AutoSeq1 (wpAny_loadPart')
section
variable{prog:Program}{w:World}{A:Around}{E:Value ->Shared ->Prop}{s:Shared}
end
section
variable{X:Cx}{es:List Expr}{k:Nat}{tp:Pos}
end
end L2
namespace L2
open PySem PySem.Spec PyProof.Rows PySem.W
section
variable{X:Cx}
theorem G1h:A5e X (.builtin "divmod") (fun xs H Q=>∃i j:Int,xs=[.int i,.int j]/\(0<j/\j.natAbs.log2<9000)/\∀p,H p=none ->Q (.ref p) (upd H p (.tup [.int (i/j),.int (i % j)]))):=by
 intro pins s σ H xs us Q I r h
 obtain⟨i,j,rfl,⟨h1,h2⟩,q⟩:=h
 obtain⟨u,w',rfl,⟨t,rfl⟩,⟨t',rfl⟩⟩:=Y0g r
 refine divmod_int (by omega) ?_ (.inl (PyProof.noPylong_of_log2 h2))
 rw[Int.fdiv_eq_ediv_of_nonneg i (by omega),Int.fmod_eq_emod_of_nonneg i (by omega)]
 refine⟨.ref s.heap.objs.size,upd H s.heap.objs.size (.tup [.int (i/j),.int (i % j)]),I.laid (fun b o e=>Heap.get?_push_of_some _ e) (Nat.le_refl _) ⟨D3 (by show 2<=1000;decide),[.int (i/j) s.toks,.int (i % j) (s.toks+1)],.cons ⟨_,rfl⟩ (.cons ⟨_,rfl⟩ .nil),⟨_,Heap.get?_push_size s.heap rfl,rfl,0,rfl⟩⟩,rfl,q _ (I.hok.fresh (Nat.le_refl _))⟩
end
end L2
namespace L2
open PySem PySem.W PyProof.Rows
section
variable{X:Cx}{o e:Expr}{ta:TE}{m:Str}{apos pos:Pos}{j k:Nat}{ps:List Str}{ι:Type}{cw f:ι ->Addr}{fd:ι ->FuncData}{sp:ι ->Sp}{EH:EK}
end
section
variable{X:Cx}{a b e o:Expr}{es:List Expr}{ta tb te to:TE}{t:TA}{pos:Pos}{st:Stmt}{rest:List Stmt}{ts u:TS}
end
end L2
namespace L2
open PySem PySem.Spec PyProof.Rows PySem.W
section
variable{X:Cx}{x f:Str}{p cpos pos:Pos}{e:Expr}{t:TA}{C fI:Addr}{fdI:FuncData}{ps:List Str}{j k:Nat}
end
theorem V9y{K:Frag}{H:Hp}{σ σf:L2.St}{a:Addr}{zs:List Str}{f:Str ->Bool}{tc:TT}{te:TE}{Q:VK}(hl:SqL K H a (zs.map V.str))(hz:zs.length<=100)
   (ht:∀(z:Str) (H':Hp) (Qb:Bool ->Hp ->Prop),B7 H H' ->Qb (f z) H' ->tc (some (.str z)::σf) H' Qb) (he:∀(z:Str) (H':Hp) (Qv:VK),Qv (.str z) H' ->te (some (.str z)::σf) H' Qv)
   (k:∀D H',B7 H H' ->H D=none ->H' D=some (.lst ((zs.filter f).map V.str)) ->Q (.ref D) H') {js:List Nat} (hj:A5q js σ=σf):B1k 1 js (J1w K (tC (.ref a))) (D7d 0) tc te σ H Q:=by
 refine⟨a,rfl,⟨_,hl⟩,fun D hD=>⟨zs.length,fun i ys H2=>i<=zs.length/\ys=((zs.take i).filter f).map V.str/\H2=upd H D (.lst ys),⟨Nat.zero_le _,rfl,rfl⟩,?_⟩⟩
 rintro i ys H2 ⟨hi,rfl,rfl⟩
 refine⟨hi,A7,?_⟩
 have sm:B7 H (upd H D (.lst (((zs.take i).filter f).map V.str))):=B7.upd hD
 have lz:(((zs.take i).filter f).map V.str).length<=100:=by
   rw[List.length_map]
   exact Nat.le_trans (List.length_filter_le _ _) (by rw[List.length_take];omega)
 by_cases hlt:i<zs.length
 . refine .inr ⟨hlt,⟨_,V.str zs[i],sm.seq hl,by simp[hlt]⟩,fun x H3 y=>?_⟩
   obtain⟨rfl,y⟩:=y
   have ex:x=V.str zs[i]:=by
     have:=y _ (sm.seq hl)
     simp[hlt] at this
     exact this.symm
   subst ex
   rw[hj]
   show tc (some (.str zs[i])::σf) _ _
   refine ht _ _ _ sm ?_
   have et:(zs.take (i+1)).filter f=(zs.take i).filter f++(if f zs[i] then [zs[i]] else []):=by
     rw[List.take_succ_eq_append_getElem hlt,List.filter_append]
     congr 1
     cases hb:f zs[i]<;>simp[hb]
   cases hb:f zs[i] with
   | false=>
     refine U8 ⟨hlt,?_,rfl⟩
     rw[et,hb];simp
   | true=>
     refine Z8 (he _ _ _ ⟨A7,Nat.lt_of_le_of_lt lz (Y0 (by decide)),hlt,?_,?_⟩)
     . rw[et,hb];simp
     . rw[V0f]
 have e:i=zs.length:=by omega
 subst e
 refine .inl ⟨⟨_,sm.seq hl,by simp⟩,k D _ sm hD ?_⟩
 rw[List.take_length]
 exact A7
section
variable{X:Cx}{x y:Str}{e:Expr}{t:TE}{p q:Pos}{pos pos2:Pos}
end
end L2
namespace L2
open PySem PySem.Spec PyProof.Rows
structure A1w(P:Program)(w:World)(K:PySem.W.Frag)(mg:Str ->Option Value)(base:Heap)(CX:CXT)(k:Nat)(f:Addr)(fd:FuncData)(ps:List Str)(sp:Sp):Prop where
 len:∀vs H Q E,sp vs H Q E ->vs.length=ps.length
 run:∀(A:Around) (outer:List Env) (s:Shared) (H:Hp) (args:Args) (us:List Value) (vs:List V) (Q:VK) (E:XK),A.guards=some [] ->Z5 k A ->D3s P w K mg base A outer s H ->BindsTo s fd args (ps.zip us) ->U3 vs us ->sp vs H Q E ->codeAny (model P w) A (Code.call (Value.ref f) args) (CR CX outer P w H s Q E) s
theorem Y2n{CX:CXT}{P:Program}{w:World}{K:PySem.W.Frag}{mg:Str ->Option Value}{base:Heap}{k:Nat}{f:Addr}{name qual:Str}{params:Arguments}{body:List Stmt}{scope:Scope}{dV kV doc pm cdv ct oc:Value}{an od:Option Addr}
   {osl:Array (Option Value)} {N ps:List Str} {sp:Sp} (lk:K.lookup f=some ⟨oc,od,.func (PySem.W.fnOf name qual params body scope dV kV doc pm an cdv ct),osl⟩) (hcd:PySem.W.codeIn K cdv qual=true) (S:B9 N ps scope)
   (len:∀vs H Q E,sp vs H Q E ->vs.length=ps.length)
   (hbody:∀(A:Around) (outer:List Env) (s:Shared) (H:Hp) (vs:List V) (Q:VK) (E:XK),A.guards=some [] ->Z5 k (A.deeper (envOfC qual scope s.heap.objs.size f cdv)) ->sp vs H Q E ->
     ∃t,PSs (A0w CX P w K mg base N qual scope f cdv A outer s H E) body t/\t {nx:=fun _ H'=>Q .non H',rt:=Q} (A4z N vs) H):
   A1w P w K mg base CX (k+1) f (PySem.W.fnOf name qual params body scope dV kV doc pm an cdv ct) ps sp:=by
 refine⟨len,fun A outer s H args us vs Q E hgd hr e0 hb r hsp=>?_⟩
 have hl:=len _ _ _ _ hsp
 have KX:K.In s.heap:=e0.mod.kin.keeps fun b o e=>(e0.bs b o e).1
 have lim:s.heap.NoLimit:=e0.mod.nolimit.keeps fun b o e=>(e0.bs b o e).1
 have hkind:∀y∈ps.zip us,scope.names.lookup y.1=some .local\/(scope.names.lookup y.1=some .cell/\((cellsFrom (s.heap.objs.size+1) scope.names []).lookup y.1).isSome=true):=fun⟨n,v⟩ hy=>by
   rcases S.par n (List.of_mem_zip hy).1 with q|q
   . exact .inl q
   . exact .inr ⟨q,PySem.W.cellsFrom_some _ _ _ (.inl q)⟩
 refine codeAny_call_function hr.depth (KX _ _ lk) rfl S.co S.gen rfl (PySem.W.codeRec_of KX hcd) (hb _ _ _ _ ?_)
 refine wpAny_newFunctionEnv_cells S.kind hkind fun env he s1 x=>?_
 subst he
 refine⟨lim.keeps x.toInCall.keep,codeAny_func ?_⟩
 obtain⟨t,ht,hq⟩:=hbody A outer s H vs Q E hgd (hr.deeper _) hsp
 have I:Inv (A0w CX P w K mg base N qual scope f cdv A outer s H E) [] (A4z N vs) H s1:=D7e S hr.hd e0 hl r x
 refine wpAny_mono (ht [] s1 (A4z N vs) H _ I hq) (fun fl s' hs=>?_) fun e s' hs=>hs
 have fin:∀{σ':St} {H':Hp} {v:V} {u:Value},Inv (A0w CX P w K mg base N qual scope f cdv A outer s H E) [] σ' H' s' ->V0 v u ->Q v H' ->CE outer P w H s Q u s':=
   fun{σ' H' v u} J rv q=>⟨v,H',J.os,J.bare,J.base,J.hok,rv,q⟩
 cases fl with
 | ret u=>
   obtain⟨v,σ',H',J,rv,q⟩:=hs
   exact fin J rv q
 | next=>
   obtain⟨σ',H',J,q⟩:=hs
   exact fin (v:=V.non) (u:=Value.none) J rfl q
 | brk=>
   obtain⟨_,_,_,q⟩:=hs
   exact False.elim q
 | cont=>
   obtain⟨_,_,_,q⟩:=hs
   exact False.elim q
open PySem.W in
theorem Fun.okEG{P:Program}{w:World}{K:Frag}{mg:Str ->Option Value}{base:Heap}{x qual:Str}{st:Stmt}{f:Addr}{fd:FuncData}{N ps:List Str}{k:Nat}{sp:Sp}(F:Fun K x qual st f fd)(S:B9 N ps (A1 st))(len:∀vs H Q E,sp vs H Q E ->vs.length=ps.length)
   (hbody:∀(X:Cx) (cdv:Value) (A:Around) (outer:List Env) (s:Shared) (H:Hp) (vs:List V) (Q:VK) (E:XK),X=A0w (CX1 P w) P w K mg base N qual (A1 st) f cdv A outer s H E ->X.A.guards=some [] ->Z5 k X.A ->G5 X (fun C dd _ H'=>E C dd H') ->sp vs H Q E ->
     ∃t,PSs (A0w (CX1 P w) P w K mg base N qual (A1 st) f cdv A outer s H E) (B5 st) t/\t {nx:=fun _ H'=>Q .non H',rt:=Q} (A4z N vs) H):A1w P w K mg base (CX1 P w) (k+1) f fd ps sp:=by
 obtain⟨oc,od,kV,doc,pm,an,cdv,ct,osl,rfl,lk,hc⟩:=F.ex
 exact Y2n lk hc S len fun A outer s H vs Q E hg hr h=>hbody _ cdv A outer s H vs Q E rfl hg hr A8a h
end L2
namespace L2
open PySem PySem.Spec PyProof.Rows PySem.W
mutual
inductive RdR(H:Hp):V ->PyData ->Prop where
 |non:RdR H .non .none
 |bl (b:Bool):RdR H (.bl b) (.bool b)
 |int (i:Int):RdR H (.int i) (.int i)
 |str (x:Str):RdR H (.str x) (.str x)
 |tup {a:Addr} {xs:List V} {ds:List PyData} (h:H a=some (.tup xs)) (r:B6a H xs ds):RdR H (.ref a) (.tuple ds)
 |lst {a:Addr} {xs:List V} {ds:List PyData} (h:H a=some (.lst xs)) (n:a≠sysModules) (r:B6a H xs ds):RdR H (.ref a) (.list ds)
 |dct0 {a:Addr} (h:H a=some (.dK [])):RdR H (.ref a) (.dict [])
 |dct1 {a:Addr} {z:Str} {b:Bool} (h:H a=some (.dK [(.inr z,.bl b)])):RdR H (.ref a) (.dict [(.str z,.bool b)])
inductive B6a(H:Hp):List V ->List PyData ->Prop where
 |nil:B6a H [] []
 |cons {x:V} {xs:List V} {d:PyData} {ds:List PyData} (h:RdR H x d) (r:B6a H xs ds):B6a H (x::xs) (d::ds)
end
mutual
theorem RdR.same{H H':Hp}(s:∀b o,H b=some o ->H' b=some o):∀{x:V} {d:PyData},RdR H x d ->RdR H' x d
 |_,_,.non=> .non
 |_,_,.bl b=> .bl b
 |_,_,.int i=> .int i
 |_,_,.str x=> .str x
 |_,_,.tup h r=> .tup (s _ _ h) (B6a.same s r)
 |_,_,.lst h n r=> .lst (s _ _ h) n (B6a.same s r)
 |_,_,.dct0 h=> .dct0 (s _ _ h)
 |_,_,.dct1 h=> .dct1 (s _ _ h)
theorem B6a.same{H H':Hp}(s:∀b o,H b=some o ->H' b=some o):∀{x:List V} {d:List PyData},B6a H x d ->B6a H' x d
 |_,_,.nil=> .nil
 |_,_,.cons h r=> .cons (RdR.same s h) (B6a.same s r)
end
section
variable{X:Cx}
mutual
theorem RdR.reads{pins:List (Addr×Obj)}{σ:St}{H:Hp}{s:Shared}(I:Inv X pins σ H s):∀{x:V} {d:PyData} {u:Value},RdR H x d ->V0 x u ->∃as,Reads s.heap u d as/\sysModules ∉ as
 |_,_,_,.non,r=>by cases r;exact⟨_,.none,by simp⟩
 |_,_,_,.bl b,r=>by cases r;exact⟨_,.bool b,by simp⟩
 |_,_,_,.int i,r=>by obtain⟨t,rfl⟩:=r;exact⟨_,.int i t,by simp⟩
 |_,_,_,.str x,r=>by obtain⟨t,rfl⟩:=r;exact⟨_,.str x t,by simp⟩
 | _,_,_,.tup h q,r=>by
   cases r
   obtain⟨_,its,rv,o,e,c,n,d⟩:=I.hok _ _ h
   obtain⟨as,z,y⟩:=B6a.reads I q rv
   exact⟨_,.tuple e c d (by simpa using z),y⟩
 | _,_,_,.lst (a:=a) h nn q,r=>by
   cases r
   obtain⟨_,its,n,rv,e⟩:=I.hok _ _ h
   obtain⟨as,z,y⟩:=B6a.reads I q rv
   refine⟨_,.list e rfl rfl (by simpa using z),fun hm=>?_⟩
   rcases List.mem_cons.mp hm with hm|hm
   . exact nn hm.symm
   . exact y hm
 | _,_,_,.dct0 (a:=a) h,r=>by
   cases r
   obtain⟨_,nS,vs,kv,o,es,ep,e,c,d,_,ps,_⟩:=I.hok _ _ h
   cases kv
   cases hp:es.toList with
   |cons _ _=>rw[hp] at ps;cases ps
   | nil=>
     refine⟨_,.dict (kvs:=[]) e c.1 d (by rw[hp];exact .nil) (by rw[hp];exact .nil),fun hm=>?_⟩
     exact beq_eq_false_iff_ne.mp nS (by simpa using hm:sysModules=a).symm
 | _, _, _,.dct1 (a:=a) (z:=z) (b:=b) h,r=>by
   cases r
   obtain⟨_,nS,vs,kv,o,es,ep,e,c,d,_,ps,_⟩:=I.hok _ _ h
   cases kv with
   | cons k1 k2=>
     cases k2
     obtain⟨k1a,k1b⟩:=k1
     cases ps':es.toList with
     |nil=>rw[ps'] at ps;cases ps
     | cons en rest=>
       rw[ps'] at ps
       cases ps with
       | cons p1 p2 p3=>
         cases p3
         have hk:∃t,en.key= .str z t:=by
           rw[<-k1a] at p1
           have p1:Value.isStrOf z en.key=true:=p1
           cases hk:en.key<;>rw[hk] at p1<;>simp[Value.isStrOf] at p1
           subst p1
           exact⟨_,rfl⟩
         obtain⟨t,hk⟩:=hk
         have hv:en.val= .bool b:=p2.trans k1b
         refine⟨_,.dict (kvs:=[(.str z,.bool b)]) e c.1 d (by rw[ps'];show ReadsAll s.heap [en.key] [.str z] _;rw[hk];exact .cons (.str z t) .nil) (by rw[ps'];show ReadsAll s.heap [en.val] [.bool b] _;rw[hv];exact .cons (.bool b) .nil),fun hm=>?_⟩
         exact beq_eq_false_iff_ne.mp nS (by simpa using hm:sysModules=a).symm
theorem B6a.reads{pins:List (Addr×Obj)}{σ:St}{H:Hp}{s:Shared}(I:Inv X pins σ H s):∀{xs:List V} {ds:List PyData} {us:List Value},B6a H xs ds ->U3 xs us ->∃as,ReadsAll s.heap us ds as/\sysModules ∉ as
 |_,_,_,.nil,r=>by cases r;exact⟨_,.nil,by simp⟩
 | _,_,_,.cons h q,r=>by
   cases r with
   | cons r1 r2=>
     obtain⟨as,z,n1⟩:=RdR.reads I h r1
     obtain⟨bs,y,n2⟩:=B6a.reads I q r2
     exact⟨_,.cons z y,by simp[n1,n2]⟩
end
noncomputable def A1f (d:PyData):Prop:=d.showable=true/\d.depth<=10/\d.shown.length<=sizeLine
end
section
variable{X:Cx}{j k:Nat}{f C:Addr}{fd:FuncData}{ps:List Str}{sp:Sp}{dvs:List V}{ds:List Value}{x m:Str}{p pos apos:Pos}{e o:Expr}{es:List Expr}{ta:TE}{t:TA}{st:Stmt}
end
structure G1p(mg:Str ->Option Value)(base:Heap)(c P:Addr):Prop where
 code:CodeHd base c P
 bm:∃bm ob,mg "__builtins__"=some (.ref bm)/\bm≠builtinsNs/\bm≠mainGlobals/\base.get? bm=some ob/\ob.cls= .type "module"/\ob.dict=some builtinsNs/\ob.data= .plain
noncomputable def A0dz (oc:Obj) (qual:Str):Prop:=∃vs t,oc.data= .fields vs/\vs[1]?=some (.str qual t)
noncomputable def TabOk (P:Addr) (pos:Pos) (qual:Str) (H:Hp):Prop:=∃ps,H P=some (.tbl ps)/\TriplesOk ps.toList/\(codeAmong pos ps.toList=none\/∃c' oc,codeAmong pos ps.toList=some (.ref c')/\H c'=some (.frz oc (.own c'))/\A0dz oc qual)
noncomputable def C6b (H:Hp) (f:Addr) (qual:Str) (params:Arguments) (body:Expr) (scope:Scope) (clos:List (Str×Addr)):Prop:=
 ∃pm c' ctv oc,H f=some (.frz (kla_obj "<lambda>" qual params body scope clos pm c' ctv) (.own f))/\H c'=some (.frz oc (.own c'))/\A0dz oc qual
noncomputable def A3q (P:Addr) (H H':Hp):Prop:=∀b o,b≠P ->H b=some o ->H' b=some o
noncomputable def tLam (P:Addr) (pos:Pos) (qual:Str) (params:Arguments) (body:Expr) (scope:Scope) (clos:List (Str×Addr)):TE:=fun _ H Q=>TabOk P pos qual H/\∀f H',A3q P H H' ->H f=none ->C6b H' f qual params body scope clos ->TabOk P pos qual H' ->(∀pos' q',(pos'.line≠pos.line\/pos'.col≠pos.col) ->TabOk P pos' q' H ->TabOk P pos' q' H') ->Q (.ref f) H'
theorem B9e{a b c:Value}{n m:Int}{t u:Tok}:∀l:List Value,TriplesOk l ->TriplesOk (l++ [.int n t,.int m u,c]):=by
 intro l h
 fun_induction TriplesOk l with
 |case1=>exact True.intro
 |case2 _ _ _ _ _ rest ih=>exact ih h
 |case3=>exact h.elim
theorem J8r{pos pos':Pos}{c:Value}(hp:pos'.line≠pos.line\/pos'.col≠pos.col):∀l:List Value,TriplesOk l ->codeAmong pos' (l++ [rawInt pos.line,rawInt pos.col,c])=codeAmong pos' l:=by
 intro l h
 fun_induction TriplesOk l with
 | case1=>
   have:¬(((pos.line:Int)==(pos'.line:Int)&&(pos.col:Int)==(pos'.col:Int))=true):=by
     intro z
     simp only[Bool.and_eq_true,beq_iff_eq] at z
     omega
   show(if((pos.line:Int)==(pos'.line:Int)&&(pos.col:Int)==(pos'.col:Int))=true then some c else codeAmong pos' [])=none
   rw[if_neg this]
   rfl
 | case2 a t b u x rest ih=>
   show(if _ then _ else codeAmong pos' (rest++_))=(if _ then _ else codeAmong pos' rest)
   rw[ih h]
 |case3=>exact h.elim
theorem Z7 {X:Cx} {c P:Addr} {params:Arguments} {body:Expr} {scope:Scope} {pos:Pos} {clos:List (Str×Addr)} (L:G1p X.mg X.base c P) (hc:X.env.code= .ref c) (hcl:closureFor scope X.env=pure clos) (hex:X.ex=[]:=by rfl) (hdef:defaultsOf params X.env=([],[]):=by rfl):
   PE X (.Lambda params body scope pos) (tLam P pos (X.env.qual++"<lambda>") params body scope clos):=by
 intro pins s σ H Q I ⟨⟨ps,hP,ht,hcase⟩,k⟩
 obtain⟨bm,ob,b1,b2,b3,b4,b5,b6,b7⟩:=L.bm
 have hg:s.heap.Ns mainGlobals X.mg:=I.ok.mod.glob.keeps I.bk
 have hPo:s.heap.get? P=some (tabObj ps):=I.hok P _ hP
 have nP:∀b o,X.base.get? b=some o ->b≠P:=fun b o e z=>by
   have:=(I.bs b o e).2
   rw[z,hP] at this
   cases this
 have hgP:mainGlobals≠P:=by
   obtain⟨o,_,_,e,_⟩:=I.ok.mod.glob
   exact nP _ _ e
 refine kla_eval hdef ?_
 rcases hcase with hnf|⟨c',oc,hf,hc',ho⟩
 . refine kla_makeFunction hcl I.ok.glob hg hc (L.code.keeps I.bk) hPo ht hnf hgP ⟨bm,ob,b1,b2,b3,nP _ _ b4,I.bk _ _ b4,b5,b6,b7⟩ fun c' ctv h' tk hx hge hlt hrec htb=>?_
   obtain⟨c2,oc,vs,t,e2,hoc,hd,hv⟩:=hrec
   cases e2
   generalize hfo:kla_obj "<lambda>" (X.env.qual++"<lambda>") params body scope clos ((X.mg "__name__").getD .none) c' ctv=fo
   have kx:∀b o,b≠P ->s.heap.get? b=some o ->(h'.push fo).get? b=some o:=fun b o hb e=>Heap.get?_push_of_some _ (hx b o hb e)
   have fP:∀b,H b=none ->b≠P:=fun b n z=>by rw[z,hP] at n;cases n
   have I1 : Inv X pins σ (upd H P (.tbl (ps++ #[rawInt pos.line,rawInt pos.col,.ref c']))) {s with heap:=h'.push fo,toks:=tk}:=by
     refine I.un ⟨fun b o e n _ _=>kx b o (fP b n) e,fun b o e n _ _=>⟨o.slots,kx b o (fP b n) e⟩,fun b o e n _=>by rw[C9 (fP b n)];exact n,fun b o e _=>?_,fun b xs e=>?_,fun b o u e=>?_,fun b qs e=>?_⟩ fun b u e=>?_
     . by_cases hb:b=P
       . exact⟨_,by rw[hb];exact Heap.get?_push_of_some _ htb⟩
       . exact⟨o,kx b o hb e⟩
     . rw[C9 (by rintro rfl;rw[hP] at e;cases e)];exact e
     . rw[C9 (by rintro rfl;rw[hP] at e;cases e)];exact e
     . by_cases hb:b=P
       . subst hb
         rw[hP] at e
         cases e
         exact⟨_,A7⟩
       . exact⟨#[],by rw[C9 hb,e];simp⟩
     . by_cases hb:b=P
       . subst hb
         rw[A7] at e
         cases e
         exact Heap.get?_push_of_some _ htb
       . rw[C9 hb] at e
         refine(I.hok b u e).stay (fun d v hd q=>kx d v ?_ q) (fun d q=>?_) fun d xs q=>?_
         . rcases hd with rfl|hd
           . exact hb
           . rintro rfl
             rw[hP] at hd
             cases hd
         . rw[C9 (by rintro rfl;rw[hP] at q;cases q)];exact q
         . rw[C9 (by rintro rfl;rw[hP] at q;cases q)];exact q
   have nc:s.heap.get? c'=none:=Heap.get?_none_of_le hge
   have nf:s.heap.get? h'.objs.size=none:=Heap.get?_none_of_le (Nat.le_trans hge (Nat.le_of_lt hlt))
   have uc:H c'=none:=I.hok.new nc
   have uf:H h'.objs.size=none:=I.hok.new nf
   have cP:c'≠P:=fP c' uc
   have fP':h'.objs.size≠P:=fP _ uf
   have cf:c'≠h'.objs.size:=Nat.ne_of_lt hlt
   have I2:=I1.track (a:=c') (o:=oc) (I.nw hex nc (by rw[C9 cP];exact uc)) (Heap.get?_push_of_some _ hoc)
   have I3:=I2.track (a:=h'.objs.size) (o:=fo) (I.nw hex nf (by rw[C9 cf.symm,C9 fP'];exact uf)) (Heap.get?_push_size _ (by rw[<-hfo];rfl))
   refine⟨.ref h'.objs.size,_,I3,rfl,k _ _ (fun b o hb e=>?_) uf ⟨_,c',ctv,oc,by rw[A7,hfo],by rw[C9 cf,A7],vs,t,hd,hv⟩ ⟨ps++ #[rawInt pos.line,rawInt pos.col,.ref c'],by rw[C9 fP'.symm,C9 cP.symm,A7],?_,.inr ⟨c',oc,?_,by rw[C9 cf,A7],vs,t,hd,hv⟩⟩ fun pos' q' hp ⟨ps2,z1,z2,z3⟩=>⟨ps++ #[rawInt pos.line,rawInt pos.col,.ref c'],by rw[C9 fP'.symm,C9 cP.symm,A7],?_,?_⟩⟩
   . rw[C9 (by rintro rfl;rw[uf] at e;cases e),C9 (by rintro rfl;rw[uc] at e;cases e),C9 hb];exact e
   . rw[Array.toList_append]
     exact B9e (a:= .none) (b:= .none) _ ht
   . rw[Array.toList_append]
     exact codeAmong_snoc _ ht hnf
   . rw[Array.toList_append]
     exact B9e (a:= .none) (b:= .none) _ ht
   . rw[hP] at z1
     cases z1
     rw[Array.toList_append]
     have e:codeAmong pos' (ps.toList++ [rawInt pos.line,rawInt pos.col,Value.ref c'])=codeAmong pos' ps.toList:=J8r hp _ ht
     rcases z3 with z3|⟨c2,oc2,z4,z5,z6⟩
     . exact .inl (e.trans z3)
     . exact .inr ⟨c2,oc2,e.trans z4,by rw[C9 (by rintro rfl;rw[uf] at z5;cases z5),C9 (by rintro rfl;rw[uc] at z5;cases z5),C9 (by rintro rfl;rw[hP] at z5;cases z5)];exact z5,z6⟩
 refine kla_makeFunctionHit hcl I.ok.glob hg hc (L.code.keeps I.bk) hPo ht hf ⟨bm,ob,b1,b2,b3,nP _ _ b4,I.bk _ _ b4,b5,b6,b7⟩ fun ctv h' tk hk hsz=>?_
 generalize hfo:kla_obj "<lambda>" (X.env.qual++"<lambda>") params body scope clos ((X.mg "__name__").getD .none) c' ctv=fo
 have nf:s.heap.get? h'.objs.size=none:=Heap.get?_none_of_le hsz
 have uf:H h'.objs.size=none:=I.hok.new nf
 have I1:Inv X pins σ H {s with heap:=h'.push fo,toks:=tk}:=I.kept fun b o e=>Heap.get?_push_of_some _ (hk b o e)
 have I3:=I1.track (a:=h'.objs.size) (o:=fo) (I.nw hex nf uf) (Heap.get?_push_size _ (by rw[<-hfo];rfl))
 have ne:∀b o,H b=some o ->b≠h'.objs.size:=fun b o e z=>by rw[z,uf] at e;cases e
 show∃v H',Inv X pins σ H' {s with heap:=h'.push (kla_obj "<lambda>" (X.env.qual++"<lambda>") params body scope clos ((X.mg "__name__").getD .none) c' ctv),toks:=tk}/\V0 v (.ref h'.objs.size)/\Q v H'
 rw[hfo]
 refine⟨.ref h'.objs.size,upd H h'.objs.size (.frz fo (.own h'.objs.size)),I3,rfl,k _ _ (fun b o hb e=>by rw[C9 (ne b o e)];exact e) uf ⟨_,c',ctv,oc,by rw[A7,hfo],by rw[C9 (ne _ _ hc')];exact hc',ho⟩ ⟨ps,by rw[C9 (ne _ _ hP)];exact hP,ht,.inr ⟨c',oc,hf,by rw[C9 (ne _ _ hc')];exact hc',ho⟩⟩ fun pos' q' hp ⟨ps2,z1,z2,z3⟩=>⟨ps2,by rw[C9 (ne _ _ z1)];exact z1,z2,z3.imp id fun⟨c2,oc2,z4,z5,z6⟩=>⟨c2,oc2,z4,by rw[C9 (ne _ _ z5)];exact z5,z6⟩⟩⟩
noncomputable def U6 (cs:List Addr) (H:Hp):Hp:=fun b=>if b∈cs then none else H b
noncomputable def A0r (cs:List Addr) (H H':Hp):Hp:=fun b=>if b∈cs then H b else H' b
section
variable{cs:List Addr}{H H' H2:Hp}{b:Addr}{P:Program}{w:World}{h h':Heap}{fs:List Addr}
theorem B9h(hb:b∈cs):U6 cs H b=none:=by unfold U6;rw[if_pos hb]
theorem Y3(hb:b ∉ cs):U6 cs H b=H b:=by unfold U6;rw[if_neg hb]
theorem B5f(n:H b=none):U6 cs H b=none:=by
 unfold U6
 split
 . rfl
 exact n
theorem C6v(hb:b∈cs):A0r cs H H' b=H b:=by unfold A0r;rw[if_pos hb]
theorem Y1(hb:b ∉ cs):A0r cs H H' b=H' b:=by unfold A0r;rw[if_neg hb]
noncomputable def Z0 (cs:List Addr) (H:Hp):Prop:=∀c∈cs,∃o,H c=some (.frz o (.own c))
theorem Z0.out{u:HO}(A:Z0 cs H)(e:H b=some u)(hu:∀o,u≠ .frz o (.own b)):b ∉ cs:=fun hb=>by
 obtain⟨o,z⟩:=A b hb
 rw[e] at z
 exact hu o (Option.some.inj z)
theorem Z0.hide{u:HO}(A:Z0 cs H)(e:H b=some u)(hu:∀o,u≠ .frz o (.own b)):U6 cs H b=some u:=by rw[Y3 (A.out e hu)];exact e
theorem HOk.hide(x:HOk P w H h)(A:Z0 cs H):HOk P w (U6 cs H) h:=fun a o e=>by
 by_cases ha:a∈cs
 . rw[B9h ha] at e;cases e
 . rw[Y3 ha] at e
   exact(x a o e).stay (fun _ _ _ q=>q) (fun d q=>A.hide q fun o z=>nomatch z) fun d xs q=>A.hide q fun o z=>nomatch z
theorem A0j(s:B7 (U6 cs H) H'):B7 H (A0r cs H H'):=fun a o e=>by
 by_cases ha:a∈cs
 . rw[C6v ha];exact e
 . rw[Y1 ha];exact s a o (by rw[Y3 ha];exact e)
theorem Z9d(u:Un fs [] (U6 cs H) H' h h')(A:Z0 cs H):Un fs [] H (A0r cs H H') h h' where
 keep:=fun b o e n hb hx=>u.keep b o e (by unfold U6;split<;>first|rfl|exact n) hb hx
 slot:=fun b o e n hb hx=>u.slot b o e (by unfold U6;split<;>first|rfl|exact n) hb hx
 free:=fun b o e n hx=>by
   have hb:b ∉ cs:=fun z=>by
     obtain⟨o,q⟩:=A b z
     rw[n] at q;cases q
   rw[Y1 hb]
   exact u.free b o e (by rw[Y3 hb];exact n) hx
 there:=u.there
 tups:=fun b xs e=>by
   have hb:=A.out e fun o z=>nomatch z
   rw[Y1 hb]
   exact u.tups b xs (by rw[Y3 hb];exact e)
 frzs:=fun b o v e=>by
   by_cases hb:b∈cs
   . rw[C6v hb];exact e
   . rw[Y1 hb];exact u.frzs b o v (by rw[Y3 hb];exact e)
 tbls:=fun b ps e=>by
   have hb:=A.out e fun o z=>nomatch z
   rw[Y1 hb]
   exact u.tbls b ps (by rw[Y3 hb];exact e)
theorem V1d(u:Un fs [] (U6 cs H) H' h h')(A:Z0 cs H)(x:HOk P w H h):∀c∈cs,H' c=none:=fun c hc=>by
 obtain⟨o,e⟩:=A c hc
 obtain⟨e1,_⟩:=x c _ e
 exact u.free c o e1 (B9h hc) (by simp)
theorem Y1a(u:Un fs [] (U6 cs H) H' h h')(A:Z0 cs H)(x:HOk P w H h)(x':HOk P w H' h')(hf:∀b∈fs,H b=none):HOk P w (A0r cs H H') h':=fun a o e=>by
 have nn:=V1d u A x
 by_cases ha:a∈cs
 . rw[C6v ha] at e
   obtain⟨o',e'⟩:=A a ha
   rw[e] at e'
   cases e'
   obtain⟨e1,_⟩:=x a _ e
   have e2:=u.keep a o' e1 (B9h ha) (fun z=>by rw[hf a z] at e;cases e) (by simp)
   exact⟨e2,o',e2⟩
 . rw[Y1 ha] at e
   refine(x' a o e).stay (fun _ _ _ q=>q) (fun d q=>?_) fun d xs q=>?_
   . rw[Y1 fun z=>by rw[nn d z] at q;cases q];exact q
   . rw[Y1 fun z=>by rw[nn d z] at q;cases q];exact q
theorem A0ak(u:Un fs [] H2 H' h h')(A:Z0 cs H2)(ho:∀b,b ∉ cs ->H2 b=H b)(hn:∀b∈cs,H b=none)(x:HOk P w H2 h)(x':HOk P w H' h'):Un fs [] H (U6 cs H') h h':=by
 have kp:∀b o,b∈cs ->h.get? b=some o ->h'.get? b=some o:=fun b o hb e=>by
   obtain⟨o1,z⟩:=A b hb
   obtain⟨e1,_⟩:=x b _ z
   rw[e] at e1
   cases e1
   exact(x' b _ (u.frzs b _ _ z)).1
 have out:∀b v,H b=some v ->b ∉ cs:=fun b v e z=>by rw[hn b z] at e;cases e
 refine⟨fun b o e n hb hx=>?_,fun b o e n hb hx=>?_,fun b o e n hx=>?_,u.there,fun b xs e=>?_,fun b o v e=>?_,fun b ps e=>?_⟩
 . by_cases hc:b∈cs
   . exact kp b o hc e
   . exact u.keep b o e (by rw[ho b hc];exact n) hb hx
 . by_cases hc:b∈cs
   . exact⟨o.slots,kp b o hc e⟩
   . exact u.slot b o e (by rw[ho b hc];exact n) hb hx
 . by_cases hc:b∈cs
   . exact B9h hc
   . rw[Y3 hc];exact u.free b o e (by rw[ho b hc];exact n) hx
 . rw[Y3 (out b _ e)];exact u.tups b xs (by rw[ho b (out b _ e)];exact e)
 . rw[Y3 (out b _ e)];exact u.frzs b o v (by rw[ho b (out b _ e)];exact e)
 rw[Y3 (out b _ e)];exact u.tbls b ps (by rw[ho b (out b _ e)];exact e)
end
noncomputable def C9c (H:Hp) (c:Addr) (v:V):Prop:=∃o u,H c=some (.frz o (.own c))/\o.data= .cell (some u)/\V0 v u
noncomputable def C7u (CX:CXT) (P:Program) (w:World) (K:Frag) (mg:Str ->Option Value) (base:Heap) (N:List Str) (qual:Str) (scope:Scope) (f:Addr) (cd:Value) (cl:List (Str×Addr)) (A:Around) (outer:List Env) (s:Shared) (H:Hp) (E:XK):Cx where
 prog:=P
 w:=w
 K:=K
 mg:=mg
 base:=base
 A:=A.deeper (envX qual scope s.heap.objs.size f cd cl)
 N:=N
 s₀:=s
 H₀:=H
 env:=envX qual scope s.heap.objs.size f cd cl
 outer:=outer
 stack:=envX qual scope s.heap.objs.size f cd cl::outer
 ex:=[]
 calm:=true
 fn:=fun _=>false
 pn:=[]
 xe:=fun e s'=>wpAny (model P w) (A.deeper (envX qual scope s.heap.objs.size f cd cl)) (leaving (envX qual scope s.heap.objs.size f cd cl) e) (fun _ s''=>CX outer H s E e s'') (fun e' s''=>CX outer H s E e' s'') s'
structure C0v(F:List Str)(sc:Scope):Prop where
 kind:sc.kind= .function
 co:sc.isCoroutine=false
 gen:sc.isGenerator=false
 nocell:∀y∈sc.names,y.2≠ .cell
 fr:∀y∈sc.names,y.2= .free ->y.1∈F
 at_:∀x∈F,sc.names.lookup x=some .free
 nd:F.Nodup
structure B2e(P:Program)(w:World)(K:Frag)(mg:Str ->Option Value)(base:Heap)(k:Nat)(f:Addr)(J:Hp ->Prop)(sp:Hp ->VK ->XK ->Prop):Prop where
 fn:∀H h,J H ->HOk P w H h ->FnAt f h
 run:∀(A:Around) (outer:List Env) (s:Shared) (H:Hp) (Q:VK) (E:XK),Z5 k A ->D3s P w K mg base A outer s H ->J H ->sp H Q E ->codeAny (model P w) A (.call (.ref f) ⟨[],[]⟩) (CR (CX1 P w) outer P w H s Q E) s
noncomputable def Z8t (f:Addr) (qual:Str) (params:Arguments) (body:Expr) (scope:Scope) (cl:List (Str×Addr)) (vs:List V) (H:Hp):Prop:=
 C6b H f qual params body scope cl/\∀(i:Nat) (x:Str) (c:Addr),cl[i]?=some (x,c) ->∃v,vs[i]?=some v/\C9c H c v
theorem C0g:∀{cl:List (Str×Addr)} {i:Nat} {x:Str} {c:Addr},(cl.map (·.1)).Nodup ->cl[i]?=some (x,c) ->cl.lookup x=some c
 | [],i,x,c,_,h=>by cases i<;>cases h
 |(y,d)::r,0,x,c,_,h=>by cases h;simp[List.lookup]
 | (y,d)::r,i+1,x,c,nd,h=>by
   have nd':y ∉ r.map (·.1)/\(r.map (·.1)).Nodup:=List.nodup_cons.mp nd
   have hm:x∈r.map (·.1):=List.mem_map.mpr ⟨(x,c),List.mem_of_getElem? (by simpa using h),rfl⟩
   have ne:(x==y)=false:=beq_eq_false_iff_ne.mpr fun z=>nd'.1 (z▸hm)
   rw[List.lookup_cons,ne]
   exact C0g nd'.2 (by simpa using h)
theorem Y2v:∀{cl:List (Str×Addr)} {x y:Str} {c:Addr},(cl.map (·.2)).Nodup ->(x,c)∈cl ->(y,c)∈cl ->x=y
 | p::r,x,y,c,nd,h1,h2=>by
   have nd':p.2 ∉ r.map (·.2)/\(r.map (·.2)).Nodup:=List.nodup_cons.mp nd
   rcases List.mem_cons.mp h1 with e1|h1<;>rcases List.mem_cons.mp h2 with e2|h2
   . rw[<-e1] at e2;cases e2;rfl
   . exact absurd (List.mem_map.mpr ⟨(y,c),h2,by rw[<-e1]⟩) nd'.1
   . exact absurd (List.mem_map.mpr ⟨(x,c),h1,by rw[<-e2]⟩) nd'.1
   . exact Y2v nd'.2 h1 h2
theorem J2s{P:Program}{w:World}{K:Frag}{mg:Str ->Option Value}{base:Heap}{N:List Str}{qual:Str}{scope:Scope}{f:Addr}{cd:Value}{cl:List (Str×Addr)}{A:Around}{outer:List Env}{s:Shared}{H:Hp}{E:XK}:
   G5 (C7u (CX1 P w) P w K mg base N qual scope f cd cl A outer s H E) (fun C dd _ H'=>E C dd H'):=by
 intro pins σ H' s' a t C dd I F h
 refine D8b (X:=C7u (CX1 P w) P w K mg base N qual scope f cd cl A outer s H E) ⟨rfl,rfl,rfl⟩ I F fun s2 I2 F2=>?_
 obtain⟨na,T,oT,ts,e,ne,nT,eT,dT,h3⟩:=F2
 exact⟨a,t,C,dd,H',rfl,I2.os,I2.bare,I2.base,I2.hok,h,⟨na.old,na.un⟩,T,oT,ts,e,ne,⟨nT.old,nT.un⟩,eT,dT,h3⟩
theorem A0ad{P:Program}{w:World}{K:Frag}{mg:Str ->Option Value}{base:Heap}{k:Nat}{f:Addr}{qual:Str}{params:Arguments}{body:Expr}{scope:Scope}{cl:List (Str×Addr)}{vs:List V}{sp:Hp ->VK ->XK ->Prop}
   (S:C0v (cl.map (·.1)) scope) (hF:cl.length=vs.length) (hnd:(cl.map (·.2)).Nodup)
   (hb0:∀(pm:Value) (c':Addr) (ctv:Value),bindArgs (kla_fn "<lambda>" qual params body scope cl pm (.ref c') ctv) ⟨[],[]⟩=pure [])
   (hbody:∀(X:Cx) (cdv:Value) (A:Around) (outer:List Env) (s:Shared) (H:Hp) (Q:VK) (E:XK),X=C7u (CX1 P w) P w K mg base (cl.map (·.1)) qual scope f cdv cl A outer s (U6 (cl.map (·.2)) H) (fun C d H'=>(∀c∈cl.map (·.2),H' c=none) ->E C d (A0r (cl.map (·.2)) H H')) ->Z5 k X.A ->
     G5 X (fun C dd _ H'=>(∀c∈cl.map (·.2),H' c=none) ->E C dd (A0r (cl.map (·.2)) H H')) ->sp H Q E ->Z0 (cl.map (·.2)) H ->
     ∃t,PE (C7u (CX1 P w) P w K mg base (cl.map (·.1)) qual scope f cdv cl A outer s (U6 (cl.map (·.2)) H) (fun C d H'=>(∀c∈cl.map (·.2),H' c=none) ->E C d (A0r (cl.map (·.2)) H H'))) body t/\t (vs.map some) (U6 (cl.map (·.2)) H) (fun v H'=>(∀c∈cl.map (·.2),H' c=none) ->Q v (A0r (cl.map (·.2)) H H'))):
   B2e P w K mg base (k+1) f (Z8t f qual params body scope cl vs) sp:=by
 refine⟨fun H h ⟨⟨pm,c',ctv,oc,e,_⟩,_⟩ hok=>?_,fun A outer s H Q E hr e0 ⟨⟨pm,c',ctv,oc,e,ec,vs',t',hd,hv⟩,hk⟩ hsp=>?_⟩
 . obtain⟨e1,_⟩:=hok f _ e
   exact⟨_,_,_,_,e1⟩
 obtain⟨e1,_⟩:=e0.hok f _ e
 obtain⟨e2,_⟩:=e0.hok c' _ ec
 have lim:s.heap.NoLimit:=e0.mod.nolimit.keeps fun b o e=>(e0.bs b o e).1
 have af:Z0 (cl.map (·.2)) H:=by
   intro c hc
   obtain⟨⟨x,c2⟩,hm,rfl⟩:=List.mem_map.mp hc
   obtain⟨i,hi⟩:=List.mem_iff_getElem?.mp hm
   obtain⟨v,_,o,u,h3,_⟩:=hk i x c2 hi
   exact⟨o,h3⟩
 refine kla_callFunE hr.depth e1 rfl S.co S.gen rfl ⟨c',oc,vs',t',rfl,e2,hd,hv⟩ ?_
 rw[hb0]
 refine wpAny_pure (wpAny_newFunctionEnv S.nocell (fun x hx=>absurd hx (by simp)) (fun h1 hns hsb=>?_) S.kind)
 have hk1:∀b o,s.heap.get? b=some o ->h1.get? b=some o:=fun b o e=>(hsb.2 b (Nat.ne_of_lt (Heap.lt_size e))).trans (Heap.get?_push_of_some _ e)
 refine⟨lim.keeps hk1,?_⟩
 obtain⟨t,ht,hq⟩:=hbody _ (.ref c') A outer s H Q E rfl (hr.deeper _) J2s hsp af
 have hokH:HOk P w (U6 (cl.map (·.2)) H) s.heap:=e0.hok.hide af
 have look:∀x c,cl.lookup x=some c ->(x,c)∈cl:=fun x c z=>PySem.mem_of_lookup z
 have cell:∀x c,cl.lookup x=some c ->∃v,s.heap.IsCell c v:=fun x c z=>by
   obtain⟨i,hi⟩:=List.mem_iff_getElem?.mp (look x c z)
   obtain⟨v,_,o,u,h3,h4,_⟩:=hk i x c hi
   exact⟨_,o,(e0.hok c _ h3).1,h4⟩
 have incs:∀x c,cl.lookup x=some c ->c∈cl.map (·.2):=fun x c z=>List.mem_map.mpr ⟨(x,c),look x c z,rfl⟩
 generalize hX:C7u (CX1 P w) P w K mg base (cl.map (·.1)) qual scope f (.ref c') cl A outer s (U6 (cl.map (·.2)) H) (fun C d H'=>(∀c∈cl.map (·.2),H' c=none) ->E C d (A0r (cl.map (·.2)) H H'))=X at ht
 have I:Inv X [] (vs.map some) (U6 (cl.map (·.2)) H) {s with heap:=h1,toks:=s.toks+0}:=by
   subst hX
   refine⟨⟨e0.mod,S.kind,rfl,rfl,Nat.le_refl _,fun x y c z1 z2=>Y2v hnd (look x c z1) (look y c z2),fun x z=>?_,(fun _ _ z=>by cases z),fun _=>hr.hd,Around.frames_deeper e0.frames,.inr ⟨rfl,rfl⟩,(fun b z=>absurd (show b∈([]:List Addr) from z) (by simp)),fun b o z=>⟨(e0.bs b o z).1,?_⟩,e0.bsz,(fun b o _ z=>absurd (show b∈([]:List Addr) from z) (by simp)),(fun b z=>absurd (show b∈([]:List Addr) from z) (by simp)),e0.funs,fun b hb=>?_⟩,
     rfl,e0.bare,Un.kept hk1,⟨_,hns,fun i x v z1 z2 z3=>?_⟩,fun x c z=>?_,hokH.fresh (Nat.le_refl _),fun x c z=>B9h (incs x c z),(fun p hp=>absurd (show p∈([]:List (Addr×Obj)) from hp) (by simp)),hokH.kept hk1,?_⟩
   . have z:scope.names.lookup x=some .cell\/scope.names.lookup x=some .free:=z
     rcases z with z|z
     . exact absurd rfl (S.nocell _ (PySem.mem_of_lookup z))
     . have hx:=S.fr _ (PySem.mem_of_lookup z) rfl
       obtain⟨⟨y,c⟩,hm,rfl⟩:=List.mem_map.mp hx
       obtain⟨i,hi⟩:=List.mem_iff_getElem?.mp hm
       exact⟨c,C0g S.nd hi⟩
   . exact B5f (e0.bs b o z).2
   . exact B5f (e0.frf b hb)
   . have z1:(cl.map (·.1))[i]?=some x:=z1
     rw[List.getElem?_map] at z1 z2
     cases q:cl[i]? with
     |none=>rw[q] at z1;cases z1
     | some p=>
       rw[q] at z1
       cases z1
       obtain⟨v2,h2,o,u,h3,h4,h5⟩:=hk i p.1 p.2 q
       rw[h2] at z2
       cases z2
       refine⟨u,h5,.inr ⟨.inr (S.at_ _ (List.mem_map.mpr ⟨p,List.mem_of_getElem? q,rfl⟩)),p.2,C0g S.nd q,o,hk1 _ _ (e0.hok _ _ h3).1,h4⟩⟩
   . obtain⟨v,o,h3,h4⟩:=cell x c z
     exact⟨v,o,hk1 _ _ h3,h4⟩
   . show(vs.map some).length=(cl.map (·.1)).length
     rw[List.length_map,List.length_map,hF]
 have res:∀{H':Hp} {s':Shared},Un (frs outer) [] (U6 (cl.map (·.2)) H) H' s.heap s'.heap ->HOk P w H' s'.heap ->Un (frs outer) [] H (A0r (cl.map (·.2)) H H') s.heap s'.heap/\HOk P w (A0r (cl.map (·.2)) H H') s'.heap/\∀c∈cl.map (·.2),H' c=none:=
   fun u x=>⟨Z9d u af,Y1a u af e0.hok x e0.frf,V1d u af e0.hok⟩
 refine kla_codeExpr ?_
 have hA:X.A=A.deeper (envX qual scope s.heap.objs.size f (.ref c') cl):=by rw[<-hX];rfl
 have:=ht [] _ _ _ _ I hq
 subst hX
 refine wpAny_mono this (fun u s' ⟨v,H',I',r,q⟩=>?_) fun e s' z=>wpAny_mono z (fun _ s2 z2=>?_) fun e' s2 z2=>?_
 . obtain⟨r1,r2,r3⟩:=res I'.base I'.hok
   exact⟨v,_,I'.os,I'.bare,r1,r2,r,q r3⟩
 . obtain⟨a,t,C,dd,H',rfl,os,bare,un,hok,hE,⟨a1,a2⟩,T,oT,ts,z,ne,⟨t1,t2⟩,rest⟩:=z2
   obtain⟨r1,r2,r3⟩:=res un hok
   have nc:∀b,s.heap.get? b=none ->b ∉ cl.map (·.2):=fun b z hb=>by
     obtain⟨o,q⟩:=af b hb
     rw[(e0.hok b _ q).1] at z
     cases z
   exact⟨a,t,C,dd,_,rfl,os,bare,r1,r2,hE r3,⟨a1,by rw[Y1 (nc a a1)];exact a2⟩,T,oT,ts,z,ne,⟨t1,by rw[Y1 (nc T t1)];exact t2⟩,rest⟩
 obtain⟨a,t,C,dd,H',rfl,os,bare,un,hok,hE,⟨a1,a2⟩,T,oT,ts,z,ne,⟨t1,t2⟩,rest⟩:=z2
 obtain⟨r1,r2,r3⟩:=res un hok
 have nc:∀b,s.heap.get? b=none ->b ∉ cl.map (·.2):=fun b z hb=>by
   obtain⟨o,q⟩:=af b hb
   rw[(e0.hok b _ q).1] at z
   cases z
 exact⟨a,t,C,dd,_,rfl,os,bare,r1,r2,hE r3,⟨a1,by rw[Y1 (nc a a1)];exact a2⟩,T,oT,ts,z,ne,⟨t1,by rw[Y1 (nc T t1)];exact t2⟩,rest⟩
section
variable{X:Cx}{j k:Nat}{f:Addr}{fd:FuncData}{ps:List Str}{sp:Sp}{ds:List Value}{EH:EK}{x:Str}{p pos:Pos}{e:Expr}{es:List Expr}{t:TA}{st:Stmt}
noncomputable def A0ef (P:Program) (w:World) (K:Frag) (mg:Str ->Option Value) (base:Heap) (k i:Nat) (EH:EK):TE:=fun σ H Q=>∃f J spd,σ[i]?=some (some (.ref f))/\B2e P w K mg base k f J spd/\J H/\spd H Q (fun C d H'=>EH C d σ H')
theorem Z9n{i:Nat}(hN:X.N[i]?=some x)(hv:Vis X.env.scope x)(hr:Z5 k X.A)(hx:G5 X EH)(hex:X.ex=[]:=by rfl)(hd:(x==("__debug__":Str))=false:=by decide)(hcd:(x==("__classdict__":Str))=false:=by decide):
   PE X (.Call (.Name x p) [] [] pos) (A0ef X.prog X.w X.K X.mg X.base k i EH):=by
 intro pins s σ H Q I ⟨f,J,spd,e,D,hJ,h⟩
 refine wpAny_Call_Name_kw (thn (Y0w (pos:=p) hN hv hd hcd pins s σ H (fun v H'=>v= .ref f/\H'=H) I ⟨.ref f,e,rfl,rfl⟩) fun u s1 hh_=>?_)
 obtain⟨v,H1,I1,r,ev,eH⟩:=hh_
 subst ev eH
 obtain rfl:u=Value.ref f:=r
 refine callWith_F0 (D.fn _ _ hJ I1.hok) (wpAny_call (codeAny_mono (D.run X.A X.stack s1 H1 Q _ hr I1.env0 hJ h) fun r s' hq=>?_))
 cases r with
 |error e=>exact Z9k hx hex I1 hq
 | ok fl=>
   cases fl with
   |ret u=>exact I1.after hq
   |next=>exact False.elim hq
   |brk=>exact False.elim hq
   |cont=>exact False.elim hq
noncomputable def A0fm (sp:Sp) (cl:List (Str×Addr)) (js:List Nat) (EH:EK) (t:TA):TE:=fun σ H Q=>t σ H fun vs H1=>(∀c∈cl.map (·.2),H1 c=none) ->∀H2,(∀b,b ∉ cl.map (·.2) ->H2 b=H1 b) ->Z0 (cl.map (·.2)) H2 ->
 (∀(i:Nat) (x:Str) (c:Addr) (j:Nat) (v:V),cl[i]?=some (x,c) ->js[i]?=some j ->σ[j]?=some (some v) ->C9c H2 c v) ->
 sp vs H2 (fun v H'=>(∀c∈cl.map (·.2),H' c=H2 c) ->Q v (U6 (cl.map (·.2)) H')) (fun C d H'=>(∀c∈cl.map (·.2),H' c=H2 c) ->EH C d σ (U6 (cl.map (·.2)) H'))
structure A1k(cl:List (Str×Addr))(js:List Nat)(XN:List Str)(env:Env):Prop where
 at_:∀(i:Nat) (x:Str) (c:Addr),cl[i]?=some (x,c) ->env.cells.lookup x=some c/\env.kindOf x=some .cell/\∀j,js[i]?=some j ->XN[j]?=some x
theorem A1z{cl:List (Str×Addr)}{js:List Nat}(D:Def X.K X.mg x ps st f fd)(F:A1w X.prog X.w X.K X.mg X.base (CX1 X.prog X.w) j f fd ps sp)(hgd:X.A.guards=some [])(hr:Z5 k X.A)(hx:G5 X EH)(Z:A1k cl js X.N X.env)(ha:PA X (e::es) t)(hj:j<=k:=by decide)(hfn:∀y,X.fn y=true:=by intro _;rfl)(hg:Gl X x:=by rfl)(hex:X.ex=[]:=by rfl)
   (hdb:(x==("__debug__":Str))=false:=by decide) (he:starEach (e::es) X.env=(false,eval e X.env)::starEach es X.env:=by rfl) (hpl:(backTo pos (starEach es X.env)).any (·.1)=false:=by rfl):PE X (.Call (.Name x p) (e::es) [] pos) (A0fm sp cl js EH t):=by
 intro pins s0 σ H0 Q I0 h0
 refine wpAny_Call_Name_kw (A2n I0 hg D.g ?_ hdb)
 refine PySem.W.callWith_K (h₀:=X.base) I0.ok.mod.kin D.F.kp (thn (ha pos pins s0 σ H0 _ I0 h0) fun us s ⟨vs,H,I,r,q⟩=>⟨I.kIn,?_⟩) he hpl
 have inn:∀c∈cl.map (·.2),∃x,X.env.cells.lookup x=some c:=fun c hc=>by
   obtain⟨⟨y,c2⟩,hm,rfl⟩:=List.mem_map.mp hc
   obtain⟨i,hi⟩:=List.mem_iff_getElem?.mp hm
   exact⟨y,(Z.at_ i y c2 hi).1⟩
 have hn:∀c∈cl.map (·.2),H c=none:=fun c hc=>by
   obtain⟨y,hy⟩:=inn c hc
   exact I.freeC y c hy
 have hc:∀c∈cl.map (·.2),∃o v,s.heap.get? c=some o/\o.data= .cell v:=fun c hc=>by
   obtain⟨y,hy⟩:=inn c hc
   obtain⟨v,o,h1,h2⟩:=I.cell y c hy
   exact⟨o,v,h1,h2⟩
 let H2:Hp:=fun b=>if b∈cl.map (·.2) then(s.heap.get? b).map fun o=> .frz o (.own b) else H b
 have h2i:∀c o,c∈cl.map (·.2) ->s.heap.get? c=some o ->H2 c=some (.frz o (.own c)):=fun c o hc e=>by
   show(if c∈cl.map (·.2) then _ else _)=_
   rw[if_pos hc,e]
   rfl
 have h2o:∀b,b ∉ cl.map (·.2) ->H2 b=H b:=fun b hb=>if_neg hb
 have A2:Z0 (cl.map (·.2)) H2:=fun c hcc=>by
   obtain⟨o,v,h1,_⟩:=hc c hcc
   exact⟨o,h2i c o hcc h1⟩
 have out:∀b u,H b=some u ->b ∉ cl.map (·.2):=fun b u e z=>by rw[hn b z] at e;cases e
 have hok2:HOk X.prog X.w H2 s.heap:=fun b u e=>by
   by_cases hb:b∈cl.map (·.2)
   . obtain⟨o,v,h1,_⟩:=hc b hb
     rw[h2i b o hb h1] at e
     cases e
     exact⟨h1,o,h1⟩
   . rw[h2o b hb] at e
     exact(I.hok b u e).stay (fun _ _ _ q=>q) (fun d q=>by rw[h2o d (out d _ q)];exact q) fun d xs q=>by rw[h2o d (out d _ q)];exact q
 have ncell:∀b o,b∈cl.map (·.2) ->s.heap.get? b=some o ->∃v,o.data= .cell v:=fun b o hb e=>by
   obtain⟨o',v,h1,h2⟩:=hc b hb
   rw[e] at h1
   cases h1
   exact⟨v,h2⟩
 have e2 :D3s X.prog X.w X.K X.mg X.base X.A X.stack s H2:=by
   have e0:=I.env0
   refine⟨e0.frames,e0.mod,fun b o z=>⟨(e0.bs b o z).1,?_⟩,e0.bsz,e0.funs,fun b hb=>?_,hok2,e0.bare⟩
   . rw[h2o b fun z2=>?_]
     . exact(e0.bs b o z).2
     . obtain⟨y,hy⟩:=inn b z2
       have:=Nat.le_trans I.ok.bsz (I.ok.cab y b (hfn y) hy)
       exact absurd (Nat.lt_of_lt_of_le (Heap.lt_size z) this) (Nat.lt_irrefl _)
   . rw[h2o b fun z2=>?_]
     . exact e0.frf b hb
     . obtain⟨y,hy⟩:=inn b z2
       rcases List.mem_cons.mp (I.stkSub b hb) with z3|z3
       . exact I.cne y b hy z3
       . obtain⟨_,o,ho,_⟩:=I.ok.funs.mem z3
         exact absurd (Nat.lt_of_lt_of_le (Heap.lt_size ho) (I.ok.cab y b (hfn y) hy)) (Nat.lt_irrefl _)
 have q2:=q hn H2 h2o A2 fun i y c j v h1 h2 h3=>by
   obtain⟨z1,z2,z3⟩:=Z.at_ i y c h1
   obtain⟨m,_,hl⟩:=I.loc
   obtain⟨u,r,l⟩:=hl j y v (z3 j h2) h3 (.inr (.inl z2))
   rcases l with⟨k,_⟩|⟨_,c',h4,o,h5,h6⟩
   . rw[z2] at k;cases k
   . rw[z1] at h4
     cases h4
     exact⟨o,u,h2i c o (List.mem_map.mpr ⟨(y,c),List.mem_of_getElem? h1,rfl⟩) h5,h6,r⟩
 have hl:us.length=ps.length:=by rw[<-r.length];exact F.len _ _ _ _ q2
 refine wpAny_call (codeAny_mono (F.run X.A X.stack s H2 ⟨us,[]⟩ us vs _ _ hgd (hr.mono hj) e2 (by have:=D.b s us I.kIn (by simpa using hl);simpa using this) r q2) fun r s' hq=>?_)
 have fin:∀{H':Hp},Un (frs X.stack) [] H2 H' s.heap s'.heap ->HOk X.prog X.w H' s'.heap ->Un (frs X.stack) [] H (U6 (cl.map (·.2)) H') s.heap s'.heap/\HOk X.prog X.w (U6 (cl.map (·.2)) H') s'.heap/\∀c∈cl.map (·.2),H' c=H2 c:=fun{H'} un hok=>by
   have same:∀c∈cl.map (·.2),H' c=H2 c:=fun c hcc=>by
     obtain⟨o,z⟩:=A2 c hcc
     rw[z]
     exact un.frzs c o _ z
   exact⟨A0ak un A2 h2o hn hok2 hok,hok.hide fun c hcc=>by rw[same c hcc];exact A2 c hcc,same⟩
 cases r with
 | error e=>
   obtain⟨a,t,C,dd,H',rfl,os,bare,un,hok,hE,⟨a1,a2⟩,T,oT,ts,z,ne,⟨t1,t2⟩,rest⟩:=hq
   obtain⟨r1,r2,r3⟩:=fin un hok
   exact Z9k hx hex I ⟨a,t,C,dd,_,rfl,os,bare,r1,r2,hE r3,⟨a1,B5f a2⟩,T,oT,ts,z,ne,⟨t1,B5f t2⟩,rest⟩
 | ok fl=>
   cases fl with
   | ret u=>
     obtain⟨v,H',os,bare,un,hok,rv,q3⟩:=hq
     obtain⟨r1,r2,r3⟩:=fin un hok
     exact I.after ⟨v,_,os,bare,r1,r2,rv,q3 r3⟩
   |next=>exact False.elim hq
   |brk=>exact False.elim hq
   |cont=>exact False.elim hq
end
section
variable{X:Cx}
theorem D7q(hg:X.A.guards=some [])(hu:X.A.units+64<cLine):A5e X (.type "str") (fun xs H Q=>∃a d,xs=[.ref a]/\RdR H (.ref a) d/\A1f d/\Q (.str d.shown) H):=by
 intro pins s σ H xs us Q I r h
 obtain⟨a,d,rfl,hv,⟨sh,dp,ln⟩,q⟩:=h
 obtain⟨u,rfl,ru⟩:=U3.one r
 obtain⟨as,z,ny⟩:=hv.reads I ru
 cases ru
 exact str_of_reads z sh (fun _=>ny) hg (by omega) (fun b o e=>e) (fun h' u tk k=>⟨.str d.shown,H,I.kept k,⟨u,rfl⟩,q⟩) ln
end
noncomputable def C6r (H H':Hp):Prop:=∀b o,(∀ps,o≠ .tbl ps) ->H b=some o ->H' b=some o
theorem A3q.keep{P:Addr}{ps:Array Value}{H H':Hp}(s:A3q P H H')(h:H P=some (.tbl ps)):C6r H H':=fun b o n e=>s b o (fun z=>by rw[z,h] at e;exact n ps (Option.some.inj e).symm) e
theorem TabOk.same{P:Addr}{pos:Pos}{q:Str}{H H':Hp}(h:TabOk P pos q H)(s:∀b o,H b=some o ->H' b=some o):TabOk P pos q H':=by
 obtain⟨ps,e,t,c⟩:=h
 exact⟨ps,s _ _ e,t,c.imp id fun⟨c',oc,a,b,d⟩=>⟨c',oc,a,s _ _ b,d⟩⟩
theorem TabOk.at{P:Addr}{pos:Pos}{q:Str}{H H':Hp}(h:TabOk P pos q H)(s:∀b o,H b=some o ->(b=P\/∃oc,o= .frz oc (.own b)) ->H' b=some o):TabOk P pos q H':=by
 obtain⟨ps,e,t,c⟩:=h
 exact⟨ps,s _ _ e (.inl rfl),t,c.imp id fun⟨c',oc,a,b,d⟩=>⟨c',oc,a,s _ _ b (.inr ⟨oc,rfl⟩),d⟩⟩
theorem G1a{P:Addr}{pos:Pos}{q:Str}{H:Hp}(h:H P=some (.tbl #[])):TabOk P pos q H:=⟨#[],h,trivial,.inl rfl⟩
theorem SqL.kept{K:Frag}{H H':Hp}{a:Addr}{xs:List V}(h:SqL K H a xs)(s:∀o,H a=some o ->(o= .lst xs\/∃oc,o= .frz oc (.lst xs)) ->H' a=some o):SqL K H' a xs:=by
 rcases h with(h|⟨o,h⟩)|h
 . exact .inl (.inl (s _ h (.inl rfl)))
 . exact .inl (.inr ⟨o,s _ h (.inr ⟨o,rfl⟩)⟩)
 exact .inr h
theorem Fun.okEL{P:Program}{w:World}{K:Frag}{mg:Str ->Option Value}{base:Heap}{x qual:Str}{st:Stmt}{f c:Addr}{fd:FuncData}{N ps:List Str}{k:Nat}{sp:Sp}(F:Fun K x qual st f fd)(hc0:fd.code= .ref c)(S:B9 N ps (A1 st))(len:∀vs H Q E,sp vs H Q E ->vs.length=ps.length)
   (hbody:∀(X:Cx) (A:Around) (outer:List Env) (s:Shared) (H:Hp) (vs:List V) (Q:VK) (E:XK),X=A0w (CX1 P w) P w K mg base N qual (A1 st) f (.ref c) A outer s H E ->X.A.guards=some [] ->Z5 k X.A ->G5 X (fun C dd _ H'=>E C dd H') ->sp vs H Q E ->
     ∃t,PSs (A0w (CX1 P w) P w K mg base N qual (A1 st) f (.ref c) A outer s H E) (B5 st) t/\t {nx:=fun _ H'=>Q .non H',rt:=Q} (A4z N vs) H):A1w P w K mg base (CX1 P w) (k+1) f fd ps sp:=by
 obtain⟨oc,od,kV,doc,pm,an,cdv,ct,osl,rfl,lk,hc⟩:=F.ex
 obtain rfl:cdv= .ref c:=hc0
 exact Y2n lk hc S len fun A outer s H vs Q E hg hr h=>hbody _ A outer s H vs Q E rfl hg hr A8a h
theorem A1j{P:Program}{w:World}{K:Frag}{mg:Str ->Option Value}{base:Heap}{k:Nat}{f:Addr}{qual:Str}{params:Arguments}{body:Expr}{scope:Scope}{cl:List (Str×Addr)}{vs:List V}{sp:Hp ->VK ->XK ->Prop}{H0:Hp}(la:C6b H0 f qual params body scope cl)
   (S:C0v (cl.map (·.1)) scope) (hF:cl.length=vs.length) (hnd:(cl.map (·.2)).Nodup)
   (hb0:∀(pm:Value) (c':Addr) (ctv:Value),bindArgs (kla_fn "<lambda>" qual params body scope cl pm (.ref c') ctv) ⟨[],[]⟩=pure [])
   (hbody:∀(X:Cx) (cdv:Value) (A:Around) (outer:List Env) (s:Shared) (H:Hp) (Q:VK) (E:XK),X=C7u (CX1 P w) P w K mg base (cl.map (·.1)) qual scope f cdv cl A outer s (U6 (cl.map (·.2)) H) (fun C d H'=>(∀c∈cl.map (·.2),H' c=none) ->E C d (A0r (cl.map (·.2)) H H')) ->Z5 k X.A ->
     G5 X (fun C dd _ H'=>(∀c∈cl.map (·.2),H' c=none) ->E C dd (A0r (cl.map (·.2)) H H')) ->sp H Q E ->Z0 (cl.map (·.2)) H ->
     ∃t,PE (C7u (CX1 P w) P w K mg base (cl.map (·.1)) qual scope f cdv cl A outer s (U6 (cl.map (·.2)) H) (fun C d H'=>(∀c∈cl.map (·.2),H' c=none) ->E C d (A0r (cl.map (·.2)) H H'))) body t/\t (vs.map some) (U6 (cl.map (·.2)) H) (fun v H'=>(∀c∈cl.map (·.2),H' c=none) ->Q v (A0r (cl.map (·.2)) H H'))):
   B2e P w K mg base (k+1) f (Z8t f qual params body scope cl vs) sp:=A0ad S hF hnd hb0 hbody
theorem C6b.kept{H H':Hp}{f:Addr}{qual:Str}{params:Arguments}{body:Expr}{scope:Scope}{cl:List (Str×Addr)}(h:C6b H f qual params body scope cl)(s:∀b o,H b=some (.frz o (.own b)) ->H' b=some (.frz o (.own b))):C6b H' f qual params body scope cl:=by
 obtain⟨pm,c',ctv,oc,e1,e2,r⟩:=h
 exact⟨pm,c',ctv,oc,s _ _ e1,s _ _ e2,r⟩
theorem C9c.kept{H H':Hp}{c:Addr}{v:V}(h:C9c H c v)(s:∀b o,H b=some (.frz o (.own b)) ->H' b=some (.frz o (.own b))):C9c H' c v:=by
 obtain⟨o,u,e,r⟩:=h
 exact⟨o,u,s _ _ e,r⟩
section
variable{X:Cx}{tg:Expr}
end
section
variable{X:Cx}
end
section
variable{prog:Program}{w:World}{A:Around}{E:Value ->Shared ->Prop}{s:Shared}
end
section
variable{X:Cx}{pos:Pos}
end
section
variable{X:Cx}{pos tpos pa pb:Pos}
end
section
variable{X:Cx}{N F:List Str}{js:List Nat}{scope:Scope}
end
section
variable{X:Cx}{tg:Expr}
end
section
variable{X:Cx}{pins:List (Addr×Obj)}{σ:St}{H:Hp}{s:Shared}
end
section
variable{X:Cx}{tg:Expr}
end
end L2
namespace TR
open PySem L2 PySem.W PyProof.Rows
structure OwnK(K:Frag):Prop where
 isi:nsIn K mainGlobals "isinstance"=some none
 int_:nsIn K mainGlobals "int"=some none
 bool_:nsIn K mainGlobals "bool"=some none
 str_:nsIn K mainGlobals "str"=some none
 list_:nsIn K mainGlobals "list"=some none
 tuple_:nsIn K mainGlobals "tuple"=some none
 dict_:nsIn K mainGlobals "dict"=some none
 len_:nsIn K mainGlobals "len"=some none
 range_:nsIn K mainGlobals "range"=some none
 min_:nsIn K mainGlobals "min"=some none
 max_:nsIn K mainGlobals "max"=some none
 abs_:nsIn K mainGlobals "abs"=some none
 any_:nsIn K mainGlobals "any"=some none
 all_:nsIn K mainGlobals "all"=some none
 sum_:nsIn K mainGlobals "sum"=some none
 repr_:nsIn K mainGlobals "repr"=some none
 enumerate_:nsIn K mainGlobals "enumerate"=some none
 reversed_:nsIn K mainGlobals "reversed"=some none
 zip_:nsIn K mainGlobals "zip"=some none
 sorted_:nsIn K mainGlobals "sorted"=some none
 divmod_:nsIn K mainGlobals "divmod"=some none
 set_:nsIn K mainGlobals "set"=some none
 ValueError_:nsIn K mainGlobals "ValueError"=some none
end TR
namespace L2
open PySem PySem.Spec PyProof.Rows PySem.W
section
variable{X:Cx}{j k:Nat}{f:Addr}{EH:EK}{x y:Str}{p p1 pos:Pos}
end
noncomputable def HdA (a:Addr) (H:Hp):Prop:=∃o u vs,H a=some (.frz o u)/\o.data= .fields vs/\vs[2]?=some .none
noncomputable def V9x (a:Addr) (n:Nat) (js:List Nat) (wi:TI) (g:TG) (tc:TT) (te:TE):TE:=fun σ H Q=>wi σ H fun J H1=>HdA a H1/\∀D,H1 D=none ->
 ∃ (m:Nat) (W:Nat ->List V ->Hp ->Prop),W 0 [] (upd H1 D (.lst []))/\∀i ys H2,W i ys H2 ->i<=m/\H2 D=some (.lst ys)/\((J.stop i H2/\Q (.ref D) H2)\/(i<m/\J.go i H2/\∀x H3,J.yld i H2 x H3 ->
   g x (List.replicate n none++A5q js σ) H3 fun σ4 H4=>tc σ4 H4 fun b H5=>if b=true then te σ4 H5 fun y H6=>H6 D=some (.lst ys)/\ys.length<sizeLine/\W (i+1) (ys++ [y]) (upd H6 D (.lst (ys++ [y]))) else W (i+1) ys H5))
section
variable{X:Cx}{N F:List Str}{js:List Nat}{scope:Scope}
theorem J9h{elt target iter c:Expr}{scope:Scope}{pos:Pos}{N F:List Str}{js:List Nat}{wi:TI}{g:TG}{tc:TT}{te:TE}(S:D9 N F js scope X.N X.env){a:Addr}(hda:X.A.handled=some (.ref a))(hi:PIH X target iter wi)(hex:X.ex=[])
   (hg:∀C s₀ H₀ ex pn,A0q (X.compF scope N F C s₀ H₀ ex pn) ->PG (X.compF scope N F C s₀ H₀ ex pn) target g)
   (hc:∀C s₀ H₀ ex pn,A0q (X.compF scope N F C s₀ H₀ ex pn) ->PT (X.compF scope N F C s₀ H₀ ex pn) c tc)
   (he:∀C s₀ H₀ ex pn,A0q (X.compF scope N F C s₀ H₀ ex pn) ->PE (X.compF scope N F C s₀ H₀ ex pn) elt te)
   {pins:List (Addr×Obj)} {s:Shared} {σ:St} {H:Hp} {Q:VK} {RR:Value ->Env ->Result ->Shared ->Prop} (I:Inv X pins σ H s) (h:(V9x a N.length js wi g tc te) σ H Q)
   (hRR:∀(D C:Addr) (s6:Shared) (H5:Hp) (mm:Str ->Option Value),Inv X pins σ H5 s6 ->s6.heap.Ns C mm ->A4s X pins H5 C ->Q (.ref D) H5 ->RR (.ref D) (compEnvC scope (A2d F X.env) C X.env) (.ok .next) s6):
   wpAny (model X.prog X.w) X.A (eval iter X.env) (fun v s1=>wpAny (model X.prog X.w) X.A (pyIter v) (fun itv s2=>wpAny (model X.prog X.w) X.A (newList []) (fun acc s3=>wpAny (model X.prog X.w) X.A (newFunctionEnv scope X.env.globals (A2d F X.env) [] X.env.qual none .none (some X.env)) (fun cenv s4=>
     codeAny (model X.prog X.w) X.A (.compStart (.ListComp elt [⟨target,iter,[c],0⟩] scope pos) 0 itv acc {cenv with scope:=relabel scope X.env}) (RR acc {cenv with scope:=relabel scope X.env}) s4) X.xe s3) X.xe s2) X.xe s1) X.xe s:=by
 refine thn (hi pins s σ H _ I h) fun v s1 h1=>thn h1 fun itv s2 h2=>?_
 obtain⟨it,tn,J,H2,rfl,I2,T,st2,f2,R⟩:=h2
 obtain⟨oi,ei,di⟩:=T.obj _ _ st2
 have hf2:=I2.hok.fresh (Nat.le_refl _)
 refine wpAny_newObj_type ?_
 have I3:Inv X pins σ (upd H2 s2.heap.objs.size (.lst [])) {s2 with heap:=s2.heap.push {cls:= .type "list",dict:=none,data:= .seq ([]:List Value).toArray}}:=Inv.lnew (t':=s2.toks) I2 .nil (Nat.zero_le _)
 refine wpAny_newFunctionEnv S.cell (by intro y hy;simp at hy) (fun h4 hns hsb=>?_) S.kind
 dsimp only at hns hsb ⊢
 generalize hG:s2.heap.push {cls:= .type "list",dict:=none,data:= .seq ([]:List Value).toArray}=G at I3 hns hsb ⊢
 generalize hD:s2.heap.objs.size=D at I3 hf2
 have nD:it≠D:=by rw[<-hD];exact Nat.ne_of_lt (Heap.lt_size ei)
 have eiG:G.get? it=some oi:=by rw[<-hG];exact Heap.get?_push_of_some _ ei
 have kp:∀b o,G.get? b=some o ->h4.get? b=some o:=fun b o e=>hsb.extBut b o (Nat.ne_of_lt (Heap.lt_size e)) (Heap.get?_push_of_some _ e)
 have f3:A4s X pins (upd H2 D (.lst [])) it:=⟨by rw[C9 nD];exact f2.1,f2.2⟩
 have nb:X.base.get? it=none:=by
   cases q:X.base.get? it with
   |none=>rfl
   | some o=>
     have:=(I.ok.bs it o q).1
     rcases f2.2.2.2.1 with z|z
     . rw[hex] at z;simp at z
     . exact absurd (Nat.lt_of_lt_of_le (Heap.lt_size this) z) (Nat.lt_irrefl _)
 have hns':h4.Ns G.objs.size (fun _=>none):=by
   obtain⟨o,es,ep,q1,q2,q3,q4⟩:=hns
   exact⟨o,es,ep,q1,q2,q3,fun x=>by rw[q4];rfl⟩
 have I4:=D7y (tk:=s2.toks+([]:List (Str×Value)).length) S I3 f3 ⟨oi,eiG⟩ nb hns' kp
 have hdc:A0q (X.compF scope N F G.objs.size {s2 with heap:=G} (upd H2 D (.lst [])) [it] (X.pn++pins)):=by
   obtain⟨o,u,vs,e,d,n⟩:=R.1
   . refine .inr ⟨a,o,u,vs,hda,?_,d,n⟩
     have q:=e
     show upd H2 D (.lst []) a=_
     rw[C9 fun w=>by rw[w,hf2] at q;cases q]
     exact q
 obtain⟨m,W,w0,turn⟩:=R.2 D hf2
 have gg:=hg _ _ _ _ _ hdc
 have cc:=hc _ _ _ _ _ hdc
 have ee:=he _ _ _ _ _ hdc
 have fpc:∀{H':Hp} {σ':St} {s':Shared} {pl:List (Addr×Obj)},Inv (X.compF scope N F G.objs.size {s2 with heap:=G} (upd H2 D (.lst [])) [it] (X.pn++pins)) pl σ' H' s' ->H' it=none ->(∀p∈pl,p.1≠it) ->A4s (X.compF scope N F G.objs.size {s2 with heap:=G} (upd H2 D (.lst [])) [it] (X.pn++pins)) pl H' it:=by
   intro H' σ' s' pl J' hn hp
   refine⟨hn,Nat.ne_of_lt (Heap.lt_size eiG),?_,.inl (List.mem_singleton.mpr rfl),(fun x c z=>f2.2.2.2.2.1 x c (S.sub x c z)),fun p hpp=>?_⟩
   . intro z
     rcases List.mem_cons.mp (I.stkSub it z) with z|z
     . exact f2.2.1 z
     . exact f2.2.2.1 z
   . rcases List.mem_append.mp hpp with z|z
     . exact f2.2.2.2.2.2 p z
     . exact hp p z
 have loop:codeAny (model X.prog X.w) X.A (.compLoop (.ListComp elt [⟨target,iter,[c],0⟩] scope pos) 0 (.ref it) (.ref D) (compEnvC scope (A2d F X.env) G.objs.size X.env))
     (RR (.ref D) (compEnvC scope (A2d F X.env) G.objs.size X.env))
     {s2 with heap:=h4,toks:=s2.toks+([]:List (Str×Value)).length}:=by
   refine kct_loop (fun k s'=>∃i ys H',k=m+1-i/\Inv (X.compF scope N F G.objs.size {s2 with heap:=G} (upd H2 D (.lst [])) [it] (X.pn++pins)) [] (List.replicate N.length none++A5q js σ) H' s'/\tn i s'.heap/\H' it=none/\W i ys H') ?_ (m+1)
     ⟨0,[],_,rfl,I4,T.keep _ _ _ st2 fun o e=>kp it o (by rw[<-hG];exact Heap.get?_push_of_some _ e),f3.1,w0⟩
   rintro k s5 ⟨i,ys,H5,rfl,I5,st5,n5,w5⟩
   obtain⟨hi5,hD5,w5⟩:=turn i ys H5 w5
   rcases w5 with⟨stop,q⟩|⟨lt5,go,step⟩
   . refine wpAny_mono (T.done (X.compF scope N F G.objs.size {s2 with heap:=G} (upd H2 D (.lst [])) [it] (X.pn++pins)) rfl rfl rfl hdc i [] s5 _ H5 (fun _ _=>False) I5 (fpc I5 n5 (by simp)) st5 stop) (fun r s6 z=>?_) (fun _ _ z=>z.elim)
     obtain⟨rfl,I6⟩:=z
     obtain⟨mm,hn6,_⟩:=I6.loc
     have B6:=I6.base
     have J6:Inv X pins σ H5 s6:=by
       refine I3.call' (ch:=[it]) I6.os ⟨B6.keep,B6.slot,B6.free,B6.there,B6.tups,B6.frzs,B6.tbls⟩ I6.hok I6.bare (fun b hb=>?_)
       have e:b=it:=by simpa using hb
       subst e
       exact⟨f2.2.2.2.1,f2.2.1,f2.2.2.2.2.1,f2.2.2.2.2.2⟩
     have szG:X.s₀.heap.objs.size<=G.objs.size:=I3.sz
     refine hRR D G.objs.size s6 H5 mm J6 hn6 ⟨I6.free,?_,?_,.inr szG,?_,?_⟩ q
     . exact Nat.ne_of_gt I3.lt
     . intro z
       obtain⟨_,o,ho,_⟩:=I3.funs.mem z
       exact Nat.lt_irrefl _ (Heap.lt_size ho)
     . rintro x c z rfl
       obtain⟨v',o,ho,_⟩:=I3.cell x _ z
       exact Nat.lt_irrefl _ (Heap.lt_size ho)
     . rintro p hp z
       have zz:=(I3.pin p hp).1
       rw[z] at zz
       exact Nat.lt_irrefl _ (Heap.lt_size zz)
   . refine wpAny_mono (T.item (X.compF scope N F G.objs.size {s2 with heap:=G} (upd H2 D (.lst [])) [it] (X.pn++pins)) rfl rfl rfl hdc i [] s5 _ H5 (fun _ _=>False) I5 (fpc I5 n5 (by simp)) st5 go) (fun r s6 z=>?_) (fun _ _ z=>z.elim)
     obtain⟨u,rfl,z⟩:=z
     refine wpAny_mono z (fun _ s7 z=>?_) (fun _ _ z=>z.elim)
     obtain⟨x,I7,rx,yl,st7⟩:=z
     obtain⟨o7,e7,d7⟩:=T.obj _ _ st7
     obtain⟨p0,p1,p2,_⟩:=fpc I7 n5 (by simp)
     have I7':Inv (X.compF scope N F G.objs.size {s2 with heap:=G} (upd H2 D (.lst [])) [it] (X.pn++pins)) [(it,o7)] (List.replicate N.length none++A5q js σ) H5 s7:=I7.pins_of fun p hp=>by
       have e:p=(it,o7):=by simpa using hp
       subst e
       exact⟨e7,p0,p1,p2,d7⟩
     have back:∀{i':Nat} {ys':List V} {H':Hp} {σ':St} {s':Shared},i'=i+1 ->Inv (X.compF scope N F G.objs.size {s2 with heap:=G} (upd H2 D (.lst [])) [it] (X.pn++pins)) [(it,o7)] σ' H' s' ->W i' ys' H' ->
         ∃k',k'<m+1-i/\∃i ys H',k'=m+1-i/\Inv (X.compF scope N F G.objs.size {s2 with heap:=G} (upd H2 D (.lst [])) [it] (X.pn++pins)) [] (List.replicate N.length none++A5q js σ) H' s'/\tn i s'.heap/\H' it=none/\W i ys H':=by
       rintro i' ys' H' σ' s' rfl J' w'
       obtain⟨q1,q2,_⟩:=J'.pin (it,o7) (List.mem_append_right _ (List.mem_singleton.mpr rfl))
       refine⟨m+1-(i+1),by omega,i+1,ys',H',rfl,D7h S I3 f3 J',T.keep _ _ _ st7 fun o z=>?_,q2,w'⟩
       rw[e7] at z
       cases z
       exact q1
     refine wpAny_mono (gg [(it,o7)] s7 _ H5 x u _ I7' rx (step x H5 yl)) (fun _ s8 z=>?_) (fun _ _ z=>z.elim)
     obtain⟨σ8,H8,I8,q8⟩:=z
     refine wpAny_mono (cc [(it,o7)] s8 σ8 H8 _ I8 q8) (fun b s9 z=>?_) (fun _ _ z=>z.elim)
     obtain⟨H9,I9,q9⟩:=z
     cases b with
     | false=>
       simp only[Bool.false_eq_true,if_false] at q9 ⊢
       exact back rfl I9 q9
     | true=>
       simp only[if_true] at q9 ⊢
       refine wpAny_mono (ee [(it,o7)] s9 σ8 H9 _ I9 q9) (fun y s10 z=>?_) (fun _ _ z=>z.elim)
       obtain⟨yv,H10,I10,ry,hD10,hz10,w10⟩:=z
       refine wpAny_mono (A0h (X:=X.compF scope N F G.objs.size {s2 with heap:=G} (upd H2 D (.lst [])) [it] (X.pn++pins)) [(it,o7)] s10 σ8 H10 (.ref D) [yv] (.ref D) [y] (fun _ H11=>W (i+1) (ys++ [yv]) H11) I10 rfl (.cons ry .nil) ⟨D,ys,yv,rfl,rfl,hD10,hz10,w10⟩) (fun _ s11 z=>?_) (fun _ _ z=>z.elim)
       obtain⟨_,H11,I11,_,w11⟩:=z
       exact back rfl I11 w11
 exact codeAny_compStart_list loop (T.self _ 0 _ _ _ (T.keep _ _ _ st2 fun o e=>kp it o (by rw[<-hG];exact Heap.get?_push_of_some _ e)) loop)
end
section
variable{X:Cx}{N F:List Str}{js:List Nat}{scope:Scope}
theorem Y1h{elt target iter:Expr}{c:Expr}{tc:TT}{pos:Pos}{wi:TI}{g:TG}{te:TE}(S:D9 N F js scope X.N X.env){a:Addr}(hda:X.A.handled=some (.ref a))(hi:PIH X target iter wi)(hex:X.ex=[])
   (hg:∀C s₀ H₀ ex pn,A0q (X.compF scope N F C s₀ H₀ ex pn) ->PG (X.compF scope N F C s₀ H₀ ex pn) target g)
   (hc:∀C s₀ H₀ ex pn,A0q (X.compF scope N F C s₀ H₀ ex pn) ->PT (X.compF scope N F C s₀ H₀ ex pn) c tc)
   (he:∀C s₀ H₀ ex pn,A0q (X.compF scope N F C s₀ H₀ ex pn) ->PE (X.compF scope N F C s₀ H₀ ex pn) elt te)
   (hs:∀x,foldedSetIterable iter X.env x=pure x:=by intro _;rfl):PE X (.ListComp elt [⟨target,iter,[c],0⟩] scope pos) (V9x a N.length js wi g tc te):=by
 intro pins s σ H Q I h
 rw[eval_ListComp]
 refine wpAny_comprehension_free (use:=none) rfl hs S.clos S.kind S.loc (J9h S hda hi hex hg hc he I h (RR:=fun acc ce r s'=>compPost (model X.prog X.w) X.A X.xe none (EP X pins σ Q) acc ce.locals r s') ?_)
 intro D C s6 H5 mm I6 n6 f6 q
 exact⟨mm,n6,fun h' sb=>⟨.ref D,H5,V0h I6 f6 sb,rfl,q⟩⟩
end
theorem C0u{X:Cx}{ss:List Stmt}:PSs X ss (fun _ _ _=>False):=fun _ _ _ _ _ _ h=>h.elim
theorem V2t{ts:List (Addr×Addr)}{P:Program}{w:World}{K:PySem.W.Frag}{mg mb:Str ->Option Value}{CX:CXT}{k:Nat}{fa a:Addr}{fd:FuncData}{x:Str}{sp:Sp}{s₁:Shared}{vs:List Value}{ns:List Int}
   (hCT:∀q∈ts,CodeHd s₁.heap q.1 q.2/\s₁.heap.get? q.2=some (tabObj #[])) (hKP:∀q∈ts,K.lookup q.2=none) (hbm:∃bm ob,mg "__builtins__"=some (.ref bm)/\bm≠builtinsNs/\s₁.heap.get? bm=some ob/\ob.cls= .type "module"/\ob.dict=some builtinsNs/\ob.data= .plain)
   (KX:K.In s₁.heap) (hns:s₁.heap.Ns mainGlobals mg) (hb:s₁.heap.Ns builtinsNs mb) (hbb:∀x:Str,x≠"__name__" ->mb x=bootBuiltins x) (hlim:s₁.heap.NoLimit) (hg:s₁.gens= #[])
   (ha:s₁.heap.get? a=some {cls:= .type "list",data:= .seq vs.toArray}) (hi:IntsAre vs ns) (hl:ns.length<=sizeLine) (hr:Z5 k callerA)
   (F:∀base:Heap,K.In base ->base.Ns mainGlobals mg ->(∀q∈ts,G1p mg base q.1 q.2) ->A1w P w K mg base CX k fa fd [x] sp) (hbind:∀(s:Shared) (u:Value),BindsTo s fd ⟨[u],[]⟩ [(x,u)])
   (hsp:∀H:Hp,(∀q∈ts,H q.2=some (.tbl #[])) ->SqL K H a (ns.map V.int) ->sp [.ref a] H (fun v _=>v= .bl true) fun _ _ _=>False)
   (hCX:∀H e s',CX [] H s₁ (fun _ _ _=>False) e s' ->False):
   codeAny (model P w) callerA (.call (.ref fa) ⟨[.ref a],[]⟩) (fun r s'=>r= .ok (.ret (.bool true))/\OldK s₁.heap s'.heap/\s'.os=s₁.os/\AllBare s'.gens) s₁:=by
 have rv:=D8m hi
 have lenV:=hi.length
 have hT:∀b,b∈ts.map (·.2) ->s₁.heap.get? b=some (tabObj #[]):=fun b hb=>by
   obtain⟨q,hq,rfl⟩:=List.mem_map.mp hb
   exact(hCT q hq).2
 have core :∀H:Hp,(∀b,b∈ts.map (·.2) ->H b=some (.tbl #[])) ->(∀b,H b=none\/b∈ts.map (·.2)\/∃o xs,H b=some (.frz o (.lst xs))) ->SqL K H a (ns.map V.int) ->HOk P w H s₁.heap ->(∀b,H b≠none ->b∈ts.map (·.2)\/b=a) ->(H a≠none ->K.lookup a=none) ->
     codeAny (model P w) callerA (.call (.ref fa) ⟨[.ref a],[]⟩) (fun r s'=>r= .ok (.ret (.bool true))/\OldK s₁.heap s'.heap/\s'.os=s₁.os/\AllBare s'.gens) s₁:=by
   intro H hPt hO hS hok hA hK
   have base_of:∀{b:Addr} {o:Obj},s₁.heap.get? b=some o ->H b=none ->(D3g s₁.heap H).get? b=some o:=fun e n=>Y2r e n
   have noA:∀{b:Addr} {o:Obj} {es:Array DictEntry} {ep:Nat},s₁.heap.get? b=some o ->o.data= .dict es ep ->H b=none:=fun{b o es ep} e d=>by
     cases q:H b with
     |none=>rfl
     | some u=>
       rcases hA b (by rw[q];simp) with e'|e'
       . rw[hT b e'] at e;cases e
         have d':Data.fields #[]=Data.dict es ep:=d
         cases d'
       . subst e'
         rw[ha] at e;cases e
         have d':Data.seq vs.toArray _=Data.dict es ep:=d
         cases d'
   have nsK:∀{b:Addr} {m:Str ->Option Value},s₁.heap.Ns b m ->(D3g s₁.heap H).Ns b m:=fun{b m} ⟨o,es,ep,e,d,r⟩=>⟨o,es,ep,base_of e (noA e d),d,r⟩
   have hKb:K.In (D3g s₁.heap H):=fun b o e=>base_of (KX b o e) (by
     cases q:H b with
     |none=>rfl
     | some u=>
       rcases hA b (by rw[q];simp) with e'|e'
       . obtain⟨p,hp,rfl⟩:=List.mem_map.mp e'
         rw[hKP p hp] at e;cases e
       . subst e'
         rw[hK (by rw[q];simp)] at e;cases e)
   have noC:∀{b:Addr} {o:Obj},s₁.heap.get? b=some o ->o≠tabObj #[] ->(∀n,o≠{cls:= .type "list",data:= .seq vs.toArray n}) ->H b=none:=fun{b o} e n1 n2=>by
     cases q:H b with
     |none=>rfl
     | some u=>
       rcases hA b (by rw[q];simp) with e'|e'
       . rw[hT b e'] at e;cases e
         exact absurd rfl n1
       . subst e'
         rw[ha] at e;cases e
         exact absurd rfl (n2 _)
   have hLB:∀q∈ts,G1p mg (D3g s₁.heap H) q.1 q.2:=fun q hq=>by
     refine⟨?_,?_⟩
     . obtain⟨o,vs1,file,tf,flags,tg,inF,text,tt,e1,r1,r2⟩:=(hCT q hq).1
       exact⟨o,vs1,file,tf,flags,tg,inF,text,tt,base_of e1 (noC e1 (fun z=>by rw[z] at r1;cases r1) fun n z=>by rw[z] at r1;exact absurd (Value.type.inj r1) (by decide)),r1,r2⟩
     . obtain⟨bm,ob,b1,b2,b3,b4,b5,b6⟩:=hbm
       refine⟨bm,ob,b1,b2,?_,base_of b3 (noC b3 (fun z=>by rw[z] at b4;cases b4) fun n z=>by rw[z] at b4;exact absurd (Value.type.inj b4) (by decide)),b4,b5,b6⟩
       rintro rfl
       obtain⟨o,es,ep,e,d,_⟩:=hns
       rw[b3] at e;cases e
       rw[b6] at d;cases d
   have hM:Mod K mg (D3g s₁.heap H):=⟨hKb,nsK hns,⟨mb,nsK hb,hbb⟩,let⟨mc,h1,h2⟩:=hlim;⟨mc,nsK h1,h2⟩⟩
   have e0:D3s P w K mg (D3g s₁.heap H) callerA [] s₁ H:=⟨rfl,hM,fun b o e=>Z7u e,Nat.le_of_eq (V2g _ _),trivial,fun b hb=>absurd (show b∈([]:List Addr) from hb) (by simp),hok,.of_eq hg⟩
   refine codeAny_mono ((F _ hKb (nsK hns) hLB).run callerA [] s₁ H ⟨[.ref a],[]⟩ [.ref a] [.ref a] _ _ rfl hr e0 (hbind s₁ (.ref a)) (.cons rfl .nil) (hsp H (fun q hq=>hPt _ (List.mem_map.mpr ⟨q,hq,rfl⟩)) hS)) fun r s' h=>?_
   cases r with
   |error e=>exact(hCX H e s' h).elim
   | ok fl =>
     cases fl with
     |next=>exact False.elim h
     |brk=>exact False.elim h
     |cont=>exact False.elim h
     | ret u=>
       obtain⟨v,H',os,bare,un,hok',r',q⟩:=h
       have q':v= .bl true:=q
       subst q'
       obtain rfl:u=Value.bool true:=r'
       have hP':∀b,b∈ts.map (·.2) ->∃more,s'.heap.get? b=some (tabObj (#[]++more)):=fun b hb=>by
         obtain⟨more,hm⟩:=un.tbls b _ (hPt b hb)
         exact⟨more,hok' b _ hm⟩
       have kp:∀b o,b ∉ ts.map (·.2) ->s₁.heap.get? b=some o ->s'.heap.get? b=some o:=fun b o nb e=>?_
       refine⟨rfl,⟨fun b o e=>?_,fun b o e=>?_⟩,os,bare⟩
       . by_cases hb:b∈ts.map (·.2)
         . rw[hT b hb] at e
           cases e
           obtain⟨more,hm⟩:=hP' b hb
           obtain⟨q,hq,rfl⟩:=List.mem_map.mp hb
           exact .inr (.inl ⟨((hCT q hq).1.tab (hCT q hq).2).isCodeTable,rfl, #[],more,rfl,hm⟩)
         . exact .inl (kp b o hb e)
       . by_cases hb:b∈ts.map (·.2)
         . obtain⟨more,hm⟩:=hP' b hb
           exact⟨_,hm⟩
         . exact⟨o,kp b o hb e⟩
       cases q:H b with
       |none=>exact un.keep b o e q (by intro z;exact absurd (show b∈([]:List Addr) from z) (by simp)) (by simp)
       | some u=>
         rcases hO b with z|z|⟨ob,xs,z⟩
         . rw[q] at z;cases z
         . exact absurd z nb
         . have z2:=un.frzs b ob _ z
           obtain⟨e1,_⟩:=hok b _ z
           obtain⟨e2,_⟩:=hok' b _ z2
           rw[e] at e1;cases e1
           exact e2
 have nPa:¬a∈ts.map (·.2):=fun z=>by have:=hT a z;rw[ha] at this;cases this
 cases hk:K.lookup a with
 | some o=>
   have e:=KX a o hk
   rw[ha] at e
   cases e
   refine core (fun b=>if b∈ts.map (·.2) then some (.tbl #[]) else none) (fun b hb=>if_pos hb) (fun b=>?_) (.inr ⟨_,vs.toArray,_,hk,rfl,rfl,rfl,by rw[List.size_toArray,lenV];exact hl,by simpa using rv⟩) (fun b u z=>?_) (fun b z=>?_) fun z=>absurd (if_neg nPa) z
   . by_cases hb:b∈ts.map (·.2)
     . exact .inr (.inl hb)
     . exact .inl (if_neg hb)
   . by_cases hb:b∈ts.map (·.2)
     . have z':=(if_pos hb).symm.trans z
       cases z'
       exact hT b hb
     . have z':=(if_neg hb).symm.trans z
       cases z'
   . by_cases hb:b∈ts.map (·.2)
     . exact .inl hb
     . exact absurd (if_neg hb) z
 | none=>
   refine core (fun b=>if b∈ts.map (·.2) then some (.tbl #[]) else if b=a then some (.frz {cls:= .type "list",data:= .seq vs.toArray} (.lst (ns.map V.int))) else none) (fun b hb=>if_pos hb) (fun b=>?_) (.inl (.inr ⟨{cls:= .type "list",data:= .seq vs.toArray},(if_neg nPa).trans (if_pos rfl)⟩)) (fun b u z=>?_) (fun b z=>?_) fun _=>hk
   . by_cases hp:b∈ts.map (·.2)
     . exact .inr (.inl hp)
     . by_cases hb:b=a
       . exact .inr (.inr ⟨_,_,(if_neg hp).trans (if_pos hb)⟩)
       . exact .inl ((if_neg hp).trans (if_neg hb))
   . by_cases hp:b∈ts.map (·.2)
     . have z':=(if_pos hp).symm.trans z
       cases z'
       exact hT b hp
     . by_cases hb:b=a
       . have z':=((if_neg hp).trans (if_pos hb)).symm.trans z
         cases z'
         subst hb
         exact⟨ha,by rw[List.length_map];exact hl,vs,_,rv,ha⟩
       . have z':=((if_neg hp).trans (if_neg hb)).symm.trans z
         cases z'
   . by_cases hp:b∈ts.map (·.2)
     . exact .inl hp
     . by_cases hb:b=a
       . exact .inr hb
       . exact absurd ((if_neg hp).trans (if_neg hb)) z
theorem walk_ofM{ts:List (Addr×Addr)}{l:PySem.W.OpenLaw}{n k:Nat}{q:Program}{loose:List Str}{XP:(Str ->Option Value) ->Heap ->Prop}{YP:World ->Heap ->Prop}{d:DefRec}{K:Params ->PySem.W.Frag}{CX:World ->CXT}{sp:World ->Sp}{x:Str}
   (hn:l.most=some n) (hn2:n<=sizeLine) (hdf:d.params.defaults=[]) (hr:Z5 k callerA)
   (hY:∀(w:World) (h:Heap),YP w h ->(K w.params).In h/\∀q∈ts,CodeHd h q.1 q.2/\h.get? q.2=some (tabObj #[])) (hKP:∀p,∀q∈ts,(K p).lookup q.2=none)
   (F:∀(w:World) (mg:Str ->Option Value) (fa:Addr) (h:Heap),(K w.params).In h ->h.Ns mainGlobals mg ->mg d.name=some (.ref fa) ->
     ∃ fd:FuncData,(∀(s:Shared) (u:Value),BindsTo s fd ⟨[u],[]⟩ [(x,u)])/\
       ∀base:Heap,(K w.params).In base ->base.Ns mainGlobals mg ->(∀q∈ts,G1p mg base q.1 q.2) ->A1w l.prog w (K w.params) mg base (CX w) k fa fd [x] (sp w))
   (hsp:∀(w:World) (H:Hp) (a:Addr) (ns:List Int),ns.length<=n ->(∀q∈ts,H q.2=some (.tbl #[])) ->SqL (K w.params) H a (ns.map V.int) ->sp w [.ref a] H (fun v _=>v= .bl true) fun _ _ _=>False)
   (hCX:∀(w:World) (H:Hp) (s:Shared) (e:Value) (s':Shared),CX w [] H s (fun _ _ _=>False) e s' ->False):
   PySem.W.WalkO q loose XP YP l.row.toRowW d [] (fun f vs=>PySem.call f vs):=by
 refine Att.attach_call hn hdf fun w s₀ s₁ mg mb fa o pm cd doc a vs ns G Y ho hd hcd hmg hobj hints hlen hg=>?_
 obtain⟨KX,hCT⟩:=hY w _ Y
 obtain⟨fd,hb,hF⟩:=F w mg fa _ KX G.T.g hmg
 exact V2t hCT (hKP _) G.T.bmain KX G.T.g G.T.b G.T.builtins G.T.nolimit hg hobj hints (Nat.le_trans hlen hn2) hr hF hb (fun H hO hS=>hsp w H a ns hlen hO hS) fun H e s'=>hCX w H s₁ e s'
end L2
namespace TR
open PySem L2 PySem.W PyProof.Rows
seal PE PS PSs PA PT PW PG PGs PI
noncomputable abbrev Q0:List Str:=["self","sign","last","part"]
noncomputable abbrev Q3:List Str:=["self","sign"]
noncomputable abbrev Q4:List Str:=["context","one"]
noncomputable abbrev Q5:List Str:=["thing","least","most"]
noncomputable abbrev Q7:List Str:=["context","sign"]
noncomputable abbrev Q8:List Str:=["_law_count_here"]
noncomputable abbrev Q9:List Str:=["context","number"]
noncomputable abbrev Q10:List Str:=["context","one","count"]
noncomputable abbrev Q11:List Str:=["_law_cell","_law_k"]
noncomputable abbrev Q12:List Str:=["_law_context_here","_law_first","_law_thing","_law_cell","_law_found"]
noncomputable abbrev Q13:List Str:=["self","names"]
noncomputable abbrev Q14:List Str:=["thing","most"]
noncomputable abbrev Q15:List Str:=["self","top","bottom","power"]
noncomputable abbrev Q16:List Str:=["ideal","sign","figures","power"]
noncomputable abbrev Q17:List Str:=["context","sign","pair"]
noncomputable abbrev Q18:List Str:=["context","sign","figures","power"]
noncomputable abbrev Q19:List Str:=["context","sign","ideal"]
noncomputable abbrev Q20:List Str:=["context","exact"]
noncomputable abbrev Q21:List Str:=["sign","figures","power"]
noncomputable abbrev Q22:List Str:=["self","power"]
noncomputable abbrev Q23:List Str:=["size","middle"]
noncomputable abbrev Q24:List Str:=["part","is_cut"]
noncomputable abbrev Q25:List Str:=["context","lead","part"]
noncomputable abbrev Q26:List Str:=["_law_script","_law_k"]
noncomputable abbrev Q27:List Str:=["_law_own_here"]
noncomputable abbrev Q28:List Str:=["_law_way","_law_sign","_law_last","_law_left","_law_bottom"]
noncomputable abbrev Q29:List Str:=["_law_top","_law_bottom","_law_wide"]
noncomputable abbrev Q30:List Str:=["_law_own_here","_law_sign","_law_ideal"]
noncomputable abbrev Q31:List Str:=["context","one","other"]
noncomputable abbrev Q32:List Str:=["_law_own_here","_law_one","_law_count_here"]
noncomputable abbrev Q33:List Str:=["self","kind","sign","figures","power"]
noncomputable abbrev Q34:List Str:=["whole","count"]
noncomputable abbrev Q35:List Str:=["self","room","way","least","most"]
noncomputable abbrev Q36:List Str:=["self","signal"]
noncomputable abbrev Q37:List Str:=["context","sign","exact","ideal"]
noncomputable abbrev Q38:List Str:=["_law_cell","_law_way"]
noncomputable abbrev Q39:List Str:=["_law_context_here","_law_own_here","_law_deed","_law_due_here"]
noncomputable abbrev Q40:List Str:=["_law_top","_law_bottom"]
noncomputable abbrev Q41:List Str:=["_law_own_here","_law_sign"]
noncomputable abbrev Q42:List Str:=["_law_own_here","_law_sign","_law_ratio_here","_law_ideal"]
noncomputable abbrev Q43:List Str:=["_law_context_here","_law_first","_law_thing","_law_cell"]
noncomputable abbrev Q44:List Str:=["_law_thing","_law_context_here"]
noncomputable abbrev Q45:List Str:=["_law_context_here","_law_own_here","_law_first","_law_cell"]
noncomputable abbrev Q46:List Str:=["burst","off","cut"]
noncomputable abbrev Q47:List Str:=["_law_name","_law_fits"]
noncomputable abbrev Q48:List Str:=["_law_context_here","_law_own_here","_law_first","_law_cell","_law_some","_law_counts"]
noncomputable abbrev Q49:List Str:=["self","power","shift","top","bottom","whole"]
noncomputable abbrev Q50:List Str:=["_law_k","_law_signals","_law_more"]
noncomputable abbrev Q51:List Str:=["_law_thing","_law_first","_law_context_here"]
noncomputable abbrev Q52:List Str:=["_law_script","_law_own_here","_law_context_here","_law_one","_law_first","_law_k","_law_count_here"]
variable{P:Program}{w:World}{K:Frag}{mg:Str ->Option Value}{base:Heap}
noncomputable abbrev sr (a:Addr):Option V:=some (.ref a)
noncomputable abbrev si (a:Int):Option V:=some (.int a)
noncomputable abbrev sR (a:Str):Option V:=some (.str a)
noncomputable abbrev sI (P:Program) (w:World) (K:Frag) (mg:Str ->Option Value) (base:Heap):=FnOk P w K mg base (CX1 P w)
noncomputable def top (i:Nat):Stmt:=PySem.Challenge.pw_tenreckon_k29_scaled.main.body.getD i (.Pass ⟨0,0,0,0⟩)
noncomputable abbrev C7d:Stmt:=(top 26)
noncomputable def A0pq (K:Frag):Sp:=fun vs H Q _=>∃v lo hi,vs=[v,.int lo,.int hi]/\((A5v lo hi v/\Q (.bl true) H)\/(A8f K H lo hi v/\Q (.bl false) H))
theorem A0mv:B9 Q5 Q5 (A1 C7d):=scK
theorem J8v(D:Def K mg "is_between" Q5 C7d f fd)(O:Own mg)(T:Kit K):sI P w K mg base 1 f fd Q5 (A0pq K):=by
 refine FnOk.up (D.F.ok A0mv (fun vs H Q E h=>?_) (fun cdv A outer s H vs Q E hr h=>?_))
 . obtain⟨v,lo,hi,rfl,_⟩:=h
   rfl
 obtain⟨v,lo,hi,rfl,h⟩:=h
 refine⟨_,(A8 (J0 (PW.pt (D8p (A4t (A0b (J8x O.isi (pv 0) (pty O.int_ boot_int)))) (C0s (A0b (J8x O.isi (pv 0) (pty O.bool_ boot_bool)))))) (B0 (C7 A2s)) D6) (B0 (C7 (A6r (G6 Y2h (pv 0) (pv 1) (D0 _)) (A2e (G6 A0eg (pv 0) (pv 2) (D0 _))))))),?_⟩
 rcases h with⟨⟨i,rfl,h1,h2⟩,k⟩|⟨⟨t,b1,b2,ty,k1,k2,bad⟩,k⟩
 . refine⟨_,rfl,_,_,_,_,true,rfl,rfl,V1a i,T.int_int,_,rfl,U8 ?_⟩
   refine⟨_,rfl,_,_,_,_,false,rfl,rfl,V1a i,T.int_bool,_,rfl,U8 ?_⟩
   refine⟨_,rfl,_,rfl,_,_,rfl,rfl,_,rfl,A5u h1 ?_⟩
   refine⟨_,rfl,_,rfl,_,_,rfl,rfl,?_⟩
   show Q (.bl (decide (i<=hi))) H
   rw[decide_eq_true h2]
   exact k
 refine⟨_,rfl,_,_,_,_,b1,rfl,rfl,ty,k1,_,rfl,?_⟩
 cases b1 with
 |false=>exact Z8 (Z8 k)
 | true=>
   refine U8 ⟨_,rfl,_,_,_,_,b2,rfl,rfl,ty,k2,_,rfl,?_⟩
   cases b2 with
   |true=>exact Z8 k
   | false=>
     obtain⟨i,rfl,out⟩:=bad.resolve_left (by decide)
     refine U8 ⟨_,rfl,_,rfl,_,_,rfl,rfl,_,rfl,V8 (fun h1=>?_) (fun h1=>?_)⟩
     . refine⟨_,rfl,_,rfl,_,_,rfl,rfl,?_⟩
       show Q (.bl (decide (i<=hi))) H
       rw[decide_eq_false (by omega:¬i<=hi)]
       exact k
     . exact k
structure Err(K:Frag)(mg:Str ->Option Value)(x:Str)(CB:Addr):Prop where
 g:mg x=some (.ref CB)
 q:excIn K CB [.type "ValueError",.type "Exception",.type "BaseException",.type "object"] "ValueError.__new__"=true
noncomputable def B8x (lo hi:Int):Prop:=lo.natAbs.log2<1920/\hi.natAbs.log2<1920/\(Str.ofString (toString lo)).length<=100/\(Str.ofString (toString hi)).length<=100
noncomputable abbrev A4w:Stmt:=(top 71)
noncomputable def D8k (K:Frag) (CB:Addr):Sp:=fun vs H Q E=>∃v lo hi,vs=[v,.int lo,.int hi]/\B8x lo hi/\((A5v lo hi v/\Q v H)\/(A8f K H lo hi v/\E (.ref CB) none H))
theorem V3g:B9 Q5 Q5 (A1 A4w):=scK
theorem J9p{f f1 CB:Addr}(D:Def K mg "bounded" Q5 A4w f fd)(D1:Def K mg "is_between" Q5 C7d f1 fd1)(O:Own mg)(T:Kit K)(B:Err K mg "BadContext" CB):
   sI P w K mg base 2 f fd Q5 (D8k K CB):=by
 have G1:=J8v (P:=P) (w:=w) (base:=base) D1 O T
 refine D.F.okE V3g (fun vs H Q E h=>?_) (fun X cdv A outer s H vs Q E hX hr hx h=>?_)
 . obtain⟨v,lo,hi,rfl,_⟩:=h
   rfl
 subst hX
 obtain⟨v,lo,hi,rfl,⟨l1,l2,l3,l4⟩,h⟩:=h
 refine⟨_,(A8 (J0 (A4t (A0b (D5 D1 G1 hr hx (A0 (pv 0) (A0 (pv 1) (A0 (pv 2) A6)))))) (B0 (A2x (by rfl) B.g B.q PySem.F.excBase_ValueError hr.hd hx (A0 (G0v (.cons .lit (.cons (.int (pv 1)) (.cons .lit (.cons (.int (pv 2)) .nil))))) A6))) D6) (B0 (C7 (pv 0)))),?_⟩
 rcases h with⟨g,k⟩|⟨bad,k⟩
 . exact⟨_,rfl,_,rfl,_,rfl,_,_,_,rfl,.inl ⟨g,_,rfl,U8 ⟨_,rfl,k⟩⟩⟩
 have a0:Str.empty.length=0:=rfl
 have a1:(Str.ofString "not a whole number from ").length=24:=by decide+kernel
 have a2:(Str.ofString " to ").length=4:=by decide+kernel
 have sz:∀{n:Nat},n<=1000 ->n<=sizeLine:=fun h=>Nat.le_of_lt (Y0 h)
 refine⟨_,rfl,_,rfl,_,rfl,_,_,_,rfl,.inr ⟨bad,_,rfl,Z8 ?_⟩⟩
 exact⟨_,rfl,sz (by rw[strLen_append];omega),_,rfl,_,rfl,l1,_,rfl,sz (by rw[strLen_append,strLen_append];omega),_,rfl,sz (by rw[strLen_append,strLen_append,strLen_append];omega),_,rfl,_,rfl,l2,_,rfl,sz (by rw[strLen_append,strLen_append,strLen_append,strLen_append];omega),sz (by rw[strLen_append,strLen_append,strLen_append,strLen_append];omega),sz (by show 1<=1000;decide),k⟩
noncomputable abbrev A2y:Stmt:=(top 27)
noncomputable def V3z (K:Frag) (CB:Addr):Sp:=fun vs H Q E=>∃v lo hi,vs=[v,.int lo,.int hi]/\B8x lo hi/\
 ((A5v lo hi v/\Q .non H)\/(A8f K H lo hi v/\E (.ref CB) none H))
theorem V2w:B9 Q5 Q5 (A1 A2y):=scK
theorem C8n{f f1 CB:Addr}(D:Def K mg "need_between" Q5 A2y f fd)(D1:Def K mg "is_between" Q5 C7d f1 fd1)(O:Own mg)(T:Kit K)(B:Err K mg "BadNumber" CB):
   sI P w K mg base 2 f fd Q5 (V3z K CB):=by
 have G1:=J8v (P:=P) (w:=w) (base:=base) D1 O T
 refine D.F.okE V2w (fun vs H Q E h=>?_) (fun X cdv A outer s H vs Q E hX hr hx h=>?_)
 . obtain⟨v,lo,hi,rfl,_⟩:=h
   rfl
 subst hX
 obtain⟨v,lo,hi,rfl,⟨l1,l2,l3,l4⟩,h⟩:=h
 refine⟨_,(B0 (J0 (A4t (A0b (D5 D1 G1 hr hx (A0 (pv 0) (A0 (pv 1) (A0 (pv 2) A6)))))) (B0 (A2x (by rfl) B.g B.q PySem.F.excBase_ValueError hr.hd hx (A0 (G0v (.cons .lit (.cons (.int (pv 1)) (.cons .lit (.cons (.int (pv 2)) .nil))))) A6))) D6)),?_⟩
 rcases h with⟨g,k⟩|⟨bad,k⟩
 . exact⟨_,rfl,_,rfl,_,rfl,_,_,_,rfl,.inl ⟨g,_,rfl,U8 k⟩⟩
 have a0:Str.empty.length=0:=rfl
 have a1:(Str.ofString "not a whole number from ").length=24:=by decide+kernel
 have a2:(Str.ofString " to ").length=4:=by decide+kernel
 have sz:∀{n:Nat},n<=1000 ->n<=sizeLine:=fun h=>Nat.le_of_lt (Y0 h)
 refine⟨_,rfl,_,rfl,_,rfl,_,_,_,rfl,.inr ⟨bad,_,rfl,Z8 ?_⟩⟩
 exact⟨_,rfl,sz (by rw[strLen_append];omega),_,rfl,_,rfl,l1,_,rfl,sz (by rw[strLen_append,strLen_append];omega),_,rfl,sz (by rw[strLen_append,strLen_append,strLen_append];omega),_,rfl,_,rfl,l2,_,rfl,sz (by rw[strLen_append,strLen_append,strLen_append,strLen_append];omega),sz (by rw[strLen_append,strLen_append,strLen_append,strLen_append];omega),sz (by show 1<=1000;decide),k⟩
noncomputable abbrev D7j:Stmt:=(G8 (top 17) 0)
noncomputable abbrev C5t:Stmt:=(top 21)
noncomputable abbrev A0z:Stmt:=(top 23)
structure Num(K:Frag)(mg:Str ->Option Value)(CN:Addr):Prop where
 g:mg "Number"=some (.ref CN)
 cl:Cls K CN
 n1:A0d K CN "kind"
 n2:A0d K CN "sign"
 n3:A0d K CN "figures"
 n4:A0d K CN "power"
 ca:findIn K (.ref CN) "__class__"=some (some (.builtin "object.__class__"))
 sn:specialIn K (.builtin "object.__class__") "__get__"=some (some (.builtin "getset_descriptor.__get__"))
 tk:takesIn K (.builtin "object.__class__")=some true
 ob:mroIn K CN (.type "object")=some true
 self:kitOne K (.ref CN) (.ref CN)=some true
noncomputable def D3h (k s f p:V):List (Str×V):=Y4 "power" p (Y4 "figures" f (Y4 "sign" s (Y4 "kind" k [])))
theorem e12:¬(("kind":Str)="sign"):=by decide+kernel
theorem e13:¬(("kind":Str)="figures"):=by decide+kernel
theorem e14:¬(("kind":Str)="power"):=by decide+kernel
theorem e23:¬(("sign":Str)="figures"):=by decide+kernel
theorem e24:¬(("sign":Str)="power"):=by decide+kernel
theorem e34:¬(("figures":Str)="power"):=by decide+kernel
theorem num1(k s f p:V):(D3h k s f p).lookup ("kind":Str)=some k:=by unfold D3h;rw[G4,if_neg e14,G4,if_neg e13,G4,if_neg e12,G4,if_pos rfl]
theorem Z7m(k s f p:V):(D3h k s f p).lookup ("sign":Str)=some s:=by unfold D3h;rw[G4,if_neg e24,G4,if_neg e23,G4,if_pos rfl]
theorem V3x(k s f p:V):(D3h k s f p).lookup ("figures":Str)=some f:=by unfold D3h;rw[G4,if_neg e34,G4,if_pos rfl]
theorem J9q(k s f p:V):(D3h k s f p).lookup ("power":Str)=some p:=by unfold D3h;rw[G4,if_pos rfl]
noncomputable def A5g (CN:Addr) (H:Hp) (n:Addr) (k s f p:V):Prop:=∃dx,H n=some (.ins CN dx (D3h k s f p))
theorem A5g.same{CN:Addr}{H H':Hp}{n:Addr}{k s f p:V}(h:A5g CN H n k s f p)(e:B7 H H'):A5g CN H' n k s f p:=by
 obtain⟨dx,z⟩:=h
 exact⟨dx,e _ _ z⟩
theorem Num.ty{K:Frag}{mg:Str ->Option Value}{CN:Addr}(N:Num K mg CN){H:Hp}{n:Addr}{k s f p:V}(h:A5g CN H n k s f p):TyE K H (.ref n) (.ref CN):=by
 obtain⟨dx,z⟩:=h
 exact .of (.ins z N.cl N.ca N.sn N.tk N.ob)
noncomputable def G0t (CN:Addr):Sp:=fun vs H Q _=>∃(p dx:Addr) (k s f pw:V),vs=[.ref p,k,s,f,pw]/\H p=some (.ins CN dx [])/\∀H',H' p=some (.ins CN dx (D3h k s f pw)) ->(∀b o,H b=some o ->b≠p ->H' b=some o) ->Q .non H'
theorem A0fz:B9 Q33 Q33 (A1 D7j):=scK
theorem Z8p{f CN:Addr}(F:Fun K "__init__" "Number.__init__" D7j f fd)(N:Num K mg CN):FnOk P w K mg base CX0 1 f fd Q33 (G0t CN):=by
 refine F.ok A0fz (fun vs H Q E h=>?_) (fun cdv A outer s H vs Q E hr h=>?_)
 . obtain⟨p,dx,a,b,c,d,rfl,_⟩:=h
   rfl
 obtain⟨p,dx,a,b,c,d,rfl,hp,k⟩:=h
 refine⟨_,A8 (A0y (pv 0) (pv 1) rfl) (A8 (A0y (pv 0) (pv 2) rfl) (A8 (A0y (pv 0) (pv 3) rfl) (B0 (A0y (pv 0) (pv 4) rfl)))),?_⟩
 have l:∀(fs:List (Str×V)) (f:Str) (v:V) (n:Nat),fs.length<=n ->(Y4 f v fs).length<=n+1:=fun fs f v n h=>Nat.le_trans (A2v f v fs) (Nat.succ_le_succ h)
 refine⟨_,rfl,_,rfl,p,CN,dx,[],rfl,hp,N.cl,N.n1,(by show 0<1000;decide),?_⟩
 refine⟨_,rfl,_,rfl,p,CN,dx,_,rfl,A7,N.cl,N.n2,Nat.lt_of_le_of_lt (l _ _ _ 0 (Nat.le_refl _)) (by decide),?_⟩
 refine⟨_,rfl,_,rfl,p,CN,dx,_,rfl,A7,N.cl,N.n3,Nat.lt_of_le_of_lt (l _ _ _ 1 (l _ _ _ 0 (Nat.le_refl _))) (by decide),?_⟩
 refine⟨_,rfl,_,rfl,p,CN,dx,_,rfl,A7,N.cl,N.n4,Nat.lt_of_le_of_lt (l _ _ _ 2 (l _ _ _ 1 (l _ _ _ 0 (Nat.le_refl _)))) (by decide),?_⟩
 refine k _ A7 fun b o e hb=>?_
 rw[C9 hb,C9 hb,C9 hb,C9 hb]
 exact e
structure B9m(P:Program)(w:World)(K:Frag)(mg:Str ->Option Value)(base:Heap)(CN fI:Addr)(fdI:FuncData):Prop where
 m:Mk K CN fI
 g:FnOk P w K mg base CX0 1 fI fdI Q33 (G0t CN)
 b:A0p K fdI Q33 []
theorem made{CN:Addr}{H:Hp}{Q:VK}{k s f p:V}(h:∀n H',H n=none ->B7 H H' ->A5g CN H' n k s f p ->Q (.ref n) H'):
   ∀x dx,H x=none ->H dx=none ->dx≠x ->G0t CN (.ref x::([k,s,f,p]++ [])) (upd (upd H dx (.own x)) x (.ins CN dx [])) (fun v H2=>v= .non/\Q (.ref x) H2) E0:=by
 intro x dx nx nd ne
 refine⟨x,dx,k,s,f,p,rfl,A7,fun H' e kp=>⟨rfl,h x H' nx (fun b o z=>?_) ⟨dx,e⟩⟩⟩
 refine kp b o ?_ (D8 z nx)
 rw[C9 (D8 z nx),C9 (D8 z nd)]
 exact z
noncomputable def A5h (K:Frag) (CN:Addr) (H:Hp) (v:V):Prop:=∃t,TyE K H v t/\kitOne K t (.ref CN)=some false
noncomputable def A3s (K:Frag) (CN CB:Addr):Sp:=fun vs H Q E=>∃v,vs=[v]/\((∃n k s f p,v= .ref n/\A5g CN H n k s f p/\Q v H)\/(A5h K CN H v/\E (.ref CB) none H))
theorem Z9e:B9 ["thing"] ["thing"] (A1 A0z):=scK
theorem J2t{f CN CB:Addr}(D:Def K mg "need_number" ["thing"] A0z f fd)(O:Own mg)(T:Kit K)(B:Err K mg "BadNumber" CB)(N:Num K mg CN):sI P w K mg base 1 f fd ["thing"] (A3s K CN CB):=by
 refine D.F.okE Z9e (fun vs H Q E h=>?_) (fun X cdv A outer s H vs Q E hX hr hx h=>?_)
 . obtain⟨v,rfl,_⟩:=h
   rfl
 subst hX
 obtain⟨v,rfl,h⟩:=h
 refine⟨_,(A8 (J0 (A4t (A0b (J8x O.isi (pv 0) (D3p N.g)))) (B0 (A2x (by rfl) B.g B.q PySem.F.excBase_ValueError hr.hd hx (A0 B3 A6))) D6) (B0 (C7 (pv 0)))),?_⟩
 rcases h with⟨n,a,b,c,d,rfl,hn,k⟩|⟨⟨t,ty,k1⟩,k⟩
 . exact⟨_,rfl,_,_,_,_,true,rfl,rfl,N.ty hn,N.self,_,rfl,U8 ⟨_,rfl,k⟩⟩
 exact⟨_,rfl,_,_,_,t,false,rfl,rfl,ty,k1,_,rfl,Z8 ⟨Nat.le_of_lt (Y0 (by show 1<=1000;decide)),k⟩⟩
noncomputable def J8t (K:Frag) (CN CB:Addr):Sp:=fun vs H Q E=>∃v,vs=[v]/\((∃n k s f p,v= .ref n/\A5g CN H n k s f p/\∀t,H t=none ->Q (.ref t) (upd H t (.tup [k,s,f,p])))\/(A5h K CN H v/\E (.ref CB) none H))
theorem A0gs:B9 ["number"] ["number"] (A1 C5t):=scK
theorem A0at{f f1 CN CB:Addr}(D:Def K mg "told" ["number"] C5t f fd)(dA:Def K mg "need_number" ["thing"] A0z f1 fd1)(O:Own mg)(T:Kit K)(B:Err K mg "BadNumber" CB)(N:Num K mg CN):
   sI P w K mg base 2 f fd ["number"] (J8t K CN CB):=by
 have G_need_number:=J2t (P:=P) (w:=w) (base:=base) dA O T B N
 refine D.F.okE A0gs (fun vs H Q E h=>?_) (fun X cdv A outer s H vs Q E hX hr hx h=>?_)
 . obtain⟨v,rfl,_⟩:=h
   rfl
 subst hX
 obtain⟨v,rfl,h⟩:=h
 refine⟨_,(A8 (J9 (D5 dA G_need_number hr hx (A0 (pv 0) A6))) (B0 (C7 (V3 (A0 (J1 (pv 0) rfl) (A0 (J1 (pv 0) rfl) (A0 (J1 (pv 0) rfl) (A0 (J1 (pv 0) rfl) A6)))))))),?_⟩
 rcases h with⟨n,a,b,c,d,rfl,hn,k⟩|⟨bad,k⟩
 . refine⟨_,rfl,_,rfl,.inl ⟨n,a,b,c,d,rfl,hn,?_⟩⟩
   obtain⟨dx,e⟩:=hn
   exact⟨_,rfl,n,CN,dx,_,_,rfl,e,N.cl,N.n1,num1 _ _ _ _,_,rfl,n,CN,dx,_,_,rfl,e,N.cl,N.n2,Z7m _ _ _ _,_,rfl,n,CN,dx,_,_,rfl,e,N.cl,N.n3,V3x _ _ _ _,_,rfl,n,CN,dx,_,_,rfl,e,N.cl,N.n4,J9q _ _ _ _,
     Nat.le_of_lt (Y0 (by show 4<=1000;decide)),k⟩
 exact⟨_,rfl,_,rfl,.inr ⟨bad,k⟩⟩
noncomputable abbrev B6r:Stmt:=(top 18)
noncomputable abbrev J1k:Stmt:=(top 19)
noncomputable abbrev A4v:Stmt:=(top 20)
noncomputable def V0t (K:Frag) (CN CB:Addr):Sp:=fun vs H Q E=>∃x y z,vs=[x,y,z]/\
 ((A5v 0 1 x/\A5v 0 (10^60-1) y/\A5v (-200) 200 z/\∀n H',H n=none ->B7 H H' ->A5g CN H' n (.str "plain") x y z ->Q (.ref n) H')\/
  ((A8f K H 0 1 x\/(A5v 0 1 x/\(A8f K H 0 (10^60-1) y\/(A5v 0 (10^60-1) y/\A8f K H (-200) 200 z))))/\E (.ref CB) none H))
theorem Z7s:B9 Q21 Q21 (A1 B6r):=scK
theorem b01:B8x 0 1:=by unfold B8x;decide+kernel
theorem b60:B8x 0 (10^60-1):=by unfold B8x;decide+kernel
theorem b200:B8x (-200) 200:=by unfold B8x;decide+kernel
theorem Y0n{f f1 f2 fI CN CB:Addr}{fd fd1 fd2 fdI:FuncData}(D:Def K mg "plain" Q21 B6r f fd)(dA:Def K mg "need_between" Q5 A2y f1 fd1)(D2:Def K mg "is_between" Q5 C7d f2 fd2)
   (O:Own mg) (T:Kit K) (B:Err K mg "BadNumber" CB) (N:Num K mg CN) (M:B9m P w K mg base CN fI fdI):sI P w K mg base 3 f fd Q21 (V0t K CN CB):=by
 have G_need_between:=C8n (P:=P) (w:=w) (base:=base) dA D2 O T B
 refine D.F.okE Z7s (fun vs H Q E h=>?_) (fun X cdv A outer s H vs Q E hX hr hx h=>?_)
 . obtain⟨x,y,z,rfl,_⟩:=h
   rfl
 subst hX
 obtain⟨x,y,z,rfl,h⟩:=h
 refine⟨_,(A8 (J9 (D5 dA G_need_between hr hx (A0 (pv 0) (A0 A3 (A0 A3 A6))))) (A8 (J9 (D5 dA G_need_between hr hx (A0 (pv 1) (A0 A3 (A0 (B1 V2 (B1 G0q A3 A3) A3) A6))))) (A8 (J9 (D5 dA G_need_between hr hx (A0 (pv 2) (A0 (B1a A5f A3) (A0 A3 A6))))) (B0 (C7 (G0e M.m M.g hr rfl N.g M.b .nil Y3s (A0 B3 (A0 (pv 0) (A0 (pv 1) (A0 (pv 2) A6)))))))))),?_⟩
 have pw:Y2q 10 60:=⟨by decide,by decide,by decide⟩
 rcases h with⟨⟨i1,rfl,l1,u1⟩,⟨i2,rfl,l2,u2⟩,⟨i3,rfl,l3,u3⟩,k⟩|⟨bad,k⟩
 . refine⟨_,rfl,_,_,_,rfl,b01,.inl ⟨⟨i1,rfl,l1,u1⟩,?_⟩⟩
   refine⟨_,rfl,_,_,rfl,rfl,pw,_,_,rfl,rfl,_,_,_,rfl,b60,.inl ⟨⟨i2,rfl,l2,u2⟩,?_⟩⟩
   refine⟨_,rfl,_,rfl,_,_,_,rfl,b200,.inl ⟨⟨i3,rfl,l3,u3⟩,?_⟩⟩
   exact⟨_,rfl,_,rfl,_,rfl,made k⟩
 rcases bad with bad|⟨⟨i1,rfl,l1,u1⟩,bad|⟨⟨i2,rfl,l2,u2⟩,bad⟩⟩
 . exact⟨_,rfl,_,_,_,rfl,b01,.inr ⟨bad,k⟩⟩
 . refine⟨_,rfl,_,_,_,rfl,b01,.inl ⟨⟨i1,rfl,l1,u1⟩,?_⟩⟩
   exact⟨_,rfl,_,_,rfl,rfl,pw,_,_,rfl,rfl,_,_,_,rfl,b60,.inr ⟨bad,k⟩⟩
 refine⟨_,rfl,_,_,_,rfl,b01,.inl ⟨⟨i1,rfl,l1,u1⟩,?_⟩⟩
 refine⟨_,rfl,_,_,rfl,rfl,pw,_,_,rfl,rfl,_,_,_,rfl,b60,.inl ⟨⟨i2,rfl,l2,u2⟩,?_⟩⟩
 exact⟨_,rfl,_,rfl,_,_,_,rfl,b200,.inr ⟨bad,k⟩⟩
noncomputable def Y1f (K:Frag) (CN CB:Addr):Sp:=fun vs H Q E=>∃x,vs=[x]/\((A5v 0 1 x/\∀n H',H n=none ->B7 H H' ->A5g CN H' n (.str "end") x (.int 0) (.int 0) ->Q (.ref n) H')\/(A8f K H 0 1 x/\E (.ref CB) none H))
theorem A0nj:B9 ["sign"] ["sign"] (A1 J1k):=scK
theorem A0ez{f f1 f2 fI CN CB:Addr}{fd fd1 fd2 fdI:FuncData}(D:Def K mg "end" ["sign"] J1k f fd)(dA:Def K mg "need_between" Q5 A2y f1 fd1)(D2:Def K mg "is_between" Q5 C7d f2 fd2)
   (O:Own mg) (T:Kit K) (B:Err K mg "BadNumber" CB) (N:Num K mg CN) (M:B9m P w K mg base CN fI fdI):sI P w K mg base 3 f fd ["sign"] (Y1f K CN CB):=by
 have G_need_between:=C8n (P:=P) (w:=w) (base:=base) dA D2 O T B
 refine D.F.okE A0nj (fun vs H Q E h=>?_) (fun X cdv A outer s H vs Q E hX hr hx h=>?_)
 . obtain⟨x,rfl,_⟩:=h
   rfl
 subst hX
 obtain⟨x,rfl,h⟩:=h
 refine⟨_,(A8 (J9 (D5 dA G_need_between hr hx (A0 (pv 0) (A0 A3 (A0 A3 A6))))) (B0 (C7 (G0e M.m M.g hr rfl N.g M.b .nil Y3s (A0 B3 (A0 (pv 0) (A0 A3 (A0 A3 A6)))))))),?_⟩
 rcases h with⟨⟨i1,rfl,l1,u1⟩,k⟩|⟨bad,k⟩
 . refine⟨_,rfl,_,_,_,rfl,b01,.inl ⟨⟨i1,rfl,l1,u1⟩,?_⟩⟩
   exact⟨_,rfl,made k⟩
 exact⟨_,rfl,_,_,_,rfl,b01,.inr ⟨bad,k⟩⟩
noncomputable def D7s (CN:Addr):Sp:=fun vs H Q _=>vs=[]/\∀n H',H n=none ->B7 H H' ->A5g CN H' n (.str "none") (.int 0) (.int 0) (.int 0) ->Q (.ref n) H'
theorem V3v:B9 [] [] (A1 A4v):=scK
theorem J8w{f fI CN:Addr}{fd fdI:FuncData}(D:Def K mg "nothing" [] A4v f fd)(N:Num K mg CN)(M:B9m P w K mg base CN fI fdI):sI P w K mg base 3 f fd [] (D7s CN):=by
 refine D.F.okE V3v (fun vs H Q E h=>?_) (fun X cdv A outer s H vs Q E hX hr hx h=>?_)
 . obtain⟨rfl,_⟩:=h
   rfl
 subst hX
 obtain⟨rfl,k⟩:=h
 refine⟨_,(B0 (C7 (G0e M.m M.g hr rfl N.g M.b .nil Y3s (A0 B3 (A0 A3 (A0 A3 (A0 A3 A6))))))),?_⟩
 exact made k
noncomputable abbrev C8a:Stmt:=(top 22)
noncomputable def Y3y (CN:Addr):Sp:=fun vs H Q _=>∃n k s f p,vs=[.ref n]/\A5g CN H n k s (.int f) (.int p)/\f.natAbs<2^300/\Q (.int (p+((Str.ofString (toString f)).length:Nat)-1)) H
theorem A0ff:B9 ["number"] ["number"] (A1 C8a):=scK
theorem A0ac{f CN:Addr}(D:Def K mg "lead_of" ["number"] C8a f fd)(O:Own mg)(N:Num K mg CN):sI P w K mg base 1 f fd ["number"] (Y3y CN):=by
 refine D.F.okE A0ff (fun vs H Q E h=>?_) (fun X cdv A outer s H vs Q E hX hr hx h=>?_)
 . obtain⟨n,a,b,c,d,rfl,_⟩:=h
   rfl
 subst hX
 obtain⟨n,a,b,fg,pw,rfl,⟨dx,e⟩,hf,k⟩:=h
 refine⟨_,(B0 (C7 (B1 V2 (B1 V4 (J1 (pv 0) rfl) (V1 A3t (by rfl) O.len_ PySem.boot_len (A0 (Y7 A3u (by rfl) O.str_ boot_str (A0 (J1 (pv 0) rfl) A6)) A6))) A3))),?_⟩
 have lg:fg.natAbs.log2<1920:=Nat.lt_trans (A8r hf (by decide)) (by decide)
 exact⟨_,rfl,n,CN,dx,_,_,rfl,e,N.cl,N.n4,J9q _ _ _ _,_,rfl,n,CN,dx,_,_,rfl,e,N.cl,N.n3,V3x _ _ _ _,_,rfl,lg,_,rfl,int_text_fits lg,_,_,rfl,rfl,_,_,rfl,rfl,k⟩
noncomputable abbrev A0x:Stmt:=(top 2)
noncomputable abbrev A4p:Stmt:=(top 3)
theorem G0k{x k:Nat}(h:x<2^k)(hk:k<=1048576):Builtin.Int.intBits (x:Int)<=2^20:=by
 unfold Builtin.Int.intBits
 split
 . exact Nat.zero_le _
 have z:(x:Int).natAbs≠0:=by
   intro z
   rename_i hz
   exact hz (by simpa using z)
 have:(x:Int).natAbs.log2<k:=(Nat.log2_lt z).mpr h
 have e:(2:Nat)^20=1048576:=by decide
 omega
theorem C7n{b s j n:Nat}(hb:b<2^s)(hj:j<=n)(hn:n*s<1048576):Builtin.Int.intBits ((b^j:Nat):Int)<=2^20:=by
 refine G0k (k:=n*s+1) ?_ hn
 have a:b^j<=(2^s)^j:=Nat.pow_le_pow_left (Nat.le_of_lt hb) j
 have c:(2^s)^j<=2^(n*s):=by
   rw[<-Nat.pow_mul,Nat.mul_comm n s]
   exact Nat.pow_le_pow_right (by decide) (Nat.mul_le_mul_left s hj)
 have d:2^(n*s)<2^(n*s+1):=Nat.pow_lt_pow_right (by decide) (by omega)
 exact Nat.lt_of_le_of_lt a (Nat.lt_of_le_of_lt c d)
theorem C0m{b s i j n:Nat}(hb:b<2^s)(hi:i<=n)(hj:j<=n)(hn:n*s<1048576):IntMulOk ((b^i:Nat):Int) ((b^j:Nat):Int):=IntMulOk.of_bits (C7n hb hi hn) (C7n hb hj hn)
noncomputable def C5r:Sp:=fun vs H Q _=>∃b n s:Nat,vs=[.int (b:Int),.int (n:Int)]/\b<2^s/\n*s<1048576/\Q (.int ((b^n:Nat):Int)) H
theorem scProductOf:B9 ["whole","count","product"] Q34 (A1 A0x):=scK
theorem D9u(D:Def K mg "product_of" Q34 A0x f fd):sI P w K mg base 1 f fd Q34 C5r:=by
 refine FnOk.up (D.F.ok scProductOf (fun vs H Q E h=>?_) (fun cdv A outer s H vs Q E hr h=>?_))
 . obtain⟨b,n,z,rfl,_⟩:=h
   rfl
 obtain⟨b,n,z,rfl,hb,hn,k⟩:=h
 refine⟨_,(A8 (D7 (i:=2) scProductOf.nd rfl (Or.inl rfl) A3) (A8 (B9c PassesOwn.never (D4 B9g (pv 1) A3 (D0 _)) (A8 (J0 (D4 G7 (B1 G2 (pv 1) A3) A3 (D0 _)) (B0 (D7 (i:=2) scProductOf.nd rfl (Or.inl rfl) (B1 V9 (pv 2) (pv 0)))) D6) (A8 (D7 (i:=0) scProductOf.nd rfl (Or.inl rfl) (B1 V9 (pv 0) (pv 0))) (B0 (D7 (i:=1) scProductOf.nd rfl (Or.inl rfl) (B1 G3 (pv 1) A3)))))) (B0 (C7 (pv 2))))),?_⟩
 have d2:(0:Int)<2/\(2:Int).natAbs.log2<9000:=⟨by decide,by decide+kernel⟩
 refine B9b (fun σ H2=>H2=H/\∃i m c:Nat,m+i*c=n/\σ=[si ((b^i:Nat):Int),si (c:Int),si ((b^m:Nat):Int)]) (fun σ _=>match σ with| [_,some (.int c),_]=>c.toNat|_=>0) ?_ ?_ ?_
 . exact⟨rfl,1,0,n,by omega,by rw[Nat.pow_one];rfl⟩
 . rintro σ H2 ⟨rfl,i,m,c,hc,rfl⟩
   refine⟨_,rfl,_,_,rfl,rfl,_,rfl,V8 (fun h0=>?_) (fun h0=>?_)⟩
   . have c1:1<=c:=by
       have:(0:Int)<c:=h0
       omega
     have hi:i<=n:=Nat.le_trans (Nat.le_mul_of_pos_right i c1) (by omega)
     have hm:m<=n:=by omega
     have sq:((b^i:Nat):Int)*((b^i:Nat):Int)=((b^(2*i):Nat):Int):=by rw[Nat.two_mul,Nat.pow_add];rfl
     have lt:((c:Int)/2).toNat<(c:Int).toNat:=by omega
     refine⟨_,rfl,_,_,rfl,rfl,d2.1,rfl,_,rfl,V8 (fun ho=>?_) (fun he=>?_)⟩
     . have ho:(c:Int) % 2=1:=by injection ho
       have mu:((b^m:Nat):Int)*((b^i:Nat):Int)=((b^(m+i):Nat):Int):=by rw[Nat.pow_add];rfl
       refine⟨_,rfl,_,rfl,_,_,rfl,rfl,C0m hb hm hi hn,_,rfl,_,rfl,_,_,rfl,rfl,C0m hb hi hi hn,_,rfl,_,_,rfl,rfl,d2,⟨rfl,2*i,m+i,c/2,?_,?_⟩,lt⟩
       . have e:i*c=i*(2*(c/2)+1):=congrArg (i* ·) (by omega)
         rw[Nat.mul_add,Nat.mul_one, <-Nat.mul_assoc,Nat.mul_comm i 2] at e
         omega
       . show [si (((b^i:Nat):Int)*((b^i:Nat):Int)),si ((c:Int)/2),si (((b^m:Nat):Int)*((b^i:Nat):Int))]=_
         rw[sq,mu]
         rfl
     . have he:¬(c:Int) % 2=1:=fun z=>he (congrArg V.int z)
       refine⟨_,rfl,_,rfl,_,_,rfl,rfl,C0m hb hi hi hn,_,rfl,_,_,rfl,rfl,d2,⟨rfl,2*i,m,c/2,?_,?_⟩,lt⟩
       . have e:i*c=i*(2*(c/2)):=congrArg (i* ·) (by omega)
         rw[<-Nat.mul_assoc,Nat.mul_comm i 2] at e
         omega
       . show [si (((b^i:Nat):Int)*((b^i:Nat):Int)),si ((c:Int)/2),si ((b^m:Nat):Int)]=_
         rw[sq]
         rfl
   . have c0:c=0:=by
       have:¬(0:Int)<c:=h0
       omega
     subst c0
     have hm:m=n:=by omega
     subst hm
     exact⟨_,rfl,k⟩
 rintro σ H2 Q1 Q2 hQ ⟨v,e,i,j,e1,e2,b,e3,q⟩
 exact⟨v,e,i,j,e1,e2,b,e3,hQ _ _ q⟩
noncomputable def B8z:Sp:=fun vs H Q _=>∃n:Nat,vs=[.int (n:Int)]/\n<=4000/\Q (.int ((10^n:Nat):Int)) H
theorem Z7p:B9 ["count"] ["count"] (A1 A4p):=scK
theorem Y0z(D:Def K mg "ten_to" ["count"] A4p f fd)(dA:Def K mg "product_of" Q34 A0x f1 fd1)(dB:sI P w K mg base 1 f1 fd1 Q34 C5r):sI P w K mg base 2 f fd ["count"] B8z:=by
 refine FnOk.up (D.F.ok Z7p (fun vs H Q E h=>?_) (fun cdv A outer s H vs Q E hr h=>?_))
 . obtain⟨n,rfl,_⟩:=h
   rfl
 obtain⟨n,rfl,hn,k⟩:=h
 have hx:G5 (A0w CX0 P w K mg base ["count"] "ten_to" (A1 A4p) f cdv A outer s H E).nox EKF:=A0e
 refine⟨_,(B0 (C7 (D5 dA dB hr hx (A0 A3 (A0 (pv 0) A6))))),?_⟩
 exact⟨_,rfl,10,n,4,rfl,by decide,by omega,k⟩
inductive Kd where
 |plain|end_|none
noncomputable def Kd.str:Kd ->Str
 | .plain=>"plain"
 | .end_=>"end"
 | .none=>"none"
theorem Kd.str_inj{a b:Kd}(h:a.str=b.str):a=b:=by
 cases a<;>cases b<;>first|rfl|exact absurd h (by decide+kernel)
structure Nm where
 k:Kd
 s:Int
 f:Int
 p:Int
noncomputable def Nm.vs (x:Nm):List V:=[.str x.k.str,.int x.s,.int x.f,.int x.p]
structure Nm.Ok(x:Nm):Prop where
 s0:0<=x.s
 s1:x.s<=1
 f0:0<=x.f
 f1:x.f<=10^60-1
 p0: -200<=x.p
 p1:x.p<=200
noncomputable def U0 (CN:Addr) (H:Hp) (n:Addr) (x:Nm):Prop:=A5g CN H n (.str x.k.str) (.int x.s) (.int x.f) (.int x.p)
theorem U0.same{CN:Addr}{H H':Hp}{n:Addr}{x:Nm}(h:U0 CN H n x)(e:B7 H H'):U0 CN H' n x:=A5g.same h e
theorem A5h.same{K:Frag}{CN:Addr}{H H':Hp}{v:V}(h:A5h K CN H v)(e:B7 H H'):A5h K CN H' v:=by
 obtain⟨t,ty,r⟩:=h
 exact⟨t,TyE.same ty e,r⟩
noncomputable def C8 (n:Int):Int:=((10^n.toNat:Nat):Int)
theorem Y8(n:Int):0<C8 n:=Int.natCast_pos.mpr (Nat.pow_pos (by decide))
theorem neS{a b:Kd}(h:¬V.str a.str=V.str b.str):a≠b:=fun q=>h (by rw[q])
theorem eqS{a b:Kd}(h:V.str a.str=V.str b.str):a=b:=Kd.str_inj (by injection h)
theorem V3w{d:Int}(h:d<=4000):Builtin.Int.intBits (C8 d)<=2^20:=C7n (b:=10) (s:=4) (n:=4000) (by decide) (by omega) (by decide)
noncomputable def U2 (left low:Int):Int:=(if decide (0<left)=true then 1 else 0)+(if decide (low<=2*left)=true then 1 else 0)+(if decide (low<2*left)=true then 1 else 0)
theorem maxT(s:Int):(if(0:Int)>s then 0 else s)=((s.toNat:Nat):Int):=by
 by_cases h:(0:Int)>s
 . rw[if_pos h];omega
 rw[if_neg h];omega
noncomputable def A0m (t b s:Int):Prop:=b*C8 (-s)<=t*C8 s/\t*C8 s<10*(b*C8 (-s))
theorem C7g{s r:Int}(h:s<=r):C8 r*C8 (-s)=C8 s*C8 (-r)*C8 (r-s):=by
 have ad:∀{a b c:Int},0<=a ->0<=b ->c=a+b ->C8 c=C8 a*C8 b:=fun ha hb e=>by
   subst e
   unfold C8
   rw[Int.toNat_add ha hb,Nat.pow_add]
   exact Int.natCast_mul _ _
 have z:∀{a:Int},a<=0 ->C8 a=1:=fun h=>by
   unfold C8
   rw[Int.toNat_of_nonpos h]
   rfl
 rcases Int.le_total 0 s with hs|hs
 . rw[z (a:= -s) (by omega),z (a:= -r) (by omega),Int.mul_one,Int.mul_one]
   exact ad hs (by omega) (by omega)
 rcases Int.le_total 0 r with hr|hr
 . rw[z hs,z (a:= -r) (by omega),Int.one_mul,Int.one_mul]
   exact(ad hr (by omega) (by omega)).symm
 rw[z hr,z hs,Int.one_mul,Int.one_mul]
 exact ad (by omega) (by omega) (by omega)
theorem Z9g{d:Int}(h:1<=d):10<=C8 d:=by
 unfold C8
 have:10^1<=10^d.toNat:=Nat.pow_le_pow_right (by decide) (by omega)
 omega
theorem B5c{a b:Int}(h:a<=b):C8 a<=C8 b:=by
 unfold C8
 exact Int.ofNat_le.mpr (Nat.pow_le_pow_right (by decide) (by omega))
theorem V1k{t b s r:Int}(hb:0<b)(h1:A0m t b s)(h2:A0m t b r):r<=s:=by
 apply Classical.byContradiction
 intro h
 have hs:s<=r:=by omega
 have c:=C7g hs
 have g:=Z9g (d:=r-s) (by omega)
 have p1:=Y8 (-s)
 have p2:=Y8 (-r)
 have l1:0<b*C8 (-s):=Int.mul_pos hb p1
 have l2:0<b*C8 (-r):=Int.mul_pos hb p2
 have e:t*C8 r*(b*C8 (-s))=t*C8 s*(b*C8 (-r))*C8 (r-s):=by
   calc t*C8 r*(b*C8 (-s))=t*b*(C8 r*C8 (-s)):=by ac_rfl
     _=t*b*(C8 s*C8 (-r)*C8 (r-s)):=by rw[c]
     _=t*C8 s*(b*C8 (-r))*C8 (r-s):=by ac_rfl
 have a1:t*C8 r*(b*C8 (-s))<10*(b*C8 (-r))*(b*C8 (-s)):=Int.mul_lt_mul_of_pos_right h2.2 l1
 have hp:0<t*C8 s:=Int.lt_of_lt_of_le l1 h1.1
 have a2:t*C8 s*(b*C8 (-r))*10<=t*C8 s*(b*C8 (-r))*C8 (r-s):=Int.mul_le_mul_of_nonneg_left g (Int.le_of_lt (Int.mul_pos hp l2))
 have a3:b*C8 (-s)*(b*C8 (-r))<=t*C8 s*(b*C8 (-r)):=Int.mul_le_mul_of_nonneg_right h1.1 (Int.le_of_lt l2)
 have e2:10*(b*C8 (-r))*(b*C8 (-s))=b*C8 (-s)*(b*C8 (-r))*10:=by ac_rfl
 have a4:b*C8 (-s)*(b*C8 (-r))*10<=t*C8 s*(b*C8 (-r))*10:=Int.mul_le_mul_of_nonneg_right a3 (by decide)
 rw[e] at a1
 rw[e2] at a1
 exact absurd (Int.lt_of_lt_of_le a1 (Int.le_trans a4 a2)) (Int.lt_irrefl _)
theorem D9y{t b s r:Int}(hb:0<b)(h1:A0m t b s)(h2:A0m t b r):s=r:=Int.le_antisymm (V1k hb h2 h1) (V1k hb h1 h2)
noncomputable def Sz (t:Int):Prop:=1<=t/\t<C8 1000
theorem V0d(n:Nat):10^n<=2^(4*n):=by
 rw[Nat.pow_mul]
 exact Nat.pow_le_pow_left (by decide) n
theorem J2p(n:Nat):10^(3*n)<=2^(10*n):=by
 rw[Nat.pow_mul,Nat.pow_mul]
 exact Nat.pow_le_pow_left (by decide) n
theorem Sz.nat{t:Int}(h:Sz t):∃n:Nat,t=(n:Int)/\1<=n/\n<10^1000:=by
 obtain⟨n,rfl⟩:=Int.eq_ofNat_of_zero_le (show 0<=t by have:=h.1;omega)
 exact⟨n,rfl,Int.ofNat_le.mp h.1,Int.ofNat_lt.mp h.2⟩
theorem G0b{t s:Int}(ht:Sz t)(h:s<=1500):∃n:Nat,t*C8 s=(n:Int)/\n<10^2502:=by
 obtain⟨n,rfl,_,hn⟩:=ht.nat
 refine⟨n*10^s.toNat,rfl,?_⟩
 have a:10^s.toNat<=10^1502:=Nat.pow_le_pow_right (by decide) (by omega)
 calc n*10^s.toNat<=n*10^1502:=Nat.mul_le_mul_left n a
   _<10^1000*10^1502:=Nat.mul_lt_mul_of_pos_right hn (Nat.pow_pos (by decide))
   _=10^2502:=by rw[<-Nat.pow_add]
theorem J0v{n:Nat}(h:n<10^2502):Builtin.Int.intBits (n:Int)<=2^20:=G0k (k:=4*2502) (Nat.lt_of_lt_of_le h (V0d 2502)) (by decide)
theorem Z8z{t:Int}(h:Sz t):Builtin.Int.intBits t<=2^20:=by
 obtain⟨n,rfl,_,hn⟩:=h.nat
 exact G0k (k:=4*1000) (Nat.lt_of_lt_of_le hn (V0d 1000)) (by decide)
theorem B1e{t s:Int}(ht:Sz t)(h:s<=1500):IntMulOk t (C8 s):=IntMulOk.of_bits (Z8z ht) (V3w (by omega))
theorem Y0x{b s:Int}(hb:Sz b)(h:s<=1500):(b*C8 s).natAbs.log2<9000:=by
 obtain⟨n,e,hn⟩:=G0b hb h
 rw[e]
 have:n<2^8340:=Nat.lt_of_lt_of_le hn (J2p 834)
 exact Nat.lt_trans (A8r (i:=(n:Int)) (k:=8340) (by rw[Int.natAbs_natCast];exact this) (by decide)) (by decide)
noncomputable def whI (t b s:Int):Int:=t*C8 s/(b*C8 (-s))
noncomputable def ptI (t b s:Int):Int:=U2 (t*C8 s-whI t b s*(b*C8 (-s))) (b*C8 (-s))
theorem V1n{t b s:Int}(hb:0<b):0<=t*C8 s-whI t b s*(b*C8 (-s))/\t*C8 s-whI t b s*(b*C8 (-s))<b*C8 (-s):=by
 have l:=Int.mul_pos hb (Y8 (-s))
 have e:=Int.emod_add_mul_ediv (t*C8 s) (b*C8 (-s))
 have a:=Int.emod_nonneg (t*C8 s) (Int.ne_of_gt l)
 have c:=Int.emod_lt_of_pos (t*C8 s) l
 have e2:whI t b s*(b*C8 (-s))=b*C8 (-s)*(t*C8 s/(b*C8 (-s))):=Int.mul_comm _ _
 omega
theorem A0nt{t b s:Int}(ht:Sz t)(hb:Sz b)(h1: -1500<=s)(h2:s<=1500):IntMulOk (whI t b s) (b*C8 (-s)):=by
 obtain⟨n,e,hn⟩:=G0b hb (s:= -s) (by omega)
 obtain⟨k,e',hk⟩:=G0b ht h2
 unfold whI
 rw[e,e']
 exact IntMulOk.of_bits (J0v (Nat.lt_of_le_of_lt (Nat.div_le_self k n) hk)) (J0v hn)
noncomputable abbrev A8b:Stmt:=(G8 (top 6) 0)
structure J9t(K:Frag)(mg:Str ->Option Value)(CR CE:Addr):Prop where
 g:mg "Ratio"=some (.ref CR)
 ge:mg "Exact"=some (.ref CE)
 cl:Cls K CR
 n_top:A0d K CR "top"
 n_bottom:A0d K CR "bottom"
 n_power:A0d K CR "power"
 ca:findIn K (.ref CR) "__class__"=some (some (.builtin "object.__class__"))
 sn:specialIn K (.builtin "object.__class__") "__get__"=some (some (.builtin "getset_descriptor.__get__"))
 tk:takesIn K (.builtin "object.__class__")=some true
 ob:mroIn K CR (.type "object")=some true
 up:kitOne K (.ref CR) (.ref CE)=some true
noncomputable def G0s (t b n:V):List (Str×V):=Y4 "power" n (Y4 "bottom" b (Y4 "top" t []))
theorem C7k(t b n:V)(x:Str):(G0s t b n).lookup x=if x="power" then some n else if x="bottom" then some b else if x="top" then some t else none:=by
 unfold G0s
 rw[G4,G4,G4]
 rfl
theorem V1e(t b n:V):(G0s t b n).lookup ("top":Str)=some t:=by rw[C7k,if_neg (by decide+kernel),if_neg (by decide+kernel),if_pos rfl]
theorem C7x(t b n:V):(G0s t b n).lookup ("bottom":Str)=some b:=by rw[C7k,if_neg (by decide+kernel),if_pos rfl]
theorem D7a(t b n:V):(G0s t b n).lookup ("power":Str)=some n:=by rw[C7k,if_pos rfl]
theorem B8v(t b n:V):(G0s t b n).lookup ("first":Str)=none:=by rw[C7k,if_neg (by decide+kernel),if_neg (by decide+kernel),if_neg (by decide+kernel)]
theorem D8e(t b n:V):(G0s t b n).lookup ("at":Str)=none:=by rw[C7k,if_neg (by decide+kernel),if_neg (by decide+kernel),if_neg (by decide+kernel)]
noncomputable def C6a (CR:Addr) (H:Hp) (x:Addr) (t b n:Int):Prop:=∃dx,H x=some (.ins CR dx (G0s (.int t) (.int b) (.int n)))
theorem C6a.same{CR:Addr}{H H':Hp}{x:Addr}{t b n:Int}(h:C6a CR H x t b n)(s:B7 H H'):C6a CR H' x t b n:=by
 obtain⟨dx,e⟩:=h
 exact⟨dx,s _ _ e⟩
noncomputable def G0n (CR:Addr):Sp:=fun vs H Q _=>∃(p dx:Addr) (t b n:V),vs=[.ref p,t,b,n]/\H p=some (.ins CR dx [])/\∀H',H' p=some (.ins CR dx (G0s t b n)) ->Exc p H H' ->Q .non H'
theorem Z9z:B9 Q15 Q15 (A1 A8b):=scK
theorem Y3m{f CR CE:Addr}{dV:Value}(F:Y4b K "__init__" "Ratio.__init__" A8b dV f fd)(R:J9t K mg CR CE):sI P w K mg base 1 f fd Q15 (G0n CR):=by
 refine F.okE Z9z (fun vs H Q E h=>?_) (fun X cdv A outer s H vs Q E hX hr hx h=>?_)
 . obtain⟨p,dx,a,b,c,rfl,_⟩:=h
   rfl
 subst hX
 obtain⟨p,dx,a,b,c,rfl,hp,k⟩:=h
 refine⟨_,(A8 (A0y (pv 0) (pv 1) rfl) (A8 (A0y (pv 0) (pv 2) rfl) (B0 (A0y (pv 0) (pv 3) rfl)))),?_⟩
 have l:∀(fs:List (Str×V)) (f:Str) (v:V) (n:Nat),fs.length<=n ->(Y4 f v fs).length<=n+1:=fun fs f v n h=>Nat.le_trans (A2v f v fs) (Nat.succ_le_succ h)
 refine⟨_,rfl,_,rfl,p,CR,dx,[],rfl,hp,R.cl,R.n_top,(by show 0<1000;decide),?_⟩
 refine⟨_,rfl,_,rfl,p,CR,dx,_,rfl,A7,R.cl,R.n_bottom,Nat.lt_of_le_of_lt (l _ _ _ 0 (Nat.le_refl _)) (by decide),?_⟩
 refine⟨_,rfl,_,rfl,p,CR,dx,_,rfl,A7,R.cl,R.n_power,Nat.lt_of_le_of_lt (l _ _ _ 1 (l _ _ _ 0 (Nat.le_refl _))) (by decide),?_⟩
 refine k _ A7 fun b o e hb=>?_
 rw[C9 hb,C9 hb,C9 hb]
 exact e
noncomputable def J1m (CR:Addr):Sp:=fun vs H Q _=>∃x t b n,vs=[.ref x]/\C6a CR H x t b n/\Sz t/\Sz b/\∀f H',B7 H H' ->A0m t b (n-f) ->Q (.int f) H'
noncomputable def Y3w (CR:Addr):Sp:=fun vs H Q _=>∃x t b n p,vs=[.ref x,.int p]/\C6a CR H x t b n/\Sz t/\Sz b/\ -1500<=n-p/\n-p<=1500/\
 ∀q H',B7 H H' ->H q=none ->H' q=some (.tup [.int (whI t b (n-p)),.int (ptI t b (n-p))]) ->Q (.ref q) H'
structure A0en(P:Program)(w:World)(K:Frag)(mg:Str ->Option Value)(base:Heap)(CR fI:Addr)(fdI:FuncData)(d0:Value)(gP:List Value ->List Value ->List Value)(vP:List V ->List V ->List V):Prop where
 m:Mk K CR fI
 g:sI P w K mg base 1 fI fdI Q15 (G0n CR)
 b3:A0p K fdI Q15 []
 b2:A0p K fdI Q15 [d0]
 r0:V0 (.int 0) d0
 kP:A0gz K fdI Q15 ["power"] gP vP
 eP:∀x a b c,vP [x,a,b] [c]=[x,a,b,c]
structure RatM(P:Program)(w:World)(K:Frag)(mg:Str ->Option Value)(base:Heap)(CR f1 f2:Addr)(fd1 fd2:FuncData):Prop where
 m1:A0c K CR "first" f1
 g1:sI P w K mg base 4 f1 fd1 ["self"] (J1m CR)
 b1:A0p K fd1 ["self"] []
 m2:A0c K CR "at" f2
 g2:sI P w K mg base 3 f2 fd2 Q22 (Y3w CR)
 b2:A0p K fd2 Q22 []
theorem A0na{CR x dx:Addr}{H:Hp}{Q:VK}{E:XK}{t b n:Int}(n1:H x=none)(n2:H dx=none)(ne:dx≠x)(k:∀H',B7 H H' ->C6a CR H' x t b n ->Q .non H'):
   G0n CR [.ref x,.int t,.int b,.int n] (upd (upd H dx (.own x)) x (.ins CR dx [])) Q E:=
 ⟨x,dx,_,_,_,rfl,A7,fun H' e s=>k H' (fun c o z=>s c o (by rw[C9 (D8 z n1),C9 (D8 z n2)];exact z) (D8 z n1)) ⟨dx,e⟩⟩
noncomputable abbrev A7z:Stmt:=(top 7)
noncomputable def J2n:Sp:=fun vs H Q _=>∃l m:Int,vs=[.int (2*l),.int m]/\0<=l/\0<m/\Q (.int (U2 l m)) H
theorem Y2f:B9 Q23 Q23 (A1 A7z):=scK
theorem Z7z{m:Int}(hm:0<m):U2 0 m=0:=by
 unfold U2
 rw[decide_eq_false (by omega:¬(0:Int)<0),decide_eq_false (by omega:¬m<=2*0),decide_eq_false (by omega:¬m<2*0)]
 rfl
theorem A0am{l m:Int}(hl:0<l)(h:2*l<m):U2 l m=1:=by
 unfold U2
 rw[decide_eq_true hl,decide_eq_false (by omega:¬m<=2*l),decide_eq_false (by omega:¬m<2*l)]
 rfl
theorem Z8g{l m:Int}(hl:0<l)(h:2*l=m):U2 l m=2:=by
 unfold U2
 rw[decide_eq_true hl,decide_eq_true (by omega:m<=2*l),decide_eq_false (by omega:¬m<2*l)]
 rfl
theorem Z9r{l m:Int}(hl:0<l)(h:m<2*l):U2 l m=3:=by
 unfold U2
 rw[decide_eq_true hl,decide_eq_true (by omega:m<=2*l),decide_eq_true h]
 rfl
theorem V4q(D:Def K mg "part_of" Q23 A7z f fd):sI P w K mg base 1 f fd Q23 J2n:=by
 refine FnOk.up (D.F.ok Y2f (fun vs H Q E h=>?_) (fun cdv A outer s H vs Q E hr h=>?_))
 . obtain⟨l,m,rfl,_⟩:=h
   rfl
 obtain⟨l,m,rfl,hl,hm,k⟩:=h
 refine⟨_,(A8 (J0 (D4 G7 (pv 0) A3 (D0 _)) (B0 (C7 A3)) D6) (A8 (J0 (D4 D7u (pv 0) (pv 1) (D0 _)) (B0 (C7 A3)) D6) (B0 (C7 (A4r (D4 G7 (pv 0) (pv 1) (D0 _)) A3 A3))))),?_⟩
 refine⟨_,rfl,rfl,_,rfl,V8 (fun h0=>?_) (fun h0=>?_)⟩
 . have e:l=0:=by
     have:2*l=0:=by injection h0
     omega
   subst e
   rw[Z7z hm] at k
   exact k
 have hl':0<l:=by
   apply Classical.byContradiction
   intro z
   exact h0 (by rw[show l=0 by omega];rfl)
 refine⟨_,rfl,_,rfl,_,_,rfl,rfl,_,rfl,V8 (fun h1=>?_) (fun h1=>?_)⟩
 . rw[A0am hl' h1] at k
   exact k
 refine⟨_,rfl,_,rfl,rfl,_,rfl,V8 (fun h2=>?_) (fun h2=>?_)⟩
 . rw[Z8g hl' (by injection h2)] at k
   exact k
 rw[Z9r hl' (by
   have:2*l≠m:=fun z=>h2 (by rw[z])
   omega)] at k
 exact k
noncomputable abbrev B1r:Stmt:=(top 8)
theorem J8p(k:Nat):10^(k*301029995/10^9)<=2^k:=by
 have hm:k*301029995/10^9*28738<=k*8651:=by
   have:k*301029995/10^9*10^9<=k*301029995:=Nat.div_mul_le_self _ _
   omega
 generalize k*301029995/10^9=m at hm
 have c:(10:Nat)^8651<=2^28738:=by decide+kernel
 have a:(10^m)^8651<=(2^k)^8651:=by
   calc (10^m)^8651=(10^8651)^m:=by rw[<-Nat.pow_mul, <-Nat.pow_mul,Nat.mul_comm]
     _<=(2^28738)^m:=Nat.pow_le_pow_left c m
     _=2^(m*28738):=by rw[<-Nat.pow_mul,Nat.mul_comm]
     _<=2^(k*8651):=Nat.pow_le_pow_right (by decide) hm
     _=(2^k)^8651:=by rw[<-Nat.pow_mul]
 exact(Nat.pow_le_pow_iff_left (by decide)).mp a
noncomputable def V1c:Sp:=fun vs H Q _=>∃n:Nat,vs=[.int (n:Int)]/\1<=n/\n<10^3000/\∀L:Nat,10^L<=n ->n<10^(L+1) ->Q (.int (L:Int)) H
theorem scWLead:B9 ["whole","lead","beyond"] ["whole"] (A1 B1r):=scK
theorem Y0m(D:Def K mg "whole_lead" ["whole"] B1r f fd)(dA:Def K mg "ten_to" ["count"] A4p f1 fd1)(dB:sI P w K mg base 2 f1 fd1 ["count"] B8z):sI P w K mg base 3 f fd ["whole"] V1c:=by
 refine FnOk.up (D.F.ok scWLead (fun vs H Q E h=>?_) (fun cdv A outer s H vs Q E hr h=>?_))
 . obtain⟨n,rfl,_⟩:=h
   rfl
 obtain⟨n,rfl,n1,n2,k⟩:=h
 have hx:G5 (A0w CX0 P w K mg base ["whole","lead","beyond"] "whole_lead" (A1 B1r) f cdv A outer s H E).nox EKF:=A0e
 refine⟨_,(A8 (C6 (D7 (i:=1) scWLead.nd rfl (Or.inl rfl) (B1 G3 (B1 V9 (B1 V2 (A0ft PySem.F.plainAttrs_int PySem.F.slot_int_bit_length PySem.F.type_int_bit_length D3n (pv 0)) A3) A3) (B1 G0q A3 A3)))) (A8 (C6 (D7 (i:=2) scWLead.nd rfl (Or.inl rfl) (D5 dA dB hr hx (A0 (B1 V4 (pv 1) A3) A6)))) (A8 (C6 (B9c PassesOwn.never (D4 A0eg (pv 2) (pv 0) (D0 _)) (A8 (A0et (i:=1) scWLead.nd rfl (Or.inl rfl) A3 A0fq) (B0 (D7 (i:=2) scWLead.nd rfl (Or.inl rfl) (B1 V9 (pv 2) A3)))))) (B0 (C7 (pv 1)))))),?_⟩
 have mC:∀z n:Int, -(2^64)<n ->n<2^64 ->IntMulOk z n:=fun z n a b=>C6t.ok (.inr ⟨a,b⟩)
 have pw:Y2q 10 9:=⟨by decide,by decide,by decide⟩
 have l3:∀{L:Nat},10^L<=n ->L<3000:=fun hL=>(Nat.pow_lt_pow_iff_right (by decide:1<10)).mp (Nat.lt_of_le_of_lt hL n2)
 refine⟨fun σ H'=>H'=H/\∃L:Nat,10^L<=n/\σ=[si (n:Int),si (L:Int),none],?_,?_⟩
 . refine⟨_,rfl,rfl,_,rfl,rfl,_,_,rfl,rfl,_,_,rfl,rfl,mC _ _ (by decide) (by decide),_,_,rfl,rfl,pw,_,_,rfl,rfl,⟨by decide,by decide+kernel⟩,rfl,n.log2*301029995/10^9,?_,?_⟩
   . exact Nat.le_trans (J8p _) (Nat.log2_self_le (by omega))
   . have e:(Builtin.Int.intBits (n:Int):Nat)=n.log2+1:=by
       unfold Builtin.Int.intBits
       rw[if_neg (by simp;omega)]
       rfl
     show [si (n:Int),si ((((Builtin.Int.intBits (n:Int):Nat):Int)-1)*301029995/(10^Int.toNat 9:Int)),none]=_
     rw[e,show((n.log2+1:Nat):Int)-1=(n.log2:Int) by omega]
     rfl
 rintro σ H' ⟨rfl,L0,hL0,rfl⟩
 refine⟨fun σ H2=>H2=H'/\∃L:Nat,10^L<=n/\σ=[si (n:Int),si (L:Int),si ((10^(L+1):Nat):Int)],?_,?_⟩
 . have:=l3 hL0
   exact⟨_,rfl,_,_,rfl,rfl,L0+1,rfl,by omega,rfl,L0,hL0,rfl⟩
 rintro σ H2 ⟨rfl,L1,hL1,rfl⟩
 refine⟨fun σ H3=>H3=H2/\∃L:Nat,10^L<=n/\n<10^(L+1)/\σ=[si (n:Int),si (L:Int),si ((10^(L+1):Nat):Int)],?_,?_⟩
 . refine B9b (fun σ H3=>H3=H2/\∃L:Nat,10^L<=n/\σ=[si (n:Int),si (L:Int),si ((10^(L+1):Nat):Int)]) (fun σ _=>match σ with| [_,some (.int c),_]=>n-c.toNat|_=>0) ?_ ?_ ?_
   . exact⟨rfl,L1,hL1,rfl⟩
   . rintro σ H3 ⟨rfl,L,hL,rfl⟩
     refine⟨_,rfl,_,rfl,_,_,rfl,rfl,_,rfl,V8 (fun hle=>?_) (fun hgt=>?_)⟩
     . have hle:10^(L+1)<=n:=Int.ofNat_le.mp hle
       refine⟨_,rfl,_,_,rfl,rfl,_,rfl,_,_,rfl,rfl,mC _ _ (by decide) (by decide),⟨rfl,L+1,hle,?_⟩,?_⟩
       . show [si (n:Int),si ((L:Int)+1),si (((10^(L+1):Nat):Int)*10)]=_
         rw[show((10^(L+1):Nat):Int)*10=((10^(L+1+1):Nat):Int) by rw[Nat.pow_succ 10 (L+1)];rfl]
         rfl
       have lt:L+1<10^(L+1):=Nat.lt_pow_self (by decide)
       show n-((L:Int)+1).toNat<n-(L:Int).toNat
       omega
     . have hgt:¬10^(L+1)<=n:=fun z=>hgt (Int.ofNat_le.mpr z)
       exact⟨rfl,L,hL,by omega,rfl⟩
   . rintro σ H2 Q1 Q2 hQ ⟨v,e,v2,e4,i2,j2,e5,e6,b,e7,q⟩
     exact⟨v,e,v2,e4,i2,j2,e5,e6,b,e7,hQ _ _ q⟩
 rintro σ H3 ⟨rfl,L,h1,h2,rfl⟩
 exact⟨_,rfl,k L h1 h2⟩
noncomputable abbrev C7t:Stmt:=(G8 (top 6) 2)
noncomputable abbrev A4m:Stmt:=(G8 (top 6) 1)
theorem scRAt:B9 Q49 Q22 (A1 C7t):=scK
theorem A0gn{f f1 f2 CR CE:Addr}(F:Fun K "at" "Ratio.at" C7t f fd)(dA:Def K mg "ten_to" ["count"] A4p f1 fd1)(dB:sI P w K mg base 2 f1 fd1 ["count"] B8z)
   (dC:Def K mg "part_of" Q23 A7z f2 fd2) (dD:sI P w K mg base 1 f2 fd2 Q23 J2n) (R:J9t K mg CR CE) (O:Own mg):sI P w K mg base 3 f fd Q22 (Y3w CR):=by
 refine FnOk.up (F.ok scRAt (fun vs H Q E h=>?_) (fun cdv A outer s H vs Q E hr h=>?_))
 . obtain⟨x,t,b,n,p,rfl,_⟩:=h
   rfl
 obtain⟨x,t,b,n,p,rfl,⟨dx,e⟩,ht,hb,h1,h2,k⟩:=h
 have hx:G5 (A0w CX0 P w K mg base Q49 "Ratio.at" (A1 C7t) f cdv A outer s H E).nox EKF:=A0e
 refine⟨_,(A8 (D7 (i:=2) scRAt.nd rfl (Or.inl rfl) (B1 V2 (J1 (pv 0) rfl) (pv 1))) (A8 (D7 (i:=3) scRAt.nd rfl (Or.inl rfl) (B1 V9 (J1 (pv 0) rfl) (D5 dA dB hr hx (A0 (V1 (Z1 rfl) (by rfl) O.max_ boot_max (A0 (pv 2) (A0 A3 A6))) A6)))) (A8 (D7 (i:=4) scRAt.nd rfl (Or.inl rfl) (B1 V9 (J1 (pv 0) rfl) (D5 dA dB hr hx (A0 (V1 (Z1 rfl) (by rfl) O.max_ boot_max (A0 (B1a A5f (pv 2)) (A0 A3 A6))) A6)))) (A8 (D7 (i:=5) scRAt.nd rfl (Or.inl rfl) (B1 G3 (pv 3) (pv 4))) (B0 (C7 (V3 (A0 (pv 5) (A0 (D5 dC dD hr hx (A0 (B1 V9 A3 (B1 V2 (pv 3) (B1 V9 (pv 5) (pv 4)))) (A0 (pv 4) A6))) A6))))))))),?_⟩
 have z2:2<=sizeLine:=D3 (by decide)
 have mC':∀z n:Int, -(2^64)<n ->n<2^64 ->IntMulOk n z:=fun z n a b=>C6t.ok (.inl ⟨a,b⟩)
 have hb0:0<b:=by have:=hb.1;omega
 refine⟨_,rfl,x,CR,dx,_,_,rfl,e,R.cl,R.n_power,D7a _ _ _,_,rfl,_,_,rfl,rfl,?_⟩
 refine⟨_,rfl,x,CR,dx,_,_,rfl,e,R.cl,R.n_top,V1e _ _ _,_,rfl,_,_,rfl,(n-p).toNat,congrArg (fun z=>[V.int z]) (maxT (n-p)),by omega,_,_,rfl,rfl,B1e ht h2,?_⟩
 refine⟨_,rfl,x,CR,dx,_,_,rfl,e,R.cl,R.n_bottom,C7x _ _ _,_,rfl,_,rfl,_,_,rfl,(-(n-p)).toNat,congrArg (fun z=>[V.int z]) (maxT (-(n-p))),by omega,_,_,rfl,rfl,B1e hb (by omega),?_⟩
 have lp:0<b*C8 (-(n-p)):=Int.mul_pos hb0 (Y8 _)
 have ll:(b*C8 (-(n-p))).natAbs.log2<9000:=Y0x hb (by omega)
 refine⟨_,rfl,_,rfl,_,_,rfl,rfl,⟨lp,ll⟩,?_⟩
 have lf:=V1n (t:=t) (s:=n-p) hb0
 refine⟨_,rfl,_,rfl,_,rfl,_,rfl,_,_,rfl,rfl,A0nt ht hb h1 h2,_,_,rfl,rfl,_,_,rfl,rfl,mC' _ _ (by decide) (by decide),_,rfl,_,_,rfl,lf.1,lp,z2,fun q nq=>k q _ (B7.upd nq) nq A7⟩
theorem A0gm{t b L M u v:Nat}(h:L+u=M+v)(t2:t<10^(L+1))(b1:10^M<=b):t*10^u<10*(b*10^v):=by
 have p:0<10^u:=Nat.pow_pos (by decide)
 calc t*10^u<10^(L+1)*10^u:=Nat.mul_lt_mul_of_pos_right t2 p
   _=10*(10^M*10^v):=by rw[<-Nat.pow_add, <-Nat.pow_add, <-h,show L+1+u=(L+u)+1 by omega,Nat.pow_succ,Nat.mul_comm]
   _<=10*(b*10^v):=Nat.mul_le_mul_left 10 (Nat.mul_le_mul_right _ b1)
theorem A0gk{t b L M u v:Nat}(h:L+u=M+1+v)(t1:10^L<=t)(b2:b<10^(M+1)):b*10^v<=t*10^u:=by
 calc b*10^v<=10^(M+1)*10^v:=Nat.mul_le_mul_right _ (Nat.le_of_lt b2)
   _=10^L*10^u:=by rw[<-Nat.pow_add, <-Nat.pow_add,h]
   _<=t*10^u:=Nat.mul_le_mul_right _ t1
theorem C0d{t b L M:Nat}(t1:10^L<=t)(t2:t<10^(L+1))(b1:10^M<=b)(b2:b<10^(M+1))(h:(b:Int)*C8 (-((M:Int)-L))<=(t:Int)*C8 ((M:Int)-L)):A0m t b ((M:Int)-L):=by
 refine⟨h,?_⟩
 unfold C8
 have:=A0gm (t:=t) (b:=b) (L:=L) (M:=M) (u:=((M:Int)-L).toNat) (v:=(-((M:Int)-L)).toNat) (by omega) t2 b1
 exact Int.ofNat_lt.mpr this
theorem B6s{t b L M:Nat}(t1:10^L<=t)(t2:t<10^(L+1))(b1:10^M<=b)(b2:b<10^(M+1))(h:(t:Int)*C8 ((M:Int)-L)<(b:Int)*C8 (-((M:Int)-L))):A0m t b ((M:Int)-L+1):=by
 refine⟨?_,?_⟩
 . unfold C8
   have:=A0gk (t:=t) (b:=b) (L:=L) (M:=M) (u:=((M:Int)-L+1).toNat) (v:=(-((M:Int)-L+1)).toNat) (by omega) t1 b2
   exact Int.ofNat_le.mpr this
 have hb:0<(b:Int):=by
   have:0<10^M:=Nat.pow_pos (by decide)
   omega
 generalize (M:Int)-L=s at h
 have c:=C7g (s:=s) (r:=s+1) (by omega)
 have e1:C8 (s+1-s)=10:=by rw[show s+1-s=1 by omega];rfl
 rw[e1] at c
 have l:=Int.mul_pos hb (Y8 (-s))
 have l':=Int.mul_pos hb (Y8 (-(s+1)))
 have e:(t:Int)*C8 (s+1)*((b:Int)*C8 (-s))=(t:Int)*C8 s*((b:Int)*C8 (-(s+1)))*10:=by
   calc (t:Int)*C8 (s+1)*((b:Int)*C8 (-s))=t*b*(C8 (s+1)*C8 (-s)):=by ac_rfl
     _=t*b*(C8 s*C8 (-(s+1))*10):=by rw[c]
     _=(t:Int)*C8 s*((b:Int)*C8 (-(s+1)))*10:=by ac_rfl
 have a:(t:Int)*C8 s*((b:Int)*C8 (-(s+1)))<(b:Int)*C8 (-s)*((b:Int)*C8 (-(s+1))):=Int.mul_lt_mul_of_pos_right h l'
 have a2:(t:Int)*C8 (s+1)*((b:Int)*C8 (-s))<10*((b:Int)*C8 (-(s+1)))*((b:Int)*C8 (-s)):=by
   rw[e,show 10*((b:Int)*C8 (-(s+1)))*((b:Int)*C8 (-s))=(b:Int)*C8 (-s)*((b:Int)*C8 (-(s+1)))*10 by ac_rfl]
   exact Int.mul_lt_mul_of_pos_right a (by decide)
 exact Int.lt_of_mul_lt_mul_right a2 (Int.le_of_lt l)
theorem scRFirst:B9 ["self","guess"] ["self"] (A1 A4m):=scK
theorem V2j{f f1 f2 CR CE:Addr}(F:Fun K "first" "Ratio.first" A4m f fd)(dA:Def K mg "whole_lead" ["whole"] B1r f1 fd1)(dB:sI P w K mg base 3 f1 fd1 ["whole"] V1c)
   (MA:A0c K CR "at" f2) (GA:sI P w K mg base 3 f2 fd2 Q22 (Y3w CR)) (BA:A0p K fd2 Q22 []) (R:J9t K mg CR CE):sI P w K mg base 4 f fd ["self"] (J1m CR):=by
 refine FnOk.up (F.ok scRFirst (fun vs H Q E h=>?_) (fun cdv A outer s H vs Q E hr h=>?_))
 . obtain⟨x,t,b,n,rfl,_⟩:=h
   rfl
 obtain⟨x,t,b,n,rfl,ra,ht,hb,k⟩:=h
 have hx:G5 (A0w CX0 P w K mg base ["self","guess"] "Ratio.first" (A1 A4m) f cdv A outer s H E).nox EKF:=A0e
 refine⟨_,(A8 (D7 (i:=1) scRFirst.nd rfl (Or.inl rfl) (B1 V4 (B1 V2 (D5 dA dB hr hx (A0 (J1 (pv 0) rfl) A6)) (D5 dA dB hr hx (A0 (J1 (pv 0) rfl) A6))) (J1 (pv 0) rfl))) (B0 (C7 (A4r (D4 B9g (V5 Y2 (C5s (pv 0) R.cl MA GA hr BA .nil hx (A0 (pv 1) A6)) A3 (fun _ _=>rfl)) A3 (D0 _)) (pv 1) (B1 V2 (pv 1) A3))))),?_⟩
 obtain⟨tn,rfl,ta,tb⟩:=ht.nat
 obtain⟨bn,rfl,ba,bb⟩:=hb.nat
 obtain⟨dx,e⟩:=id ra
 have p30:(10:Nat)^1000<10^3000:=Nat.pow_lt_pow_right (by decide) (by decide)
 have p30':∀{L m:Nat},10^L<=m ->m<10^1000 ->L<1000:=fun h1 h2=>(Nat.pow_lt_pow_iff_right (by decide:1<10)).mp (Nat.lt_of_le_of_lt h1 h2)
 refine⟨_,rfl,x,CR,dx,_,_,rfl,e,R.cl,R.n_top,V1e _ _ _,tn,rfl,ta,Nat.lt_trans tb p30,fun L L1 L2=>?_⟩
 refine⟨_,rfl,x,CR,dx,_,_,rfl,e,R.cl,R.n_bottom,C7x _ _ _,bn,rfl,ba,Nat.lt_trans bb p30,fun M' M1 M2=>?_⟩
 have l30:=p30' L1 tb
 have m30:=p30' M1 bb
 refine⟨_,_,rfl,rfl,_,rfl,x,CR,dx,_,_,rfl,e,R.cl,R.n_power,D7a _ _ _,_,_,rfl,rfl,?_⟩
 have es:n-((L:Int)-M'+n)=(M':Int)-L:=by omega
 refine⟨_,rfl,x,dx,_,rfl,e,D8e _ _ _,_,rfl,x,tn,bn,n,_,rfl,ra,ht,hb,by omega,by omega,fun q H1 s1 nq hq=>?_⟩
 rw[es] at hq
 refine⟨q,_,0,_,rfl,rfl,SqT.of hq,U7 (j:=0) rfl,_,_,rfl,rfl,_,rfl,?_⟩
 have lp:0<(bn:Int)*C8 (-((M':Int)-L)):=Int.mul_pos (by omega) (Y8 _)
 refine V8 (fun hg=>?_) (fun hg=>?_)
 . have hle:(bn:Int)*C8 (-((M':Int)-L))<=(tn:Int)*C8 ((M':Int)-L):=by
     have:=(Int.le_ediv_iff_mul_le lp).mp (show(1:Int)<=(tn:Int)*C8 ((M':Int)-L)/((bn:Int)*C8 (-((M':Int)-L))) from hg)
     omega
   refine⟨_,rfl,k _ H1 s1 ?_⟩
   rw[es]
   exact C0d L1 L2 M1 M2 hle
 have hlt:(tn:Int)*C8 ((M':Int)-L)<(bn:Int)*C8 (-((M':Int)-L)):=by
   apply Classical.byContradiction
   intro z
   exact hg ((Int.le_ediv_iff_mul_le lp).mpr (by omega))
 refine⟨_,rfl,_,_,rfl,rfl,k _ H1 s1 ?_⟩
 rw[show n-((L:Int)-M'+n-1)=(M':Int)-L+1 by omega]
 exact B6s L1 L2 M1 M2 hlt
inductive Wy where
 |down
 |up
 |floor
 |ceiling
 |halfUp
 |halfDown
 |halfEven
 |fiveUp
noncomputable def Wy.name:Wy ->Str
 | .down=>"down"
 | .up=>"up"
 | .floor=>"floor"
 | .ceiling=>"ceiling"
 | .halfUp=>"half up"
 | .halfDown=>"half down"
 | .halfEven=>"half even"
 | .fiveUp=>"five up"
noncomputable def Wy.cls:Wy ->Str
 | .down=>"Down"
 | .up=>"Up"
 | .floor=>"Floor"
 | .ceiling=>"Ceiling"
 | .halfUp=>"HalfUp"
 | .halfDown=>"HalfDown"
 | .halfEven=>"HalfEven"
 | .fiveUp=>"FiveUp"
theorem Wy.inj{a b:Wy}(h:a.name=b.name):a=b:=by
 cases a<;>cases b<;>first|rfl|exact absurd h (by decide+kernel)
structure C6s(K:Frag)(mg:Str ->Option Value)(x:Str)(C CW:Addr):Prop where
 g:mg x=some (.ref C)
 cl:Cls K C
 mk0:Mk0 K C
 ca:findIn K (.ref C) "__class__"=some (some (.builtin "object.__class__"))
 sn:specialIn K (.builtin "object.__class__") "__get__"=some (some (.builtin "getset_descriptor.__get__"))
 tk:takesIn K (.builtin "object.__class__")=some true
 ob:mroIn K C (.type "object")=some true
 up:kitOne K (.ref C) (.ref CW)=some true
noncomputable def A8k (s:Str):Sp:=fun vs H Q _=>∃p,vs=[.ref p]/\Q (.str s) H
noncomputable def WayN (P:Program) (w:World) (K:Frag) (mg:Str ->Option Value) (base:Heap) (C:Addr) (s:Str):Prop:=Has P w K mg base C "name" 1 ["self"] (A8k s)
noncomputable abbrev sN0:Stmt:=(G8 (top 59) 0)
theorem scN0:B9 ["self"] ["self"] (A1 sN0):=scK
theorem A0nr(F:Fun K "name" "Down.name" sN0 f fd):sI P w K mg base 1 f fd ["self"] (A8k "down"):=by
 refine FnOk.up (F.ok scN0 (fun vs H Q E h=>?_) (fun cdv A outer s H vs Q E hr h=>?_))
 . obtain⟨p,rfl,_⟩:=h
   rfl
 obtain⟨p,rfl,k⟩:=h
 exact⟨_,B0 (C7 B3),k⟩
noncomputable abbrev sN1:Stmt:=(G8 (top 60) 0)
theorem scN1:B9 ["self"] ["self"] (A1 sN1):=scK
theorem A0nz(F:Fun K "name" "Up.name" sN1 f fd):sI P w K mg base 1 f fd ["self"] (A8k "up"):=by
 refine FnOk.up (F.ok scN1 (fun vs H Q E h=>?_) (fun cdv A outer s H vs Q E hr h=>?_))
 . obtain⟨p,rfl,_⟩:=h
   rfl
 obtain⟨p,rfl,k⟩:=h
 exact⟨_,B0 (C7 B3),k⟩
noncomputable abbrev sN2:Stmt:=(G8 (top 61) 0)
theorem scN2:B9 ["self"] ["self"] (A1 sN2):=scK
theorem A0nf(F:Fun K "name" "Floor.name" sN2 f fd):sI P w K mg base 1 f fd ["self"] (A8k "floor"):=by
 refine FnOk.up (F.ok scN2 (fun vs H Q E h=>?_) (fun cdv A outer s H vs Q E hr h=>?_))
 . obtain⟨p,rfl,_⟩:=h
   rfl
 obtain⟨p,rfl,k⟩:=h
 exact⟨_,B0 (C7 B3),k⟩
noncomputable abbrev sN3:Stmt:=(G8 (top 62) 0)
theorem scN3:B9 ["self"] ["self"] (A1 sN3):=scK
theorem A0ph(F:Fun K "name" "Ceiling.name" sN3 f fd):sI P w K mg base 1 f fd ["self"] (A8k "ceiling"):=by
 refine FnOk.up (F.ok scN3 (fun vs H Q E h=>?_) (fun cdv A outer s H vs Q E hr h=>?_))
 . obtain⟨p,rfl,_⟩:=h
   rfl
 obtain⟨p,rfl,k⟩:=h
 exact⟨_,B0 (C7 B3),k⟩
noncomputable abbrev sN4:Stmt:=(G8 (top 63) 0)
theorem scN4:B9 ["self"] ["self"] (A1 sN4):=scK
theorem A0pm(F:Fun K "name" "HalfUp.name" sN4 f fd):sI P w K mg base 1 f fd ["self"] (A8k "half up"):=by
 refine FnOk.up (F.ok scN4 (fun vs H Q E h=>?_) (fun cdv A outer s H vs Q E hr h=>?_))
 . obtain⟨p,rfl,_⟩:=h
   rfl
 obtain⟨p,rfl,k⟩:=h
 exact⟨_,B0 (C7 B3),k⟩
noncomputable abbrev sN5:Stmt:=(G8 (top 64) 0)
theorem scN5:B9 ["self"] ["self"] (A1 sN5):=scK
theorem A0ng(F:Fun K "name" "HalfDown.name" sN5 f fd):sI P w K mg base 1 f fd ["self"] (A8k "half down"):=by
 refine FnOk.up (F.ok scN5 (fun vs H Q E h=>?_) (fun cdv A outer s H vs Q E hr h=>?_))
 . obtain⟨p,rfl,_⟩:=h
   rfl
 obtain⟨p,rfl,k⟩:=h
 exact⟨_,B0 (C7 B3),k⟩
noncomputable abbrev sN6:Stmt:=(G8 (top 65) 0)
theorem scN6:B9 ["self"] ["self"] (A1 sN6):=scK
theorem A0nw(F:Fun K "name" "HalfEven.name" sN6 f fd):sI P w K mg base 1 f fd ["self"] (A8k "half even"):=by
 refine FnOk.up (F.ok scN6 (fun vs H Q E h=>?_) (fun cdv A outer s H vs Q E hr h=>?_))
 . obtain⟨p,rfl,_⟩:=h
   rfl
 obtain⟨p,rfl,k⟩:=h
 exact⟨_,B0 (C7 B3),k⟩
noncomputable abbrev sN7:Stmt:=(G8 (top 66) 0)
theorem scN7:B9 ["self"] ["self"] (A1 sN7):=scK
theorem A0qe(F:Fun K "name" "FiveUp.name" sN7 f fd):sI P w K mg base 1 f fd ["self"] (A8k "five up"):=by
 refine FnOk.up (F.ok scN7 (fun vs H Q E h=>?_) (fun cdv A outer s H vs Q E hr h=>?_))
 . obtain⟨p,rfl,_⟩:=h
   rfl
 obtain⟨p,rfl,k⟩:=h
 exact⟨_,B0 (C7 B3),k⟩
noncomputable def A0ee (K:Frag) (H:Hp) (v:V):Prop:=∃t b,TyE K H v t/\kitOne K t (.type "str")=some b/\(b=false\/∃z,v= .str z/\∀y:Wy,z≠y.name)
theorem B1h{C:Addr}{σ:L2.St}{H:Hp}{Q:VK}(k:∀p dx H',H p=none ->B7 H H' ->H' p=some (.ins C dx []) ->Q (.ref p) H'):tNew C σ H Q:=fun x dx n1 n2 ne=>
 k x dx _ n1 ((B7.upd n2).trans (B7.upd (by rw[C9 (Ne.symm ne)];exact n1))) A7
noncomputable abbrev B1c:Stmt:=(top 67)
noncomputable def G0z (K:Frag) (CB:Addr) (cw:Wy ->Addr):Sp:=fun vs H Q E=>∃v,vs=[v]/\((∃y:Wy,v= .str y.name/\∀p dx H',H p=none ->B7 H H' ->H' p=some (.ins (cw y) dx []) ->Q (.ref p) H')\/(A0ee K H v/\E (.ref CB) none H))
theorem Z8a:B9 ["name"] ["name"] (A1 B1c):=scK
theorem Y0c{f CB CW:Addr}{cw:Wy ->Addr}(D:Def K mg "way_of" ["name"] B1c f fd)(O:Own mg)(T:Kit K)(B:Err K mg "BadContext" CB)(W:∀y:Wy,C6s K mg y.cls (cw y) CW):
   sI P w K mg base 1 f fd ["name"] (G0z K CB cw):=by
 refine D.F.okE Z8a (fun vs H Q E h=>?_) (fun X cdv A outer s H vs Q E hX hr hx h=>?_)
 . obtain⟨v,rfl,_⟩:=h
   rfl
 subst hX
 obtain⟨v,rfl,h⟩:=h
 refine⟨_,(A8 (J0 (A4t (A0b (J8x O.isi (pv 0) (pty O.str_ boot_str)))) (B0 (A2x (by rfl) B.g B.q PySem.F.excBase_ValueError hr.hd hx (A0 B3 A6))) D6) (A8 (J0 (D4 G7 (pv 0) B3 (D0 _)) (B0 (C7 (B1s (W .down).mk0 rfl (W .down).g))) D6) (A8 (J0 (D4 G7 (pv 0) B3 (D0 _)) (B0 (C7 (B1s (W .up).mk0 rfl (W .up).g))) D6) (A8 (J0 (D4 G7 (pv 0) B3 (D0 _)) (B0 (C7 (B1s (W .floor).mk0 rfl (W .floor).g))) D6) (A8 (J0 (D4 G7 (pv 0) B3 (D0 _)) (B0 (C7 (B1s (W .ceiling).mk0 rfl (W .ceiling).g))) D6) (A8 (J0 (D4 G7 (pv 0) B3 (D0 _)) (B0 (C7 (B1s (W .halfUp).mk0 rfl (W .halfUp).g))) D6) (A8 (J0 (D4 G7 (pv 0) B3 (D0 _)) (B0 (C7 (B1s (W .halfDown).mk0 rfl (W .halfDown).g))) D6) (A8 (J0 (D4 G7 (pv 0) B3 (D0 _)) (B0 (C7 (B1s (W .halfEven).mk0 rfl (W .halfEven).g))) D6) (A8 (J0 (D4 G7 (pv 0) B3 (D0 _)) (B0 (C7 (B1s (W .fiveUp).mk0 rfl (W .fiveUp).g))) D6) (B0 (A2x (by rfl) B.g B.q PySem.F.excBase_ValueError hr.hd hx (A0 B3 A6)))))))))))),?_⟩
 have z1:1<=sizeLine:=D3 (by decide)
 rcases h with⟨y,rfl,k⟩|⟨⟨t,b,ty,kk,bad⟩,k⟩
 . refine⟨_,rfl,_,_,_,_,true,rfl,rfl,J2r _,T.str_str,_,rfl,U8 ?_⟩
   refine⟨_,rfl,rfl,_,rfl,V8 (fun e=>?_) (fun n0=>?_)⟩
   . have q:y= .down:=Wy.inj (V.str.inj (e:V.str y.name=V.str (Wy.name .down)))
     subst q
     exact B1h k
   refine⟨_,rfl,rfl,_,rfl,V8 (fun e=>?_) (fun n1=>?_)⟩
   . have q:y= .up:=Wy.inj (V.str.inj (e:V.str y.name=V.str (Wy.name .up)))
     subst q
     exact B1h k
   refine⟨_,rfl,rfl,_,rfl,V8 (fun e=>?_) (fun n2=>?_)⟩
   . have q:y= .floor:=Wy.inj (V.str.inj (e:V.str y.name=V.str (Wy.name .floor)))
     subst q
     exact B1h k
   refine⟨_,rfl,rfl,_,rfl,V8 (fun e=>?_) (fun n3=>?_)⟩
   . have q:y= .ceiling:=Wy.inj (V.str.inj (e:V.str y.name=V.str (Wy.name .ceiling)))
     subst q
     exact B1h k
   refine⟨_,rfl,rfl,_,rfl,V8 (fun e=>?_) (fun n4=>?_)⟩
   . have q:y= .halfUp:=Wy.inj (V.str.inj (e:V.str y.name=V.str (Wy.name .halfUp)))
     subst q
     exact B1h k
   refine⟨_,rfl,rfl,_,rfl,V8 (fun e=>?_) (fun n5=>?_)⟩
   . have q:y= .halfDown:=Wy.inj (V.str.inj (e:V.str y.name=V.str (Wy.name .halfDown)))
     subst q
     exact B1h k
   refine⟨_,rfl,rfl,_,rfl,V8 (fun e=>?_) (fun n6=>?_)⟩
   . have q:y= .halfEven:=Wy.inj (V.str.inj (e:V.str y.name=V.str (Wy.name .halfEven)))
     subst q
     exact B1h k
   refine⟨_,rfl,rfl,_,rfl,V8 (fun e=>?_) (fun n7=>?_)⟩
   . have q:y= .fiveUp:=Wy.inj (V.str.inj (e:V.str y.name=V.str (Wy.name .fiveUp)))
     subst q
     exact B1h k
   cases y with
   |down=>exact absurd rfl n0
   |up=>exact absurd rfl n1
   |floor=>exact absurd rfl n2
   |ceiling=>exact absurd rfl n3
   |halfUp=>exact absurd rfl n4
   |halfDown=>exact absurd rfl n5
   |halfEven=>exact absurd rfl n6
   |fiveUp=>exact absurd rfl n7
 refine⟨_,rfl,_,_,_,_,b,rfl,rfl,ty,kk,_,rfl,?_⟩
 cases b with
 |false=>exact Z8 ⟨z1,k⟩
 | true=>
   obtain⟨z,rfl,nz⟩:=bad.resolve_left (by decide)
   refine U8 ?_
   refine⟨_,rfl,rfl,_,rfl,V8 (fun e=>absurd (V.str.inj e) (nz .down)) (fun n0=>?_)⟩
   refine⟨_,rfl,rfl,_,rfl,V8 (fun e=>absurd (V.str.inj e) (nz .up)) (fun n1=>?_)⟩
   refine⟨_,rfl,rfl,_,rfl,V8 (fun e=>absurd (V.str.inj e) (nz .floor)) (fun n2=>?_)⟩
   refine⟨_,rfl,rfl,_,rfl,V8 (fun e=>absurd (V.str.inj e) (nz .ceiling)) (fun n3=>?_)⟩
   refine⟨_,rfl,rfl,_,rfl,V8 (fun e=>absurd (V.str.inj e) (nz .halfUp)) (fun n4=>?_)⟩
   refine⟨_,rfl,rfl,_,rfl,V8 (fun e=>absurd (V.str.inj e) (nz .halfDown)) (fun n5=>?_)⟩
   refine⟨_,rfl,rfl,_,rfl,V8 (fun e=>absurd (V.str.inj e) (nz .halfEven)) (fun n6=>?_)⟩
   refine⟨_,rfl,rfl,_,rfl,V8 (fun e=>absurd (V.str.inj e) (nz .fiveUp)) (fun n7=>?_)⟩
   exact⟨z1,k⟩
noncomputable def A0u:List Str:=["void","split","burst","sunk","faint","off","cut"]
noncomputable def A7a:List V:=A0u.map V.str
structure SigK(K:Frag)(mg:Str ->Option Value)(aS:Addr):Prop where
 g:mg "SIGNALS"=some (.ref aS)
 ty:∃o,K.lookup aS=some o/\o.cls= .type "tuple"
 sq:∀H,SqT K H aS A7a
noncomputable abbrev B1p:Stmt:=(top 72)
noncomputable def BadS (K:Frag) (H:Hp) (x:V):Prop:=∃t b,TyE K H x t/\kitOne K t (.type "str")=some b/\(b=false\/∃z,x= .str z/\z ∉ A0u)
noncomputable def J9j (K:Frag) (H:Hp) (v:V):Prop:=(∃t,TyE K H v t/\kitOne K t (.type "list")=some false)\/(∃(p:Addr) (zs:List Str) (x:V) (r:List V),v= .ref p/\H p=some (.lst (zs.map V.str++x::r))/\(∀z∈zs,z∈A0u)/\BadS K H x)
noncomputable def G0p (K:Frag) (CB:Addr):Sp:=fun vs H Q E=>∃v,vs=[v]/\((∃(p:Addr) (zs:List Str),v= .ref p/\H p=some (.lst (zs.map V.str))/\(∀z∈zs,z∈A0u)/\Q .non H)\/(J9j K H v/\E (.ref CB) none H))
theorem scNeedS:B9 ["names","name"] ["names"] (A1 B1p):=scK
theorem Y2d{f CB aS:Addr}(D:Def K mg "need_signals" ["names"] B1p f fd)(O:Own mg)(T:Kit K)(B:Err K mg "BadContext" CB)(SG:SigK K mg aS):sI P w K mg base 1 f fd ["names"] (G0p K CB):=by
 refine D.F.okE scNeedS (fun vs H Q E h=>?_) (fun X cdv A outer s H vs Q E hX hr hx h=>?_)
 . obtain⟨v,rfl,_⟩:=h
   rfl
 subst hX
 obtain⟨v,rfl,h⟩:=h
 refine⟨_,(A8 (J0 (A4t (A0b (J8x O.isi (pv 0) (pty O.list_ boot_list)))) (B0 (A2x (by rfl) B.g B.q PySem.F.excBase_ValueError hr.hd hx (A0 B3 A6))) D6) (B0 (C8m PassesOwn.leaving rfl (D9x (pv 0)) (Z2 (i:=1) scNeedS.nd rfl (Or.inl rfl)) (B0 (J0 (PW.pt (D8p (A4t (A0b (J8x O.isi (pv 1) (pty O.str_ boot_str)))) (C0s (D4 G0x (pv 1) (D3p SG.g) (by rfl))))) (B0 (A2x (by rfl) B.g B.q PySem.F.excBase_ValueError hr.hd hx (A0 B3 A6))) D6))))),?_⟩
 have z1:1<=sizeLine:=D3 (by decide)
 rcases h with⟨p,zs,rfl,hp,hz,k⟩|⟨(⟨t,ty,kk⟩|⟨p,zs,x,r,rfl,hp,hz,t,b,ty,kk,bad⟩),k⟩
 . refine⟨_,rfl,_,_,_,_,true,rfl,rfl,V0n hp,T.list_list,_,rfl,U8 ?_⟩
   refine⟨_,rfl,p,rfl,⟨_,SqL.of hp⟩,B2c (xs:=zs.map V.str) (fun i σ H'=>H'=H/\∃v,σ=[sr p,v]) ⟨rfl,none,rfl⟩ ?_ ?_ ?_⟩
   . rintro i σ H' _ ⟨rfl,_⟩
     exact SqL.of hp
   . rintro i x σ H' hi ⟨rfl,v,rfl⟩
     obtain⟨z,hzm,rfl⟩:=List.mem_map.mp (List.mem_of_getElem? hi)
     refine⟨_,rfl,_,_,_,_,true,rfl,rfl,J2r _,T.str_str,_,rfl,U8 ?_⟩
     refine⟨_,rfl,aS,A7a,rfl,.inr (SG.sq _),rfl,A0g _,_,rfl,?_⟩
     have e:inV (.str z) A7a=true:=by
       show inV (.str z) (A0u.map V.str)=true
       rw[A1h]
       simpa using hz z hzm
     rw[e]
     exact U8 ⟨rfl,_,rfl⟩
   . rintro σ H' ⟨rfl,v,rfl⟩
     exact k
 . exact⟨_,rfl,_,_,_,_,false,rfl,rfl,ty,kk,_,rfl,Z8 ⟨z1,k⟩⟩
 refine⟨_,rfl,_,_,_,_,true,rfl,rfl,V0n hp,T.list_list,_,rfl,U8 ?_⟩
 refine⟨_,rfl,p,rfl,⟨_,SqL.of hp⟩,B2c (xs:=zs.map V.str++x::r) (fun i σ H'=>H'=H/\i<=zs.length/\∃v,σ=[sr p,v]) ⟨rfl,Nat.zero_le _,none,rfl⟩ ?_ ?_ ?_⟩
 . rintro i σ H' _ ⟨rfl,_⟩
   exact SqL.of hp
 . rintro i y σ H' hi ⟨rfl,hl,v,rfl⟩
   by_cases hlt:i<zs.length
   . rw[List.getElem?_append_left (by simpa using hlt)] at hi
     obtain⟨z,hzm,rfl⟩:=List.mem_map.mp (List.mem_of_getElem? hi)
     refine⟨_,rfl,_,_,_,_,true,rfl,rfl,J2r _,T.str_str,_,rfl,U8 ?_⟩
     refine⟨_,rfl,aS,A7a,rfl,.inr (SG.sq _),rfl,A0g _,_,rfl,?_⟩
     have e:inV (.str z) A7a=true:=by
       show inV (.str z) (A0u.map V.str)=true
       rw[A1h]
       simpa using hz z hzm
     rw[e]
     exact U8 ⟨rfl,by omega,_,rfl⟩
   . have e:i=zs.length:=by omega
     subst e
     rw[List.getElem?_append_right (by simp)] at hi
     simp at hi
     subst hi
     refine⟨_,rfl,_,_,_,_,b,rfl,rfl,ty,kk,_,rfl,?_⟩
     cases b with
     |false=>exact Z8 (Z8 ⟨z1,k⟩)
     | true=>
       obtain⟨z,rfl,nz⟩:=bad.resolve_left (by decide)
       refine U8 ⟨_,rfl,aS,A7a,rfl,.inr (SG.sq _),rfl,A0g _,_,rfl,?_⟩
       have e:inV (.str z) A7a=false:=by
         show inV (.str z) (A0u.map V.str)=false
         rw[A1h]
         simpa using nz
       rw[e]
       exact Z8 ⟨z1,k⟩
 rintro σ H' ⟨rfl,hl,_⟩
 exfalso
 rw[List.length_append,List.length_map,List.length_cons] at hl
 omega
noncomputable abbrev B1t:Stmt:=(top 73)
noncomputable def Y5 (zs:List Str):List Str:=A0u.filter fun z=>zs.contains z
noncomputable def G1m (K:Frag):Sp:=fun vs H Q _=>∃(p:Addr) (zs:List Str),vs=[.ref p]/\SqL K H p (zs.map V.str)/\∀l H',B7 H H' ->H l=none ->H' l=some (.lst ((Y5 zs).map V.str)) ->Q (.ref l) H'
theorem A0aj:B9 ["names"] ["names"] (A1 B1t):=scK
theorem Y1d{f aS:Addr}(D:Def K mg "in_order" ["names"] B1t f fd)(SG:SigK K mg aS):sI P w K mg base 1 f fd ["names"] (G1m K):=by
 refine FnOk.up (D.F.ok A0aj (fun vs H Q E h=>?_) (fun cdv A outer s H vs Q E hr h=>?_))
 . obtain⟨p,zs,rfl,_⟩:=h
   rfl
 obtain⟨p,zs,rfl,hp,k⟩:=h
 refine⟨_,(B0 (C7 (C7p (N:=["name"]) (F:=["names"]) (js:=[0]) (D9.of1 ⟨rfl,by decide+kernel,by decide+kernel,by decide+kernel,by decide+kernel⟩ (by rfl) (by rfl) ⟨_,by rfl⟩ (by rfl) (by rfl)) (.inl hr.hd) (G0a (D3p SG.g)) rfl (fun C s₀ H₀ ex pn h=>Z2 (i:=0) (by decide+kernel:(["name","names"]:List Str).Nodup) rfl (Or.inl rfl)) (fun C s₀ H₀ ex pn h=>(D4 (A4q (K:=K) rfl) (pv 0) (pv 1) (by rfl))) (fun C s₀ H₀ ex pn h=>(pv 0))))),?_⟩
 refine C7j (zs:=A0u) (f:=fun z=>zs.contains z) (σf:=[sr p]) SG.sq (by decide) (fun z H' Qb sm q=>?_) (fun z H' Qv q=>⟨_,rfl,q⟩) (fun D H' sm nd e=>k D H' sm nd e) rfl
 refine⟨_,rfl,_,rfl,p,_,rfl,.inl (sm.seq hp),rfl,A0g _,_,rfl,?_⟩
 show Qb (inV (.str z) (zs.map V.str)) H'
 rw[A1h]
 exact q
structure C0w(K:Frag)(mg:Str ->Option Value)(CC:Addr):Prop where
 g:mg "Context"=some (.ref CC)
 cl:Cls K CC
 n_room:A0d K CC "room"
 n_rule:A0d K CC "rule"
 n_least:A0d K CC "least"
 n_most:A0d K CC "most"
 n_risen:A0d K CC "risen"
 n_trapped:A0d K CC "trapped"
noncomputable def A2r (r s l m a b:V):List (Str×V):=Y4 "trapped" b (Y4 "risen" a (Y4 "most" m (Y4 "least" l (Y4 "rule" s (Y4 "room" r [])))))
theorem A3m(r s l m a b:V)(n:Str):(A2r r s l m a b).lookup n=if n="trapped" then some b else if n="risen" then some a else if n="most" then some m else if n="least" then some l else if n="rule" then some s else if n="room" then some r else none:=by
 unfold A2r
 rw[G4,G4,G4,G4,G4,G4]
 rfl
theorem B2a(r s l m a b:V):(A2r r s l m a b).lookup ("room":Str)=some r:=by rw[A3m,if_neg (by decide+kernel),if_neg (by decide+kernel),if_neg (by decide+kernel),if_neg (by decide+kernel),if_neg (by decide+kernel),if_pos rfl]
theorem Y2a(r s l m a b:V):(A2r r s l m a b).lookup ("rule":Str)=some s:=by rw[A3m,if_neg (by decide+kernel),if_neg (by decide+kernel),if_neg (by decide+kernel),if_neg (by decide+kernel),if_pos rfl]
theorem D8r(r s l m a b:V):(A2r r s l m a b).lookup ("least":Str)=some l:=by rw[A3m,if_neg (by decide+kernel),if_neg (by decide+kernel),if_neg (by decide+kernel),if_pos rfl]
theorem C7c(r s l m a b:V):(A2r r s l m a b).lookup ("most":Str)=some m:=by rw[A3m,if_neg (by decide+kernel),if_neg (by decide+kernel),if_pos rfl]
theorem D7v(r s l m a b:V):(A2r r s l m a b).lookup ("risen":Str)=some a:=by rw[A3m,if_neg (by decide+kernel),if_pos rfl]
theorem C5q(r s l m a b:V):(A2r r s l m a b).lookup ("trapped":Str)=some b:=by rw[A3m,if_pos rfl]
theorem C7r(r s l m a b:V):(A2r r s l m a b).lookup ("way":Str)=none:=by rw[A3m,if_neg (by decide+kernel),if_neg (by decide+kernel),if_neg (by decide+kernel),if_neg (by decide+kernel),if_neg (by decide+kernel),if_neg (by decide+kernel)]
theorem B6d(r s l m a b:V):(A2r r s l m a b).lookup ("lowest":Str)=none:=by rw[A3m,if_neg (by decide+kernel),if_neg (by decide+kernel),if_neg (by decide+kernel),if_neg (by decide+kernel),if_neg (by decide+kernel),if_neg (by decide+kernel)]
theorem B9a(r s l m a b:V):(A2r r s l m a b).lookup ("flags":Str)=none:=by rw[A3m,if_neg (by decide+kernel),if_neg (by decide+kernel),if_neg (by decide+kernel),if_neg (by decide+kernel),if_neg (by decide+kernel),if_neg (by decide+kernel)]
theorem J2f(r s l m a b:V):(A2r r s l m a b).lookup ("trap":Str)=none:=by rw[A3m,if_neg (by decide+kernel),if_neg (by decide+kernel),if_neg (by decide+kernel),if_neg (by decide+kernel),if_neg (by decide+kernel),if_neg (by decide+kernel)]
theorem G0d(r s l m a b:V):(A2r r s l m a b).lookup ("traps":Str)=none:=by rw[A3m,if_neg (by decide+kernel),if_neg (by decide+kernel),if_neg (by decide+kernel),if_neg (by decide+kernel),if_neg (by decide+kernel),if_neg (by decide+kernel)]
theorem A6p(r s l m a b:V):(A2r r s l m a b).lookup ("raised":Str)=none:=by rw[A3m,if_neg (by decide+kernel),if_neg (by decide+kernel),if_neg (by decide+kernel),if_neg (by decide+kernel),if_neg (by decide+kernel),if_neg (by decide+kernel)]
structure U4(CC:Addr)(H:Hp)(c:Addr)(r:Int)(y:Wy)(l m:Int)(a b:Addr)(xs ys:List V):Prop where
 ins:∃dx,H c=some (.ins CC dx (A2r (.int r) (.str y.name) (.int l) (.int m) (.ref a) (.ref b)))
 ha:H a=some (.lst xs)
 hb:H b=some (.lst ys)
theorem U4.same{CC:Addr}{H H':Hp}{c:Addr}{r:Int}{y:Wy}{l m:Int}{a b:Addr}{xs ys:List V}(h:U4 CC H c r y l m a b xs ys)(e:B7 H H'):U4 CC H' c r y l m a b xs ys:=by
 obtain⟨⟨dx,z⟩,z1,z2⟩:=h
 exact⟨⟨dx,e _ _ z⟩,e _ _ z1,e _ _ z2⟩
noncomputable abbrev A1g:Stmt:=(G8 (top 70) 0)
noncomputable abbrev B5d:Stmt:=(G8 (top 70) 1)
noncomputable abbrev B5n:Stmt:=(G8 (top 70) 2)
noncomputable abbrev A4h:Stmt:=(G8 (top 70) 3)
noncomputable abbrev A4g:Stmt:=(G8 (top 70) 6)
noncomputable def J7q (l:Int) (v:V):Prop:=(v= .non/\l= -60)\/(v= .int l/\ -60<=l/\l<=0)
noncomputable def A0gu (K:Frag) (S:Hp ->Prop) (v1 v2 v3 v4:V):Prop:=(∀H',S H' ->A8f K H' 1 24 v1)\/(A5v 1 24 v1/\((∀H',S H' ->A0ee K H' v2)\/((∃y:Wy,v2= .str y.name)/\((v3≠ .non/\∀H',S H' ->A8f K H' (-60) 0 v3)\/((∃l,J7q l v3)/\∀H',S H' ->A8f K H' 0 60 v4)))))
theorem Exc.none{p a:Addr}{H H':Hp}{o:HO}(x:Exc p H H')(hp:H' p=some o)(n:H' a=none):H a=none:=by
 cases q:H a with
 |none=>rfl
 | some u=>
   have:=x a u q (fun e=>by rw[e,hp] at n;cases n)
   rw[n] at this
   cases this
noncomputable def C0q (K:Frag) (CC CB:Addr):Sp:=fun vs H Q E=>∃p dx v1 v2 v3 v4,vs=[.ref p,v1,v2,v3,v4]/\H p=some (.ins CC dx [])/\
 ((∃r y l m,v1= .int r/\1<=r/\r<=24/\v2= .str (Wy.name y)/\J7q l v3/\v4= .int m/\0<=m/\m<=60/\∀a b H',Exc p H H' ->H a=none ->H b=none ->U4 CC H' p r y l m a b [] [] ->Q .non H')\/
  (A0gu K (Exc p H) v1 v2 v3 v4/\∀H',Exc p H H' ->E (.ref CB) none H'))
theorem V4v:B9 Q35 Q35 (A1 A1g):=scK
theorem Y1s:B8x 1 24:=by unfold B8x;decide+kernel
theorem J7w:B8x (-60) 0:=by unfold B8x;decide+kernel
theorem Y1v:B8x 0 60:=by unfold B8x;decide+kernel
theorem J8k{f fB fW CC CB CW:Addr}{dV:Value}{cw:Wy ->Addr}{fd fdB fdW:FuncData}(F:Y4b K "__init__" "Context.__init__" A1g dV f fd)(dA:Def K mg "bounded" Q5 A4w fB fdB)(dC:Def K mg "way_of" ["name"] B1c fW fdW)
   (dB:sI P w K mg base 2 fB fdB Q5 (D8k K CB)) (dD:sI P w K mg base 1 fW fdW ["name"] (G0z K CB cw)) (C:C0w K mg CC)
   (W:∀y:Wy,C6s K mg y.cls (cw y) CW) (N:∀y:Wy,WayN P w K mg base (cw y) y.name):sI P w K mg base 3 f fd Q35 (C0q K CC CB):=by
 refine F.okE V4v (fun vs H Q E h=>?_) (fun X cdv A outer s H vs Q E hX hr hx h=>?_)
 . obtain⟨p,dx,v1,v2,v3,v4,rfl,_⟩:=h
   rfl
 subst hX
 obtain⟨p,dx,v1,v2,v3,v4,rfl,hp,h⟩:=h
 obtain⟨y,hy⟩:∃y:Wy,∀z:Wy,v2= .str z.name ->z=y:=by
   by_cases q:∃z:Wy,v2= .str z.name
   . obtain⟨z,rfl⟩:=q
     exact⟨z,fun u e=>Wy.inj (V.str.inj e.symm)⟩
   . exact⟨.down,fun z e=>absurd ⟨z,e⟩ q⟩
 obtain⟨fN,fdN,mN,gN,bN⟩:=N y
 refine⟨_,(A8 (A0y (pv 0) (D5 dA dB hr hx (A0 (pv 1) (A0 A3 (A0 A3 A6)))) rfl) (A8 (A0y (pv 0) (A6t (D5 dC dD hr hx (A0 (pv 2) A6)) (W y).cl mN gN hr bN .nil hx) rfl) (A8 (C6 (A0y (pv 0) (A4r (D4 A0fa (pv 3) J7k (D0 _)) (B1a A5f A3) (D5 dA dB hr hx (A0 (pv 3) (A0 (B1a A5f A3) (A0 A3 A6))))) rfl)) (A8 (A0y (pv 0) (D5 dA dB hr hx (A0 (pv 4) (A0 A3 (A0 A3 A6)))) rfl) (A8 (A0y (pv 0) (U1 A6) rfl) (B0 (A0y (pv 0) (U1 A6) rfl))))))),?_⟩
 have lz:∀(fs:List (Str×V)) (f:Str) (v:V) (n:Nat),fs.length<=n ->(Y4 f v fs).length<=n+1:=fun fs f v n h=>Nat.le_trans (A2v f v fs) (Nat.succ_le_succ h)
 have q0:(([]:List (Str×V))).length<=0:=Nat.le_refl _
 have z0:0<=sizeLine:=Nat.zero_le _
 rcases h with⟨r,y',l,m,rfl,r1,r2,rfl,hl,rfl,m1,m2,k⟩|⟨bad,k⟩
 . obtain rfl:=hy _ rfl
   refine⟨_,rfl,_,_,_,rfl,Y1s,.inl ⟨⟨r,rfl,r1,r2⟩,?_⟩⟩
   refine⟨_,rfl,p,CC,dx,[],rfl,hp,C.cl,C.n_room,by show 0<1000;decide,?_⟩
   refine⟨_,rfl,_,rfl,.inl ⟨_,rfl,fun q dq H2 nq s2 eq=>⟨q,dq,[],rfl,eq,rfl,_,rfl,?_⟩⟩⟩
   have hp2:=s2 _ _ (A7 (H:=H) (a:=p) (o:= .ins CC dx (Y4 "room" (.int r) [])))
   have x2:Exc p H H2:=(Exc.upd (H:=H) (o:= .ins CC dx (Y4 "room" (.int r) []))).trans (.of s2)
   refine⟨_,rfl,p,CC,dx,_,rfl,hp2,C.cl,C.n_rule,Nat.lt_of_le_of_lt (lz _ _ _ 0 q0) (by decide),?_⟩
   refine⟨fun σ' H'=>σ'=[sr p,si r,sR y'.name,some v3,si m]/\Exc p H H'/\H' p=some (.ins CC dx (Y4 "least" (.int l) (Y4 "rule" (.str y'.name) (Y4 "room" (.int r) [])))),?_,?_⟩
   . refine⟨_,rfl,rfl,_,rfl,?_⟩
     rcases hl with⟨rfl,rfl⟩|⟨rfl,l1,l2⟩
     . refine A5u rfl ⟨_,rfl,?_⟩
       exact⟨_,rfl,p,CC,dx,_,rfl,A7,C.cl,C.n_least,Nat.lt_of_le_of_lt (lz _ _ _ 1 (lz _ _ _ 0 q0)) (by decide),rfl,(x2.trans Exc.upd).trans Exc.upd,A7⟩
     . refine A0n (by intro z;cases z) ⟨_,rfl,_,rfl,_,_,_,rfl,J7w,.inl ⟨⟨l,rfl,l1,l2⟩,?_⟩⟩
       exact⟨_,rfl,p,CC,dx,_,rfl,A7,C.cl,C.n_least,Nat.lt_of_le_of_lt (lz _ _ _ 1 (lz _ _ _ 0 q0)) (by decide),rfl,(x2.trans Exc.upd).trans Exc.upd,A7⟩
   rintro σ' H4 ⟨rfl,x4,hp4⟩
   refine⟨_,rfl,_,_,_,rfl,Y1v,.inl ⟨⟨m,rfl,m1,m2⟩,?_⟩⟩
   refine⟨_,rfl,p,CC,dx,_,rfl,hp4,C.cl,C.n_most,Nat.lt_of_le_of_lt (lz _ _ _ 2 (lz _ _ _ 1 (lz _ _ _ 0 q0))) (by decide),?_⟩
   refine⟨z0,fun a na=>?_⟩
   refine⟨_,rfl,p,CC,dx,_,rfl,B7.upd na _ _ A7,C.cl,C.n_risen,Nat.lt_of_le_of_lt (lz _ _ _ 3 (lz _ _ _ 2 (lz _ _ _ 1 (lz _ _ _ 0 q0)))) (by decide),?_⟩
   refine⟨z0,fun b nb=>?_⟩
   refine⟨_,rfl,p,CC,dx,_,rfl,B7.upd nb _ _ A7,C.cl,C.n_trapped,Nat.lt_of_le_of_lt (lz _ _ _ 4 (lz _ _ _ 3 (lz _ _ _ 2 (lz _ _ _ 1 (lz _ _ _ 0 q0))))) (by decide),?_⟩
   have x5:=x4.trans (Exc.upd (H:=H4) (o:= .ins CC dx (Y4 "most" (.int m) (Y4 "least" (.int l) (Y4 "rule" (.str y'.name) (Y4 "room" (.int r) []))))))
   have nap:a≠p:=fun e=>by rw[e,A7] at na;cases na
   have nbp:b≠p:=fun e=>by rw[e,A7] at nb;cases nb
   have x6:=(x5.trans (.of (B7.upd (o:= .lst []) na))).trans (Exc.upd (o:= .ins CC dx (Y4 "risen" (.ref a) (Y4 "most" (.int m) (Y4 "least" (.int l) (Y4 "rule" (.str y'.name) (Y4 "room" (.int r) [])))))))
   have x7:=(x6.trans (.of (B7.upd (o:= .lst []) nb))).trans (Exc.upd (o:= .ins CC dx (A2r (.int r) (.str y'.name) (.int l) (.int m) (.ref a) (.ref b))))
   refine k a b _ x7 (x5.none A7 na) (x6.none A7 nb) ⟨⟨dx,A7⟩,?_,?_⟩
   . rw[C9 nap]
     refine B7.upd nb _ _ ?_
     rw[C9 nap]
     exact A7
   . rw[C9 nbp]
     exact A7
 rcases bad with b1|⟨⟨r,rfl,r1,r2⟩,bad⟩
 . exact⟨_,rfl,_,_,_,rfl,Y1s,.inr ⟨b1 _ (Exc.refl p H),k _ (Exc.refl p H)⟩⟩
 refine⟨_,rfl,_,_,_,rfl,Y1s,.inl ⟨⟨r,rfl,r1,r2⟩,?_⟩⟩
 refine⟨_,rfl,p,CC,dx,[],rfl,hp,C.cl,C.n_room,by show 0<1000;decide,?_⟩
 have x1:Exc p H (upd H p (.ins CC dx (Y4 "room" (.int r) []))):=Exc.upd
 rcases bad with b2|⟨⟨y',rfl⟩,bad⟩
 . exact⟨_,rfl,_,rfl,.inr ⟨b2 _ x1,k _ x1⟩⟩
 obtain rfl:=hy _ rfl
 refine⟨_,rfl,_,rfl,.inl ⟨_,rfl,fun q dq H2 nq s2 eq=>⟨q,dq,[],rfl,eq,rfl,_,rfl,?_⟩⟩⟩
 have hp2:=s2 _ _ (A7 (H:=H) (a:=p) (o:= .ins CC dx (Y4 "room" (.int r) [])))
 have x2:Exc p H H2:=x1.trans (.of s2)
 refine⟨_,rfl,p,CC,dx,_,rfl,hp2,C.cl,C.n_rule,Nat.lt_of_le_of_lt (lz _ _ _ 0 q0) (by decide),?_⟩
 rcases bad with⟨n3,b3⟩|⟨⟨l,hl⟩,b4⟩
 . refine⟨fun _ _=>False,?_,fun _ _ z=>z.elim⟩
   refine⟨_,rfl,rfl,_,rfl,A0n n3 ?_⟩
   exact⟨_,rfl,_,rfl,_,_,_,rfl,J7w,.inr ⟨b3 _ (x2.trans Exc.upd),k _ (x2.trans Exc.upd)⟩⟩
 refine⟨fun σ' H'=>σ'=[sr p,si r,sR y'.name,some v3,some v4]/\Exc p H H',?_,?_⟩
 . refine⟨_,rfl,rfl,_,rfl,?_⟩
   rcases hl with⟨rfl,rfl⟩|⟨rfl,l1,l2⟩
   . refine A5u rfl ⟨_,rfl,?_⟩
     exact⟨_,rfl,p,CC,dx,_,rfl,A7,C.cl,C.n_least,Nat.lt_of_le_of_lt (lz _ _ _ 1 (lz _ _ _ 0 q0)) (by decide),rfl,(x2.trans Exc.upd).trans Exc.upd⟩
   . refine A0n (by intro z;cases z) ⟨_,rfl,_,rfl,_,_,_,rfl,J7w,.inl ⟨⟨l,rfl,l1,l2⟩,?_⟩⟩
     exact⟨_,rfl,p,CC,dx,_,rfl,A7,C.cl,C.n_least,Nat.lt_of_le_of_lt (lz _ _ _ 1 (lz _ _ _ 0 q0)) (by decide),rfl,(x2.trans Exc.upd).trans Exc.upd⟩
 rintro σ' H4 ⟨rfl,x4⟩
 exact⟨_,rfl,_,_,_,rfl,Y1v,.inr ⟨b4 _ x4,k _ x4⟩⟩
noncomputable def C7w (CC:Addr) (cw:Wy ->Addr):Sp:=fun vs H Q _=>∃c r y l m a b xs ys,vs=[.ref c]/\U4 CC H c r y l m a b xs ys/\∀p dx H',H p=none ->B7 H H' ->H' p=some (.ins (cw y) dx []) ->Q (.ref p) H'
theorem Y0t:B9 ["self"] ["self"] (A1 B5d):=scK
theorem V2v{f fW CC CB:Addr}{cw:Wy ->Addr}{fd fdW:FuncData}(F:Fun K "way" "Context.way" B5d f fd)(dA:Def K mg "way_of" ["name"] B1c fW fdW)(dB:sI P w K mg base 1 fW fdW ["name"] (G0z K CB cw))(C:C0w K mg CC):
   sI P w K mg base 2 f fd ["self"] (C7w CC cw):=by
 refine F.okE Y0t (fun vs H Q E h=>?_) (fun X cdv A outer s H vs Q E hX hr hx h=>?_)
 . obtain⟨c,r,y,l,m,a,b,xs,ys,rfl,_⟩:=h
   rfl
 subst hX
 obtain⟨c,r,y,l,m,a,b,xs,ys,rfl,⟨⟨dx,e⟩,_,_⟩,k⟩:=h
 refine⟨_,(B0 (C7 (D5 dA dB hr hx (A0 (J1 (pv 0) rfl) A6)))),?_⟩
 exact⟨_,rfl,c,CC,dx,_,_,rfl,e,C.cl,C.n_rule,Y2a _ _ _ _ _ _,_,rfl,.inl ⟨y,rfl,k⟩⟩
noncomputable def C8c (CC:Addr):Sp:=fun vs H Q _=>∃c r y l m a b xs ys,vs=[.ref c]/\U4 CC H c r y l m a b xs ys/\Q (.int (l-r+1)) H
theorem Y0j:B9 ["self"] ["self"] (A1 B5n):=scK
theorem V2z{f CC:Addr}(F:Fun K "lowest" "Context.lowest" B5n f fd)(C:C0w K mg CC):sI P w K mg base 1 f fd ["self"] (C8c CC):=by
 refine FnOk.up (F.ok Y0j (fun vs H Q E h=>?_) (fun cdv A outer s H vs Q E hr h=>?_))
 . obtain⟨c,r,y,l,m,a,b,xs,ys,rfl,_⟩:=h
   rfl
 obtain⟨c,r,y,l,m,a,b,xs,ys,rfl,⟨⟨dx,e⟩,_,_⟩,k⟩:=h
 refine⟨_,(B0 (C7 (B1 V4 (B1 V2 (J1 (pv 0) rfl) (J1 (pv 0) rfl)) A3))),?_⟩
 exact⟨_,rfl,c,CC,dx,_,_,rfl,e,C.cl,C.n_least,D8r _ _ _ _ _ _,_,rfl,c,CC,dx,_,_,rfl,e,C.cl,C.n_room,B2a _ _ _ _ _ _,_,_,rfl,rfl,_,_,rfl,rfl,k⟩
noncomputable def A8e (CC:Addr):Sp:=fun vs H Q _=>∃c r y l m a b xs ys,vs=[.ref c]/\U4 CC H c r y l m a b xs ys/\∀p,H p=none ->Q (.ref p) (upd H p (.lst xs))
theorem J8n:B9 ["self"] ["self"] (A1 A4h):=scK
theorem J2q{f CC:Addr}(F:Fun K "flags" "Context.flags" A4h f fd)(C:C0w K mg CC)(O:Own mg):sI P w K mg base 1 f fd ["self"] (A8e CC):=by
 refine FnOk.up (F.ok J8n (fun vs H Q E h=>?_) (fun cdv A outer s H vs Q E hr h=>?_))
 . obtain⟨c,r,y,l,m,a,b,xs,ys,rfl,_⟩:=h
   rfl
 obtain⟨c,r,y,l,m,a,b,xs,ys,rfl,⟨⟨dx,e⟩,ha,_⟩,k⟩:=h
 refine⟨_,(B0 (C7 (Y7 A7x (by rfl) O.list_ boot_list (A0 (J1 (pv 0) rfl) A6)))),?_⟩
 exact⟨_,rfl,c,CC,dx,_,_,rfl,e,C.cl,C.n_risen,D7v _ _ _ _ _ _,a,xs,rfl,.inl (SqL.of ha),k⟩
structure A0ek(P:Program)(w:World)(K:Frag)(mg:Str ->Option Value)(base:Heap)(CC CB fI:Addr)(fdI:FuncData):Prop where
 m:Mk K CC fI
 g:sI P w K mg base 3 fI fdI Q35 (C0q K CC CB)
theorem Z8q{C x dx:Addr}{H H':Hp}(n1:H x=none)(n2:H dx=none)(ne:dx≠x)(e:Exc x (upd (upd H dx (.own x)) x (.ins C dx [])) H'):B7 H H':=fun b o h=>
 e b o (by rw[C9 (D8 h n1),C9 (D8 h n2)];exact h) (D8 h n1)
theorem A0ny{CC CB x dx:Addr}{H:Hp}{Q:VK}{E:XK}{v1 v2 v3 v4:V}{r:Int}{y:Wy}{l m:Int}(n1:H x=none)(n2:H dx=none)(ne:dx≠x)(h1:v1= .int r)(r1:1<=r)(r2:r<=24)(h2:v2= .str y.name)(h3:J7q l v3)(h4:v4= .int m)(m1:0<=m)(m2:m<=60)
   (k:∀a b H',B7 H H' ->U4 CC H' x r y l m a b [] [] ->Q .non H'):C0q K CC CB [.ref x,v1,v2,v3,v4] (upd (upd H dx (.own x)) x (.ins CC dx [])) Q E:=
 ⟨x,dx,v1,v2,v3,v4,rfl,A7,.inl ⟨r,y,l,m,h1,r1,r2,h2,h3,h4,m1,m2,fun a b H' e _ _ c=>k a b H' (Z8q n1 n2 ne e) c⟩⟩
noncomputable abbrev A7d:Stmt:=(G8 (top 70) 5)
noncomputable abbrev A1x:Stmt:=(G8 (top 70) 7)
theorem J2b(r s l m a b:V):(A2r r s l m a b).length=6:=rfl
theorem G1d(r s l m a b v:V):Y4 "trapped" v (A2r r s l m a b)=A2r r s l m a v:=rfl
theorem J7p(r s l m a b v:V):Y4 "risen" v (A2r r s l m a b)=A2r r s l m v b:=rfl
noncomputable def J9e (K:Frag) (CC CB:Addr):Sp:=fun vs H Q E=>∃c r y l m a b xs ys v,vs=[.ref c,v]/\U4 CC H c r y l m a b xs ys/\
 ((∃(p:Addr) (zs:List Str),v= .ref p/\H p=some (.lst (zs.map V.str))/\(∀z∈zs,z∈A0u)/\∀b' H',Exc c H H' ->H b'=none ->U4 CC H' c r y l m a b' xs ((Y5 zs).map V.str) ->Q .non H')\/(J9j K H v/\E (.ref CB) none H))
theorem A0fu:B9 Q13 Q13 (A1 A7d):=scK
theorem A0ag{f f1 f2 CC CB:Addr}(F:Fun K "trap" "Context.trap" A7d f fd)(dA:Def K mg "need_signals" ["names"] B1p f1 fd1)(dB:sI P w K mg base 1 f1 fd1 ["names"] (G0p K CB))
   (dC:Def K mg "in_order" ["names"] B1t f2 fd2) (dD:sI P w K mg base 1 f2 fd2 ["names"] (G1m K)) (C:C0w K mg CC):sI P w K mg base 2 f fd Q13 (J9e K CC CB):=by
 refine F.okE A0fu (fun vs H Q E h=>?_) (fun X cdv A outer s H vs Q E hX hr hx h=>?_)
 . obtain⟨c,r,y,l,m,a,b,xs,ys,v,rfl,_⟩:=h
   rfl
 subst hX
 obtain⟨c,r,y,l,m,a,b,xs,ys,v,rfl,⟨⟨dx,e⟩,ha,hb⟩,h⟩:=h
 refine⟨_,(A8 (J9 (D5 dA dB hr hx (A0 (pv 1) A6))) (B0 (A0y (pv 0) (D5 dC dD hr hx (A0 (pv 1) A6)) rfl))),?_⟩
 rcases h with⟨p,zs,rfl,hp,hz,k⟩|⟨bad,k⟩
 . refine⟨_,rfl,_,rfl,.inl ⟨p,zs,rfl,hp,hz,?_⟩⟩
   refine⟨_,rfl,p,zs,rfl,SqL.of hp,fun b' H1 s1 n1 e1=>?_⟩
   refine⟨_,rfl,c,CC,dx,_,rfl,s1 _ _ e,C.cl,C.n_trapped,by rw[J2b];decide,?_⟩
   rw[G1d]
   have nac:a≠c:=G9 ha e (by intro z;cases z)
   have nbc:b'≠c:=G9 e1 (s1 _ _ e) (by intro z;cases z)
   exact k b' _ ((Exc.of s1).trans Exc.upd) n1 ⟨⟨dx,A7⟩,by rw[C9 nac];exact s1 _ _ ha,by rw[C9 nbc];exact e1⟩
 exact⟨_,rfl,_,rfl,.inr ⟨bad,k⟩⟩
noncomputable def hit (ys zs:List Str):Option Str:=ys.find? fun t=>zs.contains t
noncomputable def B8y (K:Frag) (CC CB CT:Addr):Sp:=fun vs H Q E=>∃c r y l m a b,∃(xs ys:List Str) (v:V),vs=[.ref c,v]/\U4 CC H c r y l m a b (xs.map V.str) (ys.map V.str)/\xs.length+100<=1000/\
 ((∃ (p:Addr) (zs:List Str),v= .ref p/\H p=some (.lst (zs.map V.str))/\zs.length<=100/\(∀z∈zs,z∈A0u)/\
     (hit ys zs=none ->∀a' H',Exc c H H' ->H a'=none ->U4 CC H' c r y l m a' b ((Y5 (xs++zs)).map V.str) (ys.map V.str) ->Q .non H')/\
     (∀t,hit ys zs=some t ->∀a' d H',Exc c H H' ->H a'=none ->U4 CC H' c r y l m a' b ((Y5 (xs++zs)).map V.str) (ys.map V.str) ->H d=none ->H' d=some (.xd [("signal",.str t)]) ->E (.ref CT) (some d) H'))\/
  (J9j K H v/\E (.ref CB) none H))
theorem scRaised:B9 ["self","names","name"] Q13 (A1 A1x):=scK
theorem V3k{f f1 f2 fX CC CB CT:Addr}{fd fd1 fd2 fdX:FuncData}(F:Fun K "raised" "Context.raised" A1x f fd)(dA:Def K mg "need_signals" ["names"] B1p f1 fd1)(dB:sI P w K mg base 1 f1 fd1 ["names"] (G0p K CB))
   (dC:Def K mg "in_order" ["names"] B1t f2 fd2) (dD:sI P w K mg base 1 f2 fd2 ["names"] (G1m K)) (C:C0w K mg CC)
   (gT:mg "Trapped"=some (.ref CT)) (XI:V4w K CT fX) (GX:FnOk P w K mg base CX0 1 fX fdX Q36 (D9v CT "signal")) (BX:A0p K fdX Q36 []):sI P w K mg base 3 f fd Q13 (B8y K CC CB CT):=by
 refine F.okE scRaised (fun vs H Q E h=>?_) (fun X cdv A outer s H vs Q E hX hr hx h=>?_)
 . obtain⟨c,r,y,l,m,a,b,xs,ys,v,rfl,_⟩:=h
   rfl
 subst hX
 obtain⟨c,r,y,l,m,a,b,xs,ys,v,rfl,⟨⟨dx,e⟩,ha,hb⟩,lx,h⟩:=h
 refine⟨_,(A8 (J9 (D5 dA dB hr hx (A0 (pv 1) A6))) (A8 (A0y (pv 0) (D5 dC dD hr hx (A0 (B1 B6p (J1 (pv 0) rfl) (pv 1)) A6)) rfl) (B0 (C8m PassesOwn.leaving rfl (D9x (J1 (pv 0) rfl)) (Z2 (i:=2) scRaised.nd rfl (Or.inl rfl)) (B0 (J0 (D4 A7b (pv 2) (pv 1) (by rfl)) (B0 (V3e gT XI GX BX hr hx (A0 (pv 2) A6))) D6)))))),?_⟩
 rcases h with⟨p,zs,rfl,hp,lz,hz,k1,k2⟩|⟨bad,k⟩
 . refine⟨_,rfl,_,rfl,.inl ⟨p,zs,rfl,hp,hz,?_⟩⟩
   refine⟨_,rfl,c,CC,dx,_,_,rfl,e,C.cl,C.n_risen,D7v _ _ _ _ _ _,_,rfl,a,p,_,_,rfl,rfl,ha,hp,D3 (by rw[List.length_map,List.length_map];omega),fun q nq=>?_⟩
   have u1:=B7.upd (o:= .lst (xs.map V.str++zs.map V.str)) nq
   refine⟨q,xs++zs,rfl,SqL.of (by rw[A7,List.map_append]),fun a' H1 s1 n1 e1=>?_⟩
   have s2:=u1.trans s1
   refine⟨_,rfl,c,CC,dx,_,rfl,s2 _ _ e,C.cl,C.n_risen,by rw[J2b];decide,?_⟩
   rw[J7p]
   have nbc:b≠c:=G9 hb e (by intro z;cases z)
   have npc:p≠c:=G9 hp e (by intro z;cases z)
   have nac:a'≠c:=G9 e1 (s2 _ _ e) (by intro z;cases z)
   have x2:Exc c H (upd H1 c (.ins CC dx (A2r (.int r) (.str y.name) (.int l) (.int m) (.ref a') (.ref b)))):=(Exc.of s2).trans Exc.upd
   have hb2:(upd H1 c (.ins CC dx (A2r (.int r) (.str y.name) (.int l) (.int m) (.ref a') (.ref b)))) b=some (.lst (ys.map V.str)):=by rw[C9 nbc];exact s2 _ _ hb
   have hp2:(upd H1 c (.ins CC dx (A2r (.int r) (.str y.name) (.int l) (.int m) (.ref a') (.ref b)))) p=some (.lst (zs.map V.str)):=by rw[C9 npc];exact s2 _ _ hp
   have ct:U4 CC (upd H1 c (.ins CC dx (A2r (.int r) (.str y.name) (.int l) (.int m) (.ref a') (.ref b)))) c r y l m a' b ((Y5 (xs++zs)).map V.str) (ys.map V.str):=⟨⟨dx,A7⟩,by rw[C9 nac];exact e1,hb2⟩
   refine⟨_,rfl,c,CC,dx,_,_,rfl,A7,C.cl,C.n_trapped,C5q _ _ _ _ _ _,b,rfl,⟨_,SqL.of hb2⟩,?_⟩
   generalize upd H1 c (.ins CC dx (A2r (.int r) (.str y.name) (.int l) (.int m) (.ref a') (.ref b)))=H3 at x2 hb2 hp2 ct ⊢
   refine B2c (xs:=ys.map V.str) (fun i σ H'=>H'=H3/\(∀t∈ys.take i,zs.contains t=false)/\∃v,σ=[sr c,sr p,v]) ⟨rfl,by simp,none,rfl⟩ ?_ ?_ ?_
   . rintro i σ H' _ ⟨rfl,_⟩
     exact SqL.of hb2
   . rintro i x σ H' hi ⟨rfl,ht,v,rfl⟩
     rw[List.getElem?_map] at hi
     obtain⟨t,hti,rfl⟩:=Option.map_eq_some_iff.mp hi
     refine⟨_,rfl,_,rfl,p,_,rfl,.inl (SqL.of hp2),rfl,A0g _,_,rfl,?_⟩
     have hlt:i<ys.length:=(List.getElem?_eq_some_iff.mp hti).1
     have et:ys.take (i+1)=ys.take i++ [t]:=by
       rw[List.take_succ_eq_append_getElem hlt,(List.getElem?_eq_some_iff.mp hti).2]
     cases hc:zs.contains t with
     | false=>
       rw[show(if false=true then !inV (V.str t) (zs.map V.str) else inV (V.str t) (zs.map V.str))=false by rw[if_neg Bool.false_ne_true,A1h,hc]]
       refine U8 ⟨rfl,fun t' h'=>?_,_,rfl⟩
       rw[et] at h'
       rcases List.mem_append.mp h' with h'|h'
       . exact ht t' h'
       . rw[List.mem_singleton.mp h'];exact hc
     | true=>
       rw[show(if false=true then !inV (V.str t) (zs.map V.str) else inV (V.str t) (zs.map V.str))=true by rw[if_neg Bool.false_ne_true,A1h,hc]]
       obtain⟨dx',hc3⟩:=ct.ins
       refine Z8 ⟨_,rfl,_,rfl,fun d H4 s4 nd e4=>?_⟩
       refine k2 t ?_ a' d H4 (x2.trans (.of s4)) ((u1.free n1)) (ct.same s4) (x2.none hc3 nd) e4
       unfold hit
       rw[List.find?_eq_some_iff_append]
       refine⟨hc,ys.take i,ys.drop (i+1),?_,fun t' h'=>by rw[ht t' h'];rfl⟩
       have:=List.take_append_drop (i+1) ys
       rw[et] at this
       rw[List.append_assoc] at this
       exact this.symm
   . rintro σ H' ⟨rfl,ht,v,rfl⟩
     refine k1 ?_ a' _ x2 (u1.free n1) ct
     unfold hit
     rw[List.find?_eq_none]
     rw[List.length_map,List.take_length] at ht
     intro t hm
     rw[ht t hm]
     exact Bool.false_ne_true
 exact⟨_,rfl,_,rfl,.inr ⟨bad,k⟩⟩
noncomputable def B6v (CC:Addr):Sp:=fun vs H Q _=>∃c r y l m a b xs ys,vs=[.ref c]/\U4 CC H c r y l m a b xs ys/\∀p,H p=none ->Q (.ref p) (upd H p (.lst ys))
theorem J9c:B9 ["self"] ["self"] (A1 A4g):=scK
theorem J2h{f CC:Addr}(F:Fun K "traps" "Context.traps" A4g f fd)(C:C0w K mg CC)(O:Own mg):sI P w K mg base 1 f fd ["self"] (B6v CC):=by
 refine FnOk.up (F.ok J9c (fun vs H Q E h=>?_) (fun cdv A outer s H vs Q E hr h=>?_))
 . obtain⟨c,r,y,l,m,a,b,xs,ys,rfl,_⟩:=h
   rfl
 obtain⟨c,r,y,l,m,a,b,xs,ys,rfl,⟨⟨dx,e⟩,_,hb⟩,k⟩:=h
 refine⟨_,(B0 (C7 (Y7 A7x (by rfl) O.list_ boot_list (A0 (J1 (pv 0) rfl) A6)))),?_⟩
 exact⟨_,rfl,c,CC,dx,_,_,rfl,e,C.cl,C.n_trapped,C5q _ _ _ _ _ _,b,ys,rfl,.inl (SqL.of hb),k⟩
noncomputable abbrev B5k:Stmt:=(G8 (top 15) 0)
theorem Y2w:B9 Q36 Q36 (A1 B5k):=scK
theorem V3r{f CT fI:Addr}(F:Fun K "__init__" "Trapped.__init__" B5k f fd)(XI:V4w K CT fI)(hn:findIn K (.ref CT) "signal"=some none):FnOk P w K mg base CX0 1 f fd Q36 (D9v CT "signal"):=by
 refine F.ok Y2w (fun vs H Q E h=>?_) (fun cdv A outer s H vs Q E hr h=>?_)
 . obtain⟨e,t,v,rfl,_⟩:=h
   rfl
 obtain⟨e,t,v,rfl,he,k⟩:=h
 refine⟨_,(B0 (A0ae XI hn (pv 0) (pv 1) rfl)),?_⟩
 exact⟨_,rfl,_,rfl,e,t,rfl,he,fun d nd ne=>k d nd ne⟩
noncomputable def Wy.goes (y:Wy) (s last part:Int):Bool:=match y with
 | .down=>false
 | .up=>true
 | .floor=>decide (V.int s=V.int 1)
 | .ceiling=>decide (V.int s=V.int 0)
 | .halfUp=>decide (part>=2)
 | .halfDown=>decide (V.int part=V.int 3)
 | .halfEven=>if decide (V.int part=V.int 3)=true then true else if decide (V.int part=V.int 2)=true then decide (V.int (last % 2)=V.int 1) else false
 | .fiveUp=>inV (.int last) [.int 0,.int 5]
noncomputable def Wy.toEnd (y:Wy) (s:Int):Bool:=match y with
 | .down=>false
 | .up=>true
 | .floor=>decide (V.int s=V.int 1)
 | .ceiling=>decide (V.int s=V.int 0)
 | .halfUp=>true
 | .halfDown=>true
 | .halfEven=>true
 | .fiveUp=>false
noncomputable def A7v (y:Wy):Sp:=fun vs H Q _=>∃p s l t,vs=[.ref p,.int s,.int l,.int t]/\∀H',B7 H H' ->Q (.bl (y.goes s l t)) H'
noncomputable def A3v (y:Wy):Sp:=fun vs H Q _=>∃p s,vs=[.ref p,.int s]/\∀H',B7 H H' ->Q (.bl (y.toEnd s)) H'
noncomputable def WayU (P:Program) (w:World) (K:Frag) (mg:Str ->Option Value) (base:Heap) (C:Addr) (y:Wy):Prop:=Has P w K mg base C "goes_up" 1 Q0 (A7v y)
noncomputable def WayE (P:Program) (w:World) (K:Frag) (mg:Str ->Option Value) (base:Heap) (C:Addr) (y:Wy):Prop:=Has P w K mg base C "to_end" 1 Q3 (A3v y)
noncomputable abbrev sU0:Stmt:=(G8 (top 59) 1)
theorem scU0:B9 Q0 Q0 (A1 sU0):=scK
theorem A0qf(F:Fun K "goes_up" "Down.goes_up" sU0 f fd):sI P w K mg base 1 f fd Q0 (A7v .down):=by
 refine FnOk.up (F.ok scU0 (fun vs H Q E h=>?_) (fun cdv A outer s H vs Q E hr h=>?_))
 . obtain⟨p,z,l,t,rfl,_⟩:=h
   rfl
 obtain⟨p,z,l,t,rfl,k⟩:=h
 refine⟨_,(B0 (C7 A2s)),?_⟩
 exact k H (B7.refl H)
noncomputable abbrev sT0:Stmt:=(G8 (top 59) 2)
theorem scT0:B9 Q3 Q3 (A1 sT0):=scK
theorem A0nm(F:Fun K "to_end" "Down.to_end" sT0 f fd):sI P w K mg base 1 f fd Q3 (A3v .down):=by
 refine FnOk.up (F.ok scT0 (fun vs H Q E h=>?_) (fun cdv A outer s H vs Q E hr h=>?_))
 . obtain⟨p,z,rfl,_⟩:=h
   rfl
 obtain⟨p,z,rfl,k⟩:=h
 refine⟨_,(B0 (C7 A2s)),?_⟩
 exact k H (B7.refl H)
noncomputable abbrev sU1:Stmt:=(G8 (top 60) 1)
theorem scU1:B9 Q0 Q0 (A1 sU1):=scK
theorem A0pz(F:Fun K "goes_up" "Up.goes_up" sU1 f fd):sI P w K mg base 1 f fd Q0 (A7v .up):=by
 refine FnOk.up (F.ok scU1 (fun vs H Q E h=>?_) (fun cdv A outer s H vs Q E hr h=>?_))
 . obtain⟨p,z,l,t,rfl,_⟩:=h
   rfl
 obtain⟨p,z,l,t,rfl,k⟩:=h
 refine⟨_,(B0 (C7 A2s)),?_⟩
 exact k H (B7.refl H)
noncomputable abbrev sT1:Stmt:=(G8 (top 60) 2)
theorem scT1:B9 Q3 Q3 (A1 sT1):=scK
theorem A0mf(F:Fun K "to_end" "Up.to_end" sT1 f fd):sI P w K mg base 1 f fd Q3 (A3v .up):=by
 refine FnOk.up (F.ok scT1 (fun vs H Q E h=>?_) (fun cdv A outer s H vs Q E hr h=>?_))
 . obtain⟨p,z,rfl,_⟩:=h
   rfl
 obtain⟨p,z,rfl,k⟩:=h
 refine⟨_,(B0 (C7 A2s)),?_⟩
 exact k H (B7.refl H)
noncomputable abbrev sU2:Stmt:=(G8 (top 61) 1)
theorem scU2:B9 Q0 Q0 (A1 sU2):=scK
theorem A0pk(F:Fun K "goes_up" "Floor.goes_up" sU2 f fd):sI P w K mg base 1 f fd Q0 (A7v .floor):=by
 refine FnOk.up (F.ok scU2 (fun vs H Q E h=>?_) (fun cdv A outer s H vs Q E hr h=>?_))
 . obtain⟨p,z,l,t,rfl,_⟩:=h
   rfl
 obtain⟨p,z,l,t,rfl,k⟩:=h
 refine⟨_,(B0 (C7 (G6 G7 (pv 1) A3 (D0 _)))),?_⟩
 exact⟨_,rfl,rfl,k H (B7.refl H)⟩
noncomputable abbrev sT2:Stmt:=(G8 (top 61) 2)
theorem scT2:B9 Q3 Q3 (A1 sT2):=scK
theorem A0nc(F:Fun K "to_end" "Floor.to_end" sT2 f fd):sI P w K mg base 1 f fd Q3 (A3v .floor):=by
 refine FnOk.up (F.ok scT2 (fun vs H Q E h=>?_) (fun cdv A outer s H vs Q E hr h=>?_))
 . obtain⟨p,z,rfl,_⟩:=h
   rfl
 obtain⟨p,z,rfl,k⟩:=h
 refine⟨_,(B0 (C7 (G6 G7 (pv 1) A3 (D0 _)))),?_⟩
 exact⟨_,rfl,rfl,k H (B7.refl H)⟩
noncomputable abbrev sU3:Stmt:=(G8 (top 62) 1)
theorem scU3:B9 Q0 Q0 (A1 sU3):=scK
theorem A0mr(F:Fun K "goes_up" "Ceiling.goes_up" sU3 f fd):sI P w K mg base 1 f fd Q0 (A7v .ceiling):=by
 refine FnOk.up (F.ok scU3 (fun vs H Q E h=>?_) (fun cdv A outer s H vs Q E hr h=>?_))
 . obtain⟨p,z,l,t,rfl,_⟩:=h
   rfl
 obtain⟨p,z,l,t,rfl,k⟩:=h
 refine⟨_,(B0 (C7 (G6 G7 (pv 1) A3 (D0 _)))),?_⟩
 exact⟨_,rfl,rfl,k H (B7.refl H)⟩
noncomputable abbrev sT3:Stmt:=(G8 (top 62) 2)
theorem scT3:B9 Q3 Q3 (A1 sT3):=scK
theorem A0qg(F:Fun K "to_end" "Ceiling.to_end" sT3 f fd):sI P w K mg base 1 f fd Q3 (A3v .ceiling):=by
 refine FnOk.up (F.ok scT3 (fun vs H Q E h=>?_) (fun cdv A outer s H vs Q E hr h=>?_))
 . obtain⟨p,z,rfl,_⟩:=h
   rfl
 obtain⟨p,z,rfl,k⟩:=h
 refine⟨_,(B0 (C7 (G6 G7 (pv 1) A3 (D0 _)))),?_⟩
 exact⟨_,rfl,rfl,k H (B7.refl H)⟩
noncomputable abbrev sU4:Stmt:=(G8 (top 63) 1)
theorem scU4:B9 Q0 Q0 (A1 sU4):=scK
theorem A0pe(F:Fun K "goes_up" "HalfUp.goes_up" sU4 f fd):sI P w K mg base 1 f fd Q0 (A7v .halfUp):=by
 refine FnOk.up (F.ok scU4 (fun vs H Q E h=>?_) (fun cdv A outer s H vs Q E hr h=>?_))
 . obtain⟨p,z,l,t,rfl,_⟩:=h
   rfl
 obtain⟨p,z,l,t,rfl,k⟩:=h
 refine⟨_,(B0 (C7 (G6 Y2h (pv 3) A3 (D0 _)))),?_⟩
 exact⟨_,rfl,_,_,rfl,rfl,k H (B7.refl H)⟩
noncomputable abbrev sT4:Stmt:=(G8 (top 63) 2)
theorem scT4:B9 Q3 Q3 (A1 sT4):=scK
theorem A0py(F:Fun K "to_end" "HalfUp.to_end" sT4 f fd):sI P w K mg base 1 f fd Q3 (A3v .halfUp):=by
 refine FnOk.up (F.ok scT4 (fun vs H Q E h=>?_) (fun cdv A outer s H vs Q E hr h=>?_))
 . obtain⟨p,z,rfl,_⟩:=h
   rfl
 obtain⟨p,z,rfl,k⟩:=h
 refine⟨_,(B0 (C7 A2s)),?_⟩
 exact k H (B7.refl H)
noncomputable abbrev sU5:Stmt:=(G8 (top 64) 1)
theorem scU5:B9 Q0 Q0 (A1 sU5):=scK
theorem A0mp(F:Fun K "goes_up" "HalfDown.goes_up" sU5 f fd):sI P w K mg base 1 f fd Q0 (A7v .halfDown):=by
 refine FnOk.up (F.ok scU5 (fun vs H Q E h=>?_) (fun cdv A outer s H vs Q E hr h=>?_))
 . obtain⟨p,z,l,t,rfl,_⟩:=h
   rfl
 obtain⟨p,z,l,t,rfl,k⟩:=h
 refine⟨_,(B0 (C7 (G6 G7 (pv 3) A3 (D0 _)))),?_⟩
 exact⟨_,rfl,rfl,k H (B7.refl H)⟩
noncomputable abbrev sT5:Stmt:=(G8 (top 64) 2)
theorem scT5:B9 Q3 Q3 (A1 sT5):=scK
theorem A0mz(F:Fun K "to_end" "HalfDown.to_end" sT5 f fd):sI P w K mg base 1 f fd Q3 (A3v .halfDown):=by
 refine FnOk.up (F.ok scT5 (fun vs H Q E h=>?_) (fun cdv A outer s H vs Q E hr h=>?_))
 . obtain⟨p,z,rfl,_⟩:=h
   rfl
 obtain⟨p,z,rfl,k⟩:=h
 refine⟨_,(B0 (C7 A2s)),?_⟩
 exact k H (B7.refl H)
noncomputable abbrev sU6:Stmt:=(G8 (top 65) 1)
theorem scU6:B9 Q0 Q0 (A1 sU6):=scK
theorem A0nb(F:Fun K "goes_up" "HalfEven.goes_up" sU6 f fd):sI P w K mg base 1 f fd Q0 (A7v .halfEven):=by
 refine FnOk.up (F.ok scU6 (fun vs H Q E h=>?_) (fun cdv A outer s H vs Q E hr h=>?_))
 . obtain⟨p,z,l,t,rfl,_⟩:=h
   rfl
 obtain⟨p,z,l,t,rfl,k⟩:=h
 refine⟨_,(B0 (C7 (J2k (G6 G7 (pv 3) A3 (D0 _)) (A2e (A6r (G6 G7 (pv 3) A3 (D0 _)) (A2e (G6 G7 (B1 G2 (pv 2) A3) A3 (D0 _)))))))),?_⟩
 have k:=k H (B7.refl H)
 unfold Wy.goes at k
 refine⟨_,rfl,rfl,_,rfl,?_⟩
 cases e:decide (V.int t=V.int 3) with
 |true=>rw[e] at k;exact Z8 k
 | false=>
   rw[e] at k
   refine U8 ⟨_,rfl,rfl,_,rfl,?_⟩
   cases e2:decide (V.int t=V.int 2) with
   |true=>rw[e2] at k;exact Z8 ⟨_,rfl,_,_,rfl,rfl,(by decide:(0:Int)<2),rfl,k⟩
   |false=>rw[e2] at k;exact U8 k
noncomputable abbrev sT6:Stmt:=(G8 (top 65) 2)
theorem scT6:B9 Q3 Q3 (A1 sT6):=scK
theorem A0pc(F:Fun K "to_end" "HalfEven.to_end" sT6 f fd):sI P w K mg base 1 f fd Q3 (A3v .halfEven):=by
 refine FnOk.up (F.ok scT6 (fun vs H Q E h=>?_) (fun cdv A outer s H vs Q E hr h=>?_))
 . obtain⟨p,z,rfl,_⟩:=h
   rfl
 obtain⟨p,z,rfl,k⟩:=h
 refine⟨_,(B0 (C7 A2s)),?_⟩
 exact k H (B7.refl H)
noncomputable abbrev sU7:Stmt:=(G8 (top 66) 1)
theorem scU7:B9 Q0 Q0 (A1 sU7):=scK
theorem A0pa(F:Fun K "goes_up" "FiveUp.goes_up" sU7 f fd):sI P w K mg base 1 f fd Q0 (A7v .fiveUp):=by
 refine FnOk.up (F.ok scU7 (fun vs H Q E h=>?_) (fun cdv A outer s H vs Q E hr h=>?_))
 . obtain⟨p,z,l,t,rfl,_⟩:=h
   rfl
 obtain⟨p,z,l,t,rfl,k⟩:=h
 refine⟨_,(B0 (C7 (G6 A7b (pv 2) (V3 (A0 A3 (A0 A3 A6))) (by rfl)))),?_⟩
 exact⟨_,rfl,D3 (by decide),fun q nq=>⟨q,_,rfl,.inr (SqT.of A7),rfl,rfl,k _ (B7.upd nq)⟩⟩
noncomputable abbrev sT7:Stmt:=(G8 (top 66) 2)
theorem scT7:B9 Q3 Q3 (A1 sT7):=scK
theorem A0mm(F:Fun K "to_end" "FiveUp.to_end" sT7 f fd):sI P w K mg base 1 f fd Q3 (A3v .fiveUp):=by
 refine FnOk.up (F.ok scT7 (fun vs H Q E h=>?_) (fun cdv A outer s H vs Q E hr h=>?_))
 . obtain⟨p,z,rfl,_⟩:=h
   rfl
 obtain⟨p,z,rfl,k⟩:=h
 refine⟨_,(B0 (C7 A2s)),?_⟩
 exact k H (B7.refl H)
noncomputable abbrev A5y:Stmt:=(top 31)
noncomputable abbrev A2w:Stmt:=(top 32)
noncomputable abbrev A0t:Stmt:=(top 33)
noncomputable abbrev A5w:Stmt:=(top 34)
noncomputable abbrev A5x:Stmt:=(top 35)
noncomputable abbrev B1j:Stmt:=(top 36)
noncomputable abbrev B1f:Stmt:=(top 37)
noncomputable abbrev A5d:Stmt:=(top 38)
noncomputable abbrev A4x:Stmt:=(top 39)
noncomputable abbrev A6a:Stmt:=(top 40)
structure Cv where
 r:Int
 y:Wy
 l:Int
 m:Int
structure Cv.Ok(c:Cv):Prop where
 r1:1<=c.r
 r2:c.r<=24
 l1: -60<=c.l
 l2:c.l<=0
 m1:0<=c.m
 m2:c.m<=60
noncomputable def B1q (ideal:Int):Nat ->Int ->Int ->Int×Int
 |0,f,p=>(f,p)
 |n+1,f,p=>if f % 10=0 then B1q ideal n (f/10) (p+1) else(f,p)
noncomputable def A0v (ideal f p:Int):Int×Int:=B1q ideal (ideal-p).toNat f p
theorem C7a{ideal f p:Int}(h:p<ideal)(z:f % 10=0):A0v ideal f p=A0v ideal (f/10) (p+1):=by
 unfold A0v
 obtain⟨n,hn⟩:∃n,(ideal-p).toNat=n+1:=⟨(ideal-p).toNat-1,by omega⟩
 rw[hn,show(ideal-(p+1)).toNat=n by omega]
 show(if f % 10=0 then B1q ideal n (f/10) (p+1) else(f,p))=_
 rw[if_pos z]
theorem C8h{ideal f p:Int}(h:¬(p<ideal/\f % 10=0)):A0v ideal f p=(f,p):=by
 unfold A0v
 by_cases q:p<ideal
 . obtain⟨n,hn⟩:∃n,(ideal-p).toNat=n+1:=⟨(ideal-p).toNat-1,by omega⟩
   rw[hn]
   show(if f % 10=0 then B1q ideal n (f/10) (p+1) else(f,p))=_
   rw[if_neg fun z=>h ⟨q,z⟩]
 rw[show(ideal-p).toNat=0 by omega]
 rfl
noncomputable def C8p (f:Int):Int:=((Str.ofString (toString f)).length:Nat)
noncomputable def upI (y:Wy) (s wh pt:Int):Int:=if(if pt=0 then false else y.goes s (wh % 10) pt)=true then wh+1 else wh
noncomputable def B1g (r f q:Int):Int×Int:=if f=C8 r then(f/10,q+1) else(f,q)
noncomputable def Y6 (c:Cv) (s wh pt q ideal:Int):Int×Int:=if pt=0 then A0v ideal wh q else B1g c.r (upI c.y s wh pt) q
noncomputable def A3r (m f p:Int):Bool:=if f=0 then false else decide (p+C8p f-1>m)
noncomputable def B6z (c:Cv) (s:Int):Nm:=if c.y.toEnd s=true then⟨.end_,s,0,0⟩ else⟨.plain,s,C8 c.r-1,c.m-c.r+1⟩
noncomputable def A1b (pt:Int) (cut:Bool):List Str:=if pt=0 then(if cut=true then ["cut"] else []) else ["off","cut"]
noncomputable def A1c (l L pt:Int):List Str:=if L>=l then [] else if pt=0 then ["faint"] else ["sunk","faint"]
noncomputable def A5s (c:Cv) (s wh pt L q ideal:Int):Nm×List Str:=
 if A3r c.m (Y6 c s wh pt q ideal).1 (Y6 c s wh pt q ideal).2=true then(B6z c s,Q46)
 else(⟨.plain,s,(Y6 c s wh pt q ideal).1,(Y6 c s wh pt q ideal).2⟩,A1b pt (decide ((Y6 c s wh pt q ideal).2>ideal))++A1c c.l L pt)
noncomputable def Z4 (a b:Int):Int:=if b>a then b else a
noncomputable def C6m (a b:Int):Int:=if b<a then b else a
noncomputable def A6u (CC:Addr) (H:Hp) (c:Addr) (v:Cv) (a b:Addr) (xs ys:List Str):Prop:=U4 CC H c v.r v.y v.l v.m a b (xs.map V.str) (ys.map V.str)
theorem A6u.same{CC:Addr}{H H':Hp}{c:Addr}{v:Cv}{a b:Addr}{xs ys:List Str}(h:A6u CC H c v a b xs ys)(e:B7 H H'):A6u CC H' c v a b xs ys:=U4.same h e
theorem C7q{CN:Addr}{H:Hp}{Q:VK}{E:XK}{k s f p:V}(h:∀n H',H n=none ->B7 H H' ->A5g CN H' n k s f p ->Q (.ref n) H'):
   ∀x dx,H x=none ->H dx=none ->dx≠x ->G0t CN (.ref x::([k,s,f,p]++ [])) (upd (upd H dx (.own x)) x (.ins CN dx [])) (fun v H2=>v= .non/\Q (.ref x) H2) E:=by
 intro x dx nx nd ne
 refine⟨x,dx,k,s,f,p,rfl,A7,fun H' e kp=>⟨rfl,h x H' nx (fun b o z=>?_) ⟨dx,e⟩⟩⟩
 refine kp b o ?_ (D8 z nx)
 rw[C9 (D8 z nx),C9 (D8 z nd)]
 exact z
structure D3t(P:Program)(w:World)(K:Frag)(mg:Str ->Option Value)(base:Heap)(CC CB CT CW:Addr)(cw:Wy ->Addr):Prop where
 c:C0w K mg CC
 way:Has P w K mg base CC "way" 2 ["self"] (C7w CC cw)
 low:Has P w K mg base CC "lowest" 1 ["self"] (C8c CC)
 raised:Has P w K mg base CC "raised" 3 Q13 (B8y K CC CB CT)
 wc:∀y:Wy,C6s K mg y.cls (cw y) CW
 u:∀y:Wy,WayU P w K mg base (cw y) y
 e:∀y:Wy,WayE P w K mg base (cw y) y
noncomputable def D8c (CN:Addr):Sp:=fun vs H Q _=>∃i s f p:Int,vs=[.int i,.int s,.int f,.int p]/\∀n H',H n=none ->B7 H H' ->U0 CN H' n ⟨.plain,s,(A0v i f p).1,(A0v i f p).2⟩ ->Q (.ref n) H'
theorem scNearest:B9 Q16 Q16 (A1 A2w):=scK
theorem J8z{f fI CN:Addr}{fd fdI:FuncData}(D:Def K mg "nearest_to" Q16 A2w f fd)(N:Num K mg CN)(M:B9m P w K mg base CN fI fdI):sI P w K mg base 3 f fd Q16 (D8c CN):=by
 refine FnOk.up (D.F.ok scNearest (fun vs H Q E h=>?_) (fun cdv A outer s H vs Q E hr h=>?_))
 . obtain⟨i,s,f,p,rfl,_⟩:=h
   rfl
 obtain⟨i,sg,fg,pw,rfl,k⟩:=h
 have hx:G5 (A0w CX0 P w K mg base Q16 "nearest_to" (A1 A2w) f cdv A outer s H E).nox EKF:=A0e
 refine⟨_,(A8 (B9c PassesOwn.never (PW.pt (A6s (D4 D7u (pv 3) (pv 0) (D0 _)) (A3x (D4 G7 (B1 G2 (pv 2) A3) A3 (D0 _))))) (A8 (D7 (i:=2) scNearest.nd rfl (Or.inl rfl) (B1 G3 (pv 2) A3)) (B0 (D7 (i:=3) scNearest.nd rfl (Or.inl rfl) (B1 V4 (pv 3) A3))))) (B0 (C7 (C5z M.m (FnOk.up M.g) hr N.g M.b .nil hx (A0 B3 (A0 (pv 1) (A0 (pv 2) (A0 (pv 3) A6)))))))),?_⟩
 have d10:(0:Int)<10/\(10:Int).natAbs.log2<9000:=⟨by decide,by decide+kernel⟩
 refine B9b (fun σ H2=>H2=H/\∃f p:Int,A0v i f p=A0v i fg pw/\σ=[si i,si sg,si f,si p]) (fun σ _=>match σ with| [_,_,_,some (.int p)]=>(i-p).toNat|_=>0) ?_ ?_ ?_
 . exact⟨rfl,fg,pw,rfl,rfl⟩
 . rintro σ H2 ⟨rfl,f,p,e,rfl⟩
   have stop:¬(p<i/\f % 10=0) ->∀n H',H2 n=none ->B7 H2 H' ->A5g CN H' n (.str "plain") (.int sg) (.int f) (.int p) ->Q (.ref n) H':=fun h n H' nn sm num=>by
     refine k n H' nn sm ?_
     rw[<-e,C8h h]
     exact num
   refine⟨_,rfl,_,rfl,_,_,rfl,rfl,_,rfl,V8 (fun h1=>?_) (fun h1=>U8 ⟨_,rfl,_,rfl,_,rfl,C7q (stop fun q=>h1 q.1)⟩)⟩
   refine⟨_,rfl,_,_,rfl,rfl,d10.1,rfl,_,rfl,V8 (fun h2=>?_) (fun h2=>⟨_,rfl,_,rfl,_,rfl,C7q (stop fun q=>h2 (congrArg V.int q.2))⟩)⟩
   have h1:p<i:=h1
   have h2:f % 10=0:=by injection h2
   refine⟨_,rfl,_,_,rfl,rfl,d10,_,rfl,_,_,rfl,rfl,⟨rfl,f/10,p+1,(C7a h1 h2).symm.trans e,rfl⟩,?_⟩
   show(i-(p+1)).toNat<(i-p).toNat
   omega
 rintro σ H2 Q1 Q2 hQ ⟨v,e,v2,e2,a,b,e3,e4,c,e5,q⟩
 refine⟨v,e,v2,e2,a,b,e3,e4,c,e5,?_⟩
 cases c with
 |false=>exact U8 (hQ _ _ (by simpa using q))
 | true=>
   have q:_:=q
   rw[if_pos rfl] at q ⊢
   obtain⟨v3,e6,a2,b2,e7,e8,e9,e10,e11,e12,q⟩:=q
   exact⟨v3,e6,a2,b2,e7,e8,e9,e10,e11,e12,hQ _ _ q⟩
noncomputable def C5w (CC:Addr):Sp:=fun vs H Q _=>∃c v a b xs ys p,∃s wh pt:Int,vs=[.ref c,.int s,.ref p]/\A6u CC H c v a b xs ys/\H p=some (.tup [.int wh,.int pt])/\∀H',B7 H H' ->Q (.int (upI v.y s wh pt)) H'
theorem J1a:B9 Q17 Q17 (A1 A0t):=scK
theorem G1b{f CC CB CT CW:Addr}{cw:Wy ->Addr}(D:Def K mg "neighbour" Q17 A0t f fd)(C:D3t P w K mg base CC CB CT CW cw):sI P w K mg base 3 f fd Q17 (C5w CC):=by
 refine FnOk.up (D.F.ok J1a (fun vs H Q E h=>?_) (fun cdv A outer s H vs Q E hr h=>?_))
 . obtain⟨c,v,a,b,xs,ys,p,sg,wh,pt,rfl,_⟩:=h
   rfl
 obtain⟨c,v,a,b,xs,ys,p,sg,wh,pt,rfl,hc,hp,k⟩:=h
 have hx:G5 (A0w CX0 P w K mg base Q17 "neighbour" (A1 A0t) f cdv A outer s H E).nox EKF:=A0e
 obtain⟨fW,fdW,mW,gW,bW⟩:=C.way
 obtain⟨fU,fdU,mU,gU,bU⟩:=C.u v.y
 refine⟨_,(A8 (J0 (PW.pt (A6s (D4 C7h (V5 Y2 (pv 2) A3 (fun _ _=>rfl)) A3 (D0 _)) (A3x (A0b (C5s (A6t (pv 0) C.c.cl mW gW hr bW .nil hx) (C.wc v.y).cl mU gU hr bU .nil hx (A0 (pv 1) (A0 (B1 G2 (V5 Y2 (pv 2) A3 (fun _ _=>rfl)) A3) (A0 (V5 Y2 (pv 2) A3 (fun _ _=>rfl)) A6)))))))) (B0 (C7 (B1 V4 (V5 Y2 (pv 2) A3 (fun _ _=>rfl)) A3))) D6) (B0 (C7 (V5 Y2 (pv 2) A3 (fun _ _=>rfl))))),?_⟩
 obtain⟨⟨dx,e⟩,_,_⟩:=id hc
 unfold upI at k
 refine⟨_,rfl,p,_,_,_,rfl,rfl,SqT.of hp,U7 (j:=1) rfl,rfl,_,rfl,?_⟩
 by_cases h0:pt=0
 . subst h0
   rw[if_pos rfl,if_neg Bool.false_ne_true] at k
   exact C5y rfl (U8 ⟨_,rfl,p,_,_,_,rfl,rfl,SqT.of hp,U7 (j:=0) rfl,k H (B7.refl H)⟩)
 rw[if_neg h0] at k
 rw[decide_eq_false (fun q=>h0 (by injection q):¬V.int pt=V.int 0)]
 refine Z8 ⟨_,rfl,c,dx,_,rfl,e,C7r _ _ _ _ _ _,c,v.r,v.y,v.l,v.m,a,b,_,_,rfl,hc,fun q dq H1 nq s1 eq=>?_⟩
 refine⟨q,dq,_,rfl,eq,rfl,_,rfl,_,rfl,p,_,_,_,rfl,rfl,SqT.of (s1 _ _ hp),U7 (j:=0) rfl,_,_,rfl,rfl,(by decide:(0:Int)<10),_,rfl,p,_,_,_,rfl,rfl,SqT.of (s1 _ _ hp),U7 (j:=1) rfl,q,sg,wh % 10,pt,rfl,fun H2 s2=>⟨_,rfl,?_⟩⟩
 have s3:=s1.trans s2
 cases g:v.y.goes sg (wh % 10) pt with
 | true=>
   rw[g,if_pos rfl] at k
   exact Z8 ⟨_,rfl,p,_,_,_,rfl,rfl,SqT.of (s3 _ _ hp),U7 (j:=0) rfl,_,_,rfl,rfl,k H2 s3⟩
 | false=>
   rw[g,if_neg Bool.false_ne_true] at k
   exact U8 ⟨_,rfl,p,_,_,_,rfl,rfl,SqT.of (s3 _ _ hp),U7 (j:=0) rfl,k H2 s3⟩
noncomputable def J1p (CN CC:Addr):Sp:=fun vs H Q _=>∃c v a b xs ys,∃s f q:Int,vs=[.ref c,.int s,.int f,.int q]/\A6u CC H c v a b xs ys/\v.Ok/\∀n H',H n=none ->B7 H H' ->U0 CN H' n ⟨.plain,s,(B1g v.r f q).1,(B1g v.r f q).2⟩ ->Q (.ref n) H'
theorem Y2j:B9 Q18 Q18 (A1 A5w):=scK
theorem V3t{f f1 fI CN CC CB CT CW:Addr}{cw:Wy ->Addr}{fd fd1 fdI:FuncData}(D:Def K mg "within_room" Q18 A5w f fd)(dA:Def K mg "ten_to" ["count"] A4p f1 fd1)(dB:sI P w K mg base 2 f1 fd1 ["count"] B8z)(C:D3t P w K mg base CC CB CT CW cw)(N:Num K mg CN)(M:B9m P w K mg base CN fI fdI):
   sI P w K mg base 3 f fd Q18 (J1p CN CC):=by
 refine FnOk.up (D.F.ok Y2j (fun vs H Q E h=>?_) (fun cdv A outer s H vs Q E hr h=>?_))
 . obtain⟨c,v,a,b,xs,ys,sg,f,q,rfl,_⟩:=h
   rfl
 obtain⟨c,v,a,b,xs,ys,sg,fg,q,rfl,hc,ok,k⟩:=h
 have hx:G5 (A0w CX0 P w K mg base Q18 "within_room" (A1 A5w) f cdv A outer s H E).nox EKF:=A0e
 refine⟨_,(A8 (J0 (D4 G7 (pv 2) (D5 dA dB hr hx (A0 (J1 (pv 0) rfl) A6)) (D0 _)) (B0 (C7 (C5z M.m (FnOk.up M.g) hr N.g M.b .nil hx (A0 B3 (A0 (pv 1) (A0 (B1 G3 (pv 2) A3) (A0 (B1 V4 (pv 3) A3) A6))))))) D6) (B0 (C7 (C5z M.m (FnOk.up M.g) hr N.g M.b .nil hx (A0 B3 (A0 (pv 1) (A0 (pv 2) (A0 (pv 3) A6)))))))),?_⟩
 have d10:(0:Int)<10/\(10:Int).natAbs.log2<9000:=⟨by decide,by decide+kernel⟩
 obtain⟨⟨dx,e⟩,_,_⟩:=id hc
 have r1:=ok.r1;have r2:=ok.r2
 refine⟨_,rfl,_,rfl,c,CC,dx,_,_,rfl,e,C.c.cl,C.c.n_room,B2a _ _ _ _ _ _,v.r.toNat,(by rw[Int.toNat_of_nonneg (by omega)];rfl),by omega,rfl,_,rfl,?_⟩
 unfold B1g at k
 refine V8 (fun h=>?_) (fun h=>?_)
 . have h:fg=C8 v.r:=by injection h
   rw[if_pos h] at k
   exact⟨_,rfl,_,rfl,_,_,rfl,rfl,d10,_,rfl,_,_,rfl,rfl,C7q k⟩
 have h:¬fg=C8 v.r:=fun z=>h (congrArg V.int z)
 rw[if_neg h] at k
 exact⟨_,rfl,_,rfl,_,rfl,C7q k⟩
noncomputable def J2m (CN CC:Addr):Sp:=fun vs H Q _=>∃c v a b xs ys n x,vs=[.ref c,.ref n]/\A6u CC H c v a b xs ys/\U0 CN H n x/\x.f.natAbs<2^300/\Q (.bl (A3r v.m x.f x.p)) H
theorem Y0s:B9 Q9 Q9 (A1 A5x):=scK
theorem V3u{f f1 CN CC CB CT CW:Addr}{cw:Wy ->Addr}(D:Def K mg "is_beyond" Q9 A5x f fd)(dA:Def K mg "lead_of" ["number"] C8a f1 fd1)(dB:sI P w K mg base 1 f1 fd1 ["number"] (Y3y CN))(C:D3t P w K mg base CC CB CT CW cw)(N:Num K mg CN):
   sI P w K mg base 2 f fd Q9 (J2m CN CC):=by
 refine FnOk.up (D.F.ok Y0s (fun vs H Q E h=>?_) (fun cdv A outer s H vs Q E hr h=>?_))
 . obtain⟨c,v,a,b,xs,ys,n,x,rfl,_⟩:=h
   rfl
 obtain⟨c,v,a,b,xs,ys,n,x,rfl,hc,hn,hf,k⟩:=h
 have hx:G5 (A0w CX0 P w K mg base Q9 "is_beyond" (A1 A5x) f cdv A outer s H E).nox EKF:=A0e
 refine⟨_,(B0 (C7 (A6r (G6 C7h (J1 (pv 1) rfl) A3 (D0 _)) (A2e (G6 B9g (D5 dA dB hr hx (A0 (pv 1) A6)) (J1 (pv 0) rfl) (D0 _)))))),?_⟩
 obtain⟨⟨dx,e⟩,_,_⟩:=id hc
 obtain⟨dn,en⟩:=id hn
 unfold A3r at k
 refine⟨_,rfl,n,CN,dn,_,_,rfl,en,N.cl,N.n3,V3x _ _ _ _,rfl,_,rfl,?_⟩
 by_cases h0:x.f=0
 . rw[if_pos h0] at k
   rw[decide_eq_true (congrArg V.int h0)]
   exact U8 k
 rw[if_neg h0] at k
 rw[decide_eq_false (fun q=>h0 (by injection q):¬V.int x.f=V.int 0)]
 exact Z8 ⟨_,rfl,n,_,_,_,_,rfl,hn,hf,_,rfl,c,CC,dx,_,_,rfl,e,C.c.cl,C.c.n_most,C7c _ _ _ _ _ _,_,_,rfl,rfl,k⟩
noncomputable def V1b (CN CC:Addr):Sp:=fun vs H Q _=>∃c v a b xs ys,∃s:Int,vs=[.ref c,.int s]/\A6u CC H c v a b xs ys/\v.Ok/\∀n H',H n=none ->B7 H H' ->U0 CN H' n ⟨.plain,s,C8 v.r-1,v.m-v.r+1⟩ ->Q (.ref n) H'
theorem Z8s:B9 Q7 Q7 (A1 B1f):=scK
theorem Y3a{f f1 fI CN CC CB CT CW:Addr}{cw:Wy ->Addr}{fd fd1 fdI:FuncData}(D:Def K mg "nines" Q7 B1f f fd)(dA:Def K mg "ten_to" ["count"] A4p f1 fd1)(dB:sI P w K mg base 2 f1 fd1 ["count"] B8z)(C:D3t P w K mg base CC CB CT CW cw)(N:Num K mg CN)(M:B9m P w K mg base CN fI fdI):
   sI P w K mg base 3 f fd Q7 (V1b CN CC):=by
 refine FnOk.up (D.F.ok Z8s (fun vs H Q E h=>?_) (fun cdv A outer s H vs Q E hr h=>?_))
 . obtain⟨c,v,a,b,xs,ys,sg,rfl,_⟩:=h
   rfl
 obtain⟨c,v,a,b,xs,ys,sg,rfl,hc,ok,k⟩:=h
 have hx:G5 (A0w CX0 P w K mg base Q7 "nines" (A1 B1f) f cdv A outer s H E).nox EKF:=A0e
 refine⟨_,(B0 (C7 (C5z M.m (FnOk.up M.g) hr N.g M.b .nil hx (A0 B3 (A0 (pv 1) (A0 (B1 V2 (D5 dA dB hr hx (A0 (J1 (pv 0) rfl) A6)) A3) (A0 (B1 V4 (B1 V2 (J1 (pv 0) rfl) (J1 (pv 0) rfl)) A3) A6))))))),?_⟩
 obtain⟨⟨dx,e⟩,_,_⟩:=id hc
 have r1:=ok.r1;have r2:=ok.r2
 exact⟨_,rfl,_,rfl,c,CC,dx,_,_,rfl,e,C.c.cl,C.c.n_room,B2a _ _ _ _ _ _,v.r.toNat,(by rw[Int.toNat_of_nonneg (by omega)];rfl),by omega,_,_,rfl,rfl,_,rfl,c,CC,dx,_,_,rfl,e,C.c.cl,C.c.n_most,C7c _ _ _ _ _ _,_,rfl,c,CC,dx,_,_,rfl,e,C.c.cl,C.c.n_room,B2a _ _ _ _ _ _,_,_,rfl,rfl,_,_,rfl,rfl,C7q k⟩
noncomputable def V1g (CN CC:Addr):Sp:=fun vs H Q _=>∃c v a b xs ys,∃s:Int,vs=[.ref c,.int s]/\A6u CC H c v a b xs ys/\v.Ok/\0<=s/\s<=1/\∀n H',B7 H H' ->U0 CN H' n (B6z v s) ->Q (.ref n) H'
theorem A0ab:B9 Q7 Q7 (A1 B1j):=scK
theorem Y1q{f f1 f2 CN CN' CC CB CT CW:Addr}{cw:Wy ->Addr}(D:Def K mg "burst" Q7 B1j f fd)(dA:Def K mg "nines" Q7 B1f f1 fd1)(dB:sI P w K mg base 3 f1 fd1 Q7 (V1b CN CC))(dC:Def K mg "end" ["sign"] J1k f2 fd2)(dD:sI P w K mg base 3 f2 fd2 ["sign"] (Y1f K CN CN'))(C:D3t P w K mg base CC CB CT CW cw):
   sI P w K mg base 4 f fd Q7 (V1g CN CC):=by
 refine FnOk.up (D.F.ok A0ab (fun vs H Q E h=>?_) (fun cdv A outer s H vs Q E hr h=>?_))
 . obtain⟨c,v,a,b,xs,ys,sg,rfl,_⟩:=h
   rfl
 obtain⟨c,v,a,b,xs,ys,sg,rfl,hc,ok,s0,s1,k⟩:=h
 have hx:G5 (A0w CX0 P w K mg base Q7 "burst" (A1 B1j) f cdv A outer s H E).nox EKF:=A0e
 obtain⟨fW,fdW,mW,gW,bW⟩:=C.way
 obtain⟨fU,fdU,mU,gU,bU⟩:=C.e v.y
 refine⟨_,(B0 (C7 (A4r (A0b (C5s (A6t (pv 0) C.c.cl mW gW hr bW .nil hx) (C.wc v.y).cl mU gU hr bU .nil hx (A0 (pv 1) A6))) (D5 dC dD hr hx (A0 (pv 1) A6)) (D5 dA dB hr hx (A0 (pv 0) (A0 (pv 1) A6)))))),?_⟩
 obtain⟨⟨dx,e⟩,_,_⟩:=id hc
 unfold B6z at k
 refine⟨_,rfl,c,dx,_,rfl,e,C7r _ _ _ _ _ _,c,v.r,v.y,v.l,v.m,a,b,_,_,rfl,hc,fun q dq H1 nq t1 eq=>?_⟩
 refine⟨q,dq,_,rfl,eq,rfl,_,rfl,q,sg,rfl,fun H2 t2=>⟨_,rfl,?_⟩⟩
 have t3:=t1.trans t2
 cases g:v.y.toEnd sg with
 | true=>
   rw[g,if_pos rfl] at k
   exact Z8 ⟨_,rfl,_,rfl,.inl ⟨⟨sg,rfl,s0,s1⟩,fun n H' _ sm num=>k n H' (t3.trans sm) num⟩⟩
 | false=>
   rw[g,if_neg Bool.false_ne_true] at k
   exact U8 ⟨_,rfl,_,rfl,c,v,a,b,xs,ys,sg,rfl,hc.same t3,ok,fun n H' _ sm num=>k n H' (t3.trans sm) num⟩
noncomputable def D7m:Sp:=fun vs H Q _=>∃(pt:Int) (cut:Bool),vs=[.int pt,.bl cut]/\∀l,H l=none ->Q (.ref l) (upd H l (.lst ((A1b pt cut).map V.str)))
theorem V4f:B9 Q24 Q24 (A1 A5d):=scK
theorem J8j(D:Def K mg "signals_of_rest" Q24 A5d f fd):sI P w K mg base 1 f fd Q24 D7m:=by
 refine FnOk.up (D.F.ok V4f (fun vs H Q E h=>?_) (fun cdv A outer s H vs Q E hr h=>?_))
 . obtain⟨pt,cut,rfl,_⟩:=h
   rfl
 obtain⟨pt,cut,rfl,k⟩:=h
 refine⟨_,(A8 (J0 (D4 C7h (pv 0) A3 (D0 _)) (B0 (C7 (U1 (A0 B3 (A0 B3 A6))))) D6) (B0 (C7 (A4r (A0b (pv 1)) (U1 (A0 B3 A6)) (U1 A6))))),?_⟩
 unfold A1b at k
 refine⟨_,rfl,rfl,_,rfl,?_⟩
 by_cases h0:pt=0
 . subst h0
   rw[if_pos rfl] at k
   refine C5y rfl ⟨_,rfl,_,rfl,?_⟩
   cases cut with
   |true=>exact Z8 ⟨D3 (by decide),k⟩
   |false=>exact U8 ⟨D3 (by decide),k⟩
 rw[if_neg h0] at k
 rw[decide_eq_false (fun q=>h0 (by injection q):¬V.int pt=V.int 0)]
 exact Z8 ⟨D3 (by decide),k⟩
noncomputable def D8j (CC:Addr):Sp:=fun vs H Q _=>∃c v a b xs ys,∃L pt:Int,vs=[.ref c,.int L,.int pt]/\A6u CC H c v a b xs ys/\∀l,H l=none ->Q (.ref l) (upd H l (.lst ((A1c v.l L pt).map V.str)))
theorem V2u:B9 Q25 Q25 (A1 A4x):=scK
theorem J8g{f CC CB CT CW:Addr}{cw:Wy ->Addr}(D:Def K mg "signals_of_lead" Q25 A4x f fd)(C:D3t P w K mg base CC CB CT CW cw):sI P w K mg base 1 f fd Q25 (D8j CC):=by
 refine FnOk.up (D.F.ok V2u (fun vs H Q E h=>?_) (fun cdv A outer s H vs Q E hr h=>?_))
 . obtain⟨c,v,a,b,xs,ys,L,pt,rfl,_⟩:=h
   rfl
 obtain⟨c,v,a,b,xs,ys,L,pt,rfl,hc,k⟩:=h
 refine⟨_,(A8 (J0 (D4 Y2h (pv 1) (J1 (pv 0) rfl) (D0 _)) (B0 (C7 (U1 A6))) D6) (B0 (C7 (A4r (D4 G7 (pv 2) A3 (D0 _)) (U1 (A0 B3 A6)) (U1 (A0 B3 (A0 B3 A6))))))),?_⟩
 obtain⟨⟨dx,e⟩,_,_⟩:=id hc
 unfold A1c at k
 refine⟨_,rfl,_,rfl,c,CC,dx,_,_,rfl,e,C.c.cl,C.c.n_least,D8r _ _ _ _ _ _,_,_,rfl,rfl,_,rfl,V8 (fun h=>?_) (fun h=>?_)⟩
 . rw[if_pos h] at k
   exact⟨D3 (by decide),k⟩
 rw[if_neg h] at k
 refine⟨_,rfl,rfl,_,rfl,V8 (fun h=>?_) (fun h=>?_)⟩
 . rw[if_pos (by injection h)] at k
   exact⟨D3 (by decide),k⟩
 rw[if_neg fun q=>h (congrArg V.int q)] at k
 exact⟨D3 (by decide),k⟩
noncomputable def J1c (CN CC:Addr):Sp:=fun vs H Q _=>∃c v a b xs ys,∃s i:Int,vs=[.ref c,.int s,.int i]/\A6u CC H c v a b xs ys/\∀n H',H n=none ->B7 H H' ->U0 CN H' n ⟨.plain,s,0,C6m (Z4 i (v.l-v.r+1)) v.m⟩ ->Q (.ref n) H'
theorem Y3t:B9 Q19 Q19 (A1 A6a):=scK
theorem V2r{f fI CN CC CB CT CW:Addr}{cw:Wy ->Addr}{fd fdI:FuncData}(D:Def K mg "nought" Q19 A6a f fd)(C:D3t P w K mg base CC CB CT CW cw)(N:Num K mg CN)(M:B9m P w K mg base CN fI fdI)(O:Own mg):sI P w K mg base 3 f fd Q19 (J1c CN CC):=by
 refine FnOk.up (D.F.ok Y3t (fun vs H Q E h=>?_) (fun cdv A outer s H vs Q E hr h=>?_))
 . obtain⟨c,v,a,b,xs,ys,sg,i,rfl,_⟩:=h
   rfl
 obtain⟨c,v,a,b,xs,ys,sg,i,rfl,hc,k⟩:=h
 have hx:G5 (A0w CX0 P w K mg base Q19 "nought" (A1 A6a) f cdv A outer s H E).nox EKF:=A0e
 obtain⟨fL,fdL,mL,gL,bL⟩:=C.low
 refine⟨_,(B0 (C7 (C5z M.m (FnOk.up M.g) hr N.g M.b .nil hx (A0 B3 (A0 (pv 1) (A0 A3 (A0 (V1 (D8g rfl) (by rfl) O.min_ boot_min (A0 (V1 (Z1 rfl) (by rfl) O.max_ boot_max (A0 (pv 2) (A0 (A6t (pv 0) C.c.cl mL gL hr bL .nil hx) A6))) (A0 (J1 (pv 0) rfl) A6))) A6))))))),?_⟩
 obtain⟨⟨dx,e⟩,_,_⟩:=id hc
 exact⟨_,rfl,_,rfl,_,rfl,c,dx,_,rfl,e,B6d _ _ _ _ _ _,c,v.r,v.y,v.l,v.m,a,b,_,_,rfl,hc,_,_,rfl,_,rfl,c,CC,dx,_,_,rfl,e,C.c.cl,C.c.n_most,C7c _ _ _ _ _ _,_,_,rfl,C7q k⟩
noncomputable abbrev A4u:Stmt:=(top 30)
noncomputable abbrev A4y:Stmt:=(top 42)
theorem B9d(i:Int):∀(n:Nat) (f p:Int),0<=f ->0<=(B1q i n f p).1/\(B1q i n f p).1<=f
 |0,f,p,h=>⟨h,Int.le_refl _⟩
 | n +1,f,p,h=>by
   show 0<=(if f % 10=0 then B1q i n (f/10) (p+1) else(f,p)).1/\(if f % 10=0 then B1q i n (f/10) (p+1) else(f,p)).1<=f
   by_cases z:f % 10=0
   . rw[if_pos z]
     have:=B9d i n (f/10) (p+1) (by omega)
     omega
   . rw[if_neg z]
     exact⟨h,Int.le_refl _⟩
theorem Y3d{t b u1 v1 u2 v2 d:Nat}(h:t*10^u1<10*(b*10^v1))(e:u2+v1<=u1+v2+d):t*10^u2<10^(d+1)*(b*10^v2):=by
 have p:0<10^v1:=Nat.pow_pos (by decide)
 apply Nat.lt_of_mul_lt_mul_right (a:=10^v1)
 calc t*10^u2*10^v1=t*10^(u2+v1):=by rw[Nat.mul_assoc, <-Nat.pow_add]
   _<=t*10^(u1+v2+d):=Nat.mul_le_mul_left t (Nat.pow_le_pow_right (by decide) e)
   _=t*10^u1*(10^v2*10^d):=by rw[Nat.mul_assoc, <-Nat.pow_add, <-Nat.pow_add,Nat.add_assoc]
   _<10*(b*10^v1)*(10^v2*10^d):=Nat.mul_lt_mul_of_pos_right h (Nat.mul_pos (Nat.pow_pos (by decide)) (Nat.pow_pos (by decide)))
   _=10^(d+1)*(b*10^v2)*10^v1:=by rw[Nat.pow_succ];ac_rfl
theorem G1k{t b s1 s2 r:Int}(ht:Sz t)(hb:Sz b)(h:A0m t b s1)(hr:1<=r)(e:s2<=s1+(r-1)):0<=whI t b s2/\whI t b s2<C8 r:=by
 obtain⟨tn,rfl,_,_⟩:=ht.nat
 obtain⟨bn,rfl,b1,_⟩:=hb.nat
 have lp:0<(bn:Int)*C8 (-s2):=Int.mul_pos (by omega) (Y8 _)
 refine⟨Int.ediv_nonneg (Int.mul_nonneg (by omega) (Int.le_of_lt (Y8 _))) (Int.le_of_lt lp),?_⟩
 refine Int.ediv_lt_of_lt_mul lp ?_
 have a:tn*10^s1.toNat<10*(bn*10^(-s1).toNat):=Int.ofNat_lt.mp h.2
 have c:=Y3d (u2:=s2.toNat) (v2:=(-s2).toNat) (d:=(r-1).toNat) a (by
   have x1:=Int.toNat_sub_toNat_neg s1
   have x2:=Int.toNat_sub_toNat_neg s2
   have x3:=Int.toNat_of_nonneg (show 0<=r-1 by omega)
   clear a lp h
   generalize s1.toNat=A at*
   generalize (-s1).toNat=B at*
   generalize s2.toNat=C at*
   generalize (-s2).toNat=D at*
   generalize (r-1).toNat=E at*
   omega)
 rw[show(r-1).toNat+1=r.toNat by omega] at c
 exact Int.ofNat_lt.mpr c
theorem G0j{r:Int}(h:r<=24):C8 r<=10^24:=by
 unfold C8
 have:10^r.toNat<=10^24:=Nat.pow_le_pow_right (by decide) (by omega)
 exact Int.ofNat_le.mpr this
theorem C8d{c:Cv}{s wh pt q i:Int}(ok:c.Ok)(h0:0<=wh)(h1:wh<C8 c.r):(Y6 c s wh pt q i).1.natAbs<2^300:=by
 have t:=G0j ok.r2
 have big:((10^24:Nat):Int)=10^24:=by decide+kernel
 have lt:∀z:Int,0<=z ->z<=10^24 ->z.natAbs<2^300:=fun z a b=>Nat.lt_of_le_of_lt (show z.natAbs<=10^24 by omega) (by decide+kernel)
 unfold Y6
 split
 . have:=B9d i (i-q).toNat wh q h0
   exact lt _ this.1 (by unfold A0v;omega)
 have hu:0<=upI c.y s wh pt/\upI c.y s wh pt<=C8 c.r:=by
   have e:upI c.y s wh pt=wh+1\/upI c.y s wh pt=wh:=by
     unfold upI
     generalize (if pt=0 then false else c.y.goes s (wh % 10) pt)=g
     cases g with
     |true=>exact .inl rfl
     |false=>exact .inr rfl
   omega
 generalize upI c.y s wh pt=u at hu
 unfold B1g
 split
 . exact lt (u/10) (by omega) (by omega)
 exact lt u (by omega) (by omega)
noncomputable def J1g (CC CR:Addr):Sp:=fun vs H Q _=>∃c v a b xs ys x,∃t bo n L:Int,vs=[.ref c,.ref x]/\A6u CC H c v a b xs ys/\C6a CR H x t bo n/\Sz t/\Sz bo/\A0m t bo (n-L)/\∀H',B7 H H' ->Q (.int (Z4 (L-v.r+1) (v.l-v.r+1))) H'
theorem Y3j:B9 Q20 Q20 (A1 A5y):=scK
theorem V4b{f CC CB CT CW CR CE g1 g2:Addr}{cw:Wy ->Addr}(D:Def K mg "finest_power" Q20 A5y f fd)(C:D3t P w K mg base CC CB CT CW cw)(RM:RatM P w K mg base CR g1 g2 gd1 gd2)(R:J9t K mg CR CE)(O:Own mg):sI P w K mg base 5 f fd Q20 (J1g CC CR):=by
 refine FnOk.up (D.F.ok Y3j (fun vs H Q E h=>?_) (fun cdv A outer s H vs Q E hr h=>?_))
 . obtain⟨c,v,a,b,xs,ys,x,t,bo,n,L,rfl,_⟩:=h
   rfl
 obtain⟨c,v,a,b,xs,ys,x,t,bo,n,L,rfl,hc,ra,ht,hb,hL,k⟩:=h
 have hx:G5 (A0w CX0 P w K mg base Q20 "finest_power" (A1 A5y) f cdv A outer s H E).nox EKF:=A0e
 obtain⟨fL,fdL,mL,gL,bL⟩:=C.low
 refine⟨_,(B0 (C7 (V1 (Z1 rfl) (by rfl) O.max_ boot_max (A0 (B1 V4 (B1 V2 (A6t (pv 1) R.cl RM.m1 RM.g1 hr RM.b1 .nil hx) (J1 (pv 0) rfl)) A3) (A0 (A6t (pv 0) C.c.cl mL gL hr bL .nil hx) A6))))),?_⟩
 obtain⟨dr,er⟩:=id ra
 refine⟨_,rfl,x,dr,_,rfl,er,B8v _ _ _,x,t,bo,n,rfl,ra,ht,hb,fun f H1 s1 ld=>?_⟩
 have ef:f=L:=by
   have:=D9y (show 0<bo by have:=hb.1;omega) ld hL
   omega
 subst ef
 have hc1:=hc.same s1
 obtain⟨⟨dx,e⟩,_,_⟩:=id hc1
 exact⟨_,rfl,c,CC,dx,_,_,rfl,e,C.c.cl,C.c.n_room,B2a _ _ _ _ _ _,_,_,rfl,rfl,_,_,rfl,rfl,_,rfl,c,dx,_,rfl,e,B6d _ _ _ _ _ _,c,v.r,v.y,v.l,v.m,a,b,_,_,rfl,hc1,_,_,rfl,k H1 s1⟩
noncomputable def Cv.fin (v:Cv) (L:Int):Int:=Z4 (L-v.r+1) (v.l-v.r+1)
noncomputable def Z6 (v:Cv) (s t bo n L i:Int):Nm×List Str:=A5s v s (whI t bo (n-v.fin L)) (ptI t bo (n-v.fin L)) L (v.fin L) i
noncomputable def A7e (CN CC CT:Addr) (H:Hp) (c:Addr) (v:Cv) (b:Addr) (xs ys:List Str) (res:Nm×List Str) (Q:VK) (E:XK):Prop:=
 (hit ys res.2=none ->∀m a' H',Exc c H H' ->A6u CC H' c v a' b (Y5 (xs++res.2)) ys ->U0 CN H' m res.1 ->Q (.ref m) H')/\
 (∀z,hit ys res.2=some z ->∀a' d H',Exc c H H' ->A6u CC H' c v a' b (Y5 (xs++res.2)) ys ->H' d=some (.xd [("signal",.str z)]) ->E (.ref CT) (some d) H')
noncomputable def D7n (CN CC CT CR:Addr):Sp:=fun vs H Q E=>∃c v a b xs ys x,∃t bo n L s i:Int,vs=[.ref c,.int s,.ref x,.int i]/\A6u CC H c v a b xs ys/\v.Ok/\xs.length<=900/\C6a CR H x t bo n/\Sz t/\Sz bo/\A0m t bo (n-L)/\ -1500<=n-v.fin L/\n-v.fin L<=1500/\0<=s/\s<=1/\
 A7e CN CC CT H c v b xs ys (Z6 v s t bo n L i) Q E
theorem scSettled:B9 ["context","sign","exact","ideal","finest","pair","number","names"] Q37 (A1 A4u):=scK
theorem V3c:∀z∈(Q46:List Str),z∈A0u:=by decide+kernel
theorem Y2z{pt:Int}{cut:Bool}{l L:Int}:∀z∈A1b pt cut++A1c l L pt,z∈A0u:=by
 have r:∀z∈A1b pt cut,z∈A0u:=by
   unfold A1b
   split
   . split
     . decide+kernel
     . decide+kernel
   . decide+kernel
 have d:∀z∈A1c l L pt,z∈A0u:=by
   unfold A1c
   split
   . decide+kernel
   . split
     . decide+kernel
     . decide+kernel
 intro z hz
 rcases List.mem_append.mp hz with h|h
 . exact r z h
 exact d z h
theorem Y1x{pt:Int}{cut:Bool}{l L:Int}:(A1b pt cut++A1c l L pt).length<=4:=by
 have r:(A1b pt cut).length<=2:=by
   unfold A1b
   split
   . split<;>decide
   . decide
 have d:(A1c l L pt).length<=2:=by
   unfold A1c
   split
   . decide
   . split<;>decide
 rw[List.length_append]
 omega
theorem J9b{f f1 f2 f3 f4 f5 f6 f7 f8 CN CC CB CT CW CR CE g1 g2:Addr}{cw:Wy ->Addr}(D:Def K mg "settled" Q37 A4u f fd)
   (dA:Def K mg "finest_power" Q20 A5y f1 fd1) (dB:sI P w K mg base 5 f1 fd1 Q20 (J1g CC CR)) (dC:Def K mg "nearest_to" Q16 A2w f2 fd2) (dD:sI P w K mg base 3 f2 fd2 Q16 (D8c CN))
   (dE:Def K mg "neighbour" Q17 A0t f3 fd3) (dF:sI P w K mg base 3 f3 fd3 Q17 (C5w CC)) (dG:Def K mg "within_room" Q18 A5w f4 fd4) (dH:sI P w K mg base 3 f4 fd4 Q18 (J1p CN CC))
   (dJ:Def K mg "is_beyond" Q9 A5x f5 fd5) (dL:sI P w K mg base 2 f5 fd5 Q9 (J2m CN CC)) (dM:Def K mg "burst" Q7 B1j f6 fd6) (dN:sI P w K mg base 4 f6 fd6 Q7 (V1g CN CC))
   (dP:Def K mg "signals_of_rest" Q24 A5d f7 fd7) (dQ:sI P w K mg base 1 f7 fd7 Q24 D7m) (dS:Def K mg "signals_of_lead" Q25 A4x f8 fd8) (dU:sI P w K mg base 1 f8 fd8 Q25 (D8j CC))
   (C:D3t P w K mg base CC CB CT CW cw) (RM:RatM P w K mg base CR g1 g2 gd1 gd2) (R:J9t K mg CR CE) (N:Num K mg CN):sI P w K mg base 6 f fd Q37 (D7n CN CC CT CR):=by
 refine D.F.okE scSettled (fun vs H Q E h=>?_) (fun X cdv A outer s H vs Q E hX hr hx h=>?_)
 . obtain⟨c,v,a,b,xs,ys,x,t,bo,n,L,sg,i,rfl,_⟩:=h
   rfl
 subst hX
 obtain⟨c,v,a,b,xs,ys,x,t,bo,n,L,sg,i,rfl,hc,ok,lx,ra,ht,hb,hL,q0,q1,s0,s1,k⟩:=h
 obtain⟨fR,fdR,mR,gR,bR⟩:=C.raised
 refine⟨_,(A8 (C6 (D7 (i:=4) scSettled.nd rfl (Or.inl rfl) (D5 dA dB hr hx (A0 (pv 0) (A0 (pv 2) A6))))) (A8 (C6 (D7 (i:=5) scSettled.nd rfl (Or.inl rfl) (C5s (pv 2) R.cl RM.m2 RM.g2 hr RM.b2 .nil hx (A0 (pv 4) A6)))) (A8 (C6 (J0 (D4 G7 (V5 Y2 (pv 5) A3 (fun _ _=>rfl)) A3 (D0 _)) (B0 (D7 (i:=6) scSettled.nd rfl (Or.inl rfl) (D5 dC dD hr hx (A0 (pv 3) (A0 (pv 1) (A0 (V5 Y2 (pv 5) A3 (fun _ _=>rfl)) (A0 (pv 4) A6))))))) (B0 (D7 (i:=6) scSettled.nd rfl (Or.inl rfl) (D5 dG dH hr hx (A0 (pv 0) (A0 (pv 1) (A0 (D5 dE dF hr hx (A0 (pv 0) (A0 (pv 1) (A0 (pv 5) A6)))) (A0 (pv 4) A6))))))))) (A8 (C6 (J0 (A0b (D5 dJ dL hr hx (A0 (pv 0) (A0 (pv 6) A6)))) (A8 (J9 (C5s (pv 0) C.c.cl mR gR hr bR .nil hx (A0 (U1 (A0 B3 (A0 B3 (A0 B3 A6)))) A6))) (B0 (C7 (D5 dM dN hr hx (A0 (pv 0) (A0 (pv 1) A6)))))) D6)) (A8 (C6 (D7 (i:=7) scSettled.nd rfl (Or.inl rfl) (D5 dP dQ hr hx (A0 (V5 Y2 (pv 5) A3 (fun _ _=>rfl)) (A0 (G6 B9g (J1 (pv 6) rfl) (pv 3) (D0 _)) A6))))) (A8 (C6 (J9 (C5s (pv 0) C.c.cl mR gR hr bR .nil hx (A0 (B1 B6p (pv 7) (D5 dS dU hr hx (A0 (pv 0) (A0 (A6t (pv 2) R.cl RM.m1 RM.g1 hr RM.b1 .nil hx) (A0 (V5 Y2 (pv 5) A3 (fun _ _=>rfl)) A6))))) A6)))) (B0 (C7 (pv 6))))))))),?_⟩
 have b0:0<bo:=by have:=hb.1;omega
 have wr:=G1k (s2:=n-v.fin L) ht hb hL ok.r1 (by
   unfold Cv.fin Z4
   split<;>omega)
 unfold Z6 A5s at k
 refine⟨fun σ' H'=>B7 H H'/\σ'=[sr c,si sg,sr x,si i,si (v.fin L),none,none,none],?_,?_⟩
 . exact⟨_,rfl,_,rfl,c,v,a,b,xs,ys,x,t,bo,n,L,rfl,hc,ra,ht,hb,hL,fun H' s'=>⟨s',rfl⟩⟩
 rintro σ' H1 ⟨t1,rfl⟩
 have hc1:=hc.same t1
 have ra1:=ra.same t1
 generalize v.fin L=q at*
 generalize hwh:whI t bo (n-q)=wh at*
 generalize hpt:ptI t bo (n-q)=pt at*
 refine⟨fun σ' H'=>∃p,B7 H1 H'/\H' p=some (.tup [.int wh,.int pt])/\σ'=[sr c,si sg,sr x,si i,si q,sr p,none,none],?_,?_⟩
 . obtain⟨dr,er⟩:=id ra1
   refine⟨_,rfl,x,dr,_,rfl,er,D8e _ _ _,_,rfl,x,t,bo,n,q,rfl,ra1,ht,hb,q0,q1,fun p H' s' np ep=>⟨p,s',?_,rfl⟩⟩
   rw[hwh,hpt] at ep
   exact ep
 rintro σ' H2 ⟨p,t2,hp,rfl⟩
 have hc2:=hc1.same t2
 have sm:=C8d (s:=sg) (pt:=pt) (q:=q) (i:=i) ok wr.1 wr.2
 refine⟨fun σ' H'=>∃m,B7 H2 H'/\H2 m=none/\U0 CN H' m ⟨.plain,sg,(Y6 v sg wh pt q i).1,(Y6 v sg wh pt q i).2⟩/\σ'=[sr c,si sg,sr x,si i,si q,sr p,sr m,none],?_,?_⟩
 . refine⟨_,rfl,p,_,_,_,rfl,rfl,SqT.of hp,U7 (j:=1) rfl,rfl,_,rfl,V8 (fun h=>?_) (fun h=>?_)⟩
   . have h:pt=0:=by injection h
     refine⟨_,rfl,_,rfl,_,rfl,p,_,_,_,rfl,rfl,SqT.of hp,U7 (j:=0) rfl,_,rfl,i,sg,wh,q,rfl,fun m H' nm s' num=>⟨m,s',nm,?_,rfl⟩⟩
     unfold Y6
     rw[if_pos h]
     exact num
   . have h:¬pt=0:=fun z=>h (congrArg V.int z)
     refine⟨_,rfl,_,rfl,_,rfl,_,rfl,_,rfl,c,v,a,b,xs,ys,p,sg,wh,pt,rfl,hc2,hp,fun H3 s3=>?_⟩
     refine⟨_,rfl,c,v,a,b,xs,ys,sg,_,q,rfl,hc2.same s3,ok,fun m H' nm s' num=>⟨m,s3.trans s',s3.free nm,?_,rfl⟩⟩
     unfold Y6
     rw[if_neg h]
     exact num
 rintro σ' H3 ⟨m,t3,nm,num,rfl⟩
 have hc3:=hc2.same t3
 have tA:=(t1.trans t2).trans t3
 have nmc:m≠c:=fun z=>by
   obtain⟨⟨dx,e⟩,_,_⟩:=hc2
   rw[z,e] at nm
   cases nm
 obtain⟨⟨dx,e3⟩,_,_⟩:=id hc3
 generalize hf:(Y6 v sg wh pt q i).1=fg at*
 generalize hg:(Y6 v sg wh pt q i).2=pw at*
 refine⟨fun σ' H'=>H'=H3/\A3r v.m fg pw=false/\σ'=[sr c,si sg,sr x,si i,si q,sr p,sr m,none],?_,?_⟩
 . refine⟨_,rfl,_,rfl,c,v,a,b,xs,ys,m,_,rfl,hc3,num,sm,_,rfl,?_⟩
   cases e:A3r v.m fg pw with
   |false=>exact U8 ⟨rfl,rfl,rfl⟩
   | true=>
     rw[e,if_pos rfl] at k
     refine Z8 ⟨_,rfl,c,dx,_,rfl,e3,A6p _ _ _ _ _ _,D3 (by decide),fun l nl=>?_⟩
     have u:=B7.upd (o:= .lst [.str "burst",.str "off",.str "cut"]) nl
     refine⟨c,v.r,v.y,v.l,v.m,a,b,xs,ys,.ref l,rfl,hc3.same u,by omega,.inl ⟨l,Q46,rfl,A7,by decide,V3c,fun hn a' H4 x4 na ct=>?_,fun z hz a' d H4 x4 na ct nd ed=>?_⟩⟩
     . refine⟨_,rfl,_,rfl,c,v,a',b,_,ys,sg,rfl,ct,ok,s0,s1,fun m' H5 s5 num5=>k.1 hn m' a' H5 (((Exc.of (tA.trans u)).trans x4).trans (.of s5)) (A6u.same ct s5) num5⟩
     . exact k.2 z hz a' d H4 ((Exc.of (tA.trans u)).trans x4) ct ed
 rintro σ' H4 ⟨rfl,e,rfl⟩
 rw[e,if_neg Bool.false_ne_true] at k
 refine⟨fun σ' H'=>∃l,B7 H4 H'/\H' l=some (.lst ((A1b pt (decide (pw>i))).map V.str))/\σ'=[sr c,si sg,sr x,si i,si q,sr p,sr m,sr l],?_,?_⟩
 . obtain⟨dn,en⟩:=id num
   exact⟨_,rfl,p,_,_,_,rfl,rfl,SqT.of (t3 _ _ hp),U7 (j:=1) rfl,_,rfl,m,CN,dn,_,_,rfl,en,N.cl,N.n4,J9q _ _ _ _,_,rfl,_,_,rfl,rfl,pt,_,rfl,fun l nl=>⟨l,B7.upd nl,A7,rfl⟩⟩
 rintro σ' H5 ⟨l,t5,hl,rfl⟩
 refine⟨fun σ' H'=>hit ys (A1b pt (decide (pw>i))++A1c v.l L pt)=none/\∃a',Exc c H H'/\A6u CC H' c v a' b (Y5 (xs++(A1b pt (decide (pw>i))++A1c v.l L pt))) ys/\U0 CN H' m ⟨.plain,sg,fg,pw⟩/\σ'=[sr c,si sg,sr x,si i,si q,sr p,sr m,sr l],?_,?_⟩
 . have ra5:=((ra1.same t2).same t3).same t5
   obtain⟨dr,er⟩:=id ra5
   have hc5:=hc3.same t5
   refine⟨_,rfl,c,dx,_,rfl,t5 _ _ e3,A6p _ _ _ _ _ _,_,rfl,_,rfl,_,rfl,x,dr,_,rfl,er,B8v _ _ _,x,t,bo,n,rfl,ra5,ht,hb,fun f H6 t6 ld=>?_⟩
   have ef:f=L:=by
     have:=D9y b0 ld hL
     omega
   subst ef
   refine⟨_,rfl,p,_,_,_,rfl,rfl,SqT.of ((t5.trans t6) _ _ (t3 _ _ hp)),U7 (j:=1) rfl,c,v,a,b,xs,ys,f,pt,rfl,hc5.same t6,fun l2 nl2=>?_⟩
   have u2:=B7.upd (o:= .lst ((A1c v.l f pt).map V.str)) nl2
   have rl:=Y1x (pt:=pt) (cut:=decide (pw>i)) (l:=v.l) (L:=f)
   rw[List.length_append] at rl
   refine⟨l,l2,_,_,rfl,rfl,(t6.trans u2) _ _ hl,A7,D3 (by rw[List.length_map,List.length_map];omega),fun l3 nl3=>?_⟩
   have u3:=B7.upd (o:= .lst ((A1b pt (decide (pw>i))).map V.str++(A1c v.l f pt).map V.str)) nl3
   have tB:=(t6.trans u2).trans u3
   have num7:=(num.same t5).same tB
   obtain⟨dn7,en7⟩:=id num7
   have keep:∀{H':Hp},Exc c _ H' ->U0 CN H' m ⟨.plain,sg,fg,pw⟩:=fun x7=>⟨dn7,x7 _ _ en7 nmc⟩
   refine⟨c,v.r,v.y,v.l,v.m,a,b,xs,ys,.ref l3,rfl,(hc5.same tB),by omega,.inl ⟨l3,A1b pt (decide (pw>i))++A1c v.l f pt,rfl,by rw[A7,List.map_append],by rw[List.length_append];omega,Y2z,fun hn a' H8 x8 na ct=>?_,fun z hz a' d H8 x8 na ct nd ed=>?_⟩⟩
   . exact⟨hn,a',(Exc.of (tA.trans (t5.trans tB))).trans x8,ct,keep x8,rfl⟩
   . exact k.2 z hz a' d H8 ((Exc.of (tA.trans (t5.trans tB))).trans x8) ct ed
 rintro σ' H6 ⟨hn,a',x6,ct,num6,rfl⟩
 exact⟨_,rfl,k.1 hn m a' H6 x6 ct num6⟩
noncomputable def A8c (v:Cv) (x:Nm) (L:Int):Nm×List Str:=match x.k with
 | .plain=>if x.f=0 then(⟨.plain,x.s,0,C6m (Z4 x.p (v.l-v.r+1)) v.m⟩,[]) else Z6 v x.s x.f 1 x.p L x.p
 |_=>(x,[])
noncomputable abbrev A8j:Stmt:=(top 24)
noncomputable def J0t (K:Frag) (CN CB:Addr):Sp:=fun vs H Q E=>∃l ns,vs=[.ref l]/\(∀p∈(ns:List (Addr×Nm)),U0 CN H p.1 p.2)/\
 ((H l=some (.lst (ns.map fun p=>V.ref p.1))/\Q .non H)\/(∃v r,H l=some (.lst ((ns.map fun p=>V.ref p.1)++v::r))/\A5h K CN H v/\E (.ref CB) none H))
theorem scNeedNs:B9 ["things","thing"] ["things"] (A1 A8j):=scK
theorem V2f{f f1 CN CB:Addr}(D:Def K mg "need_numbers" ["things"] A8j f fd)(dA:Def K mg "need_number" ["thing"] A0z f1 fd1)(dB:sI P w K mg base 1 f1 fd1 ["thing"] (A3s K CN CB)):sI P w K mg base 2 f fd ["things"] (J0t K CN CB):=by
 refine D.F.okE scNeedNs (fun vs H Q E h=>?_) (fun X cdv A outer s H vs Q E hX hr hx h=>?_)
 . obtain⟨l,ns,rfl,_⟩:=h
   rfl
 subst hX
 obtain⟨l,ns,rfl,hn,h⟩:=h
 refine⟨_,(B0 (C8m PassesOwn.leaving rfl (D9x (pv 0)) (Z2 (i:=1) scNeedNs.nd rfl (Or.inl rfl)) (B0 (J9 (D5 dA dB hr hx (A0 (pv 1) A6)))))),?_⟩
 rcases h with⟨hl,k⟩|⟨v,r,hl,nv,k⟩
 . refine⟨_,rfl,l,rfl,⟨_,SqL.of hl⟩,B2c (xs:=ns.map fun p=>V.ref p.1) (fun i σ H'=>H'=H/\∃v,σ=[sr l,v]) ⟨rfl,none,rfl⟩ ?_ ?_ ?_⟩
   . rintro i σ H' _ ⟨rfl,_⟩
     exact SqL.of hl
   . rintro i x σ H' hi ⟨rfl,v,rfl⟩
     obtain⟨p,hp,rfl⟩:=List.mem_map.mp (List.mem_of_getElem? hi)
     exact⟨_,rfl,_,rfl,.inl ⟨p.1,_,_,_,_,rfl,hn p hp,rfl,_,rfl⟩⟩
   . rintro σ H' ⟨rfl,v,rfl⟩
     exact k
 refine⟨_,rfl,l,rfl,⟨_,SqL.of hl⟩,B2c (xs:=(ns.map fun p=>V.ref p.1)++v::r) (fun i σ H'=>H'=H/\i<=ns.length/\∃v,σ=[sr l,v]) ⟨rfl,Nat.zero_le _,none,rfl⟩ ?_ ?_ ?_⟩
 . rintro i σ H' _ ⟨rfl,_⟩
   exact SqL.of hl
 . rintro i x σ H' hi ⟨rfl,hle,u,rfl⟩
   by_cases hlt:i<ns.length
   . rw[List.getElem?_append_left (by simpa using hlt)] at hi
     obtain⟨p,hp,rfl⟩:=List.mem_map.mp (List.mem_of_getElem? hi)
     exact⟨_,rfl,_,rfl,.inl ⟨p.1,_,_,_,_,rfl,hn p hp,rfl,by omega,_,rfl⟩⟩
   . have e:i=ns.length:=by omega
     subst e
     rw[List.getElem?_append_right (by simp)] at hi
     simp at hi
     subst hi
     exact⟨_,rfl,_,rfl,.inr ⟨nv,k⟩⟩
 rintro σ H' ⟨rfl,hle,_⟩
 exfalso
 rw[List.length_append,List.length_map,List.length_cons] at hle
 omega
theorem Y3c{v:Cv}{L n:Int}(ok:v.Ok)(h1: -1000<=n-L)(h2:n-L<=1000)(n1: -400<=n)(n2:n<=400): -1500<=n-v.fin L/\n-v.fin L<=1500:=by
 have:=ok.r1;have:=ok.r2;have:=ok.l1;have:=ok.l2
 unfold Cv.fin Z4
 split<;>omega
theorem C8y{t b s:Int}(ht:Sz t)(hb:Sz b)(h:A0m t b s): -1000<=s/\s<=1000:=by
 have e:=Y8 1000
 refine⟨?_,?_⟩
 . apply Classical.byContradiction
   intro hs
   have z:C8 s=1:=by unfold C8;rw[show s.toNat=0 by omega];rfl
   have g:C8 1000<=C8 (-s):=B5c (by omega)
   have a:=h.1
   rw[z,Int.mul_one] at a
   have:1*C8 (-s)<=b*C8 (-s):=Int.mul_le_mul_of_nonneg_right hb.1 (Int.le_of_lt (Y8 _))
   have:=ht.2
   omega
 apply Classical.byContradiction
 intro hs
 have z:C8 (-s)=1:=by unfold C8;rw[show(-s).toNat=0 by omega];rfl
 have g:C8 1001<=C8 s:=B5c (by omega)
 have e1:C8 1001=10*C8 1000:=by
   unfold C8
   rw[show(1001:Int).toNat=(1000:Int).toNat+1 by decide,Nat.pow_succ,Nat.mul_comm]
   rfl
 have a:=h.2
 rw[z,Int.mul_one] at a
 have:1*C8 s<=t*C8 s:=Int.mul_le_mul_of_nonneg_right ht.1 (Int.le_of_lt (Y8 _))
 have:=hb.2
 omega
theorem G0r:Sz 1:=⟨by decide,by
 have:C8 1<=C8 1000:=B5c (by decide)
 have e:C8 1=10:=rfl
 omega⟩
theorem Y0y{f:Int}(h0:0<=f)(h:f≠0)(h1:f<=10^60-1):Sz f:=by
 refine⟨by omega,?_⟩
 have:C8 60<=C8 1000:=B5c (by decide)
 have e:C8 60=10^60:=by decide+kernel
 omega
noncomputable abbrev C8s:Stmt:=(top 75)
noncomputable def Y2u (K:Frag):Sp:=fun vs H Q _=>∃a ns k,vs=[.ref a,.int k]/\SqL K H a ((ns:List Int).map V.int)/\0<=k/\∀i,Q (.int i) H
theorem A0fg:B9 Q26 Q26 (A1 C8s):=scK
theorem Z8b(D:Def K mg "_law_cell_at" Q26 C8s f fd)(O:Own mg):sI P w K mg base 1 f fd Q26 (Y2u K):=by
 refine FnOk.up (D.F.ok A0fg (fun vs H Q E h=>?_) (fun cdv A outer s H vs Q E hr h=>?_))
 . obtain⟨a,ns,k,rfl,_⟩:=h
   rfl
 obtain⟨a,ns,i,rfl,hs,h0,k⟩:=h
 refine⟨_,(A8 (J0 (D4 D7u (pv 1) (V1 B9j (by rfl) O.len_ PySem.boot_len (A0 (pv 0) A6)) (D0 _)) (B0 (C7 (V5 A0a (pv 0) (pv 1) (fun _ _=>rfl)))) D6) (B0 (C7 A3))),?_⟩
 refine⟨_,rfl,_,rfl,a,_,rfl,.inl hs,_,_,rfl,rfl,_,rfl,?_⟩
 refine V8 (fun hlt=>?_) (fun _=>k 0)
 rw[List.length_map] at hlt
 obtain⟨j,rfl⟩:=Int.eq_ofNat_of_zero_le h0
 have hj:j<ns.length:=by omega
 exact⟨_,rfl,_,rfl,a,_,_,_,rfl,rfl,hs,U7 (v:=V.int ns[j]) (by simp[hj]),k _⟩
noncomputable abbrev A8q:Stmt:=(top 76)
noncomputable def C6w:Sp:=fun vs H Q _=>∃c k,vs=[.int c,.int k]/\0<=k/\k<=100/\∀m,0<=m ->m<2147483629 ->Q (.int m) H
theorem Z7y:B9 Q11 Q11 (A1 A8q):=scK
theorem Y0e(D:Def K mg "_law_mixed" Q11 A8q f fd):sI P w K mg base 1 f fd Q11 C6w:=by
 refine FnOk.up (D.F.ok Z7y (fun vs H Q E h=>?_) (fun cdv A outer s H vs Q E hr h=>?_))
 . obtain⟨c,k,rfl,_⟩:=h
   rfl
 obtain⟨c,i,rfl,h0,h1,k⟩:=h
 refine⟨_,(B0 (C7 (B1 G2 (B1 V9 (B1 G2 (B1 V4 (B1 V4 (B1 V9 (pv 0) (B1 V4 A3 (B1 V9 (B1 V9 A3 (pv 1)) (pv 1)))) (B1 V9 A3 (pv 1))) A3) A3) A3) A3))),?_⟩
 have q0:(0:Int)<=2*i*i:=Int.mul_nonneg (by omega) h0
 have q1:2*i*i<=200*100:=Int.mul_le_mul (by omega) h1 h0 (by decide)
 have m1:IntMulOk 2 i:=C6t.ok (.inl ⟨by decide,by decide⟩)
 have m2:IntMulOk (2*i) i:=C6t.ok (.inr ⟨by omega,by omega⟩)
 have m3:IntMulOk c (48271+2*i*i):=C6t.ok (.inr ⟨by omega,by omega⟩)
 have m4:IntMulOk 69621 i:=C6t.ok (.inl ⟨by decide,by decide⟩)
 have m5:∀z:Int,IntMulOk z 69621:=fun z=>C6t.ok (.inr ⟨by decide,by decide⟩)
 refine⟨_,rfl,_,rfl,_,_,rfl,rfl,m1,_,rfl,_,_,rfl,rfl,m2,_,_,rfl,rfl,_,_,rfl,rfl,m3,_,rfl,_,_,rfl,rfl,m4,_,_,rfl,rfl,_,_,rfl,rfl,_,_,rfl,rfl,(by show(0:Int)<2147483647;decide),_,_,rfl,rfl,m5 _,_,_,rfl,rfl,(by show(0:Int)<2147483629;decide),?_⟩
 exact k _ (Int.emod_nonneg _ (by decide)) (Int.emod_lt_of_pos _ (by decide))
noncomputable abbrev B1m:Stmt:=(top 77)
noncomputable def C0e:Sp:=fun vs H Q _=>∃n:Nat,vs=[.int (n:Int)]/\n<=600/\Q (.int ((10^n:Nat):Int)) H
theorem A0gp:B9 Q8 Q8 (A1 B1m):=scK
theorem Z9j(D:Def K mg "_law_ten" Q8 B1m f fd)(O:Own mg):sI P w K mg base 1 f fd Q8 C0e:=by
 refine FnOk.up (D.F.ok A0gp (fun vs H Q E h=>?_) (fun cdv A outer s H vs Q E hr h=>?_))
 . obtain⟨n,rfl,_⟩:=h
   rfl
 obtain⟨n,rfl,hn,k⟩:=h
 refine⟨_,(B0 (C7 (Y7 D3q (by rfl) O.int_ boot_int (A0 (B1 J8h B3 (B1 J8a B3 (pv 0))) A6)))),?_⟩
 have l1:("1":Str).length=1:=by decide+kernel
 have l0:("0":Str).length=1:=by decide+kernel
 refine⟨_,rfl,_,_,rfl,rfl,by omega,by omega,D3 (by rw[l0];omega),_,_,rfl,rfl,D3 (by rw[C8g,l0,l1];omega),?_⟩
 exact⟨V4g n,_,rfl,Y0q n hn,by rw[J2j];omega,k⟩
noncomputable abbrev A4n:Stmt:=(top 79)
noncomputable abbrev B6q:Stmt:=(top 80)
structure Nm.Wf(x:Nm):Prop where
 ok:x.Ok
 e:x.k= .end_ ->x.f=0/\x.p=0
 n:x.k= .none ->x.s=0/\x.f=0/\x.p=0
theorem J1x{s f p:Int}(h1:0<=s/\s<=1)(h2:0<=f/\f<=10^60-1)(h3: -200<=p/\p<=200):(Nm.mk .plain s f p).Wf:=⟨⟨h1.1,h1.2,h2.1,h2.2,h3.1,h3.2⟩,fun q=>(by cases q),fun q=>(by cases q)⟩
theorem A0ga{s:Int}(h1:0<=s/\s<=1):(Nm.mk .end_ s 0 0).Wf:=⟨⟨h1.1,h1.2,by show(0:Int)<=0;decide,by show(0:Int)<=10^60-1;decide,by show(-200:Int)<=0;decide,by show(0:Int)<=200;decide⟩,fun _=>⟨rfl,rfl⟩,fun q=>(by cases q)⟩
theorem Z9m:(Nm.mk .none 0 0 0).Wf:=⟨⟨by show(0:Int)<=0;decide,by show(0:Int)<=1;decide,by show(0:Int)<=0;decide,by show(0:Int)<=10^60-1;decide,by show(-200:Int)<=0;decide,by show(0:Int)<=200;decide⟩,fun q=>(by cases q),fun _=>⟨rfl,rfl,rfl⟩⟩
theorem V1h{L:Int}{n:Nat}(hn:n<=60):0<=L % ((10^n:Nat):Int)/\L % ((10^n:Nat):Int)<=10^60-1:=by
 have p:0<((10^n:Nat):Int):=Int.natCast_pos.mpr (Nat.pow_pos (by decide))
 have a:=Int.emod_nonneg L (Int.ne_of_gt p)
 have b:=Int.emod_lt_of_pos L p
 have c:(10:Nat)^n<=10^60:=Nat.pow_le_pow_right (by decide) hn
 have e:((10^60:Nat):Int)=10^60:=by decide+kernel
 omega
noncomputable abbrev A1y:Stmt:=(top 78)
theorem dv{n:Int}(h:0<n)(h2:n.natAbs.log2<9000):(0:Int)<n/\n.natAbs.log2<9000:=⟨h,h2⟩
noncomputable def C8r:Sp:=fun vs H Q _=>∃c wy:Int,vs=[.int c,.int wy]/\0<=wy/\wy<8/\∀f H',0<=f ->f<=10^60-1 ->B7 H H' ->Q (.int f) H'
theorem scLFigures:B9 ["_law_cell","_law_way","_law_more","_law_found","_law_k"] Q38 (A1 A1y):=scK
theorem V9z{a:Int}{n:Nat}(h0:0<=a)(h1:a<=99)(hn:n<=13):0<=a*((10^n:Nat):Int)/\a*((10^n:Nat):Int)<=10^60-1:=by
 have c:(10:Nat)^n<=10^13:=Nat.pow_le_pow_right (by decide) hn
 have x:a*((10^n:Nat):Int)<=99*((10^13:Nat):Int):=Int.mul_le_mul h1 (Int.ofNat_le.mpr c) (Int.natCast_nonneg _) (by decide)
 exact⟨Int.mul_nonneg h0 (Int.natCast_nonneg _),Int.le_trans x (by decide+kernel)⟩
theorem J9d{n:Nat}{a:Int}(hn:n<=24)(h1:0<=a)(h2:a<=2):0<=((10^n:Nat):Int)-1+a/\((10^n:Nat):Int)-1+a<=10^60-1:=by
 have c:(10:Nat)^n<=10^24:=Nat.pow_le_pow_right (by decide) hn
 have d:0<(10:Nat)^n:=Nat.pow_pos (by decide)
 have e:((10^24:Nat):Int)+2<=10^60-1:=by decide+kernel
 omega
theorem J1n(D:Def K mg "_law_figures" Q38 A1y f fd)(dC:Def K mg "_law_mixed" Q11 A8q f1 fd1)(dD:sI P w K mg base 1 f1 fd1 Q11 C6w)
   (dA:Def K mg "_law_ten" Q8 B1m f2 fd2) (dB:sI P w K mg base 1 f2 fd2 Q8 C0e) (O:Own mg):sI P w K mg base 2 f fd Q38 C8r:=by
 refine D.F.okE scLFigures (fun vs H Q E h=>?_) (fun X cdv A outer s H vs Q E hX hr hx h=>?_)
 . obtain⟨c,wy,rfl,_⟩:=h
   rfl
 subst hX
 obtain⟨c,wy,rfl,w0,w8,k⟩:=h
 refine⟨_,(A8 (C6 (D7 (i:=2) scLFigures.nd rfl (Or.inl rfl) (D5 dC dD hr hx (A0 (pv 0) (A0 A3 A6))))) (A8 (C6 (J0 (PW.pt (D8p (D4 G7 (pv 1) A3 (D0 _)) (C0s (D4 G7 (pv 1) A3 (D0 _))))) (A8 (C6 (D7 (i:=3) scLFigures.nd rfl (Or.inl rfl) A3)) (A8 (C6 (C8m PassesOwn.leaving rfl (B5e rfl O.range_ (A0 A3 A6)) (Z2 (i:=4) scLFigures.nd rfl (Or.inl rfl)) (B0 (C6 (D7 (i:=3) scLFigures.nd rfl (Or.inl rfl) (B1 V4 (B1 V9 (pv 3) A3) (B1 G2 (D5 dC dD hr hx (A0 (pv 0) (A0 (B1 V4 A3 (pv 4)) A6))) A3))))))) (B0 (C7 (B1 G2 (pv 3) (D5 dA dB hr hx (A0 (B1 V4 A3 (B1 G2 (pv 2) (V5 A0a (U1 (A0 A3 (A0 A3 A6))) (B1 V2 (pv 1) A3) (fun _ _=>rfl)))) A6))))))) D6)) (A8 (C6 (J0 (PW.pt (D8p (D4 G7 (pv 1) A3 (D0 _)) (C0s (D4 G7 (pv 1) A3 (D0 _))))) (B0 (C7 (B1 V9 (B1 V4 (B1 G2 (pv 2) A3) A3) (D5 dA dB hr hx (A0 (B1 G2 (B1 G3 (pv 2) A3) A3) A6))))) D6)) (A8 (C6 (J0 (D4 G7 (pv 1) A3 (D0 _)) (B0 (C7 (B1 V4 (B1 V2 (D5 dA dB hr hx (A0 (B1 V4 A3 (B1 G2 (pv 2) A3)) A6)) A3) (B1 G2 (B1 G3 (pv 2) A3) A3)))) D6)) (B0 (C7 (B1 G2 (pv 2) (V5 A0a (U1 (A0 A3 (A0 A3 (A0 A3 A6)))) (B1 G2 (B1 G3 (pv 2) A3) A3) (fun _ _=>rfl))))))))),?_⟩
 have z2:2<=sizeLine:=D3 (by decide)
 have z3:3<=sizeLine:=D3 (by decide)
 have mC:∀z n:Int, -(2^64)<n ->n<2^64 ->IntMulOk z n:=fun z n a b=>C6t.ok (.inr ⟨a,b⟩)
 have mC':∀z n:Int, -(2^64)<n ->n<2^64 ->IntMulOk n z:=fun z n a b=>C6t.ok (.inl ⟨a,b⟩)
 have pT:∀n:Nat,0<((10^n:Nat):Int):=fun n=>Int.natCast_pos.mpr (Nat.pow_pos (by decide))
 refine⟨fun σ' H'=>∃m:Int,H'=H/\0<=m/\σ'=[si c,si wy,si m,none,none],?_,?_⟩
 . exact⟨_,rfl,c,1,rfl,by decide,by decide,fun m m0 _=>⟨m,rfl,m0,rfl⟩⟩
 rintro σ' H1 ⟨m,rfl,m0,rfl⟩
 refine⟨fun σ' H'=>H'=H1/\σ'=[si c,si wy,si m,none,none],?_,?_⟩
 . refine⟨_,rfl,rfl,_,rfl,V8 (fun h=>?_) (fun h=>⟨_,rfl,rfl,_,rfl,V8 (fun h'=>?_) (fun _=>⟨rfl,rfl⟩)⟩)⟩
   . have h:wy=2:=by injection h
     subst h
     refine Z8 ?_
     refine⟨fun σ' H'=>H'=H1/\σ'=[si c,si 2,si m,si 0,none],⟨rfl,rfl⟩,?_⟩
     rintro σ' H2 ⟨rfl,rfl⟩
     refine⟨fun σ' H'=>H'=H2/\∃(L:Int) (v:Option V),σ'=[si c,si 2,si m,si L,v],⟨7,rfl,by decide,by decide,C0f (n:=7) (fun i σ' H'=>H'=H2/\∃(L:Int) (v:Option V),σ'=[si c,si 2,si m,si L,v]) ⟨rfl,0,none,rfl⟩ ?_ (fun σ' H' h=>h)⟩,?_⟩
     . rintro i σ' H3 hi ⟨rfl,L,v,rfl⟩
       refine⟨_,?_,fun _ _ h=>h⟩
       exact⟨_,rfl,_,_,rfl,rfl,mC _ _ (by decide) (by decide),_,rfl,_,rfl,_,_,rfl,rfl,c,_,rfl,(by show(0:Int)<=10+(0+(i:Int));omega),(by show 10+(0+(i:Int))<=100;omega),fun m' _ _=>⟨_,_,rfl,rfl,(by decide:(0:Int)<1000000000),_,_,rfl,rfl,rfl,_,_,rfl⟩⟩
     . rintro σ' H3 ⟨rfl,L,v,rfl⟩
       refine⟨_,rfl,_,rfl,z2,fun l nl=>?_⟩
       have a0:=Int.emod_nonneg m (by decide:(24:Int)≠0)
       have a1:=Int.emod_lt_of_pos m (by decide:(0:Int)<24)
       have fm:=V1h (L:=L) (n:=(1+m % 24).toNat) (by omega)
       exact⟨_,rfl,_,_,rfl,rfl,l,_,_,_,rfl,rfl,SqL.of A7,U7 (j:=0) rfl,_,_,rfl,rfl,(by decide:(0:Int)<24),_,_,rfl,rfl,(1+m % 24).toNat,(by rw[Int.toNat_of_nonneg (by omega)];rfl),by omega,_,_,rfl,rfl,pT _,k _ _ fm.1 fm.2 (B7.upd nl)⟩
   . have h':wy=3:=by injection h'
     subst h'
     refine⟨fun σ' H'=>H'=H1/\σ'=[si c,si 3,si m,si 0,none],⟨rfl,rfl⟩,?_⟩
     rintro σ' H2 ⟨rfl,rfl⟩
     refine⟨fun σ' H'=>H'=H2/\∃(L:Int) (v:Option V),σ'=[si c,si 3,si m,si L,v],⟨7,rfl,by decide,by decide,C0f (n:=7) (fun i σ' H'=>H'=H2/\∃(L:Int) (v:Option V),σ'=[si c,si 3,si m,si L,v]) ⟨rfl,0,none,rfl⟩ ?_ (fun σ' H' h=>h)⟩,?_⟩
     . rintro i σ' H3 hi ⟨rfl,L,v,rfl⟩
       refine⟨_,?_,fun _ _ h=>h⟩
       exact⟨_,rfl,_,_,rfl,rfl,mC _ _ (by decide) (by decide),_,rfl,_,rfl,_,_,rfl,rfl,c,_,rfl,(by show(0:Int)<=10+(0+(i:Int));omega),(by show 10+(0+(i:Int))<=100;omega),fun m' _ _=>⟨_,_,rfl,rfl,(by decide:(0:Int)<1000000000),_,_,rfl,rfl,rfl,_,_,rfl⟩⟩
     . rintro σ' H3 ⟨rfl,L,v,rfl⟩
       refine⟨_,rfl,_,rfl,z2,fun l nl=>?_⟩
       have a0:=Int.emod_nonneg m (by decide:(60:Int)≠0)
       have a1:=Int.emod_lt_of_pos m (by decide:(0:Int)<60)
       have fm:=V1h (L:=L) (n:=(1+m % 60).toNat) (by omega)
       exact⟨_,rfl,_,_,rfl,rfl,l,_,_,_,rfl,rfl,SqL.of A7,U7 (j:=1) rfl,_,_,rfl,rfl,(by decide:(0:Int)<60),_,_,rfl,rfl,(1+m % 60).toNat,(by rw[Int.toNat_of_nonneg (by omega)];rfl),by omega,_,_,rfl,rfl,pT _,k _ _ fm.1 fm.2 (B7.upd nl)⟩
 rintro σ' H2 ⟨rfl,rfl⟩
 have a0:=Int.emod_nonneg m (by decide:(99:Int)≠0)
 have a1:=Int.emod_lt_of_pos m (by decide:(0:Int)<99)
 have b0:=Int.emod_nonneg (m/99) (by decide:(13:Int)≠0)
 have b1:=Int.emod_lt_of_pos (m/99) (by decide:(0:Int)<13)
 have fs:=V9z (a:=m % 99+1) (n:=(m/99 % 13).toNat) (by omega) (by omega) (by omega)
 refine⟨fun σ' H'=>H'=H2/\σ'=[si c,si wy,si m,none,none],?_,?_⟩
 . refine⟨_,rfl,rfl,_,rfl,V8 (fun h=>?_) (fun h=>⟨_,rfl,rfl,_,rfl,V8 (fun h'=>?_) (fun _=>⟨rfl,rfl⟩)⟩)⟩
   . exact Z8 ⟨_,rfl,_,_,rfl,rfl,(by decide:(0:Int)<99),_,_,rfl,rfl,_,rfl,_,_,rfl,rfl,dv (n:=99) (by decide) (by decide+kernel),_,_,rfl,rfl,(by decide:(0:Int)<13),(m/99 % 13).toNat,(by rw[Int.toNat_of_nonneg b0];rfl),by omega,_,_,rfl,rfl,mC' _ _ (by omega) (by omega),k _ _ fs.1 fs.2 (B7.refl _)⟩
   . exact⟨_,rfl,_,_,rfl,rfl,(by decide:(0:Int)<99),_,_,rfl,rfl,_,rfl,_,_,rfl,rfl,dv (n:=99) (by decide) (by decide+kernel),_,_,rfl,rfl,(by decide:(0:Int)<13),(m/99 % 13).toNat,(by rw[Int.toNat_of_nonneg b0];rfl),by omega,_,_,rfl,rfl,mC' _ _ (by omega) (by omega),k _ _ fs.1 fs.2 (B7.refl _)⟩
 rintro σ' H3 ⟨rfl,rfl⟩
 have c0:=Int.emod_nonneg m (by decide:(24:Int)≠0)
 have c1:=Int.emod_lt_of_pos m (by decide:(0:Int)<24)
 have d0:=Int.emod_nonneg (m/24) (by decide:(3:Int)≠0)
 have d1:=Int.emod_lt_of_pos (m/24) (by decide:(0:Int)<3)
 have fr:=J9d (n:=(1+m % 24).toNat) (a:=m/24 % 3) (by omega) d0 (by omega)
 refine⟨fun σ' H'=>H'=H3/\σ'=[si c,si wy,si m,none,none],?_,?_⟩
 . refine⟨_,rfl,rfl,_,rfl,V8 (fun h=>?_) (fun h=>⟨rfl,rfl⟩)⟩
   exact⟨_,rfl,_,_,rfl,rfl,(by decide:(0:Int)<24),_,_,rfl,rfl,(1+m % 24).toNat,(by rw[Int.toNat_of_nonneg (by omega)];rfl),by omega,_,_,rfl,rfl,_,rfl,_,_,rfl,rfl,dv (n:=24) (by decide) (by decide+kernel),_,_,rfl,rfl,(by decide:(0:Int)<3),_,_,rfl,rfl,k _ _ fr.1 fr.2 (B7.refl _)⟩
 rintro σ' H4 ⟨rfl,rfl⟩
 refine⟨_,rfl,z3,fun l nl=>?_⟩
 obtain⟨v,hv,ix⟩:=ixs (xs:=[10,100,1000]) (i:=m/1000 % 3) (Int.emod_nonneg _ (by decide)) (by show m/1000 % 3<3;exact Int.emod_lt_of_pos _ (by decide))
 have bv:0<v/\v<=1000:=by
   simp only[List.mem_cons,List.not_mem_nil,or_false] at hv
   omega
 have e0:=Int.emod_nonneg m (Int.ne_of_gt bv.1)
 have e1:=Int.emod_lt_of_pos m bv.1
 have big:(1000:Int)<=10^60-1:=by decide+kernel
 exact⟨_,rfl,_,_,rfl,rfl,dv (n:=1000) (by decide) (by decide+kernel),_,_,rfl,rfl,(by decide:(0:Int)<3),l,_,_,_,rfl,rfl,SqL.of A7,ix,_,_,rfl,rfl,bv.1,k _ _ e0 (by omega) (B7.upd nl)⟩
noncomputable def D7f:Sp:=fun vs H Q _=>∃c,vs=[.int c]/\∀(x:Nm) t H',x.Wf ->B7 H H' ->H' t=some (.tup x.vs) ->Q (.ref t) H'
theorem scLNumber:B9 ["_law_cell","_law_kind","_law_sign","_law_more","_law_wide"] ["_law_cell"] (A1 A4n):=scK
theorem J9f(D:Def K mg "_law_number" ["_law_cell"] A4n f fd)(dA:Def K mg "_law_mixed" Q11 A8q f1 fd1)(dB:sI P w K mg base 1 f1 fd1 Q11 C6w)
   (dC:Def K mg "_law_figures" Q38 A1y f2 fd2) (dD:sI P w K mg base 2 f2 fd2 Q38 C8r) (O:Own mg):sI P w K mg base 3 f fd ["_law_cell"] D7f:=by
 refine D.F.okE scLNumber (fun vs H Q E h=>?_) (fun X cdv A outer s H vs Q E hX hr hx h=>?_)
 . obtain⟨c,rfl,_⟩:=h
   rfl
 subst hX
 obtain⟨c,rfl,k⟩:=h
 refine⟨_,(A8 (C6 (D7 (i:=1) scLNumber.nd rfl (Or.inl rfl) (B1 G2 (pv 0) A3))) (A8 (C6 (D7 (i:=2) scLNumber.nd rfl (Or.inl rfl) (B1 G2 (B1 G3 (pv 0) A3) A3))) (A8 (C6 (D7 (i:=3) scLNumber.nd rfl (Or.inl rfl) (D5 dA dB hr hx (A0 (pv 0) (A0 A3 A6))))) (A8 (C6 (J0 (D4 G7 (pv 1) A3 (D0 _)) (B0 (C7 (V3 (A0 B3 (A0 (pv 2) (A0 A3 (A0 (B1 V2 (B1 G2 (pv 3) A3) A3) A6))))))) D6)) (A8 (C6 (J0 (D4 G7 (pv 1) A3 (D0 _)) (B0 (C7 (V5 A0a (U1 (A0 (V3 (A0 B3 (A0 (pv 2) (A0 A3 (A0 A3 A6))))) (A0 (V3 (A0 B3 (A0 A3 (A0 A3 (A0 A3 A6))))) A6))) (Y7 D7w (by rfl) O.int_ boot_int (A0 (G6 G7 (B1 G2 (pv 3) A3) A3 (D0 _)) A6)) (fun _ _=>rfl)))) D6)) (A8 (C6 (D7 (i:=4) scLNumber.nd rfl (Or.inl rfl) (B1 V2 (B1 G2 (pv 3) A3) A3))) (A8 (C6 (J0 (D4 G7 (B1 G2 (B1 G3 (pv 3) A3) A3) A3 (D0 _)) (B0 (C6 (D7 (i:=4) scLNumber.nd rfl (Or.inl rfl) (B1 V2 (B1 G2 (B1 G3 (pv 3) A3) A3) A3)))) D6)) (A8 (C6 (J0 (D4 G7 (B1 G2 (B1 G3 (pv 3) A3) A3) A3 (D0 _)) (B0 (C6 (D7 (i:=4) scLNumber.nd rfl (Or.inl rfl) (B1 V2 (B1 G2 (B1 G3 (pv 3) A3) A3) A3)))) D6)) (B0 (C7 (V3 (A0 B3 (A0 (pv 2) (A0 (D5 dC dD hr hx (A0 (pv 0) (A0 (B1 G2 (B1 G3 (pv 0) A3) A3) A6))) (A0 (pv 4) A6))))))))))))))),?_⟩
 have z2:2<=sizeLine:=D3 (by decide)
 have z4:4<=sizeLine:=D3 (by decide)
 refine⟨fun σ' H'=>∃kd:Int,H'=H/\σ'=[si c,si kd,none,none,none],⟨_,rfl,_,_,rfl,rfl,(by decide:(0:Int)<8),_,rfl,rfl⟩,?_⟩
 rintro σ' H1 ⟨kd,rfl,rfl⟩
 refine⟨fun σ' H'=>∃sg:Int,H'=H1/\0<=sg/\sg<=1/\σ'=[si c,si kd,si sg,none,none],⟨_,rfl,_,_,rfl,rfl,dv (n:=8) (by decide) (by decide+kernel),_,_,rfl,rfl,(by decide:(0:Int)<2),c/8 % 2,rfl,by omega,by omega,rfl⟩,?_⟩
 rintro σ' H2 ⟨sg,rfl,s0,s1,rfl⟩
 refine⟨fun σ' H'=>∃m:Int,H'=H2/\0<=m/\σ'=[si c,si kd,si sg,si m,none],⟨_,rfl,c,2,rfl,by decide,by decide,fun m m0 _=>⟨m,rfl,m0,rfl⟩⟩,?_⟩
 rintro σ' H3 ⟨m,rfl,m0,rfl⟩
 refine⟨fun σ' H'=>H'=H3/\σ'=[si c,si kd,si sg,si m,none],?_,?_⟩
 . refine⟨_,rfl,rfl,_,rfl,V8 (fun h=>?_) (fun h=>⟨rfl,rfl⟩)⟩
   refine⟨_,rfl,_,rfl,_,_,rfl,rfl,(by decide:(0:Int)<41),_,_,rfl,rfl,z4,fun t nt=>?_⟩
   exact k ⟨.plain,sg,0,m % 41-20⟩ t _ (J1x ⟨s0,s1⟩ ⟨by decide,by decide+kernel⟩ ⟨by omega,by omega⟩) (B7.upd nt) A7
 rintro σ' H4 ⟨rfl,rfl⟩
 refine⟨fun σ' H'=>H'=H4/\σ'=[si c,si kd,si sg,si m,none],?_,?_⟩
 . refine⟨_,rfl,rfl,_,rfl,V8 (fun h=>?_) (fun h=>⟨rfl,rfl⟩)⟩
   refine⟨_,rfl,z4,fun t1 n1=>⟨z4,fun t2 n2=>⟨z2,fun l nl=>?_⟩⟩⟩
   have u1:=B7.upd (o:= .tup [.str "end",.int sg,.int 0,.int 0]) n1
   have u2:=B7.upd (o:= .tup [.str "none",.int 0,.int 0,.int 0]) n2
   have u3:=B7.upd (o:= .lst [.ref t1,.ref t2]) nl
   refine⟨_,rfl,_,_,rfl,rfl,(by decide:(0:Int)<4),rfl,.inr ⟨_,rfl,?_⟩⟩
   by_cases hm:V.int (m % 4)=V.int 0
   . rw[decide_eq_true hm]
     exact⟨l,_,_,_,rfl,rfl,SqL.of A7,U7 (j:=1) rfl,k ⟨.none,0,0,0⟩ t2 _ Z9m ((u1.trans u2).trans u3) (u3 _ _ A7)⟩
   . rw[decide_eq_false hm]
     exact⟨l,_,_,_,rfl,rfl,SqL.of A7,U7 (j:=0) rfl,k ⟨.end_,sg,0,0⟩ t1 _ (A0ga ⟨s0,s1⟩) ((u1.trans u2).trans u3) ((u2.trans u3) _ _ A7)⟩
 rintro σ' H5 ⟨rfl,rfl⟩
 refine⟨fun σ' H'=>H'=H5/\∃pw:Int, -200<=pw/\pw<=200/\σ'=[si c,si kd,si sg,si m,si pw],⟨_,rfl,_,_,rfl,rfl,(by decide:(0:Int)<13),_,_,rfl,rfl,rfl,m % 13-6,by omega,by omega,rfl⟩,?_⟩
 rintro σ' H6 ⟨rfl,pw,p0,p1,rfl⟩
 refine⟨fun σ' H'=>H'=H6/\∃pw:Int, -200<=pw/\pw<=200/\σ'=[si c,si kd,si sg,si m,si pw],?_,?_⟩
 . refine⟨_,rfl,_,_,rfl,rfl,dv (n:=13) (by decide) (by decide+kernel),_,_,rfl,rfl,(by decide:(0:Int)<4),rfl,_,rfl,V8 (fun _=>?_) (fun _=>⟨rfl,pw,p0,p1,rfl⟩)⟩
   refine⟨_,?_,fun _ _ h=>h⟩
   exact⟨_,rfl,_,_,rfl,rfl,dv (n:=52) (by decide) (by decide+kernel),_,_,rfl,rfl,(by decide:(0:Int)<141),_,_,rfl,rfl,rfl,m/52 % 141-70,by omega,by omega,rfl⟩
 rintro σ' H7 ⟨rfl,pw,p0,p1,rfl⟩
 refine⟨fun σ' H'=>H'=H7/\∃pw:Int, -200<=pw/\pw<=200/\σ'=[si c,si kd,si sg,si m,si pw],?_,?_⟩
 . refine⟨_,rfl,_,_,rfl,rfl,dv (n:=13) (by decide) (by decide+kernel),_,_,rfl,rfl,(by decide:(0:Int)<16),rfl,_,rfl,V8 (fun _=>?_) (fun _=>⟨rfl,pw,p0,p1,rfl⟩)⟩
   refine⟨_,?_,fun _ _ h=>h⟩
   exact⟨_,rfl,_,_,rfl,rfl,dv (n:=208) (by decide) (by decide+kernel),_,_,rfl,rfl,(by decide:(0:Int)<401),_,_,rfl,rfl,rfl,m/208 % 401-200,by omega,by omega,rfl⟩
 rintro σ' H8 ⟨rfl,pw,p0,p1,rfl⟩
 refine⟨_,rfl,_,rfl,_,rfl,_,_,rfl,rfl,dv (n:=16) (by decide) (by decide+kernel),_,_,rfl,rfl,(by decide:(0:Int)<8),c,_,rfl,Int.emod_nonneg _ (by decide),Int.emod_lt_of_pos _ (by decide),fun fg H9 g0 g1 s9=>?_⟩
 refine⟨_,rfl,z4,fun t nt=>?_⟩
 exact k ⟨.plain,sg,fg,pw⟩ t _ (J1x ⟨s0,s1⟩ ⟨g0,g1⟩ ⟨p0,p1⟩) (s9.trans (B7.upd nt)) A7
noncomputable def V1m (CN:Addr):Sp:=fun vs H Q _=>∃t x,vs=[.ref t]/\H t=some (.tup (Nm.vs x))/\x.Wf/\∀n H',H n=none ->B7 H H' ->U0 CN H' n x ->Q (.ref n) H'
theorem A0an:B9 ["_law_one"] ["_law_one"] (A1 B6q):=scK
theorem Y2s{f f1 f2 f3 CN CB:Addr}(D:Def K mg "_law_made" ["_law_one"] B6q f fd)(dA:Def K mg "plain" Q21 B6r f1 fd1)(dB:sI P w K mg base 3 f1 fd1 Q21 (V0t K CN CB))
   (dC:Def K mg "end" ["sign"] J1k f2 fd2) (dD:sI P w K mg base 3 f2 fd2 ["sign"] (Y1f K CN CB)) (dE:Def K mg "nothing" [] A4v f3 fd3) (dF:sI P w K mg base 3 f3 fd3 [] (D7s CN)):sI P w K mg base 4 f fd ["_law_one"] (V1m CN):=by
 refine D.F.okE A0an (fun vs H Q E h=>?_) (fun X cdv A outer s H vs Q E hX hr hx h=>?_)
 . obtain⟨t,x,rfl,_⟩:=h
   rfl
 subst hX
 obtain⟨t,x,rfl,ht,wf,k⟩:=h
 refine⟨_,(A8 (J0 (D4 G7 (V5 Y2 (pv 0) A3 (fun _ _=>rfl)) B3 (D0 _)) (B0 (C7 (D5 dA dB hr hx (A0 (V5 Y2 (pv 0) A3 (fun _ _=>rfl)) (A0 (V5 Y2 (pv 0) A3 (fun _ _=>rfl)) (A0 (V5 Y2 (pv 0) A3 (fun _ _=>rfl)) A6)))))) D6) (A8 (J0 (D4 G7 (V5 Y2 (pv 0) A3 (fun _ _=>rfl)) B3 (D0 _)) (B0 (C7 (D5 dC dD hr hx (A0 (V5 Y2 (pv 0) A3 (fun _ _=>rfl)) A6)))) D6) (B0 (C7 (A0gj dE dF hr hx))))),?_⟩
 have ok:=wf.ok
 have g1:A5v 0 1 (.int x.s):=⟨_,rfl,ok.s0,ok.s1⟩
 have g2:A5v 0 (10^60-1) (.int x.f):=⟨_,rfl,ok.f0,ok.f1⟩
 have g3:A5v (-200) 200 (.int x.p):=⟨_,rfl,ok.p0,ok.p1⟩
 have ix:∀j:Nat,j<4 ->atI x.vs (j:Int)=some (x.vs.getD j .non):=fun j hj=>U7 (j:=j) (by
   rcases(by omega:j=0\/j=1\/j=2\/j=3) with rfl|rfl|rfl|rfl<;>rfl)
 refine⟨_,rfl,t,_,_,_,rfl,rfl,SqT.of ht,ix 0 (by decide),rfl,_,rfl,V8 (fun h=>?_) (fun h=>?_)⟩
 . have hk:x.k= .plain:=eqS (b:= .plain) h
   refine⟨_,rfl,t,_,_,_,rfl,rfl,SqT.of ht,ix 1 (by decide),_,rfl,t,_,_,_,rfl,rfl,SqT.of ht,ix 2 (by decide),_,rfl,t,_,_,_,rfl,rfl,SqT.of ht,ix 3 (by decide),_,_,_,rfl,.inl ⟨g1,g2,g3,fun n H' nn sm num=>k n H' nn sm ?_⟩⟩
   unfold U0
   rw[hk]
   exact num
 have hk:x.k≠ .plain:=neS (b:= .plain) h
 refine⟨_,rfl,t,_,_,_,rfl,rfl,SqT.of ht,ix 0 (by decide),rfl,_,rfl,V8 (fun h=>?_) (fun h=>?_)⟩
 . have hk:x.k= .end_:=eqS (b:= .end_) h
   obtain⟨ef,ep⟩:=wf.e hk
   refine⟨_,rfl,t,_,_,_,rfl,rfl,SqT.of ht,ix 1 (by decide),_,rfl,.inl ⟨g1,fun n H' nn sm num=>k n H' nn sm ?_⟩⟩
   unfold U0
   rw[hk,ef,ep]
   exact num
 have hk2:x.k≠ .end_:=neS (b:= .end_) h
 have hk3:x.k= .none:=by
   cases hk':x.k with
   |plain=>exact absurd hk' hk
   |end_=>exact absurd hk' hk2
   |none=>rfl
 obtain⟨es,ef,ep⟩:=wf.n hk3
 refine⟨rfl,fun n H' nn sm num=>k n H' nn sm ?_⟩
 unfold U0
 rw[hk3,es,ef,ep]
 exact num
noncomputable def rdS (zs:List Str):PyData:= .list (zs.map PyData.str)
noncomputable def OkL (zs:List Str):Prop:=zs.length<=100/\∀z∈zs,PyData.strOk z=true
theorem layS:∀{zs:List Str},(∀z∈zs,PyData.strOk z=true) ->PyData.canLayAll0 (zs.map PyData.str)=true/\PyData.depthAll (zs.map PyData.str)<=1
 | [],_=>by simp[PyData.canLayAll0,PyData.depthAll]
 | z ::zs,h=>by
   obtain⟨a,b⟩:=layS (zs:=zs) fun z' h'=>h z' (List.mem_cons_of_mem _ h')
   have c:=h z List.mem_cons_self
   constructor
   . simp[PyData.canLayAll0,PyData.canLay0,c,a]
   . simp only[List.map_cons,PyData.depthAll,PyData.depth]
     omega
theorem shS{zs:List Str}(h:OkL zs):SeqAt.shaped (rdS zs)=true:=by
 obtain⟨a,b⟩:=layS h.2
 unfold SeqAt.shaped rdS
 simp only[PyData.canLay0,PyData.depth,a,Bool.and_true,Bool.and_eq_true,decide_eq_true_eq,List.length_map]
 exact⟨trivial,decide_eq_true (by omega)⟩
theorem Z9y:∀zs:List Str,PyData.eqv (rdS zs) (rdS zs)=true:=by
 have h:∀zs:List Str,PyData.eqvAll (zs.map PyData.str) (zs.map PyData.str)=true:=fun zs=>by
   induction zs with
   |nil=>simp[PyData.eqvAll]
   |cons z zs ih=>simp[PyData.eqvAll,PyData.eqv,ih]
 intro zs
 simp[rdS,PyData.eqv,h]
theorem rdsS{K:Frag}{H:Hp}:∀zs:List Str,C8z K H (zs.map V.str) (zs.map PyData.str)
 | []=> .nil
 |z::zs=> .cons (.str z) (rdsS zs)
theorem B1d{K:Frag}{H:Hp}{p:Addr}{zs:List Str}(h:H p=some (.lst (zs.map V.str))):RdD K H (.ref p) (rdS zs):= .lst (SqL.of h) (rdsS zs)
theorem J1q:∀z∈A0u,PyData.strOk z=true:=by decide+kernel
noncomputable def A2z (zs:List Str):Prop:=∃p:Str ->Bool,zs=A0u.filter p
theorem A2z.ok{zs:List Str}(h:A2z zs):OkL zs:=by
 obtain⟨p,rfl⟩:=h
 exact⟨Nat.le_trans (List.length_filter_le _ _) (by decide),fun z hz=>J1q z (List.mem_filter.mp hz).1⟩
theorem A2z.len{zs:List Str}(h:A2z zs):zs.length<=7:=by
 obtain⟨p,rfl⟩:=h
 exact List.length_filter_le _ _
theorem A2z.mem{zs:List Str}(h:A2z zs):∀z∈zs,z∈A0u:=by
 obtain⟨p,rfl⟩:=h
 exact fun z hz=>(List.mem_filter.mp hz).1
theorem C7v{zs ws:List Str}(h:A2z zs)(e:∀z,z∈ws↔z∈zs):Y5 ws=zs:=by
 obtain⟨p,rfl⟩:=h
 unfold Y5
 refine List.filter_congr fun z hz=>?_
 rw[Bool.eq_iff_iff,List.contains_iff_mem,e,List.mem_filter]
 simp[hz]
theorem Y0b(zs:List Str):A2z (Y5 zs):=⟨_,rfl⟩
theorem G0m:∀i<7,A7a[i]?=some (.str (A0u.getD i "")):=by decide+kernel
theorem A0as:A0u=(List.range 7).map (fun i=>A0u.getD i ""):=by decide+kernel
theorem J0w(f:Nat ->Bool):A2z (((List.range 7).filter f).map fun i=>A0u.getD i ""):=by
 refine⟨fun z=>f (A0u.idxOf z),?_⟩
 conv=>rhs;rw[A0as]
 rw[List.filter_map]
 congr 1
theorem V0e{f:Nat ->Bool}{ys:List V}(hl:ys.length=((List.range 7).filter f).length)(h:∀(j i:Nat) (y:V),((List.range 7).filter f)[j]?=some i ->ys[j]?=some y ->A7a[i]?=some y):
   ys=((((List.range 7).filter f).map fun i=>A0u.getD i "")).map V.str:=by
 apply List.ext_getElem
 . simp[hl]
 intro j h1 h2
 have hj:j<((List.range 7).filter f).length:=by rw[<-hl];exact h1
 have z:=h j _ ys[j] (List.getElem?_eq_getElem hj) (List.getElem?_eq_getElem h1)
 have hm:((List.range 7).filter f)[j]<7:=by
   have:=(List.mem_filter.mp (List.getElem_mem hj)).1
   simpa using this
 rw[G0m _ hm] at z
 simp only[List.getElem_map]
 exact(Option.some.inj z).symm
noncomputable abbrev C8k:Stmt:=(top 81)
noncomputable def V4e (r:Int) (y:Wy) (l m:Int) (u t:Addr):List (Key×V):=[(.inr "room",.int r),(.inr "way",.str y.name),(.inr "least",.int l),(.inr "most",.int m),(.inr "lowest",.int (l-r+1)),(.inr "up",.ref u),(.inr "trapped",.ref t)]
structure V7(H:Hp)(d u t:Addr)(r:Int)(y:Wy)(l m:Int)(up tr:List Str):Prop where
 d:H d=some (.dK (V4e r y l m u t))
 u:H u=some (.lst (up.map V.str))
 t:H t=some (.lst (tr.map V.str))
theorem V7.same{H H':Hp}{d u t:Addr}{r l m:Int}{y:Wy}{up tr:List Str}(h:V7 H d u t r y l m up tr)(s:B7 H H'):V7 H' d u t r y l m up tr:=⟨s _ _ h.d,s _ _ h.u,s _ _ h.t⟩
structure A6b(r l m:Int):Prop where
 r1:1<=r
 r2:r<=24
 l1: -60<=l
 l2:l<=0
 m1:0<=m
 m2:m<=60
noncomputable def A0qj:List Wy:=[.halfEven,.down,.up,.floor,.ceiling,.halfUp,.halfDown,.fiveUp]
noncomputable def Y3g:List V:=A0qj.map fun y=>V.str y.name
noncomputable def k5 (r:Int) (y:Wy) (l m:Int):List (Key×V):=[(.inr "room",.int r),(.inr "way",.str y.name),(.inr "least",.int l),(.inr "most",.int m),(.inr "lowest",.int (l-r+1))]
theorem kne:(¬(("way":Str)="room"))/\(¬(("room":Str)="way"))/\(¬(("room":Str)="least"))/\(¬(("way":Str)="least"))/\(¬(("room":Str)="most"))/\(¬(("way":Str)="most"))/\(¬(("least":Str)="most"))/\
   (¬(("room":Str)="lowest"))/\(¬(("way":Str)="lowest"))/\(¬(("least":Str)="lowest"))/\(¬(("most":Str)="lowest"))/\(¬(("room":Str)="up"))/\(¬(("way":Str)="up"))/\(¬(("least":Str)="up"))/\(¬(("most":Str)="up"))/\(¬(("lowest":Str)="up"))/\
   (¬(("room":Str)="trapped"))/\(¬(("way":Str)="trapped"))/\(¬(("least":Str)="trapped"))/\(¬(("most":Str)="trapped"))/\(¬(("lowest":Str)="trapped"))/\(¬(("up":Str)="trapped"))/\(¬(("trapped":Str)="up")):=by decide+kernel
theorem put1(a b:V):B2b [] [((.inr "room":Key),a),(.inr "way",b)]=[(.inr "room",a),(.inr "way",b)]:=by
 obtain⟨h1,h2,_⟩:=kne
 simp[B2b,A1d,h1,h2]
theorem put2(a b v:V):A1d [((.inr "room":Key),a),(.inr "way",b)] (.inr "room") v=[(.inr "room",v),(.inr "way",b)]:=by
 obtain⟨h1,h2,_⟩:=kne
 simp[A1d,h1,h2]
theorem put3(a b v:V):A1d [((.inr "room":Key),a),(.inr "way",b)] (.inr "least") v=[(.inr "room",a),(.inr "way",b),(.inr "least",v)]:=by
 obtain⟨_,_,h1,h2,_⟩:=kne
 simp[A1d,h1,h2]
theorem put4(a b c v:V):A1d [((.inr "room":Key),a),(.inr "way",b),(.inr "least",c)] (.inr "most") v=[(.inr "room",a),(.inr "way",b),(.inr "least",c),(.inr "most",v)]:=by
 obtain⟨_,_,_,_,h1,h2,h3,_⟩:=kne
 simp[A1d,h1,h2,h3]
theorem put5(a b c d v:V):A1d [((.inr "room":Key),a),(.inr "way",b),(.inr "least",c),(.inr "most",d)] (.inr "lowest") v=[(.inr "room",a),(.inr "way",b),(.inr "least",c),(.inr "most",d),(.inr "lowest",v)]:=by
 obtain⟨_,_,_,_,_,_,_,h1,h2,h3,h4,_⟩:=kne
 simp[A1d,h1,h2,h3,h4]
theorem put6(r:Int)(y:Wy)(l m:Int)(v:V):A1d (k5 r y l m) (.inr "up") v=k5 r y l m++ [(.inr "up",v)]:=by
 obtain⟨_,_,_,_,_,_,_,_,_,_,_,h1,h2,h3,h4,h5,_⟩:=kne
 simp[A1d,k5,h1,h2,h3,h4,h5]
theorem put7(r:Int)(y:Wy)(l m:Int)(u t:Addr):A1d (k5 r y l m++ [(.inr "up",.ref u)]) (.inr "trapped") (.ref t)=V4e r y l m u t:=by
 obtain⟨_,_,_,_,_,_,_,_,_,_,_,_,_,_,_,_,h1,h2,h3,h4,h5,h6,_⟩:=kne
 simp[A1d,k5,V4e,h1,h2,h3,h4,h5,h6]
theorem put8(r:Int)(y:Wy)(l m:Int)(u u' t:Addr):A1d (V4e r y l m u t) (.inr "up") (.ref u')=V4e r y l m u' t:=by
 obtain⟨_,_,_,_,_,_,_,_,_,_,_,h1,h2,h3,h4,h5,_,_,_,_,_,_,h6⟩:=kne
 simp[A1d,V4e,h1,h2,h3,h4,h5,h6]
theorem at3(a b c n:Int):∃v,(v=a\/v=b\/v=c)/\atI ([.int a,.int b,.int c]:List V) (n % 3)=some (.int v):=by
 rcases(by omega:n % 3=0\/n % 3=1\/n % 3=2) with h|h|h
 . exact⟨a,.inl rfl,by rw[h];exact U7 (j:=0) rfl⟩
 . exact⟨b,.inr (.inl rfl),by rw[h];exact U7 (j:=1) rfl⟩
 exact⟨c,.inr (.inr rfl),by rw[h];exact U7 (j:=2) rfl⟩
theorem sh3:∀i:Nat,i<7 ->(0:Int)<3*2^((0:Int)+(i:Int)).toNat/\((3:Int)*2^((0:Int)+(i:Int)).toNat).natAbs.log2<9000:=by decide+kernel
theorem A0fs:∀i:Nat,i<7 ->(0:Int)<1200*2^((0:Int)+(i:Int)).toNat/\((1200:Int)*2^((0:Int)+(i:Int)).toNat).natAbs.log2<9000:=by decide+kernel
theorem V0b{i:Nat}(h:i<7):atI A7a ((0:Int)+(i:Int))=some (.str (A0u.getD i "")):=by
 rw[Int.zero_add]
 exact U7 (j:=i) (G0m i h)
noncomputable def Y0k:Sp:=fun vs H Q _=>∃c:Int,vs=[.int c]/\∀d u t r y l m up tr H',B7 H H' ->H d=none ->H u=none ->H t=none ->A6b r l m ->A2z up ->A2z tr ->V7 H' d u t r y l m up tr ->Q (.ref d) H'
theorem scLOwn:B9 ["_law_cell","_law_ways","_law_signals","_law_more","_law_own_here"] ["_law_cell"] (A1 C8k):=scK
theorem Z8d(D:Def K mg "_law_own" ["_law_cell"] C8k f fd)(dA:Def K mg "_law_mixed" Q11 A8q f1 fd1)(dB:sI P w K mg base 1 f1 fd1 Q11 C6w)(O:Own mg):
   sI P w K mg base 2 f fd ["_law_cell"] Y0k:=by
 refine D.F.okE scLOwn (fun vs H Q E h=>?_) (fun X cdv A outer s H vs Q E hX hr hx h=>?_)
 . obtain⟨c,rfl,_⟩:=h
   rfl
 subst hX
 obtain⟨c,rfl,k⟩:=h
 have HU:=hr.units
 refine⟨_,(A8 (C6 (D7 (i:=1) scLOwn.nd rfl (Or.inl rfl) (U1 (A0 B3 (A0 B3 (A0 B3 (A0 B3 (A0 B3 (A0 B3 (A0 B3 (A0 B3 A6))))))))))) (A8 (C6 (D7 (i:=2) scLOwn.nd rfl (Or.inr rfl) (U1 (A0 B3 (A0 B3 (A0 B3 (A0 B3 (A0 B3 (A0 B3 (A0 B3 A6)))))))))) (A8 (C6 (D7 (i:=3) scLOwn.nd rfl (Or.inr rfl) (D5 dA dB hr hx (A0 (pv 0) (A0 A3 A6))))) (A8 (C6 (D7 (i:=4) scLOwn.nd rfl (Or.inl rfl) (Z9s (J2g B3 (B1 V4 A3 (B1 G2 (pv 3) A3)) (J2g B3 (V5 A0a (pv 1) (B1 G2 (B1 G3 (pv 3) A3) A3) (fun _ _=>rfl)) Z9b)) rfl rfl (by simp) (by decide)))) (A8 (C6 (J0 (D4 G7 (B1 G2 (B1 G3 (pv 3) A3) A3) A3 (D0 _)) (B0 (C6 (A8d (Nat.lt_of_le_of_lt (Nat.add_le_add_left (by decide) _) HU) (pv 4) B3 (B1 V4 A3 (B1 G2 (B1 G3 (pv 3) A3) A3)) (by rfl)))) D6)) (A8 (C6 (D7 (i:=3) scLOwn.nd rfl (Or.inr rfl) (D5 dA dB hr hx (A0 (pv 0) (A0 A3 A6))))) (A8 (C6 (A8d (Nat.lt_of_le_of_lt (Nat.add_le_add_left (by decide) _) HU) (pv 4) B3 (V5 A0a (U1 (A0 (B1a A5f A3) (A0 (B1 V2 A3 (B1 G2 (B1 G3 (pv 3) A3) A3)) (A0 (B1 V2 A3 (B1 G2 (B1 G3 (pv 3) A3) A3)) A6)))) (B1 G2 (pv 3) A3) (fun _ _=>rfl)) (by rfl))) (A8 (C6 (A8d (Nat.lt_of_le_of_lt (Nat.add_le_add_left (by decide) _) HU) (pv 4) B3 (V5 A0a (U1 (A0 A3 (A0 (B1 G2 (B1 G3 (pv 3) A3) A3) (A0 (B1 G2 (B1 G3 (pv 3) A3) A3) A6)))) (B1 G2 (B1 G3 (pv 3) A3) A3) (fun _ _=>rfl)) (by rfl))) (A8 (C6 (A8d (Nat.lt_of_le_of_lt (Nat.add_le_add_left (by decide) _) HU) (pv 4) B3 (B1 V4 (B1 V2 (U9 (Nat.lt_of_le_of_lt (Nat.add_le_add_left (by decide) _) HU) (pv 4) B3 (fun _ _=>rfl)) (U9 (Nat.lt_of_le_of_lt (Nat.add_le_add_left (by decide) _) HU) (pv 4) B3 (fun _ _=>rfl))) A3) (by rfl))) (A8 (C6 (D7 (i:=3) scLOwn.nd rfl (Or.inr rfl) (D5 dA dB hr hx (A0 (pv 0) (A0 A3 A6))))) (A8 (C6 (A8d (Nat.lt_of_le_of_lt (Nat.add_le_add_left (by decide) _) HU) (pv 4) B3 (J2x (N:=["_law_k"]) (F:=["_law_signals","_law_more"]) (js:=[2,3]) (D9.of2 ⟨rfl,by decide+kernel,by decide+kernel,by decide+kernel,by decide+kernel⟩ (by rfl) (by rfl) ⟨_,by rfl⟩ (by rfl) (by rfl) (by rfl) ⟨_,by rfl⟩ (by rfl) (by rfl)) (.inl hr.hd) rfl (B5e rfl O.range_ (A0 A3 A6)) rfl (fun C s₀ H₀ ex pn h=>Z2 (i:=0) (by decide+kernel:(Q50:List Str).Nodup) rfl (Or.inl rfl)) (fun C s₀ H₀ ex pn h=>(PW.pt (A6s (D4 G7 (B1 G2 (pv 2) A3) A3 (D0 _)) (A3x (D4 G7 (B1 G2 (B1 G3 (pv 2) (B1 Y1z A3 (pv 0))) A3) A3 (D0 _)))))) (fun C s₀ H₀ ex pn h=>(V5 (J1t (K:=K) rfl) (pv 1) (pv 0) (fun _ _=>rfl)))) (by rfl))) (A8 (C6 (A8d (Nat.lt_of_le_of_lt (Nat.add_le_add_left (by decide) _) HU) (pv 4) B3 (J2x (N:=["_law_k"]) (F:=["_law_signals","_law_more"]) (js:=[2,3]) (D9.of2 ⟨rfl,by decide+kernel,by decide+kernel,by decide+kernel,by decide+kernel⟩ (by rfl) (by rfl) ⟨_,by rfl⟩ (by rfl) (by rfl) (by rfl) ⟨_,by rfl⟩ (by rfl) (by rfl)) (.inl hr.hd) rfl (B5e rfl O.range_ (A0 A3 A6)) rfl (fun C s₀ H₀ ex pn h=>Z2 (i:=0) (by decide+kernel:(Q50:List Str).Nodup) rfl (Or.inl rfl)) (fun C s₀ H₀ ex pn h=>(PW.pt (A6s (D4 G7 (B1 G2 (B1 G3 (pv 2) A3) A3) A3 (D0 _)) (A3x (D4 G7 (B1 G2 (B1 G3 (pv 2) (B1 Y1z A3 (pv 0))) A3) A3 (D0 _)))))) (fun C s₀ H₀ ex pn h=>(V5 (J1t (K:=K) rfl) (pv 1) (pv 0) (fun _ _=>rfl)))) (by rfl))) (B0 (C7 (pv 4))))))))))))))),?_⟩
 have z8:8<=sizeLine:=D3 (by decide)
 have z7:7<=sizeLine:=D3 (by decide)
 have z3:3<=sizeLine:=D3 (by decide)
 refine⟨fun σ' H'=>∃a1,B7 H H'/\H' a1=some (.lst Y3g)/\σ'=[si c,sr a1,none,none,none],⟨z8,fun a n=>⟨a,B7.upd n,A7,rfl⟩⟩,?_⟩
 rintro σ' H1 ⟨a1,s1,e1,rfl⟩
 refine⟨fun σ' H'=>∃a2,B7 H H'/\H' a1=some (.lst Y3g)/\H' a2=some (.lst A7a)/\σ'=[si c,sr a1,sr a2,none,none],⟨z7,fun a n=>⟨a,s1.trans (B7.upd n),(B7.upd n) _ _ e1,A7,rfl⟩⟩,?_⟩
 rintro σ' H2 ⟨a2,s2,e1,e2,rfl⟩
 refine⟨fun σ' H'=>∃m:Int,H'=H2/\0<=m/\σ'=[si c,sr a1,sr a2,si m,none],⟨_,rfl,c,30,rfl,by decide,by decide,fun m m0 _=>⟨m,rfl,m0,rfl⟩⟩,?_⟩
 rintro σ' H3 ⟨m,rfl,m0,rfl⟩
 refine⟨fun σ' H'=>∃d r y,B7 H H'/\H d=none/\1<=r/\r<=24/\H' a2=some (.lst A7a)/\H' d=some (.dK [(.inr "room",.int r),(.inr "way",.str (Wy.name y))])/\σ'=[si c,sr a1,sr a2,si m,sr d],?_,?_⟩
 . intro d nd
   have ud:=B7.upd (o:= .dK []) nd
   have z8':(0:Int)<8:=by decide
   obtain⟨v,hv,ix⟩:=ixv (xs:=Y3g) (i:=m/6 % 8) (Int.emod_nonneg _ (by decide)) (by show m/6 % 8<8;exact Int.emod_lt_of_pos _ z8')
   obtain⟨y,_,rfl⟩:=List.mem_map.mp hv
   refine⟨_,rfl,_,_,rfl,rfl,(by decide:(0:Int)<6),_,_,rfl,rfl,_,rfl,_,rfl,_,_,rfl,rfl,dv (n:=6) (by decide) (by decide+kernel),_,_,rfl,rfl,z8',a1,_,_,_,rfl,rfl,SqL.of (ud _ _ e1),ix,A7,[(.inr "room",.int (1+m % 6)),(.inr "way",.str y.name)],rfl,by show 2<=15;decide,?_⟩
   have xd:Exc d (upd H3 d (.dK [])) (upd (upd H3 d (.dK [])) d (.dK (B2b [] [(.inr "room",.int (1+m % 6)),(.inr "way",.str y.name)]))):=Exc.upd
   have n2:a2≠d:=D8 e2 nd
   refine⟨d,1+m % 6,y,fun b o hb=>?_,s2.free nd,by omega,by omega,xd _ _ (ud _ _ e2) n2,by rw[put1];exact A7,rfl⟩
   have q:=s2 _ _ hb
   exact xd _ _ (ud _ _ q) (D8 q nd)
 rintro σ' H4 ⟨d,r,y,s4,nd,r1,r2,e2,ed,rfl⟩
 have nad:∀b o,H b=some o ->b≠d:=fun b o hb=>D8 hb nd
 have n2d:∀{G:Hp} {kvs:List (Key×V)},G a2=some (.lst A7a) ->G d=some (.dK kvs) ->a2≠d:=fun h1 h2=>G9 h1 h2 (by intro z;cases z)
 have keepS:∀{G:Hp} {u:HO},B7 H G ->B7 H (upd G d u):=fun sm b o hb=>by rw[C9 (nad b o hb)];exact sm _ _ hb
 refine⟨fun σ' H'=>∃r,B7 H H'/\1<=r/\r<=24/\H' a2=some (.lst A7a)/\H' d=some (.dK [(.inr "room",.int r),(.inr "way",.str (Wy.name y))])/\σ'=[si c,sr a1,sr a2,si m,sr d],?_,?_⟩
 . refine⟨_,rfl,_,_,rfl,rfl,dv (n:=48) (by decide) (by decide+kernel),_,_,rfl,rfl,(by decide:(0:Int)<4),rfl,_,rfl,V8 (fun _=>?_) (fun _=>⟨r,s4,r1,r2,e2,ed,rfl⟩)⟩
   refine⟨_,?_,fun _ _ h=>h⟩
   refine⟨_,rfl,_,_,rfl,rfl,dv (n:=192) (by decide) (by decide+kernel),_,_,rfl,rfl,(by decide:(0:Int)<24),_,_,rfl,rfl,_,rfl,d,_,rfl,C9b.k (k:= .inr "room") ed (Y0 (by show 2<=1000;decide)),?_⟩
   exact⟨1+m/192 % 24,keepS s4,by omega,by omega,by rw[C9 (n2d e2 ed)];exact e2,by rw[put2];exact A7,rfl⟩
 rintro σ' H5 ⟨r,s5,r1,r2,e2,ed,rfl⟩
 refine⟨fun σ' H'=>∃m:Int,H'=H5/\0<=m/\σ'=[si c,sr a1,sr a2,si m,sr d],⟨_,rfl,c,31,rfl,by decide,by decide,fun m m0 _=>⟨m,rfl,m0,rfl⟩⟩,?_⟩
 rintro σ' H6 ⟨m2,rfl,q0,rfl⟩
 refine⟨fun σ' H'=>∃l:Int,B7 H H'/\ -60<=l/\l<=0/\H' a2=some (.lst A7a)/\H' d=some (.dK [(.inr "room",.int r),(.inr "way",.str (Wy.name y)),(.inr "least",.int l)])/\σ'=[si c,sr a1,sr a2,si m2,sr d],?_,?_⟩
 . obtain⟨l,hl,ix⟩:=at3 (-60) (0-m2/9 % 8) (0-m2/9 % 61) m2
   refine⟨_,rfl,_,rfl,_,_,rfl,rfl,dv (n:=9) (by decide) (by decide+kernel),_,_,rfl,rfl,(by decide:(0:Int)<8),_,_,rfl,rfl,_,rfl,_,_,rfl,rfl,dv (n:=9) (by decide) (by decide+kernel),_,_,rfl,rfl,(by decide:(0:Int)<61),_,_,rfl,rfl,z3,fun p np=>?_⟩
   have up:=B7.upd (o:= .lst [.int (-60),.int (0-m2/9 % 8),.int (0-m2/9 % 61)]) np
   have ed':=up _ _ ed
   have e2':=up _ _ e2
   refine⟨_,rfl,_,_,rfl,rfl,(by decide:(0:Int)<3),p,_,_,_,rfl,rfl,SqL.of A7,ix,_,rfl,d,_,rfl,C9b.k (k:= .inr "least") ed' (Y0 (by show 2<=1000;decide)),?_⟩
   exact⟨l,keepS (s5.trans up),by omega,by omega,by rw[C9 (n2d e2' ed')];exact e2',by rw[put3];exact A7,rfl⟩
 rintro σ' H7 ⟨l,s7,l1,l2,e2,ed,rfl⟩
 refine⟨fun σ' H'=>∃mo:Int,B7 H H'/\0<=mo/\mo<=60/\H' a2=some (.lst A7a)/\H' d=some (.dK [(.inr "room",.int r),(.inr "way",.str (Wy.name y)),(.inr "least",.int l),(.inr "most",.int mo)])/\σ'=[si c,sr a1,sr a2,si m2,sr d],?_,?_⟩
 . obtain⟨mo,hl,ix⟩:=at3 60 (m2/600 % 8) (m2/600 % 61) (m2/3)
   refine⟨_,rfl,_,_,rfl,rfl,dv (n:=600) (by decide) (by decide+kernel),_,_,rfl,rfl,(by decide:(0:Int)<8),_,rfl,_,_,rfl,rfl,dv (n:=600) (by decide) (by decide+kernel),_,_,rfl,rfl,(by decide:(0:Int)<61),z3,fun p np=>?_⟩
   have up:=B7.upd (o:= .lst [.int 60,.int (m2/600 % 8),.int (m2/600 % 61)]) np
   have ed':=up _ _ ed
   have e2':=up _ _ e2
   refine⟨_,rfl,_,_,rfl,rfl,dv (n:=3) (by decide) (by decide+kernel),_,_,rfl,rfl,(by decide:(0:Int)<3),p,_,_,_,rfl,rfl,SqL.of A7,ix,_,rfl,d,_,rfl,C9b.k (k:= .inr "most") ed' (Y0 (by show 3<=1000;decide)),?_⟩
   exact⟨mo,keepS (s7.trans up),by omega,by omega,by rw[C9 (n2d e2' ed')];exact e2',by rw[put4];exact A7,rfl⟩
 rintro σ' H8 ⟨mo,s8,m1,m2',e2,ed,rfl⟩
 refine⟨fun σ' H'=>B7 H H'/\H' a2=some (.lst A7a)/\H' d=some (.dK (k5 r y l mo))/\σ'=[si c,sr a1,sr a2,si m2,sr d],?_,?_⟩
 . have g1:A5j H8 d (.str "least") (some (.int l)):=A5j.k (k:= .inr "least") ed
   have g2:A5j H8 d (.str "room") (some (.int r)):=A5j.k (k:= .inr "room") ed
   refine⟨_,rfl,d,_,rfl,g1,_,rfl,d,_,rfl,g2,_,_,rfl,rfl,_,_,rfl,rfl,_,rfl,d,_,rfl,C9b.k (k:= .inr "lowest") ed (Y0 (by show 4<=1000;decide)),?_⟩
   exact⟨keepS s8,by rw[C9 (n2d e2 ed)];exact e2,by rw[put5];exact A7,rfl⟩
 rintro σ' H9 ⟨s9,e2,ed,rfl⟩
 refine⟨fun σ' H'=>∃m:Int,H'=H9/\0<=m/\σ'=[si c,sr a1,sr a2,si m,sr d],⟨_,rfl,c,32,rfl,by decide,by decide,fun m m0 _=>⟨m,rfl,m0,rfl⟩⟩,?_⟩
 rintro σ' H10 ⟨m3,rfl,q3,rfl⟩
 refine⟨fun σ' H'=>∃u up,B7 H H'/\H u=none/\A2z up/\H' a2=some (.lst A7a)/\H' u=some (.lst (up.map V.str))/\H' d=some (.dK (k5 r y l mo++ [(.inr "up",.ref u)]))/\σ'=[si c,sr a1,sr a2,si m3,sr d],?_,?_⟩
 . refine⟨7,rfl,by decide,by decide,C7z (J:=Itr 0 7) (n:=7) (fun i=>decide (m3 % 3=1)&&decide (m3/(3*2^((0:Int)+(i:Int)).toNat) % 2=1)) (fun i y _=>A7a[i]?=some y) (by decide) (fun _ _ _ _ _ _ h _ _=>h) (fun i H2 Qy Qn hi sm hy hn=>⟨hi,fun x H3 yl=>?_⟩) (fun H2 sm=>Nat.le_refl _) (fun D' H' ys sm nD eD hlen hR=>?_)⟩
   . obtain⟨rfl,rfl⟩:=yl
     refine⟨_,rfl,_,_,rfl,rfl,(by decide:(0:Int)<3),rfl,_,rfl,V8 (fun h1=>?_) (fun h1=>?_)⟩
     . have h1:m3 % 3=1:=V.int.inj h1
       refine⟨_,rfl,_,rfl,_,_,rfl,rfl,⟨by show 0<=(0:Int)+i;omega,by show(0:Int)+i<=1000000;omega,by decide⟩,_,_,rfl,rfl,sh3 i hi,_,_,rfl,rfl,(by decide:(0:Int)<2),rfl,_,rfl,V8 (fun h2=>?_) (fun h2=>?_)⟩
       . have h2:m3/(3*2^((0:Int)+(i:Int)).toNat) % 2=1:=V.int.inj h2
         exact⟨_,rfl,_,rfl,a2,_,_,_,rfl,rfl,SqL.of (sm _ _ e2),V0b hi,hy (by rw[decide_eq_true h1,decide_eq_true h2];rfl) _ _ (B7.refl _) (G0m i hi)⟩
       . have h2:¬m3/(3*2^((0:Int)+(i:Int)).toNat) % 2=1:=fun e=>h2 (congrArg V.int e)
         exact hn (by rw[decide_eq_false h2,Bool.and_false]) _ (B7.refl _)
     . have h1:¬m3 % 3=1:=fun e=>h1 (congrArg V.int e)
       exact U8 (hn (by rw[decide_eq_false h1];rfl) _ (B7.refl _))
   . obtain⟨zs,hz,rfl⟩:∃zs,A2z zs/\ys=zs.map V.str:=⟨_,J0w _,V0e hlen hR⟩
     have ed':=sm _ _ ed
     have e2':=sm _ _ e2
     have nDd:D'≠d:=Ne.symm (D8 ed nD)
     refine⟨_,rfl,d,_,rfl,C9b.k (k:= .inr "up") ed' (Y0 (by show 5<=1000;decide)),?_⟩
     refine⟨D',zs,keepS (s9.trans sm),s9.free nD,hz,by rw[C9 (n2d e2' ed')];exact e2',?_,by rw[put6];exact A7,rfl⟩
     rw[C9 nDd,eD]
 rintro σ' H11 ⟨u,up,s11,nu,su,e2,eu,ed,rfl⟩
 refine⟨fun σ' H'=>∃t tr,B7 H H'/\H t=none/\A2z tr/\V7 H' d u t r y l mo up tr/\σ'=[si c,sr a1,sr a2,si m3,sr d],?_,?_⟩
 . refine⟨7,rfl,by decide,by decide,C7z (J:=Itr 0 7) (n:=7) (fun i=>decide (m3/400 % 3=1)&&decide (m3/(1200*2^((0:Int)+(i:Int)).toNat) % 2=1)) (fun i y _=>A7a[i]?=some y) (by decide) (fun _ _ _ _ _ _ h _ _=>h) (fun i H2 Qy Qn hi sm hy hn=>⟨hi,fun x H3 yl=>?_⟩) (fun H2 sm=>Nat.le_refl _) (fun D' H' ys sm nD eD hlen hR=>?_)⟩
   . obtain⟨rfl,rfl⟩:=yl
     refine⟨_,rfl,_,_,rfl,rfl,dv (n:=400) (by decide) (by decide+kernel),_,_,rfl,rfl,(by decide:(0:Int)<3),rfl,_,rfl,V8 (fun h1=>?_) (fun h1=>?_)⟩
     . have h1:m3/400 % 3=1:=V.int.inj h1
       refine⟨_,rfl,_,rfl,_,_,rfl,rfl,⟨by show 0<=(0:Int)+i;omega,by show(0:Int)+i<=1000000;omega,by decide⟩,_,_,rfl,rfl,A0fs i hi,_,_,rfl,rfl,(by decide:(0:Int)<2),rfl,_,rfl,V8 (fun h2=>?_) (fun h2=>?_)⟩
       . have h2:m3/(1200*2^((0:Int)+(i:Int)).toNat) % 2=1:=V.int.inj h2
         exact⟨_,rfl,_,rfl,a2,_,_,_,rfl,rfl,SqL.of (sm _ _ e2),V0b hi,hy (by rw[decide_eq_true h1,decide_eq_true h2];rfl) _ _ (B7.refl _) (G0m i hi)⟩
       . have h2:¬m3/(1200*2^((0:Int)+(i:Int)).toNat) % 2=1:=fun e=>h2 (congrArg V.int e)
         exact hn (by rw[decide_eq_false h2,Bool.and_false]) _ (B7.refl _)
     . have h1:¬m3/400 % 3=1:=fun e=>h1 (congrArg V.int e)
       exact U8 (hn (by rw[decide_eq_false h1];rfl) _ (B7.refl _))
   . obtain⟨zs,hz,rfl⟩:∃zs,A2z zs/\ys=zs.map V.str:=⟨_,J0w _,V0e hlen hR⟩
     have ed':=sm _ _ ed
     have eu':=sm _ _ eu
     have nDd:D'≠d:=Ne.symm (D8 ed nD)
     have nud:u≠d:=G9 eu ed (by intro z;cases z)
     refine⟨_,rfl,d,_,rfl,C9b.k (k:= .inr "trapped") ed' (Y0 (by show 6<=1000;decide)),?_⟩
     refine⟨D',zs,keepS (s11.trans sm),s11.free nD,hz,⟨by rw[put7];exact A7,by rw[C9 nud];exact eu',?_⟩,rfl⟩
     rw[C9 nDd,eD]
 rintro σ' H12 ⟨t,tr,s12,nt,st,own,rfl⟩
 exact⟨_,rfl,k d u t r y l mo up tr H12 s12 nd nu nt ⟨r1,r2,l1,l2,m1,m2'⟩ su st own⟩
noncomputable abbrev A2a:Stmt:=(top 82)
theorem V7.exc{H H':Hp}{d u t p:Addr}{r l m:Int}{y:Wy}{up tr:List Str}(h:V7 H d u t r y l m up tr)(x:Exc p H H')(h1:d≠p)(h2:u≠p)(h3:t≠p):V7 H' d u t r y l m up tr:=⟨x _ _ h.d h1,x _ _ h.u h2,x _ _ h.t h3⟩
theorem V7.gRoom{H:Hp}{d u t:Addr}{r l m:Int}{y:Wy}{up tr:List Str}(h:V7 H d u t r y l m up tr):A5j H d (.str "room") (some (.int r)):=A5j.k (k:= .inr "room") h.d
theorem V7.gWay{H:Hp}{d u t:Addr}{r l m:Int}{y:Wy}{up tr:List Str}(h:V7 H d u t r y l m up tr):A5j H d (.str "way") (some (.str y.name)):=A5j.k (k:= .inr "way") h.d
theorem V7.gLeast{H:Hp}{d u t:Addr}{r l m:Int}{y:Wy}{up tr:List Str}(h:V7 H d u t r y l m up tr):A5j H d (.str "least") (some (.int l)):=A5j.k (k:= .inr "least") h.d
theorem V7.gMost{H:Hp}{d u t:Addr}{r l m:Int}{y:Wy}{up tr:List Str}(h:V7 H d u t r y l m up tr):A5j H d (.str "most") (some (.int m)):=A5j.k (k:= .inr "most") h.d
theorem V7.gLowest{H:Hp}{d u t:Addr}{r l m:Int}{y:Wy}{up tr:List Str}(h:V7 H d u t r y l m up tr):A5j H d (.str "lowest") (some (.int (l-r+1))):=A5j.k (k:= .inr "lowest") h.d
theorem V7.gUp{H:Hp}{d u t:Addr}{r l m:Int}{y:Wy}{up tr:List Str}(h:V7 H d u t r y l m up tr):A5j H d (.str "up") (some (.ref u)):=A5j.k (k:= .inr "up") h.d
theorem V7.gTr{H:Hp}{d u t:Addr}{r l m:Int}{y:Wy}{up tr:List Str}(h:V7 H d u t r y l m up tr):A5j H d (.str "trapped") (some (.ref t)):=A5j.k (k:= .inr "trapped") h.d
noncomputable def C7s (CC:Addr):Sp:=fun vs H Q _=>∃d u t r y l m up tr,vs=[.ref d]/\V7 H d u t r y l m up tr/\A6b r l m/\A2z up/\A2z tr/\∀c a b H',B7 H H' ->H c=none ->U4 CC H' c r y l m a b (up.map V.str) (tr.map V.str) ->Q (.ref c) H'
theorem scLContext:B9 ["_law_own_here","_law_context_here"] Q27 (A1 A2a):=scK
theorem J3a{f CC CB CT fI:Addr}{fd fdI:FuncData}(D:Def K mg "_law_context" Q27 A2a f fd)(M:A0ek P w K mg base CC CB fI fdI)(b4:A0p K fdI Q35 [])(C:C0w K mg CC)(MD:Has P w K mg base CC "raised" 3 Q13 (B8y K CC CB CT))(MT:Has P w K mg base CC "trap" 2 Q13 (J9e K CC CB))(O:Own mg):
   sI P w K mg base 5 f fd Q27 (C7s CC):=by
 refine D.F.okE scLContext (fun vs H Q E h=>?_) (fun X cdv A outer s H vs Q E hX hr hx h=>?_)
 . obtain⟨d,u,t,r,y,l,m,up,tr,rfl,_⟩:=h
   rfl
 subst hX
 obtain⟨d,u,t,r,y,l,m,up,tr,rfl,ow,fr,su,st,k⟩:=h
 obtain⟨fr',fdr,mr,gr,br⟩:=MD
 obtain⟨ft,fdt,mt,gt,bt⟩:=MT
 have HU:=hr.units
 refine⟨_,(A8 (C6 (D7 (i:=1) scLContext.nd rfl (Or.inl rfl) (C5z M.m M.g hr C.g b4 .nil hx (A0 (U9 (Nat.lt_of_le_of_lt (Nat.add_le_add_left (by decide) _) HU) (pv 0) B3 (fun _ _=>rfl)) (A0 (U9 (Nat.lt_of_le_of_lt (Nat.add_le_add_left (by decide) _) HU) (pv 0) B3 (fun _ _=>rfl)) (A0 (U9 (Nat.lt_of_le_of_lt (Nat.add_le_add_left (by decide) _) HU) (pv 0) B3 (fun _ _=>rfl)) (A0 (U9 (Nat.lt_of_le_of_lt (Nat.add_le_add_left (by decide) _) HU) (pv 0) B3 (fun _ _=>rfl)) A6))))))) (A8 (C6 (J9 (C5s (pv 1) C.cl mr gr hr br .nil hx (A0 (Y7 A7x (by rfl) O.list_ boot_list (A0 (U9 (Nat.lt_of_le_of_lt (Nat.add_le_add_left (by decide) _) HU) (pv 0) B3 (fun _ _=>rfl)) A6)) A6)))) (A8 (C6 (J9 (C5s (pv 1) C.cl mt gt hr bt .nil hx (A0 (A0gr (U9 (Nat.lt_of_le_of_lt (Nat.add_le_add_left (by decide) _) HU) (pv 0) B3 (fun _ _=>rfl)) (B1a A5f A3)) A6)))) (B0 (C7 (pv 1)))))),?_⟩
 refine⟨fun σ' H'=>∃c a b,B7 H H'/\H c=none/\U4 CC H' c r y l m a b [] []/\σ'=[sr d,sr c],?_,?_⟩
 . refine⟨_,rfl,d,_,rfl,ow.gRoom,_,rfl,d,_,rfl,ow.gWay,_,rfl,d,_,rfl,ow.gLeast,_,rfl,d,_,rfl,ow.gMost,fun x dx n1 n2 ne=>?_⟩
   exact A0ny n1 n2 ne rfl fr.r1 fr.r2 rfl (.inr ⟨rfl,fr.l1,fr.l2⟩) rfl fr.m1 fr.m2 fun a b H4 s4 hc=>⟨rfl,x,a,b,s4,n1,hc,rfl⟩
 rintro σ' H1 ⟨c,a,b,s1,nc,hc,rfl⟩
 refine⟨fun σ' H'=>∃a,B7 H H'/\U4 CC H' c r y l m a b (up.map V.str) []/\σ'=[sr d,sr c],?_,?_⟩
 . obtain⟨dx,e⟩:=hc.ins
   have ow1:=ow.same s1
   refine⟨_,rfl,c,dx,_,rfl,e,A6p _ _ _ _ _ _,_,rfl,d,_,rfl,ow1.gUp,u,_,rfl,.inl (SqL.of ow1.u),fun p np=>?_⟩
   have uq:=B7.upd (o:= .lst (up.map V.str)) np
   refine⟨c,r,y,l,m,a,b,[],[],_,rfl,hc.same uq,by show 0+100<=1000;decide,.inl ⟨p,up,rfl,A7,Nat.le_trans su.len (by decide),su.mem,fun _ a' H2 x2 na c2=>⟨a',fun q o hq=>?_,?_,rfl⟩,fun t ht=>by cases ht⟩⟩
   . exact x2 _ _ (uq _ _ (s1 _ _ hq)) (D8 hq nc)
   . have:=C7v (ws:=[]++up) su (fun z=>by simp)
     rw[this] at c2
     exact c2
 rintro σ' H2 ⟨a,s2,hc2,rfl⟩
 refine⟨fun σ' H'=>∃b,B7 H H'/\U4 CC H' c r y l m a b (up.map V.str) (tr.map V.str)/\σ'=[sr d,sr c],?_,?_⟩
 . obtain⟨dx,e⟩:=hc2.ins
   have ow1:=ow.same s2
   refine⟨_,rfl,c,dx,_,rfl,e,J2f _ _ _ _ _ _,_,rfl,d,_,rfl,ow1.gTr,_,rfl,rfl,t,_,rfl,SqL.of ow1.t,fun p np=>?_⟩
   have uq:=B7.upd (o:= .lst (tr.map V.str).reverse) np
   refine⟨c,r,y,l,m,a,b,_,_,_,rfl,hc2.same uq,.inl ⟨p,tr.reverse,rfl,by rw[List.map_reverse];exact A7,fun z hz=>st.mem z (List.mem_reverse.mp hz),fun b' H3 x3 nb c3=>⟨b',fun q o hq=>?_,?_,rfl⟩⟩⟩
   . exact x3 _ _ (uq _ _ (s2 _ _ hq)) (D8 hq nc)
   . rw[C7v (ws:=tr.reverse) st (fun z=>List.mem_reverse)] at c3
     exact c3
 rintro σ' H3 ⟨b,s3,hc3,rfl⟩
 exact⟨_,rfl,k c a b H3 s3 nc hc3⟩
noncomputable abbrev A8m:Stmt:=(top 89)
structure V1r(K:Frag)(mg:Str ->Option Value)(CT:Addr):Prop where
 gT:mg "Trapped"=some (.ref CT)
 c:G1q K CT
 sub:subIn K (.ref CT) (.ref CT)=some true
 k:D3u K CT
 dict:∃cd,clsIn K CT=some cd/\cd.hasDict=true
 nosig:findIn K (.ref CT) "signal"=some none
theorem Y2p{X:Cx}{e:Expr}{f:Str}{pos:Pos}{ta:TE}(hK:X.K=K)(he:PE X e ta)(hb:attributeBase e f X.env (eval e X.env)=eval e X.env):PE X (.Attribute e f pos) (A0eh K ta f):=by
 subst hK
 exact A0aa he hb
theorem J1h{X:Cx}{k:Nat}{EH:EK}{x:Str}{p pos:Pos}{i:Nat}(hx:G5 X EH)(hr:Z5 k X.A)(hN:X.N[i]?=some x)(hv:Vis X.env.scope x)(e1:X.prog=P)(e2:X.w=w)(e3:X.K=K)(e4:X.mg=mg)(e5:X.base=base)(hex:X.ex=[]:=by rfl)(hd:(x==("__debug__":Str))=false:=by decide)(hcd:(x==("__classdict__":Str))=false:=by decide):
   PE X (.Call (.Name x p) [] [] pos) (A0ef P w K mg base k i EH):=by
 subst e1 e2 e3 e4 e5
 exact Z9n hN hv hr hx hex hd hcd
noncomputable def A0nu (CN:Addr) (Q:VK):VK:=fun v H1=>∃n x,v= .ref n/\U0 CN H1 n x/\∀t,H1 t=none ->Q (.ref t) (upd H1 t (.tup (Nm.vs x)))
noncomputable def A0my (CT:Addr) (Q:VK):XK:=fun C dd H1=>∃d sg,C= .ref CT/\dd=some d/\H1 d=some (.xd [("signal",.str sg)])/\∀t H2,B7 H1 H2 ->H1 t=none ->H2 t=some (.tup [.str "trapped",.str sg]) ->Q (.ref t) H2
noncomputable def J2v (P:Program) (w:World) (K:Frag) (mg:Str ->Option Value) (base:Heap) (k:Nat) (CN CT:Addr):Sp:=fun vs H Q _=>∃f J spd,vs=[.ref f]/\B2e P w K mg base k f J spd/\J H/\
 ∀(Qd:VK) (Ed:XK),(∀v H1,A0nu CN Q v H1 ->Qd v H1) ->(∀C dd H1,A0my CT Q C dd H1 ->Ed C dd H1) ->spd H Qd Ed
theorem scLTried:B9 ["_law_deed","error"] ["_law_deed"] (A1 A8m):=scK
theorem V2x{k:Nat}{f f1 CN CB CT:Addr}(hk:2<=k)(D:Def K mg "_law_tried" ["_law_deed"] A8m f fd)(dA:Def K mg "told" ["number"] C5t f1 fd1)(dB:sI P w K mg base 2 f1 fd1 ["number"] (J8t K CN CB))(R:V1r K mg CT):
   sI P w K mg base (k+1) f fd ["_law_deed"] (J2v P w K mg base k CN CT):=by
 refine D.F.okE scLTried (fun vs H Q E h=>?_) (fun X cdv A outer s H vs Q E hX hr hx h=>?_)
 . obtain⟨f,J,spd,rfl,_⟩:=h
   rfl
 subst hX
 obtain⟨g,J,spd,rfl,DO,hJ,h⟩:=h
 have z2:2<=sizeLine:=D3 (by decide)
 refine⟨_,(B0 (Y1m ⟨rfl,rfl,rfl⟩ (by rfl) R.gT R.c scLTried.nd (i:=1) rfl rfl (fun pins Ew EHb hc=>(B0 (C7 (D5 (hj:=hk) dA dB hr hc (A0 (J1h (P:=P) (w:=w) (K:=K) (mg:=mg) (base:=base) (i:=0) hc hr rfl (.inl rfl) rfl rfl rfl rfl rfl) A6))))) (fun pins a=>(B0 (C7 (V3 (A0 B3 (A0 (Y2p (K:=K) rfl (pv 1) rfl) A6)))))))),?_⟩
 refine⟨g,J,_,rfl,DO,hJ,h _ _ (fun v H1 ⟨n,x,ev,num,k⟩=>?_) (fun C dd H1 ⟨d,sg,eC,ed,e,k⟩=>?_)⟩
 . subst ev
   exact⟨_,rfl,.inl ⟨n,_,_,_,_,rfl,num,k⟩⟩
 subst eC ed
 refine⟨R.sub,fun a t T na=>?_⟩
 have u:=B7.upd (o:= .frz (A0s (.ref CT) t (some d) (.ref T)) (.own a)) na
 have u2:∀p,upd H1 a (.frz (A0s (.ref CT) t (some d) (.ref T)) (.own a)) p=none ->H1 p=none:=fun p np=>u.free np
 refine⟨_,rfl,a,CT,_,_,d,_,_,_,rfl,A7,u _ _ e,R.k,R.dict,R.nosig,rfl,z2,fun p np=>?_⟩
 exact k p _ (u.trans (B7.upd np)) (u2 p np) A7
noncomputable def A7t (k:Str) (s f p:Int):PyData:= .tuple [.str k,.int s,.int f,.int p]
theorem shD{k:Str}(s f p:Int)(h:PyData.strOk k=true):SeqAt.shaped (A7t k s f p)=true:=by
 unfold SeqAt.shaped A7t
 simp[PyData.canLay0,PyData.canLayAll0,PyData.depth,PyData.depthAll,h]
theorem eqD(k:Str)(s f p:Int):PyData.eqv (A7t k s f p) (A7t k s f p)=true:=by
 simp[A7t,PyData.eqv,PyData.eqvAll]
theorem rdD{K:Frag}{H:Hp}{d:Addr}{k:Str}{s f p:Int}(h:H d=some (.tup [.str k,.int s,.int f,.int p])):RdD K H (.ref d) (A7t k s f p):= .tup (SqT.of h) (.cons (.str _) (.cons (.int _) (.cons (.int _) (.cons (.int _) .nil))))
theorem okK(k:Kd):PyData.strOk k.str=true:=by cases k<;>decide+kernel
noncomputable def C0j (d:PyData):Prop:=d.showable=true/\d.depth<=2/\d.shown.length<=100
theorem D6z:∀ds:List PyData,PyData.shownAll ds=ds.map PyData.shown
 | []=>by simp[PyData.shownAll]
 |d::ds=>by simp[PyData.shownAll,D6z ds]
theorem B0z:∀{ds:List PyData},(∀d∈ds,C0j d) ->PyData.showableAll ds=true/\PyData.depthAll ds<=3
 | [],_=>by simp[PyData.showableAll,PyData.depthAll]
 | d ::ds,h=>by
   obtain⟨a,b⟩:=B0z (ds:=ds) fun d' h'=>h d' (List.mem_cons_of_mem _ h')
   obtain⟨c,e,_⟩:=h d List.mem_cons_self
   constructor
   . simp[PyData.showableAll,a,c]
   . simp only[PyData.depthAll]
     omega
theorem A0fb{ds:List PyData}(h:∀d∈ds,C0j d):((ds.map PyData.shown).map (fun x=>x.length)).sum<=100*ds.length:=by
 induction ds with
 |nil=>simp
 | cons d ds ih=>
   have:=ih fun d' h'=>h d' (List.mem_cons_of_mem _ h')
   have:=(h d List.mem_cons_self).2.2
   simp only[List.map_cons,List.sum_cons,List.length_cons]
   omega
theorem Y0f{ds:List PyData}(h:∀d∈ds,C0j d)(hl:ds.length<=5):A1f (.tuple ds):=by
 obtain⟨a,b⟩:=B0z h
 refine⟨by simpa[PyData.showable] using a,by simp only[PyData.depth];omega,?_⟩
 have h1:=tupleText_len_le (ds.map PyData.shown)
 have h2:=A0fb h
 rw[PyData.shown,D6z]
 refine D3 ?_
 rw[List.length_map] at h1
 omega
theorem D7x{i:Int}(h:i.natAbs<10^61):C0j (.int i):=by
 refine⟨?_,by simp[PyData.depth],?_⟩
 . simp only[PyData.showable,decide_eq_true_eq]
   have h0:i.natAbs<2^300:=Nat.lt_of_lt_of_le h (by decide+kernel)
   have h1:=Nat.log2_lt (n:=i.natAbs) (k:=300)
   by_cases z:i.natAbs=0
   . rw[z];decide+kernel
   . exact Nat.lt_trans ((h1 z).mpr h0) (by decide)
 have:=int_text_length_le10 (a:=i) (k:=61) (by decide) h
 simp only[PyData.shown]
 rw[PySem.ofString_length]
 omega
theorem A0ec(k:Kd):C0j (.str k.str):=by
 cases k<;>exact⟨by simp[PyData.showable],by simp[PyData.depth],by decide+kernel⟩
theorem A0nv{z:Str}(h:z∈A0u):C0j (.str z):=by
 have:∀z∈A0u,(PyData.shown (.str z)).length<=100:=by decide+kernel
 exact⟨by simp[PyData.showable],by simp[PyData.depth],this z h⟩
theorem A0mj{x:Nm}(ok:x.Ok):A1f (A7t x.k.str x.s x.f x.p):=Y0f (fun d hd=>by
 have h60:(10:Int)^60<10^61:=by decide+kernel
 have q1:=ok.s0;have q2:=ok.s1;have q3:=ok.f0;have q4:=ok.f1;have q5:=ok.p0;have q6:=ok.p1
 simp only[List.mem_cons,List.not_mem_nil,or_false] at hd
 rcases hd with rfl|rfl|rfl|rfl
 . exact A0ec _
 . exact D7x (Nat.lt_of_le_of_lt (by omega:x.s.natAbs<=1) (by decide+kernel))
 . exact D7x (Nat.lt_of_lt_of_le (by omega:x.f.natAbs<10^60) (by decide+kernel))
 . exact D7x (Nat.lt_of_le_of_lt (by omega:x.p.natAbs<=200) (by decide+kernel))) (by show 4<=5;decide)
theorem A0pw{x:Nm}(h1:x.s.natAbs<10^61)(h2:x.f.natAbs<10^61)(h3:x.p.natAbs<10^61):A1f (A7t x.k.str x.s x.f x.p):=Y0f (fun d hd=>by
 simp only[List.mem_cons,List.not_mem_nil,or_false] at hd
 rcases hd with rfl|rfl|rfl|rfl
 . exact A0ec _
 . exact D7x h1
 . exact D7x h2
 . exact D7x h3) (by show 4<=5;decide)
theorem A0fe{z:Str}(h:z∈A0u):A1f (.tuple [.str "trapped",.str z]):=Y0f (fun d hd=>by
 simp only[List.mem_cons,List.not_mem_nil,or_false] at hd
 rcases hd with rfl|rfl
 . exact⟨by simp[PyData.showable],by simp[PyData.depth],by decide+kernel⟩
 . exact A0nv h) (by show 2<=5;decide)
noncomputable abbrev A4j:Stmt:=(top 90)
noncomputable def A5r (c d:Addr) (H H':Hp):Prop:=∀b o,H b=some o ->b≠c ->b≠d ->H' b=some o
theorem A5r.trans{c d:Addr}{H H1 H2:Hp}(a:A5r c d H H1)(b:A5r c d H1 H2):A5r c d H H2:=fun x o h n m=>b x o (a x o h n m) n m
theorem A5r.l{c d:Addr}{H H':Hp}(a:Exc c H H'):A5r c d H H':=fun x o h n _=>a x o h n
theorem A5r.r{c d:Addr}{H H':Hp}(a:Exc d H H'):A5r c d H H':=fun x o h _ n=>a x o h n
theorem A5r.s{c d:Addr}{H H':Hp}(a:B7 H H'):A5r c d H H':=fun x o h _ _=>a x o h
theorem U4.exc{CC c a b p:Addr}{H H':Hp}{r l m:Int}{y:Wy}{xs ys:List V}(h:U4 CC H c r y l m a b xs ys)(x:Exc p H H')(h1:c≠p)(h2:a≠p)(h3:b≠p):U4 CC H' c r y l m a b xs ys:=by
 obtain⟨⟨dx,e⟩,ha,hb⟩:=h
 exact⟨⟨dx,x _ _ e h1⟩,x _ _ ha h2,x _ _ hb h3⟩
theorem A0fv(up zs:List Str):(A0u.filter fun z=>up.contains z||(Y5 zs).contains z)=Y5 (up++zs):=by
 unfold Y5
 refine List.filter_congr fun z hz=>?_
 rw[Bool.eq_iff_iff]
 simp[List.mem_filter,hz]
theorem J8d{tr zs:List Str}(h:A2z tr):((Y5 zs).filter fun z=>tr.contains z).head?=hit tr zs:=by
 obtain⟨p,rfl⟩:=h
 unfold hit Y5
 rw[<-List.head?_filter,List.filter_filter,List.filter_filter]
 congr 1
 refine List.filter_congr fun z hz=>?_
 rw[Bool.eq_iff_iff]
 simp[List.mem_filter,hz]
 exact And.comm
theorem Z8v(z:Str)(zs:List Str):PyData.eqv (rdS (z::zs)) (rdS [])=false:=by
 simp[rdS,PyData.eqv,PyData.eqvAll]
theorem V3f{K:Frag}{H:Hp}{σ σf:L2.St}{a:Addr}{zs:List Str}{f:Str ->Bool}{tc:TT}{te:TE}{Q:VK}{i:Nat}(hi:σ[i]?=some (some (.ref a)))(hl:SqL K H a (zs.map V.str))(hz:zs.length<=100)
   (ht:∀(z:Str) (H':Hp) (Qb:Bool ->Hp ->Prop),B7 H H' ->Qb (f z) H' ->tc (some (.str z)::σf) H' Qb) (he:∀(z:Str) (H':Hp) (Qv:VK),Qv (.str z) H' ->te (some (.str z)::σf) H' Qv)
   (k:∀D H',B7 H H' ->H D=none ->H' D=some (.lst ((zs.filter f).map V.str)) ->Q (.ref D) H') {js:List Nat} (hj:A5q js σ=σf):B1k 1 js (J1w K (tVar i)) (D7d 0) tc te σ H Q:=
 ⟨.ref a,hi,V9y (tc:=tc) (te:=te) (Q:=Q) (js:=js) (σ:=σ) hl hz ht he k hj⟩
noncomputable def Y3x (CN CC CT c:Addr) (r:Int) (y:Wy) (l m:Int) (b:Addr) (up tr zs:List Str) (x:Nm) (spd:Hp ->VK ->XK ->Prop) (H':Hp):Prop:=∀(Qd:VK) (Ed:XK),
 (∀n a' H1,hit tr zs=none ->Exc c H' H1 ->U4 CC H1 c r y l m a' b ((Y5 (up++zs)).map V.str) (tr.map V.str) ->U0 CN H1 n x ->Qd (.ref n) H1) ->
 (∀sg d' a' H1,hit tr zs=some sg ->Exc c H' H1 ->U4 CC H1 c r y l m a' b ((Y5 (up++zs)).map V.str) (tr.map V.str) ->H1 d'=some (.xd [("signal",.str sg)]) ->Ed (.ref CT) (some d') H1) ->spd H' Qd Ed
noncomputable def C0h (P:Program) (w:World) (K:Frag) (mg:Str ->Option Value) (base:Heap) (k:Nat) (CN CC CT:Addr):Sp:=fun vs H Q _=>∃c d g q dt dl a b u t r y l m,∃(up tr zs:List Str) (x:Nm) (J:Hp ->Prop) (spd:Hp ->VK ->XK ->Prop),vs=[.ref c,.ref d,.ref g,.ref q]/\
 U4 CC H c r y l m a b (up.map V.str) (tr.map V.str)/\V7 H d u t r y l m up tr/\A2z up/\A2z tr/\H q=some (.tup [.ref dt,.ref dl])/\H dt=some (.tup (Nm.vs x))/\H dl=some (.lst (zs.map V.str))/\zs.length<=100/\A1f (A7t x.k.str x.s x.f x.p)/\B2e P w K mg base k g J spd/\
 (∀H',Exc d H H' ->J H')/\(∀H',Exc d H H' ->U4 CC H' c r y l m a b (up.map V.str) (tr.map V.str) ->Y3x CN CC CT c r y l m b up tr zs x spd H')/\
 ∀a' u' H',A5r c d H H' ->U4 CC H' c r y l m a' b ((Y5 (up++zs)).map V.str) (tr.map V.str) ->V7 H' d u' t r y l m (Y5 (up++zs)) tr ->Q (.bl true) H'
theorem scLStands:B9 ["_law_context_here","_law_own_here","_law_deed","_law_due_here","_law_signals","_law_caught","_law_wanted","_law_found"] Q39 (A1 A4j):=scK
theorem J7t{k:Nat}{f f1 CN CC CT aS:Addr}(D:Def K mg "_law_stands" Q39 A4j f fd)(dA:Def K mg "_law_tried" ["_law_deed"] A8m f1 fd1)(dB:sI P w K mg base (k+1) f1 fd1 ["_law_deed"] (J2v P w K mg base k CN CT))
   (C:C0w K mg CC) (MF:Has P w K mg base CC "flags" 1 ["self"] (A8e CC)) (SG:SigK K mg aS) (O:Own mg):A1w P w K mg base (CX1 P w) (k+2) f fd Q39 (C0h P w K mg base k CN CC CT):=by
 refine D.F.okEG scLStands (fun vs H Q E h=>?_) (fun X cdv A outer s H vs Q E hX HG hr hx h=>?_)
 . obtain⟨c,d,g,q,dt,dl,a,b,u,t,r,y,l,m,up,tr,zs,x,J,spd,rfl,_⟩:=h
   rfl
 subst hX
 obtain⟨c,d,g,q,dt,dl,a,b,u,t,r,y,l,m,up,tr,zs,x,J,spd,rfl,hc,ow,su,st,eq,et,el,lz,ok,DO,hJ,hD,k⟩:=h
 obtain⟨ff,fdf,mf,gf,bf⟩:=MF
 have HU:=Nat.lt_of_le_of_lt (Nat.add_le_add_left (by decide:1<=64) _) hr.units
 refine⟨_,(A8 (C6 (D7 (i:=4) scLStands.nd rfl (Or.inr rfl) (C7p (N:=["_law_name"]) (F:=["_law_due_here"]) (js:=[3]) (D9.of1 ⟨rfl,by decide+kernel,by decide+kernel,by decide+kernel,by decide+kernel⟩ (by rfl) (by rfl) ⟨_,by rfl⟩ (by rfl) (by rfl)) (.inl hr.hd) (G0a (D3p SG.g)) rfl (fun C s₀ H₀ ex pn h=>Z2 (i:=0) (by decide+kernel:(["_law_name","_law_due_here"]:List Str).Nodup) rfl (Or.inl rfl)) (fun C s₀ H₀ ex pn h=>(D4 (A4q (K:=K) rfl) (pv 0) (V5 (Z8m (K:=K) rfl) (pv 1) A3 (fun _ _=>rfl)) (by rfl))) (fun C s₀ H₀ ex pn h=>(pv 0))))) (A8 (C6 (A8d HU (pv 1) B3 (C7p (N:=["_law_name"]) (F:=["_law_signals","_law_own_here"]) (js:=[4,1]) (D9.of2 ⟨rfl,by decide+kernel,by decide+kernel,by decide+kernel,by decide+kernel⟩ (by rfl) (by rfl) ⟨_,by rfl⟩ (by rfl) (by rfl) (by rfl) ⟨_,by rfl⟩ (by rfl) (by rfl)) (.inl hr.hd) (G0a (D3p SG.g)) rfl (fun C s₀ H₀ ex pn h=>Z2 (i:=0) (by decide+kernel:(["_law_name","_law_signals","_law_own_here"]:List Str).Nodup) rfl (Or.inl rfl)) (fun C s₀ H₀ ex pn h=>(PW.pt (D8p (D4 (A4q (K:=K) rfl) (pv 0) (U9 HU (pv 2) B3 (fun _ _=>rfl)) (by rfl)) (C0s (D4 (A4q (K:=K) rfl) (pv 0) (pv 1) (by rfl)))))) (fun C s₀ H₀ ex pn h=>(pv 0))) (by rfl))) (A8 (C6 (Y2e (i:=5) (N:=["_law_name"]) (F:=Q27) (js:=[1]) (D9.of1 ⟨rfl,by decide+kernel,by decide+kernel,by decide+kernel,by decide+kernel⟩ (by rfl) (by rfl) ⟨_,by rfl⟩ (by rfl) (by rfl)) (.inl hr.hd) (J2d (pv 4)) rfl (fun C s₀ H₀ ex pn h=>Z2 (i:=0) (by decide+kernel:(["_law_name","_law_own_here"]:List Str).Nodup) rfl (Or.inl rfl)) (fun C s₀ H₀ ex pn h=>(D4 (A4q (K:=K) rfl) (pv 0) (U9 HU (pv 1) B3 (fun _ _=>rfl)) (by rfl))) (fun C s₀ H₀ ex pn h=>(pv 0)) scLStands.nd rfl (Or.inl rfl))) (A8 (C6 (D7 (i:=6) scLStands.nd rfl (Or.inl rfl) (A4r (D4 (B6u hr.units) (pv 5) (U1 A6) (D0 _)) (V5 Y2 (pv 3) A3 (fun _ _=>rfl)) (V3 (A0 B3 (A0 (V5 A0a (pv 5) A3 (fun _ _=>rfl)) A6)))))) (A8 (C6 (D7 (i:=7) scLStands.nd rfl (Or.inl rfl) (D5 (hj:=Nat.le_refl _) dA dB hr hx (A0 (pv 2) A6)))) (B0 (C7 (A6r (G6 (B6u hr.units) (pv 7) (pv 6) (D0 _)) (A6r (G6 G7 (Y7 (D7q HG hr.units) (by rfl) O.str_ boot_str (A0 (pv 7) A6)) (Y7 (D7q HG hr.units) (by rfl) O.str_ boot_str (A0 (pv 6) A6)) (D0 _)) (A2e (G6 (B6u hr.units) (A6t (hj:=Nat.succ_le_succ (Nat.zero_le _)) (pv 0) C.cl mf gf hr bf .nil hx) (U9 HU (pv 1) B3 (fun _ _=>rfl)) (D0 _)))))))))))),?_⟩
 have z0:0<=sizeLine:=D3 (by decide)
 have z2:2<=sizeLine:=D3 (by decide)
 obtain⟨dx,ec⟩:=hc.ins
 have ncd:c≠d:=G9 ec ow.d (by intro z;cases z)
 have nad:a≠d:=G9 hc.ha ow.d (by intro z;cases z)
 have nbd:b≠d:=G9 hc.hb ow.d (by intro z;cases z)
 have nud:u≠d:=G9 ow.u ow.d (by intro z;cases z)
 have ntd:t≠d:=G9 ow.t ow.d (by intro z;cases z)
 have nqd:q≠d:=G9 eq ow.d (by intro z;cases z)
 have nTd:dt≠d:=G9 et ow.d (by intro z;cases z)
 have nqc:q≠c:=G9 eq ec (by intro z;cases z)
 have nTc:dt≠c:=G9 et ec (by intro z;cases z)
 have ix0:atI [V.ref dt,.ref dl] 0=some (.ref dt):=U7 (j:=0) rfl
 have ix1:atI [V.ref dt,.ref dl] 1=some (.ref dl):=U7 (j:=1) rfl
 refine⟨fun σ' H'=>∃s1,B7 H H'/\H s1=none/\H' s1=some (.lst ((Y5 zs).map V.str))/\σ'=[sr c,sr d,sr g,sr q,sr s1,none,none,none],?_,?_⟩
 . refine C7j (zs:=A0u) (f:=fun z=>zs.contains z) (σf:=[sr q]) SG.sq (by decide) (fun z H' Qb sm qq=>?_) (fun z H' Qv qq=>⟨_,rfl,qq⟩) (fun D H' sm nd e=>⟨D,sm,nd,e,rfl⟩) rfl
   refine⟨_,rfl,_,rfl,q,_,_,_,rfl,rfl,SqT.of (sm _ _ eq),ix1,dl,_,rfl,.inl (SqL.of (sm _ _ el)),rfl,A0g _,_,rfl,?_⟩
   show Qb (inV (.str z) (zs.map V.str)) H'
   rw[A1h]
   exact qq
 rintro σ' H1 ⟨s1,sm1,n1,e1,rfl⟩
 have ow1:=ow.same sm1
 refine⟨fun σ' H'=>∃u',Exc d H H'/\H' s1=some (.lst ((Y5 zs).map V.str))/\s1≠d/\u'≠d/\H u'=none/\V7 H' d u' t r y l m (Y5 (up++zs)) tr/\σ'=[sr c,sr d,sr g,sr q,sr s1,none,none,none],?_,?_⟩
 . refine C7j (zs:=A0u) (f:=fun z=>up.contains z||(Y5 zs).contains z) (σf:=[sr s1,sr d]) SG.sq (by decide) (fun z H' Qb sm qq=>?_) (fun z H' Qv qq=>⟨_,rfl,qq⟩) (fun D H' sm nd e=>?_) rfl
   . have o2:=ow1.same sm
     refine⟨_,rfl,_,rfl,d,_,rfl,o2.gUp,u,_,rfl,.inl (SqL.of o2.u),rfl,A0g _,_,rfl,?_⟩
     rw[A1h]
     cases hz:up.contains z with
     |true=>rw[hz] at qq;exact Z8 qq
     | false=>
       rw[hz] at qq
       refine U8 ⟨_,rfl,_,rfl,s1,_,rfl,.inl (SqL.of (sm _ _ e1)),rfl,A0g _,_,rfl,?_⟩
       rw[A1h]
       exact qq
   . have o2:=ow1.same sm
     rw[A0fv] at e
     refine⟨_,rfl,d,_,rfl,C9b.k (k:= .inr "up") o2.d (Y0 (by show 7<=1000;decide)),?_⟩
     have nDd:D≠d:=Ne.symm (D8 ow1.d nd)
     have ns1d:s1≠d:=G9 e1 ow1.d (by intro z;cases z)
     rw[put8]
     refine⟨D,fun p o hp np=>?_,by rw[C9 ns1d];exact sm _ _ e1,ns1d,nDd,sm1.free nd,⟨A7,by rw[C9 nDd];exact e,by rw[C9 ntd];exact o2.t⟩,rfl⟩
     rw[C9 np]
     exact sm _ _ (sm1 _ _ hp)
 rintro σ' H2 ⟨u',x2,e1,n1d,nu'd,nu',ow2,rfl⟩
 refine⟨fun σ' H'=>∃s2,B7 H2 H'/\H' s2=some (.lst (((Y5 zs).filter fun z=>tr.contains z).map V.str))/\σ'=[sr c,sr d,sr g,sr q,sr s1,sr s2,none,none],?_,?_⟩
 . refine V3f (zs:=Y5 zs) (f:=fun z=>tr.contains z) (σf:=[sr d]) rfl (SqL.of e1) (Nat.le_trans (List.length_filter_le _ _) (by decide)) (fun z H' Qb sm qq=>?_) (fun z H' Qv qq=>⟨_,rfl,qq⟩) (fun D H' sm nd e=>⟨D,sm,e,rfl⟩) rfl
   have o2:=ow2.same sm
   refine⟨_,rfl,_,rfl,d,_,rfl,o2.gTr,t,_,rfl,.inl (SqL.of o2.t),rfl,A0g _,_,rfl,?_⟩
   rw[A1h]
   exact qq
 rintro σ' H3 ⟨s2,sm3,e2,rfl⟩
 have x3:Exc d H H3:=x2.trans (.of sm3)
 have hh:=J8d (zs:=zs) st
 have hm:∀z∈(Y5 zs).filter fun z=>tr.contains z,z∈A0u:=fun z hz=>(List.mem_filter.mp (List.mem_filter.mp hz).1).1
 have okC:OkL ((Y5 zs).filter fun z=>tr.contains z):=⟨Nat.le_trans (List.length_filter_le _ _) (Nat.le_trans (List.length_filter_le _ _) (by decide)),fun z hz=>J1q z (hm z hz)⟩
 refine⟨fun σ' H'=>∃wd,B7 H3 H'/\((hit tr zs=none/\wd=dt)\/∃sg,hit tr zs=some sg/\sg∈A0u/\H' wd=some (.tup [.str "trapped",.str sg]))/\σ'=[sr c,sr d,sr g,sr q,sr s1,sr s2,sr wd,none],?_,?_⟩
 . generalize (Y5 zs).filter (fun z=>tr.contains z)=cs at e2 hh hm okC
   refine⟨_,rfl,z0,fun p np=>?_⟩
   have up:=B7.upd (o:= .lst []) np
   refine⟨rdS cs,rdS [],B1d (up _ _ e2),B1d A7,shS okC,shS ⟨by decide,by simp⟩,PyData.eqv (rdS cs) (rdS []),rfl,?_⟩
   cases cs with
   | nil=>
     rw[Z9y]
     refine Z8 ⟨_,rfl,q,_,_,_,rfl,rfl,SqT.of (up _ _ (sm3 _ _ (x2 _ _ eq nqd))),ix0,?_⟩
     exact⟨dt,up,.inl ⟨hh.symm,rfl⟩,rfl⟩
   | cons z cs=>
     rw[Z8v]
     refine U8 ⟨_,rfl,s2,_,_,_,rfl,rfl,SqL.of (up _ _ e2),U7 (j:=0) rfl,z2,fun v nv=>?_⟩
     exact⟨v,up.trans (B7.upd nv),.inr ⟨z,hh.symm,hm z List.mem_cons_self,A7⟩,rfl⟩
 rintro σ' H4 ⟨wd,sm4,hw,rfl⟩
 have x4:Exc d H H4:=x3.trans (.of sm4)
 have c4:=hc.exc x4 ncd nad nbd
 have ow4:=(ow2.same sm3).same sm4
 have et4:=x4 _ _ et nTd
 obtain⟨dx4,ec4⟩:=c4.ins
 have ndc:d≠c:=Ne.symm ncd
 have nuc:u'≠c:=G9 ow4.u ec4 (by intro z;cases z)
 have ntc:t≠c:=G9 ow4.t ec4 (by intro z;cases z)
 refine⟨fun σ' H'=>∃fo a' dd,A5r c d H H'/\U4 CC H' c r y l m a' b ((Y5 (up++zs)).map V.str) (tr.map V.str)/\V7 H' d u' t r y l m (Y5 (up++zs)) tr/\RdD K H' (.ref fo) dd/\RdD K H' (.ref wd) dd/\RdR H' (.ref fo) dd/\RdR H' (.ref wd) dd/\SeqAt.shaped dd=true/\PyData.eqv dd dd=true/\A1f dd/\
   σ'=[sr c,sr d,sr g,sr q,sr s1,sr s2,sr wd,sr fo],?_,?_⟩
 . refine⟨_,rfl,g,J,spd,rfl,DO,hJ H4 x4,fun Qd Ed hQ hE=>hD H4 x4 c4 Qd Ed (fun n a' H5 hn x5 c5 num=>hQ _ _ ⟨n,x,rfl,num,fun p np=>?_⟩) (fun sg d' a' H5 hs x5 c5 ed=>hE _ _ _ ⟨d',sg,rfl,rfl,ed,fun p H6 sm6 np e6=>?_⟩)⟩
   . have hwd:wd=dt:=by
       rcases hw with⟨_,h⟩|⟨sg,h,_⟩
       . exact h
       . rw[hn] at h;cases h
     subst hwd
     have u6:=B7.upd (o:= .tup (Nm.vs x)) np
     have et6:=u6 _ _ (x5 _ _ et4 nTc)
     refine⟨p,a',A7t x.k.str x.s x.f x.p,(A5r.r x4).trans ((A5r.l x5).trans (.s u6)),c5.same u6,(ow4.exc x5 ndc nuc ntc).same u6,rdD A7,rdD et6,.tup A7 (.cons (.str _) (.cons (.int _) (.cons (.int _) (.cons (.int _) .nil)))),.tup et6 (.cons (.str _) (.cons (.int _) (.cons (.int _) (.cons (.int _) .nil)))),shD _ _ _ (okK _),eqD _ _ _ _,ok,rfl⟩
   . obtain⟨sg',h1,h2,h3⟩:∃sg,hit tr zs=some sg/\sg∈A0u/\H4 wd=some (.tup [.str "trapped",.str sg]):=by
       rcases hw with⟨h,_⟩|h
       . rw[hs] at h;cases h
       . exact h
     rw[hs] at h1
     cases h1
     have nwc:wd≠c:=G9 h3 ec4 (by intro z;cases z)
     have e7:=sm6 _ _ (x5 _ _ h3 nwc)
     have shT:SeqAt.shaped (.tuple [.str "trapped",.str sg])=true:=by
       unfold SeqAt.shaped
       simp[PyData.canLay0,PyData.canLayAll0,PyData.depth,PyData.depthAll,J1q sg h2,(by decide+kernel:PyData.strOk "trapped"=true)]
     refine⟨p,a',.tuple [.str "trapped",.str sg],(A5r.r x4).trans ((A5r.l x5).trans (.s sm6)),c5.same sm6,(ow4.exc x5 ndc nuc ntc).same sm6,.tup (SqT.of e6) (.cons (.str _) (.cons (.str _) .nil)),.tup (SqT.of e7) (.cons (.str _) (.cons (.str _) .nil)),.tup e6 (.cons (.str _) (.cons (.str _) .nil)),.tup e7 (.cons (.str _) (.cons (.str _) .nil)),shT,?_,A0fe h2,rfl⟩
     simp[PyData.eqv,PyData.eqvAll]
 rintro σ' H5 ⟨fo,a',dd,x5,c5,ow5,r1,r2,q1,q2,sh,ee,so,rfl⟩
 refine⟨_,rfl,_,rfl,dd,dd,r1,r2,sh,sh,true,(by show V.bl (PyData.eqv dd dd)=_;rw[ee]),Z8 ?_⟩
 refine⟨_,rfl,fo,dd,rfl,q1,so,_,rfl,wd,dd,rfl,q2,so,rfl,_,rfl,A5u rfl ?_⟩
 obtain⟨dx5,ec5⟩:=c5.ins
 refine⟨_,rfl,c,dx5,_,rfl,ec5,B9a _ _ _ _ _ _,c,r,y,l,m,a',b,_,_,rfl,c5,fun p np=>?_⟩
 have u6:=B7.upd (o:= .lst ((Y5 (up++zs)).map V.str)) np
 have ow6:=ow5.same u6
 have okU:OkL (Y5 (up++zs)):=(Y0b _).ok
 refine⟨_,rfl,d,_,rfl,ow6.gUp,rdS (Y5 (up++zs)),rdS (Y5 (up++zs)),B1d A7,B1d ow6.u,shS okU,shS okU,?_⟩
 show Q (.bl (PyData.eqv (rdS (Y5 (up++zs))) (rdS (Y5 (up++zs))))) _
 rw[Z9y]
 exact k a' u' _ (x5.trans (.s u6)) (c5.same u6) ow6
structure J3c(CN CC CT P0:Addr)(pos:Pos)(qual:Str)(K:Frag)(sc:Addr)(ns:List Int)(d t c b:Addr)(r:Int)(y:Wy)(l m:Int)(up tr:List Str)(H:Hp)(a u:Addr):Prop where
 own:V7 H d u t r y l m up tr
 ctx:U4 CC H c r y l m a b (up.map V.str) (tr.map V.str)
 tab:TabOk P0 pos qual H
 scr:SqL K H sc (ns.map V.int)
theorem V7.keep{H H':Hp}{d u t:Addr}{r l m:Int}{y:Wy}{up tr:List Str}(h:V7 H d u t r y l m up tr)(s:C6r H H'):V7 H' d u t r y l m up tr:=⟨s _ _ (fun _ z=>by cases z) h.d,s _ _ (fun _ z=>by cases z) h.u,s _ _ (fun _ z=>by cases z) h.t⟩
theorem U4.keep{CC:Addr}{H H':Hp}{c:Addr}{r:Int}{y:Wy}{l m:Int}{a b:Addr}{xs ys:List V}(h:U4 CC H c r y l m a b xs ys)(s:C6r H H'):U4 CC H' c r y l m a b xs ys:=by
 obtain⟨⟨dx,e⟩,ha,hb⟩:=h
 exact⟨⟨dx,s _ _ (fun _ z=>by cases z) e⟩,s _ _ (fun _ z=>by cases z) ha,s _ _ (fun _ z=>by cases z) hb⟩
theorem U4.hide{CC:Addr}{H:Hp}{cs:List Addr}{c:Addr}{r:Int}{y:Wy}{l m:Int}{a b:Addr}{xs ys:List V}(h:U4 CC H c r y l m a b xs ys)(A:Z0 cs H):U4 CC (U6 cs H) c r y l m a b xs ys:=by
 obtain⟨⟨dx,e⟩,ha,hb⟩:=h
 exact⟨⟨dx,A.hide e (fun _ z=>by cases z)⟩,A.hide ha (fun _ z=>by cases z),A.hide hb (fun _ z=>by cases z)⟩
theorem V7.hide{H:Hp}{cs:List Addr}{d u t:Addr}{r l m:Int}{y:Wy}{up tr:List Str}(h:V7 H d u t r y l m up tr)(A:Z0 cs H):V7 (U6 cs H) d u t r y l m up tr:=⟨A.hide h.d (fun _ z=>by cases z),A.hide h.u (fun _ z=>by cases z),A.hide h.t (fun _ z=>by cases z)⟩
theorem U0.hide{CN:Addr}{H:Hp}{cs:List Addr}{n:Addr}{x:Nm}(h:U0 CN H n x)(A:Z0 cs H):U0 CN (U6 cs H) n x:=by
 obtain⟨dx,e⟩:=h
 exact⟨dx,A.hide e (fun _ z=>by cases z)⟩
theorem U0.back{CN:Addr}{H H':Hp}{cs:List Addr}{n:Addr}{x:Nm}(h:U0 CN H' n x)(hn:∀c∈cs,H' c=none):U0 CN (A0r cs H H') n x:=by
 obtain⟨dx,e⟩:=h
 exact⟨dx,by rw[Y1 fun z=>by rw[hn n z] at e;cases e];exact e⟩
section
variable{P:Program}{w:World}{K:Frag}{mg:Str ->Option Value}{base:Heap}
variable{CN CC CT P0:Addr}{pos:Pos}{qual:Str}{sc:Addr}{ns:List Int}{d t c b:Addr}{r:Int}{y:Wy}{l m:Int}{up tr:List Str}{H:Hp}{a u:Addr}
theorem J3c.same{H':Hp}(h:J3c CN CC CT P0 pos qual K sc ns d t c b r y l m up tr H a u)(s:B7 H H'):J3c CN CC CT P0 pos qual K sc ns d t c b r y l m up tr H' a u:=⟨h.own.same s,h.ctx.same s,h.tab.same s,s.seq h.scr⟩
end
theorem J1s(n q:Int):∃d:Nat,C8 n*C8 (0-q)=C8 (n-q)*((10^d:Nat):Int)/\C8 (-n)*C8 (-(0-q))=C8 (-(n-q))*((10^d:Nat):Int):=by
 refine⟨n.toNat+(0-q).toNat-(n-q).toNat,?_,?_⟩
 . unfold C8
   rw[<-Int.natCast_mul, <-Int.natCast_mul, <-Nat.pow_add, <-Nat.pow_add]
   congr 2
   omega
 unfold C8
 rw[<-Int.natCast_mul, <-Int.natCast_mul, <-Nat.pow_add, <-Nat.pow_add]
 congr 2
 omega
theorem J9r{l m k:Int}(hk:0<k):U2 (l*k) (m*k)=U2 l m:=by
 unfold U2
 have a:(0<l*k)↔0<l:=by
   constructor
   . intro h
     apply Classical.byContradiction
     intro z
     have:l*k<=0:=Int.mul_nonpos_of_nonpos_of_nonneg (by omega) (Int.le_of_lt hk)
     omega
   . intro h;exact Int.mul_pos h hk
 have e:2*(l*k)=2*l*k:=by rw[Int.mul_assoc]
 have b:(m*k<=2*(l*k))↔m<=2*l:=by
   rw[e]
   exact⟨fun h=>Int.le_of_mul_le_mul_right h hk,fun h=>Int.mul_le_mul_of_nonneg_right h (Int.le_of_lt hk)⟩
 have c:(m*k<2*(l*k))↔m<2*l:=by
   rw[e]
   exact⟨fun h=>Int.lt_of_mul_lt_mul_right h (Int.le_of_lt hk),fun h=>Int.mul_lt_mul_of_pos_right h hk⟩
 simp only[a,b,c]
theorem Y1t{t b n q:Int}(hb:0<b):whI (t*C8 n) (b*C8 (-n)) (0-q)=whI t b (n-q)/\ptI (t*C8 n) (b*C8 (-n)) (0-q)=ptI t b (n-q):=by
 obtain⟨d,e1,e2⟩:=J1s n q
 have hk:0<((10^d:Nat):Int):=Int.natCast_pos.mpr (Nat.pow_pos (by decide))
 have a:t*C8 n*C8 (0-q)=t*C8 (n-q)*((10^d:Nat):Int):=by rw[Int.mul_assoc,e1,Int.mul_assoc]
 have c:b*C8 (-n)*C8 (-(0-q))=b*C8 (-(n-q))*((10^d:Nat):Int):=by rw[Int.mul_assoc,e2,Int.mul_assoc]
 have w:whI (t*C8 n) (b*C8 (-n)) (0-q)=whI t b (n-q):=by
   unfold whI
   rw[a,c]
   exact Int.mul_ediv_mul_of_pos_left _ _ hk
 refine⟨w,?_⟩
 unfold ptI
 rw[w,a,c,show whI t b (n-q)*(b*C8 (-(n-q))*((10^d:Nat):Int))=whI t b (n-q)*(b*C8 (-(n-q)))*((10^d:Nat):Int) by ac_rfl, <-Int.sub_mul]
 exact J9r hk
theorem lead_scale{t b n L:Int}:A0m (t*C8 n) (b*C8 (-n)) (0-L)↔A0m t b (n-L):=by
 obtain⟨d,e1,e2⟩:=J1s n L
 have hk:0<((10^d:Nat):Int):=Int.natCast_pos.mpr (Nat.pow_pos (by decide))
 have a:t*C8 n*C8 (0-L)=t*C8 (n-L)*((10^d:Nat):Int):=by rw[Int.mul_assoc,e1,Int.mul_assoc]
 have c:b*C8 (-n)*C8 (-(0-L))=b*C8 (-(n-L))*((10^d:Nat):Int):=by rw[Int.mul_assoc,e2,Int.mul_assoc]
 unfold A0m
 rw[a,c,show 10*(b*C8 (-(n-L))*((10^d:Nat):Int))=10*(b*C8 (-(n-L)))*((10^d:Nat):Int) by ac_rfl]
 constructor
 . intro h
   exact⟨Int.le_of_mul_le_mul_right h.1 hk,Int.lt_of_mul_lt_mul_right h.2 (Int.le_of_lt hk)⟩
 intro h
 exact⟨Int.mul_le_mul_of_nonneg_right h.1 (Int.le_of_lt hk),Int.mul_lt_mul_of_pos_right h.2 hk⟩
theorem G0h(v:Cv)(s t b n L i:Int)(hb:0<b):Z6 v s (t*C8 n) (b*C8 (-n)) 0 L i=Z6 v s t b n L i:=by
 unfold Z6
 have:=Y1t (t:=t) (b:=b) (n:=n) (q:=v.fin L) hb
 rw[this.1,this.2]
theorem G1e(n:Nat)(h:1<=n):∃L:Nat,10^L<=n/\n<10^(L+1):=by
 induction n using Nat.strongRecOn with
 | ind n ih=>
   by_cases h10:n<10
   . exact⟨0,by simpa using h,by simpa using h10⟩
   . obtain⟨L,a,b⟩:=ih (n/10) (by omega) (by omega)
     refine⟨L+1,?_,?_⟩
     . rw[Nat.pow_succ];omega
     . rw[Nat.pow_succ];omega
theorem V0c{n j:Nat}(h1:n<10^(j+1))(h2:10^j<=n):C8p (n:Int)=(j:Int)+1:=by
 unfold C8p
 have e:(Str.ofString (toString (n:Int))).length=(Nat.toDigits 10 n).length:=by
   have:=congrArg List.length (KIN.signs_num n)
   rw[List.length_map] at this
   rw[<-this];rfl
 rw[e]
 have a:(Nat.toDigits 10 n).length<=j+1:=digits10_le (by omega) h1
 have b:j+1<=(Nat.toDigits 10 n).length:=digits10_ge h2
 omega
theorem D7t{c A B:Prop} [Decidable c] (h:¬c) (a:A):if(!decide c)=true then A else B:=by rw[decide_eq_false h];exact Z8 a
noncomputable abbrev B6t:Stmt:=(top 83)
noncomputable def Wy.code:Wy ->Nat
 | .down=>0
 | .up=>1
 | .floor=>2
 | .ceiling=>3
 | .halfUp=>4
 | .halfDown=>5
 | .halfEven=>6
 | .fiveUp=>7
theorem nW{y z:Wy}(h:y.code≠z.code):¬V.str y.name=V.str z.name:=fun q=>h (by rw[Wy.inj (V.str.inj q)])
theorem G1j{a b:Int}(h:0<a)(h2:b<2*a):U2 a b=3:=by
 unfold U2
 rw[decide_eq_true h,decide_eq_true (show b<=2*a by omega),decide_eq_true h2]
 rfl
theorem G0f{a b:Int}(h:0<a)(h2:2*a=b):U2 a b=2:=by
 unfold U2
 rw[decide_eq_true h,decide_eq_true (show b<=2*a by omega),decide_eq_false (show¬b<2*a by omega)]
 rfl
theorem D9w{a b:Int}(h:0<a)(h2:2*a<b):U2 a b=1:=by
 unfold U2
 rw[decide_eq_true h,decide_eq_false (show¬b<=2*a by omega),decide_eq_false (show¬b<2*a by omega)]
 rfl
theorem Y0p{a b:Int}(h:a=0)(hb:0<b):U2 a b=0:=by
 subst h
 unfold U2
 rw[decide_eq_false (show¬(0:Int)<0 by omega),decide_eq_false (show¬b<=2*0 by omega),decide_eq_false (show¬b<2*0 by omega)]
 rfl
theorem Z7v{l:Int}(h0:0<=l)(h1:l<=9):inV (.int l) [.int 0,.int 5]=decide (V.int (l % 5)=V.int 0):=by
 rcases(by omega:l=0\/l=1\/l=2\/l=3\/l=4\/l=5\/l=6\/l=7\/l=8\/l=9) with rfl|rfl|rfl|rfl|rfl|rfl|rfl|rfl|rfl|rfl<;>decide+kernel
noncomputable def V0y:Sp:=fun vs H Q _=>∃(y:Wy) (s l lf lo:Int),vs=[.str y.name,.int s,.int l,.int lf,.int lo]/\0<=l/\l<=9/\0<lf/\∀H',B7 H H' ->Q (.bl (y.goes s l (U2 lf lo))) H'
theorem Z9q:B9 Q28 Q28 (A1 B6t):=scK
theorem Y3k(D:Def K mg "_law_goes_up" Q28 B6t f fd):sI P w K mg base 1 f fd Q28 V0y:=by
 refine FnOk.up (D.F.ok Z9q (fun vs H Q E h=>?_) (fun cdv A outer s H vs Q E hr h=>?_))
 . obtain⟨y,z,l,a,b,rfl,_⟩:=h
   rfl
 obtain⟨y,z,l,a,b,rfl,l0,l9,a0,k⟩:=h
 refine⟨_,(A8 (J0 (D4 A7b (pv 0) (V3 (A0 B3 (A0 B3 (A0 B3 A6)))) (by rfl)) (A8 (J0 (D4 C7h (B1 V9 A3 (pv 3)) (pv 4) (D0 _)) (B0 (C7 (G6 B9g (B1 V9 A3 (pv 3)) (pv 4) (D0 _)))) D6) (B0 (C7 (J2k (G6 G7 (pv 0) B3 (D0 _)) (A2e (A6r (G6 G7 (pv 0) B3 (D0 _)) (A2e (G6 G7 (B1 G2 (pv 2) A3) A3 (D0 _))))))))) D6) (A8 (J0 (D4 G7 (pv 0) B3 (D0 _)) (B0 (C7 (G6 G7 (B1 G2 (pv 2) A3) A3 (D0 _)))) D6) (B0 (C7 (J2k (G6 G7 (pv 0) B3 (D0 _)) (J2k (A6r (G6 G7 (pv 0) B3 (D0 _)) (A2e (G6 G7 (pv 1) A3 (D0 _)))) (A2e (A6r (G6 G7 (pv 0) B3 (D0 _)) (A2e (G6 G7 (pv 1) A3 (D0 _))))))))))),?_⟩
 have z3:3<=sizeLine:=D3 (by decide)
 have mC:∀z n:Int, -(2^64)<n ->n<2^64 ->IntMulOk n z:=fun z n a b=>C6t.ok (.inl ⟨a,b⟩)
 refine⟨_,rfl,z3,fun p np=>⟨p,_,rfl,.inr (SqT.of A7),rfl,rfl,_,rfl,?_⟩⟩
 have u:=B7.upd (o:= .tup [.str "half up",.str "half down",.str "half even"]) np
 have k:=k _ u
 generalize upd H p (.tup [.str "half up",.str "half down",.str "half even"])=H1 at u k
 have no:∀y:Wy,y.code<4\/y.code=7 ->inV (.str y.name) [.str "half up",.str "half down",.str "half even"]=false:=fun y=>by cases y<;>decide+kernel
 have yes:∀y:Wy,4<=y.code ->y.code<=6 ->inV (.str y.name) [.str "half up",.str "half down",.str "half even"]=true:=fun y=>by cases y<;>decide+kernel
 show if(inV (.str y.name) [.str "half up",.str "half down",.str "half even"])=true then _ else _
 cases y with
 | down=>
   rw[no .down (by decide)]
   exact U8 ⟨_,rfl,rfl,_,rfl,A0n (nW (y:= .down) (z:= .fiveUp) (by decide)) ⟨_,rfl,rfl,_,rfl,A0n (nW (y:= .down) (z:= .up) (by decide)) ⟨_,rfl,rfl,_,rfl,A0n (nW (y:= .down) (z:= .floor) (by decide)) ⟨_,rfl,U8 ⟨_,rfl,rfl,_,rfl,A0n (nW (y:= .down) (z:= .ceiling) (by decide)) k⟩⟩⟩⟩⟩
 | up=>
   rw[no .up (by decide)]
   exact U8 ⟨_,rfl,rfl,_,rfl,A0n (nW (y:= .up) (z:= .fiveUp) (by decide)) ⟨_,rfl,rfl,_,rfl,A5u rfl k⟩⟩
 | floor=>
   rw[no .floor (by decide)]
   have kT:V.int z=V.int 1 ->Q (.bl true) H1:=fun e=>by
     have k:Q (.bl (decide (V.int z=V.int 1))) H1:=k
     rw[decide_eq_true e] at k
     exact k
   have kF:¬V.int z=V.int 1 ->Q (.bl false) H1:=fun e=>by
     have k:Q (.bl (decide (V.int z=V.int 1))) H1:=k
     rw[decide_eq_false e] at k
     exact k
   exact U8 ⟨_,rfl,rfl,_,rfl,A0n (nW (y:= .floor) (z:= .fiveUp) (by decide)) ⟨_,rfl,rfl,_,rfl,A0n (nW (y:= .floor) (z:= .up) (by decide)) ⟨_,rfl,rfl,_,rfl,A5u rfl ⟨_,rfl,rfl,_,rfl,V8 (fun e=>kT e) fun e=>⟨_,rfl,rfl,_,rfl,A0n (nW (y:= .floor) (z:= .ceiling) (by decide)) (kF e)⟩⟩⟩⟩⟩
 | ceiling=>
   rw[no .ceiling (by decide)]
   exact U8 ⟨_,rfl,rfl,_,rfl,A0n (nW (y:= .ceiling) (z:= .fiveUp) (by decide)) ⟨_,rfl,rfl,_,rfl,A0n (nW (y:= .ceiling) (z:= .up) (by decide)) ⟨_,rfl,rfl,_,rfl,A0n (nW (y:= .ceiling) (z:= .floor) (by decide)) ⟨_,rfl,U8 ⟨_,rfl,rfl,_,rfl,A5u rfl ⟨_,rfl,rfl,k⟩⟩⟩⟩⟩⟩
 | fiveUp=>
   rw[no .fiveUp (by decide)]
   have k:Q (.bl (inV (.int l) [.int 0,.int 5])) H1:=k
   rw[Z7v l0 l9] at k
   exact U8 ⟨_,rfl,rfl,_,rfl,A5u rfl ⟨_,rfl,_,_,rfl,rfl,(by decide:(0:Int)<5),rfl,k⟩⟩
 | halfUp=>
   rw[yes .halfUp (by decide) (by decide)]
   refine Z8 ⟨_,rfl,_,_,rfl,rfl,mC _ _ (by decide) (by decide),_,rfl,rfl,_,rfl,?_⟩
   by_cases e:2*a=b
   . rw[G0f a0 e] at k
     exact C5y (congrArg V.int e) ⟨_,rfl,rfl,_,rfl,A5u rfl k⟩
   . refine D7t (fun z=>e (V.int.inj z)) ⟨_,rfl,_,_,rfl,rfl,mC _ _ (by decide) (by decide),_,rfl,_,_,rfl,rfl,?_⟩
     show Q (.bl (decide (2*a>b))) H1
     by_cases h:b<2*a
     . rw[G1j a0 h] at k
       rw[decide_eq_true h]
       exact k
     . rw[D9w a0 (by omega)] at k
       rw[decide_eq_false h]
       exact k
 | halfDown=>
   rw[yes .halfDown (by decide) (by decide)]
   refine Z8 ⟨_,rfl,_,_,rfl,rfl,mC _ _ (by decide) (by decide),_,rfl,rfl,_,rfl,?_⟩
   by_cases e:2*a=b
   . rw[G0f a0 e] at k
     exact C5y (congrArg V.int e) ⟨_,rfl,rfl,_,rfl,A0n (nW (y:= .halfDown) (z:= .halfUp) (by decide)) ⟨_,rfl,rfl,_,rfl,A0n (nW (y:= .halfDown) (z:= .halfEven) (by decide)) k⟩⟩
   . refine D7t (fun z=>e (V.int.inj z)) ⟨_,rfl,_,_,rfl,rfl,mC _ _ (by decide) (by decide),_,rfl,_,_,rfl,rfl,?_⟩
     show Q (.bl (decide (2*a>b))) H1
     by_cases h:b<2*a
     . rw[G1j a0 h] at k
       rw[decide_eq_true h]
       exact k
     . rw[D9w a0 (by omega)] at k
       rw[decide_eq_false h]
       exact k
 | halfEven=>
   rw[yes .halfEven (by decide) (by decide)]
   refine Z8 ⟨_,rfl,_,_,rfl,rfl,mC _ _ (by decide) (by decide),_,rfl,rfl,_,rfl,?_⟩
   by_cases e:2*a=b
   . rw[G0f a0 e] at k
     exact C5y (congrArg V.int e) ⟨_,rfl,rfl,_,rfl,A0n (nW (y:= .halfEven) (z:= .halfUp) (by decide)) ⟨_,rfl,rfl,_,rfl,A5u rfl ⟨_,rfl,_,_,rfl,rfl,(by decide:(0:Int)<2),rfl,k⟩⟩⟩
   . refine D7t (fun z=>e (V.int.inj z)) ⟨_,rfl,_,_,rfl,rfl,mC _ _ (by decide) (by decide),_,rfl,_,_,rfl,rfl,?_⟩
     show Q (.bl (decide (2*a>b))) H1
     by_cases h:b<2*a
     . rw[G1j a0 h] at k
       rw[decide_eq_true h]
       exact k
     . rw[D9w a0 (by omega)] at k
       rw[decide_eq_false h]
       exact k
noncomputable abbrev B6x:Stmt:=(top 84)
noncomputable abbrev A7u:Stmt:=(top 88)
noncomputable abbrev A5b:Stmt:=(top 85)
noncomputable abbrev A7w:Stmt:=(top 86)
theorem A2t(e:Int):C8 (Z4 0 e)=C8 e:=by
 unfold Z4 C8
 split
 . rfl
 rw[show e.toNat=0 by omega];rfl
theorem tn{e:Int}(h0:0<=e): [V.int e]++ []=[V.int (e.toNat:Int)]:=by rw[Int.toNat_of_nonneg h0];rfl
theorem mx(e:Int):0<=Z4 0 e/\(e<=600 ->Z4 0 e<=600):=by
 unfold Z4
 constructor
 . split<;>omega
 intro h;split<;>omega
noncomputable def SzL (t:Int):Prop:=1<=t/\t<C8 500
theorem SzL.nat{t:Int}(h:SzL t):∃n:Nat,t=(n:Int)/\1<=n/\n<10^500:=by
 obtain⟨n,rfl⟩:=Int.eq_ofNat_of_zero_le (show 0<=t by have:=h.1;omega)
 exact⟨n,rfl,Int.ofNat_le.mp h.1,Int.ofNat_lt.mp h.2⟩
theorem SzL.sz{t:Int}(h:SzL t):Sz t:=⟨h.1,Int.lt_of_lt_of_le h.2 (B5c (by decide))⟩
theorem SzL.log{t:Int}(h:SzL t):t.natAbs.log2<1920:=by
 obtain⟨n,rfl,_,hn⟩:=h.nat
 have:n<2^1670:=Nat.lt_of_lt_of_le (Nat.lt_of_lt_of_le hn (Nat.pow_le_pow_right (by decide) (by decide:500<=3*167))) (J2p 167)
 exact Nat.lt_trans (A8r (i:=(n:Int)) (k:=1670) (by rw[Int.natAbs_natCast];exact this) (by decide)) (by decide)
noncomputable def V0u:Sp:=fun vs H Q _=>∃t b:Int,vs=[.int t,.int b]/\SzL t/\SzL b/\∀L H',A0m t b (0-L) -> -501<=L ->L<=501 ->B7 H H' ->Q (.int L) H'
theorem scLLead:B9 ["_law_top","_law_bottom","_law_found"] Q40 (A1 B6x):=scK
theorem Y1k(D:Def K mg "_law_lead" Q40 B6x f fd)(dA:Def K mg "_law_ten" Q8 B1m f1 fd1)(dB:sI P w K mg base 1 f1 fd1 Q8 C0e)(O:Own mg):sI P w K mg base 2 f fd Q40 V0u:=by
 refine D.F.okE scLLead (fun vs H Q E h=>?_) (fun X cdv A outer s H vs Q E hX hr hx h=>?_)
 . obtain⟨t,b,rfl,_⟩:=h
   rfl
 subst hX
 obtain⟨t,b,rfl,ht,hb,k⟩:=h
 refine⟨_,(A8 (C6 (D7 (i:=2) scLLead.nd rfl (Or.inl rfl) (B1 V2 (V1 A3t (by rfl) O.len_ PySem.boot_len (A0 (Y7 A3u (by rfl) O.str_ boot_str (A0 (pv 0) A6)) A6)) (V1 A3t (by rfl) O.len_ PySem.boot_len (A0 (Y7 A3u (by rfl) O.str_ boot_str (A0 (pv 1) A6)) A6))))) (A8 (C6 (J0 (D4 D7u (B1 V9 (pv 0) (D5 dA dB hr hx (A0 (V1 (Z1 rfl) (by rfl) O.max_ boot_max (A0 A3 (A0 (B1 V2 A3 (pv 2)) A6))) A6))) (B1 V9 (pv 1) (D5 dA dB hr hx (A0 (V1 (Z1 rfl) (by rfl) O.max_ boot_max (A0 A3 (A0 (pv 2) A6))) A6))) (D0 _)) (B0 (C6 (D7 (i:=2) scLLead.nd rfl (Or.inl rfl) (B1 V2 (pv 2) A3)))) D6)) (B0 (C7 (pv 2))))),?_⟩
 obtain⟨tn',et,t1,t2⟩:=ht.nat
 obtain⟨bn,eb,b1,b2⟩:=hb.nat
 obtain⟨L,l1,l2⟩:=G1e tn' t1
 obtain⟨M,m1,m2⟩:=G1e bn b1
 have ft:C8p t=(L:Int)+1:=by rw[et];exact V0c l2 l1
 have fb:C8p b=(M:Int)+1:=by rw[eb];exact V0c m2 m1
 have lL:L<500:=(Nat.pow_lt_pow_iff_right (by decide:1<10)).mp (Nat.lt_of_le_of_lt l1 t2)
 have lM:M<500:=(Nat.pow_lt_pow_iff_right (by decide:1<10)).mp (Nat.lt_of_le_of_lt m1 b2)
 refine⟨fun σ' H'=>H'=H/\σ'=[si t,si b,si (C8p t-C8p b)],?_,?_⟩
 . exact⟨_,rfl,_,rfl,ht.log,_,rfl,int_text_fits ht.log,_,rfl,_,rfl,hb.log,_,rfl,int_text_fits hb.log,_,_,rfl,rfl,rfl,rfl⟩
 rintro σ' H1 ⟨rfl,rfl⟩
 refine⟨fun σ' H'=>∃L,H'=H1/\A0m t b (0-L)/\ -501<=L/\L<=501/\σ'=[si t,si b,si L],?_,?_⟩
 . generalize hg:C8p t-C8p b=g
   have g0:g=(L:Int)-M:=by omega
   have c1:=(mx (0-g)).2 (by omega)
   have c2:=(mx g).2 (by omega)
   have c1':=(mx (0-g)).1
   have c2':=(mx g).1
   refine⟨_,rfl,_,rfl,_,_,rfl,rfl,_,_,rfl,_,tn (e:=Z4 0 (0-g)) c1',by omega,_,_,rfl,rfl,B1e ht.sz (s:=Z4 0 (0-g)) (by omega),_,rfl,_,rfl,_,_,rfl,_,tn (e:=Z4 0 g) c2',by omega,_,_,rfl,rfl,B1e hb.sz (s:=Z4 0 g) (by omega),_,_,rfl,rfl,_,rfl,?_⟩
   show if decide (t*C8 (Z4 0 (0-g))<b*C8 (Z4 0 g))=true then _ else _
   rw[A2t,A2t]
   subst et eb
   refine V8 (fun h=>?_) (fun h=>?_)
   . refine⟨_,?_,fun _ _ h=>h⟩
     refine⟨_,rfl,_,_,rfl,rfl,g-1,rfl,?_,by omega,by omega,rfl⟩
     have:=B6s l1 l2 m1 m2 (by rw[show(M:Int)-L=0-g by omega,show -(0-g)=g by omega];exact h)
     rw[show(0:Int)- (g-1)=(M:Int)-L+1 by omega]
     exact this
   . refine⟨g,rfl,?_,by omega,by omega,rfl⟩
     have:=C0d l1 l2 m1 m2 (by rw[show(M:Int)-L=0-g by omega,show -(0-g)=g by omega];omega)
     rw[show(0:Int)-g=(M:Int)-L by omega]
     exact this
 rintro σ' H2 ⟨L',rfl,ld,a,b',rfl⟩
 exact⟨_,rfl,k L' H2 ld a b' (B7.refl _)⟩
noncomputable def J2e:Sp:=fun vs H Q _=>∃t b p:Int,vs=[.int t,.int b,.int p]/\ -600<=p/\p<=600/\IntMulOk t (C8 p)/\IntMulOk b (C8 (-p))/\∀q H',B7 H H' ->H' q=some (.tup [.int (t*C8 p),.int (b*C8 (-p))]) ->Q (.ref q) H'
theorem Y0h:B9 Q29 Q29 (A1 A7u):=scK
theorem V3a(D:Def K mg "_law_ratio" Q29 A7u f fd)(dA:Def K mg "_law_ten" Q8 B1m f1 fd1)(dB:sI P w K mg base 1 f1 fd1 Q8 C0e)(O:Own mg):sI P w K mg base 2 f fd Q29 J2e:=by
 refine D.F.okE Y0h (fun vs H Q E h=>?_) (fun X cdv A outer s H vs Q E hX hr hx h=>?_)
 . obtain⟨t,b,p,rfl,_⟩:=h
   rfl
 subst hX
 obtain⟨t,b,p,rfl,p0,p1,h1,h2,k⟩:=h
 refine⟨_,(B0 (C7 (V3 (A0 (B1 V9 (pv 0) (D5 dA dB hr hx (A0 (V1 (Z1 rfl) (by rfl) O.max_ boot_max (A0 A3 (A0 (pv 2) A6))) A6))) (A0 (B1 V9 (pv 1) (D5 dA dB hr hx (A0 (V1 (Z1 rfl) (by rfl) O.max_ boot_max (A0 A3 (A0 (B1 V2 A3 (pv 2)) A6))) A6))) A6))))),?_⟩
 have z2:2<=sizeLine:=D3 (by decide)
 have c1:=(mx p).2 (by omega)
 have c2:=(mx (0-p)).2 (by omega)
 refine⟨_,rfl,_,rfl,_,_,rfl,_,tn (e:=Z4 0 p) (mx _).1,by omega,_,_,rfl,rfl,(by show IntMulOk t (C8 (Z4 0 p));rw[A2t];exact h1),_,rfl,_,rfl,_,_,rfl,rfl,_,_,rfl,_,tn (e:=Z4 0 (0-p)) (mx _).1,by omega,_,_,rfl,rfl,(by show IntMulOk b (C8 (Z4 0 (0-p)));rw[A2t,Int.zero_sub];exact h2),z2,fun q nq=>?_⟩
 refine k q _ (B7.upd nq) ?_
 rw[A7]
 show some (HO.tup [.int (t*C8 (Z4 0 p)),.int (b*C8 (Z4 0 (0-p)))])=_
 rw[A2t,A2t,Int.zero_sub]
noncomputable def D7c:Sp:=fun vs H Q _=>∃d u t r y l m up tr,∃s i:Int,vs=[.ref d,.int s,.int i]/\V7 H d u t r y l m up tr/\A6b r l m/\∀q,H q=none ->Q (.ref q) (upd H q (.tup (Nm.mk .plain s 0 (C6m (Z4 i (l-r+1)) m)).vs))
theorem V4j:B9 Q30 Q30 (A1 A5b):=scK
theorem V4s{r l m:Int}(fr:A6b r l m)(i:Int):(if(if i<m then i else m)>l-r+1 then(if i<m then i else m) else l-r+1)=C6m (Z4 i (l-r+1)) m:=by
 have:=fr.r1;have:=fr.l2;have:=fr.m1
 unfold C6m Z4
 repeat' split
 all_goals omega
theorem J8y(D:Def K mg "_law_nought" Q30 A5b f fd)(O:Own mg):sI P w K mg base 1 f fd Q30 D7c:=by
 refine D.F.okE V4j (fun vs H Q E h=>?_) (fun X cdv A outer s H vs Q E hX hr hx h=>?_)
 . obtain⟨d,u,t,r,y,l,m,up,tr,sg,i,rfl,_⟩:=h
   rfl
 subst hX
 obtain⟨d,u,t,r,y,l,m,up,tr,sg,i,rfl,ow,fr,k⟩:=h
 have HU:=Nat.lt_of_le_of_lt (Nat.add_le_add_left (by decide:1<=64) _) hr.units
 refine⟨_,(B0 (C7 (V3 (A0 B3 (A0 (pv 1) (A0 A3 (A0 (V1 (Z1 rfl) (by rfl) O.max_ boot_max (A0 (U9 HU (pv 0) B3 (fun _ _=>rfl)) (A0 (V1 (D8g rfl) (by rfl) O.min_ boot_min (A0 (U9 HU (pv 0) B3 (fun _ _=>rfl)) (A0 (pv 2) A6))) A6))) A6))))))),?_⟩
 have z4:4<=sizeLine:=D3 (by decide)
 refine⟨_,rfl,_,rfl,d,_,rfl,ow.gLowest,_,rfl,d,_,rfl,ow.gMost,_,rfl,_,_,rfl,_,_,rfl,z4,fun q nq=>?_⟩
 have:=k q nq
 rw[<-V4s fr] at this
 exact this
noncomputable def J1e:Sp:=fun vs H Q _=>∃d u t r y l m up tr,∃s:Int,vs=[.ref d,.int s]/\V7 H d u t r y l m up tr/\A6b r l m/\0<=s/\s<=1/\∀q H',B7 H H' ->H' q=some (.tup (B6z ⟨r,y,l,m⟩ s).vs) ->Q (.ref q) H'
theorem scLBurst:B9 ["_law_own_here","_law_sign","_law_kept"] Q41 (A1 A7w):=scK
theorem V4k(D:Def K mg "_law_burst" Q41 A7w f fd)(dA:Def K mg "_law_ten" Q8 B1m f1 fd1)(dB:sI P w K mg base 1 f1 fd1 Q8 C0e):sI P w K mg base 2 f fd Q41 J1e:=by
 refine D.F.okE scLBurst (fun vs H Q E h=>?_) (fun X cdv A outer s H vs Q E hX hr hx h=>?_)
 . obtain⟨d,u,t,r,y,l,m,up,tr,sg,rfl,_⟩:=h
   rfl
 subst hX
 obtain⟨d,u,t,r,y,l,m,up,tr,sg,rfl,ow,fr,s0,s1,k⟩:=h
 have HU:=Nat.lt_of_le_of_lt (Nat.add_le_add_left (by decide:1<=64) _) hr.units
 refine⟨_,(A8 (C6 (D7 (i:=2) scLBurst.nd rfl (Or.inl rfl) (J2k (G6 A7b (U9 HU (pv 0) B3 (fun _ _=>rfl)) (V3 (A0 B3 (A0 B3 A6))) (by rfl)) (A2e (A6r (G6 G7 (U9 HU (pv 0) B3 (fun _ _=>rfl)) B3 (D0 _)) (A2e (G6 G7 (pv 1) A3 (D0 _)))))))) (A8 (C6 (J0 (PW.pt (D8p (A0b (pv 2)) (C0s (PW.pt (A6s (D4 G7 (U9 HU (pv 0) B3 (fun _ _=>rfl)) B3 (D0 _)) (A3x (D4 G7 (pv 1) A3 (D0 _)))))))) (B0 (C7 (V3 (A0 B3 (A0 (pv 1) (A0 (B1 V2 (D5 dA dB hr hx (A0 (U9 HU (pv 0) B3 (fun _ _=>rfl)) A6)) A3) (A0 (B1 V4 (B1 V2 (U9 HU (pv 0) B3 (fun _ _=>rfl)) (U9 HU (pv 0) B3 (fun _ _=>rfl))) A3) A6))))))) D6)) (B0 (C7 (V3 (A0 B3 (A0 (pv 1) (A0 A3 (A0 A3 A6))))))))),?_⟩
 have z2:2<=sizeLine:=D3 (by decide)
 have z4:4<=sizeLine:=D3 (by decide)
 have r1:=fr.r1;have r2:=fr.r2
 refine⟨fun σ' H'=>B7 H H'/\σ'=[sr d,si sg,some (.bl (y.code==0||y.code==7||(y.code==2&&decide (sg=0))))],?_,?_⟩
 . refine⟨_,rfl,d,_,rfl,ow.gWay,z2,fun p np=>⟨p,_,rfl,.inr (SqT.of A7),rfl,rfl,_,rfl,?_⟩⟩
   have up1:=B7.upd (o:= .tup [.str "down",.str "five up"]) np
   have ow1:=ow.same up1
   generalize upd H p (.tup [.str "down",.str "five up"])=H1 at up1 ow1
   show if(inV (.str y.name) [.str "down",.str "five up"])=true then _ else _
   by_cases hy:y.code=0\/y.code=7
   . rw[show inV (.str y.name) [.str "down",.str "five up"]=true by cases y<;>first|(decide+kernel)|(exfalso;revert hy;decide)]
     refine Z8 ⟨up1,?_⟩
     rw[show(y.code==0||y.code==7||(y.code==2&&decide (sg=0)))=true by rcases hy with h|h<;>rw[h]<;>rfl]
     rfl
   . rw[show inV (.str y.name) [.str "down",.str "five up"]=false by cases y<;>first|(decide+kernel)|(exfalso;revert hy;decide)]
     refine U8 ⟨_,rfl,d,_,rfl,ow1.gWay,rfl,_,rfl,V8 (fun hf=>?_) (fun hf=>⟨up1,?_⟩)⟩
     . have e:y= .floor:=Wy.inj (V.str.inj hf)
       subst e
       refine⟨_,rfl,rfl,up1,?_⟩
       rcases(by omega:sg=0\/sg=1) with rfl|rfl<;>rfl
     . rw[show(y.code==0||y.code==7||(y.code==2&&decide (sg=0)))=false by cases y<;>first|rfl|exact absurd rfl hf|(exfalso;revert hy;decide)]
       rfl
 rintro σ' H1 ⟨s1',rfl⟩
 have ow1:=ow.same s1'
 refine⟨fun σ' H'=>H'=H1/\y.toEnd sg=true/\σ'=[sr d,si sg,some (.bl (y.code==0||y.code==7||(y.code==2&&decide (sg=0))))],?_,?_⟩
 . have nines:y.toEnd sg=false ->∀q,H1 q=none ->Q (.ref q) (upd H1 q (.tup (Nm.vs ⟨.plain,sg,C8 r-1,m-r+1⟩))):=fun e q nq=>by
     refine k q _ (s1'.trans (B7.upd nq)) ?_
     unfold B6z
     rw[e,if_neg Bool.false_ne_true]
     exact A7
   cases y with
   | down=>
     have nines:=nines rfl
     exact⟨_,rfl,_,rfl,Z8 ⟨_,rfl,_,rfl,d,_,rfl,ow1.gRoom,_,tn (e:=r) (by omega),by omega,_,_,rfl,rfl,_,rfl,d,_,rfl,ow1.gMost,_,rfl,d,_,rfl,ow1.gRoom,_,_,rfl,rfl,_,_,rfl,rfl,z4,fun q nq=>nines q nq⟩⟩
   | fiveUp=>
     have nines:=nines rfl
     exact⟨_,rfl,_,rfl,Z8 ⟨_,rfl,_,rfl,d,_,rfl,ow1.gRoom,_,tn (e:=r) (by omega),by omega,_,_,rfl,rfl,_,rfl,d,_,rfl,ow1.gMost,_,rfl,d,_,rfl,ow1.gRoom,_,_,rfl,rfl,_,_,rfl,rfl,z4,fun q nq=>nines q nq⟩⟩
   |up=>exact⟨_,rfl,_,rfl,U8 ⟨_,rfl,d,_,rfl,ow1.gWay,rfl,_,rfl,A0n (nW (y:= .up) (z:= .ceiling) (by decide)) (U8 ⟨rfl,rfl,rfl⟩)⟩⟩
   |halfUp=>exact⟨_,rfl,_,rfl,U8 ⟨_,rfl,d,_,rfl,ow1.gWay,rfl,_,rfl,A0n (nW (y:= .halfUp) (z:= .ceiling) (by decide)) (U8 ⟨rfl,rfl,rfl⟩)⟩⟩
   |halfDown=>exact⟨_,rfl,_,rfl,U8 ⟨_,rfl,d,_,rfl,ow1.gWay,rfl,_,rfl,A0n (nW (y:= .halfDown) (z:= .ceiling) (by decide)) (U8 ⟨rfl,rfl,rfl⟩)⟩⟩
   |halfEven=>exact⟨_,rfl,_,rfl,U8 ⟨_,rfl,d,_,rfl,ow1.gWay,rfl,_,rfl,A0n (nW (y:= .halfEven) (z:= .ceiling) (by decide)) (U8 ⟨rfl,rfl,rfl⟩)⟩⟩
   | floor=>
     rcases(by omega:sg=0\/sg=1) with rfl|rfl
     . have nines:=nines (show decide (V.int 0=V.int 1)=false by decide+kernel)
       exact⟨_,rfl,_,rfl,Z8 ⟨_,rfl,_,rfl,d,_,rfl,ow1.gRoom,_,tn (e:=r) (by omega),by omega,_,_,rfl,rfl,_,rfl,d,_,rfl,ow1.gMost,_,rfl,d,_,rfl,ow1.gRoom,_,_,rfl,rfl,_,_,rfl,rfl,z4,fun q nq=>nines q nq⟩⟩
     . exact⟨_,rfl,_,rfl,U8 ⟨_,rfl,d,_,rfl,ow1.gWay,rfl,_,rfl,A0n (nW (y:= .floor) (z:= .ceiling) (by decide)) (U8 ⟨rfl,(show decide (V.int 1=V.int 1)=true by decide+kernel),rfl⟩)⟩⟩
   | ceiling=>
     rcases(by omega:sg=1\/sg=0) with rfl|rfl
     . have nines:=nines (show decide (V.int 1=V.int 0)=false by decide+kernel)
       exact⟨_,rfl,_,rfl,U8 ⟨_,rfl,d,_,rfl,ow1.gWay,rfl,_,rfl,A5u rfl ⟨_,rfl,rfl,_,rfl,A5u rfl ⟨_,rfl,_,rfl,d,_,rfl,ow1.gRoom,_,tn (e:=r) (by omega),by omega,_,_,rfl,rfl,_,rfl,d,_,rfl,ow1.gMost,_,rfl,d,_,rfl,ow1.gRoom,_,_,rfl,rfl,_,_,rfl,rfl,z4,fun q nq=>nines q nq⟩⟩⟩⟩
     . exact⟨_,rfl,_,rfl,U8 ⟨_,rfl,d,_,rfl,ow1.gWay,rfl,_,rfl,A5u rfl ⟨_,rfl,rfl,_,rfl,A0n (by decide) ⟨rfl,(show decide (V.int 0=V.int 0)=true by decide+kernel),rfl⟩⟩⟩⟩
 rintro σ' H2 ⟨rfl,e,rfl⟩
 refine⟨_,rfl,z4,fun q nq=>k q _ (s1'.trans (B7.upd nq)) ?_⟩
 unfold B6z
 rw[e,if_pos rfl]
 exact A7
noncomputable abbrev A2c:Stmt:=(top 87)
noncomputable def Y2t (H:Hp) (q:Addr) (x:Nm) (zs:List Str):Prop:=∃t l,H q=some (.tup [.ref t,.ref l])/\H t=some (.tup x.vs)/\H l=some (.lst (zs.map V.str))
theorem A0gf(x:Str)(b:Bool):(List.replicate (if b=true then(1:Int) else 0).toNat [V.str x]).flatten=(A5p x b).map V.str:=by cases b<;>rfl
theorem Z8k(x y:Str)(b:Bool):(List.replicate (((A5p y b).map V.str).length:Int).toNat [V.str x]).flatten=(A5p x b).map V.str:=by cases b<;>rfl
theorem B5m(x:Str)(b:Bool):(A5p x b).length<=1:=by cases b<;>simp[A5p]
theorem Y3p{l L pt:Int}{cut:Bool}(h:¬pt=0)(z:Str):z∈A5p "faint" (decide (L<l))++(["off","cut"]:List Str)++A5p "sunk" (decide (L<l))↔z∈A1b pt cut++A1c l L pt:=by
 unfold A1b A1c A5p
 rw[if_neg h]
 by_cases q:L<l
 . rw[if_neg (by omega:¬L>=l),decide_eq_true q,if_neg h]
   simp only[if_true,List.mem_append,List.mem_cons,List.not_mem_nil,or_false]
   constructor
   . rintro((a|a|a)|a)
     . exact .inr (.inr a)
     . exact .inl (.inl a)
     . exact .inl (.inr a)
     . exact .inr (.inl a)
   . rintro((a|a)|a|a)
     . exact .inl (.inr (.inl a))
     . exact .inl (.inr (.inr a))
     . exact .inr a
     . exact .inl (.inl a)
 rw[if_pos (by omega:L>=l),decide_eq_false q]
 simp
theorem V0v{l L:Int}{cut:Bool}(z:Str):z∈A5p "faint" (decide (L<l))++A5p "cut" cut↔z∈A1b 0 cut++A1c l L 0:=by
 unfold A1b A1c A5p
 by_cases q:L<l
 . rw[if_neg (by omega:¬L>=l),decide_eq_true q]
   cases cut<;>simp[or_comm]
 rw[if_pos (by omega:L>=l),decide_eq_false q]
 cases cut<;>simp
theorem Y3f{a b:Int}(h:0<a)(hb:0<b):¬U2 a b=0:=by
 rcases(by omega:2*a<b\/2*a=b\/b<2*a) with h2|h2|h2
 . rw[D9w h h2];decide
 . rw[G0f h h2];decide
 rw[G1j h h2];decide
noncomputable def C8u:Sp:=fun vs H Q _=>∃d u tt r y l m up tr rq,∃s t b i:Int,vs=[.ref d,.int s,.ref rq,.int i]/\V7 H d u tt r y l m up tr/\A6b r l m/\0<=s/\s<=1/\H rq=some (.tup [.int t,.int b])/\SzL t/\SzL b/\
 ∀L q zs H',A0m t b (0-L) ->B7 H H' ->Y2t H' q (Z6 ⟨r,y,l,m⟩ s t b 0 L i).1 zs ->zs.length<=10 ->(∀z,z∈zs↔z∈(Z6 ⟨r,y,l,m⟩ s t b 0 L i).2) ->Q (.ref q) H'
theorem scLSettled:B9 ["_law_own_here","_law_sign","_law_ratio_here","_law_ideal","_law_top","_law_bottom","_law_begin","_law_fine","_law_whole","_law_left","_law_signals"] Q42 (A1 A2c):=scK
theorem J2a(D:Def K mg "_law_settled" Q42 A2c f fd)(dC:Def K mg "_law_lead" Q40 B6x f1 fd1)(dD:sI P w K mg base 2 f1 fd1 Q40 V0u)
   (dA:Def K mg "_law_ten" Q8 B1m f2 fd2) (dB:sI P w K mg base 1 f2 fd2 Q8 C0e) (dE:Def K mg "_law_goes_up" Q28 B6t f3 fd3) (dF:sI P w K mg base 1 f3 fd3 Q28 V0y)
   (dG:Def K mg "_law_burst" Q41 A7w f4 fd4) (dH:sI P w K mg base 2 f4 fd4 Q41 J1e) (O:Own mg):sI P w K mg base 3 f fd Q42 C8u:=by
 refine D.F.okE scLSettled (fun vs H Q E h=>?_) (fun X cdv A outer s H vs Q E hX hr hx h=>?_)
 . obtain⟨d,u,tt,r,y,l,m,up,tr,rq,sg,t,b,i,rfl,_⟩:=h
   rfl
 subst hX
 obtain⟨d,u,tt,r,y,l,m,up,tr,rq,sg,t,b,i,rfl,ow,fr,s0,s1,erq,ht,hb,k⟩:=h
 have HU:=Nat.lt_of_le_of_lt (Nat.add_le_add_left (by decide:1<=64) _) hr.units
 refine⟨_,(A8 (C6 (Y1r (pv 2) (Y0u rfl (A7c (Z2 (i:=4) scLSettled.nd rfl (Or.inl rfl)) (A7c (Z2 (i:=5) scLSettled.nd rfl (Or.inl rfl)) G0u))))) (A8 (C6 (D7 (i:=6) scLSettled.nd rfl (Or.inl rfl) (D5 dC dD hr hx (A0 (pv 4) (A0 (pv 5) A6))))) (A8 (C6 (D7 (i:=7) scLSettled.nd rfl (Or.inl rfl) (V1 (Z1 rfl) (by rfl) O.max_ boot_max (A0 (B1 V4 (B1 V2 (pv 6) (U9 HU (pv 0) B3 (fun _ _=>rfl))) A3) (A0 (U9 HU (pv 0) B3 (fun _ _=>rfl)) A6))))) (A8 (C6 (D7 (i:=5) scLSettled.nd rfl (Or.inl rfl) (B1 V9 (pv 5) (D5 dA dB hr hx (A0 (V1 (Z1 rfl) (by rfl) O.max_ boot_max (A0 A3 (A0 (pv 7) A6))) A6))))) (A8 (C6 (Y1r (V1 G1h (by rfl) O.divmod_ PyProof.Rows.boot_divmod (A0 (B1 V9 (pv 4) (D5 dA dB hr hx (A0 (V1 (Z1 rfl) (by rfl) O.max_ boot_max (A0 A3 (A0 (B1 V2 A3 (pv 7)) A6))) A6))) (A0 (pv 5) A6))) (Y0u rfl (A7c (Z2 (i:=8) scLSettled.nd rfl (Or.inl rfl)) (A7c (Z2 (i:=9) scLSettled.nd rfl (Or.inl rfl)) G0u))))) (A8 (C6 (D7 (i:=10) scLSettled.nd rfl (Or.inl rfl) (B1 J8q (U1 (A0 B3 A6)) (Y7 D7w (by rfl) O.int_ boot_int (A0 (G6 D7u (pv 6) (U9 HU (pv 0) B3 (fun _ _=>rfl)) (D0 _)) A6))))) (A8 (C6 (J0 (D4 B9g (pv 9) A3 (D0 _)) (A8 (C6 (D7 (i:=10) scLSettled.nd rfl (Or.inl rfl) (B1 B6p (B1 B6p (pv 10) (U1 (A0 B3 (A0 B3 A6)))) (B1 J8q (U1 (A0 B3 A6)) (V1 B9j (by rfl) O.len_ PySem.boot_len (A0 (pv 10) A6)))))) (A8 (C6 (J0 (A0b (D5 dE dF hr hx (A0 (U9 HU (pv 0) B3 (fun _ _=>rfl)) (A0 (pv 1) (A0 (B1 G2 (pv 8) A3) (A0 (pv 9) (A0 (pv 5) A6))))))) (B0 (C6 (D7 (i:=8) scLSettled.nd rfl (Or.inl rfl) (B1 V4 (pv 8) A3)))) D6)) (B0 (C6 (J0 (D4 G7 (pv 8) (D5 dA dB hr hx (A0 (U9 HU (pv 0) B3 (fun _ _=>rfl)) A6)) (D0 _)) (A8 (C6 (D7 (i:=8) scLSettled.nd rfl (Or.inl rfl) (B1 G3 (pv 8) A3))) (B0 (C6 (D7 (i:=7) scLSettled.nd rfl (Or.inl rfl) (B1 V4 (pv 7) A3))))) D6))))) D6)) (A8 (C6 (B9c PassesOwn.leaving (PW.pt (A6s (D4 G7 (pv 9) A3 (D0 _)) (A6s (D4 D7u (pv 7) (pv 3) (D0 _)) (A3x (D4 G7 (B1 G2 (pv 8) A3) A3 (D0 _)))))) (A8 (C6 (D7 (i:=8) scLSettled.nd rfl (Or.inl rfl) (B1 G3 (pv 8) A3))) (B0 (C6 (D7 (i:=7) scLSettled.nd rfl (Or.inl rfl) (B1 V4 (pv 7) A3))))))) (A8 (C6 (J0 (PW.pt (A6s (D4 G7 (pv 9) A3 (D0 _)) (A3x (D4 B9g (pv 7) (pv 3) (D0 _))))) (B0 (C6 (D7 (i:=10) scLSettled.nd rfl (Or.inl rfl) (B1 B6p (pv 10) (U1 (A0 B3 A6)))))) D6)) (A8 (C6 (J0 (PW.pt (A6s (D4 B9g (pv 8) A3 (D0 _)) (A3x (D4 B9g (B1 V2 (B1 V4 (pv 7) (V1 A3t (by rfl) O.len_ PySem.boot_len (A0 (Y7 A3u (by rfl) O.str_ boot_str (A0 (pv 8) A6)) A6))) A3) (U9 HU (pv 0) B3 (fun _ _=>rfl)) (D0 _))))) (B0 (C7 (V3 (A0 (D5 dG dH hr hx (A0 (pv 0) (A0 (pv 1) A6))) (A0 (U1 (A0 B3 (A0 B3 (A0 B3 A6)))) A6))))) D6)) (B0 (C7 (V3 (A0 (V3 (A0 B3 (A0 (pv 1) (A0 (pv 8) (A0 (pv 7) A6))))) (A0 (pv 10) A6))))))))))))))),?_⟩
 have z1:1<=sizeLine:=D3 (by decide)
 have z2:2<=sizeLine:=D3 (by decide)
 have z3:3<=sizeLine:=D3 (by decide)
 have z4:4<=sizeLine:=D3 (by decide)
 have d10:(0:Int)<10/\(10:Int).natAbs.log2<9000:=⟨by decide,by decide+kernel⟩
 have kb:∀b:Bool, -(2^63:Int)<=(if b=true then(1:Int) else 0)/\(if b=true then(1:Int) else 0)<2^63/\1*(if b=true then(1:Int) else 0).toNat<=sizeLine:=fun b=>by
   cases b
   . exact⟨by decide,by decide,Nat.zero_le _⟩
   . exact⟨by decide,by decide,z1⟩
 have ok:(Cv.mk r y l m).Ok:=⟨fr.r1,fr.r2,fr.l1,fr.l2,fr.m1,fr.m2⟩
 have r1:=fr.r1;have r2:=fr.r2;have l1:=fr.l1;have l2:=fr.l2
 refine⟨fun σ' H'=>H'=H/\σ'=[sr d,si sg,sr rq,si i,si t,si b,none,none,none,none,none],?_,?_⟩
 . exact⟨_,rfl,rq,_,rfl,SqT.of erq,rfl,_,_,rfl,_,_,rfl,rfl,rfl,rfl⟩
 rintro σ' H1 ⟨rfl,rfl⟩
 refine⟨fun σ' H'=>∃L,B7 H1 H'/\A0m t b (0-L)/\ -501<=L/\L<=501/\σ'=[sr d,si sg,sr rq,si i,si t,si b,si L,none,none,none,none],?_,?_⟩
 . exact⟨_,rfl,_,rfl,t,b,rfl,ht,hb,fun L H' ld a c s'=>⟨L,s',ld,a,c,rfl⟩⟩
 rintro σ' H2 ⟨L,t2,ld,La,Lb,rfl⟩
 have ow2:=ow.same t2
 have fb: -600<=Cv.fin ⟨r,y,l,m⟩ L/\Cv.fin ⟨r,y,l,m⟩ L<=600:=by
   unfold Cv.fin Z4
   dsimp only
   split<;>omega
 have wr:=G1k (s1:=0-L) (s2:=0-Cv.fin ⟨r,y,l,m⟩ L) (r:=r) ht.sz hb.sz ld r1 (by
   unfold Cv.fin Z4
   dsimp only
   split<;>omega)
 have k:=k L
 unfold Z6 at k
 refine⟨fun σ' H'=>H'=H2/\σ'=[sr d,si sg,sr rq,si i,si t,si b,si L,si (Cv.fin ⟨r,y,l,m⟩ L),none,none,none],?_,?_⟩
 . exact⟨_,rfl,_,rfl,d,_,rfl,ow2.gRoom,_,_,rfl,rfl,_,_,rfl,rfl,_,rfl,d,_,rfl,ow2.gLowest,_,_,rfl,rfl,rfl⟩
 rintro σ' H3 ⟨rfl,rfl⟩
 generalize Cv.fin ⟨r,y,l,m⟩ L=q at*
 have c1:=(mx q).2 (by omega)
 have c1':=(mx q).1
 have c2:=(mx (0-q)).2 (by omega)
 have c2':=(mx (0-q)).1
 refine⟨fun σ' H'=>H'=H3/\σ'=[sr d,si sg,sr rq,si i,si t,si (b*C8 (-(0-q))),si L,si q,none,none,none],?_,?_⟩
 . refine⟨_,rfl,_,rfl,_,_,rfl,_,tn (e:=Z4 0 q) c1',by omega,_,_,rfl,rfl,B1e hb.sz (s:=Z4 0 q) (by omega),rfl,?_⟩
   show [sr d,si sg,sr rq,si i,si t,si (b*C8 (Z4 0 q)),si L,si q,none,none,none]=_
   rw[A2t,show -(0-q)=q by omega]
 rintro σ' H4 ⟨rfl,rfl⟩
 have lp:0<b*C8 (-(0-q)):=Int.mul_pos (by have:=hb.1;omega) (Y8 _)
 have ll:=Y0x hb.sz (s:= -(0-q)) (by omega)
 have hm:t*C8 (0-q) % (b*C8 (-(0-q)))=t*C8 (0-q)-whI t b (0-q)*(b*C8 (-(0-q))):=by
   unfold whI
   rw[Int.emod_def,Int.mul_comm (b*C8 (-(0-q)))]
 have lf0:=(V1n (t:=t) (s:=0-q) (show 0<b by have:=hb.1;omega)).1
 refine⟨fun σ' H'=>B7 H1 H'/\σ'=[sr d,si sg,sr rq,si i,si t,si (b*C8 (-(0-q))),si L,si q,si (whI t b (0-q)),si (t*C8 (0-q)-whI t b (0-q)*(b*C8 (-(0-q)))),none],?_,?_⟩
 . refine⟨_,rfl,_,rfl,_,_,rfl,rfl,_,_,rfl,_,tn (e:=Z4 0 (0-q)) c2',by omega,_,_,rfl,rfl,B1e ht.sz (s:=Z4 0 (0-q)) (by omega),_,rfl,_,_,rfl,⟨lp,ll⟩,fun p np=>?_⟩
   have e1:t*((10^(Z4 0 (0-q)).toNat:Nat):Int)=t*C8 (0-q):=congrArg (t* ·) (A2t _)
   rw[e1] at*
   rw[hm]
   exact⟨p,_,rfl,SqT.of A7,rfl,_,_,rfl,_,_,rfl,rfl,t2.trans (B7.upd np),rfl⟩
 rintro σ' H5 ⟨t5,rfl⟩
 unfold ptI at k
 generalize t*C8 (0-q)-whI t b (0-q)*(b*C8 (-(0-q)))=lf at*
 generalize b*C8 (-(0-q))=lo at*
 generalize whI t b (0-q)=wh at*
 have ow5:=ow.same t5
 generalize hft:decide (L<l)=ft
 refine⟨fun σ' H'=>∃a,B7 H1 H'/\H' a=some (.lst ((A5p "faint" ft).map V.str))/\σ'=[sr d,si sg,sr rq,si i,si t,si lo,si L,si q,si wh,si lf,sr a],?_,?_⟩
 . refine⟨z1,fun a1 n1=>⟨_,rfl,_,rfl,d,_,rfl,(ow5.same (B7.upd n1)).gLeast,_,_,rfl,rfl,.inr ⟨_,rfl,a1,_,_,rfl,rfl,A7,(kb (decide (L<l))).1,(kb (decide (L<l))).2.1,(kb (decide (L<l))).2.2,fun a2 n2=>?_⟩⟩⟩
   rw[A0gf]
   exact⟨a2,t5.trans ((B7.upd n1).trans (B7.upd n2)),by rw[A7,hft],rfl⟩
 rintro σ' H6 ⟨a,t6,ea,rfl⟩
 have ow6:=ow.same t6
 refine⟨fun σ' H'=>∃a f p,∃zs:List Str,B7 H1 H'/\H' a=some (.lst (zs.map V.str))/\zs.length<=4/\(lf=0 ->f=wh/\p=q/\zs=A5p "faint" ft)/\(0<lf ->(f,p)=Y6 ⟨r,y,l,m⟩ sg wh (U2 lf lo) q i/\∀z,z∈zs↔z∈A1b (U2 lf lo) (decide (p>i))++A1c l L (U2 lf lo))/\σ'=[sr d,si sg,sr rq,si i,si t,si lo,si L,si p,si f,si lf,sr a],?_,?_⟩
 . refine⟨_,rfl,_,_,rfl,rfl,_,rfl,V8 (fun hp=>?_) (fun hp=>?_)⟩
   . have hp:0<lf:=hp
     have hpt:=Y3f hp lp
     refine⟨fun σ' H'=>∃a,B7 H1 H'/\H' a=some (.lst ((A5p "faint" ft++(["off","cut"]:List Str)++A5p "sunk" ft).map V.str))/\σ'=[sr d,si sg,sr rq,si i,si t,si lo,si L,si q,si wh,si lf,sr a],?_,?_⟩
     . have q2:=B5m "faint" ft
       refine⟨_,rfl,z2,fun a3 n3=>?_⟩
       have u3:=B7.upd (o:= .lst [.str "off",.str "cut"]) n3
       refine⟨a,a3,_,_,rfl,rfl,u3 _ _ ea,A7,D3 (by rw[List.length_map];show _+2<=_;omega),fun a4 n4=>⟨z1,fun a5 n5=>?_⟩⟩
       have u4:=B7.upd (o:= .lst ((A5p "faint" ft).map V.str++ [.str "off",.str "cut"])) n4
       have u5:=B7.upd (o:= .lst [.str "sunk"]) n5
       have ea5:=((u3.trans u4).trans u5) _ _ ea
       refine⟨_,rfl,a,_,rfl,.inl (SqL.of ea5),a5,_,_,rfl,rfl,A7,?_,?_,?_,fun a6 n6=>?_⟩
       . rw[List.length_map];omega
       . rw[List.length_map];omega
       . rw[List.length_map];show 1*_<=_;exact Nat.le_trans (by omega) z1
       . rw[Z8k]
         have u6:=B7.upd (o:= .lst ((A5p "sunk" ft).map V.str)) n6
         have q3:=B5m "sunk" ft
         refine⟨a4,a6,_,_,rfl,rfl,(u5.trans u6) _ _ A7,A7,D3 (by rw[List.length_append,List.length_map,List.length_map];show _+2+_<=_;omega),fun a7 n7=>?_⟩
         refine⟨a7,t6.trans ((u3.trans u4).trans ((u5.trans u6).trans (B7.upd n7))),?_,rfl⟩
         rw[A7,List.map_append,List.map_append]
         rfl
     rintro σ' H7 ⟨a,t7,ea,rfl⟩
     have ow7:=ow.same t7
     refine⟨fun σ' H'=>B7 H1 H'/\H' a=some (.lst ((A5p "faint" ft++(["off","cut"]:List Str)++A5p "sunk" ft).map V.str))/\σ'=[sr d,si sg,sr rq,si i,si t,si lo,si L,si q,si (upI y sg wh (U2 lf lo)),si lf,sr a],?_,?_⟩
     . refine⟨_,rfl,d,_,rfl,ow7.gWay,_,rfl,_,rfl,_,_,rfl,rfl,d10.1,_,rfl,_,rfl,y,sg,wh % 10,lf,lo,rfl,Int.emod_nonneg _ (by decide),by have:=Int.emod_lt_of_pos wh (by decide:(0:Int)<10);omega,hp,fun H8 s8=>⟨_,rfl,?_⟩⟩
       have eu:upI y sg wh (U2 lf lo)=if y.goes sg (wh % 10) (U2 lf lo)=true then wh+1 else wh:=by
         unfold upI
         rw[if_neg hpt]
       rw[eu]
       cases y.goes sg (wh % 10) (U2 lf lo) with
       | true=>
         refine Z8 ⟨_,?_,fun _ _ h=>h⟩
         exact⟨_,rfl,_,_,rfl,rfl,t7.trans s8,s8 _ _ ea,rfl⟩
       |false=>exact U8 ⟨t7.trans s8,s8 _ _ ea,rfl⟩
     rintro σ' H8 ⟨t8,ea8,rfl⟩
     have ow8:=ow.same t8
     have en:Y6 ⟨r,y,l,m⟩ sg wh (U2 lf lo) q i=B1g r (upI y sg wh (U2 lf lo)) q:=by unfold Y6;rw[if_neg hpt]
     rw[en]
     generalize upI y sg wh (U2 lf lo)=v
     refine⟨fun σ' H'=>H'=H8/\σ'=[sr d,si sg,sr rq,si i,si t,si lo,si L,si ((B1g r v q).2),si ((B1g r v q).1),si lf,sr a],?_,?_⟩
     . unfold B1g
       refine⟨_,rfl,_,rfl,d,_,rfl,ow8.gRoom,_,tn (e:=r) (by omega),by omega,rfl,_,rfl,V8 (fun e=>?_) (fun e=>?_)⟩
       . have e:v=C8 r:=V.int.inj e
         rw[if_pos e]
         refine⟨fun σ' H'=>H'=H8/\σ'=[sr d,si sg,sr rq,si i,si t,si lo,si L,si q,si (v/10),si lf,sr a],⟨_,rfl,_,_,rfl,rfl,d10,rfl,rfl⟩,?_⟩
         rintro σ' H9 ⟨rfl,rfl⟩
         refine⟨_,?_,fun _ _ h=>h⟩
         exact⟨_,rfl,_,_,rfl,rfl,rfl,rfl⟩
       . have e:¬v=C8 r:=fun z=>e (congrArg V.int z)
         rw[if_neg e]
         exact⟨rfl,rfl⟩
     rintro σ' H9 ⟨rfl,rfl⟩
     have q2:=B5m "faint" ft
     have q3:=B5m "sunk" ft
     exact⟨a,_,_,_,t8,ea8,by rw[List.length_append,List.length_append];show _+2+_<=_;omega,fun z=>absurd z (by omega),fun _=>⟨rfl,fun z=>by rw[<-hft];exact Y3p hpt z⟩,rfl⟩
   . have hp:lf=0:=by
       have:¬lf>0:=hp
       omega
     exact⟨a,wh,q,_,t6,ea,Nat.le_trans (B5m _ _) (by decide),fun _=>⟨rfl,rfl,rfl⟩,fun z=>absurd z (by omega),rfl⟩
 rintro σ' H7 ⟨a,f,p,zs,t7,ea7,lz,h0,h1,rfl⟩
 refine⟨fun σ' H'=>H'=H7/\σ'=[sr d,si sg,sr rq,si i,si t,si lo,si L,si ((Y6 ⟨r,y,l,m⟩ sg wh (U2 lf lo) q i).2),si ((Y6 ⟨r,y,l,m⟩ sg wh (U2 lf lo) q i).1),si lf,sr a],?_,?_⟩
 . refine B9b (fun σ H3=>H3=H7/\∃f p:Int,(lf=0 ->A0v i f p=A0v i wh q)/\(0<lf ->(f,p)=Y6 ⟨r,y,l,m⟩ sg wh (U2 lf lo) q i)/\σ=[sr d,si sg,sr rq,si i,si t,si lo,si L,si p,si f,si lf,sr a]) (fun σ _=>match σ with|_::_::_::_::_::_::_::some (.int p)::_=>(i-p).toNat|_=>0) ?_ ?_ ?_
   . exact⟨rfl,f,p,fun z=>by obtain⟨e1,e2,_⟩:=h0 z;rw[e1,e2],fun z=>(h1 z).1,rfl⟩
   . rintro σ H3 ⟨rfl,f,p,e,e',rfl⟩
     refine⟨_,rfl,rfl,_,rfl,V8 (fun hl=>?_) (fun hl=>U8 ⟨rfl,by rw[<-e' (by have:¬lf=0:=fun z=>hl (congrArg V.int z);omega)]⟩)⟩
     have hl:lf=0:=V.int.inj hl
     have en:Y6 ⟨r,y,l,m⟩ sg wh (U2 lf lo) q i=A0v i wh q:=by unfold Y6;rw[if_pos (Y0p hl lp)]
     rw[en]
     have e:=e hl
     have stop:¬(p<i/\f % 10=0) ->(f,p)=A0v i wh q:=fun h=>by rw[<-e,C8h h]
     refine⟨_,rfl,_,rfl,_,_,rfl,rfl,_,rfl,V8 (fun h1=>?_) (fun h1=>U8 ⟨rfl,by rw[<-stop fun q=>h1 q.1]⟩)⟩
     refine⟨_,rfl,_,_,rfl,rfl,d10.1,rfl,_,rfl,V8 (fun h2=>?_) (fun h2=>⟨rfl,by rw[<-stop fun q=>h2 (congrArg V.int q.2)]⟩)⟩
     have h1:p<i:=h1
     have h2:f % 10=0:=by injection h2
     refine⟨fun σ' H'=>H'=H3/\σ'=[sr d,si sg,sr rq,si i,si t,si lo,si L,si p,si (f/10),si lf,sr a],⟨_,rfl,_,_,rfl,rfl,d10,rfl,rfl⟩,?_⟩
     rintro σ' H4 ⟨rfl,rfl⟩
     refine⟨fun σ' H'=>H'=H4/\σ'=[sr d,si sg,sr rq,si i,si t,si lo,si L,si (p+1),si (f/10),si lf,sr a],⟨_,rfl,_,_,rfl,rfl,rfl,rfl⟩,?_⟩
     rintro σ' H5 ⟨rfl,rfl⟩
     refine⟨⟨rfl,f/10,p+1,fun _=>(C7a h1 h2).symm.trans e,fun z=>absurd z (by omega),rfl⟩,?_⟩
     show(i-(p+1)).toNat<(i-p).toNat
     omega
   . rintro σ H3 Q1 Q2 hQ ⟨v1,e1,e1',c,ec,q⟩
     refine⟨v1,e1,e1',c,ec,?_⟩
     cases c with
     |false=>exact U8 (hQ _ _ (by simpa using q))
     | true=>
       rw[if_pos rfl] at q ⊢
       obtain⟨v1,e,v2,e2,a,b,e3,e4,c,e5,q⟩:=q
       refine⟨v1,e,v2,e2,a,b,e3,e4,c,e5,?_⟩
       cases c with
       |false=>exact U8 (hQ _ _ (by simpa using q))
       | true=>
         rw[if_pos rfl] at q ⊢
         obtain⟨v3,e6,a2,b2,e7,e8,e9,e10,e11,e12,q⟩:=q
         exact⟨v3,e6,a2,b2,e7,e8,e9,e10,e11,e12,hQ _ _ q⟩
 rintro σ' H8 ⟨rfl,rfl⟩
 have sm:=C8d (c:=⟨r,y,l,m⟩) (s:=sg) (pt:=U2 lf lo) (q:=q) (i:=i) ok wr.1 wr.2
 have nn:0<=(Y6 ⟨r,y,l,m⟩ sg wh (U2 lf lo) q i).1:=by
   unfold Y6
   split
   . exact(B9d i (i-q).toNat wh q wr.1).1
   . have hu:0<=upI y sg wh (U2 lf lo):=by
       unfold upI
       generalize (if U2 lf lo=0 then false else y.goes sg (wh % 10) (U2 lf lo))=g
       cases g with
       |true=>show 0<=wh+1;omega
       |false=>exact wr.1
     generalize upI y sg wh (U2 lf lo)=u at hu
     unfold B1g
     split
     . show 0<=u/10;omega
     . exact hu
 have k0:∀q' zs H',B7 H1 H' ->Y2t H' q' _ zs ->zs.length<=10 ->_ ->Q (.ref q') H':=fun q' zs H'=>k q' zs H' ld
 unfold A5s at k0
 have hn:0<lf ->(f,p)=((Y6 ⟨r,y,l,m⟩ sg wh (U2 lf lo) q i).1,(Y6 ⟨r,y,l,m⟩ sg wh (U2 lf lo) q i).2):=fun z=>(h1 z).1
 generalize (Y6 ⟨r,y,l,m⟩ sg wh (U2 lf lo) q i).1=f' at*
 generalize (Y6 ⟨r,y,l,m⟩ sg wh (U2 lf lo) q i).2=p' at*
 have lg:f'.natAbs.log2<1920:=Nat.lt_trans (A8r sm (by decide)) (by decide)
 refine⟨fun σ' H'=>∃a,∃zs:List Str,B7 H1 H'/\H' a=some (.lst (zs.map V.str))/\zs.length<=5/\(∀z,z∈zs↔z∈A1b (U2 lf lo) (decide (p'>i))++A1c l L (U2 lf lo))/\σ'=[sr d,si sg,sr rq,si i,si t,si lo,si L,si p',si f',si lf,sr a],?_,?_⟩
 . refine⟨_,rfl,rfl,_,rfl,V8 (fun hl=>?_) (fun hl=>U8 ?_)⟩
   . have hl:lf=0:=V.int.inj hl
     obtain⟨_,_,ez⟩:=h0 hl
     subst ez
     rw[Y0p hl lp]
     have q2:=B5m "faint" ft
     refine⟨_,rfl,_,rfl,_,_,rfl,rfl,_,rfl,V8 (fun hc=>?_) (fun hc=>⟨a,_,t7,ea7,by omega,fun z=>?_,rfl⟩)⟩
     . refine⟨_,?_,fun _ _ h=>h⟩
       refine⟨_,rfl,z1,fun a1 n1=>⟨a,a1,_,_,rfl,rfl,(B7.upd n1) _ _ ea7,A7,D3 (by rw[List.length_map];show _+1<=_;omega),fun a2 n2=>⟨a2,A5p "faint" ft++A5p "cut" true,t7.trans ((B7.upd n1).trans (B7.upd n2)),by rw[A7,List.map_append];rfl,by rw[List.length_append];show _+1<=_;omega,fun z=>?_,rfl⟩⟩⟩
       rw[decide_eq_true hc, <-hft]
       exact V0v z
     . rw[decide_eq_false hc, <-hft]
       have:=V0v (l:=l) (L:=L) (cut:=false) z
       rw[<-this]
       simp[A5p]
   . have hl:0<lf:=by
       have:¬lf=0:=fun z=>hl (congrArg V.int z)
       omega
     have e2:=hn hl
     have ep:p=p':=(Prod.mk.inj e2).2
     exact⟨a,zs,t7,ea7,by omega,by rw[<-ep];exact(h1 hl).2,rfl⟩
 clear h0 h1 hn
 rintro σ' H9 ⟨a,zs,t9,ea9,lz9,hz,rfl⟩
 have ow9:=ow.same t9
 refine⟨fun σ' H'=>H'=H9/\A3r m f' p'=false/\σ'=[sr d,si sg,sr rq,si i,si t,si lo,si L,si p',si f',si lf,sr a],?_,?_⟩
 . refine⟨_,rfl,_,_,rfl,rfl,_,rfl,V8 (fun h=>?_) (fun h=>U8 ⟨rfl,?_,rfl⟩)⟩
   . have h:f'>0:=h
     have eb:A3r m f' p'=decide (p'+C8p f'-1>m):=by unfold A3r;rw[if_neg (by omega)]
     rw[eb] at k0
     refine⟨_,rfl,_,rfl,_,rfl,lg,_,rfl,int_text_fits lg,_,_,rfl,rfl,_,_,rfl,rfl,_,rfl,d,_,rfl,ow9.gMost,_,_,rfl,rfl,_,rfl,V8 (fun h2=>?_) (fun h2=>⟨rfl,by rw[eb];exact decide_eq_false h2,rfl⟩)⟩
     rw[decide_eq_true (show p'+C8p f'-1>m from h2),if_pos rfl] at k0
     refine⟨_,rfl,_,rfl,d,u,tt,r,y,l,m,up,tr,sg,rfl,ow9,fr,s0,s1,fun q' H' s' eq'=>⟨z3,fun a1 n1=>⟨z2,fun a2 n2=>?_⟩⟩⟩
     have u1:=B7.upd (o:= .lst [.str "burst",.str "off",.str "cut"]) n1
     have u2:=B7.upd (o:= .tup [.ref q',.ref a1]) n2
     exact k0 a2 Q46 _ (t9.trans (s'.trans (u1.trans u2))) ⟨q',a1,A7,(u1.trans u2) _ _ eq',u2 _ _ A7⟩ (by show 3<=10;decide) fun z=>Iff.rfl
   . have h:¬f'>0:=h
     unfold A3r
     rw[if_pos (by omega)]
 rintro σ' H10 ⟨rfl,e,rfl⟩
 rw[e,if_neg Bool.false_ne_true] at k0
 refine⟨_,rfl,_,rfl,_,rfl,z4,fun t1 n1=>⟨_,rfl,z2,fun q' nq=>?_⟩⟩
 have u1:=B7.upd (o:= .tup (Nm.vs ⟨.plain,sg,f',p'⟩)) n1
 have u2:=B7.upd (o:= .tup [.ref t1,.ref a]) nq
 exact k0 q' zs _ (t9.trans (u1.trans u2)) ⟨t1,a,A7,u2 _ _ A7,(u1.trans u2) _ _ ea9⟩ (by omega) hz
noncomputable def B9f (v:Cv) (s i:Int):Nm:=⟨.plain,s,0,C6m (Z4 i (v.l-v.r+1)) v.m⟩
theorem A7e.same{CN CC CT:Addr}{H H1:Hp}{c:Addr}{v:Cv}{b:Addr}{xs ys:List Str}{res:Nm×List Str}{Q:VK}{E:XK}(k:A7e CN CC CT H c v b xs ys res Q E)(s:B7 H H1):A7e CN CC CT H1 c v b xs ys res Q E:=
 ⟨fun hn m a' H' x=>k.1 hn m a' H' ((Exc.of s).trans x),fun z hz a' d H' x=>k.2 z hz a' d H' ((Exc.of s).trans x)⟩
theorem Z8j(tr:List Str):hit tr []=none:=by
 unfold hit
 rw[List.find?_eq_none]
 simp
theorem A7e.calm{CN CC CT:Addr}{H H1:Hp}{c n a:Addr}{v:Cv}{b:Addr}{xs ys:List Str}{x:Nm}{Q:VK}{E:XK}(k:A7e CN CC CT H c v b xs ys (x,[]) Q E)(ox:Y5 xs=xs)(s:B7 H H1)(hc:A6u CC H c v a b xs ys)(hn:U0 CN H1 n x):Q (.ref n) H1:=
 k.1 (Z8j _) n a H1 (Exc.of s) (by show A6u CC H1 c v a b (Y5 (xs++ [])) ys;rw[List.append_nil,ox];exact hc.same s) hn
deriving instance DecidableEq for Kd
noncomputable abbrev A2m:Stmt:=(top 51)
noncomputable abbrev B1n:Stmt:=(top 28)
noncomputable abbrev A5c:Stmt:=(top 49)
noncomputable abbrev A5a:Stmt:=(top 50)
noncomputable abbrev A8h:Stmt:=(top 52)
noncomputable abbrev A2b:Stmt:=(top 53)
noncomputable abbrev A1a:Stmt:=(top 45)
noncomputable def C0n (CN CC CT:Addr):Sp:=fun vs H Q E=>∃c v a b xs ys n x,∃L:Int,vs=[.ref c,.ref n]/\A6u CC H c v a b xs ys/\v.Ok/\xs.length<=900/\Y5 xs=xs/\U0 CN H n x/\0<=x.s/\x.s<=1/\0<=x.f/\x.f<C8 500/\ -300<=x.p/\x.p<=300/\(x.k= .plain ->x.f≠0 ->A0m x.f 1 (x.p-L))/\A7e CN CC CT H c v b xs ys (A8c v x L) Q E
theorem V2k:B9 Q9 Q9 (A1 A4y):=scK
theorem J7n{f f1 f2 f3 fI CN CC CB CB' CT CW CR CE:Addr}{cw:Wy ->Addr}{fd fd1 fd2 fd3 fdI:FuncData}{d0:Value}{gP:List Value ->List Value ->List Value}{vP:List V ->List V ->List V}(D:Def K mg "rounded" Q9 A4y f fd)
   (dA:Def K mg "need_number" ["thing"] A0z f1 fd1) (dB:sI P w K mg base 1 f1 fd1 ["thing"] (A3s K CN CB')) (dC:Def K mg "nought" Q19 A6a f2 fd2) (dD:sI P w K mg base 3 f2 fd2 Q19 (J1c CN CC))
   (dE:Def K mg "settled" Q37 A4u f3 fd3) (dF:sI P w K mg base 6 f3 fd3 Q37 (D7n CN CC CT CR)) (MR:A0en P w K mg base CR fI fdI d0 gP vP) (R:J9t K mg CR CE) (N:Num K mg CN):
   sI P w K mg base 7 f fd Q9 (C0n CN CC CT):=by
 refine D.F.okE V2k (fun vs H Q E h=>?_) (fun X cdv A outer s H vs Q E hX hr hx h=>?_)
 . obtain⟨c,v,a,b,xs,ys,n,x,L,rfl,_⟩:=h
   rfl
 subst hX
 obtain⟨c,v,a,b,xs,ys,n,x,L,rfl,hc,ok,lx,ox,num,s0,s1,f0,f1,p0,p1,hL,k⟩:=h
 refine⟨_,(A8 (J9 (D5 dA dB hr hx (A0 (pv 1) A6))) (A8 (J0 (D4 C7h (J1 (pv 1) rfl) B3 (D0 _)) (B0 (C7 (pv 1))) D6) (A8 (J0 (D4 G7 (J1 (pv 1) rfl) A3 (D0 _)) (B0 (C7 (D5 dC dD hr hx (A0 (pv 0) (A0 (J1 (pv 1) rfl) (A0 (J1 (pv 1) rfl) A6)))))) D6) (B0 (C7 (D5 dE dF hr hx (A0 (pv 0) (A0 (J1 (pv 1) rfl) (A0 (C5z MR.m MR.g hr R.g MR.b3 .nil hx (A0 (J1 (pv 1) rfl) (A0 A3 (A0 (J1 (pv 1) rfl) A6)))) (A0 (J1 (pv 1) rfl) A6)))))))))),?_⟩
 obtain⟨dn,en⟩:=id num
 refine⟨_,rfl,_,rfl,Or.inl ⟨n,_,_,_,_,rfl,num,?_⟩⟩
 refine⟨_,rfl,n,CN,dn,_,_,rfl,en,N.cl,N.n1,num1 _ _ _ _,rfl,_,rfl,?_⟩
 by_cases hk:x.k= .plain
 . have eR:A8c v x L=if x.f=0 then(⟨.plain,x.s,0,C6m (Z4 x.p (v.l-v.r+1)) v.m⟩,[]) else Z6 v x.s x.f 1 x.p L x.p:=by unfold A8c;rw[hk]
   rw[eR] at k
   refine C5y (by rw[hk];rfl) ⟨_,rfl,n,CN,dn,_,_,rfl,en,N.cl,N.n3,V3x _ _ _ _,rfl,_,rfl,V8 (fun hf=>?_) (fun hf=>?_)⟩
   . have hf:x.f=0:=V.int.inj hf
     rw[if_pos hf] at k
     exact⟨_,rfl,_,rfl,n,CN,dn,_,_,rfl,en,N.cl,N.n2,Z7m _ _ _ _,_,rfl,n,CN,dn,_,_,rfl,en,N.cl,N.n4,J9q _ _ _ _,c,v,a,b,xs,ys,x.s,x.p,rfl,hc,fun n' H' nn s' num'=>k.calm ox s' hc num'⟩
   . have hf:¬x.f=0:=fun z=>hf (congrArg V.int z)
     rw[if_neg hf] at k
     have zl:SzL x.f:=⟨by omega,f1⟩
     have z1:Sz x.f:=zl.sz
     have hl:=hL hk hf
     have ls:=C8y z1 G0r hl
     have fn:=Y3c (v:=v) ok ls.1 ls.2 (by omega) (by omega)
     refine⟨_,rfl,_,rfl,n,CN,dn,_,_,rfl,en,N.cl,N.n2,Z7m _ _ _ _,_,rfl,n,CN,dn,_,_,rfl,en,N.cl,N.n3,V3x _ _ _ _,_,rfl,n,CN,dn,_,_,rfl,en,N.cl,N.n4,J9q _ _ _ _,fun r dr m1 m2 me=>A0na m1 m2 me fun H1 s1' ra=>⟨rfl,?_⟩⟩
     obtain⟨dn1,en1⟩:=num.same s1'
     exact⟨_,rfl,n,CN,dn1,_,_,rfl,en1,N.cl,N.n4,J9q _ _ _ _,c,v,a,b,xs,ys,r,x.f,1,x.p,L,x.s,x.p,rfl,hc.same s1',ok,lx,ra,z1,G0r,hl,fn.1,fn.2,s0,s1,k.same s1'⟩
 have eR:A8c v x L=(x,[]):=by
   unfold A8c
   cases hx:x.k with
   |plain=>exact absurd hx hk
   |end_=>rfl
   |none=>rfl
 rw[eR] at k
 exact D7t (fun z=>hk (eqS (b:= .plain) z)) ⟨_,rfl,k.calm ox (B7.refl _) hc num⟩
noncomputable def G1c (K:Frag) (CB:Addr):Sp:=fun vs H Q E=>∃u:V,vs=[u,.int 100]/\((A5v (-100) 100 u/\Q .non H)\/(A8f K H (-100) 100 u/\E (.ref CB) none H))
theorem Z7n:B9 Q14 Q14 (A1 B1n):=scK
theorem Y3u{f f1 CB:Addr}(D:Def K mg "need_count" Q14 B1n f fd)(D1:Def K mg "is_between" Q5 C7d f1 fd1)(O:Own mg)(T:Kit K)(B:Err K mg "BadCount" CB):sI P w K mg base 2 f fd Q14 (G1c K CB):=by
 have G1:=J8v (P:=P) (w:=w) (base:=base) D1 O T
 refine D.F.okE Z7n (fun vs H Q E h=>?_) (fun X cdv A outer s H vs Q E hX hr hx h=>?_)
 . obtain⟨n,rfl,_⟩:=h
   rfl
 subst hX
 obtain⟨u,rfl,h⟩:=h
 refine⟨_,(B0 (J0 (A4t (A0b (D5 D1 G1 hr hx (A0 (pv 0) (A0 (B1a A5f (pv 1)) (A0 (pv 1) A6)))))) (B0 (A2x (by rfl) B.g B.q PySem.F.excBase_ValueError hr.hd hx (A0 (G0v (.cons .lit (.cons (.int (pv 1)) (.cons .lit (.cons (.int (pv 1)) .nil))))) A6))) D6)),?_⟩
 rcases h with⟨g,k⟩|⟨g,k⟩
 . exact⟨_,rfl,_,rfl,_,rfl,_,rfl,_,_,_,rfl,.inl ⟨g,_,rfl,U8 k⟩⟩
 have a0:Str.empty.length=0:=rfl
 have a1:(Str.ofString "not a whole number from -").length=25:=by decide+kernel
 have a2:(Str.ofString " to ").length=4:=by decide+kernel
 have a3:(Str.ofString (toString (100:Int))).length=3:=by decide+kernel
 have sz:∀{n:Nat},n<=1000 ->n<=sizeLine:=fun h=>Nat.le_of_lt (Y0 h)
 have l1:(100:Int).natAbs.log2<1920:=by decide+kernel
 refine⟨_,rfl,_,rfl,_,rfl,_,rfl,_,_,_,rfl,.inr ⟨g,_,rfl,Z8 ?_⟩⟩
 exact⟨_,rfl,sz (by rw[strLen_append];omega),_,rfl,_,rfl,l1,_,rfl,sz (by rw[strLen_append,strLen_append];omega),_,rfl,sz (by rw[strLen_append,strLen_append,strLen_append];omega),_,rfl,_,rfl,l1,_,rfl,sz (by rw[strLen_append,strLen_append,strLen_append,strLen_append];omega),sz (by rw[strLen_append,strLen_append,strLen_append,strLen_append];omega),sz (by show 1<=1000;decide),k⟩
noncomputable def scR (v:Cv) (x:Nm) (m L:Int):Nm×List Str:=if x.k= .plain then A8c v ⟨.plain,x.s,x.f,x.p+m⟩ L else(x,[])
noncomputable def J1b (CN CC CT:Addr):Sp:=fun vs H Q E=>∃c v a b xs ys n x,∃m L:Int,vs=[.ref c,.ref n,.int m]/\A6u CC H c v a b xs ys/\v.Ok/\xs.length<=900/\Y5 xs=xs/\U0 CN H n x/\x.Ok/\ -100<=m/\m<=100/\(x.k= .plain ->x.f≠0 ->A0m x.f 1 (x.p+m-L))/\A7e CN CC CT H c v b xs ys (scR v x m L) Q E
theorem J1r:B9 Q10 Q10 (A1 A2m):=scK
theorem V4a{f f1 f2 f6 fI CN CC CB' CB4 CT:Addr}{fd fd1 fd2 fd6 fdI:FuncData}(D:Def K mg "scaled" Q10 A2m f fd)(dA:Def K mg "need_number" ["thing"] A0z f1 fd1)(dB:sI P w K mg base 1 f1 fd1 ["thing"] (A3s K CN CB'))(dC:Def K mg "need_count" Q14 B1n f2 fd2)(dD:sI P w K mg base 2 f2 fd2 Q14 (G1c K CB4))
   (dE:Def K mg "rounded" Q9 A4y f6 fd6) (dF:sI P w K mg base 7 f6 fd6 Q9 (C0n CN CC CT)) (N:Num K mg CN) (M:B9m P w K mg base CN fI fdI):sI P w K mg base 8 f fd Q10 (J1b CN CC CT):=by
 refine D.F.okE J1r (fun vs H Q E h=>?_) (fun X cdv A outer s H vs Q E hX hr hx h=>?_)
 . obtain⟨c,v,a,b,xs,ys,n,x,m,L,rfl,_⟩:=h
   rfl
 subst hX
 obtain⟨c,v,a,b,xs,ys,n,x,m,L,rfl,hc,ok,lx,ox,num,xo,m0,m1,hL,k⟩:=h
 refine⟨_,(A8 (J9 (D5 dA dB hr hx (A0 (pv 1) A6))) (A8 (J9 (D5 dC dD hr hx (A0 (pv 2) (A0 A3 A6)))) (A8 (J0 (D4 C7h (J1 (pv 1) rfl) B3 (D0 _)) (B0 (C7 (pv 1))) D6) (B0 (C7 (D5 dE dF hr hx (A0 (pv 0) (A0 (C5z M.m (FnOk.up M.g) hr N.g M.b .nil hx (A0 B3 (A0 (J1 (pv 1) rfl) (A0 (J1 (pv 1) rfl) (A0 (B1 V4 (J1 (pv 1) rfl) (pv 2)) A6))))) A6)))))))),?_⟩
 obtain⟨dn,en⟩:=id num
 refine⟨_,rfl,_,rfl,Or.inl ⟨n,_,_,_,_,rfl,num,?_⟩⟩
 refine⟨_,rfl,_,rfl,Or.inl ⟨⟨m,rfl,m0,m1⟩,?_⟩⟩
 refine⟨_,rfl,n,CN,dn,_,_,rfl,en,N.cl,N.n1,num1 _ _ _ _,rfl,_,rfl,?_⟩
 unfold scR at k
 by_cases hk:x.k= .plain
 . rw[if_pos hk] at k
   refine C5y (by rw[hk];rfl) ?_
   refine⟨_,rfl,_,rfl,n,CN,dn,_,_,rfl,en,N.cl,N.n2,Z7m _ _ _ _,_,rfl,n,CN,dn,_,_,rfl,en,N.cl,N.n3,V3x _ _ _ _,_,rfl,n,CN,dn,_,_,rfl,en,N.cl,N.n4,J9q _ _ _ _,_,rfl,_,_,rfl,rfl,?_⟩
   refine C7q (Q:=fun u H'=>C0n CN CC CT ([V.ref c,u]++ []) H' Q (fun C d H'=>E C d H')) fun n' H4 nn s4 num'=>?_
   have:=xo.p0;have:=xo.p1
   exact⟨c,v,a,b,xs,ys,n',⟨.plain,x.s,x.f,x.p+m⟩,L,rfl,hc.same s4,ok,lx,ox,num',xo.s0,xo.s1,xo.f0,Int.lt_of_le_of_lt xo.f1 (by decide+kernel),by show -300<=x.p+m;omega,by show x.p+m<=300;omega,fun _=>hL hk,k.same s4⟩
 rw[if_neg hk] at k
 exact D7t (fun z=>hk (eqS (b:= .plain) z)) ⟨_,rfl,k.calm ox (B7.refl _) hc num⟩
noncomputable def B1z (K:Frag) (CN CB:Addr):Sp:=fun vs H Q E=>∃c v1,vs=[c,v1]/\A5h K CN H v1/\E (.ref CB) none H
noncomputable def J7z (K:Frag) (CN CB CB4:Addr):Sp:=fun vs H Q E=>∃c v1 v2,vs=[c,v1,v2]/\((A5h K CN H v1/\E (.ref CB) none H)\/∃n x,v1= .ref n/\U0 CN H n x/\A8f K H (-100) 100 v2/\E (.ref CB4) none H)
theorem G1g{f f1 f2 CN CB' CB4:Addr}(D:Def K mg "scaled" Q10 A2m f fd)(dA:Def K mg "need_number" ["thing"] A0z f1 fd1)(dB:sI P w K mg base 1 f1 fd1 ["thing"] (A3s K CN CB'))(dC:Def K mg "need_count" Q14 B1n f2 fd2)(dD:sI P w K mg base 2 f2 fd2 Q14 (G1c K CB4)):sI P w K mg base 3 f fd Q10 (J7z K CN CB' CB4):=by
 refine D.F.okE J1r (fun vs H Q E h=>?_) (fun X cdv A outer s H vs Q E hX hr hx h=>?_)
 . obtain⟨c,v1,v2,rfl,_⟩:=h
   rfl
 subst hX
 obtain⟨c,v1,v2,rfl,h⟩:=h
 refine⟨_,A8 (J9 (D5 dA dB hr hx (A0 (pv 1) A6))) (A8 (J9 (D5 dC dD hr hx (A0 (pv 2) (A0 A3 A6)))) C0u),?_⟩
 rcases h with⟨b,k⟩|⟨n,x,rfl,num,b,k⟩
 . exact⟨_,rfl,_,rfl,.inr ⟨b,k⟩⟩
 exact⟨_,rfl,_,rfl,.inl ⟨n,_,_,_,_,rfl,num,_,rfl,_,rfl,.inr ⟨b,k⟩⟩⟩
theorem V2q:B9 Q4 Q4 (A1 A5c):=scK
theorem C8b{f f1 CN CB':Addr}(D:Def K mg "to_whole" Q4 A5c f fd)(dA:Def K mg "need_number" ["thing"] A0z f1 fd1)(dB:sI P w K mg base 1 f1 fd1 ["thing"] (A3s K CN CB')):sI P w K mg base 3 f fd Q4 (B1z K CN CB'):=by
 refine D.F.okE V2q (fun vs H Q E h=>?_) (fun X cdv A outer s H vs Q E hX hr hx h=>?_)
 . obtain⟨c,v1,rfl,_⟩:=h
   rfl
 subst hX
 obtain⟨c,v1,rfl,b,k⟩:=h
 exact⟨_,A8 (J9 (D5 dA dB hr hx (A0 (pv 1) A6))) C0u,⟨_,rfl,_,rfl,.inr ⟨b,k⟩⟩⟩
theorem V2p:B9 Q4 Q4 (A1 A5a):=scK
theorem D3r{f f1 CN CB':Addr}(D:Def K mg "trimmed" Q4 A5a f fd)(dA:Def K mg "need_number" ["thing"] A0z f1 fd1)(dB:sI P w K mg base 1 f1 fd1 ["thing"] (A3s K CN CB')):sI P w K mg base 3 f fd Q4 (B1z K CN CB'):=by
 refine D.F.okE V2p (fun vs H Q E h=>?_) (fun X cdv A outer s H vs Q E hX hr hx h=>?_)
 . obtain⟨c,v1,rfl,_⟩:=h
   rfl
 subst hX
 obtain⟨c,v1,rfl,b,k⟩:=h
 exact⟨_,A8 (J9 (D5 dA dB hr hx (A0 (pv 1) A6))) C0u,⟨_,rfl,_,rfl,.inr ⟨b,k⟩⟩⟩
theorem Y2x:B9 Q4 Q4 (A1 A8h):=scK
theorem D3m{f f1 CN CB':Addr}(D:Def K mg "next_up" Q4 A8h f fd)(dA:Def K mg "need_number" ["thing"] A0z f1 fd1)(dB:sI P w K mg base 1 f1 fd1 ["thing"] (A3s K CN CB')):sI P w K mg base 3 f fd Q4 (B1z K CN CB'):=by
 refine D.F.okE Y2x (fun vs H Q E h=>?_) (fun X cdv A outer s H vs Q E hX hr hx h=>?_)
 . obtain⟨c,v1,rfl,_⟩:=h
   rfl
 subst hX
 obtain⟨c,v1,rfl,b,k⟩:=h
 exact⟨_,A8 (J9 (D5 dA dB hr hx (A0 (pv 1) A6))) C0u,⟨_,rfl,_,rfl,.inr ⟨b,k⟩⟩⟩
theorem J9m:B9 Q4 Q4 (A1 A2b):=scK
theorem C6n{f f1 CN CB':Addr}(D:Def K mg "next_down" Q4 A2b f fd)(dA:Def K mg "need_number" ["thing"] A0z f1 fd1)(dB:sI P w K mg base 1 f1 fd1 ["thing"] (A3s K CN CB')):sI P w K mg base 3 f fd Q4 (B1z K CN CB'):=by
 refine D.F.okE J9m (fun vs H Q E h=>?_) (fun X cdv A outer s H vs Q E hX hr hx h=>?_)
 . obtain⟨c,v1,rfl,_⟩:=h
   rfl
 subst hX
 obtain⟨c,v1,rfl,b,k⟩:=h
 exact⟨_,A8 (J9 (D5 dA dB hr hx (A0 (pv 1) A6))) C0u,⟨_,rfl,_,rfl,.inr ⟨b,k⟩⟩⟩
noncomputable def Y0a (K:Frag) (CN CB:Addr):Sp:=fun vs H Q E=>∃c v1 v2,vs=[c,v1,v2]/\(A5h K CN H v1\/∃n x,v1= .ref n/\U0 CN H n x/\A5h K CN H v2)/\∀H',B7 H H' ->E (.ref CB) none H'
theorem J3b:B9 Q31 Q31 (A1 A1a):=scK
theorem C6q{f f1 CN CB':Addr}(D:Def K mg "same_power" Q31 A1a f fd)(dA:Def K mg "need_numbers" ["things"] A8j f1 fd1)(dB:sI P w K mg base 2 f1 fd1 ["things"] (J0t K CN CB')):sI P w K mg base 3 f fd Q31 (Y0a K CN CB'):=by
 refine D.F.okE J3b (fun vs H Q E h=>?_) (fun X cdv A outer s H vs Q E hX hr hx h=>?_)
 . obtain⟨c,v1,v2,rfl,_⟩:=h
   rfl
 subst hX
 obtain⟨c,v1,v2,rfl,bad,k⟩:=h
 refine⟨_,A8 (J9 (D5 dA dB hr hx (A0 (U1 (A0 (pv 1) (A0 (pv 2) A6))) A6))) C0u,?_⟩
 refine⟨_,rfl,_,rfl,D3 (show 2<=1000 by decide),fun l nl=>?_⟩
 have u:=B7.upd (o:= .lst [v1,v2]) nl
 rcases bad with b|⟨n,x,rfl,num,b⟩
 . exact⟨l,[],rfl,(fun p hp=>by cases hp),.inr ⟨v1,[v2],A7,b.same u,k _ u⟩⟩
 exact⟨l,[(n,x)],rfl,(fun p hp=>by rw[List.mem_singleton.mp hp];exact num.same u),.inr ⟨v2,[],A7,b.same u,k _ u⟩⟩
noncomputable abbrev A7y:Stmt:=(top 92)
noncomputable abbrev C8t:Stmt:=(top 93)
theorem Y0d{a b:Kd}:V.str a.str=V.str b.str↔a=b:=⟨fun h=>by cases a<;>cases b<;>first|rfl|(exfalso;revert h;decide+kernel),fun h=>by rw[h]⟩
theorem A0mx(x:Nm)(j:Nat)(hj:j<4):atI x.vs (j:Int)=some (x.vs.getD j .non):=U7 (j:=j) (by
 rcases(by omega:j=0\/j=1\/j=2\/j=3) with rfl|rfl|rfl|rfl<;>rfl)
theorem J1u{f p:Int}(h0:0<=f)(h:f≠0)(h1:f<=10^60-1)(p1:p<=400):SzL (f*C8 p):=by
 have tp:=Y8 p
 refine⟨Int.mul_pos (by omega) tp,?_⟩
 have e:C8 p<=C8 400:=B5c (by omega)
 have a:f*C8 p<=(10^60-1)*C8 400:=Int.mul_le_mul h1 e (Int.le_of_lt tp) (by decide+kernel)
 exact Int.lt_of_le_of_lt a (by decide+kernel)
noncomputable def J0x:Sp:=fun vs H Q _=>∃c:Int,vs=[.int c]/\∀n H', -100<=n ->n<=100 ->B7 H H' ->Q (.int n) H'
theorem Y3h:B9 ["_law_cell"] ["_law_cell"] (A1 A7y):=scK
theorem V4n(D:Def K mg "_law_count" ["_law_cell"] A7y f fd):sI P w K mg base 1 f fd ["_law_cell"] J0x:=by
 refine D.F.okE Y3h (fun vs H Q E h=>?_) (fun X cdv A outer s H vs Q E hX hr hx h=>?_)
 . obtain⟨c,rfl,_⟩:=h
   rfl
 subst hX
 obtain⟨c,rfl,k⟩:=h
 refine⟨_,(B0 (C7 (V5 A0a (U1 (A0 (B1 V2 (B1 G2 (B1 G3 (pv 0) A3) A3) A3) (A0 (B1 V2 (B1 G2 (B1 G3 (pv 0) A3) A3) A3) (A0 (V5 A0a (U1 (A0 (B1a A5f A3) (A0 A3 A6))) (B1 G2 (B1 G3 (pv 0) A3) A3) (fun _ _=>rfl)) (A0 (B1 V2 (B1 G2 (B1 G3 (pv 0) A3) A3) A3) A6))))) (B1 G2 (pv 0) A3) (fun _ _=>rfl)))),?_⟩
 have z2:2<=sizeLine:=D3 (by decide)
 have z4:4<=sizeLine:=D3 (by decide)
 have d4:(0:Int)<4/\(4:Int).natAbs.log2<9000:=dv (by decide) (by decide+kernel)
 have m201:=Int.emod_lt_of_pos (c/4) (show(0:Int)<201 by decide)
 have n201:=Int.emod_nonneg (c/4) (show(201:Int)≠0 by decide)
 have m21:=Int.emod_lt_of_pos (c/4) (show(0:Int)<21 by decide)
 have n21:=Int.emod_nonneg (c/4) (show(21:Int)≠0 by decide)
 have m3:=Int.emod_lt_of_pos (c/4) (show(0:Int)<3 by decide)
 have n3:=Int.emod_nonneg (c/4) (show(3:Int)≠0 by decide)
 obtain⟨e,he,ie⟩:=ixs (xs:=[-100,100]) (i:=c/4 % 2) (Int.emod_nonneg _ (by decide)) (by show c/4 % 2<2;exact Int.emod_lt_of_pos _ (by decide))
 obtain⟨o,ho,ix⟩:=ixs (xs:=[c/4 % 201-100,c/4 % 21-10,e,c/4 % 3-1]) (i:=c % 4) (Int.emod_nonneg _ (by decide)) (by show c % 4<4;exact Int.emod_lt_of_pos _ (by decide))
 refine⟨_,rfl,_,_,rfl,rfl,d4,_,_,rfl,rfl,(by decide:(0:Int)<201),_,_,rfl,rfl,_,rfl,_,_,rfl,rfl,d4,_,_,rfl,rfl,(by decide:(0:Int)<21),_,_,rfl,rfl,_,rfl,z2,fun l1 n1=>⟨_,rfl,_,_,rfl,rfl,d4,_,_,rfl,rfl,(by decide:(0:Int)<2),l1,_,_,_,rfl,rfl,SqL.of A7,ie,_,rfl,_,_,rfl,rfl,d4,_,_,rfl,rfl,(by decide:(0:Int)<3),_,_,rfl,rfl,z4,fun l2 n2=>⟨_,rfl,_,_,rfl,rfl,(by decide:(0:Int)<4),l2,_,_,_,rfl,rfl,SqL.of A7,ix,k o _ ?_ ?_ ((B7.upd n1).trans (B7.upd n2))⟩⟩⟩
 . simp only[List.mem_cons,List.not_mem_nil,or_false] at ho he
   omega
 simp only[List.mem_cons,List.not_mem_nil,or_false] at ho he
 omega
noncomputable def Y2y:Sp:=fun vs H Q _=>∃d u t r y l m up tr q x,∃ct L:Int,vs=[.ref d,.ref q,.int ct]/\V7 H d u t r y l m up tr/\A6b r l m/\H q=some (.tup (Nm.vs x))/\x.Wf/\ -100<=ct/\ct<=100/\(x.k= .plain ->x.f≠0 ->A0m x.f 1 (x.p+ct-L))/\
 ∀p zs H',B7 H H' ->Y2t H' p (scR ⟨r,y,l,m⟩ x ct L).1 zs ->zs.length<=10 ->(∀z,z∈zs↔z∈(scR ⟨r,y,l,m⟩ x ct L).2) ->Q (.ref p) H'
theorem A0gt:B9 Q32 Q32 (A1 C8t):=scK
theorem Z8u(D:Def K mg "_law_due" Q32 C8t f fd)(dA:Def K mg "_law_settled" Q42 A2c f1 fd1)(dB:sI P w K mg base 3 f1 fd1 Q42 C8u)
   (dC:Def K mg "_law_ratio" Q29 A7u f2 fd2) (dD:sI P w K mg base 2 f2 fd2 Q29 J2e) (dE:Def K mg "_law_nought" Q30 A5b f3 fd3) (dF:sI P w K mg base 1 f3 fd3 Q30 D7c):sI P w K mg base 4 f fd Q32 Y2y:=by
 refine D.F.okE A0gt (fun vs H Q E h=>?_) (fun X cdv A outer s H vs Q E hX hr hx h=>?_)
 . obtain⟨d,u,t,r,y,l,m,up,tr,q,x,ct,L,rfl,_⟩:=h
   rfl
 subst hX
 obtain⟨d,u,t,r,y,l,m,up,tr,q,x,ct,L,rfl,ow,fr,eq,wf,c0,c1,hL,k⟩:=h
 refine⟨_,(A8 (C6 (J0 (D4 C7h (V5 Y2 (pv 1) A3 (fun _ _=>rfl)) B3 (D0 _)) (B0 (C7 (V3 (A0 (pv 1) (A0 (U1 A6) A6))))) D6)) (A8 (C6 (J0 (D4 G7 (V5 Y2 (pv 1) A3 (fun _ _=>rfl)) A3 (D0 _)) (B0 (C7 (V3 (A0 (D5 dE dF hr hx (A0 (pv 0) (A0 (V5 Y2 (pv 1) A3 (fun _ _=>rfl)) (A0 (B1 V4 (V5 Y2 (pv 1) A3 (fun _ _=>rfl)) (pv 2)) A6)))) (A0 (U1 A6) A6))))) D6)) (B0 (C7 (D5 dA dB hr hx (A0 (pv 0) (A0 (V5 Y2 (pv 1) A3 (fun _ _=>rfl)) (A0 (D5 dC dD hr hx (A0 (V5 Y2 (pv 1) A3 (fun _ _=>rfl)) (A0 A3 (A0 (B1 V4 (V5 Y2 (pv 1) A3 (fun _ _=>rfl)) (pv 2)) A6)))) (A0 (B1 V4 (V5 Y2 (pv 1) A3 (fun _ _=>rfl)) (pv 2)) A6))))))))),?_⟩
 have z0:0<=sizeLine:=Nat.zero_le _
 have z2:2<=sizeLine:=D3 (by decide)
 have ix:=A0mx x
 unfold scR at k
 refine⟨fun σ' H'=>H'=H/\x.k= .plain/\σ'=[sr d,sr q,si ct],?_,?_⟩
 . refine⟨_,rfl,q,_,_,_,rfl,rfl,SqT.of eq,ix 0 (by decide),rfl,_,rfl,?_⟩
   by_cases hk:x.k= .plain
   . exact C5y (Y0d (b:= .plain)|>.mpr hk) ⟨rfl,hk,rfl⟩
   . rw[if_neg hk] at k
     exact D7t (fun z=>hk (Y0d (b:= .plain)|>.mp z)) ⟨_,rfl,z0,fun p np=>⟨z2,fun p2 np2=>k p2 [] _ ((B7.upd np).trans (B7.upd np2)) ⟨q,p,A7,((B7.upd np).trans (B7.upd np2)) _ _ eq,(B7.upd np2) _ _ A7⟩ (Nat.zero_le _) fun z=>Iff.rfl⟩⟩
 rintro σ' H1 ⟨rfl,hk,rfl⟩
 rw[if_pos hk] at k
 have eR:A8c ⟨r,y,l,m⟩ ⟨.plain,x.s,x.f,x.p+ct⟩ L=if x.f=0 then(⟨.plain,x.s,0,C6m (Z4 (x.p+ct) (l-r+1)) m⟩,[]) else Z6 ⟨r,y,l,m⟩ x.s x.f 1 (x.p+ct) L (x.p+ct):=rfl
 rw[eR] at k
 refine⟨fun σ' H'=>H'=H1/\x.f≠0/\σ'=[sr d,sr q,si ct],?_,?_⟩
 . refine⟨_,rfl,q,_,_,_,rfl,rfl,SqT.of eq,ix 2 (by decide),rfl,_,rfl,V8 (fun h=>?_) (fun h=>⟨rfl,fun z=>h (congrArg V.int z),rfl⟩)⟩
   have hf:x.f=0:=V.int.inj h
   rw[if_pos hf] at k
   refine⟨_,rfl,_,rfl,q,_,_,_,rfl,rfl,SqT.of eq,ix 1 (by decide),_,rfl,q,_,_,_,rfl,rfl,SqT.of eq,ix 3 (by decide),_,rfl,_,_,rfl,rfl,d,u,t,r,y,l,m,up,tr,x.s,x.p+ct,rfl,ow,fr,fun a na=>⟨z0,fun b nb=>⟨z2,fun p np=>?_⟩⟩⟩
   have u1:=B7.upd (o:= .tup (Nm.mk .plain x.s 0 (C6m (Z4 (x.p+ct) (l-r+1)) m)).vs) na
   have u2:=B7.upd (o:= .lst []) nb
   have u3:=B7.upd (o:= .tup [.ref a,.ref b]) np
   exact k p [] _ (u1.trans (u2.trans u3)) ⟨a,b,A7,(u2.trans u3) _ _ A7,u3 _ _ A7⟩ (Nat.zero_le _) fun z=>Iff.rfl
 rintro σ' H2 ⟨rfl,hf,rfl⟩
 rw[if_neg hf] at k
 have f10:=wf.ok.f0;have f11:=wf.ok.f1;have p10:=wf.ok.p0;have p11:=wf.ok.p1
 refine⟨_,rfl,_,rfl,q,_,_,_,rfl,rfl,SqT.of eq,ix 1 (by decide),_,rfl,q,_,_,_,rfl,rfl,SqT.of eq,ix 2 (by decide),_,rfl,q,_,_,_,rfl,rfl,SqT.of eq,ix 3 (by decide),_,rfl,_,_,rfl,rfl,x.f,1,x.p+ct,rfl,by omega,by omega,B1e (Y0y f10 hf f11) (by omega),B1e G0r (by omega),fun rq H6 s6 erq=>?_⟩
 refine⟨_,rfl,q,_,_,_,rfl,rfl,SqT.of (s6 _ _ eq),ix 3 (by decide),_,rfl,_,_,rfl,rfl,d,u,t,r,y,l,m,up,tr,rq,x.s,x.f*C8 (x.p+ct),1*C8 (-(x.p+ct)),x.p+ct,rfl,ow.same s6,fr,wf.ok.s0,wf.ok.s1,erq,J1u f10 hf f11 (by omega),J1u (f:=1) (by decide) (by decide) (by decide) (by omega),fun L' p zs H7 ld s7 du lz hz=>?_⟩
 obtain rfl:L'=L:=by
   have a:=D9y (by decide:(0:Int)<1) (lead_scale.mp ld) (hL hk hf)
   omega
 rw[G0h _ _ _ _ _ _ _ (by decide:(0:Int)<1)] at du hz
 exact k p zs H7 (s6.trans s7) du lz hz
noncomputable abbrev A2u:Stmt:=(top 91)
theorem cnt1{j:Nat}(h:j<5):((List.range 6).filter fun i=>decide (i=j))=[j]:=by
 rcases(by omega:j=0\/j=1\/j=2\/j=3\/j=4) with rfl|rfl|rfl|rfl|rfl<;>decide
theorem iteB{b:Bool}{A B:Prop}(h1:b=true ->A)(h2:b=false ->B):if b=true then A else B:=by
 cases b with
 |true=>exact h1 rfl
 |false=>exact h2 rfl
structure A0em(mg:Str ->Option Value)(C1 C2 C3 C4 C5:Addr):Prop where
 g1:mg "BadNumber"=some (.ref C1)
 g2:mg "NoText"=some (.ref C2)
 g3:mg "BadContext"=some (.ref C3)
 g4:mg "BadCount"=some (.ref C4)
 g5:mg "Trapped"=some (.ref C5)
structure V1q(K:Frag)(mg:Str ->Option Value)(CR:Addr):Prop where
 g:mg "ReckonError"=some (.ref CR)
 c:G1q K CR
noncomputable def A0ey:List Str:=["number","text","context","count","trapped","bare"]
structure Wd(K:Frag)(CR C1 C2 C3 C4 C5 CB:Addr)(j:Nat)(z:Str):Prop where
 sub:subIn K (.ref CB) (.ref CR)=some true
 fits:Fits K CB C1 C2 C3 C4 C5 (decide (0=j)) (decide (1=j)) (decide (2=j)) (decide (3=j)) (decide (4=j))
 lt:j<5
 at_:A0ey[j]?=some z
theorem V3s{X:Cx}{tg l:Expr}{tl:TE}(hK:X.K=K)(hl:PE X l tl):PIH X tg l (J1w K tl):=by
 subst hK
 exact J2d hl
theorem C7m{X:Cx}(hK:X.K=K):A5e X (.type "tuple") (fun xs H Q=>∃p ys,xs=[.ref p]/\((SqL K H p ys/\∀l,H l=none ->Q (.ref l) (upd H l (.tup ys)))\/(SqT K H p ys/\Q (.ref p) H))):=by
 subst hK
 exact D3f
noncomputable def B5h (P:Program) (w:World) (K:Frag) (mg:Str ->Option Value) (base:Heap) (k:Nat) (CR C1 C2 C3 C4 C5:Addr):Sp:=fun vs H Q _=>∃f J spd CB j z,vs=[.ref f]/\Wd K CR C1 C2 C3 C4 C5 CB j z/\B2e P w K mg base k f J spd/\J H/\
 ∀(Qd:VK) (Ed:XK),(∀H1,(∀p H2,B7 H1 H2 ->H2 p=some (.tup [.str z]) ->Q (.ref p) H2) ->Ed (.ref CB) none H1) ->spd H Qd Ed
theorem scLWord29:B9 ["_law_deed","error","_law_some"] ["_law_deed"] (A1 A2u):=scK
theorem J7r{k:Nat}{f CR C1 C2 C3 C4 C5:Addr}(D:Def K mg "_law_word" ["_law_deed"] A2u f fd)(R:V1q K mg CR)(ES:A0em mg C1 C2 C3 C4 C5)(O:Own mg):sI P w K mg base (k+1) f fd ["_law_deed"] (B5h P w K mg base k CR C1 C2 C3 C4 C5):=by
 refine D.F.okE scLWord29 (fun vs H Q E h=>?_) (fun X cdv A outer s H vs Q E hX hr hx h=>?_)
 . obtain⟨f,J,spd,CB,j,z,rfl,_⟩:=h
   rfl
 subst hX
 obtain⟨g,J,spd,CB,j,z,rfl,WD,DO,hJ,h⟩:=h
 have jl:=WD.lt
 have z2:2<=sizeLine:=D3 (by decide)
 refine⟨_,(A8 (Y1m ⟨rfl,rfl,rfl⟩ (by rfl) R.g R.c scLWord29.nd (i:=1) rfl rfl (fun pins Ew EHb hc=>(B0 (J9 (J1h (P:=P) (w:=w) (K:=K) (mg:=mg) (base:=base) (i:=0) hc hr rfl (.inl rfl) rfl rfl rfl rfl rfl)))) (fun pins a=>(A8 (C6 (D7 (i:=2) scLWord29.nd rfl (Or.inl rfl) (U1 (A0 (V3 (A0 B3 (A0 (D6y (K:=K) rfl O.isi (pv 1) (D3p ES.g1)) A6))) (A0 (V3 (A0 B3 (A0 (D6y (K:=K) rfl O.isi (pv 1) (D3p ES.g2)) A6))) A6))))) (A8 (C6 (D7 (i:=2) scLWord29.nd rfl (Or.inl rfl) (B1 B6p (pv 2) (U1 (A0 (V3 (A0 B3 (A0 (D6y (K:=K) rfl O.isi (pv 1) (D3p ES.g3)) A6))) (A0 (V3 (A0 B3 (A0 (D6y (K:=K) rfl O.isi (pv 1) (D3p ES.g4)) A6))) A6)))))) (A8 (C6 (D7 (i:=2) scLWord29.nd rfl (Or.inl rfl) (B1 B6p (pv 2) (U1 (A0 (V3 (A0 B3 (A0 (D6y (K:=K) rfl O.isi (pv 1) (D3p ES.g5)) A6))) (A0 (V3 (A0 B3 (A0 (A0fr (D6y (K:=K) rfl O.isi (pv 1) (pty O.ValueError_ (show bootBuiltins "ValueError"=some (.type "ValueError") by decide+kernel)))) A6))) A6)))))) (B0 (C7 (Y7 (C7m (K:=K) rfl) (by rfl) O.tuple_ boot_tuple (A0 (Y1h (N:=Q47) (F:=[]) (js:=[]) (D9.of0 ⟨rfl,by decide+kernel,by decide+kernel,by decide+kernel,by decide+kernel⟩ (by rfl)) (a:=a) (by rfl) (V3s (K:=K) rfl (pv 2)) (by rfl) (fun C s₀ H₀ ex pn h=>A0au (K:=K) (n:=2) rfl h (A7c (Z2 (i:=0) (by decide+kernel:(Q47:List Str).Nodup) rfl (Or.inl rfl)) (A7c (Z2 (i:=1) (by decide+kernel:(Q47:List Str).Nodup) rfl (Or.inl rfl)) G0u))) (fun C s₀ H₀ ex pn h=>(A0b (pv 1))) (fun C s₀ H₀ ex pn h=>(pv 0))) A6))))))))) (B0 (C7 (V3 A6)))),?_⟩
 refine⟨g,J,spd,rfl,DO,hJ,h _ _ fun H1 k1=>⟨WD.sub,fun a t T na=>?_⟩⟩
 have u1:=B7.upd (o:= .frz (A0s (.ref CB) t none (.ref T)) (.own a)) na
 have ea:upd H1 a (.frz (A0s (.ref CB) t none (.ref T)) (.own a)) a=some (.frz (A0s (.ref CB) t none (.ref T)) (.own a)):=A7
 generalize upd H1 a (.frz (A0s (.ref CB) t none (.ref T)) (.own a))=G at*
 have ty:∀{H':Hp},B7 G H' ->TyE K H' (.ref a) (.ref CB):=fun s=> .exc (s _ _ ea) WD.fits.k
 refine⟨fun σ' H'=>∃l p1 p2,B7 G H'/\H' l=some (.lst [.ref p1,.ref p2])/\H' p1=some (.tup [.str "number",.bl (decide (0=j))])/\H' p2=some (.tup [.str "text",.bl (decide (1=j))])/\σ'=[sr g,sr a,sr l],?_,?_⟩
 . refine⟨_,rfl,_,_,_,_,_,rfl,rfl,ty (B7.refl _),WD.fits.h1,z2,fun p1 n1=>?_⟩
   have u1':=B7.upd (o:= .tup [.str "number",.bl (decide (0=j))]) n1
   refine⟨_,rfl,_,_,_,_,_,rfl,rfl,ty u1',WD.fits.h2,z2,fun p2 n2=>⟨z2,fun l nl=>?_⟩⟩
   have u2:=B7.upd (o:= .tup [.str "text",.bl (decide (1=j))]) n2
   have u3:=B7.upd (o:= .lst [.ref p1,.ref p2]) nl
   exact⟨l,p1,p2,u1'.trans (u2.trans u3),A7,u3 _ _ (u2 _ _ A7),u3 _ _ A7,rfl⟩
 rintro σ' H2 ⟨l,p1,p2,s2,el,e1,e2,rfl⟩
 refine⟨fun σ' H'=>∃l p1 p2 p3 p4,B7 G H'/\H' l=some (.lst [.ref p1,.ref p2,.ref p3,.ref p4])/\H' p1=some (.tup [.str "number",.bl (decide (0=j))])/\H' p2=some (.tup [.str "text",.bl (decide (1=j))])/\H' p3=some (.tup [.str "context",.bl (decide (2=j))])/\H' p4=some (.tup [.str "count",.bl (decide (3=j))])/\σ'=[sr g,sr a,sr l],?_,?_⟩
 . refine⟨_,rfl,_,rfl,_,_,_,_,_,rfl,rfl,ty s2,WD.fits.h3,z2,fun p3 n3=>?_⟩
   have u1':=B7.upd (o:= .tup [.str "context",.bl (decide (2=j))]) n3
   refine⟨_,rfl,_,_,_,_,_,rfl,rfl,ty (s2.trans u1'),WD.fits.h4,z2,fun p4 n4=>⟨z2,fun l2 nl=>?_⟩⟩
   have u2:=B7.upd (o:= .tup [.str "count",.bl (decide (3=j))]) n4
   have u3:=B7.upd (o:= .lst [.ref p3,.ref p4]) nl
   have uu:=u1'.trans (u2.trans u3)
   refine⟨l,l2,_,_,rfl,rfl,uu _ _ el,A7,D3 (show 2+2<=1000 by decide),fun l3 n3'=>?_⟩
   have u4:=B7.upd (o:= .lst [.ref p1,.ref p2,.ref p3,.ref p4]) n3'
   exact⟨l3,p1,p2,p3,p4,s2.trans (uu.trans u4),A7,u4 _ _ (uu _ _ e1),u4 _ _ (uu _ _ e2),u4 _ _ (u3 _ _ (u2 _ _ A7)),u4 _ _ (u3 _ _ A7),rfl⟩
 clear el e1 e2 s2 l p1 p2 H2
 rintro σ' H2 ⟨l,p1,p2,p3,p4,s2,el,e1,e2,e3,e4,rfl⟩
 refine⟨fun σ' H'=>∃l p1 p2 p3 p4 p5 p6,B7 G H'/\H' l=some (.lst [.ref p1,.ref p2,.ref p3,.ref p4,.ref p5,.ref p6])/\H' p1=some (.tup [.str "number",.bl (decide (0=j))])/\H' p2=some (.tup [.str "text",.bl (decide (1=j))])/\H' p3=some (.tup [.str "context",.bl (decide (2=j))])/\H' p4=some (.tup [.str "count",.bl (decide (3=j))])/\H' p5=some (.tup [.str "trapped",.bl (decide (4=j))])/\H' p6=some (.tup [.str "bare",.bl false])/\σ'=[sr g,sr a,sr l],?_,?_⟩
 . refine⟨_,rfl,_,rfl,_,_,_,_,_,rfl,rfl,ty s2,WD.fits.h5,z2,fun p5 n5=>?_⟩
   have u1':=B7.upd (o:= .tup [.str "trapped",.bl (decide (4=j))]) n5
   refine⟨_,rfl,_,_,_,_,true,rfl,rfl,ty (s2.trans u1'),WD.fits.hv,_,rfl,z2,fun p6 n6=>⟨z2,fun l2 nl=>?_⟩⟩
   have u2:=B7.upd (o:= .tup [.str "bare",.bl false]) n6
   have u3:=B7.upd (o:= .lst [.ref p5,.ref p6]) nl
   have uu:=u1'.trans (u2.trans u3)
   refine⟨l,l2,_,_,rfl,rfl,uu _ _ el,A7,D3 (show 4+2<=1000 by decide),fun l3 n3'=>?_⟩
   have u4:=B7.upd (o:= .lst [.ref p1,.ref p2,.ref p3,.ref p4,.ref p5,.ref p6]) n3'
   exact⟨l3,p1,p2,p3,p4,p5,p6,s2.trans (uu.trans u4),A7,u4 _ _ (uu _ _ e1),u4 _ _ (uu _ _ e2),u4 _ _ (uu _ _ e3),u4 _ _ (uu _ _ e4),u4 _ _ (u3 _ _ (u2 _ _ A7)),u4 _ _ (u3 _ _ A7),rfl⟩
 clear el e1 e2 e3 e4 s2 l p1 p2 p3 p4 H2
 rintro σ' H2 ⟨l,p1,p2,p3,p4,p5,p6,s2,el,e1,e2,e3,e4,e5,e6,rfl⟩
 have at_:∀i:Nat,i<6 ->∃p,∃(z':Str) (b:Bool),([.ref p1,.ref p2,.ref p3,.ref p4,.ref p5,.ref p6]:List V)[i]?=some (.ref p)/\H2 p=some (.tup [.str z',.bl b])/\b=decide (i=j)/\(i=j ->z'=z):=fun i hi=>by
   have wz:=WD.at_
   rcases(by omega:i=0\/i=1\/i=2\/i=3\/i=4\/i=5) with rfl|rfl|rfl|rfl|rfl|rfl
   . exact⟨p1,_,_,rfl,e1,rfl,fun e=>by subst e;exact Option.some.inj wz⟩
   . exact⟨p2,_,_,rfl,e2,rfl,fun e=>by subst e;exact Option.some.inj wz⟩
   . exact⟨p3,_,_,rfl,e3,rfl,fun e=>by subst e;exact Option.some.inj wz⟩
   . exact⟨p4,_,_,rfl,e4,rfl,fun e=>by subst e;exact Option.some.inj wz⟩
   . exact⟨p5,_,_,rfl,e5,rfl,fun e=>by subst e;exact Option.some.inj wz⟩
   . exact⟨p6,_,_,rfl,e6,(decide_eq_false (by omega)).symm,fun e=>by omega⟩
 refine⟨_,rfl,l,rfl,⟨_,SqL.of el⟩,⟨_,_,_,s2 _ _ ea,rfl,rfl⟩,C7z (J:=Itl K l) (n:=6) (fun i=>decide (i=j)) (fun _ y _=>y= .str z) (by decide) (fun _ _ _ _ _ _ h _ _=>h) (fun i H3 Qy Qn hi sm hy hn=>?_) (fun H3 sm=>⟨_,SqL.of (sm _ _ el),Nat.le_refl 6⟩) (fun D H3 ys sm nD eD hl hr'=>?_)⟩
 . obtain⟨p,z',b,h1,h2,h3,h4⟩:=at_ i hi
   refine⟨⟨_,_,SqL.of (sm _ _ el),h1⟩,fun y H4 yl=>?_⟩
   obtain⟨rfl,yl⟩:=yl
   have e:=yl _ (SqL.of (sm _ _ el))
   rw[h1] at e
   obtain rfl:=(Option.some.inj e).symm
   refine⟨p,_,rfl,SqT.of (sm _ _ h2),rfl,_,_,rfl,_,_,rfl,rfl,_,rfl,_,rfl,iteB (fun eb=>⟨_,rfl,?_⟩) (fun eb=>?_)⟩
   . rw[h3] at eb
     have e0:=of_decide_eq_true eb
     rw[h4 e0]
     exact hy eb _ _ (B7.refl _) rfl
   . rw[h3] at eb
     exact hn eb _ (B7.refl _)
 have l1:ys.length=1:=by rw[hl,cnt1 jl];rfl
 obtain⟨y,rfl⟩:=List.length_eq_one_iff.mp l1
 have ey:=hr' 0 j y (by rw[cnt1 jl];rfl) rfl
 subst ey
 exact⟨D,_,rfl,.inl ⟨SqL.of eD,fun p np=>k1 p _ (u1.trans (s2.trans (sm.trans (B7.upd np)))) A7⟩⟩
structure Own4(K:Frag)(CN:Addr):Prop where
 non:kitOne K (.type "NoneType") (.ref CN)=some false
 int:kitOne K (.type "int") (.ref CN)=some false
 str:kitOne K (.type "str") (.ref CN)=some false
 bl:kitOne K (.type "bool") (.ref CN)=some false
 tup:kitOne K (.type "tuple") (.ref CN)=some false
 lst:kitOne K (.type "list") (.ref CN)=some false
 dic:kitOne K (.type "dict") (.ref CN)=some false
 lt:kitOne K (.type "list") (.type "tuple")=some false
noncomputable abbrev A4k:Stmt:=(top 94)
noncomputable def qNo:Str:=("_law_no_number":Str)++".<locals>."++"<lambda>"
noncomputable def pNo:List Pos:=[⟨533,28,533,95⟩,⟨534,32,534,79⟩,⟨535,32,535,78⟩,⟨536,32,536,78⟩,⟨537,32,537,80⟩,⟨538,32,538,93⟩,⟨539,32,539,93⟩,⟨540,32,540,93⟩]
theorem scLNoN:B9 Q12 Q43 (A1 A4k):=scK
theorem FnOk.toG{P:Program}{w:World}{K:Frag}{mg:Str ->Option Value}{base:Heap}{CX:CXT}{k:Nat}{ps:List Str}{sp:Sp}(F:FnOk P w K mg base CX k f fd ps sp):A1w P w K mg base CX k f fd ps sp:=⟨F.len,fun A outer s H args us vs Q E _=>F.run A outer s H args us vs Q E⟩
noncomputable def A1e (P0:Addr) (ps:List Pos) (q:Str) (H:Hp):Prop:=∀p∈ps,TabOk P0 p q H
theorem A1e.same{P0:Addr}{ps:List Pos}{q:Str}{H H':Hp}(h:A1e P0 ps q H)(s:B7 H H'):A1e P0 ps q H':=fun p hp=>(h p hp).same s
theorem A1e.lam{P0:Addr}{ps:List Pos}{q:Str}{H H':Hp}{p:Pos}(h:A1e P0 ps q H)(t:TabOk P0 p q H')(oth:∀pos' q',(pos'.line≠p.line\/pos'.col≠p.col) ->TabOk P0 pos' q' H ->TabOk P0 pos' q' H')(d:∀x∈ps,x=p\/(x.line≠p.line\/x.col≠p.col)):A1e P0 ps q H':=fun x hx=>by
 rcases d x hx with rfl|e
 . exact t
 . exact oth x q e (h x hx)
theorem J9g{P0:Addr}(H:Hp):A3q P0 H H:=fun _ _ _ e=>e
theorem C5x{P0:Addr}{H H1 H2:Hp}(a:A3q P0 H H1)(b:A3q P0 H1 H2):A3q P0 H H2:=fun x o n e=>b x o n (a x o n e)
theorem Y1w{P0:Addr}{H H1:Hp}(a:B7 H H1):A3q P0 H H1:=fun x o _ e=>a x o e
inductive A0k(H:Hp):V ->Prop
 |non:A0k H .non
 |bl (b:Bool):A0k H (.bl b)
 |int (i:Int):A0k H (.int i)
 |str (s:Str):A0k H (.str s)
 |lst {p:Addr} {xs:List V} (e:H p=some (.lst xs)):A0k H (.ref p)
 |tup {p:Addr} {xs:List V} (e:H p=some (.tup xs)):A0k H (.ref p)
 |dic {p:Addr} (e:H p=some (.dK [])):A0k H (.ref p)
theorem A0k.at{H H':Hp}{v:V}(h:A0k H v)(k:∀b o,(∀ps,o≠ .tbl ps) ->(∀x y,o≠ .frz x y) ->H b=some o ->H' b=some o):A0k H' v:=by
 cases h with
 |non=>exact .non
 |bl b=>exact .bl b
 |int i=>exact .int i
 |str s=>exact .str s
 |lst e=>exact .lst (k _ _ (fun _ z=>by cases z) (fun _ _ z=>by cases z) e)
 |tup e=>exact .tup (k _ _ (fun _ z=>by cases z) (fun _ _ z=>by cases z) e)
 |dic e=>exact .dic (k _ _ (fun _ z=>by cases z) (fun _ _ z=>by cases z) e)
theorem A0k.not{K:Frag}{CN:Addr}{H:Hp}{v:V}(O4:Own4 K CN)(h:A0k H v):A5h K CN H v:=by
 cases h with
 |non=>exact⟨_,A0ea,O4.non⟩
 |bl b=>exact⟨_,tyBl _,O4.bl⟩
 |int i=>exact⟨_,V1a _,O4.int⟩
 |str s=>exact⟨_,J2r _,O4.str⟩
 |lst e=>exact⟨_,V0n e,O4.lst⟩
 |tup e=>exact⟨_,A0ej e,O4.tup⟩
 |dic e=>exact⟨_,A0ns e,O4.dic⟩
theorem A0k.keep{H H':Hp}{v:V}(h:A0k H v)(k:C6r H H'):A0k H' v:=h.at fun b o n1 _ e=>k b o n1 e
theorem A0k.same{H H':Hp}{v:V}(h:A0k H v)(k:B7 H H'):A0k H' v:=h.at fun b o _ _ e=>k b o e
theorem A0k.hide{cs:List Addr}{H:Hp}{v:V}(h:A0k H v)(A:Z0 cs H):A0k (U6 cs H) v:=h.at fun b o _ n2 e=>A.hide e fun o=>n2 _ _
theorem U0.keepN{CN:Addr}{H H':Hp}{n:Addr}{x:Nm}(h:U0 CN H n x)(s:C6r H H'):U0 CN H' n x:=by
 obtain⟨dx,e⟩:=h
 exact⟨dx,s _ _ (fun _ z=>by cases z) e⟩
theorem U0.hideN{CN:Addr}{H:Hp}{cs:List Addr}{n:Addr}{x:Nm}(h:U0 CN H n x)(A:Z0 cs H):U0 CN (U6 cs H) n x:=by
 obtain⟨dx,e⟩:=h
 exact⟨dx,A.hide e (fun _ z=>by cases z)⟩
noncomputable def A5z (CN CB n:Addr) (x:Nm) (o:V):Hp ->VK ->XK ->Prop:=fun H _ E=>U0 CN H n x/\A0k H o/\∀H',B7 H H' ->E (.ref CB) none H'
theorem A0f{CR C1 C2 C3 C4 C5 CB:Addr}{j:Nat}{z:Str}{k:Nat}{qual:Str}{params:Arguments}{body:Expr}{scope:Scope}{cl:List (Str×Addr)}{vs:List V}{spd:Hp ->VK ->XK ->Prop}{H3 H4:Hp}{Q:VK}{E:XK}(W:Wd K CR C1 C2 C3 C4 C5 CB j z)
   (la:C6b H3 f qual params body scope cl) (hn:∀c∈cl.map (·.2),H3 c=none) (ho:∀b,b ∉ cl.map (·.2) ->H4 b=H3 b) (A4:Z0 (cl.map (·.2)) H4) (kn:∀(i:Nat) (x:Str) (c:Addr),cl[i]?=some (x,c) ->∃v,vs[i]?=some v/\C9c H4 c v)
   (DO:B2e P w K mg base k f (Z8t f qual params body scope cl vs) spd)
   (hD:∀Qd Ed,B7 H3 H4 ->(∀H',B7 H4 H' ->Ed (.ref CB) none H') ->spd H4 Qd Ed)
   (fin:∀p H6,B7 H3 H6 ->H6 p=some (.tup [.str z]) ->Q (.ref p) H6):
   B5h P w K mg base k CR C1 C2 C3 C4 C5 [.ref f] H4 (fun u H'=>(∀c∈cl.map (·.2),H' c=H4 c) ->Q u (U6 (cl.map (·.2)) H')) E:=by
 have k34:B7 H3 H4:=fun b o e=>by
   rw[ho b fun z=>by rw[hn b z] at e;cases e]
   exact e
 refine⟨f,_,_,CB,j,z,rfl,W,DO,⟨la.kept fun b o e=>k34 _ _ e,kn⟩,fun Qd Ed h=>hD Qd Ed k34 fun H5 s45=>h H5 fun p H6 s56 ep sm=>fin p _ (fun b o e=>?_) ?_⟩
 . rw[Y3 fun z=>by rw[hn b z] at e;cases e]
   exact s56 _ _ (s45 _ _ (k34 _ _ e))
 rw[Y3 fun z=>?_]
 . exact ep
 obtain⟨o,eo⟩:=A4 p z
 rw[sm p z,eo] at ep
 cases ep
theorem nd2(n:Nat):([n+1+1+1,n+1]:List Nat).Nodup:=by
 simp
 omega
theorem nd3(n:Nat):([n+1+1+1,n+1+1,n+1]:List Nat).Nodup:=by
 simp
 omega
theorem nd3b(n:Nat):([n+1+1+1,n+1,n+1+1+1+1]:List Nat).Nodup:=by
 simp
 omega
noncomputable def B6w:PyData:= .tuple [.str "number"]
theorem rd1{K:Frag}{H:Hp}{d:Addr}(h:H d=some (.tup [.str "number"])):RdD K H (.ref d) B6w:= .tup (SqT.of h) (.cons (.str _) .nil)
theorem sh1:SeqAt.shaped B6w=true:=by decide+kernel
theorem eq1:PyData.eqv B6w B6w=true:=by decide+kernel
noncomputable def V4u:PyData:= .list [B6w,B6w,B6w,B6w,B6w,B6w,B6w,B6w]
theorem sh8:SeqAt.shaped V4u=true:=by decide+kernel
theorem eq8:PyData.eqv V4u V4u=true:=by decide+kernel
noncomputable def Wl (H:Hp) (l:Addr) (n:Nat):Prop:=∃ps:List Addr,H l=some (.lst (ps.map V.ref))/\ps.length=n/\∀p∈ps,H p=some (.tup [.str "number"])
theorem Wl.at{H H':Hp}{l:Addr}{n:Nat}(h:Wl H l n)(k:∀b o,(∀ps,o≠ .tbl ps) ->H b=some o ->H' b=some o):Wl H' l n:=by
 obtain⟨ps,e,hl,hp⟩:=h
 exact⟨ps,k _ _ (fun _ z=>by cases z) e,hl,fun p q=>k _ _ (fun _ z=>by cases z) (hp p q)⟩
theorem Wl.same{H H':Hp}{l:Addr}{n:Nat}(h:Wl H l n)(s:B7 H H'):Wl H' l n:=h.at fun b o _ e=>s b o e
theorem Wl.rd{K:Frag}{H:Hp}{l:Addr}(h:Wl H l 8):RdD K H (.ref l) V4u:=by
 obtain⟨ps,e,hl,hp⟩:=h
 match ps,hl with
 | [a,b,c,d,f,g,i,j],_=>
   have q:∀p∈ [a,b,c,d,f,g,i,j],RdD K H (.ref p) B6w:=fun p h=>rd1 (hp p h)
   exact .lst (SqL.of e) (.cons (q a (by simp)) (.cons (q b (by simp)) (.cons (q c (by simp)) (.cons (q d (by simp)) (.cons (q f (by simp)) (.cons (q g (by simp)) (.cons (q i (by simp)) (.cons (q j (by simp)) .nil))))))))
noncomputable def Y3e (CN P1:Addr):Sp:=fun vs H Q _=>∃c n x o,∃ce:Int,vs=[.ref c,.ref n,o,.int ce]/\U0 CN H n x/\A0k H o/\A1e P1 pNo qNo H/\∀H',A3q P1 H H' ->A1e P1 pNo qNo H' ->Q (.bl true) H'
structure JN(CN P1:Addr)(n:Addr)(x:Nm)(o:V)(H0 H:Hp):Prop where
 num:U0 CN H n x
 odd:A0k H o
 tab:A1e P1 pNo qNo H
 st:A3q P1 H0 H
theorem JN.same{CN P1 n:Addr}{x:Nm}{o:V}{H0 H H':Hp}(h:JN CN P1 n x o H0 H)(s:B7 H H'):JN CN P1 n x o H0 H':=⟨h.num.same s,h.odd.same s,h.tab.same s,C5x h.st (Y1w s)⟩
theorem JN.lam{CN P1 n:Addr}{x:Nm}{o:V}{H0 H H':Hp}{p:Pos}(h:JN CN P1 n x o H0 H)(s:A3q P1 H H')(hp:p∈pNo)(t:TabOk P1 p qNo H')(oth:∀pos' q',(pos'.line≠p.line\/pos'.col≠p.col) ->TabOk P1 pos' q' H ->TabOk P1 pos' q' H')(d:∀x∈pNo,x=p\/(x.line≠p.line\/x.col≠p.col)):JN CN P1 n x o H0 H'/\C6r H H':=by
 obtain⟨ps,eP,_⟩:=h.tab p hp
 have k:=s.keep eP
 exact⟨⟨h.num.keepN k,h.odd.keep k,h.tab.lam t oth d,C5x h.st s⟩,k⟩
theorem JN.upl{CN P1 n:Addr}{x:Nm}{o:V}{H0 H:Hp}{l:Addr}{xs ys:List V}(h:JN CN P1 n x o H0 H)(el:H l=some (.lst xs))(nl:H0 l=none)(od:A0k H0 o):JN CN P1 n x o H0 (upd H l (.lst ys)):=by
 have xl:Exc l H (upd H l (.lst ys)):=Exc.upd
 refine⟨?_,?_,fun p hp=>?_,fun b o nb e=>?_⟩
 . obtain⟨dx,e⟩:=h.num
   exact⟨dx,xl _ _ e (G9 e el (by intro z;cases z))⟩
 . have ne:∀{p:Addr},o= .ref p ->p≠l:=fun{p} e z=>by
     subst z
     subst e
     cases od with
     |lst e=>rw[nl] at e;cases e
     |tup e=>rw[nl] at e;cases e
     |dic e=>rw[nl] at e;cases e
   have odd:=h.odd
   generalize hq:o=q at odd
   cases odd with
   |non=>subst hq;exact .non
   |bl b=>subst hq;exact .bl b
   |int i=>subst hq;exact .int i
   |str s=>subst hq;exact .str s
   |lst e=>subst hq;exact .lst (xl _ _ e (ne rfl))
   |tup e=>subst hq;exact .tup (xl _ _ e (ne rfl))
   |dic e=>subst hq;exact .dic (xl _ _ e (ne rfl))
 . obtain⟨ps,eP,rest⟩:=id (h.tab p hp)
   refine(h.tab p hp).at fun b o e hb=>?_
   rcases hb with rfl|⟨oc,rfl⟩
   . rw[eP] at e
     cases e
     exact xl _ _ eP (G9 eP el (by intro z;cases z))
   . exact xl _ _ e (G9 e el (by intro z;cases z))
 exact xl _ _ (h.st b o nb e) (fun z=>by rw[z,nl] at e;cases e)
theorem JN.new{CN P1 n:Addr}{x:Nm}{o:V}{H0 H:Hp}{l:Addr}(h:JN CN P1 n x o H0 H)(nl:H l=none):H0 l=none:=by
 cases e:H0 l with
 |none=>rfl
 | some ob=>
   by_cases z:l=P1
   . obtain⟨ps,eP,_⟩:=h.tab (⟨533,28,533,95⟩) (by decide)
     rw[<-z,nl] at eP
     cases eP
   . have:=h.st _ _ z e
     rw[nl] at this
     cases this
noncomputable abbrev stN (c n:Addr) (o:V) (ce:Int) (l:Option V):L2.St:=[sr c,sr n,some o,si ce,l]
theorem A0aq{f cc P1 CN CR C1 C2 C3 C4 C5 f0 f1 f2 f3 f4 f5 f6:Addr}(D:Def K mg "_law_no_number" Q43 A4k f fd)(hcode:fd.code= .ref cc)(LB:G1p mg base cc P1)
   (dA:Def K mg "_law_word" ["_law_deed"] A2u f0 fd0) (dB:A1w P w K mg base (CX1 P w) 10 f0 fd0 ["_law_deed"] (B5h P w K mg base 9 CR C1 C2 C3 C4 C5)) (dE:Def K mg "scaled" Q10 A2m f1 fd1) (dF:sI P w K mg base 3 f1 fd1 Q10 (J7z K CN C1 C4))
   (dG:Def K mg "to_whole" Q4 A5c f2 fd2) (dH:sI P w K mg base 3 f2 fd2 Q4 (B1z K CN C1)) (dJ:Def K mg "trimmed" Q4 A5a f3 fd3) (dL:sI P w K mg base 3 f3 fd3 Q4 (B1z K CN C1))
   (dM:Def K mg "next_up" Q4 A8h f4 fd4) (dN:sI P w K mg base 3 f4 fd4 Q4 (B1z K CN C1)) (dP:Def K mg "next_down" Q4 A2b f5 fd5) (dQ:sI P w K mg base 3 f5 fd5 Q4 (B1z K CN C1))
   (dC:Def K mg "same_power" Q31 A1a f6 fd6) (dD:sI P w K mg base 3 f6 fd6 Q31 (Y0a K CN C1)) (O4:Own4 K CN) (WN:Wd K CR C1 C2 C3 C4 C5 C1 0 "number"):A1w P w K mg base (CX1 P w) 11 f fd Q43 (Y3e CN P1):=by
 refine D.F.okEL hcode scLNoN (fun vs H Q E h=>?_) (fun X A outer s H vs Q E hX HG hr hx h=>?_)
 . obtain⟨c,n,x,o,ce,rfl,_⟩:=h
   rfl
 subst hX
 obtain⟨c,n,x,o,ce,rfl,num,odd,tab,kk⟩:=h
 have HU:=Nat.lt_of_le_of_lt (Nat.add_le_add_left (by decide:1<=64) _) hr.units
 have z1:1<=sizeLine:=D3 (by decide)
 have h0:JN CN P1 n x o H H:=⟨num,odd,tab,J9g _⟩
 have CZ0:A1k [("_law_thing",s.heap.objs.size+1+1+1),("_law_context_here",s.heap.objs.size+1),("_law_cell",s.heap.objs.size+1+1+1+1)] [2,0,3] Q12 (envOfC "_law_no_number" (A1 A4k) s.heap.objs.size f (.ref cc)):=⟨fun i x c h=>by
   rcases i with _|_|_|i
   . obtain⟨rfl,rfl⟩:=Prod.mk.inj (Option.some.inj h)
     exact⟨rfl,rfl,fun j hj=>by cases hj;rfl⟩
   . obtain⟨rfl,rfl⟩:=Prod.mk.inj (Option.some.inj h)
     exact⟨rfl,rfl,fun j hj=>by cases hj;rfl⟩
   . obtain⟨rfl,rfl⟩:=Prod.mk.inj (Option.some.inj h)
     exact⟨rfl,rfl,fun j hj=>by cases hj;rfl⟩
   . cases h⟩
 have CZ1:A1k [("_law_thing",s.heap.objs.size+1+1+1),("_law_context_here",s.heap.objs.size+1)] [2,0] Q12 (envOfC "_law_no_number" (A1 A4k) s.heap.objs.size f (.ref cc)):=⟨fun i x c h=>by
   rcases i with _|_|i
   . obtain⟨rfl,rfl⟩:=Prod.mk.inj (Option.some.inj h)
     exact⟨rfl,rfl,fun j hj=>by cases hj;rfl⟩
   . obtain⟨rfl,rfl⟩:=Prod.mk.inj (Option.some.inj h)
     exact⟨rfl,rfl,fun j hj=>by cases hj;rfl⟩
   . cases h⟩
 have CZ2:A1k [("_law_thing",s.heap.objs.size+1+1+1),("_law_context_here",s.heap.objs.size+1)] [2,0] Q12 (envOfC "_law_no_number" (A1 A4k) s.heap.objs.size f (.ref cc)):=⟨fun i x c h=>by
   rcases i with _|_|i
   . obtain⟨rfl,rfl⟩:=Prod.mk.inj (Option.some.inj h)
     exact⟨rfl,rfl,fun j hj=>by cases hj;rfl⟩
   . obtain⟨rfl,rfl⟩:=Prod.mk.inj (Option.some.inj h)
     exact⟨rfl,rfl,fun j hj=>by cases hj;rfl⟩
   . cases h⟩
 have CZ3:A1k [("_law_thing",s.heap.objs.size+1+1+1),("_law_context_here",s.heap.objs.size+1)] [2,0] Q12 (envOfC "_law_no_number" (A1 A4k) s.heap.objs.size f (.ref cc)):=⟨fun i x c h=>by
   rcases i with _|_|i
   . obtain⟨rfl,rfl⟩:=Prod.mk.inj (Option.some.inj h)
     exact⟨rfl,rfl,fun j hj=>by cases hj;rfl⟩
   . obtain⟨rfl,rfl⟩:=Prod.mk.inj (Option.some.inj h)
     exact⟨rfl,rfl,fun j hj=>by cases hj;rfl⟩
   . cases h⟩
 have CZ4:A1k [("_law_thing",s.heap.objs.size+1+1+1),("_law_context_here",s.heap.objs.size+1)] [2,0] Q12 (envOfC "_law_no_number" (A1 A4k) s.heap.objs.size f (.ref cc)):=⟨fun i x c h=>by
   rcases i with _|_|i
   . obtain⟨rfl,rfl⟩:=Prod.mk.inj (Option.some.inj h)
     exact⟨rfl,rfl,fun j hj=>by cases hj;rfl⟩
   . obtain⟨rfl,rfl⟩:=Prod.mk.inj (Option.some.inj h)
     exact⟨rfl,rfl,fun j hj=>by cases hj;rfl⟩
   . cases h⟩
 have CZ5:A1k [("_law_thing",s.heap.objs.size+1+1+1),("_law_first",s.heap.objs.size+1+1),("_law_context_here",s.heap.objs.size+1)] [2,1,0] Q12 (envOfC "_law_no_number" (A1 A4k) s.heap.objs.size f (.ref cc)):=⟨fun i x c h=>by
   rcases i with _|_|_|i
   . obtain⟨rfl,rfl⟩:=Prod.mk.inj (Option.some.inj h)
     exact⟨rfl,rfl,fun j hj=>by cases hj;rfl⟩
   . obtain⟨rfl,rfl⟩:=Prod.mk.inj (Option.some.inj h)
     exact⟨rfl,rfl,fun j hj=>by cases hj;rfl⟩
   . obtain⟨rfl,rfl⟩:=Prod.mk.inj (Option.some.inj h)
     exact⟨rfl,rfl,fun j hj=>by cases hj;rfl⟩
   . cases h⟩
 have CZ6:A1k [("_law_thing",s.heap.objs.size+1+1+1),("_law_first",s.heap.objs.size+1+1),("_law_context_here",s.heap.objs.size+1)] [2,1,0] Q12 (envOfC "_law_no_number" (A1 A4k) s.heap.objs.size f (.ref cc)):=⟨fun i x c h=>by
   rcases i with _|_|_|i
   . obtain⟨rfl,rfl⟩:=Prod.mk.inj (Option.some.inj h)
     exact⟨rfl,rfl,fun j hj=>by cases hj;rfl⟩
   . obtain⟨rfl,rfl⟩:=Prod.mk.inj (Option.some.inj h)
     exact⟨rfl,rfl,fun j hj=>by cases hj;rfl⟩
   . obtain⟨rfl,rfl⟩:=Prod.mk.inj (Option.some.inj h)
     exact⟨rfl,rfl,fun j hj=>by cases hj;rfl⟩
   . cases h⟩
 have CZ7:A1k [("_law_thing",s.heap.objs.size+1+1+1),("_law_context_here",s.heap.objs.size+1)] [2,0] Q12 (envOfC "_law_no_number" (A1 A4k) s.heap.objs.size f (.ref cc)):=⟨fun i x c h=>by
   rcases i with _|_|i
   . obtain⟨rfl,rfl⟩:=Prod.mk.inj (Option.some.inj h)
     exact⟨rfl,rfl,fun j hj=>by cases hj;rfl⟩
   . obtain⟨rfl,rfl⟩:=Prod.mk.inj (Option.some.inj h)
     exact⟨rfl,rfl,fun j hj=>by cases hj;rfl⟩
   . cases h⟩
 refine⟨_,(A8 (C6 (D7 (i:=4) scLNoN.nd rfl (Or.inl rfl) (U1 (A0 (A1z dA dB HG hr hx CZ0 (A0 (Z7 LB rfl (by rfl)) A6)) A6)))) (A8 (C6 (J9 (C8e PySem.F.plainAttrs_list PySem.F.slot_list_append PySem.F.type_list_append A0h (pv 4) (A0 (A1z dA dB HG hr hx CZ1 (A0 (Z7 LB rfl (by rfl)) A6)) A6)))) (A8 (C6 (J9 (C8e PySem.F.plainAttrs_list PySem.F.slot_list_append PySem.F.type_list_append A0h (pv 4) (A0 (A1z dA dB HG hr hx CZ2 (A0 (Z7 LB rfl (by rfl)) A6)) A6)))) (A8 (C6 (J9 (C8e PySem.F.plainAttrs_list PySem.F.slot_list_append PySem.F.type_list_append A0h (pv 4) (A0 (A1z dA dB HG hr hx CZ3 (A0 (Z7 LB rfl (by rfl)) A6)) A6)))) (A8 (C6 (J9 (C8e PySem.F.plainAttrs_list PySem.F.slot_list_append PySem.F.type_list_append A0h (pv 4) (A0 (A1z dA dB HG hr hx CZ4 (A0 (Z7 LB rfl (by rfl)) A6)) A6)))) (A8 (C6 (J9 (C8e PySem.F.plainAttrs_list PySem.F.slot_list_append PySem.F.type_list_append A0h (pv 4) (A0 (A1z dA dB HG hr hx CZ5 (A0 (Z7 LB rfl (by rfl)) A6)) A6)))) (A8 (C6 (J9 (C8e PySem.F.plainAttrs_list PySem.F.slot_list_append PySem.F.type_list_append A0h (pv 4) (A0 (A1z dA dB HG hr hx CZ6 (A0 (Z7 LB rfl (by rfl)) A6)) A6)))) (A8 (C6 (J9 (C8e PySem.F.plainAttrs_list PySem.F.slot_list_append PySem.F.type_list_append A0h (pv 4) (A0 (A1z dA dB HG hr hx CZ7 (A0 (Z7 LB rfl (by rfl)) A6)) A6)))) (B0 (C7 (G6 (B6u hr.units) (pv 4) (B1 J8q (U1 (A0 (V3 (A0 B3 A6)) A6)) A3) (D0 _)))))))))))),?_⟩
 refine⟨fun σ' H'=>∃l,JN CN P1 n x o H H'/\Wl H' l 1/\H l=none/\σ'=stN c n o ce (some (.ref l)),?_,?_⟩
 . refine⟨h0.tab (⟨533,28,533,95⟩) (by decide),fun fl H8 sT nf la tab8 oth=>?_⟩
   obtain⟨h8,k8⟩:=h0.lam sT (p:=(⟨533,28,533,95⟩)) (by decide) tab8 oth (by decide)
   intro hn H9 ho A9 kn
   have DO:=A1j (P:=P) (w:=w) (K:=K) (mg:=mg) (base:=base) (k:=8) (vs:=[o,.ref c,.int ce]) (sp:=A5z CN C1 n x o) la (show C0v ["_law_thing","_law_context_here","_law_cell"] _ from⟨rfl,rfl,rfl,by decide+kernel,by decide+kernel,by decide+kernel,by decide+kernel⟩) rfl (nd3b _) (fun _ _ _=>rfl) (fun X cdv A' outer' s' H' Q' E' hX hr' hx' hsp af=>by
     subst hX
     obtain⟨nu,od,k'⟩:=hsp
     refine⟨_,D5 dE dF hr' hx' (A0 (pv 1) (A0 (pv 0) (A0 (B1 V2 (B1 G2 (pv 2) A3) A3) A6))),?_⟩
     exact⟨_,rfl,_,rfl,_,rfl,_,_,rfl,rfl,(by decide:(0:Int)<150),_,_,rfl,rfl,.ref c,o,_,rfl,.inl ⟨A0k.not O4 (od.hide af),fun _=>k' _ (A0j (B7.refl _))⟩⟩)
   refine A0f WN la hn ho A9 (fun j x' c' hj=>?_) DO (fun Qd Ed s89 kE=>⟨h8.num.same s89,h8.odd.same s89,kE⟩) (fun p H10 s10 ep=>?_)
   . rcases j with _|_|_|j
     . exact⟨_,rfl,kn 0 x' c' 2 _ hj rfl rfl⟩
     . exact⟨_,rfl,kn 1 x' c' 0 _ hj rfl rfl⟩
     . exact⟨_,rfl,kn 2 x' c' 3 _ hj rfl rfl⟩
     . cases hj
   . refine⟨z1,fun l nl=>?_⟩
     have u:=B7.upd (o:= .lst [.ref p]) nl
     have h10:=(h8.same s10).same u
     exact⟨l,h10,⟨[p],A7,rfl,fun p' hp=>by rw[List.mem_singleton.mp hp];exact u _ _ ep⟩,(h8.same s10).new nl,rfl⟩
 rintro σ' H1 ⟨l,h1,wl,nl,rfl⟩
 refine⟨fun σ' H'=>JN CN P1 n x o H H'/\Wl H' l 2/\σ'=stN c n o ce (some (.ref l)),?_,?_⟩
 . refine⟨_,rfl,.inl ⟨rfl,_,SqL.of wl.choose_spec.1⟩,?_⟩
   refine⟨h1.tab (⟨534,32,534,79⟩) (by decide),fun fl H8 sT nf la tab8 oth=>?_⟩
   obtain⟨h8,k8⟩:=h1.lam sT (p:=(⟨534,32,534,79⟩)) (by decide) tab8 oth (by decide)
   intro hn H9 ho A9 kn
   have DO:=A1j (P:=P) (w:=w) (K:=K) (mg:=mg) (base:=base) (k:=8) (vs:=[o,.ref c]) (sp:=A5z CN C1 n x o) la (show C0v Q44 _ from⟨rfl,rfl,rfl,by decide+kernel,by decide+kernel,by decide+kernel,by decide+kernel⟩) rfl (nd2 _) (fun _ _ _=>rfl) (fun X cdv A' outer' s' H' Q' E' hX hr' hx' hsp af=>by
     subst hX
     obtain⟨nu,od,k'⟩:=hsp
     refine⟨_,D5 dG dH hr' hx' (A0 (pv 1) (A0 (pv 0) A6)),?_⟩
     exact⟨_,rfl,_,rfl,.ref c,o,rfl,A0k.not O4 (od.hide af),fun _=>k' _ (A0j (B7.refl _))⟩)
   refine A0f WN la hn ho A9 (fun j x' c' hj=>?_) DO (fun Qd Ed s89 kE=>⟨h8.num.same s89,h8.odd.same s89,kE⟩) (fun p H10 s10 ep=>?_)
   . rcases j with _|_|j
     . exact⟨_,rfl,kn 0 x' c' 2 _ hj rfl rfl⟩
     . exact⟨_,rfl,kn 1 x' c' 0 _ hj rfl rfl⟩
     . cases hj
   . have h10:=h8.same s10
     obtain⟨ps,el,hl,hp⟩:=(wl.at fun b o n1 e=>k8 _ _ n1 e).same s10
     refine⟨l,ps.map V.ref,.ref p,rfl,rfl,el,D3 (by rw[List.length_map,hl];decide),?_⟩
     refine⟨h10.upl el nl odd,⟨ps++ [p],by rw[A7,List.map_append];rfl,by rw[List.length_append,hl];rfl,fun p' hp'=>?_⟩,rfl⟩
     have xl:Exc l H10 (upd H10 l (.lst (ps.map V.ref++ [.ref p]))):=Exc.upd
     rcases List.mem_append.mp hp' with q|q
     . exact xl _ _ (hp p' q) (G9 (hp p' q) el (by intro z;cases z))
     . rw[List.mem_singleton.mp q]
       exact xl _ _ ep (G9 ep el (by intro z;cases z))
 clear h1 wl
 rintro σ' H1 ⟨h1,wl,rfl⟩
 refine⟨fun σ' H'=>JN CN P1 n x o H H'/\Wl H' l 3/\σ'=stN c n o ce (some (.ref l)),?_,?_⟩
 . refine⟨_,rfl,.inl ⟨rfl,_,SqL.of wl.choose_spec.1⟩,?_⟩
   refine⟨h1.tab (⟨535,32,535,78⟩) (by decide),fun fl H8 sT nf la tab8 oth=>?_⟩
   obtain⟨h8,k8⟩:=h1.lam sT (p:=(⟨535,32,535,78⟩)) (by decide) tab8 oth (by decide)
   intro hn H9 ho A9 kn
   have DO:=A1j (P:=P) (w:=w) (K:=K) (mg:=mg) (base:=base) (k:=8) (vs:=[o,.ref c]) (sp:=A5z CN C1 n x o) la (show C0v Q44 _ from⟨rfl,rfl,rfl,by decide+kernel,by decide+kernel,by decide+kernel,by decide+kernel⟩) rfl (nd2 _) (fun _ _ _=>rfl) (fun X cdv A' outer' s' H' Q' E' hX hr' hx' hsp af=>by
     subst hX
     obtain⟨nu,od,k'⟩:=hsp
     refine⟨_,D5 dJ dL hr' hx' (A0 (pv 1) (A0 (pv 0) A6)),?_⟩
     exact⟨_,rfl,_,rfl,.ref c,o,rfl,A0k.not O4 (od.hide af),fun _=>k' _ (A0j (B7.refl _))⟩)
   refine A0f WN la hn ho A9 (fun j x' c' hj=>?_) DO (fun Qd Ed s89 kE=>⟨h8.num.same s89,h8.odd.same s89,kE⟩) (fun p H10 s10 ep=>?_)
   . rcases j with _|_|j
     . exact⟨_,rfl,kn 0 x' c' 2 _ hj rfl rfl⟩
     . exact⟨_,rfl,kn 1 x' c' 0 _ hj rfl rfl⟩
     . cases hj
   . have h10:=h8.same s10
     obtain⟨ps,el,hl,hp⟩:=(wl.at fun b o n1 e=>k8 _ _ n1 e).same s10
     refine⟨l,ps.map V.ref,.ref p,rfl,rfl,el,D3 (by rw[List.length_map,hl];decide),?_⟩
     refine⟨h10.upl el nl odd,⟨ps++ [p],by rw[A7,List.map_append];rfl,by rw[List.length_append,hl];rfl,fun p' hp'=>?_⟩,rfl⟩
     have xl:Exc l H10 (upd H10 l (.lst (ps.map V.ref++ [.ref p]))):=Exc.upd
     rcases List.mem_append.mp hp' with q|q
     . exact xl _ _ (hp p' q) (G9 (hp p' q) el (by intro z;cases z))
     . rw[List.mem_singleton.mp q]
       exact xl _ _ ep (G9 ep el (by intro z;cases z))
 clear h1 wl
 rintro σ' H1 ⟨h1,wl,rfl⟩
 refine⟨fun σ' H'=>JN CN P1 n x o H H'/\Wl H' l 4/\σ'=stN c n o ce (some (.ref l)),?_,?_⟩
 . refine⟨_,rfl,.inl ⟨rfl,_,SqL.of wl.choose_spec.1⟩,?_⟩
   refine⟨h1.tab (⟨536,32,536,78⟩) (by decide),fun fl H8 sT nf la tab8 oth=>?_⟩
   obtain⟨h8,k8⟩:=h1.lam sT (p:=(⟨536,32,536,78⟩)) (by decide) tab8 oth (by decide)
   intro hn H9 ho A9 kn
   have DO:=A1j (P:=P) (w:=w) (K:=K) (mg:=mg) (base:=base) (k:=8) (vs:=[o,.ref c]) (sp:=A5z CN C1 n x o) la (show C0v Q44 _ from⟨rfl,rfl,rfl,by decide+kernel,by decide+kernel,by decide+kernel,by decide+kernel⟩) rfl (nd2 _) (fun _ _ _=>rfl) (fun X cdv A' outer' s' H' Q' E' hX hr' hx' hsp af=>by
     subst hX
     obtain⟨nu,od,k'⟩:=hsp
     refine⟨_,D5 dM dN hr' hx' (A0 (pv 1) (A0 (pv 0) A6)),?_⟩
     exact⟨_,rfl,_,rfl,.ref c,o,rfl,A0k.not O4 (od.hide af),fun _=>k' _ (A0j (B7.refl _))⟩)
   refine A0f WN la hn ho A9 (fun j x' c' hj=>?_) DO (fun Qd Ed s89 kE=>⟨h8.num.same s89,h8.odd.same s89,kE⟩) (fun p H10 s10 ep=>?_)
   . rcases j with _|_|j
     . exact⟨_,rfl,kn 0 x' c' 2 _ hj rfl rfl⟩
     . exact⟨_,rfl,kn 1 x' c' 0 _ hj rfl rfl⟩
     . cases hj
   . have h10:=h8.same s10
     obtain⟨ps,el,hl,hp⟩:=(wl.at fun b o n1 e=>k8 _ _ n1 e).same s10
     refine⟨l,ps.map V.ref,.ref p,rfl,rfl,el,D3 (by rw[List.length_map,hl];decide),?_⟩
     refine⟨h10.upl el nl odd,⟨ps++ [p],by rw[A7,List.map_append];rfl,by rw[List.length_append,hl];rfl,fun p' hp'=>?_⟩,rfl⟩
     have xl:Exc l H10 (upd H10 l (.lst (ps.map V.ref++ [.ref p]))):=Exc.upd
     rcases List.mem_append.mp hp' with q|q
     . exact xl _ _ (hp p' q) (G9 (hp p' q) el (by intro z;cases z))
     . rw[List.mem_singleton.mp q]
       exact xl _ _ ep (G9 ep el (by intro z;cases z))
 clear h1 wl
 rintro σ' H1 ⟨h1,wl,rfl⟩
 refine⟨fun σ' H'=>JN CN P1 n x o H H'/\Wl H' l 5/\σ'=stN c n o ce (some (.ref l)),?_,?_⟩
 . refine⟨_,rfl,.inl ⟨rfl,_,SqL.of wl.choose_spec.1⟩,?_⟩
   refine⟨h1.tab (⟨537,32,537,80⟩) (by decide),fun fl H8 sT nf la tab8 oth=>?_⟩
   obtain⟨h8,k8⟩:=h1.lam sT (p:=(⟨537,32,537,80⟩)) (by decide) tab8 oth (by decide)
   intro hn H9 ho A9 kn
   have DO:=A1j (P:=P) (w:=w) (K:=K) (mg:=mg) (base:=base) (k:=8) (vs:=[o,.ref c]) (sp:=A5z CN C1 n x o) la (show C0v Q44 _ from⟨rfl,rfl,rfl,by decide+kernel,by decide+kernel,by decide+kernel,by decide+kernel⟩) rfl (nd2 _) (fun _ _ _=>rfl) (fun X cdv A' outer' s' H' Q' E' hX hr' hx' hsp af=>by
     subst hX
     obtain⟨nu,od,k'⟩:=hsp
     refine⟨_,D5 dP dQ hr' hx' (A0 (pv 1) (A0 (pv 0) A6)),?_⟩
     exact⟨_,rfl,_,rfl,.ref c,o,rfl,A0k.not O4 (od.hide af),fun _=>k' _ (A0j (B7.refl _))⟩)
   refine A0f WN la hn ho A9 (fun j x' c' hj=>?_) DO (fun Qd Ed s89 kE=>⟨h8.num.same s89,h8.odd.same s89,kE⟩) (fun p H10 s10 ep=>?_)
   . rcases j with _|_|j
     . exact⟨_,rfl,kn 0 x' c' 2 _ hj rfl rfl⟩
     . exact⟨_,rfl,kn 1 x' c' 0 _ hj rfl rfl⟩
     . cases hj
   . have h10:=h8.same s10
     obtain⟨ps,el,hl,hp⟩:=(wl.at fun b o n1 e=>k8 _ _ n1 e).same s10
     refine⟨l,ps.map V.ref,.ref p,rfl,rfl,el,D3 (by rw[List.length_map,hl];decide),?_⟩
     refine⟨h10.upl el nl odd,⟨ps++ [p],by rw[A7,List.map_append];rfl,by rw[List.length_append,hl];rfl,fun p' hp'=>?_⟩,rfl⟩
     have xl:Exc l H10 (upd H10 l (.lst (ps.map V.ref++ [.ref p]))):=Exc.upd
     rcases List.mem_append.mp hp' with q|q
     . exact xl _ _ (hp p' q) (G9 (hp p' q) el (by intro z;cases z))
     . rw[List.mem_singleton.mp q]
       exact xl _ _ ep (G9 ep el (by intro z;cases z))
 clear h1 wl
 rintro σ' H1 ⟨h1,wl,rfl⟩
 refine⟨fun σ' H'=>JN CN P1 n x o H H'/\Wl H' l 6/\σ'=stN c n o ce (some (.ref l)),?_,?_⟩
 . refine⟨_,rfl,.inl ⟨rfl,_,SqL.of wl.choose_spec.1⟩,?_⟩
   refine⟨h1.tab (⟨538,32,538,93⟩) (by decide),fun fl H8 sT nf la tab8 oth=>?_⟩
   obtain⟨h8,k8⟩:=h1.lam sT (p:=(⟨538,32,538,93⟩)) (by decide) tab8 oth (by decide)
   intro hn H9 ho A9 kn
   have DO:=A1j (P:=P) (w:=w) (K:=K) (mg:=mg) (base:=base) (k:=8) (vs:=[o,.ref n,.ref c]) (sp:=A5z CN C1 n x o) la (show C0v Q51 _ from⟨rfl,rfl,rfl,by decide+kernel,by decide+kernel,by decide+kernel,by decide+kernel⟩) rfl (nd3 _) (fun _ _ _=>rfl) (fun X cdv A' outer' s' H' Q' E' hX hr' hx' hsp af=>by
     subst hX
     obtain⟨nu,od,k'⟩:=hsp
     refine⟨_,D5 dC dD hr' hx' (A0 (pv 2) (A0 (pv 0) (A0 (pv 1) A6))),?_⟩
     exact⟨_,rfl,_,rfl,_,rfl,.ref c,o,.ref n,rfl,.inl (A0k.not O4 (od.hide af)),fun H2 s2 _=>k' _ (A0j s2)⟩)
   refine A0f WN la hn ho A9 (fun j x' c' hj=>?_) DO (fun Qd Ed s89 kE=>⟨h8.num.same s89,h8.odd.same s89,kE⟩) (fun p H10 s10 ep=>?_)
   . rcases j with _|_|_|j
     . exact⟨_,rfl,kn 0 x' c' 2 _ hj rfl rfl⟩
     . exact⟨_,rfl,kn 1 x' c' 1 _ hj rfl rfl⟩
     . exact⟨_,rfl,kn 2 x' c' 0 _ hj rfl rfl⟩
     . cases hj
   . have h10:=h8.same s10
     obtain⟨ps,el,hl,hp⟩:=(wl.at fun b o n1 e=>k8 _ _ n1 e).same s10
     refine⟨l,ps.map V.ref,.ref p,rfl,rfl,el,D3 (by rw[List.length_map,hl];decide),?_⟩
     refine⟨h10.upl el nl odd,⟨ps++ [p],by rw[A7,List.map_append];rfl,by rw[List.length_append,hl];rfl,fun p' hp'=>?_⟩,rfl⟩
     have xl:Exc l H10 (upd H10 l (.lst (ps.map V.ref++ [.ref p]))):=Exc.upd
     rcases List.mem_append.mp hp' with q|q
     . exact xl _ _ (hp p' q) (G9 (hp p' q) el (by intro z;cases z))
     . rw[List.mem_singleton.mp q]
       exact xl _ _ ep (G9 ep el (by intro z;cases z))
 clear h1 wl
 rintro σ' H1 ⟨h1,wl,rfl⟩
 refine⟨fun σ' H'=>JN CN P1 n x o H H'/\Wl H' l 7/\σ'=stN c n o ce (some (.ref l)),?_,?_⟩
 . refine⟨_,rfl,.inl ⟨rfl,_,SqL.of wl.choose_spec.1⟩,?_⟩
   refine⟨h1.tab (⟨539,32,539,93⟩) (by decide),fun fl H8 sT nf la tab8 oth=>?_⟩
   obtain⟨h8,k8⟩:=h1.lam sT (p:=(⟨539,32,539,93⟩)) (by decide) tab8 oth (by decide)
   intro hn H9 ho A9 kn
   have DO:=A1j (P:=P) (w:=w) (K:=K) (mg:=mg) (base:=base) (k:=8) (vs:=[o,.ref n,.ref c]) (sp:=A5z CN C1 n x o) la (show C0v Q51 _ from⟨rfl,rfl,rfl,by decide+kernel,by decide+kernel,by decide+kernel,by decide+kernel⟩) rfl (nd3 _) (fun _ _ _=>rfl) (fun X cdv A' outer' s' H' Q' E' hX hr' hx' hsp af=>by
     subst hX
     obtain⟨nu,od,k'⟩:=hsp
     refine⟨_,D5 dC dD hr' hx' (A0 (pv 2) (A0 (pv 1) (A0 (pv 0) A6))),?_⟩
     exact⟨_,rfl,_,rfl,_,rfl,.ref c,.ref n,o,rfl,.inr ⟨n,x,rfl,nu.hideN af,A0k.not O4 (od.hide af)⟩,fun H2 s2 _=>k' _ (A0j s2)⟩)
   refine A0f WN la hn ho A9 (fun j x' c' hj=>?_) DO (fun Qd Ed s89 kE=>⟨h8.num.same s89,h8.odd.same s89,kE⟩) (fun p H10 s10 ep=>?_)
   . rcases j with _|_|_|j
     . exact⟨_,rfl,kn 0 x' c' 2 _ hj rfl rfl⟩
     . exact⟨_,rfl,kn 1 x' c' 1 _ hj rfl rfl⟩
     . exact⟨_,rfl,kn 2 x' c' 0 _ hj rfl rfl⟩
     . cases hj
   . have h10:=h8.same s10
     obtain⟨ps,el,hl,hp⟩:=(wl.at fun b o n1 e=>k8 _ _ n1 e).same s10
     refine⟨l,ps.map V.ref,.ref p,rfl,rfl,el,D3 (by rw[List.length_map,hl];decide),?_⟩
     refine⟨h10.upl el nl odd,⟨ps++ [p],by rw[A7,List.map_append];rfl,by rw[List.length_append,hl];rfl,fun p' hp'=>?_⟩,rfl⟩
     have xl:Exc l H10 (upd H10 l (.lst (ps.map V.ref++ [.ref p]))):=Exc.upd
     rcases List.mem_append.mp hp' with q|q
     . exact xl _ _ (hp p' q) (G9 (hp p' q) el (by intro z;cases z))
     . rw[List.mem_singleton.mp q]
       exact xl _ _ ep (G9 ep el (by intro z;cases z))
 clear h1 wl
 rintro σ' H1 ⟨h1,wl,rfl⟩
 refine⟨fun σ' H'=>JN CN P1 n x o H H'/\Wl H' l 8/\σ'=stN c n o ce (some (.ref l)),?_,?_⟩
 . refine⟨_,rfl,.inl ⟨rfl,_,SqL.of wl.choose_spec.1⟩,?_⟩
   refine⟨h1.tab (⟨540,32,540,93⟩) (by decide),fun fl H8 sT nf la tab8 oth=>?_⟩
   obtain⟨h8,k8⟩:=h1.lam sT (p:=(⟨540,32,540,93⟩)) (by decide) tab8 oth (by decide)
   intro hn H9 ho A9 kn
   have DO:=A1j (P:=P) (w:=w) (K:=K) (mg:=mg) (base:=base) (k:=8) (vs:=[o,.ref c]) (sp:=A5z CN C1 n x o) la (show C0v Q44 _ from⟨rfl,rfl,rfl,by decide+kernel,by decide+kernel,by decide+kernel,by decide+kernel⟩) rfl (nd2 _) (fun _ _ _=>rfl) (fun X cdv A' outer' s' H' Q' E' hX hr' hx' hsp af=>by
     subst hX
     obtain⟨nu,od,k'⟩:=hsp
     refine⟨_,D5 dC dD hr' hx' (A0 (pv 1) (A0 (pv 0) (A0 (pv 0) A6))),?_⟩
     exact⟨_,rfl,_,rfl,_,rfl,.ref c,o,o,rfl,.inl (A0k.not O4 (od.hide af)),fun H2 s2 _=>k' _ (A0j s2)⟩)
   refine A0f WN la hn ho A9 (fun j x' c' hj=>?_) DO (fun Qd Ed s89 kE=>⟨h8.num.same s89,h8.odd.same s89,kE⟩) (fun p H10 s10 ep=>?_)
   . rcases j with _|_|j
     . exact⟨_,rfl,kn 0 x' c' 2 _ hj rfl rfl⟩
     . exact⟨_,rfl,kn 1 x' c' 0 _ hj rfl rfl⟩
     . cases hj
   . have h10:=h8.same s10
     obtain⟨ps,el,hl,hp⟩:=(wl.at fun b o n1 e=>k8 _ _ n1 e).same s10
     refine⟨l,ps.map V.ref,.ref p,rfl,rfl,el,D3 (by rw[List.length_map,hl];decide),?_⟩
     refine⟨h10.upl el nl odd,⟨ps++ [p],by rw[A7,List.map_append];rfl,by rw[List.length_append,hl];rfl,fun p' hp'=>?_⟩,rfl⟩
     have xl:Exc l H10 (upd H10 l (.lst (ps.map V.ref++ [.ref p]))):=Exc.upd
     rcases List.mem_append.mp hp' with q|q
     . exact xl _ _ (hp p' q) (G9 (hp p' q) el (by intro z;cases z))
     . rw[List.mem_singleton.mp q]
       exact xl _ _ ep (G9 ep el (by intro z;cases z))
 clear h1 wl
 rintro σ' H1 ⟨h1,wl,rfl⟩
 refine⟨_,rfl,z1,fun p np=>⟨z1,fun l2 n2=>?_⟩⟩
 have u1:=B7.upd (o:= .tup [.str "number"]) np
 have u2:=B7.upd (o:= .lst [.ref p]) n2
 refine⟨l2,8,[.ref p],rfl,rfl,A7,by decide,by decide,D3 (show 1*8<=1000 by decide),fun l3 n3=>?_⟩
 have u3:=B7.upd (o:= .lst [.ref p,.ref p,.ref p,.ref p,.ref p,.ref p,.ref p,.ref p]) n3
 have uu:=u1.trans (u2.trans u3)
 have h2:=h1.same uu
 have w2:Wl (upd (upd (upd H1 p (.tup [.str "number"])) l2 (.lst [.ref p])) l3 (.lst [.ref p,.ref p,.ref p,.ref p,.ref p,.ref p,.ref p,.ref p])) l3 8:=⟨[p,p,p,p,p,p,p,p],A7,rfl,fun q hq=>by
   have:q=p:=by simpa using hq
   rw[this]
   exact(u2.trans u3) _ _ A7⟩
 refine⟨V4u,V4u,(wl.same uu).rd,w2.rd,sh8,sh8,?_⟩
 rw[if_neg Bool.false_ne_true,eq8]
 exact kk _ h2.st h2.tab
noncomputable abbrev A3w:Stmt:=(top 95)
noncomputable def qRe:Str:=("_law_refused":Str)++".<locals>."++"<lambda>"
noncomputable def pRe:List Pos:=[⟨547,17,547,97⟩,⟨549,17,549,112⟩]
theorem scLRef29:B9 Q48 Q45 (A1 A3w):=scK
theorem J0u(H:Hp):U6 [] H=H:=funext fun b=>Y3 (by simp)
inductive B9n(H:Hp):V ->Prop
 |non:B9n H .non
 |bl (b:Bool):B9n H (.bl b)
 |int {i:Int} (h:i< -100\/100<i):B9n H (.int i)
 |str (s:Str):B9n H (.str s)
 |lst {p:Addr} {xs:List V} (e:H p=some (.lst xs)):B9n H (.ref p)
 |tup {p:Addr} {xs:List V} (e:H p=some (.tup xs)):B9n H (.ref p)
theorem B9n.at{H H':Hp}{v:V}(h:B9n H v)(k:∀b o,(∀ps,o≠ .tbl ps) ->(∀x y,o≠ .frz x y) ->H b=some o ->H' b=some o):B9n H' v:=by
 cases h with
 |non=>exact .non
 |bl b=>exact .bl b
 |int h=>exact .int h
 |str s=>exact .str s
 |lst e=>exact .lst (k _ _ (fun _ z=>by cases z) (fun _ _ z=>by cases z) e)
 |tup e=>exact .tup (k _ _ (fun _ z=>by cases z) (fun _ _ z=>by cases z) e)
theorem B9n.bad{K:Frag}{H:Hp}{v:V}(T:Kit K)(h:B9n H v):A8f K H (-100) 100 v:=by
 cases h with
 |non=>exact Z8r T
 |bl b=>exact A0gg T b
 |int h=>exact Z9x T h
 |str s=>exact Z9c T s
 |lst e=>exact Z9h T e
 |tup e=>exact Z9a T e
noncomputable def V2y:PyData:= .tuple [.str "count"]
theorem rdC{K:Frag}{H:Hp}{d:Addr}(h:H d=some (.tup [.str "count"])):RdD K H (.ref d) V2y:= .tup (SqT.of h) (.cons (.str _) .nil)
theorem shC:SeqAt.shaped V2y=true:=by decide+kernel
theorem eqC:PyData.eqv V2y V2y=true:=by decide+kernel
noncomputable def V0p (P1 P2:Addr) (H H':Hp):Prop:=∀b o,b≠P1 ->b≠P2 ->H b=some o ->H' b=some o
theorem A1e.other{P1 P2:Addr}{ps:List Pos}{q:Str}{H H':Hp}(h:A1e P2 ps q H)(ne:P2≠P1){as:Array Value}(eP:H P1=some (.tbl as))(s:A3q P1 H H'):A1e P2 ps q H':=fun p hp=>(h p hp).at fun b o e hb=>by
 rcases hb with rfl|⟨oc,rfl⟩
 . exact s _ _ ne e
 . exact s _ _ (fun z=>by rw[z,eP] at e;cases e) e
structure JR(CN CC P1 P2:Addr)(n:Addr)(x:Nm)(c d u t a b:Addr)(r:Int)(y:Wy)(l m:Int)(up tr:List Str)(ls lc:Addr)(os bs:List V)(H0 H:Hp):Prop where
 num:U0 CN H n x
 ctx:U4 CC H c r y l m a b (up.map V.str) (tr.map V.str)
 own:V7 H d u t r y l m up tr
 t1:A1e P1 pNo qNo H
 t2:A1e P2 pRe qRe H
 es:H ls=some (.lst os)
 ec:H lc=some (.lst bs)
 ho:∀v∈os,A0k H v
 hb:∀v∈bs,B9n H v
 st:V0p P1 P2 H0 H
section
variable{CN CC P1 P2:Addr}{n:Addr}{x:Nm}{c d u t a b:Addr}{r:Int}{y:Wy}{l m:Int}{up tr:List Str}{ls lc:Addr}{os bs:List V}{H0 H H':Hp}
theorem JR.at(h:JR CN CC P1 P2 n x c d u t a b r y l m up tr ls lc os bs H0 H)(k:C6r H H')(t1:A1e P1 pNo qNo H')(t2:A1e P2 pRe qRe H')(s:V0p P1 P2 H H'):JR CN CC P1 P2 n x c d u t a b r y l m up tr ls lc os bs H0 H':=by
 obtain⟨⟨dx,e1⟩,e2,e3⟩:=h.ctx
 exact⟨h.num.keepN k,⟨⟨dx,k _ _ (fun _ z=>by cases z) e1⟩,k _ _ (fun _ z=>by cases z) e2,k _ _ (fun _ z=>by cases z) e3⟩,⟨k _ _ (fun _ z=>by cases z) h.own.d,k _ _ (fun _ z=>by cases z) h.own.u,k _ _ (fun _ z=>by cases z) h.own.t⟩,t1,t2,k _ _ (fun _ z=>by cases z) h.es,k _ _ (fun _ z=>by cases z) h.ec,fun v hv=>(h.ho v hv).keep k,fun v hv=>(h.hb v hv).at fun b o n1 _ e=>k b o n1 e,fun b o n1 n2 e=>s b o n1 n2 (h.st b o n1 n2 e)⟩
theorem JR.same(h:JR CN CC P1 P2 n x c d u t a b r y l m up tr ls lc os bs H0 H)(s:B7 H H'):JR CN CC P1 P2 n x c d u t a b r y l m up tr ls lc os bs H0 H':=h.at (fun b o _ e=>s b o e) (h.t1.same s) (h.t2.same s) fun b o _ _ e=>s b o e
theorem JR.no(h:JR CN CC P1 P2 n x c d u t a b r y l m up tr ls lc os bs H0 H)(ne:P2≠P1)(s:A3q P1 H H')(t1:A1e P1 pNo qNo H'):JR CN CC P1 P2 n x c d u t a b r y l m up tr ls lc os bs H0 H':=by
 obtain⟨ps,eP,_⟩:=h.t1 (⟨533,28,533,95⟩) (by decide)
 exact h.at (s.keep eP) t1 (h.t2.other ne eP s) fun b o n1 _ e=>s b o n1 e
theorem JR.lam{p:Pos}(h:JR CN CC P1 P2 n x c d u t a b r y l m up tr ls lc os bs H0 H)(ne:P2≠P1)(s:A3q P2 H H')(hp:p∈pRe)(tb:TabOk P2 p qRe H')(oth:∀pos' q',(pos'.line≠p.line\/pos'.col≠p.col) ->TabOk P2 pos' q' H ->TabOk P2 pos' q' H')(dd:∀x∈pRe,x=p\/(x.line≠p.line\/x.col≠p.col)):JR CN CC P1 P2 n x c d u t a b r y l m up tr ls lc os bs H0 H':=by
 obtain⟨ps,eP,_⟩:=h.t2 p hp
 exact h.at (s.keep eP) (h.t1.other ne.symm eP s) (h.t2.lam tb oth dd) fun b o _ n2 e=>s b o n2 e
end
theorem nd4(n:Nat):([n+1+1,n+1+1+1+1,n+1,n+1+1+1]:List Nat).Nodup:=by
 simp
 omega
theorem nd4b(n:Nat):([n+1+1+1+1+1,n+1+1+1+1,n+1,n+1+1+1]:List Nat).Nodup:=by
 simp
 omega
noncomputable abbrev stR (c d n:Addr) (ce:Int) (x4 x5:Option V):L2.St:=[sr c,sr d,sr n,si ce,x4,x5]
noncomputable def Z7t (CN CB n:Addr) (x:Nm) (lc:Addr) (bs:List V):Hp ->VK ->XK ->Prop:=fun H _ E=>U0 CN H n x/\H lc=some (.lst bs)/\(∀v∈bs,B9n H v)/\∀H',B7 H H' ->E (.ref CB) none H'
noncomputable def Z7x (CB:Addr) (ls lc:Addr) (os bs:List V):Hp ->VK ->XK ->Prop:=fun H _ E=>H ls=some (.lst os)/\H lc=some (.lst bs)/\(∀v∈os,A0k H v)/\∀H',B7 H H' ->E (.ref CB) none H'
noncomputable def J0s (CN CC P1 P2:Addr):Sp:=fun vs H Q _=>∃c d n x u t a b r y l m up tr,∃ce:Int,vs=[.ref c,.ref d,.ref n,.int ce]/\U0 CN H n x/\U4 CC H c r y l m a b (up.map V.str) (tr.map V.str)/\V7 H d u t r y l m up tr/\OkL up/\A1e P1 pNo qNo H/\A1e P2 pRe qRe H/\∀H',V0p P1 P2 H H' ->A1e P1 pNo qNo H' ->A1e P2 pRe qRe H' ->Q (.bl true) H'
theorem V2n{f cc P1 P2 CN CC CR C1 C2 C3 C4 C5 f0 f1 f2:Addr}(D:Def K mg "_law_refused" Q45 A3w f fd)(hcode:fd.code= .ref cc)(LB:G1p mg base cc P2)(ne:P2≠P1)
   (dA:Def K mg "_law_word" ["_law_deed"] A2u f0 fd0) (dB:A1w P w K mg base (CX1 P w) 10 f0 fd0 ["_law_deed"] (B5h P w K mg base 9 CR C1 C2 C3 C4 C5)) (dC:Def K mg "scaled" Q10 A2m f1 fd1) (dD:sI P w K mg base 3 f1 fd1 Q10 (J7z K CN C1 C4))
   (dE:Def K mg "_law_no_number" Q43 A4k f2 fd2) (dF:A1w P w K mg base (CX1 P w) 11 f2 fd2 Q43 (Y3e CN P1)) (O4:Own4 K CN) (T:Kit K) (WN:Wd K CR C1 C2 C3 C4 C5 C1 0 "number") (WC:Wd K CR C1 C2 C3 C4 C5 C4 3 "count")
   (C:C0w K mg CC) (MF:Has P w K mg base CC "flags" 1 ["self"] (A8e CC)):A1w P w K mg base (CX1 P w) 12 f fd Q45 (J0s CN CC P1 P2):=by
 refine D.F.okEL hcode scLRef29 (fun vs H Q E h=>?_) (fun X A outer s H vs Q E hX HG hr hx h=>?_)
 . obtain⟨c,d,n,x,u,t,a,b,r,y,l,m,up,tr,ce,rfl,_⟩:=h
   rfl
 subst hX
 obtain⟨c,d,n,x,u,t,a,b,r,y,l,m,up,tr,ce,rfl,num,ctx,own,okU,tab1,tab2,kk⟩:=h
 obtain⟨ff,fdf,mf,gf,bf⟩:=MF
 have HU:=Nat.lt_of_le_of_lt (Nat.add_le_add_left (by decide:1<=64) _) hr.units
 have CZE:∀N env,A1k [] [] N env:=fun _ _=>⟨fun i x c h=>by cases h⟩
 have z1:1<=sizeLine:=D3 (by decide)
 have z4:4<=sizeLine:=D3 (by decide)
 have z10:10<=sizeLine:=D3 (by decide)
 have z12:12<=sizeLine:=D3 (by decide)
 have CZ0:A1k [("_law_first",s.heap.objs.size+1+1),("_law_counts",s.heap.objs.size+1+1+1+1),("_law_context_here",s.heap.objs.size+1),("_law_cell",s.heap.objs.size+1+1+1)] [2,5,0,3] Q48 (envOfC "_law_refused" (A1 A3w) s.heap.objs.size f (.ref cc)):=⟨fun i x c h=>by
   rcases i with _|_|_|_|i
   . obtain⟨rfl,rfl⟩:=Prod.mk.inj (Option.some.inj h)
     exact⟨rfl,rfl,fun j hj=>by cases hj;rfl⟩
   . obtain⟨rfl,rfl⟩:=Prod.mk.inj (Option.some.inj h)
     exact⟨rfl,rfl,fun j hj=>by cases hj;rfl⟩
   . obtain⟨rfl,rfl⟩:=Prod.mk.inj (Option.some.inj h)
     exact⟨rfl,rfl,fun j hj=>by cases hj;rfl⟩
   . obtain⟨rfl,rfl⟩:=Prod.mk.inj (Option.some.inj h)
     exact⟨rfl,rfl,fun j hj=>by cases hj;rfl⟩
   . cases h⟩
 have CZ1:A1k [("_law_some",s.heap.objs.size+1+1+1+1+1),("_law_counts",s.heap.objs.size+1+1+1+1),("_law_context_here",s.heap.objs.size+1),("_law_cell",s.heap.objs.size+1+1+1)] [4,5,0,3] Q48 (envOfC "_law_refused" (A1 A3w) s.heap.objs.size f (.ref cc)):=⟨fun i x c h=>by
   rcases i with _|_|_|_|i
   . obtain⟨rfl,rfl⟩:=Prod.mk.inj (Option.some.inj h)
     exact⟨rfl,rfl,fun j hj=>by cases hj;rfl⟩
   . obtain⟨rfl,rfl⟩:=Prod.mk.inj (Option.some.inj h)
     exact⟨rfl,rfl,fun j hj=>by cases hj;rfl⟩
   . obtain⟨rfl,rfl⟩:=Prod.mk.inj (Option.some.inj h)
     exact⟨rfl,rfl,fun j hj=>by cases hj;rfl⟩
   . obtain⟨rfl,rfl⟩:=Prod.mk.inj (Option.some.inj h)
     exact⟨rfl,rfl,fun j hj=>by cases hj;rfl⟩
   . cases h⟩
 refine⟨_,(A8 (C6 (D7 (i:=4) scLRef29.nd rfl (Or.inr rfl) (U1 (A0 J7k (A0 A2s (A0 A3 (A0 B3 (A0 (U1 (A0 A3 A6)) (A0 (V3 (A0 B3 (A0 A3 (A0 A3 (A0 A3 A6))))) (A0 Y2m (A0 B3 (A0 A3 (A0 (U1 A6) (A0 (V3 A6) (A0 (B1a A5f A3) A6))))))))))))))) (A8 (C6 (D7 (i:=5) scLRef29.nd rfl (Or.inr rfl) (U1 (A0 A3 (A0 (B1a A5f A3) (A0 A2s (A0 J7k (A0 B3 (A0 (U1 (A0 A3 A6)) (A0 (V3 A6) (A0 A2s (A0 (B1 G0q A3 A3) (A0 (B1a A5f (B1 G0q A3 A3)) A6))))))))))))) (A8 (C6 (J0 (A4t (A0b (A1z dE dF HG hr hx (CZE _ _) (A0 (pv 0) (A0 (pv 2) (A0 (V5 A0a (pv 4) (B1 G2 (pv 3) A3) (fun _ _=>rfl)) (A0 (B1 G3 (pv 3) A3) A6))))))) (B0 (C7 A2s)) D6)) (A8 (C6 (J0 (D4 (Y1j hr.units) (A1z dA dB HG hr hx CZ0 (A0 (Z7 LB rfl (by rfl)) A6)) (V3 (A0 B3 A6)) (D0 _)) (B0 (C7 A2s)) D6)) (A8 (C6 (J0 (D4 (Y1j hr.units) (A1z dA dB HG hr hx CZ1 (A0 (Z7 LB rfl (by rfl)) A6)) (V3 (A0 B3 A6)) (D0 _)) (B0 (C7 A2s)) D6)) (B0 (C7 (G6 (B6u hr.units) (A6t (pv 0) C.cl mf gf hr bf .nil hx) (U9 HU (pv 1) B3 (fun _ _=>rfl)) (D0 _))))))))),?_⟩
 refine⟨fun σ' H'=>∃ls,∃os:List V,B7 H H'/\H' ls=some (.lst os)/\os.length=12/\(∀u∈os,A0k H' u)/\σ'=stR c d n ce (some (.ref ls)) none,?_,?_⟩
 . refine⟨z1,fun q1 n1=>⟨z4,fun q2 n2=>fun q3 n3=>⟨Nat.zero_le _,fun q4 n4=>⟨Nat.zero_le _,fun q5 n5=>⟨_,rfl,z12,fun l nl=>?_⟩⟩⟩⟩⟩
   have u1:=B7.upd (o:= .lst [.int 1]) n1
   have u2:=B7.upd (o:= .tup [.str "plain",.int 0,.int 1,.int 0]) n2
   have u3:=B7.upd (o:= .dK []) n3
   have u4:=B7.upd (o:= .lst []) n4
   have u5:=B7.upd (o:= .tup []) n5
   have u6:=B7.upd (o:= .lst [.non,.bl true,.int 5,.str "1",.ref q1,.ref q2,.ref q3,.str "none",.int 0,.ref q4,.ref q5,.int (-3)]) nl
   refine⟨l,_,u1.trans (u2.trans (u3.trans (u4.trans (u5.trans u6)))),A7,rfl,fun u hu=>?_,rfl⟩
   simp only[List.mem_cons,List.not_mem_nil,or_false] at hu
   rcases hu with rfl|rfl|rfl|rfl|rfl|rfl|rfl|rfl|rfl|rfl|rfl|rfl
   . exact .non
   . exact .bl _
   . exact .int _
   . exact .str _
   . exact .lst ((u2.trans (u3.trans (u4.trans (u5.trans u6)))) _ _ A7)
   . exact .tup ((u3.trans (u4.trans (u5.trans u6))) _ _ A7)
   . exact .dic ((u4.trans (u5.trans u6)) _ _ A7)
   . exact .str _
   . exact .int _
   . exact .lst ((u5.trans u6) _ _ A7)
   . exact .tup (u6 _ _ A7)
   . exact .int _
 rintro σ' H1 ⟨ls,os,s1,els,lo,hos,rfl⟩
 refine⟨fun σ' H'=>∃lc,∃bs:List V,JR CN CC P1 P2 n x c d u t a b r y l m up tr ls lc os bs H H'/\bs.length=10/\σ'=stR c d n ce (some (.ref ls)) (some (.ref lc)),?_,?_⟩
 . refine⟨_,rfl,z1,fun q1 n1=>⟨Nat.zero_le _,fun q2 n2=>?_⟩⟩
   have u1:=B7.upd (o:= .lst [.int 1]) n1
   have u2:=B7.upd (o:= .tup []) n2
   have cp:Y2q 10 30:=⟨by decide,by decide,by decide+kernel⟩
   refine⟨_,_,rfl,rfl,cp,_,_,rfl,rfl,cp,_,rfl,z10,fun lc nl=>?_⟩
   have u3:=B7.upd (o:= .lst [.int 101,.int (-101),.bl true,.non,.str "1",.ref q1,.ref q2,.bl false,.int (10^30),.int (-(10^30))]) nl
   have uu:=u1.trans (u2.trans u3)
   have ss:=s1.trans uu
   refine⟨lc,[.int 101,.int (-101),.bl true,.non,.str "1",.ref q1,.ref q2,.bl false,.int (10^30),.int (-(10^30))],⟨num.same ss,U4.same ctx ss,own.same ss,tab1.same ss,tab2.same ss,uu _ _ els,A7,fun v hv=>(hos v hv).same uu,fun v hv=>?_,fun b o _ _ e=>ss b o e⟩,rfl,rfl⟩
   simp only[List.mem_cons,List.not_mem_nil,or_false] at hv
   rcases hv with rfl|rfl|rfl|rfl|rfl|rfl|rfl|rfl|rfl|rfl
   . exact .int (by decide)
   . exact .int (by decide)
   . exact .bl _
   . exact .non
   . exact .str _
   . exact .lst ((u2.trans u3) _ _ A7)
   . exact .tup (u3 _ _ A7)
   . exact .bl _
   . exact .int (by decide)
   . exact .int (by decide)
 rintro σ' H2 ⟨lc,bs,h2,lb,rfl⟩
 refine⟨fun σ' H'=>JR CN CC P1 P2 n x c d u t a b r y l m up tr ls lc os bs H H'/\σ'=stR c d n ce (some (.ref ls)) (some (.ref lc)),?_,?_⟩
 . obtain⟨v1,hv1,ix1⟩:=ixv (xs:=os) (i:=ce % 12) (Int.emod_nonneg _ (by decide)) (by rw[lo];exact Int.emod_lt_of_pos _ (by decide))
   refine⟨_,rfl,_,rfl,_,rfl,_,rfl,_,_,rfl,rfl,(by decide:(0:Int)<12),ls,_,_,_,rfl,rfl,SqL.of h2.es,ix1,_,rfl,_,_,rfl,rfl,dv (n:=12) (by decide) (by decide+kernel),?_⟩
   intro hn H4 hq A4 kn
   obtain rfl:H4=H2:=funext fun b=>hq b (by simp)
   refine⟨c,n,x,v1,_,rfl,h2.num,h2.ho v1 hv1,h2.t1,fun H5 s5 t5 _=>?_⟩
   have h6:JR CN CC P1 P2 n x c d u t a b r y l m up tr ls lc os bs H (U6 [] H5):=by rw[J0u];exact h2.no ne s5 t5
   exact⟨_,rfl,U8 ⟨h6,rfl⟩⟩
 clear h2
 rintro σ' H2 ⟨h2,rfl⟩
 refine⟨fun σ' H'=>JR CN CC P1 P2 n x c d u t a b r y l m up tr ls lc os bs H H'/\σ'=stR c d n ce (some (.ref ls)) (some (.ref lc)),?_,?_⟩
 . refine⟨h2.t2 (⟨547,17,547,97⟩) (by decide),fun fl H8 sT nf la tab8 oth=>?_⟩
   have h8:=h2.lam ne sT (p:=(⟨547,17,547,97⟩)) (by decide) tab8 oth (by decide)
   intro hn H9 hq A9 kn
   have DO:=A1j (P:=P) (w:=w) (K:=K) (mg:=mg) (base:=base) (k:=8) (vs:=[.ref n,.ref lc,.ref c,.int ce]) (sp:=Z7t CN C4 n x lc bs) la (show C0v ["_law_first","_law_counts","_law_context_here","_law_cell"] _ from⟨rfl,rfl,rfl,by decide+kernel,by decide+kernel,by decide+kernel,by decide+kernel⟩) rfl (nd4 _) (fun _ _ _=>rfl) (fun X cdv A' outer' s' H' Q' E' hX hr' hx' hsp af=>by
     subst hX
     obtain⟨nu,elc,hb,k'⟩:=hsp
     obtain⟨v2,hv,ix⟩:=ixv (xs:=bs) (i:=ce/12 % 10) (Int.emod_nonneg _ (by decide)) (by rw[lb];exact Int.emod_lt_of_pos _ (by decide))
     refine⟨_,D5 dC dD hr' hx' (A0 (pv 2) (A0 (pv 0) (A0 (V5 A0a (pv 1) (B1 G2 (B1 G3 (pv 3) A3) A3) (fun _ _=>rfl)) A6))),?_⟩
     have eh:U6 _ H' lc=some (.lst bs):=af.hide elc (fun _ z=>by cases z)
     exact⟨_,rfl,_,rfl,_,rfl,_,rfl,_,_,rfl,rfl,dv (n:=12) (by decide) (by decide+kernel),_,_,rfl,rfl,(by decide:(0:Int)<10),lc,_,_,_,rfl,rfl,SqL.of eh,ix,.ref c,.ref n,v2,rfl,.inr ⟨n,x,rfl,nu.hideN af,B9n.bad T ((hb v2 hv).at fun b o _ n2 e=>af.hide e fun o=>n2 _ _),fun _=>k' _ (A0j (B7.refl _))⟩⟩)
   refine A0f WC la hn hq A9 (fun j x' c' hj=>?_) DO (fun Qd Ed s89 kE=>⟨h8.num.same s89,s89 _ _ h8.ec,fun v hv=>(h8.hb v hv).at fun b o _ _ e=>s89 _ _ e,kE⟩) (fun p H10 s10 ep=>?_)
   . rcases j with _|_|_|_|j
     . exact⟨_,rfl,kn 0 x' c' 2 _ hj rfl rfl⟩
     . exact⟨_,rfl,kn 1 x' c' 5 _ hj rfl rfl⟩
     . exact⟨_,rfl,kn 2 x' c' 0 _ hj rfl rfl⟩
     . exact⟨_,rfl,kn 3 x' c' 3 _ hj rfl rfl⟩
     . cases hj
   . refine⟨z1,fun q nq=>?_⟩
     have uq:=B7.upd (o:= .tup [.str "count"]) nq
     refine⟨V2y,V2y,rdC (uq _ _ ep),rdC A7,shC,shC,_,rfl,?_⟩
     rw[if_pos rfl,eqC]
     exact U8 ⟨h8.same (s10.trans uq),rfl⟩
 clear h2
 rintro σ' H2 ⟨h2,rfl⟩
 refine⟨fun σ' H'=>JR CN CC P1 P2 n x c d u t a b r y l m up tr ls lc os bs H H'/\σ'=stR c d n ce (some (.ref ls)) (some (.ref lc)),?_,?_⟩
 . refine⟨h2.t2 (⟨549,17,549,112⟩) (by decide),fun fl H8 sT nf la tab8 oth=>?_⟩
   have h8:=h2.lam ne sT (p:=(⟨549,17,549,112⟩)) (by decide) tab8 oth (by decide)
   intro hn H9 hq A9 kn
   have DO:=A1j (P:=P) (w:=w) (K:=K) (mg:=mg) (base:=base) (k:=8) (vs:=[.ref ls,.ref lc,.ref c,.int ce]) (sp:=Z7x C1 ls lc os bs) la (show C0v ["_law_some","_law_counts","_law_context_here","_law_cell"] _ from⟨rfl,rfl,rfl,by decide+kernel,by decide+kernel,by decide+kernel,by decide+kernel⟩) rfl (nd4b _) (fun _ _ _=>rfl) (fun X cdv A' outer' s' H' Q' E' hX hr' hx' hsp af=>by
     subst hX
     obtain⟨els,elc,ho,k'⟩:=hsp
     obtain⟨v2,hv,ix⟩:=ixv (xs:=bs) (i:=ce/12 % 10) (Int.emod_nonneg _ (by decide)) (by rw[lb];exact Int.emod_lt_of_pos _ (by decide))
     obtain⟨v1,hv1,ix1⟩:=ixv (xs:=os) (i:=ce % 12) (Int.emod_nonneg _ (by decide)) (by rw[lo];exact Int.emod_lt_of_pos _ (by decide))
     refine⟨_,D5 dC dD hr' hx' (A0 (pv 2) (A0 (V5 A0a (pv 0) (B1 G2 (pv 3) A3) (fun _ _=>rfl)) (A0 (V5 A0a (pv 1) (B1 G2 (B1 G3 (pv 3) A3) A3) (fun _ _=>rfl)) A6))),?_⟩
     have eh:U6 _ H' lc=some (.lst bs):=af.hide elc (fun _ z=>by cases z)
     have eh1:U6 _ H' ls=some (.lst os):=af.hide els (fun _ z=>by cases z)
     exact⟨_,rfl,_,rfl,_,rfl,_,_,rfl,rfl,(by decide:(0:Int)<12),ls,_,_,_,rfl,rfl,SqL.of eh1,ix1,_,rfl,_,rfl,_,_,rfl,rfl,dv (n:=12) (by decide) (by decide+kernel),_,_,rfl,rfl,(by decide:(0:Int)<10),lc,_,_,_,rfl,rfl,SqL.of eh,ix,.ref c,v1,v2,rfl,.inl ⟨A0k.not O4 ((ho v1 hv1).hide af),fun _=>k' _ (A0j (B7.refl _))⟩⟩)
   refine A0f WN la hn hq A9 (fun j x' c' hj=>?_) DO (fun Qd Ed s89 kE=>⟨s89 _ _ h8.es,s89 _ _ h8.ec,fun v hv=>(h8.ho v hv).same s89,kE⟩) (fun p H10 s10 ep=>?_)
   . rcases j with _|_|_|_|j
     . exact⟨_,rfl,kn 0 x' c' 4 _ hj rfl rfl⟩
     . exact⟨_,rfl,kn 1 x' c' 5 _ hj rfl rfl⟩
     . exact⟨_,rfl,kn 2 x' c' 0 _ hj rfl rfl⟩
     . exact⟨_,rfl,kn 3 x' c' 3 _ hj rfl rfl⟩
     . cases hj
   . refine⟨z1,fun q nq=>?_⟩
     have uq:=B7.upd (o:= .tup [.str "number"]) nq
     refine⟨B6w,B6w,rd1 (uq _ _ ep),rd1 A7,sh1,sh1,_,rfl,?_⟩
     rw[if_pos rfl,eq1]
     exact U8 ⟨h8.same (s10.trans uq),rfl⟩
 clear h2
 rintro σ' H2 ⟨h2,rfl⟩
 obtain⟨dc,ec⟩:=h2.ctx.ins
 refine⟨_,rfl,c,dc,_,rfl,ec,B9a _ _ _ _ _ _,c,r,y,l,m,a,b,_,_,rfl,h2.ctx,fun l1 n1=>?_⟩
 have u1:=B7.upd (o:= .lst (up.map V.str)) n1
 have h3:=h2.same u1
 refine⟨_,rfl,d,_,rfl,h3.own.gUp,?_⟩
 refine⟨rdS up,rdS up,B1d A7,B1d h3.own.u,shS okU,shS okU,?_⟩
 rw[if_neg Bool.false_ne_true,Z9y]
 exact kk _ h3.st h3.t1 h3.t2
theorem V0w(i:Int):∀(n:Nat) (f p:Int),p<=(B1q i n f p).2/\(B1q i n f p).2<=p+n
 |0,f,p=>⟨Int.le_refl _,by show p<=p+0;omega⟩
 | n + 1,f,p=>by
   unfold B1q
   split
   . have:=V0w i n (f/10) (p+1)
     constructor<;>omega
   . constructor
     . exact Int.le_refl _
     . show p<=p+((n+1:Nat):Int)
       omega
theorem A0ew{v:Cv}{s wh pt q i:Int}(ok:v.Ok)(w0:0<=wh)(w1:wh<C8 v.r)(q0: -3000<=q)(q1:q<=3000)(i0: -3000<=i)(i1:i<=3000):
   0<=(Y6 v s wh pt q i).1/\(Y6 v s wh pt q i).1<=10^24/\ -10000<=(Y6 v s wh pt q i).2/\(Y6 v s wh pt q i).2<=10000:=by
 have t24:=G0j ok.r2
 unfold Y6
 split
 . have a:=B9d i (i-q).toNat wh q w0
   have b:=V0w i (i-q).toNat wh q
   unfold A0v
   refine⟨a.1,by omega,by omega,by omega⟩
 have hu:0<=upI v.y s wh pt/\upI v.y s wh pt<=wh+1:=by
   unfold upI
   generalize (if pt=0 then false else v.y.goes s (wh % 10) pt)=g
   cases g with
   |true=>exact⟨by show 0<=wh+1;omega,Int.le_refl _⟩
   |false=>exact⟨w0,by show wh<=wh+1;omega⟩
 generalize upI v.y s wh pt=u at hu
 unfold B1g
 split
 . exact⟨by show 0<=u/10;omega,by show u/10<=10^24;omega,by show -10000<=q+1;omega,by show q+1<=10000;omega⟩
 exact⟨hu.1,by show u<=10^24;omega,by show -10000<=q;omega,by show q<=10000;omega⟩
theorem A8g{x:Nm}(s0:0<=x.s)(s1:x.s<=1)(f0:0<=x.f)(f1:x.f<=10^60)(p0: -10000<=x.p)(p1:x.p<=10000):A1f (A7t x.k.str x.s x.f x.p):=by
 have big:(10:Int)^60+10000<10^61:=by decide+kernel
 have bigN:((10^61:Nat):Int)=10^61:=by decide+kernel
 exact A0pw (by omega) (by omega) (by omega)
theorem G0c{v:Cv}{s wh pt L q i:Int}(ok:v.Ok)(s0:0<=s)(s1:s<=1)(w0:0<=wh)(w1:wh<C8 v.r)(q0: -3000<=q)(q1:q<=3000)(i0: -3000<=i)(i1:i<=3000):
   A1f (A7t (A5s v s wh pt L q i).1.k.str (A5s v s wh pt L q i).1.s (A5s v s wh pt L q i).1.f (A5s v s wh pt L q i).1.p):=by
 obtain⟨a,b,c,d⟩:=A0ew (s:=s) (pt:=pt) ok w0 w1 q0 q1 i0 i1
 have t24:=G0j ok.r2
 have tp:=Y8 v.r
 have r1:=ok.r1;have r2:=ok.r2;have m1:=ok.m1;have m2:=ok.m2
 have big:(10:Int)^24<=10^60:=by decide+kernel
 unfold A5s
 split
 . unfold B6z
   dsimp only
   split
   . exact A8g s0 s1 (Int.le_refl _) (by show(0:Int)<=10^60;decide) (by show(-10000:Int)<=0;decide) (by show(0:Int)<=10000;decide)
   . exact A8g s0 s1 (by show 0<=C8 v.r-1;omega) (by show C8 v.r-1<=10^60;omega) (by show -10000<=v.m-v.r+1;omega) (by show v.m-v.r+1<=10000;omega)
 exact A8g s0 s1 a (Int.le_trans b big) c d
theorem J1y{v:Cv}{s t b n L i:Int}(ok:v.Ok)(s0:0<=s)(s1:s<=1)(ht:Sz t)(hb:Sz b)(h:A0m t b (n-L))(n0: -1000<=n)(n1:n<=1000)(i0: -3000<=i)(i1:i<=3000):
   A1f (A7t (Z6 v s t b n L i).1.k.str (Z6 v s t b n L i).1.s (Z6 v s t b n L i).1.f (Z6 v s t b n L i).1.p):=by
 have ls:=C8y ht hb h
 have r1:=ok.r1;have r2:=ok.r2;have l1:=ok.l1;have l2:=ok.l2
 have fb: -3000<=v.fin L/\v.fin L<=3000:=by
   unfold Cv.fin Z4
   split<;>omega
 have wr:=G1k (s2:=n-v.fin L) ht hb h ok.r1 (by
   unfold Cv.fin Z4
   split<;>omega)
 exact G0c ok s0 s1 wr.1 wr.2 fb.1 fb.2 i0 i1
theorem J1d{v:Cv}{s i:Int}(ok:v.Ok)(s0:0<=s)(s1:s<=1):A1f (A7t (B9f v s i).k.str (B9f v s i).s (B9f v s i).f (B9f v s i).p):=by
 have r1:=ok.r1;have r2:=ok.r2;have l1:=ok.l1;have l2:=ok.l2;have m1:=ok.m1;have m2:=ok.m2
 have: -10000<=C6m (Z4 i (v.l-v.r+1)) v.m/\C6m (Z4 i (v.l-v.r+1)) v.m<=10000:=by
   unfold C6m Z4
   constructor<;>(repeat' split)<;>omega
 exact A8g s0 s1 (Int.le_refl _) (by show(0:Int)<=10^60;decide) this.1 this.2
theorem J1z{cs:List Addr}{c:Addr}{H H1:Hp}(x:Exc c (U6 cs H) H1):Exc c H (A0r cs H H1):=fun b o e n=>by
 by_cases hb:b∈cs
 . rw[C6v hb];exact e
 . rw[Y1 hb]
   exact x b o (by rw[Y3 hb];exact e) n
theorem U4.back{CC:Addr}{H H':Hp}{cs:List Addr}{c:Addr}{r:Int}{y:Wy}{l m:Int}{a b:Addr}{xs ys:List V}(h:U4 CC H' c r y l m a b xs ys)(hn:∀c∈cs,H' c=none):U4 CC (A0r cs H H') c r y l m a b xs ys:=by
 obtain⟨⟨dx,e⟩,ha,hb⟩:=h
 have out:∀{p:Addr} {o:HO},H' p=some o ->p ∉ cs:=fun e z=>by rw[hn _ z] at e;cases e
 exact⟨⟨dx,by rw[Y1 (out e)];exact e⟩,by rw[Y1 (out ha)];exact ha,by rw[Y1 (out hb)];exact hb⟩
theorem A7e.hide{CN CC CT:Addr}{H:Hp}{cs:List Addr}{c:Addr}{v:Cv}{b:Addr}{xs ys:List Str}{res:Nm×List Str}{Q:VK}{E:XK}(k:A7e CN CC CT H c v b xs ys res Q E):
   A7e CN CC CT (U6 cs H) c v b xs ys res (fun u H1=>(∀c∈cs,H1 c=none) ->Q u (A0r cs H H1)) (fun C d H1=>(∀c∈cs,H1 c=none) ->E C d (A0r cs H H1)):=
 ⟨fun hn m a' H1 x ct nm no=>k.1 hn m a' _ (J1z x) (U4.back ct no) (nm.back no),fun z hz a' d H1 x ct ed no=>k.2 z hz a' d _ (J1z x) (U4.back ct no) (by rw[Y1 fun q=>by rw[no _ q] at ed;cases ed];exact ed)⟩
theorem D8f{tr zs ws:List Str}(h:∀z,z∈zs↔z∈ws):hit tr zs=hit tr ws:=by
 unfold hit
 congr 1
 funext t
 rw[Bool.eq_iff_iff]
 simp[h]
theorem D7k{up zs ws:List Str}(h:∀z,z∈zs↔z∈ws):Y5 (up++zs)=Y5 (up++ws):=by
 unfold Y5
 refine List.filter_congr fun z _=>?_
 rw[Bool.eq_iff_iff]
 simp[h]
theorem Z8n{CN CC CT c:Addr}{r:Int}{y:Wy}{l m:Int}{b:Addr}{up tr zs:List Str}{res:Nm×List Str}{H':Hp}{Qd:VK}{Ed:XK}(hz:∀z,z∈zs↔z∈res.2)
   (h1:∀n a' H1,hit tr zs=none ->Exc c H' H1 ->U4 CC H1 c r y l m a' b ((Y5 (up++zs)).map V.str) (tr.map V.str) ->U0 CN H1 n res.1 ->Qd (.ref n) H1)
   (h2:∀sg d' a' H1,hit tr zs=some sg ->Exc c H' H1 ->U4 CC H1 c r y l m a' b ((Y5 (up++zs)).map V.str) (tr.map V.str) ->H1 d'=some (.xd [("signal",.str sg)]) ->Ed (.ref CT) (some d') H1):
   A7e CN CC CT H' c ⟨r,y,l,m⟩ b up tr res Qd Ed:=
 ⟨fun hn n a' H1 x ct nm=>h1 n a' H1 (by rw[D8f hz];exact hn) x (by rw[D7k hz];exact ct) nm,fun z hh a' d' H1 x ct ed=>h2 z d' a' H1 (by rw[D8f hz];exact hh) x (by rw[D7k hz];exact ct) ed⟩
theorem Z8h(ws:List Str):A2z (Y5 ws):=⟨_,rfl⟩
section
variable{P:Program}{w:World}{K:Frag}{mg:Str ->Option Value}{base:Heap}
variable{CN CC CT P0:Addr}{pos:Pos}{qual:Str}{sc:Addr}{ns:List Int}{d t c b:Addr}{r:Int}{y:Wy}{l m:Int}{up tr:List Str}{H:Hp}{a u:Addr}
theorem Y1g{k:Nat}{params:Arguments}{body:Expr}{scope:Scope}{cl:List (Str×Addr)}{vs:List V}{spd:Hp ->VK ->XK ->Prop}{H3 H4:Hp}{f q dt dl:Addr}{zs:List Str}{x:Nm}{Q:VK}{E:XK}
   (h:J3c CN CC CT P0 pos qual K sc ns d t c b r y l m up tr H a u) (su:A2z up) (st:A2z tr) (sT:A3q P0 H H3) (tab:TabOk P0 pos qual H3) (la:C6b H3 f qual params body scope cl)
   (hn:∀c∈cl.map (·.2),H3 c=none) (ho:∀b,b ∉ cl.map (·.2) ->H4 b=H3 b) (A4:Z0 (cl.map (·.2)) H4) (kn:∀(i:Nat) (x:Str) (c:Addr),cl[i]?=some (x,c) ->∃v,vs[i]?=some v/\C9c H4 c v)
   (eq:H3 q=some (.tup [.ref dt,.ref dl])) (et:H3 dt=some (.tup x.vs)) (el:H3 dl=some (.lst (zs.map V.str))) (lz:zs.length<=100) (ok:A1f (A7t x.k.str x.s x.f x.p))
   (DO:B2e P w K mg base k f (Z8t f qual params body scope cl vs) spd)
   (hD:∀H',C6r H H4 ->Exc d H4 H' ->U4 CC H' c r y l m a b (up.map V.str) (tr.map V.str) ->Y3x CN CC CT c r y l m b up tr zs x spd H')
   (fin:∀a' u' H5,A5r c d H3 (U6 (cl.map (·.2)) H5) ->J3c CN CC CT P0 pos qual K sc ns d t c b r y l m (Y5 (up++zs)) tr (U6 (cl.map (·.2)) H5) a' u' ->Q (.bl true) H5):
   C0h P w K mg base k CN CC CT [.ref c,.ref d,.ref f,.ref q] H4 Q E:=by
 obtain⟨ps,eP,_⟩:=h.tab
 have k3:C6r H H3:=sT.keep eP
 have k34:∀b o,H3 b=some o ->H4 b=some o:=fun b o e=>by
   rw[ho b fun z=>by rw[hn b z] at e;cases e]
   exact e
 have k4:C6r H H4:=fun b o n e=>k34 b o (k3 b o n e)
 obtain⟨dx,ec⟩:=(h.ctx.keep k4).ins
 have ed:=(h.own.keep k4).d
 refine⟨c,d,f,q,dt,dl,a,b,u,t,r,y,l,m,up,tr,zs,x,_,spd,rfl,h.ctx.keep k4,h.own.keep k4,su,st,k34 _ _ eq,k34 _ _ et,k34 _ _ el,lz,ok,DO,fun H' x'=>?_,fun H' x'=>hD H' k4 x',fun a' u' H5 x5 c5 o5=>?_⟩
 . have nd:∀b o,H4 b=some (.frz o (.own b)) ->H' b=some (.frz o (.own b)):=fun b o e=>x' _ _ e (G9 e ed (by intro z;cases z))
   refine⟨(la.kept fun b o e=>k34 b _ e).kept nd,fun i x c' hi=>?_⟩
   obtain⟨v,hv,hk⟩:=kn i x c' hi
   exact⟨v,hv,hk.kept nd⟩
 have A5:Z0 (cl.map (·.2)) H5:=fun c' hc'=>by
   obtain⟨o,e⟩:=A4 c' hc'
   exact⟨o,x5 _ _ e (G9 e ec (by intro z;cases z)) (G9 e ed (by intro z;cases z))⟩
 have x36:A5r c d H3 (U6 (cl.map (·.2)) H5):=fun b o e n1 n2=>by
   rw[Y3 fun z=>by rw[hn b z] at e;cases e]
   exact x5 b o (k34 b o e) n1 n2
 have e3c:=(h.ctx.keep k3).ins
 have e3d:=(h.own.keep k3).d
 obtain⟨dx3,e3c⟩:=e3c
 refine fin a' u' _ x36 ⟨o5.hide A5,c5.hide A5,tab.at fun b o e hb=>?_,(h.scr.kept fun o e _=>k3 _ _ ?_ e).kept fun o e hb=>?_⟩
 . rcases hb with rfl|⟨oc,rfl⟩
   . obtain⟨ps3,z,_⟩:=tab
     rw[z] at e
     cases e
     exact x36 _ _ z (G9 z e3c (by intro z;cases z)) (G9 z e3d (by intro z;cases z))
   . exact x36 _ _ e (G9 e e3c (by intro z;cases z)) (G9 e e3d (by intro z;cases z))
 . rename_i hb
   rcases hb with rfl|⟨oc,rfl⟩<;>exact fun _ z=>by cases z
 rcases hb with rfl|⟨oc,rfl⟩
 . exact x36 _ _ e (G9 e e3c (by intro z;cases z)) (G9 e e3d (by intro z;cases z))
 exact x36 _ _ e (G9 e e3c (by intro z;cases z)) (G9 e e3d (by intro z;cases z))
theorem TabOk.exc2{P0:Addr}{pos:Pos}{q:Str}{H3 H6:Hp}{C0 d0:Addr}{F:List (Str×V)}{kv:List (Key×V)}(h:TabOk P0 pos q H3)(x:A5r c d H3 H6)(ec:H3 c=some (.ins C0 d0 F))(ed:H3 d=some (.dK kv)):TabOk P0 pos q H6:=by
 obtain⟨ps,eP,rest⟩:=id h
 refine h.at fun b o e hb=>?_
 rcases hb with rfl|⟨oc,rfl⟩
 . rw[eP] at e
   cases e
   exact x _ _ eP (G9 eP ec (by intro z;cases z)) (G9 eP ed (by intro z;cases z))
 exact x _ _ e (G9 e ec (by intro z;cases z)) (G9 e ed (by intro z;cases z))
end
noncomputable abbrev D3j:Stmt:=(top 96)
noncomputable def Z7w:Str:=("law":Str)++".<locals>."++"<lambda>"
noncomputable def pLam:Pos:=⟨559,61,559,123⟩
theorem U0.exc2{CN:Addr}{H H':Hp}{n c d:Addr}{x:Nm}{kv:List (Key×V)}(h:U0 CN H n x)(s:A5r c d H H')(nc:n≠c)(ed:H d=some (.dK kv)):U0 CN H' n x:=by
 obtain⟨dx,z⟩:=h
 exact⟨dx,s _ _ z nc (G9 z ed (by intro z;cases z))⟩
theorem Y3r{H H':Hp}{q c d C0 d0:Addr}{xs:List V}{F:List (Str×V)}{kv:List (Key×V)}(h:H q=some (.tup xs))(s:A5r c d H H')(ec:H c=some (.ins C0 d0 F))(ed:H d=some (.dK kv)):H' q=some (.tup xs):=s _ _ h (G9 h ec (by intro z;cases z)) (G9 h ed (by intro z;cases z))
theorem A0fp(x:Nm)(wf:x.Wf)(m:Int):∃L,x.k= .plain ->x.f≠0 ->A0m x.f 1 (x.p+m-L):=by
 by_cases h:x.f=0
 . exact⟨0,fun _ z=>absurd h z⟩
 have a0:=wf.ok.f0
 obtain⟨n,hn⟩:∃n:Nat,x.f=(n:Int):=⟨x.f.toNat,by omega⟩
 obtain⟨A,a1,a2⟩:=G1e n (by omega)
 rw[hn]
 by_cases z:(n:Int)*C8 (((0:Nat):Int)-A)<((1:Nat):Int)*C8 (-(((0:Nat):Int)-A))
 . refine⟨x.p+m-(((0:Nat):Int)-A+1),fun _ _=>?_⟩
   rw[show x.p+m-(x.p+m-(((0:Nat):Int)-A+1))=((0:Nat):Int)-A+1 by omega]
   exact B6s (b:=1) (M:=0) a1 a2 (by decide) (by decide) z
 refine⟨x.p+m-(((0:Nat):Int)-A),fun _ _=>?_⟩
 rw[show x.p+m-(x.p+m-(((0:Nat):Int)-A))=((0:Nat):Int)-A by omega]
 exact C0d (b:=1) (M:=0) a1 a2 (by decide) (by decide) (by omega)
theorem Z9v{v:Cv}{x:Nm}{m L:Int}(ok:v.Ok)(wf:x.Wf)(m0: -100<=m)(m1:m<=100)(h:x.k= .plain ->x.f≠0 ->A0m x.f 1 (x.p+m-L)):A1f (A7t (scR v x m L).1.k.str (scR v x m L).1.s (scR v x m L).1.f (scR v x m L).1.p):=by
 have p0:=wf.ok.p0;have p1:=wf.ok.p1
 unfold scR
 split
 . rename_i hk
   show A1f (A7t (A8c v ⟨.plain,x.s,x.f,x.p+m⟩ L).1.k.str _ _ _)
   have eR:A8c v ⟨.plain,x.s,x.f,x.p+m⟩ L=if x.f=0 then(B9f v x.s (x.p+m),[]) else Z6 v x.s x.f 1 (x.p+m) L (x.p+m):=rfl
   rw[eR]
   split
   . exact J1d ok wf.ok.s0 wf.ok.s1
   . rename_i hf
     exact J1y ok wf.ok.s0 wf.ok.s1 (Y0y wf.ok.f0 hf wf.ok.f1) G0r (h hk hf) (by omega) (by omega) (by omega) (by omega)
 exact A0mj wf.ok
structure HL(CN CC CT P1 P2 P3:Addr)(K:Frag)(sc:Addr)(ns:List Int)(d t c b:Addr)(r:Int)(y:Wy)(l m:Int)(tr:List Str)(n q:Addr)(x:Nm)(up:List Str)(H:Hp)(a u:Addr):Prop where
 held:J3c CN CC CT P3 pLam Z7w K sc ns d t c b r y l m up tr H a u
 su:A2z up
 t1:A1e P1 pNo qNo H
 t2:A1e P2 pRe qRe H
 num:U0 CN H n x
 eq:H q=some (.tup x.vs)
section
variable{CN CC CT P1 P2 P3:Addr}{K:Frag}{sc:Addr}{ns:List Int}{d t c b:Addr}{r:Int}{y:Wy}{l m:Int}{tr:List Str}{n q:Addr}{x:Nm}{up:List Str}{H H':Hp}{a u:Addr}
theorem HL.same(h:HL CN CC CT P1 P2 P3 K sc ns d t c b r y l m tr n q x up H a u)(s:B7 H H'):HL CN CC CT P1 P2 P3 K sc ns d t c b r y l m tr n q x up H' a u:=⟨h.held.same s,h.su,h.t1.same s,h.t2.same s,h.num.same s,s _ _ h.eq⟩
theorem HL.lam(h:HL CN CC CT P1 P2 P3 K sc ns d t c b r y l m tr n q x up H a u)(n1:P1≠P3)(n2:P2≠P3)(s:A3q P3 H H'):A1e P1 pNo qNo H'/\A1e P2 pRe qRe H'/\U0 CN H' n x/\H' q=some (.tup x.vs)/\C6r H H':=by
 obtain⟨ps,eP,_⟩:=h.held.tab
 have k:=s.keep eP
 exact⟨h.t1.other n1 eP s,h.t2.other n2 eP s,h.num.keepN k,k _ _ (fun _ z=>by cases z) h.eq,k⟩
theorem A1e.exc2{P0:Addr}{ps:List Pos}{q0:Str}{C0 d0:Addr}{F:List (Str×V)}{kv:List (Key×V)}(h:A1e P0 ps q0 H)(s:A5r c d H H')(ec:H c=some (.ins C0 d0 F))(ed:H d=some (.dK kv)):A1e P0 ps q0 H':=fun p hp=>TR.TabOk.exc2 (h p hp) s ec ed
theorem HL.ref(h:HL CN CC CT P1 P2 P3 K sc ns d t c b r y l m tr n q x up H a u)(n1:P1≠P3)(n2:P2≠P3)(s:V0p P1 P2 H H')(t1:A1e P1 pNo qNo H')(t2:A1e P2 pRe qRe H'):HL CN CC CT P1 P2 P3 K sc ns d t c b r y l m tr n q x up H' a u:=by
 obtain⟨p1,e1,_⟩:=h.t1 (⟨533,28,533,95⟩) (by decide)
 obtain⟨p2,e2,_⟩:=h.t2 (⟨547,17,547,97⟩) (by decide)
 have k:C6r H H':=fun b o no e=>s b o (fun z=>by rw[z,e1] at e;exact no _ (Option.some.inj e).symm) (fun z=>by rw[z,e2] at e;exact no _ (Option.some.inj e).symm) e
 refine⟨⟨h.held.own.keep k,h.held.ctx.keep k,h.held.tab.at fun b o e hb=>?_,h.held.scr.kept fun o e hb=>k _ _ ?_ e⟩,h.su,t1,t2,h.num.keepN k,k _ _ (fun _ z=>by cases z) h.eq⟩
 . rcases hb with rfl|⟨oc,rfl⟩
   . exact s _ _ n1.symm n2.symm e
   . exact k _ _ (fun _ z=>by cases z) e
 rcases hb with rfl|⟨oc,rfl⟩<;>exact fun _ z=>by cases z
end
noncomputable abbrev stW (sc d c q n:Addr) (v5 v6:Option V):L2.St:=[sr sc,sr d,sr c,sr q,sr n,v5,v6]
noncomputable def Z8c (CN CC CT c n:Addr) (v:Cv) (b:Addr) (up tr:List Str) (x:Nm) (ct L:Int):Hp ->VK ->XK ->Prop:=fun H Q E=>(∃a,A6u CC H c v a b up tr)/\U0 CN H n x/\A7e CN CC CT H c v b up tr (scR v x ct L) Q E
noncomputable def V0s (K:Frag) (P1 P2 P3:Addr):Sp:=fun vs H Q _=>∃a ns,vs=[.ref a]/\(ns:List Int).length<=63/\SqL K H a (ns.map V.int)/\H P1=some (.tbl #[])/\H P2=some (.tbl #[])/\H P3=some (.tbl #[])/\∀H',Q (.bl true) H'
theorem scLaw:B9 Q52 ["_law_script"] (A1 D3j):=scK
theorem A0ex{f cc P1 P2 P3 f1 f2 f3 f4 f6 f7 f8 f9 f10 f11 f12 CC CN CB CT:Addr}(D:Def K mg "law" ["_law_script"] D3j f fd)(hcode:fd.code= .ref cc)(LB:G1p mg base cc P3)(ne1:P1≠P3)(ne2:P2≠P3)
   (dA:Def K mg "_law_cell_at" Q26 C8s f1 fd1) (dB:sI P w K mg base 1 f1 fd1 Q26 (Y2u K)) (dC:Def K mg "_law_own" ["_law_cell"] C8k f2 fd2) (dD:sI P w K mg base 2 f2 fd2 ["_law_cell"] Y0k)
   (dE:Def K mg "_law_context" Q27 A2a f3 fd3) (dF:sI P w K mg base 5 f3 fd3 Q27 (C7s CC)) (dG:Def K mg "_law_number" ["_law_cell"] A4n f4 fd4) (dH:sI P w K mg base 3 f4 fd4 ["_law_cell"] D7f)
   (dJ:Def K mg "_law_made" ["_law_one"] B6q f6 fd6) (dL:sI P w K mg base 4 f6 fd6 ["_law_one"] (V1m CN)) (dM:Def K mg "_law_count" ["_law_cell"] A7y f7 fd7) (dN:sI P w K mg base 1 f7 fd7 ["_law_cell"] J0x)
   (dP:Def K mg "_law_due" Q32 C8t f11 fd11) (dQ:sI P w K mg base 4 f11 fd11 Q32 Y2y)
   (dS:Def K mg "_law_stands" Q39 A4j f8 fd8) (dU:A1w P w K mg base (CX1 P w) 11 f8 fd8 Q39 (C0h P w K mg base 9 CN CC CT))
   (dW:Def K mg "scaled" Q10 A2m f9 fd9) (dX:sI P w K mg base 8 f9 fd9 Q10 (J1b CN CC CT)) (dY:Def K mg "_law_refused" Q45 A3w f12 fd12) (dZ:A1w P w K mg base (CX1 P w) 12 f12 fd12 Q45 (J0s CN CC P1 P2))
   (gA:Def K mg "told" ["number"] C5t f10 fd10) (gB:sI P w K mg base 2 f10 fd10 ["number"] (J8t K CN CB))
   (C:C0w K mg CC) (MT:Has P w K mg base CC "traps" 1 ["self"] (B6v CC)) (O:Own mg):A1w P w K mg base (CX1 P w) 13 f fd ["_law_script"] (V0s K P1 P2 P3):=by
 refine D.F.okEL hcode scLaw (fun vs H Q E h=>?_) (fun X A outer s H vs Q E hX HG hr hx h=>?_)
 . obtain⟨a,ns,rfl,_⟩:=h
   rfl
 subst hX
 obtain⟨sc,ns,rfl,n63,hS,hP1,hP2,hP3,kk⟩:=h
 obtain⟨ff,fdf,mf,gf,bf⟩:=MT
 have HU:=Nat.lt_of_le_of_lt (Nat.add_le_add_left (by decide:1<=64) _) hr.units
 have CZE:∀N env,A1k [] [] N env:=fun _ _=>⟨fun i x c h=>by cases h⟩
 have CZ:A1k [("_law_first",s.heap.objs.size+1+1+1),("_law_count_here",s.heap.objs.size+1+1),("_law_context_here",s.heap.objs.size+1)] [4,6,2] Q52 (envOfC "law" (A1 D3j) s.heap.objs.size f (.ref cc)):=⟨fun i x c h=>by
   rcases i with _|_|_|i
   . obtain⟨rfl,rfl⟩:=Prod.mk.inj (Option.some.inj h)
     exact⟨rfl,rfl,fun j hj=>by cases hj;rfl⟩
   . obtain⟨rfl,rfl⟩:=Prod.mk.inj (Option.some.inj h)
     exact⟨rfl,rfl,fun j hj=>by cases hj;rfl⟩
   . obtain⟨rfl,rfl⟩:=Prod.mk.inj (Option.some.inj h)
     exact⟨rfl,rfl,fun j hj=>by cases hj;rfl⟩
   . cases h⟩
 refine⟨_,(A8 (C6 (D7 (i:=1) scLaw.nd rfl (Or.inl rfl) (D5 dC dD hr hx (A0 (D5 dA dB hr hx (A0 (pv 0) (A0 A3 A6))) A6)))) (A8 (C6 (D7 (i:=2) scLaw.nd rfl (Or.inr rfl) (D5 dE dF hr hx (A0 (pv 1) A6)))) (A8 (C6 (D7 (i:=3) scLaw.nd rfl (Or.inl rfl) (D5 dG dH hr hx (A0 (D5 dA dB hr hx (A0 (pv 0) (A0 A3 A6))) A6)))) (A8 (C6 (D7 (i:=4) scLaw.nd rfl (Or.inr rfl) (D5 dJ dL hr hx (A0 (pv 3) A6)))) (A8 (C6 (C8m PassesOwn.leaving rfl (B5e rfl O.range_ (A0 A3 A6)) (Z2 (i:=5) scLaw.nd rfl (Or.inl rfl)) (A8 (C6 (D7 (i:=6) scLaw.nd rfl (Or.inr rfl) (D5 dM dN hr hx (A0 (D5 dA dB hr hx (A0 (pv 0) (A0 (B1 V4 A3 (pv 5)) A6))) A6)))) (A8 (C6 (J0 (A4t (A0b (A1z dS dU HG hr hx CZ (A0 (pv 2) (A0 (pv 1) (A0 (Z7 LB rfl (by rfl)) (A0 (D5 dP dQ hr hx (A0 (pv 1) (A0 (pv 3) (A0 (pv 6) A6)))) A6))))))) (B0 (C7 A2s)) D6)) (B0 (C6 (J0 (PW.pt (A6s (D4 G7 (pv 5) A3 (D0 _)) (A3x (A4t (A0b (A1z dY dZ HG hr hx (CZE _ _) (A0 (pv 2) (A0 (pv 1) (A0 (pv 4) (A0 (D5 dA dB hr hx (A0 (pv 0) (A0 A3 A6))) A6)))))))))) (B0 (C7 A2s)) D6))))))) (B0 (C7 (A6r (G6 (B6u hr.units) (D5 gA gB hr hx (A0 (pv 4) A6)) (pv 3) (D0 _)) (A2e (G6 (B6u hr.units) (A6t (pv 2) C.cl mf gf hr bf .nil hx) (U9 HU (pv 1) B3 (fun _ _=>rfl)) (D0 _))))))))))),?_⟩
 refine⟨fun σ' H'=>∃d u t r y l m up tr,B7 H H'/\A6b r l m/\A2z up/\A2z tr/\V7 H' d u t r y l m up tr/\σ'=[sr sc,sr d,none,none,none,none,none],?_,?_⟩
 . exact⟨_,rfl,sc,ns,0,rfl,hS,by decide,fun c0=>⟨c0,rfl,fun d u t r y l m up tr H' s' _ _ _ fr su st ow=>⟨d,u,t,r,y,l,m,up,tr,s',fr,su,st,ow,rfl⟩⟩⟩
 rintro σ' H1 ⟨d,u,t,r,y,l,m,up,tr,s1,fr,su,st,ow1,rfl⟩
 refine⟨fun σ' H'=>∃c a b,B7 H H'/\J3c CN CC CT P3 pLam Z7w K sc ns d t c b r y l m up tr H' a u/\σ'=[sr sc,sr d,sr c,none,none,none,none],?_,?_⟩
 . exact⟨_,rfl,d,u,t,r,y,l,m,up,tr,rfl,ow1,fr,su,st,fun c a b H' s' _ hc=>⟨c,a,b,s1.trans s',⟨ow1.same s',hc,G1a ((s1.trans s') _ _ hP3),(s1.trans s').seq hS⟩,rfl⟩⟩
 rintro σ' H2 ⟨c,a,b,s2,h2,rfl⟩
 refine⟨fun σ' H'=>∃(x:Nm) (q:Addr),B7 H H'/\J3c CN CC CT P3 pLam Z7w K sc ns d t c b r y l m up tr H' a u/\x.Wf/\H' q=some (.tup x.vs)/\σ'=[sr sc,sr d,sr c,sr q,none,none,none],?_,?_⟩
 . exact⟨_,rfl,sc,ns,1,rfl,h2.scr,by decide,fun c1=>⟨c1,rfl,fun x q H' wf s' e=>⟨x,q,s2.trans s',h2.same s',wf,e,rfl⟩⟩⟩
 rintro σ' H4 ⟨x,q,s4,h4,wf,eq,rfl⟩
 refine⟨fun σ' H'=>∃n,HL CN CC CT P1 P2 P3 K sc ns d t c b r y l m tr n q x up H' a u/\n≠c/\σ'=stW sc d c q n none none,?_,?_⟩
 . refine⟨_,rfl,q,x,rfl,eq,wf,fun n H' nn s' num=>⟨n,⟨h4.same s',su,fun p _=>G1a ((s4.trans s') _ _ hP1),fun p _=>G1a ((s4.trans s') _ _ hP2),num,s' _ _ eq⟩,?_,rfl⟩⟩
   obtain⟨dx,ec⟩:=h4.ctx.ins
   exact Ne.symm (D8 ec nn)
 rintro σ' H5 ⟨n,h5,nc,rfl⟩
 have ok:(Cv.mk r y l m).Ok:=⟨fr.r1,fr.r2,fr.l1,fr.l2,fr.m1,fr.m2⟩
 refine⟨fun σ' H'=>∃a u up v5 v6,HL CN CC CT P1 P2 P3 K sc ns d t c b r y l m tr n q x up H' a u/\σ'=stW sc d c q n v5 v6,⟨3,rfl,by decide,by decide,C0f (n:=3) (fun i σ' H'=>∃a u up v5 v6,HL CN CC CT P1 P2 P3 K sc ns d t c b r y l m tr n q x up H' a u/\σ'=stW sc d c q n v5 v6) ⟨a,u,up,none,none,h5,rfl⟩ ?_ ?_⟩,?_⟩
 . clear h5 h4 eq h2 s2 s4 s1 ow1
   rintro i σ' H8 hi ⟨a,u,up,v5,v6,h8,rfl⟩
   refine⟨fun σ' H'=>∃ct:Int,HL CN CC CT P1 P2 P3 K sc ns d t c b r y l m tr n q x up H' a u/\ -100<=ct/\ct<=100/\σ'=stW sc d c q n (some (.int (0+(i:Int)))) (some (.int ct)),?_,?_⟩
   . exact⟨_,rfl,_,rfl,_,_,rfl,rfl,sc,ns,_,rfl,h8.held.scr,by omega,fun c3=>⟨c3,rfl,fun ct H' c0 c1 s'=>⟨ct,h8.same s',c0,c1,rfl⟩⟩⟩
   clear h8
   rintro σ' H8 ⟨ct,h8,ct0,ct1,rfl⟩
   obtain⟨L,hL⟩:=A0fp x wf ct
   have lup:up.length<=900:=Nat.le_trans h8.su.len (by decide)
   have oup:Y5 up=up:=C7v h8.su (fun z=>Iff.rfl)
   refine⟨fun σ' H'=>∃a u up,HL CN CC CT P1 P2 P3 K sc ns d t c b r y l m tr n q x up H' a u/\σ'=stW sc d c q n (some (.int (0+(i:Int)))) (some (.int ct)),?_,?_⟩
   . refine⟨_,rfl,_,rfl,h8.held.tab,fun fl H9 sT nf la tb9 oth=>?_⟩
     obtain⟨g1,g2,num9,eq9,k9⟩:=h8.lam ne1 ne2 sT
     refine⟨_,rfl,_,rfl,_,rfl,d,u,t,r,y,l,m,up,tr,q,x,ct,L,rfl,h8.held.own.keep k9,fr,eq9,wf,ct0,ct1,hL,fun p zs H9' s9 du lz hz=>?_⟩
     intro hn H10 ho A10 kn
     obtain⟨dt,dl,edq,edt,edl⟩:=du
     have DO:=A1j (P:=P) (w:=w) (K:=K) (mg:=mg) (base:=base) (k:=8) (vs:=[.ref n,.int ct,.ref c]) (sp:=Z8c CN CC CT c n ⟨r,y,l,m⟩ b up tr x ct L) la (show C0v ["_law_first","_law_count_here","_law_context_here"] _ from⟨rfl,rfl,rfl,by decide+kernel,by decide+kernel,by decide+kernel,by decide+kernel⟩) rfl (nd3 _) (fun _ _ _=>rfl) (fun X cdv A' outer' s' H' Q' E' hX hr' hx' hsp af=>by
       subst hX
       obtain⟨⟨a',hc'⟩,hn',k'⟩:=hsp
       refine⟨_,D5 dW dX hr' hx' (A0 (pv 2) (A0 (pv 0) (A0 (pv 1) A6))),?_⟩
       exact⟨_,rfl,_,rfl,_,rfl,c,⟨r,y,l,m⟩,a',b,up,tr,n,x,ct,L,rfl,U4.hide hc' af,ok,lup,oup,hn'.hide af,wf.ok,ct0,ct1,hL,k'.hide⟩)
     refine Y1g (qual:=Z7w) (pos:=pLam) h8.held h8.su st (fun b' o nb e=>s9 _ _ (sT b' o nb e)) (tb9.same s9) (la.kept fun b' o e=>s9 _ _ e) hn ho A10 (fun j x' c' hj=>?_) edq edt edl (by omega) (Z9v (v:=⟨r,y,l,m⟩) ok wf ct0 ct1 hL) DO (fun H' kp x' hc' Qd Ed g1 g2=>?_) (fun a' u' H11 x11 h11 _=>?_)
     . rcases j with _|_|_|j
       . exact⟨_,rfl,kn 0 x' c' 4 _ hj rfl rfl⟩
       . exact⟨_,rfl,kn 1 x' c' 6 _ hj rfl rfl⟩
       . exact⟨_,rfl,kn 2 x' c' 2 _ hj rfl rfl⟩
       . cases hj
     . obtain⟨dx,z⟩:=h8.num.keepN kp
       obtain⟨dx',z'⟩:=h8.num
       exact⟨⟨a,hc'⟩,⟨dx,x' _ _ z (G9 z' h8.held.own.d (by intro z;cases z))⟩,Z8n hz g1 g2⟩
     . obtain⟨dx,ec⟩:=((h8.held.ctx.keep k9).same s9).ins
       have ed:=((h8.held.own.keep k9).same s9).d
       exact⟨_,rfl,U8 ⟨a',u',_,⟨h11,Z8h _,(g1.same s9).exc2 x11 ec ed,(g2.same s9).exc2 x11 ec ed,(num9.same s9).exc2 x11 nc ed,Y3r (s9 _ _ eq9) x11 ec ed⟩,rfl⟩⟩
   clear h8 lup oup
   rintro σ' H9 ⟨a,u,up,h9,rfl⟩
   refine⟨_,?_,fun _ _ h=>h⟩
   refine⟨_,rfl,rfl,_,rfl,iteB (fun e=>?_) fun e=>?_⟩
   . refine⟨_,rfl,_,rfl,_,rfl,_,rfl,sc,ns,5,rfl,h9.held.scr,by decide,fun c5=>?_⟩
     intro hn H4 hq A4 kn
     obtain rfl:H4=H9:=funext fun b=>hq b (by simp)
     have okU:OkL up:=⟨Nat.le_trans h9.su.len (by decide),fun z hz=>J1q z (h9.su.mem z hz)⟩
     refine⟨c,d,n,x,u,t,a,b,r,y,l,m,up,tr,c5,rfl,h9.num,h9.held.ctx,h9.held.own,okU,h9.t1,h9.t2,fun H5 s5 g1 g2 _=>?_⟩
     have h6:HL CN CC CT P1 P2 P3 K sc ns d t c b r y l m tr n q x up (U6 [] H5) a u:=by rw[J0u];exact h9.ref ne1 ne2 s5 g1 g2
     exact⟨_,rfl,U8 ⟨a,u,up,_,_,h6,rfl⟩⟩
   . exact U8 ⟨a,u,up,_,_,h9,rfl⟩
 . rintro σ' H6 ⟨a,u,up,v5,v6,h6,rfl⟩
   exact⟨a,u,up,v5,v6,h6,rfl⟩
 rintro σ' H6 ⟨a,u,up,v5,v6,h6,rfl⟩
 refine⟨_,rfl,_,rfl,Or.inl ⟨n,_,_,_,_,rfl,h6.num,fun z nz=>⟨_,rfl,A7t x.k.str x.s x.f x.p,A7t x.k.str x.s x.f x.p,rdD A7,rdD ((B7.upd nz) _ _ h6.eq),shD _ _ _ (okK _),shD _ _ _ (okK _),?_⟩⟩⟩
 have h7:=h6.same (B7.upd (o:= .tup x.vs) nz)
 rw[if_neg Bool.false_ne_true,eqD]
 obtain⟨dx,ec⟩:=h7.held.ctx.ins
 refine⟨_,rfl,Z8 ⟨_,rfl,c,dx,_,rfl,ec,G0d _ _ _ _ _ _,c,r,y,l,m,a,b,_,_,rfl,h7.held.ctx,fun l2 n2=>⟨_,rfl,d,_,rfl,(h7.held.own.same (B7.upd n2)).gTr,?_⟩⟩⟩
 have okT:OkL tr:=⟨Nat.le_trans st.len (by decide),fun z hz=>J1q z (st.mem z hz)⟩
 refine⟨rdS tr,rdS tr,B1d A7,B1d (h7.held.own.same (B7.upd n2)).t,shS okT,shS okT,?_⟩
 rw[if_neg Bool.false_ne_true,Z9y]
 exact kk _
end TR
namespace TR
open PySem L2 PySem.W PyProof.Rows
theorem all_mk{c1 P1 c2 P2 c3 P3:Addr}{l:OpenLaw}{w:World}{K:Frag}{h:Heap}{mg:Str ->Option Value}{fa CW W0 A7p W1 A7g W2 A7h W3 A7j W4 A7m W5 A7n W6 A7q W7 A7k CN D9s A1r A3j A1v A3b A1q A3a A1n A3d A1s A3h A1m A3k A1u A3c A1t A3f CC D9n Y9x A5k A3g B3z A5n A7r A3e CQ D9c Y9b A2f B5q CE C1 C2 C3 C4 C5 CR fX aS C1q G9z D3a G9j J0q Z2e C4e U3e U0a G7s B7v Z0f C2m G3g C2s D2v C5n B3s D1y C9v G8q G5v C1s C2v D0a C4q B3m C3a C3g D0g D1q B7t G6k C2p G2w G7z U8x G3c Z1x C3j D1e U1t U0v B8g G2x J0h C5g D2d B7s D2q G1s D0k G8m D1c U9b U3c U2k Z5c:Addr}(X:K.In h)(G:h.Ns mainGlobals mg)(hfa:mg "law"=some (.ref fa)){U5h U7u:Option Addr}{U2w:Array (Option Value)}{U1g U0g U6s U8y D2s U8p:Value}(C4g:nsIn K mainGlobals "product_of"=some (some (.ref C1q)))(C5m:K.lookup C1q=some ⟨U1g,U5h,.func (fnOf "product_of" "product_of" (B8 A0x) (B5 A0x) (A1 A0x) .none U0g U6s U8y U7u D2s U8p),U2w⟩)(C3v:codeIn K D2s "product_of"=true)(C4c:keepIn K (.ref C1q)=true){Z3b Z5u:Option Addr}{Z1r:Array (Option Value)}{Y6g Y9g Z5z Z5e J5c Z1n:Value}(G5e:nsIn K mainGlobals "ten_to"=some (some (.ref G9z)))(G5t:K.lookup G9z=some ⟨Y6g,Z3b,.func (fnOf "ten_to" "ten_to" (B8 A4p) (B5 A4p) (A1 A4p) .none Y9g Z5z Z5e Z5u J5c Z1n),Z1r⟩)(G7f:codeIn K J5c "ten_to"=true)(G3t:keepIn K (.ref G9z)=true){V5w V7h:Option Addr}{V9j:Array (Option Value)}{V7z V5n V7w V7m D9d V5v:Value}(D2n:nsIn K mainGlobals "part_of"=some (some (.ref D3a)))(D1g:K.lookup D3a=some ⟨V7z,V5w,.func (fnOf "part_of" "part_of" (B8 A7z) (B5 A7z) (A1 A7z) .none V5n V7w V7m V7h D9d V5v),V9j⟩)(D2z:codeIn K D9d "part_of"=true)(D0q:keepIn K (.ref D3a)=true){Y8b Y5a:Option Addr}{Z4h:Array (Option Value)}{Y9s Z5m Z4r Y5g J5v Z0s:Value}(G6s:nsIn K mainGlobals "whole_lead"=some (some (.ref G9j)))(G7u:K.lookup G9j=some ⟨Y9s,Y8b,.func (fnOf "whole_lead" "whole_lead" (B8 B1r) (B5 B1r) (A1 B1r) .none Z5m Z4r Y5g Y5a J5v Z0s),Z4h⟩)(G3r:codeIn K J5v "whole_lead"=true)(G7r:keepIn K (.ref G9j)=true){Z0a Y5d:Option Addr}{Z6p:Array (Option Value)}{Z1g Y6k Y6q Z1w J3m Y8m:Value}(G3b:nsIn K mainGlobals "plain"=some (some (.ref J0q)))(J0a:K.lookup J0q=some ⟨Z1g,Z0a,.func (fnOf "plain" "plain" (B8 B6r) (B5 B6r) (A1 B6r) .none Y6k Y6q Z1w Y5d J3m Y8m),Z6p⟩)(G9p:codeIn K J3m "plain"=true)(G7w:keepIn K (.ref J0q)=true){dz d_:Option Addr}{eg:Array (Option Value)}{ej ek em e_ Y4n g6:Value}(Z7h:nsIn K mainGlobals "end"=some (some (.ref Z2e)))(Z1f:K.lookup Z2e=some ⟨ej,dz,.func (fnOf "end" "end" (B8 J1k) (B5 J1k) (A1 J1k) .none ek em e_ d_ Y4n g6),eg⟩)(Z4u:codeIn K Y4n "end"=true)(Y6a:keepIn K (.ref Z2e)=true){U1m U4a:Option Addr}{U2t:Array (Option Value)}{U7a U5d U7t U4k D1h U8b:Value}(C3m:nsIn K mainGlobals "nothing"=some (some (.ref C4e)))(C2f:K.lookup C4e=some ⟨U7a,U1m,.func (fnOf "nothing" "nothing" (B8 A4v) (B5 A4v) (A1 A4v) .none U5d U7t U4k U4a D1h U8b),U2t⟩)(C5h:codeIn K D1h "nothing"=true)(C3f:keepIn K (.ref C4e)=true){g7 g8:Option Addr}{g9:Array (Option Value)}{gb gc gd gi V1v gj:Value}(U3a:nsIn K mainGlobals "told"=some (some (.ref U3e)))(U8g:K.lookup U3e=some ⟨gb,g7,.func (fnOf "told" "told" (B8 C5t) (B5 C5t) (A1 C5t) .none gc gd gi g8 V1v gj),g9⟩)(J9w:codeIn K V1v "told"=true)(U9f:keepIn K (.ref U3e)=true){gk gl:Option Addr}{gm:Array (Option Value)}{gn gp gq gs V1w gu:Value}(U6m:nsIn K mainGlobals "lead_of"=some (some (.ref U0a)))(U5q:K.lookup U0a=some ⟨gn,gk,.func (fnOf "lead_of" "lead_of" (B8 C8a) (B5 C8a) (A1 C8a) .none gp gq gs gl V1w gu),gm⟩)(U9z:codeIn K V1w "lead_of"=true)(U2v:keepIn K (.ref U0a)=true){Z6w Z3r:Option Addr}{Y7k:Array (Option Value)}{Z7f Z6m Z6s Z1s J5u Z3n:Value}(G6r:nsIn K mainGlobals "need_number"=some (some (.ref G7s)))(G5w:K.lookup G7s=some ⟨Z7f,Z6w,.func (fnOf "need_number" "need_number" (B8 A0z) (B5 A0z) (A1 A0z) .none Z6m Z6s Z1s Z3r J5u Z3n),Y7k⟩)(G9c:codeIn K J5u "need_number"=true)(G4g:keepIn K (.ref G7s)=true){J6r J7a:Option Addr}{J6k:Array (Option Value)}{J3e J4q J5a J4z C6f J6u:Value}(B7n:nsIn K mainGlobals "need_numbers"=some (some (.ref B7v)))(B7y:K.lookup B7v=some ⟨J3e,J6r,.func (fnOf "need_numbers" "need_numbers" (B8 A8j) (B5 A8j) (A1 A8j) .none J4q J5a J4z J7a C6f J6u),J6k⟩)(B7m:codeIn K C6f "need_numbers"=true)(B7w:keepIn K (.ref B7v)=true){gv gw:Option Addr}{gx:Array (Option Value)}{gy gz g_ h_ Y9e i4:Value}(Z5n:nsIn K mainGlobals "is_between"=some (some (.ref Z0f)))(Y8c:K.lookup Z0f=some ⟨gy,gv,.func (fnOf "is_between" "is_between" (B8 C7d) (B5 C7d) (A1 C7d) .none gz g_ h_ gw Y9e i4),gx⟩)(Y5b:codeIn K Y9e "is_between"=true)(Y8z:keepIn K (.ref Z0f)=true){U1e U9v:Option Addr}{U4g:Array (Option Value)}{U4v U0x U8j U0c D1b U8m:Value}(C1g:nsIn K mainGlobals "need_between"=some (some (.ref C2m)))(C3y:K.lookup C2m=some ⟨U4v,U1e,.func (fnOf "need_between" "need_between" (B8 A2y) (B5 A2y) (A1 A2y) .none U0x U8j U0c U9v D1b U8m),U4g⟩)(C2e:codeIn K D1b "need_between"=true)(C4d:keepIn K (.ref C2m)=true){Y8j Z0j:Option Addr}{Z1e:Array (Option Value)}{Y5s Y7e Y6p Y7g J5s Y7p:Value}(G1r:nsIn K mainGlobals "need_count"=some (some (.ref G3g)))(G2u:K.lookup G3g=some ⟨Y5s,Y8j,.func (fnOf "need_count" "need_count" (B8 B1n) (B5 B1n) (A1 B1n) .none Y7e Y6p Y7g Z0j J5s Y7p),Z1e⟩)(G9w:codeIn K J5s "need_count"=true)(G5a:keepIn K (.ref G3g)=true){U4u U8q:Option Addr}{U4z:Array (Option Value)}{J9y U2p U0s U7v D2x U8d:Value}(C1u:nsIn K mainGlobals "settled"=some (some (.ref C2s)))(C3s:K.lookup C2s=some ⟨J9y,U4u,.func (fnOf "settled" "settled" (B8 A4u) (B5 A4u) (A1 A4u) .none U2p U0s U7v U8q D2x U8d),U4z⟩)(C3k:codeIn K D2x "settled"=true)(C1k:keepIn K (.ref C2s)=true){V8b V9m:Option Addr}{V5u:Array (Option Value)}{V9t V9h V6f V7a D8z V8q:Value}(D3e:nsIn K mainGlobals "finest_power"=some (some (.ref D2v)))(D2t:K.lookup D2v=some ⟨V9t,V8b,.func (fnOf "finest_power" "finest_power" (B8 A5y) (B5 A5y) (A1 A5y) .none V9h V6f V7a V9m D8z V8q),V5u⟩)(D0f:codeIn K D8z "finest_power"=true)(D1r:keepIn K (.ref D2v)=true){U1f U2q:Option Addr}{U1b:Array (Option Value)}{U0k U3d U1p U3r D2m U0t:Value}(C2w:nsIn K mainGlobals "nearest_to"=some (some (.ref C5n)))(C1r:K.lookup C5n=some ⟨U0k,U1f,.func (fnOf "nearest_to" "nearest_to" (B8 A2w) (B5 A2w) (A1 A2w) .none U3d U1p U3r U2q D2m U0t),U1b⟩)(C1m:codeIn K D2m "nearest_to"=true)(C1c:keepIn K (.ref C5n)=true){G7a G8d:Option Addr}{G9g:Array (Option Value)}{G5b G7c G1v G4e B9z J0d:Value}(B2t:nsIn K mainGlobals "neighbour"=some (some (.ref B3s)))(B3y:K.lookup B3s=some ⟨G5b,G7a,.func (fnOf "neighbour" "neighbour" (B8 A0t) (B5 A0t) (A1 A0t) .none G7c G1v G4e G8d B9z J0d),G9g⟩)(B4a:codeIn K B9z "neighbour"=true)(B4k:keepIn K (.ref B3s)=true){V8h V7g:Option Addr}{V9k:Array (Option Value)}{V7c V8c V6d V8k D9k V9f:Value}(D0j:nsIn K mainGlobals "within_room"=some (some (.ref D1y)))(D1t:K.lookup D1y=some ⟨V7c,V8h,.func (fnOf "within_room" "within_room" (B8 A5w) (B5 A5w) (A1 A5w) .none V8c V6d V8k V7g D9k V9f),V9k⟩)(D1d:codeIn K D9k "within_room"=true)(D2b:keepIn K (.ref D1y)=true){V7q V7p:Option Addr}{V7t:Array (Option Value)}{V5r V9v V8z V7e D8v V5p:Value}(C9h:nsIn K mainGlobals "is_beyond"=some (some (.ref C9v)))(D2y:K.lookup C9v=some ⟨V5r,V7q,.func (fnOf "is_beyond" "is_beyond" (B8 A5x) (B5 A5x) (A1 A5x) .none V9v V8z V7e V7p D8v V5p),V7t⟩)(D0h:codeIn K D8v "is_beyond"=true)(D0s:keepIn K (.ref C9v)=true){Z5b Z6h:Option Addr}{Z7k:Array (Option Value)}{Z0c Z4m Z4c Z6k J3t Z1b:Value}(G3f:nsIn K mainGlobals "burst"=some (some (.ref G8q)))(G4j:K.lookup G8q=some ⟨Z0c,Z5b,.func (fnOf "burst" "burst" (B8 B1j) (B5 B1j) (A1 B1j) .none Z4m Z4c Z6k Z6h J3t Z1b),Z7k⟩)(G6f:codeIn K J3t "burst"=true)(G5k:keepIn K (.ref G8q)=true){Y5z Z2n:Option Addr}{Z0k:Array (Option Value)}{Z1k Y5c Z5h Y7q J6v Y7f:Value}(G6q:nsIn K mainGlobals "nines"=some (some (.ref G5v)))(G5x:K.lookup G5v=some ⟨Z1k,Y5z,.func (fnOf "nines" "nines" (B8 B1f) (B5 B1f) (A1 B1f) .none Y5c Z5h Y7q Z2n J6v Y7f),Z0k⟩)(G4k:codeIn K J6v "nines"=true)(G2a:keepIn K (.ref G5v)=true){U4c U7b:Option Addr}{U5c:Array (Option Value)}{U9r U2z U4x U9y D1k U5p:Value}(C1w:nsIn K mainGlobals "signals_of_rest"=some (some (.ref C1s)))(C4n:K.lookup C1s=some ⟨U9r,U4c,.func (fnOf "signals_of_rest" "signals_of_rest" (B8 A5d) (B5 A5d) (A1 A5d) .none U2z U4x U9y U7b D1k U5p),U5c⟩)(C2z:codeIn K D1k "signals_of_rest"=true)(C1a:keepIn K (.ref C1s)=true){U0n U4y:Option Addr}{J9z:Array (Option Value)}{U9m U0m U5e U3k D0d U9n:Value}(C5e:nsIn K mainGlobals "signals_of_lead"=some (some (.ref C2v)))(C3z:K.lookup C2v=some ⟨U9m,U0n,.func (fnOf "signals_of_lead" "signals_of_lead" (B8 A4x) (B5 A4x) (A1 A4x) .none U0m U5e U3k U4y D0d U9n),J9z⟩)(C0z:codeIn K D0d "signals_of_lead"=true)(C5a:keepIn K (.ref C2v)=true){V5q V6k:Option Addr}{V6r:Array (Option Value)}{V8v V5g V9r V7j D9m V8t:Value}(C9t:nsIn K mainGlobals "nought"=some (some (.ref D0a)))(D1m:K.lookup D0a=some ⟨V8v,V5q,.func (fnOf "nought" "nought" (B8 A6a) (B5 A6a) (A1 A6a) .none V5g V9r V7j V6k D9m V8t),V6r⟩)(C9y:codeIn K D9m "nought"=true)(D2c:keepIn K (.ref D0a)=true){U7j U6b:Option Addr}{U7e:Array (Option Value)}{U5m U3w U5a U2h D0z U9u:Value}(C5d:nsIn K mainGlobals "rounded"=some (some (.ref C4q)))(C4y:K.lookup C4q=some ⟨U5m,U7j,.func (fnOf "rounded" "rounded" (B8 A4y) (B5 A4y) (A1 A4y) .none U3w U5a U2h U6b D0z U9u),U7e⟩)(C3r:codeIn K D0z "rounded"=true)(C2n:keepIn K (.ref C4q)=true){G6y G1z:Option Addr}{G1y:Array (Option Value)}{G2b G3v G7p G9m B9s G9b:Value}(B4d:nsIn K mainGlobals "same_power"=some (some (.ref B3m)))(B4n:K.lookup B3m=some ⟨G2b,G6y,.func (fnOf "same_power" "same_power" (B8 A1a) (B5 A1a) (A1 A1a) .none G3v G7p G9m G1z B9s G9b),G1y⟩)(B3j:codeIn K B9s "same_power"=true)(B2r:keepIn K (.ref B3m)=true){U1v U8t:Option Addr}{U5t:Array (Option Value)}{U4s U7d U0b U6v D3c U5g:Value}(C4m:nsIn K mainGlobals "to_whole"=some (some (.ref C3a)))(C1z:K.lookup C3a=some ⟨U4s,U1v,.func (fnOf "to_whole" "to_whole" (B8 A5c) (B5 A5c) (A1 A5c) .none U7d U0b U6v U8t D3c U5g),U5t⟩)(C2b:codeIn K D3c "to_whole"=true)(C3q:keepIn K (.ref C3a)=true){U6q U8r:Option Addr}{U6d:Array (Option Value)}{U7g U5k U9k U6h D1s U5y:Value}(C1y:nsIn K mainGlobals "trimmed"=some (some (.ref C3g)))(C2h:K.lookup C3g=some ⟨U7g,U6q,.func (fnOf "trimmed" "trimmed" (B8 A5a) (B5 A5a) (A1 A5a) .none U5k U9k U6h U8r D1s U5y),U6d⟩)(C3b:codeIn K D1s "trimmed"=true)(C3d:keepIn K (.ref C3g)=true){V4x V5z:Option Addr}{V7b:Array (Option Value)}{V8x V8s V6j V9s D8w V5k:Value}(C9d:nsIn K mainGlobals "scaled"=some (some (.ref D0g)))(C9p:K.lookup D0g=some ⟨V8x,V4x,.func (fnOf "scaled" "scaled" (B8 A2m) (B5 A2m) (A1 A2m) .none V8s V6j V9s V5z D8w V5k),V7b⟩)(C9w:codeIn K D8w "scaled"=true)(D0e:keepIn K (.ref D0g)=true){V6z V5c:Option Addr}{V8p:Array (Option Value)}{V7x V8g V8e V8f D9f V7n:Value}(D1j:nsIn K mainGlobals "next_up"=some (some (.ref D1q)))(C9z:K.lookup D1q=some ⟨V7x,V6z,.func (fnOf "next_up" "next_up" (B8 A8h) (B5 A8h) (A1 A8h) .none V8g V8e V8f V5c D9f V7n),V8p⟩)(D0w:codeIn K D9f "next_up"=true)(D2a:keepIn K (.ref D1q)=true){J7b J7h:Option Addr}{J7g:Array (Option Value)}{J4t J6y J5j J5t C6c J6z:Value}(B8j:nsIn K mainGlobals "next_down"=some (some (.ref B7t)))(B8e:K.lookup B7t=some ⟨J4t,J7b,.func (fnOf "next_down" "next_down" (B8 A2b) (B5 A2b) (A1 A2b) .none J6y J5j J5t J7h C6c J6z),J7g⟩)(B8u:codeIn K C6c "next_down"=true)(B7d:keepIn K (.ref B7t)=true){Y7t Y4e:Option Addr}{Z7a:Array (Option Value)}{Z6c Z0n Z2q Z6d J7c Z1j:Value}(G2t:nsIn K mainGlobals "way_of"=some (some (.ref G6k)))(G4f:K.lookup G6k=some ⟨Z6c,Y7t,.func (fnOf "way_of" "way_of" (B8 B1c) (B5 B1c) (A1 B1c) .none Z0n Z2q Z6d Y4e J7c Z1j),Z7a⟩)(G3w:codeIn K J7c "way_of"=true)(G8a:keepIn K (.ref G6k)=true){U4p U9w:Option Addr}{U6e:Array (Option Value)}{U0z U8c U3h U4t D1w U6n:Value}(C4s:nsIn K mainGlobals "bounded"=some (some (.ref C2p)))(C2j:K.lookup C2p=some ⟨U0z,U4p,.func (fnOf "bounded" "bounded" (B8 A4w) (B5 A4w) (A1 A4w) .none U8c U3h U4t U9w D1w U6n),U6e⟩)(C1e:codeIn K D1w "bounded"=true)(C4r:keepIn K (.ref C2p)=true){Z3a Y4u:Option Addr}{Z5k:Array (Option Value)}{Z1d Z3t Y9j Y5r J5r Z7d:Value}(J0n:nsIn K mainGlobals "need_signals"=some (some (.ref G2w)))(G4m:K.lookup G2w=some ⟨Z1d,Z3a,.func (fnOf "need_signals" "need_signals" (B8 B1p) (B5 B1p) (A1 B1p) .none Z3t Y9j Y5r Y4u J5r Z7d),Z5k⟩)(G6w:codeIn K J5r "need_signals"=true)(G6x:keepIn K (.ref G2w)=true){Z2h Z4b:Option Addr}{Z2z:Array (Option Value)}{Z0h Y5j Z2m Y5h J6g Z0y:Value}(G4u:nsIn K mainGlobals "in_order"=some (some (.ref G7z)))(J0p:K.lookup G7z=some ⟨Z0h,Z2h,.func (fnOf "in_order" "in_order" (B8 B1t) (B5 B1t) (A1 B1t) .none Y5j Z2m Y5h Z4b J6g Z0y),Z2z⟩)(G8s:codeIn K J6g "in_order"=true)(G4b:keepIn K (.ref G7z)=true){i5 i6:Option Addr}{i7:Array (Option Value)}{i8 i9 ia ib V2a ic:Value}(U8z:nsIn K mainGlobals "_law_cell_at"=some (some (.ref U8x)))(U9a:K.lookup U8x=some ⟨i8,i5,.func (fnOf "_law_cell_at" "_law_cell_at" (B8 C8s) (B5 C8s) (A1 C8s) .none i9 ia ib i6 V2a ic),i7⟩)(U9s:codeIn K V2a "_law_cell_at"=true)(U3z:keepIn K (.ref U8x)=true){Z4a Z2u:Option Addr}{Z5v:Array (Option Value)}{Y7y Y4t Z3d Y8e J4h Z3z:Value}(G6b:nsIn K mainGlobals "_law_mixed"=some (some (.ref G3c)))(G4v:K.lookup G3c=some ⟨Y7y,Z4a,.func (fnOf "_law_mixed" "_law_mixed" (B8 A8q) (B5 A8q) (A1 A8q) .none Y4t Z3d Y8e Z2u J4h Z3z),Z5v⟩)(G5r:codeIn K J4h "_law_mixed"=true)(G3j:keepIn K (.ref G3c)=true){ig ii:Option Addr}{ij:Array (Option Value)}{ik il im io Y6z ip:Value}(Z6u:nsIn K mainGlobals "_law_ten"=some (some (.ref Z1x)))(Z6n:K.lookup Z1x=some ⟨ik,ig,.func (fnOf "_law_ten" "_law_ten" (B8 B1m) (B5 B1m) (A1 B1m) .none il im io ii Y6z ip),ij⟩)(Z6g:codeIn K Y6z "_law_ten"=true)(Z3m:keepIn K (.ref Z1x)=true){U5r U4m:Option Addr}{U7q:Array (Option Value)}{U1h U1j U6r U7m D1p U7s:Value}(C4p:nsIn K mainGlobals "_law_figures"=some (some (.ref C3j)))(C4v:K.lookup C3j=some ⟨U1h,U5r,.func (fnOf "_law_figures" "_law_figures" (B8 A1y) (B5 A1y) (A1 A1y) .none U1j U6r U7m U4m D1p U7s),U7q⟩)(C1n:codeIn K D1p "_law_figures"=true)(C2d:keepIn K (.ref C3j)=true){V7u V5b:Option Addr}{V7k:Array (Option Value)}{V5h V5f V9b V9n D9e V5y:Value}(D2r:nsIn K mainGlobals "_law_number"=some (some (.ref D1e)))(D2g:K.lookup D1e=some ⟨V5h,V7u,.func (fnOf "_law_number" "_law_number" (B8 A4n) (B5 A4n) (A1 A4n) .none V5f V9b V9n V5b D9e V5y),V7k⟩)(C9u:codeIn K D9e "_law_number"=true)(C9s:keepIn K (.ref D1e)=true){iq ir:Option Addr}{iu:Array (Option Value)}{iw iy iz i_ V2d j0:Value}(U1k:nsIn K mainGlobals "_law_made"=some (some (.ref U1t)))(U4e:K.lookup U1t=some ⟨iw,iq,.func (fnOf "_law_made" "_law_made" (B8 B6q) (B5 B6q) (A1 B6q) .none iy iz i_ ir V2d j0),iu⟩)(U1z:codeIn K V2d "_law_made"=true)(U7r:keepIn K (.ref U1t)=true){j1 j3:Option Addr}{j4:Array (Option Value)}{j5 j6 j7 j8 V2c j9:Value}(U5b:nsIn K mainGlobals "_law_own"=some (some (.ref U0v)))(U7x:K.lookup U0v=some ⟨j5,j1,.func (fnOf "_law_own" "_law_own" (B8 C8k) (B5 C8k) (A1 C8k) .none j6 j7 j8 j3 V2c j9),j4⟩)(U9d:codeIn K V2c "_law_own"=true)(U0j:keepIn K (.ref U0v)=true){J4c J5p:Option Addr}{J3q:Array (Option Value)}{J6h J6b J5m J4f C6g J4x:Value}(B8m:nsIn K mainGlobals "_law_context"=some (some (.ref B8g)))(B7c:K.lookup B8g=some ⟨J6h,J4c,.func (fnOf "_law_context" "_law_context" (B8 A2a) (B5 A2a) (A1 A2a) .none J6b J5m J4f J5p C6g J4x),J3q⟩)(B8f:codeIn K C6g "_law_context"=true)(B7z:keepIn K (.ref B8g)=true){Z3k Z2k:Option Addr}{Y8h:Array (Option Value)}{Z2r Z2d Z3v Y5w J5d Y4v:Value}(G7x:nsIn K mainGlobals "_law_goes_up"=some (some (.ref G2x)))(G6d:K.lookup G2x=some ⟨Z2r,Z3k,.func (fnOf "_law_goes_up" "_law_goes_up" (B8 B6t) (B5 B6t) (A1 B6t) .none Z2d Z3v Y5w Z2k J5d Y4v),Y8h⟩)(G6g:codeIn K J5d "_law_goes_up"=true)(G8k:keepIn K (.ref G2x)=true){Z4x Z0v:Option Addr}{Z2x:Array (Option Value)}{Z1z Z5x Y4y Z2b J7e Y7j:Value}(G2g:nsIn K mainGlobals "_law_lead"=some (some (.ref J0h)))(G7d:K.lookup J0h=some ⟨Z1z,Z4x,.func (fnOf "_law_lead" "_law_lead" (B8 B6x) (B5 B6x) (A1 B6x) .none Z5x Y4y Z2b Z0v J7e Y7j),Z2x⟩)(J0b:codeIn K J7e "_law_lead"=true)(G9x:keepIn K (.ref J0h)=true){U0f U6a:Option Addr}{U2b:Array (Option Value)}{U5x U1d U1x U3j C9n U6g:Value}(C1x:nsIn K mainGlobals "_law_nought"=some (some (.ref C5g)))(C4u:K.lookup C5g=some ⟨U5x,U0f,.func (fnOf "_law_nought" "_law_nought" (B8 A5b) (B5 A5b) (A1 A5b) .none U1d U1x U3j U6a C9n U6g),U2b⟩)(C1p:codeIn K C9n "_law_nought"=true)(C1h:keepIn K (.ref C5g)=true){V5e V5t:Option Addr}{V5m:Array (Option Value)}{V9g V8r V9q V5j D9g V7d:Value}(D1x:nsIn K mainGlobals "_law_burst"=some (some (.ref D2d)))(C9m:K.lookup D2d=some ⟨V9g,V5e,.func (fnOf "_law_burst" "_law_burst" (B8 A7w) (B5 A7w) (A1 A7w) .none V8r V9q V5j V5t D9g V7d),V5m⟩)(D2f:codeIn K D9g "_law_burst"=true)(C9e:keepIn K (.ref D2d)=true){J7d J3k:Option Addr}{J3r:Array (Option Value)}{J3x J3n J5y J3w C6j J6c:Value}(B7q:nsIn K mainGlobals "_law_settled"=some (some (.ref B7s)))(B8a:K.lookup B7s=some ⟨J3x,J7d,.func (fnOf "_law_settled" "_law_settled" (B8 A2c) (B5 A2c) (A1 A2c) .none J3n J5y J3w J3k C6j J6c),J3r⟩)(B7g:codeIn K C6j "_law_settled"=true)(B7u:keepIn K (.ref B7s)=true){V6b V5d:Option Addr}{V6n:Array (Option Value)}{V7r V6h V6x V6u D8s V8w:Value}(D0c:nsIn K mainGlobals "_law_ratio"=some (some (.ref D2q)))(D1v:K.lookup D2q=some ⟨V7r,V6b,.func (fnOf "_law_ratio" "_law_ratio" (B8 A7u) (B5 A7u) (A1 A7u) .none V6h V6x V6u V5d D8s V8w),V6n⟩)(C9k:codeIn K D8s "_law_ratio"=true)(D1f:keepIn K (.ref D2q)=true){Y9a Y6m:Option Addr}{Y6h:Array (Option Value)}{Z0d Y9u Z6f Y5e J5z Z5q:Value}(G6t:nsIn K mainGlobals "_law_tried"=some (some (.ref G1s)))(G3e:K.lookup G1s=some ⟨Z0d,Y9a,.func (fnOf "_law_tried" "_law_tried" (B8 A8m) (B5 A8m) (A1 A8m) .none Y9u Z6f Y5e Y6m J5z Z5q),Y6h⟩)(G9e:codeIn K J5z "_law_tried"=true)(G6p:keepIn K (.ref G1s)=true){V9u V6w:Option Addr}{V9a:Array (Option Value)}{V9p V8n V9e V9c D8x V4y:Value}(D2k:nsIn K mainGlobals "_law_stands"=some (some (.ref D0k)))(C9q:K.lookup D0k=some ⟨V9p,V9u,.func (fnOf "_law_stands" "_law_stands" (B8 A4j) (B5 A4j) (A1 A4j) .none V8n V9e V9c V6w D8x V4y),V9a⟩)(D2j:codeIn K D8x "_law_stands"=true)(C9f:keepIn K (.ref D0k)=true){Y4m Z6q:Option Addr}{Z0g:Array (Option Value)}{Y4w Y6y Y9y Y4g J3p Z5d:Value}(G6v:nsIn K mainGlobals "_law_word"=some (some (.ref G8m)))(G8f:K.lookup G8m=some ⟨Y4w,Y4m,.func (fnOf "_law_word" "_law_word" (B8 A2u) (B5 A2u) (A1 A2u) .none Y6y Y9y Y4g Z6q J3p Z5d),Z0g⟩)(G2c:codeIn K J3p "_law_word"=true)(G2j:keepIn K (.ref G8m)=true){V6g V8y:Option Addr}{V9d:Array (Option Value)}{V7s V6m V6c V4z D9h V6e:Value}(D2p:nsIn K mainGlobals "_law_count"=some (some (.ref D1c)))(D0m:K.lookup D1c=some ⟨V7s,V6g,.func (fnOf "_law_count" "_law_count" (B8 A7y) (B5 A7y) (A1 A7y) .none V6m V6c V4z V8y D9h V6e),V9d⟩)(D1u:codeIn K D9h "_law_count"=true)(D2w:keepIn K (.ref D1c)=true){ja jb:Option Addr}{jc:Array (Option Value)}{jd je jf jg V1t jh:Value}(U8f:nsIn K mainGlobals "_law_due"=some (some (.ref U9b)))(U9p:K.lookup U9b=some ⟨jd,ja,.func (fnOf "_law_due" "_law_due" (B8 C8t) (B5 C8t) (A1 C8t) .none je jf jg jb V1t jh),jc⟩)(U0y:codeIn K V1t "_law_due"=true)(U9j:keepIn K (.ref U9b)=true){ji jj:Option Addr}{jk:Array (Option Value)}{jm jn jo jp G4r jq:Value}(U7k:nsIn K mainGlobals "_law_no_number"=some (some (.ref U3c)))(U2j:K.lookup U3c=some ⟨jm,ji,.func (fnOf "_law_no_number" "_law_no_number" (B8 A4k) (B5 A4k) (A1 A4k) .none jn jo jp jj G4r jq),jk⟩)(U4f:codeIn K G4r "_law_no_number"=true)(U1n:keepIn K (.ref U3c)=true){jr jt:Option Addr}{ju:Array (Option Value)}{jv jw jx jy J0j jz:Value}(U3b:nsIn K mainGlobals "_law_refused"=some (some (.ref U2k)))(U0u:K.lookup U2k=some ⟨jv,jr,.func (fnOf "_law_refused" "_law_refused" (B8 A3w) (B5 A3w) (A1 A3w) .none jw jx jy jt J0j jz),ju⟩)(U8k:codeIn K J0j "_law_refused"=true)(U6z:keepIn K (.ref U2k)=true){j_ Z6y:Option Addr}{k7:Array (Option Value)}{ka Z2j Z4v Y9f G5c Z3y:Value}(V2b:nsIn K mainGlobals "law"=some (some (.ref Z5c)))(Z7g:K.lookup Z5c=some ⟨ka,j_,.func (fnOf "law" "law" (B8 D3j) (B5 D3j) (A1 D3j) .none Z2j Z4v Y9f Z6y G5c Z3y),k7⟩)(Z4z:codeIn K G5c "law"=true)(Z3x:keepIn K (.ref Z5c)=true)(A9e:nsIn K mainGlobals "isinstance"=some none)(Z1h:nsIn K mainGlobals "int"=some none)(U3g:nsIn K mainGlobals "bool"=some none)(Y5f:nsIn K mainGlobals "str"=some none)(U6k:nsIn K mainGlobals "list"=some none)(J0c:nsIn K mainGlobals "tuple"=some none)(U6u:nsIn K mainGlobals "dict"=some none)(Z6r:nsIn K mainGlobals "len"=some none)(G8v:nsIn K mainGlobals "range"=some none)(Y5u:nsIn K mainGlobals "min"=some none)(Y7v:nsIn K mainGlobals "max"=some none)(Y5n:nsIn K mainGlobals "abs"=some none)(Y7a:nsIn K mainGlobals "any"=some none)(Z6a:nsIn K mainGlobals "all"=some none)(Z2s:nsIn K mainGlobals "sum"=some none)(U6w:nsIn K mainGlobals "repr"=some none)(B4v:nsIn K mainGlobals "enumerate"=some none)(B8n:nsIn K mainGlobals "reversed"=some none)(Z6z:nsIn K mainGlobals "zip"=some none)(D0u:nsIn K mainGlobals "sorted"=some none)(D1z:nsIn K mainGlobals "divmod"=some none)(Z3u:nsIn K mainGlobals "set"=some none)(B0e:nsIn K mainGlobals "ValueError"=some none)(B8k:kitOne K (.type "int") (.type "int")=some true)(B4w:kitOne K (.type "int") (.type "bool")=some false)(B8q:kitOne K (.type "int") (.type "str")=some false)(B2y:kitOne K (.type "int") (.type "list")=some false)(A9r:kitOne K (.type "int") (.type "tuple")=some false)(B2u:kitOne K (.type "int") (.type "dict")=some false)(B4t:kitOne K (.type "bool") (.type "int")=some true)(B0a:kitOne K (.type "bool") (.type "bool")=some true)(B2q:kitOne K (.type "bool") (.type "str")=some false)(B0c:kitOne K (.type "bool") (.type "list")=some false)(A6x:kitOne K (.type "bool") (.type "tuple")=some false)(A9n:kitOne K (.type "bool") (.type "dict")=some false)(B8s:kitOne K (.type "str") (.type "int")=some false)(B4s:kitOne K (.type "str") (.type "bool")=some false)(B8b:kitOne K (.type "str") (.type "str")=some true)(B4x:kitOne K (.type "str") (.type "list")=some false)(A9b:kitOne K (.type "str") (.type "tuple")=some false)(B4f:kitOne K (.type "str") (.type "dict")=some false)(B3p:kitOne K (.type "list") (.type "int")=some false)(B0t:kitOne K (.type "list") (.type "bool")=some false)(B4c:kitOne K (.type "list") (.type "str")=some false)(A9k:kitOne K (.type "list") (.type "list")=some true)(A2q:kitOne K (.type "list") (.type "tuple")=some false)(A8s:kitOne K (.type "list") (.type "dict")=some false)(A8v:kitOne K (.type "tuple") (.type "int")=some false)(A6y:kitOne K (.type "tuple") (.type "bool")=some false)(B0q:kitOne K (.type "tuple") (.type "str")=some false)(A6v:kitOne K (.type "tuple") (.type "list")=some false)(A5m:kitOne K (.type "tuple") (.type "tuple")=some true)(A6w:kitOne K (.type "tuple") (.type "dict")=some false)(B3w:kitOne K (.type "dict") (.type "int")=some false)(A8w:kitOne K (.type "dict") (.type "bool")=some false)(B3k:kitOne K (.type "dict") (.type "str")=some false)(B0b:kitOne K (.type "dict") (.type "list")=some false)(A6z:kitOne K (.type "dict") (.type "tuple")=some false)(B0d:kitOne K (.type "dict") (.type "dict")=some true)(A3p:kitOne K (.type "NoneType") (.type "int")=some false)(A2j:kitOne K (.type "NoneType") (.type "bool")=some false)(A3n:kitOne K (.type "NoneType") (.type "str")=some false)(A2g:kitOne K (.type "NoneType") (.type "list")=some false)(A1p:kitOne K (.type "NoneType") (.type "tuple")=some false)(A2h:kitOne K (.type "NoneType") (.type "dict")=some false)(sn:specialIn K (.builtin "object.__class__") "__get__"=some (some (.builtin "getset_descriptor.__get__")))(tk:takesIn K (.builtin "object.__class__")=some true)(qj:nsIn K mainGlobals "Way"=some (some (.ref CW)))(kc:nsIn K mainGlobals "Down"=some (some (.ref W0)))(Y8t:plainGet K W0 Str.empty=true)(Z1c:hasDictIn K W0=true)(Y4q:plainOver K W0=true)(Z1m:findIn K (.ref W0) "__setattr__"=some (some (.builtin "object.__setattr__")))(Y9v:makesIn K W0=true)(Z1a:keepIn K (.ref W0)=true)(Y7m:findIn K (.ref W0) "__class__"=some (some (.builtin "object.__class__")))(Y9w:mroIn K W0 (.type "object")=some true)(Y8s:findIn K (.ref W0) "__init__"=some (some (.builtin "object.__init__")))(Y9z:kitOne K (.ref W0) (.ref CW)=some true)(C2q:findIn K (.ref W0) "name"=some (some (.ref A7p)))(C4t:isFn K (.ref A7p)=true){U2s U8s:Option Addr}{U0w:Array (Option Value)}{U7w U0r U8h U3n C9j U8n:Value}(C5b:K.lookup A7p=some ⟨U7w,U2s,.func (fnOf "name" "Down.name" (B8 sN0) (B5 sN0) (A1 sN0) .none U0r U8h U3n U8s C9j U8n),U0w⟩)(C3c:codeIn K C9j "Down.name"=true)(B5x:keepIn K (.ref A7p)=true)(ke:nsIn K mainGlobals "Up"=some (some (.ref W1)))(Z0w:plainGet K W1 Str.empty=true)(Y6j:hasDictIn K W1=true)(Z5r:plainOver K W1=true)(Z4f:findIn K (.ref W1) "__setattr__"=some (some (.builtin "object.__setattr__")))(Y8x:makesIn K W1=true)(Z5f:keepIn K (.ref W1)=true)(Y4j:findIn K (.ref W1) "__class__"=some (some (.builtin "object.__class__")))(Z0e:mroIn K W1 (.type "object")=some true)(Z5g:findIn K (.ref W1) "__init__"=some (some (.builtin "object.__init__")))(Y9k:kitOne K (.ref W1) (.ref CW)=some true)(C1d:findIn K (.ref W1) "name"=some (some (.ref A7g)))(C5c:isFn K (.ref A7g)=true){U5z U7f:Option Addr}{U3f:Array (Option Value)}{U6f U9g U3x U5n C9r U2u:Value}(C4h:K.lookup A7g=some ⟨U6f,U5z,.func (fnOf "name" "Up.name" (B8 sN1) (B5 sN1) (A1 sN1) .none U9g U3x U5n U7f C9r U2u),U3f⟩)(C3e:codeIn K C9r "Up.name"=true)(B5p:keepIn K (.ref A7g)=true)(kf:nsIn K mainGlobals "Floor"=some (some (.ref W2)))(Z0t:plainGet K W2 Str.empty=true)(Z7b:hasDictIn K W2=true)(Y4z:plainOver K W2=true)(Y8u:findIn K (.ref W2) "__setattr__"=some (some (.builtin "object.__setattr__")))(Z7c:makesIn K W2=true)(Z3j:keepIn K (.ref W2)=true)(Z5j:findIn K (.ref W2) "__class__"=some (some (.builtin "object.__class__")))(Y7s:mroIn K W2 (.type "object")=some true)(Z4t:findIn K (.ref W2) "__init__"=some (some (.builtin "object.__init__")))(Z1t:kitOne K (.ref W2) (.ref CW)=some true)(C3x:findIn K (.ref W2) "name"=some (some (.ref A7h)))(C1v:isFn K (.ref A7h)=true){U8u U7c:Option Addr}{U3y:Array (Option Value)}{U6y U9x U7h U0d D1a U9q:Value}(C2k:K.lookup A7h=some ⟨U6y,U8u,.func (fnOf "name" "Floor.name" (B8 sN2) (B5 sN2) (A1 sN2) .none U9x U7h U0d U7c D1a U9q),U3y⟩)(C1b:codeIn K D1a "Floor.name"=true)(B5v:keepIn K (.ref A7h)=true)(kg:nsIn K mainGlobals "Ceiling"=some (some (.ref W3)))(Z3h:plainGet K W3 Str.empty=true)(Y6e:hasDictIn K W3=true)(Y8k:plainOver K W3=true)(Y5x:findIn K (.ref W3) "__setattr__"=some (some (.builtin "object.__setattr__")))(Z5s:makesIn K W3=true)(Y6n:keepIn K (.ref W3)=true)(Z4n:findIn K (.ref W3) "__class__"=some (some (.builtin "object.__class__")))(Y7u:mroIn K W3 (.type "object")=some true)(Y8y:findIn K (.ref W3) "__init__"=some (some (.builtin "object.__init__")))(Z0m:kitOne K (.ref W3) (.ref CW)=some true)(C4a:findIn K (.ref W3) "name"=some (some (.ref A7j)))(C3p:isFn K (.ref A7j)=true){U1q U4d:Option Addr}{U5w:Array (Option Value)}{U2y U2x U7y U4j D0y U1y:Value}(C5f:K.lookup A7j=some ⟨U2y,U1q,.func (fnOf "name" "Ceiling.name" (B8 sN3) (B5 sN3) (A1 sN3) .none U2x U7y U4j U4d D0y U1y),U5w⟩)(C2y:codeIn K D0y "Ceiling.name"=true)(B5y:keepIn K (.ref A7j)=true)(kh:nsIn K mainGlobals "HalfUp"=some (some (.ref W4)))(Y4k:plainGet K W4 Str.empty=true)(Y7n:hasDictIn K W4=true)(Y4d:plainOver K W4=true)(Z4p:findIn K (.ref W4) "__setattr__"=some (some (.builtin "object.__setattr__")))(Y7x:makesIn K W4=true)(Z1v:keepIn K (.ref W4)=true)(Y4f:findIn K (.ref W4) "__class__"=some (some (.builtin "object.__class__")))(Z1y:mroIn K W4 (.type "object")=some true)(Y7r:findIn K (.ref W4) "__init__"=some (some (.builtin "object.__init__")))(Y5q:kitOne K (.ref W4) (.ref CW)=some true)(C1j:findIn K (.ref W4) "name"=some (some (.ref A7m)))(C2t:isFn K (.ref A7m)=true){U1c U1s:Option Addr}{U1a:Array (Option Value)}{U3u U8v U2f U2d D0v U0q:Value}(C4f:K.lookup A7m=some ⟨U3u,U1c,.func (fnOf "name" "HalfUp.name" (B8 sN4) (B5 sN4) (A1 sN4) .none U8v U2f U2d U1s D0v U0q),U1a⟩)(C1f:codeIn K D0v "HalfUp.name"=true)(B5t:keepIn K (.ref A7m)=true)(ki:nsIn K mainGlobals "HalfDown"=some (some (.ref W5)))(Z0x:plainGet K W5 Str.empty=true)(Y7w:hasDictIn K W5=true)(Y8g:plainOver K W5=true)(Y6t:findIn K (.ref W5) "__setattr__"=some (some (.builtin "object.__setattr__")))(Y6f:makesIn K W5=true)(Y8p:keepIn K (.ref W5)=true)(Z3q:findIn K (.ref W5) "__class__"=some (some (.builtin "object.__class__")))(Z4w:mroIn K W5 (.type "object")=some true)(Z4d:findIn K (.ref W5) "__init__"=some (some (.builtin "object.__init__")))(Y6b:kitOne K (.ref W5) (.ref CW)=some true)(C4x:findIn K (.ref W5) "name"=some (some (.ref A7n)))(C4k:isFn K (.ref A7n)=true){J9u U0p:Option Addr}{U5s:Array (Option Value)}{U6t U2r U4n U4w D0t U4r:Value}(C3h:K.lookup A7n=some ⟨U6t,J9u,.func (fnOf "name" "HalfDown.name" (B8 sN5) (B5 sN5) (A1 sN5) .none U2r U4n U4w U0p D0t U4r),U5s⟩)(C4w:codeIn K D0t "HalfDown.name"=true)(B5u:keepIn K (.ref A7n)=true)(kj:nsIn K mainGlobals "HalfEven"=some (some (.ref W6)))(Y9t:plainGet K W6 Str.empty=true)(Y5v:hasDictIn K W6=true)(Y5t:plainOver K W6=true)(Y8n:findIn K (.ref W6) "__setattr__"=some (some (.builtin "object.__setattr__")))(Z0z:makesIn K W6=true)(Z2f:keepIn K (.ref W6)=true)(Y8d:findIn K (.ref W6) "__class__"=some (some (.builtin "object.__class__")))(Y5y:mroIn K W6 (.type "object")=some true)(Z5w:findIn K (.ref W6) "__init__"=some (some (.builtin "object.__init__")))(Z3f:kitOne K (.ref W6) (.ref CW)=some true)(C2r:findIn K (.ref W6) "name"=some (some (.ref A7q)))(C4b:isFn K (.ref A7q)=true){U4q U3v:Option Addr}{U0e:Array (Option Value)}{U6c U0h U2n U7z D0p U4h:Value}(C3n:K.lookup A7q=some ⟨U6c,U4q,.func (fnOf "name" "HalfEven.name" (B8 sN6) (B5 sN6) (A1 sN6) .none U0h U2n U7z U3v D0p U4h),U0e⟩)(C3t:codeIn K D0p "HalfEven.name"=true)(B5w:keepIn K (.ref A7q)=true)(kl:nsIn K mainGlobals "FiveUp"=some (some (.ref W7)))(Y5p:plainGet K W7 Str.empty=true)(Z6v:hasDictIn K W7=true)(Z3p:plainOver K W7=true)(Y6s:findIn K (.ref W7) "__setattr__"=some (some (.builtin "object.__setattr__")))(Z3s:makesIn K W7=true)(Z7j:keepIn K (.ref W7)=true)(Z3e:findIn K (.ref W7) "__class__"=some (some (.builtin "object.__class__")))(Y6u:mroIn K W7 (.type "object")=some true)(Y9h:findIn K (.ref W7) "__init__"=some (some (.builtin "object.__init__")))(Z2c:kitOne K (.ref W7) (.ref CW)=some true)(C4z:findIn K (.ref W7) "name"=some (some (.ref A7k)))(C2c:isFn K (.ref A7k)=true){U9t U8e:Option Addr}{U1r:Array (Option Value)}{U3t J9v U9h U3s C9g U3q:Value}(C5k:K.lookup A7k=some ⟨U3t,U9t,.func (fnOf "name" "FiveUp.name" (B8 sN7) (B5 sN7) (A1 sN7) .none J9v U9h U3s U8e C9g U3q),U1r⟩)(C3u:codeIn K C9g "FiveUp.name"=true)(B5s:keepIn K (.ref A7k)=true)(km:nsIn K mainGlobals "Number"=some (some (.ref CN)))(Y7b:plainGet K CN Str.empty=true)(Y6r:hasDictIn K CN=true)(Z2v:plainOver K CN=true)(Y7d:findIn K (.ref CN) "__setattr__"=some (some (.builtin "object.__setattr__")))(Y4s:makesIn K CN=true)(Y9c:keepIn K (.ref CN)=true)(Z2w:findIn K (.ref CN) "__class__"=some (some (.builtin "object.__class__")))(Y8r:mroIn K CN (.type "object")=some true)(C2g:findIn K (.ref CN) "kind"=some none)(C2u:findIn K (.ref CN) "sign"=some none)(B0g:findIn K (.ref CN) "figures"=some none)(B7p:findIn K (.ref CN) "power"=some none)(Y6x:findIn K (.ref CN) "__init__"=some (some (.ref D9s)))(Z1p:isFn K (.ref D9s)=true){ko kq:Option Addr}{kt:Array (Option Value)}{ku ky kz k_ Z6t l5:Value}(Z0q:K.lookup D9s=some ⟨ku,ko,.func (fnOf "__init__" "Number.__init__" (B8 D7j) (B5 D7j) (A1 D7j) .none ky kz k_ kq Z6t l5),kt⟩)(Y4p:codeIn K Z6t "Number.__init__"=true)(Z4g:keepIn K (.ref D9s)=true)(G6a:kitOne K (.ref CN) (.ref CN)=some true)(A9m:findIn K (.ref W0) "goes_up"=some (some (.ref A1r)))(B0m:isFn K (.ref A1r)=true){D4s D6n:Option Addr}{D5g:Array (Option Value)}{D5r D4g D4y D4q B6n D4f:Value}(A8t:K.lookup A1r=some ⟨D5r,D4s,.func (fnOf "goes_up" "Down.goes_up" (B8 sU0) (B5 sU0) (A1 sU0) .none D4g D4y D4q D6n B6n D4f),D5g⟩)(A8y:codeIn K B6n "Down.goes_up"=true)(A3y:keepIn K (.ref A1r)=true)(B4b:findIn K (.ref W0) "to_end"=some (some (.ref A3j)))(B3e:isFn K (.ref A3j)=true){G2v G5h:Option Addr}{G4p:Array (Option Value)}{G3p J0f G7y G4q B9v G3q:Value}(B4g:K.lookup A3j=some ⟨G3p,G2v,.func (fnOf "to_end" "Down.to_end" (B8 sT0) (B5 sT0) (A1 sT0) .none J0f G7y G4q G5h B9v G3q),G4p⟩)(B2z:codeIn K B9v "Down.to_end"=true)(A6c:keepIn K (.ref A3j)=true)(B0r:findIn K (.ref W1) "goes_up"=some (some (.ref A1v)))(B0k:isFn K (.ref A1v)=true){D5h D4v:Option Addr}{D3x:Array (Option Value)}{D5z D6g D5k D5a B6j D6e:Value}(B0u:K.lookup A1v=some ⟨D5z,D5h,.func (fnOf "goes_up" "Up.goes_up" (B8 sU1) (B5 sU1) (A1 sU1) .none D6g D5k D5a D4v B6j D6e),D3x⟩)(A9a:codeIn K B6j "Up.goes_up"=true)(A4f:keepIn K (.ref A1v)=true)(B3n:findIn K (.ref W1) "to_end"=some (some (.ref A3b)))(B2p:isFn K (.ref A3b)=true){G9r G3s:Option Addr}{G4n:Array (Option Value)}{G9f G5u G9a G4s B9y G2r:Value}(B2v:K.lookup A3b=some ⟨G9f,G9r,.func (fnOf "to_end" "Up.to_end" (B8 sT1) (B5 sT1) (A1 sT1) .none G5u G9a G4s G3s B9y G2r),G4n⟩)(B4m:codeIn K B9y "Up.to_end"=true)(A6j:keepIn K (.ref A3b)=true)(A9t:findIn K (.ref W2) "goes_up"=some (some (.ref A1q)))(B0w:isFn K (.ref A1q)=true){D6k D5j:Option Addr}{D5t:Array (Option Value)}{D4a D5x D6h D5p B6k D6x:Value}(A9c:K.lookup A1q=some ⟨D4a,D6k,.func (fnOf "goes_up" "Floor.goes_up" (B8 sU2) (B5 sU2) (A1 sU2) .none D5x D6h D5p D5j B6k D6x),D5t⟩)(B0j:codeIn K B6k "Floor.goes_up"=true)(A4d:keepIn K (.ref A1q)=true)(B3a:findIn K (.ref W2) "to_end"=some (some (.ref A3a)))(B2h:isFn K (.ref A3a)=true){G9t G7q:Option Addr}{G5y:Array (Option Value)}{G3k G5n G9d G4d B9w J0m:Value}(B3r:K.lookup A3a=some ⟨G3k,G9t,.func (fnOf "to_end" "Floor.to_end" (B8 sT2) (B5 sT2) (A1 sT2) .none G5n G9d G4d G7q B9w J0m),G5y⟩)(B2m:codeIn K B9w "Floor.to_end"=true)(A6n:keepIn K (.ref A3a)=true)(A9h:findIn K (.ref W3) "goes_up"=some (some (.ref A1n)))(A9u:isFn K (.ref A1n)=true){D4u D4x:Option Addr}{D5v:Array (Option Value)}{D3w D6a D4n D5m B6m D6f:Value}(B0f:K.lookup A1n=some ⟨D3w,D4u,.func (fnOf "goes_up" "Ceiling.goes_up" (B8 sU3) (B5 sU3) (A1 sU3) .none D6a D4n D5m D4x B6m D6f),D5v⟩)(A9x:codeIn K B6m "Ceiling.goes_up"=true)(A4c:keepIn K (.ref A1n)=true)(B2k:findIn K (.ref W3) "to_end"=some (some (.ref A3d)))(B2f:isFn K (.ref A3d)=true){G4t G2y:Option Addr}{G2k:Array (Option Value)}{G5q G7e G8p G6n C0a G2q:Value}(B2j:K.lookup A3d=some ⟨G5q,G4t,.func (fnOf "to_end" "Ceiling.to_end" (B8 sT3) (B5 sT3) (A1 sT3) .none G7e G8p G6n G2y C0a G2q),G2k⟩)(B2g:codeIn K C0a "Ceiling.to_end"=true)(A6d:keepIn K (.ref A3d)=true)(B0s:findIn K (.ref W4) "goes_up"=some (some (.ref A1s)))(A9f:isFn K (.ref A1s)=true){D5e D5u:Option Addr}{D5f:Array (Option Value)}{D4k D3v D5c D6s B6h D6p:Value}(A9d:K.lookup A1s=some ⟨D4k,D5e,.func (fnOf "goes_up" "HalfUp.goes_up" (B8 sU4) (B5 sU4) (A1 sU4) .none D3v D5c D6s D5u B6h D6p),D5f⟩)(B0v:codeIn K B6h "HalfUp.goes_up"=true)(A4a:keepIn K (.ref A1s)=true)(B4z:findIn K (.ref W4) "to_end"=some (some (.ref A3h)))(B4y:isFn K (.ref A3h)=true){G4c G6e:Option Addr}{G7h:Array (Option Value)}{G5d G8w G5f G3d C0b G8h:Value}(B3d:K.lookup A3h=some ⟨G5d,G4c,.func (fnOf "to_end" "HalfUp.to_end" (B8 sT4) (B5 sT4) (A1 sT4) .none G8w G5f G3d G6e C0b G8h),G7h⟩)(B2n:codeIn K C0b "HalfUp.to_end"=true)(A6h:keepIn K (.ref A3h)=true)(A9g:findIn K (.ref W5) "goes_up"=some (some (.ref A1m)))(A8x:isFn K (.ref A1m)=true){D6m D6r:Option Addr}{D5n:Array (Option Value)}{D4z D6q D6j D4r B6f D5q:Value}(A9z:K.lookup A1m=some ⟨D4z,D6m,.func (fnOf "goes_up" "HalfDown.goes_up" (B8 sU5) (B5 sU5) (A1 sU5) .none D6q D6j D4r D6r B6f D5q),D5n⟩)(A8u:codeIn K B6f "HalfDown.goes_up"=true)(A4b:keepIn K (.ref A1m)=true)(B3t:findIn K (.ref W5) "to_end"=some (some (.ref A3k)))(B4r:isFn K (.ref A3k)=true){G2m G5g:Option Addr}{G1t:Array (Option Value)}{G5s G6c G9k G5m C0c G2p:Value}(B4j:K.lookup A3k=some ⟨G5s,G2m,.func (fnOf "to_end" "HalfDown.to_end" (B8 sT5) (B5 sT5) (A1 sT5) .none G6c G9k G5m G5g C0c G2p),G1t⟩)(B4h:codeIn K C0c "HalfDown.to_end"=true)(A6m:keepIn K (.ref A3k)=true)(B0h:findIn K (.ref W6) "goes_up"=some (some (.ref A1u)))(A9w:isFn K (.ref A1u)=true){D3z D5w:Option Addr}{D6t:Array (Option Value)}{D6w D6b D4w D5s B6g D4e:Value}(A8z:K.lookup A1u=some ⟨D6w,D3z,.func (fnOf "goes_up" "HalfEven.goes_up" (B8 sU6) (B5 sU6) (A1 sU6) .none D6b D4w D5s D5w B6g D4e),D6t⟩)(A9p:codeIn K B6g "HalfEven.goes_up"=true)(A4e:keepIn K (.ref A1u)=true)(B2x:findIn K (.ref W6) "to_end"=some (some (.ref A3c)))(B4q:isFn K (.ref A3c)=true){G3n G3h:Option Addr}{G2s:Array (Option Value)}{G8b G5z G4a G4h B9x G7t:Value}(B3c:K.lookup A3c=some ⟨G8b,G3n,.func (fnOf "to_end" "HalfEven.to_end" (B8 sT6) (B5 sT6) (A1 sT6) .none G5z G4a G4h G3h B9x G7t),G2s⟩)(B3x:codeIn K B9x "HalfEven.to_end"=true)(A6f:keepIn K (.ref A3c)=true)(B0n:findIn K (.ref W7) "goes_up"=some (some (.ref A1t)))(A9q:isFn K (.ref A1t)=true){D6c D4h:Option Addr}{D4m:Array (Option Value)}{D5d D5y D4t D5b B6e D6d:Value}(A9v:K.lookup A1t=some ⟨D5d,D6c,.func (fnOf "goes_up" "FiveUp.goes_up" (B8 sU7) (B5 sU7) (A1 sU7) .none D5y D4t D5b D4h B6e D6d),D4m⟩)(B0p:codeIn K B6e "FiveUp.goes_up"=true)(A3z:keepIn K (.ref A1t)=true)(B3g:findIn K (.ref W7) "to_end"=some (some (.ref A3f)))(B3b:isFn K (.ref A3f)=true){G8x J0k:Option Addr}{G4w:Array (Option Value)}{G3a G2f G3u G7m B9t G7j:Value}(B2s:K.lookup A3f=some ⟨G3a,G8x,.func (fnOf "to_end" "FiveUp.to_end" (B8 sT7) (B5 sT7) (A1 sT7) .none G2f G3u G7m J0k B9t G7j),G4w⟩)(B4u:codeIn K B9t "FiveUp.to_end"=true)(A6e:keepIn K (.ref A3f)=true)(l6:nsIn K mainGlobals "Context"=some (some (.ref CC)))(Y7h:plainGet K CC Str.empty=true)(Y7z:hasDictIn K CC=true)(Z4s:plainOver K CC=true)(Z6b:findIn K (.ref CC) "__setattr__"=some (some (.builtin "object.__setattr__")))(Y9n:makesIn K CC=true)(Y6d:keepIn K (.ref CC)=true)(C4j:findIn K (.ref CC) "room"=some none)(C2a:findIn K (.ref CC) "rule"=some none)(B7x:findIn K (.ref CC) "least"=some none)(C2x:findIn K (.ref CC) "most"=some none)(B7f:findIn K (.ref CC) "risen"=some none)(A9s:findIn K (.ref CC) "trapped"=some none)(Z2a:findIn K (.ref CC) "__init__"=some (some (.ref D9n)))(Y8v:isFn K (.ref D9n)=true){l7 Z4e:Option Addr}{l8:Array (Option Value)}{le Z4k Y5m Z0u J9x Y8a:Value}(Z2y:K.lookup D9n=some ⟨le,l7,.func (fnOf "__init__" "Context.__init__" (B8 A1g) (B5 A1g) (A1 A1g) (.ref Y9x) Z4k Y5m Z0u Z4e J9x Y8a),l8⟩)(Z6j:codeIn K J9x "Context.__init__"=true)(Z0p:keepIn K (.ref D9n)=true){lh li lj:Tok}{lm:Nat}{lq:Option Addr}{lr:Value}{lu:Array (Option Value)}(Y7c:K.lookup Y9x=some ⟨lr,lq,.seq #[.int 9 lh,.str "half even" li,.none,.int 60 lj] lm,lu⟩)(B7b:findIn K (.ref CC) "flags"=some (some (.ref A5k)))(B7j:isFn K (.ref A5k)=true){J4g J4r:Option Addr}{J4j:Array (Option Value)}{J6n J6q J6j J3u C6d J4d:Value}(B8c:K.lookup A5k=some ⟨J6n,J4g,.func (fnOf "flags" "Context.flags" (B8 A4h) (B5 A4h) (A1 A4h) .none J6q J6j J3u J4r C6d J4d),J4j⟩)(B8p:codeIn K C6d "Context.flags"=true)(B0x:keepIn K (.ref A5k)=true)(B3v:findIn K (.ref CC) "lowest"=some (some (.ref A3g)))(B3q:isFn K (.ref A3g)=true){G8z G1u:Option Addr}{G9v:Array (Option Value)}{G6u G8y G5j G7n B9q G1x:Value}(B2w:K.lookup A3g=some ⟨G6u,G8z,.func (fnOf "lowest" "Context.lowest" (B8 B5n) (B5 B5n) (A1 B5n) .none G8y G5j G7n G1u B9q G1x),G9v⟩)(B4e:codeIn K B9q "Context.lowest"=true)(A6g:keepIn K (.ref A3g)=true)(D3d:findIn K (.ref CC) "way"=some (some (.ref B3z)))(C9x:isFn K (.ref B3z)=true){V6s V5x:Option Addr}{V5a:Array (Option Value)}{V6p V6y V6a V8j D9q V8m:Value}(D1n:K.lookup B3z=some ⟨V6p,V6s,.func (fnOf "way" "Context.way" (B8 B5d) (B5 B5d) (A1 B5d) .none V6y V6a V8j V5x D9q V8m),V5a⟩)(D2e:codeIn K D9q "Context.way"=true)(B9p:keepIn K (.ref B3z)=true)(B7k:findIn K (.ref CC) "traps"=some (some (.ref A5n)))(B7r:isFn K (.ref A5n)=true){J4b J4m:Option Addr}{J4a:Array (Option Value)}{J4k J4y J5x J3h C6k J5w:Value}(B7a:K.lookup A5n=some ⟨J4k,J4b,.func (fnOf "traps" "Context.traps" (B8 A4g) (B5 A4g) (A1 A4g) .none J4y J5x J3h J4m C6k J5w),J4a⟩)(B8d:codeIn K C6k "Context.traps"=true)(A9j:keepIn K (.ref A5n)=true)(C1t:findIn K (.ref CC) "trap"=some (some (.ref A7r)))(C0y:isFn K (.ref A7r)=true){U1u U6p:Option Addr}{U4b:Array (Option Value)}{U2e U7p U2m U3m D0r U6j:Value}(C5j:K.lookup A7r=some ⟨U2e,U1u,.func (fnOf "trap" "Context.trap" (B8 A7d) (B5 A7d) (A1 A7d) .none U7p U2m U3m U6p D0r U6j),U4b⟩)(C3w:codeIn K D0r "Context.trap"=true)(B5r:keepIn K (.ref A7r)=true)(B3f:findIn K (.ref CC) "raised"=some (some (.ref A3e)))(B3u:isFn K (.ref A3e)=true){G8n G8u:Option Addr}{G9q:Array (Option Value)}{G3x G3y G2z G8g B9r G2e:Value}(B5a:K.lookup A3e=some ⟨G3x,G8n,.func (fnOf "raised" "Context.raised" (B8 A1x) (B5 A1x) (A1 A1x) .none G3y G2z G8g G8u B9r G2e),G9q⟩)(B3h:codeIn K B9r "Context.raised"=true)(A6k:keepIn K (.ref A3e)=true)(lv:nsIn K mainGlobals "Ratio"=some (some (.ref CQ)))(Y4x:plainGet K CQ Str.empty=true)(Y8q:hasDictIn K CQ=true)(Y8f:plainOver K CQ=true)(Z5p:findIn K (.ref CQ) "__setattr__"=some (some (.builtin "object.__setattr__")))(Y9q:makesIn K CQ=true)(Y9p:keepIn K (.ref CQ)=true)(Z5y:findIn K (.ref CQ) "__class__"=some (some (.builtin "object.__class__")))(Y4h:mroIn K CQ (.type "object")=some true)(D0n:findIn K (.ref CQ) "top"=some none)(B4p:findIn K (.ref CQ) "bottom"=some none)(B8r:findIn K (.ref CQ) "power"=some none)(Z3g:findIn K (.ref CQ) "__init__"=some (some (.ref D9c)))(Z7e:isFn K (.ref D9c)=true){lw Z4y:Option Addr}{ly:Array (Option Value)}{l_ Y9d Y9r Z2g U5u Z5t:Value}(Y9m:K.lookup D9c=some ⟨l_,lw,.func (fnOf "__init__" "Ratio.__init__" (B8 A8b) (B5 A8b) (A1 A8b) (.ref Y9b) Y9d Y9r Z2g Z4y U5u Z5t),ly⟩)(Z6e:codeIn K U5u "Ratio.__init__"=true)(Z4q:keepIn K (.ref D9c)=true){c_:Tok}{m6:Nat}{m7:Option Addr}{m8:Value}{m9:Array (Option Value)}(J3v:K.lookup Y9b=some ⟨m8,m7,.seq #[.int 0 c_] m6,m9⟩)(B8h:findIn K (.ref CQ) "first"=some (some (.ref A2f)))(B8t:isFn K (.ref A2f)=true){J6t J5f:Option Addr}{J7f:Array (Option Value)}{J6a J5q J5n J7j C6e J4v:Value}(B7e:K.lookup A2f=some ⟨J6a,J6t,.func (fnOf "first" "Ratio.first" (B8 A4m) (B5 A4m) (A1 A4m) .none J5q J5n J7j J5f C6e J4v),J7f⟩)(B7h:codeIn K C6e "Ratio.first"=true)(A9y:keepIn K (.ref A2f)=true)(G4z:findIn K (.ref CQ) "at"=some (some (.ref B5q)))(G8r:isFn K (.ref B5q)=true){Z0r Z1u:Option Addr}{Z3w:Array (Option Value)}{Z4j Z5a Z2p Y4c J5k Z2t:Value}(G8j:K.lookup B5q=some ⟨Z4j,Z0r,.func (fnOf "at" "Ratio.at" (B8 C7t) (B5 C7t) (A1 C7t) .none Z5a Z2p Y4c Z1u J5k Z2t),Z3w⟩)(G3m:codeIn K J5k "Ratio.at"=true)(C6z:keepIn K (.ref B5q)=true)(ma:nsIn K mainGlobals "Exact"=some (some (.ref CE)))(Y6c:kitOne K (.ref CQ) (.ref CE)=some true)(d3:nsIn K mainGlobals "BadContext"=some (some (.ref C1)))(d8:nsIn K mainGlobals "BadNumber"=some (some (.ref C2)))(md:nsIn K mainGlobals "NoText"=some (some (.ref C3)))(d9:nsIn K mainGlobals "BadCount"=some (some (.ref C4)))(Y6v:nsIn K mainGlobals "Trapped"=some (some (.ref C5)))(mh:nsIn K mainGlobals "ReckonError"=some (some (.ref CR)))(cty:typeIn K (.ref CR)=some (.type "type")){dR:ClassData}(ccl:clsIn K CR=some dR)(cex:subIn K (.ref CR) (.type "BaseException")=some true)(q1:excIn K C1 [.type "ValueError",.type "Exception",.type "BaseException",.type "object"] "ValueError.__new__"=true)(q2:excIn K C2 [.type "ValueError",.type "Exception",.type "BaseException",.type "object"] "ValueError.__new__"=true)(q3:excIn K C3 [.type "ValueError",.type "Exception",.type "BaseException",.type "object"] "ValueError.__new__"=true)(q4:excIn K C4 [.type "ValueError",.type "Exception",.type "BaseException",.type "object"] "ValueError.__new__"=true)(sub5:subIn K (.ref C5) (.ref CR)=some true)(xga5:findIn K (.ref C5) "__getattribute__"=some (some (.builtin "BaseException.__getattribute__")))(xgh5:findIn K (.ref C5) "__getattr__"=some none)(xca5:findIn K (.ref C5) "__class__"=some (some (.builtin "object.__class__")))(xob5:mroIn K C5 (.type "object")=some true)(xbe5:subIn K (.ref C5) (.type "BaseException")=some true){d5:ClassData}(xcl5:clsIn K C5=some d5)(qk:kitOne K (.ref C5) (.ref C1)=some false)(ql:kitOne K (.ref C5) (.ref C2)=some false)(qm:kitOne K (.ref C5) (.ref C3)=some false)(qo:kitOne K (.ref C5) (.ref C4)=some false)(qp:kitOne K (.ref C5) (.ref C5)=some true)(hv5:kitOne K (.ref C5) (.type "ValueError")=some true){nmT qT:Str}{NT:Addr}{bsT bmT:List Value}{snT:List Str}{suT:List Value}{abT:Bool}{coT:Option Bool}{ddT:Option Addr}{kT0 kT1 kT2 kT3 kT5:Option Value}(lT:K.lookup C5=some (excClassObj nmT qT C5 NT bsT bmT true snT suT abT coT ddT kT0 kT1 kT2 kT3 kT5 "ValueError.__new__")){ocN:Value}{odN:Option Addr}{esN:Array DictEntry}{epN:Nat}{slN:Array (Option Value)}(lN:K.lookup NT=some ⟨ocN,odN,.dict esN epN,slN⟩)(alN:(esN.all fun e=>match e.key with| .str _ _=>true|_=>false)=true)(niT:nsIn K NT "__init__"=some (some (.ref fX))){nmU qU:Str}{NU:Addr}{bsU:List Value}{snU:List Str}{suU:List Value}{abU:Bool}{coU:Option Bool}{ddU:Option Addr}{kU0 kU1 kU2 kU3 kU5:Option Value}(lT1:K.lookup C1=some (excClassObj nmU qU C1 NU bsU bmT true snU suU abU coU ddU kU0 kU1 kU2 kU3 kU5 "ValueError.__new__"))(saT:findIn K (.ref C5) "__setattr__"=some (some (.builtin "object.__setattr__")))(nsg5:findIn K (.ref C5) "signal"=some none){mi mj:Option Addr}{ml:Array (Option Value)}{db mn mq ms df mv:Value}(dg:K.lookup fX=some ⟨db,mi,.func (fnOf "__init__" "Trapped.__init__" (B8 B5k) (B5 B5k) (A1 B5k) .none mn mq ms mj df mv),ml⟩)(mw:codeIn K df "Trapped.__init__"=true)(my:keepIn K (.ref fX)=true)(fcT:db= .type "function")(kTR:kitOne K (.ref C5) (.ref CR)=some true)(tyT:typeIn K (.ref C5)=some (.type "type"))(subT:subIn K (.ref C5) (.ref C5)=some true)(a_S:nsIn K mainGlobals "SIGNALS"=some (some (.ref aS))){u0 u1 u2 u3 u4 u5 u6:Tok}{nS:Nat}{odS:Option Addr}{slS:Array (Option Value)}(lS:K.lookup aS=some ⟨.type "tuple",odS,.seq #[.str "void" u0,.str "split" u1,.str "burst" u2,.str "sunk" u3,.str "faint" u4,.str "off" u5,.str "cut" u6] nS,slS⟩)(B5b:kitOne K (.type "NoneType") (.ref CN)=some false)(U5f:kitOne K (.type "int") (.ref CN)=some false)(U1w:kitOne K (.type "str") (.ref CN)=some false)(G7b:kitOne K (.type "bool") (.ref CN)=some false)(D2u:kitOne K (.type "tuple") (.ref CN)=some false)(G7k:kitOne K (.type "list") (.ref CN)=some false)(G3z:kitOne K (.type "dict") (.ref CN)=some false)(sub2:subIn K (.ref C2) (.ref CR)=some true)(xga2:findIn K (.ref C2) "__getattribute__"=some (some (.builtin "BaseException.__getattribute__")))(xgh2:findIn K (.ref C2) "__getattr__"=some none)(xca2:findIn K (.ref C2) "__class__"=some (some (.builtin "object.__class__")))(xob2:mroIn K C2 (.type "object")=some true)(xbe2:subIn K (.ref C2) (.type "BaseException")=some true){d2:ClassData}(xcl2:clsIn K C2=some d2)(mz:kitOne K (.ref C2) (.ref C1)=some false)(m_:kitOne K (.ref C2) (.ref C2)=some true)(n8:kitOne K (.ref C2) (.ref C3)=some false)(n9:kitOne K (.ref C2) (.ref C4)=some false)(ng:kitOne K (.ref C2) (.ref C5)=some false)(hv2:kitOne K (.ref C2) (.type "ValueError")=some true)(sub4:subIn K (.ref C4) (.ref CR)=some true)(xga4:findIn K (.ref C4) "__getattribute__"=some (some (.builtin "BaseException.__getattribute__")))(xgh4:findIn K (.ref C4) "__getattr__"=some none)(xca4:findIn K (.ref C4) "__class__"=some (some (.builtin "object.__class__")))(xob4:mroIn K C4 (.type "object")=some true)(xbe4:subIn K (.ref C4) (.type "BaseException")=some true){d4:ClassData}(xcl4:clsIn K C4=some d4)(nh:kitOne K (.ref C4) (.ref C1)=some false)(ni:kitOne K (.ref C4) (.ref C2)=some false)(nj:kitOne K (.ref C4) (.ref C3)=some false)(nk:kitOne K (.ref C4) (.ref C4)=some true)(nr:kitOne K (.ref C4) (.ref C5)=some false)(hv4:kitOne K (.ref C4) (.type "ValueError")=some true)(hcode1:G4r= .ref c1)(hcode2:J0j= .ref c2)(hcode3:G5c= .ref c3)(ne21:P2≠P1)(ne13:P1≠P3)(ne23:P2≠P3):∃fd:FuncData,(∀(s:Shared) (v:Value),BindsTo s fd ⟨[v],[]⟩ [("_law_script",v)])/\∀base:Heap,K.In base ->base.Ns mainGlobals mg ->(∀q∈ [(c1,P1),(c2,P2),(c3,P3)],G1p mg base q.1 q.2) ->A1w l.prog w K mg base (CX1 l.prog w) 13 fa fd ["_law_script"] (V0s K P1 P2 P3):=by
 have e:=hfa.symm.trans (mg_of X G V2b)
 cases e
 have D9b:=G0 (ps:=["whole","count"]) (st:=A0x) X G C4g C5m C3v C4c fun _ _ _ _ _ _ us hl=>match us,hl with| [_,_],_=>rfl
 have B9u:=G0 (ps:=["count"]) (st:=A4p) X G G5e G5t G7f G3t fun _ _ _ _ _ _ us hl=>match us,hl with| [_],_=>rfl
 have J6e:=G0 (ps:=["size","middle"]) (st:=A7z) X G D2n D1g D2z D0q fun _ _ _ _ _ _ us hl=>match us,hl with| [_,_],_=>rfl
 have V1y:=G0 (ps:=["whole"]) (st:=B1r) X G G6s G7u G3r G7r fun _ _ _ _ _ _ us hl=>match us,hl with| [_],_=>rfl
 have ci:=G0 (ps:=["sign","figures","power"]) (st:=B6r) X G G3b J0a G9p G7w fun _ _ _ _ _ _ us hl=>match us,hl with| [_,_,_],_=>rfl
 have cq:=G0 (ps:=["sign"]) (st:=J1k) X G Z7h Z1f Z4u Y6a fun _ _ _ _ _ _ us hl=>match us,hl with| [_],_=>rfl
 have bd:=G0 (ps:=[]) (st:=A4v) X G C3m C2f C5h C3f fun _ _ _ _ _ _ us hl=>match us,hl with| [],_=>rfl
 have c8:=G0 (ps:=["number"]) (st:=C5t) X G U3a U8g J9w U9f fun _ _ _ _ _ _ us hl=>match us,hl with| [_],_=>rfl
 have Z1q:=G0 (ps:=["number"]) (st:=C8a) X G U6m U5q U9z U2v fun _ _ _ _ _ _ us hl=>match us,hl with| [_],_=>rfl
 have A2p:=G0 (ps:=["thing"]) (st:=A0z) X G G6r G5w G9c G4g fun _ _ _ _ _ _ us hl=>match us,hl with| [_],_=>rfl
 have D0b:=G0 (ps:=["things"]) (st:=A8j) X G B7n B7y B7m B7w fun _ _ _ _ _ _ us hl=>match us,hl with| [_],_=>rfl
 have V1u:=G0 (ps:=["thing","least","most"]) (st:=C7d) X G Z5n Y8c Y5b Y8z fun _ _ _ _ _ _ us hl=>match us,hl with| [_,_,_],_=>rfl
 have D9a:=G0 (ps:=["thing","least","most"]) (st:=A2y) X G C1g C3y C2e C4d fun _ _ _ _ _ _ us hl=>match us,hl with| [_,_,_],_=>rfl
 have G4y:=G0 (ps:=["thing","most"]) (st:=B1n) X G G1r G2u G9w G5a fun _ _ _ _ _ _ us hl=>match us,hl with| [_,_],_=>rfl
 have bg:=G0 (ps:=["context","sign","exact","ideal"]) (st:=A4u) X G C1u C3s C3k C1k fun _ _ _ _ _ _ us hl=>match us,hl with| [_,_,_,_],_=>rfl
 have J3s:=G0 (ps:=["context","exact"]) (st:=A5y) X G D3e D2t D0f D1r fun _ _ _ _ _ _ us hl=>match us,hl with| [_,_],_=>rfl
 have D9t:=G0 (ps:=["ideal","sign","figures","power"]) (st:=A2w) X G C2w C1r C1m C1c fun _ _ _ _ _ _ us hl=>match us,hl with| [_,_,_,_],_=>rfl
 have ao:=G0 (ps:=["context","sign","pair"]) (st:=A0t) X G B2t B3y B4a B4k fun _ _ _ _ _ _ us hl=>match us,hl with| [_,_,_],_=>rfl
 have J6w:=G0 (ps:=["context","sign","figures","power"]) (st:=A5w) X G D0j D1t D1d D2b fun _ _ _ _ _ _ us hl=>match us,hl with| [_,_,_,_],_=>rfl
 have J3z:=G0 (ps:=["context","number"]) (st:=A5x) X G C9h D2y D0h D0s fun _ _ _ _ _ _ us hl=>match us,hl with| [_,_],_=>rfl
 have cj:=G0 (ps:=["context","sign"]) (st:=B1j) X G G3f G4j G6f G5k fun _ _ _ _ _ _ us hl=>match us,hl with| [_,_],_=>rfl
 have cm:=G0 (ps:=["context","sign"]) (st:=B1f) X G G6q G5x G4k G2a fun _ _ _ _ _ _ us hl=>match us,hl with| [_,_],_=>rfl
 have D8t:=G0 (ps:=["part","is_cut"]) (st:=A5d) X G C1w C4n C2z C1a fun _ _ _ _ _ _ us hl=>match us,hl with| [_,_],_=>rfl
 have D8y:=G0 (ps:=["context","lead","part"]) (st:=A4x) X G C5e C3z C0z C5a fun _ _ _ _ _ _ us hl=>match us,hl with| [_,_,_],_=>rfl
 have c9:=G0 (ps:=["context","sign","ideal"]) (st:=A6a) X G C9t D1m C9y D2c fun _ _ _ _ _ _ us hl=>match us,hl with| [_,_,_],_=>rfl
 have bh:=G0 (ps:=["context","number"]) (st:=A4y) X G C5d C4y C3r C2n fun _ _ _ _ _ _ us hl=>match us,hl with| [_,_],_=>rfl
 have C6h:=G0 (ps:=["context","one","other"]) (st:=A1a) X G B4d B4n B3j B2r fun _ _ _ _ _ _ us hl=>match us,hl with| [_,_,_],_=>rfl
 have D8u:=G0 (ps:=["context","one"]) (st:=A5c) X G C4m C1z C2b C3q fun _ _ _ _ _ _ us hl=>match us,hl with| [_,_],_=>rfl
 have bi:=G0 (ps:=["context","one"]) (st:=A5a) X G C1y C2h C3b C3d fun _ _ _ _ _ _ us hl=>match us,hl with| [_,_],_=>rfl
 have ac:=G0 (ps:=["context","one","count"]) (st:=A2m) X G C9d C9p C9w D0e fun _ _ _ _ _ _ us hl=>match us,hl with| [_,_,_],_=>rfl
 have J4p:=G0 (ps:=["context","one"]) (st:=A8h) X G D1j C9z D0w D2a fun _ _ _ _ _ _ us hl=>match us,hl with| [_,_],_=>rfl
 have D2h:=G0 (ps:=["context","one"]) (st:=A2b) X G B8j B8e B8u B7d fun _ _ _ _ _ _ us hl=>match us,hl with| [_,_],_=>rfl
 have G9n:=G0 (ps:=["name"]) (st:=B1c) X G G2t G4f G3w G8a fun _ _ _ _ _ _ us hl=>match us,hl with| [_],_=>rfl
 have bj:=G0 (ps:=["thing","least","most"]) (st:=A4w) X G C4s C2j C1e C4r fun _ _ _ _ _ _ us hl=>match us,hl with| [_,_,_],_=>rfl
 have G2n:=G0 (ps:=["names"]) (st:=B1p) X G J0n G4m G6w G6x fun _ _ _ _ _ _ us hl=>match us,hl with| [_],_=>rfl
 have G8t:=G0 (ps:=["names"]) (st:=B1t) X G G4u J0p G8s G4b fun _ _ _ _ _ _ us hl=>match us,hl with| [_],_=>rfl
 have Z3c:=G0 (ps:=["_law_script","_law_k"]) (st:=C8s) X G U8z U9a U9s U3z fun _ _ _ _ _ _ us hl=>match us,hl with| [_,_],_=>rfl
 have C6y:=G0 (ps:=["_law_cell","_law_k"]) (st:=A8q) X G G6b G4v G5r G3j fun _ _ _ _ _ _ us hl=>match us,hl with| [_,_],_=>rfl
 have D9p:=G0 (ps:=["_law_count_here"]) (st:=B1m) X G Z6u Z6n Z6g Z3m fun _ _ _ _ _ _ us hl=>match us,hl with| [_],_=>rfl
 have D9j:=G0 (ps:=["_law_cell","_law_way"]) (st:=A1y) X G C4p C4v C1n C2d fun _ _ _ _ _ _ us hl=>match us,hl with| [_,_],_=>rfl
 have J3g:=G0 (ps:=["_law_cell"]) (st:=A4n) X G D2r D2g C9u C9s fun _ _ _ _ _ _ us hl=>match us,hl with| [_],_=>rfl
 have Y6w:=G0 (ps:=["_law_one"]) (st:=B6q) X G U1k U4e U1z U7r fun _ _ _ _ _ _ us hl=>match us,hl with| [_],_=>rfl
 have Z0b:=G0 (ps:=["_law_cell"]) (st:=C8k) X G U5b U7x U9d U0j fun _ _ _ _ _ _ us hl=>match us,hl with| [_],_=>rfl
 have D0x:=G0 (ps:=["_law_own_here"]) (st:=A2a) X G B8m B7c B8f B7z fun _ _ _ _ _ _ us hl=>match us,hl with| [_],_=>rfl
 have V1z:=G0 (ps:=["_law_way","_law_sign","_law_last","_law_left","_law_bottom"]) (st:=B6t) X G G7x G6d G6g G8k fun _ _ _ _ _ _ us hl=>match us,hl with| [_,_,_,_,_],_=>rfl
 have V2e:=G0 (ps:=["_law_top","_law_bottom"]) (st:=B6x) X G G2g G7d J0b G9x fun _ _ _ _ _ _ us hl=>match us,hl with| [_,_],_=>rfl
 have D9r:=G0 (ps:=["_law_own_here","_law_sign","_law_ideal"]) (st:=A5b) X G C1x C4u C1p C1h fun _ _ _ _ _ _ us hl=>match us,hl with| [_,_,_],_=>rfl
 have J5h:=G0 (ps:=["_law_own_here","_law_sign"]) (st:=A7w) X G D1x C9m D2f C9e fun _ _ _ _ _ _ us hl=>match us,hl with| [_,_],_=>rfl
 have D3b:=G0 (ps:=["_law_own_here","_law_sign","_law_ratio_here","_law_ideal"]) (st:=A2c) X G B7q B8a B7g B7u fun _ _ _ _ _ _ us hl=>match us,hl with| [_,_,_,_],_=>rfl
 have J3y:=G0 (ps:=["_law_top","_law_bottom","_law_wide"]) (st:=A7u) X G D0c D1v C9k D1f fun _ _ _ _ _ _ us hl=>match us,hl with| [_,_,_],_=>rfl
 have V1x:=G0 (ps:=["_law_deed"]) (st:=A8m) X G G6t G3e G9e G6p fun _ _ _ _ _ _ us hl=>match us,hl with| [_],_=>rfl
 have J3j:=G0 (ps:=["_law_context_here","_law_own_here","_law_deed","_law_due_here"]) (st:=A4j) X G D2k C9q D2j C9f fun _ _ _ _ _ _ us hl=>match us,hl with| [_,_,_,_],_=>rfl
 have G5p:=G0 (ps:=["_law_deed"]) (st:=A2u) X G G6v G8f G2c G2j fun _ _ _ _ _ _ us hl=>match us,hl with| [_],_=>rfl
 have J3f:=G0 (ps:=["_law_cell"]) (st:=A7y) X G D2p D0m D1u D2w fun _ _ _ _ _ _ us hl=>match us,hl with| [_],_=>rfl
 have Y8w:=G0 (ps:=["_law_own_here","_law_one","_law_count_here"]) (st:=C8t) X G U8f U9p U0y U9j fun _ _ _ _ _ _ us hl=>match us,hl with| [_,_,_],_=>rfl
 have Y5k:=G0 (ps:=["_law_context_here","_law_first","_law_thing","_law_cell"]) (st:=A4k) X G U7k U2j U4f U1n fun _ _ _ _ _ _ us hl=>match us,hl with| [_,_,_,_],_=>rfl
 have Y4r:=G0 (ps:=["_law_context_here","_law_own_here","_law_first","_law_cell"]) (st:=A3w) X G U3b U0u U8k U6z fun _ _ _ _ _ _ us hl=>match us,hl with| [_,_,_,_],_=>rfl
 have n_:=G0 (ps:=["_law_script"]) (st:=D3j) X G V2b Z7g Z4z Z3x fun _ _ _ _ _ _ us hl=>match us,hl with| [_],_=>rfl
 have O:Own mg:=⟨mg_none_of X G A9e,mg_none_of X G Z1h,mg_none_of X G U3g,mg_none_of X G Y5f,mg_none_of X G U6k,mg_none_of X G J0c,mg_none_of X G U6u,mg_none_of X G Z6r,mg_none_of X G G8v,mg_none_of X G Y5u,mg_none_of X G Y7v,mg_none_of X G Y5n,mg_none_of X G Y7a,mg_none_of X G Z6a,mg_none_of X G Z2s,mg_none_of X G U6w,mg_none_of X G B4v,mg_none_of X G B8n,mg_none_of X G Z6z,mg_none_of X G D0u,mg_none_of X G D1z,mg_none_of X G Z3u,mg_none_of X G B0e⟩
 have T:Kit K:=⟨B8k,B4w,B8q,B2y,A9r,B2u,B4t,B0a,B2q,B0c,A6x,A9n,B8s,B4s,B8b,B4x,A9b,B4f,B3p,B0t,B4c,A9k,A2q,A8s,A8v,A6y,B0q,A6v,A5m,A6w,B3w,A8w,B3k,B0b,A6z,B0d,A3p,A2j,A3n,A2g,A1p,A2h⟩
 have o0:Cls K W0:=⟨Y8t,Z1c,Y4q,Z1m⟩
 have o3:Mk0 K W0:=⟨Y9v,Y8s,Z1a⟩
 have bp:=U5 (st:=sN0) C5b C3c B5x
 have V7v:=bp.binds (ps:=["self"]) fun _ _ _ _ _ _ us hl=>match us,hl with| [_],_=>rfl
 have U2a:A0c K W0 "name" A7p:=⟨C2q,C4t,B5x⟩
 have WC0:C6s K mg "Down" W0 CW:=⟨mg_of X G kc,o0,o3,Y7m,sn,tk,Y9w,Y9z⟩
 have o4:Cls K W1:=⟨Z0w,Y6j,Z5r,Z4f⟩
 have o6:Mk0 K W1:=⟨Y8x,Z5g,Z5f⟩
 have bq:=U5 (st:=sN1) C4h C3e B5p
 have V7f:=bq.binds (ps:=["self"]) fun _ _ _ _ _ _ us hl=>match us,hl with| [_],_=>rfl
 have U2g:A0c K W1 "name" A7g:=⟨C1d,C5c,B5p⟩
 have WC1:C6s K mg "Up" W1 CW:=⟨mg_of X G ke,o4,o6,Y4j,sn,tk,Z0e,Y9k⟩
 have o8:Cls K W2:=⟨Z0t,Z7b,Y4z,Y8u⟩
 have o9:Mk0 K W2:=⟨Z7c,Z4t,Z3j⟩
 have bu:=U5 (st:=sN2) C2k C1b B5v
 have V6q:=bu.binds (ps:=["self"]) fun _ _ _ _ _ _ us hl=>match us,hl with| [_],_=>rfl
 have U9e:A0c K W2 "name" A7h:=⟨C3x,C1v,B5v⟩
 have WC2:C6s K mg "Floor" W2 CW:=⟨mg_of X G kf,o8,o9,Z5j,sn,tk,Y7s,Z1t⟩
 have oe:Cls K W3:=⟨Z3h,Y6e,Y8k,Y5x⟩
 have og:Mk0 K W3:=⟨Z5s,Y8y,Y6n⟩
 have bw:=U5 (st:=sN3) C5f C2y B5y
 have V8d:=bw.binds (ps:=["self"]) fun _ _ _ _ _ _ us hl=>match us,hl with| [_],_=>rfl
 have U3p:A0c K W3 "name" A7j:=⟨C4a,C3p,B5y⟩
 have WC3:C6s K mg "Ceiling" W3 CW:=⟨mg_of X G kg,oe,og,Z4n,sn,tk,Y7u,Z0m⟩
 have oh:Cls K W4:=⟨Y4k,Y7n,Y4d,Z4p⟩
 have oj:Mk0 K W4:=⟨Y7x,Y7r,Z1v⟩
 have bx:=U5 (st:=sN4) C4f C1f B5t
 have V6t:=bx.binds (ps:=["self"]) fun _ _ _ _ _ _ us hl=>match us,hl with| [_],_=>rfl
 have U6x:A0c K W4 "name" A7m:=⟨C1j,C2t,B5t⟩
 have WC4:C6s K mg "HalfUp" W4 CW:=⟨mg_of X G kh,oh,oj,Y4f,sn,tk,Z1y,Y5q⟩
 have om:Cls K W5:=⟨Z0x,Y7w,Y8g,Y6t⟩
 have on:Mk0 K W5:=⟨Y6f,Z4d,Y8p⟩
 have bz:=U5 (st:=sN5) C3h C4w B5u
 have V5s:=bz.binds (ps:=["self"]) fun _ _ _ _ _ _ us hl=>match us,hl with| [_],_=>rfl
 have U8a:A0c K W5 "name" A7n:=⟨C4x,C4k,B5u⟩
 have WC5:C6s K mg "HalfDown" W5 CW:=⟨mg_of X G ki,om,on,Z3q,sn,tk,Z4w,Y6b⟩
 have oo:Cls K W6:=⟨Y9t,Y5v,Y5t,Y8n⟩
 have oq:Mk0 K W6:=⟨Z0z,Z5w,Z2f⟩
 have b_:=U5 (st:=sN6) C3n C3t B5w
 have V8a:=b_.binds (ps:=["self"]) fun _ _ _ _ _ _ us hl=>match us,hl with| [_],_=>rfl
 have U7n:A0c K W6 "name" A7q:=⟨C2r,C4b,B5w⟩
 have WC6:C6s K mg "HalfEven" W6 CW:=⟨mg_of X G kj,oo,oq,Y8d,sn,tk,Y5y,Z3f⟩
 have ot:Cls K W7:=⟨Y5p,Z6v,Z3p,Y6s⟩
 have ou:Mk0 K W7:=⟨Z3s,Y9h,Z7j⟩
 have c6:=U5 (st:=sN7) C5k C3u B5s
 have V6v:=c6.binds (ps:=["self"]) fun _ _ _ _ _ _ us hl=>match us,hl with| [_],_=>rfl
 have U2c:A0c K W7 "name" A7k:=⟨C4z,C2c,B5s⟩
 have WC7:C6s K mg "FiveUp" W7 CW:=⟨mg_of X G kl,ot,ou,Z3e,sn,tk,Y6u,Z2c⟩
 let cw:Wy ->Addr:=fun y=>match y with| .down=>W0| .up=>W1| .floor=>W2| .ceiling=>W3| .halfUp=>W4| .halfDown=>W5| .halfEven=>W6| .fiveUp=>W7
 have W:∀y:Wy,C6s K mg y.cls (cw y) CW:=fun y=>match y with| .down=>WC0| .up=>WC1| .floor=>WC2| .ceiling=>WC3| .halfUp=>WC4| .halfDown=>WC5| .halfEven=>WC6| .fiveUp=>WC7
 have oy:Cls K CN:=⟨Y7b,Y6r,Z2v,Y7d⟩
 have cx:=U5 (st:=D7j) Z0q Y4p Z4g
 have oz:=cx.binds (ps:=["self","kind","sign","figures","power"]) fun _ _ _ _ _ _ us hl=>match us,hl with| [_,_,_,_,_],_=>rfl
 have o_:Mk K CN D9s:=⟨Y4s,Y6x,Z1p,Y9c⟩
 have N:Num K mg CN:=⟨mg_of X G km,oy,C2g,C2u,B0g,B7p,Z2w,sn,tk,Y8r,G6a⟩
 have ae:=U5 (st:=sU0) A8t A8y A3y
 have G2d:=ae.binds (ps:=["self","sign","last","part"]) fun _ _ _ _ _ _ us hl=>match us,hl with| [_,_,_,_],_=>rfl
 have D4b:A0c K W0 "goes_up" A1r:=⟨A9m,B0m,A3y⟩
 have ap:=U5 (st:=sT0) B4g B2z A6c
 have J5b:=ap.binds (ps:=["self","sign"]) fun _ _ _ _ _ _ us hl=>match us,hl with| [_,_],_=>rfl
 have J0g:A0c K W0 "to_end" A3j:=⟨B4b,B3e,A6c⟩
 have ag:=U5 (st:=sU1) B0u A9a A4f
 have G9y:=ag.binds (ps:=["self","sign","last","part"]) fun _ _ _ _ _ _ us hl=>match us,hl with| [_,_,_,_],_=>rfl
 have D4j:A0c K W1 "goes_up" A1v:=⟨B0r,B0k,A4f⟩
 have aq:=U5 (st:=sT1) B2v B4m A6j
 have J4u:=aq.binds (ps:=["self","sign"]) fun _ _ _ _ _ _ us hl=>match us,hl with| [_,_],_=>rfl
 have G7g:A0c K W1 "to_end" A3b:=⟨B3n,B2p,A6j⟩
 have ah:=U5 (st:=sU2) A9c B0j A4d
 have G9h:=ah.binds (ps:=["self","sign","last","part"]) fun _ _ _ _ _ _ us hl=>match us,hl with| [_,_,_,_],_=>rfl
 have D6v:A0c K W2 "goes_up" A1q:=⟨A9t,B0w,A4d⟩
 have ar:=U5 (st:=sT2) B3r B2m A6n
 have J4w:=ar.binds (ps:=["self","sign"]) fun _ _ _ _ _ _ us hl=>match us,hl with| [_,_],_=>rfl
 have G4x:A0c K W2 "to_end" A3a:=⟨B3a,B2h,A6n⟩
 have ai:=U5 (st:=sU3) B0f A9x A4c
 have G7v:=ai.binds (ps:=["self","sign","last","part"]) fun _ _ _ _ _ _ us hl=>match us,hl with| [_,_,_,_],_=>rfl
 have D3y:A0c K W3 "goes_up" A1n:=⟨A9h,A9u,A4c⟩
 have au:=U5 (st:=sT3) B2j B2g A6d
 have J4n:=au.binds (ps:=["self","sign"]) fun _ _ _ _ _ _ us hl=>match us,hl with| [_,_],_=>rfl
 have G6z:A0c K W3 "to_end" A3d:=⟨B2k,B2f,A6d⟩
 have aj:=U5 (st:=sU4) A9d B0v A4a
 have G8e:=aj.binds (ps:=["self","sign","last","part"]) fun _ _ _ _ _ _ us hl=>match us,hl with| [_,_,_,_],_=>rfl
 have D4c:A0c K W4 "goes_up" A1s:=⟨B0s,A9f,A4a⟩
 have av:=U5 (st:=sT4) B3d B2n A6h
 have J5g:=av.binds (ps:=["self","sign"]) fun _ _ _ _ _ _ us hl=>match us,hl with| [_,_],_=>rfl
 have G9s:A0c K W4 "to_end" A3h:=⟨B4z,B4y,A6h⟩
 have ak:=U5 (st:=sU5) A9z A8u A4b
 have G6j:=ak.binds (ps:=["self","sign","last","part"]) fun _ _ _ _ _ _ us hl=>match us,hl with| [_,_,_,_],_=>rfl
 have D6u:A0c K W5 "goes_up" A1m:=⟨A9g,A8x,A4b⟩
 have aw:=U5 (st:=sT5) B4j B4h A6m
 have J6p:=aw.binds (ps:=["self","sign"]) fun _ _ _ _ _ _ us hl=>match us,hl with| [_,_],_=>rfl
 have G2h:A0c K W5 "to_end" A3k:=⟨B3t,B4r,A6m⟩
 have al:=U5 (st:=sU6) A8z A9p A4e
 have G8c:=al.binds (ps:=["self","sign","last","part"]) fun _ _ _ _ _ _ us hl=>match us,hl with| [_,_,_,_],_=>rfl
 have D4p:A0c K W6 "goes_up" A1u:=⟨B0h,A9w,A4e⟩
 have ax:=U5 (st:=sT6) B3c B3x A6f
 have J4s:=ax.binds (ps:=["self","sign"]) fun _ _ _ _ _ _ us hl=>match us,hl with| [_,_],_=>rfl
 have G9u:A0c K W6 "to_end" A3c:=⟨B2x,B4q,A6f⟩
 have am:=U5 (st:=sU7) A9v B0p A3z
 have G1w:=am.binds (ps:=["self","sign","last","part"]) fun _ _ _ _ _ _ us hl=>match us,hl with| [_,_,_,_],_=>rfl
 have D4d:A0c K W7 "goes_up" A1t:=⟨B0n,A9q,A3z⟩
 have ay:=U5 (st:=sT7) B2s B4u A6e
 have J4e:=ay.binds (ps:=["self","sign"]) fun _ _ _ _ _ _ us hl=>match us,hl with| [_,_],_=>rfl
 have G6m:A0c K W7 "to_end" A3f:=⟨B3g,B3b,A6e⟩
 have p7:Cls K CC:=⟨Y7h,Y7z,Z4s,Z6b⟩
 have p8:=V1j (st:=A1g) Z2y Z6j Z0p
 have p9:Mk K CC D9n:=⟨Y9n,Z2a,Y8v,Y6d⟩
 have b8:=U5 (st:=A4h) B8c B8p B0x
 have U5v:=b8.binds (ps:=["self"]) fun _ _ _ _ _ _ us hl=>match us,hl with| [_],_=>rfl
 have J5e:A0c K CC "flags" A5k:=⟨B7b,B7j,B0x⟩
 have az:=U5 (st:=B5n) B2w B4e A6g
 have J6m:=az.binds (ps:=["self"]) fun _ _ _ _ _ _ us hl=>match us,hl with| [_],_=>rfl
 have J0e:A0c K CC "lowest" A3g:=⟨B3v,B3q,A6g⟩
 have cb:=U5 (st:=B5d) D1n D2e B9p
 have Z6x:=cb.binds (ps:=["self"]) fun _ _ _ _ _ _ us hl=>match us,hl with| [_],_=>rfl
 have V8u:A0c K CC "way" B3z:=⟨D3d,C9x,B9p⟩
 have b9:=U5 (st:=A4g) B7a B8d A9j
 have U9c:=b9.binds (ps:=["self"]) fun _ _ _ _ _ _ us hl=>match us,hl with| [_],_=>rfl
 have J6x:A0c K CC "traps" A5n:=⟨B7k,B7r,A9j⟩
 have c7:=U5 (st:=A7d) C5j C3w B5r
 have V7y:=c7.binds (ps:=["self","names"]) fun _ _ _ _ _ _ us hl=>match us,hl with| [_,_],_=>rfl
 have U8w:A0c K CC "trap" A7r:=⟨C1t,C0y,B5r⟩
 have a_:=U5 (st:=A1x) B5a B3h A6k
 have J6f:=a_.binds (ps:=["self","names"]) fun _ _ _ _ _ _ us hl=>match us,hl with| [_,_],_=>rfl
 have G6h:A0c K CC "raised" A3e:=⟨B3f,B3u,A6k⟩
 have pc:Cls K CQ:=⟨Y4x,Y8q,Y8f,Z5p⟩
 have pd:=V1j (st:=A8b) Y9m Z6e Z4q
 have pf:Mk K CQ D9c:=⟨Y9q,Z3g,Z7e,Y9p⟩
 have bc:=U5 (st:=A4m) B7e B7h A9y
 have U5j:=bc.binds (ps:=["self"]) fun _ _ _ _ _ _ us hl=>match us,hl with| [_],_=>rfl
 have J6s:A0c K CQ "first" A2f:=⟨B8h,B8t,A9y⟩
 have cn:=U5 (st:=C7t) G8j G3m C6z
 have V1s:=cn.binds (ps:=["self","power"]) fun _ _ _ _ _ _ us hl=>match us,hl with| [_,_],_=>rfl
 have J6d:A0c K CQ "at" B5q:=⟨G4z,G8r,C6z⟩
 have xk5:D3u K C5:=⟨xga5,xgh5,xca5,sn,tk,xob5,xbe5,by rw[xcl5];rfl⟩
 have nkT:nsOkIn K NT=true:=by unfold nsOkIn;rw[lN];exact alN
 have tlT:tailIn K V0r bmT=true:=by
   have z:=q1
   unfold excIn at z
   rw[lT1] at z
   simp only[excClassObj,Bool.and_eq_true] at z
   exact z.1.1.2
 have dh:=U5 (st:=B5k) dg mw my
 have ph:=dh.binds (ps:=["self","signal"]) fun _ _ _ _ _ _ us hl=>match us,hl with| [_,_],_=>rfl
 have XI5:V4w K C5 fX:=⟨⟨_,_,_,_,_,_,_,_,_,_,_,_,_,_,_,lT,nkT,niT,tlT⟩,⟨_,dg,fcT⟩,saT,xob5⟩
 have SG:SigK K mg aS:=⟨mg_of X G a_S,⟨_,lS,rfl⟩,fun H=> .inr ⟨_,_,_,lS,rfl,rfl,D3 (by show 7<=1000;decide),.cons ⟨_,rfl⟩ (.cons ⟨_,rfl⟩ (.cons ⟨_,rfl⟩ (.cons ⟨_,rfl⟩ (.cons ⟨_,rfl⟩ (.cons ⟨_,rfl⟩ (.cons ⟨_,rfl⟩ (.nil)))))))⟩⟩
 have O4:Own4 K CN:=⟨B5b,U5f,U1w,G7b,D2u,G7k,G3z,A2q⟩
 have xk2:D3u K C2:=⟨xga2,xgh2,xca2,sn,tk,xob2,xbe2,by rw[xcl2];rfl⟩
 have xk4:D3u K C4:=⟨xga4,xgh4,xca4,sn,tk,xob4,xbe4,by rw[xcl4];rfl⟩
 have C:C0w K mg CC:=⟨mg_of X G l6,p7,C4j,C2a,B7x,C2x,B7f,A9s⟩
 have B:Err K mg "BadNumber" C2:=⟨mg_of X G d8,q2⟩
 have B2:Err K mg "BadContext" C1:=⟨mg_of X G d3,q1⟩
 have RT:V1r K mg C5:=⟨mg_of X G Y6v,⟨tyT,by unfold clsIn;rw[lT];rfl,xbe5⟩,subT,xk5,⟨_,by unfold clsIn;rw[lT],rfl⟩,nsg5⟩
 have R:J9t K mg CQ CE:=⟨mg_of X G lv,mg_of X G ma,pc,D0n,B4p,B8r,Z5y,sn,tk,Y4h,Y6c⟩
 have b4:=J9n (fd:=fnOf "__init__" "Context.__init__" (B8 A1g) (B5 A1g) (A1 A1g) (.ref Y9x) Z4k Y5m Z0u Z4e J9x Y8a) (ps:=["self","room","way","least","most"]) (ds:=[]) rfl Y7c rfl fun us hl=>by obtain⟨a,b,c,d,e,rfl⟩:=len5 (Z9u hl);exact⟨_,rfl,rfl⟩
 refine⟨fnOf "law" "law" (B8 D3j) (B5 D3j) (A1 D3j) .none Z2j Z4v Y9f Z6y G5c Z3y,fun s v=> .of_eq rfl,fun base _ _ LB=>?_⟩
 have WN:∀y:Wy,WayN l.prog w K mg base (cw y) y.name:=fun y=>match y with| .down=>⟨_,_,U2a,A0nr bp,V7v⟩| .up=>⟨_,_,U2g,A0nz bq,V7f⟩| .floor=>⟨_,_,U9e,A0nf bu,V6q⟩| .ceiling=>⟨_,_,U3p,A0ph bw,V8d⟩| .halfUp=>⟨_,_,U6x,A0pm bx,V6t⟩| .halfDown=>⟨_,_,U8a,A0ng bz,V5s⟩| .halfEven=>⟨_,_,U7n,A0nw b_,V8a⟩| .fiveUp=>⟨_,_,U2c,A0qe c6,V6v⟩
 have U:∀y:Wy,WayU l.prog w K mg base (cw y) y:=fun y=>match y with| .down=>⟨_,_,D4b,A0qf ae,G2d⟩| .up=>⟨_,_,D4j,A0pz ag,G9y⟩| .floor=>⟨_,_,D6v,A0pk ah,G9h⟩| .ceiling=>⟨_,_,D3y,A0mr ai,G7v⟩| .halfUp=>⟨_,_,D4c,A0pe aj,G8e⟩| .halfDown=>⟨_,_,D6u,A0mp ak,G6j⟩| .halfEven=>⟨_,_,D4p,A0nb al,G8c⟩| .fiveUp=>⟨_,_,D4d,A0pa am,G1w⟩
 have E2:∀y:Wy,WayE l.prog w K mg base (cw y) y:=fun y=>match y with| .down=>⟨_,_,J0g,A0nm ap,J5b⟩| .up=>⟨_,_,G7g,A0mf aq,J4u⟩| .floor=>⟨_,_,G4x,A0nc ar,J4w⟩| .ceiling=>⟨_,_,G6z,A0qg au,J4n⟩| .halfUp=>⟨_,_,G9s,A0py av,J5g⟩| .halfDown=>⟨_,_,G2h,A0mz aw,J6p⟩| .halfEven=>⟨_,_,G9u,A0pc ax,J4s⟩| .fiveUp=>⟨_,_,G6m,A0mm ay,J4e⟩
 have Gb:=J9p (P:=l.prog) (w:=w) (base:=base) bj V1u O T B2
 have Gw:=Y0c (P:=l.prog) (w:=w) (base:=base) G9n O T B2 W
 have MC:A0ek l.prog w K mg base CC C1 D9n _:=⟨p9,J8k p8 bj G9n Gb Gw C W WN⟩
 have MR : A0en l.prog w K mg base CQ D9c (fnOf "__init__" "Ratio.__init__" (B8 A8b) (B5 A8b) (A1 A8b) (.ref Y9b) Y9d Y9r Z2g Z4y U5u Z5t) (.int 0 c_) (fun us ws=>match ws with| [a]=>us++ [a]|_=>[]) (fun us ws=>match ws with| [a]=>us++ [a]|_=>[]):=
   { m :=pf
     g:=Y3m pd R
     b3:=J9n rfl J3v rfl fun us hl=>by obtain⟨a,b,c,d,rfl⟩:=len4 (Z9u hl);exact⟨_,rfl,rfl⟩
     b2:=J9n rfl J3v rfl fun us hl=>by obtain⟨a,b,c,rfl⟩:=len3 (Z9u hl);exact⟨_,rfl,rfl⟩
     r0:=⟨_,rfl⟩
     kP := ⟨(fun s us ws XK hl=>by
         rcases ws with _|⟨p,_|⟨q,t⟩⟩
         . cases hl
         . obtain⟨a,b,c,rfl⟩:=len3 (Z9u hl)
           exact binds_K XK rfl J3v rfl rfl rfl
         . cases hl),fun r z=>match z with
       | .cons a .nil=>r.append (.cons a .nil)
       | .nil=> .nil
       | .cons _ (.cons _ _)=> .nil⟩
     eP:=fun _ _ _ _=>rfl}
 have M:B9m l.prog w K mg base CN D9s _:=⟨o_,Z8p cx N,oz⟩
 have Gn:=Y2d (P:=l.prog) (w:=w) (base:=base) G2n O T B2 SG
 have Go:=Y1d (P:=l.prog) (w:=w) (base:=base) G8t SG
 have GX:=V3r (P:=l.prog) (w:=w) (mg:=mg) (base:=base) dh XI5 nsg5
 have MF:Has l.prog w K mg base CC "flags" 1 ["self"] (A8e CC):=⟨_,_,J5e,J2q b8 C O,U5v⟩
 have ML:Has l.prog w K mg base CC "lowest" 1 ["self"] (C8c CC):=⟨_,_,J0e,V2z az C,J6m⟩
 have MW:Has l.prog w K mg base CC "way" 2 ["self"] (C7w CC cw):=⟨_,_,V8u,V2v cb G9n Gw C,Z6x⟩
 have MT:Has l.prog w K mg base CC "traps" 1 ["self"] (B6v CC):=⟨_,_,J6x,J2h b9 C O,U9c⟩
 have MP:Has l.prog w K mg base CC "trap" 2 ["self","names"] (J9e K CC C1):=⟨_,_,U8w,A0ag c7 G2n Gn G8t Go C,V7y⟩
 have MD:Has l.prog w K mg base CC "raised" 3 ["self","names"] (B8y K CC C1 C5):=⟨_,_,G6h,V3k a_ G2n Gn G8t Go C (mg_of X G Y6v) XI5 GX ph,J6f⟩
 have CM:D3t l.prog w K mg base CC C1 C5 CW cw:=⟨C,MW,ML,MD,W,U,E2⟩
 have aa:=J2t (P:=l.prog) (w:=w) (base:=base) A2p O T B N
 have cy:=A0at (P:=l.prog) (w:=w) (base:=base) c8 A2p O T B N
 have dj:=Y0n (P:=l.prog) (w:=w) (base:=base) ci D9a V1u O T B N M
 have dk:=A0ez (P:=l.prog) (w:=w) (base:=base) cq D9a V1u O T B N M
 have cr:=J8w (P:=l.prog) (w:=w) (base:=base) bd N M
 have dm:=A0ac (P:=l.prog) (w:=w) (base:=base) Z1q O N
 have Gto:=Y0z (P:=l.prog) (w:=w) (base:=base) B9u D9b (D9u D9b)
 have cg:=Z9j (P:=l.prog) (w:=w) (base:=base) D9p O
 have dw:=V4q (P:=l.prog) (w:=w) (base:=base) J6e
 have Gwl:=Y0m (P:=l.prog) (w:=w) (base:=base) V1y B9u Gto
 have Gat:=A0gn (P:=l.prog) (w:=w) (base:=base) cn B9u Gto J6e dw R O
 have RM:RatM l.prog w K mg base CQ A2f B5q _ _:=⟨J6s,V2j bc V1y Gwl J6d Gat V1s R,U5j,J6d,Gat,V1s⟩
 have cu:=Y0e (P:=l.prog) (w:=w) (base:=base) C6y
 have pi:=J1n (P:=l.prog) (w:=w) (base:=base) D9j C6y cu D9p cg O
 have pj:=J9f (P:=l.prog) (w:=w) (base:=base) J3g C6y cu D9j pi O
 have Gtr:=V2x (P:=l.prog) (w:=w) (base:=base) (k:=9) (by decide) V1x c8 cy RT
 have Gst:=J7t (P:=l.prog) (w:=w) (base:=base) (k:=9) J3j V1x Gtr C MF SG O
 have pk:=J3a (P:=l.prog) (w:=w) (base:=base) D0x MC b4 C MD MP O
 have pp:=Z8d (P:=l.prog) (w:=w) (base:=base) Z0b C6y cu O
 have dy:=Y2s (P:=l.prog) (w:=w) (base:=base) Y6w ci dj cq dk bd cr
 have cz:=V2f (P:=l.prog) (w:=w) (base:=base) D0b A2p aa
 have pq:=J8z (P:=l.prog) (w:=w) (base:=base) D9t N M
 have pr:=G1b (P:=l.prog) (w:=w) (base:=base) ao CM
 have pu:=V3t (P:=l.prog) (w:=w) (base:=base) J6w B9u Gto CM N M
 have px:=V3u (P:=l.prog) (w:=w) (base:=base) J3z Z1q dm CM N
 have pz:=Y3a (P:=l.prog) (w:=w) (base:=base) cm B9u Gto CM N M
 have p_:=Y1q (P:=l.prog) (w:=w) (base:=base) cj cm pz cq dk CM
 have Gsr:=J8j (P:=l.prog) (w:=w) (base:=base) D8t
 have Gsl:=J8g (P:=l.prog) (w:=w) (base:=base) D8y CM
 have qa:=V2r (P:=l.prog) (w:=w) (base:=base) c9 CM N M O
 have qb:=V4b (P:=l.prog) (w:=w) (base:=base) J3s CM RM R O
 have qc:=J9b (P:=l.prog) (w:=w) (base:=base) bg J3s qb D9t pq ao pr J6w pu J3z px cj p_ D8t Gsr D8y Gsl CM RM R N
 have qd:=Y3k (P:=l.prog) (w:=w) (K:=K) (base:=base) V1z
 have qe:=Y1k (P:=l.prog) (w:=w) (base:=base) V2e D9p cg O
 have qf:=J8y (P:=l.prog) (w:=w) (base:=base) D9r O
 have qg:=V4k (P:=l.prog) (w:=w) (base:=base) J5h D9p cg
 have qh:=V3a (P:=l.prog) (w:=w) (base:=base) J3y D9p cg O
 have qi:=J2a (P:=l.prog) (w:=w) (base:=base) D3b V2e qe D9p cg V1z qd J5h qg O
 have B4:Err K mg "BadCount" C4:=⟨mg_of X G d9,q4⟩
 have LB1:=LB _ List.mem_cons_self
 have LB2:=LB _ (List.mem_cons_of_mem _ List.mem_cons_self)
 have LB3:=LB _ (List.mem_cons_of_mem _ (List.mem_cons_of_mem _ List.mem_cons_self))
 have ES:A0em mg C2 C3 C1 C4 C5:=⟨mg_of X G d8,mg_of X G md,mg_of X G d3,mg_of X G d9,mg_of X G Y6v⟩
 have RB:V1q K mg CR:=⟨mg_of X G mh,⟨cty,by rw[ccl];rfl,cex⟩⟩
 have WDN:Wd K CR C2 C3 C1 C4 C5 C2 0 "number":=⟨sub2,⟨xk2,m_,n8,mz,n9,ng,hv2⟩,by decide,rfl⟩
 have WDC:Wd K CR C2 C3 C1 C4 C5 C4 3 "count":=⟨sub4,⟨xk4,ni,nj,nh,nk,nr,hv4⟩,by decide,rfl⟩
 have Gro:=J7n (CB:=C1) (CW:=CW) (cw:=cw) (P:=l.prog) (w:=w) (base:=base) bh A2p aa c9 qa bg qc MR R N
 have Gnc:=Y3u (P:=l.prog) (w:=w) (base:=base) G4y V1u O T B4
 have Gsc:=V4a (P:=l.prog) (w:=w) (base:=base) ac A2p aa G4y Gnc bh Gro N M
 have Gsb:=G1g (P:=l.prog) (w:=w) (base:=base) ac A2p aa G4y Gnc
 have Glw:=J7r (P:=l.prog) (w:=w) (base:=base) (k:=9) G5p RB ES O
 have Glc:=V4n (P:=l.prog) (w:=w) (K:=K) (base:=base) J3f
 have Gld:=Z8u (P:=l.prog) (w:=w) (base:=base) Y8w D3b qi J3y qh D9r qf
 have Gln:=A0aq (P:=l.prog) (w:=w) (base:=base) Y5k hcode1 LB1 G5p (TR.FnOk.toG Glw) ac Gsb D8u (C8b D8u A2p aa) bi (D3r bi A2p aa) J4p (D3m J4p A2p aa) D2h (C6n D2h A2p aa) C6h (C6q C6h D0b cz) O4 WDN
 have Glr:=V2n (P:=l.prog) (w:=w) (base:=base) Y4r hcode2 LB2 ne21 G5p (TR.FnOk.toG Glw) ac Gsb Y5k Gln O4 T WDN WDC C MF
 exact A0ex n_ hcode3 LB3 ne13 ne23 Z3c (Z8b Z3c O) Z0b pp D0x pk J3g pj Y6w dy J3f Glc Y8w Gld J3j Gst ac Gsc Y4r Glr c8 cy C MT O
theorem walk{c1 P1 c2 P2 c3 P3:Addr}{l:OpenLaw}{q:Program}{loose:List Str}{XP:(Str ->Option Value) ->Heap ->Prop}{YP:World ->Heap ->Prop}{d:DefRec}{K:Params ->Frag}(hn:l.most=some 63)(hdf:d.params.defaults=[])
   (hY:∀(w:World) (h:Heap),YP w h ->(K w.params).In h/\∀q∈ [(c1,P1),(c2,P2),(c3,P3)],CodeHd h q.1 q.2/\h.get? q.2=some (tabObj #[])) (hKP:∀p,∀q∈ [(c1,P1),(c2,P2),(c3,P3)],(K p).lookup q.2=none)
   (F:∀(w:World) (mg:Str ->Option Value) (fa:Addr) (h:Heap),(K w.params).In h ->h.Ns mainGlobals mg ->mg d.name=some (.ref fa) ->
     ∃fd:FuncData,(∀(s:Shared) (u:Value),BindsTo s fd ⟨[u],[]⟩ [("_law_script",u)])/\∀base:Heap,(K w.params).In base ->base.Ns mainGlobals mg ->(∀q∈ [(c1,P1),(c2,P2),(c3,P3)],G1p mg base q.1 q.2) ->A1w l.prog w (K w.params) mg base (CX1 l.prog w) 13 fa fd ["_law_script"] ((V0s (K w.params) P1 P2 P3))):
   WalkO q loose XP YP l.row.toRowW d [] (fun f vs=>PySem.call f vs):=
 L2.walk_ofM (ts:=[(c1,P1),(c2,P2),(c3,P3)]) (n:=63) (k:=13) (x:="_law_script") (CX:=fun w=>CX1 l.prog w) (sp:=fun w=>(V0s (K w.params) P1 P2 P3)) hn (by decide) hdf ⟨rfl,by decide,by decide⟩ hY hKP F (fun _ _ a ns hl hP hS=>⟨a,ns,rfl,hl,hS,hP _ List.mem_cons_self,hP _ (List.mem_cons_of_mem _ List.mem_cons_self),hP _ (List.mem_cons_of_mem _ (List.mem_cons_of_mem _ List.mem_cons_self)),fun _=>rfl⟩) fun _ _ _ _ _ z=>by
   obtain⟨_,_,_,_,_,_,_,_,_,_,z,_⟩:=z
   exact z
end TR
open PySem PySem.W PyProof.Rows
set_option maxRecDepth 100000 in
set_option maxHeartbeats 0 in
theorem PySem.Challenge.cw_tenreckon_k29_scaled_holds : PySem.Challenge.rw_tenreckon_k29_scaled.Holds := by
 refine hd ?_
 k_fill
 refine TR.walk (l := PySem.Challenge.rw_tenreckon_k29_scaled) (c1 := 992) (P1 := 988) (c2 := 999) (P2 := 995) (c3 := 1006) (P3 := 1002) rfl rfl (fun w h Y => ⟨PySem.W.km_in_of Y, List.forall_mem_cons.2 ⟨⟨PySem.W.codeHd_of_K (PySem.W.km_in_of Y) (by kernel_rfl), PySem.W.km_tabs_of Y _ (by k_mem)⟩, List.forall_mem_cons.2 ⟨⟨PySem.W.codeHd_of_K (PySem.W.km_in_of Y) (by kernel_rfl), PySem.W.km_tabs_of Y _ (by k_mem)⟩, List.forall_mem_cons.2 ⟨⟨PySem.W.codeHd_of_K (PySem.W.km_in_of Y) (by kernel_rfl), PySem.W.km_tabs_of Y _ (by k_mem)⟩, fun _ h => absurd h List.not_mem_nil⟩⟩⟩⟩) (fun _ => List.forall_mem_cons.2 ⟨by kernel_rfl, List.forall_mem_cons.2 ⟨by kernel_rfl, List.forall_mem_cons.2 ⟨by kernel_rfl, fun _ h => absurd h List.not_mem_nil⟩⟩⟩) ?F
 case F =>
   intro w mg fa h KX G hmg
   refine' TR.all_mk (c1 := 992) (P1 := 988) (c2 := 999) (P2 := 995) (c3 := 1006) (P3 := 1002) KX G hmg ?ZC4g ?ZC5m ?ZC3v ?ZC4c ?ZG5e ?ZG5t ?ZG7f ?ZG3t ?ZD2n ?ZD1g ?ZD2z ?ZD0q ?ZG6s ?ZG7u ?ZG3r ?ZG7r ?ZG3b ?ZJ0a ?ZG9p ?ZG7w ?ZZ7h ?ZZ1f ?ZZ4u ?ZY6a ?ZC3m ?ZC2f ?ZC5h ?ZC3f ?ZU3a ?ZU8g ?ZJ9w ?ZU9f ?ZU6m ?ZU5q ?ZU9z ?ZU2v ?ZG6r ?ZG5w ?ZG9c ?ZG4g ?ZB7n ?ZB7y ?ZB7m ?ZB7w ?ZZ5n ?ZY8c ?ZY5b ?ZY8z ?ZC1g ?ZC3y ?ZC2e ?ZC4d ?ZG1r ?ZG2u ?ZG9w ?ZG5a ?ZC1u ?ZC3s ?ZC3k ?ZC1k ?ZD3e ?ZD2t ?ZD0f ?ZD1r ?ZC2w ?ZC1r ?ZC1m ?ZC1c ?ZB2t ?ZB3y ?ZB4a ?ZB4k ?ZD0j ?ZD1t ?ZD1d ?ZD2b ?ZC9h ?ZD2y ?ZD0h ?ZD0s ?ZG3f ?ZG4j ?ZG6f ?ZG5k ?ZG6q ?ZG5x ?ZG4k ?ZG2a ?ZC1w ?ZC4n ?ZC2z ?ZC1a ?ZC5e ?ZC3z ?ZC0z ?ZC5a ?ZC9t ?ZD1m ?ZC9y ?ZD2c ?ZC5d ?ZC4y ?ZC3r ?ZC2n ?ZB4d ?ZB4n ?ZB3j ?ZB2r ?ZC4m ?ZC1z ?ZC2b ?ZC3q ?ZC1y ?ZC2h ?ZC3b ?ZC3d ?ZC9d ?ZC9p ?ZC9w ?ZD0e ?ZD1j ?ZC9z ?ZD0w ?ZD2a ?ZB8j ?ZB8e ?ZB8u ?ZB7d ?ZG2t ?ZG4f ?ZG3w ?ZG8a ?ZC4s ?ZC2j ?ZC1e ?ZC4r ?ZJ0n ?ZG4m ?ZG6w ?ZG6x ?ZG4u ?ZJ0p ?ZG8s ?ZG4b ?ZU8z ?ZU9a ?ZU9s ?ZU3z ?ZG6b ?ZG4v ?ZG5r ?ZG3j ?ZZ6u ?ZZ6n ?ZZ6g ?ZZ3m ?ZC4p ?ZC4v ?ZC1n ?ZC2d ?ZD2r ?ZD2g ?ZC9u ?ZC9s ?ZU1k ?ZU4e ?ZU1z ?ZU7r ?ZU5b ?ZU7x ?ZU9d ?ZU0j ?ZB8m ?ZB7c ?ZB8f ?ZB7z ?ZG7x ?ZG6d ?ZG6g ?ZG8k ?ZG2g ?ZG7d ?ZJ0b ?ZG9x ?ZC1x ?ZC4u ?ZC1p ?ZC1h ?ZD1x ?ZC9m ?ZD2f ?ZC9e ?ZB7q ?ZB8a ?ZB7g ?ZB7u ?ZD0c ?ZD1v ?ZC9k ?ZD1f ?ZG6t ?ZG3e ?ZG9e ?ZG6p ?ZD2k ?ZC9q ?ZD2j ?ZC9f ?ZG6v ?ZG8f ?ZG2c ?ZG2j ?ZD2p ?ZD0m ?ZD1u ?ZD2w ?ZU8f ?ZU9p ?ZU0y ?ZU9j ?ZU7k ?ZU2j ?ZU4f ?ZU1n ?ZU3b ?ZU0u ?ZU8k ?ZU6z ?ZV2b ?ZZ7g ?ZZ4z ?ZZ3x ?ZA9e ?ZZ1h ?ZU3g ?ZY5f ?ZU6k ?ZJ0c ?ZU6u ?ZZ6r ?ZG8v ?ZY5u ?ZY7v ?ZY5n ?ZY7a ?ZZ6a ?ZZ2s ?ZU6w ?ZB4v ?ZB8n ?ZZ6z ?ZD0u ?ZD1z ?ZZ3u ?ZB0e ?ZB8k ?ZB4w ?ZB8q ?ZB2y ?ZA9r ?ZB2u ?ZB4t ?ZB0a ?ZB2q ?ZB0c ?ZA6x ?ZA9n ?ZB8s ?ZB4s ?ZB8b ?ZB4x ?ZA9b ?ZB4f ?ZB3p ?ZB0t ?ZB4c ?ZA9k ?ZA2q ?ZA8s ?ZA8v ?ZA6y ?ZB0q ?ZA6v ?ZA5m ?ZA6w ?ZB3w ?ZA8w ?ZB3k ?ZB0b ?ZA6z ?ZB0d ?ZA3p ?ZA2j ?ZA3n ?ZA2g ?ZA1p ?ZA2h ?Zsn ?Ztk ?Zqj ?Zkc ?ZY8t ?ZZ1c ?ZY4q ?ZZ1m ?ZY9v ?ZZ1a ?ZY7m ?ZY9w ?ZY8s ?ZY9z ?ZC2q ?ZC4t ?ZC5b ?ZC3c ?ZB5x ?Zke ?ZZ0w ?ZY6j ?ZZ5r ?ZZ4f ?ZY8x ?ZZ5f ?ZY4j ?ZZ0e ?ZZ5g ?ZY9k ?ZC1d ?ZC5c ?ZC4h ?ZC3e ?ZB5p ?Zkf ?ZZ0t ?ZZ7b ?ZY4z ?ZY8u ?ZZ7c ?ZZ3j ?ZZ5j ?ZY7s ?ZZ4t ?ZZ1t ?ZC3x ?ZC1v ?ZC2k ?ZC1b ?ZB5v ?Zkg ?ZZ3h ?ZY6e ?ZY8k ?ZY5x ?ZZ5s ?ZY6n ?ZZ4n ?ZY7u ?ZY8y ?ZZ0m ?ZC4a ?ZC3p ?ZC5f ?ZC2y ?ZB5y ?Zkh ?ZY4k ?ZY7n ?ZY4d ?ZZ4p ?ZY7x ?ZZ1v ?ZY4f ?ZZ1y ?ZY7r ?ZY5q ?ZC1j ?ZC2t ?ZC4f ?ZC1f ?ZB5t ?Zki ?ZZ0x ?ZY7w ?ZY8g ?ZY6t ?ZY6f ?ZY8p ?ZZ3q ?ZZ4w ?ZZ4d ?ZY6b ?ZC4x ?ZC4k ?ZC3h ?ZC4w ?ZB5u ?Zkj ?ZY9t ?ZY5v ?ZY5t ?ZY8n ?ZZ0z ?ZZ2f ?ZY8d ?ZY5y ?ZZ5w ?ZZ3f ?ZC2r ?ZC4b ?ZC3n ?ZC3t ?ZB5w ?Zkl ?ZY5p ?ZZ6v ?ZZ3p ?ZY6s ?ZZ3s ?ZZ7j ?ZZ3e ?ZY6u ?ZY9h ?ZZ2c ?ZC4z ?ZC2c ?ZC5k ?ZC3u ?ZB5s ?Zkm ?ZY7b ?ZY6r ?ZZ2v ?ZY7d ?ZY4s ?ZY9c ?ZZ2w ?ZY8r ?ZC2g ?ZC2u ?ZB0g ?ZB7p ?ZY6x ?ZZ1p ?ZZ0q ?ZY4p ?ZZ4g ?ZG6a ?ZA9m ?ZB0m ?ZA8t ?ZA8y ?ZA3y ?ZB4b ?ZB3e ?ZB4g ?ZB2z ?ZA6c ?ZB0r ?ZB0k ?ZB0u ?ZA9a ?ZA4f ?ZB3n ?ZB2p ?ZB2v ?ZB4m ?ZA6j ?ZA9t ?ZB0w ?ZA9c ?ZB0j ?ZA4d ?ZB3a ?ZB2h ?ZB3r ?ZB2m ?ZA6n ?ZA9h ?ZA9u ?ZB0f ?ZA9x ?ZA4c ?ZB2k ?ZB2f ?ZB2j ?ZB2g ?ZA6d ?ZB0s ?ZA9f ?ZA9d ?ZB0v ?ZA4a ?ZB4z ?ZB4y ?ZB3d ?ZB2n ?ZA6h ?ZA9g ?ZA8x ?ZA9z ?ZA8u ?ZA4b ?ZB3t ?ZB4r ?ZB4j ?ZB4h ?ZA6m ?ZB0h ?ZA9w ?ZA8z ?ZA9p ?ZA4e ?ZB2x ?ZB4q ?ZB3c ?ZB3x ?ZA6f ?ZB0n ?ZA9q ?ZA9v ?ZB0p ?ZA3z ?ZB3g ?ZB3b ?ZB2s ?ZB4u ?ZA6e ?Zl6 ?ZY7h ?ZY7z ?ZZ4s ?ZZ6b ?ZY9n ?ZY6d ?ZC4j ?ZC2a ?ZB7x ?ZC2x ?ZB7f ?ZA9s ?ZZ2a ?ZY8v ?ZZ2y ?ZZ6j ?ZZ0p ?ZY7c ?ZB7b ?ZB7j ?ZB8c ?ZB8p ?ZB0x ?ZB3v ?ZB3q ?ZB2w ?ZB4e ?ZA6g ?ZD3d ?ZC9x ?ZD1n ?ZD2e ?ZB9p ?ZB7k ?ZB7r ?ZB7a ?ZB8d ?ZA9j ?ZC1t ?ZC0y ?ZC5j ?ZC3w ?ZB5r ?ZB3f ?ZB3u ?ZB5a ?ZB3h ?ZA6k ?Zlv ?ZY4x ?ZY8q ?ZY8f ?ZZ5p ?ZY9q ?ZY9p ?ZZ5y ?ZY4h ?ZD0n ?ZB4p ?ZB8r ?ZZ3g ?ZZ7e ?ZY9m ?ZZ6e ?ZZ4q ?ZJ3v ?ZB8h ?ZB8t ?ZB7e ?ZB7h ?ZA9y ?ZG4z ?ZG8r ?ZG8j ?ZG3m ?ZC6z ?Zma ?ZY6c ?Zd3 ?Zd8 ?Zmd ?Zd9 ?ZY6v ?Zmh ?Zcty ?Zccl ?Zcex ?Zq1 ?Zq2 ?Zq3 ?Zq4 ?Zsub5 ?Zxga5 ?Zxgh5 ?Zxca5 ?Zxob5 ?Zxbe5 ?Zxcl5 ?Zqk ?Zql ?Zqm ?Zqo ?Zqp ?Zhv5 ?ZlT ?ZlN ?ZalN ?ZniT ?ZlT1 ?ZsaT ?Znsg5 ?Zdg ?Zmw ?Zmy ?ZfcT ?ZkTR ?ZtyT ?ZsubT ?Za_S ?ZlS ?ZB5b ?ZU5f ?ZU1w ?ZG7b ?ZD2u ?ZG7k ?ZG3z ?Zsub2 ?Zxga2 ?Zxgh2 ?Zxca2 ?Zxob2 ?Zxbe2 ?Zxcl2 ?Zmz ?Zm_ ?Zn8 ?Zn9 ?Zng ?Zhv2 ?Zsub4 ?Zxga4 ?Zxgh4 ?Zxca4 ?Zxob4 ?Zxbe4 ?Zxcl4 ?Znh ?Zni ?Znj ?Znk ?Znr ?Zhv4 ?Zhcode1 ?Zhcode2 ?Zhcode3 ?Zne21 ?Zne13 ?Zne23
   case ZC4g|ZC5m|ZC3v|ZC4c|ZG5e|ZG5t|ZG7f|ZG3t|ZD2n|ZD1g|ZD2z|ZD0q|ZG6s|ZG7u|ZG3r|ZG7r|ZG3b|ZJ0a|ZG9p|ZG7w|ZZ7h|ZZ1f|ZZ4u|ZY6a|ZC3m|ZC2f|ZC5h|ZC3f|ZU3a|ZU8g|ZJ9w|ZU9f|ZU6m|ZU5q|ZU9z|ZU2v|ZG6r|ZG5w|ZG9c|ZG4g|ZB7n|ZB7y|ZB7m|ZB7w|ZZ5n|ZY8c|ZY5b|ZY8z|ZC1g|ZC3y|ZC2e|ZC4d|ZG1r|ZG2u|ZG9w|ZG5a|ZC1u|ZC3s|ZC3k|ZC1k => k_is
   case ZD3e|ZD2t|ZD0f|ZD1r|ZC2w|ZC1r|ZC1m|ZC1c|ZB2t|ZB3y|ZB4a|ZB4k|ZD0j|ZD1t|ZD1d|ZD2b|ZC9h|ZD2y|ZD0h|ZD0s|ZG3f|ZG4j|ZG6f|ZG5k|ZG6q|ZG5x|ZG4k|ZG2a|ZC1w|ZC4n|ZC2z|ZC1a|ZC5e|ZC3z|ZC0z|ZC5a|ZC9t|ZD1m|ZC9y|ZD2c|ZC5d|ZC4y|ZC3r|ZC2n|ZB4d|ZB4n|ZB3j|ZB2r|ZC4m|ZC1z|ZC2b|ZC3q|ZC1y|ZC2h|ZC3b|ZC3d|ZC9d|ZC9p|ZC9w|ZD0e => k_is
   case ZD1j|ZC9z|ZD0w|ZD2a|ZB8j|ZB8e|ZB8u|ZB7d|ZG2t|ZG4f|ZG3w|ZG8a|ZC4s|ZC2j|ZC1e|ZC4r|ZJ0n|ZG4m|ZG6w|ZG6x|ZG4u|ZJ0p|ZG8s|ZG4b|ZU8z|ZU9a|ZU9s|ZU3z|ZG6b|ZG4v|ZG5r|ZG3j|ZZ6u|ZZ6n|ZZ6g|ZZ3m|ZC4p|ZC4v|ZC1n|ZC2d|ZD2r|ZD2g|ZC9u|ZC9s|ZU1k|ZU4e|ZU1z|ZU7r|ZU5b|ZU7x|ZU9d|ZU0j|ZB8m|ZB7c|ZB8f|ZB7z|ZG7x|ZG6d|ZG6g|ZG8k => k_is
   case ZG2g|ZG7d|ZJ0b|ZG9x|ZC1x|ZC4u|ZC1p|ZC1h|ZD1x|ZC9m|ZD2f|ZC9e|ZB7q|ZB8a|ZB7g|ZB7u|ZD0c|ZD1v|ZC9k|ZD1f|ZG6t|ZG3e|ZG9e|ZG6p|ZD2k|ZC9q|ZD2j|ZC9f|ZG6v|ZG8f|ZG2c|ZG2j|ZD2p|ZD0m|ZD1u|ZD2w|ZU8f|ZU9p|ZU0y|ZU9j|ZU7k|ZU2j|ZU4f|ZU1n|ZU3b|ZU0u|ZU8k|ZU6z|ZV2b|ZZ7g|ZZ4z|ZZ3x|ZA9e|ZZ1h|ZU3g|ZY5f|ZU6k|ZJ0c|ZU6u|ZZ6r => k_is
   case ZG8v|ZY5u|ZY7v|ZY5n|ZY7a|ZZ6a|ZZ2s|ZU6w|ZB4v|ZB8n|ZZ6z|ZD0u|ZD1z|ZZ3u|ZB0e => k_is
   case ZB8k|ZB4w|ZB8q|ZB2y|ZA9r|ZB2u|ZB4t|ZB0a|ZB2q|ZB0c|ZA6x|ZA9n|ZB8s|ZB4s|ZB8b|ZB4x|ZA9b|ZB4f|ZB3p|ZB0t|ZB4c|ZA9k|ZA2q|ZA8s|ZA8v|ZA6y|ZB0q|ZA6v|ZA5m|ZA6w|ZB3w|ZA8w|ZB3k|ZB0b|ZA6z|ZB0d|ZA3p|ZA2j|ZA3n|ZA2g|ZA1p|ZA2h => kit_is
   case Zsn|Ztk|Zqj|Zkc|ZY8t|ZZ1c|ZY4q|ZZ1m|ZY9v|ZZ1a|ZY7m|ZY9w|ZY8s => k_is
   case ZY9z => kit_is
   case ZC2q|ZC4t|ZC5b|ZC3c|ZB5x|Zke|ZZ0w|ZY6j|ZZ5r|ZZ4f|ZY8x|ZZ5f|ZY4j|ZZ0e|ZZ5g => k_is
   case ZY9k => kit_is
   case ZC1d|ZC5c|ZC4h|ZC3e|ZB5p|Zkf|ZZ0t|ZZ7b|ZY4z|ZY8u|ZZ7c|ZZ3j|ZZ5j|ZY7s|ZZ4t => k_is
   case ZZ1t => kit_is
   case ZC3x|ZC1v|ZC2k|ZC1b|ZB5v|Zkg|ZZ3h|ZY6e|ZY8k|ZY5x|ZZ5s|ZY6n|ZZ4n|ZY7u|ZY8y => k_is
   case ZZ0m => kit_is
   case ZC4a|ZC3p|ZC5f|ZC2y|ZB5y|Zkh|ZY4k|ZY7n|ZY4d|ZZ4p|ZY7x|ZZ1v|ZY4f|ZZ1y|ZY7r => k_is
   case ZY5q => kit_is
   case ZC1j|ZC2t|ZC4f|ZC1f|ZB5t|Zki|ZZ0x|ZY7w|ZY8g|ZY6t|ZY6f|ZY8p|ZZ3q|ZZ4w|ZZ4d => k_is
   case ZY6b => kit_is
   case ZC4x|ZC4k|ZC3h|ZC4w|ZB5u|Zkj|ZY9t|ZY5v|ZY5t|ZY8n|ZZ0z|ZZ2f|ZY8d|ZY5y|ZZ5w => k_is
   case ZZ3f => kit_is
   case ZC2r|ZC4b|ZC3n|ZC3t|ZB5w|Zkl|ZY5p|ZZ6v|ZZ3p|ZY6s|ZZ3s|ZZ7j|ZZ3e|ZY6u|ZY9h => k_is
   case ZZ2c => kit_is
   case ZC4z|ZC2c|ZC5k|ZC3u|ZB5s|Zkm|ZY7b|ZY6r|ZZ2v|ZY7d|ZY4s|ZY9c|ZZ2w|ZY8r|ZC2g|ZC2u|ZB0g|ZB7p|ZY6x|ZZ1p|ZZ0q|ZY4p|ZZ4g => k_is
   case ZG6a => kit_is
   case ZA9m|ZB0m|ZA8t|ZA8y|ZA3y|ZB4b|ZB3e|ZB4g|ZB2z|ZA6c|ZB0r|ZB0k|ZB0u|ZA9a|ZA4f|ZB3n|ZB2p|ZB2v|ZB4m|ZA6j|ZA9t|ZB0w|ZA9c|ZB0j|ZA4d|ZB3a|ZB2h|ZB3r|ZB2m|ZA6n|ZA9h|ZA9u|ZB0f|ZA9x|ZA4c|ZB2k|ZB2f|ZB2j|ZB2g|ZA6d|ZB0s|ZA9f|ZA9d|ZB0v|ZA4a|ZB4z|ZB4y|ZB3d|ZB2n|ZA6h|ZA9g|ZA8x|ZA9z|ZA8u|ZA4b|ZB3t|ZB4r|ZB4j|ZB4h|ZA6m => k_is
   case ZB0h|ZA9w|ZA8z|ZA9p|ZA4e|ZB2x|ZB4q|ZB3c|ZB3x|ZA6f|ZB0n|ZA9q|ZA9v|ZB0p|ZA3z|ZB3g|ZB3b|ZB2s|ZB4u|ZA6e|Zl6|ZY7h|ZY7z|ZZ4s|ZZ6b|ZY9n|ZY6d|ZC4j|ZC2a|ZB7x|ZC2x|ZB7f|ZA9s|ZZ2a|ZY8v|ZZ2y|ZZ6j|ZZ0p|ZY7c|ZB7b|ZB7j|ZB8c|ZB8p|ZB0x|ZB3v|ZB3q|ZB2w|ZB4e|ZA6g|ZD3d|ZC9x|ZD1n|ZD2e|ZB9p|ZB7k|ZB7r|ZB7a|ZB8d|ZA9j|ZC1t => k_is
   case ZC0y|ZC5j|ZC3w|ZB5r|ZB3f|ZB3u|ZB5a|ZB3h|ZA6k|Zlv|ZY4x|ZY8q|ZY8f|ZZ5p|ZY9q|ZY9p|ZZ5y|ZY4h|ZD0n|ZB4p|ZB8r|ZZ3g|ZZ7e|ZY9m|ZZ6e|ZZ4q|ZJ3v|ZB8h|ZB8t|ZB7e|ZB7h|ZA9y|ZG4z|ZG8r|ZG8j|ZG3m|ZC6z|Zma => k_is
   case ZY6c => kit_is
   case Zd3|Zd8|Zmd|Zd9|ZY6v|Zmh|Zcty|Zccl|Zcex => k_is
   case Zq1|Zq2|Zq3|Zq4 => k_exc
   case Zsub5|Zxga5|Zxgh5|Zxca5|Zxob5|Zxbe5|Zxcl5 => k_is
   case Zqk|Zql|Zqm|Zqo|Zqp|Zhv5 => kit_is
   case ZlT|ZlN => k_is
   case ZalN => simp
   case ZniT|ZlT1|ZsaT|Znsg5|Zdg|Zmw|Zmy => k_is
   case ZfcT => rfl
   case ZkTR => kit_is
   case ZtyT|ZsubT|Za_S|ZlS => k_is
   case ZB5b|ZU5f|ZU1w|ZG7b|ZD2u|ZG7k|ZG3z => kit_is
   case Zsub2|Zxga2|Zxgh2|Zxca2|Zxob2|Zxbe2|Zxcl2 => k_is
   case Zmz|Zm_|Zn8|Zn9|Zng|Zhv2 => kit_is
   case Zsub4|Zxga4|Zxgh4|Zxca4|Zxob4|Zxbe4|Zxcl4 => k_is
   case Znh|Zni|Znj|Znk|Znr|Zhv4 => kit_is
   case Zhcode1|Zhcode2|Zhcode3 => rfl
   case Zne21|Zne13|Zne23 => decide

