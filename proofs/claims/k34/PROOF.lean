import PyProof.Rows.All
import Wide.All
import OpenK.AllK
import Wide.FinOn
import Lean
import PyProof.EqAt
import PyProof.EqKinds
import PyProof.TupleCall
import PyProof.Rows.Catch
import PyProof.Rows.TupIter
import PyProof.TupleIter
import PyProof.Seq
import PyProof.ExcInit
import PyProof.ExcClass2
import KE.KIntText
import PyProof.StrOps2
import PyProof.ConsumeWalk
import PyProof.Rows.RuleM_int
import PyProof.ZipIter
import PyProof.EnumMake
import KE.KLam
import PyProof.StrWalks
import PySem.Challenge.RW_tenreckon_k34_whole_sums_exactly
set_option Elab.async false
set_option linter.all false
set_option maxRecDepth 100000
namespace PySem.W.Fast
theorem tw4872991478759016459:True:=trivial
theorem tw9742970685444172886:True:=trivial
theorem tw17825583083167478484:True:=trivial
theorem tw13254726875201831692:True:=trivial
theorem tw1901264235766753598:True:=trivial
theorem tw861502493610598483:True:=trivial
theorem tw15853837366616553680:True:=trivial
theorem tw8490484478756099655:True:=trivial
theorem tw8600003543474550401:True:=trivial
theorem tw9107843584040042292:True:=trivial
theorem tw4287714661488782239:True:=trivial
theorem tw11518781391428005469:True:=trivial
theorem tw5169156616507760408:True:=trivial
theorem tw10215653194048460750:True:=trivial
theorem tw5313071310948600622:True:=trivial
theorem tw7774113678449685934:True:=trivial
theorem tw12762875093394152760:True:=trivial
theorem tw4466642724621738068:True:=trivial
theorem tw13587151598080963022:True:=trivial
theorem tw4142209100229140859:True:=trivial
theorem tw17426987436379436081:True:=trivial
theorem tw18333273249017474000:True:=trivial
theorem tw7849710539792303170:True:=trivial
theorem tw8413399678365625193:True:=trivial
theorem tw6993901341032043607:True:=trivial
theorem tw16828129974981846989:True:=trivial
theorem tw7666660282419007963:True:=trivial
theorem tw360634875079729221:True:=trivial
theorem tw266865212036300189:True:=trivial
theorem tw14947194896146611133:True:=trivial
theorem tw3335794202401238526:True:=trivial
theorem tw2407462832516094465:True:=trivial
theorem tw11346864328391097527:True:=trivial
theorem tw15764947353670896545:True:=trivial
theorem tw6508179443898474873:True:=trivial
theorem tw10911716485165742097:True:=trivial
theorem tw467448935156912217:True:=trivial
theorem tw14617222483516278133:True:=trivial
theorem tw6880980288501444468:True:=trivial
theorem tw12020253756985099128:True:=trivial
theorem tw18105302477358141223:True:=trivial
theorem tw11824586356888161845:True:=trivial
theorem tw16773468814595293053:True:=trivial
theorem tw7921390202802761869:True:=trivial
theorem tw14993981098963755598:True:=trivial
theorem tw13968170938045774931:True:=trivial
theorem tw13082796549270168242:True:=trivial
theorem tw10551173667578312727:True:=trivial
theorem tw4600438763894957952:True:=trivial
theorem tw256182404569192445:True:=trivial
theorem tw2333531293284704758:True:=trivial
theorem tw556978259743547164:True:=trivial
theorem tw9615563845995560447:True:=trivial
theorem tw15301365947983205823:True:=trivial
theorem tw14383122354028845282:True:=trivial
theorem tw4323258101793500111:True:=trivial
theorem tw6942634455013318504:True:=trivial
theorem tw16636501806038632012:True:=trivial
theorem tw12524954882073270795:True:=trivial
theorem tw17499849576073844966:True:=trivial
theorem tw5483103596317574428:True:=trivial
theorem tw14944914439602882260:True:=trivial
theorem tw7942791058656714990:True:=trivial
theorem tw6508132753307246276:True:=trivial
theorem tw13885670934486923800:True:=trivial
theorem tw7998583776865276027:True:=trivial
theorem tw5909976876416983842:True:=trivial
theorem tw730961619353400375:True:=trivial
theorem tw786537726763496527:True:=trivial
theorem tw1922157984580058403:True:=trivial
theorem tw15173544498738437827:True:=trivial
theorem tw11481637867367846703:True:=trivial
theorem tw8997383693586321770:True:=trivial
theorem tw6657536258744368796:True:=trivial
theorem tw10297410513487048360:True:=trivial
theorem tw15792790952358468732:True:=trivial
theorem tw3721919958574915784:True:=trivial
theorem tw12435058653956393420:True:=trivial
theorem tw13349420017058727143:True:=trivial
theorem tw6575520176995025181:True:=trivial
theorem tw13439652990877377571:True:=trivial
theorem tw15779231459743154856:True:=trivial
theorem tw14261769069557060686:True:=trivial
theorem tw16247262843940693239:True:=trivial
theorem tw429539710256275620:True:=trivial
theorem tw8318101203651539667:True:=trivial
theorem tw6597789921013551971:True:=trivial
theorem tw12772213712371865176:True:=trivial
theorem tw7557421358154311045:True:=trivial
theorem tw15554417296805563061:True:=trivial
theorem tw8996207646774452837:True:=trivial
theorem tw14219159868682941630:True:=trivial
theorem tw10988312798546598065:True:=trivial
theorem tw14671739901194505220:True:=trivial
theorem tw2741014181512449073:True:=trivial
theorem tw16140922888777852060:True:=trivial
theorem tw2941924889016668590:True:=trivial
theorem tw7873748247521183178:True:=trivial
theorem tw13127508451798649013:True:=trivial
theorem tw13872120688422071045:True:=trivial
theorem tw10373885705245885314:True:=trivial
theorem tw14170518179582410385:True:=trivial
theorem tw561727478393794602:True:=trivial
theorem tw11566098044289413073:True:=trivial
theorem tw8331849164307833061:True:=trivial
theorem tw3300454383303005205:True:=trivial
theorem tw6975936660448326822:True:=trivial
theorem tw8834805137890396735:True:=trivial
theorem tw13812277999558781770:True:=trivial
theorem tw9316815775250114193:True:=trivial
theorem tw7764699552788554220:True:=trivial
theorem tw16151628708876355199:True:=trivial
theorem tw3238445694619138142:True:=trivial
theorem tw17334828202450815106:True:=trivial
theorem tw593343749668468936:True:=trivial
theorem tw13861322856664149509:True:=trivial
theorem tw9757595895972200118:True:=trivial
theorem tw14811890972901180937:True:=trivial
theorem tw11502921971960690029:True:=trivial
theorem tw13857218912954019169:True:=trivial
theorem tw3350206127114907401:True:=trivial
theorem tw16035376269474964883:True:=trivial
theorem tw9950792792127014553:True:=trivial
theorem tw8272569733616993153:True:=trivial
theorem tw7867829370405329436:True:=trivial
theorem tw8285278889055680438:True:=trivial
theorem tw2084650752826471497:True:=trivial
theorem tw8432719020341155521:True:=trivial
theorem tw10295913840692754127:True:=trivial
theorem tw10159399881129095643:True:=trivial
theorem tw599730875272715187:True:=trivial
theorem tw4413860948169739490:True:=trivial
theorem tw10146569101766770184:True:=trivial
theorem tw1142673529048489019:True:=trivial
theorem tw15910123707662034135:True:=trivial
theorem tw89384304926431821:True:=trivial
theorem tw6790548231928754058:True:=trivial
theorem tw4760918758764937335:True:=trivial
theorem tw7485256538410118956:True:=trivial
theorem tw1424557424101753480:True:=trivial
theorem tw13669536469129627823:True:=trivial
theorem tw13053770412826190925:True:=trivial
theorem tw14611616552423853409:True:=trivial
theorem tw5341297951324810720:True:=trivial
theorem tw9402243437249704421:True:=trivial
theorem tw9603341474184991614:True:=trivial
theorem tw866717566613908145:True:=trivial
theorem tw15805137534098808535:True:=trivial
theorem tw3136648224631416188:True:=trivial
theorem tw11434409910335936926:True:=trivial
theorem tw28018229315631829:True:=trivial
theorem tw11421057715548341654:True:=trivial
theorem tw3110587219445414310:True:=trivial
theorem tw1401067106901849026:True:=trivial
theorem tw12670982853097334264:True:=trivial
theorem tw1158361714356455011:True:=trivial
theorem tw13135312941875745310:True:=trivial
theorem tw11215392098479208961:True:=trivial
theorem tw8374155422468719031:True:=trivial
theorem tw1979317910248211280:True:=trivial
theorem tw12138319994727072339:True:=trivial
theorem tw4436474186459923750:True:=trivial
theorem tw4859391219904099992:True:=trivial
theorem tw4757880891971583632:True:=trivial
theorem tw16522183678017940807:True:=trivial
theorem tw2595585439558603231:True:=trivial
theorem tw866652123128751154:True:=trivial
theorem tw9404705873571188630:True:=trivial
theorem tw4309217394794523951:True:=trivial
theorem tw8422229294311615681:True:=trivial
theorem tw8431482922422412695:True:=trivial
theorem tw4493901809537577575:True:=trivial
theorem tw14387916025512776202:True:=trivial
theorem tw7374399212775623666:True:=trivial
theorem tw5086489192560080304:True:=trivial
theorem tw9456574344343218679:True:=trivial
theorem tw15675013803050531044:True:=trivial
theorem tw5002640475654186023:True:=trivial
theorem tw14243238205550065757:True:=trivial
theorem tw14022695629967993375:True:=trivial
theorem tw9387514328989991554:True:=trivial
theorem tw5622701340561072331:True:=trivial
theorem tw5217270863462422736:True:=trivial
theorem tw740290905518256060:True:=trivial
theorem tw10624116801336726872:True:=trivial
theorem tw547895379624588593:True:=trivial
theorem tw7422445781565681216:True:=trivial
theorem tw17435391645217708394:True:=trivial
theorem tw1402340071739887797:True:=trivial
theorem tw15806707075529380192:True:=trivial
theorem tw14560624547652848805:True:=trivial
theorem tw2474200967059427378:True:=trivial
theorem tw6548459193220583526:True:=trivial
theorem tw1474264761786122189:True:=trivial
theorem tw15036080040530398195:True:=trivial
theorem tw5725222548895626118:True:=trivial
theorem tw5953359166732830163:True:=trivial
theorem tw354308444213283272:True:=trivial
theorem tw206757683497733573:True:=trivial
theorem tw14537775516033599862:True:=trivial
theorem tw12798174099139212305:True:=trivial
theorem tw11766667032028208565:True:=trivial
theorem tw13141587033338554882:True:=trivial
theorem tw11717715558655726156:True:=trivial
theorem tw10149570385669482864:True:=trivial
theorem tw8278001386518606062:True:=trivial
theorem tw5395340147747708899:True:=trivial
theorem tw6828597562223498359:True:=trivial
theorem tw17318462890700432884:True:=trivial
theorem tw14196522196718054806:True:=trivial
theorem tw3374319085511977134:True:=trivial
theorem tw10713865542653931438:True:=trivial
theorem tw1915925776726481438:True:=trivial
theorem tw15743010393045028110:True:=trivial
theorem tw13322777563574152365:True:=trivial
theorem tw1717767836212652739:True:=trivial
theorem tw7151132215420815488:True:=trivial
theorem tw13813548295540068894:True:=trivial
theorem tw8115137120850386438:True:=trivial
theorem tw9646623106273453227:True:=trivial
theorem tw727553628536289456:True:=trivial
theorem tw6331431999304432861:True:=trivial
theorem tw5342471268416680606:True:=trivial
theorem tw14958820412457663293:True:=trivial
theorem tw4512776594637900181:True:=trivial
theorem tw10470340158578859262:True:=trivial
theorem tw14934011241717051027:True:=trivial
theorem tw1725486776273817318:True:=trivial
theorem tw10792498714594961201:True:=trivial
theorem tw13674586047789940208:True:=trivial
theorem tw17980500129456985241:True:=trivial
theorem tw1998347030407657756:True:=trivial
theorem tw3713540243193553862:True:=trivial
theorem tw12773500944031208451:True:=trivial
theorem tw17760279517084355780:True:=trivial
theorem tw6229817132586351632:True:=trivial
theorem tw10479991185640055810:True:=trivial
theorem tw2950685276103557050:True:=trivial
theorem tw6060609690816243450:True:=trivial
theorem tw9461912720999461741:True:=trivial
theorem tw8757255369765604158:True:=trivial
theorem tw4607425872040536859:True:=trivial
theorem tw2789304352393801511:True:=trivial
theorem tw16753820520455620202:True:=trivial
theorem tw5667099127317398114:True:=trivial
theorem tw11063759124802658401:True:=trivial
theorem tw8392358500681263680:True:=trivial
theorem tw3436067635600285980:True:=trivial
theorem tw14202271707224943307:True:=trivial
theorem tw10958628066121416707:True:=trivial
theorem tw12921946191010883867:True:=trivial
theorem tw14801369171006070438:True:=trivial
theorem tw17382457898008728272:True:=trivial
theorem tw8919978131948313185:True:=trivial
theorem tw12269216009862288129:True:=trivial
theorem tw14938211915633500526:True:=trivial
theorem tw6030501089693204938:True:=trivial
theorem tw7509565986652818475:True:=trivial
theorem tw8191318114535113306:True:=trivial
theorem tw6329614223026926184:True:=trivial
theorem tw896239598344801917:True:=trivial
theorem tw6188973233030003785:True:=trivial
theorem tw11267315532378154396:True:=trivial
theorem tw7001957589650049515:True:=trivial
theorem tw3953844824629472508:True:=trivial
theorem tw14736888041290939073:True:=trivial
theorem tw8319933024895762948:True:=trivial
theorem tw6549852094080907030:True:=trivial
theorem tw13913613514976480042:True:=trivial
theorem tw3233987462203235646:True:=trivial
theorem tw4860023922305330110:True:=trivial
theorem tw17472340661787783526:True:=trivial
theorem tw11408881796089955267:True:=trivial
theorem tw10310341975313369176:True:=trivial
theorem tw140236481695663071:True:=trivial
theorem tw6084841979344569690:True:=trivial
theorem tw8212203176049278890:True:=trivial
theorem tw1825952489489211193:True:=trivial
theorem tw16919654943277366748:True:=trivial
theorem tw17680797132471856694:True:=trivial
theorem tw6822071536725586909:True:=trivial
theorem tw10539347186207431242:True:=trivial
theorem tw3641951560692057861:True:=trivial
theorem tw6408400580700104982:True:=trivial
theorem tw6172094611929405055:True:=trivial
theorem tw5783627655825047438:True:=trivial
theorem tw699815216081779126:True:=trivial
theorem tw15978794797337165890:True:=trivial
theorem tw651700358538967526:True:=trivial
theorem tw4470585836733325578:True:=trivial
theorem tw16086907953836968628:True:=trivial
theorem tw694261584828832409:True:=trivial
theorem tw4884199854448574:True:=trivial
theorem tw17592209452093105858:True:=trivial
theorem tw609457278022895560:True:=trivial
theorem tw8739830900816887780:True:=trivial
theorem tw9689729476882780088:True:=trivial
theorem tw8915285831880473931:True:=trivial
theorem tw7231845647793152400:True:=trivial
theorem tw10988764466652934233:True:=trivial
theorem tw2956708394376553000:True:=trivial
theorem tw10826640976665885199:True:=trivial
theorem tw1198783387198779033:True:=trivial
theorem tw4562827626845409882:True:=trivial
theorem tw7164969610272591079:True:=trivial
theorem tw11161164713144168021:True:=trivial
theorem tw9931937742245647033:True:=trivial
theorem tw2480015634913765671:True:=trivial
theorem tw17292613610259460706:True:=trivial
theorem tw17464319187374939960:True:=trivial
theorem tw8166255043249204926:True:=trivial
theorem tw4683681711962371626:True:=trivial
theorem tw10282777137419654623:True:=trivial
theorem tw18124618509676941091:True:=trivial
theorem tw2827255003249426055:True:=trivial
theorem tw2132029292895624192:True:=trivial
theorem tw3592811809046731828:True:=trivial
theorem tw12550775161083096063:True:=trivial
theorem tw14538725608371270373:True:=trivial
theorem tw16728255500844073214:True:=trivial
theorem tw13462424878891718212:True:=trivial
theorem tw12314708539913122752:True:=trivial
theorem tw7828442866392281868:True:=trivial
theorem tw3919386906821981792:True:=trivial
theorem tw16723463757517087524:True:=trivial
theorem tw2570914705882880060:True:=trivial
theorem tw15012102849882553082:True:=trivial
theorem tw3215387988796971590:True:=trivial
theorem tw16902440903046159558:True:=trivial
theorem tw12903330217458380548:True:=trivial
theorem tw2261719852989239553:True:=trivial
theorem tw5994696166404524948:True:=trivial
theorem tw12459912946257978736:True:=trivial
theorem tw6631347999910079877:True:=trivial
theorem tw4953865588907285216:True:=trivial
theorem tw9381626543082597023:True:=trivial
theorem tw447263597446747957:True:=trivial
theorem tw11402884983299125971:True:=trivial
theorem tw12917704675397863716:True:=trivial
theorem tw5649666937502919571:True:=trivial
theorem tw1932759071263863916:True:=trivial
theorem tw12542895121996172375:True:=trivial
theorem tw15763482434359817770:True:=trivial
theorem tw11095110211248682772:True:=trivial
theorem tw4341293187932698999:True:=trivial
theorem tw5010956058597451964:True:=trivial
theorem tw10859743581388371069:True:=trivial
theorem tw16670775579421159206:True:=trivial
theorem tw14842496431369740429:True:=trivial
theorem tw18335596039185421423:True:=trivial
theorem tw13303234937177203706:True:=trivial
theorem tw2424988045566436242:True:=trivial
theorem tw6046103115902281144:True:=trivial
theorem tw4026147355466621588:True:=trivial
theorem tw16412085850373738351:True:=trivial
theorem tw4598271963242535575:True:=trivial
theorem tw12549542988036985293:True:=trivial
theorem tw9320515035125037321:True:=trivial
theorem tw17338325484393633139:True:=trivial
theorem tw9496581404884138560:True:=trivial
theorem tw211337195705725219:True:=trivial
theorem tw14260533273033392520:True:=trivial
theorem tw3997487885647526937:True:=trivial
theorem tw3985964047577975286:True:=trivial
theorem tw12091130801917272685:True:=trivial
theorem tw13032259773685033708:True:=trivial
theorem tw5221592684559293012:True:=trivial
theorem tw7873786274422454737:True:=trivial
theorem tw7181997581385953548:True:=trivial
theorem tw16060203290454839817:True:=trivial
theorem tw13705283562680751584:True:=trivial
theorem tw1835201335921387983:True:=trivial
theorem tw16145670418848962200:True:=trivial
theorem tw14607143338591219252:True:=trivial
theorem tw13348088958985639553:True:=trivial
theorem tw3308634892276815127:True:=trivial
theorem tw6526287140368922620:True:=trivial
theorem tw14341141199694864594:True:=trivial
theorem tw17590876675597686902:True:=trivial
theorem tw12132596417379514657:True:=trivial
theorem tw7480016910919988345:True:=trivial
theorem tw9433028549170029634:True:=trivial
theorem tw16531682779099013679:True:=trivial
theorem tw9784134513789038367:True:=trivial
theorem tw18248855084332350957:True:=trivial
theorem tw13813618637161013713:True:=trivial
theorem tw15052318979288761249:True:=trivial
theorem tw14332157829676619468:True:=trivial
theorem tw6851275008772768644:True:=trivial
theorem tw8806403697108878469:True:=trivial
theorem tw7900394595670775223:True:=trivial
theorem tw17348111734160510231:True:=trivial
theorem tw8297923619242306668:True:=trivial
theorem tw542563422162235373:True:=trivial
theorem tw6714880395473160397:True:=trivial
theorem tw9317495090193701157:True:=trivial
theorem tw9630203353718772412:True:=trivial
theorem tw7538781388859322016:True:=trivial
theorem tw3801850119919557013:True:=trivial
theorem tw15870398105094248349:True:=trivial
theorem tw10294118229990073760:True:=trivial
theorem tw7592715696027808041:True:=trivial
theorem tw2483420100392427323:True:=trivial
theorem tw15593559885672580101:True:=trivial
theorem tw9304451534382375720:True:=trivial
theorem tw9215358943560890414:True:=trivial
theorem tw12740759652641322565:True:=trivial
theorem tw4334401890000744311:True:=trivial
theorem tw6125853113672642322:True:=trivial
theorem tw11564986514327137767:True:=trivial
theorem tw6522051377940421278:True:=trivial
theorem tw5323657890516693427:True:=trivial
theorem tw4015202173357781934:True:=trivial
theorem tw2694234056635809718:True:=trivial
theorem tw12064304430848566033:True:=trivial
theorem tw11449968299874610285:True:=trivial
theorem tw15438627641174518403:True:=trivial
theorem tw11280630913190679075:True:=trivial
theorem tw17877845533520812795:True:=trivial
theorem tw9223045988441327695:True:=trivial
theorem tw424408320835691240:True:=trivial
theorem tw11024694936033576346:True:=trivial
theorem tw13421457143807847188:True:=trivial
theorem tw5263133172445716209:True:=trivial
theorem tw14404928986312190071:True:=trivial
theorem tw15433366417846715934:True:=trivial
theorem tw6542358382571353910:True:=trivial
theorem tw3297117884562324255:True:=trivial
theorem tw6056707288978253535:True:=trivial
theorem tw8950108695139179302:True:=trivial
theorem tw13855379610559885079:True:=trivial
theorem tw16792556548410726896:True:=trivial
theorem tw18183970276198133131:True:=trivial
theorem tw18328257000508772394:True:=trivial
theorem tw15042883488752021643:True:=trivial
theorem tw8981176238543900561:True:=trivial
theorem tw8185545411690514434:True:=trivial
theorem tw2400638427578300857:True:=trivial
theorem tw1663524305781585820:True:=trivial
theorem tw11153475782318119604:True:=trivial
theorem tw2997492091776894028:True:=trivial
theorem tw1181674027530198351:True:=trivial
theorem tw14520296925931582552:True:=trivial
theorem tw12768989823518198380:True:=trivial
theorem tw4517560463748656503:True:=trivial
theorem tw17260811203177919210:True:=trivial
theorem tw5890639436620234070:True:=trivial
theorem tw6701911527682315725:True:=trivial
theorem tw13037224057902187189:True:=trivial
theorem tw17817366049700826239:True:=trivial
theorem tw8176730645128964420:True:=trivial
theorem tw15235614512728720:True:=trivial
theorem tw11207431853666184334:True:=trivial
theorem tw7322748291113730364:True:=trivial
theorem tw18402647697222807634:True:=trivial
theorem tw17713387462200973399:True:=trivial
theorem tw5462360663327728810:True:=trivial
theorem tw15214748959534726111:True:=trivial
theorem tw17079817176256170043:True:=trivial
theorem tw14903569129155370506:True:=trivial
theorem tw2708214617527550399:True:=trivial
theorem tw6170744672141170255:True:=trivial
theorem tw17351735930882485243:True:=trivial
theorem tw2990168724187919761:True:=trivial
theorem tw9919008367099125623:True:=trivial
theorem tw13931877327420345601:True:=trivial
theorem tw14074196154385387334:True:=trivial
theorem tw14961746396406840608:True:=trivial
theorem tw256976265262469064:True:=trivial
theorem tw1692201390411429781:True:=trivial
theorem tw8737599933303070863:True:=trivial
theorem tw6284410105664486691:True:=trivial
theorem tw4321966507151631593:True:=trivial
theorem tw855453113358079251:True:=trivial
theorem tw6162269159774324313:True:=trivial
theorem tw16298917771340976007:True:=trivial
theorem tw1405720946626083897:True:=trivial
theorem tw14963028359598502718:True:=trivial
theorem tw16203965252921439515:True:=trivial
theorem tw17691633702590694504:True:=trivial
theorem tw443766864951011646:True:=trivial
theorem tw14592624751514493413:True:=trivial
theorem tw8219003486749837733:True:=trivial
theorem tw2868442198168577507:True:=trivial
theorem tw11844019762684407370:True:=trivial
theorem tw1708089923452030704:True:=trivial
theorem tw4547051000311932777:True:=trivial
theorem tw16053306600634468012:True:=trivial
theorem tw6782663255696616371:True:=trivial
theorem tw18293242582946804979:True:=trivial
theorem tw8186657734068701312:True:=trivial
theorem tw11401859456886640639:True:=trivial
theorem tw1956260828630720203:True:=trivial
theorem tw140001813534094272:True:=trivial
theorem tw4186743451310774866:True:=trivial
theorem tw4545961482378311905:True:=trivial
theorem tw15326580083554890809:True:=trivial
theorem tw1840220198017710270:True:=trivial
theorem tw13996866031312336078:True:=trivial
theorem tw16005714805435085966:True:=trivial
theorem tw1207101557538958131:True:=trivial
theorem tw2629151800749243262:True:=trivial
theorem tw14334995849660946996:True:=trivial
theorem tw8232614014015475128:True:=trivial
theorem tw12747814925858328940:True:=trivial
theorem tw16260866306193365299:True:=trivial
theorem tw5522115075389312692:True:=trivial
theorem tw5992840812097835891:True:=trivial
theorem tw4313010194945074917:True:=trivial
theorem tw11266997524610791606:True:=trivial
theorem tw14398111036562950334:True:=trivial
theorem tw2692750590507578028:True:=trivial
theorem tw9969077435446430640:True:=trivial
theorem tw12132732476715806282:True:=trivial
theorem tw7212858340449540239:True:=trivial
theorem tw890339118813698166:True:=trivial
theorem tw4734895289157585001:True:=trivial
theorem tw4333590680753393835:True:=trivial
theorem tw172746767574481773:True:=trivial
theorem tw6148498323302512570:True:=trivial
theorem tw9003107776662980439:True:=trivial
theorem tw4051853165826885262:True:=trivial
theorem tw14819390147424179368:True:=trivial
theorem tw15932183184989994656:True:=trivial
theorem tw506581581156960101:True:=trivial
theorem tw12826555694032677247:True:=trivial
theorem tw14154597600763967237:True:=trivial
theorem tw8908233856664302321:True:=trivial
theorem tw15565715512253457277:True:=trivial
theorem tw14553807712399142462:True:=trivial
theorem tw6469784823511061222:True:=trivial
theorem tw10085292869130188298:True:=trivial
theorem tw5498123283257192965:True:=trivial
theorem tw12727641955093265886:True:=trivial
theorem tw16132249320637822498:True:=trivial
theorem tw15702583709834301711:True:=trivial
theorem tw17397653436517662659:True:=trivial
theorem tw14845619989558847073:True:=trivial
theorem tw10095894221667365369:True:=trivial
theorem tw13769103115541136327:True:=trivial
theorem tw14827714588952709054:True:=trivial
theorem tw9104974531708491489:True:=trivial
theorem tw16860917588515726111:True:=trivial
theorem tw11489344026974618541:True:=trivial
theorem tw5444512763150141072:True:=trivial
theorem tw5404398260228975080:True:=trivial
theorem tw7220529860990300233:True:=trivial
theorem tw4903002758410956813:True:=trivial
theorem tw523537741815420091:True:=trivial
theorem tw3543459598558145280:True:=trivial
theorem tw977512076041815475:True:=trivial
theorem tw12099505692703838030:True:=trivial
theorem tw1950803216711332702:True:=trivial
theorem tw12431713363859531893:True:=trivial
theorem tw6128145076113358165:True:=trivial
theorem tw12330612334027959195:True:=trivial
theorem tw15504105790966721872:True:=trivial
theorem tw10879749546641988924:True:=trivial
theorem tw772564365185477556:True:=trivial
theorem tw12301033059052437259:True:=trivial
theorem tw5467331546851215429:True:=trivial
theorem tw4483904966330829159:True:=trivial
theorem tw18073898193381586223:True:=trivial
theorem tw1719895430356276633:True:=trivial
theorem tw3369321489733940265:True:=trivial
theorem tw2466311954974566718:True:=trivial
theorem tw8565224436197482051:True:=trivial
theorem tw8972062959192195235:True:=trivial
theorem tw14294133066467233204:True:=trivial
theorem tw6259241058660970061:True:=trivial
theorem tw8222940686941784037:True:=trivial
theorem tw10387345722656961088:True:=trivial
theorem tw938635154573522699:True:=trivial
theorem tw11107512795663914464:True:=trivial
theorem tw5805800948307579973:True:=trivial
theorem tw15969335453137586327:True:=trivial
theorem tw10395332584310045583:True:=trivial
theorem tw11898673842065290130:True:=trivial
theorem tw13601115934706021691:True:=trivial
theorem tw10698057553749749337:True:=trivial
theorem tw17852080271459398996:True:=trivial
theorem tw2228412568605170491:True:=trivial
theorem tw12960429369202013873:True:=trivial
theorem tw18418582437962087742:True:=trivial
theorem tw10341888390210383824:True:=trivial
theorem tw9678289623588505577:True:=trivial
theorem tw1467881925912835984:True:=trivial
theorem tw12884060626414724322:True:=trivial
theorem tw5285915839522022235:True:=trivial
theorem tw17577329170770402720:True:=trivial
theorem tw5832146486336120021:True:=trivial
theorem tw2768188642542392010:True:=trivial
theorem tw14833712730911297017:True:=trivial
theorem tw14036186469904095446:True:=trivial
theorem tw17883462748017686043:True:=trivial
theorem tw2595618661548880785:True:=trivial
theorem tw3581434408401558974:True:=trivial
theorem tw11853640710764476214:True:=trivial
theorem tw16108870410212019532:True:=trivial
theorem tw7476452910721959123:True:=trivial
theorem tw16409965706819354750:True:=trivial
theorem tw1864683662541468164:True:=trivial
theorem tw2244103112122482387:True:=trivial
theorem tw8159993647027272844:True:=trivial
theorem tw11962351593759143498:True:=trivial
theorem tw16120054744476736488:True:=trivial
theorem tw2455152089536381482:True:=trivial
theorem tw11429584451438056573:True:=trivial
theorem tw10510056951384868246:True:=trivial
theorem tw15861351967447197489:True:=trivial
theorem tw4211115844707057057:True:=trivial
theorem tw18146532975450069615:True:=trivial
theorem tw13757698761724263525:True:=trivial
theorem tw306047672372848657:True:=trivial
theorem tw14782954611325821827:True:=trivial
theorem tw16682895059504647277:True:=trivial
theorem tw5702276774652866934:True:=trivial
theorem tw17137270108147033825:True:=trivial
theorem tw2046362190076281809:True:=trivial
theorem tw4524658085876675188:True:=trivial
theorem tw12715800853834201459:True:=trivial
theorem tw8356303796347215682:True:=trivial
theorem tw10861573186032746274:True:=trivial
theorem tw7501186508268903616:True:=trivial
theorem tw4561898282857576226:True:=trivial
theorem tw9768418358887946270:True:=trivial
theorem tw4946147512530127568:True:=trivial
theorem tw18157406047293677543:True:=trivial
theorem tw1607123104830579860:True:=trivial
theorem tw18031968618487185184:True:=trivial
theorem tw11373181179767321252:True:=trivial
theorem tw2773992215795510196:True:=trivial
theorem tw9584292182412213727:True:=trivial
theorem tw12315944733273679750:True:=trivial
theorem tw14018474193460605799:True:=trivial
theorem tw643336161829623379:True:=trivial
theorem tw10374632558016547081:True:=trivial
theorem tw6557801498797044033:True:=trivial
theorem tw16217903435359918192:True:=trivial
theorem tw8002303944043701648:True:=trivial
theorem tw2080317491765294665:True:=trivial
theorem tw7943549864190904611:True:=trivial
theorem tw13055953723892786844:True:=trivial
theorem tw18101783494082082527:True:=trivial
theorem tw11907897558876765624:True:=trivial
theorem tw11468729153070441980:True:=trivial
theorem tw10026605065719503897:True:=trivial
theorem tw10611411778653204182:True:=trivial
theorem tw14424681132571578402:True:=trivial
theorem tw4565167180653195659:True:=trivial
theorem tw14935156969734317764:True:=trivial
theorem tw12627051441459223148:True:=trivial
theorem tw4267111383703672358:True:=trivial
theorem tw16925712312323332580:True:=trivial
theorem tw9510108024173832781:True:=trivial
theorem tw14594842627406614536:True:=trivial
theorem tw622995879521568732:True:=trivial
theorem tw16101134707931498060:True:=trivial
theorem tw9879335643197240621:True:=trivial
theorem tw7007286002206832825:True:=trivial
theorem tw13257283266767686631:True:=trivial
theorem tw14441679199631801671:True:=trivial
theorem tw3419001889969749887:True:=trivial
theorem tw4684226298888400098:True:=trivial
theorem tw14785633479632635281:True:=trivial
theorem tw2187251505897268136:True:=trivial
theorem tw12125097214300078407:True:=trivial
theorem tw16766484511958638138:True:=trivial
theorem tw2135409205425526673:True:=trivial
theorem tw2144661209622563809:True:=trivial
theorem tw8122695690928665766:True:=trivial
theorem tw11525993766095887173:True:=trivial
theorem tw4548300405975405348:True:=trivial
theorem tw8185220541750880888:True:=trivial
theorem tw9045458381397004210:True:=trivial
theorem tw15127105006835628225:True:=trivial
theorem tw5438652380644606353:True:=trivial
theorem tw14647417624928369756:True:=trivial
theorem tw16493865465440409018:True:=trivial
theorem tw5274481202262711730:True:=trivial
theorem tw3270257207059953099:True:=trivial
theorem tw6953138203311097117:True:=trivial
theorem tw14904681115217272601:True:=trivial
theorem tw7053471978191194526:True:=trivial
theorem tw8006371003960147343:True:=trivial
theorem tw2925816871977632210:True:=trivial
theorem tw14935467056822913822:True:=trivial
theorem tw16279288168775177219:True:=trivial
theorem tw12468840222048715292:True:=trivial
theorem tw3075201292733833056:True:=trivial
theorem tw15925456577456769635:True:=trivial
theorem tw6651725471809605288:True:=trivial
theorem tw14564479935002850509:True:=trivial
theorem tw9116068151291705539:True:=trivial
theorem tw18003772858949239459:True:=trivial
theorem tw13343918040275786880:True:=trivial
theorem tw10876078143196172821:True:=trivial
theorem tw16109456028575089023:True:=trivial
theorem tw4849480874435393781:True:=trivial
theorem tw6327569006664949090:True:=trivial
theorem tw8899516883271353254:True:=trivial
theorem tw5362036446546632119:True:=trivial
theorem tw10236332898609347644:True:=trivial
theorem tw16746677531222629524:True:=trivial
theorem tw8752102160057688731:True:=trivial
theorem tw18310463660012746435:True:=trivial
theorem tw8733291241859026926:True:=trivial
theorem tw4635989785427082552:True:=trivial
theorem tw11524815483048965402:True:=trivial
theorem tw12717557048674177747:True:=trivial
theorem tw87601786513091389:True:=trivial
theorem tw2527701527901579348:True:=trivial
theorem tw5537553045615171315:True:=trivial
theorem tw15402603294489630176:True:=trivial
theorem tw15499940227032437249:True:=trivial
theorem tw6128106870883400570:True:=trivial
theorem tw17937168697417666835:True:=trivial
theorem tw18095796173783872564:True:=trivial
theorem tw8757050672659960515:True:=trivial
theorem tw3042748168174471775:True:=trivial
theorem tw17986951261819808105:True:=trivial
theorem tw17862349074038704544:True:=trivial
theorem tw17518593693041627797:True:=trivial
theorem tw12528533614272120300:True:=trivial
theorem tw15685335758407661847:True:=trivial
theorem tw15401437161963490237:True:=trivial
theorem tw4804111812005502284:True:=trivial
theorem tw3382625519597670723:True:=trivial
theorem tw17013487888433625170:True:=trivial
theorem tw16309811473084048462:True:=trivial
theorem tw17916429707943930468:True:=trivial
theorem tw6208910965292489261:True:=trivial
theorem tw16839002366802243188:True:=trivial
theorem tw4290864757253303354:True:=trivial
theorem tw4077048163395320219:True:=trivial
theorem tw3520257249291928256:True:=trivial
theorem tw8060666987683057360:True:=trivial
theorem tw14284835775768690865:True:=trivial
theorem tw16822532161544500889:True:=trivial
theorem tw13298828918039433023:True:=trivial
theorem tw12188032599808994241:True:=trivial
theorem tw12461081396071149458:True:=trivial
theorem tw2358075552688931204:True:=trivial
theorem tw14689541978594310382:True:=trivial
theorem tw17188069144378779261:True:=trivial
theorem tw10741264400317747893:True:=trivial
theorem tw2399617604181995578:True:=trivial
theorem tw11707130962622978684:True:=trivial
theorem tw18384110700954362821:True:=trivial
theorem tw15240619367488684849:True:=trivial
theorem tw15166322114958858414:True:=trivial
theorem tw15621415185263527259:True:=trivial
theorem tw13034982811429478159:True:=trivial
theorem tw12887044766017154078:True:=trivial
theorem tw4971374062829452455:True:=trivial
theorem tw12681666616541194006:True:=trivial
theorem tw7217548393331319763:True:=trivial
theorem tw8047209995159408440:True:=trivial
theorem tw7050804516273991350:True:=trivial
theorem tw16583815154217966991:True:=trivial
theorem tw5239429619861171699:True:=trivial
theorem tw9592521066531166775:True:=trivial
theorem tw5662061979359257339:True:=trivial
theorem tw9461873434466728008:True:=trivial
theorem tw12750670339961964742:True:=trivial
theorem tw11308061921803828041:True:=trivial
theorem tw11692469974320434101:True:=trivial
theorem tw13459084325293418506:True:=trivial
theorem tw18383651708701053236:True:=trivial
theorem tw7350462372000428638:True:=trivial
theorem tw4075453323654395381:True:=trivial
theorem tw5037459499596335280:True:=trivial
theorem tw17823556299335049440:True:=trivial
theorem tw2295934692909999376:True:=trivial
theorem tw12954591660760965231:True:=trivial
theorem tw13946496683202179788:True:=trivial
theorem tw8428246938381088814:True:=trivial
theorem tw15577281813014381367:True:=trivial
theorem tw3300257896294614128:True:=trivial
theorem tw5610444585433571239:True:=trivial
theorem tw2172276787581067923:True:=trivial
theorem tw2392593158011319353:True:=trivial
theorem tw18407495941553956032:True:=trivial
theorem tw15831126876759372255:True:=trivial
theorem tw9201617497623189827:True:=trivial
theorem tw12298192366917762067:True:=trivial
theorem tw13444670453868202053:True:=trivial
theorem tw18441984877410159329:True:=trivial
theorem tw17155049476370652306:True:=trivial
theorem tw10886659093417053267:True:=trivial
theorem tw9592300441314626372:True:=trivial
theorem tw17163426234232328066:True:=trivial
theorem tw2107523057676978006:True:=trivial
theorem tw17170472223608059050:True:=trivial
theorem tw7607420049574824106:True:=trivial
theorem tw6194202620331982285:True:=trivial
theorem tw2846267367221353805:True:=trivial
theorem tw86012387029904805:True:=trivial
theorem tw6325675986683464353:True:=trivial
theorem tw384561282630992784:True:=trivial
theorem tw6690350156832105676:True:=trivial
theorem tw10016166984437732892:True:=trivial
theorem tw10510019762269167821:True:=trivial
theorem tw16955839230299176341:True:=trivial
theorem tw5449563278759341024:True:=trivial
theorem tw16802631365582062104:True:=trivial
theorem tw17187875760726034783:True:=trivial
theorem tw14746253646979254834:True:=trivial
theorem tw296083027919845158:True:=trivial
theorem tw446995266069924076:True:=trivial
theorem tw8535803893964050539:True:=trivial
theorem tw16873086082458093902:True:=trivial
theorem tw10888863842102328177:True:=trivial
theorem tw6798380500665416597:True:=trivial
theorem tw1630143524128594353:True:=trivial
theorem tw13385558918117058561:True:=trivial
theorem tw4382473104129494423:True:=trivial
theorem tw13831308528885131752:True:=trivial
theorem tw6984818610989830729:True:=trivial
theorem tw9972681490609642005:True:=trivial
theorem tw10953238642706405951:True:=trivial
theorem tw3365755272349913518:True:=trivial
theorem tw5233118043267047457:True:=trivial
theorem tw2781441929908095834:True:=trivial
theorem tw1000662321505670351:True:=trivial
theorem tw14391293386007564604:True:=trivial
theorem tw16422413458241162112:True:=trivial
theorem tw3652199383789512132:True:=trivial
theorem tw11076892268299887525:True:=trivial
theorem tw5000232492035539693:True:=trivial
theorem tw17062427158221528723:True:=trivial
theorem tw9358312197846296583:True:=trivial
theorem tw12738610918357793766:True:=trivial
theorem tw628631919661052299:True:=trivial
theorem tw11263768400469242888:True:=trivial
theorem tw2597523674469684444:True:=trivial
theorem tw9536688357841153863:True:=trivial
theorem tw2314633323536394700:True:=trivial
theorem tw5459702643516471331:True:=trivial
theorem tw13567515925198824819:True:=trivial
theorem tw16607193741793207195:True:=trivial
theorem tw14226173905949225808:True:=trivial
theorem tw726351398001015727:True:=trivial
theorem tw15895094517606616290:True:=trivial
theorem tw12652081859355081885:True:=trivial
theorem tw12930229547647579594:True:=trivial
theorem tw13622603851894308203:True:=trivial
theorem tw908480701973217441:True:=trivial
theorem tw11120740854625124088:True:=trivial
theorem tw11219443903484984970:True:=trivial
theorem tw247591363613054380:True:=trivial
theorem tw8498532028676091811:True:=trivial
theorem tw640624198105042115:True:=trivial
theorem tw1599053048872161195:True:=trivial
theorem tw10052031235695348791:True:=trivial
theorem tw5694767641087392711:True:=trivial
theorem tw11066385474520676512:True:=trivial
theorem tw16378183091871739711:True:=trivial
theorem tw6702445572142316249:True:=trivial
theorem tw12669407529647801677:True:=trivial
theorem tw4993863958327201973:True:=trivial
theorem tw6105849179199505303:True:=trivial
theorem tw14664691819916384248:True:=trivial
theorem tw12408111787983249662:True:=trivial
theorem tw5008593111378822452:True:=trivial
theorem tw15621116118777243554:True:=trivial
theorem tw6420159726195949164:True:=trivial
theorem tw7249310025045793396:True:=trivial
theorem tw18004296560267143027:True:=trivial
theorem tw6858818405166986180:True:=trivial
theorem tw5960047855520388891:True:=trivial
theorem tw4772062507164038959:True:=trivial
theorem tw15142666989864626641:True:=trivial
theorem tw17613222154834848340:True:=trivial
theorem tw2931988195819169919:True:=trivial
theorem tw16003985067176294414:True:=trivial
theorem tw5289818103960998278:True:=trivial
theorem tw5872530126848033075:True:=trivial
theorem tw4704452742865826424:True:=trivial
theorem tw9796564346219866840:True:=trivial
theorem tw13956191218907399338:True:=trivial
theorem tw17360015989920007124:True:=trivial
theorem tw13142635158332540280:True:=trivial
theorem tw15541240446876304647:True:=trivial
theorem tw14849461344987154502:True:=trivial
theorem tw9947508896943372755:True:=trivial
theorem tw11317637306720784765:True:=trivial
theorem tw13557862171009465336:True:=trivial
theorem tw10842938092177581297:True:=trivial
theorem tw9331231397406362311:True:=trivial
theorem tw9553971096990549364:True:=trivial
theorem tw2403389108928632939:True:=trivial
theorem tw8480184845173159842:True:=trivial
theorem tw463774138113389760:True:=trivial
theorem tw8924819469995637033:True:=trivial
theorem tw17312402878845073609:True:=trivial
theorem tw13465540834166320765:True:=trivial
theorem tw3992765435912101610:True:=trivial
theorem tw8995945545434573385:True:=trivial
theorem tw1835071406663858368:True:=trivial
theorem tw6472337539984862722:True:=trivial
theorem tw615563214671542189:True:=trivial
theorem tw11513857634932158529:True:=trivial
theorem tw6094820017090691545:True:=trivial
theorem tw3049343062529576306:True:=trivial
theorem tw14135006944967825841:True:=trivial
theorem tw3475869608268796686:True:=trivial
theorem tw17483705464198625004:True:=trivial
theorem tw1205274952441263945:True:=trivial
theorem tw10312438410070409164:True:=trivial
theorem tw1495895850433845275:True:=trivial
theorem tw4944497897694004105:True:=trivial
theorem tw12058884036946728934:True:=trivial
theorem tw11205608169257636508:True:=trivial
theorem tw5388589039460942527:True:=trivial
theorem tw17963105932079019327:True:=trivial
theorem tw2353497105660221152:True:=trivial
theorem tw991626836265849350:True:=trivial
theorem tw1848955828906020544:True:=trivial
theorem tw14479964200598819128:True:=trivial
theorem tw2997480634906808460:True:=trivial
theorem tw6145912378217320015:True:=trivial
theorem tw16765560720781731146:True:=trivial
theorem tw1972164579936704799:True:=trivial
theorem tw9744259246892133002:True:=trivial
theorem tw3831019782443316194:True:=trivial
theorem tw2646887283097553488:True:=trivial
theorem tw14172470266813156586:True:=trivial
theorem tw12396662096508845406:True:=trivial
theorem tw13437419889732721216:True:=trivial
theorem tw6900931685637148767:True:=trivial
theorem tw6968137755033780318:True:=trivial
theorem tw3846801734645722302:True:=trivial
theorem tw12382822922155266910:True:=trivial
theorem tw9252304221032618942:True:=trivial
theorem tw13366278800048369731:True:=trivial
theorem tw2869065659524454656:True:=trivial
theorem tw4699756791338806529:True:=trivial
theorem tw16902085369446701243:True:=trivial
theorem tw9959121941294770655:True:=trivial
theorem tw2259672571474061568:True:=trivial
theorem tw11153126096140912846:True:=trivial
theorem tw8912161614967838395:True:=trivial
theorem tw7787813539459594420:True:=trivial
theorem tw4449297822257671152:True:=trivial
theorem tw2759284407945088205:True:=trivial
theorem tw6945566481307383155:True:=trivial
theorem tw13313058339493701161:True:=trivial
theorem tw3277229846650655979:True:=trivial
theorem tw8833860146974802555:True:=trivial
theorem tw2386784164831690217:True:=trivial
theorem tw4096438862311573950:True:=trivial
theorem tw5137589814051832496:True:=trivial
theorem tw6216382948874008006:True:=trivial
theorem tw3676754643040562684:True:=trivial
theorem tw1891733041441978011:True:=trivial
theorem tw15752536640612570366:True:=trivial
theorem tw11911167908941700269:True:=trivial
theorem tw14081431093454284249:True:=trivial
theorem tw5072417060200589145:True:=trivial
theorem tw13547939009206843870:True:=trivial
theorem tw14760874974797668852:True:=trivial
theorem tw1070438729232803039:True:=trivial
theorem tw3778530596728393105:True:=trivial
theorem tw18094105663378112561:True:=trivial
theorem tw6356304189028158447:True:=trivial
theorem tw1937721966566455358:True:=trivial
theorem tw16212330677787901120:True:=trivial
theorem tw13215348057498601715:True:=trivial
theorem tw3851428956369438258:True:=trivial
theorem tw13160504802963445071:True:=trivial
theorem tw514280064592716601:True:=trivial
theorem tw2015444344454546412:True:=trivial
theorem tw1205604411410820431:True:=trivial
theorem tw3717076922277056940:True:=trivial
theorem tw4039707410889071942:True:=trivial
theorem tw5449601097390414333:True:=trivial
theorem tw6278996535519779258:True:=trivial
theorem tw14727194681476072466:True:=trivial
theorem tw14859695947638507448:True:=trivial
theorem tw14847308668706973960:True:=trivial
theorem tw8521684928402303493:True:=trivial
theorem tw17659185236578331656:True:=trivial
theorem tw10161179621583223854:True:=trivial
theorem tw7792700002687035005:True:=trivial
theorem tw539538531456391632:True:=trivial
theorem tw15481805183316651443:True:=trivial
theorem tw14546174082565282566:True:=trivial
theorem tw11662115353561507501:True:=trivial
theorem tw5711038861398032994:True:=trivial
theorem tw7424060955962978353:True:=trivial
theorem tw3236729772642805936:True:=trivial
theorem tw209982475168477708:True:=trivial
theorem tw5634867526602368427:True:=trivial
theorem tw3897268976836264337:True:=trivial
theorem tw15495752065017430504:True:=trivial
theorem tw7837367980739423823:True:=trivial
theorem tw13069393092227542028:True:=trivial
theorem tw12770481643036789091:True:=trivial
theorem tw15267169705364848929:True:=trivial
theorem tw10576836333797772347:True:=trivial
theorem tw9860861378791804195:True:=trivial
theorem tw4063829332388037331:True:=trivial
theorem tw16626521671886133394:True:=trivial
end PySem.W.Fast
section
open PySem PySem.W PyProof.Rows
set_option maxRecDepth 100000 in
set_option maxHeartbeats 0 in
open_top hd for PySem.Challenge.rw_tenreckon_k34_whole_sums_exactly
end
namespace L2
open PySem PySem.Spec PyProof.Rows
abbrev Key := Sum Int Str
def A0hf : Key -> Value -> Bool
 | .inl k, v => Value.isInt k v
 | .inr x, v => Value.isStrOf x v
def keyH (w : World) : Key -> Int
 | .inl k => hashInt k
 | .inr x => hashStr w x
theorem V1 : ∀ {k : Key} {v : Value}, A0hf k v = true -> (∃ i t, k = Sum.inl i /\ v = Value.int i t) \/ (∃ x t, k = Sum.inr x /\ v = Value.str x t)
 | .inl i, v, h => by
   obtain ⟨t, e⟩ := Value.isInt_shape (k := i) (v := v) h
   exact .inl ⟨i, t, rfl, e⟩
 | .inr x, v, h => by
   obtain ⟨t, e⟩ := Value.isStrOf_shape (x := x) (v := v) h
   exact .inr ⟨x, t, rfl, e⟩
theorem A0hq (a b : Int) : decide ((Sum.inl a : Key) = Sum.inl b) = (a == b) := by
 by_cases e : a = b
 . subst e; simp
 . have h : ¬ (Sum.inl a : Key) = Sum.inl b := fun q => e (Sum.inl.inj q)
   rw [decide_eq_false h]
   exact (beq_eq_false_iff_ne.mpr e).symm
theorem A0hw (a b : Str) : decide ((Sum.inr a : Key) = Sum.inr b) = decide (a = b) := by
 by_cases e : a = b
 . subst e; simp
 . have h : ¬ (Sum.inr a : Key) = Sum.inr b := fun q => e (Sum.inr.inj q)
   rw [decide_eq_false h, decide_eq_false e]
theorem A0ks (a : Int) (b : Str) : decide ((Sum.inl a : Key) = Sum.inr b) = false := decide_eq_false (fun q => nomatch q)
theorem A0kf (a : Str) (b : Int) : decide ((Sum.inr a : Key) = Sum.inl b) = false := decide_eq_false (fun q => nomatch q)
def U9d (prog : Program) (w : World) : PySem.KeyKind prog w Key where
 is := A0hf
 hash := keyH w
 inj := fun v a b ha hb => by
   rcases V1 ha with ⟨i, t, rfl, rfl⟩ | ⟨x, t, rfl, rfl⟩
   . rcases V1 hb with ⟨j, u, rfl, e⟩ | ⟨y, u, rfl, e⟩
     . injection e with e1 _; rw [e1]
     . exact nomatch e
   . rcases V1 hb with ⟨j, u, rfl, e⟩ | ⟨y, u, rfl, e⟩
     . exact nomatch e
     . injection e with e1 _; rw [e1]
 byValue := fun k v h => by
   rcases V1 h with ⟨i, t, rfl, rfl⟩ | ⟨x, t, rfl, rfl⟩ <;> rfl
 pyHash := fun hv h => by
   rcases V1 hv with ⟨i, t, rfl, rfl⟩ | ⟨x, t, rfl, rfl⟩
   . exact wpAny_pyHash_int h
   . exact wpAny_pyHash_str h
 eqBool := fun hu hv h => by
   rcases V1 hu with ⟨i, t, rfl, rfl⟩ | ⟨x, t, rfl, rfl⟩
   . rcases V1 hv with ⟨j, u, rfl, rfl⟩ | ⟨y, u, rfl, rfl⟩
     . rw [A0hq] at h; exact wpAny_eqBool_int h
     . rw [A0ks] at h; exact SeqAt.EqAt.int_str i t y u _ _ _ _ h
   . rcases V1 hv with ⟨j, u, rfl, rfl⟩ | ⟨y, u, rfl, rfl⟩
     . rw [A0kf] at h; exact SeqAt.EqAt.str_int x t j u _ _ _ _ h
     . rw [A0hw] at h; exact wpAny_eqBool_str h
 «strs» := fun k x t v h => by
   rcases V1 h with ⟨i, u, rfl, e⟩ | ⟨y, u, rfl, e⟩
   . exact nomatch e
   . injection e with e1 _
     subst e1
     cases v <;> rfl
inductive V where
 | non | bl (b : Bool) | int (i : Int) | str (x : Str) | byt (b : Array UInt8) | flt (b : UInt64) | ref (a : Addr) | ty (n : String)
 deriving DecidableEq
def RelV : V -> Value -> Prop
 | .non, u => u = Value.none
 | .bl b, u => u = Value.bool b
 | .int i, u => ∃ t, u = Value.int i t
 | .str x, u => ∃ t, u = Value.str x t
 | .byt b, u => ∃ t, u = Value.bytes b t
 | .flt b, u => ∃ t, u = Value.float b t
 | .ref a, u => u = Value.ref a
 | .ty n, u => u = Value.type n
abbrev Vals : List V -> List Value -> Prop := Paired RelV
theorem Vals.length {xs : List V} {us : List Value} (r : Vals xs us) : xs.length = us.length := Paired.length r
theorem Vals.get : ∀ {xs : List V} {us : List Value} {i : Nat} {x : V}, Vals xs us -> xs[i]? = some x -> ∃ u, us[i]? = some u /\ RelV x u
 | _, _, _, _, .nil, e => by simp at e
 | _, _, 0, _, .cons r _, e => by simp at e; subst e; exact ⟨_, rfl, r⟩
 | _, _, i + 1, x, .cons _ t, e => by
   obtain ⟨u, h1, h2⟩ := Vals.get (i := i) (x := x) t (by simpa using e)
   exact ⟨u, by simpa using h1, h2⟩
theorem Vals.set {x : V} {u : Value} (r : RelV x u) : ∀ {xs : List V} {us : List Value} (i : Nat), Vals xs us -> Vals (xs.set i x) (us.set i u)
 | _, _, _, .nil => .nil
 | _, _, 0, .cons _ t => .cons r t
 | _, _, i + 1, .cons q t => .cons q (Vals.set r i t)
theorem Vals.append : ∀ {xs ys : List V} {us ws : List Value}, Vals xs us -> Vals ys ws -> Vals (xs ++ ys) (us ++ ws)
 | _, _, _, _, .nil, s => s
 | _, _, _, _, .cons r t, s => .cons r (Vals.append t s)
def RelO : Option V -> Option Value -> Prop
 | some v, some u => RelV v u
 | none, none => True
 | _, _ => False
def KV {κ : Type} : List (κ × V) -> List (κ × Value) -> Prop := Paired fun (p : κ × V) (q : κ × Value) => p.1 = q.1 /\ RelV p.2 q.2
def kV : Key -> V
 | .inl i => .int i
 | .inr x => .str x
inductive HO where
 | lst (xs : List V)
 | tup (xs : List V)
 | dK (kvs : List (Key × V)) | dT (kvs : List (List Key × V))
 | set (S : Int -> Bool) (n : Nat)
 | ins (C dx : Addr) (fs : List (Str × V))
 | own (x : Addr)
 | xd (fs : List (Str × V))
 | met (f x : Addr)
 | rng (lo hi : Int)
 | frz (o : Obj) (u : HO)
 | tbl (ps : Array Value)
 | ext (φ : Heap -> Prop)
abbrev Hp := Addr -> Option HO
def upd (H : Hp) (a : Addr) (o : HO) : Hp := fun b => if b = a then some o else H b
theorem A6 {H : Hp} {a : Addr} {o : HO} : upd H a o a = some o := by unfold upd; rw [if_pos rfl]
theorem D5 {H : Hp} {a b : Addr} {o : HO} (h : b ≠ a) : upd H a o b = H b := by unfold upd; rw [if_neg h]
theorem A0at {H : Hp} {a : Addr} {o u : HO} : upd (upd H a o) a u = upd H a u := by
 funext b; unfold upd; split <;> rfl
theorem A8r {H : Hp} {a b : Addr} {o u : HO} (h : H a = some o) (h' : H b = some u) (d : o ≠ u) : a ≠ b := by
 intro e; subst e; rw [h] at h'; exact d (Option.some.inj h')
theorem G2 {H : Hp} {a b : Addr} {o : HO} (h : H a = some o) (h' : H b = none) : a ≠ b := by
 intro e; subst e; rw [h] at h'; cases h'
section
variable (P : Program) (w : World)
def ObjOk (H : Hp) (h : Heap) (a : Addr) : HO -> Prop
 | .lst xs => xs.length <= sizeLine /\ ∃ (its : List Value) (n : Nat), Vals xs its /\ h.get? a = some { cls := .type "list", data := .seq its.toArray n }
 | .tup xs => xs.length <= sizeLine /\ ∃ its : List Value, Vals xs its /\ IsTup h a its.toArray
 | .dK kvs => kvs.length <= sizeLine /\ (a == sysModules) = false /\ ∃ vs, KV kvs vs /\ h.DictOf (U9d P w) a vs
 | .dT kvs => kvs.length <= sizeLine /\ (a == sysModules) = false /\ ∃ xs : List (List Key × Addr × Value),
     Paired (fun (p : List Key × V) (q : List Key × Addr × Value) => p.1 = q.1 /\ H q.2.1 = some (.tup (p.1.map kV)) /\ RelV p.2 q.2.2) kvs xs /\
     ∃ o es ep, h.get? a = some o /\ o.ExactDict /\ o.data = .dict es ep /\ es.toList = xs.map (entryOfKey (tupleKind (U9d P w))) /\ (xs.map (·.1)).Nodup
 | .set S n => h.SetOf (intKind P w) a S n
 | .ins C dx fs => H dx = some (.own a) /\ fs.length <= 1000 /\ dx ≠ a /\ h.get? a = some (PySem.W.instObj C dx) /\
     ∃ mA, h.Ns1 dx mA /\ (∀ f, RelO (fs.lookup f) (mA f)) /\ PySem.Within mA (fs.map (·.1))
 | .own _ => ∃ o, h.get? a = some o
 | .xd fs => ∃ mA, h.Ns1 a mA /\ ∀ f, RelO (fs.lookup f) (mA f)
 | .rng lo hi => ∃ t u v, h.get? a = some { cls := .type "range", data := .fields #[.int lo t, .int hi u, .int 1 v] }
 | .frz o u => h.get? a = some o /\ ObjOk H h a u
 | .tbl ps => h.get? a = some { cls := .none, data := .fields ps }
 | .met f x => h.get? a = some (PySem.W.methodObj (.ref f) (.ref x))
 | .ext φ => φ h /\ (∃ o, h.get? a = some o) /\ ∀ h1 h2 : Heap, φ h1 -> (∀ o, h1.get? a = some o -> h2.get? a = some o) -> φ h2
def HOk (H : Hp) (h : Heap) : Prop := ∀ a o, H a = some o -> ObjOk P w H h a o
end
section
variable {P : Program} {w : World} {H H' : Hp} {h h' : Heap} {a : Addr} {o : HO}
theorem ObjOk.lt (x : ObjOk P w H h a o) : a < h.objs.size := by
 cases o with
 | lst xs => obtain ⟨_, _, _, _, e⟩ := x; exact Heap.lt_size e
 | tup xs => obtain ⟨_, _, _, p⟩ := x; exact p.lt
 | dK kvs => obtain ⟨_, _, _, _, o, _, _, e, _⟩ := x; exact Heap.lt_size e
 | dT kvs => obtain ⟨_, _, _, _, o, _, _, e, _⟩ := x; exact Heap.lt_size e
 | set S n => obtain ⟨o, _, _, _, e, _⟩ := x; exact Heap.lt_size e
 | ins C dx fs => obtain ⟨_, _, _, e, _⟩ := x; exact Heap.lt_size e
 | own y => obtain ⟨_, e⟩ := x; exact Heap.lt_size e
 | xd fs => obtain ⟨_, ⟨_, _, _, e, _⟩, _⟩ := x; exact Heap.lt_size e
 | rng lo hi => obtain ⟨_, _, _, e⟩ := x; exact Heap.lt_size e
 | frz ob u => obtain ⟨e, _⟩ := x; exact Heap.lt_size e
 | tbl ps => exact Heap.lt_size (show h.get? a = some _ from x)
 | met f y => exact Heap.lt_size (show h.get? a = some _ from x)
 | ext φ => obtain ⟨_, ⟨_, e⟩, _⟩ := x; exact Heap.lt_size e
theorem Paired.mapP {α β : Type} {F G : α -> β -> Prop} : ∀ {l₁ : List α} {l₂ : List β}, Paired F l₁ l₂ -> (∀ a b, F a b -> G a b) -> Paired G l₁ l₂
 | _, _, .nil, _ => .nil
 | _, _, .cons r t, f => .cons (f _ _ r) (Paired.mapP t f)
theorem ObjOk.stay (x : ObjOk P w H h a o) (k : ∀ b u, (b = a \/ H b = some (.own a)) -> h.get? b = some u -> h'.get? b = some u)
   (ho : ∀ b, H b = some (.own a) -> H' b = some (.own a)) (ht : ∀ b xs, H b = some (.tup xs) -> H' b = some (.tup xs)) : ObjOk P w H' h' a o := by
 induction o with
 | lst xs => obtain ⟨z, its, n, r, e⟩ := x; exact ⟨z, its, n, r, k _ _ (.inl rfl) e⟩
 | tup xs => obtain ⟨z, its, r, ob, e, c⟩ := x; exact ⟨z, its, r, ob, k _ _ (.inl rfl) e, c⟩
 | dK kvs => obtain ⟨z, y, vs, r, ob, es, ep, e, c⟩ := x; exact ⟨z, y, vs, r, ob, es, ep, k _ _ (.inl rfl) e, c⟩
 | dT kvs =>
   obtain ⟨z, y, xs, r, ob, es, ep, e, c⟩ := x
   exact ⟨z, y, xs, Paired.mapP r fun p q z => ⟨z.1, ht _ _ z.2.1, z.2.2⟩, ob, es, ep, k _ _ (.inl rfl) e, c⟩
 | set S n => obtain ⟨ob, es, ep, t, e, c⟩ := x; exact ⟨ob, es, ep, t, k _ _ (.inl rfl) e, c⟩
 | ins C dx fs =>
   obtain ⟨d, z, ne, e, mA, ⟨od, es, ep, e2, c⟩, r⟩ := x
   exact ⟨ho _ d, z, ne, k _ _ (.inl rfl) e, mA, ⟨od, es, ep, k _ _ (.inr d) e2, c⟩, r⟩
 | own y => obtain ⟨ob, e⟩ := x; exact ⟨ob, k _ _ (.inl rfl) e⟩
 | xd fs => obtain ⟨mA, ⟨od, es, ep, e, c⟩, r⟩ := x; exact ⟨mA, ⟨od, es, ep, k _ _ (.inl rfl) e, c⟩, r⟩
 | rng lo hi => obtain ⟨t, u, v, e⟩ := x; exact ⟨t, u, v, k _ _ (.inl rfl) e⟩
 | frz ob u ih => obtain ⟨e, q⟩ := x; exact ⟨k _ _ (.inl rfl) e, ih q⟩
 | tbl ps =>
   have e : h.get? a = some { cls := .none, data := .fields ps } := x
   show h'.get? a = some { cls := .none, data := .fields ps }
   exact k a _ (.inl rfl) e
 | met f y =>
   have e : h.get? a = some (PySem.W.methodObj (.ref f) (.ref y)) := x
   show h'.get? a = some (PySem.W.methodObj (.ref f) (.ref y))
   exact k a _ (.inl rfl) e
 | ext φ => obtain ⟨p, ⟨o, e⟩, st⟩ := x; exact ⟨st _ _ p fun o q => k _ _ (.inl rfl) q, ⟨o, k _ _ (.inl rfl) e⟩, st⟩
theorem HOk.lt (x : HOk P w H h) (e : H a = some o) : a < h.objs.size := (x a o e).lt
theorem HOk.fresh (x : HOk P w H h) (e : h.objs.size <= a) : H a = none := by
 cases q : H a with
 | none => rfl
 | some u => exact absurd (Nat.lt_of_lt_of_le (x.lt q) e) (Nat.lt_irrefl _)
theorem HOk.kept (x : HOk P w H h) (k : ∀ b u, h.get? b = some u -> h'.get? b = some u) : HOk P w H h' := fun a o e =>
 (x a o e).stay (fun b u _ q => k b u q) (fun _ q => q) fun _ _ q => q
theorem HOk.laid (x : HOk P w H h) (k : ∀ b u, h.get? b = some u -> h'.get? b = some u) (hp : h.objs.size <= a) (new : ObjOk P w (upd H a o) h' a o) : HOk P w (upd H a o) h' := fun b u e => by
 have hn := x.fresh hp
 by_cases hb : b = a
 . subst hb; rw [A6] at e; cases e; exact new
 . rw [D5 hb] at e
   exact (x b u e).stay (fun c v _ q => k c v q) (fun c q => by rw [D5 (G2 q hn)]; exact q) fun c xs q => by rw [D5 (G2 q hn)]; exact q
end
def Rd (H : Hp) (a : Addr) (u : HO) : Prop := H a = some u \/ ∃ o, H a = some (.frz o u)
theorem Rd.ok {P : Program} {w : World} {H : Hp} {h : Heap} {a : Addr} {u : HO} (r : Rd H a u) (x : HOk P w H h) : ObjOk P w H h a u := by
 rcases r with r | ⟨o, r⟩
 . exact x a u r
 . obtain ⟨_, q⟩ := x a _ r
   exact q
def Mut : Option HO -> Prop
 | some (.lst _) => True
 | some (.dK _) => True
 | some (.dT _) => True
 | some (.set _ _) => True
 | some (.ins _ _ _) => True
 | some (.ext _) => True
 | _ => False
section
variable {P : Program} {w : World} {H : Hp} {h h' : Heap} {x e : Addr} {o' : HO}
theorem HOk.write (ok : HOk P w H h) (mu : Mut (H x)) (he : e = x \/ H e = some (.own x)) (k : ∀ b u, b ≠ e -> h.get? b = some u -> h'.get? b = some u) (heo : ∃ u, h'.get? e = some u)
   (new : ObjOk P w (upd H x o') h' x o') : HOk P w (upd H x o') h' := fun b u q => by
 have nown : ∀ c y, H c = some (.own y) -> c ≠ x := fun c y r z => by subst z; rw [r] at mu; exact mu
 have ntup : ∀ c xs, H c = some (.tup xs) -> c ≠ x := fun c xs r z => by subst z; rw [r] at mu; exact mu
 by_cases hb : b = x
 . subst hb; rw [A6] at q; cases q; exact new
 . rw [D5 hb] at q
   by_cases hbe : b = e
   . have q' : H b = some (.own x) := by
       rcases he with z | z
       . exact absurd (hbe.trans z) hb
       . rw [hbe]; exact z
     rw [q] at q'; cases q'
     obtain ⟨v, hv⟩ := heo
     exact ⟨v, by rw [hbe]; exact hv⟩
   . refine (ok b u q).stay (fun c v hc r => k c v ?_ r) (fun c r => by rw [D5 (nown c b r)]; exact r) fun c xs r => by rw [D5 (ntup c xs r)]; exact r
     rcases hc with rfl | hc
     . exact hbe
     . rintro rfl
       rcases he with z | z
       . exact nown c b hc z
       . rw [hc] at z; cases z; exact hb rfl
end
structure Un (fs ex : List Addr) (H H' : Hp) (h h' : Heap) : Prop where
 keep : ∀ b o, h.get? b = some o -> H b = none -> b ∉ fs -> b ∉ ex -> h'.get? b = some o
 slot : ∀ b o, h.get? b = some o -> H b = none -> b ∈ fs -> b ∉ ex -> ∃ sl, h'.get? b = some { o with slots := sl }
 free : ∀ b o, h.get? b = some o -> H b = none -> b ∉ ex -> H' b = none
 there : ∀ b o, h.get? b = some o -> b ∉ ex -> ∃ o', h'.get? b = some o'
 tups : ∀ b xs, H b = some (.tup xs) -> H' b = some (.tup xs)
 frzs : ∀ b o u, H b = some (.frz o u) -> H' b = some (.frz o u)
 tbls : ∀ b ps, H b = some (.tbl ps) -> ∃ more, H' b = some (.tbl (ps ++ more))
section
variable {fs fs' ex ex' : List Addr} {H H1 H2 : Hp} {h h1 h2 h' : Heap} {a x e : Addr} {o : HO}
theorem Un.any (u : Un fs ex H H1 h h1) {b : Addr} {ob : Obj} (q : h.get? b = some ob) (n : H b = none) (hx : b ∉ ex) : ∃ sl, h1.get? b = some { ob with slots := sl } := by
 by_cases hb : b ∈ fs
 . exact u.slot b ob q n hb hx
 . exact ⟨ob.slots, u.keep b ob q n hb hx⟩
theorem Un.kept (k : ∀ b u, h.get? b = some u -> h'.get? b = some u) : Un fs ex H H h h' :=
 ⟨fun b ob q _ _ _ => k b ob q, fun b ob q _ _ _ => ⟨ob.slots, k b ob q⟩, fun _ _ _ n _ => n, fun b ob q _ => ⟨ob, k b ob q⟩, fun _ _ q => q, fun _ _ _ q => q, fun _ ps q => ⟨#[], by rw [q]; simp⟩⟩
theorem Un.refl : Un fs ex H H h h := Un.kept fun _ _ q => q
theorem Un.laid (k : ∀ b u, h.get? b = some u -> h'.get? b = some u) (hp : h.objs.size <= a) (hn : H a = none) : Un fs ex H (upd H a o) h h' where
 keep := fun b u q _ _ _ => k b u q
 slot := fun b u q _ _ _ => ⟨u.slots, k b u q⟩
 free := fun b u q n _ => by rw [D5 (Nat.ne_of_lt (Nat.lt_of_lt_of_le (Heap.lt_size q) hp))]; exact n
 there := fun b u q _ => ⟨u, k b u q⟩
 tups := fun b xs q => by rw [D5 (G2 q hn)]; exact q
 frzs := fun b u xs q => by rw [D5 (G2 q hn)]; exact q
 tbls := fun b ps q => ⟨#[], by rw [D5 (G2 q hn), q]; simp⟩
theorem Un.write (mu : Mut (H x)) (he : e = x \/ H e = some (.own x)) (k : ∀ b u, b ≠ e -> h.get? b = some u -> h'.get? b = some u) (heo : ∃ u, h'.get? e = some u) : Un fs ex H (upd H x o) h h' := by
 have hx : ∀ b, H b = none -> b ≠ x := fun b n z => by subst z; rw [n] at mu; exact mu
 have hb : ∀ b, H b = none -> b ≠ e := fun b n z => by
   subst z
   rcases he with r | r
   . exact hx b n r
   . rw [n] at r; cases r
 have hm : ∀ b u, H b = some u -> ¬ Mut (some u) -> b ≠ x := fun b u q nm z => by subst z; rw [q] at mu; exact nm mu
 refine ⟨fun b u q n _ _ => k b u (hb b n) q, fun b u q n _ _ => ⟨u.slots, k b u (hb b n) q⟩, fun b u q n _ => by rw [D5 (hx b n)]; exact n, fun b u q _ => ?_,
   fun b xs q => by rw [D5 (hm b _ q fun z => z)]; exact q, fun b u xs q => by rw [D5 (hm b _ q fun z => z)]; exact q, fun b ps q => ⟨#[], by rw [D5 (hm b _ q fun z => z), q]; simp⟩⟩
 by_cases hbe : b = e
 . subst hbe; exact heo
 . exact ⟨u, k b u hbe q⟩
end
def trk (h : Heap) (H : Hp) : List Addr := (List.range h.objs.size).filter fun a => (H a).isSome
def D8d (h : Heap) (H : Hp) : Heap := PySem.W.hideAll h (trk h H)
theorem V3h (h : Heap) (H : Hp) : (D8d h H).objs.size = h.objs.size := PySem.W.hideAll_size _ _
theorem Y0e {h : Heap} {H : Hp} {b : Addr} {o : Obj} (e : h.get? b = some o) (n : H b = none) : (D8d h H).get? b = some o :=
 PySem.W.hideAll_get _ e fun hm => by
   have q : (H b).isSome = true := (List.mem_filter.mp hm).2
   rw [n] at q; simp at q
theorem A0ak {h : Heap} {H : Hp} {b : Addr} {o : Obj} (e : (D8d h H).get? b = some o) : h.get? b = some o /\ H b = none := by
 have e' : h.get? b = some o := PySem.W.of_hideAll (trk h H) e
 refine ⟨e', ?_⟩
 cases q : H b with
 | none => rfl
 | some x =>
   have hm : b ∈ trk h H := List.mem_filter.mpr ⟨List.mem_range.mpr (Heap.lt_size e'), by simp [q]⟩
   have z : (D8d h H).get? b = none := PySem.W.hideAll_none (trk h H) hm
   rw [z] at e; cases e
structure Mod (K : PySem.W.Frag) (mg : Str -> Option Value) (base : Heap) : Prop where
 kin : K.In base
 glob : base.Ns mainGlobals mg
 blt : ∃ mb, base.Ns builtinsNs mb /\ ∀ x : Str, x ≠ "__name__" -> mb x = bootBuiltins x
 nolimit : base.NoLimit
structure Cx where
 prog : Program
 w : World
 K : PySem.W.Frag
 mg : Str -> Option Value
 base : Heap
 A : Around
 N : List Str
 s₀ : Shared
 H₀ : Hp
 env : Env
 outer : List Env
 stack : List Env
 ex : List Addr
 fn : Str -> Bool
 calm : Bool
 pn : List (Addr × Obj)
 xe : Value -> Shared -> Prop
def frs (l : List Env) : List Addr := l.filterMap (·.frame)
abbrev Cx.fs (X : Cx) : List Addr := frs X.outer
def Vis (sc : Scope) (x : Str) : Prop := sc.names.lookup x = some .local \/ sc.names.lookup x = some .cell \/ sc.names.lookup x = some .free
def Loc (sc : Scope) (x : Str) : Prop := sc.names.lookup x = some .local \/ sc.names.lookup x = some .cell
def Look (env : Env) (h : Heap) (m : Str -> Option Value) (x : Str) (u : Value) : Prop :=
 (env.kindOf x = some .local /\ m x = some u) \/ ((env.kindOf x = some .cell \/ env.kindOf x = some .free) /\ ∃ c, env.cells.lookup x = some c /\ h.IsCell c (some u))
structure Cx.Ok (X : Cx) : Prop where
 mod : Mod X.K X.mg X.base
 kind : X.env.scope.kind = .function
 glob : X.env.globals = mainGlobals
 blt : X.env.builtins = builtinsNs
 above : X.s₀.heap.objs.size <= X.env.locals
 inj : ∀ x y c, X.env.cells.lookup x = some c -> X.env.cells.lookup y = some c -> x = y
 has : ∀ x, (X.env.kindOf x = some .cell \/ X.env.kindOf x = some .free) -> ∃ c, X.env.cells.lookup x = some c
 cab : ∀ x c, X.fn x = true -> X.env.cells.lookup x = some c -> X.s₀.heap.objs.size <= c
 hd : X.calm = true -> X.A.handled = none
 frames : X.A.frames = some X.stack
 stk : X.stack = X.outer \/ (X.stack = X.env :: X.outer /\ X.env.frame = some X.env.locals)
 exf : ∀ b ∈ X.ex, b ≠ X.env.locals /\ ∀ x c, X.env.cells.lookup x = some c -> c ≠ b
 bs : ∀ b o, X.base.get? b = some o -> X.s₀.heap.get? b = some o /\ X.H₀ b = none
 bsz : X.base.objs.size <= X.s₀.heap.objs.size
 noex : ∀ b o, X.base.get? b = some o -> b ∉ X.ex
 exfs : ∀ b ∈ X.ex, b ∉ X.fs
 funs : X.s₀.heap.FunFrames X.base X.outer
 frf : ∀ b ∈ X.fs, X.H₀ b = none
structure Inv (X : Cx) (pins : List (Addr × Obj)) (σ : List (Option V)) (H : Hp) (s : Shared) : Prop where
 ok : X.Ok
 os : s.os = X.s₀.os
 bare : AllBare s.gens
 base : Un X.fs X.ex X.H₀ H X.s₀.heap s.heap
 loc : ∃ m, s.heap.Ns X.env.locals m /\ ∀ (i : Nat) (x : Str) (v : V), X.N[i]? = some x -> σ[i]? = some (some v) -> Vis X.env.scope x -> ∃ u, RelV v u /\ Look X.env s.heap m x u
 cell : ∀ x c, X.env.cells.lookup x = some c -> ∃ v, s.heap.IsCell c v
 free : H X.env.locals = none
 freeC : ∀ x c, X.env.cells.lookup x = some c -> H c = none
 pin : ∀ p ∈ X.pn ++ pins, s.heap.get? p.1 = some p.2 /\ H p.1 = none /\ p.1 ≠ X.env.locals /\ p.1 ∉ X.fs /\ ∀ v, p.2.data ≠ .cell v
 hok : HOk X.prog X.w H s.heap
 len : σ.length = X.N.length
section
variable {X : Cx} {pins : List (Addr × Obj)} {σ : List (Option V)} {H H' : Hp} {s : Shared} {h' : Heap}
theorem Cx.Ok.nofr (ok : X.Ok) {b : Addr} {o : Obj} (e : X.base.get? b = some o) : b ∉ X.fs := fun hb => by
 have := (ok.funs.mem hb).1
 rw [e] at this; cases this
theorem Inv.bs (I : Inv X pins σ H s) : ∀ b o, X.base.get? b = some o -> s.heap.get? b = some o /\ H b = none := fun b o e =>
 ⟨I.base.keep b o (I.ok.bs b o e).1 (I.ok.bs b o e).2 (I.ok.nofr e) (I.ok.noex b o e), I.base.free b o (I.ok.bs b o e).1 (I.ok.bs b o e).2 (I.ok.noex b o e)⟩
theorem Inv.bk (I : Inv X pins σ H s) : ∀ b o, X.base.get? b = some o -> s.heap.get? b = some o := fun b o e => (I.bs b o e).1
theorem Inv.mod (I : Inv X pins σ H s) : Mod X.K X.mg X.base := I.ok.mod
theorem Inv.kIn (I : Inv X pins σ H s) : X.K.In s.heap := I.ok.mod.kin.keeps I.bk
theorem Inv.lt (I : Inv X pins σ H s) : X.env.locals < s.heap.objs.size := let ⟨_, hn, _⟩ := I.loc; hn.lt
theorem Inv.sz (I : Inv X pins σ H s) : X.s₀.heap.objs.size <= s.heap.objs.size := Nat.le_trans I.ok.above (Nat.le_of_lt I.lt)
theorem Inv.nofs (I : Inv X pins σ H s) {a : Addr} (h : s.heap.objs.size <= a) : a ∉ X.fs := fun hb => by
 obtain ⟨_, o, ho, _⟩ := I.ok.funs.mem hb
 exact absurd (Nat.lt_of_lt_of_le (Heap.lt_size ho) (Nat.le_trans I.sz h)) (Nat.lt_irrefl _)
theorem Inv.cne (I : Inv X pins σ H s) : ∀ x c, X.env.cells.lookup x = some c -> c ≠ X.env.locals := fun x c e z => by
 obtain ⟨v, o, ho, hd⟩ := I.cell x c e
 obtain ⟨m, ⟨o', es, ep, ho', hd', _⟩, _⟩ := I.loc
 rw [z, ho'] at ho; cases ho; rw [hd'] at hd; cases hd
theorem Inv.funs (I : Inv X pins σ H s) : s.heap.FunFrames X.base X.outer := by
 have all : ∀ (l : List Env), (∀ b ∈ frs l, b ∈ X.fs) -> X.s₀.heap.FunFrames X.base l -> s.heap.FunFrames X.base l := by
   intro l
   induction l with
   | nil => intro _ _; trivial
   | cons env r ih =>
     intro hs hl
     obtain ⟨hk, ⟨L, o, hf, hn, ho, hd⟩, hr⟩ := hl
     have hL : L ∈ X.fs := hs L (by unfold frs; rw [List.filterMap_cons, hf]; exact List.mem_cons_self)
     obtain ⟨sl, e⟩ := I.base.slot L o ho (I.ok.frf L hL) hL fun z => I.ok.exfs L z hL
     exact ⟨hk, ⟨L, _, hf, hn, e, hd⟩, ih (fun b hb => hs b (by unfold frs; rw [List.filterMap_cons, hf]; exact List.mem_cons_of_mem _ hb)) hr⟩
 exact all X.outer (fun _ hb => hb) I.ok.funs
theorem Inv.stack (I : Inv X pins σ H s) : s.heap.FunFrames X.base X.stack := by
 rcases I.ok.stk with e | ⟨e, hf⟩
 . rw [e]; exact I.funs
 . rw [e]
   obtain ⟨m, hn, _⟩ := I.loc
   refine .cons (by rw [I.ok.kind]; decide) hf hn ?_ I.funs
   exact Heap.get?_none_of_le (Nat.le_trans I.ok.bsz I.ok.above)
theorem Inv.stkSub (I : Inv X pins σ H s) : ∀ b ∈ frs X.stack, b ∈ X.env.locals :: X.fs := fun b hb => by
 rcases I.ok.stk with e | ⟨e, hf⟩
 . rw [e] at hb; exact List.mem_cons_of_mem _ hb
 . rw [e] at hb
   unfold frs at hb
   rw [List.filterMap_cons, hf] at hb
   exact hb
theorem Inv.stkFree (I : Inv X pins σ H s) : ∀ b ∈ frs X.stack, H b = none := fun b hb => by
 rcases List.mem_cons.mp (I.stkSub b hb) with e | hb
 . rw [e]; exact I.free
 . obtain ⟨_, o, ho, _⟩ := I.ok.funs.mem hb
   exact I.base.free b o ho (I.ok.frf b hb) fun z => I.ok.exfs b z hb
theorem Inv.step {g' : Array GenState} {t' : Nat} {d' : Drawn} {ch : List Addr} (I : Inv X pins σ H s)
   (hch : ∀ b ∈ ch, (b ∈ X.ex \/ X.s₀.heap.objs.size <= b) /\ b ≠ X.env.locals /\ (∀ x c, X.env.cells.lookup x = some c -> c ≠ b) /\ ∀ p ∈ X.pn ++ pins, p.1 ≠ b)
   (keep : ∀ b o, b ≠ X.env.locals -> b ∉ X.fs -> b ∉ ch -> s.heap.get? b = some o -> H b = none -> h'.get? b = some o)
   (slot : ∀ b o, b ≠ X.env.locals -> b ∈ X.fs -> b ∉ ch -> s.heap.get? b = some o -> H b = none -> ∃ sl, h'.get? b = some { o with slots := sl }) (free : ∀ b o, b ∉ ch -> s.heap.get? b = some o -> H b = none -> H' b = none)
   (there : ∀ b o, b ∉ ch -> s.heap.get? b = some o -> ∃ o', h'.get? b = some o')
   (tups : ∀ b xs, H b = some (.tup xs) -> H' b = some (.tup xs)) (frzs : ∀ b o u, H b = some (.frz o u) -> H' b = some (.frz o u)) (tbls : ∀ b ps, H b = some (.tbl ps) -> ∃ more, H' b = some (.tbl (ps ++ more)))
   (ns : ∀ m, s.heap.Ns X.env.locals m -> h'.Ns X.env.locals m) (hok : HOk X.prog X.w H' h') (hg : AllBare g') :
   Inv X pins σ H' { s with heap := h', gens := g', drawn := d', toks := t' } := by
 have neL : ∀ b o, X.s₀.heap.get? b = some o -> b ≠ X.env.locals := fun b o e => Nat.ne_of_lt (Nat.lt_of_lt_of_le (Heap.lt_size e) I.ok.above)
 have neC : ∀ b o, X.s₀.heap.get? b = some o -> b ∉ X.ex -> b ∉ ch := fun b o e hx hb => by
   rcases (hch b hb).1 with z | z
   . exact hx z
   . exact absurd (Nat.lt_of_lt_of_le (Heap.lt_size e) z) (Nat.lt_irrefl _)
 have cellK : ∀ x c, X.env.cells.lookup x = some c -> ∀ v, s.heap.IsCell c v -> h'.IsCell c v := fun x c e v ⟨o, ho, hd⟩ => by
   have nch : c ∉ ch := fun z => (hch c z).2.2.1 x c e rfl
   by_cases hc : c ∈ X.fs
   . obtain ⟨sl, q⟩ := slot c o (I.cne x c e) hc nch ho (I.freeC x c e)
     exact ⟨_, q, hd⟩
   . exact ⟨o, keep c o (I.cne x c e) hc nch ho (I.freeC x c e), hd⟩
 refine ⟨I.ok, I.os, hg, ⟨fun b o e n hb hx => ?_, fun b o e n hb hx => ?_, fun b o e n hx => ?_, fun b o e hx => ?_, fun b xs e => tups b xs (I.base.tups b xs e), fun b o xs e => frzs b o xs (I.base.frzs b o xs e), fun b ps e => ?_⟩, ?_, fun x c e => ?_, ?_, fun x c e => ?_, fun p hp => ?_, hok, I.len⟩
 . exact keep b o (neL b o e) hb (neC b o e hx) (I.base.keep b o e n hb hx) (I.base.free b o e n hx)
 . obtain ⟨sl, e1⟩ := I.base.slot b o e n hb hx
   obtain ⟨sl', e2⟩ := slot b _ (neL b o e) hb (neC b o e hx) e1 (I.base.free b o e n hx)
   exact ⟨sl', e2⟩
 . obtain ⟨o', e1⟩ := I.base.there b o e hx
   exact free b o' (neC b o e hx) e1 (I.base.free b o e n hx)
 . obtain ⟨o', e1⟩ := I.base.there b o e hx
   exact there b o' (neC b o e hx) e1
 . obtain ⟨m1, e1⟩ := I.base.tbls b ps e
   obtain ⟨m2, e2⟩ := tbls b _ e1
   exact ⟨m1 ++ m2, by rw [e2, Array.append_assoc]⟩
 . obtain ⟨m, hn, hl⟩ := I.loc
   refine ⟨m, ns m hn, fun i x v e1 e2 e3 => ?_⟩
   obtain ⟨u, r, l⟩ := hl i x v e1 e2 e3
   refine ⟨u, r, ?_⟩
   rcases l with l | ⟨k, c, e, z⟩
   . exact .inl l
   . exact .inr ⟨k, c, e, cellK x c e _ z⟩
 . obtain ⟨v, z⟩ := I.cell x c e
   exact ⟨v, cellK x c e v z⟩
 . obtain ⟨m, ⟨o, _, _, ho, _⟩, _⟩ := I.loc
   exact free _ o (fun z => (hch _ z).2.1 rfl) ho I.free
 . obtain ⟨v, o, ho, hd⟩ := I.cell x c e
   exact free c o (fun z => (hch c z).2.2.1 x c e rfl) ho (I.freeC x c e)
 . obtain ⟨e, n, ne, nf, d⟩ := I.pin p hp
   have nch : p.1 ∉ ch := fun z => (hch p.1 z).2.2.2 p hp rfl
   exact ⟨keep p.1 p.2 ne nf nch e n, free p.1 p.2 nch e n, ne, nf, d⟩
theorem Inv.un {t' : Nat} (I : Inv X pins σ H s) (u : Un X.fs [] H H' s.heap h') (hok : HOk X.prog X.w H' h') : Inv X pins σ H' { s with heap := h', toks := t' } := by
 obtain ⟨m, ⟨o, es, ep, ho, r⟩, _⟩ := id I.loc
 obtain ⟨sl, hL⟩ := u.any ho I.free (by simp)
 exact I.step (g' := s.gens) (d' := s.drawn) (ch := []) (fun _ z => nomatch z) (fun b o _ hb _ e n => u.keep b o e n hb (by simp)) (fun b o _ hb _ e n => u.slot b o e n hb (by simp)) (fun b o _ e n => u.free b o e n (by simp)) (fun b o _ e => u.there b o e (by simp)) u.tups u.frzs u.tbls (fun m' hm => by
   obtain ⟨o', es', ep', ho', r'⟩ := hm
   rw [ho] at ho'; cases ho'
   exact ⟨_, es', ep', hL, r'⟩) hok I.bare
theorem Inv.call {g' : Array GenState} {t' : Nat} {d' : Drawn} {ch : List Addr} (I : Inv X pins σ H s) (u : Un (frs X.stack) ch H H' s.heap h') (hok : HOk X.prog X.w H' h') (hg : AllBare g')
   (hch : ∀ b ∈ ch, (b ∈ X.ex \/ X.s₀.heap.objs.size <= b) /\ b ≠ X.env.locals /\ (∀ x c, X.env.cells.lookup x = some c -> c ≠ b) /\ ∀ p ∈ X.pn ++ pins, p.1 ≠ b) :
   Inv X pins σ H' { s with heap := h', gens := g', drawn := d', toks := t' } := by
 obtain ⟨m, ⟨o, es, ep, ho, r⟩, _⟩ := id I.loc
 obtain ⟨sl, hL⟩ := u.any ho I.free fun z => (hch _ z).2.1 rfl
 exact I.step (ch := ch) hch (fun b o hL hb hc e n => u.keep b o e n (fun z => (List.mem_cons.mp (I.stkSub b z)).elim hL hb) hc) (fun b o _ _ hc e n => u.any e n hc) (fun b o hc e n => u.free b o e n hc) (fun b o hc e => u.there b o e hc) u.tups u.frzs u.tbls (fun m' hm => by
   obtain ⟨o', es', ep', ho', r'⟩ := hm
   rw [ho] at ho'; cases ho'
   exact ⟨_, es', ep', hL, r'⟩) hok hg
theorem Inv.turned {t' : Nat} {it : Addr} (I : Inv X pins σ H s) (k : ∀ b o, b ≠ it -> s.heap.get? b = some o -> h'.get? b = some o) (hn : H it = none) (hL : it ≠ X.env.locals)
   (h1 : it ∈ X.ex \/ X.s₀.heap.objs.size <= it) (h2 : ∀ x c, X.env.cells.lookup x = some c -> c ≠ it) (h3 : ∀ p ∈ X.pn ++ pins, p.1 ≠ it) : Inv X pins σ H { s with heap := h', toks := t' } := by
 have nit : ∀ b u, H b = some u -> b ≠ it := fun b u e z => by rw [z, hn] at e; cases e
 refine I.step (g' := s.gens) (d' := s.drawn) (ch := [it]) (fun b hb => ?_) (fun b o _ _ hc e _ => k b o (fun z => hc (by simp [z])) e) (fun b o _ _ hc e _ => ⟨o.slots, k b o (fun z => hc (by simp [z])) e⟩) (fun _ _ _ _ n => n)
   (fun b o hc e => ⟨o, k b o (fun z => hc (by simp [z])) e⟩) (fun _ _ e => e) (fun _ _ _ e => e) (fun b ps e => ⟨#[], by rw [e]; simp⟩) (fun m hm => ?_) (fun b u e => ?_) I.bare
 . have e : b = it := by simpa using hb
   subst e
   exact ⟨h1, hL, h2, h3⟩
 . obtain ⟨o, es, ep, ho, r⟩ := hm
   exact ⟨o, es, ep, k _ o (Ne.symm hL) ho, r⟩
 . refine (I.hok b u e).stay (fun c v hc q => k c v ?_ q) (fun _ q => q) fun _ _ q => q
   rcases hc with z | z
   . rw [z]; exact nit b u e
   . exact nit c _ z
theorem Inv.tok (I : Inv X pins σ H s) (t : Nat) : Inv X pins σ H { s with toks := t } := I.un (h' := s.heap) (t' := t) Un.refl I.hok
theorem Inv.kept {t' : Nat} (I : Inv X pins σ H s) (k : ∀ b u, s.heap.get? b = some u -> h'.get? b = some u) : Inv X pins σ H { s with heap := h', toks := t' } := I.un (Un.kept k) (I.hok.kept k)
theorem Inv.laid {a : Addr} {o : HO} {t' : Nat} (I : Inv X pins σ H s) (k : ∀ b u, s.heap.get? b = some u -> h'.get? b = some u) (hp : s.heap.objs.size <= a) (new : ObjOk X.prog X.w (upd H a o) h' a o) :
   Inv X pins σ (upd H a o) { s with heap := h', toks := t' } := I.un (Un.laid k hp (I.hok.fresh hp)) (I.hok.laid k hp new)
theorem Inv.write {x e : Addr} {o : HO} {t' : Nat} (I : Inv X pins σ H s) (mu : Mut (H x)) (he : e = x \/ H e = some (.own x)) (k : ∀ b u, b ≠ e -> s.heap.get? b = some u -> h'.get? b = some u) (heo : ∃ u, h'.get? e = some u)
   (new : ObjOk X.prog X.w (upd H x o) h' x o) : Inv X pins σ (upd H x o) { s with heap := h', toks := t' } := I.un (Un.write mu he k heo) (I.hok.write mu he k heo new)
theorem Inv.weak {σ' : List (Option V)} (I : Inv X pins σ H s) (hl : σ'.length = σ.length) (w : ∀ (i : Nat) v, σ'[i]? = some (some v) -> σ[i]? = some (some v)) : Inv X pins σ' H s :=
 ⟨I.ok, I.os, I.bare, I.base, let ⟨m, hn, hl'⟩ := I.loc; ⟨m, hn, fun i x v e1 e2 e3 => hl' i x v e1 (w i v e2) e3⟩, I.cell, I.free, I.freeC, I.pin, I.hok, hl.trans I.len⟩
theorem Inv.pins_of {pins' : List (Addr × Obj)} (I : Inv X pins σ H s) (h : ∀ p ∈ pins', s.heap.get? p.1 = some p.2 /\ H p.1 = none /\ p.1 ≠ X.env.locals /\ p.1 ∉ X.fs /\ ∀ v, p.2.data ≠ .cell v) : Inv X pins' σ H s :=
 ⟨I.ok, I.os, I.bare, I.base, I.loc, I.cell, I.free, I.freeC, fun p hp => (List.mem_append.mp hp).elim (fun z => I.pin p (List.mem_append_left _ z)) (h p), I.hok, I.len⟩
theorem G9c {N : List Str} (hN : N.Nodup) {i j : Nat} {x : Str} (a : N[i]? = some x) (b : N[j]? = some x) : i = j := by
 obtain ⟨h1, e1⟩ := List.getElem?_eq_some_iff.mp a
 obtain ⟨h2, e2⟩ := List.getElem?_eq_some_iff.mp b
 exact (List.getElem_inj hN).mp (e1.trans e2.symm)
theorem B8u {M : Model} {A : Around} {E : Value -> Shared -> Prop} {i : Nat} {x : Str} {v : V} {u : Value} {Q : Unit -> Shared -> Prop} (I : Inv X pins σ H s) (hN : X.N.Nodup) (hi : X.N[i]? = some x) (hx : Loc X.env.scope x) (r : RelV v u)
   (h : ∀ s', Inv X pins (σ.set i (some v)) H s' -> (∃ a, Heap.SameBut a s.heap s'.heap /\ (a = X.env.locals \/ X.env.cells.lookup x = some a)) -> Q () s') (hf : X.fn x = true \/ X.env.scope.names.lookup x = some .local := by first | exact .inl rfl | exact .inr rfl | assumption) : wpAny M A (storeName X.env x u) Q E s := by
 obtain ⟨m, hn, hl⟩ := id I.loc
 have hcls : (X.env.scope.kind == .class || (X.env.scope.kind == .module && X.env.locals != X.env.globals)) = false := by rw [I.ok.kind]; rfl
 have hiσ : i < σ.length := by rw [I.len]; exact (List.getElem?_eq_some_iff.mp hi).1
 have cne := I.cne
 have tracked : ∀ {a : Addr} {h' : Heap}, (∃ o, s.heap.get? a = some o /\ H a = none) -> Heap.SameBut a s.heap h' -> HOk X.prog X.w H h' := fun {a h'} ha hs b ob e => by
   obtain ⟨_, _, hfree⟩ := ha
   refine (I.hok b ob e).stay (fun c w' hc q => (hs.2 c ?_).trans q) (fun _ q => q) fun _ _ q => q
   rintro rfl
   rcases hc with rfl | hc
   . rw [hfree] at e; cases e
   . rw [hfree] at hc; cases hc
 rcases hx with hk | hk
 . refine wpAny_storeName_local hk hn (fun h' hn' hs => ?_) hcls
   obtain ⟨oL, _, _, hoL, _⟩ := id hn
   refine h _ ⟨I.ok, I.os, I.bare, ⟨fun b o e n hb hx => ?_, fun b o e n hb hx => ?_, I.base.free, fun b o e hx => ?_, I.base.tups, I.base.frzs, I.base.tbls⟩, ⟨_, hn', fun j y v' e1 e2 e3 => ?_⟩, fun y c e => ?_, I.free, I.freeC, fun p hp => ?_, tracked ⟨oL, hoL, I.free⟩ hs, by simpa using I.len⟩ ⟨_, hs, .inl rfl⟩
   . exact (hs.2 b (Nat.ne_of_lt (Nat.lt_of_lt_of_le (Heap.lt_size e) I.ok.above))).trans (I.base.keep b o e n hb hx)
   . obtain ⟨sl, e1⟩ := I.base.slot b o e n hb hx
     exact ⟨sl, (hs.2 b (Nat.ne_of_lt (Nat.lt_of_lt_of_le (Heap.lt_size e) I.ok.above))).trans e1⟩
   . obtain ⟨o', e1⟩ := I.base.there b o e hx
     exact ⟨o', (hs.2 b (Nat.ne_of_lt (Nat.lt_of_lt_of_le (Heap.lt_size e) I.ok.above))).trans e1⟩
   . by_cases hj : j = i
     . subst hj
       rw [hi] at e1; cases e1
       rw [List.getElem?_set_self hiσ] at e2
       cases e2
       exact ⟨u, r, .inl ⟨hk, by simp⟩⟩
     . rw [List.getElem?_set_ne (Ne.symm hj)] at e2
       obtain ⟨u', r', q⟩ := hl j y v' e1 e2 e3
       refine ⟨u', r', ?_⟩
       rcases q with ⟨k, e⟩ | ⟨k, c, e, z⟩
       . refine .inl ⟨k, ?_⟩
         have : y ≠ x := fun e => hj (G9c hN e1 (e ▸ hi))
         simp [this, e]
       . exact .inr ⟨k, c, e, z.sameBut hs (cne y c e)⟩
   . obtain ⟨w', z⟩ := I.cell y c e
     exact ⟨w', z.sameBut hs (cne y c e)⟩
   . obtain ⟨e, n, ne, nf, d⟩ := I.pin p hp
     exact ⟨(hs.2 p.1 ne).trans e, n, ne, nf, d⟩
 . have hfn : X.fn x = true := by
     rcases hf with z | z
     . exact z
     . rw [z] at hk; cases hk
   obtain ⟨c, hc⟩ := I.ok.has x (.inl hk)
   obtain ⟨w', z⟩ := I.cell x c hc
   refine wpAny_storeName_cell I.ok.kind hk hc z (fun h' hc' hs => ?_)
   obtain ⟨oc, hoc, hocd⟩ := id z
   refine h { s with heap := h' } ⟨I.ok, I.os, I.bare, ⟨fun b o e n hb hx => ?_, fun b o e n hb hx => ?_, I.base.free, fun b o e hx => ?_, I.base.tups, I.base.frzs, I.base.tbls⟩, ⟨m, hn.sameBut hs (Ne.symm (cne x c hc)), fun j y v' e1 e2 e3 => ?_⟩, fun y c' e => ?_, I.free, I.freeC, fun p hp => ?_, tracked ⟨oc, hoc, I.freeC x c hc⟩ hs, by simpa using I.len⟩ ⟨c, hs, .inr hc⟩
   . exact (hs.2 b (Nat.ne_of_lt (Nat.lt_of_lt_of_le (Heap.lt_size e) (I.ok.cab x c hfn hc)))).trans (I.base.keep b o e n hb hx)
   . obtain ⟨sl, e1⟩ := I.base.slot b o e n hb hx
     exact ⟨sl, (hs.2 b (Nat.ne_of_lt (Nat.lt_of_lt_of_le (Heap.lt_size e) (I.ok.cab x c hfn hc)))).trans e1⟩
   . obtain ⟨o', e1⟩ := I.base.there b o e hx
     exact ⟨o', (hs.2 b (Nat.ne_of_lt (Nat.lt_of_lt_of_le (Heap.lt_size e) (I.ok.cab x c hfn hc)))).trans e1⟩
   . by_cases hj : j = i
     . subst hj
       rw [hi] at e1; cases e1
       rw [List.getElem?_set_self hiσ] at e2
       cases e2
       exact ⟨u, r, .inr ⟨.inl hk, c, hc, hc'⟩⟩
     . rw [List.getElem?_set_ne (Ne.symm hj)] at e2
       obtain ⟨u', r', q⟩ := hl j y v' e1 e2 e3
       refine ⟨u', r', ?_⟩
       rcases q with q | ⟨k, c', e, z'⟩
       . exact .inl q
       . refine .inr ⟨k, c', e, z'.sameBut hs ?_⟩
         rintro rfl
         exact hj (G9c hN e1 (I.ok.inj _ _ _ e hc ▸ hi))
   . by_cases hcc : c' = c
     . subst hcc; exact ⟨_, hc'⟩
     . obtain ⟨w2, z2⟩ := I.cell y c' e
       exact ⟨w2, z2.sameBut hs hcc⟩
   . obtain ⟨e, n, ne, nf, d⟩ := I.pin p hp
     refine ⟨(hs.2 p.1 ?_).trans e, n, ne, nf, d⟩
     intro q
     rw [q, hoc] at e
     have q' : oc = p.2 := Option.some.inj e
     exact d w' (by rw [<- q']; exact hocd)
theorem C6v {M : Model} {A : Around} {E : Value -> Shared -> Prop} {i : Nat} {x : Str} {v : V} {u : Value} {Q : Unit -> Shared -> Prop} (I : Inv X pins σ H s) (hN : X.N.Nodup) (hi : X.N[i]? = some x) (hx : Loc X.env.scope x) (r : RelV v u)
   (h : ∀ s', Inv X pins (σ.set i (some v)) H s' -> Q () s') (hf : X.fn x = true \/ X.env.scope.names.lookup x = some .local := by first | exact .inl rfl | exact .inr rfl | assumption) : wpAny M A (storeName X.env x u) Q E s :=
 B8u I hN hi hx r (fun s' I' _ => h s' I') hf
theorem Inv.call' {s' : Shared} {ch : List Addr} (I : Inv X pins σ H s) (ho : s'.os = s.os) (u : Un (frs X.stack) ch H H' s.heap s'.heap) (hok : HOk X.prog X.w H' s'.heap) (hg : AllBare s'.gens)
   (hch : ∀ b ∈ ch, (b ∈ X.ex \/ X.s₀.heap.objs.size <= b) /\ b ≠ X.env.locals /\ (∀ x c, X.env.cells.lookup x = some c -> c ≠ b) /\ ∀ p ∈ X.pn ++ pins, p.1 ≠ b) : Inv X pins σ H' s' := by
 obtain ⟨h', g', d', t', o'⟩ := s'
 have e : o' = s.os := ho
 subst e
 exact I.call (g' := g') (t' := t') (d' := d') u hok hg hch
end
abbrev XK := Value -> Option Addr -> Hp -> Prop
abbrev St := List (Option V)
abbrev VK := V -> Hp -> Prop
abbrev TE := St -> Hp -> VK -> Prop
abbrev TT := St -> Hp -> (Bool -> Hp -> Prop) -> Prop
abbrev TA := St -> Hp -> (List V -> Hp -> Prop) -> Prop
structure Ends where
 nx : St -> Hp -> Prop
 rt : VK
 bk : St -> Hp -> Prop := fun _ _ => False
 ct : St -> Hp -> Prop := fun _ _ => False
abbrev TS := Ends -> St -> Hp -> Prop
def EP (X : Cx) (pins : List (Addr × Obj)) (σ : St) (Q : VK) (u : Value) (s' : Shared) : Prop := ∃ v H', Inv X pins σ H' s' /\ RelV v u /\ Q v H'
def TP (X : Cx) (pins : List (Addr × Obj)) (σ : St) (Q : Bool -> Hp -> Prop) (b : Bool) (s' : Shared) : Prop := ∃ H', Inv X pins σ H' s' /\ Q b H'
def AP (X : Cx) (pins : List (Addr × Obj)) (σ : St) (Q : List V -> Hp -> Prop) (us : List Value) (s' : Shared) : Prop := ∃ vs H', Inv X pins σ H' s' /\ Vals vs us /\ Q vs H'
def SP (X : Cx) (pins : List (Addr × Obj)) (D : Ends) (f : Flow) (s' : Shared) : Prop :=
 match f with
 | .next => ∃ σ' H', Inv X pins σ' H' s' /\ D.nx σ' H'
 | .brk => ∃ σ' H', Inv X pins σ' H' s' /\ D.bk σ' H'
 | .cont => ∃ σ' H', Inv X pins σ' H' s' /\ D.ct σ' H'
 | .ret u => ∃ v σ' H', Inv X pins σ' H' s' /\ RelV v u /\ D.rt v H'
def PE (X : Cx) (e : Expr) (t : TE) : Prop :=
 ∀ (pins : List (Addr × Obj)) (s : Shared) (σ : St) (H : Hp) (Q : VK), Inv X pins σ H s -> t σ H Q -> wpAny (model X.prog X.w) X.A (eval e X.env) (EP X pins σ Q) X.xe s
def PT (X : Cx) (e : Expr) (t : TT) : Prop :=
 ∀ (pins : List (Addr × Obj)) (s : Shared) (σ : St) (H : Hp) (Q : Bool -> Hp -> Prop), Inv X pins σ H s -> t σ H Q -> wpAny (model X.prog X.w) X.A (isTrue e X.env (eval e X.env)) (TP X pins σ Q) X.xe s
def PW (X : Cx) (e : Expr) (t : TT) : Prop :=
 ∀ (whole : Sem Value) (pins : List (Addr × Obj)) (s : Shared) (σ : St) (H : Hp) (Q : Bool -> Hp -> Prop), Inv X pins σ H s -> t σ H Q -> wpAny (model X.prog X.w) X.A (isTrue e X.env whole) (TP X pins σ Q) X.xe s
theorem PW.pt {X : Cx} {e : Expr} {t : TT} (h : PW X e t) : PT X e t := h _
def PA (X : Cx) (es : List Expr) (t : TA) : Prop :=
 ∀ (pos : Pos) (pins : List (Addr × Obj)) (s : Shared) (σ : St) (H : Hp) (Q : List V -> Hp -> Prop), Inv X pins σ H s -> t σ H Q -> wpAny (model X.prog X.w) X.A (spliced (backTo pos (starEach es X.env))) (AP X pins σ Q) X.xe s
def PS (X : Cx) (st : Stmt) (t : TS) : Prop :=
 ∀ (pins : List (Addr × Obj)) (s : Shared) (σ : St) (H : Hp) (D : Ends), Inv X pins σ H s -> t D σ H -> wpAny (model X.prog X.w) X.A (exec st X.env) (SP X pins D) X.xe s
def PSs (X : Cx) (st : List Stmt) (t : TS) : Prop :=
 ∀ (pins : List (Addr × Obj)) (s : Shared) (σ : St) (H : Hp) (D : Ends), Inv X pins σ H s -> t D σ H -> wpAny (model X.prog X.w) X.A (execs st X.env) (SP X pins D) X.xe s
theorem thn {α : Type} {t : Sem α} {Q Q' : α -> Shared -> Prop} {M : Model} {A : Around} {E : Value -> Shared -> Prop} {s : Shared} (h : wpAny M A t Q E s) (hQ : ∀ a s, Q a s -> Q' a s) : wpAny M A t Q' E s := wpAny_mono h hQ fun _ _ x => x
section
variable {X : Cx}
def tVar (i : Nat) : TE := fun σ H Q => ∃ v, σ[i]? = some (some v) /\ Q v H
def tC (v : V) : TE := fun _ H Q => Q v H
theorem A0ku {i : Nat} {x : Str} {pos : Pos} (hN : X.N[i]? = some x) (hv : Vis X.env.scope x) (hd : (x == ("__debug__" : Str)) = false := by decide) (hcd : (x == ("__classdict__" : Str)) = false := by decide) : PE X (.Name x pos) (tVar i) := by
 intro pins s σ H Q I h
 obtain ⟨v, e, h⟩ := h
 obtain ⟨m, hn, hl⟩ := I.loc
 obtain ⟨u, r, l⟩ := hl i x v hN e hv
 have fin : EP X pins σ Q u s := ⟨v, H, I, r, h⟩
 rcases l with ⟨hk, hm⟩ | ⟨hk, c, hc, hcell⟩
 . exact wpAny_Name (wpAny_loadName_local I.ok.kind hk hn hm fin) hd
 . rcases hk with hk | hk
   . exact wpAny_Name (wpAny_loadName_cell I.ok.kind hk hc hcell fin) hd
   . exact wpAny_Name (wpAny_loadName_free I.ok.kind hk hc hcell fin hcd) hd
theorem A2 {i j pos} : PE X (.Constant (.int i) j pos) (tC (.int i)) := fun _ _ _ H _ I h => wpAny_Constant_int ⟨.int i, H, I.tok _, ⟨_, rfl⟩, h⟩
theorem A4m {b j pos} : PE X (.Constant (.bool b) j pos) (tC (.bl b)) := fun _ _ _ H _ I h => Constant_bool ⟨.bl b, H, I, rfl, h⟩
theorem D8j {j pos} : PE X (.Constant .none j pos) (tC .non) := fun _ _ _ H _ I h => Constant_none ⟨.non, H, I, rfl, h⟩
theorem C8 {x j pos} : PE X (.Constant (.str x) j pos) (tC (.str x)) := fun _ _ _ H _ I h => Calls.Constant_str ⟨.str x, H, I.tok _, ⟨_, rfl⟩, h⟩
def Gl (X : Cx) (x : Str) : Prop := X.env.kindOf x = some .globalImplicit
theorem A1z {E : Value -> Shared -> Prop} {pins : List (Addr × Obj)} {s : Shared} {σ : St} {H : Hp} {x : Str} {u : Value} {pos : Pos} {Q : Value -> Shared -> Prop} (I : Inv X pins σ H s) (hg : Gl X x) (hm : X.mg x = some u) (h : Q u s)
   (hd : (x == ("__debug__" : Str)) = false := by decide) : wpAny (model X.prog X.w) X.A (eval (.Name x pos) X.env) Q E s :=
 Calls.Name_function_global I.ok.kind hg (Calls.loadGlobal_global (by rw [I.ok.glob]; exact I.mod.glob.keeps I.bk) hm h) hd
theorem D8a {E : Value -> Shared -> Prop} {pins : List (Addr × Obj)} {s : Shared} {σ : St} {H : Hp} {x : Str} {u : Value} {pos : Pos} {Q : Value -> Shared -> Prop} (I : Inv X pins σ H s) (hg : Gl X x) (hm : X.mg x = none) (hv : bootBuiltins x = some u) (h : Q u s)
   (hn : x ≠ "__name__" := by decide) (hd : (x == ("__debug__" : Str)) = false := by decide) : wpAny (model X.prog X.w) X.A (eval (.Name x pos) X.env) Q E s := by
 obtain ⟨mb, h1, h2⟩ := I.mod.blt
 exact Calls.Name_function_global I.ok.kind hg (Calls.loadGlobal_builtin (by rw [I.ok.glob]; exact I.mod.glob.keeps I.bk) hm (by rw [I.ok.blt]; exact h1.keeps I.bk) ((h2 x hn).trans hv) h) hd
theorem V0v {x : Str} {v : V} {u : Value} {pos : Pos} (hg : Gl X x) (hm : X.mg x = some u) (r : RelV v u) (hd : (x == ("__debug__" : Str)) = false := by decide) : PE X (.Name x pos) (tC v) :=
 fun _ _ _ H _ I h => A1z I hg hm ⟨v, H, I, r, h⟩ hd
theorem A0cf {x : Str} {v : V} {u : Value} {pos : Pos} (hg : Gl X x) (hm : X.mg x = none) (hv : bootBuiltins x = some u) (r : RelV v u) (hn : x ≠ "__name__" := by decide) (hd : (x == ("__debug__" : Str)) = false := by decide) : PE X (.Name x pos) (tC v) :=
 fun _ _ _ H _ I h => D8a I hg hm hv ⟨v, H, I, r, h⟩ hn hd
variable {a b : Expr} {ta tb : TE} {pos : Pos}
def tB (t : TE) : TT := fun σ H Q => t σ H fun x H1 => ∃ c, x = .bl c /\ Q c H1
theorem U4 {e : Expr} {t : TE} (h : PE X e t) (he : ∀ whole, isTrue e X.env whole = (do let v <- whole; standAt e.pos; holding [v] (truthy v)) := by intro _; rfl) : PT X e (tB t) := by
 intro pins s σ H Q I hw
 refine isTrue_plain (thn (h pins s σ H _ I hw) fun v s1 ⟨x, H1, I1, r1, q1⟩ => ?_) (he _)
 obtain ⟨d, rfl, q⟩ := q1
 cases r1
 exact wpAny_truthy_bool ⟨H1, I1, q⟩
variable {tA tB' : TT} {rest : List Expr}
def tAnd (t u : TT) : TT := fun σ H Q => t σ H fun c H1 => if c = true then u σ H1 Q else Q false H1
def tOr (t u : TT) : TT := fun σ H Q => t σ H fun c H1 => if c = true then Q true H1 else u σ H1 Q
def tNot (t : TT) : TT := fun σ H Q => t σ H fun c H1 => Q (!c) H1
theorem C5e (ha : PT X a tA) : PW X (.BoolOp .And [a] pos) tA := by
 intro wh pins s σ H Q I h
 refine isTrue_and (thn (ha pins s σ H Q I h) fun c s1 e => ?_)
 cases c with
 | true => exact isTrue_and_nil e
 | false => exact e
theorem C5p (ha : PT X a tA) : PW X (.BoolOp .Or [a] pos) tA := by
 intro wh pins s σ H Q I h
 refine isTrue_or (thn (ha pins s σ H Q I h) fun c s1 e => ?_)
 cases c with
 | false => exact isTrue_or_nil e
 | true => exact e
theorem D8r (ha : PT X a tA) (hb : PW X (.BoolOp .And (b :: rest) pos) tB') : PW X (.BoolOp .And (a :: b :: rest) pos) (tAnd tA tB') := by
 intro wh pins s σ H Q I h
 refine isTrue_and (thn (ha pins s σ H _ I h) fun c s1 ⟨H1, I1, q1⟩ => ?_)
 cases c with
 | true => exact hb wh pins s1 σ H1 Q I1 q1
 | false => exact ⟨H1, I1, q1⟩
theorem G9h (ha : PT X a tA) (hb : PW X (.BoolOp .Or (b :: rest) pos) tB') : PW X (.BoolOp .Or (a :: b :: rest) pos) (tOr tA tB') := by
 intro wh pins s σ H Q I h
 refine isTrue_or (thn (ha pins s σ H _ I h) fun c s1 ⟨H1, I1, q1⟩ => ?_)
 cases c with
 | true => exact ⟨H1, I1, q1⟩
 | false => exact hb wh pins s1 σ H1 Q I1 q1
theorem A5m (ha : PT X a tA) : PT X (.UnaryOp .Not a pos) (tNot tA) := by
 intro pins s σ H Q I h
 exact isTrue_not (ha pins s σ H (fun c H1 => Q (!c) H1) I h)
def A0pw (ta tb : TE) : TE := fun σ H Q => ta σ H fun x H1 => ∃ c, x = .bl c /\ if c = true then tb σ H1 Q else Q (.bl false) H1
def tOrV (ta tb : TE) : TE := fun σ H Q => ta σ H fun x H1 => ∃ c, x = .bl c /\ if c = true then Q (.bl true) H1 else tb σ H1 Q
theorem A2v {op} {t : TE} (h : PE X a t) : PE X (.BoolOp op [a] pos) t := fun pins s σ H Q I hw => BoolOp_one (h pins s σ H Q I hw)
theorem B4d (ha : PE X a ta) (hb : PE X (.BoolOp .And (b :: rest) pos) tb) : PE X (.BoolOp .And (a :: b :: rest) pos) (A0pw ta tb) := by
 intro pins s σ H Q I h
 refine BoolOp_and (thn (ha pins s σ H _ I h) fun v s1 ⟨x, H1, I1, r1, q1⟩ => ?_)
 obtain ⟨c, rfl, q1⟩ := q1
 cases r1
 refine wpAny_truthy_bool ?_
 cases c with
 | true => exact hb pins s1 σ H1 Q I1 q1
 | false => exact ⟨.bl false, H1, I1, rfl, q1⟩
theorem G9z (ha : PE X a ta) (hb : PE X (.BoolOp .Or (b :: rest) pos) tb) : PE X (.BoolOp .Or (a :: b :: rest) pos) (tOrV ta tb) := by
 intro pins s σ H Q I h
 refine BoolOp_or (thn (ha pins s σ H _ I h) fun v s1 ⟨x, H1, I1, r1, q1⟩ => ?_)
 obtain ⟨c, rfl, q1⟩ := q1
 cases r1
 refine wpAny_truthy_bool ?_
 cases c with
 | false => exact hb pins s1 σ H1 Q I1 q1
 | true => exact ⟨.bl true, H1, I1, rfl, q1⟩
def tIf (t : TT) (ta tb : TE) : TE := fun σ H Q => t σ H fun c H1 => if c = true then ta σ H1 Q else tb σ H1 Q
theorem U2 {c : Expr} (hc : PT X c tA) (ha : PE X a ta) (hb : PE X b tb) : PE X (.IfExp c a b pos) (tIf tA ta tb) := by
 intro pins s σ H Q I h
 refine wpAny_IfExp (thn (hc pins s σ H _ I h) fun d s1 ⟨H1, I1, q1⟩ => ?_)
 cases d with
 | true => exact ha pins s1 σ H1 Q I1 q1
 | false => exact hb pins s1 σ H1 Q I1 q1
end
def SqL (K : PySem.W.Frag) (H : Hp) (a : Addr) (xs : List V) : Prop :=
 Rd H a (.lst xs) \/
   ∃ (o : Obj) (its : Array Value) (n : Nat), K.lookup a = some o /\ o.cls = .type "list" /\ o.dict = none /\ o.data = .seq its n /\ its.size <= sizeLine /\ Vals xs its.toList
def SqT (K : PySem.W.Frag) (H : Hp) (a : Addr) (xs : List V) : Prop :=
 Rd H a (.tup xs) \/
   ∃ (o : Obj) (its : Array Value) (n : Nat), K.lookup a = some o /\ o.cls = .type "tuple" /\ o.data = .seq its n /\ its.size <= sizeLine /\ Vals xs its.toList
def absV : Value -> Option V
 | .none => some .non
 | .bool b => some (.bl b)
 | .int i _ => some (.int i)
 | .str x _ => some (.str x)
 | .bytes b _ => some (.byt b)
 | .float b _ => some (.flt b)
 | .ref a => some (.ref a)
 | .type n => some (.ty n)
 | _ => none
theorem RelV.abs {x : V} {u : Value} (r : RelV x u) : absV u = some x := by
 cases x with
 | non => cases r; rfl
 | bl _ => cases r; rfl
 | int _ => obtain ⟨t, rfl⟩ := r; rfl
 | str _ => obtain ⟨t, rfl⟩ := r; rfl
 | byt _ => obtain ⟨t, rfl⟩ := r; rfl
 | flt _ => obtain ⟨t, rfl⟩ := r; rfl
 | ref _ => cases r; rfl
 | ty _ => cases r; rfl
theorem RelV.inj {x y : V} {u : Value} (r : RelV x u) (q : RelV y u) : x = y := Option.some.inj (r.abs.symm.trans q.abs)
theorem Vals.inj : ∀ {xs ys : List V} {us : List Value}, Vals xs us -> Vals ys us -> xs = ys
 | _, _, _, .nil, .nil => rfl
 | _, _, _, .cons r t, .cons r' t' => by rw [r.inj r', Vals.inj t t']
section
variable {X : Cx} {pins : List (Addr × Obj)} {σ : St} {H : Hp} {s : Shared} {a : Addr} {xs ys : List V}
theorem SqL.of {K : PySem.W.Frag} (h : H a = some (.lst xs)) : SqL K H a xs := .inl (.inl h)
theorem SqT.of {K : PySem.W.Frag} (h : H a = some (.tup xs)) : SqT K H a xs := .inl (.inl h)
theorem Inv.list (I : Inv X pins σ H s) (h : SqL X.K H a xs) : ∃ its : List Value, Vals xs its /\ PlainL s.heap a its.toArray /\ xs.length <= sizeLine := by
 rcases h with h | ⟨o, its, n, hk, hc, hd, hs, hz, r⟩
 . obtain ⟨z, its, n, r, e⟩ := h.ok I.hok
   exact ⟨its, r, ⟨_, n, e, rfl, rfl, rfl⟩, z⟩
 . refine ⟨its.toList, r, ⟨o, n, I.kIn a o hk, hc, hd, by simpa using hs⟩, ?_⟩
   have e := r.length
   simp only [Array.length_toList] at e
   omega
theorem Inv.tuple (I : Inv X pins σ H s) (h : SqT X.K H a xs) : ∃ its : List Value, Vals xs its /\ IsTup s.heap a its.toArray /\ xs.length <= sizeLine := by
 rcases h with h | ⟨o, its, n, hk, hc, hs, hz, r⟩
 . obtain ⟨z, its, r, p⟩ := h.ok I.hok
   exact ⟨its, r, p, z⟩
 . refine ⟨its.toList, r, ⟨o, I.kIn a o hk, hc, n, by simpa using hs⟩, ?_⟩
   have e := r.length
   simp only [Array.length_toList] at e
   omega
theorem Inv.list_inj (I : Inv X pins σ H s) (h : SqL X.K H a xs) (h' : SqL X.K H a ys) : xs = ys := by
 obtain ⟨its, r, ⟨o, n, e, _, _, d⟩, _⟩ := I.list h
 obtain ⟨its', r', ⟨o', n', e', _, _, d'⟩, _⟩ := I.list h'
 rw [e] at e'; cases e'
 rw [d] at d'
 injection d' with d1 _
 have : its = its' := by simpa using congrArg Array.toList d1
 subst this
 exact r.inj r'
theorem Inv.tuple_inj (I : Inv X pins σ H s) (h : SqT X.K H a xs) (h' : SqT X.K H a ys) : xs = ys := by
 obtain ⟨its, r, ⟨o, e, _, n, d⟩, _⟩ := I.tuple h
 obtain ⟨its', r', ⟨o', e', _, n', d'⟩, _⟩ := I.tuple h'
 rw [e] at e'; cases e'
 rw [d] at d'
 injection d' with d1 _
 have : its = its' := by simpa using congrArg Array.toList d1
 subst this
 exact r.inj r'
end
abbrev Cx.wish (X : Cx) (E : Value -> Shared -> Prop) : Cx := { X with xe := E }
abbrev Cx.nox (X : Cx) : Cx := X.wish fun _ _ => False
theorem Cx.Ok.wish {X : Cx} (ok : X.Ok) (E : Value -> Shared -> Prop) : (X.wish E).Ok :=
 ⟨ok.mod, ok.kind, ok.glob, ok.blt, ok.above, ok.inj, ok.has, ok.cab, ok.hd, ok.frames, ok.stk, ok.exf, ok.bs, ok.bsz, ok.noex, ok.exfs, ok.funs, ok.frf⟩
theorem Cx.Ok.unwish {X : Cx} {E : Value -> Shared -> Prop} (ok : (X.wish E).Ok) : X.Ok :=
 ⟨ok.mod, ok.kind, ok.glob, ok.blt, ok.above, ok.inj, ok.has, ok.cab, ok.hd, ok.frames, ok.stk, ok.exf, ok.bs, ok.bsz, ok.noex, ok.exfs, ok.funs, ok.frf⟩
section
variable {X : Cx} {pins : List (Addr × Obj)} {σ : St} {H : Hp} {s : Shared} {E : Value -> Shared -> Prop}
theorem Inv.wish (I : Inv X pins σ H s) (E : Value -> Shared -> Prop) : Inv (X.wish E) pins σ H s := ⟨I.ok.wish E, I.os, I.bare, I.base, I.loc, I.cell, I.free, I.freeC, I.pin, I.hok, I.len⟩
theorem Inv.unwish (I : Inv (X.wish E) pins σ H s) : Inv X pins σ H s := ⟨I.ok.unwish, I.os, I.bare, I.base, I.loc, I.cell, I.free, I.freeC, I.pin, I.hok, I.len⟩
theorem SP.unwish {D : Ends} {f : Flow} {s' : Shared} (h : SP (X.wish E) pins D f s') : SP X pins D f s' := by
 cases f with
 | next => obtain ⟨σ', H', I, q⟩ := h; exact ⟨σ', H', I.unwish, q⟩
 | brk => obtain ⟨σ', H', I, q⟩ := h; exact ⟨σ', H', I.unwish, q⟩
 | cont => obtain ⟨σ', H', I, q⟩ := h; exact ⟨σ', H', I.unwish, q⟩
 | ret u => obtain ⟨v, σ', H', I, r, q⟩ := h; exact ⟨v, σ', H', I.unwish, r, q⟩
theorem PSs.nox {st : List Stmt} {t : TS} (h : PSs X.nox st t) : PSs X st t := fun pins s σ H D I hw =>
 wpAny_mono (h pins s σ H D (I.wish _) hw) (fun _ _ q => q.unwish) fun _ _ z => False.elim z
end
section
variable {X : Cx} {st : Stmt} {rest : List Stmt} {t u : TS} {e : Expr} {te : TE} {pos : Pos}
def A0sb : TS := fun D σ H => D.nx σ H
def tSeq (t u : TS) : TS := fun D σ H => t { D with nx := u D } σ H
theorem C7 : PSs X [] A0sb := fun _ _ σ H _ I h => wpAny_execs_nil ⟨σ, H, I, h⟩
theorem A3 (h1 : PS X st t) (h2 : PSs X rest u) : PSs X (st :: rest) (tSeq t u) := by
 intro pins s σ H D I h
 refine wpAny_execs_cons (thn (h1 pins s σ H { D with nx := u D } I h) fun f s1 q => ?_)
 cases f with
 | next =>
   obtain ⟨σ', H', I', q⟩ := q
   exact h2 pins s1 σ' H' D I' q
 | ret v => exact q
 | brk => exact q
 | cont => exact q
theorem A5 (h1 : PS X st t) : PSs X [st] t := by
 intro pins s σ H D I h
 refine wpAny_execs_cons (thn (h1 pins s σ H D I h) fun f s1 q => ?_)
 cases f with
 | next => exact wpAny_execs_nil q
 | ret v => exact q
 | brk => exact q
 | cont => exact q
theorem Inv.quiet {pins : List (Addr × Obj)} {σ : St} {H : Hp} {s : Shared} (I : Inv X pins σ H s) : interactive X.env = false := by simp [interactive, I.ok.kind]
def A0py (te : TE) : TS := fun D σ H => te σ H fun _ H1 => D.nx σ H1
theorem U8 (he : PE X e te) (hs : swapsWith e none pos.line X.env = pure false := by rfl) : PS X (.Expr e pos) (A0py te) := by
 intro pins s σ H D I h
 exact wpAny_Expr_any (thn (he pins s σ H _ I h) fun v s1 ⟨x, H1, I1, r1, q1⟩ => ⟨σ, H1, I1, q1⟩) I.quiet hs
def tRet (te : TE) : TS := fun D σ H => te σ H D.rt
theorem A9 (he : PE X e te) : PS X (.Return (some e) pos) (tRet te) := by
 intro pins s σ H D I h
 exact wpAny_Return_some (thn (he pins s σ H _ I h) fun v s1 ⟨x, H1, I1, r1, q1⟩ => ⟨x, σ, H1, I1, r1, q1⟩)
def tIfS (c : TT) (t u : TS) : TS := fun D σ H => c σ H fun b H1 => if b = true then t D σ H1 else u D σ H1
theorem D6 {c : Expr} {a b : List Stmt} {tc : TT} (hc : PT X c tc) (ha : PSs X a t) (hb : PSs X b u) : PS X (.If c a b pos) (tIfS tc t u) := by
 intro pins s σ H D I h
 refine wpAny_If (thn (hc pins s σ H _ I h) fun d s1 ⟨H1, I1, q1⟩ => ?_)
 cases d with
 | true => exact ha pins s1 σ H1 D I1 q1
 | false => exact hb pins s1 σ H1 D I1 q1
end
abbrev TG := V -> St -> Hp -> (St -> Hp -> Prop) -> Prop
abbrev TGs := List V -> St -> Hp -> (St -> Hp -> Prop) -> Prop
def PG (X : Cx) (target : Expr) (t : TG) : Prop :=
 ∀ (pins : List (Addr × Obj)) (s : Shared) (σ : St) (H : Hp) (v : V) (u : Value) (Q : St -> Hp -> Prop), Inv X pins σ H s -> RelV v u -> t v σ H Q ->
   wpAny (model X.prog X.w) X.A (assign target X.env u) (fun _ s' => ∃ σ' H', Inv X pins σ' H' s' /\ Q σ' H') X.xe s
def PGs (X : Cx) (ts : List Expr) (t : TGs) : Prop :=
 ∀ (pins : List (Addr × Obj)) (s : Shared) (σ : St) (H : Hp) (vs : List V) (us : List Value) (Q : St -> Hp -> Prop), Inv X pins σ H s -> Vals vs us -> t vs σ H Q ->
   wpAny (model X.prog X.w) X.A (assignInOrder ((assignEach ts X.env).map (·.2)) us) (fun _ s' => ∃ σ' H', Inv X pins σ' H' s' /\ Q σ' H') X.xe s
abbrev TSet := V -> V -> V -> Hp -> (Hp -> Prop) -> Prop
def PSet (X : Cx) (t : TSet) : Prop :=
 ∀ (pins : List (Addr × Obj)) (s : Shared) (σ : St) (H : Hp) (o i v : V) (ov iv u : Value) (Q : Hp -> Prop), Inv X pins σ H s -> RelV o ov -> RelV i iv -> RelV v u -> t o i v H Q ->
   wpAny (model X.prog X.w) X.A (setItem ov iv u) (fun _ s' => ∃ H', Inv X pins σ H' s' /\ Q H') X.xe s
abbrev TIp := V -> V -> Hp -> VK -> Prop
def PIp (X : Cx) (op : Operator) (t : TIp) : Prop :=
 ∀ (pins : List (Addr × Obj)) (s : Shared) (σ : St) (H : Hp) (x y : V) (v u : Value) (Q : VK), Inv X pins σ H s -> RelV x v -> RelV y u -> t x y H Q ->
   wpAny (model X.prog X.w) X.A (inplaceOp op v u) (EP X pins σ Q) X.xe s
section
variable {X : Cx} {pos : Pos}
def J0d (i : Nat) : TG := fun v σ H Q => Q (σ.set i (some v)) H
theorem G7 {i : Nat} {x : Str} (hN : X.N.Nodup) (hi : X.N[i]? = some x) (hx : Loc X.env.scope x) (hf : X.fn x = true \/ X.env.scope.names.lookup x = some .local := by first | exact .inl rfl | exact .inr rfl | assumption) : PG X (.Name x pos) (J0d i) := by
 intro pins s σ H v u Q I r h
 exact wpAny_assign_Name (C6v I hN hi hx r (fun s' I' => ⟨_, H, I', h⟩) hf)
def gNil : TGs := fun vs σ H Q => vs = [] /\ Q σ H
def A0qw (t : TG) (u : TGs) : TGs := fun vs σ H Q => ∃ v r, vs = v :: r /\ t v σ H fun σ' H' => u r σ' H' Q
theorem A3k : PGs X [] gNil := by
 intro pins s σ H vs us Q I r h
 obtain ⟨e, h⟩ := h
 subst e
 cases r
 exact assignInOrder_nil ⟨σ, H, I, h⟩
theorem J5 {e : Expr} {es : List Expr} {t : TG} {u : TGs} (h1 : PG X e t) (h2 : PGs X es u)
   (hs : (assignEach (e :: es) X.env).map (·.2) = assign e X.env :: (assignEach es X.env).map (·.2) := by rfl) : PGs X (e :: es) (A0qw t u) := by
 intro pins s σ H vs us Q I r h
 obtain ⟨v, vr, e1, h⟩ := h
 subst e1
 cases r with
 | cons r rr =>
   rw [hs]
   refine assignInOrder_cons (thn (h1 pins s σ H _ _ _ I r h) fun _ s1 ⟨σ1, H1, I1, q1⟩ => ?_)
   exact h2 pins s1 σ1 H1 _ _ Q I1 rr q1
def gTup (K : PySem.W.Frag) (n : Nat) (t : TGs) : TG := fun v σ H Q => ∃ a xs, v = .ref a /\ SqT K H a xs /\ xs.length = n /\ t xs σ H Q
theorem B8j {es : List Expr} {k : Nat} {t : TGs} {n : Nat} (hc : X.calm = true) (h : PGs X es t)
   (hn : (assignEach es X.env).length = n := by rfl) (hst : (assignEach es X.env).findIdx? (·.1) = none := by rfl) : PG X (.Tuple es k pos) (gTup X.K n t) := by
 intro pins s σ H v u Q I r hw
 obtain ⟨a, xs, e1, hq, hl, hw⟩ := hw
 subst e1
 cases r
 obtain ⟨its, rv, ht, hz⟩ := I.tuple hq
 refine assign_Tuple_tuple (I.ok.hd hc) ht (by simp [hn, <- hl, rv.length]) hst fun h' hx => ?_
 have I1 : Inv X pins σ H { s with heap := h' } := I.kept (t' := s.toks) fun b o e => hx b o (Nat.ne_of_lt (Heap.lt_size e)) e
 exact h pins _ σ H xs _ Q I1 (by simpa using rv) hw
def gSub (to ti : TE) (t : TSet) : TG := fun v σ H Q => to σ H fun o H1 => ti σ H1 fun i H2 => t o i v H2 fun H3 => Q σ H3
theorem Y0k {o i : Expr} {to ti : TE} {t : TSet} (ho : PE X o to) (hi : PE X i ti) (hs : PSet X t)
   (ha : ∀ v, assign (.Subscript o i pos) X.env v = (do
     let ov <- holding [v] (eval o X.env)
     let iv <- holding [v, ov] (eval i X.env)
     standAt pos
     holding [v, ov, iv] (setItem ov iv v)
     release [v, ov, iv] []) := by intro _; rfl) : PG X (.Subscript o i pos) (gSub to ti t) := by
 intro pins s σ H v u Q I r h
 rw [ha]
 refine wpAny_bind (wpAny_holding (thn (ho pins s σ H _ I h) fun ov s1 ⟨x, H1, I1, r1, q1⟩ => ?_))
 refine wpAny_bind (wpAny_holding (thn (hi pins s1 σ H1 _ I1 q1) fun iv s2 ⟨y, H2, I2, r2, q2⟩ => ?_))
 refine wpAny_bind (wpAny_standAt (wpAny_bind (wpAny_holding (thn (hs pins s2 σ H2 x y v ov iv u _ I2 r1 r2 r q2) fun _ s3 ⟨H3, I3, q3⟩ => ?_))))
 exact wpAny_release ⟨σ, H3, I3, q3⟩
def tAsg (te : TE) (g : TG) : TS := fun D σ H => te σ H fun x H1 => g x σ H1 D.nx
theorem A4d {tg e : Expr} {te : TE} {g : TG} (he : PE X e te) (hg : PG X tg g) (hs : swapsWithSole [tg] e pos.line X.env = pure false := by rfl) (hw : swappedStores [tg] e X.env = pure none := by rfl)
   (h1 : (assignEach [tg] X.env).map (·.2) = [assign tg X.env] := by rfl) : PS X (.Assign [tg] e pos) (tAsg te g) := by
 intro pins s σ H D I h
 refine wpAny_Assign_stores (thn (he pins s σ H _ I h) fun v s1 ⟨x, H1, I1, r1, q1⟩ => ?_) hs hw
 rw [h1]
 exact thn (hg pins s1 σ H1 x v _ I1 r1 q1) fun _ s2 q => q
theorem C9 {i : Nat} {x : Str} {e : Expr} {te : TE} {pos' : Pos} (hN : X.N.Nodup) (hi : X.N[i]? = some x) (hx : Loc X.env.scope x) (he : PE X e te) (hs : swapsWith e (some (.Name x pos')) pos.line X.env = pure false := by rfl) (hf : X.fn x = true \/ X.env.scope.names.lookup x = some .local := by first | exact .inl rfl | exact .inr rfl | assumption) :
   PS X (.Assign [.Name x pos'] e pos) (tAsg te (J0d i)) := by
 intro pins s σ H D I h
 refine wpAny_Assign_Name (thn (he pins s σ H _ I h) fun v s1 ⟨y, H1, I1, r1, q1⟩ => ?_) hs
 exact C6v I1 hN hi hx r1 (fun s2 I2 => ⟨_, H1, I2, q1⟩) hf
def tAug (i : Nat) (te : TE) (ti : TIp) : TS := fun D σ H => ∃ x, σ[i]? = some (some x) /\ te σ H fun y H1 => ti x y H1 fun z H2 => D.nx (σ.set i (some z)) H2
theorem A0ja {i : Nat} {x : Str} {e : Expr} {te : TE} {op : Operator} {ti : TIp} {pos' : Pos} (hN : X.N.Nodup) (hi : X.N[i]? = some x) (hx : Loc X.env.scope x) (he : PE X e te) (ho : PIp X op ti) (hf : X.fn x = true \/ X.env.scope.names.lookup x = some .local := by first | exact .inl rfl | exact .inr rfl | assumption) :
   PS X (.AugAssign (.Name x pos') op e pos) (tAug i te ti) := by
 intro pins s σ H D I h
 obtain ⟨v, e1, h⟩ := h
 obtain ⟨m, hn, hl⟩ := I.loc
 have vis : Vis X.env.scope x := by rcases hx with k | k; exact .inl k; exact .inr (.inl k)
 obtain ⟨u, r, l⟩ := hl i x v hi e1 vis
 refine wpAny_AugAssign_Name ?_
 have go : wpAny (model X.prog X.w) X.A (eval e X.env) (fun w s₂ => wpAny (model X.prog X.w) X.A (inplaceOp op u w) (fun r s₃ => wpAny (model X.prog X.w) X.A (storeName X.env x r) (fun _ => SP X pins D .next) X.xe s₃) X.xe s₂) X.xe s := by
   refine thn (he pins s σ H _ I h) fun w s1 ⟨y, H1, I1, r1, q1⟩ => ?_
   refine thn (ho pins s1 σ H1 v y u w _ I1 r r1 q1) fun z s2 ⟨zv, H2, I2, r2, q2⟩ => ?_
   exact C6v I2 hN hi hx r2 (fun s3 I3 => ⟨_, H2, I3, q2⟩) hf
 rcases l with ⟨hk, hm⟩ | ⟨hk, c, hc, hcell⟩
 . exact wpAny_loadName_local I.ok.kind hk hn hm go
 . rcases hk with hk | hk
   . exact wpAny_loadName_cell I.ok.kind hk hc hcell go
   . rcases hx with k | k
     . have : X.env.scope.names.lookup x = some .free := hk
       rw [k] at this; cases this
     . have : X.env.scope.names.lookup x = some .free := hk
       rw [k] at this; cases this
def ipI (f : Int -> Int -> Int) : TIp := fun x y H Q => ∃ i j, x = .int i /\ y = .int j /\ Q (.int (f i j)) H
theorem A0hr : PIp X .Add (ipI fun i j => i + j) := by
 intro pins s σ H x y v u Q I r1 r2 h
 obtain ⟨i, j, e1, e2, q⟩ := h
 subst e1; subst e2
 obtain ⟨t, rfl⟩ := r1
 obtain ⟨t', rfl⟩ := r2
 exact iadd_int ⟨.int _, H, I.tok _, ⟨_, rfl⟩, q⟩
end
section
variable {X : Cx} {pos : Pos}
def Y0t (c : TT) (tb : TS) : TS := fun D σ H => ∃ W : Nat -> St -> Hp -> Prop, (∃ m, W m σ H) /\ ∀ m σ H, W m σ H ->
 c σ H fun b H1 => if b = true then ∃ N : St -> Hp -> Prop, (∀ σ' H', N σ' H' -> ∃ m', m' < m /\ W m' σ' H') /\ tb { D with nx := N, ct := N, bk := D.nx } σ H1 else D.nx σ H1
theorem A4v {c : Expr} {body : List Stmt} {tc : TT} {tb : TS} (hp : PassesOwn (model X.prog X.w) X.A X.env X.xe) (hc : PT X c tc) (hb : PSs X body tb) : PS X (.While c body [] pos) (Y0t tc tb) := by
 intro pins s σ H D I h
 obtain ⟨W, ⟨m0, w0⟩, turn⟩ := h
 refine wpAny_While (codeAny_whileLoop (fun n s' => ∃ σ' H', Inv X pins σ' H' s' /\ W n σ' H') ?_ m0 ⟨σ, H, I, w0⟩)
 rintro n s1 ⟨σ1, H1, I1, w1⟩
 refine wpAny_passesOwn hp (thn (hc pins s1 σ1 H1 _ I1 (turn n σ1 H1 w1)) fun b s2 ⟨H2, I2, q2⟩ => ?_)
 cases b with
 | true =>
   obtain ⟨N, hN, q2⟩ := q2
   rw [if_pos rfl]
   refine wpAny_passesOwn hp (thn (hb pins s2 σ1 H2 _ I2 q2) fun f s3 q3 => ?_)
   cases f with
   | next =>
     obtain ⟨σ3, H3, I3, n3⟩ := q3
     obtain ⟨m', hm, w3⟩ := hN σ3 H3 n3
     exact ⟨m', hm, σ3, H3, I3, w3⟩
   | cont =>
     obtain ⟨σ3, H3, I3, n3⟩ := q3
     obtain ⟨m', hm, w3⟩ := hN σ3 H3 n3
     exact ⟨m', hm, σ3, H3, I3, w3⟩
   | brk => exact q3
   | ret v => exact q3
 | false =>
   rw [if_neg Bool.false_ne_true]
   exact wpAny_execs_nil ⟨σ1, H2, I2, q2⟩
end
structure It where
 go : Nat -> Hp -> Prop
 yld : Nat -> Hp -> V -> Hp -> Prop
 stop : Nat -> Hp -> Prop
def A0j (X : Cx) (pins : List (Addr × Obj)) (H : Hp) (b : Addr) : Prop :=
 H b = none /\ b ≠ X.env.locals /\ b ∉ X.fs /\ (b ∈ X.ex \/ X.s₀.heap.objs.size <= b) /\ (∀ x c, X.env.cells.lookup x = some c -> c ≠ b) /\ ∀ p ∈ X.pn ++ pins, p.1 ≠ b
theorem Inv.fpOk {X : Cx} {pins : List (Addr × Obj)} {σ : St} {H H' : Hp} {s : Shared} {b : Addr} (I : Inv X pins σ H s) (hb : s.heap.objs.size <= b) (hn : H' b = none) : A0j X pins H' b := by
 refine ⟨hn, Nat.ne_of_gt (Nat.lt_of_lt_of_le I.lt hb), I.nofs hb, .inr (Nat.le_trans I.sz hb), fun x c e z => ?_, fun p hp z => ?_⟩
 . obtain ⟨v, q⟩ := I.cell x c e
   exact absurd (Nat.lt_of_lt_of_le q.lt (by rw [z]; exact hb)) (Nat.lt_irrefl _)
 . exact absurd (Nat.lt_of_lt_of_le (Heap.lt_size (I.pin p hp).1) (by rw [z]; exact hb)) (Nat.lt_irrefl _)
structure Turn (P : Program) (w : World) (K : PySem.W.Frag) (tg : Expr) (J : It) (fp : List Addr) (it : Addr) (tn : Nat -> Heap -> Prop) : Prop where
 mem : it ∈ fp
 obj : ∀ i h, tn i h -> ∀ b ∈ fp, ∃ o, h.get? b = some o /\ ∀ v, o.data ≠ .cell v
 keep : ∀ i h h', tn i h -> (∀ b ∈ fp, ∀ o, h.get? b = some o -> h'.get? b = some o) -> tn i h'
 item : ∀ (X : Cx), X.prog = P -> X.w = w -> X.K = K -> X.calm = true -> ∀ (i : Nat) (pins : List (Addr × Obj)) (s : Shared) (σ : St) (H : Hp) (E : Value -> Shared -> Prop), Inv X pins σ H s -> (∀ b ∈ fp, A0j X pins H b) -> tn i s.heap -> J.go i H ->
   wpAny (model P w) X.A (pyNext (.ref it)) (fun r s1 => ∃ u, r = some u /\
     wpAny (model P w) X.A (letOwnedTupleGo tg (.ref it) u) (fun _ s2 => ∃ x H', Inv X pins σ H' s2 /\ RelV x u /\ J.yld i H x H' /\ tn (i + 1) s2.heap /\ ∀ b ∈ fp, H' b = none) E s1) E s
 done : ∀ (X : Cx), X.prog = P -> X.w = w -> X.K = K -> X.calm = true -> ∀ (i : Nat) (pins : List (Addr × Obj)) (s : Shared) (σ : St) (H : Hp) (E : Value -> Shared -> Prop), Inv X pins σ H s -> (∀ b ∈ fp, A0j X pins H b) -> tn i s.heap -> J.stop i H ->
   wpAny (model P w) X.A (pyNext (.ref it)) (fun r s1 => r = none /\ Inv X pins σ H s1) E s
 self : ∀ (A : Around) (i : Nat) (s : Shared) (Q : Value -> Shared -> Prop) (E : Value -> Shared -> Prop), tn i s.heap -> Q (.ref it) s -> wpAny (model P w) A (pyIter (.ref it)) Q E s
abbrev TI := St -> Hp -> (It -> Hp -> Prop) -> Prop
def PIE (X : Cx) (pins : List (Addr × Obj)) (σ : St) (tg : Expr) (R : It -> Hp -> Prop) (itv : Value) (s2 : Shared) : Prop :=
 ∃ (it : Addr) (fp : List Addr) (tn : Nat -> Heap -> Prop) (J : It) (H' : Hp), itv = .ref it /\ Inv X pins σ H' s2 /\ Turn X.prog X.w X.K tg J fp it tn /\ tn 0 s2.heap /\ (∀ b ∈ fp, A0j X pins H' b) /\ R J H'
def PI (X : Cx) (tg iter : Expr) (wi : TI) : Prop :=
 ∀ (pins : List (Addr × Obj)) (s : Shared) (σ : St) (H : Hp) (R : It -> Hp -> Prop), Inv X pins σ H s -> wi σ H R ->
   wpAny (model X.prog X.w) X.A (eval iter X.env) (fun v s1 => wpAny (model X.prog X.w) X.A (pyIter v) (PIE X pins σ tg R) X.xe s1) X.xe s
theorem U9s {M : Model} {A : Around} {E : Value -> Shared -> Prop} {s : Shared} {tg : Expr} {it : Addr} {u : Value} {o : Obj} {n : String} {vs : Array Value} {Q : Unit -> Shared -> Prop} (ho : s.heap.get? it = some o) (hc : o.cls = .type n) (hd : o.data = .fields vs)
   (hn : ["enumerate", "zip", "dict_itemiterator", "dict_reverseitemiterator", "odict_iterator", "itertools.zip_longest", "itertools.pairwise"].contains n = false) (hQ : Q () s) : wpAny M A (letOwnedTupleGo tg (.ref it) u) Q E s := by
 unfold letOwnedTupleGo
 cases tg <;> first
   | exact wpAny_pure hQ
   | (cases u <;> first
       | exact wpAny_pure hQ
       | (refine wpAny_bind (wpAny_load ho ?_)
          rw [hc, hd]
          show wpAny M A (if (["enumerate", "zip", "dict_itemiterator", "dict_reverseitemiterator", "odict_iterator", "itertools.zip_longest", "itertools.pairwise"].contains n && vs[0]? == some (rawInt _)) = true then _ else _) Q E s
          rw [if_neg (by intro h; rw [hn, Bool.false_and] at h; cases h)]
          exact wpAny_pure hQ))
def Itl (K : PySem.W.Frag) (a : Addr) : It :=
 ⟨fun i H => ∃ xs x, SqL K H a xs /\ xs[i]? = some x, fun i H x H' => H' = H /\ ∀ xs, SqL K H a xs -> xs[i]? = some x, fun i H => ∃ xs, SqL K H a xs /\ xs.length <= i⟩
def Itt (K : PySem.W.Frag) (a : Addr) : It :=
 ⟨fun i H => ∃ xs x, SqT K H a xs /\ xs[i]? = some x, fun i H x H' => H' = H /\ ∀ xs, SqT K H a xs -> xs[i]? = some x, fun i H => ∃ xs, SqT K H a xs /\ xs.length <= i⟩
def Itr (lo : Int) (n : Nat) : It := ⟨fun i _ => i < n, fun i H x H' => H' = H /\ x = .int (lo + i), fun i _ => n <= i⟩
theorem V2v {P : Program} {w : World} {K : PySem.W.Frag} {tg : Expr} (a it : Addr) : Turn P w K tg (Itl K a) [it] it (fun i h => h.IsListIter it a i) where
 mem := by simp
 obj := fun i h st b hb => by
   have e : b = it := by simpa using hb
   subst e
   obtain ⟨o, e, c, d⟩ := st
   exact ⟨o, e, fun v z => by rw [d] at z; cases z⟩
 keep := fun i h h' st k => st.at fun o e => k it (by simp) o e
 item := by
   intro X hP hw hK hc i pins s σ H E I hf st hg
   subst hP hw hK
   obtain ⟨xs, x, hq, hx⟩ := hg
   obtain ⟨its, rv, p, hz⟩ := I.list hq
   obtain ⟨u, hu, ru⟩ := rv.get hx
   obtain ⟨f0, f1, f2, f3, f4, f5⟩ := hf it (by simp)
   refine wpAny_pyNext_list_item st p.isList (x := u) (by simpa using hu) fun h' st' sb => ?_
   have I1 : Inv X pins σ H { s with heap := h' } := I.turned (t' := s.toks) (fun b o hb e => (sb.2 b hb).trans e) f0 f1 f3 f4 f5
   obtain ⟨o, e, c, d⟩ := id st'
   exact ⟨u, rfl, U9s (s := { s with heap := h' }) e c d (by decide) ⟨x, H, I1, ru, ⟨rfl, fun ys hy => by rw [I.list_inj hy hq]; exact hx⟩, st', fun b hb => (hf b hb).1⟩⟩
 done := by
   intro X hP hw hK hc i pins s σ H E I hf st hg
   subst hP hw hK
   obtain ⟨xs, hq, hx⟩ := hg
   obtain ⟨its, rv, p, hz⟩ := I.list hq
   obtain ⟨f0, f1, f2, f3, f4, f5⟩ := hf it (by simp)
   have hl := rv.length
   exact wpAny_pyNext_list_end (I.ok.hd hc) st p.isList (by simp; omega) fun h' eb => ⟨rfl, I.turned (t' := s.toks) (fun b o hb e => eb b o hb e) f0 f1 f3 f4 f5⟩
 self := fun _ _ _ _ _ st h => wpAny_pyIter_listiter st h
theorem J6h {P : Program} {w : World} {K : PySem.W.Frag} {tg : Expr} (it : Addr) (lo : Int) (n : Nat) : Turn P w K tg (Itr lo n) [it] it (fun i h => IsRangeIter h it (lo + (i : Nat) * 1) ((n : Int) - (i : Nat)) 1) where
 mem := by simp
 obj := fun i h st b hb => by
   have e : b = it := by simpa using hb
   subst e
   exact ⟨_, st, fun v z => by
     have z' : Data.fields _ = Data.cell v := z
     cases z'⟩
 keep := fun i h h' st k => k it (by simp) _ st
 item := by
   intro X hP hw hK hc i pins s σ H E I hf st hg
   subst hP hw hK
   obtain ⟨f0, f1, f2, f3, f4, f5⟩ := hf it (by simp)
   have W := Walks.range (prog := X.prog) (w := X.w) (I.ok.hd hc) it lo 1 n
   refine W.item i s _ _ hg st fun v h' tk hv st' kk => ?_
   obtain ⟨t, rfl⟩ := hv
   have I1 : Inv X pins σ H { s with heap := h', toks := tk } := I.turned (fun b o hb e => kk b o (by simpa using hb) e) f0 f1 f3 f4 f5
   refine ⟨_, rfl, U9s (s := { s with heap := h', toks := tk }) (n := "range_iterator") st' rfl rfl (by decide) ⟨.int (lo + i), H, I1, ⟨t, ?_⟩, ⟨rfl, rfl⟩, st', fun b hb => (hf b hb).1⟩⟩
   rw [Int.mul_one]
 done := by
   intro X hP hw hK hc i pins s σ H E I hf st hg
   subst hP hw hK
   obtain ⟨f0, f1, f2, f3, f4, f5⟩ := hf it (by simp)
   exact wpAny_pyNext_range_end (I.ok.hd hc) st (by have : n <= i := hg; omega) fun h' eb => ⟨rfl, I.turned (t' := s.toks) (fun b o hb e => eb b o hb e) f0 f1 f3 f4 f5⟩
 self := fun _ _ _ _ _ st h => wpAny_pyIter_rangeiter st h
section
variable {X : Cx} {tg : Expr}
def A0hc (K : PySem.W.Frag) (tl : TE) : TI := fun σ H R => tl σ H fun x H1 => ∃ a, x = .ref a /\ (∃ xs, SqL K H1 a xs) /\ R (Itl K a) H1
def iTup (K : PySem.W.Frag) (tl : TE) : TI := fun σ H R => tl σ H fun x H1 => ∃ a, x = .ref a /\ (∃ xs, SqT K H1 a xs) /\ R (Itt K a) H1
theorem D7m {l : Expr} {tl : TE} (hl : PE X l tl) : PI X tg l (A0hc X.K tl) := by
 intro pins s σ H R I h
 refine thn (hl pins s σ H _ I h) fun v s1 ⟨x, H1, I1, r1, q1⟩ => ?_
 obtain ⟨a, e, ⟨xs, hq⟩, q⟩ := q1
 subst e
 cases r1
 obtain ⟨its, rv, p, hz⟩ := I1.list hq
 refine wpAny_pyIter_list p.isList ?_
 refine ⟨s1.heap.objs.size, [s1.heap.objs.size], _, _, H1, rfl, I1.kept (t' := s1.toks) fun b o e => Heap.get?_push_of_some _ e, V2v a _, ⟨_, Heap.get?_push_size _ rfl, rfl, rfl⟩, fun b hb => ?_, q⟩
 have e : b = s1.heap.objs.size := by simpa using hb
 subst e
 exact I1.fpOk (Nat.le_refl _) (I1.hok.fresh (Nat.le_refl _))
theorem Y0u {pins : List (Addr × Obj)} {σ : St} {H : Hp} {s : Shared} {R : It -> Hp -> Prop} {E : Value -> Shared -> Prop} {lo hi : Int} {t u v : Tok} {tk : Nat} (I : Inv X pins σ H s) (h1 : -(2 ^ 62) <= lo) (h2 : lo < 2 ^ 62) (h3 : -(2 ^ 62) <= hi) (h4 : hi < 2 ^ 62)
   (q : R (Itr lo (hi - lo).toNat) H) : wpAny (model X.prog X.w) X.A (pyIter (.ref s.heap.objs.size)) (PIE X pins σ tg R) E { s with heap := s.heap.push { cls := .type "range", data := .fields #[.int lo t, .int hi u, .int 1 v] }, toks := tk } := by
 refine wpAny_pyIter_range (IsRange.new ..) (small_one h1 h2 h3 h4) ?_
 have I1 : Inv X pins σ H { s with heap := s.heap.push { cls := .type "range", data := .fields #[.int lo t, .int hi u, .int 1 v] }, toks := tk } := I.kept fun b o e => Heap.get?_push_of_some _ e
 refine ⟨(s.heap.push { cls := .type "range", data := .fields #[.int lo t, .int hi u, .int 1 v] }).objs.size, [(s.heap.push { cls := .type "range", data := .fields #[.int lo t, .int hi u, .int 1 v] }).objs.size], _, _, H, rfl,
   I1.kept (t' := tk) fun b o e => Heap.get?_push_of_some _ e, J6h _ lo (hi - lo).toNat, ?_, fun b hb => ?_, q⟩
 . have e1 : lo + ((0 : Nat) : Int) * 1 = lo := by simp
   have e2 : (((hi - lo).toNat : Nat) : Int) - ((0 : Nat) : Int) = Builtin.Range.rangeSize lo hi 1 := by rw [rangeSize_one]; split <;> omega
   show IsRangeIter _ _ (lo + ((0 : Nat) : Int) * 1) ((((hi - lo).toNat : Nat) : Int) - ((0 : Nat) : Int)) 1
   rw [e1, e2]
   exact Heap.get?_push_size _ rfl
 . have e : b = (s.heap.push { cls := .type "range", data := .fields #[.int lo t, .int hi u, .int 1 v] }).objs.size := by simpa using hb
   subst e
   exact I1.fpOk (Nat.le_refl _) (I1.hok.fresh (Nat.le_refl _))
def A0rb (ta : TA) : TI := fun σ H R => ta σ H fun vs H1 => ∃ j : Int, vs = [.int j] /\ -(2 ^ 62) <= j /\ j < 2 ^ 62 /\ R (Itr 0 j.toNat) H1
theorem B2m {a : Expr} {ta : TA} {p pos : Pos} (hg : Gl X "range") (hm : X.mg "range" = none) (ha : PA X [a] ta) (hs : starEach [a] X.env = [(false, eval a X.env)] := by rfl) : PI X tg (.Call (.Name "range" p) [a] [] pos) (A0rb ta) := by
 intro pins s σ H R I h
 refine Call_ (D8a I hg hm boot_range (PyProof.Rows.callWith_type1 (thn (ha pos pins s σ H _ I h) fun us s1 ⟨vs, H1, I1, r1, q1⟩ => ?_) hs rfl))
 obtain ⟨j, e, q1, q2, q⟩ := q1
 subst e
 cases r1 with
 | cons r rr =>
   cases rr
   obtain ⟨t, rfl⟩ := r
   exact call_range_1 (Y0u I1 (by omega) (by omega) q1 q2 (by simpa using q))
def tFor (wi : TI) (g : TG) (tb : TS) : TS := fun D σ H => wi σ H fun J H1 => ∃ W : Nat -> Nat -> St -> Hp -> Prop, (∃ m, W 0 m σ H1) /\ ∀ i m σ H, W i m σ H ->
 (J.stop i H /\ D.nx σ H) \/ (J.go i H /\ ∃ N : St -> Hp -> Prop, (∀ σ' H', N σ' H' -> ∃ m', m' < m /\ W (i + 1) m' σ' H') /\ ∀ x H', J.yld i H x H' -> g x σ H' fun σ2 H2 => tb { D with nx := N, ct := N, bk := D.nx } σ2 H2)
def A6a (fp : List Addr) (h : Heap) : List (Addr × Obj) := fp.filterMap fun b => (h.get? b).map fun o => (b, o)
theorem A6c {fp : List Addr} {h : Heap} {b : Addr} {o : Obj} (hb : b ∈ fp) (e : h.get? b = some o) : (b, o) ∈ A6a fp h := List.mem_filterMap.mpr ⟨b, hb, by rw [e]; rfl⟩
theorem V2s {fp : List Addr} {h : Heap} {p : Addr × Obj} (hp : p ∈ A6a fp h) : p.1 ∈ fp /\ h.get? p.1 = some p.2 := by
 obtain ⟨b, hb, e⟩ := List.mem_filterMap.mp hp
 cases q : h.get? b with
 | none => rw [q] at e; cases e
 | some o =>
   rw [q] at e
   have e' : (b, o) = p := Option.some.inj e
   subst e'
   exact ⟨hb, q⟩
theorem Inv.pinned {pins : List (Addr × Obj)} {σ : St} {H : Hp} {s : Shared} {fp : List Addr} (I : Inv X pins σ H s) (hf : ∀ b ∈ fp, A0j X pins H b) (ho : ∀ b ∈ fp, ∃ o, s.heap.get? b = some o /\ ∀ v, o.data ≠ .cell v) : Inv X (pins ++ A6a fp s.heap) σ H s :=
 I.pins_of fun p hp => (List.mem_append.mp hp).elim (fun z => I.pin p (List.mem_append_right _ z)) fun z => by
   obtain ⟨hb, e⟩ := V2s z
   obtain ⟨f0, f1, f2, _⟩ := hf p.1 hb
   obtain ⟨o, e', d⟩ := ho p.1 hb
   rw [e] at e'; cases e'
   exact ⟨e, f0, f1, f2, d⟩
theorem Inv.unpinned {pins pl : List (Addr × Obj)} {σ : St} {H : Hp} {s : Shared} (I : Inv X (pins ++ pl) σ H s) : Inv X pins σ H s := I.pins_of fun p hp => I.pin p (List.mem_append_right _ (List.mem_append_left _ hp))
theorem B8v {iter : Expr} {body : List Stmt} {wi : TI} {g : TG} {tb : TS} {pos : Pos} (hp : PassesOwn (model X.prog X.w) X.A X.env X.xe) (hc : X.calm = true) (hi : PI X tg iter wi) (hg : PG X tg g) (hb : PSs X body tb)
   (hs : ∀ x, foldedSetIterable iter X.env x = pure x := by intro _; rfl) : PS X (.For tg iter body [] pos) (tFor wi g tb) := by
 intro pins s σ H D I h
 refine wpAny_For (thn (hi pins s σ H _ I h) fun v s1 h1 => thn h1 fun itv s2 h2 => ?_) hs
 obtain ⟨it, fp, tn, J, H2, e, I2, T, st2, f2, W, ⟨m0, w0⟩, turn⟩ := h2
 subst e
 have stat : ∀ {H' : Hp}, (∀ b ∈ fp, H' b = none) -> ∀ b ∈ fp, A0j X pins H' b := fun hn b hb => ⟨hn b hb, (f2 b hb).2⟩
 refine codeAny_forLoop_any (fun n s' => ∃ i σ' H', Inv X pins σ' H' s' /\ tn i s'.heap /\ (∀ b ∈ fp, H' b = none) /\ W i n σ' H') ?_ m0 ⟨0, σ, H2, I2, st2, fun b hb => (f2 b hb).1, w0⟩
 rintro n s3 ⟨i, σ3, H3, I3, st3, fr3, w3⟩
 rcases turn i n σ3 H3 w3 with ⟨stop, qn⟩ | ⟨go, N, hN, step⟩
 . refine wpAny_passesOwn hp (thn (T.done X rfl rfl rfl hc i pins s3 σ3 H3 X.xe I3 (stat fr3) st3 stop) fun r s4 ⟨hr, I4⟩ => ?_)
   subst hr
   exact wpAny_execs_nil ⟨σ3, H3, I4, qn⟩
 . refine wpAny_passesOwn hp (thn (T.item X rfl rfl rfl hc i pins s3 σ3 H3 X.xe I3 (stat fr3) st3 go) fun r s4 ⟨u, hr, h4⟩ => ?_)
   subst hr
   refine wpAny_passesOwn hp (thn h4 fun _ s5 ⟨x, H5, I5, r5, y5, st5, fr5⟩ => ?_)
   have I5' := I5.pinned (stat fr5) (T.obj _ _ st5)
   refine wpAny_passesOwn hp (thn (hg _ s5 σ3 H5 x u _ I5' r5 (step x H5 y5)) fun _ s6 ⟨σ6, H6, I6, q6⟩ => ?_)
   refine wpAny_passesOwn hp (thn (hb _ s6 σ6 H6 _ I6 q6) fun f s7 q7 => ?_)
   have again : ∀ {σ7 : St} {H7 : Hp}, Inv X (pins ++ A6a fp s5.heap) σ7 H7 s7 -> N σ7 H7 -> ∃ m, m < n /\ ∃ i σ' H', Inv X pins σ' H' s7 /\ tn i s7.heap /\ (∀ b ∈ fp, H' b = none) /\ W i m σ' H' := fun {σ7 H7} I7 n7 => by
     obtain ⟨m', hm, w7⟩ := hN σ7 H7 n7
     refine ⟨m', hm, i + 1, σ7, H7, I7.unpinned, T.keep _ _ _ st5 fun b hb o e => (I7.pin (b, o) (List.mem_append_right _ (List.mem_append_right _ (A6c hb e)))).1, fun b hb => ?_, w7⟩
     obtain ⟨o, e, d⟩ := T.obj _ _ st5 b hb
     exact (I7.pin (b, o) (List.mem_append_right _ (List.mem_append_right _ (A6c hb e)))).2.1
   cases f with
   | next => obtain ⟨σ7, H7, I7, n7⟩ := q7; exact again I7 n7
   | cont => obtain ⟨σ7, H7, I7, n7⟩ := q7; exact again I7 n7
   | brk => obtain ⟨σ7, H7, I7, q7⟩ := q7; exact ⟨σ7, H7, I7.unpinned, q7⟩
   | ret v => obtain ⟨x7, σ7, H7, I7, r7, q7⟩ := q7; exact ⟨x7, σ7, H7, I7.unpinned, r7, q7⟩
end
theorem A8z {K : PySem.W.Frag} {a : Addr} {xs : List V} {g : TG} {tb : TS} {D : Ends} {σ : St} {H : Hp} (Pv : Nat -> St -> Hp -> Prop) (h0 : Pv 0 σ H) (hl : ∀ i σ H, i <= xs.length -> Pv i σ H -> SqL K H a xs)
   (hs : ∀ i x σ H, xs[i]? = some x -> Pv i σ H -> g x σ H fun σ2 H2 => tb { D with nx := Pv (i + 1), ct := Pv (i + 1), bk := D.nx } σ2 H2) (hd : ∀ σ H, Pv xs.length σ H -> D.nx σ H) :
   ∃ W : Nat -> Nat -> St -> Hp -> Prop, (∃ m, W 0 m σ H) /\ ∀ i m σ H, W i m σ H ->
     ((Itl K a).stop i H /\ D.nx σ H) \/ ((Itl K a).go i H /\ ∃ N : St -> Hp -> Prop, (∀ σ' H', N σ' H' -> ∃ m', m' < m /\ W (i + 1) m' σ' H') /\ ∀ x H', (Itl K a).yld i H x H' -> g x σ H' fun σ2 H2 => tb { D with nx := N, ct := N, bk := D.nx } σ2 H2) := by
 refine ⟨fun i m σ H => m = xs.length - i /\ i <= xs.length /\ Pv i σ H, ⟨xs.length, by simp, Nat.zero_le _, h0⟩, ?_⟩
 rintro i m σ H ⟨rfl, hi, p⟩
 have q := hl i σ H hi p
 by_cases hlt : i < xs.length
 . refine .inr ⟨⟨xs, xs[i], q, by simp [hlt]⟩, Pv (i + 1), fun σ' H' p' => ⟨xs.length - (i + 1), by omega, rfl, hlt, p'⟩, fun x H' y => ?_⟩
   obtain ⟨e, y⟩ := y
   subst e
   exact hs i x σ _ (y xs q) p
 . have e : i = xs.length := by omega
   subst e
   exact .inl ⟨⟨xs, q, Nat.le_refl _⟩, hd σ H p⟩
theorem B8k {lo : Int} {n : Nat} {g : TG} {tb : TS} {D : Ends} {σ : St} {H : Hp} (Pv : Nat -> St -> Hp -> Prop) (h0 : Pv 0 σ H)
   (hs : ∀ i σ H, i < n -> Pv i σ H -> g (.int (lo + i)) σ H fun σ2 H2 => tb { D with nx := Pv (i + 1), ct := Pv (i + 1), bk := D.nx } σ2 H2) (hd : ∀ σ H, Pv n σ H -> D.nx σ H) :
   ∃ W : Nat -> Nat -> St -> Hp -> Prop, (∃ m, W 0 m σ H) /\ ∀ i m σ H, W i m σ H ->
     ((Itr lo n).stop i H /\ D.nx σ H) \/ ((Itr lo n).go i H /\ ∃ N : St -> Hp -> Prop, (∀ σ' H', N σ' H' -> ∃ m', m' < m /\ W (i + 1) m' σ' H') /\ ∀ x H', (Itr lo n).yld i H x H' -> g x σ H' fun σ2 H2 => tb { D with nx := N, ct := N, bk := D.nx } σ2 H2) := by
 refine ⟨fun i m σ H => m = n - i /\ i <= n /\ Pv i σ H, ⟨n, by simp, Nat.zero_le _, h0⟩, ?_⟩
 rintro i m σ H ⟨rfl, hi, p⟩
 by_cases hlt : i < n
 . refine .inr ⟨hlt, Pv (i + 1), fun σ' H' p' => ⟨n - (i + 1), by omega, rfl, hlt, p'⟩, fun x H' y => ?_⟩
   obtain ⟨e, y⟩ := y
   subst e y
   exact hs i σ _ hlt p
 . have e : i = n := by omega
   subst e
   exact .inl ⟨Nat.le_refl _, hd σ H p⟩
theorem A4z {c : TT} {tb : TS} {D : Ends} {σ : St} {H : Hp} (Pv : St -> Hp -> Prop) (μ : St -> Hp -> Nat) (h0 : Pv σ H)
   (hs : ∀ σ H, Pv σ H -> c σ H fun b H1 => if b = true then tb { D with nx := fun σ' H' => Pv σ' H' /\ μ σ' H' < μ σ H, ct := fun σ' H' => Pv σ' H' /\ μ σ' H' < μ σ H, bk := D.nx } σ H1 else D.nx σ H1)
   (mono : ∀ σ H Q Q', (∀ b H1, Q b H1 -> Q' b H1) -> c σ H Q -> c σ H Q') : Y0t c tb D σ H := by
 refine ⟨fun m σ H => m = μ σ H /\ Pv σ H, ⟨_, rfl, h0⟩, ?_⟩
 rintro m σ H ⟨rfl, p⟩
 refine mono σ H _ _ (fun b H1 q => ?_) (hs σ H p)
 cases b with
 | true => exact ⟨_, fun σ' H' ⟨p', l⟩ => ⟨_, l, rfl, p'⟩, q⟩
 | false => exact q
abbrev R2 := V -> V -> Hp -> VK -> Prop
def OpR (X : Cx) (f : Value -> Value -> Sem Value) (r : R2) : Prop :=
 ∀ (pins : List (Addr × Obj)) (s : Shared) (σ : St) (H : Hp) (x y : V) (v u : Value) (Q : VK), Inv X pins σ H s -> RelV x v -> RelV y u -> r x y H Q ->
   wpAny (model X.prog X.w) X.A (f v u) (EP X pins σ Q) X.xe s
def UnR (X : Cx) (f : Value -> Sem Value) (r : V -> Hp -> VK -> Prop) : Prop :=
 ∀ (pins : List (Addr × Obj)) (s : Shared) (σ : St) (H : Hp) (x : V) (v : Value) (Q : VK), Inv X pins σ H s -> RelV x v -> r x H Q ->
   wpAny (model X.prog X.w) X.A (f v) (EP X pins σ Q) X.xe s
def A4n (X : Cx) (f : Value) (r : List V -> Hp -> VK -> Prop) : Prop :=
 ∀ (pins : List (Addr × Obj)) (s : Shared) (σ : St) (H : Hp) (xs : List V) (us : List Value) (Q : VK), Inv X pins σ H s -> Vals xs us -> r xs H Q ->
   wpAny (model X.prog X.w) X.A (call f us) (EP X pins σ Q) X.xe s
def tOp (r : R2) (ta tb : TE) : TE := fun σ H Q => ta σ H fun x H1 => tb σ H1 fun y H2 => r x y H2 Q
def tUn (r : V -> Hp -> VK -> Prop) (ta : TE) : TE := fun σ H Q => ta σ H fun x H1 => r x H1 Q
def rI (C : Int -> Int -> Prop) (g : Int -> Int -> V) : R2 := fun x y H Q => ∃ i j, x = .int i /\ y = .int j /\ C i j /\ Q (g i j) H
def rI0 (g : Int -> Int -> V) : R2 := fun x y H Q => ∃ i j, x = .int i /\ y = .int j /\ Q (g i j) H
def rU (g : Int -> V) : V -> Hp -> VK -> Prop := fun x H Q => ∃ i, x = .int i /\ Q (g i) H
section
variable {X : Cx} {a b c : Expr} {ta tb tc : TE} {pos : Pos}
theorem binT (ha : PE X a ta) (hb : PE X b tb) {pins : List (Addr × Obj)} {s : Shared} {σ : St} {H : Hp} {R : V -> V -> Hp -> Prop} (I : Inv X pins σ H s)
   (h : ta σ H fun x H1 => tb σ H1 fun y H2 => R x y H2) {Q : Value -> Shared -> Prop} {f : Value -> Value -> Sem Value}
   (hf : ∀ v u s2 x y H2, Inv X pins σ H2 s2 -> RelV x v -> RelV y u -> R x y H2 -> wpAny (model X.prog X.w) X.A (f v u) Q X.xe s2) :
   wpAny (model X.prog X.w) X.A (eval a X.env) (fun v s₁ => wpAny (model X.prog X.w) X.A (eval b X.env) (fun u s₂ => wpAny (model X.prog X.w) X.A (f v u) Q X.xe s₂) X.xe s₁) X.xe s := by
 refine thn (ha pins s σ H _ I h) fun v s1 ⟨x, H1, I1, r1, q1⟩ => ?_
 refine thn (hb pins s1 σ H1 _ I1 q1) fun u s2 ⟨y, H2, I2, r2, q2⟩ => ?_
 exact hf v u s2 x y H2 I2 r1 r2 q2
theorem B5 {op : Operator} {r : R2} (ho : OpR X (binaryOp op) r) (ha : PE X a ta) (hb : PE X b tb) : PE X (.BinOp a op b pos) (tOp r ta tb) := by
 intro pins s σ H Q I h
 exact wpAny_BinOp (binT ha hb I h fun v u s2 x y H2 I2 rx ry q => ho pins s2 σ H2 x y v u Q I2 rx ry q)
theorem A8p {op : UnaryOp} {r : V -> Hp -> VK -> Prop} (ho : UnR X (unaryOp op) r) (ha : PE X a ta) : PE X (.UnaryOp op a pos) (tUn r ta) := by
 intro pins s σ H Q I h
 exact UnaryOp_ (thn (ha pins s σ H _ I h) fun v s1 ⟨x, H1, I1, r1, q1⟩ => ho pins s1 σ H1 x v Q I1 r1 q1)
theorem opI {f : Value -> Value -> Sem Value} {C : Int -> Int -> Prop} {g : Int -> Int -> Int}
   (rule : ∀ (i j : Int) (t u : Tok) (s : Shared) (Q : Value -> Shared -> Prop) (E : Value -> Shared -> Prop), C i j -> Q (.int (g i j) s.toks) { s with toks := s.toks + 1 } -> wpAny (model X.prog X.w) X.A (f (.int i t) (.int j u)) Q E s) :
   OpR X f (rI C fun i j => .int (g i j)) := by
 intro pins s σ H x y v u Q I rx ry h
 obtain ⟨i, j, rfl, rfl, hc, q⟩ := h
 obtain ⟨t, rfl⟩ := rx
 obtain ⟨t', rfl⟩ := ry
 exact rule i j t t' s _ _ hc ⟨.int (g i j), H, I.tok _, ⟨_, rfl⟩, q⟩
theorem opI0 {f : Value -> Value -> Sem Value} {g : Int -> Int -> Int}
   (rule : ∀ (i j : Int) (t u : Tok) (s : Shared) (Q : Value -> Shared -> Prop) (E : Value -> Shared -> Prop), Q (.int (g i j) s.toks) { s with toks := s.toks + 1 } -> wpAny (model X.prog X.w) X.A (f (.int i t) (.int j u)) Q E s) :
   OpR X f (rI0 fun i j => .int (g i j)) := by
 intro pins s σ H x y v u Q I rx ry h
 obtain ⟨i, j, rfl, rfl, q⟩ := h
 obtain ⟨t, rfl⟩ := rx
 obtain ⟨t', rfl⟩ := ry
 exact rule i j t t' s _ _ ⟨.int (g i j), H, I.tok _, ⟨_, rfl⟩, q⟩
theorem opB0 {f : Value -> Value -> Sem Value} {g : Int -> Int -> Bool}
   (rule : ∀ (i j : Int) (t u : Tok) (s : Shared) (Q : Value -> Shared -> Prop) (E : Value -> Shared -> Prop), Q (.bool (g i j)) s -> wpAny (model X.prog X.w) X.A (f (.int i t) (.int j u)) Q E s) :
   OpR X f (rI0 fun i j => .bl (g i j)) := by
 intro pins s σ H x y v u Q I rx ry h
 obtain ⟨i, j, rfl, rfl, q⟩ := h
 obtain ⟨t, rfl⟩ := rx
 obtain ⟨t', rfl⟩ := ry
 exact rule i j t t' s _ _ ⟨.bl (g i j), H, I, rfl, q⟩
def CPow (i j : Int) : Prop := 0 <= j /\ j <= 1000000 /\ i.natAbs < 2 ^ 64
def CMul (i j : Int) : Prop := (-(2 ^ 64) < i /\ i < 2 ^ 64) \/ (-(2 ^ 64) < j /\ j < 2 ^ 64)
theorem CMul.ok {i j : Int} (h : CMul i j) : IntMulOk i j := by
 rcases h with ⟨h1, h2⟩ | ⟨h1, h2⟩
 . exact .of_left (intBits_le_64 h1 h2)
 . exact .of_right (intBits_le_64 h1 h2)
theorem G9 : OpR X (binaryOp .Add) (rI0 fun i j => .int (i + j)) := opI0 fun _ _ _ _ _ _ _ q => add_int q
theorem J1 : OpR X (binaryOp .Sub) (rI0 fun i j => .int (i - j)) := opI0 fun _ _ _ _ _ _ _ q => sub_int q
theorem J0 : OpR X (binaryOp .Mod) (rI (fun _ j => 0 < j) fun i j => .int (i % j)) := opI fun i j _ _ _ _ _ hc q => by
 have h1 : (0 : Int) < j := hc
 exact mod_int' (by omega) (by rw [Int.fmod_eq_emod_of_nonneg i (by omega)]; exact q)
theorem J7k : OpR X (binaryOp .Pow) (rI CPow fun i j => .int (i ^ j.toNat)) := opI fun _ _ _ _ _ _ _ hc q => pow_int_small hc.1 hc.2.1 hc.2.2 q
theorem unI {f : Value -> Sem Value} {g : Int -> Int}
   (rule : ∀ (i : Int) (t : Tok) (s : Shared) (Q : Value -> Shared -> Prop) (E : Value -> Shared -> Prop), Q (.int (g i) s.toks) { s with toks := s.toks + 1 } -> wpAny (model X.prog X.w) X.A (f (.int i t)) Q E s) :
   UnR X f (rU fun i => .int (g i)) := by
 intro pins s σ H x v Q I rx h
 obtain ⟨i, rfl, q⟩ := h
 obtain ⟨t, rfl⟩ := rx
 exact rule i t s _ _ ⟨.int (g i), H, I.tok _, ⟨_, rfl⟩, q⟩
theorem A1r : UnR X (unaryOp .USub) (rU fun i => .int (-i)) := unI fun _ _ _ _ _ q => neg_int q
end
def scal : V -> V -> Bool
 | .non, .non => true | .non, .int _ => true | .int _, .non => true | .non, .bl _ => true | .bl _, .non => true | .non, .str _ => true | .str _, .non => true
 | .int _, .int _ => true | .bl _, .bl _ => true | .str _, .str _ => true | .byt _, .byt _ => true
 | .int _, .str _ => true | .str _, .int _ => true | .bl _, .str _ => true | .str _, .bl _ => true
 | _, _ => false
def rEq : R2 := fun x y H Q => scal x y = true /\ Q (.bl (decide (x = y))) H
def rNe : R2 := fun x y H Q => scal x y = true /\ Q (.bl (!decide (x = y))) H
theorem V0h {i j : Int} : decide (V.int i = V.int j) = (i == j) := by
 rw [Bool.eq_iff_iff]
 simp
theorem Y0v {i j : Bool} : decide (V.bl i = V.bl j) = (i == j) := by
 rw [Bool.eq_iff_iff]
 simp
theorem dec_str {i j : Str} : decide (V.str i = V.str j) = (i == j) := by
 rw [Bool.eq_iff_iff]
 simp
theorem V0r {i j : Array UInt8} : decide (V.byt i = V.byt j) = (i.toList == j.toList) := by
 rw [Bool.eq_iff_iff]
 cases i
 cases j
 simp
section
variable {X : Cx} {a b c : Expr} {ta tb tc : TE} {pos : Pos}
theorem U1 {pins : List (Addr × Obj)} {σ : St} {H : Hp} {s : Shared} {Q : VK} {k k' : Bool} (I : Inv X pins σ H s) (q : Q (.bl k) H) (e : k = k') : EP X pins σ Q (.bool k') s := by
 subst e
 exact ⟨.bl k, H, I, rfl, q⟩
theorem D9 : OpR X (compareOp .Eq) rEq := by
 intro pins s σ H x y v u Q I rx ry h
 obtain ⟨hs, q⟩ := h
 cases x with
 | non =>
   cases rx
   cases y with
   | non => cases ry; exact PySem.EqNone.eq_none_none (U1 I q (by simp))
   | bl j => cases ry; exact PySem.EqNone.eq_none_bool (U1 I q (by simp))
   | int j => obtain ⟨t', rfl⟩ := ry; exact PySem.EqNone.eq_none_int (U1 I q (by simp))
   | str j => obtain ⟨t', rfl⟩ := ry; exact PySem.EqNone.eq_none_str (U1 I q (by simp))
   | _ => exact absurd (show false = true from hs) Bool.false_ne_true
 | bl i =>
   cases rx
   cases y with
   | non => cases ry; exact PySem.EqNone.eq_bool_none (U1 I q (by simp))
   | bl j => cases ry; exact eq_bool (U1 I q Y0v)
   | str j => obtain ⟨t', rfl⟩ := ry; exact PySem.EqMixed.eq_bool_str (U1 I q (by simp))
   | _ => exact absurd (show false = true from hs) Bool.false_ne_true
 | int i =>
   obtain ⟨t, rfl⟩ := rx
   cases y with
   | non => cases ry; exact PySem.EqNone.eq_int_none (U1 I q (by simp))
   | int j => obtain ⟨t', rfl⟩ := ry; exact eq_int (U1 I q V0h)
   | str j => obtain ⟨t', rfl⟩ := ry; exact PySem.EqMixed.eq_int_str (U1 I q (by simp))
   | _ => exact absurd (show false = true from hs) Bool.false_ne_true
 | str i =>
   obtain ⟨t, rfl⟩ := rx
   cases y with
   | non => cases ry; exact PySem.EqNone.eq_str_none (U1 I q (by simp))
   | bl j => cases ry; exact PySem.EqMixed.eq_str_bool (U1 I q (by simp))
   | int j => obtain ⟨t', rfl⟩ := ry; exact PySem.EqMixed.eq_str_int (U1 I q (by simp))
   | str j => obtain ⟨t', rfl⟩ := ry; exact eq_str (U1 I q dec_str)
   | _ => exact absurd (show false = true from hs) Bool.false_ne_true
 | byt i =>
   obtain ⟨t, rfl⟩ := rx
   cases y with
   | byt j => obtain ⟨t', rfl⟩ := ry; exact PySem.W.eq_bytes (U1 I q V0r)
   | _ => exact absurd (show false = true from hs) Bool.false_ne_true
 | _ => cases y <;> exact absurd (show false = true from hs) Bool.false_ne_true
theorem C4f : OpR X (compareOp .NotEq) rNe := by
 intro pins s σ H x y v u Q I rx ry h
 obtain ⟨hs, q⟩ := h
 cases x with
 | non =>
   cases rx
   cases y with
   | non => cases ry; exact PySem.EqNone.ne_none_none (U1 I q (by simp))
   | bl j => cases ry; exact PySem.EqNone.ne_none_bool (U1 I q (by simp))
   | int j => obtain ⟨t', rfl⟩ := ry; exact PySem.EqNone.ne_none_int (U1 I q (by simp))
   | str j => obtain ⟨t', rfl⟩ := ry; exact PySem.EqNone.ne_none_str (U1 I q (by simp))
   | _ => exact absurd (show false = true from hs) Bool.false_ne_true
 | bl i =>
   cases rx
   cases y with
   | non => cases ry; exact PySem.EqNone.ne_bool_none (U1 I q (by simp))
   | bl j => cases ry; exact ne_bool (U1 I q (congrArg not Y0v))
   | str j => obtain ⟨t', rfl⟩ := ry; exact PySem.EqMixed.ne_bool_str (U1 I q (by simp))
   | _ => exact absurd (show false = true from hs) Bool.false_ne_true
 | int i =>
   obtain ⟨t, rfl⟩ := rx
   cases y with
   | non => cases ry; exact PySem.EqNone.ne_int_none (U1 I q (by simp))
   | int j => obtain ⟨t', rfl⟩ := ry; exact ne_int (U1 I q (congrArg not V0h))
   | str j => obtain ⟨t', rfl⟩ := ry; exact PySem.EqMixed.ne_int_str (U1 I q (by simp))
   | _ => exact absurd (show false = true from hs) Bool.false_ne_true
 | str i =>
   obtain ⟨t, rfl⟩ := rx
   cases y with
   | non => cases ry; exact PySem.EqNone.ne_str_none (U1 I q (by simp))
   | bl j => cases ry; exact PySem.EqMixed.ne_str_bool (U1 I q (by simp))
   | int j => obtain ⟨t', rfl⟩ := ry; exact PySem.EqMixed.ne_str_int (U1 I q (by simp))
   | str j => obtain ⟨t', rfl⟩ := ry; exact ne_str (U1 I q (congrArg not dec_str))
   | _ => exact absurd (show false = true from hs) Bool.false_ne_true
 | byt i =>
   obtain ⟨t, rfl⟩ := rx
   cases y with
   | byt j => obtain ⟨t', rfl⟩ := ry; exact PySem.W.ne_bytes (U1 I q (congrArg not V0r))
   | _ => exact absurd (show false = true from hs) Bool.false_ne_true
 | _ => cases y <;> exact absurd (show false = true from hs) Bool.false_ne_true
theorem B3j : OpR X (compareOp .Lt) (rI0 fun i j => .bl (decide (i < j))) := opB0 fun _ _ _ _ _ _ _ q => lt_int q
theorem Y1t : OpR X (compareOp .LtE) (rI0 fun i j => .bl (decide (i <= j))) := opB0 fun _ _ _ _ _ _ _ q => le_int q
theorem A9g : OpR X (compareOp .Gt) (rI0 fun i j => .bl (decide (j < i))) := opB0 fun _ _ _ _ _ _ _ q => gt_int q
theorem V0w : OpR X (compareOp .GtE) (rI0 fun i j => .bl (decide (j <= i))) := opB0 fun _ _ _ _ _ _ _ q => ge_int q
theorem J6t : OpR X (compareOp .Is) (fun x y H Q => y = .non /\ Q (.bl (decide (x = .non))) H) := by
 intro pins s σ H x y v u Q I rx ry h
 obtain ⟨rfl, q⟩ := h
 cases ry
 refine is_none_gen (U1 I q ?_)
 cases x <;> first
   | (cases rx; rfl)
   | (obtain ⟨t, rfl⟩ := rx; rfl)
theorem B9 (b : Expr) {op : CmpOp} (h : op ≠ .In := by decide) (h2 : op ≠ .NotIn := by decide) : behindInMarks op b = false := by
 have e1 : (op == CmpOp.In) = false := by cases op <;> first | rfl | exact absurd rfl h
 have e2 : (op == CmpOp.NotIn) = false := by cases op <;> first | rfl | exact absurd rfl h2
 cases b <;> simp [behindInMarks, e1, e2]
theorem G6 {op : CmpOp} {r : R2} (ho : OpR X (compareOp op) r) (ha : PE X a ta) (hb : PE X b tb) (hm : behindInMarks op b = false) : PE X (.Compare a [op] [b] pos) (tOp r ta tb) := by
 intro pins s σ H Q I h
 exact wpAny_Compare1 (binT ha hb I h fun v u s2 x y H2 I2 rx ry q => ho pins s2 σ H2 x y v u Q I2 rx ry q) hm
def A0sd (t : TE) : TT := fun σ H Q => t σ H fun x H' => ∃ k, x = .bl k /\ Q k H'
theorem C5 {op : CmpOp} {r : R2} (ho : OpR X (compareOp op) r) (ha : PE X a ta) (hb : PE X b tb) (hm : behindInMarks op b = false) : PT X (.Compare a [op] [b] pos) (A0sd (tOp r ta tb)) := by
 intro pins s σ H Q I h
 refine wpAny_isTrue_Compare1 (thn (ha pins s σ H _ I h) fun v s1 ⟨x, H1, I1, r1, q1⟩ => thn (hb pins s1 σ H1 _ I1 q1) fun u s2 ⟨y, H2, I2, r2, q2⟩ =>
   thn (ho pins s2 σ H2 x y v u _ I2 r1 r2 q2) fun c s3 ⟨z, H3, I3, r3, k, e, q3⟩ => ?_) hm
 subst e
 cases r3
 exact wpAny_truthy_bool ⟨H3, I3, q3⟩
theorem C5r : (sizeLine : Nat) < 2 ^ 63 := by rw [sizeLine_eq]; decide
theorem C6a {x : V} {us : List Value} (r : Vals [x] us) : ∃ u, us = [u] /\ RelV x u := by
 cases r with
 | cons r1 r2 => cases r2; exact ⟨_, rfl, r1⟩
theorem Y0s {x y : V} {us : List Value} (r : Vals [x, y] us) : ∃ u w', us = [u, w'] /\ RelV x u /\ RelV y w' := by
 cases r with
 | cons r1 r2 =>
   cases r2 with
   | cons r3 r4 => cases r4; exact ⟨_, _, rfl, r1, r3⟩
theorem C6b : A4n X (.builtin "abs") (fun xs H Q => ∃ i, xs = [.int i] /\ Q (.int (if i < 0 then -i else i)) H) := by
 intro pins s σ H xs us Q I r h
 obtain ⟨i, rfl, q⟩ := h
 obtain ⟨u, rfl, t, rfl⟩ := C6a r
 exact call_abs_int fun u tk => ⟨.int (if i < 0 then -i else i), H, I.tok _, ⟨_, rfl⟩, q⟩
theorem Y6 (hc : X.calm = true) : A4n X (.builtin "max") (fun xs H Q => ∃ i j, xs = [.int i, .int j] /\ Q (.int (if j > i then j else i)) H) := by
 intro pins s σ H xs us Q I r h
 obtain ⟨i, j, rfl, q⟩ := h
 obtain ⟨u, w', rfl, ⟨t, rfl⟩, ⟨t', rfl⟩⟩ := Y0s r
 refine max_two_ints (I.ok.hd hc) fun h' tk k => ⟨_, H, I.kept k, ?_, q⟩
 by_cases hj : j > i
 . rw [if_pos hj, if_pos hj]; exact ⟨_, rfl⟩
 . rw [if_neg hj, if_neg hj]; exact ⟨_, rfl⟩
theorem A0n (hc : X.calm = true) : A4n X (.builtin "min") (fun xs H Q => ∃ i j, xs = [.int i, .int j] /\ Q (.int (if j < i then j else i)) H) := by
 intro pins s σ H xs us Q I r h
 obtain ⟨i, j, rfl, q⟩ := h
 obtain ⟨u, w', rfl, ⟨t, rfl⟩, ⟨t', rfl⟩⟩ := Y0s r
 refine min_two_ints (I.ok.hd hc) fun h' tk k => ⟨_, H, I.kept k, ?_, q⟩
 by_cases hj : j < i
 . rw [if_pos hj, if_pos hj]; exact ⟨_, rfl⟩
 . rw [if_neg hj, if_neg hj]; exact ⟨_, rfl⟩
theorem Y8 : A4n X (.type "int") (fun xs H Q => (∃ i, xs = [.int i] /\ Q (.int i) H) \/ ∃ k, xs = [.bl k] /\ Q (.int (if k then 1 else 0)) H) := by
 intro pins s σ H xs us Q I r h
 rcases h with ⟨i, rfl, q⟩ | ⟨k, rfl, q⟩
 . obtain ⟨u, rfl, t, rfl⟩ := C6a r
   exact call_int_int ⟨.int i, H, I, ⟨_, rfl⟩, q⟩
 . obtain ⟨u, rfl, r1⟩ := C6a r
   cases r1
   exact call_int_bool ⟨.int (if k then 1 else 0), H, I.tok _, ⟨_, rfl⟩, q⟩
theorem D7k : A4n X (.type "str") (fun xs H Q => ∃ i, xs = [.int i] /\ i.natAbs.log2 < 1920 /\ Q (.str (toString i)) H) := by
 intro pins s σ H xs us Q I r h
 obtain ⟨i, rfl, hz, q⟩ := h
 obtain ⟨u, rfl, t, rfl⟩ := C6a r
 exact PySem.P.str_of_int hz ⟨.str _, H, I.tok _, ⟨_, rfl⟩, q⟩
end
structure ObjM (h : Heap) (x dx C : Addr) (mA : Str -> Option Value) : Prop where
 obj : h.get? x = some (PySem.W.instObj C dx)
 ns : h.Ns1 dx mA
 ne : dx ≠ x
theorem D5c {h : Heap} {dx : Addr} {mA : Str -> Option Value} (n : h.Ns1 dx mA) : ∃ od, h.get? dx = some od /\ ∀ name, PySem.W.lookIn name od = some (mA name) := by
 obtain ⟨o, es, ep, ho, hd, hk, _, hm⟩ := n
 refine ⟨o, ho, fun name => ?_⟩
 have e := hm name
 unfold nsFind findBy at e
 rw [<- Array.find?_toList] at e
 unfold PySem.W.lookIn
 rw [hd]
 dsimp only
 split
 . rename_i y q
   rw [q] at e
   exact congrArg some e
 . rename_i q
   rw [q] at e
   have a : es.toList.any (·.refKey) = false := by
     rw [List.any_eq_false]
     intro y hy
     obtain ⟨z, t, hkey⟩ := hk y (Array.mem_toList_iff.mp hy)
     simp [DictEntry.refKey, hkey]
   have a' : ¬ es.toList.any (·.refKey) = true := by rw [a]; exact Bool.false_ne_true
   rw [if_neg a']
   exact congrArg some e
theorem ObjM.look {h : Heap} {x dx C : Addr} {mA : Str -> Option Value} (I : ObjM h x dx C mA) : ∃ od, PySem.W.InstAt h x (PySem.W.instObj C dx) C (some od) /\ ∀ name, PySem.W.lookIn name od = some (mA name) :=
 let ⟨od, ho, hl⟩ := D5c I.ns
 ⟨od, ⟨I.obj, rfl, rfl, ho⟩, hl⟩
section
variable {prog : Program} {w : World} {A : Around} {E : Value -> Shared -> Prop} {s : Shared} {K : PySem.W.Frag} {x dx C f : Addr} {mA : Str -> Option Value} {name : Str} {v : Value}
theorem A0au {expr : Bool} {Q : Value -> Shared -> Prop} (X : K.In s.heap) (I : ObjM s.heap x dx C mA) (hg : PySem.W.plainGet K C name = true) (hh : PySem.W.hasDictIn K C = true)
   (ha : PySem.W.findIn K (.ref C) name = some none) (hv : mA name = some v) (hv' : PySem.W.handedIn v = true) (h : Q v { s with toks := s.toks + 1 }) :
   wpAny (model prog w) A (getAttr (.ref x) name expr) Q E s := by
 obtain ⟨od, J, hl⟩ := I.look
 exact PySem.W.get_value X J (PySem.W.plainGet_of hg).1 (PySem.W.findObj_own hh ha rfl (by rw [hl, hv])) hv' h
theorem Y0y {pl : Sem Bool} {Q : Value × List Value -> Shared -> Prop} (X : K.In s.heap) (I : ObjM s.heap x dx C mA) (hg : PySem.W.plainGet K C name = true)
   (hf : PySem.W.findIn K (.ref C) name = some (some (.ref f))) (ht : PySem.W.isFn K (.ref f) = true) (hv : mA name = none) (h : Q (.ref f, [.ref x]) s) :
   wpAny (model prog w) A (getMethod (.ref x) name pl) Q E s := by
 obtain ⟨od, J, hl⟩ := I.look
 exact PySem.W.method_fn X J (PySem.W.plainGet_of hg).1 (PySem.W.plainGet_of hg).2 hf (beq_iff_eq.mp ht) (by show (PySem.W.lookIn name od).map (·.isSome) = some false; rw [hl, hv]; rfl) h
theorem A0aq {ns : List Str} {Q : Unit -> Shared -> Prop} (X : K.In s.heap) (I : ObjM s.heap x dx C mA)
   (hs : PySem.W.findIn K (.ref C) "__setattr__" = some (some (.builtin "object.__setattr__"))) (hp : PySem.W.plainOver K C = true) (ht : PySem.W.takerIn K C name = some none) (hh : PySem.W.hasDictIn K C = true)
   (hw : PySem.Within mA ns) (hsz : ns.length <= sizeLine)
   (h : ∀ h', ObjM h' x dx C (fun y => if y = name then some v else mA y) -> Heap.SameBut dx s.heap h' -> Q () { s with heap := h', toks := s.toks + 2 }) :
   wpAny (model prog w) A (setAttr (.ref x) name v) Q E s := by
 obtain ⟨od, J, hl⟩ := I.look
 refine PySem.W.set_plain X J hs (PySem.W.osa_open (s := { s with toks := s.toks + 1 }) (r := none) X J hp ht fun b => ?_)
 obtain ⟨cd, hc, hd'⟩ := PySem.W.any_some hh
 have hx : s.heap.get? x = some ⟨.ref C, some dx, .plain, #[]⟩ := I.obj
 refine wpAny_bind (wpAny_pure (wpAny_bind (wpAny_bind (wpAny_loadPart hx (wpAny_bind (PySem.W.Looks.here (s := { s with toks := s.toks + 1 }) (PySem.W.looks_clsIn X hc) ?_))))))
 rw [hd']
 refine wpAny_pure (a := some dx) (wpAny_bind (wpAny_pure (wpAny_bind ?_)))
 refine wpAny_nsSet1 (s := { s with toks := s.toks + 1 }) I.ns fun h' hn2 hs2 => ?_
 obtain ⟨oD, esD, epD, hoD, hdD, hcD⟩ := hn2.count (PySem.Within.cons name v hw)
 refine wpAny_bind (wpAny_lookBehind hoD (by rw [hdD]; exact pastItsLine_dict (Nat.le_trans hcD (by rw [List.length_cons]; omega))) ?_)
 exact wpAny_pure (h _ ⟨(hs2.2 _ (Ne.symm I.ne)).trans I.obj, hn2, I.ne⟩ hs2)
theorem G9e {R : Result -> Shared -> Prop} {vs : List Value} {kw : List (Str × Value)} (X : K.In s.heap) (hm : PySem.W.makesIn K C = true)
   (hi : PySem.W.findIn K (.ref C) "__init__" = some (some (.ref f))) (hf : PySem.W.typeIn K (.ref f) = some (.type "function"))
   (h : codeAny (model prog w) (A.under (.builtin "type.__call__" ⟨.ref C :: vs, kw⟩)) (.call (.ref f) ⟨.ref (s.heap.objs.size + 1) :: vs, kw⟩) (PySem.W.InitBack (s.heap.objs.size + 1) R)
     { s with heap := (s.heap.push PySem.W.emptyDict).push (PySem.W.instObj C s.heap.objs.size) }) :
   codeAny (model prog w) A (.call (.ref C) ⟨vs, kw⟩) R s := by
 obtain ⟨hh, g, d, t, os⟩ := s
 exact PySem.W.make_core (PySem.W.makes_of X hm) (PySem.W.looks_findIn X hi) (fun self => PySem.W.bind_fn X self hf) (.inl rfl) h
theorem V3s {R : Result -> Shared -> Prop} (X : K.In s.heap) (hm : PySem.W.makesIn K C = true)
   (hi : PySem.W.findIn K (.ref C) "__init__" = some (some (.builtin "object.__init__")))
   (hb : ∀ self, PySem.W.Looks (model prog w) s.heap (bindSpecial (.builtin "object.__init__") self) (.builtin "object.__init__", [self]))
   (h : codeAny (model prog w) (A.under (.builtin "type.__call__" ⟨[.ref C], []⟩)) (.call (.builtin "object.__init__") ⟨[.ref (s.heap.objs.size + 1)], []⟩) (PySem.W.InitBack (s.heap.objs.size + 1) R)
     { s with heap := (s.heap.push PySem.W.emptyDict).push (PySem.W.instObj C s.heap.objs.size) }) :
   codeAny (model prog w) A (.call (.ref C) ⟨[], []⟩) R s := by
 obtain ⟨hh, g, d, t, os⟩ := s
 exact PySem.W.make_core (PySem.W.makes_of X hm) (PySem.W.looks_findIn X hi) hb (.inr ⟨rfl, rfl⟩) h
end
def U9 (f : Str) (v : V) : List (Str × V) -> List (Str × V)
 | [] => [(f, v)]
 | (g, x) :: r => if g = f then (g, v) :: r else (g, x) :: U9 f v r
theorem G5 (f g : Str) (v : V) : ∀ fs : List (Str × V), (U9 f v fs).lookup g = if g = f then some v else fs.lookup g
 | [] => by
   show List.lookup g [(f, v)] = _
   by_cases h : g = f
   . have hb : (g == f) = true := beq_iff_eq.mpr h
     simp only [List.lookup, hb, if_pos h]
   . have hb : (g == f) = false := beq_eq_false_iff_ne.mpr h
     simp only [List.lookup, hb, if_neg h]
 | (k, x) :: r => by
   have ih := G5 f g v r
   rw [show U9 f v ((k, x) :: r) = (if k = f then (k, v) :: r else (k, x) :: U9 f v r) from rfl]
   by_cases hk : k = f
   . rw [if_pos hk]
     by_cases h : g = k
     . have hb : (g == k) = true := beq_iff_eq.mpr h
       simp only [List.lookup, hb, if_pos (h.trans hk)]
     . have hb : (g == k) = false := beq_eq_false_iff_ne.mpr h
       simp only [List.lookup, hb, if_neg (fun e : g = f => h (e.trans hk.symm))]
   . rw [if_neg hk]
     by_cases h : g = k
     . have hb : (g == k) = true := beq_iff_eq.mpr h
       simp only [List.lookup, hb, if_neg (fun e : g = f => hk (h.symm.trans e))]
     . have hb : (g == k) = false := beq_eq_false_iff_ne.mpr h
       simp only [List.lookup, hb]
       exact ih
theorem B8m (f : Str) (v : V) : ∀ fs : List (Str × V), f ∈ (U9 f v fs).map (·.1) /\ ∀ g, g ∈ fs.map (·.1) -> g ∈ (U9 f v fs).map (·.1)
 | [] => ⟨by simp [U9], fun g h => by simp at h⟩
 | (k, x) :: r => by
   obtain ⟨i1, i2⟩ := B8m f v r
   rw [show U9 f v ((k, x) :: r) = (if k = f then (k, v) :: r else (k, x) :: U9 f v r) from rfl]
   by_cases hk : k = f
   . rw [if_pos hk]
     subst hk
     exact ⟨by simp, fun g h => by simpa using h⟩
   . rw [if_neg hk]
     refine ⟨?_, fun g h => ?_⟩
     . rw [List.map_cons]
       exact List.mem_cons_of_mem _ i1
     . rw [List.map_cons] at h ⊢
       rcases List.mem_cons.mp h with e | e
       . exact List.mem_cons.mpr (.inl e)
       . exact List.mem_cons_of_mem _ (i2 g e)
theorem A1a (f : Str) (v : V) : ∀ fs : List (Str × V), (U9 f v fs).length <= fs.length + 1
 | [] => by simp [U9]
 | (k, x) :: r => by
   have ih := A1a f v r
   rw [show U9 f v ((k, x) :: r) = (if k = f then (k, v) :: r else (k, x) :: U9 f v r) from rfl]
   by_cases hk : k = f
   . rw [if_pos hk, List.length_cons, List.length_cons]; omega
   . rw [if_neg hk, List.length_cons, List.length_cons]; omega
theorem RelO.some_of {v : V} {o : Option Value} (r : RelO (some v) o) : ∃ u, o = some u /\ RelV v u := by
 cases o with
 | none => exact (show False from r).elim
 | some u => exact ⟨u, rfl, r⟩
theorem RelO.none_of {o : Option Value} (r : RelO none o) : o = none := by
 cases o with
 | none => rfl
 | some u => exact (show False from r).elim
theorem V3v {v : V} {u : Value} (r : RelV v u) : PySem.W.handedIn u = true := by
 cases v with
 | non => cases (show u = Value.none from r); rfl
 | bl b => cases (show u = Value.bool b from r); rfl
 | int i => obtain ⟨t, e⟩ := (show ∃ t, u = Value.int i t from r); cases e; rfl
 | str x => obtain ⟨t, e⟩ := (show ∃ t, u = Value.str x t from r); cases e; rfl
 | byt b => obtain ⟨t, e⟩ := (show ∃ t, u = Value.bytes b t from r); cases e; rfl
 | flt b => obtain ⟨t, e⟩ := (show ∃ t, u = Value.float b t from r); cases e; rfl
 | ref a => cases (show u = Value.ref a from r); rfl
 | ty n => cases (show u = Value.type n from r); rfl
section
variable {P : Program} {w : World} {H H' : Hp} {h h' : Heap} {a C dx : Addr} {fs fs' : List (Str × V)}
theorem C5d (hok : HOk P w H h) (e : H a = some (.ins C dx fs)) : ∃ mA, ObjM h a dx C mA /\ (∀ f, RelO (fs.lookup f) (mA f)) /\ PySem.Within mA (fs.map (·.1)) /\ fs.length <= 1000 /\ H dx = some (.own a) := by
 obtain ⟨d, z, ne, ob, mA, n, r, q⟩ := (show ObjOk P w H h a (.ins C dx fs) from hok a _ e)
 exact ⟨mA, ⟨ob, n, ne⟩, r, q, z, d⟩
end
structure Cls (K : PySem.W.Frag) (C : Addr) : Prop where
 pg : PySem.W.plainGet K C Str.empty = true
 hd : PySem.W.hasDictIn K C = true
 po : PySem.W.plainOver K C = true
 sa : PySem.W.findIn K (.ref C) "__setattr__" = some (some (.builtin "object.__setattr__"))
theorem Cls.get {K : PySem.W.Frag} {C : Addr} (c : Cls K C) (f : Str) : PySem.W.plainGet K C f = true := c.pg
def NoAttr (K : PySem.W.Frag) (C : Addr) (f : Str) : Prop := PySem.W.findIn K (.ref C) f = some none
theorem NoAttr.taker {K : PySem.W.Frag} {C : Addr} {f : Str} (n : NoAttr K C f) : PySem.W.takerIn K C f = some none := by
 unfold PySem.W.takerIn
 rw [show PySem.W.findIn K (.ref C) f = some none from n]
 rfl
structure Meth (K : PySem.W.Frag) (C : Addr) (m : Str) (f : Addr) : Prop where
 at_ : PySem.W.findIn K (.ref C) m = some (some (.ref f))
 fn : PySem.W.isFn K (.ref f) = true
 kp : PySem.W.keepIn K (.ref f) = true
section
variable {X : Cx} {pins : List (Addr × Obj)} {σ : St} {H : Hp} {s : Shared} {a C dx : Addr} {fs : List (Str × V)} {f : Str} {v : V} {A : Around} {E : Value -> Shared -> Prop}
theorem J7j {b : Bool} {Q : Value -> Shared -> Prop} (I : Inv X pins σ H s) (e : H a = some (.ins C dx fs)) (c : Cls X.K C) (n : NoAttr X.K C f) (l : fs.lookup f = some v)
   (h : ∀ u s', Inv X pins σ H s' -> RelV v u -> Q u s') : wpAny (model X.prog X.w) A (getAttr (.ref a) f b) Q E s := by
 obtain ⟨mA, O, r, _, _, _⟩ := C5d I.hok e
 obtain ⟨u, hu, ru⟩ := RelO.some_of (v := v) (o := mA f) (by rw [<- l]; exact r f)
 exact A0au I.kIn O (c.get f) c.hd n hu (V3v ru) (h u _ (I.tok _) ru)
theorem C6u {m : Str} {g : Addr} {pl : Sem Bool} {Q : Value × List Value -> Shared -> Prop} (I : Inv X pins σ H s) (e : H a = some (.ins C dx fs)) (c : Cls X.K C) (k : Meth X.K C m g) (l : fs.lookup m = none)
   (h : Q (.ref g, [.ref a]) s) : wpAny (model X.prog X.w) A (getMethod (.ref a) m pl) Q E s := by
 obtain ⟨mA, O, r, _, _, _⟩ := C5d I.hok e
 have hn : mA m = none := RelO.none_of (by rw [<- l]; exact r m)
 exact Y0y I.kIn O (c.get m) k.at_ k.fn hn h
theorem J6v {y : V} {u : Value} {Q : Unit -> Shared -> Prop} (I : Inv X pins σ H s) (e : H a = some (.ins C dx fs)) (c : Cls X.K C) (n : NoAttr X.K C f) (hl : fs.length < 1000) (ry : RelV y u)
   (h : ∀ s', Inv X pins σ (upd H a (.ins C dx (U9 f y fs))) s' -> Q () s') : wpAny (model X.prog X.w) A (setAttr (.ref a) f u) Q E s := by
 obtain ⟨mA, O, r, wi, _, ho⟩ := C5d I.hok e
 have hz : (fs.map (·.1)).length <= sizeLine := by rw [List.length_map, sizeLine_eq]; omega
 refine A0aq I.kIn O c.sa c.po n.taker c.hd wi hz fun h' O' sb => h _ ?_
 have hd : ∃ o, h'.get? dx = some o := let ⟨o, _, _, e', _⟩ := O'.ns; ⟨o, e'⟩
 refine I.write (x := a) (e := dx) (by rw [e]; exact True.intro) (.inr ho) (fun b q hb z => (sb.2 b hb).trans z) hd ?_
 refine ⟨by rw [D5 O.ne]; exact ho, ?_, O.ne, O'.obj, _, O'.ns, fun g => ?_, fun g hg => ?_⟩
 . have := A1a f y fs; omega
 . show RelO ((U9 f y fs).lookup g) (if g = f then some u else mA g)
   rw [G5]
   by_cases q : g = f
   . rw [if_pos q, if_pos q]; exact ry
   . rw [if_neg q, if_neg q]; exact r g
 . by_cases q : g = f
   . rw [q]; exact (B8m f y fs).1
   . refine (B8m f y fs).2 g (wi g fun z => hg ?_)
     show (if g = f then some u else mA g) = none
     rw [if_neg q]; exact z
theorem Inv.made (I : Inv X pins σ H s) : Inv X pins σ (upd (upd H s.heap.objs.size (.own (s.heap.objs.size + 1))) (s.heap.objs.size + 1) (.ins C s.heap.objs.size []))
   { s with heap := (s.heap.push PySem.W.emptyDict).push (PySem.W.instObj C s.heap.objs.size) } := by
 have e1 : (s.heap.push PySem.W.emptyDict).get? s.heap.objs.size = some PySem.W.emptyDict := Heap.get?_push_size s.heap rfl
 have e2 : ((s.heap.push PySem.W.emptyDict).push (PySem.W.instObj C s.heap.objs.size)).get? (s.heap.objs.size + 1) = some (PySem.W.instObj C s.heap.objs.size) := by
   have := Heap.get?_push_size (s.heap.push PySem.W.emptyDict) (o := PySem.W.instObj C s.heap.objs.size) rfl
   rwa [Heap.size_push] at this
 have e3 : (s.heap.push PySem.W.emptyDict).Ns s.heap.objs.size (fun _ => none) := ⟨PySem.W.emptyDict, #[], _, e1, rfl, (fun e he => absurd he (by simp)), fun _ => rfl⟩
 have I1 := I.laid (a := s.heap.objs.size) (o := .own (s.heap.objs.size + 1)) (h' := s.heap.push PySem.W.emptyDict) (t' := s.toks) (fun b u q => Heap.get?_push_of_some _ q) (Nat.le_refl _) ⟨_, e1⟩
 refine I1.laid (a := s.heap.objs.size + 1) (o := .ins C s.heap.objs.size []) (t' := s.toks) (fun b u q => Heap.get?_push_of_some _ q) (Nat.le_of_eq (Heap.size_push _ _)) ?_
 have ne : s.heap.objs.size ≠ s.heap.objs.size + 1 := Nat.ne_of_lt (Nat.lt_succ_self _)
 refine ⟨by rw [D5 ne, A6], Nat.zero_le _, ne, e2, fun _ => none, (Heap.Ns1.of_empty e3).at fun o q => Heap.get?_push_of_some _ q, fun _ => True.intro, fun y hy => absurd rfl hy⟩
theorem A0bm {prog : Program} {w : World} {env : Env} {e : Expr} {f : Str} {pos : Pos} {s : Shared} {Q : Value -> Shared -> Prop} (hb : attributeBase e f env (eval e env) = eval e env)
   (h : wpAny (model prog w) A (eval e env) (fun o s₁ => wpAny (model prog w) A (getAttr o f true) Q E s₁) E s) : wpAny (model prog w) A (eval (.Attribute e f pos) env) Q E s :=
 Attribute_any_ h (by rw [arm_eval_Attribute, hb])
end
def tFld (K : PySem.W.Frag) (ta : TE) (f : Str) : TE := fun σ H Q => ta σ H fun x H1 => ∃ a C dx fs v, x = .ref a /\ H1 a = some (.ins C dx fs) /\ Cls K C /\ NoAttr K C f /\ fs.lookup f = some v /\ Q v H1
def sFld (K : PySem.W.Frag) (ta tv : TE) (f : Str) : TS := fun D σ H => tv σ H fun y H1 => ta σ H1 fun x H2 => ∃ a C dx fs, x = .ref a /\ H2 a = some (.ins C dx fs) /\ Cls K C /\ NoAttr K C f /\ fs.length < 1000 /\
 D.nx σ (upd H2 a (.ins C dx (U9 f y fs)))
section
variable {X : Cx} {o e value : Expr} {f : Str} {pos pos' tpos : Pos} {ta tv : TE}
theorem D4 (he : PE X e ta) (hb : attributeBase e f X.env (eval e X.env) = eval e X.env) : PE X (.Attribute e f pos) (tFld X.K ta f) := by
 intro pins s σ H Q I h
 refine A0bm hb (thn (he pins s σ H _ I h) fun u s1 ⟨x, H1, I1, rx, a, C, dx, fs, v, ex, ea, c, n, l, q⟩ => ?_)
 subst ex
 obtain rfl : u = Value.ref a := rx
 exact J7j I1 ea c n l fun u' s2 I2 ru => ⟨v, H1, I2, ru, q⟩
theorem Y4 (ha : PE X o ta) (hv : PE X value tv) (hs : swapsWith value (some (.Attribute o f pos')) pos.line X.env = pure false) : PS X (.Assign [.Attribute o f pos'] value pos) (sFld X.K ta tv f) := by
 intro pins s σ H D I h
 refine plainObj_wpAny_Assign_Attribute (thn (hv pins s σ H _ I h) fun u s1 ⟨y, H1, I1, ry, q⟩ => thn (ha pins s1 σ H1 _ I1 q) fun ov s2 ⟨x, H2, I2, rx, a, C, dx, fs, ex, ea, c, n, l, q2⟩ => ?_) hs
 subst ex
 obtain rfl : ov = Value.ref a := rx
 exact J6v I2 ea c n l ry fun s3 I3 => ⟨σ, _, I3, q2⟩
end
section
variable {X : Cx} {pins : List (Addr × Obj)} {σ : St} {H : Hp} {s : Shared} {A : Around} {E : Value -> Shared -> Prop} {Q : Value -> Shared -> Prop} {c : Value} {b : Bool}
inductive TyOf (K : PySem.W.Frag) (H : Hp) : V -> Value -> Prop where
 | non : TyOf K H .non (.type "NoneType")
 | bl (x : Bool) : TyOf K H (.bl x) (.type "bool")
 | int (i : Int) : TyOf K H (.int i) (.type "int")
 | str (x : Str) : TyOf K H (.str x) (.type "str")
 | flt (x : UInt64) : TyOf K H (.flt x) (.type "float")
 | lst {a : Addr} {xs : List V} (e : H a = some (.lst xs)) : TyOf K H (.ref a) (.type "list")
 | frz {a : Addr} {o : Obj} {xs : List V} (e : H a = some (.frz o (.lst xs))) : TyOf K H (.ref a) (.type "list")
 | tup {a : Addr} {xs : List V} (e : H a = some (.tup xs)) : TyOf K H (.ref a) (.type "tuple")
 | dK {a : Addr} {kvs : List (Key × V)} (e : H a = some (.dK kvs)) : TyOf K H (.ref a) (.type "dict")
 | dT {a : Addr} {kvs : List (List Key × V)} (e : H a = some (.dT kvs)) : TyOf K H (.ref a) (.type "dict")
 | ins {a C dx : Addr} {fs : List (Str × V)} (e : H a = some (.ins C dx fs)) (cl : Cls K C) (ha : PySem.W.findIn K (.ref C) "__class__" = some (some (.builtin "object.__class__")))
     (hn : PySem.W.specialIn K (.builtin "object.__class__") "__get__" = some (some (.builtin "getset_descriptor.__get__"))) (htk : PySem.W.takesIn K (.builtin "object.__class__") = some true)
     (hm : PySem.W.mroIn K C (.type "object") = some true) : TyOf K H (.ref a) (.ref C)
theorem V3f {x : V} {u t : Value} (I : Inv X pins σ H s) (rx : RelV x u) (ty : TyOf X.K H x t) (e : PySem.W.kitOne X.K t c = some b) (h : ∀ tk, Q (.bool b) { s with toks := tk }) :
   wpAny (model X.prog X.w) A (call (.builtin "isinstance") [u, c]) Q E s := by
 cases ty with
 | non => cases (show u = Value.none from rx); exact PySem.W.kia_one PySem.W.kitx_none I.kIn True.intro e (fun z => nomatch z) h
 | bl y => cases (show u = Value.bool y from rx); exact PySem.W.kia_one PySem.W.kitx_bool I.kIn True.intro e (fun z => nomatch z) h
 | int i => obtain ⟨t, q⟩ := (show ∃ t, u = Value.int i t from rx); cases q; exact PySem.W.kia_one PySem.W.kitx_int I.kIn True.intro e (fun z => nomatch z) h
 | str y => obtain ⟨t, q⟩ := (show ∃ t, u = Value.str y t from rx); cases q; exact PySem.W.kia_one PySem.W.kitx_str I.kIn True.intro e (fun z => nomatch z) h
 | flt y => obtain ⟨t, q⟩ := (show ∃ t, u = Value.float y t from rx); cases q; exact PySem.W.kia_one PySem.W.kitx_float I.kIn True.intro e (fun z => nomatch z) h
 | @lst a xs ea =>
   cases (show u = Value.ref a from rx)
   obtain ⟨_, _, n, _, h1⟩ := (show ObjOk X.prog X.w H s.heap a (.lst xs) from I.hok a _ ea)
   exact PySem.W.kia_one PySem.W.kitx_list I.kIn ⟨_, h1, rfl⟩ e (fun z => nomatch z) h
 | @frz a ob xs ea =>
   cases (show u = Value.ref a from rx)
   obtain ⟨_, _, _, n, _, h1⟩ := (show ObjOk X.prog X.w H s.heap a (.frz ob (.lst xs)) from I.hok a _ ea)
   exact PySem.W.kia_one PySem.W.kitx_list I.kIn ⟨_, h1, rfl⟩ e (fun z => nomatch z) h
 | @tup a xs ea =>
   cases (show u = Value.ref a from rx)
   obtain ⟨_, _, _, p⟩ := (show ObjOk X.prog X.w H s.heap a (.tup xs) from I.hok a _ ea)
   obtain ⟨o, h1, h2, _⟩ := p
   exact PySem.W.kia_one PySem.W.kitx_tuple I.kIn ⟨o, h1, h2⟩ e (fun z => nomatch z) h
 | @dK a kvs ea =>
   cases (show u = Value.ref a from rx)
   obtain ⟨_, _, vs, _, p⟩ := (show ObjOk X.prog X.w H s.heap a (.dK kvs) from I.hok a _ ea)
   obtain ⟨o, es, ep, h1, h2, _⟩ := p
   exact PySem.W.kia_one PySem.W.kitx_dict I.kIn ⟨o, h1, h2.1⟩ e (fun z => nomatch z) h
 | @dT a kvs ea =>
   cases (show u = Value.ref a from rx)
   obtain ⟨_, _, xs, _, o, es, ep, h1, h2, _⟩ := (show ObjOk X.prog X.w H s.heap a (.dT kvs) from I.hok a _ ea)
   exact PySem.W.kia_one PySem.W.kitx_dict I.kIn ⟨o, h1, h2.1⟩ e (fun z => nomatch z) h
 | @ins a C dx fs ea cl ha hn htk hm =>
   cases (show u = Value.ref a from rx)
   obtain ⟨mA, O, _⟩ := C5d I.hok ea
   obtain ⟨od, J, _⟩ := O.look
   exact PySem.W.kia_one (PySem.W.kitx_own (cl.get _) cl.hd ha hn htk hm) I.kIn J e (fun z => nomatch z) h
end
structure Room (k : Nat) (A : Around) : Prop where
 hd : A.handled = none
 dp : A.depth + 3 * k + 5 < recursionLimit
 un : A.units + 16 * k + 200 < cLine
theorem Room.mono {j k : Nat} {A : Around} (r : Room k A) (h : j <= k) : Room j A := ⟨r.hd, by have := r.dp; omega, by have := r.un; omega⟩
theorem Room.deeper {k : Nat} {A : Around} (r : Room (k + 1) A) (env : Env) : Room k (A.deeper env) :=
 ⟨r.hd, by have := r.dp; show A.depth + 1 + 3 * k + 5 < _; omega, by have := r.un; show A.units + 3 + 16 * k + 200 < _; omega⟩
theorem J6d {A : Around} {C : Addr} {us : List Value} {kw : List (Str × Value)} : (A.under (.builtin "type.__call__" ⟨.ref C :: us, kw⟩)).depth = A.depth + 1 := by
 first | rfl | simp [Around.under, Code.weight, Code.isCreation, Code.isGuard, Code.isCaller, Code.frames, Code.isFrame, guardIds]
theorem J7m {A : Around} {C : Addr} {us : List Value} {kw : List (Str × Value)} : (A.under (.builtin "type.__call__" ⟨.ref C :: us, kw⟩)).units = A.units + 1 := by
 first | rfl | simp [Around.under, Code.cUnits, Code.frames, Code.isFrame]
theorem Room.make {k : Nat} {A : Around} (r : Room (k + 1) A) (C : Addr) (us : List Value) (kw : List (Str × Value)) : Room k (A.under (.builtin "type.__call__" ⟨.ref C :: us, kw⟩)) :=
 ⟨r.hd, by have := r.dp; rw [J6d]; omega, by have := r.un; rw [J7m]; omega⟩
theorem Room.depth {k : Nat} {A : Around} (r : Room k A) : A.depth < recursionLimit := by have := r.dp; omega
theorem Room.units {k : Nat} {A : Around} (r : Room k A) : A.units + 64 < cLine := by have := r.un; omega
def Y2z : TA := fun _ H Q => Q [] H
def Y2b (ta : TE) (tr : TA) : TA := fun σ H Q => ta σ H fun x H1 => tr σ H1 fun xs H2 => Q (x :: xs) H2
section
variable {X : Cx} {e : Expr} {es : List Expr} {te : TE} {t : TA} {pos : Pos}
theorem A4 : PA X [] Y2z := fun _ _ _ _ H Q I h => Calls.spliced_nil ⟨[], H, I, .nil, h⟩
theorem A0 (ha : PE X e te) (hr : PA X es t) (hs : starEach (e :: es) X.env = (false, eval e X.env) :: starEach es X.env := by rfl) : PA X (e :: es) (Y2b te t) := by
 intro pos pins s σ H Q I h
 rw [hs]
 show wpAny _ _ (spliced ((false, eval e X.env) :: backTo pos (starEach es X.env))) _ _ s
 refine Calls.spliced_cons (thn (ha pins s σ H _ I h) fun u s1 ⟨x, H1, I1, r1, q1⟩ => ?_)
 exact thn (hr pos pins s1 σ H1 _ I1 q1) fun us s2 ⟨xs, H2, I2, r2, q2⟩ => ⟨x :: xs, H2, I2, .cons r1 r2, q2⟩
def tTup (t : TA) : TE := fun σ H Q => t σ H fun xs H1 => xs.length <= sizeLine /\ ∀ p, H1 p = none -> Q (.ref p) (upd H1 p (.tup xs))
def tLst (t : TA) : TE := fun σ H Q => t σ H fun xs H1 => xs.length <= sizeLine /\ ∀ p, H1 p = none -> Q (.ref p) (upd H1 p (.lst xs))
theorem V0 {x1} (h : PA X es t) : PE X (.Tuple es x1 pos) (tTup t) := by
 intro pins s σ H Q I hq
 refine wpAny_Tuple_spliced (thn (h pos pins s σ H _ I hq) fun us s1 ⟨xs, H1, I1, r, z, q⟩ => ⟨by rw [<- r.length]; exact z, ?_⟩)
 have hf : H1 s1.heap.objs.size = none := I1.hok.fresh (Nat.le_refl _)
 refine ⟨.ref s1.heap.objs.size, upd H1 s1.heap.objs.size (.tup xs), I1.laid (t' := s1.toks) (fun b u e => Heap.get?_push_of_some _ e) (Nat.le_refl _) ?_, rfl, q _ hf⟩
 exact ⟨z, us, r, ⟨_, Heap.get?_push_size _ rfl, rfl, _, rfl⟩⟩
theorem J2 (h : PA X es t) : PE X (.List es pos) (tLst t) := by
 intro pins s σ H Q I hq
 refine wpAny_List_spliced (thn (h pos pins s σ H _ I hq) fun us s1 ⟨xs, H1, I1, r, z, q⟩ => ⟨by rw [<- r.length]; exact z, ?_⟩)
 have hf : H1 s1.heap.objs.size = none := I1.hok.fresh (Nat.le_refl _)
 refine ⟨.ref s1.heap.objs.size, upd H1 s1.heap.objs.size (.lst xs), I1.laid (t' := s1.toks) (fun b u e => Heap.get?_push_of_some _ e) (Nat.le_refl _) ?_, rfl, q _ hf⟩
 exact ⟨z, us, 0, r, Heap.get?_push_size _ rfl⟩
end
abbrev Sp := List V -> Hp -> VK -> XK -> Prop
abbrev CXT := List Env -> Hp -> Shared -> XK -> Value -> Shared -> Prop
structure Env0 (P : Program) (w : World) (K : PySem.W.Frag) (mg : Str -> Option Value) (base : Heap) (A : Around) (outer : List Env) (s : Shared) (H : Hp) : Prop where
 frames : A.frames = some outer
 mod : Mod K mg base
 bs : ∀ b o, base.get? b = some o -> s.heap.get? b = some o /\ H b = none
 bsz : base.objs.size <= s.heap.objs.size
 funs : s.heap.FunFrames base outer
 frf : ∀ b ∈ frs outer, H b = none
 hok : HOk P w H s.heap
 bare : AllBare s.gens
def CE (outer : List Env) (P : Program) (w : World) (H : Hp) (s : Shared) (Q : VK) (u : Value) (s' : Shared) : Prop :=
 ∃ v H', s'.os = s.os /\ AllBare s'.gens /\ Un (frs outer) [] H H' s.heap s'.heap /\ HOk P w H' s'.heap /\ RelV v u /\ Q v H'
def CR (CX : CXT) (outer : List Env) (P : Program) (w : World) (H : Hp) (s : Shared) (Q : VK) (E : XK) (r : Result) (s' : Shared) : Prop :=
 match r with
 | .ok (.ret u) => CE outer P w H s Q u s'
 | .ok _ => False
 | .error e => CX outer H s E e s'
structure FnOk (P : Program) (w : World) (K : PySem.W.Frag) (mg : Str -> Option Value) (base : Heap) (CX : CXT) (k : Nat) (f : Addr) (fd : FuncData) (ps : List Str) (sp : Sp) : Prop where
 len : ∀ vs H Q E, sp vs H Q E -> vs.length = ps.length
 run : ∀ (A : Around) (outer : List Env) (s : Shared) (H : Hp) (args : Args) (us : List Value) (vs : List V) (Q : VK) (E : XK), Room k A -> Env0 P w K mg base A outer s H -> BindsTo s fd args (ps.zip us) -> Vals vs us -> sp vs H Q E ->
   codeAny (model P w) A (.call (.ref f) args) (CR CX outer P w H s Q E) s
theorem FnOk.mono {P : Program} {w : World} {K : PySem.W.Frag} {mg : Str -> Option Value} {base : Heap} {CX : CXT} {j k : Nat} {f : Addr} {fd : FuncData} {ps : List Str} {sp : Sp} (F : FnOk P w K mg base CX j f fd ps sp) (h : j <= k) :
   FnOk P w K mg base CX k f fd ps sp := ⟨F.len, fun A outer s H args us vs Q E hr => F.run A outer s H args us vs Q E (hr.mono h)⟩
theorem Env0.make {P : Program} {w : World} {K : PySem.W.Frag} {mg : Str -> Option Value} {base : Heap} {A : Around} {outer : List Env} {s : Shared} {H : Hp} (e : Env0 P w K mg base A outer s H) (C : Addr) (us : List Value) (kw : List (Str × Value)) :
   Env0 P w K mg base (A.under (.builtin "type.__call__" ⟨.ref C :: us, kw⟩)) outer s H := ⟨by first | exact e.frames | (simpa [Around.under, Code.envs, Code.isFrame, pushEnvs] using e.frames), e.mod, e.bs, e.bsz, e.funs, e.frf, e.hok, e.bare⟩
section
variable {X : Cx} {pins : List (Addr × Obj)} {σ : St} {H : Hp} {s s' : Shared}
theorem Inv.env0 (I : Inv X pins σ H s) : Env0 X.prog X.w X.K X.mg X.base X.A X.stack s H :=
 ⟨I.ok.frames, I.ok.mod, I.bs, Nat.le_trans I.ok.bsz I.sz, I.stack, I.stkFree, I.hok, I.bare⟩
theorem Inv.after {Q : VK} {u : Value} (I : Inv X pins σ H s) (h : CE X.stack X.prog X.w H s Q u s') : EP X pins σ Q u s' := by
 obtain ⟨v, H', os, bare, un, hok, r, q⟩ := h
 obtain ⟨hh, g, d, t, os'⟩ := s'
 obtain rfl : os' = s.os := os
 exact ⟨v, H', I.call (h' := hh) (g' := g) (d' := d) (t' := t) (ch := []) un hok bare (fun b z => absurd z (by simp)), r, q⟩
end
def A0qa (C : Addr) (sp : Sp) (dvs : List V) (E : XK) (t : TA) : TE := fun σ H Q => t σ H fun vs H1 => ∀ x dx, H1 x = none -> H1 dx = none -> dx ≠ x ->
 sp (.ref x :: (vs ++ dvs)) (upd (upd H1 dx (.own x)) x (.ins C dx [])) (fun v H2 => v = .non /\ Q (.ref x) H2) E
def Binds (K : PySem.W.Frag) (fd : FuncData) (ps : List Str) (ds : List Value) : Prop :=
 ∀ (s : Shared) (us : List Value), K.In s.heap -> (us ++ ds).length = ps.length -> BindsTo s fd ⟨us, []⟩ (ps.zip (us ++ ds))
theorem Binds.all {K : PySem.W.Frag} {fd : FuncData} {ps : List Str} (h : ∀ us : List Value, us.length = ps.length -> bindArgs fd ⟨us, []⟩ = pure (ps.zip us)) : Binds K fd ps [] := fun s us _ hl => by
 rw [List.append_nil] at hl ⊢
 exact .of_eq (h us hl)
def J5p (CX : CXT) (X : Cx) (E : XK) : Prop := ∀ (pins : List (Addr × Obj)) (σ : St) (H : Hp) (s : Shared) (e : Value) (s' : Shared), Inv X pins σ H s -> CX X.stack H s E e s' -> X.xe e s'
section
variable {X : Cx} {CX : CXT} {k : Nat} {f C : Addr} {fd : FuncData} {ps : List Str} {sp : Sp} {dvs : List V} {ds : List Value} {E : XK} {x m : Str} {p pos apos : Pos} {e o : Expr} {es : List Expr} {ta : TE} {t : TA}
structure Mk (K : PySem.W.Frag) (C f : Addr) : Prop where
 makes : PySem.W.makesIn K C = true
 init : PySem.W.findIn K (.ref C) "__init__" = some (some (.ref f))
 fn : PySem.W.isFn K (.ref f) = true
 kp : PySem.W.keepIn K (.ref C) = true
theorem Y2h {pins : List (Addr × Obj)} {σ : St} {H : Hp} {s : Shared} {Q : VK} {us : List Value} {vs : List V} (M : Mk X.K C f) (F : FnOk X.prog X.w X.K X.mg X.base CX k f fd ps sp) (hr : Room (k + 1) X.A) (hb : Binds X.K fd ps ds) (hd : Vals dvs ds)
   (hx : J5p CX X E) (I : Inv X pins σ H s) (r : Vals vs us)
   (h : ∀ x dx, H x = none -> H dx = none -> dx ≠ x -> sp (.ref x :: (vs ++ dvs)) (upd (upd H dx (.own x)) x (.ins C dx [])) (fun v H2 => v = .non /\ Q (.ref x) H2) E) :
   wpAny (model X.prog X.w) X.A (call (.ref C) us) (EP X pins σ Q) X.xe s := by
 have hq := h (s.heap.objs.size + 1) s.heap.objs.size (I.hok.fresh (Nat.le_succ _)) (I.hok.fresh (Nat.le_refl _)) (Nat.ne_of_lt (Nat.lt_succ_self _))
 have I2 := Inv.made (C := C) I
 have r2 : Vals (V.ref (s.heap.objs.size + 1) :: (vs ++ dvs)) (Value.ref (s.heap.objs.size + 1) :: (us ++ ds)) := .cons rfl (r.append hd)
 have hl : (Value.ref (s.heap.objs.size + 1) :: us ++ ds).length = ps.length := by
   have e := r2.length
   rw [F.len _ _ _ _ hq] at e
   exact e.symm
 refine wpAny_call (G9e (f := f) I.kIn M.makes M.init (beq_iff_eq.mp M.fn) (codeAny_mono (F.run _ X.stack _ _ ⟨Value.ref (s.heap.objs.size + 1) :: us, []⟩ (Value.ref (s.heap.objs.size + 1) :: (us ++ ds)) _ _ E (hr.make C us [])
   (I2.env0.make C us []) (hb _ (Value.ref (s.heap.objs.size + 1) :: us) I2.kIn hl) r2 hq) fun r s' hq' => ?_))
 cases r with
 | error e => exact hx pins σ _ _ e s' I2 hq'
 | ok fl =>
   cases fl with
   | ret u =>
     obtain ⟨v, H', I3, rv, ev, q3⟩ := I2.after hq'
     subst ev
     exact ⟨rv, ⟨V.ref (s.heap.objs.size + 1), H', I3, rfl, q3⟩⟩
   | next => exact False.elim hq'
   | brk => exact False.elim hq'
   | cont => exact False.elim hq'
theorem D7y (M : Mk X.K C f) (F : FnOk X.prog X.w X.K X.mg X.base CX k f fd ps sp) (hr : Room (k + 1) X.A) (hg : Gl X x) (hm : X.mg x = some (.ref C)) (hb : Binds X.K fd ps ds) (hd : Vals dvs ds) (hx : J5p CX X E)
   (ha : PA X (e :: es) t) (hdb : (x == ("__debug__" : Str)) = false := by decide) (he : starEach (e :: es) X.env = (false, eval e X.env) :: starEach es X.env := by rfl) (hpl : (backTo pos (starEach es X.env)).any (·.1) = false := by rfl) :
   PE X (.Call (.Name x p) (e :: es) [] pos) (A0qa C sp dvs E t) := by
 intro pins s σ H Q I h
 refine wpAny_Call_Name_kw (A1z I hg hm ?_ hdb)
 refine PySem.W.callWith_K (h₀ := X.base) I.ok.mod.kin M.kp (thn (ha pos pins s σ H _ I h) fun us s1 ⟨vs, H1, I1, r, q⟩ => ⟨I1.kIn, ?_⟩) he hpl
 exact Y2h M F hr hb hd hx I1 r q
end
section
variable {X : Cx} {CX : CXT} {k : Nat} {f C : Addr} {fd : FuncData} {ps ks : List Str} {sp : Sp} {E : XK} {x m : Str} {p pos apos kpos : Pos} {e o : Expr} {es : List Expr} {kws : List Keyword} {te ta : TE} {t tk : TA} {nm : Option Str}
structure KBinds (K : PySem.W.Frag) (fd : FuncData) (ps ks : List Str) (g : List Value -> List Value -> List Value) (gV : List V -> List V -> List V) : Prop where
 to : ∀ (s : Shared) (us ws : List Value), K.In s.heap -> (g us ws).length = ps.length -> BindsTo s fd ⟨us, ks.zip ws⟩ (ps.zip (g us ws))
 rel : ∀ {vs : List V} {us : List Value} {zs : List V} {ws : List Value}, Vals vs us -> Vals zs ws -> Vals (gV vs zs) (g us ws)
variable {g : List Value -> List Value -> List Value} {gV : List V -> List V -> List V}
end
structure FnScope (N P : List Str) (sc : Scope) : Prop where
 kind : sc.kind = .function
 co : sc.isCoroutine = false
 gen : sc.isGenerator = false
 nd : N.Nodup
 pre : N.take P.length = P
 par : ∀ x ∈ P, sc.names.lookup x = some .local \/ sc.names.lookup x = some .cell
 nofree : ∀ y ∈ sc.names, y.2 ≠ .free
theorem D5f {kindOf : Str -> Option NameKind} {x : Str} : ∀ {binds : List (Str × Value)} {m : Str -> Option Value}, (∀ v, (x, v) ∉ binds) -> bindL kindOf binds m x = m x
 | [], _, _ => rfl
 | (n, v) :: r, m, h => by
   unfold bindL
   rw [D5f fun w hw => h w (List.mem_cons_of_mem _ hw)]
   split
   . have : x ≠ n := by rintro rfl; exact h v List.mem_cons_self
     simp [this]
   . rfl
theorem D6d {kindOf : Str -> Option NameKind} {x : Str} : ∀ {binds : List (Str × Value)} {m : Str -> Option Value}, (∀ v, (x, v) ∉ binds) -> bindC kindOf binds m x = m x
 | [], _, _ => rfl
 | (n, v) :: r, m, h => by
   unfold bindC
   rw [D6d fun w hw => h w (List.mem_cons_of_mem _ hw)]
   split
   . rfl
   . have : x ≠ n := by rintro rfl; exact h v List.mem_cons_self
     simp [this]
theorem D6e {kindOf : Str -> Option NameKind} {x : Str} {v : Value} : ∀ {P : List Str} {vs : List Value} {i : Nat} {m : Str -> Option Value}, P.Nodup -> P[i]? = some x -> vs[i]? = some v -> kindOf x = some .local ->
   bindL kindOf (P.zip vs) m x = some v
 | [], _, _, _, _, h, _, _ => by simp at h
 | _ :: _, [], _, _, _, _, h, _ => by simp at h
 | p :: P, w :: vs, 0, m, nd, h1, h2, hk => by
   simp at h1 h2; subst h1; subst h2
   show bindL kindOf ((p, w) :: P.zip vs) m p = _
   unfold bindL
   rw [D5f fun v hv => (List.nodup_cons.mp nd).1 (List.of_mem_zip hv).1, if_pos hk]
   simp
 | p :: P, w :: vs, i + 1, m, nd, h1, h2, hk => by
   show bindL kindOf ((p, w) :: P.zip vs) m x = _
   unfold bindL
   exact D6e (i := i) (List.nodup_cons.mp nd).2 (by simpa using h1) (by simpa using h2) hk
theorem D5n {kindOf : Str -> Option NameKind} {x : Str} {v : Value} : ∀ {P : List Str} {vs : List Value} {i : Nat} {m : Str -> Option Value}, P.Nodup -> P[i]? = some x -> vs[i]? = some v -> kindOf x ≠ some .local ->
   bindC kindOf (P.zip vs) m x = some v
 | [], _, _, _, _, h, _, _ => by simp at h
 | _ :: _, [], _, _, _, _, h, _ => by simp at h
 | p :: P, w :: vs, 0, m, nd, h1, h2, hk => by
   simp at h1 h2; subst h1; subst h2
   show bindC kindOf ((p, w) :: P.zip vs) m p = _
   unfold bindC
   rw [D6d fun v hv => (List.nodup_cons.mp nd).1 (List.of_mem_zip hv).1, if_neg hk]
   simp
 | p :: P, w :: vs, i + 1, m, nd, h1, h2, hk => by
   show bindC kindOf ((p, w) :: P.zip vs) m x = _
   unfold bindC
   exact D5n (i := i) (List.nodup_cons.mp nd).2 (by simpa using h1) (by simpa using h2) hk
def B3m (N : List Str) (vs : List V) : St := vs.map some ++ List.replicate (N.length - vs.length) none
def A1s (CX : CXT) (P : Program) (w : World) (K : PySem.W.Frag) (mg : Str -> Option Value) (base : Heap) (N : List Str) (qual : Str) (scope : Scope) (f : Addr) (cd : Value) (A : Around) (outer : List Env) (s : Shared) (H : Hp) (E : XK) : Cx where
 prog := P
 w := w
 K := K
 mg := mg
 base := base
 A := A.deeper (envOfC qual scope s.heap.objs.size f cd)
 N := N
 s₀ := s
 H₀ := H
 env := envOfC qual scope s.heap.objs.size f cd
 outer := outer
 stack := envOfC qual scope s.heap.objs.size f cd :: outer
 ex := []
 calm := true
 fn := fun _ => true
 pn := []
 xe := fun e s' => wpAny (model P w) (A.deeper (envOfC qual scope s.heap.objs.size f cd)) (leaving (envOfC qual scope s.heap.objs.size f cd) e) (fun _ s'' => CX outer H s E e s'') (fun e' s'' => CX outer H s E e' s'') s'
theorem J0a {sc : Scope} {n : Nat} {x : Str} (h : sc.names.lookup x = some .cell) : ∃ c, (cellsFrom n sc.names []).lookup x = some c := by
 have q := PySem.W.cellsFrom_some sc.names n [] (.inl h)
 exact Option.isSome_iff_exists.mp q
theorem V2a {CX : CXT} {P : Program} {w : World} {K : PySem.W.Frag} {mg : Str -> Option Value} {base : Heap} {N ps : List Str} {qual : Str} {scope : Scope} {f : Addr} {cd : Value} {A : Around} {outer : List Env} {s s1 : Shared} {H : Hp} {E : XK} {us : List Value} {vs : List V}
   (S : FnScope N ps scope) (hd : A.handled = none) (e0 : Env0 P w K mg base A outer s H) (hl : vs.length = ps.length) (r : Vals vs us)
   (x : InCallC s s.heap.objs.size (bindL (envOfC qual scope s.heap.objs.size f cd).kindOf (ps.zip us) fun _ => none) (cellsFrom (s.heap.objs.size + 1) scope.names []) (bindC (envOfC qual scope s.heap.objs.size f cd).kindOf (ps.zip us) fun _ => none) s1) :
   Inv (A1s CX P w K mg base N qual scope f cd A outer s H E) [] (B3m N vs) H s1 := by
 have hpl : ps.length <= N.length := by have := congrArg List.length S.pre; rw [List.length_take] at this; omega
 obtain ⟨h1, tk, rfl, hk⟩ := x.done
 have noA : ∀ b : Addr, b ∉ (A1s CX P w K mg base N qual scope f cd A outer s H E).ex := fun b z => absurd (show b ∈ ([] : List Addr) from z) (by simp)
 refine ⟨⟨e0.mod, S.kind, rfl, rfl, Nat.le_refl _, fun y z c h1 h2 => ?_, fun y hy => ?_, fun y c _ h => ?_, fun _ => hd, Around.frames_deeper e0.frames, .inr ⟨rfl, rfl⟩, fun b z => absurd z (noA b), e0.bs, e0.bsz, fun b _ _ => noA b, fun b z => absurd z (noA b), e0.funs, e0.frf⟩,
   rfl, e0.bare, Un.kept hk, ⟨_, x.toInCall.ns, fun i y v h1 h2 h3 => ?_⟩, fun y c h => ⟨_, x.cell y c h⟩, e0.hok.fresh (Nat.le_refl _), fun y c h => ?_, fun p hp => absurd (show p ∈ ([] : List (Addr × Obj)) from hp) (by simp), e0.hok.kept hk, ?_⟩
 . exact name_of_addr x.apart (PySem.mem_of_lookup h1) (PySem.mem_of_lookup h2)
 . have hy : scope.names.lookup y = some .cell \/ scope.names.lookup y = some .free := hy
   rcases hy with hy | hy
   . exact J0a hy
   . exact absurd rfl (S.nofree _ (PySem.mem_of_lookup hy))
 . exact Nat.le_of_lt (x.above y c (PySem.mem_of_lookup h))
 . have hi : i < vs.length := by
     unfold B3m at h2
     by_cases hi : i < vs.length
     . exact hi
     . rw [List.getElem?_append_right (by simpa using hi)] at h2
       rw [List.getElem?_replicate] at h2
       split at h2 <;> cases h2
   have ha : vs[i]? = some v := by
     unfold B3m at h2
     rw [List.getElem?_append_left (by simpa using hi), List.getElem?_map] at h2
     cases e : vs[i]? with
     | none => rw [e] at h2; cases h2
     | some a => rw [e] at h2; cases h2; rfl
   obtain ⟨u, hu, rv⟩ := r.get ha
   have hp : ps[i]? = some y := by
     rw [<- S.pre, List.getElem?_take_of_lt (by omega)]; exact h1
   have ndP : ps.Nodup := by rw [<- S.pre]; exact S.nd.sublist (List.take_sublist _ _)
   refine ⟨u, rv, ?_⟩
   rcases S.par y (List.mem_of_getElem? hp) with k | k
   . exact .inl ⟨k, D6e ndP hp hu k⟩
   . obtain ⟨c, e⟩ := J0a (n := s.heap.objs.size + 1) k
     refine .inr ⟨.inl k, c, e, ?_⟩
     have q := x.cell y c e
     rw [D5n ndP hp hu (by show scope.names.lookup y ≠ _; rw [k]; decide)] at q
     exact q
 . exact e0.hok.fresh (Nat.le_of_lt (x.above y c (PySem.mem_of_lookup h)))
 . unfold B3m
   show _ = N.length
   rw [List.length_append, List.length_map, List.length_replicate]
   omega
theorem Y3q {CX : CXT} {P : Program} {w : World} {K : PySem.W.Frag} {mg : Str -> Option Value} {base : Heap} {k : Nat} {f : Addr} {name qual : Str} {params : Arguments} {body : List Stmt} {scope : Scope} {dV kV doc pm cdv ct oc : Value} {an od : Option Addr}
   {osl : Array (Option Value)} {N ps : List Str} {sp : Sp} (lk : K.lookup f = some ⟨oc, od, .func (PySem.W.fnOf name qual params body scope dV kV doc pm an cdv ct), osl⟩) (hcd : PySem.W.codeIn K cdv qual = true) (S : FnScope N ps scope)
   (len : ∀ vs H Q E, sp vs H Q E -> vs.length = ps.length)
   (hbody : ∀ (A : Around) (outer : List Env) (s : Shared) (H : Hp) (vs : List V) (Q : VK) (E : XK), Room k (A.deeper (envOfC qual scope s.heap.objs.size f cdv)) -> sp vs H Q E ->
     ∃ t, PSs (A1s CX P w K mg base N qual scope f cdv A outer s H E) body t /\ t { nx := fun _ H' => Q .non H', rt := Q } (B3m N vs) H) :
   FnOk P w K mg base CX (k + 1) f (PySem.W.fnOf name qual params body scope dV kV doc pm an cdv ct) ps sp := by
 refine ⟨len, fun A outer s H args us vs Q E hr e0 hb r hsp => ?_⟩
 have hl := len _ _ _ _ hsp
 have KX : K.In s.heap := e0.mod.kin.keeps fun b o e => (e0.bs b o e).1
 have lim : s.heap.NoLimit := e0.mod.nolimit.keeps fun b o e => (e0.bs b o e).1
 have hkind : ∀ y ∈ ps.zip us, scope.names.lookup y.1 = some .local \/ (scope.names.lookup y.1 = some .cell /\ ((cellsFrom (s.heap.objs.size + 1) scope.names []).lookup y.1).isSome = true) := fun ⟨n, v⟩ hy => by
   rcases S.par n (List.of_mem_zip hy).1 with q | q
   . exact .inl q
   . exact .inr ⟨q, PySem.W.cellsFrom_some _ _ _ (.inl q)⟩
 refine codeAny_call_function hr.depth (KX _ _ lk) rfl S.co S.gen rfl (PySem.W.codeRec_of KX hcd) (hb _ _ _ _ ?_)
 refine wpAny_newFunctionEnv_cells S.kind hkind fun env he s1 x => ?_
 subst he
 refine ⟨lim.keeps x.toInCall.keep, codeAny_func ?_⟩
 obtain ⟨t, ht, hq⟩ := hbody A outer s H vs Q E (hr.deeper _) hsp
 have I : Inv (A1s CX P w K mg base N qual scope f cdv A outer s H E) [] (B3m N vs) H s1 := V2a S hr.hd e0 hl r x
 refine wpAny_mono (ht [] s1 (B3m N vs) H _ I hq) (fun fl s' hs => ?_) fun e s' hs => hs
 have fin : ∀ {σ' : St} {H' : Hp} {v : V} {u : Value}, Inv (A1s CX P w K mg base N qual scope f cdv A outer s H E) [] σ' H' s' -> RelV v u -> Q v H' -> CE outer P w H s Q u s' :=
   fun {σ' H' v u} J rv q => ⟨v, H', J.os, J.bare, J.base, J.hok, rv, q⟩
 cases fl with
 | ret u =>
   obtain ⟨v, σ', H', J, rv, q⟩ := hs
   exact fin J rv q
 | next =>
   obtain ⟨σ', H', J, q⟩ := hs
   exact fin (v := V.non) (u := Value.none) J rfl q
 | brk =>
   obtain ⟨_, _, _, q⟩ := hs
   exact False.elim q
 | cont =>
   obtain ⟨_, _, _, q⟩ := hs
   exact False.elim q
section
variable {X : Cx} {x : Str} {p pos : Pos} {e : Expr} {es : List Expr} {t : TA} {id T : String} {r : List V -> Hp -> VK -> Prop}
def tCB (r : List V -> Hp -> VK -> Prop) (t : TA) : TE := fun σ H Q => t σ H fun vs H1 => r vs H1 Q
theorem J7 (hc : A4n X (.builtin id) r) (hg : Gl X x) (hm : X.mg x = none) (hv : bootBuiltins x = some (.builtin id)) (ha : PA X (e :: es) t) (hn : x ≠ "__name__" := by decide) (hdb : (x == ("__debug__" : Str)) = false := by decide)
   (he : starEach (e :: es) X.env = (false, eval e X.env) :: starEach es X.env := by rfl) (hpl : (backTo pos (starEach es X.env)).any (·.1) = false := by rfl) : PE X (.Call (.Name x p) (e :: es) [] pos) (tCB r t) := by
 intro pins s σ H Q I h
 refine wpAny_Call_Name_kw (D8a I hg hm hv ?_ hn hdb)
 exact PyProof.Rows.callWith_builtin1 (thn (ha pos pins s σ H _ I h) fun us s1 ⟨vs, H1, I1, r1, q1⟩ => hc pins s1 σ H1 vs us Q I1 r1 q1) he hpl
theorem V6 (hc : A4n X (.type T) r) (hg : Gl X x) (hm : X.mg x = none) (hv : bootBuiltins x = some (.type T)) (ha : PA X (e :: es) t) (hn : x ≠ "__name__" := by decide) (hdb : (x == ("__debug__" : Str)) = false := by decide)
   (he : starEach (e :: es) X.env = (false, eval e X.env) :: starEach es X.env := by rfl) (hpl : (backTo pos (starEach es X.env)).any (·.1) = false := by rfl) : PE X (.Call (.Name x p) (e :: es) [] pos) (tCB r t) := by
 intro pins s σ H Q I h
 refine wpAny_Call_Name_kw (D8a I hg hm hv ?_ hn hdb)
 exact PyProof.Rows.callWith_type1 (thn (ha pos pins s σ H _ I h) fun us s1 ⟨vs, H1, I1, r1, q1⟩ => hc pins s1 σ H1 vs us Q I1 r1 q1) he hpl
end
end L2
namespace HT
open PySem PyProof.Rows
section
open PySem.SeqAt
open PySem.AutoSeq1 (wpAny_loadPart')
open PySem.MeetsSeq PySem.MeetsSeq2 PySem.MeetsSeq3
end
section
variable {prog : Program} {w : World} {A : Around} {E : Value -> Shared -> Prop} {s : Shared}
end
end HT
namespace L2
open PySem PySem.Spec PyProof.Rows
section
variable {X : Cx} {e : Expr} {te : TE} {lo hi : Option Expr} {tl th : TO} {pos p2 : Pos}
end
def ixN (n : Nat) (i : Int) : Option Nat := if 0 <= i then (if i < n then some i.toNat else none) else if -(n : Int) <= i then some (i + n).toNat else none
def atI {α : Type} (xs : List α) (i : Int) : Option α := (ixN xs.length i).bind fun j => xs[j]?
theorem U9z {n : Nat} {i : Int} {j : Nat} (h : ixN n i = some j) : seqIndex? i n = some j /\ j < n /\ -(n : Int) <= i /\ i < n := by
 unfold ixN at h
 by_cases h0 : 0 <= i
 . rw [if_pos h0] at h
   by_cases h1 : i < n
   . rw [if_pos h1] at h
     have e : i.toNat = j := Option.some.inj h
     exact ⟨by rw [seqIndex_of h0 h1, e], by omega, by omega, h1⟩
   . rw [if_neg h1] at h; cases h
 . rw [if_neg h0] at h
   by_cases h1 : -(n : Int) <= i
   . rw [if_pos h1] at h
     have e : (i + n).toNat = j := Option.some.inj h
     exact ⟨by rw [seqIndex_neg (by omega) h1, e], by omega, h1, by omega⟩
   . rw [if_neg h1] at h; cases h
theorem V0b {α : Type} {xs : List α} {i : Int} {v : α} (h : atI xs i = some v) : ∃ j, seqIndex? i xs.length = some j /\ xs[j]? = some v /\ j < xs.length /\ -(xs.length : Int) <= i /\ i < xs.length := by
 unfold atI at h
 cases e : ixN xs.length i with
 | none => rw [e] at h; cases h
 | some j =>
   rw [e] at h
   obtain ⟨h1, h2, h3, h4⟩ := U9z e
   exact ⟨j, h1, h, h2, h3, h4⟩
theorem B7 {α : Type} {xs : List α} {j : Nat} {v : α} (h : xs[j]? = some v) : atI xs (j : Int) = some v := by
 have hj : j < xs.length := (List.getElem?_eq_some_iff.mp h).1
 have e : ixN xs.length (j : Int) = some j := by
   unfold ixN
   rw [if_pos (by omega), if_pos (by omega)]; simp
 unfold atI; rw [e]; exact h
def A0bp (b : Expr) : Prop := ∀ o i, subscripted b false o i = operate [o, i] (getItem o i)
def IxR (X : Cx) (r : R2) : Prop :=
 ∀ (value slice : Expr) (pins : List (Addr × Obj)) (s : Shared) (σ : St) (H : Hp) (x y : V) (v u : Value) (Q : VK), Inv X pins σ H s -> RelV x v -> RelV y u -> r x y H Q ->
   subscripted slice false v u = operate [v, u] (getItem v u) -> wpAny (model X.prog X.w) X.A (subscriptTail value slice v u) (EP X pins σ Q) X.xe s
def MtR (X : Cx) (id : String) (r : V -> List V -> Hp -> VK -> Prop) : Prop :=
 ∀ (pins : List (Addr × Obj)) (s : Shared) (σ : St) (H : Hp) (x : V) (xs : List V) (v : Value) (us : List Value) (Q : VK), Inv X pins σ H s -> RelV x v -> Vals xs us -> r x xs H Q ->
   wpAny (model X.prog X.w) X.A (call (.builtin id) (v :: us)) (EP X pins σ Q) X.xe s
section
variable {X : Cx} {a b : Expr} {ta tb : TE} {pos : Pos}
theorem D7 {r : R2} (hr : IxR X r) (ha : PE X a ta) (hb : PE X b tb) (hs : A0bp b) : PE X (.Subscript a b pos) (tOp r ta tb) := by
 intro pins s σ H Q I h
 exact Subscript_ (binT ha hb I h fun v u s2 x y H2 I2 rx ry q => hr a b pins s2 σ H2 x y v u Q I2 rx ry q (hs _ _))
def rIxL (K : PySem.W.Frag) : R2 := fun x y H Q => ∃ p xs i v, x = .ref p /\ y = .int i /\ SqL K H p xs /\ atI xs i = some v /\ Q v H
def rIxT (K : PySem.W.Frag) : R2 := fun x y H Q => ∃ p xs i v, x = .ref p /\ y = .int i /\ SqT K H p xs /\ atI xs i = some v /\ Q v H
theorem V4 : IxR X (rIxL X.K) := by
 intro value slice pins s σ H x y v u Q I rx ry h hs
 obtain ⟨p, xs, i, z, rfl, rfl, hq, he, q⟩ := h
 cases rx
 obtain ⟨t, rfl⟩ := ry
 obtain ⟨its, r, pl, hz⟩ := I.list hq
 obtain ⟨j, h1, h2, h3, h4, h5⟩ := V0b he
 obtain ⟨w, ew, rw'⟩ := r.get h2
 have hl := r.length
 have hn := C5r
 have fin : EP X pins σ Q w s := ⟨z, H, I, rw', q⟩
 by_cases h0 : 0 <= i
 . have hj : i.toNat = j := by
     rw [seqIndex_of h0 h5] at h1
     exact Option.some.inj h1
   exact item_listR pl.isList h0 (by omega) (by rw [hj]; simpa using ew) fin hs
 . have hj : (i + (its.toArray.size : Int)).toNat = j := by
     rw [seqIndex_neg (by omega) h4] at h1
     rw [List.size_toArray, <- hl]
     exact Option.some.inj h1
   exact subscriptTail_builtinR (x := w) pl.isList.typeIs slot_list_getitem.lookup
     (wpAny_getItem_list_neg (Q := fun r s' => r = w /\ EP X pins σ Q r s') pl.isList (by omega) (by rw [List.size_toArray] <;> omega) (by omega) (by rw [hj]; simpa using ew) ⟨rfl, fin⟩) hs
theorem D8 : IxR X (rIxT X.K) := by
 intro value slice pins s σ H x y v u Q I rx ry h hs
 obtain ⟨p, xs, i, z, rfl, rfl, hq, he, q⟩ := h
 cases rx
 obtain ⟨t, rfl⟩ := ry
 obtain ⟨its, r, pl, hz⟩ := I.tuple hq
 obtain ⟨j, h1, h2, h3, h4, h5⟩ := V0b he
 obtain ⟨w, ew, rw'⟩ := r.get h2
 have hl := r.length
 have hn := C5r
 have fin : EP X pins σ Q w s := ⟨z, H, I, rw', q⟩
 exact subscriptTail_builtinR (x := w) pl.typeIs slot_tuple_getitem.lookup
   (getItem_tuple (j := j) (Q := fun r s' => r = w /\ EP X pins σ Q r s') pl (by omega) (by omega) (by rw [List.size_toArray, <- hl]; exact h1) (by simpa using ew) ⟨rfl, fin⟩) hs
theorem J5j (its : List Value) (n j : Nat) (u : Value) : Obj.mapSeq (·.setIfInBounds j u) { cls := .type "list", data := .seq its.toArray n } = { cls := .type "list", data := .seq (its.set j u).toArray n } := by
 simp [Obj.mapSeq]
theorem Inv.lst {pins : List (Addr × Obj)} {σ : St} {H : Hp} {s : Shared} {p : Addr} {xs : List V} (I : Inv X pins σ H s) (h : H p = some (.lst xs)) :
   ∃ (its : List Value) (n : Nat), Vals xs its /\ s.heap.get? p = some { cls := .type "list", data := .seq its.toArray n } /\ xs.length <= sizeLine := by
 obtain ⟨z, its, n, r, e⟩ := I.hok p _ h
 exact ⟨its, n, r, e, z⟩
theorem Inv.lstUpd {pins : List (Addr × Obj)} {σ : St} {H : Hp} {s : Shared} {p : Addr} {xs ys : List V} {its its' : List Value} {n n' : Nat} {f : Obj -> Obj} (I : Inv X pins σ H s) (h : H p = some (.lst xs))
   (ho : s.heap.get? p = some { cls := .type "list", data := .seq its.toArray n }) (hf : f { cls := .type "list", data := .seq its.toArray n } = { cls := .type "list", data := .seq its'.toArray n' }) (r : Vals ys its') (hz : ys.length <= sizeLine) (t : Nat) :
   Inv X pins σ (upd H p (.lst ys)) { s with heap := s.heap.update p f, toks := t } := by
 have e : (s.heap.update p f).get? p = some { cls := .type "list", data := .seq its'.toArray n' } := by
   rw [Heap.get?_update_self f ho (by rw [hf] <;> rfl), hf]
 refine I.write (x := p) (e := p) (by rw [h]; trivial) (.inl rfl) (fun b u hb q => (Heap.get?_update_other _ _ (Ne.symm hb)).trans q) ⟨_, e⟩ ?_
 exact ⟨hz, its', n', r, e⟩
def A0qv : V -> V -> V -> Hp -> (Hp -> Prop) -> Prop := fun o i v H Q => ∃ p xs k j, o = .ref p /\ i = .int k /\ H p = some (.lst xs) /\ ixN xs.length k = some j /\ Q (upd H p (.lst (xs.set j v)))
theorem J0c : PSet X A0qv := by
 intro pins s σ H o i v ov iv u Q I ro ri rv h
 obtain ⟨p, xs, k, j, rfl, rfl, hp, hj, q⟩ := h
 cases ro
 obtain ⟨t, rfl⟩ := ri
 obtain ⟨its, n, r, ho, hz⟩ := I.lst hp
 obtain ⟨h1, h2, h3, h4⟩ := U9z hj
 have hl := r.length
 have hn := C5r
 have I' : Inv X pins σ (upd H p (.lst (xs.set j v))) { s with heap := s.heap.update p (Obj.mapSeq (·.setIfInBounds j u)) } :=
   I.lstUpd hp ho (J5j its n j u) (r.set rv j) (by rw [List.length_set]; exact hz) s.toks
 by_cases h0 : 0 <= k
 . have hk : k.toNat = j := by
     rw [seqIndex_of h0 h4] at h1
     exact Option.some.inj h1
   exact PySem.W.ki_setAt ho h0 (by omega) (by rw [List.size_toArray, <- hl]; exact h4) (by rw [hk]; exact ⟨_, I', q⟩)
 . have hk : (k + (its.toArray.size : Int)).toNat = j := by
     rw [seqIndex_neg (by omega) h3] at h1
     rw [List.size_toArray, <- hl]
     exact Option.some.inj h1
   exact PySem.W.ki_setBack ho (by omega) (by rw [List.size_toArray, <- hl]; exact h3) (by omega) (by rw [hk]; exact ⟨_, I', q⟩)
def B7k : V -> Bool
 | .non => true
 | .bl _ => true
 | .int _ => true
 | .str _ => true
 | _ => false
def eqV : V -> V -> Bool
 | .non, .non => true
 | .bl a, .bl b => a == b
 | .bl a, .int b => (if a then 1 else 0) == b
 | .int a, .bl b => a == (if b then 1 else 0)
 | .int a, .int b => a == b
 | .str a, .str b => a == b
 | _, _ => false
theorem A0kp {A : Around} {s : Shared} {y x : V} {u v : Value} (ry : RelV y u) (rx : RelV x v) (fy : B7k y = true) (fx : B7k x = true) : SeqAt.EqAt A s u v (eqV y x) := by
 cases y with
 | non =>
   cases ry
   cases x with
   | non => cases rx; exact SeqAt.EqAt.same _
   | bl b => cases rx; exact SeqAt.EqAt.none_bool b
   | int b => obtain ⟨t, rfl⟩ := rx; exact SeqAt.EqAt.none_int b t
   | str b => obtain ⟨t, rfl⟩ := rx; exact SeqAt.EqAt.none_str b t
   | _ => exact absurd (show false = true from fx) Bool.false_ne_true
 | bl a =>
   cases ry
   cases x with
   | non => cases rx; exact SeqAt.EqAt.bool_none a
   | bl b => cases rx; exact SeqAt.EqAt.bool_bool a b
   | int b => obtain ⟨t, rfl⟩ := rx; exact SeqAt.EqAt.bool_int a b t
   | str b => obtain ⟨t, rfl⟩ := rx; exact SeqAt.EqAt.bool_str a b t
   | _ => exact absurd (show false = true from fx) Bool.false_ne_true
 | int a =>
   obtain ⟨t', rfl⟩ := ry
   cases x with
   | non => cases rx; exact SeqAt.EqAt.int_none a t'
   | bl b => cases rx; exact SeqAt.EqAt.int_bool a t' b
   | int b => obtain ⟨t, rfl⟩ := rx; exact SeqAt.EqAt.int_int a t' b t
   | str b => obtain ⟨t, rfl⟩ := rx; exact SeqAt.EqAt.int_str a t' b t
   | _ => exact absurd (show false = true from fx) Bool.false_ne_true
 | str a =>
   obtain ⟨t', rfl⟩ := ry
   cases x with
   | non => cases rx; exact SeqAt.EqAt.str_none a t'
   | bl b => cases rx; exact SeqAt.EqAt.str_bool a t' b
   | int b => obtain ⟨t, rfl⟩ := rx; exact SeqAt.EqAt.str_int a t' b t
   | str b => obtain ⟨t, rfl⟩ := rx; exact SeqAt.EqAt.str_str a t' b t
   | _ => exact absurd (show false = true from fx) Bool.false_ne_true
 | _ => exact absurd (show false = true from fy) Bool.false_ne_true
def eqU (x : V) (u : Value) : Bool := match u with
 | .none => eqV .non x
 | .bool b => eqV (.bl b) x
 | .int i _ => eqV (.int i) x
 | .str z _ => eqV (.str z) x
 | _ => false
theorem Y3e {x y : V} {u : Value} (r : RelV y u) (f : B7k y = true) : eqU x u = eqV y x := by
 cases y with
 | non => cases r; rfl
 | bl b => cases r; rfl
 | int i => obtain ⟨t, rfl⟩ := r; rfl
 | str z => obtain ⟨t, rfl⟩ := r; rfl
 | _ => exact absurd (show false = true from f) Bool.false_ne_true
theorem B7g {x : V} : ∀ {xs : List V} {us : List Value}, Vals xs us -> xs.all B7k = true -> us.any (eqU x) = xs.any fun y => eqV y x
 | _, _, .nil, _ => rfl
 | y :: xs, u :: us, .cons r t, f => by
   rw [List.all_cons, Bool.and_eq_true] at f
   rw [List.any_cons, List.any_cons, Y3e r f.1, B7g t f.2]
theorem A9f {A : Around} {s : Shared} {x : V} {v : Value} (rx : RelV x v) (fx : B7k x = true) : ∀ {xs : List V} {us : List Value}, Vals xs us -> xs.all B7k = true -> ∀ u ∈ us, SeqAt.EqAt A s u v (eqU x u)
 | _, _, .nil, _ => fun u hu => by cases hu
 | y :: xs, u :: us, .cons r t, f => fun u' hu => by
   rw [List.all_cons, Bool.and_eq_true] at f
   rcases List.mem_cons.mp hu with rfl | hu
   . rw [Y3e r f.1]; exact A0kp r rx f.1 fx
   . exact A9f rx fx t f.2 u' hu
def inV (x : V) (xs : List V) : Bool := xs.any fun y => eqV y x
def rIn (K : PySem.W.Frag) (neg : Bool) : R2 := fun x y H Q => ∃ p xs, y = .ref p /\ (SqL K H p xs \/ SqT K H p xs) /\ B7k x = true /\ xs.all B7k = true /\ Q (.bl (if neg then !inV x xs else inV x xs)) H
theorem A2n : OpR X (compareOp .In) (rIn X.K false) := by
 intro pins s σ H x y v u Q I rx ry h
 obtain ⟨p, xs, rfl, hq, fx, fs, q⟩ := h
 cases ry
 rcases hq with hq | hq
 . obtain ⟨its, r, pl, hz⟩ := I.list hq
   refine SeqAt.in_listAt (eqU x) pl.isList (fun w hw => A9f rx fx r fs w (by simpa using hw)) ⟨.bl _, H, I, rfl, ?_⟩
   rw [show its.toArray.any (eqU x) = its.any (eqU x) by simp, B7g r fs]
   exact q
 . obtain ⟨its, r, pl, hz⟩ := I.tuple hq
   refine SeqAt.in_tupleAt (eqU x) pl (fun w hw => A9f rx fx r fs w (by simpa using hw)) ⟨.bl _, H, I, rfl, ?_⟩
   rw [show its.toArray.any (eqU x) = its.any (eqU x) by simp, B7g r fs]
   exact q
theorem D8c : OpR X (compareOp .NotIn) (rIn X.K true) := by
 intro pins s σ H x y v u Q I rx ry h
 obtain ⟨p, xs, rfl, hq, fx, fs, q⟩ := h
 cases ry
 rcases hq with hq | hq
 . obtain ⟨its, r, pl, hz⟩ := I.list hq
   refine SeqAt.notIn_listAt (eqU x) pl.isList (fun w hw => A9f rx fx r fs w (by simpa using hw)) ⟨.bl _, H, I, rfl, ?_⟩
   rw [show its.toArray.any (eqU x) = its.any (eqU x) by simp, B7g r fs]
   exact q
 . obtain ⟨its, r, pl, hz⟩ := I.tuple hq
   refine SeqAt.notIn_tupleAt (eqU x) pl (fun w hw => A9f rx fx r fs w (by simpa using hw)) ⟨.bl _, H, I, rfl, ?_⟩
   rw [show its.toArray.any (eqU x) = its.any (eqU x) by simp, B7g r fs]
   exact q
theorem D7q : A4n X (.builtin "len") (fun xs H Q => ∃ p ys, xs = [.ref p] /\ (SqL X.K H p ys \/ SqT X.K H p ys) /\ Q (.int ys.length) H) := by
 intro pins s σ H xs us Q I r h
 obtain ⟨p, ys, rfl, hq, q⟩ := h
 obtain ⟨u, rfl, rx⟩ := C6a r
 cases rx
 have hn := C5r
 rcases hq with hq | hq
 . obtain ⟨its, r', pl, hz⟩ := I.list hq
   have hlen := r'.length
   exact Calls.call_len_list pl.isList (by simp only [List.size_toArray] <;> omega) ⟨.int ys.length, H, I.tok _, ⟨s.toks + 1, by rw [List.size_toArray, hlen]⟩, q⟩
 . obtain ⟨its, r', pl, hz⟩ := I.tuple hq
   have hlen := r'.length
   exact len_tuple pl (by simp only [List.size_toArray] <;> omega) ⟨.int ys.length, H, I.tok _, ⟨s.toks + 1, by rw [List.size_toArray, hlen]⟩, q⟩
theorem D8e : A4n X (.builtin "len") (fun xs H Q => ∃ z, xs = [.str z] /\ z.length <= sizeLine /\ Q (.int z.length) H) := by
 intro pins s σ H xs us Q I r h
 obtain ⟨z, rfl, hz, q⟩ := h
 obtain ⟨u, rfl, t, rfl⟩ := C6a r
 have hn := C5r
 exact len_str (by omega) ⟨.int z.length, H, I.tok _, ⟨_, rfl⟩, q⟩
theorem D8g : A4n X (.type "list") (fun xs H Q => ∃ p ys, xs = [.ref p] /\ (SqL X.K H p ys \/ SqT X.K H p ys) /\ ∀ l, H l = none -> Q (.ref l) (upd H l (.lst ys))) := by
 intro pins s σ H xs us Q I r h
 obtain ⟨p, ys, rfl, hq, q⟩ := h
 obtain ⟨u, rfl, rx⟩ := C6a r
 cases rx
 have fin : ∀ (its : List Value), Vals ys its -> ys.length <= sizeLine -> ∀ (h' : Heap) (c' : Nat), (∀ b o', s.heap.get? b = some o' -> h'.get? b = some o') ->
     h'.get? s.heap.objs.size = some { cls := .type "list", dict := none, data := .seq its.toArray c', slots := #[] } -> EP X pins σ Q (.ref s.heap.objs.size) { s with heap := h' } := fun its r' hz h' c' kp e =>
   ⟨.ref s.heap.objs.size, _, I.laid (t' := s.toks) kp (Nat.le_refl _) (show ObjOk X.prog X.w _ h' _ (.lst ys) from ⟨hz, its, c', r', e⟩), rfl, q _ (I.hok.fresh (Nat.le_refl _))⟩
 rcases hq with hq | hq
 . obtain ⟨its, r', pl, hz⟩ := I.list hq
   have hlen := r'.length
   obtain ⟨o, ho, hc, n, hd⟩ := pl.isList
   exact call_list_seq p (.inl rfl) ho hc hd (fun h' c' kp e => fin its r' hz h' c' kp e) (by simp only [List.size_toArray] <;> omega)
 . obtain ⟨its, r', pl, hz⟩ := I.tuple hq
   have hlen := r'.length
   obtain ⟨o, ho, hc, n, hd⟩ := pl
   exact call_list_seq p (.inr rfl) ho hc hd (fun h' c' kp e => fin its r' hz h' c' kp e) (by simp only [List.size_toArray] <;> omega)
def tyV (K : PySem.W.Frag) (T : String) (x : V) (H : Hp) : Prop := match x with
 | .str _ => T = "str"
 | .int _ => T = "int"
 | .ref p => (T = "list" /\ ∃ xs, SqL K H p xs) \/ (T = "tuple" /\ ∃ o, K.lookup p = some o /\ o.cls = .type "tuple" /\ o.dict = none) \/
     (T = "dict" /\ ((∃ kvs, H p = some (.dK kvs)) \/ ∃ kvs, H p = some (.dT kvs))) \/ (T = "set" /\ ∃ S n, H p = some (.set S n))
 | _ => False
theorem A0je {pins : List (Addr × Obj)} {σ : St} {H : Hp} {s : Shared} {T : String} {x : V} {v : Value} (I : Inv X pins σ H s) (r : RelV x v) (ty : tyV X.K T x H) :
   s.TypeIs v T /\ ∀ a, v = .ref a -> ∃ ob, s.heap.get? a = some ob /\ ob.dict = none := by
 cases x with
 | str z =>
   obtain ⟨t, rfl⟩ := r
   cases (show T = "str" from ty)
   exact ⟨typeIs_str s z t, fun _ e => nomatch e⟩
 | int i =>
   obtain ⟨t, rfl⟩ := r
   cases (show T = "int" from ty)
   exact ⟨typeIs_int s i t, fun _ e => nomatch e⟩
 | ref p =>
   cases r
   rcases ty with ⟨rfl, xs, hq⟩ | ⟨rfl, o, hk, hc, hd⟩ | ⟨rfl, hk⟩ | ⟨rfl, S, n, hk⟩
   . obtain ⟨its, _, pl, _⟩ := I.list hq
     refine ⟨pl.isList.typeIs, fun a e => ?_⟩
     cases e
     obtain ⟨o, n, e, c, hd, _⟩ := pl
     exact ⟨o, e, hd⟩
   . refine ⟨⟨o, I.kIn p o hk, hc⟩, fun a e => ?_⟩
     cases e
     exact ⟨o, I.kIn _ o hk, hd⟩
   . have z : ∃ o, s.heap.get? p = some o /\ o.ExactDict := by
       rcases hk with ⟨kvs, hk⟩ | ⟨kvs, hk⟩
       . obtain ⟨_, _, _, _, o, _, _, e, ex, _⟩ := I.hok p _ hk
         exact ⟨o, e, ex⟩
       . obtain ⟨_, _, _, _, o, _, _, e, ex, _⟩ := I.hok p _ hk
         exact ⟨o, e, ex⟩
     obtain ⟨o, e, ex⟩ := z
     refine ⟨⟨o, e, ex.1⟩, fun a e2 => ?_⟩
     cases e2
     exact ⟨o, e, ex.2.1⟩
   . obtain ⟨o, _, _, _, e, ex, _⟩ := I.hok p _ hk
     refine ⟨⟨o, e, ex.1⟩, fun a e2 => ?_⟩
     cases e2
     exact ⟨o, e, ex.2.1⟩
 | _ => exact False.elim ty
def tBM0 (K : PySem.W.Frag) (T : String) (r : V -> List V -> Hp -> VK -> Prop) (to : TE) : TE := fun σ H Q => to σ H fun x H1 => tyV K T x H1 /\ r x [] H1 Q
variable {o e : Expr} {es : List Expr} {to : TE} {t : TA} {name : Str} {apos cpos : Pos} {T id : String} {r : V -> List V -> Hp -> VK -> Prop}
theorem A0jr (pa : PlainAttrs T) (slot : Slot T name id) (hty : typeOf (.builtin id) = pure (.type "method_descriptor")) (hm : MtR X id r) (ho : PE X o to)
   (hbase : attributeBase o name X.env (eval o X.env) = eval o X.env := by rfl) (hline : (apos.endLine == cpos.line) = true := by rfl) : PE X (.Call (.Attribute o name apos) [] [] cpos) (tBM0 X.K T r to) := by
 intro pins s σ H Q I h
 refine wpAny_Call_method0_late hbase hline (thn (ho pins s σ H _ I h) fun v s1 ⟨x, H1, I1, r1, ty, q1⟩ => ?_)
 obtain ⟨h1, h2⟩ := A0je I1 r1 ty
 exact ⟨T, id, pa, slot, hty, h1, h2, Calls.callWith_builtin rfl (PySem.evalArgs_none (hm pins s1 σ H1 x [] v [] Q I1 r1 .nil q1))⟩
end
def MtM (X : Cx) (id : String) (r : V -> List V -> Hp -> VK -> Prop) : Prop :=
 ∀ (pins : List (Addr × Obj)) (s : Shared) (σ : St) (H : Hp) (x : V) (xs : List V) (v : Value) (us : List Value) (Q : VK), Inv X pins σ H s -> RelV x v -> Vals xs us -> r x xs H Q ->
   wpAny (model X.prog X.w) X.A (call (.builtin id) (v :: us)) (EP X pins σ Q) X.xe s
theorem Vals.one : ∀ {x : V} {us : List Value}, Vals [x] us -> ∃ u, us = [u] /\ RelV x u
 | _, _, .cons r .nil => ⟨_, rfl, r⟩
theorem Vals.two : ∀ {x y : V} {us : List Value}, Vals [x, y] us -> ∃ u v, us = [u, v] /\ RelV x u /\ RelV y v
 | _, _, _, .cons r (.cons q .nil) => ⟨_, _, rfl, r, q⟩
theorem Vals.rep {xs : List V} {us : List Value} (h : Vals xs us) : ∀ k : Nat, Vals (List.replicate k xs).flatten (List.replicate k us).flatten
 | 0 => .nil
 | k + 1 => by
   rw [List.replicate_succ, List.replicate_succ, List.flatten_cons, List.flatten_cons]
   exact Vals.append h (Vals.rep h k)
theorem D5z (its : List Value) : ∀ (k : Nat) (acc : List Value),
   List.foldl (fun x1 x2 => x1 ++ x2) acc.toArray (List.replicate k its.toArray) = (acc ++ (List.replicate k its).flatten).toArray
 | 0, acc => by simp
 | k + 1, acc => by
   have e : acc.toArray ++ its.toArray = (acc ++ its).toArray := by simp
   have e2 : (acc ++ its) ++ (List.replicate k its).flatten = acc ++ (List.replicate (k + 1) its).flatten := by
     rw [List.replicate_succ, List.flatten_cons, List.append_assoc]
   rw [<- e2, <- D5z its k (acc ++ its), <- e, List.replicate_succ, List.foldl_cons]
section
variable {X : Cx} {pins : List (Addr × Obj)} {σ : St} {H : Hp} {s : Shared} {l b : Addr} {xs ys zs : List V}
theorem Inv.lset {its its' : List Value} {n : Nat} {f : Array Value -> Array Value} {t' : Nat} (I : Inv X pins σ H s) (hH : H l = some (.lst xs))
   (e : s.heap.get? l = some { cls := .type "list", data := .seq its.toArray n }) (hf : f its.toArray = its'.toArray) (hv : Vals ys its') (hz : ys.length <= sizeLine) :
   Inv X pins σ (upd H l (.lst ys)) { s with heap := s.heap.update l (Obj.mapSeq f), toks := t' } := by
 have q := PySem.IsL.update e f
 rw [hf] at q
 refine I.write (x := l) (e := l) (by rw [hH]; exact trivial) (.inl rfl) (fun b' u hb hu => (Heap.get?_update_other s.heap (Obj.mapSeq f) (Ne.symm hb)).trans hu) ⟨_, q⟩ ?_
 exact ⟨hz, its', _, hv, q⟩
theorem Inv.lnew {its : List Value} {t' : Nat} (I : Inv X pins σ H s) (hv : Vals ys its) (hz : ys.length <= sizeLine) :
   Inv X pins σ (upd H s.heap.objs.size (.lst ys)) { s with heap := s.heap.push { cls := .type "list", data := .seq its.toArray }, toks := t' } :=
 I.laid (fun _ _ q => Heap.get?_push_of_some _ q) (Nat.le_refl _) ⟨hz, its, 0, hv, Heap.get?_push_size _ rfl⟩
theorem Inv.fresh (I : Inv X pins σ H s) : H s.heap.objs.size = none := I.hok.fresh (Nat.le_refl _)
theorem Inv.lstM (I : Inv X pins σ H s) (hH : H l = some (.lst xs)) : xs.length <= sizeLine /\ ∃ (its : List Value) (n : Nat), Vals xs its /\ xs.length = its.length /\ s.heap.get? l = some { cls := .type "list", data := .seq its.toArray n } := by
 obtain ⟨z, its, n, r, e⟩ := I.hok l _ hH
 exact ⟨z, its, n, r, r.length, e⟩
theorem Y3a {n : Nat} (h : n <= sizeLine) : Builtin.List.listTooLong n = false := by
 unfold Builtin.List.listTooLong
 exact decide_eq_false (by omega)
end
section
variable {X : Cx}
def A0cn : V -> List V -> Hp -> VK -> Prop := fun x vs H Q => ∃ l xs y, x = .ref l /\ vs = [y] /\ H l = some (.lst xs) /\ xs.length < sizeLine /\ Q .non (upd H l (.lst (xs ++ [y])))
theorem B2g : MtM X "list.append" A0cn := by
 intro pins s σ H x vs v us Q I rx rv h
 obtain ⟨l, xs, y, rfl, rfl, hH, hz, q⟩ := h
 cases rx
 obtain ⟨u, rfl, ru⟩ := rv.one
 obtain ⟨z, its, n, r, hl, e⟩ := I.lstM hH
 refine call_meets F.slot_list_append ⟨_, e, rfl⟩ F.entry_list_append (F.args_list_append_2 _ _) (PySem.list_append l its.toArray n u (by rw [List.size_toArray]; omega)) ⟨e, ?_⟩
 refine ⟨.non, _, I.lset (its' := its ++ [u]) hH e (by simp) (r.append (.cons ru .nil)) ?_, rfl, q⟩
 rw [List.length_append, List.length_singleton]
 omega
def rCat : R2 := fun x y H Q => ∃ l b xs zs, x = .ref l /\ y = .ref b /\ H l = some (.lst xs) /\ H b = some (.lst zs) /\ xs.length + zs.length <= sizeLine /\ ∀ p, H p = none -> Q (.ref p) (upd H p (.lst (xs ++ zs)))
theorem D8v : OpR X (binaryOp .Add) rCat := by
 intro pins s σ H x y v u Q I rx ry h
 obtain ⟨l, b, xs, zs, rfl, rfl, hH, hB, hz, q⟩ := h
 cases rx
 cases ry
 obtain ⟨z, its, n, r, hl, e⟩ := I.lstM hH
 obtain ⟨z2, its2, n2, r2, hl2, e2⟩ := I.lstM hB
 refine PySem.P.add_list e e2 ?_ (by rw [List.size_toArray, List.size_toArray]; omega)
 have ea : its.toArray ++ its2.toArray = (its ++ its2).toArray := by simp
 rw [ea]
 exact ⟨.ref _, _, I.lnew (t' := s.toks) (r.append r2) (by rw [List.length_append]; omega), rfl, q _ I.fresh⟩
def rRep : R2 := fun x y H Q => ∃ l k xs, x = .ref l /\ y = .int k /\ H l = some (.lst xs) /\ -(2 ^ 63) <= k /\ k < 2 ^ 63 /\ xs.length * k.toNat <= sizeLine /\
 ∀ p, H p = none -> Q (.ref p) (upd H p (.lst (List.replicate k.toNat xs).flatten))
theorem A0ap {α : Type} (xs : List α) (k : Nat) : (List.replicate k xs).flatten.length = k * xs.length := by
 induction k with
 | zero => simp
 | succ k ih => rw [List.replicate_succ, List.flatten_cons, List.length_append, ih, Nat.succ_mul, Nat.add_comm]
theorem Y3s : OpR X (binaryOp .Mult) rRep := by
 intro pins s σ H x y v u Q I rx ry h
 obtain ⟨l, k, xs, rfl, rfl, hH, h1, h2, hz, q⟩ := h
 cases rx
 obtain ⟨t, rfl⟩ := ry
 obtain ⟨z, its, n, r, hl, e⟩ := I.lstM hH
 have hlen : its.toArray.size * k.toNat <= sizeLine := by rw [List.size_toArray, <- hl]; exact hz
 have hcap : ¬ its.toArray.size * k.toNat > (2 ^ 63 - 1) / 8 := by
   have : (sizeLine : Nat) <= (2 ^ 63 - 1) / 8 := by decide
   omega
 have hfit : ¬ (!Builtin.List.listFitsIndex k) = true := by
   rw [fitsIndex_both h1 h2]
   exact Bool.false_ne_true
 have hlong : ¬ Builtin.List.listTooLong (its.toArray.size * k.toNat) = true := by
   rw [Y3a hlen]
   exact Bool.false_ne_true
 have hnew : List.foldl (fun x1 x2 => x1 ++ x2) #[] (List.replicate (if its.toArray.isEmpty = true then 0 else k.toNat) its.toArray) = (List.replicate k.toNat its).flatten.toArray := by
   have f0 : ∀ m : Nat, List.foldl (fun x1 x2 => x1 ++ x2) #[] (List.replicate m its.toArray) = (List.replicate m its).flatten.toArray := fun m => by
     have := D5z its m []
     rw [List.nil_append] at this
     exact this
   rw [f0]
   cases its with
   | nil => simp
   | cons a r' => rw [if_neg (by simp)]
 refine wpAny_binaryOp_repeat_ref (T := "list") (U := "int") (by decide) ⟨_, e, rfl⟩ (fun s' => typeIs_int s' k t) noFill_list_mul F.fills_int_mul F.slot_int_rmul repeat_list F.slot_int_index.lookup
   (call_meets F.slot_int_rmul (typeIs_int s k t) F.entry_int_rmul (F.args_int_rmul_2 _ _) (int___rmul___int_list k t l its.toArray n)
     ⟨e, rfl, ⟨_, e, rfl⟩, call_meets F.slot_list_mul ⟨_, e, rfl⟩ F.entry_list_mul (F.args_list_mul_2 _ _) (AutoListH.list___mul___list_int_3 l its.toArray n k t hfit hcap hlong) ⟨e, ?_⟩⟩)
 rw [hnew]
 exact ⟨.ref _, _, I.lnew (t' := s.toks) (r.rep k.toNat) (by rw [A0ap, Nat.mul_comm]; exact hz), rfl, q _ I.fresh⟩
end
section
variable {prog : Program} {w : World} {A : Around} {E : Value -> Shared -> Prop} {s : Shared}
end
section
variable {X : Cx}
end
end L2
namespace Att
open PySem PySem.W PySem.Calls PyProof.Rows
theorem C4y {P : Params} {h : Heap} : ∀ (ns : List Int) (vs : List Value), WellAll P h vs (ns.map WData.int) -> IntsAre vs ns := by
 intro ns
 induction ns with
 | nil =>
   intro vs w
   rw [List.map_nil] at w
   cases w
   exact .nil
 | cons n ns ih =>
   intro vs w
   rw [List.map_cons] at w
   cases w with
   | cons a b =>
     cases a
     exact .cons _ _ (ih _ b)
theorem V3y {l : OpenLaw} {n : Nat} (hn : l.most = some n) {P : Params} {h : Heap} {args : List WData} {vals : List Value}
   (hpre : l.row.toRowW.claim.pre args = true) (hwl : WellAll P h vals args) :
   ∃ a vs ns, vals = [Value.ref a] /\ args = [WData.list (ns.map WData.int)] /\ h.get? a = some { cls := .type "list", data := .seq vs.toArray } /\ IntsAre vs ns /\ ns.length <= n := by
 have hsh : WShape.hasAll [] args [.list .int] = true := (pre_splitW hpre).1
 have hc : l.pre.holds [] { args := args } = true := (pre_splitW hpre).2
 obtain ⟨d, r, rfl, h1, h2⟩ := hasAllW_cons hsh
 obtain rfl := hasAllW_nil h2
 obtain ⟨xs, rfl, h3⟩ := hasW_list h1
 obtain ⟨ns, rfl⟩ := items_int h3
 have hlen : ns.length <= n := by
   unfold OpenLaw.pre at hc
   have h4 : (WTm.not (.lt (.lit (.int (n : Int))) (.len (.arg 0)))).holds [] { args := [.list (ns.map .int)] } = true := by
     have h4 := (holds_andW hc).1
     rw [hn] at h4
     exact h4
   have h5 := condW_of h4 (w_not (w_lt w_lit (w_len_list (w_arg rfl))))
   rw [List.length_map] at h5
   refine Nat.le_of_not_lt fun q => ?_
   have q' : (n : Int) < ((ns.length : Nat) : Int) := by omega
   first
     | (rw [decide_eq_true q'] at h5; exact absurd h5 (by decide))
     | (simp at h5; omega)
 cases hwl with
 | cons w1 w2 =>
   cases w2
   cases w1 with
   | list ho hall => exact ⟨_, _, ns, rfl, rfl, ho, C4y ns _ hall, hlen⟩
theorem V2x (l : OpenLaw) (args : List WData) : l.row.toRowW.claim.post args (.bool true) args = true :=
 postW_of (r := l.row.toRowW) (X := (true == true))
   (show WShape.has [] (.bool true) .bool = true by first | rfl | decide | simp [WShape.has, WShape.arms, WShape.armsAll])
   (show (WTm.eq .res (.lit (.bool true))).value [] { args := args, res := some (.bool true), after := args } = some (.bool (true == true)) from w_eq_bool (w_res rfl) w_lit) rfl
theorem attach_call {l : OpenLaw} {n : Nat} {q : Program} {loose : List Str} {XP : (Str -> Option Value) -> Heap -> Prop} {YP : World -> Heap -> Prop} {d : DefRec}
   (hn : l.most = some n) (hdf : d.params.defaults = [])
   (call : ∀ (w : World) (s₀ s₁ : Shared) (mg mb : Str -> Option Value) (fa : Addr) (o : Obj) (pm cd doc : Value) (a : Addr) (vs : List Value) (ns : List Int),
     Ground q loose [] XP w s₀ mg mb s₁.heap -> YP w s₁.heap ->
     s₁.heap.get? fa = some o -> o.data = .func (docDef d.name d.params d.body d.scope pm cd doc) -> s₁.heap.CodeRec cd d.name -> mg d.name = some (.ref fa) ->
     s₁.heap.get? a = some { cls := .type "list", data := .seq vs.toArray } -> IntsAre vs ns -> ns.length <= n -> s₁.gens = #[] ->
     codeAny (model l.prog w) callerA (.call (.ref fa) ⟨[.ref a], []⟩) (fun r s' => r = .ok (.ret (.bool true)) /\ OldK s₁.heap s'.heap /\ s'.os = s₁.os /\ AllBare s'.gens) s₁) :
   WalkO q loose XP YP l.row.toRowW d [] (fun f vs => PySem.call f vs) := by
 intro w s₀ s₁ mg mb G Y fa o pm cd doc dV kV ho hd hcd hD hmg hg args vals as hpre hlay hrd hwl hlo
 obtain rfl : dV = .none := Dflts.none hD hdf
 obtain rfl : kV = .none := Dflts.noKw hD
 obtain ⟨a, vs, ns, rfl, rfl, hobj, hints, hlen⟩ := V3y hn hpre hwl
 refine enter_call (codeAny_mono (call w s₀ s₁ mg mb fa o pm cd doc a vs ns G Y ho (fd_plain hd) hcd hmg hobj hints hlen hg) fun r s' hq => ?_)
 obtain ⟨rfl, h2, h3, h4⟩ := hq
 exact ⟨.inl ⟨.bool true, .bool true, [], rfl, fun _ => rfl, .bool true, V2x l _, fun _ => ⟨List.Pairwise.nil, fun _ hm => (nomatch hm)⟩⟩, h2, h3, h4⟩
section
variable {prog : Program} {w : World} {A : Around} {E : Value -> Shared -> Prop} {s : Shared} {K : Frag}
end
end Att
namespace L2
open PySem PySem.Spec PyProof.Rows
theorem D5u : ∀ {vs : List Value} {ns : List Int}, IntsAre vs ns -> Vals (ns.map V.int) vs
 | _, _, .nil => .nil
 | _, _, .cons n t h => .cons ⟨t, rfl⟩ (D5u h)
def Only (H : Hp) : Prop := ∀ b, H b = none \/ ∃ o xs, H b = some (.frz o (.lst xs))
theorem Y4d {P : Program} {w : World} {K : PySem.W.Frag} {mg mb : Str -> Option Value} {CX : CXT} {k : Nat} {fa a : Addr} {fd : FuncData} {x : Str} {sp : Sp} {s₁ : Shared} {vs : List Value} {ns : List Int}
   (KX : K.In s₁.heap) (hns : s₁.heap.Ns mainGlobals mg) (hb : s₁.heap.Ns builtinsNs mb) (hbb : ∀ x : Str, x ≠ "__name__" -> mb x = bootBuiltins x) (hlim : s₁.heap.NoLimit) (hg : s₁.gens = #[])
   (ha : s₁.heap.get? a = some { cls := .type "list", data := .seq vs.toArray }) (hi : IntsAre vs ns) (hl : ns.length <= sizeLine) (hr : Room k callerA)
   (F : ∀ base : Heap, K.In base -> base.Ns mainGlobals mg -> FnOk P w K mg base CX k fa fd [x] sp) (hbind : ∀ (s : Shared) (u : Value), BindsTo s fd ⟨[u], []⟩ [(x, u)])
   (hsp : ∀ H : Hp, Only H -> SqL K H a (ns.map V.int) -> sp [.ref a] H (fun v _ => v = .bl true) fun _ _ _ => False)
   (hCX : ∀ H e s', CX [] H s₁ (fun _ _ _ => False) e s' -> False) :
   codeAny (model P w) callerA (.call (.ref fa) ⟨[.ref a], []⟩) (fun r s' => r = .ok (.ret (.bool true)) /\ OldK s₁.heap s'.heap /\ s'.os = s₁.os /\ AllBare s'.gens) s₁ := by
 have rv := D5u hi
 have lenV := hi.length
 have core : ∀ H : Hp, Only H -> SqL K H a (ns.map V.int) -> HOk P w H s₁.heap -> (∀ b, H b ≠ none -> b = a) -> (H a ≠ none -> K.lookup a = none) ->
     codeAny (model P w) callerA (.call (.ref fa) ⟨[.ref a], []⟩) (fun r s' => r = .ok (.ret (.bool true)) /\ OldK s₁.heap s'.heap /\ s'.os = s₁.os /\ AllBare s'.gens) s₁ := by
   intro H hO hS hok hA hK
   have base_of : ∀ {b : Addr} {o : Obj}, s₁.heap.get? b = some o -> H b = none -> (D8d s₁.heap H).get? b = some o := fun e n => Y0e e n
   have noA : ∀ {b : Addr} {o : Obj} {es : Array DictEntry} {ep : Nat}, s₁.heap.get? b = some o -> o.data = .dict es ep -> H b = none := fun {b o es ep} e d => by
     cases q : H b with
     | none => rfl
     | some u =>
       have e' : b = a := hA b (by rw [q]; simp)
       subst e'
       rw [ha] at e; cases e
       have d' : Data.seq vs.toArray _ = Data.dict es ep := d
       cases d'
   have nsK : ∀ {b : Addr} {m : Str -> Option Value}, s₁.heap.Ns b m -> (D8d s₁.heap H).Ns b m := fun {b m} ⟨o, es, ep, e, d, r⟩ => ⟨o, es, ep, base_of e (noA e d), d, r⟩
   have hKb : K.In (D8d s₁.heap H) := fun b o e => base_of (KX b o e) (by
     cases q : H b with
     | none => rfl
     | some u =>
       have e' : b = a := hA b (by rw [q]; simp)
       subst e'
       rw [hK (by rw [q]; simp)] at e; cases e)
   have hM : Mod K mg (D8d s₁.heap H) := ⟨hKb, nsK hns, ⟨mb, nsK hb, hbb⟩, let ⟨mc, h1, h2⟩ := hlim; ⟨mc, nsK h1, h2⟩⟩
   have e0 : Env0 P w K mg (D8d s₁.heap H) callerA [] s₁ H := ⟨rfl, hM, fun b o e => A0ak e, Nat.le_of_eq (V3h _ _), trivial, fun b hb => absurd (show b ∈ ([] : List Addr) from hb) (by simp), hok, .of_eq hg⟩
   refine codeAny_mono ((F _ hKb (nsK hns)).run callerA [] s₁ H ⟨[.ref a], []⟩ [.ref a] [.ref a] _ _ hr e0 (hbind s₁ (.ref a)) (.cons rfl .nil) (hsp H hO hS)) fun r s' h => ?_
   cases r with
   | error e => exact (hCX H e s' h).elim
   | ok fl =>
     cases fl with
     | next => exact False.elim h
     | brk => exact False.elim h
     | cont => exact False.elim h
     | ret u =>
       obtain ⟨v, H', os, bare, un, hok', r', q⟩ := h
       have q' : v = .bl true := q
       subst q'
       obtain rfl : u = Value.bool true := r'
       refine ⟨rfl, OldK.of_keep fun b o e => ?_, os, bare⟩
       cases q : H b with
       | none => exact un.keep b o e q (by intro z; exact absurd (show b ∈ ([] : List Addr) from z) (by simp)) (by simp)
       | some u =>
         rcases hO b with z | ⟨ob, xs, z⟩
         . rw [q] at z; cases z
         . have z2 := un.frzs b ob _ z
           obtain ⟨e1, _⟩ := hok b _ z
           obtain ⟨e2, _⟩ := hok' b _ z2
           rw [e] at e1; cases e1
           exact e2
 cases hk : K.lookup a with
 | some o =>
   have e := KX a o hk
   rw [ha] at e
   cases e
   refine core (fun _ => none) (fun _ => .inl rfl) (.inr ⟨_, vs.toArray, _, hk, rfl, rfl, rfl, by rw [List.size_toArray, lenV]; exact hl, by simpa using rv⟩) (fun b u z => by have z' : (none : Option HO) = some u := z; cases z') (fun b z => absurd rfl z) fun z => absurd rfl z
 | none =>
   refine core (fun b => if b = a then some (.frz { cls := .type "list", data := .seq vs.toArray } (.lst (ns.map V.int))) else none) (fun b => ?_) (.inl (.inr ⟨{ cls := .type "list", data := .seq vs.toArray }, if_pos rfl⟩)) (fun b u z => ?_) (fun b z => ?_) fun _ => hk
   . by_cases hb : b = a
     . exact .inr ⟨_, _, if_pos hb⟩
     . exact .inl (if_neg hb)
   . by_cases hb : b = a
     . have z' := (if_pos hb).symm.trans z
       cases z'
       subst hb
       exact ⟨ha, by rw [List.length_map]; exact hl, vs, _, rv, ha⟩
     . have z' := (if_neg hb).symm.trans z
       cases z'
   . by_cases hb : b = a
     . exact hb
     . exact absurd (if_neg hb) z
theorem walk_of {l : PySem.W.OpenLaw} {n k : Nat} {q : Program} {loose : List Str} {XP : (Str -> Option Value) -> Heap -> Prop} {YP : World -> Heap -> Prop} {d : DefRec} {K : Params -> PySem.W.Frag} {CX : World -> CXT} {sp : World -> Sp} {x : Str}
   (hn : l.most = some n) (hn2 : n <= sizeLine) (hdf : d.params.defaults = []) (hr : Room k callerA)
   (hY : ∀ (w : World) (h : Heap), YP w h -> (K w.params).In h)
   (F : ∀ (w : World) (mg : Str -> Option Value) (fa : Addr) (h : Heap), (K w.params).In h -> h.Ns mainGlobals mg -> mg d.name = some (.ref fa) ->
     ∃ fd : FuncData, (∀ (s : Shared) (u : Value), BindsTo s fd ⟨[u], []⟩ [(x, u)]) /\
       ∀ base : Heap, (K w.params).In base -> base.Ns mainGlobals mg -> FnOk l.prog w (K w.params) mg base (CX w) k fa fd [x] (sp w))
   (hsp : ∀ (w : World) (H : Hp) (a : Addr) (ns : List Int), ns.length <= n -> Only H -> SqL (K w.params) H a (ns.map V.int) -> sp w [.ref a] H (fun v _ => v = .bl true) fun _ _ _ => False)
   (hCX : ∀ (w : World) (H : Hp) (s : Shared) (e : Value) (s' : Shared), CX w [] H s (fun _ _ _ => False) e s' -> False) :
   PySem.W.WalkO q loose XP YP l.row.toRowW d [] (fun f vs => PySem.call f vs) := by
 refine Att.attach_call hn hdf fun w s₀ s₁ mg mb fa o pm cd doc a vs ns G Y ho hd hcd hmg hobj hints hlen hg => ?_
 have KX := hY w _ Y
 obtain ⟨fd, hb, hF⟩ := F w mg fa _ KX G.T.g hmg
 exact Y4d KX G.T.g G.T.b G.T.builtins G.T.nolimit hg hobj hints (Nat.le_trans hlen hn2) hr hF hb (fun H hO hS => hsp w H a ns hlen hO hS) fun H e s' => hCX w H s₁ e s'
def G8 (s : Stmt) (j : Nat) : Stmt := match s with
 | .ClassDef _ _ _ body _ _ _ _ _ _ _ => body.getD j (.Pass ⟨0, 0, 0, 0⟩)
 | _ => .Pass ⟨0, 0, 0, 0⟩
def B0 (s : Stmt) : Arguments := match s with
 | .FunctionDef _ a _ _ _ _ _ _ _ _ => a
 | _ => { posonlyargs := [], args := [], vararg := none, kwonlyargs := [], kw_defaults := [], kwarg := none, defaults := [] }
def A8 (s : Stmt) : List Stmt := match s with
 | .FunctionDef _ _ b _ _ _ _ _ _ _ => b
 | _ => []
def A1 (s : Stmt) : Scope := match s with
 | .FunctionDef _ _ _ _ _ _ sc _ _ _ => sc
 | _ => { kind := .function, names := [], isGenerator := false, isCoroutine := false }
abbrev CX0 : CXT := fun _ _ _ _ _ _ => False
abbrev E0 : XK := fun _ _ _ => False
theorem Y1b {X : Cx} : J5p CX0 X E0 := fun _ _ _ _ _ _ _ h => h.elim
structure Fun (K : PySem.W.Frag) (x qual : Str) (st : Stmt) (f : Addr) (fd : FuncData) : Prop where
 ex : ∃ (oc : Value) (od : Option Addr) (kV doc pm : Value) (an : Option Addr) (cdv ct : Value) (osl : Array (Option Value)),
   fd = PySem.W.fnOf x qual (B0 st) (A8 st) (A1 st) .none kV doc pm an cdv ct /\ K.lookup f = some ⟨oc, od, .func fd, osl⟩ /\ PySem.W.codeIn K cdv qual = true
 kp : PySem.W.keepIn K (.ref f) = true
section
variable {P : Program} {w : World} {K : PySem.W.Frag} {mg : Str -> Option Value} {base : Heap}
theorem Fun.ok {x qual : Str} {st : Stmt} {f : Addr} {fd : FuncData} {N ps : List Str} {k : Nat} {sp : Sp} (F : Fun K x qual st f fd) (S : FnScope N ps (A1 st)) (len : ∀ vs H Q E, sp vs H Q E -> vs.length = ps.length)
   (hbody : ∀ (cdv : Value) (A : Around) (outer : List Env) (s : Shared) (H : Hp) (vs : List V) (Q : VK) (E : XK), Room k (A.deeper (envOfC qual (A1 st) s.heap.objs.size f cdv)) -> sp vs H Q E ->
     ∃ t, PSs (A1s CX0 P w K mg base N qual (A1 st) f cdv A outer s H E).nox (A8 st) t /\ t { nx := fun _ H' => Q .non H', rt := Q } (B3m N vs) H) : FnOk P w K mg base CX0 (k + 1) f fd ps sp := by
 obtain ⟨oc, od, kV, doc, pm, an, cdv, ct, osl, rfl, lk, hcd⟩ := F.ex
 refine Y3q lk hcd S len fun A outer s H vs Q E hr hsp => ?_
 obtain ⟨t, h, q⟩ := hbody cdv A outer s H vs Q E hr hsp
 exact ⟨t, h.nox, q⟩
theorem Fun.binds {x qual : Str} {st : Stmt} {f : Addr} {fd : FuncData} {ps : List Str} (F : Fun K x qual st f fd)
   (h : ∀ (kV doc pm : Value) (an : Option Addr) (cdv ct : Value) (us : List Value), us.length = ps.length -> bindArgs (PySem.W.fnOf x qual (B0 st) (A8 st) (A1 st) .none kV doc pm an cdv ct) ⟨us, []⟩ = pure (ps.zip us)) : Binds K fd ps [] := by
 obtain ⟨oc, od, kV, doc, pm, an, cdv, ct, osl, rfl, lk, hcd⟩ := F.ex
 exact .all (h kV doc pm an cdv ct)
theorem J8 {x qual : Str} {st : Stmt} {f : Addr} {oc : Value} {od an : Option Addr} {osl : Array (Option Value)} {kV doc pm cdv ct : Value} (l : K.lookup f = some ⟨oc, od, .func (PySem.W.fnOf x qual (B0 st) (A8 st) (A1 st) .none kV doc pm an cdv ct), osl⟩)
   (c : PySem.W.codeIn K cdv qual = true) (k : PySem.W.keepIn K (.ref f) = true) : Fun K x qual st f (PySem.W.fnOf x qual (B0 st) (A8 st) (A1 st) .none kV doc pm an cdv ct) := ⟨⟨oc, od, kV, doc, pm, an, cdv, ct, osl, rfl, l, c⟩, k⟩
end
theorem A0g {n : Nat} (h : n <= 1000) : n < sizeLine := Nat.lt_of_le_of_lt h (by decide)
section
variable {X : Cx}
theorem pv (i : Nat) {x : Str} {pos : Pos} (hN : X.N[i]? = some x := by rfl) (hv : Vis X.env.scope x := by first | exact Or.inl rfl | exact Or.inr (Or.inl rfl) | exact Or.inr (Or.inr rfl)) (hd : (x == ("__debug__" : Str)) = false := by decide)
   (hcd : (x == ("__classdict__" : Str)) = false := by decide) : PE X (.Name x pos) (tVar i) := A0ku hN hv hd hcd
end
theorem U0 {A B : Prop} (h : B) : if false = true then A else B := by
 rw [if_neg Bool.false_ne_true]
 exact h
theorem Y1 {A B : Prop} (h : A) : if true = true then A else B := by
 rw [if_pos rfl]
 exact h
theorem B7e {c A B : Prop} [Decidable c] (hc : c) (h : B) : if (!decide c) = true then A else B := by
 rw [decide_eq_true hc]
 exact U0 h
def Same (H H' : Hp) : Prop := ∀ b o, H b = some o -> H' b = some o
theorem Same.refl (H : Hp) : Same H H := fun _ _ h => h
theorem Same.trans {H H1 H2 : Hp} (a : Same H H1) (b : Same H1 H2) : Same H H2 := fun c o h => b c o (a c o h)
theorem Same.free {H H' : Hp} (e : Same H H') {l : Addr} (h : H' l = Option.none) : H l = Option.none := by
 cases q : H l with
 | none => rfl
 | some o =>
   rw [e l o q] at h
   cases h
theorem Same.seq {K : PySem.W.Frag} {H H' : Hp} {a : Addr} {xs : List V} (e : Same H H') (h : SqL K H a xs) : SqL K H' a xs := by
 rcases h with (h | ⟨o, h⟩) | h
 . exact .inl (.inl (e _ _ h))
 . exact .inl (.inr ⟨o, e _ _ h⟩)
 . exact .inr h
end L2
set_option maxHeartbeats 4000000
namespace L2
open PySem PySem.Spec PyProof.Rows
abbrev A1t (C : Value) (t : Addr) (dd : Option Addr) (tb : Value) : Obj :=
 { cls := C, dict := dd, data := .fields #[.ref t, tb, .none, .none, .bool false, .none] }
structure Noted (fs : List Addr) (h h' : Heap) (a : Addr) (C : Value) (t : Addr) (dd : Option Addr) (T : Addr) (fl : Value) : Prop where
 keep : ∀ b o, b ∉ fs -> b ≠ a -> h.get? b = some o -> h'.get? b = some o
 slot : ∀ b o, b ≠ a -> h.get? b = some o -> ∃ sl, h'.get? b = some { o with slots := sl }
 new : h.get? T = none
 ne : T ≠ a
 exc : h'.get? a = some (A1t C t dd (.ref T))
 tbk : ∃ oT ts, h'.get? T = some oT /\ oT.data = .fields ts /\ ts[3]? = some fl
section
variable {M : Model} {A : Around} {E : Value -> Shared -> Prop} {s : Shared} {base : Heap} {env : Env} {outer : List Env} {L a t : Addr} {C : Value} {dd : Option Addr} {tb : Value} {Q : Unit -> Shared -> Prop}
theorem A0be {oa : Obj} {vs : Array Value} {l : List Env} (hl : s.heap.FunFrames base l) (ha : s.heap.get? a = some oa) (hd : oa.data = .fields vs) : a ∉ l.filterMap (·.frame) := by
 intro hm
 obtain ⟨_, o, ho, hn⟩ := hl.mem hm
 rw [ha] at ho
 cases ho
 exact hn vs hd
theorem U9e {head : Value} {hn : Bool} (hfr : A.frames = some (env :: outer)) (hl : s.heap.FunFrames base (env :: outer)) (hf : env.frame = some L)
   (ha : s.heap.get? a = some (A1t C t dd tb))
   (h : ∀ h' T, Noted ((env :: outer).filterMap (·.frame)) s.heap h' a C t dd T (rawInt L) -> Q () { s with heap := h' }) :
   wpAny M A (do
     let x <- frameOf env
     let pl <- entryPlaceOf L hn
     let b <- EntryCells.newEntry head x .none (rawInt L) .none pl
     setField (.ref a) 1 b) Q E s := by
 have na := A0be hl ha rfl
 refine wpAny_bind (wpAny_frameOf_fun hfr hl hf fun g hg => ?_)
 refine wpAny_bind (wpAny_entryPlaceOf fun pl hpl => ?_)
 unfold EntryCells.newEntry newFields
 refine wpAny_bind (wpAny_newObj_type ?_ (hpl.sizeOk5 _ _ _ _ _))
 have a1 : g.get? a = some (A1t C t dd tb) := (hg.2.1 a na).trans ha
 have a2 := fun (z : Obj) => Heap.get?_push_of_some (h := g) z a1
 have nT : g.objs.size ≠ a := Nat.ne_of_gt (Heap.lt_size a1)
 refine wpAny_setField (a2 _) rfl (by show 1 < 6; decide) (h _ g.objs.size ?_)
 have up : ∀ (z : Obj) (f : Obj -> Obj) b o, b ≠ a -> g.get? b = some o -> ((g.push z).update a f).get? b = some o := by
   intro z f b o hb e
   rw [Heap.get?_update_other _ _ (Ne.symm hb)]
   exact Heap.get?_push_of_some _ e
 refine ⟨fun b o hb hba e => up _ _ b o hba ((hg.2.1 b hb).trans e), fun b o hba e => ?_, ?_, nT, ?_, ?_⟩
 . obtain ⟨sl, e1⟩ := hg.2.2 b o e
   exact ⟨sl, up _ _ b _ hba e1⟩
 . refine Heap.get?_none_of_le ?_
   rw [hg.1]
   exact Nat.le_refl _
 . exact Heap.get?_update_self _ (a2 _) rfl
 . refine ⟨_, _, (Heap.get?_update_other _ _ (Ne.symm nT)).trans (Heap.get?_push_size _ rfl), rfl, ?_⟩
   first
     | (simp; done)
     | (rcases hpl with rfl | ⟨_, _, _, _, _, _, _, rfl⟩ <;> simp)
def TbOk (h : Heap) (a : Addr) (tb : Value) : Prop := tb = .none \/ ∃ T oT ts, tb = .ref T /\ T ≠ a /\ h.get? T = some oT /\ oT.data = .fields ts /\ ts[3]? = some .none
theorem A0hv (hfr : A.frames = some (env :: outer)) (hl : s.heap.FunFrames base (env :: outer)) (hf : env.frame = some L)
   (ha : s.heap.get? a = some (A1t C t dd tb)) (ht : TbOk s.heap a tb)
   (h : ∀ h' T, (∀ b o, b ∉ (env :: outer).filterMap (·.frame) -> b ≠ a -> tb ≠ .ref b -> s.heap.get? b = some o -> h'.get? b = some o) ->
     (∀ b o, b ≠ a -> tb ≠ .ref b -> s.heap.get? b = some o -> ∃ sl, h'.get? b = some { o with slots := sl }) -> s.heap.get? T = none -> T ≠ a ->
     h'.get? a = some (A1t C t dd (.ref T)) -> (∃ oT ts, h'.get? T = some oT /\ oT.data = .fields ts /\ ts[3]? = some (rawInt L)) -> Q () { s with heap := h' }) :
   wpAny M A (noteFrame (.ref a) env) Q E s := by
 unfold noteFrame
 simp only [hf]
 refine wpAny_bind (wpAny_field ha rfl (x := tb) rfl ?_)
 rcases ht with rfl | ⟨T, oT, ts, rfl, nT, hT, dT, h3⟩
 . rw [if_neg (by decide)]
   refine U9e hfr hl hf ha fun h' T N => ?_
   exact h h' T (fun b o hb hba _ e => N.keep b o hb hba e) (fun b o hba _ e => N.slot b o hba e) N.new N.ne N.exc N.tbk
 . rw [if_pos (show (Value.ref T != Value.none) = true by simp)]
   refine wpAny_bind (wpAny_field hT dT h3 ?_)
   rw [if_neg (show ¬ ((Value.none == rawInt L) = true) by simp [rawInt])]
   refine wpAny_bind (wpAny_setField hT dT (Array.getElem?_eq_some_iff.mp h3).1 ?_)
   have oth : ∀ (f : Obj -> Obj) b, b ≠ T -> (s.heap.update T f).get? b = s.heap.get? b := fun f b hb => Heap.get?_update_other _ _ (Ne.symm hb)
   have nrec : ∀ b o, s.heap.get? b = some o -> (∀ vs, o.data ≠ .fields vs) -> b ≠ T := by
     intro b o e hn q
     rw [q, hT] at e
     cases e
     exact hn ts dT
   refine U9e (s := { s with heap := _ }) hfr (hl.of_keeps fun b o e hn => ⟨o, (oth _ b (nrec b o e hn)).trans e, rfl⟩) hf ((oth _ a (Ne.symm nT)).trans ha) fun h' T' N => ?_
   have neb : ∀ b, Value.ref T ≠ Value.ref b -> b ≠ T := fun b q z => q (by rw [z])
   refine h h' T' (fun b o hb hba hbT e => N.keep b o hb hba ((oth _ b (neb b hbT)).trans e)) (fun b o hba hbT e => N.slot b o hba ((oth _ b (neb b hbT)).trans e)) ?_ N.ne N.exc N.tbk
   have nw := N.new
   by_cases q : T' = T
   . subst q
     have := Heap.get?_update_self (Obj.mapFields (·.setIfInBounds 3 Value.none)) hT (Obj.isFreed_of_fields (Obj.data_mapFields dT _))
     rw [nw] at this
     cases this
   . rw [oth _ T' q] at nw
     exact nw
theorem A0kg {T : Addr} {oT : Obj} {ts : Array Value} {fl : Value} (ha : s.heap.get? a = some (A1t C t dd (.ref T))) (nT : T ≠ a) (hT : s.heap.get? T = some oT) (dT : oT.data = .fields ts) (h3 : ts[3]? = some fl)
   (h : ∀ h', (∀ b o, b ≠ T -> s.heap.get? b = some o -> h'.get? b = some o) -> TbOk h' a (.ref T) -> Q () { s with heap := h' }) : wpAny M A (setFlight (.ref a) none) Q E s := by
 have sz : 3 < ts.size := (Array.getElem?_eq_some_iff.mp h3).1
 unfold setFlight
 refine wpAny_bind (wpAny_field ha rfl (x := .ref T) rfl ?_)
 rw [if_pos (show (Value.ref T != Value.none) = true by simp)]
 refine wpAny_setField hT dT sz (h _ (fun b o hb e => (Heap.get?_update_other _ _ (Ne.symm hb)).trans e) ?_)
 have d2 := Obj.data_mapFields dT (·.setIfInBounds 3 ((none : Option Addr).elim Value.none fun f => rawInt f))
 exact .inr ⟨T, _, _, rfl, nT, Heap.get?_update_self _ hT (Obj.isFreed_of_fields d2), d2, by simp [sz]⟩
end
def Hd (A : Around) (h : Heap) : Prop := A.handled = none \/ ∃ x ox vs, A.handled = some (.ref x) /\ h.get? x = some ox /\ ox.data = .fields vs /\ vs[2]? = some .none
theorem D1y : entryFor table "proto.unchain" = some Builtin.«proto.unchain» := entryFor_of_tree (by kernel_rfl)
section
variable {prog : Program} {w : World} {A : Around} {E : Value -> Shared -> Prop} {s : Shared}
theorem J0b {α : Type} {a : Addr} {oa : Obj} {ws : Array Value} {h₀ : Heap} {Q : α -> Shared -> Prop} (hd : Hd A h₀) (k : ∀ b o, h₀.get? b = some o -> s.heap.get? b = some o) (na : h₀.get? a = none)
   (ha : s.heap.get? a = some oa) (da : oa.data = .fields ws) (h2 : 2 < ws.size)
   (h : ∀ h', (∀ b o, b ≠ a -> s.heap.get? b = some o -> h'.get? b = some o) -> (∃ o', h'.get? a = some o' /\ o'.cls = oa.cls) -> E (.ref a) { s with heap := h' }) :
   wpAny (model prog w) A (raiseNew (.ref a) : Sem α) Q E s := by
 unfold raiseNew
 refine wpAny_bind (wpAny_handled ?_)
 rcases hd with z | ⟨x, ox, vs, z, e, d, n⟩
 . rw [z]
   exact wpAny_bind (wpAny_pure (wpAny_throw (h _ (fun b o _ e => e) ⟨_, ha, rfl⟩)))
 . rw [z]
   have nx : x ≠ a := by
     intro q
     rw [q, na] at e
     cases e
   dsimp only
   rw [if_pos (show (Value.ref x != Value.ref a) = true by simpa using nx)]
   refine wpAny_bind (wpAny_holding (wpAny_runValue (codeAny_builtin D1y ?_)))
   unfold Builtin.«proto.unchain»
   dsimp only
   refine wpAny_bind (wpAny_field (k x ox e) d n ?_)
   rw [if_pos (by decide)]
   refine wpAny_pure ?_
   dsimp only
   unfold updateField
   refine wpAny_bind (wpAny_bind (wpAny_load ha ?_))
   rw [da]
   dsimp only
   rw [if_pos h2]
   refine wpAny_update ha (wpAny_throw (h _ (fun b o hb e => (Heap.get?_update_other _ _ (Ne.symm hb)).trans e) ⟨_, Heap.get?_update_self _ ha (Obj.isFreed_of_fields (Obj.data_mapFields da _)), Obj.cls_mapFields _ _⟩))
theorem V0u {α : Type} {Q : α -> Shared -> Prop} (hd : Hd A s.heap)
   (h : ∀ h' e, (∀ b o, s.heap.get? b = some o -> h'.get? b = some o) -> ({ s with heap := h' } : Shared).TypeIs (.ref e) "StopIteration" -> E (.ref e) { s with heap := h' }) :
   wpAny (model prog w) A (newExc (.type "StopIteration") [] >>= fun e => (raiseNew e : Sem α)) Q E s := by
 refine wpAny_bind ?_
 simp only [newExc, newTuple]
 refine wpAny_bind (wpAny_newObj_type ?_ (by size_fits)); refine wpAny_bind (m := firstArgMember _ _) (wpAny_of_eq (a := Value.none) (by first | rfl | (simp only [firstArgMember]; rfl)) ?_)
 refine wpAny_newObj_type ?_ (by size_fits); dsimp only
 have k1 : ∀ (z : Obj) b o, s.heap.get? b = some o -> (s.heap.push z).get? b = some o := fun z b o e => Heap.get?_push_of_some _ e
 have k2 : ∀ (z y : Obj) b o, s.heap.get? b = some o -> ((s.heap.push z).push y).get? b = some o := fun z y b o e => Heap.get?_push_of_some _ (Heap.get?_push_of_some _ e)
 have nw : ∀ (z : Obj), s.heap.get? (s.heap.push z).objs.size = none := fun z => Heap.get?_none_of_le (by rw [Heap.size_push]; exact Nat.le_succ _)
 refine J0b (s := { s with heap := _ }) (h₀ := s.heap) hd (k2 _ _) (nw _) (Heap.get?_push_size _ rfl) rfl (by show 2 < 6; decide) fun h' k ⟨o', e', c'⟩ => h h' _ (fun b o e => ?_) ⟨o', e', c'⟩
 refine k b o ?_ (k2 _ _ b o e)
 intro q; rw [q, nw] at e; cases e
theorem B8q {it l : Addr} {i : Nat} {items : Array Value} {Q : Option Value -> Shared -> Prop} (hd : ∀ h' : Heap, Heap.ExtBut it s.heap h' -> Hd A h')
   (hit : s.heap.IsListIter it l i) (hl : s.heap.IsList l items) (hx : items[i]? = none)
   (hQ : ∀ h', Heap.ExtBut it s.heap h' -> Q none { s with heap := h' }) : wpAny (model prog w) A (pyNext (.ref it)) Q E s := by
 obtain ⟨o, ho, hc, dt⟩ := id hit
 obtain ⟨ol, hol, _, nl, dl⟩ := hl
 unfold pyNext
 refine wpAny_bind (wpAny_attempt (wpAny_callSpecial?_slot (name := Str.ofString "__next__") hit.typeIs slot_listiter_next (wpAny_call_entry slot_listiter_next hit.typeIs entry_listiter_next ?_ (args_listiter_next _))))
 show wpAny _ _ (field (.ref it) 0 >>= _) _ _ _; refine wpAny_bind (wpAny_field ho dt (x := .ref l) rfl ?_)
 show wpAny _ _ (if (Value.ref l == Value.none) = true then _ else _) _ _ _; rw [if_neg (show ¬ ((Value.ref l == Value.none) = true) by simp)]
 show wpAny _ _ (field (.ref it) 1 >>= _) _ _ _; refine wpAny_bind (wpAny_field ho dt (x := .int i 0) rfl ?_)
 show wpAny _ _ (seqItems? (.ref l) >>= _) _ _ _; refine wpAny_bind (wpAny_seqItems hol dl ?_)
 simp only [Int.toNat_natCast, hx]
 refine wpAny_bind (wpAny_rule (wpAny_bind (wpAny_setField ho dt (by simp) ?_)))
 have up := fun f => (Heap.SameBut.update (a := it) (h := s.heap) (f := f)).extBut
 refine V0u (s := { s with heap := _ }) (A := A.in1) (hd _ (up _)) fun h' e k ty => ?_
 refine wpAny_bind (wpAny_isInstance (T := "StopIteration") (b := true) ty isSubtype_stop ?_)
 exact wpAny_pure (hQ h' fun b o hb z => k b o (up _ b o hb z))
theorem C4w {it t : Addr} {i : Nat} {items : Array Value} {Q : Option Value -> Shared -> Prop} (hd : ∀ h' : Heap, Heap.ExtBut it s.heap h' -> Hd A h')
   (hit : IsTupIter s.heap it t i) (hl : IsTup s.heap t items) (hx : items[i]? = none)
   (hQ : ∀ h', Heap.ExtBut it s.heap h' -> Q none { s with heap := h' }) : wpAny (model prog w) A (pyNext (.ref it)) Q E s := by
 obtain ⟨o, ho, hc, dt⟩ := id hit
 obtain ⟨ol, hol, _, nl, dl⟩ := hl
 unfold pyNext
 refine wpAny_bind (wpAny_attempt (wpAny_callSpecial?_slot (name := Str.ofString "__next__") hit.typeIs slot_tupleiter_next (wpAny_call_entry slot_tupleiter_next hit.typeIs entry_tupleiter_next ?_ (args_tupleiter_next _))))
 show wpAny _ _ (field (.ref it) 0 >>= _) _ _ _; refine wpAny_bind (wpAny_field ho dt (x := .ref t) rfl ?_)
 show wpAny _ _ (if (Value.ref t == Value.none) = true then _ else _) _ _ _; rw [if_neg (show ¬ ((Value.ref t == Value.none) = true) by simp)]
 show wpAny _ _ (field (.ref it) 1 >>= _) _ _ _; refine wpAny_bind (wpAny_field ho dt (x := .int i 0) rfl ?_)
 show wpAny _ _ (seqItems? (.ref t) >>= _) _ _ _; refine wpAny_bind (wpAny_seqItems hol dl ?_)
 simp only [Int.toNat_natCast, hx]
 refine wpAny_bind (wpAny_rule (wpAny_bind (wpAny_setField ho dt (by simp) ?_)))
 have up := fun f => (Heap.SameBut.update (a := it) (h := s.heap) (f := f)).extBut
 refine V0u (s := { s with heap := _ }) (A := A.in1) (hd _ (up _)) fun h' e k ty => ?_
 refine wpAny_bind (wpAny_isInstance (T := "StopIteration") (b := true) ty isSubtype_stop ?_)
 exact wpAny_pure (hQ h' fun b o hb z => k b o (up _ b o hb z))
end
theorem ObjOk.there {P : Program} {w : World} {H : Hp} {h : Heap} {a : Addr} {o : HO} (x : ObjOk P w H h a o) : ∃ u, h.get? a = some u := by
 cases o with
 | lst xs => obtain ⟨_, _, _, _, e⟩ := x; exact ⟨_, e⟩
 | tup xs => obtain ⟨_, _, _, _, e, _⟩ := x; exact ⟨_, e⟩
 | dK kvs => obtain ⟨_, _, _, _, o, _, _, e, _⟩ := x; exact ⟨_, e⟩
 | dT kvs => obtain ⟨_, _, _, _, o, _, _, e, _⟩ := x; exact ⟨_, e⟩
 | set S n => obtain ⟨o, _, _, _, e, _⟩ := x; exact ⟨_, e⟩
 | ins C dx fs => obtain ⟨_, _, _, e, _⟩ := x; exact ⟨_, e⟩
 | own y => obtain ⟨_, e⟩ := x; exact ⟨_, e⟩
 | xd fs => obtain ⟨_, ⟨_, _, _, e, _⟩, _⟩ := x; exact ⟨_, e⟩
 | rng lo hi => obtain ⟨_, _, _, e⟩ := x; exact ⟨_, e⟩
 | frz ob u => obtain ⟨e, _⟩ := x; exact ⟨_, e⟩
 | tbl ps => exact ⟨_, show h.get? a = some _ from x⟩
 | met f y => exact ⟨_, show h.get? a = some _ from x⟩
 | ext φ => obtain ⟨_, e, _⟩ := x; exact e
theorem HOk.new {P : Program} {w : World} {H : Hp} {h : Heap} {a : Addr} (x : HOk P w H h) (e : h.get? a = none) : H a = none := by
 cases q : H a with
 | none => rfl
 | some u =>
   obtain ⟨o, z⟩ := (x a u q).there
   rw [e] at z
   cases z
structure Nw (X : Cx) (pins : List (Addr × Obj)) (H : Hp) (b : Addr) : Prop where
 un : H b = none
 loc : b ≠ X.env.locals
 fs : b ∉ X.fs
 old : X.s₀.heap.get? b = none
 cell : ∀ x c, X.env.cells.lookup x = some c -> c ≠ b
 pin : ∀ p ∈ X.pn ++ pins, p.1 ≠ b
section
variable {X : Cx} {pins : List (Addr × Obj)} {σ : St} {H H' : Hp} {s s' : Shared} {a b t : Addr} {C : Value} {dd : Option Addr}
theorem Inv.fsFree (I : Inv X pins σ H s) : ∀ b ∈ X.fs, H b = none := fun b hb => I.stkFree b (by
 rcases I.ok.stk with z | ⟨z, zf⟩
 . rw [z]; exact hb
 . rw [z]
   unfold frs
   rw [List.filterMap_cons, zf]
   exact List.mem_cons_of_mem _ hb)
theorem Inv.nw (I : Inv X pins σ H s) (hex : X.ex = []) (e : s.heap.get? b = none) (hu : H' b = none) : Nw X pins H' b := by
 refine ⟨hu, ?_, ?_, ?_, ?_, ?_⟩
 . rintro rfl
   obtain ⟨m, ⟨o, _, _, ho, _⟩, _⟩ := I.loc
   rw [e] at ho
   cases ho
 . intro hb
   obtain ⟨_, o, ho, _⟩ := I.funs.mem hb
   rw [e] at ho
   cases ho
 . cases q : X.s₀.heap.get? b with
   | none => rfl
   | some o =>
     obtain ⟨o', z⟩ := I.base.there b o q (by rw [hex]; simp)
     rw [e] at z
     cases z
 . rintro x c h rfl
   obtain ⟨v, o, ho, _⟩ := I.cell x c h
   rw [e] at ho
   cases ho
 . rintro p hp rfl
   obtain ⟨z, _⟩ := I.pin p hp
   rw [e] at z
   cases z
theorem Inv.stepN {h' : Heap} {ch : List Addr} (I : Inv X pins σ H s) (hch : ∀ b ∈ ch, Nw X pins H b)
   (keep : ∀ b o, b ≠ X.env.locals -> b ∉ X.fs -> b ∉ ch -> s.heap.get? b = some o -> h'.get? b = some o)
   (slot : ∀ b o, b ∉ ch -> s.heap.get? b = some o -> ∃ sl, h'.get? b = some { o with slots := sl }) : Inv X pins σ H { s with heap := h' } := by
 have neL : ∀ b o, X.s₀.heap.get? b = some o -> b ≠ X.env.locals := fun b o e => Nat.ne_of_lt (Nat.lt_of_lt_of_le (Heap.lt_size e) I.ok.above)
 have neC : ∀ b o, X.s₀.heap.get? b = some o -> b ∉ ch := fun b o e hb => by
   have z := (hch b hb).old
   rw [e] at z
   cases z
 have cellK : ∀ x c, X.env.cells.lookup x = some c -> ∀ v, s.heap.IsCell c v -> h'.IsCell c v := fun x c e v ⟨o, ho, hd⟩ => by
   have nch : c ∉ ch := fun z => (hch c z).cell x c e rfl
   obtain ⟨sl, q⟩ := slot c o nch ho
   exact ⟨_, q, hd⟩
 refine ⟨I.ok, I.os, I.bare, ⟨fun b o e n hb hx => ?_, fun b o e n hb hx => ?_, I.base.free, fun b o e hx => ?_, I.base.tups, I.base.frzs, I.base.tbls⟩, ?_, fun x c e => ?_, I.free, I.freeC, fun p hp => ?_, ?_, I.len⟩
 . exact keep b o (neL b o e) hb (neC b o e) (I.base.keep b o e n hb hx)
 . obtain ⟨sl, e1⟩ := I.base.slot b o e n hb hx
   obtain ⟨sl', e2⟩ := slot b _ (neC b o e) e1
   exact ⟨sl', e2⟩
 . obtain ⟨o', e1⟩ := I.base.there b o e hx
   obtain ⟨sl', e2⟩ := slot b _ (neC b o e) e1
   exact ⟨_, e2⟩
 . obtain ⟨m, hn, hl⟩ := I.loc
   refine ⟨m, ?_, fun i x v e1 e2 e3 => ?_⟩
   . obtain ⟨o, es, ep, ho, r⟩ := hn
     obtain ⟨sl, q⟩ := slot _ o (fun z => (hch _ z).loc rfl) ho
     exact ⟨_, es, ep, q, r⟩
   . obtain ⟨u, r, l⟩ := hl i x v e1 e2 e3
     refine ⟨u, r, ?_⟩
     rcases l with l | ⟨k, c, e, z⟩
     . exact .inl l
     . exact .inr ⟨k, c, e, cellK x c e _ z⟩
 . obtain ⟨v, z⟩ := I.cell x c e
   exact ⟨v, cellK x c e v z⟩
 . obtain ⟨e, n, ne, nf, d⟩ := I.pin p hp
   exact ⟨keep p.1 p.2 ne nf (fun z => (hch p.1 z).pin p hp rfl) e, n, ne, nf, d⟩
 . intro c o e
   have tr : ∀ b, H b ≠ none -> ∀ u, s.heap.get? b = some u -> h'.get? b = some u := fun b hb u q =>
     keep b u (fun z => hb (by rw [z]; exact I.free)) (fun z => hb (I.fsFree b z)) (fun z => hb (hch b z).un) q
   refine (I.hok c o e).stay (fun b u hb q => tr b ?_ u q) (fun _ q => q) fun _ _ q => q
   rcases hb with rfl | hb
   . rw [e]; simp
   . rw [hb]; simp
def Flt (X : Cx) (pins : List (Addr × Obj)) (H : Hp) (s : Shared) (a : Addr) (C : Value) (t : Addr) (dd : Option Addr) : Prop :=
 Nw X pins H a /\ ∃ tb, s.heap.get? a = some (A1t C t dd tb) /\ TbOk s.heap a tb /\ ∀ T, tb = .ref T -> Nw X pins H T
def FltAt (X : Cx) (pins : List (Addr × Obj)) (H : Hp) (s : Shared) (a : Addr) (C : Value) (t : Addr) (dd : Option Addr) (fl : Value) : Prop :=
 Nw X pins H a /\ ∃ T oT ts, s.heap.get? a = some (A1t C t dd (.ref T)) /\ T ≠ a /\ Nw X pins H T /\ s.heap.get? T = some oT /\ oT.data = .fields ts /\ ts[3]? = some fl
structure Body (X : Cx) : Prop where
 ex : X.ex = []
 st : X.stack = X.env :: X.outer
 fr : X.env.frame = some X.env.locals
theorem FltAt.flt (F : FltAt X pins H s a C t dd .none) : Flt X pins H s a C t dd := by
 obtain ⟨n, T, oT, ts, e, ne, nT, eT, dT, h3⟩ := F
 exact ⟨n, _, e, .inr ⟨T, oT, ts, rfl, ne, eT, dT, h3⟩, fun T' z => by cases z; exact nT⟩
def J7f : Value -> List Addr
 | .ref z => [z]
 | _ => []
theorem Y2x {M : Model} {E : Value -> Shared -> Prop} {Q : Unit -> Shared -> Prop} (B : Body X) (I : Inv X pins σ H s) (F : Flt X pins H s a C t dd)
   (k : ∀ s', Inv X pins σ H s' -> FltAt X pins H s' a C t dd (rawInt X.env.locals) -> Q () s') : wpAny M X.A (noteFrame (.ref a) X.env) Q E s := by
 obtain ⟨na, tb, e, ht, nT⟩ := F
 have hfr := I.ok.frames
 rw [B.st] at hfr
 have hl := I.stack
 rw [B.st] at hl
 refine A0hv hfr hl B.fr e ht fun h' T k1 k2 k3 k4 k5 k6 => ?_
 have ch : ∀ b, b ∉ a :: J7f tb -> b ≠ a /\ tb ≠ .ref b := by
   intro b hb
   refine ⟨fun z => hb (by rw [z]; exact List.mem_cons_self), fun z => hb ?_⟩
   rw [z]
   exact List.mem_cons_of_mem _ (List.mem_singleton.mpr rfl)
 have I' : Inv X pins σ H { s with heap := h' } := by
   refine I.stepN (ch := a :: J7f tb) (fun b hb => ?_) (fun b o h1 h2 h3 q => k1 b o ?_ (ch b h3).1 (ch b h3).2 q) (fun b o h3 q => k2 b o (ch b h3).1 (ch b h3).2 q)
   . rcases List.mem_cons.mp hb with rfl | hb
     . exact na
     . cases tb <;> simp [J7f] at hb
       subst hb
       exact nT _ rfl
   . intro z
     rw [List.filterMap_cons, B.fr] at z
     rcases List.mem_cons.mp z with z | z
     . exact h1 z
     . exact h2 z
 obtain ⟨oT, ts, q1, q2, q3⟩ := k6
 exact k _ I' ⟨na, T, oT, ts, k5, k4, I.nw B.ex k3 (I.hok.new k3), q1, q2, q3⟩
theorem Y2f {M : Model} {A : Around} {E : Value -> Shared -> Prop} {Q : Unit -> Shared -> Prop} {fl : Value} (I : Inv X pins σ H s) (F : FltAt X pins H s a C t dd fl)
   (k : ∀ s', Inv X pins σ H s' -> FltAt X pins H s' a C t dd .none -> Q () s') : wpAny M A (setFlight (.ref a) none) Q E s := by
 obtain ⟨na, T, oT, ts, e, ne, nT, eT, dT, h3⟩ := F
 refine A0kg e ne eT dT h3 fun h' k1 k2 => ?_
 have I' : Inv X pins σ H { s with heap := h' } := I.stepN (ch := [T]) (fun b hb => by
   have : b = T := by simpa using hb
   subst this
   exact nT) (fun b o _ _ hb q => k1 b o (fun z => hb (by simp [z])) q) (fun b o hb q => ⟨_, k1 b o (fun z => hb (by simp [z])) q⟩)
 rcases k2 with z | ⟨T', oT', ts', z, _, q1, q2, q3⟩
 . cases z
 . cases z
   exact k _ I' ⟨na, T, oT', ts', k1 a _ (Ne.symm ne) e, ne, nT, q1, q2, q3⟩
theorem V3w {M : Model} {E : Value -> Shared -> Prop} {Q : Unit -> Shared -> Prop} (B : Body X) (I : Inv X pins σ H s) (F : Flt X pins H s a C t dd)
   (k : ∀ s', Inv X pins σ H s' -> FltAt X pins H s' a C t dd .none -> Q () s') : wpAny M X.A (leaving X.env (.ref a)) Q E s := by
 unfold leaving
 exact wpAny_bind (Y2x B I F fun s1 I1 F1 => Y2f I1 F1 k)
end
abbrev EK := Value -> Option Addr -> St -> Hp -> Prop
def J4 (X : Cx) (EH : EK) : Prop := ∀ (pins : List (Addr × Obj)) (σ : St) (H : Hp) (s : Shared) (a t : Addr) (C : Value) (dd : Option Addr), Inv X pins σ H s -> Flt X pins H s a C t dd -> EH C dd σ H -> X.xe (.ref a) s
def CX1 (P : Program) (w : World) : CXT := fun outer H s E e s' => ∃ (a t : Addr) (C : Value) (dd : Option Addr) (H' : Hp), e = .ref a /\ s'.os = s.os /\ AllBare s'.gens /\ Un (frs outer) [] H H' s.heap s'.heap /\ HOk P w H' s'.heap /\ E C dd H' /\
 (s.heap.get? a = none /\ H' a = none) /\ ∃ T oT ts, s'.heap.get? a = some (A1t C t dd (.ref T)) /\ T ≠ a /\ (s.heap.get? T = none /\ H' T = none) /\ s'.heap.get? T = some oT /\ oT.data = .fields ts /\ ts[3]? = some .none
theorem C6c {P : Program} {w : World} {K : PySem.W.Frag} {mg : Str -> Option Value} {base : Heap} {N : List Str} {qual : Str} {scope : Scope} {f : Addr} {cd : Value} {A : Around} {outer : List Env} {s : Shared} {H : Hp} {E : XK} :
   J4 (A1s (CX1 P w) P w K mg base N qual scope f cd A outer s H E) (fun C dd _ H' => E C dd H') := by
 intro pins σ H' s' a t C dd I F h
 refine V3w (X := A1s (CX1 P w) P w K mg base N qual scope f cd A outer s H E) ⟨rfl, rfl, rfl⟩ I F fun s2 I2 F2 => ?_
 obtain ⟨na, T, oT, ts, e, ne, nT, eT, dT, h3⟩ := F2
 exact ⟨a, t, C, dd, H', rfl, I2.os, I2.bare, I2.base, I2.hok, h, ⟨na.old, na.un⟩, T, oT, ts, e, ne, ⟨nT.old, nT.un⟩, eT, dT, h3⟩
section
variable {X : Cx} {k : Nat} {f C : Addr} {fd : FuncData} {ps : List Str} {sp : Sp} {dvs : List V} {ds : List Value} {EH : EK} {x m : Str} {p pos apos : Pos} {e o : Expr} {es : List Expr} {ta : TE} {t : TA}
theorem came {pins : List (Addr × Obj)} {σ : St} {H : Hp} {s : Shared} {e : Value} {s' : Shared} (hx : J4 X EH) (hex : X.ex = []) (I : Inv X pins σ H s)
   (h : CX1 X.prog X.w X.stack H s (fun C d H' => EH C d σ H') e s') : X.xe e s' := by
 obtain ⟨a, t, C, dd, H', rfl, os, bare, un, hok, hE, ⟨a1, a2⟩, T, oT, ts, z, ne, ⟨t1, t2⟩, eT, dT, h3⟩ := h
 have I' : Inv X pins σ H' s' := I.call' (ch := []) os un hok bare (fun b q => absurd q (by simp))
 exact hx pins σ H' s' a t C dd I' (FltAt.flt ⟨I.nw hex a1 a2, T, oT, ts, z, ne, I.nw hex t1 t2, eT, dT, h3⟩) hE
theorem C5a {pins : List (Addr × Obj)} {σ : St} {H : Hp} {s : Shared} {Q : VK} {us : List Value} {vs : List V} (F : FnOk X.prog X.w X.K X.mg X.base (CX1 X.prog X.w) k f fd ps sp) (hr : Room k X.A) (hb : Binds X.K fd ps ds) (hd : Vals dvs ds)
   (hx : J4 X EH) (hex : X.ex = []) (I : Inv X pins σ H s) (r : Vals vs us) (h : sp (vs ++ dvs) H Q (fun C d H' => EH C d σ H')) : wpAny (model X.prog X.w) X.A (call (.ref f) us) (EP X pins σ Q) X.xe s := by
 have r2 : Vals (vs ++ dvs) (us ++ ds) := r.append hd
 have hl : (us ++ ds).length = ps.length := by rw [<- r2.length]; exact F.len _ _ _ _ h
 refine wpAny_call (codeAny_mono (F.run X.A X.stack s H ⟨us, []⟩ (us ++ ds) (vs ++ dvs) Q _ hr I.env0 (hb s us I.kIn hl) r2 h) fun r s' hq => ?_)
 cases r with
 | error e => exact came hx hex I hq
 | ok fl =>
   cases fl with
   | ret u => exact I.after hq
   | next => exact False.elim hq
   | brk => exact False.elim hq
   | cont => exact False.elim hq
def C6z (sp : Sp) (dvs : List V) (EH : EK) (t : TA) : TE := fun σ H Q => t σ H fun vs H1 => sp (vs ++ dvs) H1 Q (fun C d H' => EH C d σ H')
theorem Y2m (F : FnOk X.prog X.w X.K X.mg X.base (CX1 X.prog X.w) k f fd ps sp) (hr : Room k X.A) (hg : Gl X x) (hm : X.mg x = some (.ref f)) (hk : PySem.W.keepIn X.K (.ref f) = true) (hb : Binds X.K fd ps ds) (hd : Vals dvs ds)
   (hx : J4 X EH) (ha : PA X (e :: es) t) (hex : X.ex = [] := by rfl) (hdb : (x == ("__debug__" : Str)) = false := by decide) (he : starEach (e :: es) X.env = (false, eval e X.env) :: starEach es X.env := by rfl)
   (hpl : (backTo pos (starEach es X.env)).any (·.1) = false := by rfl) : PE X (.Call (.Name x p) (e :: es) [] pos) (C6z sp dvs EH t) := by
 intro pins s σ H Q I h
 refine wpAny_Call_Name_kw (A1z I hg hm ?_ hdb)
 refine PySem.W.callWith_K (h₀ := X.base) I.ok.mod.kin hk (thn (ha pos pins s σ H _ I h) fun us s1 ⟨vs, H1, I1, r, q⟩ => ⟨I1.kIn, ?_⟩) he hpl
 exact C5a F hr hb hd hx hex I1 r q
theorem V4e (F : FnOk X.prog X.w X.K X.mg X.base (CX1 X.prog X.w) k f fd ps sp) (hr : Room k X.A) (hg : Gl X x) (hm : X.mg x = some (.ref f)) (hk : PySem.W.keepIn X.K (.ref f) = true) (hb : Binds X.K fd ps ds) (hd : Vals dvs ds)
   (hx : J4 X EH) (hex : X.ex = [] := by rfl) (hdb : (x == ("__debug__" : Str)) = false := by decide) : PE X (.Call (.Name x p) [] [] pos) (C6z sp dvs EH Y2z) := by
 intro pins s σ H Q I h
 refine wpAny_Call_Name_kw (A1z I hg hm ?_ hdb)
 exact PySem.W.callWith_K0 I.kIn hk (C5a (us := []) F hr hb hd hx hex I .nil h)
end
section
variable {P : Program} {w : World} {K : PySem.W.Frag} {mg : Str -> Option Value} {base : Heap}
theorem Fun.okE {x qual : Str} {st : Stmt} {f : Addr} {fd : FuncData} {N ps : List Str} {k : Nat} {sp : Sp} (F : Fun K x qual st f fd) (S : FnScope N ps (A1 st)) (len : ∀ vs H Q E, sp vs H Q E -> vs.length = ps.length)
   (hbody : ∀ (X : Cx) (cdv : Value) (A : Around) (outer : List Env) (s : Shared) (H : Hp) (vs : List V) (Q : VK) (E : XK), X = A1s (CX1 P w) P w K mg base N qual (A1 st) f cdv A outer s H E -> Room k X.A -> J4 X (fun C dd _ H' => E C dd H') -> sp vs H Q E ->
     ∃ t, PSs (A1s (CX1 P w) P w K mg base N qual (A1 st) f cdv A outer s H E) (A8 st) t /\ t { nx := fun _ H' => Q .non H', rt := Q } (B3m N vs) H) : FnOk P w K mg base (CX1 P w) (k + 1) f fd ps sp := by
 obtain ⟨oc, od, kV, doc, pm, an, cdv, ct, osl, rfl, lk, hc⟩ := F.ex
 exact Y3q lk hc S len fun A outer s H vs Q E hr h => hbody _ cdv A outer s H vs Q E rfl hr C6c h
theorem FnOk.up {k : Nat} {f : Addr} {fd : FuncData} {ps : List Str} {sp : Sp} (F : FnOk P w K mg base CX0 k f fd ps sp) : FnOk P w K mg base (CX1 P w) k f fd ps sp := by
 refine ⟨F.len, fun A outer s H args us vs Q E hr e0 hb r h => codeAny_mono (F.run A outer s H args us vs Q E hr e0 hb r h) fun r s' q => ?_⟩
 cases r with
 | error e => exact False.elim q
 | ok fl => cases fl <;> exact q
end
end L2
namespace L2
open PySem PySem.Spec PyProof.Rows PySem.W
theorem A0am {K : Frag} {h : Heap} {C : Addr} {bmB : List Value} {newId : String} (X : K.In h) (q : excIn K C bmB newId = true) :
   ∃ (bm : List Value) (N : Addr) (nm qn : Str) (bs : List Value) (hd : Bool) (sn : List Str) (sub : List Value) (ab : Bool) (col : Option Bool) (dd : Option Addr) (k0 k1 k2 k3 k5 : Option Value) (mN : Str -> Option Value),
     h.get? C = some (excClassObj nm qn C N bs bm hd sn sub ab col dd k0 k1 k2 k3 k5 newId) /\ h.Ns N mN /\ mN "__init__" = none /\ OwnTail h bmB bm := by
 unfold excIn at q
 split at q
 . rename_i dd cd sl ho
   split at q
   . rename_i C' bm k0 k1 k2 k3 n k5 hm hs
     simp only [Bool.and_eq_true, beq_iff_eq, Bool.not_eq_true'] at q
     obtain ⟨⟨⟨⟨⟨r1, r2⟩, r3⟩, r4⟩, r5⟩, r6⟩ := q
     subst r1 r2
     obtain ⟨a1, a2, a3, a4, a5, a6, a7, a8, a9, a10, a11⟩ := cd
     dsimp only at hm r3 r5 r6
     subst hm r3
     have hsl : sl = #[k0, k1, k2, k3, some (.builtin n), k5] := by
       obtain ⟨l⟩ := sl
       simp only at hs
       rw [hs]
     subst hsl
     exact ⟨bm, a4, a1, a5, a2, a6, a7, a8, a9, a10, dd, k0, k1, k2, k3, k5, _, X _ _ ho, .of_isNs (isNs_of_in X r5), nsMap_none_of_in X r5 r6, tail_of_in X r4⟩
   . cases q
 . cases q
section
variable {X : Cx} {x : Str} {p cpos pos : Pos} {e : Expr} {es : List Expr} {t : TA} {C : Addr} {bmB : List Value} {B newId initId : String} {EH : EK}
def A0jk (C : Addr) (EH : EK) (t : TA) : TS := fun _ σ H => t σ H fun vs H1 => vs.length <= sizeLine /\ EH (.ref C) none σ H1
theorem A0w (hg : Gl X x) (hm : X.mg x = some (.ref C)) (q : excIn X.K C bmB newId = true) (FB : ExcBaseFacts B newId initId bmB) (hh : X.A.handled = none) (hx : J4 X EH) (ha : PA X (e :: es) t) (hex : X.ex = [] := by rfl)
   (hdb : (x == ("__debug__" : Str)) = false := by decide) (he : starEach (e :: es) X.env = (false, eval e X.env) :: starEach es X.env := by rfl) (hpl : (backTo cpos (starEach es X.env)).any (·.1) = false := by rfl) :
   PS X (.Raise (some (.Call (.Name x p) (e :: es) [] cpos)) none pos) (A0jk C EH t) := by
 intro pins s σ H D I h
 obtain ⟨bm, N, nm, qn, bs, hd, sn, sub, ab, col, dd, k0, k1, k2, k3, k5, mN, hC, hN, hni, T⟩ := A0am I.ok.mod.kin q
 refine wpAny_Raise_call_subT (C := C) (nm := nm) (q := qn) (N := N) (bs := bs) (bm := bm) (hdct := hd) (sn := sn) (sub := sub) (ab := ab) (col := col) (dd := dd) (k0 := k0) (k1 := k1) (k2 := k2) (k3 := k3) (k5 := k5) FB (mN := mN) (T.hasType FB.hasBase) hh
   (by rw [he]; show (false || (backTo cpos (starEach es X.env)).any (·.1)) = false; rw [hpl]; rfl) hni (A1z I hg hm ⟨rfl, ?_⟩ hdb)
 have ha' := ha cpos pins s σ H _ I h
 rw [he] at ha' ⊢
 refine Calls.evalArgs_plain (wpAny_mono ha' (fun us s2 ⟨vs, H1, I1, r, z, q⟩ => ⟨rfl, by rw [<- r.length]; exact z, I1.bk _ _ hC, hN.keeps I1.bk, T.keeps I1.bk, fun h' a m => ?_⟩) fun _ _ y => y)
 have I2 : Inv X pins σ H1 { s2 with heap := h' } := I1.kept (t' := s2.toks) m.keeps
 obtain ⟨t', e1, tn, e2⟩ := m.there
 exact hx pins σ H1 _ a t' (.ref C) none I2 ⟨I1.nw hex m.new (I1.hok.new m.new), .none, e1, .inl rfl, fun T z => nomatch z⟩ q
end
section
variable {X : Cx} {pins : List (Addr × Obj)} {σ : St} {H : Hp} {s : Shared}
end
section
variable {X : Cx} {pins pins' : List (Addr × Obj)} {σ : St} {H : Hp} {s : Shared} {a : Addr} {E : Value -> Shared -> Prop}
end
theorem B7n {K : Frag} {M : Model} {h : Heap} {R : Addr} (X : K.In h) (c : (clsIn K R).isSome = true) : Looks M h (isType (.ref R)) true := by
 unfold clsIn at c
 split at c
 . rename_i ho
   intro A' Q' E' s' k q
   unfold isType loadHead
   exact wpAny_bind (wpAny_loadPart (k _ _ (X _ _ ho)) (wpAny_pure q))
 . cases c
section
variable {X : Cx} {x n : Str} {np hpos pos : Pos} {R : Addr} {i : Nat} {body suite : List Stmt} {b₀ : Stmt} {tb : EK -> TS} {ts : Addr -> TS}
end
structure ExcK (K : Frag) (C : Addr) : Prop where
 ga : findIn K (.ref C) "__getattribute__" = some (some (.builtin "BaseException.__getattribute__"))
 gh : findIn K (.ref C) "__getattr__" = some none
 ca : findIn K (.ref C) "__class__" = some (some (.builtin "object.__class__"))
 sn : specialIn K (.builtin "object.__class__") "__get__" = some (some (.builtin "getset_descriptor.__get__"))
 tk : takesIn K (.builtin "object.__class__") = some true
 ob : mroIn K C (.type "object") = some true
 be : subIn K (.ref C) (.type "BaseException") = some true
 cl : (clsIn K C).isSome = true
theorem A8w {prog : Program} {w : World} {A : Around} {E : Value -> Shared -> Prop} {s : Shared} {K : Frag} {a C : Addr} {oa : Obj} {od : Option Obj} {Q : Option Value -> Shared -> Prop} (F : ExcK K C) (X : K.In s.heap) (I : PySem.W.InstAt s.heap a oa C od)
   (h : Q (some (.ref C)) { s with toks := s.toks + 1 }) : wpAny (model prog w) A (getAttr? (.ref a) "__class__") Q E s := by
 obtain ⟨hp, g, d, t, os⟩ := s
 have L0 := I.type (M := model prog w)
 have L1 := looks_findIn (M := model prog w) X F.ga
 have L2 := looks_findIn (M := model prog w) X F.gh
 have L3 : Looks (model prog w) hp (isInstance (.ref a) (.type "BaseException")) true := L0.andThen (looks_subIn X F.be)
 have hf : findObj K C od "__class__" = some (.bind (.builtin "getset_descriptor.__get__") (.builtin "object.__class__")) := by
   obtain ⟨cd, hc⟩ := Option.isSome_iff_exists.mp F.cl
   unfold findObj
   rw [hc, Option.bind_some, F.ca, Option.bind_some]
   simp [F.sn, F.tk]
 have L4 := looks_find (M := model prog w) X I hf
 have hk : builtinKind "BaseException.__getattribute__" = some .slot := by decide +kernel
 have hsplit : splitId "BaseException.__getattribute__" = some ("BaseException", "__getattribute__") := by decide +kernel
 have hargs := PySem.F.args_bexc_ga (.ref a) (.str "__class__" t)
 have hb := PySem.F.attr_ValueError.ga.bind (.ref a)
 unfold getAttr? getAttrBy? getAttrBy
 refine wpAny_bind (wpAny_mkText (wpAny_bind (wpAny_attempt (wpAny_holding (wpAny_bind (L0.at (wpAny_bind (L1.at ?_))))))))
 dsimp only
 rw [if_neg (show ¬ ((onTheHeap (Value.ref C) && Value.builtin "BaseException.__getattribute__" == Value.builtin "object.__getattribute__") = true) by
   rw [show (Value.builtin "BaseException.__getattribute__" == Value.builtin "object.__getattribute__") = false by decide +kernel, Bool.and_false]; exact Bool.false_ne_true)]
 unfold getAttrByItsOwn
 refine wpAny_bind (m := hookBefore (.ref C)) (L2.at ?_)
 refine wpAny_bind (wpAny_attempt (wpAny_holding ?_))
 unfold callGetattribute
 rw [if_neg (by decide)]
 unfold boundAndCalled
 rw [hb]
 refine wpAny_bind (wpAny_pure ?_)
 refine wpAny_call (codeAny_call_builtin PySem.F.attr_ValueError.ga.plain PySem.F.entry_bexc_ga ?_)
 have chk : ∀ {A' : Around} {Q' : Unit -> Shared -> Prop} {E' : Value -> Shared -> Prop}, Q' () ⟨hp, g, d, t + 1, os⟩ -> wpAny (model prog w) A' (checkBuiltinCall "BaseException.__getattribute__" ⟨[.ref a, .str "__class__" t], []⟩) Q' E' ⟨hp, g, d, t + 1, os⟩ := by
   intro A' Q' E' hq
   simp only [checkBuiltinCall, hk, hsplit]
   refine wpAny_bind ?_
   refine L3.at ?_
   repeat (first | assumption | wp_step)
 refine chk ?_
 show wpAny _ _ (Builtin.«object.__getattribute__» ⟨[.ref a, .str "__class__" t], []⟩) _ _ _
 unfold Builtin.«object.__getattribute__»
 refine wpAny_bind (wpAny_pure ?_)
 refine wpAny_bind (wpAny_pure ?_)
 refine wpAny_bind (L0.at (wpAny_bind (L4.at ?_)))
 dsimp only
 show wpAny _ _ (holding [Value.builtin "object.__class__"] (call (.builtin "getset_descriptor.__get__") [.builtin "object.__class__", .ref a, .ref C]) >>= ret) _ _ _
 refine wpAny_bind (wpAny_holding (wpAny_call (class_get (s := ⟨hp, g, d, t + 1, os⟩) X I F.ob (wpAny_pure ?_))))
 exact handed_on rfl (wpAny_pure h)
def V7 (X : Cx) : Prop := X.A.handled = none \/ ∃ x o u vs, X.A.handled = some (.ref x) /\ X.H₀ x = some (.frz o u) /\ o.data = .fields vs /\ vs[2]? = some .none
section
variable {X : Cx} {pins : List (Addr × Obj)} {σ : St} {H : Hp} {s : Shared}
theorem Inv.hdB {it : Addr} (I : Inv X pins σ H s) (h : V7 X) (hn : H it = none) : ∀ h' : Heap, Heap.ExtBut it s.heap h' -> Hd X.A h' := by
 intro h' k
 rcases h with z | ⟨x, o, u, vs, z, e, d, n⟩
 . exact .inl z
 . have q := I.base.frzs x o u e
   exact .inr ⟨x, o, vs, z, k x o (fun w => by rw [w, hn] at q; cases q) (I.hok x _ q).1, d, n⟩
end
structure TurnH (P : Program) (w : World) (K : Frag) (tg : Expr) (J : It) (it : Addr) (tn : Nat -> Heap -> Prop) : Prop where
 obj : ∀ i h, tn i h -> ∃ o, h.get? it = some o /\ ∀ v, o.data ≠ .cell v
 keep : ∀ i h h', tn i h -> (∀ o, h.get? it = some o -> h'.get? it = some o) -> tn i h'
 item : ∀ (X : Cx), X.prog = P -> X.w = w -> X.K = K -> V7 X -> ∀ (i : Nat) (pins : List (Addr × Obj)) (s : Shared) (σ : St) (H : Hp) (E : Value -> Shared -> Prop), Inv X pins σ H s -> A0j X pins H it -> tn i s.heap -> J.go i H ->
   wpAny (model P w) X.A (pyNext (.ref it)) (fun r s1 => ∃ u, r = some u /\
     wpAny (model P w) X.A (letOwnedTupleGo tg (.ref it) u) (fun _ s2 => ∃ x, Inv X pins σ H s2 /\ RelV x u /\ J.yld i H x H /\ tn (i + 1) s2.heap) E s1) E s
 done : ∀ (X : Cx), X.prog = P -> X.w = w -> X.K = K -> V7 X -> ∀ (i : Nat) (pins : List (Addr × Obj)) (s : Shared) (σ : St) (H : Hp) (E : Value -> Shared -> Prop), Inv X pins σ H s -> A0j X pins H it -> tn i s.heap -> J.stop i H ->
   wpAny (model P w) X.A (pyNext (.ref it)) (fun r s1 => r = none /\ Inv X pins σ H s1) E s
 self : ∀ (A : Around) (i : Nat) (s : Shared) (Q : Value -> Shared -> Prop) (E : Value -> Shared -> Prop), tn i s.heap -> Q (.ref it) s -> wpAny (model P w) A (pyIter (.ref it)) Q E s
theorem J6s {P : Program} {w : World} {K : Frag} {tg : Expr} (a it : Addr) : TurnH P w K tg (Itl K a) it (fun i h => h.IsListIter it a i) where
 obj := fun i h ⟨o, e, c, d⟩ => ⟨o, e, fun v z => by rw [d] at z; cases z⟩
 keep := fun i h h' st k => st.at fun o e => k o e
 item := by
   intro X hP hw hK hc i pins s σ H E I hf st hg
   subst hP hw hK
   obtain ⟨xs, x, hq, hx⟩ := hg
   obtain ⟨its, rv, p, hz⟩ := I.list hq
   obtain ⟨u, hu, ru⟩ := rv.get hx
   obtain ⟨f0, f1, f2, f3, f4, f5⟩ := hf
   refine wpAny_pyNext_list_item st p.isList (x := u) (by simpa using hu) fun h' st' sb => ?_
   have I1 : Inv X pins σ H { s with heap := h' } := I.turned (t' := s.toks) (fun b o hb e => (sb.2 b hb).trans e) f0 f1 f3 f4 f5
   obtain ⟨o, e, c, d⟩ := id st'
   exact ⟨u, rfl, U9s (s := { s with heap := h' }) e c d (by decide) ⟨x, I1, ru, ⟨rfl, fun ys hy => by rw [I.list_inj hy hq]; exact hx⟩, st'⟩⟩
 done := by
   intro X hP hw hK hc i pins s σ H E I hf st hg
   subst hP hw hK
   obtain ⟨xs, hq, hx⟩ := hg
   obtain ⟨its, rv, p, hz⟩ := I.list hq
   obtain ⟨f0, f1, f2, f3, f4, f5⟩ := hf
   have hl := rv.length
   exact B8q (I.hdB hc f0) st p.isList (by simp; omega) fun h' eb => ⟨rfl, I.turned (t' := s.toks) (fun b o hb e => eb b o hb e) f0 f1 f3 f4 f5⟩
 self := fun _ _ _ _ _ st h => wpAny_pyIter_listiter st h
theorem V2p {P : Program} {w : World} {K : Frag} {tg : Expr} (a it : Addr) : TurnH P w K tg (Itt K a) it (fun i h => h.IsTupleIter it a i) where
 obj := fun i h ⟨o, e, c, d⟩ => ⟨o, e, fun v z => by rw [d] at z; cases z⟩
 keep := fun i h h' st k => st.at fun o e => k o e
 item := by
   intro X hP hw hK hc i pins s σ H E I hf st hg
   subst hP hw hK
   obtain ⟨xs, x, hq, hx⟩ := hg
   obtain ⟨its, rv, p, hz⟩ := I.tuple hq
   obtain ⟨u, hu, ru⟩ := rv.get hx
   obtain ⟨f0, f1, f2, f3, f4, f5⟩ := hf
   refine wpAny_pyNext_tuple_item st (show s.heap.IsTuple a its.toArray from p) (x := u) (by simpa using hu) fun h' st' sb => ?_
   have I1 : Inv X pins σ H { s with heap := h' } := I.turned (t' := s.toks) (fun b o hb e => (sb.2 b hb).trans e) f0 f1 f3 f4 f5
   obtain ⟨o, e, c, d⟩ := id st'
   exact ⟨u, rfl, U9s (s := { s with heap := h' }) e c d (by decide) ⟨x, I1, ru, ⟨rfl, fun ys hy => by rw [I.tuple_inj hy hq]; exact hx⟩, st'⟩⟩
 done := by
   intro X hP hw hK hc i pins s σ H E I hf st hg
   subst hP hw hK
   obtain ⟨xs, hq, hx⟩ := hg
   obtain ⟨its, rv, p, hz⟩ := I.tuple hq
   obtain ⟨f0, f1, f2, f3, f4, f5⟩ := hf
   have hl := rv.length
   exact C4w (I.hdB hc f0) st p (by simp; omega) fun h' eb => ⟨rfl, I.turned (t' := s.toks) (fun b o hb e => eb b o hb e) f0 f1 f3 f4 f5⟩
 self := fun _ _ _ _ _ st h => wpAny_pyIter_tupleiter st h
def PIH (X : Cx) (tg iter : Expr) (wi : TI) : Prop :=
 ∀ (pins : List (Addr × Obj)) (s : Shared) (σ : St) (H : Hp) (R : It -> Hp -> Prop), Inv X pins σ H s -> wi σ H R ->
   wpAny (model X.prog X.w) X.A (eval iter X.env) (fun v s1 => wpAny (model X.prog X.w) X.A (pyIter v) (fun itv s2 => ∃ (it : Addr) (tn : Nat -> Heap -> Prop) (J : It) (H' : Hp), itv = .ref it /\ Inv X pins σ H' s2 /\ TurnH X.prog X.w X.K tg J it tn /\ tn 0 s2.heap /\
     A0j X pins H' it /\ R J H') X.xe s1) X.xe s
section
variable {X : Cx} {tg : Expr}
theorem B7a {l : Expr} {tl : TE} (hl : PE X l tl) : PIH X tg l (A0hc X.K tl) := by
 intro pins s σ H R I h
 refine thn (hl pins s σ H _ I h) fun v s1 ⟨x, H1, I1, r1, q1⟩ => ?_
 obtain ⟨a, e, ⟨xs, hq⟩, q⟩ := q1
 subst e
 cases r1
 obtain ⟨its, rv, p, hz⟩ := I1.list hq
 exact wpAny_pyIter_list p.isList ⟨s1.heap.objs.size, _, _, H1, rfl, I1.kept (t' := s1.toks) fun b o e => Heap.get?_push_of_some _ e, J6s a _, ⟨_, Heap.get?_push_size _ rfl, rfl, rfl⟩, I1.fpOk (Nat.le_refl _) (I1.hok.fresh (Nat.le_refl _)), q⟩
theorem A0bv {l : Expr} {tl : TE} (hl : PE X l tl) : PIH X tg l (iTup X.K tl) := by
 intro pins s σ H R I h
 refine thn (hl pins s σ H _ I h) fun v s1 ⟨x, H1, I1, r1, q1⟩ => ?_
 obtain ⟨a, e, ⟨xs, hq⟩, q⟩ := q1
 subst e
 cases r1
 obtain ⟨its, rv, p, hz⟩ := I1.tuple hq
 exact wpAny_pyIter_tuple (show s1.heap.IsTuple a its.toArray from p) ⟨s1.heap.objs.size, _, _, H1, rfl, I1.kept (t' := s1.toks) fun b o e => Heap.get?_push_of_some _ e, V2p a _, ⟨_, Heap.get?_push_size _ rfl, rfl, rfl⟩, I1.fpOk (Nat.le_refl _) (I1.hok.fresh (Nat.le_refl _)), q⟩
end
abbrev Cx.comp (X : Cx) (scope : Scope) (N : List Str) (C : Addr) (s₀ : Shared) (H₀ : Hp) (ex : List Addr) (pins : List (Addr × Obj)) : Cx :=
 { X with N := N, s₀ := s₀, H₀ := H₀, env := compEnv scope C X.env, outer := X.stack, ex := ex, fn := fun _ => false, pn := pins, xe := fun _ _ => False }
structure CompScope (N : List Str) (sc : Scope) : Prop where
 kind : sc.kind = .function
 free : ∀ y ∈ sc.names, y.2 ≠ .free
 cell : ∀ y ∈ sc.names, y.2 ≠ .cell
 loc : ∀ y ∈ sc.names, y.2 = .local -> sc.names.lookup y.1 = some .local
 nd : N.Nodup
def J6p (n : Nat) (wi : TI) (g : TG) (te : TE) : TE := fun σ H Q => wi σ H fun J H1 => ∀ D, H1 D = none ->
 ∃ (m : Nat) (W : Nat -> List V -> Hp -> Prop), W 0 [] (upd H1 D (.lst [])) /\ ∀ i ys H2, W i ys H2 -> i <= m /\ H2 D = some (.lst ys) /\ ((J.stop i H2 /\ Q (.ref D) H2) \/ (i < m /\ J.go i H2 /\ ∀ x H3, J.yld i H2 x H3 ->
   g x (List.replicate n none) H3 fun σ4 H4 => te σ4 H4 fun y H6 => H6 D = some (.lst ys) /\ ys.length < sizeLine /\ W (i + 1) (ys ++ [y]) (upd H6 D (.lst (ys ++ [y])))))
theorem C5x {prog : Program} {w : World} {A : Around} {s : Shared} {elt target iter : Expr} {scope : Scope} {pos : Pos} {it acc : Value} {env : Env} {R : Result -> Shared -> Prop} (I : Nat -> Shared -> Prop)
   (turn : ∀ n s, I n s -> wpAny (model prog w) A (pyNext it) (fun r s₁ => match r with
     | none => R (.ok .next) s₁
     | some v => wpAny (model prog w) A (letOwnedTupleGo target it v) (fun _ s₀ => wpAny (model prog w) A (assign target env v) (fun _ s₂ => wpAny (model prog w) A (eval elt env) (fun x s₄ =>
         wpAny (model prog w) A (call (.builtin "list.append") [acc, x]) (fun _ s₅ => ∃ m, m < n /\ I m s₅) (notedBy (model prog w) A env fun e s' => R (.error e) s') s₄) (notedBy (model prog w) A env fun e s' => R (.error e) s') s₂)
         (notedBy (model prog w) A env fun e s' => R (.error e) s') s₀) (notedBy (model prog w) A env fun e s' => R (.error e) s') s₁) (notedBy (model prog w) A env fun e s' => R (.error e) s') s)
   (n : Nat) (h : I n s) : codeAny (model prog w) A (.compLoop (.ListComp elt [⟨target, iter, [], 0⟩] scope pos) 0 it acc env) R s := by
 refine codeAny_loop rfl I (fun n s hI => ?_) n h
 show wpAny _ A ((compTurn (.ListComp elt [⟨target, iter, [], 0⟩] scope pos) 0 it acc env).onRaise (fun x => do noteFrame x env; theTreesLotGoes x)) _ _ s
 refine wpAny_noted ?_; rw [compTurn_list1]
 refine wpAny_bind (wpAny_standAt (wpAny_bind (wpAny_mono (turn n s hI) (fun r s₁ h₁ => ?_) fun _ _ z => z)))
 cases r with
 | none => exact wpAny_pure h₁
 | some v =>
   refine wpAny_bind (wpAny_mono h₁ (fun _ s₀ q₀ => ?_) fun _ _ z => z)
   refine wpAny_bind (wpAny_mono q₀ (fun _ s₂ q₂ => ?_) fun _ _ z => z)
   exact wpAny_bind (wpAny_bind (wpAny_mono q₂ (fun x s₄ q₄ => wpAny_bind (wpAny_mono q₄ (fun _ s₅ q₅ => wpAny_pure (wpAny_pure ⟨rfl, q₅⟩)) fun _ _ z => z)) fun _ _ z => z))
section
variable {X : Cx}
theorem Y2q {pins : List (Addr × Obj)} {σ : St} {H : Hp} {s : Shared} {scope : Scope} {N : List Str} {it : Addr} {h' : Heap} (S : CompScope N scope) (I : Inv X pins σ H s) (hf : A0j X pins H it) (hit : ∃ o, s.heap.get? it = some o) (hnb : X.base.get? it = none)
   (hns : h'.Ns s.heap.objs.size (fun _ => none)) (hsb : ∀ b o, s.heap.get? b = some o -> h'.get? b = some o) {tk : Nat} :
   Inv (X.comp scope N s.heap.objs.size s H [it] (X.pn ++ pins)) [] (List.replicate N.length none) H { s with heap := h', toks := tk } := by
 obtain ⟨f0, f1, f2, f3, f4, f5⟩ := hf
 obtain ⟨oi, ei⟩ := hit
 have lt : it < s.heap.objs.size := Heap.lt_size ei
 have nc : ∀ x c, (compEnv scope s.heap.objs.size X.env).cells.lookup x = some c -> False := fun x c z => by cases z
 have nk : ∀ x, ¬ ((compEnv scope s.heap.objs.size X.env).kindOf x = some .cell \/ (compEnv scope s.heap.objs.size X.env).kindOf x = some .free) := by
   intro x z
   have z : scope.names.lookup x = some .cell \/ scope.names.lookup x = some .free := z
   rcases z with z | z
   . exact S.cell _ (PySem.mem_of_lookup z) rfl
   . exact S.free _ (PySem.mem_of_lookup z) rfl
 refine ⟨⟨I.ok.mod, S.kind, I.ok.glob, I.ok.blt, Nat.le_refl _, fun x y c z => (nc x c z).elim, fun x z => (nk x z).elim, fun x c _ z => (nc x c z).elim, I.ok.hd, I.ok.frames, .inl rfl, fun b hb => ?_, I.bs, Nat.le_trans I.ok.bsz I.sz, fun b o e hb => ?_, fun b hb hfs => ?_, I.stack, I.stkFree⟩,
   rfl, I.bare, Un.kept hsb, ⟨_, hns, fun i x v e1 e2 e3 => ?_⟩, fun x c z => (nc x c z).elim, I.hok.fresh (Nat.le_refl _), fun x c z => (nc x c z).elim, fun p hp => ?_, I.hok.kept hsb, by simp⟩
 . have e : b = it := by simpa using hb
   subst e
   exact ⟨Nat.ne_of_lt lt, fun x c z => (nc x c z).elim⟩
 . have e' : b = it := by simpa using hb
   subst e'
   rw [hnb] at e
   cases e
 . have e' : b = it := by simpa using hb
   subst e'
   rcases List.mem_cons.mp (I.stkSub b hfs) with z | z
   . exact f1 z
   . exact f2 z
 . rw [List.getElem?_replicate] at e2
   split at e2 <;> cases e2
 . have hp' : p ∈ X.pn ++ pins := by simpa using hp
   obtain ⟨q1, q2, q3, q4, q5⟩ := I.pin p hp'
   refine ⟨hsb _ _ q1, q2, Nat.ne_of_lt (Heap.lt_size q1), fun z => ?_, q5⟩
   rcases List.mem_cons.mp (I.stkSub p.1 z) with z | z
   . exact q3 z
   . exact q4 z
theorem C5z {elt target iter : Expr} {scope : Scope} {pos : Pos} {N : List Str} {wi : TI} {g : TG} {te : TE} (S : CompScope N scope) (hd : V7 X) (hi : PIH X target iter wi) (hex : X.ex = [])
   (hg : ∀ C s₀ H₀ ex pn, V7 (X.comp scope N C s₀ H₀ ex pn) -> PG (X.comp scope N C s₀ H₀ ex pn) target g)
   (he : ∀ C s₀ H₀ ex pn, V7 (X.comp scope N C s₀ H₀ ex pn) -> PE (X.comp scope N C s₀ H₀ ex pn) elt te)
   {pins : List (Addr × Obj)} {s : Shared} {σ : St} {H : Hp} {Q : VK} {RR : Value -> Env -> Result -> Shared -> Prop} (I : Inv X pins σ H s) (h : (J6p N.length wi g te) σ H Q)
   (hRR : ∀ (D C : Addr) (s6 : Shared) (H5 : Hp) (mm : Str -> Option Value), Inv X pins σ H5 s6 -> s6.heap.Ns C mm -> A0j X pins H5 C -> Q (.ref D) H5 -> RR (.ref D) (compEnv scope C X.env) (.ok .next) s6) :
   wpAny (model X.prog X.w) X.A (eval iter X.env) (fun v s1 => wpAny (model X.prog X.w) X.A (pyIter v) (fun itv s2 => wpAny (model X.prog X.w) X.A (newList []) (fun acc s3 => wpAny (model X.prog X.w) X.A (newFunctionEnv scope X.env.globals [] [] X.env.qual none .none (some X.env)) (fun cenv s4 =>
     codeAny (model X.prog X.w) X.A (.compStart (.ListComp elt [⟨target, iter, [], 0⟩] scope pos) 0 itv acc { cenv with scope := scope }) (RR acc { cenv with scope := scope }) s4) X.xe s3) X.xe s2) X.xe s1) X.xe s := by
 refine thn (hi pins s σ H _ I h) fun v s1 h1 => thn h1 fun itv s2 h2 => ?_
 obtain ⟨it, tn, J, H2, rfl, I2, T, st2, f2, R⟩ := h2
 obtain ⟨oi, ei, di⟩ := T.obj _ _ st2
 have hf2 := I2.hok.fresh (Nat.le_refl _)
 refine wpAny_newObj_type ?_
 have I3 : Inv X pins σ (upd H2 s2.heap.objs.size (.lst [])) { s2 with heap := s2.heap.push { cls := .type "list", dict := none, data := .seq ([] : List Value).toArray } } := Inv.lnew (t' := s2.toks) I2 .nil (Nat.zero_le _)
 refine wpAny_newFunctionEnv S.cell (by intro y hy; simp at hy) (fun h4 hns hsb => ?_) S.kind
 dsimp only at hns hsb ⊢
 generalize hG : s2.heap.push { cls := .type "list", dict := none, data := .seq ([] : List Value).toArray } = G at I3 hns hsb ⊢
 generalize hD : s2.heap.objs.size = D at I3 hf2
 have nD : it ≠ D := by rw [<- hD]; exact Nat.ne_of_lt (Heap.lt_size ei)
 have eiG : G.get? it = some oi := by rw [<- hG]; exact Heap.get?_push_of_some _ ei
 have kp : ∀ b o, G.get? b = some o -> h4.get? b = some o := fun b o e => hsb.extBut b o (Nat.ne_of_lt (Heap.lt_size e)) (Heap.get?_push_of_some _ e)
 have f3 : A0j X pins (upd H2 D (.lst [])) it := ⟨by rw [D5 nD]; exact f2.1, f2.2⟩
 have nb : X.base.get? it = none := by
   cases q : X.base.get? it with
   | none => rfl
   | some o =>
     have := (I.ok.bs it o q).1
     rcases f2.2.2.2.1 with z | z
     . rw [hex] at z; simp at z
     . exact absurd (Nat.lt_of_lt_of_le (Heap.lt_size this) z) (Nat.lt_irrefl _)
 have hns' : h4.Ns G.objs.size (fun _ => none) := by
   obtain ⟨o, es, ep, q1, q2, q3, q4⟩ := hns
   exact ⟨o, es, ep, q1, q2, q3, fun x => by rw [q4]; rfl⟩
 have I4 := Y2q (tk := s2.toks + ([] : List (Str × Value)).length) S I3 f3 ⟨oi, eiG⟩ nb hns' kp
 have hdc : V7 (X.comp scope N G.objs.size { s2 with heap := G } (upd H2 D (.lst [])) [it] (X.pn ++ pins)) := by
   rcases hd with z | ⟨x, o, u, vs, z, e, d, n⟩
   . exact .inl z
   . refine .inr ⟨x, o, u, vs, z, ?_, d, n⟩
     have q := I2.base.frzs x o u e
     show upd H2 D (.lst []) x = _
     rw [D5 fun w => by rw [w, hf2] at q; cases q]
     exact q
 obtain ⟨m, W, w0, turn⟩ := R D hf2
 have gg := hg _ _ _ _ _ hdc
 have ee := he _ _ _ _ _ hdc
 have fpc : ∀ {H' : Hp} {σ' : St} {s' : Shared} {pl : List (Addr × Obj)}, Inv (X.comp scope N G.objs.size { s2 with heap := G } (upd H2 D (.lst [])) [it] (X.pn ++ pins)) pl σ' H' s' -> H' it = none -> (∀ p ∈ pl, p.1 ≠ it) -> A0j (X.comp scope N G.objs.size { s2 with heap := G } (upd H2 D (.lst [])) [it] (X.pn ++ pins)) pl H' it := by
   intro H' σ' s' pl J' hn hp
   refine ⟨hn, Nat.ne_of_lt (Heap.lt_size eiG), ?_, .inl (List.mem_singleton.mpr rfl), (fun x c z => nomatch z), fun p hpp => ?_⟩
   . intro z
     rcases List.mem_cons.mp (I.stkSub it z) with z | z
     . exact f2.2.1 z
     . exact f2.2.2.1 z
   . rcases List.mem_append.mp hpp with z | z
     . exact f2.2.2.2.2.2 p z
     . exact hp p z
 have loop : codeAny (model X.prog X.w) X.A (.compLoop (.ListComp elt [⟨target, iter, [], 0⟩] scope pos) 0 (.ref it) (.ref D) (compEnv scope G.objs.size X.env))
     (RR (.ref D) (compEnv scope G.objs.size X.env))
     { s2 with heap := h4, toks := s2.toks + ([] : List (Str × Value)).length } := by
   refine C5x (fun k s' => ∃ i ys H', k = m + 1 - i /\ Inv (X.comp scope N G.objs.size { s2 with heap := G } (upd H2 D (.lst [])) [it] (X.pn ++ pins)) [] (List.replicate N.length none) H' s' /\ tn i s'.heap /\ H' it = none /\ W i ys H') ?_ (m + 1)
     ⟨0, [], _, rfl, I4, T.keep _ _ _ st2 fun o e => kp it o (by rw [<- hG]; exact Heap.get?_push_of_some _ e), f3.1, w0⟩
   rintro k s5 ⟨i, ys, H5, rfl, I5, st5, n5, w5⟩
   obtain ⟨hi5, hD5, w5⟩ := turn i ys H5 w5
   rcases w5 with ⟨stop, q⟩ | ⟨lt5, go, step⟩
   . refine wpAny_mono (T.done (X.comp scope N G.objs.size { s2 with heap := G } (upd H2 D (.lst [])) [it] (X.pn ++ pins)) rfl rfl rfl hdc i [] s5 _ H5 (fun _ _ => False) I5 (fpc I5 n5 (by simp)) st5 stop) (fun r s6 z => ?_) (fun _ _ z => z.elim)
     obtain ⟨rfl, I6⟩ := z
     obtain ⟨mm, hn6, _⟩ := I6.loc
     have B6 := I6.base
     have J6 : Inv X pins σ H5 s6 := by
       refine I3.call' (ch := [it]) I6.os ⟨B6.keep, B6.slot, B6.free, B6.there, B6.tups, B6.frzs, B6.tbls⟩ I6.hok I6.bare (fun b hb => ?_)
       have e : b = it := by simpa using hb
       subst e
       exact ⟨f2.2.2.2.1, f2.2.1, f2.2.2.2.2.1, f2.2.2.2.2.2⟩
     have szG : X.s₀.heap.objs.size <= G.objs.size := I3.sz
     refine hRR D G.objs.size s6 H5 mm J6 hn6 ⟨I6.free, ?_, ?_, .inr szG, ?_, ?_⟩ q
     . exact Nat.ne_of_gt I3.lt
     . intro z
       obtain ⟨_, o, ho, _⟩ := I3.funs.mem z
       exact Nat.lt_irrefl _ (Heap.lt_size ho)
     . rintro x c z rfl
       obtain ⟨v', o, ho, _⟩ := I3.cell x _ z
       exact Nat.lt_irrefl _ (Heap.lt_size ho)
     . rintro p hp z
       have zz := (I3.pin p hp).1
       rw [z] at zz
       exact Nat.lt_irrefl _ (Heap.lt_size zz)
   . refine wpAny_mono (T.item (X.comp scope N G.objs.size { s2 with heap := G } (upd H2 D (.lst [])) [it] (X.pn ++ pins)) rfl rfl rfl hdc i [] s5 _ H5 (fun _ _ => False) I5 (fpc I5 n5 (by simp)) st5 go) (fun r s6 z => ?_) (fun _ _ z => z.elim)
     obtain ⟨u, rfl, z⟩ := z
     refine wpAny_mono z (fun _ s7 z => ?_) (fun _ _ z => z.elim)
     obtain ⟨x, I7, rx, yl, st7⟩ := z
     obtain ⟨o7, e7, d7⟩ := T.obj _ _ st7
     obtain ⟨p0, p1, p2, _⟩ := fpc I7 n5 (by simp)
     have I7' : Inv (X.comp scope N G.objs.size { s2 with heap := G } (upd H2 D (.lst [])) [it] (X.pn ++ pins)) [(it, o7)] (List.replicate N.length none) H5 s7 := I7.pins_of fun p hp => by
       have e : p = (it, o7) := by simpa using hp
       subst e
       exact ⟨e7, p0, p1, p2, d7⟩
     have back : ∀ {i' : Nat} {ys' : List V} {H' : Hp} {σ' : St} {s' : Shared}, i' = i + 1 -> Inv (X.comp scope N G.objs.size { s2 with heap := G } (upd H2 D (.lst [])) [it] (X.pn ++ pins)) [(it, o7)] σ' H' s' -> W i' ys' H' ->
         ∃ k', k' < m + 1 - i /\ ∃ i ys H', k' = m + 1 - i /\ Inv (X.comp scope N G.objs.size { s2 with heap := G } (upd H2 D (.lst [])) [it] (X.pn ++ pins)) [] (List.replicate N.length none) H' s' /\ tn i s'.heap /\ H' it = none /\ W i ys H' := by
       rintro i' ys' H' σ' s' rfl J' w'
       obtain ⟨q1, q2, _⟩ := J'.pin (it, o7) (List.mem_append_right _ (List.mem_singleton.mpr rfl))
       have jl : σ'.length = N.length := J'.len
       refine ⟨m + 1 - (i + 1), by omega, i + 1, ys', H', rfl, Inv.weak (J'.pins_of fun p hp => absurd hp (by simp)) (by rw [jl]; simp) (fun j v z => ?_), T.keep _ _ _ st7 fun o z => ?_, q2, w'⟩
       . rw [List.getElem?_replicate] at z
         split at z <;> cases z
       . rw [e7] at z
         cases z
         exact q1
     refine wpAny_mono (gg [(it, o7)] s7 _ H5 x u _ I7' rx (step x H5 yl)) (fun _ s8 z => ?_) (fun _ _ z => z.elim)
     obtain ⟨σ8, H8, I8, q8⟩ := z
     refine wpAny_mono (ee [(it, o7)] s8 σ8 H8 _ I8 q8) (fun y s10 z => ?_) (fun _ _ z => z.elim)
     obtain ⟨yv, H10, I10, ry, hD10, hz10, w10⟩ := z
     refine wpAny_mono (B2g (X := X.comp scope N G.objs.size { s2 with heap := G } (upd H2 D (.lst [])) [it] (X.pn ++ pins)) [(it, o7)] s10 σ8 H10 (.ref D) [yv] (.ref D) [y] (fun _ H11 => W (i + 1) (ys ++ [yv]) H11) I10 rfl (.cons ry .nil) ⟨D, ys, yv, rfl, rfl, hD10, hz10, w10⟩) (fun _ s11 z => ?_) (fun _ _ z => z.elim)
     obtain ⟨_, H11, I11, _, w11⟩ := z
     exact back rfl I11 w11
 exact codeAny_compStart_list loop (T.self _ 0 _ _ _ (T.keep _ _ _ st2 fun o e => kp it o (by rw [<- hG]; exact Heap.get?_push_of_some _ e)) loop)
theorem J0m {pins : List (Addr × Obj)} {σ : St} {H : Hp} {s : Shared} {C : Addr} {h' : Heap} (I : Inv X pins σ H s) (f : A0j X pins H C) (sb : Heap.SameBut C s.heap h') : Inv X pins σ H { s with heap := h' } :=
 I.turned (t' := s.toks) (fun b o hb e => (sb.2 b hb).trans e) f.1 f.2.1 f.2.2.2.1 f.2.2.2.2.1 f.2.2.2.2.2
theorem G9g {elt target iter : Expr} {scope : Scope} {pos : Pos} {N : List Str} {wi : TI} {g : TG} {te : TE} (S : CompScope N scope) (hd : V7 X) (hi : PIH X target iter wi) (hex : X.ex = [])
   (hg : ∀ C s₀ H₀ ex pn, V7 (X.comp scope N C s₀ H₀ ex pn) -> PG (X.comp scope N C s₀ H₀ ex pn) target g)
   (he : ∀ C s₀ H₀ ex pn, V7 (X.comp scope N C s₀ H₀ ex pn) -> PE (X.comp scope N C s₀ H₀ ex pn) elt te)
   (hs : ∀ x, foldedSetIterable iter X.env x = pure x := by intro _; rfl) : PE X (.ListComp elt [⟨target, iter, [], 0⟩] scope pos) (J6p N.length wi g te) := by
 intro pins s σ H Q I h
 refine wpAny_ListComp S.free S.kind S.loc (C5z S hd hi hex hg he I h (RR := fun acc ce r s' => ∃ m, s'.heap.Ns ce.locals m /\ ∀ h', Heap.SameBut ce.locals s'.heap h' -> match r with
   | .ok _ => EP X pins σ Q acc { s' with heap := h' }
   | .error x => wpAny (model X.prog X.w) X.A (passOn "comprehension.variables-let-go" x ce) (EP X pins σ Q) X.xe { s' with heap := h' }) ?_) hs
 intro D C s6 H5 mm I6 n6 f6 q
 exact ⟨mm, n6, fun h' sb => ⟨.ref D, H5, J0m I6 f6 sb, rfl, q⟩⟩
theorem Y1s {i : Nat} {y : Str} {py spos : Pos} {elt target iter : Expr} {scope : Scope} {pos : Pos} {N : List Str} {wi : TI} {g : TG} {te : TE} (S : CompScope N scope) (hd : V7 X) (hi : PIH X target iter wi) (hex : X.ex = [])
   (hg : ∀ C s₀ H₀ ex pn, V7 (X.comp scope N C s₀ H₀ ex pn) -> PG (X.comp scope N C s₀ H₀ ex pn) target g)
   (he : ∀ C s₀ H₀ ex pn, V7 (X.comp scope N C s₀ H₀ ex pn) -> PE (X.comp scope N C s₀ H₀ ex pn) elt te) (hN : X.N.Nodup) (hi' : X.N[i]? = some y) (hy : X.env.scope.names.lookup y = some .local)
   (hsw : swapsWith (.ListComp elt [⟨target, iter, [], 0⟩] scope pos) (some (.Name y py)) spos.line X.env = pure true := by rfl)
   (hs : ∀ x, foldedSetIterable iter X.env x = pure x := by intro _; rfl) : PS X (.Assign [.Name y py] (.ListComp elt [⟨target, iter, [], 0⟩] scope pos) spos) (tAsg (J6p N.length wi g te) (J0d i)) := by
 intro pins s σ H D I h
 rw [exec_Assign_Name_used _ _ _ _ hsw]
 refine wpAny_bind (wpAny_standAt (wpAny_bind ?_))
 show wpAny _ X.A (do let _ <- comprehension (.ListComp elt [⟨target, iter, [], 0⟩] scope pos) scope X.env _ (newList []) false (eval iter X.env) (some (assign (.Name y py) X.env))) _ _ s
 refine wpAny_bind (wpAny_mono (wpAny_comprehension_use (Q := fun _ s' => SP X pins D .next s') rfl hs S.free S.kind S.loc (C5z S hd hi hex hg he I h (RR := fun acc ce r s' => match r with
     | .ok _ => wpAny (model X.prog X.w) X.A (assign (.Name y py) X.env acc) (fun _ s'' => ∃ m, s''.heap.Ns ce.locals m /\ ∀ h', Heap.SameBut ce.locals s''.heap h' -> SP X pins D .next { s'' with heap := h' }) X.xe s'
     | .error x => ∃ m, s'.heap.Ns ce.locals m /\ ∀ h', Heap.SameBut ce.locals s'.heap h' -> wpAny (model X.prog X.w) X.A (passOn "comprehension.variables-let-go" x ce) (fun _ s' => SP X pins D .next s') X.xe { s' with heap := h' }) ?_))
   (fun _ s' hq => wpAny_pure (wpAny_pure hq)) fun _ _ e => e)
 intro D' C s6 H5 mm I6 n6 f6 q
 refine wpAny_assign_Name (B8u (v := .ref D') I6 hN hi' (.inl hy) rfl (fun s7 I7 st => ?_) (.inr hy))
 obtain ⟨a, sb, ha⟩ := st
 have na : C ≠ a := by
   rcases ha with rfl | ha
   . exact f6.2.1
   . exact (f6.2.2.2.2.1 y a ha).symm
 exact ⟨mm, n6.sameBut sb na, fun h' sb' => ⟨_, _, J0m I7 f6 sb', q⟩⟩
end
section
variable {X : Cx} {a b c : Expr} {ta tb tc : TE} {pos : Pos}
theorem G4 : OpR X (binaryOp .Mult) (rI IntMulOk fun i j => .int (i * j)) := opI fun _ _ _ _ _ _ _ hc q => mul_int q hc
theorem G3 : OpR X (binaryOp .FloorDiv) (rI (fun _ j => 0 < j /\ j.natAbs.log2 < 9000) fun i j => .int (i / j)) := opI fun i j _ _ _ _ _ hc q => by
 have h1 : (0 : Int) < j := hc.1
 exact floordiv_int (by omega) (by rw [Int.fdiv_eq_ediv_of_nonneg i (by omega)]; exact q) (.inl (PyProof.noPylong_of_log2 hc.2))
theorem C5w {i : Int} {k : Nat} (h : i.natAbs < 2 ^ k) (hk : 0 < k) : i.natAbs.log2 < k := by
 by_cases z : i.natAbs = 0
 . rw [z]; simpa using hk
 . exact (Nat.log2_lt z).mpr h
inductive TyE (K : Frag) (H : Hp) : V -> Value -> Prop where
 | of {x : V} {t : Value} (h : TyOf K H x t) : TyE K H x t
 | exc {a C t : Addr} {T : Value} {u : HO} (e : H a = some (.frz (A1t (.ref C) t none T) u)) (k : ExcK K C) : TyE K H (.ref a) (.ref C)
 | excD {a C t : Addr} {T : Value} {d : Addr} {u : HO} {fs : List (Str × V)} (e : H a = some (.frz (A1t (.ref C) t (some d) T) u)) (hd : H d = some (.xd fs)) (k : ExcK K C) : TyE K H (.ref a) (.ref C)
 | tupK {a : Addr} {o : Obj} (l : K.lookup a = some o) (c : o.cls = .type "tuple") : TyE K H (.ref a) (.type "tuple")
theorem J5v {pins : List (Addr × Obj)} {σ : St} {H : Hp} {s : Shared} {A : Around} {E : Value -> Shared -> Prop} {Q : Value -> Shared -> Prop} {c : Value} {b : Bool} {x : V} {u t : Value} (I : Inv X pins σ H s) (rx : RelV x u) (ty : TyE X.K H x t)
   (e : kitOne X.K t c = some b) (h : ∀ tk, Q (.bool b) { s with toks := tk }) : wpAny (model X.prog X.w) A (call (.builtin "isinstance") [u, c]) Q E s := by
 cases ty with
 | of h' => exact V3f I rx h' e h
 | exc ea k =>
   cases rx
   rename_i a C t0 T u0
   have o1 : s.heap.get? a = some (A1t (.ref C) t0 none T) := (I.hok a _ ea).1
   refine kia_one (H := fun h => PySem.W.InstAt h a (A1t (.ref C) t0 none T) C none) ?_ I.kIn ⟨o1, rfl, rfl, trivial⟩ e (fun z => nomatch z) h
   refine ⟨fun M h _ J => J.type, fun M h K _ => B7n K k.cl, fun h tp dd its n sl K htp => ?_, fun K J q => A8w k K J q⟩
   refine Bool.eq_false_iff.mpr fun q => ?_
   have e : C = tp := Value.ref.inj (beq_iff_eq.mp q)
   subst e
   have z := k.cl
   unfold clsIn at z
   split at z
   . rename_i ho
     have y := (K _ _ ho).symm.trans htp
     cases y
   . cases z
 | tupK l c =>
   cases rx
   exact PySem.W.kia_one PySem.W.kitx_tuple I.kIn ⟨_, I.kIn _ _ l, c⟩ e (fun z => nomatch z) h
 | excD ea hd k =>
   cases rx
   rename_i a C t0 T d u0 fs
   have o1 : s.heap.get? a = some (A1t (.ref C) t0 (some d) T) := (I.hok a _ ea).1
   obtain ⟨mA, nA, _⟩ := (show ∃ mA, s.heap.Ns1 d mA /\ ∀ f, RelO (fs.lookup f) (mA f) from I.hok d _ hd)
   obtain ⟨od, o2, _⟩ := D5c nA
   refine kia_one (H := fun h => PySem.W.InstAt h a (A1t (.ref C) t0 (some d) T) C (some od)) ?_ I.kIn ⟨o1, rfl, rfl, o2⟩ e (fun z => nomatch z) h
   refine ⟨fun M h _ J => J.type, fun M h K _ => B7n K k.cl, fun h tp dd its n sl K htp => ?_, fun K J q => A8w k K J q⟩
   refine Bool.eq_false_iff.mpr fun q => ?_
   have e : C = tp := Value.ref.inj (beq_iff_eq.mp q)
   subst e
   have z := k.cl
   unfold clsIn at z
   split at z
   . rename_i ho
     have y := (K _ _ ho).symm.trans htp
     cases y
   . cases z
def clsV : V -> Option Value
 | .ty n => some (.type n)
 | .ref a => some (.ref a)
 | _ => none
theorem G9d : A4n X (.builtin "isinstance") (fun xs H Q => ∃ x c cv t b, xs = [x, c] /\ clsV c = some cv /\ TyE X.K H x t /\ kitOne X.K t cv = some b /\ Q (.bl b) H) := by
 intro pins s σ H xs us Q I r h
 obtain ⟨x, c, cv, t, b, rfl, hc, ty, e, q⟩ := h
 obtain ⟨u, v, rfl, ru, rv⟩ := Vals.two r
 have : v = cv := by
   cases c <;> simp only [clsV] at hc <;> first | (cases hc; exact rv) | cases hc
 subst this
 exact J5v I ru ty e fun tk => ⟨.bl b, H, I.tok tk, rfl, q⟩
mutual
inductive RdD (K : Frag) (H : Hp) : V -> PyData -> Prop where
 | non : RdD K H .non .none
 | bl (b : Bool) : RdD K H (.bl b) (.bool b)
 | int (i : Int) : RdD K H (.int i) (.int i)
 | str (x : Str) : RdD K H (.str x) (.str x)
 | tup {a : Addr} {xs : List V} {ds : List PyData} (h : SqT K H a xs) (r : RdDs K H xs ds) : RdD K H (.ref a) (.tuple ds)
 | lst {a : Addr} {xs : List V} {ds : List PyData} (h : SqL K H a xs) (r : RdDs K H xs ds) : RdD K H (.ref a) (.list ds)
inductive RdDs (K : Frag) (H : Hp) : List V -> List PyData -> Prop where
 | nil : RdDs K H [] []
 | cons {x : V} {xs : List V} {d : PyData} {ds : List PyData} (h : RdD K H x d) (r : RdDs K H xs ds) : RdDs K H (x :: xs) (d :: ds)
end
mutual
theorem RdD.reads {pins : List (Addr × Obj)} {σ : St} {H : Hp} {s : Shared} (I : Inv X pins σ H s) : ∀ {x : V} {d : PyData} {u : Value}, RdD X.K H x d -> RelV x u -> ∃ as, Reads s.heap u d as
 | _, _, _, .non, r => by cases r; exact ⟨_, .none⟩
 | _, _, _, .bl b, r => by cases r; exact ⟨_, .bool b⟩
 | _, _, _, .int i, r => by obtain ⟨t, rfl⟩ := r; exact ⟨_, .int i t⟩
 | _, _, _, .str x, r => by obtain ⟨t, rfl⟩ := r; exact ⟨_, .str x t⟩
 | _, _, _, .tup h q, r => by
   cases r
   obtain ⟨its, rv, ⟨o, e, c, n, d⟩, _⟩ := I.tuple h
   obtain ⟨as, z⟩ := RdDs.reads I q rv
   exact ⟨_, reads_tuple_at e c d (by simpa using z)⟩
 | _, _, _, .lst h q, r => by
   cases r
   obtain ⟨its, rv, p, _⟩ := I.list h
   obtain ⟨o, e, c, n, d⟩ := p.isList
   obtain ⟨as, z⟩ := RdDs.reads I q rv
   exact ⟨_, reads_list_at e c d (by simpa using z)⟩
theorem RdDs.reads {pins : List (Addr × Obj)} {σ : St} {H : Hp} {s : Shared} (I : Inv X pins σ H s) : ∀ {xs : List V} {ds : List PyData} {us : List Value}, RdDs X.K H xs ds -> Vals xs us -> ∃ as, ReadsAll s.heap us ds as
 | _, _, _, .nil, r => by cases r; exact ⟨_, .nil⟩
 | _, _, _, .cons h q, r => by
   cases r with
   | cons r1 r2 =>
     obtain ⟨as, z⟩ := RdD.reads I h r1
     obtain ⟨bs, y⟩ := RdDs.reads I q r2
     exact ⟨_, .cons z y⟩
end
def rEqD (K : Frag) (n : Bool) : R2 := fun x y H Q => ∃ d e, RdD K H x d /\ RdD K H y e /\ SeqAt.shaped d = true /\ SeqAt.shaped e = true /\ Q (.bl (if n then !PyData.eqv d e else PyData.eqv d e)) H
theorem J7g (hu : X.A.units + 64 < cLine) : OpR X (compareOp .NotEq) (rEqD X.K true) := by
 intro pins s σ H x y v u Q I rx ry q
 obtain ⟨d, e, hx, hy, sd, se, q⟩ := q
 obtain ⟨as, z⟩ := hx.reads I rx
 obtain ⟨bs, z'⟩ := hy.reads I ry
 exact ne_dataH z z' sd se hu ⟨.bl (!PyData.eqv d e), H, I, rfl, q⟩
theorem Y1a (hc : X.A.handled = none) : A4n X (.builtin "any") (fun xs H Q => ∃ (l : Addr) (bs : List Bool), xs = [.ref l] /\ SqL X.K H l (bs.map V.bl) /\ Q (.bl (bs.any id)) H) := by
 intro pins s σ H xs us Q I r h
 obtain ⟨l, bs, rfl, hl, q⟩ := h
 obtain ⟨u, rfl, ru⟩ := Vals.one r
 cases ru
 obtain ⟨its, rv, p, hz⟩ := I.list hl
 obtain ⟨o, e, _⟩ := id p.isList
 have hlt : l < s.heap.objs.size := Heap.lt_size e
 have hlen : its.length = bs.length := by rw [<- rv.length, List.length_map]
 refine call_any_walk (wpAny_pyIter_list p.isList ?_)
 refine ⟨s.heap.objs.size, [s.heap.objs.size, l], [s.heap.objs.size], its.toArray.size, _, _, fun i => (bs[i]?).getD false, rfl, Walks.list (A := X.A.in1) hc _ l (Nat.ne_of_lt hlt) its.toArray, ⟨⟨_, Heap.get?_push_size _ rfl, rfl, rfl⟩, p.isList.push _⟩, fun i v s' Q' E' hP hQ => ?_, fun h' tk hk => ?_⟩
 . have hP : its[i]? = some v := by simpa using hP
   have hi : i < bs.length := by rw [<- hlen]; exact (List.getElem?_eq_some_iff.mp hP).1
   obtain ⟨u', hu', ru'⟩ := rv.get (i := i) (x := V.bl bs[i]) (by simp [hi])
   rw [hP] at hu'
   cases hu'
   cases ru'
   have z : (bs[i]?).getD false = bs[i] := by simp [hi]
   dsimp only at hQ
   rw [z] at hQ
   exact wpAny_truthy_bool hQ
 . have z : ((List.range its.toArray.size).any fun i => (bs[i]?).getD false) = bs.any id := by
     rw [List.size_toArray, hlen]
     exact LSm.range_any bs
   rw [z]
   exact ⟨.bl (bs.any id), H, I.kept fun b x e => hk b x (fun hm => by rw [List.mem_singleton.mp hm] at e; exact Nat.lt_irrefl _ (Heap.lt_size e)) (Heap.get?_push_of_some _ e), rfl, q⟩
inductive FPart (X : Cx) : Expr -> TE -> Prop where
 | lit {x : Str} {j : Nat} {pos : Pos} : FPart X (.Constant (.str x) j pos) (tC (.str x))
 | int {v : Expr} {tv : TE} {pos : Pos} (h : PE X v tv) : FPart X (.FormattedValue v (-1) none pos) (fun σ H Q => tv σ H fun y H1 => ∃ i, y = .int i /\ i.natAbs.log2 < 1920 /\ Q (.str (toString i)) H1)
theorem FPart.pe {e : Expr} {t : TE} (h : FPart X e t) : PE X e t := by
 cases h with
 | lit => exact C8
 | int h =>
   intro pins s σ H Q I q
   refine FormattedValue_plain (thn (h pins s σ H _ I q) fun u s1 ⟨y, H1, I1, r, i, e, l, q⟩ => ?_)
   subst e
   obtain ⟨t, rfl⟩ := r
   exact formatField_int_small l ⟨.str (toString i), H1, I1.tok _, ⟨_, rfl⟩, q⟩
inductive FParts (X : Cx) : List Expr -> (Str -> TE) -> Prop where
 | nil : FParts X [] (fun out _ H Q => out.length <= sizeLine /\ Q (.str out) H)
 | cons {e : Expr} {es : List Expr} {t : TE} {r : Str -> TE} (h : FPart X e t) (hr : FParts X es r) : FParts X (e :: es) (fun out σ H Q => t σ H fun x H1 => ∃ y, x = .str y /\ (out ++ y).length <= sizeLine /\ r (out ++ y) σ H1 Q)
theorem FParts.run {es : List Expr} {t : Str -> TE} (h : FParts X es t) : ∀ (out : Str) (pins : List (Addr × Obj)) (s : Shared) (σ : St) (H : Hp) (Q : VK), Inv X pins σ H s -> t out σ H Q ->
   wpAny (model X.prog X.w) X.A (joinParts out (evalEach es X.env)) (EP X pins σ Q) X.xe s := by
 induction h with
 | nil =>
   intro out pins s σ H Q I q
   exact joinParts_nil ⟨.str out, H, I.tok _, ⟨_, rfl⟩, q.2⟩ q.1
 | @cons e es t r h hr ih =>
   intro out pins s σ H Q I q
   show wpAny _ _ (joinParts out (eval e X.env :: evalEach es X.env)) _ _ _
   refine joinParts_cons (thn (h.pe pins s σ H _ I q) fun u s1 ⟨x, H1, I1, rx, y, ey, z, q⟩ => ?_)
   subst ey
   obtain ⟨t', rfl⟩ := rx
   exact ⟨z, ih _ pins s1 σ H1 Q I1 q⟩
theorem D7w {e1 e2 : Expr} {es : List Expr} {t : Str -> TE} {pos : Pos} (h : FParts X (e1 :: e2 :: es) t) : PE X (.JoinedStr (e1 :: e2 :: es) pos) (t Str.empty) := by
 intro pins s σ H Q I q
 exact JoinedStr_many (h.run _ pins s σ H Q I q)
end
section
variable {P : Program} {w : World} {K : Frag} {mg : Str -> Option Value} {base : Heap}
end
section
variable {X : Cx} {k : Nat} {f : Addr} {fd : FuncData} {ps : List Str} {sp : Sp} {x : Str} {p pos : Pos} {e : Expr} {es : List Expr} {t : TA}
end
abbrev EKF : EK := fun _ _ _ _ => False
theorem V3 {X : Cx} : J4 X EKF := fun _ _ _ _ _ _ _ _ _ _ h => h.elim
structure Def (K : Frag) (mg : Str -> Option Value) (x : Str) (ps : List Str) (st : Stmt) (f : Addr) (fd : FuncData) : Prop where
 F : Fun K x x st f fd
 g : mg x = some (.ref f)
 b : Binds K fd ps []
theorem D0 {K : Frag} {h : Heap} {mg : Str -> Option Value} {x : Str} {ps : List Str} {st : Stmt} {f : Addr} {oc : Value} {od an : Option Addr} {osl : Array (Option Value)} {kV doc pm cdv ct : Value} (X : K.In h) (G : h.Ns mainGlobals mg)
   (a : nsIn K mainGlobals x = some (some (.ref f))) (l : K.lookup f = some ⟨oc, od, .func (fnOf x x (B0 st) (A8 st) (A1 st) .none kV doc pm an cdv ct), osl⟩) (c : codeIn K cdv x = true) (k : keepIn K (.ref f) = true)
   (hb : ∀ (kV doc pm : Value) (an : Option Addr) (cdv ct : Value) (us : List Value), us.length = ps.length -> bindArgs (fnOf x x (B0 st) (A8 st) (A1 st) .none kV doc pm an cdv ct) ⟨us, []⟩ = pure (ps.zip us)) :
   Def K mg x ps st f (fnOf x x (B0 st) (A8 st) (A1 st) .none kV doc pm an cdv ct) :=
 ⟨J8 (st := st) l c k, mg_of X G a, (J8 (st := st) l c k).binds hb⟩
theorem J9 {c A B : Prop} [Decidable c] (h : ¬ c) (b : B) : if decide c = true then A else B := by rw [decide_eq_false h]; exact U0 b
theorem A1x {c A B : Prop} [Decidable c] (h : c) (a : A) : if decide c = true then A else B := by rw [decide_eq_true h]; exact Y1 a
theorem J3 {c A B : Prop} [Decidable c] (a : c -> A) (b : ¬ c -> B) : if decide c = true then A else B := by
 by_cases h : c
 . exact A1x h (a h)
 . exact J9 h (b h)
def A0rj (t : TS) : TS := fun D σ H => ∃ J : St -> Hp -> Prop, t { D with nx := J } σ H /\ ∀ σ' H', J σ' H' -> D.nx σ' H'
theorem B8 {X : Cx} {st : Stmt} {t : TS} (h : PS X st t) : PS X st (A0rj t) := by
 intro pins s σ H D I q
 obtain ⟨J, q, k⟩ := q
 refine thn (h pins s σ H _ I q) fun f s' z => ?_
 cases f with
 | next => obtain ⟨σ', H', I', y⟩ := z; exact ⟨σ', H', I', k _ _ y⟩
 | brk => exact z
 | cont => exact z
 | ret u => exact z
theorem Same.upd {H : Hp} {p : Addr} {o : HO} (h : H p = none) : Same H (L2.upd H p o) := fun b u e => by rw [D5 (G2 e h)]; exact e
theorem D3 {n : Nat} (h : n <= 1000) : n <= sizeLine := Nat.le_of_lt (A0g h)
section
variable {X : Cx} {k j : Nat} {f : Addr} {fd : FuncData} {ps : List Str} {sp : Sp} {EH : EK} {x : Str} {st : Stmt} {p pos : Pos} {e : Expr} {es : List Expr} {t : TA}
theorem C6 (D : Def X.K X.mg x ps st f fd) (F : FnOk X.prog X.w X.K X.mg X.base (CX1 X.prog X.w) j f fd ps sp) (hr : Room k X.A) (hx : J4 X EH) (ha : PA X (e :: es) t) (hj : j <= k := by decide) (hg : Gl X x := by rfl) (hex : X.ex = [] := by rfl) (hdb : (x == ("__debug__" : Str)) = false := by decide)
   (he : starEach (e :: es) X.env = (false, eval e X.env) :: starEach es X.env := by rfl) (hpl : (backTo pos (starEach es X.env)).any (·.1) = false := by rfl) : PE X (.Call (.Name x p) (e :: es) [] pos) (C6z sp [] EH t) :=
 Y2m (F.mono hj) hr hg D.g D.F.kp D.b .nil hx ha hex hdb he hpl
theorem B8w (D : Def X.K X.mg x ps st f fd) (F : FnOk X.prog X.w X.K X.mg X.base (CX1 X.prog X.w) j f fd ps sp) (hr : Room k X.A) (hx : J4 X EH) (hj : j <= k := by decide) (hg : Gl X x := by rfl) (hex : X.ex = [] := by rfl) (hdb : (x == ("__debug__" : Str)) = false := by decide) :
   PE X (.Call (.Name x p) [] [] pos) (C6z sp [] EH Y2z) :=
 V4e (F.mono hj) hr hg D.g D.F.kp D.b .nil hx hex hdb
theorem pty {n : Str} {T : String} (hm : X.mg n = none) (hv : bootBuiltins n = some (.type T)) (hg : Gl X n := by rfl) (hn : n ≠ "__name__" := by decide) (hdb : (n == ("__debug__" : Str)) = false := by decide) : PE X (.Name n pos) (tC (.ty T)) := A0cf hg hm hv rfl hn hdb
theorem pcls {n : Str} {C : Addr} (hm : X.mg n = some (.ref C)) (hg : Gl X n := by rfl) (hdb : (n == ("__debug__" : Str)) = false := by decide) : PE X (.Name n pos) (tC (.ref C)) := V0v hg hm rfl hdb
theorem V3z {a b : Expr} {ta tb : TE} (hm : X.mg "isinstance" = none) (ha : PE X a ta) (hb : PE X b tb) (hg : Gl X "isinstance" := by rfl)
   (h1 : starEach [a, b] X.env = (false, eval a X.env) :: starEach [b] X.env := by rfl) (h2 : starEach [b] X.env = (false, eval b X.env) :: starEach [] X.env := by rfl) (h3 : (backTo pos (starEach [b] X.env)).any (·.1) = false := by rfl) :
   PE X (.Call (.Name "isinstance" p) [a, b] [] pos) (tCB (fun xs H Q => ∃ x c cv t b, xs = [x, c] /\ clsV c = some cv /\ TyE X.K H x t /\ kitOne X.K t cv = some b /\ Q (.bl b) H) (Y2b ta (Y2b tb Y2z))) :=
 J7 G9d hg hm boot_isinstance (A0 ha (A0 hb A4 h2) h1) (he := h1) (hpl := h3)
end
section
variable {X : Cx} {k j : Nat} {f : Addr} {fd : FuncData} {ps : List Str} {sp : Sp} {x : Str} {st : Stmt} {p pos : Pos} {e : Expr} {es : List Expr} {t : TA}
end
structure Mk0 (K : Frag) (C : Addr) : Prop where
 makes : makesIn K C = true
 init : findIn K (.ref C) "__init__" = some (some (.builtin "object.__init__"))
 kp : keepIn K (.ref C) = true
section
variable {X : Cx} {k j : Nat} {f C : Addr} {fd : FuncData} {ps : List Str} {sp : Sp} {dvs : List V} {ds : List Value} {EH : EK} {x m : Str} {p pos apos : Pos} {e o : Expr} {es : List Expr} {ta : TE} {t : TA}
def tNew (C : Addr) : TE := fun _ H Q => ∀ x dx, H x = none -> H dx = none -> dx ≠ x -> Q (.ref x) (upd (upd H dx (.own x)) x (.ins C dx []))
theorem A0ac {pins : List (Addr × Obj)} {σ : St} {H : Hp} {s : Shared} {Q : VK} (M : Mk0 X.K C) (I : Inv X pins σ H s) (h : tNew C σ H Q) : wpAny (model X.prog X.w) X.A (call (.ref C) []) (EP X pins σ Q) X.xe s := by
 have hq := h (s.heap.objs.size + 1) s.heap.objs.size (I.hok.fresh (Nat.le_succ _)) (I.hok.fresh (Nat.le_refl _)) (Nat.ne_of_lt (Nat.lt_succ_self _))
 have I2 := Inv.made (C := C) I
 have Y := makes_of (M := model X.prog X.w) I.kIn M.makes
 refine wpAny_call (V3s I.kIn M.makes M.init (fun self => Looks.of_pure (oi_bind self)) ?_)
 have e2 : ((s.heap.push emptyDict).push (instObj C s.heap.objs.size)).get? (s.heap.objs.size + 1) = some (instObj C s.heap.objs.size) := by
   have := Heap.get?_push_size (s.heap.push emptyDict) (o := instObj C s.heap.objs.size) rfl
   rwa [Heap.size_push] at this
 have t1 : Looks (model X.prog X.w) ((s.heap.push emptyDict).push (instObj C s.heap.objs.size)) (typeOf (.ref (s.heap.objs.size + 1))) (.ref C) := (Looks.ld e2).andThen .now
 have t2 : Looks (model X.prog X.w) ((s.heap.push emptyDict).push (instObj C s.heap.objs.size)) (isInstance (.ref (s.heap.objs.size + 1)) (.type "object")) true := t1.andThen (Y.top.keeps fun b o e => Heap.get?_push_of_some _ (Heap.get?_push_of_some _ e))
 refine codeAny_call_builtin oi_plain entry_oi (@check_slot (model X.prog X.w) _ _ _ "object.__init__" "object" "__init__" (.ref (s.heap.objs.size + 1)) [] [] _ oi_kind oi_split t2 (oi_args (.ref (s.heap.objs.size + 1))) ?_)
 rw [oi_run]
 exact wpAny_pure (And.intro rfl ⟨V.ref (s.heap.objs.size + 1), _, I2, rfl, hq⟩)
theorem A8u (M : Mk0 X.K C) (hg : Gl X x) (hm : X.mg x = some (.ref C)) (hdb : (x == ("__debug__" : Str)) = false := by decide) : PE X (.Call (.Name x p) [] [] pos) (tNew C) := by
 intro pins s σ H Q I h
 refine wpAny_Call_Name_kw (A1z I hg hm ?_ hdb)
 exact callWith_K0 I.kIn M.kp (A0ac M I h)
def Y4b (C : Addr) (m : Str) (sp : Sp) (dvs : List V) (EH : EK) (ta : TE) (t : TA) : TE := fun σ H Q => ta σ H fun x H1 => ∃ a dx fs, x = .ref a /\ H1 a = some (.ins C dx fs) /\ fs.lookup m = none /\
 t σ H1 fun vs H2 => sp (x :: (vs ++ dvs)) H2 Q (fun C d H' => EH C d σ H')
theorem D5g {pl : Sem Bool} (he : PE X o ta) (c : Cls X.K C) (hm : Meth X.K C m f) (F : FnOk X.prog X.w X.K X.mg X.base (CX1 X.prog X.w) j f fd ps sp) (hr : Room k X.A) (hb : Binds X.K fd ps ds) (hd : Vals dvs ds) (hx : J4 X EH) (ha : PA X (e :: es) t)
   (hj : j <= k := by decide) (hex : X.ex = [] := by rfl)
   (hst : starEach (e :: es) X.env = (false, eval e X.env) :: starEach es X.env := by rfl) (hpl : (backTo pos (starEach es X.env)).any (·.1) = false := by rfl)
   (ht : eval (.Call (.Attribute o m apos) (e :: es) [] pos) X.env = (do
     let ov <- eval o X.env
     standAt apos.atName
     let (f, first) <- holding [ov] (getMethod ov m pl)
     callWith pos f first (backTo pos (starEach (e :: es) X.env)) (backToKw pos (keywordEach [] X.env))) := by rfl) :
   PE X (.Call (.Attribute o m apos) (e :: es) [] pos) (Y4b C m sp dvs EH ta t) := by
 intro pins s σ H Q I h
 refine methodCall_KW (pl := pl) (thn (he pins s σ H _ I h) fun u s1 ⟨x, H1, I1, rx, a, dx, fs, ex, ea, l, q⟩ => ?_) ht
 subst ex
 obtain rfl : u = Value.ref a := rx
 refine C6u I1 ea c hm l ?_
 refine callWith_K (first := [.ref a]) (h₀ := X.base) I.ok.mod.kin hm.kp (thn (ha pos pins s1 σ H1 _ I1 q) fun us s2 ⟨vs, H2, I2, r, q2⟩ => ⟨I2.kIn, ?_⟩) hst hpl
 exact C5a (us := .ref a :: us) (vs := .ref a :: vs) (F.mono hj) hr hb hd hx hex I2 (.cons rfl r) q2
theorem A3d {pl : Sem Bool} (he : PE X o ta) (c : Cls X.K C) (hm : Meth X.K C m f) (F : FnOk X.prog X.w X.K X.mg X.base (CX1 X.prog X.w) j f fd ps sp) (hr : Room k X.A) (hb : Binds X.K fd ps ds) (hd : Vals dvs ds) (hx : J4 X EH)
   (hj : j <= k := by decide) (hex : X.ex = [] := by rfl)
   (ht : eval (.Call (.Attribute o m apos) [] [] pos) X.env = (do
     let ov <- eval o X.env
     standAt apos.atName
     let (f, first) <- holding [ov] (getMethod ov m pl)
     callWith pos f first (backTo pos (starEach [] X.env)) (backToKw pos (keywordEach [] X.env))) := by rfl) :
   PE X (.Call (.Attribute o m apos) [] [] pos) (Y4b C m sp dvs EH ta Y2z) := by
 intro pins s σ H Q I h
 refine methodCall_KW (pl := pl) (thn (he pins s σ H _ I h) fun u s1 ⟨x, H1, I1, rx, a, dx, fs, ex, ea, l, q⟩ => ?_) ht
 subst ex
 obtain rfl : u = Value.ref a := rx
 refine C6u I1 ea c hm l ?_
 exact callWith_K0 (first := [.ref a]) I1.kIn hm.kp (C5a (us := [.ref a]) (vs := [.ref a]) (F.mono hj) hr hb hd hx hex I1 (.cons rfl .nil) q)
def A0hu (C : Addr) (sp : Sp) (dvs : List V) (EH : EK) (t : TA) : TE := fun σ H Q => t σ H fun vs H1 => ∀ x dx, H1 x = none -> H1 dx = none -> dx ≠ x ->
 sp (.ref x :: (vs ++ dvs)) (upd (upd H1 dx (.own x)) x (.ins C dx [])) (fun v H2 => v = .non /\ Q (.ref x) H2) (fun C d H' => EH C d σ H')
theorem V3d {pins : List (Addr × Obj)} {σ : St} {H : Hp} {s : Shared} {Q : VK} {us : List Value} {vs : List V} (M : Mk X.K C f) (F : FnOk X.prog X.w X.K X.mg X.base (CX1 X.prog X.w) k f fd ps sp) (hr : Room (k + 1) X.A) (hb : Binds X.K fd ps ds) (hd : Vals dvs ds)
   (hx : J4 X EH) (hex : X.ex = []) (I : Inv X pins σ H s) (r : Vals vs us)
   (h : ∀ x dx, H x = none -> H dx = none -> dx ≠ x -> sp (.ref x :: (vs ++ dvs)) (upd (upd H dx (.own x)) x (.ins C dx [])) (fun v H2 => v = .non /\ Q (.ref x) H2) (fun C d H' => EH C d σ H')) :
   wpAny (model X.prog X.w) X.A (call (.ref C) us) (EP X pins σ Q) X.xe s := by
 have hq := h (s.heap.objs.size + 1) s.heap.objs.size (I.hok.fresh (Nat.le_succ _)) (I.hok.fresh (Nat.le_refl _)) (Nat.ne_of_lt (Nat.lt_succ_self _))
 have I2 := Inv.made (C := C) I
 have r2 : Vals (V.ref (s.heap.objs.size + 1) :: (vs ++ dvs)) (Value.ref (s.heap.objs.size + 1) :: (us ++ ds)) := .cons rfl (r.append hd)
 have hl : (Value.ref (s.heap.objs.size + 1) :: us ++ ds).length = ps.length := by
   have e := r2.length
   rw [F.len _ _ _ _ hq] at e
   exact e.symm
 refine wpAny_call (G9e (f := f) I.kIn M.makes M.init (beq_iff_eq.mp M.fn) (codeAny_mono (F.run _ X.stack _ _ ⟨Value.ref (s.heap.objs.size + 1) :: us, []⟩ (Value.ref (s.heap.objs.size + 1) :: (us ++ ds)) _ _ _ (hr.make C us [])
   (I2.env0.make C us []) (hb _ (Value.ref (s.heap.objs.size + 1) :: us) I2.kIn hl) r2 hq) fun r s' hq' => ?_))
 cases r with
 | error e => exact came hx hex I2 hq'
 | ok fl =>
   cases fl with
   | ret u =>
     obtain ⟨v, H', I3, rv, ev, q3⟩ := I2.after hq'
     subst ev
     exact ⟨rv, ⟨V.ref (s.heap.objs.size + 1), H', I3, rfl, q3⟩⟩
   | next => exact False.elim hq'
   | brk => exact False.elim hq'
   | cont => exact False.elim hq'
theorem A8q (M : Mk X.K C f) (F : FnOk X.prog X.w X.K X.mg X.base (CX1 X.prog X.w) j f fd ps sp) (hr : Room k X.A) (hm : X.mg x = some (.ref C)) (hb : Binds X.K fd ps ds) (hd : Vals dvs ds) (hx : J4 X EH)
   (ha : PA X (e :: es) t) (hj : j + 1 <= k := by decide) (hg : Gl X x := by rfl) (hex : X.ex = [] := by rfl) (hdb : (x == ("__debug__" : Str)) = false := by decide) (he : starEach (e :: es) X.env = (false, eval e X.env) :: starEach es X.env := by rfl) (hpl : (backTo pos (starEach es X.env)).any (·.1) = false := by rfl) :
   PE X (.Call (.Name x p) (e :: es) [] pos) (A0hu C sp dvs EH t) := by
 intro pins s σ H Q I h
 refine wpAny_Call_Name_kw (A1z I hg hm ?_ hdb)
 refine callWith_K (h₀ := X.base) I.ok.mod.kin M.kp (thn (ha pos pins s σ H _ I h) fun us s1 ⟨vs, H1, I1, r, q⟩ => ⟨I1.kIn, ?_⟩) he hpl
 exact V3d M F (hr.mono hj) hb hd hx hex I1 r q
end
section
variable {X : Cx}
end
structure FunD (K : Frag) (x qual : Str) (st : Stmt) (dV : Value) (f : Addr) (fd : FuncData) : Prop where
 ex : ∃ (oc : Value) (od : Option Addr) (kV doc pm : Value) (an : Option Addr) (cdv ct : Value) (osl : Array (Option Value)),
   fd = fnOf x qual (B0 st) (A8 st) (A1 st) dV kV doc pm an cdv ct /\ K.lookup f = some ⟨oc, od, .func fd, osl⟩ /\ codeIn K cdv qual = true
 kp : keepIn K (.ref f) = true
section
variable {P : Program} {w : World} {K : Frag} {mg : Str -> Option Value} {base : Heap}
theorem FunD.okE {x qual : Str} {st : Stmt} {dV : Value} {f : Addr} {fd : FuncData} {N ps : List Str} {k : Nat} {sp : Sp} (F : FunD K x qual st dV f fd) (S : FnScope N ps (A1 st)) (len : ∀ vs H Q E, sp vs H Q E -> vs.length = ps.length)
   (hbody : ∀ (X : Cx) (cdv : Value) (A : Around) (outer : List Env) (s : Shared) (H : Hp) (vs : List V) (Q : VK) (E : XK), X = A1s (CX1 P w) P w K mg base N qual (A1 st) f cdv A outer s H E -> Room k X.A -> J4 X (fun C dd _ H' => E C dd H') -> sp vs H Q E ->
     ∃ t, PSs (A1s (CX1 P w) P w K mg base N qual (A1 st) f cdv A outer s H E) (A8 st) t /\ t { nx := fun _ H' => Q .non H', rt := Q } (B3m N vs) H) : FnOk P w K mg base (CX1 P w) (k + 1) f fd ps sp := by
 obtain ⟨oc, od, kV, doc, pm, an, cdv, ct, osl, rfl, lk, hc⟩ := F.ex
 exact Y3q lk hc S len fun A outer s H vs Q E hr h => hbody _ cdv A outer s H vs Q E rfl hr C6c h
theorem U9x {x qual : Str} {st : Stmt} {dV : Value} {f : Addr} {oc : Value} {od an : Option Addr} {osl : Array (Option Value)} {kV doc pm cdv ct : Value} (l : K.lookup f = some ⟨oc, od, .func (fnOf x qual (B0 st) (A8 st) (A1 st) dV kV doc pm an cdv ct), osl⟩)
   (c : codeIn K cdv qual = true) (k : keepIn K (.ref f) = true) : FunD K x qual st dV f (fnOf x qual (B0 st) (A8 st) (A1 st) dV kV doc pm an cdv ct) := ⟨⟨oc, od, kV, doc, pm, an, cdv, ct, osl, rfl, l, c⟩, k⟩
theorem J6e {fd : FuncData} {ps : List Str} {ds : List Value} {T : Addr} {o : Obj} {items : Array Value} {n : Nat} (hd : fd.defaults = .ref T) (ho : K.lookup T = some o) (hs : o.data = .seq items n)
   (h : ∀ us : List Value, (us ++ ds).length = ps.length -> ∃ k, bindArgs fd ⟨us, []⟩ = seqItems? fd.defaults >>= k /\ k (some items) = pure (ps.zip (us ++ ds))) : Binds K fd ps ds := fun s us X hl => by
 obtain ⟨k, h1, h2⟩ := h us hl
 exact binds_K X hd ho hs h1 h2
end
section
variable {X : Cx} {k j : Nat} {f C : Addr} {fd : FuncData} {ps ks : List Str} {sp : Sp} {EH : EK} {x m : Str} {p pos apos : Pos} {e o : Expr} {es : List Expr} {kws : List Keyword} {ta : TE} {t tk : TA} {g : List Value -> List Value -> List Value} {gV : List V -> List V -> List V}
end
section
variable {X : Cx} {K : Frag} {e : Expr} {f : Str} {pos : Pos} {ta : TE}
theorem B2q (h : X.K = K) : IxR X (rIxT K) := by subst h; exact D8
theorem A0by (h : X.K = K) (he : PE X e ta) (hb : attributeBase e f X.env (eval e X.env) = eval e X.env) : PE X (.Attribute e f pos) (tFld K ta f) := by subst h; exact D4 he hb
theorem J6g (h : X.K = K) : OpR X (compareOp .In) (rIn K false) := by subst h; exact A2n
end
end L2
namespace TR
open PySem L2 PySem.W PyProof.Rows
structure Own (mg : Str -> Option Value) : Prop where
 isi : mg "isinstance" = none
 int_ : mg "int" = none
 bool_ : mg "bool" = none
 str_ : mg "str" = none
 list_ : mg "list" = none
 tuple_ : mg "tuple" = none
 dict_ : mg "dict" = none
 len_ : mg "len" = none
 range_ : mg "range" = none
 min_ : mg "min" = none
 max_ : mg "max" = none
 abs_ : mg "abs" = none
 any_ : mg "any" = none
 all_ : mg "all" = none
 sum_ : mg "sum" = none
 repr_ : mg "repr" = none
 enumerate_ : mg "enumerate" = none
 reversed_ : mg "reversed" = none
 zip_ : mg "zip" = none
 sorted_ : mg "sorted" = none
 divmod_ : mg "divmod" = none
 set_ : mg "set" = none
 ValueError_ : mg "ValueError" = none
structure Kit (K : Frag) : Prop where
 int_int : kitOne K (.type "int") (.type "int") = some true
 int_bool : kitOne K (.type "int") (.type "bool") = some false
 int_str : kitOne K (.type "int") (.type "str") = some false
 int_list : kitOne K (.type "int") (.type "list") = some false
 int_tuple : kitOne K (.type "int") (.type "tuple") = some false
 int_dict : kitOne K (.type "int") (.type "dict") = some false
 bool_int : kitOne K (.type "bool") (.type "int") = some true
 bool_bool : kitOne K (.type "bool") (.type "bool") = some true
 bool_str : kitOne K (.type "bool") (.type "str") = some false
 bool_list : kitOne K (.type "bool") (.type "list") = some false
 bool_tuple : kitOne K (.type "bool") (.type "tuple") = some false
 bool_dict : kitOne K (.type "bool") (.type "dict") = some false
 str_int : kitOne K (.type "str") (.type "int") = some false
 str_bool : kitOne K (.type "str") (.type "bool") = some false
 str_str : kitOne K (.type "str") (.type "str") = some true
 str_list : kitOne K (.type "str") (.type "list") = some false
 str_tuple : kitOne K (.type "str") (.type "tuple") = some false
 str_dict : kitOne K (.type "str") (.type "dict") = some false
 list_int : kitOne K (.type "list") (.type "int") = some false
 list_bool : kitOne K (.type "list") (.type "bool") = some false
 list_str : kitOne K (.type "list") (.type "str") = some false
 list_list : kitOne K (.type "list") (.type "list") = some true
 list_tuple : kitOne K (.type "list") (.type "tuple") = some false
 list_dict : kitOne K (.type "list") (.type "dict") = some false
 tuple_int : kitOne K (.type "tuple") (.type "int") = some false
 tuple_bool : kitOne K (.type "tuple") (.type "bool") = some false
 tuple_str : kitOne K (.type "tuple") (.type "str") = some false
 tuple_list : kitOne K (.type "tuple") (.type "list") = some false
 tuple_tuple : kitOne K (.type "tuple") (.type "tuple") = some true
 tuple_dict : kitOne K (.type "tuple") (.type "dict") = some false
 dict_int : kitOne K (.type "dict") (.type "int") = some false
 dict_bool : kitOne K (.type "dict") (.type "bool") = some false
 dict_str : kitOne K (.type "dict") (.type "str") = some false
 dict_list : kitOne K (.type "dict") (.type "list") = some false
 dict_tuple : kitOne K (.type "dict") (.type "tuple") = some false
 dict_dict : kitOne K (.type "dict") (.type "dict") = some true
 NoneType_int : kitOne K (.type "NoneType") (.type "int") = some false
 NoneType_bool : kitOne K (.type "NoneType") (.type "bool") = some false
 NoneType_str : kitOne K (.type "NoneType") (.type "str") = some false
 NoneType_list : kitOne K (.type "NoneType") (.type "list") = some false
 NoneType_tuple : kitOne K (.type "NoneType") (.type "tuple") = some false
 NoneType_dict : kitOne K (.type "NoneType") (.type "dict") = some false
theorem scK {N P : List Str} {sc : Scope} (a : sc.kind = .function := by rfl) (b : sc.isCoroutine = false := by rfl) (c : sc.isGenerator = false := by rfl) (d : N.Nodup := by decide +kernel) (e : N.take P.length = P := by rfl) (f : ∀ x ∈ P, sc.names.lookup x = some .local \/ sc.names.lookup x = some .cell := by decide +kernel) (g : ∀ y ∈ sc.names, y.2 ≠ .free := by decide +kernel) : FnScope N P sc := ⟨a, b, c, d, e, f, g⟩
theorem A0hd {K : Frag} {H : Hp} (i : Int) : TyE K H (.int i) (.type "int") := .of (.int i)
theorem Y3d {K : Frag} {H : Hp} (z : Str) : TyE K H (.str z) (.type "str") := .of (.str z)
theorem A0he {K : Frag} {H : Hp} {a : Addr} {xs : List V} (h : H a = some (.lst xs)) : TyE K H (.ref a) (.type "list") := .of (.lst h)
theorem TyOf.same {K : Frag} {H H' : Hp} {x : V} {t : Value} (h : TyOf K H x t) (e : Same H H') : TyOf K H' x t := by
 cases h with
 | non => exact .non
 | bl x => exact .bl x
 | int i => exact .int i
 | str x => exact .str x
 | flt x => exact .flt x
 | lst z => exact .lst (e _ _ z)
 | frz z => exact .frz (e _ _ z)
 | tup z => exact .tup (e _ _ z)
 | dK z => exact .dK (e _ _ z)
 | dT z => exact .dT (e _ _ z)
 | ins z a b c d f => exact .ins (e _ _ z) a b c d f
theorem TyE.same {K : Frag} {H H' : Hp} {x : V} {t : Value} (h : TyE K H x t) (e : Same H H') : TyE K H' x t := by
 cases h with
 | of h => exact .of (TyOf.same h e)
 | exc z k => exact .exc (e _ _ z) k
 | excD z d k => exact .excD (e _ _ z) (e _ _ d) k
 | tupK l c => exact .tupK l c
def B3r (lo hi : Int) (v : V) : Prop := ∃ i, v = .int i /\ lo <= i /\ i <= hi
def D1v (K : Frag) (H : Hp) (lo hi : Int) (v : V) : Prop := ∃ t b1 b2, TyE K H v t /\ kitOne K t (.type "int") = some b1 /\ kitOne K t (.type "bool") = some b2 /\ ((b1 && !b2) = false \/ ∃ i, v = .int i /\ (i < lo \/ hi < i))
section
variable {K : Frag} {H : Hp} {lo hi : Int}
end
def Exc (p : Addr) (H H' : Hp) : Prop := ∀ b o, H b = some o -> b ≠ p -> H' b = some o
theorem Exc.refl (p : Addr) (H : Hp) : Exc p H H := fun _ _ h _ => h
theorem Exc.trans {p : Addr} {H H1 H2 : Hp} (a : Exc p H H1) (b : Exc p H1 H2) : Exc p H H2 := fun c o h n => b c o (a c o h n) n
theorem Exc.upd {p : Addr} {H : Hp} {o : HO} : Exc p H (L2.upd H p o) := fun b u e n => by rw [D5 n]; exact e
theorem Exc.of {p : Addr} {H H' : Hp} (s : Same H H') : Exc p H H' := fun b o h _ => s b o h
def Has (P : Program) (w : World) (K : Frag) (mg : Str -> Option Value) (base : Heap) (C : Addr) (m : Str) (k : Nat) (ps : List Str) (sp : Sp) : Prop := ∃ f fd, Meth K C m f /\ FnOk P w K mg base (CX1 P w) k f fd ps sp /\ Binds K fd ps []
def V3e (z : Str) (b : Bool) : List Str := if b then [z] else []
theorem len3 : ∀ {us : List Value}, us.length = 3 -> ∃ a b c, us = [a, b, c]
 | [a, b, c], _ => ⟨a, b, c, rfl⟩
theorem len4 : ∀ {us : List Value}, us.length = 4 -> ∃ a b c d, us = [a, b, c, d]
 | [a, b, c, d], _ => ⟨a, b, c, d, rfl⟩
theorem len5 : ∀ {us : List Value}, us.length = 5 -> ∃ a b c d e, us = [a, b, c, d, e]
 | [a, b, c, d, e], _ => ⟨a, b, c, d, e, rfl⟩
theorem lenD {us ds : List Value} {n : Nat} (h : (us ++ ds).length = n) : us.length = n - ds.length := by rw [List.length_append] at h; omega
end TR
namespace L2
open PySem PySem.Spec PyProof.Rows
section
variable {κ : Type} [DecidableEq κ]
end
section
variable {P : Program} {w : World} {H : Hp} {h : Heap} {a : Addr}
end
section
variable {X : Cx} {pins : List (Addr × Obj)} {σ : St} {H : Hp} {s : Shared} {a : Addr} {y v : V} {u r : Value} {o : Option V} {A : Around} {E : Value -> Shared -> Prop}
end
section
variable {X : Cx} {pins : List (Addr × Obj)} {σ : St} {H : Hp} {s : Shared} {a : Addr} {kvs : List (Key × V)} {k : Key} {u : Value} {A : Around} {E : Value -> Shared -> Prop}
end
section
variable {X : Cx} {o i e value : Expr} {pos pos' tpos : Pos} {td ty tv : TE}
end
section
variable {X : Cx} {pos : Pos}
end
end L2
namespace L2
open PySem PySem.Spec PyProof.Rows PySem.W
def A1q (F : List Str) (env : Env) : List (Str × Addr) := F.map fun x => (x, (env.cells.lookup x).getD 0)
def A4p (js : List Nat) (σ : St) : St := js.map fun j => (σ[j]?).getD none
abbrev Cx.compF (X : Cx) (scope : Scope) (N F : List Str) (C : Addr) (s₀ : Shared) (H₀ : Hp) (ex : List Addr) (pins : List (Addr × Obj)) : Cx :=
 { X with N := N ++ F, s₀ := s₀, H₀ := H₀, env := compEnvC scope (A1q F X.env) C X.env, outer := X.stack, ex := ex, fn := fun _ => false, pn := pins, xe := fun _ _ => False }
structure CompScopeF (N F : List Str) (js : List Nat) (sc : Scope) (XN : List Str) (env : Env) : Prop where
 kind : sc.kind = .function
 cell : ∀ y ∈ sc.names, y.2 ≠ .cell
 loc : ∀ y ∈ sc.names, y.2 = .local -> sc.names.lookup y.1 = some .local
 nd : (N ++ F).Nodup
 clos : closureFor sc env = pure (A1q F env)
 fr : ∀ y ∈ (relabel sc env).names, y.2 = .cell \/ y.2 = .free -> y.1 ∈ F
 at_ : ∀ (k : Nat) (x : Str), F[k]? = some x -> (∃ j : Nat, js[k]? = some j /\ XN[j]? = some x) /\ (∃ c, env.cells.lookup x = some c) /\ env.kindOf x = some .cell /\ (relabel sc env).names.lookup x = some .cell
 jl : js.length = F.length
def J5x (n : Nat) (js : List Nat) (wi : TI) (g : TG) (tc : TT) (te : TE) : TE := fun σ H Q => wi σ H fun J H1 => ∀ D, H1 D = none ->
 ∃ (m : Nat) (W : Nat -> List V -> Hp -> Prop), W 0 [] (upd H1 D (.lst [])) /\ ∀ i ys H2, W i ys H2 -> i <= m /\ H2 D = some (.lst ys) /\ ((J.stop i H2 /\ Q (.ref D) H2) \/ (i < m /\ J.go i H2 /\ ∀ x H3, J.yld i H2 x H3 ->
   g x (List.replicate n none ++ A4p js σ) H3 fun σ4 H4 => tc σ4 H4 fun b H5 => if b = true then te σ4 H5 fun y H6 => H6 D = some (.lst ys) /\ ys.length < sizeLine /\ W (i + 1) (ys ++ [y]) (upd H6 D (.lst (ys ++ [y]))) else W (i + 1) ys H5))
def C5c (n : Nat) (js : List Nat) (wi : TI) (g : TG) (te : TE) : TE := fun σ H Q => wi σ H fun J H1 => ∀ D, H1 D = none ->
 ∃ (m : Nat) (W : Nat -> List V -> Hp -> Prop), W 0 [] (upd H1 D (.lst [])) /\ ∀ i ys H2, W i ys H2 -> i <= m /\ H2 D = some (.lst ys) /\ ((J.stop i H2 /\ Q (.ref D) H2) \/ (i < m /\ J.go i H2 /\ ∀ x H3, J.yld i H2 x H3 ->
   g x (List.replicate n none ++ A4p js σ) H3 fun σ4 H4 => te σ4 H4 fun y H6 => H6 D = some (.lst ys) /\ ys.length < sizeLine /\ W (i + 1) (ys ++ [y]) (upd H6 D (.lst (ys ++ [y])))))
theorem A0kt {F : List Str} {env : Env} {x : Str} {c : Addr} (h : (A1q F env).lookup x = some c) : x ∈ F /\ c = (env.cells.lookup x).getD 0 := by
 have := PySem.mem_of_lookup h
 obtain ⟨y, hy, e⟩ := List.mem_map.mp this
 cases e
 exact ⟨hy, rfl⟩
theorem Y2g {env : Env} {x : Str} : ∀ {F : List Str}, x ∈ F -> (A1q F env).lookup x = some ((env.cells.lookup x).getD 0)
 | y :: F, h => by
   show List.lookup x ((y, (env.cells.lookup y).getD 0) :: A1q F env) = _
   by_cases e : x = y
   . subst e; simp [List.lookup]
   . have hb : (x == y) = false := beq_eq_false_iff_ne.mpr e
     rw [List.lookup_cons, hb]
     exact Y2g (by rcases List.mem_cons.mp h with z | z; exact absurd z e; exact z)
section
variable {X : Cx} {N F : List Str} {js : List Nat} {scope : Scope}
theorem CompScopeF.sub (S : CompScopeF N F js scope X.N X.env) : ∀ x c, (A1q F X.env).lookup x = some c -> X.env.cells.lookup x = some c := fun x c z => by
 obtain ⟨hx, rfl⟩ := A0kt z
 obtain ⟨k, hk⟩ := List.mem_iff_getElem?.mp hx
 obtain ⟨_, ⟨c, hc⟩, _⟩ := S.at_ k x hk
 rw [hc]; rfl
theorem CompScopeF.has (S : CompScopeF N F js scope X.N X.env) {x : Str} (hx : x ∈ F) : ∃ c, (A1q F X.env).lookup x = some c /\ X.env.cells.lookup x = some c :=
 ⟨_, Y2g hx, S.sub _ _ (Y2g hx)⟩
theorem B2e {pins : List (Addr × Obj)} {σ : St} {H : Hp} {s : Shared} (S : CompScopeF N F js scope X.N X.env) (I : Inv X pins σ H s) {h' : Heap} {m : Str -> Option Value} {C : Addr} (hc : ∀ x c v, X.env.cells.lookup x = some c -> s.heap.IsCell c v -> h'.IsCell c v) :
   ∀ (i : Nat) (x : Str) (v : V), (N ++ F)[i]? = some x -> (List.replicate N.length none ++ A4p js σ)[i]? = some (some v) -> ∃ u, RelV v u /\ Look (compEnvC scope (A1q F X.env) C X.env) h' m x u := by
 intro i x v e1 e2
 by_cases hi : i < N.length
 . rw [List.getElem?_append_left (by simpa using hi), List.getElem?_replicate] at e2
   split at e2 <;> cases e2
 . rw [List.getElem?_append_right (by omega)] at e1
   rw [List.getElem?_append_right (by simp; omega)] at e2
   rw [List.length_replicate] at e2
   obtain ⟨⟨j, hj, hx⟩, ⟨c, hcc⟩, kx, kr⟩ := S.at_ _ x e1
   unfold A4p at e2
   rw [List.getElem?_map, hj] at e2
   have e2 : (σ[j]?).getD none = some v := Option.some.inj e2
   have e3 : σ[j]? = some (some v) := by
     cases q : σ[j]? with
     | none => rw [q] at e2; cases e2
     | some o => rw [q] at e2; exact congrArg some e2
   obtain ⟨m0, _, hl⟩ := I.loc
   obtain ⟨u, r, l⟩ := hl j x v hx e3 (.inr (.inl kx))
   refine ⟨u, r, .inr ⟨.inl kr, c, ?_, ?_⟩⟩
   . obtain ⟨c', h1, h2⟩ := S.has (List.mem_of_getElem? e1)
     rw [hcc] at h2
     cases h2
     exact h1
   . rcases l with ⟨k, _⟩ | ⟨_, c', h1, h2⟩
     . rw [kx] at k; cases k
     . rw [hcc] at h1
       cases h1
       exact hc x c _ hcc h2
theorem D8n (S : CompScopeF N F js scope X.N X.env) (σ : St) : (List.replicate N.length none ++ A4p js σ : St).length = (N ++ F).length := by
 unfold A4p
 rw [List.length_append, List.length_replicate, List.length_map, S.jl, List.length_append]
theorem D5k {pins : List (Addr × Obj)} {σ : St} {H : Hp} {s : Shared} {it : Addr} {h' : Heap} (S : CompScopeF N F js scope X.N X.env) (I : Inv X pins σ H s) (hf : A0j X pins H it) (hit : ∃ o, s.heap.get? it = some o) (hnb : X.base.get? it = none)
   (hns : h'.Ns s.heap.objs.size (fun _ => none)) (hsb : ∀ b o, s.heap.get? b = some o -> h'.get? b = some o) {tk : Nat} :
   Inv (X.compF scope N F s.heap.objs.size s H [it] (X.pn ++ pins)) [] (List.replicate N.length none ++ A4p js σ) H { s with heap := h', toks := tk } := by
 obtain ⟨f0, f1, f2, f3, f4, f5⟩ := hf
 obtain ⟨oi, ei⟩ := hit
 have lt : it < s.heap.objs.size := Heap.lt_size ei
 have ck : ∀ c v, s.heap.IsCell c v -> h'.IsCell c v := fun c v ⟨o, e, d⟩ => ⟨o, hsb _ _ e, d⟩
 have inF : ∀ x, ((compEnvC scope (A1q F X.env) s.heap.objs.size X.env).kindOf x = some .cell \/ (compEnvC scope (A1q F X.env) s.heap.objs.size X.env).kindOf x = some .free) -> x ∈ F := by
   intro x z
   have z : (relabel scope X.env).names.lookup x = some .cell \/ (relabel scope X.env).names.lookup x = some .free := z
   rcases z with z | z
   . exact S.fr _ (PySem.mem_of_lookup z) (.inl rfl)
   . exact S.fr _ (PySem.mem_of_lookup z) (.inr rfl)
 refine ⟨⟨I.ok.mod, S.kind, I.ok.glob, I.ok.blt, Nat.le_refl _, fun x y c z z' => I.ok.inj x y c (S.sub x c z) (S.sub y c z'), fun x z => ?_, fun x c z _ => (nomatch z), I.ok.hd, I.ok.frames, .inl rfl, fun b hb => ?_, I.bs, Nat.le_trans I.ok.bsz I.sz, fun b o e hb => ?_, fun b hb hfs => ?_, I.stack, I.stkFree⟩,
   rfl, I.bare, Un.kept hsb, ⟨_, hns, fun i x v e1 e2 e3 => B2e S I (fun x c v _ z => ck c v z) i x v e1 e2⟩, fun x c z => ?_, I.hok.fresh (Nat.le_refl _), fun x c z => I.freeC x c (S.sub x c z), fun p hp => ?_, I.hok.kept hsb, D8n S σ⟩
 . obtain ⟨c, h1, _⟩ := S.has (inF x z)
   exact ⟨c, h1⟩
 . have e : b = it := by simpa using hb
   subst e
   exact ⟨Nat.ne_of_lt lt, fun x c z => f4 x c (S.sub x c z)⟩
 . have e' : b = it := by simpa using hb
   subst e'
   rw [hnb] at e
   cases e
 . have e' : b = it := by simpa using hb
   subst e'
   rcases List.mem_cons.mp (I.stkSub b hfs) with z | z
   . exact f1 z
   . exact f2 z
 . obtain ⟨v, z'⟩ := I.cell x c (S.sub x c z)
   exact ⟨v, ck c v z'⟩
 . have hp' : p ∈ X.pn ++ pins := by simpa using hp
   obtain ⟨q1, q2, q3, q4, q5⟩ := I.pin p hp'
   refine ⟨hsb _ _ q1, q2, Nat.ne_of_lt (Heap.lt_size q1), fun z => ?_, q5⟩
   rcases List.mem_cons.mp (I.stkSub p.1 z) with z | z
   . exact q3 z
   . exact q4 z
theorem D6b {pins pl : List (Addr × Obj)} {σ σ' : St} {H H' : Hp} {s s' : Shared} {it : Addr} (S : CompScopeF N F js scope X.N X.env) (I : Inv X pins σ H s) (hf : A0j X pins H it) (J : Inv (X.compF scope N F s.heap.objs.size s H [it] (X.pn ++ pins)) pl σ' H' s') :
   Inv (X.compF scope N F s.heap.objs.size s H [it] (X.pn ++ pins)) [] (List.replicate N.length none ++ A4p js σ) H' s' := by
 obtain ⟨m, hn, _⟩ := J.loc
 refine ⟨J.ok, J.os, J.bare, J.base, ⟨m, hn, fun i x v e1 e2 e3 => B2e S I (fun x c v z q => ?_) i x v e1 e2⟩, J.cell, J.free, J.freeC, fun p hp => J.pin p (by
   have hp : p ∈ (X.pn ++ pins) ++ [] := hp
   rw [List.append_nil] at hp
   exact List.mem_append_left _ hp), J.hok, D8n S σ⟩
 obtain ⟨o, e, d⟩ := q
 have ne : c ∉ [it] := fun w => hf.2.2.2.2.1 x c z (by simpa using w)
 obtain ⟨sl, q⟩ := J.base.any e (I.freeC x c z) ne
 exact ⟨_, q, d⟩
theorem J5h {elt target iter c : Expr} {scope : Scope} {pos : Pos} {N F : List Str} {js : List Nat} {wi : TI} {g : TG} {tc : TT} {te : TE} (S : CompScopeF N F js scope X.N X.env) (hd : V7 X) (hi : PIH X target iter wi) (hex : X.ex = [])
   (hg : ∀ C s₀ H₀ ex pn, V7 (X.compF scope N F C s₀ H₀ ex pn) -> PG (X.compF scope N F C s₀ H₀ ex pn) target g)
   (hc : ∀ C s₀ H₀ ex pn, V7 (X.compF scope N F C s₀ H₀ ex pn) -> PT (X.compF scope N F C s₀ H₀ ex pn) c tc)
   (he : ∀ C s₀ H₀ ex pn, V7 (X.compF scope N F C s₀ H₀ ex pn) -> PE (X.compF scope N F C s₀ H₀ ex pn) elt te)
   {pins : List (Addr × Obj)} {s : Shared} {σ : St} {H : Hp} {Q : VK} {RR : Value -> Env -> Result -> Shared -> Prop} (I : Inv X pins σ H s) (h : (J5x N.length js wi g tc te) σ H Q)
   (hRR : ∀ (D C : Addr) (s6 : Shared) (H5 : Hp) (mm : Str -> Option Value), Inv X pins σ H5 s6 -> s6.heap.Ns C mm -> A0j X pins H5 C -> Q (.ref D) H5 -> RR (.ref D) (compEnvC scope (A1q F X.env) C X.env) (.ok .next) s6) :
   wpAny (model X.prog X.w) X.A (eval iter X.env) (fun v s1 => wpAny (model X.prog X.w) X.A (pyIter v) (fun itv s2 => wpAny (model X.prog X.w) X.A (newList []) (fun acc s3 => wpAny (model X.prog X.w) X.A (newFunctionEnv scope X.env.globals (A1q F X.env) [] X.env.qual none .none (some X.env)) (fun cenv s4 =>
     codeAny (model X.prog X.w) X.A (.compStart (.ListComp elt [⟨target, iter, [c], 0⟩] scope pos) 0 itv acc { cenv with scope := relabel scope X.env }) (RR acc { cenv with scope := relabel scope X.env }) s4) X.xe s3) X.xe s2) X.xe s1) X.xe s := by
 refine thn (hi pins s σ H _ I h) fun v s1 h1 => thn h1 fun itv s2 h2 => ?_
 obtain ⟨it, tn, J, H2, rfl, I2, T, st2, f2, R⟩ := h2
 obtain ⟨oi, ei, di⟩ := T.obj _ _ st2
 have hf2 := I2.hok.fresh (Nat.le_refl _)
 refine wpAny_newObj_type ?_
 have I3 : Inv X pins σ (upd H2 s2.heap.objs.size (.lst [])) { s2 with heap := s2.heap.push { cls := .type "list", dict := none, data := .seq ([] : List Value).toArray } } := Inv.lnew (t' := s2.toks) I2 .nil (Nat.zero_le _)
 refine wpAny_newFunctionEnv S.cell (by intro y hy; simp at hy) (fun h4 hns hsb => ?_) S.kind
 dsimp only at hns hsb ⊢
 generalize hG : s2.heap.push { cls := .type "list", dict := none, data := .seq ([] : List Value).toArray } = G at I3 hns hsb ⊢
 generalize hD : s2.heap.objs.size = D at I3 hf2
 have nD : it ≠ D := by rw [<- hD]; exact Nat.ne_of_lt (Heap.lt_size ei)
 have eiG : G.get? it = some oi := by rw [<- hG]; exact Heap.get?_push_of_some _ ei
 have kp : ∀ b o, G.get? b = some o -> h4.get? b = some o := fun b o e => hsb.extBut b o (Nat.ne_of_lt (Heap.lt_size e)) (Heap.get?_push_of_some _ e)
 have f3 : A0j X pins (upd H2 D (.lst [])) it := ⟨by rw [D5 nD]; exact f2.1, f2.2⟩
 have nb : X.base.get? it = none := by
   cases q : X.base.get? it with
   | none => rfl
   | some o =>
     have := (I.ok.bs it o q).1
     rcases f2.2.2.2.1 with z | z
     . rw [hex] at z; simp at z
     . exact absurd (Nat.lt_of_lt_of_le (Heap.lt_size this) z) (Nat.lt_irrefl _)
 have hns' : h4.Ns G.objs.size (fun _ => none) := by
   obtain ⟨o, es, ep, q1, q2, q3, q4⟩ := hns
   exact ⟨o, es, ep, q1, q2, q3, fun x => by rw [q4]; rfl⟩
 have I4 := D5k (tk := s2.toks + ([] : List (Str × Value)).length) S I3 f3 ⟨oi, eiG⟩ nb hns' kp
 have hdc : V7 (X.compF scope N F G.objs.size { s2 with heap := G } (upd H2 D (.lst [])) [it] (X.pn ++ pins)) := by
   rcases hd with z | ⟨x, o, u, vs, z, e, d, n⟩
   . exact .inl z
   . refine .inr ⟨x, o, u, vs, z, ?_, d, n⟩
     have q := I2.base.frzs x o u e
     show upd H2 D (.lst []) x = _
     rw [D5 fun w => by rw [w, hf2] at q; cases q]
     exact q
 obtain ⟨m, W, w0, turn⟩ := R D hf2
 have gg := hg _ _ _ _ _ hdc
 have cc := hc _ _ _ _ _ hdc
 have ee := he _ _ _ _ _ hdc
 have fpc : ∀ {H' : Hp} {σ' : St} {s' : Shared} {pl : List (Addr × Obj)}, Inv (X.compF scope N F G.objs.size { s2 with heap := G } (upd H2 D (.lst [])) [it] (X.pn ++ pins)) pl σ' H' s' -> H' it = none -> (∀ p ∈ pl, p.1 ≠ it) -> A0j (X.compF scope N F G.objs.size { s2 with heap := G } (upd H2 D (.lst [])) [it] (X.pn ++ pins)) pl H' it := by
   intro H' σ' s' pl J' hn hp
   refine ⟨hn, Nat.ne_of_lt (Heap.lt_size eiG), ?_, .inl (List.mem_singleton.mpr rfl), (fun x c z => f2.2.2.2.2.1 x c (S.sub x c z)), fun p hpp => ?_⟩
   . intro z
     rcases List.mem_cons.mp (I.stkSub it z) with z | z
     . exact f2.2.1 z
     . exact f2.2.2.1 z
   . rcases List.mem_append.mp hpp with z | z
     . exact f2.2.2.2.2.2 p z
     . exact hp p z
 have loop : codeAny (model X.prog X.w) X.A (.compLoop (.ListComp elt [⟨target, iter, [c], 0⟩] scope pos) 0 (.ref it) (.ref D) (compEnvC scope (A1q F X.env) G.objs.size X.env))
     (RR (.ref D) (compEnvC scope (A1q F X.env) G.objs.size X.env))
     { s2 with heap := h4, toks := s2.toks + ([] : List (Str × Value)).length } := by
   refine kct_loop (fun k s' => ∃ i ys H', k = m + 1 - i /\ Inv (X.compF scope N F G.objs.size { s2 with heap := G } (upd H2 D (.lst [])) [it] (X.pn ++ pins)) [] (List.replicate N.length none ++ A4p js σ) H' s' /\ tn i s'.heap /\ H' it = none /\ W i ys H') ?_ (m + 1)
     ⟨0, [], _, rfl, I4, T.keep _ _ _ st2 fun o e => kp it o (by rw [<- hG]; exact Heap.get?_push_of_some _ e), f3.1, w0⟩
   rintro k s5 ⟨i, ys, H5, rfl, I5, st5, n5, w5⟩
   obtain ⟨hi5, hD5, w5⟩ := turn i ys H5 w5
   rcases w5 with ⟨stop, q⟩ | ⟨lt5, go, step⟩
   . refine wpAny_mono (T.done (X.compF scope N F G.objs.size { s2 with heap := G } (upd H2 D (.lst [])) [it] (X.pn ++ pins)) rfl rfl rfl hdc i [] s5 _ H5 (fun _ _ => False) I5 (fpc I5 n5 (by simp)) st5 stop) (fun r s6 z => ?_) (fun _ _ z => z.elim)
     obtain ⟨rfl, I6⟩ := z
     obtain ⟨mm, hn6, _⟩ := I6.loc
     have B6 := I6.base
     have J6 : Inv X pins σ H5 s6 := by
       refine I3.call' (ch := [it]) I6.os ⟨B6.keep, B6.slot, B6.free, B6.there, B6.tups, B6.frzs, B6.tbls⟩ I6.hok I6.bare (fun b hb => ?_)
       have e : b = it := by simpa using hb
       subst e
       exact ⟨f2.2.2.2.1, f2.2.1, f2.2.2.2.2.1, f2.2.2.2.2.2⟩
     have szG : X.s₀.heap.objs.size <= G.objs.size := I3.sz
     refine hRR D G.objs.size s6 H5 mm J6 hn6 ⟨I6.free, ?_, ?_, .inr szG, ?_, ?_⟩ q
     . exact Nat.ne_of_gt I3.lt
     . intro z
       obtain ⟨_, o, ho, _⟩ := I3.funs.mem z
       exact Nat.lt_irrefl _ (Heap.lt_size ho)
     . rintro x c z rfl
       obtain ⟨v', o, ho, _⟩ := I3.cell x _ z
       exact Nat.lt_irrefl _ (Heap.lt_size ho)
     . rintro p hp z
       have zz := (I3.pin p hp).1
       rw [z] at zz
       exact Nat.lt_irrefl _ (Heap.lt_size zz)
   . refine wpAny_mono (T.item (X.compF scope N F G.objs.size { s2 with heap := G } (upd H2 D (.lst [])) [it] (X.pn ++ pins)) rfl rfl rfl hdc i [] s5 _ H5 (fun _ _ => False) I5 (fpc I5 n5 (by simp)) st5 go) (fun r s6 z => ?_) (fun _ _ z => z.elim)
     obtain ⟨u, rfl, z⟩ := z
     refine wpAny_mono z (fun _ s7 z => ?_) (fun _ _ z => z.elim)
     obtain ⟨x, I7, rx, yl, st7⟩ := z
     obtain ⟨o7, e7, d7⟩ := T.obj _ _ st7
     obtain ⟨p0, p1, p2, _⟩ := fpc I7 n5 (by simp)
     have I7' : Inv (X.compF scope N F G.objs.size { s2 with heap := G } (upd H2 D (.lst [])) [it] (X.pn ++ pins)) [(it, o7)] (List.replicate N.length none ++ A4p js σ) H5 s7 := I7.pins_of fun p hp => by
       have e : p = (it, o7) := by simpa using hp
       subst e
       exact ⟨e7, p0, p1, p2, d7⟩
     have back : ∀ {i' : Nat} {ys' : List V} {H' : Hp} {σ' : St} {s' : Shared}, i' = i + 1 -> Inv (X.compF scope N F G.objs.size { s2 with heap := G } (upd H2 D (.lst [])) [it] (X.pn ++ pins)) [(it, o7)] σ' H' s' -> W i' ys' H' ->
         ∃ k', k' < m + 1 - i /\ ∃ i ys H', k' = m + 1 - i /\ Inv (X.compF scope N F G.objs.size { s2 with heap := G } (upd H2 D (.lst [])) [it] (X.pn ++ pins)) [] (List.replicate N.length none ++ A4p js σ) H' s' /\ tn i s'.heap /\ H' it = none /\ W i ys H' := by
       rintro i' ys' H' σ' s' rfl J' w'
       obtain ⟨q1, q2, _⟩ := J'.pin (it, o7) (List.mem_append_right _ (List.mem_singleton.mpr rfl))
       refine ⟨m + 1 - (i + 1), by omega, i + 1, ys', H', rfl, D6b S I3 f3 J', T.keep _ _ _ st7 fun o z => ?_, q2, w'⟩
       rw [e7] at z
       cases z
       exact q1
     refine wpAny_mono (gg [(it, o7)] s7 _ H5 x u _ I7' rx (step x H5 yl)) (fun _ s8 z => ?_) (fun _ _ z => z.elim)
     obtain ⟨σ8, H8, I8, q8⟩ := z
     refine wpAny_mono (cc [(it, o7)] s8 σ8 H8 _ I8 q8) (fun b s9 z => ?_) (fun _ _ z => z.elim)
     obtain ⟨H9, I9, q9⟩ := z
     cases b with
     | false =>
       simp only [Bool.false_eq_true, if_false] at q9 ⊢
       exact back rfl I9 q9
     | true =>
       simp only [if_true] at q9 ⊢
       refine wpAny_mono (ee [(it, o7)] s9 σ8 H9 _ I9 q9) (fun y s10 z => ?_) (fun _ _ z => z.elim)
       obtain ⟨yv, H10, I10, ry, hD10, hz10, w10⟩ := z
       refine wpAny_mono (B2g (X := X.compF scope N F G.objs.size { s2 with heap := G } (upd H2 D (.lst [])) [it] (X.pn ++ pins)) [(it, o7)] s10 σ8 H10 (.ref D) [yv] (.ref D) [y] (fun _ H11 => W (i + 1) (ys ++ [yv]) H11) I10 rfl (.cons ry .nil) ⟨D, ys, yv, rfl, rfl, hD10, hz10, w10⟩) (fun _ s11 z => ?_) (fun _ _ z => z.elim)
       obtain ⟨_, H11, I11, _, w11⟩ := z
       exact back rfl I11 w11
 exact codeAny_compStart_list loop (T.self _ 0 _ _ _ (T.keep _ _ _ st2 fun o e => kp it o (by rw [<- hG]; exact Heap.get?_push_of_some _ e)) loop)
theorem G9v {elt target iter : Expr} {scope : Scope} {pos : Pos} {N F : List Str} {js : List Nat} {wi : TI} {g : TG} {te : TE} (S : CompScopeF N F js scope X.N X.env) (hd : V7 X) (hi : PIH X target iter wi) (hex : X.ex = [])
   (hg : ∀ C s₀ H₀ ex pn, V7 (X.compF scope N F C s₀ H₀ ex pn) -> PG (X.compF scope N F C s₀ H₀ ex pn) target g)
   (he : ∀ C s₀ H₀ ex pn, V7 (X.compF scope N F C s₀ H₀ ex pn) -> PE (X.compF scope N F C s₀ H₀ ex pn) elt te)
   {pins : List (Addr × Obj)} {s : Shared} {σ : St} {H : Hp} {Q : VK} {RR : Value -> Env -> Result -> Shared -> Prop} (I : Inv X pins σ H s) (h : (C5c N.length js wi g te) σ H Q)
   (hRR : ∀ (D C : Addr) (s6 : Shared) (H5 : Hp) (mm : Str -> Option Value), Inv X pins σ H5 s6 -> s6.heap.Ns C mm -> A0j X pins H5 C -> Q (.ref D) H5 -> RR (.ref D) (compEnvC scope (A1q F X.env) C X.env) (.ok .next) s6) :
   wpAny (model X.prog X.w) X.A (eval iter X.env) (fun v s1 => wpAny (model X.prog X.w) X.A (pyIter v) (fun itv s2 => wpAny (model X.prog X.w) X.A (newList []) (fun acc s3 => wpAny (model X.prog X.w) X.A (newFunctionEnv scope X.env.globals (A1q F X.env) [] X.env.qual none .none (some X.env)) (fun cenv s4 =>
     codeAny (model X.prog X.w) X.A (.compStart (.ListComp elt [⟨target, iter, [], 0⟩] scope pos) 0 itv acc { cenv with scope := relabel scope X.env }) (RR acc { cenv with scope := relabel scope X.env }) s4) X.xe s3) X.xe s2) X.xe s1) X.xe s := by
 refine thn (hi pins s σ H _ I h) fun v s1 h1 => thn h1 fun itv s2 h2 => ?_
 obtain ⟨it, tn, J, H2, rfl, I2, T, st2, f2, R⟩ := h2
 obtain ⟨oi, ei, di⟩ := T.obj _ _ st2
 have hf2 := I2.hok.fresh (Nat.le_refl _)
 refine wpAny_newObj_type ?_
 have I3 : Inv X pins σ (upd H2 s2.heap.objs.size (.lst [])) { s2 with heap := s2.heap.push { cls := .type "list", dict := none, data := .seq ([] : List Value).toArray } } := Inv.lnew (t' := s2.toks) I2 .nil (Nat.zero_le _)
 refine wpAny_newFunctionEnv S.cell (by intro y hy; simp at hy) (fun h4 hns hsb => ?_) S.kind
 dsimp only at hns hsb ⊢
 generalize hG : s2.heap.push { cls := .type "list", dict := none, data := .seq ([] : List Value).toArray } = G at I3 hns hsb ⊢
 generalize hD : s2.heap.objs.size = D at I3 hf2
 have nD : it ≠ D := by rw [<- hD]; exact Nat.ne_of_lt (Heap.lt_size ei)
 have eiG : G.get? it = some oi := by rw [<- hG]; exact Heap.get?_push_of_some _ ei
 have kp : ∀ b o, G.get? b = some o -> h4.get? b = some o := fun b o e => hsb.extBut b o (Nat.ne_of_lt (Heap.lt_size e)) (Heap.get?_push_of_some _ e)
 have f3 : A0j X pins (upd H2 D (.lst [])) it := ⟨by rw [D5 nD]; exact f2.1, f2.2⟩
 have nb : X.base.get? it = none := by
   cases q : X.base.get? it with
   | none => rfl
   | some o =>
     have := (I.ok.bs it o q).1
     rcases f2.2.2.2.1 with z | z
     . rw [hex] at z; simp at z
     . exact absurd (Nat.lt_of_lt_of_le (Heap.lt_size this) z) (Nat.lt_irrefl _)
 have hns' : h4.Ns G.objs.size (fun _ => none) := by
   obtain ⟨o, es, ep, q1, q2, q3, q4⟩ := hns
   exact ⟨o, es, ep, q1, q2, q3, fun x => by rw [q4]; rfl⟩
 have I4 := D5k (tk := s2.toks + ([] : List (Str × Value)).length) S I3 f3 ⟨oi, eiG⟩ nb hns' kp
 have hdc : V7 (X.compF scope N F G.objs.size { s2 with heap := G } (upd H2 D (.lst [])) [it] (X.pn ++ pins)) := by
   rcases hd with z | ⟨x, o, u, vs, z, e, d, n⟩
   . exact .inl z
   . refine .inr ⟨x, o, u, vs, z, ?_, d, n⟩
     have q := I2.base.frzs x o u e
     show upd H2 D (.lst []) x = _
     rw [D5 fun w => by rw [w, hf2] at q; cases q]
     exact q
 obtain ⟨m, W, w0, turn⟩ := R D hf2
 have gg := hg _ _ _ _ _ hdc
 have ee := he _ _ _ _ _ hdc
 have fpc : ∀ {H' : Hp} {σ' : St} {s' : Shared} {pl : List (Addr × Obj)}, Inv (X.compF scope N F G.objs.size { s2 with heap := G } (upd H2 D (.lst [])) [it] (X.pn ++ pins)) pl σ' H' s' -> H' it = none -> (∀ p ∈ pl, p.1 ≠ it) -> A0j (X.compF scope N F G.objs.size { s2 with heap := G } (upd H2 D (.lst [])) [it] (X.pn ++ pins)) pl H' it := by
   intro H' σ' s' pl J' hn hp
   refine ⟨hn, Nat.ne_of_lt (Heap.lt_size eiG), ?_, .inl (List.mem_singleton.mpr rfl), (fun x c z => f2.2.2.2.2.1 x c (S.sub x c z)), fun p hpp => ?_⟩
   . intro z
     rcases List.mem_cons.mp (I.stkSub it z) with z | z
     . exact f2.2.1 z
     . exact f2.2.2.1 z
   . rcases List.mem_append.mp hpp with z | z
     . exact f2.2.2.2.2.2 p z
     . exact hp p z
 have loop : codeAny (model X.prog X.w) X.A (.compLoop (.ListComp elt [⟨target, iter, [], 0⟩] scope pos) 0 (.ref it) (.ref D) (compEnvC scope (A1q F X.env) G.objs.size X.env))
     (RR (.ref D) (compEnvC scope (A1q F X.env) G.objs.size X.env))
     { s2 with heap := h4, toks := s2.toks + ([] : List (Str × Value)).length } := by
   refine C5x (fun k s' => ∃ i ys H', k = m + 1 - i /\ Inv (X.compF scope N F G.objs.size { s2 with heap := G } (upd H2 D (.lst [])) [it] (X.pn ++ pins)) [] (List.replicate N.length none ++ A4p js σ) H' s' /\ tn i s'.heap /\ H' it = none /\ W i ys H') ?_ (m + 1)
     ⟨0, [], _, rfl, I4, T.keep _ _ _ st2 fun o e => kp it o (by rw [<- hG]; exact Heap.get?_push_of_some _ e), f3.1, w0⟩
   rintro k s5 ⟨i, ys, H5, rfl, I5, st5, n5, w5⟩
   obtain ⟨hi5, hD5, w5⟩ := turn i ys H5 w5
   rcases w5 with ⟨stop, q⟩ | ⟨lt5, go, step⟩
   . refine wpAny_mono (T.done (X.compF scope N F G.objs.size { s2 with heap := G } (upd H2 D (.lst [])) [it] (X.pn ++ pins)) rfl rfl rfl hdc i [] s5 _ H5 (fun _ _ => False) I5 (fpc I5 n5 (by simp)) st5 stop) (fun r s6 z => ?_) (fun _ _ z => z.elim)
     obtain ⟨rfl, I6⟩ := z
     obtain ⟨mm, hn6, _⟩ := I6.loc
     have B6 := I6.base
     have J6 : Inv X pins σ H5 s6 := by
       refine I3.call' (ch := [it]) I6.os ⟨B6.keep, B6.slot, B6.free, B6.there, B6.tups, B6.frzs, B6.tbls⟩ I6.hok I6.bare (fun b hb => ?_)
       have e : b = it := by simpa using hb
       subst e
       exact ⟨f2.2.2.2.1, f2.2.1, f2.2.2.2.2.1, f2.2.2.2.2.2⟩
     have szG : X.s₀.heap.objs.size <= G.objs.size := I3.sz
     refine hRR D G.objs.size s6 H5 mm J6 hn6 ⟨I6.free, ?_, ?_, .inr szG, ?_, ?_⟩ q
     . exact Nat.ne_of_gt I3.lt
     . intro z
       obtain ⟨_, o, ho, _⟩ := I3.funs.mem z
       exact Nat.lt_irrefl _ (Heap.lt_size ho)
     . rintro x c z rfl
       obtain ⟨v', o, ho, _⟩ := I3.cell x _ z
       exact Nat.lt_irrefl _ (Heap.lt_size ho)
     . rintro p hp z
       have zz := (I3.pin p hp).1
       rw [z] at zz
       exact Nat.lt_irrefl _ (Heap.lt_size zz)
   . refine wpAny_mono (T.item (X.compF scope N F G.objs.size { s2 with heap := G } (upd H2 D (.lst [])) [it] (X.pn ++ pins)) rfl rfl rfl hdc i [] s5 _ H5 (fun _ _ => False) I5 (fpc I5 n5 (by simp)) st5 go) (fun r s6 z => ?_) (fun _ _ z => z.elim)
     obtain ⟨u, rfl, z⟩ := z
     refine wpAny_mono z (fun _ s7 z => ?_) (fun _ _ z => z.elim)
     obtain ⟨x, I7, rx, yl, st7⟩ := z
     obtain ⟨o7, e7, d7⟩ := T.obj _ _ st7
     obtain ⟨p0, p1, p2, _⟩ := fpc I7 n5 (by simp)
     have I7' : Inv (X.compF scope N F G.objs.size { s2 with heap := G } (upd H2 D (.lst [])) [it] (X.pn ++ pins)) [(it, o7)] (List.replicate N.length none ++ A4p js σ) H5 s7 := I7.pins_of fun p hp => by
       have e : p = (it, o7) := by simpa using hp
       subst e
       exact ⟨e7, p0, p1, p2, d7⟩
     have back : ∀ {i' : Nat} {ys' : List V} {H' : Hp} {σ' : St} {s' : Shared}, i' = i + 1 -> Inv (X.compF scope N F G.objs.size { s2 with heap := G } (upd H2 D (.lst [])) [it] (X.pn ++ pins)) [(it, o7)] σ' H' s' -> W i' ys' H' ->
         ∃ k', k' < m + 1 - i /\ ∃ i ys H', k' = m + 1 - i /\ Inv (X.compF scope N F G.objs.size { s2 with heap := G } (upd H2 D (.lst [])) [it] (X.pn ++ pins)) [] (List.replicate N.length none ++ A4p js σ) H' s' /\ tn i s'.heap /\ H' it = none /\ W i ys H' := by
       rintro i' ys' H' σ' s' rfl J' w'
       obtain ⟨q1, q2, _⟩ := J'.pin (it, o7) (List.mem_append_right _ (List.mem_singleton.mpr rfl))
       refine ⟨m + 1 - (i + 1), by omega, i + 1, ys', H', rfl, D6b S I3 f3 J', T.keep _ _ _ st7 fun o z => ?_, q2, w'⟩
       rw [e7] at z
       cases z
       exact q1
     refine wpAny_mono (gg [(it, o7)] s7 _ H5 x u _ I7' rx (step x H5 yl)) (fun _ s8 z => ?_) (fun _ _ z => z.elim)
     obtain ⟨σ8, H8, I8, q8⟩ := z
     refine wpAny_mono (ee [(it, o7)] s8 σ8 H8 _ I8 q8) (fun y s10 z => ?_) (fun _ _ z => z.elim)
     obtain ⟨yv, H10, I10, ry, hD10, hz10, w10⟩ := z
     refine wpAny_mono (B2g (X := X.compF scope N F G.objs.size { s2 with heap := G } (upd H2 D (.lst [])) [it] (X.pn ++ pins)) [(it, o7)] s10 σ8 H10 (.ref D) [yv] (.ref D) [y] (fun _ H11 => W (i + 1) (ys ++ [yv]) H11) I10 rfl (.cons ry .nil) ⟨D, ys, yv, rfl, rfl, hD10, hz10, w10⟩) (fun _ s11 z => ?_) (fun _ _ z => z.elim)
     obtain ⟨_, H11, I11, _, w11⟩ := z
     exact back rfl I11 w11
 exact codeAny_compStart_list loop (T.self _ 0 _ _ _ (T.keep _ _ _ st2 fun o e => kp it o (by rw [<- hG]; exact Heap.get?_push_of_some _ e)) loop)
theorem Y2y {elt target iter : Expr} {c : Expr} {tc : TT} {pos : Pos} {wi : TI} {g : TG} {te : TE} (S : CompScopeF N F js scope X.N X.env) (hd : V7 X) (hi : PIH X target iter wi) (hex : X.ex = [])
   (hg : ∀ C s₀ H₀ ex pn, V7 (X.compF scope N F C s₀ H₀ ex pn) -> PG (X.compF scope N F C s₀ H₀ ex pn) target g)
   (hc : ∀ C s₀ H₀ ex pn, V7 (X.compF scope N F C s₀ H₀ ex pn) -> PT (X.compF scope N F C s₀ H₀ ex pn) c tc)
   (he : ∀ C s₀ H₀ ex pn, V7 (X.compF scope N F C s₀ H₀ ex pn) -> PE (X.compF scope N F C s₀ H₀ ex pn) elt te)
   (hs : ∀ x, foldedSetIterable iter X.env x = pure x := by intro _; rfl) : PE X (.ListComp elt [⟨target, iter, [c], 0⟩] scope pos) (J5x N.length js wi g tc te) := by
 intro pins s σ H Q I h
 rw [eval_ListComp]
 refine wpAny_comprehension_free (use := none) rfl hs S.clos S.kind S.loc (J5h S hd hi hex hg hc he I h (RR := fun acc ce r s' => compPost (model X.prog X.w) X.A X.xe none (EP X pins σ Q) acc ce.locals r s') ?_)
 intro D C s6 H5 mm I6 n6 f6 q
 exact ⟨mm, n6, fun h' sb => ⟨.ref D, H5, J0m I6 f6 sb, rfl, q⟩⟩
theorem V2e {elt target iter : Expr} {pos : Pos} {wi : TI} {g : TG} {te : TE} (S : CompScopeF N F js scope X.N X.env) (hd : V7 X) (hi : PIH X target iter wi) (hex : X.ex = [])
   (hg : ∀ C s₀ H₀ ex pn, V7 (X.compF scope N F C s₀ H₀ ex pn) -> PG (X.compF scope N F C s₀ H₀ ex pn) target g)
   (he : ∀ C s₀ H₀ ex pn, V7 (X.compF scope N F C s₀ H₀ ex pn) -> PE (X.compF scope N F C s₀ H₀ ex pn) elt te)
   (hs : ∀ x, foldedSetIterable iter X.env x = pure x := by intro _; rfl) : PE X (.ListComp elt [⟨target, iter, [], 0⟩] scope pos) (C5c N.length js wi g te) := by
 intro pins s σ H Q I h
 rw [eval_ListComp]
 refine wpAny_comprehension_free (use := none) rfl hs S.clos S.kind S.loc (G9v S hd hi hex hg he I h (RR := fun acc ce r s' => compPost (model X.prog X.w) X.A X.xe none (EP X pins σ Q) acc ce.locals r s') ?_)
 intro D C s6 H5 mm I6 n6 f6 q
 exact ⟨mm, n6, fun h' sb => ⟨.ref D, H5, J0m I6 f6 sb, rfl, q⟩⟩
end
structure CompS (N F : List Str) (sc : Scope) : Prop where
 kind : sc.kind = .function
 cell : ∀ y ∈ sc.names, y.2 ≠ .cell
 loc : ∀ y ∈ sc.names, y.2 = .local -> sc.names.lookup y.1 = some .local
 fr : ∀ y ∈ sc.names, y.2 = .free -> y.1 ∈ F
 nd : (N ++ F).Nodup
theorem J5s {sc : Scope} {env : Env} {F : List Str} (cell : ∀ y ∈ sc.names, y.2 ≠ .cell) (fr : ∀ y ∈ sc.names, y.2 = .free -> y.1 ∈ F) : ∀ y ∈ (relabel sc env).names, y.2 = .cell \/ y.2 = .free -> y.1 ∈ F := by
 intro y hy h
 obtain ⟨⟨n, k⟩, hm, e⟩ := List.mem_map.mp hy
 dsimp only at e
 split at e
 . rename_i hc
   subst e
   simp only [Bool.and_eq_true] at hc
   exact fr (n, k) hm (by simpa using hc.1.1)
 . subst e
   rcases h with h | h
   . exact absurd h (cell (n, k) hm)
   . exact fr (n, k) hm h
theorem CompScopeF.of1 {N : List Str} {x : Str} {j : Nat} {sc : Scope} {XN : List Str} {env : Env} (S : CompS N [x] sc) (clos : closureFor sc env = pure (A1q [x] env)) (hj : XN[j]? = some x) (hc : ∃ c, env.cells.lookup x = some c) (hk : env.kindOf x = some .cell)
   (hr : (relabel sc env).names.lookup x = some .cell) : CompScopeF N [x] [j] sc XN env :=
 ⟨S.kind, S.cell, S.loc, S.nd, clos, J5s S.cell S.fr, fun k y h => match k, h with
   | 0, h => by cases h; exact ⟨⟨j, rfl, hj⟩, hc, hk, hr⟩
   | k + 1, h => by simp at h, rfl⟩
theorem A5p (z : Str) : ∀ zs : List Str, inV (.str z) (zs.map V.str) = zs.contains z
 | [] => rfl
 | y :: zs => by
   show (eqV (.str y) (.str z) || inV (.str z) (zs.map V.str)) = _
   rw [A5p z zs, List.contains_cons]
   show ((y == z) || _) = _
   rw [BEq.comm]
theorem A0k : ∀ zs : List Str, (zs.map V.str).all B7k = true
 | [] => rfl
 | _ :: zs => A0k zs
theorem Y0g {K : Frag} {H : Hp} {σ σf : L2.St} {a : Addr} {zs : List Str} {f : Str -> Bool} {tc : TT} {te : TE} {Q : VK} (hl : ∀ H, SqT K H a (zs.map V.str)) (hz : zs.length <= 100)
   (ht : ∀ (z : Str) (H' : Hp) (Qb : Bool -> Hp -> Prop), Same H H' -> Qb (f z) H' -> tc (some (.str z) :: σf) H' Qb) (he : ∀ (z : Str) (H' : Hp) (Qv : VK), Qv (.str z) H' -> te (some (.str z) :: σf) H' Qv)
   (k : ∀ D H', Same H H' -> H D = none -> H' D = some (.lst ((zs.filter f).map V.str)) -> Q (.ref D) H') {js : List Nat} (hj : A4p js σ = σf) : J5x 1 js (iTup K (tC (.ref a))) (J0d 0) tc te σ H Q := by
 refine ⟨a, rfl, ⟨_, hl H⟩, fun D hD => ⟨zs.length, fun i ys H2 => i <= zs.length /\ ys = ((zs.take i).filter f).map V.str /\ H2 = upd H D (.lst ys), ⟨Nat.zero_le _, rfl, rfl⟩, ?_⟩⟩
 rintro i ys H2 ⟨hi, rfl, rfl⟩
 refine ⟨hi, A6, ?_⟩
 have sm : Same H (upd H D (.lst (((zs.take i).filter f).map V.str))) := Same.upd hD
 have lz : (((zs.take i).filter f).map V.str).length <= 100 := by
   rw [List.length_map]
   exact Nat.le_trans (List.length_filter_le _ _) (by rw [List.length_take]; omega)
 by_cases hlt : i < zs.length
 . refine .inr ⟨hlt, ⟨_, V.str zs[i], hl _, by simp [hlt]⟩, fun x H3 y => ?_⟩
   obtain ⟨rfl, y⟩ := y
   have ex : x = V.str zs[i] := by
     have := y _ (hl _)
     simp [hlt] at this
     exact this.symm
   subst ex
   rw [hj]
   show tc (some (.str zs[i]) :: σf) _ _
   refine ht _ _ _ sm ?_
   have et : (zs.take (i + 1)).filter f = (zs.take i).filter f ++ (if f zs[i] then [zs[i]] else []) := by
     rw [List.take_succ_eq_append_getElem hlt, List.filter_append]
     congr 1
     cases hb : f zs[i] <;> simp [hb]
   cases hb : f zs[i] with
   | false =>
     refine U0 ⟨hlt, ?_, rfl⟩
     rw [et, hb]; simp
   | true =>
     refine Y1 (he _ _ _ ⟨A6, Nat.lt_of_le_of_lt lz (A0g (by decide)), hlt, ?_, ?_⟩)
     . rw [et, hb]; simp
     . rw [A0at]
 . have e : i = zs.length := by omega
   subst e
   refine .inl ⟨⟨_, hl _, by simp⟩, k D _ sm hD ?_⟩
   rw [List.take_length]
   exact A6
end L2
namespace L2
open PySem
section
variable {prog : Program} {w : World} {A : Around} {E : Value -> Shared -> Prop} {h : Heap} {g : Array GenState} {d : Drawn} {t : Nat} {os : OsState}
variable {nm q : Str} {C N : Addr} {bs bm bmB : List Value} {hdct : Bool} {sn : List Str} {sub : List Value} {ab : Bool} {col : Option Bool} {dd : Option Addr} {k0 k1 k2 k3 k5 : Option Value} {B newId initId : String}
theorem B3h (F : ExcBaseFacts B newId initId bmB) (T : OwnTail h bmB bm) {mN : Str -> Option Value} {rest : List Value} {fI : Addr} {oI : Obj} {Q : Fin -> Shared -> Prop}
   (hC : h.get? C = some (excClassObj nm q C N bs bm hdct sn sub ab col dd k0 k1 k2 k3 k5 newId)) (hn : h.Ns N mN) (hi : mN "__init__" = some (.ref fI))
   (hfI : h.get? fI = some oI) (hfc : oI.cls = .type "function")
   (hq : ∀ h' e, Heap.MadeExcOf h h' e (.ref C) rest ->
     wpAny (model prog w) A (call (.ref fI) (.ref e :: rest)) (fun r s' => r = .none /\ Q (.done (.ret (.ref e))) s') E ⟨h', g, d, t, os⟩) (hrest : rest.length <= sizeLine) :
   wpAny (model prog w) A (Builtin.«type.__call__» ⟨.ref C :: rest, []⟩) Q E ⟨h, g, d, t, os⟩ := by
 repeat (first | with_reducible refine wpAny_loadPart_at hC ?_ | with_reducible refine wpAny_madeBy_exc hC ?_ | wp_step)
 refine codeAny_call_builtin_code (Code.quiet_builtin _ F.quiet) (wpAny_check_new_subT F T hC ?_)
 refine codeAny_exc_new_subT F T hC ?_ hrest
 show wpAny _ _ _ _ _ _
 have hC₁ := Heap.get?_push_of_some { cls := .ref C, data := .fields #[.ref h.objs.size, .none, .none, .none, .bool false, .none] }
   (Heap.get?_push_of_some { cls := .type "tuple", data := .seq rest.toArray } hC)
 have hfI₁ := Heap.get?_push_of_some { cls := .ref C, data := .fields #[.ref h.objs.size, .none, .none, .none, .bool false, .none] }
   (Heap.get?_push_of_some { cls := .type "tuple", data := .seq rest.toArray } hfI)
 have hn₁ : ((h.push { cls := .type "tuple", data := .seq rest.toArray }).push { cls := .ref C, data := .fields #[.ref h.objs.size, .none, .none, .none, .bool false, .none] }).Ns N mN :=
   let ⟨o, es, ep, e, r⟩ := hn; ⟨o, es, ep, Heap.get?_push_of_some _ (Heap.get?_push_of_some _ e), r⟩
 have hget : ((h.push { cls := .type "tuple", data := .seq rest.toArray }).push
     { cls := .ref C, data := .fields #[.ref h.objs.size, .none, .none, .none, .bool false, .none] }).get? (h.objs.size + 1) = some
     { cls := .ref C, data := .fields #[.ref h.objs.size, .none, .none, .none, .bool false, .none] } := by heap_get
 have hcC : (Value.ref C :: bm).contains (.ref C) = true := by simp
 have T₁ := T.keeps (h' := (h.push { cls := .type "tuple", data := .seq rest.toArray }).push { cls := .ref C, data := .fields #[.ref h.objs.size, .none, .none, .none, .bool false, .none] })
   fun b o e => Heap.get?_push_of_some _ (Heap.get?_push_of_some _ e)
 unfold isInstance
 repeat (first | with_reducible refine wpAny_loadPart_at hget ?_ | (with_reducible refine wpAny_isSubtype_exc hC₁ ?_; rw [hcC]) | wp_step)
 show wpAny _ _ (typeLookup (.ref C) _) _ _ _
 refine wpAny_typeLookup_tail hC₁ hn₁ T₁ F.mroIs F.init.lookup ?_
 rw [hi]
 refine wpAny_holding (wpAny_bind ?_)
 unfold bindSpecial
 refine wpAny_bind (wpAny_typeOf (T := "function") ⟨_, hfI₁, hfc⟩ ?_)
 rw [if_pos (by decide)]
 refine wpAny_pure (wpAny_bind (wpAny_mono (hq _ (h.objs.size + 1) ⟨fun b o hb => Heap.get?_push_of_some _ (Heap.get?_push_of_some _ hb), Heap.get?_none_of_le (Nat.le_succ _), h.objs.size, hget, Heap.get?_none_of_le (Nat.le_refl _), ?_⟩) (fun r s' hr => ?_) fun _ _ x => x))
 . exact Heap.get?_push_of_some _ (Heap.get?_push_at rfl rfl)
 . obtain ⟨rfl, hQ⟩ := hr
   wp_walk
   exact hQ
theorem C6j (F : ExcBaseFacts B newId initId bmB) (T : OwnTail h bmB bm) {mN : Str -> Option Value} {rest : List Value} {fI : Addr} {oI : Obj} {Q : Value -> Shared -> Prop}
   (hC : h.get? C = some (excClassObj nm q C N bs bm hdct sn sub ab col dd k0 k1 k2 k3 k5 newId)) (hn : h.Ns N mN) (hi : mN "__init__" = some (.ref fI))
   (hfI : h.get? fI = some oI) (hfc : oI.cls = .type "function")
   (hq : ∀ h' e, Heap.MadeExcOf h h' e (.ref C) rest ->
     wpAny (model prog w) (A.under (.builtin "type.__call__" ⟨.ref C :: rest, []⟩)) (call (.ref fI) (.ref e :: rest)) (fun r s' => r = .none /\ Q (.ref e) s') E ⟨h', g, d, t, os⟩) (hrest : rest.length <= sizeLine) :
   wpAny (model prog w) A (call (.ref C) rest) Q E ⟨h, g, d, t, os⟩ := by
 have f1 := tc_lookup
 have f2 := tc_bind (.ref C)
 have hT : (⟨h, g, d, t, os⟩ : Shared).TypeIs (.ref C) "type" := ⟨_, hC, rfl⟩
 refine wpAny_call (codeAny_of_tree ?_)
 show wpAny _ _ (callAny (.ref C) _) _ _ _
 repeat (any_goals (first | assumption | with_reducible refine wpAny_loadPart_at hC ?_ | wp_step))
 refine ⟨rfl, ?_⟩
 refine codeAny_call_builtin_at (Code.quiet_builtin _ (by decide +kernel)) entry_typeCall (wpAny_check_type_call_sub hC (B3h (hrest := hrest) F T hC hn hi hfI hfc fun h' e hm => ?_))
 exact hq h' e hm
end
section
variable {M : Model} {prog : Program} {w : World} {A : Around} {E : Value -> Shared -> Prop} {s : Shared} {env : Env}
variable {nm q : Str} {C N : Addr} {bs bm bmB : List Value} {hdct : Bool} {sn : List Str} {sub : List Value} {ab : Bool} {col : Option Bool} {dd : Option Addr} {k0 k1 k2 k3 k5 : Option Value} {B newId initId : String}
theorem A8s {x : Sem Value} {Q : Flow -> Shared -> Prop} (hbase : bm.contains (.type "BaseException") = true) (hh : A.handled = none)
   (h : wpAny M A x (fun v s₁ => ∃ e t de, v = .ref e /\ s₁.heap.get? C = some (excClassObj nm q C N bs bm hdct sn sub ab col dd k0 k1 k2 k3 k5 newId) /\
     s₁.heap.get? e = some { cls := .ref C, dict := de, data := .fields #[.ref t, .none, .none, .none, .bool false, .none] } /\ E (.ref e) s₁) E s) :
   wpAny M A (raiseStmt env (some x) none) Q E s := by
 have hcB : (Value.ref C :: bm).contains (.type "BaseException") = true := by rw [List.contains_cons, hbase, Bool.or_true]
 unfold raiseStmt
 refine wpAny_bind (wpAny_mono h (fun v s₁ h₁ => ?_) fun _ _ x => x)
 obtain ⟨e, t, de, rfl, hC, he, hE⟩ := h₁
 obtain ⟨hp, g, d, tk, os⟩ := s₁
 repeat (first | with_reducible refine wpAny_loadPart_at he ?_ | with_reducible refine wpAny_loadPart_at hC ?_ | (with_reducible refine wpAny_isSubtype_exc hC ?_; rw [hcB]) | wp_step)
 exact wpAny_raiseNew_none hh hE
theorem B8y (F : ExcBaseFacts B newId initId bmB) {mN : Str -> Option Value} {x : Str} {np cpos pos : Pos} {args : List Expr} {Q : Flow -> Shared -> Prop} {fI : Addr} {oI : Obj}
   (hbase : bm.contains (.type "BaseException") = true) (hh : A.handled = none) (hplain : (backTo cpos (starEach args env)).any (·.1) = false) (hi : mN "__init__" = some (.ref fI)) (hfc : oI.cls = .type "function")
   (h : wpAny (model prog w) A (eval (.Name x np) env) (fun f s₁ => f = .ref C /\ wpAny (model prog w) A (evalArgs (.ref C) true (backTo cpos (starEach args env)) [])
     (fun a s₂ => a.kw = [] /\ a.pos.length <= sizeLine /\ s₂.heap.get? C = some (excClassObj nm q C N bs bm hdct sn sub ab col dd k0 k1 k2 k3 k5 newId) /\ s₂.heap.Ns N mN /\ OwnTail s₂.heap bmB bm /\ s₂.heap.get? fI = some oI /\
       ∀ h' e, Heap.MadeExcOf s₂.heap h' e (.ref C) a.pos -> wpAny (model prog w) (A.under (.builtin "type.__call__" ⟨.ref C :: a.pos, []⟩)) (call (.ref fI) (.ref e :: a.pos))
         (fun r s₃ => r = .none /\ s₃.heap.get? C = some (excClassObj nm q C N bs bm hdct sn sub ab col dd k0 k1 k2 k3 k5 newId) /\ (∃ t de, s₃.heap.get? e = some { cls := .ref C, dict := de, data := .fields #[.ref t, .none, .none, .none, .bool false, .none] }) /\ E (.ref e) s₃) E { s₂ with heap := h' }) E s₁) E s) :
   wpAny (model prog w) A (exec (.Raise (some (.Call (.Name x np) args [] cpos)) none pos) env) Q E s := by
 rw [arm_exec_Raise]
 first
   | refine wpAny_bind (wpAny_standAt (A8s (C := C) (nm := nm) (q := q) (N := N) (bs := bs) (bm := bm) (hdct := hdct) (sn := sn) (sub := sub) (ab := ab) (col := col) (dd := dd) (k0 := k0) (k1 := k1) (k2 := k2) (k3 := k3) (k5 := k5) (newId := newId) hbase hh (wpAny_bind (wpAny_mono (wpAny_Call_ofName (wpAny_mono h (fun f s₁ h₁ => ?_) fun _ _ x => x)) (fun v s₃ h₃ => wpAny_bind (wpAny_standAt (wpAny_pure h₃))) fun _ _ x => x))))
   | (simp only [evalOpt, Option.map]; refine wpAny_bind (wpAny_standAt (A8s (C := C) (nm := nm) (q := q) (N := N) (bs := bs) (bm := bm) (hdct := hdct) (sn := sn) (sub := sub) (ab := ab) (col := col) (dd := dd) (k0 := k0) (k1 := k1) (k2 := k2) (k3 := k3) (k5 := k5) (newId := newId) hbase hh (wpAny_bind (wpAny_mono (wpAny_Call_ofName (wpAny_mono h (fun f s₁ h₁ => ?_) fun _ _ x => x)) (fun v s₃ h₃ => wpAny_bind (wpAny_standAt (wpAny_pure h₃))) fun _ _ x => x)))))
 obtain ⟨rfl, h₁⟩ := h₁
 unfold callWith
 refine wpAny_bind (wpAny_holding (wpAny_mono h₁ (fun a s₂ h₂ => wpAny_bind (wpAny_standAt ?_)) fun _ _ x => x))
 obtain ⟨apos, akw⟩ := a
 obtain ⟨hkw, hlen, hC, hn, T, hf, h₂⟩ := h₂
 obtain rfl : akw = [] := hkw
 obtain ⟨hp, g, d, tk, os⟩ := s₂
 simp only [hplain]
 refine wpAny_bind (wpAny_keeperOf_exc hC ?_)
 refine wpAny_bind (C6j F T hC hn hi hf hfc (fun h' e hm => wpAny_mono (h₂ h' e hm) (fun r s₃ z => ⟨z.1, wpAny_bind (wpAny_holding (wpAny_point (wpAny_pure ?_)))⟩) fun _ _ x => x) hlen)
 obtain ⟨_, hC3, ⟨t, de, he⟩, hE⟩ := z
 exact ⟨e, t, de, rfl, hC3, he, hE⟩
end
end L2
namespace L2
open PySem PySem.Spec PyProof.Rows PySem.W
abbrev V0d : List Value := [.type "ValueError", .type "Exception", .type "BaseException", .type "object"]
structure ExcI (K : Frag) (C fI : Addr) : Prop where
 cls : ∃ nm q N bs bm sn sub ab col dd k0 k1 k2 k3 k5, K.lookup C = some (excClassObj nm q C N bs bm true sn sub ab col dd k0 k1 k2 k3 k5 "ValueError.__new__") /\ nsOkIn K N = true /\ nsIn K N "__init__" = some (some (.ref fI)) /\ tailIn K V0d bm = true
 fn : ∃ o, K.lookup fI = some o /\ o.cls = .type "function"
 sa : findIn K (.ref C) "__setattr__" = some (some (.builtin "object.__setattr__"))
 ob : mroIn K C (.type "object") = some true
theorem J7a {K : Frag} {h : Heap} {N : Addr} {mg : Str -> Option Value} {n : Str} {v : Value} (X : K.In h) (G : h.Ns N mg) (e : nsIn K N n = some (some v)) : mg n = some v := by
 obtain ⟨o, es, ep, ho, hd, _, hf⟩ := G
 unfold nsIn at e
 split at e
 . rename_i c d es' n' sl q
   have := X _ _ q
   rw [ho] at this
   cases this
   cases hd
   split at e
   . rename_i en he
     cases e
     rw [<- hf]
     unfold nsFind findBy
     rw [<- Array.find?_toList, he]
     rfl
   . split at e <;> cases e
 . cases e
theorem C4k {h : Heap} (self : Value) : ∀ {l : List Value}, OwnTail h V0d l -> refuseLoop self "__setattr__" l = pure ()
 | _, .base => PySem.F.store_ValueError.passes self
 | _, .own _ _ _ t => by rw [refuseLoop_ref]; exact C4k self t
section
variable {prog : Program} {w : World} {A : Around} {s : Shared} {K : Frag} {C e fI : Addr} {t : Addr} {R : Result -> Shared -> Prop} {name : Str} {tk : Tok} {v : Value}
theorem A0bz (X : K.In s.heap) (F : ExcI K C fI) (he : s.heap.get? e = some (A1t (.ref C) t none .none)) (ht : findIn K (.ref C) name = some none)
   (h : ∀ h' tk' d, (∀ b ob, b ≠ e -> s.heap.get? b = some ob -> h'.get? b = some ob) -> h'.get? e = some (A1t (.ref C) t (some d) .none) -> h'.Ns1 d (fun y => if y = name then some v else none) -> s.heap.get? d = none -> d ≠ e ->
     R (.ok (.ret .none)) { s with heap := h', toks := tk' }) :
   codeAny (model prog w) A (.call (.builtin "object.__setattr__") ⟨[.ref e, .str name tk, v], []⟩) R s := by
 have SF := PySem.F.store_object
 obtain ⟨nm, q, N, bs, bm, sn, sub, ab, col, dd, k0, k1, k2, k3, k5, lC, nO, nI, tl⟩ := F.cls
 have hC := X _ _ lC
 have I : PySem.W.InstAt s.heap e (A1t (.ref C) t none .none) C none := ⟨he, rfl, rfl, trivial⟩
 have hc : clsIn K C = some { name := nm, bases := bs, mro := .ref C :: bm, ns := N, qualname := q, hasDict := true, slotNames := sn, subclasses := sub, abstract := ab, collection := col, hasDel := false } := by
   unfold clsIn
   rw [lC]
 have sub' : Looks (model prog w) s.heap (isInstance (.ref e) (.type "object")) true := I.type.andThen (looks_mroIn X F.ob)
 refine codeAny_call_builtin SF.slot.plain SF.entry (@check_slot (model prog w) _ _ s "object.__setattr__" "object" "__setattr__" (.ref e) [.str name tk, v] [] _ SF.kind SF.split sub' (SF.args (.ref e) (.str name tk) v) ?_)
 have hm : Looks (model prog w) s.heap (mroOf (.ref C)) (.ref C :: bm) := (looks_clsIn X hc).andThen .now
 have L3 : Looks (model prog w) s.heap (Builtin.ObjectAttr.storeTaker? none) none := .now
 rw [osa_eq, refuse_eq]
 refine wpAny_bind (wpAny_bind (I.type.here (wpAny_bind (hm.here ?_))))
 rw [refuseLoop_ref, C4k _ (tail_of_in X tl)]
 refine wpAny_pure (wpAny_bind (I.type.here (wpAny_bind ((looks_findIn X ht).here (wpAny_bind (L3.here ?_))))))
 dsimp only
 refine wpAny_bind (wpAny_pure (wpAny_bind (wpAny_bind (wpAny_loadPart he (wpAny_bind (PySem.W.Looks.here (PySem.W.looks_clsIn X hc) ?_))))))
 have hx₁ : (s.heap.push { cls := .type "dict", data := .dict #[] }).get? e = some (A1t (.ref C) t none .none) := Heap.get?_push_of_some _ he
 have hxs : e ≠ s.heap.objs.size := Nat.ne_of_lt (Heap.lt_size he)
 show wpAny (model prog w) A.in1 (do
     let d <- alloc { cls := Value.type "dict", data := Data.dict #[] }
     update e fun o => { cls := o.cls, dict := some d, data := o.data, slots := o.slots }
     pure (some d)) _ _ _
 refine wpAny_bind (wpAny_alloc' ?_)
 refine wpAny_bind (wpAny_update' hx₁ ?_)
 refine wpAny_pure ?_
 have hgd : ((s.heap.push { cls := .type "dict", data := .dict #[] }).update e fun o => { cls := o.cls, dict := some s.heap.objs.size, data := o.data, slots := o.slots }).get? s.heap.objs.size
     = some { cls := .type "dict", data := .dict #[] } :=
   (Heap.get?_update_ne _ _ _ _ hxs.symm).trans (Heap.get?_push_at rfl rfl)
 have hnd : ((s.heap.push { cls := .type "dict", data := .dict #[] }).update e fun o => { cls := o.cls, dict := some s.heap.objs.size, data := o.data, slots := o.slots }).Ns s.heap.objs.size (fun _ => none) :=
   ⟨_, #[], _, hgd, rfl, fun e he => absurd he (by simp), fun _ => rfl⟩
 show wpAny _ _ (Builtin.ObjectAttr.storeInDict s.heap.objs.size (.str name tk) name v) _ _ _
 unfold Builtin.ObjectAttr.storeInDict Builtin.ObjectAttr.newKeyGuard
 refine wpAny_bind (wpAny_pure (wpAny_bind (wpAny_nsSet1 (Heap.Ns1.of_empty hnd) fun h' hn' hs => ?_)))
 obtain ⟨oD, esD, epD, hoD, hdD, hcD⟩ := hn'.count (Within.cons name v Within.nil)
 refine wpAny_bind (wpAny_lookBehind hoD (by rw [hdD]; exact pastItsLine_dict (Nat.le_trans hcD (by rw [List.length_cons, List.length_nil, sizeLine_eq]; omega))) ?_)
 have hx' : h'.get? e = some (A1t (.ref C) t (some s.heap.objs.size) .none) := (hs.2 e hxs).trans (Heap.get?_update_self _ hx₁ rfl)
 refine wpAny_pure (h h' _ s.heap.objs.size (fun b ob hbx hb => ?_) hx' hn' (Heap.get?_none_of_le (Nat.le_refl _)) hxs.symm)
 exact (hs.2 b (Nat.ne_of_lt (Heap.lt_size hb))).trans ((Heap.get?_update_ne _ _ _ _ hbx).trans (Heap.get?_push_of_some _ hb))
end
def A3h (e C t : Addr) (d : Option Addr) : Heap -> Prop := fun h => h.get? e = some (A1t (.ref C) t d .none)
theorem Y0f {P : Program} {w : World} {H : Hp} {h : Heap} {e C t : Addr} {d : Option Addr} (q : h.get? e = some (A1t (.ref C) t d .none)) : ObjOk P w H h e (.ext (A3h e C t d)) :=
 ⟨q, ⟨_, q⟩, fun _ _ z k => k _ z⟩
section
variable {X : Cx} {pins : List (Addr × Obj)} {σ : St} {H : Hp} {s : Shared}
theorem Inv.trackO {a : Addr} {ho : HO} (I : Inv X pins σ H s) (n : Nw X pins H a) (ok : ObjOk X.prog X.w (upd H a ho) s.heap a ho) : Inv X pins σ (upd H a ho) s := by
 have ne : ∀ b u, H b = some u -> b ≠ a := fun b u z q => by rw [q, n.un] at z; cases z
 have up : ∀ b, b ≠ a -> upd H a ho b = H b := fun b hb => D5 hb
 refine ⟨I.ok, I.os, I.bare, ⟨I.base.keep, I.base.slot, fun b u z m hx => ?_, I.base.there, fun b xs z => ?_, fun b u v z => ?_, fun b ps z => ?_⟩, I.loc, I.cell, ?_, fun x c z => ?_, fun p hp => ?_, fun b u z => ?_, I.len⟩
 . rw [up b fun q => by rw [q, n.old] at z; cases z]
   exact I.base.free b u z m hx
 . have := I.base.tups b xs z
   rw [up b (ne b _ this)]; exact this
 . have := I.base.frzs b u v z
   rw [up b (ne b _ this)]; exact this
 . obtain ⟨more, this⟩ := I.base.tbls b ps z
   exact ⟨more, by rw [up b (ne b _ this)]; exact this⟩
 . rw [up _ (Ne.symm n.loc)]; exact I.free
 . rw [up _ (n.cell x c z)]; exact I.freeC x c z
 . obtain ⟨q1, q2, q3⟩ := I.pin p hp
   exact ⟨q1, by rw [up _ (n.pin p hp)]; exact q2, q3⟩
 . by_cases hb : b = a
   . subst hb
     rw [A6] at z
     cases z
     exact ok
   . rw [up b hb] at z
     exact (I.hok b u z).stay (fun _ _ _ q => q) (fun c q => by rw [up c (ne c _ q)]; exact q) (fun c xs q => by rw [up c (ne c _ q)]; exact q)
def rem (H : Hp) (a : Addr) : Hp := fun b => if b = a then none else H b
theorem C5n {a : Addr} : rem H a a = none := by unfold rem; rw [if_pos rfl]
theorem A5k {a b : Addr} (h : b ≠ a) : rem H a b = H b := by unfold rem; rw [if_neg h]
theorem Inv.forget {a : Addr} {φ : Heap -> Prop} (I : Inv X pins σ H s) (e : H a = some (.ext φ)) : Inv X pins σ (rem H a) s := by
 have ne : ∀ b u, H b = some u -> (∀ φ, u ≠ .ext φ) -> b ≠ a := fun b u z q w => by rw [w, e] at z; cases z; exact q _ rfl
 have non : ∀ b, H b = none -> rem H a b = none := fun b z => by
   by_cases q : b = a
   . rw [q]; exact C5n
   . rw [A5k q]; exact z
 refine ⟨I.ok, I.os, I.bare, ⟨I.base.keep, I.base.slot, fun b u z m hx => non b (I.base.free b u z m hx), I.base.there, fun b xs z => ?_, fun b u v z => ?_, fun b ps z => ?_⟩, I.loc, I.cell, non _ I.free, fun x c z => non _ (I.freeC x c z), fun p hp => ?_, fun b u z => ?_, I.len⟩
 . have := I.base.tups b xs z
   rw [A5k (ne b _ this (fun _ q => nomatch q))]; exact this
 . have := I.base.frzs b u v z
   rw [A5k (ne b _ this (fun _ q => nomatch q))]; exact this
 . obtain ⟨more, this⟩ := I.base.tbls b ps z
   exact ⟨more, by rw [A5k (ne b _ this (fun _ q => nomatch q))]; exact this⟩
 . obtain ⟨q1, q2, q3⟩ := I.pin p hp
   exact ⟨q1, non _ q2, q3⟩
 . have hb : b ≠ a := fun q => by rw [q, C5n] at z; cases z
   rw [A5k hb] at z
   exact (I.hok b u z).stay (fun _ _ _ q => q) (fun c q => by rw [A5k (ne c _ q (fun _ w => nomatch w))]; exact q) (fun c xs q => by rw [A5k (ne c _ q (fun _ w => nomatch w))]; exact q)
end
def A0qj (C : Addr) (ta tv : TE) (f : Str) : TS := fun D σ H => tv σ H fun y H1 => ta σ H1 fun x H2 => ∃ e t, x = .ref e /\ H2 e = some (.ext (A3h e C t none)) /\
 ∀ d, H2 d = none -> d ≠ e -> D.nx σ (upd (upd H2 e (.ext (A3h e C t (some d)))) d (.xd [(f, y)]))
section
variable {X : Cx} {o value : Expr} {f : Str} {pos pos' : Pos} {ta tv : TE} {C fI : Addr}
theorem A0ax (F : ExcI X.K C fI) (hf : findIn X.K (.ref C) f = some none) (ha : PE X o ta) (hv : PE X value tv) (hs : swapsWith value (some (.Attribute o f pos')) pos.line X.env = pure false) (hex : X.ex = [] := by rfl) :
   PS X (.Assign [.Attribute o f pos'] value pos) (A0qj C ta tv f) := by
 intro pins s σ H D I h
 refine plainObj_wpAny_Assign_Attribute (thn (hv pins s σ H _ I h) fun u s1 ⟨y, H1, I1, ry, q⟩ => thn (ha pins s1 σ H1 _ I1 q) fun ov s2 ⟨x, H2, I2, rx, e, t, ex, ea, q2⟩ => ?_) hs
 subst ex
 obtain rfl : ov = Value.ref e := rx
 have he : s2.heap.get? e = some (A1t (.ref C) t none .none) := (I2.hok e _ ea).1
 refine set_plain I2.kIn (⟨he, rfl, rfl, trivial⟩ : PySem.W.InstAt s2.heap e (A1t (.ref C) t none .none) C none) F.sa (A0bz (s := { s2 with toks := s2.toks + 1 }) I2.kIn F he hf fun h' tk' d k1 k2 k3 k4 k5 => ?_)
 have nd : H2 d = none := I2.hok.new k4
 have I3 : Inv X pins σ (upd H2 e (.ext (A3h e C t (some d)))) { s2 with heap := h', toks := tk' } :=
   I2.write (x := e) (e := e) (by rw [ea]; exact trivial) (.inl rfl) (fun b u hb z => k1 b u hb z) ⟨_, k2⟩ (Y0f k2)
 have nw : Nw X pins (upd H2 e (.ext (A3h e C t (some d)))) d := I2.nw hex k4 (by rw [D5 k5]; exact nd)
 refine ⟨σ, _, I3.trackO (ho := .xd [(f, y)]) nw ⟨_, k3, fun g => ?_⟩, q2 d nd k5⟩
 show RelO (List.lookup g [(f, y)]) (if g = f then some u else none)
 by_cases z : g = f
 . rw [if_pos z, z]
   have : List.lookup f [(f, y)] = some y := by simp [List.lookup]
   rw [this]; exact ry
 . rw [if_neg z]
   have : List.lookup g [(f, y)] = none := by
     have hb : (g == f) = false := beq_eq_false_iff_ne.mpr z
     simp [List.lookup, hb]
   rw [this]; exact trivial
end
def D7z (C : Addr) (f : Str) : Sp := fun vs H Q _ => ∃ e t v, vs = [.ref e, v] /\ H e = some (.ext (A3h e C t none)) /\ ∀ d, H d = none -> d ≠ e -> Q .non (upd (upd H e (.ext (A3h e C t (some d)))) d (.xd [(f, v)]))
def A0ar (C : Addr) (f : Str) (EH : EK) (t : TA) : TS := fun _ σ H => t σ H fun vs H1 => ∃ v, vs = [v] /\ ∀ d H2, Same H1 H2 -> H1 d = none -> H2 d = some (.xd [(f, v)]) -> EH (.ref C) (some d) σ H2
section
variable {X : Cx} {x f : Str} {p cpos pos : Pos} {e : Expr} {t : TA} {C fI : Addr} {fdI : FuncData} {ps : List Str} {EH : EK} {j k : Nat}
theorem V2q (hm : X.mg x = some (.ref C)) (F : ExcI X.K C fI) (G : FnOk X.prog X.w X.K X.mg X.base CX0 j fI fdI ps (D7z C f)) (bI : Binds X.K fdI ps []) (hr : Room k X.A) (hx : J4 X EH) (ha : PA X [e] t) (hj : j + 1 <= k := by decide) (hg : Gl X x := by rfl) (hex : X.ex = [] := by rfl)
   (hdb : (x == ("__debug__" : Str)) = false := by decide) (he : starEach [e] X.env = (false, eval e X.env) :: starEach [] X.env := by rfl) (hpl : (backTo cpos (starEach [] X.env)).any (·.1) = false := by rfl) :
   PS X (.Raise (some (.Call (.Name x p) [e] [] cpos)) none pos) (A0ar C f EH t) := by
 intro pins s σ H D I h
 obtain ⟨nm, q, N, bs, bm, sn, sub, ab, col, dd, k0, k1, k2, k3, k5, lC, nO, nI, tl⟩ := F.cls
 obtain ⟨oI, lI, cI⟩ := F.fn
 have T0 : OwnTail X.base V0d bm := tail_of_in I.ok.mod.kin tl
 have hN0 : X.base.Ns N (X.base.nsMap N) := .of_isNs (isNs_of_in I.ok.mod.kin nO)
 have hi0 : X.base.nsMap N "__init__" = some (.ref fI) := J7a I.ok.mod.kin hN0 nI
 refine B8y (C := C) (nm := nm) (q := q) (N := N) (bs := bs) (bm := bm) (hdct := true) (sn := sn) (sub := sub) (ab := ab) (col := col) (dd := dd) (k0 := k0) (k1 := k1) (k2 := k2) (k3 := k3) (k5 := k5) (oI := oI) PySem.F.excBase_ValueError (mN := X.base.nsMap N) (T0.hasType PySem.F.excBase_ValueError.hasBase) hr.hd
   (by rw [he]; show (false || (backTo cpos (starEach [] X.env)).any (·.1)) = false; rw [hpl]; rfl) hi0 cI (A1z I hg hm ⟨rfl, ?_⟩ hdb)
 have ha' := ha cpos pins s σ H _ I h
 rw [he] at ha' ⊢
 refine Calls.evalArgs_plain (wpAny_mono ha' (fun us s2 ⟨vs, H1, I1, r, v, ev, z⟩ => ?_) fun _ _ y => y)
 subst ev
 obtain ⟨u, rfl, ru⟩ := r.one
 refine ⟨rfl, D3 (by show 1 <= 1000; decide), I1.kIn _ _ lC, hN0.keeps I1.bk, T0.keeps I1.bk, I1.kIn _ _ lI, fun h' a m => ?_⟩
 obtain ⟨t', e1, tn, e2⟩ := m.there
 have I2 : Inv X pins σ H1 { s2 with heap := h' } := I1.kept (t' := s2.toks) m.keeps
 have na : H1 a = none := I1.hok.new m.new
 have I3 := I2.trackO (ho := .ext (A3h a C t' none)) (I1.nw hex m.new na) (Y0f e1)
 have sp0 : D7z C f [.ref a, v] (upd H1 a (.ext (A3h a C t' none))) (fun v0 H' => v0 = .non /\ ∃ d, H1 d = none /\ d ≠ a /\ H' = upd (upd (upd H1 a (.ext (A3h a C t' none))) a (.ext (A3h a C t' (some d)))) d (.xd [(f, v)])) E0 :=
   ⟨a, t', v, rfl, A6, fun d nd nda => ⟨rfl, d, by rw [D5 nda] at nd; exact nd, nda, rfl⟩⟩
 have rr : Vals [.ref a, v] [.ref a, u] := .cons rfl (.cons ru .nil)
 have hl : ([Value.ref a, u] ++ []).length = ps.length := by
   have := G.len _ _ _ _ sp0
   rw [<- this]; rfl
 refine wpAny_call (codeAny_mono (G.run _ X.stack _ _ ⟨[.ref a, u], []⟩ ([.ref a, u] ++ []) [.ref a, v] _ E0 ((hr.mono hj).make C [u] []) (I3.env0.make C [u] []) (bI _ [.ref a, u] I3.kIn hl) rr sp0) fun r s' hq => ?_)
 cases r with
 | error e => exact hq.elim
 | ok fl =>
   cases fl with
   | ret u0 =>
     obtain ⟨v0, H', I4, rv, ev, d, nd, nda, eH⟩ := I3.after hq
     subst ev eH
     have ea : (upd (upd (upd H1 a (.ext (A3h a C t' none))) a (.ext (A3h a C t' (some d)))) d (.xd [(f, v)])) a = some (.ext (A3h a C t' (some d))) := by
       rw [D5 (Ne.symm nda), A6]
     have g1 : s'.heap.get? a = some (A1t (.ref C) t' (some d) .none) := (I4.hok a _ ea).1
     refine ⟨rv, I4.kIn _ _ lC, ⟨t', some d, g1⟩, ?_⟩
     refine hx pins σ _ s' a t' (.ref C) (some d) (I4.forget ea) ⟨I1.nw hex m.new C5n, .none, g1, .inl rfl, fun T z => nomatch z⟩ (z d _ (fun b ob q => ?_) nd ?_)
     . have nb : b ≠ a := G2 q na
       have nbd : b ≠ d := G2 q nd
       rw [A5k nb, D5 nbd, D5 nb, D5 nb]
       exact q
     . rw [A5k nda, A6]
   | next => exact hq.elim
   | brk => exact hq.elim
   | cont => exact hq.elim
end
section
variable {X : Cx} {e : Expr} {f : Str} {pos : Pos} {ta : TE}
end
section
variable {X : Cx}
end
section
variable {X : Cx}
def A0rw : V -> List V -> Hp -> VK -> Prop := fun x vs H Q => ∃ i, x = .int i /\ vs = [] /\ Q (.int ((Builtin.Int.intBits i : Nat) : Int)) H
theorem D1w : MtR X "int.bit_length" A0rw := by
 intro pins s σ H x xs v us Q I rx rs h
 obtain ⟨i, rfl, rfl, q⟩ := h
 obtain ⟨t, rfl⟩ := rx
 cases rs
 exact call_int_bit_length ⟨.int _, H, I.tok _, ⟨_, rfl⟩, q⟩
end
section
variable {X : Cx} {a b : Expr} {rest : List Expr} {pos : Pos} {ta tb : TE}
end
section
variable {X : Cx} {j k : Nat} {f C : Addr} {fd : FuncData} {ps : List Str} {sp : Sp} {dvs : List V} {ds : List Value} {x m : Str} {p pos apos : Pos} {e o : Expr} {es : List Expr} {ta : TE} {t : TA} {st : Stmt}
theorem A0bx {pins : List (Addr × Obj)} {σ : St} {H : Hp} {s : Shared} {Q : VK} {us : List Value} {vs : List V} (F : FnOk X.prog X.w X.K X.mg X.base (CX1 X.prog X.w) k f fd ps sp) (hr : Room k X.A) (hb : Binds X.K fd ps ds) (hd : Vals dvs ds)
   (I : Inv X pins σ H s) (r : Vals vs us) (h : sp (vs ++ dvs) H Q (fun C d H' => EKF C d σ H')) : wpAny (model X.prog X.w) X.A (call (.ref f) us) (EP X pins σ Q) X.xe s := by
 have r2 : Vals (vs ++ dvs) (us ++ ds) := r.append hd
 have hl : (us ++ ds).length = ps.length := by rw [<- r2.length]; exact F.len _ _ _ _ h
 refine wpAny_call (codeAny_mono (F.run X.A X.stack s H ⟨us, []⟩ (us ++ ds) (vs ++ dvs) Q _ hr I.env0 (hb s us I.kIn hl) r2 h) fun r s' hq => ?_)
 cases r with
 | error e =>
   obtain ⟨a, t, C, dd, H', _, _, _, _, _, hE, _⟩ := hq
   exact False.elim hE
 | ok fl =>
   cases fl with
   | ret u => exact I.after hq
   | next => exact False.elim hq
   | brk => exact False.elim hq
   | cont => exact False.elim hq
theorem D7v (D : Def X.K X.mg x ps st f fd) (F : FnOk X.prog X.w X.K X.mg X.base (CX1 X.prog X.w) j f fd ps sp) (hr : Room k X.A) (ha : PA X (e :: es) t) (hj : j <= k := by decide) (hg : Gl X x := by rfl) (hdb : (x == ("__debug__" : Str)) = false := by decide)
   (he : starEach (e :: es) X.env = (false, eval e X.env) :: starEach es X.env := by rfl) (hpl : (backTo pos (starEach es X.env)).any (·.1) = false := by rfl) : PE X (.Call (.Name x p) (e :: es) [] pos) (C6z sp [] EKF t) := by
 intro pins s σ H Q I h
 refine wpAny_Call_Name_kw (A1z I hg D.g ?_ hdb)
 refine PySem.W.callWith_K (h₀ := X.base) I.ok.mod.kin D.F.kp (thn (ha pos pins s σ H _ I h) fun us s1 ⟨vs, H1, I1, r, q⟩ => ⟨I1.kIn, ?_⟩) he hpl
 exact A0bx (F.mono hj) hr D.b .nil I1 r q
end
section
variable {X : Cx} {N F : List Str} {js : List Nat} {scope : Scope}
theorem V3p {pins : List (Addr × Obj)} {σ : St} {H : Hp} {s : Shared} {fp : List Addr} {h' : Heap} (S : CompScopeF N F js scope X.N X.env) (I : Inv X pins σ H s) (hf : ∀ b ∈ fp, A0j X pins H b) (hit : ∀ b ∈ fp, ∃ o, s.heap.get? b = some o) (hnb : ∀ b ∈ fp, X.base.get? b = none)
   (hns : h'.Ns s.heap.objs.size (fun _ => none)) (hsb : ∀ b o, s.heap.get? b = some o -> h'.get? b = some o) {tk : Nat} :
   Inv (X.compF scope N F s.heap.objs.size s H fp (X.pn ++ pins)) [] (List.replicate N.length none ++ A4p js σ) H { s with heap := h', toks := tk } := by
 have ck : ∀ c v, s.heap.IsCell c v -> h'.IsCell c v := fun c v ⟨o, e, d⟩ => ⟨o, hsb _ _ e, d⟩
 have inF : ∀ x, ((compEnvC scope (A1q F X.env) s.heap.objs.size X.env).kindOf x = some .cell \/ (compEnvC scope (A1q F X.env) s.heap.objs.size X.env).kindOf x = some .free) -> x ∈ F := by
   intro x z
   have z : (relabel scope X.env).names.lookup x = some .cell \/ (relabel scope X.env).names.lookup x = some .free := z
   rcases z with z | z
   . exact S.fr _ (PySem.mem_of_lookup z) (.inl rfl)
   . exact S.fr _ (PySem.mem_of_lookup z) (.inr rfl)
 refine ⟨⟨I.ok.mod, S.kind, I.ok.glob, I.ok.blt, Nat.le_refl _, fun x y c z z' => I.ok.inj x y c (S.sub x c z) (S.sub y c z'), fun x z => ?_, fun x c z _ => (nomatch z), I.ok.hd, I.ok.frames, .inl rfl, fun b hb => ?_, I.bs, Nat.le_trans I.ok.bsz I.sz, fun b o e hb => ?_, fun b hb hfs => ?_, I.stack, I.stkFree⟩,
   rfl, I.bare, Un.kept hsb, ⟨_, hns, fun i x v e1 e2 e3 => B2e S I (fun x c v _ z => ck c v z) i x v e1 e2⟩, fun x c z => ?_, I.hok.fresh (Nat.le_refl _), fun x c z => I.freeC x c (S.sub x c z), fun p hp => ?_, I.hok.kept hsb, D8n S σ⟩
 . obtain ⟨c, h1, _⟩ := S.has (inF x z)
   exact ⟨c, h1⟩
 . obtain ⟨oi, ei⟩ := hit b hb
   exact ⟨Nat.ne_of_lt (Heap.lt_size ei), fun x c z => (hf b hb).2.2.2.2.1 x c (S.sub x c z)⟩
 . rw [hnb b hb] at e
   cases e
 . rcases List.mem_cons.mp (I.stkSub b hfs) with z | z
   . exact (hf b hb).2.1 z
   . exact (hf b hb).2.2.1 z
 . obtain ⟨v, z'⟩ := I.cell x c (S.sub x c z)
   exact ⟨v, ck c v z'⟩
 . have hp' : p ∈ X.pn ++ pins := by simpa using hp
   obtain ⟨q1, q2, q3, q4, q5⟩ := I.pin p hp'
   refine ⟨hsb _ _ q1, q2, Nat.ne_of_lt (Heap.lt_size q1), fun z => ?_, q5⟩
   rcases List.mem_cons.mp (I.stkSub p.1 z) with z | z
   . exact q3 z
   . exact q4 z
theorem J5w {pins pl : List (Addr × Obj)} {σ σ' : St} {H H' : Hp} {s s' : Shared} {fp : List Addr} (S : CompScopeF N F js scope X.N X.env) (I : Inv X pins σ H s) (hf : ∀ b ∈ fp, A0j X pins H b) (J : Inv (X.compF scope N F s.heap.objs.size s H fp (X.pn ++ pins)) pl σ' H' s') :
   Inv (X.compF scope N F s.heap.objs.size s H fp (X.pn ++ pins)) [] (List.replicate N.length none ++ A4p js σ) H' s' := by
 obtain ⟨m, hn, _⟩ := J.loc
 refine ⟨J.ok, J.os, J.bare, J.base, ⟨m, hn, fun i x v e1 e2 e3 => B2e S I (fun x c v z q => ?_) i x v e1 e2⟩, J.cell, J.free, J.freeC, fun p hp => J.pin p (by
   have hp : p ∈ (X.pn ++ pins) ++ [] := hp
   rw [List.append_nil] at hp
   exact List.mem_append_left _ hp), J.hok, D8n S σ⟩
 obtain ⟨o, e, d⟩ := q
 have ne : c ∉ fp := fun w => (hf c w).2.2.2.2.1 x c z rfl
 obtain ⟨sl, q⟩ := J.base.any e (I.freeC x c z) ne
 exact ⟨_, q, d⟩
theorem G9f {elt target iter : Expr} {scope : Scope} {pos : Pos} {N F : List Str} {js : List Nat} {wi : TI} {g : TG} {te : TE} (S : CompScopeF N F js scope X.N X.env) (hd : V7 X) (hc0 : X.calm = true) (hi : PI X target iter wi) (hex : X.ex = [])
   (hg : ∀ C s₀ H₀ ex pn, V7 (X.compF scope N F C s₀ H₀ ex pn) -> PG (X.compF scope N F C s₀ H₀ ex pn) target g)
   (he : ∀ C s₀ H₀ ex pn, V7 (X.compF scope N F C s₀ H₀ ex pn) -> PE (X.compF scope N F C s₀ H₀ ex pn) elt te)
   {pins : List (Addr × Obj)} {s : Shared} {σ : St} {H : Hp} {Q : VK} {RR : Value -> Env -> Result -> Shared -> Prop} (I : Inv X pins σ H s) (h : (C5c N.length js wi g te) σ H Q)
   (hRR : ∀ (D C : Addr) (s6 : Shared) (H5 : Hp) (mm : Str -> Option Value), Inv X pins σ H5 s6 -> s6.heap.Ns C mm -> A0j X pins H5 C -> Q (.ref D) H5 -> RR (.ref D) (compEnvC scope (A1q F X.env) C X.env) (.ok .next) s6) :
   wpAny (model X.prog X.w) X.A (eval iter X.env) (fun v s1 => wpAny (model X.prog X.w) X.A (pyIter v) (fun itv s2 => wpAny (model X.prog X.w) X.A (newList []) (fun acc s3 => wpAny (model X.prog X.w) X.A (newFunctionEnv scope X.env.globals (A1q F X.env) [] X.env.qual none .none (some X.env)) (fun cenv s4 =>
     codeAny (model X.prog X.w) X.A (.compStart (.ListComp elt [⟨target, iter, [], 0⟩] scope pos) 0 itv acc { cenv with scope := relabel scope X.env }) (RR acc { cenv with scope := relabel scope X.env }) s4) X.xe s3) X.xe s2) X.xe s1) X.xe s := by
 refine thn (hi pins s σ H _ I h) fun v s1 h1 => thn h1 fun itv s2 h2 => ?_
 obtain ⟨it, fp, tn, J, H2, rfl, I2, T, st2, f2, R⟩ := h2
 have ob2 := T.obj _ _ st2
 have hf2 := I2.hok.fresh (Nat.le_refl _)
 refine wpAny_newObj_type ?_
 have I3 : Inv X pins σ (upd H2 s2.heap.objs.size (.lst [])) { s2 with heap := s2.heap.push { cls := .type "list", dict := none, data := .seq ([] : List Value).toArray } } := Inv.lnew (t' := s2.toks) I2 .nil (Nat.zero_le _)
 refine wpAny_newFunctionEnv S.cell (by intro y hy; simp at hy) (fun h4 hns hsb => ?_) S.kind
 dsimp only at hns hsb ⊢
 generalize hG : s2.heap.push { cls := .type "list", dict := none, data := .seq ([] : List Value).toArray } = G at I3 hns hsb ⊢
 generalize hD : s2.heap.objs.size = D at I3 hf2
 have nD : ∀ b ∈ fp, b ≠ D := fun b hb => by
   obtain ⟨o, eo, _⟩ := ob2 b hb
   rw [<- hD]; exact Nat.ne_of_lt (Heap.lt_size eo)
 have eiG : ∀ b ∈ fp, ∃ o, G.get? b = some o := fun b hb => by
   obtain ⟨o, eo, _⟩ := ob2 b hb
   exact ⟨o, by rw [<- hG]; exact Heap.get?_push_of_some _ eo⟩
 have kp : ∀ b o, G.get? b = some o -> h4.get? b = some o := fun b o e => hsb.extBut b o (Nat.ne_of_lt (Heap.lt_size e)) (Heap.get?_push_of_some _ e)
 have f3 : ∀ b ∈ fp, A0j X pins (upd H2 D (.lst [])) b := fun b hb => ⟨by rw [D5 (nD b hb)]; exact (f2 b hb).1, (f2 b hb).2⟩
 have nb : ∀ b ∈ fp, X.base.get? b = none := fun b hb => by
   cases q : X.base.get? b with
   | none => rfl
   | some o =>
     have := (I.ok.bs b o q).1
     rcases (f2 b hb).2.2.2.1 with z | z
     . rw [hex] at z; simp at z
     . exact absurd (Nat.lt_of_lt_of_le (Heap.lt_size this) z) (Nat.lt_irrefl _)
 have hns' : h4.Ns G.objs.size (fun _ => none) := by
   obtain ⟨o, es, ep, q1, q2, q3, q4⟩ := hns
   exact ⟨o, es, ep, q1, q2, q3, fun x => by rw [q4]; rfl⟩
 have I4 := V3p (tk := s2.toks + ([] : List (Str × Value)).length) S I3 f3 eiG nb hns' kp
 have hdc : V7 (X.compF scope N F G.objs.size { s2 with heap := G } (upd H2 D (.lst [])) fp (X.pn ++ pins)) := by
   rcases hd with z | ⟨x, o, u, vs, z, e, d, n⟩
   . exact .inl z
   . refine .inr ⟨x, o, u, vs, z, ?_, d, n⟩
     have q := I2.base.frzs x o u e
     show upd H2 D (.lst []) x = _
     rw [D5 fun w => by rw [w, hf2] at q; cases q]
     exact q
 obtain ⟨m, W, w0, turn⟩ := R D hf2
 have gg := hg _ _ _ _ _ hdc
 have ee := he _ _ _ _ _ hdc
 have fpc : ∀ {H' : Hp} {σ' : St} {s' : Shared} {pl : List (Addr × Obj)}, Inv (X.compF scope N F G.objs.size { s2 with heap := G } (upd H2 D (.lst [])) fp (X.pn ++ pins)) pl σ' H' s' -> (∀ b ∈ fp, H' b = none) -> (∀ b ∈ fp, ∀ p ∈ pl, p.1 ≠ b) -> ∀ b ∈ fp, A0j (X.compF scope N F G.objs.size { s2 with heap := G } (upd H2 D (.lst [])) fp (X.pn ++ pins)) pl H' b := by
   intro H' σ' s' pl J' hn hp b hb
   obtain ⟨oi, ei⟩ := eiG b hb
   refine ⟨hn b hb, Nat.ne_of_lt (Heap.lt_size ei), ?_, .inl hb, (fun x c z => (f2 b hb).2.2.2.2.1 x c (S.sub x c z)), fun p hpp => ?_⟩
   . intro z
     rcases List.mem_cons.mp (I.stkSub b z) with z | z
     . exact (f2 b hb).2.1 z
     . exact (f2 b hb).2.2.1 z
   . rcases List.mem_append.mp hpp with z | z
     . exact (f2 b hb).2.2.2.2.2 p z
     . exact hp b hb p z
 have loop : codeAny (model X.prog X.w) X.A (.compLoop (.ListComp elt [⟨target, iter, [], 0⟩] scope pos) 0 (.ref it) (.ref D) (compEnvC scope (A1q F X.env) G.objs.size X.env))
     (RR (.ref D) (compEnvC scope (A1q F X.env) G.objs.size X.env))
     { s2 with heap := h4, toks := s2.toks + ([] : List (Str × Value)).length } := by
   refine C5x (fun k s' => ∃ i ys H', k = m + 1 - i /\ Inv (X.compF scope N F G.objs.size { s2 with heap := G } (upd H2 D (.lst [])) fp (X.pn ++ pins)) [] (List.replicate N.length none ++ A4p js σ) H' s' /\ tn i s'.heap /\ (∀ b ∈ fp, H' b = none) /\ W i ys H') ?_ (m + 1)
     ⟨0, [], _, rfl, I4, T.keep _ _ _ st2 fun b hb o e => kp b o (by rw [<- hG]; exact Heap.get?_push_of_some _ e), fun b hb => (f3 b hb).1, w0⟩
   rintro k s5 ⟨i, ys, H5, rfl, I5, st5, n5, w5⟩
   obtain ⟨hi5, hD5, w5⟩ := turn i ys H5 w5
   rcases w5 with ⟨stop, q⟩ | ⟨lt5, go, step⟩
   . refine wpAny_mono (T.done (X.compF scope N F G.objs.size { s2 with heap := G } (upd H2 D (.lst [])) fp (X.pn ++ pins)) rfl rfl rfl hc0 i [] s5 _ H5 (fun _ _ => False) I5 (fpc I5 n5 (by simp)) st5 stop) (fun r s6 z => ?_) (fun _ _ z => z.elim)
     obtain ⟨rfl, I6⟩ := z
     obtain ⟨mm, hn6, _⟩ := I6.loc
     have B6 := I6.base
     have J6 : Inv X pins σ H5 s6 := by
       refine I3.call' (ch := fp) I6.os ⟨B6.keep, B6.slot, B6.free, B6.there, B6.tups, B6.frzs, B6.tbls⟩ I6.hok I6.bare (fun b hb => ⟨(f2 b hb).2.2.2.1, (f2 b hb).2.1, (f2 b hb).2.2.2.2.1, (f2 b hb).2.2.2.2.2⟩)
     have szG : X.s₀.heap.objs.size <= G.objs.size := I3.sz
     refine hRR D G.objs.size s6 H5 mm J6 hn6 ⟨I6.free, ?_, ?_, .inr szG, ?_, ?_⟩ q
     . exact Nat.ne_of_gt I3.lt
     . intro z
       obtain ⟨_, o, ho, _⟩ := I3.funs.mem z
       exact Nat.lt_irrefl _ (Heap.lt_size ho)
     . rintro x c z rfl
       obtain ⟨v', o, ho, _⟩ := I3.cell x _ z
       exact Nat.lt_irrefl _ (Heap.lt_size ho)
     . rintro p hp z
       have zz := (I3.pin p hp).1
       rw [z] at zz
       exact Nat.lt_irrefl _ (Heap.lt_size zz)
   . refine wpAny_mono (T.item (X.compF scope N F G.objs.size { s2 with heap := G } (upd H2 D (.lst [])) fp (X.pn ++ pins)) rfl rfl rfl hc0 i [] s5 _ H5 (fun _ _ => False) I5 (fpc I5 n5 (by simp)) st5 go) (fun r s6 z => ?_) (fun _ _ z => z.elim)
     obtain ⟨u, rfl, z⟩ := z
     refine wpAny_mono z (fun _ s7 z => ?_) (fun _ _ z => z.elim)
     obtain ⟨x, H7, I7, rx, yl, st7, fr7⟩ := z
     have ob7 := T.obj _ _ st7
     have I7' : Inv (X.compF scope N F G.objs.size { s2 with heap := G } (upd H2 D (.lst [])) fp (X.pn ++ pins)) (A6a fp s7.heap) (List.replicate N.length none ++ A4p js σ) H7 s7 := I7.pinned (fpc I7 fr7 (by simp)) ob7
     have back : ∀ {i' : Nat} {ys' : List V} {H' : Hp} {σ' : St} {s' : Shared}, i' = i + 1 -> Inv (X.compF scope N F G.objs.size { s2 with heap := G } (upd H2 D (.lst [])) fp (X.pn ++ pins)) (A6a fp s7.heap) σ' H' s' -> W i' ys' H' ->
         ∃ k', k' < m + 1 - i /\ ∃ i ys H', k' = m + 1 - i /\ Inv (X.compF scope N F G.objs.size { s2 with heap := G } (upd H2 D (.lst [])) fp (X.pn ++ pins)) [] (List.replicate N.length none ++ A4p js σ) H' s' /\ tn i s'.heap /\ (∀ b ∈ fp, H' b = none) /\ W i ys H' := by
       rintro i' ys' H' σ' s' rfl J' w'
       refine ⟨m + 1 - (i + 1), by omega, i + 1, ys', H', rfl, J5w S I3 f3 J', T.keep _ _ _ st7 fun b hb o z => (J'.pin (b, o) (List.mem_append_right _ (A6c hb z))).1, fun b hb => ?_, w'⟩
       obtain ⟨o, eo, _⟩ := ob7 b hb
       exact (J'.pin (b, o) (List.mem_append_right _ (A6c hb eo))).2.1
     refine wpAny_mono (gg (A6a fp s7.heap) s7 _ H7 x u _ I7' rx (step x H7 yl)) (fun _ s8 z => ?_) (fun _ _ z => z.elim)
     obtain ⟨σ8, H8, I8, q8⟩ := z
     refine wpAny_mono (ee (A6a fp s7.heap) s8 σ8 H8 _ I8 q8) (fun y s10 z => ?_) (fun _ _ z => z.elim)
     obtain ⟨yv, H10, I10, ry, hD10, hz10, w10⟩ := z
     refine wpAny_mono (B2g (X := X.compF scope N F G.objs.size { s2 with heap := G } (upd H2 D (.lst [])) fp (X.pn ++ pins)) (A6a fp s7.heap) s10 σ8 H10 (.ref D) [yv] (.ref D) [y] (fun _ H11 => W (i + 1) (ys ++ [yv]) H11) I10 rfl (.cons ry .nil) ⟨D, ys, yv, rfl, rfl, hD10, hz10, w10⟩) (fun _ s11 z => ?_) (fun _ _ z => z.elim)
     obtain ⟨_, H11, I11, _, w11⟩ := z
     exact back rfl I11 w11
 exact codeAny_compStart_list loop (T.self _ 0 _ _ _ (T.keep _ _ _ st2 fun b hb o e => kp b o (by rw [<- hG]; exact Heap.get?_push_of_some _ e)) loop)
theorem V2z {i : Nat} {y : Str} {py spos : Pos} {elt target iter : Expr} {pos : Pos} {wi : TI} {g : TG} {te : TE} (S : CompScopeF N F js scope X.N X.env) (hd : V7 X) (hc0 : X.calm = true) (hi : PI X target iter wi) (hex : X.ex = [])
   (hg : ∀ C s₀ H₀ ex pn, V7 (X.compF scope N F C s₀ H₀ ex pn) -> PG (X.compF scope N F C s₀ H₀ ex pn) target g)
   (he : ∀ C s₀ H₀ ex pn, V7 (X.compF scope N F C s₀ H₀ ex pn) -> PE (X.compF scope N F C s₀ H₀ ex pn) elt te) (hN : X.N.Nodup) (hi' : X.N[i]? = some y) (hy : Loc X.env.scope y)
   (hf : X.fn y = true \/ X.env.scope.names.lookup y = some .local := by first | exact .inl rfl | exact .inr rfl | assumption)
   (hsw : swapsWith (.ListComp elt [⟨target, iter, [], 0⟩] scope pos) (some (.Name y py)) spos.line X.env = pure true := by rfl)
   (hs : ∀ x, foldedSetIterable iter X.env x = pure x := by intro _; rfl) : PS X (.Assign [.Name y py] (.ListComp elt [⟨target, iter, [], 0⟩] scope pos) spos) (tAsg (C5c N.length js wi g te) (J0d i)) := by
 intro pins s σ H D I h
 rw [exec_Assign_Name_used _ _ _ _ hsw]
 refine wpAny_bind (wpAny_standAt (wpAny_bind ?_))
 show wpAny _ X.A (do let _ <- comprehension (.ListComp elt [⟨target, iter, [], 0⟩] scope pos) scope X.env _ (newList []) false (eval iter X.env) (some (assign (.Name y py) X.env))) _ _ s
 refine wpAny_bind (wpAny_mono (wpAny_comprehension_free (Q := fun _ s' => SP X pins D .next s') rfl hs S.clos S.kind S.loc (G9f S hd hc0 hi hex hg he I h (RR := fun acc ce r s' => compPost (model X.prog X.w) X.A X.xe (some (assign (.Name y py) X.env)) (fun _ s' => SP X pins D .next s') acc ce.locals r s') ?_))
   (fun _ s' hq => wpAny_pure (wpAny_pure hq)) fun _ _ e => e)
 intro D' C s6 H5 mm I6 n6 f6 q
 refine wpAny_assign_Name (B8u (v := .ref D') I6 hN hi' hy rfl (fun s7 I7 st => ?_) hf)
 obtain ⟨a, sb, ha⟩ := st
 have na : C ≠ a := by
   rcases ha with rfl | ha
   . exact f6.2.1
   . exact (f6.2.2.2.2.1 y a ha).symm
 exact ⟨mm, n6.sameBut sb na, fun h' sb' => ⟨_, _, J0m I7 f6 sb', q⟩⟩
end
section
variable {X : Cx} {pins : List (Addr × Obj)} {σ : St} {H : Hp} {s : Shared} {h' : Heap}
end
section
variable {X : Cx} {es : List Expr} {k : Nat} {tp : Pos}
end
def Exc1 (D : Addr) (H H' : Hp) : Prop := ∀ b o, H b = some o -> b ≠ D -> H' b = some o
theorem A4t {J : It} {g : TG} {te : TE} {σ0 : St} {H1 : Hp} {QD : Addr -> Hp -> Prop} {n : Nat} (R : Nat -> V -> Hp -> Prop) (hn : n <= 1000)
   (mono : ∀ i y H' H'' D l, R i y H' -> H' D = some (.lst l) -> Exc1 D H' H'' -> R i y H'')
   (step : ∀ i H2 Qy, i < n -> Same H1 H2 -> (∀ y H6, Same H2 H6 -> R i y H6 -> Qy y H6) -> J.go i H2 /\ ∀ x H3, J.yld i H2 x H3 -> g x σ0 H3 fun σ4 H4 => te σ4 H4 Qy)
   (stop : ∀ H2, Same H1 H2 -> J.stop n H2)
   (k : ∀ D H' ys, Same H1 H' -> H1 D = none -> H' D = some (.lst ys) -> ys.length = n -> (∀ i y, ys[i]? = some y -> R i y H') -> QD D H') : ∀ D, H1 D = none ->
   ∃ (m : Nat) (W : Nat -> List V -> Hp -> Prop), W 0 [] (upd H1 D (.lst [])) /\ ∀ i ys H2, W i ys H2 -> i <= m /\ H2 D = some (.lst ys) /\ ((J.stop i H2 /\ QD D H2) \/ (i < m /\ J.go i H2 /\ ∀ x H3, J.yld i H2 x H3 ->
     g x σ0 H3 fun σ4 H4 => te σ4 H4 fun y H6 => H6 D = some (.lst ys) /\ ys.length < sizeLine /\ W (i + 1) (ys ++ [y]) (upd H6 D (.lst (ys ++ [y]))))) := by
 intro D hD
 refine ⟨n, fun i ys H2 => i <= n /\ ys.length = i /\ H2 D = some (.lst ys) /\ Same H1 H2 /\ ∀ j y, ys[j]? = some y -> R j y H2, ⟨Nat.zero_le _, rfl, A6, Same.upd hD, fun j y h => by simp at h⟩, ?_⟩
 rintro i ys H2 ⟨hi, hl, hd, sm, hR⟩
 refine ⟨hi, hd, ?_⟩
 by_cases hlt : i < n
 . refine .inr ⟨hlt, step i H2 _ hlt sm fun y H6 s6 r6 => ?_⟩
   have d6 : H6 D = some (.lst ys) := s6 _ _ hd
   have ex : Exc1 D H6 (upd H6 D (.lst (ys ++ [y]))) := fun b o e hb => by rw [D5 hb]; exact e
   refine ⟨d6, Nat.lt_of_le_of_lt (by omega : ys.length <= 1000) (A0g (Nat.le_refl _)), hlt, by simp [hl], A6, fun b o e => ?_, fun j z hj => ?_⟩
   . rw [D5 (G2 e hD)]
     exact s6 _ _ (sm _ _ e)
   . by_cases hj' : j < ys.length
     . rw [List.getElem?_append_left hj'] at hj
       exact mono j z H6 _ D ys (mono j z H2 H6 D ys (hR j z hj) hd fun b o e _ => s6 _ _ e) d6 ex
     . rw [List.getElem?_append_right (by omega)] at hj
       have e0 : j - ys.length = 0 := by
         apply Classical.byContradiction
         intro q
         rw [List.getElem?_eq_none (by simp; omega)] at hj
         cases hj
       rw [e0] at hj
       have ej : j = i := by omega
       subst ej
       cases hj
       exact mono _ _ H6 _ D ys r6 d6 ex
 . have e : i = n := by omega
   subst e
   exact .inl ⟨stop H2 sm, k D H2 ys sm hD hd hl hR⟩
open AutoSeq1 (wpAny_loadPart')
section
variable {prog : Program} {w : World} {A : Around} {E : Value -> Shared -> Prop} {s : Shared}
end
section
variable {X : Cx} {es : List Expr} {k : Nat} {tp : Pos}
end
end L2
namespace L2
open PySem PySem.Spec PyProof.Rows PySem.W
section
variable {X : Cx}
theorem D8b : A4n X (.builtin "divmod") (fun xs H Q => ∃ i j : Int, xs = [.int i, .int j] /\ (0 < j /\ j.natAbs.log2 < 9000) /\ ∀ p, H p = none -> Q (.ref p) (upd H p (.tup [.int (i / j), .int (i % j)]))) := by
 intro pins s σ H xs us Q I r h
 obtain ⟨i, j, rfl, ⟨h1, h2⟩, q⟩ := h
 obtain ⟨u, w', rfl, ⟨t, rfl⟩, ⟨t', rfl⟩⟩ := Y0s r
 refine divmod_int (by omega) ?_ (.inl (PyProof.noPylong_of_log2 h2))
 rw [Int.fdiv_eq_ediv_of_nonneg i (by omega), Int.fmod_eq_emod_of_nonneg i (by omega)]
 refine ⟨.ref s.heap.objs.size, upd H s.heap.objs.size (.tup [.int (i / j), .int (i % j)]), I.laid (fun b o e => Heap.get?_push_of_some _ e) (Nat.le_refl _) ⟨D3 (by show 2 <= 1000; decide), [.int (i / j) s.toks, .int (i % j) (s.toks + 1)], .cons ⟨_, rfl⟩ (.cons ⟨_, rfl⟩ .nil), ⟨_, Heap.get?_push_size s.heap rfl, rfl, 0, rfl⟩⟩, rfl, q _ (I.hok.fresh (Nat.le_refl _))⟩
end
end L2
namespace L2
open PySem PySem.W PyProof.Rows
section
variable {X : Cx} {o e : Expr} {ta : TE} {m : Str} {apos pos : Pos} {j k : Nat} {ps : List Str} {ι : Type} {cw f : ι -> Addr} {fd : ι -> FuncData} {sp : ι -> Sp} {EH : EK}
end
section
variable {X : Cx} {a b e o : Expr} {es : List Expr} {ta tb te to : TE} {t : TA} {pos : Pos} {st : Stmt} {rest : List Stmt} {ts u : TS}
end
end L2
namespace L2
open PySem PySem.Spec PyProof.Rows PySem.W
section
variable {X : Cx} {x f : Str} {p cpos pos : Pos} {e : Expr} {t : TA} {C fI : Addr} {fdI : FuncData} {ps : List Str} {j k : Nat}
end
section
variable {X : Cx} {x y : Str} {e : Expr} {t : TE} {p q : Pos} {pos pos2 : Pos}
end
end L2
namespace L2
open PySem PySem.Spec PyProof.Rows
end L2
namespace L2
open PySem PySem.Spec PyProof.Rows PySem.W
mutual
inductive RdR (H : Hp) : V -> PyData -> Prop where
 | non : RdR H .non .none
 | bl (b : Bool) : RdR H (.bl b) (.bool b)
 | int (i : Int) : RdR H (.int i) (.int i)
 | str (x : Str) : RdR H (.str x) (.str x)
 | tup {a : Addr} {xs : List V} {ds : List PyData} (h : H a = some (.tup xs)) (r : RdRs H xs ds) : RdR H (.ref a) (.tuple ds)
 | lst {a : Addr} {xs : List V} {ds : List PyData} (h : H a = some (.lst xs)) (n : a ≠ sysModules) (r : RdRs H xs ds) : RdR H (.ref a) (.list ds)
 | dct0 {a : Addr} (h : H a = some (.dK [])) : RdR H (.ref a) (.dict [])
 | dct1 {a : Addr} {z : Str} {b : Bool} (h : H a = some (.dK [(.inr z, .bl b)])) : RdR H (.ref a) (.dict [(.str z, .bool b)])
inductive RdRs (H : Hp) : List V -> List PyData -> Prop where
 | nil : RdRs H [] []
 | cons {x : V} {xs : List V} {d : PyData} {ds : List PyData} (h : RdR H x d) (r : RdRs H xs ds) : RdRs H (x :: xs) (d :: ds)
end
mutual
theorem RdR.same {H H' : Hp} (s : ∀ b o, H b = some o -> H' b = some o) : ∀ {x : V} {d : PyData}, RdR H x d -> RdR H' x d
 | _, _, .non => .non
 | _, _, .bl b => .bl b
 | _, _, .int i => .int i
 | _, _, .str x => .str x
 | _, _, .tup h r => .tup (s _ _ h) (RdRs.same s r)
 | _, _, .lst h n r => .lst (s _ _ h) n (RdRs.same s r)
 | _, _, .dct0 h => .dct0 (s _ _ h)
 | _, _, .dct1 h => .dct1 (s _ _ h)
theorem RdRs.same {H H' : Hp} (s : ∀ b o, H b = some o -> H' b = some o) : ∀ {x : List V} {d : List PyData}, RdRs H x d -> RdRs H' x d
 | _, _, .nil => .nil
 | _, _, .cons h r => .cons (RdR.same s h) (RdRs.same s r)
end
section
variable {X : Cx}
mutual
theorem RdR.reads {pins : List (Addr × Obj)} {σ : St} {H : Hp} {s : Shared} (I : Inv X pins σ H s) : ∀ {x : V} {d : PyData} {u : Value}, RdR H x d -> RelV x u -> ∃ as, Reads s.heap u d as /\ sysModules ∉ as
 | _, _, _, .non, r => by cases r; exact ⟨_, .none, by simp⟩
 | _, _, _, .bl b, r => by cases r; exact ⟨_, .bool b, by simp⟩
 | _, _, _, .int i, r => by obtain ⟨t, rfl⟩ := r; exact ⟨_, .int i t, by simp⟩
 | _, _, _, .str x, r => by obtain ⟨t, rfl⟩ := r; exact ⟨_, .str x t, by simp⟩
 | _, _, _, .tup h q, r => by
   cases r
   obtain ⟨_, its, rv, o, e, c, n, d⟩ := I.hok _ _ h
   obtain ⟨as, z, y⟩ := RdRs.reads I q rv
   exact ⟨_, .tuple e c d (by simpa using z), y⟩
 | _, _, _, .lst (a := a) h nn q, r => by
   cases r
   obtain ⟨_, its, n, rv, e⟩ := I.hok _ _ h
   obtain ⟨as, z, y⟩ := RdRs.reads I q rv
   refine ⟨_, .list e rfl rfl (by simpa using z), fun hm => ?_⟩
   rcases List.mem_cons.mp hm with hm | hm
   . exact nn hm.symm
   . exact y hm
 | _, _, _, .dct0 (a := a) h, r => by
   cases r
   obtain ⟨_, nS, vs, kv, o, es, ep, e, c, d, _, ps, _⟩ := I.hok _ _ h
   cases kv
   cases hp : es.toList with
   | cons _ _ => rw [hp] at ps; cases ps
   | nil =>
     refine ⟨_, .dict (kvs := []) e c.1 d (by rw [hp]; exact .nil) (by rw [hp]; exact .nil), fun hm => ?_⟩
     exact beq_eq_false_iff_ne.mp nS (by simpa using hm : sysModules = a).symm
 | _, _, _, .dct1 (a := a) (z := z) (b := b) h, r => by
   cases r
   obtain ⟨_, nS, vs, kv, o, es, ep, e, c, d, _, ps, _⟩ := I.hok _ _ h
   cases kv with
   | cons k1 k2 =>
     cases k2
     obtain ⟨k1a, k1b⟩ := k1
     cases ps' : es.toList with
     | nil => rw [ps'] at ps; cases ps
     | cons en rest =>
       rw [ps'] at ps
       cases ps with
       | cons p1 p2 p3 =>
         cases p3
         have hk : ∃ t, en.key = .str z t := by
           rw [<- k1a] at p1
           have p1 : Value.isStrOf z en.key = true := p1
           cases hk : en.key <;> rw [hk] at p1 <;> simp [Value.isStrOf] at p1
           subst p1
           exact ⟨_, rfl⟩
         obtain ⟨t, hk⟩ := hk
         have hv : en.val = .bool b := p2.trans k1b
         refine ⟨_, .dict (kvs := [(.str z, .bool b)]) e c.1 d (by rw [ps']; show ReadsAll s.heap [en.key] [.str z] _; rw [hk]; exact .cons (.str z t) .nil) (by rw [ps']; show ReadsAll s.heap [en.val] [.bool b] _; rw [hv]; exact .cons (.bool b) .nil), fun hm => ?_⟩
         exact beq_eq_false_iff_ne.mp nS (by simpa using hm : sysModules = a).symm
theorem RdRs.reads {pins : List (Addr × Obj)} {σ : St} {H : Hp} {s : Shared} (I : Inv X pins σ H s) : ∀ {xs : List V} {ds : List PyData} {us : List Value}, RdRs H xs ds -> Vals xs us -> ∃ as, ReadsAll s.heap us ds as /\ sysModules ∉ as
 | _, _, _, .nil, r => by cases r; exact ⟨_, .nil, by simp⟩
 | _, _, _, .cons h q, r => by
   cases r with
   | cons r1 r2 =>
     obtain ⟨as, z, n1⟩ := RdR.reads I h r1
     obtain ⟨bs, y, n2⟩ := RdRs.reads I q r2
     exact ⟨_, .cons z y, by simp [n1, n2]⟩
end
end
section
variable {X : Cx} {j k : Nat} {f C : Addr} {fd : FuncData} {ps : List Str} {sp : Sp} {dvs : List V} {ds : List Value} {x m : Str} {p pos apos : Pos} {e o : Expr} {es : List Expr} {ta : TE} {t : TA} {st : Stmt}
end
section
variable {cs : List Addr} {H H' H2 : Hp} {b : Addr} {P : Program} {w : World} {h h' : Heap} {fs : List Addr}
end
section
variable {X : Cx} {j k : Nat} {f : Addr} {fd : FuncData} {ps : List Str} {sp : Sp} {ds : List Value} {EH : EK} {x : Str} {p pos : Pos} {e : Expr} {es : List Expr} {t : TA} {st : Stmt}
end
section
variable {X : Cx}
end
section
variable {X : Cx} {tg : Expr}
end
section
variable {X : Cx}
theorem A0bn {e : Expr} : PE X e (fun _ _ _ => False) := fun _ _ _ _ _ _ h => h.elim
end
section
variable {prog : Program} {w : World} {A : Around} {E : Value -> Shared -> Prop} {s : Shared}
theorem D5w {it t : Addr} {items : Array Value} (hne : t ≠ it) : ∀ (n i : Nat) (s : Shared) (Q : List Value -> Shared -> Prop), s.heap.IsListIter it t i -> s.heap.IsList t items -> i + n <= items.size ->
   (∀ h', h'.IsListIter it t (i + n) -> Heap.SameBut it s.heap h' -> Q ((items.toList.drop i).take n) { s with heap := h' }) -> wpAny (model prog w) A (draw (.ref it) n) Q E s
 | 0, i, s, Q, hit, _, _, hQ => by
   show wpAny _ _ (pure []) Q E s
   exact wpAny_pure (by simpa using hQ s.heap hit (Heap.SameBut.refl ..))
 | n + 1, i, s, Q, hit, ht, hle, hQ => by
   have hlt : i < items.size := by omega
   show wpAny _ _ (pyNext (.ref it) >>= _) Q E s
   refine wpAny_bind (wpAny_pyNext_list_item hit ht (x := items[i]) (by simp [hlt]) fun h₁ hit₁ hs₁ => ?_)
   refine wpAny_bind (wpAny_holding (D5w hne n (i + 1) _ _ hit₁ (ht.extBut hs₁.extBut hne) (by omega) fun h₂ hit₂ hs₂ => wpAny_pure ?_))
   have hd : items.toList.drop i = items[i] :: items.toList.drop (i + 1) := by simp [List.drop_eq_getElem_cons, hlt]
   have := hQ h₂ (by rw [show i + (n + 1) = i + 1 + n by omega]; exact hit₂) (hs₁.trans hs₂)
   rw [hd, List.take_succ_cons] at this
   exact this
theorem B8h {t : Addr} {items : Array Value} {Q : List Value -> Shared -> Prop} (hh : A.handled = none) (ht : s.heap.IsList t items)
   (hQ : ∀ h', Heap.ExtBut s.heap.objs.size s.heap h' -> Q items.toList { s with heap := h' }) : wpAny (model prog w) A (unpackItems (.ref t) items.size none) Q E s := by
 have hlt : t ≠ s.heap.objs.size := by obtain ⟨o, ho, _⟩ := ht; exact Nat.ne_of_lt (Heap.lt_size ho)
 unfold unpackItems
 refine wpAny_bind ?_
 . unfold notIterableAtAll
   refine wpAny_bind (wpAny_specialOf ht.typeIs PySem.F.slot_list_iter.lookup ?_)
   refine wpAny_pure ?_
   simp only [Bool.false_eq_true, if_false]
   refine wpAny_bind (wpAny_holding (wpAny_pyIter_list ht ?_))
   refine wpAny_bind (wpAny_holding (D5w hlt items.size 0 _ _ ⟨_, Heap.get?_push_size _ rfl, rfl, rfl⟩ (ht.push _) (by omega) fun h₁ hit₁ hs₁ => ?_))
   have hall : List.take items.size (List.drop 0 items.toList) = items.toList := by
     rw [List.drop_zero]; exact List.take_of_length_le (by simp)
   rw [hall]
   rw [if_neg (by simp)]
   have ht₁ : h₁.IsList t items := (ht.push _).extBut hs₁.extBut hlt
   refine wpAny_bind (wpAny_holding (wpAny_pyNext_list_end hh hit₁ ht₁ (by simp) fun h₂ he₂ => ?_))
   simp only [Option.isSome_none, Bool.false_eq_true, if_false]
   refine wpAny_pure (hQ h₂ fun b o hb e => he₂ b o hb (hs₁.extBut b o hb (Heap.get?_push_of_some _ e)))
theorem B7f {env : Env} {elts : List Expr} {x1} {pos : Pos} {t : Addr} {items : Array Value} {Q : Unit -> Shared -> Prop} (hh : A.handled = none) (ht : s.heap.IsList t items)
   (hn : (assignEach elts env).length = items.size) (hstar : (assignEach elts env).findIdx? (·.1) = none)
   (h : ∀ h', Heap.ExtBut s.heap.objs.size s.heap h' -> wpAny (model prog w) A (assignInOrder ((assignEach elts env).map (·.2)) items.toList) Q E { s with heap := h' }) :
   wpAny (model prog w) A (assign (.Tuple elts x1 pos) env (.ref t)) Q E s := by
 rw [assign_Tuple]
 refine wpAny_bind (wpAny_standAt ?_)
 unfold unpack
 rw [hn, hstar]
 exact wpAny_bind (wpAny_holding (B8h hh ht h))
end
section
variable {X : Cx} {pos : Pos}
def gLst (K : PySem.W.Frag) (n : Nat) (t : TGs) : TG := fun v σ H Q => ∃ a xs, v = .ref a /\ SqL K H a xs /\ xs.length = n /\ t xs σ H Q
theorem Y2j {es : List Expr} {k : Nat} {t : TGs} {n : Nat} (hc : X.calm = true) (h : PGs X es t)
   (hn : (assignEach es X.env).length = n := by rfl) (hst : (assignEach es X.env).findIdx? (·.1) = none := by rfl) : PG X (.Tuple es k pos) (gLst X.K n t) := by
 intro pins s σ H v u Q I r hw
 obtain ⟨a, xs, e1, hq, hl, hw⟩ := hw
 subst e1
 cases r
 obtain ⟨its, rv, ht, hz⟩ := I.list hq
 refine B7f (I.ok.hd hc) ht.isList (by simp [hn, <- hl, rv.length]) hst fun h' hx => ?_
 have I1 : Inv X pins σ H { s with heap := h' } := I.kept (t' := s.toks) fun b o e => hx b o (Nat.ne_of_lt (Heap.lt_size e)) e
 exact h pins _ σ H xs _ Q I1 (by simpa using rv) hw
end
end L2
namespace TR
open PySem L2 PySem.W PyProof.Rows
seal PE PS PSs PA PT PW PG PGs PI
def top (i : Nat) : Stmt := PySem.Challenge.pw_tenreckon_k34_whole_sums_exactly.main.body.getD i (.Pass ⟨0, 0, 0, 0⟩)
abbrev C6t : Stmt := (top 27)
section
variable {P : Program} {w : World} {K : Frag} {mg : Str -> Option Value} {base : Heap}
def A0qx (K : Frag) : Sp := fun vs H Q _ => ∃ v lo hi, vs = [v, .int lo, .int hi] /\ ((B3r lo hi v /\ Q (.bl true) H) \/ (D1v K H lo hi v /\ Q (.bl false) H))
theorem A0qp : FnScope ["thing", "least", "most"] ["thing", "least", "most"] (A1 C6t) := scK
theorem J6c {f : Addr} {fd : FuncData} (D : Def K mg "is_between" ["thing", "least", "most"] C6t f fd) (O : Own mg) (T : Kit K) : FnOk P w K mg base (CX1 P w) 1 f fd ["thing", "least", "most"] (A0qx K) := by
 refine FnOk.up (D.F.ok A0qp (fun vs H Q E h => ?_) (fun cdv A outer s H vs Q E hr h => ?_))
 . obtain ⟨v, lo, hi, rfl, _⟩ := h
   rfl
 . obtain ⟨v, lo, hi, rfl, h⟩ := h
   refine ⟨_, (A3 (D6 (PW.pt (G9h (A5m (U4 (V3z O.isi (pv 0) (pty O.int_ boot_int)))) (C5p (U4 (V3z O.isi (pv 0) (pty O.bool_ boot_bool)))))) (A5 (A9 A4m)) C7)
     (A5 (A9 (B4d (G6 V0w (pv 0) (pv 1) (B9 _)) (A2v (G6 Y1t (pv 0) (pv 2) (B9 _))))))), ?_⟩
   rcases h with ⟨⟨i, rfl, h1, h2⟩, k⟩ | ⟨⟨t, b1, b2, ty, k1, k2, bad⟩, k⟩
   . refine ⟨_, rfl, _, _, _, _, true, rfl, rfl, A0hd i, T.int_int, _, rfl, U0 ?_⟩
     refine ⟨_, rfl, _, _, _, _, false, rfl, rfl, A0hd i, T.int_bool, _, rfl, U0 ?_⟩
     refine ⟨_, rfl, _, rfl, _, _, rfl, rfl, _, rfl, A1x h1 ?_⟩
     refine ⟨_, rfl, _, rfl, _, _, rfl, rfl, ?_⟩
     show Q (.bl (decide (i <= hi))) H
     rw [decide_eq_true h2]
     exact k
   . refine ⟨_, rfl, _, _, _, _, b1, rfl, rfl, ty, k1, _, rfl, ?_⟩
     cases b1 with
     | false => exact Y1 (Y1 k)
     | true =>
       refine U0 ⟨_, rfl, _, _, _, _, b2, rfl, rfl, ty, k2, _, rfl, ?_⟩
       cases b2 with
       | true => exact Y1 k
       | false =>
         obtain ⟨i, rfl, out⟩ := bad.resolve_left (by decide)
         refine U0 ⟨_, rfl, _, rfl, _, _, rfl, rfl, _, rfl, J3 (fun h1 => ?_) (fun h1 => ?_)⟩
         . refine ⟨_, rfl, _, rfl, _, _, rfl, rfl, ?_⟩
           show Q (.bl (decide (i <= hi))) H
           rw [decide_eq_false (by omega : ¬ i <= hi)]
           exact k
         . exact k
end
structure Err (K : Frag) (mg : Str -> Option Value) (x : Str) (CB : Addr) : Prop where
 g : mg x = some (.ref CB)
 q : excIn K CB [.type "ValueError", .type "Exception", .type "BaseException", .type "object"] "ValueError.__new__" = true
def B7p (lo hi : Int) : Prop := lo.natAbs.log2 < 1920 /\ hi.natAbs.log2 < 1920 /\ (Str.ofString (toString lo)).length <= 100 /\ (Str.ofString (toString hi)).length <= 100
abbrev A2t : Stmt := (top 75)
section
variable {P : Program} {w : World} {K : Frag} {mg : Str -> Option Value} {base : Heap}
def D6g (K : Frag) (CB : Addr) : Sp := fun vs H Q E => ∃ v lo hi, vs = [v, .int lo, .int hi] /\ B7p lo hi /\ ((B3r lo hi v /\ Q v H) \/ (D1v K H lo hi v /\ E (.ref CB) none H))
theorem V4a : FnScope ["thing", "least", "most"] ["thing", "least", "most"] (A1 A2t) := scK
theorem J5r {f f1 CB : Addr} {fd fd1 : FuncData} (D : Def K mg "bounded" ["thing", "least", "most"] A2t f fd) (D1 : Def K mg "is_between" ["thing", "least", "most"] C6t f1 fd1) (O : Own mg) (T : Kit K) (B : Err K mg "BadContext" CB) :
   FnOk P w K mg base (CX1 P w) 2 f fd ["thing", "least", "most"] (D6g K CB) := by
 have G1 := J6c (P := P) (w := w) (base := base) D1 O T
 refine D.F.okE V4a (fun vs H Q E h => ?_) (fun X cdv A outer s H vs Q E hX hr hx h => ?_)
 . obtain ⟨v, lo, hi, rfl, _⟩ := h
   rfl
 . subst hX
   obtain ⟨v, lo, hi, rfl, ⟨l1, l2, l3, l4⟩, h⟩ := h
   refine ⟨_, (A3 (D6 (A5m (U4 (C6 D1 G1 hr hx (A0 (pv 0) (A0 (pv 1) (A0 (pv 2) A4))))))
     (A5 (A0w (by rfl) B.g B.q PySem.F.excBase_ValueError hr.hd hx (A0 (D7w (.cons .lit (.cons (.int (pv 1)) (.cons .lit (.cons (.int (pv 2)) .nil))))) A4))) C7)
     (A5 (A9 (pv 0)))), ?_⟩
   rcases h with ⟨g, k⟩ | ⟨bad, k⟩
   . exact ⟨_, rfl, _, rfl, _, rfl, _, _, _, rfl, .inl ⟨g, _, rfl, U0 ⟨_, rfl, k⟩⟩⟩
   . have a0 : Str.empty.length = 0 := rfl
     have a1 : (Str.ofString "not a whole number from ").length = 24 := by decide +kernel
     have a2 : (Str.ofString " to ").length = 4 := by decide +kernel
     have sz : ∀ {n : Nat}, n <= 1000 -> n <= sizeLine := fun h => Nat.le_of_lt (A0g h)
     refine ⟨_, rfl, _, rfl, _, rfl, _, _, _, rfl, .inr ⟨bad, _, rfl, Y1 ?_⟩⟩
     exact ⟨_, rfl, sz (by rw [strLen_append]; omega), _, rfl, _, rfl, l1, _, rfl, sz (by rw [strLen_append, strLen_append]; omega), _, rfl, sz (by rw [strLen_append, strLen_append, strLen_append]; omega), _, rfl, _, rfl, l2, _, rfl, sz (by rw [strLen_append, strLen_append, strLen_append, strLen_append]; omega), sz (by rw [strLen_append, strLen_append, strLen_append, strLen_append]; omega), sz (by show 1 <= 1000; decide), k⟩
end
abbrev A1c : Stmt := (top 28)
section
variable {P : Program} {w : World} {K : Frag} {mg : Str -> Option Value} {base : Heap}
def V3n (K : Frag) (CB : Addr) : Sp := fun vs H Q E => ∃ v lo hi, vs = [v, .int lo, .int hi] /\ B7p lo hi /\
 ((B3r lo hi v /\ Q .non H) \/ (D1v K H lo hi v /\ E (.ref CB) none H))
theorem V3t : FnScope ["thing", "least", "most"] ["thing", "least", "most"] (A1 A1c) := scK
theorem C6q {f f1 CB : Addr} {fd fd1 : FuncData} (D : Def K mg "need_between" ["thing", "least", "most"] A1c f fd) (D1 : Def K mg "is_between" ["thing", "least", "most"] C6t f1 fd1) (O : Own mg) (T : Kit K) (B : Err K mg "BadNumber" CB) :
   FnOk P w K mg base (CX1 P w) 2 f fd ["thing", "least", "most"] (V3n K CB) := by
 have G1 := J6c (P := P) (w := w) (base := base) D1 O T
 refine D.F.okE V3t (fun vs H Q E h => ?_) (fun X cdv A outer s H vs Q E hX hr hx h => ?_)
 . obtain ⟨v, lo, hi, rfl, _⟩ := h
   rfl
 . subst hX
   obtain ⟨v, lo, hi, rfl, ⟨l1, l2, l3, l4⟩, h⟩ := h
   refine ⟨_, (A5 (D6 (A5m (U4 (C6 D1 G1 hr hx (A0 (pv 0) (A0 (pv 1) (A0 (pv 2) A4))))))
     (A5 (A0w (by rfl) B.g B.q PySem.F.excBase_ValueError hr.hd hx (A0 (D7w (.cons .lit (.cons (.int (pv 1)) (.cons .lit (.cons (.int (pv 2)) .nil))))) A4))) C7)), ?_⟩
   rcases h with ⟨g, k⟩ | ⟨bad, k⟩
   . exact ⟨_, rfl, _, rfl, _, rfl, _, _, _, rfl, .inl ⟨g, _, rfl, U0 k⟩⟩
   . have a0 : Str.empty.length = 0 := rfl
     have a1 : (Str.ofString "not a whole number from ").length = 24 := by decide +kernel
     have a2 : (Str.ofString " to ").length = 4 := by decide +kernel
     have sz : ∀ {n : Nat}, n <= 1000 -> n <= sizeLine := fun h => Nat.le_of_lt (A0g h)
     refine ⟨_, rfl, _, rfl, _, rfl, _, _, _, rfl, .inr ⟨bad, _, rfl, Y1 ?_⟩⟩
     exact ⟨_, rfl, sz (by rw [strLen_append]; omega), _, rfl, _, rfl, l1, _, rfl, sz (by rw [strLen_append, strLen_append]; omega), _, rfl, sz (by rw [strLen_append, strLen_append, strLen_append]; omega), _, rfl, _, rfl, l2, _, rfl, sz (by rw [strLen_append, strLen_append, strLen_append, strLen_append]; omega), sz (by rw [strLen_append, strLen_append, strLen_append, strLen_append]; omega), sz (by show 1 <= 1000; decide), k⟩
end
abbrev D5q : Stmt := (G8 (top 16) 0)
abbrev C5k : Stmt := (top 20)
abbrev A3c : Stmt := (top 22)
structure Num (K : Frag) (mg : Str -> Option Value) (CN : Addr) : Prop where
 g : mg "Number" = some (.ref CN)
 cl : Cls K CN
 n1 : NoAttr K CN "kind"
 n2 : NoAttr K CN "sign"
 n3 : NoAttr K CN "figures"
 n4 : NoAttr K CN "power"
 ca : findIn K (.ref CN) "__class__" = some (some (.builtin "object.__class__"))
 sn : specialIn K (.builtin "object.__class__") "__get__" = some (some (.builtin "getset_descriptor.__get__"))
 tk : takesIn K (.builtin "object.__class__") = some true
 ob : mroIn K CN (.type "object") = some true
 self : kitOne K (.ref CN) (.ref CN) = some true
def D1u (k s f p : V) : List (Str × V) := U9 "power" p (U9 "figures" f (U9 "sign" s (U9 "kind" k [])))
theorem e12 : ¬ (("kind" : Str) = "sign") := by decide +kernel
theorem e13 : ¬ (("kind" : Str) = "figures") := by decide +kernel
theorem e14 : ¬ (("kind" : Str) = "power") := by decide +kernel
theorem e23 : ¬ (("sign" : Str) = "figures") := by decide +kernel
theorem e24 : ¬ (("sign" : Str) = "power") := by decide +kernel
theorem e34 : ¬ (("figures" : Str) = "power") := by decide +kernel
theorem J5t (k s f p : V) : (D1u k s f p).lookup ("kind" : Str) = some k := by unfold D1u; rw [G5, if_neg e14, G5, if_neg e13, G5, if_neg e12, G5, if_pos rfl]
theorem B7j (k s f p : V) : (D1u k s f p).lookup ("sign" : Str) = some s := by unfold D1u; rw [G5, if_neg e24, G5, if_neg e23, G5, if_pos rfl]
theorem C4z (k s f p : V) : (D1u k s f p).lookup ("figures" : Str) = some f := by unfold D1u; rw [G5, if_neg e34, G5, if_pos rfl]
theorem B3g (k s f p : V) : (D1u k s f p).lookup ("power" : Str) = some p := by unfold D1u; rw [G5, if_pos rfl]
def NumAt (CN : Addr) (H : Hp) (n : Addr) (k s f p : V) : Prop := ∃ dx, H n = some (.ins CN dx (D1u k s f p))
theorem NumAt.same {CN : Addr} {H H' : Hp} {n : Addr} {k s f p : V} (h : NumAt CN H n k s f p) (e : Same H H') : NumAt CN H' n k s f p := by
 obtain ⟨dx, z⟩ := h
 exact ⟨dx, e _ _ z⟩
theorem Num.ty {K : Frag} {mg : Str -> Option Value} {CN : Addr} (N : Num K mg CN) {H : Hp} {n : Addr} {k s f p : V} (h : NumAt CN H n k s f p) : TyE K H (.ref n) (.ref CN) := by
 obtain ⟨dx, z⟩ := h
 exact .of (.ins z N.cl N.ca N.sn N.tk N.ob)
section
variable {P : Program} {w : World} {K : Frag} {mg : Str -> Option Value} {base : Heap}
def D7n (CN : Addr) : Sp := fun vs H Q _ => ∃ (p dx : Addr) (k s f pw : V), vs = [.ref p, k, s, f, pw] /\ H p = some (.ins CN dx []) /\ ∀ H', H' p = some (.ins CN dx (D1u k s f pw)) -> (∀ b o, H b = some o -> b ≠ p -> H' b = some o) -> Q .non H'
theorem A0ht : FnScope ["self", "kind", "sign", "figures", "power"] ["self", "kind", "sign", "figures", "power"] (A1 D5q) := scK
theorem A0az {f CN : Addr} {fd : FuncData} (F : Fun K "__init__" "Number.__init__" D5q f fd) (N : Num K mg CN) : FnOk P w K mg base CX0 1 f fd ["self", "kind", "sign", "figures", "power"] (D7n CN) := by
 refine F.ok A0ht (fun vs H Q E h => ?_) (fun cdv A outer s H vs Q E hr h => ?_)
 . obtain ⟨p, dx, a, b, c, d, rfl, _⟩ := h
   rfl
 . obtain ⟨p, dx, a, b, c, d, rfl, hp, k⟩ := h
   refine ⟨_, A3 (Y4 (pv 0) (pv 1) rfl) (A3 (Y4 (pv 0) (pv 2) rfl) (A3 (Y4 (pv 0) (pv 3) rfl) (A5 (Y4 (pv 0) (pv 4) rfl)))), ?_⟩
   have l : ∀ (fs : List (Str × V)) (f : Str) (v : V) (n : Nat), fs.length <= n -> (U9 f v fs).length <= n + 1 := fun fs f v n h => Nat.le_trans (A1a f v fs) (Nat.succ_le_succ h)
   refine ⟨_, rfl, _, rfl, p, CN, dx, [], rfl, hp, N.cl, N.n1, (by show 0 < 1000; decide), ?_⟩
   refine ⟨_, rfl, _, rfl, p, CN, dx, _, rfl, A6, N.cl, N.n2, Nat.lt_of_le_of_lt (l _ _ _ 0 (Nat.le_refl _)) (by decide), ?_⟩
   refine ⟨_, rfl, _, rfl, p, CN, dx, _, rfl, A6, N.cl, N.n3, Nat.lt_of_le_of_lt (l _ _ _ 1 (l _ _ _ 0 (Nat.le_refl _))) (by decide), ?_⟩
   refine ⟨_, rfl, _, rfl, p, CN, dx, _, rfl, A6, N.cl, N.n4, Nat.lt_of_le_of_lt (l _ _ _ 2 (l _ _ _ 1 (l _ _ _ 0 (Nat.le_refl _)))) (by decide), ?_⟩
   refine k _ A6 fun b o e hb => ?_
   rw [D5 hb, D5 hb, D5 hb, D5 hb]
   exact e
structure MakeN (P : Program) (w : World) (K : Frag) (mg : Str -> Option Value) (base : Heap) (CN fI : Addr) (fdI : FuncData) : Prop where
 m : Mk K CN fI
 g : FnOk P w K mg base CX0 1 fI fdI ["self", "kind", "sign", "figures", "power"] (D7n CN)
 b : Binds K fdI ["self", "kind", "sign", "figures", "power"] []
theorem made {CN : Addr} {H : Hp} {Q : VK} {k s f p : V} (h : ∀ n H', H n = none -> Same H H' -> NumAt CN H' n k s f p -> Q (.ref n) H') :
   ∀ x dx, H x = none -> H dx = none -> dx ≠ x -> D7n CN (.ref x :: ([k, s, f, p] ++ [])) (upd (upd H dx (.own x)) x (.ins CN dx [])) (fun v H2 => v = .non /\ Q (.ref x) H2) E0 := by
 intro x dx nx nd ne
 refine ⟨x, dx, k, s, f, p, rfl, A6, fun H' e kp => ⟨rfl, h x H' nx (fun b o z => ?_) ⟨dx, e⟩⟩⟩
 refine kp b o ?_ (G2 z nx)
 rw [D5 (G2 z nx), D5 (G2 z nd)]
 exact z
def NotNum (K : Frag) (CN : Addr) (H : Hp) (v : V) : Prop := ∃ t, TyE K H v t /\ kitOne K t (.ref CN) = some false
def B7m (K : Frag) (CN CB : Addr) : Sp := fun vs H Q E => ∃ v, vs = [v] /\ ((∃ n k s f p, v = .ref n /\ NumAt CN H n k s f p /\ Q v H) \/ (NotNum K CN H v /\ E (.ref CB) none H))
theorem A0cg : FnScope ["thing"] ["thing"] (A1 A3c) := scK
theorem J0k {f CN CB : Addr} {fd : FuncData} (D : Def K mg "need_number" ["thing"] A3c f fd) (O : Own mg) (T : Kit K) (B : Err K mg "BadNumber" CB) (N : Num K mg CN) : FnOk P w K mg base (CX1 P w) 1 f fd ["thing"] (B7m K CN CB) := by
 refine D.F.okE A0cg (fun vs H Q E h => ?_) (fun X cdv A outer s H vs Q E hX hr hx h => ?_)
 . obtain ⟨v, rfl, _⟩ := h
   rfl
 . subst hX
   obtain ⟨v, rfl, h⟩ := h
   refine ⟨_, (A3 (D6 (A5m (U4 (V3z O.isi (pv 0) (pcls N.g)))) (A5 (A0w (by rfl) B.g B.q PySem.F.excBase_ValueError hr.hd hx (A0 C8 A4))) C7)
     (A5 (A9 (pv 0)))), ?_⟩
   rcases h with ⟨n, a, b, c, d, rfl, hn, k⟩ | ⟨⟨t, ty, k1⟩, k⟩
   . exact ⟨_, rfl, _, _, _, _, true, rfl, rfl, N.ty hn, N.self, _, rfl, U0 ⟨_, rfl, k⟩⟩
   . exact ⟨_, rfl, _, _, _, t, false, rfl, rfl, ty, k1, _, rfl, Y1 ⟨Nat.le_of_lt (A0g (by show 1 <= 1000; decide)), k⟩⟩
def Y2e (K : Frag) (CN CB : Addr) : Sp := fun vs H Q E => ∃ v, vs = [v] /\ ((∃ n k s f p, v = .ref n /\ NumAt CN H n k s f p /\ ∀ t, H t = none -> Q (.ref t) (upd H t (.tup [k, s, f, p]))) \/ (NotNum K CN H v /\ E (.ref CB) none H))
theorem A0kq : FnScope ["number"] ["number"] (A1 C5k) := scK
theorem A0cv {f f1 CN CB : Addr} {fd fd1 : FuncData} (D : Def K mg "told" ["number"] C5k f fd) (D_need_number : Def K mg "need_number" ["thing"] A3c f1 fd1) (O : Own mg) (T : Kit K) (B : Err K mg "BadNumber" CB) (N : Num K mg CN) :
   FnOk P w K mg base (CX1 P w) 2 f fd ["number"] (Y2e K CN CB) := by
 have G_need_number := J0k (P := P) (w := w) (base := base) D_need_number O T B N
 refine D.F.okE A0kq (fun vs H Q E h => ?_) (fun X cdv A outer s H vs Q E hX hr hx h => ?_)
 . obtain ⟨v, rfl, _⟩ := h
   rfl
 . subst hX
   obtain ⟨v, rfl, h⟩ := h
   refine ⟨_, (A3 (U8 (C6 D_need_number G_need_number hr hx (A0 (pv 0) A4)))
     (A5 (A9 (V0 (A0 (D4 (pv 0) rfl) (A0 (D4 (pv 0) rfl) (A0 (D4 (pv 0) rfl) (A0 (D4 (pv 0) rfl) A4)))))))), ?_⟩
   rcases h with ⟨n, a, b, c, d, rfl, hn, k⟩ | ⟨bad, k⟩
   . refine ⟨_, rfl, _, rfl, .inl ⟨n, a, b, c, d, rfl, hn, ?_⟩⟩
     obtain ⟨dx, e⟩ := hn
     exact ⟨_, rfl, n, CN, dx, _, _, rfl, e, N.cl, N.n1, J5t _ _ _ _, _, rfl, n, CN, dx, _, _, rfl, e, N.cl, N.n2, B7j _ _ _ _, _, rfl, n, CN, dx, _, _, rfl, e, N.cl, N.n3, C4z _ _ _ _, _, rfl, n, CN, dx, _, _, rfl, e, N.cl, N.n4, B3g _ _ _ _,
       Nat.le_of_lt (A0g (by show 4 <= 1000; decide)), k⟩
   . exact ⟨_, rfl, _, rfl, .inr ⟨bad, k⟩⟩
end
abbrev B4s : Stmt := (top 17)
abbrev G8z : Stmt := (top 18)
abbrev V5 : Stmt := (top 19)
section
variable {P : Program} {w : World} {K : Frag} {mg : Str -> Option Value} {base : Heap}
def U9g (K : Frag) (CN CB : Addr) : Sp := fun vs H Q E => ∃ x y z, vs = [x, y, z] /\
 ((B3r 0 1 x /\ B3r 0 (10 ^ 60 - 1) y /\ B3r (-200) 200 z /\ ∀ n H', H n = none -> Same H H' -> NumAt CN H' n (.str "plain") x y z -> Q (.ref n) H') \/
  ((D1v K H 0 1 x \/ (B3r 0 1 x /\ (D1v K H 0 (10 ^ 60 - 1) y \/ (B3r 0 (10 ^ 60 - 1) y /\ D1v K H (-200) 200 z)))) /\ E (.ref CB) none H))
theorem A0bf : FnScope ["sign", "figures", "power"] ["sign", "figures", "power"] (A1 B4s) := scK
theorem b01 : B7p 0 1 := by unfold B7p; decide +kernel
theorem b60 : B7p 0 (10 ^ 60 - 1) := by unfold B7p; decide +kernel
theorem b200 : B7p (-200) 200 := by unfold B7p; decide +kernel
theorem Y1e {f f1 f2 fI CN CB : Addr} {fd fd1 fd2 fdI : FuncData} (D : Def K mg "plain" ["sign", "figures", "power"] B4s f fd) (D_need_between : Def K mg "need_between" ["thing", "least", "most"] A1c f1 fd1) (D2 : Def K mg "is_between" ["thing", "least", "most"] C6t f2 fd2)
   (O : Own mg) (T : Kit K) (B : Err K mg "BadNumber" CB) (N : Num K mg CN) (M : MakeN P w K mg base CN fI fdI) : FnOk P w K mg base (CX1 P w) 3 f fd ["sign", "figures", "power"] (U9g K CN CB) := by
 have G_need_between := C6q (P := P) (w := w) (base := base) D_need_between D2 O T B
 refine D.F.okE A0bf (fun vs H Q E h => ?_) (fun X cdv A outer s H vs Q E hX hr hx h => ?_)
 . obtain ⟨x, y, z, rfl, _⟩ := h
   rfl
 . subst hX
   obtain ⟨x, y, z, rfl, h⟩ := h
   refine ⟨_, (A3 (U8 (C6 D_need_between G_need_between hr hx (A0 (pv 0) (A0 A2 (A0 A2 A4)))))
     (A3 (U8 (C6 D_need_between G_need_between hr hx (A0 (pv 1) (A0 A2 (A0 (B5 J1 (B5 J7k A2 A2) A2) A4)))))
     (A3 (U8 (C6 D_need_between G_need_between hr hx (A0 (pv 2) (A0 (A8p A1r A2) (A0 A2 A4)))))
     (A5 (A9 (D7y M.m M.g hr rfl N.g M.b .nil Y1b (A0 C8 (A0 (pv 0) (A0 (pv 1) (A0 (pv 2) A4)))))))))), ?_⟩
   have pw : CPow 10 60 := ⟨by decide, by decide, by decide⟩
   rcases h with ⟨⟨i1, rfl, l1, u1⟩, ⟨i2, rfl, l2, u2⟩, ⟨i3, rfl, l3, u3⟩, k⟩ | ⟨bad, k⟩
   . refine ⟨_, rfl, _, _, _, rfl, b01, .inl ⟨⟨i1, rfl, l1, u1⟩, ?_⟩⟩
     refine ⟨_, rfl, _, _, rfl, rfl, pw, _, _, rfl, rfl, _, _, _, rfl, b60, .inl ⟨⟨i2, rfl, l2, u2⟩, ?_⟩⟩
     refine ⟨_, rfl, _, rfl, _, _, _, rfl, b200, .inl ⟨⟨i3, rfl, l3, u3⟩, ?_⟩⟩
     exact ⟨_, rfl, _, rfl, _, rfl, made k⟩
   . rcases bad with bad | ⟨⟨i1, rfl, l1, u1⟩, bad | ⟨⟨i2, rfl, l2, u2⟩, bad⟩⟩
     . exact ⟨_, rfl, _, _, _, rfl, b01, .inr ⟨bad, k⟩⟩
     . refine ⟨_, rfl, _, _, _, rfl, b01, .inl ⟨⟨i1, rfl, l1, u1⟩, ?_⟩⟩
       exact ⟨_, rfl, _, _, rfl, rfl, pw, _, _, rfl, rfl, _, _, _, rfl, b60, .inr ⟨bad, k⟩⟩
     . refine ⟨_, rfl, _, _, _, rfl, b01, .inl ⟨⟨i1, rfl, l1, u1⟩, ?_⟩⟩
       refine ⟨_, rfl, _, _, rfl, rfl, pw, _, _, rfl, rfl, _, _, _, rfl, b60, .inl ⟨⟨i2, rfl, l2, u2⟩, ?_⟩⟩
       exact ⟨_, rfl, _, rfl, _, _, _, rfl, b200, .inr ⟨bad, k⟩⟩
def Y0n (K : Frag) (CN CB : Addr) : Sp := fun vs H Q E => ∃ x, vs = [x] /\ ((B3r 0 1 x /\ ∀ n H', H n = none -> Same H H' -> NumAt CN H' n (.str "end") x (.int 0) (.int 0) -> Q (.ref n) H') \/ (D1v K H 0 1 x /\ E (.ref CB) none H))
theorem A0rn : FnScope ["sign"] ["sign"] (A1 G8z) := scK
theorem A0ke {f f1 f2 fI CN CB : Addr} {fd fd1 fd2 fdI : FuncData} (D : Def K mg "end" ["sign"] G8z f fd) (D_need_between : Def K mg "need_between" ["thing", "least", "most"] A1c f1 fd1) (D2 : Def K mg "is_between" ["thing", "least", "most"] C6t f2 fd2)
   (O : Own mg) (T : Kit K) (B : Err K mg "BadNumber" CB) (N : Num K mg CN) (M : MakeN P w K mg base CN fI fdI) : FnOk P w K mg base (CX1 P w) 3 f fd ["sign"] (Y0n K CN CB) := by
 have G_need_between := C6q (P := P) (w := w) (base := base) D_need_between D2 O T B
 refine D.F.okE A0rn (fun vs H Q E h => ?_) (fun X cdv A outer s H vs Q E hX hr hx h => ?_)
 . obtain ⟨x, rfl, _⟩ := h
   rfl
 . subst hX
   obtain ⟨x, rfl, h⟩ := h
   refine ⟨_, (A3 (U8 (C6 D_need_between G_need_between hr hx (A0 (pv 0) (A0 A2 (A0 A2 A4)))))
     (A5 (A9 (D7y M.m M.g hr rfl N.g M.b .nil Y1b (A0 C8 (A0 (pv 0) (A0 A2 (A0 A2 A4)))))))), ?_⟩
   rcases h with ⟨⟨i1, rfl, l1, u1⟩, k⟩ | ⟨bad, k⟩
   . refine ⟨_, rfl, _, _, _, rfl, b01, .inl ⟨⟨i1, rfl, l1, u1⟩, ?_⟩⟩
     exact ⟨_, rfl, made k⟩
   . exact ⟨_, rfl, _, _, _, rfl, b01, .inr ⟨bad, k⟩⟩
def A0m (CN : Addr) : Sp := fun vs H Q _ => vs = [] /\ ∀ n H', H n = none -> Same H H' -> NumAt CN H' n (.str "none") (.int 0) (.int 0) (.int 0) -> Q (.ref n) H'
theorem V2f : FnScope [] [] (A1 V5) := scK
theorem J7h {f fI CN : Addr} {fd fdI : FuncData} (D : Def K mg "nothing" [] V5 f fd) (N : Num K mg CN) (M : MakeN P w K mg base CN fI fdI) : FnOk P w K mg base (CX1 P w) 3 f fd [] (A0m CN) := by
 refine D.F.okE V2f (fun vs H Q E h => ?_) (fun X cdv A outer s H vs Q E hX hr hx h => ?_)
 . obtain ⟨rfl, _⟩ := h
   rfl
 . subst hX
   obtain ⟨rfl, k⟩ := h
   refine ⟨_, (A5 (A9 (D7y M.m M.g hr rfl N.g M.b .nil Y1b (A0 C8 (A0 A2 (A0 A2 (A0 A2 A4))))))), ?_⟩
   exact made k
end
abbrev C5q : Stmt := (top 21)
section
variable {P : Program} {w : World} {K : Frag} {mg : Str -> Option Value} {base : Heap}
def Y3z (CN : Addr) : Sp := fun vs H Q _ => ∃ n k s f p, vs = [.ref n] /\ NumAt CN H n k s (.int f) (.int p) /\ f.natAbs < 2 ^ 300 /\ Q (.int (p + ((Str.ofString (toString f)).length : Nat) - 1)) H
theorem A0jt : FnScope ["number"] ["number"] (A1 C5q) := scK
theorem A0bj {f CN : Addr} {fd : FuncData} (D : Def K mg "lead_of" ["number"] C5q f fd) (O : Own mg) (N : Num K mg CN) : FnOk P w K mg base (CX1 P w) 1 f fd ["number"] (Y3z CN) := by
 refine D.F.okE A0jt (fun vs H Q E h => ?_) (fun X cdv A outer s H vs Q E hX hr hx h => ?_)
 . obtain ⟨n, a, b, c, d, rfl, _⟩ := h
   rfl
 . subst hX
   obtain ⟨n, a, b, fg, pw, rfl, ⟨dx, e⟩, hf, k⟩ := h
   refine ⟨_, (A5 (A9 (B5 J1 (B5 G9 (D4 (pv 0) rfl) (J7 D8e (by rfl) O.len_ PySem.boot_len (A0 (V6 D7k (by rfl) O.str_ boot_str (A0 (D4 (pv 0) rfl) A4)) A4))) A2))), ?_⟩
   have lg : fg.natAbs.log2 < 1920 := Nat.lt_trans (C5w hf (by decide)) (by decide)
   exact ⟨_, rfl, n, CN, dx, _, _, rfl, e, N.cl, N.n4, B3g _ _ _ _, _, rfl, n, CN, dx, _, _, rfl, e, N.cl, N.n3, C4z _ _ _ _, _, rfl, lg, _, rfl, int_text_fits lg, _, _, rfl, rfl, _, _, rfl, rfl, k⟩
end
abbrev Y5 : Stmt := (top 2)
abbrev A1u : Stmt := (top 3)
theorem B2f {x k : Nat} (h : x < 2 ^ k) (hk : k <= 1048576) : Builtin.Int.intBits (x : Int) <= 2 ^ 20 := by
 unfold Builtin.Int.intBits
 split
 . exact Nat.zero_le _
 . have z : (x : Int).natAbs ≠ 0 := by
     intro z
     rename_i hz
     exact hz (by simpa using z)
   have : (x : Int).natAbs.log2 < k := (Nat.log2_lt z).mpr h
   have e : (2 : Nat) ^ 20 = 1048576 := by decide
   omega
theorem C6n {b s j n : Nat} (hb : b < 2 ^ s) (hj : j <= n) (hn : n * s < 1048576) : Builtin.Int.intBits ((b ^ j : Nat) : Int) <= 2 ^ 20 := by
 refine B2f (k := n * s + 1) ?_ hn
 have a : b ^ j <= (2 ^ s) ^ j := Nat.pow_le_pow_left (Nat.le_of_lt hb) j
 have c : (2 ^ s) ^ j <= 2 ^ (n * s) := by
   rw [<- Nat.pow_mul, Nat.mul_comm n s]
   exact Nat.pow_le_pow_right (by decide) (Nat.mul_le_mul_left s hj)
 have d : 2 ^ (n * s) < 2 ^ (n * s + 1) := Nat.pow_lt_pow_right (by decide) (by omega)
 exact Nat.lt_of_le_of_lt a (Nat.lt_of_le_of_lt c d)
theorem B8x {b s i j n : Nat} (hb : b < 2 ^ s) (hi : i <= n) (hj : j <= n) (hn : n * s < 1048576) : IntMulOk ((b ^ i : Nat) : Int) ((b ^ j : Nat) : Int) := IntMulOk.of_bits (C6n hb hi hn) (C6n hb hj hn)
section
variable {P : Program} {w : World} {K : Frag} {mg : Str -> Option Value} {base : Heap}
def C4g : Sp := fun vs H Q _ => ∃ b n s : Nat, vs = [.int (b : Int), .int (n : Int)] /\ b < 2 ^ s /\ n * s < 1048576 /\ Q (.int ((b ^ n : Nat) : Int)) H
theorem scProductOf : FnScope ["whole", "count", "product"] ["whole", "count"] (A1 Y5) := scK
theorem D7r {f : Addr} {fd : FuncData} (D : Def K mg "product_of" ["whole", "count"] Y5 f fd) : FnOk P w K mg base (CX1 P w) 1 f fd ["whole", "count"] C4g := by
 refine FnOk.up (D.F.ok scProductOf (fun vs H Q E h => ?_) (fun cdv A outer s H vs Q E hr h => ?_))
 . obtain ⟨b, n, z, rfl, _⟩ := h
   rfl
 . obtain ⟨b, n, z, rfl, hb, hn, k⟩ := h
   refine ⟨_, (A3 (C9 (i := 2) scProductOf.nd rfl (Or.inl rfl) A2)
     (A3 (A4v PassesOwn.never (C5 A9g (pv 1) A2 (B9 _)) (A3 (D6 (C5 D9 (B5 J0 (pv 1) A2) A2 (B9 _)) (A5 (C9 (i := 2) scProductOf.nd rfl (Or.inl rfl) (B5 G4 (pv 2) (pv 0)))) C7)
     (A3 (C9 (i := 0) scProductOf.nd rfl (Or.inl rfl) (B5 G4 (pv 0) (pv 0)))
     (A5 (C9 (i := 1) scProductOf.nd rfl (Or.inl rfl) (B5 G3 (pv 1) A2))))))
     (A5 (A9 (pv 2))))), ?_⟩
   have d2 : (0 : Int) < 2 /\ (2 : Int).natAbs.log2 < 9000 := ⟨by decide, by decide +kernel⟩
   refine A4z (fun σ H2 => H2 = H /\ ∃ i m c : Nat, m + i * c = n /\ σ = [some (.int ((b ^ i : Nat) : Int)), some (.int (c : Int)), some (.int ((b ^ m : Nat) : Int))]) (fun σ _ => match σ with | [_, some (.int c), _] => c.toNat | _ => 0) ?_ ?_ ?_
   . exact ⟨rfl, 1, 0, n, by omega, by rw [Nat.pow_one]; rfl⟩
   . rintro σ H2 ⟨rfl, i, m, c, hc, rfl⟩
     refine ⟨_, rfl, _, _, rfl, rfl, _, rfl, J3 (fun h0 => ?_) (fun h0 => ?_)⟩
     . have c1 : 1 <= c := by
         have : (0 : Int) < c := h0
         omega
       have hi : i <= n := Nat.le_trans (Nat.le_mul_of_pos_right i c1) (by omega)
       have hm : m <= n := by omega
       have sq : ((b ^ i : Nat) : Int) * ((b ^ i : Nat) : Int) = ((b ^ (2 * i) : Nat) : Int) := by rw [Nat.two_mul, Nat.pow_add]; rfl
       have lt : ((c : Int) / 2).toNat < (c : Int).toNat := by omega
       refine ⟨_, rfl, _, _, rfl, rfl, d2.1, rfl, _, rfl, J3 (fun ho => ?_) (fun he => ?_)⟩
       . have ho : (c : Int) % 2 = 1 := by injection ho
         have mu : ((b ^ m : Nat) : Int) * ((b ^ i : Nat) : Int) = ((b ^ (m + i) : Nat) : Int) := by rw [Nat.pow_add]; rfl
         refine ⟨_, rfl, _, rfl, _, _, rfl, rfl, B8x hb hm hi hn, _, rfl, _, rfl, _, _, rfl, rfl, B8x hb hi hi hn, _, rfl, _, _, rfl, rfl, d2, ⟨rfl, 2 * i, m + i, c / 2, ?_, ?_⟩, lt⟩
         . have e : i * c = i * (2 * (c / 2) + 1) := congrArg (i * ·) (by omega)
           rw [Nat.mul_add, Nat.mul_one, <- Nat.mul_assoc, Nat.mul_comm i 2] at e
           omega
         . show [some (V.int (((b ^ i : Nat) : Int) * ((b ^ i : Nat) : Int))), some (V.int ((c : Int) / 2)), some (V.int (((b ^ m : Nat) : Int) * ((b ^ i : Nat) : Int)))] = _
           rw [sq, mu]
           rfl
       . have he : ¬ (c : Int) % 2 = 1 := fun z => he (congrArg V.int z)
         refine ⟨_, rfl, _, rfl, _, _, rfl, rfl, B8x hb hi hi hn, _, rfl, _, _, rfl, rfl, d2, ⟨rfl, 2 * i, m, c / 2, ?_, ?_⟩, lt⟩
         . have e : i * c = i * (2 * (c / 2)) := congrArg (i * ·) (by omega)
           rw [<- Nat.mul_assoc, Nat.mul_comm i 2] at e
           omega
         . show [some (V.int (((b ^ i : Nat) : Int) * ((b ^ i : Nat) : Int))), some (V.int ((c : Int) / 2)), some (V.int ((b ^ m : Nat) : Int))] = _
           rw [sq]
           rfl
     . have c0 : c = 0 := by
         have : ¬ (0 : Int) < c := h0
         omega
       subst c0
       have hm : m = n := by omega
       subst hm
       exact ⟨_, rfl, k⟩
   . rintro σ H2 Q1 Q2 hQ ⟨v, e, i, j, e1, e2, b, e3, q⟩
     exact ⟨v, e, i, j, e1, e2, b, e3, hQ _ _ q⟩
def B2n : Sp := fun vs H Q _ => ∃ n : Nat, vs = [.int (n : Int)] /\ n <= 4000 /\ Q (.int ((10 ^ n : Nat) : Int)) H
theorem A0cj : FnScope ["count"] ["count"] (A1 A1u) := scK
theorem Y3n {f f1 : Addr} {fd fd1 : FuncData} (D : Def K mg "ten_to" ["count"] A1u f fd) (D_product_of : Def K mg "product_of" ["whole", "count"] Y5 f1 fd1) (G_product_of : FnOk P w K mg base (CX1 P w) 1 f1 fd1 ["whole", "count"] C4g) : FnOk P w K mg base (CX1 P w) 2 f fd ["count"] B2n := by
 refine FnOk.up (D.F.ok A0cj (fun vs H Q E h => ?_) (fun cdv A outer s H vs Q E hr h => ?_))
 . obtain ⟨n, rfl, _⟩ := h
   rfl
 . obtain ⟨n, rfl, hn, k⟩ := h
   have hx : J4 (A1s CX0 P w K mg base ["count"] "ten_to" (A1 A1u) f cdv A outer s H E).nox EKF := V3
   refine ⟨_, (A5 (A9 (C6 D_product_of G_product_of hr hx (A0 A2 (A0 (pv 0) A4))))), ?_⟩
   exact ⟨_, rfl, 10, n, 4, rfl, by decide, by omega, k⟩
end
inductive Kd where
 | plain | end_ | none
def Kd.str : Kd -> Str
 | .plain => "plain"
 | .end_ => "end"
 | .none => "none"
theorem Kd.str_inj {a b : Kd} (h : a.str = b.str) : a = b := by
 cases a <;> cases b <;> first | rfl | exact absurd h (by decide +kernel)
structure Nm where
 k : Kd
 s : Int
 f : Int
 p : Int
def Nm.vs (x : Nm) : List V := [.str x.k.str, .int x.s, .int x.f, .int x.p]
structure Nm.Ok (x : Nm) : Prop where
 s0 : 0 <= x.s
 s1 : x.s <= 1
 f0 : 0 <= x.f
 f1 : x.f <= 10 ^ 60 - 1
 p0 : -200 <= x.p
 p1 : x.p <= 200
def NumIs (CN : Addr) (H : Hp) (n : Addr) (x : Nm) : Prop := NumAt CN H n (.str x.k.str) (.int x.s) (.int x.f) (.int x.p)
theorem NumIs.same {CN : Addr} {H H' : Hp} {n : Addr} {x : Nm} (h : NumIs CN H n x) (e : Same H H') : NumIs CN H' n x := NumAt.same h e
theorem NumIs.exc {CN : Addr} {H H' : Hp} {n D : Addr} {l : List V} {x : Nm} (h : NumIs CN H n x) (hD : H D = some (.lst l)) (e : Exc1 D H H') : NumIs CN H' n x := by
 obtain ⟨dx, z⟩ := h
 exact ⟨dx, e _ _ z fun q => by rw [q, hD] at z; cases z⟩
theorem NotNum.same {K : Frag} {CN : Addr} {H H' : Hp} {v : V} (h : NotNum K CN H v) (e : Same H H') : NotNum K CN H' v := by
 obtain ⟨t, ty, r⟩ := h
 exact ⟨t, TyE.same ty e, r⟩
structure NumsAt (CN : Addr) (H : Hp) (l : Addr) (ns : List (Addr × Nm)) : Prop where
 l : H l = some (.lst (ns.map fun p => V.ref p.1))
 n : ∀ p ∈ ns, NumIs CN H p.1 p.2
def A7 (n : Int) : Int := ((10 ^ n.toNat : Nat) : Int)
theorem G0 (n : Int) : 0 < A7 n := Int.natCast_pos.mpr (Nat.pow_pos (by decide))
theorem neS {a b : Kd} (h : ¬ V.str a.str = V.str b.str) : a ≠ b := fun q => h (by rw [q])
theorem eqS {a b : Kd} (h : V.str a.str = V.str b.str) : a = b := Kd.str_inj (by injection h)
structure Nm.Bg (x : Nm) : Prop where
 f0 : 0 <= x.f
 f1 : x.f < A7 120
 p0 : -400 <= x.p
 p1 : x.p <= 400
theorem Nm.Ok.bg {x : Nm} (h : x.Ok) : x.Bg := ⟨h.f0, Int.lt_of_le_of_lt h.f1 (by decide +kernel), by have := h.p0; omega, by have := h.p1; omega⟩
theorem Nm.Bg.bits {x : Nm} (h : x.Bg) : Builtin.Int.intBits x.f <= 2 ^ 20 := by
 obtain ⟨n, hn⟩ := Int.eq_ofNat_of_zero_le h.f0
 rw [hn]
 refine B2f (k := 400) ?_ (by decide)
 have := h.f1
 have e : A7 120 = ((10 ^ 120 : Nat) : Int) := rfl
 have : n < 10 ^ 120 := by omega
 exact Nat.lt_trans this (by decide +kernel)
abbrev Z4 : Stmt := (top 23)
abbrev Z2 : Stmt := (top 24)
abbrev Z3 : Stmt := (top 26)
section
variable {P : Program} {w : World} {K : Frag} {mg : Str -> Option Value} {base : Heap}
def A4s (K : Frag) (CN CB : Addr) : Sp := fun vs H Q E => ∃ l ns, vs = [.ref l] /\ (∀ p ∈ (ns : List (Addr × Nm)), NumIs CN H p.1 p.2) /\
 ((H l = some (.lst (ns.map fun p => V.ref p.1)) /\ Q .non H) \/ (∃ v r, H l = some (.lst ((ns.map fun p => V.ref p.1) ++ v :: r)) /\ NotNum K CN H v /\ E (.ref CB) none H))
theorem scNeedNs : FnScope ["things", "thing"] ["things"] (A1 Z4) := scK
theorem V2y {f f1 CN CB : Addr} {fd fd1 : FuncData} (D : Def K mg "need_numbers" ["things"] Z4 f fd) (D_need_number : Def K mg "need_number" ["thing"] A3c f1 fd1) (G_need_number : FnOk P w K mg base (CX1 P w) 1 f1 fd1 ["thing"] (B7m K CN CB)) : FnOk P w K mg base (CX1 P w) 2 f fd ["things"] (A4s K CN CB) := by
 refine D.F.okE scNeedNs (fun vs H Q E h => ?_) (fun X cdv A outer s H vs Q E hX hr hx h => ?_)
 . obtain ⟨l, ns, rfl, _⟩ := h
   rfl
 . subst hX
   obtain ⟨l, ns, rfl, hn, h⟩ := h
   refine ⟨_, (A5 (B8v PassesOwn.leaving rfl (D7m (pv 0)) (G7 (i := 1) scNeedNs.nd rfl (Or.inl rfl)) (A5 (U8 (C6 D_need_number G_need_number hr hx (A0 (pv 1) A4)))))), ?_⟩
   rcases h with ⟨hl, k⟩ | ⟨v, r, hl, nv, k⟩
   . refine ⟨_, rfl, l, rfl, ⟨_, SqL.of hl⟩, A8z (xs := ns.map fun p => V.ref p.1) (fun i σ H' => H' = H /\ ∃ v, σ = [some (.ref l), v]) ⟨rfl, none, rfl⟩ ?_ ?_ ?_⟩
     . rintro i σ H' _ ⟨rfl, _⟩
       exact SqL.of hl
     . rintro i x σ H' hi ⟨rfl, v, rfl⟩
       obtain ⟨p, hp, rfl⟩ := List.mem_map.mp (List.mem_of_getElem? hi)
       exact ⟨_, rfl, _, rfl, .inl ⟨p.1, _, _, _, _, rfl, hn p hp, rfl, _, rfl⟩⟩
     . rintro σ H' ⟨rfl, v, rfl⟩
       exact k
   . refine ⟨_, rfl, l, rfl, ⟨_, SqL.of hl⟩, A8z (xs := (ns.map fun p => V.ref p.1) ++ v :: r) (fun i σ H' => H' = H /\ i <= ns.length /\ ∃ v, σ = [some (.ref l), v]) ⟨rfl, Nat.zero_le _, none, rfl⟩ ?_ ?_ ?_⟩
     . rintro i σ H' _ ⟨rfl, _⟩
       exact SqL.of hl
     . rintro i x σ H' hi ⟨rfl, hle, u, rfl⟩
       by_cases hlt : i < ns.length
       . rw [List.getElem?_append_left (by simpa using hlt)] at hi
         obtain ⟨p, hp, rfl⟩ := List.mem_map.mp (List.mem_of_getElem? hi)
         exact ⟨_, rfl, _, rfl, .inl ⟨p.1, _, _, _, _, rfl, hn p hp, rfl, by omega, _, rfl⟩⟩
       . have e : i = ns.length := by omega
         subst e
         rw [List.getElem?_append_right (by simp)] at hi
         simp at hi
         subst hi
         exact ⟨_, rfl, _, rfl, .inr ⟨nv, k⟩⟩
     . rintro σ H' ⟨rfl, hle, _⟩
       exfalso
       rw [List.length_append, List.length_map, List.length_cons] at hle
       omega
def A2b (CN : Addr) : Sp := fun vs H Q _ => ∃ l ns z, vs = [.ref l, .str z] /\ NumsAt CN H l ns /\ ns.length <= 1000 /\ ∀ H', Same H H' -> Q (.bl (ns.any fun p => decide (p.2.k.str = z))) H'
theorem A0cs : FnScope ["numbers", "kind"] ["numbers", "kind"] (A1 Z2) := scK
theorem A0hp (ns : List (Addr × Nm)) (z : Str) : (ns.map fun p => decide (p.2.k.str = z)).any id = ns.any fun p => decide (p.2.k.str = z) := by rw [List.any_map]; rfl
theorem dec_str {a b : Str} : decide (V.str a = V.str b) = decide (a = b) := by
 by_cases h : a = b
 . rw [decide_eq_true h, decide_eq_true (congrArg V.str h)]
 . rw [decide_eq_false h, decide_eq_false fun q => h (by injection q)]
theorem Y0z {f CN : Addr} {fd : FuncData} (D : Def K mg "some_of_kind" ["numbers", "kind"] Z2 f fd) (O : Own mg) (N : Num K mg CN) : FnOk P w K mg base (CX1 P w) 1 f fd ["numbers", "kind"] (A2b CN) := by
 refine FnOk.up (D.F.ok A0cs (fun vs H Q E h => ?_) (fun cdv A outer s H vs Q E hr h => ?_))
 . obtain ⟨l, ns, z, rfl, _⟩ := h
   rfl
 . obtain ⟨l, ns, z, rfl, ⟨hl, hn⟩, hz, k⟩ := h
   refine ⟨_, (A5 (A9 (J7 (Y1a hr.hd) (by rfl) O.any_ boot_any (A0 (V2e (N := ["number"]) (F := ["kind"]) (js := [1]) (CompScopeF.of1 ⟨rfl, by decide +kernel, by decide +kernel, by decide +kernel, by decide +kernel⟩ (by rfl) (by rfl) ⟨_, by rfl⟩ (by rfl) (by rfl)) (.inl hr.hd) (B7a (pv 0)) rfl (fun C s₀ H₀ ex pn h => G7 (i := 0) (by decide +kernel : (["number", "kind"] : List Str).Nodup) rfl (Or.inl rfl)) (fun C s₀ H₀ ex pn h => (G6 D9 (A0by (K := K) rfl (pv 0) rfl) (pv 1) (B9 _)))) A4)))), ?_⟩
   refine ⟨_, rfl, l, rfl, ⟨_, SqL.of hl⟩, A4t (J := Itl K l) (n := ns.length) (fun i y _ => ∃ p, ns[i]? = some p /\ y = .bl (decide (p.2.k.str = z))) hz (fun _ _ _ _ _ _ h _ _ => h) (fun i H2 Qy hi sm hy => ⟨⟨_, V.ref ns[i].1, SqL.of (sm _ _ hl), by simp [hi]⟩, fun x H3 yl => ?_⟩) (fun H2 sm => ⟨_, SqL.of (sm _ _ hl), by simp⟩) (fun D H' ys sm nD eD hlen hR => ?_)⟩
   . obtain ⟨rfl, yl⟩ := yl
     have ex : x = V.ref ns[i].1 := by
       have := yl _ (SqL.of (sm _ _ hl))
       simp [hi] at this
       exact this.symm
     subst ex
     obtain ⟨dx, e⟩ := (hn _ (List.getElem_mem hi)).same sm
     refine ⟨_, rfl, ns[i].1, CN, dx, _, _, rfl, e, N.cl, N.n1, J5t _ _ _ _, _, rfl, rfl, hy _ _ (Same.refl _) ⟨ns[i], by simp [hi], ?_⟩⟩
     rw [dec_str]
   . have ey : ys = (ns.map fun p => decide (p.2.k.str = z)).map V.bl := by
       apply List.ext_getElem?
       intro i
       by_cases hi : i < ns.length
       . obtain ⟨p, hp, hy⟩ := hR i ys[i] (by simp [hlen, hi])
         rw [List.getElem?_eq_getElem (by omega), hy]
         simp [hp]
       . rw [List.getElem?_eq_none (by omega), List.getElem?_eq_none (by simp; omega)]
     subst ey
     refine ⟨D, _, rfl, SqL.of eD, ?_⟩
     rw [A0hp]
     exact k H' sm
def Nm.wh (x : Nm) (q : Int) : Int := if x.s = 1 then -(x.f * A7 (x.p - q)) else x.f * A7 (x.p - q)
def B8e (CN : Addr) : Sp := fun vs H Q _ => ∃ n x q, vs = [.ref n, .int q] /\ NumIs CN H n x /\ x.Bg /\ 0 <= x.p - q /\ x.p - q <= 1000 /\ Q (.int (x.wh q)) H
theorem scWholeAt : FnScope ["number", "power", "size"] ["number", "power"] (A1 Z3) := scK
theorem Nm.Ok.bits {x : Nm} (h : x.Ok) : Builtin.Int.intBits x.f <= 2 ^ 20 := by
 obtain ⟨n, hn⟩ := Int.eq_ofNat_of_zero_le h.f0
 rw [hn]
 refine B2f (k := 200) ?_ (by decide)
 have := h.f1
 have e : ((10 ^ 60 : Nat) : Int) = 10 ^ 60 := by decide +kernel
 have : n < 10 ^ 60 := by omega
 exact Nat.lt_trans this (by decide +kernel)
theorem B2t {d : Int} (h : d <= 4000) : Builtin.Int.intBits (A7 d) <= 2 ^ 20 := C6n (b := 10) (s := 4) (n := 4000) (by decide) (by omega) (by decide)
theorem J6m {f f1 CN : Addr} {fd fd1 : FuncData} (D : Def K mg "whole_at" ["number", "power"] Z3 f fd) (D_ten_to : Def K mg "ten_to" ["count"] A1u f1 fd1) (G_ten_to : FnOk P w K mg base (CX1 P w) 2 f1 fd1 ["count"] B2n) (N : Num K mg CN) : FnOk P w K mg base (CX1 P w) 3 f fd ["number", "power"] (B8e CN) := by
 refine FnOk.up (D.F.ok scWholeAt (fun vs H Q E h => ?_) (fun cdv A outer s H vs Q E hr h => ?_))
 . obtain ⟨n, x, q, rfl, _⟩ := h
   rfl
 . obtain ⟨n, x, q, rfl, ⟨dx, e⟩, ok, h0, h1, k⟩ := h
   have hx : J4 (A1s CX0 P w K mg base ["number", "power", "size"] "whole_at" (A1 Z3) f cdv A outer s H E).nox EKF := V3
   refine ⟨_, (A3 (C9 (i := 2) scWholeAt.nd rfl (Or.inl rfl) (B5 G4 (D4 (pv 0) rfl) (C6 D_ten_to G_ten_to hr hx (A0 (B5 J1 (D4 (pv 0) rfl) (pv 1)) A4))))
     (A5 (A9 (U2 (C5 D9 (D4 (pv 0) rfl) A2 (B9 _)) (A8p A1r (pv 2)) (pv 2))))), ?_⟩
   have mu : IntMulOk x.f (A7 (x.p - q)) := IntMulOk.of_bits ok.bits (B2t (by omega))
   refine ⟨_, rfl, n, CN, dx, _, _, rfl, e, N.cl, N.n3, C4z _ _ _ _, _, rfl, n, CN, dx, _, _, rfl, e, N.cl, N.n4, B3g _ _ _ _, _, rfl, _, _, rfl, rfl, (x.p - q).toNat, (by rw [Int.toNat_of_nonneg h0]; rfl), by omega, _, _, rfl, rfl, mu, ?_⟩
   refine ⟨_, rfl, n, CN, dx, _, _, rfl, e, N.cl, N.n2, B7j _ _ _ _, rfl, _, rfl, ?_⟩
   unfold Nm.wh at k
   refine J3 (fun h => ?_) (fun h => ?_)
   . rw [if_pos (by injection h)] at k
     exact ⟨_, rfl, _, rfl, k⟩
   . rw [if_neg fun q => h (congrArg V.int q)] at k
     exact ⟨_, rfl, k⟩
end
abbrev C5m : Stmt := (top 59)
abbrev B4g : Stmt := (top 60)
abbrev Y7 : Stmt := (top 56)
def Nm.side (x : Nm) : Int := match x.k with
 | .plain => 0
 | _ => if x.s = 1 then -1 else 1
def B8r (a b : Int) : Int := if a = b then 0 else if a < b then -1 else 1
def Kd.isN : Kd -> Bool
 | .none => true
 | _ => false
def Kd.isE : Kd -> Bool
 | .end_ => true
 | _ => false
def cmpN (x y : Nm) : Option Int :=
 if (x.k.isN || y.k.isN) = true then none else if (x.k.isE || y.k.isE) = true then some (B8r x.side y.side) else some (B8r (x.wh (if y.p < x.p then y.p else x.p)) (y.wh (if y.p < x.p then y.p else x.p)))
def optV : Option Int -> V
 | none => .non
 | some i => .int i
theorem V0y (k : Kd) : decide (k.str = ("none" : Str)) = k.isN := by cases k <;> decide +kernel
theorem U9k (k : Kd) : decide (k.str = ("end" : Str)) = k.isE := by cases k <;> decide +kernel
section
variable {P : Program} {w : World} {K : Frag} {mg : Str -> Option Value} {base : Heap}
def Y3f (CN : Addr) : Sp := fun vs H Q _ => ∃ n x, vs = [.ref n] /\ NumIs CN H n x /\ Q (.int x.side) H
theorem A0jm : FnScope ["number"] ["number"] (A1 C5m) := scK
theorem A0ay {f CN : Addr} {fd : FuncData} (D : Def K mg "side_of" ["number"] C5m f fd) (N : Num K mg CN) : FnOk P w K mg base (CX1 P w) 1 f fd ["number"] (Y3f CN) := by
 refine FnOk.up (D.F.ok A0jm (fun vs H Q E h => ?_) (fun cdv A outer s H vs Q E hr h => ?_))
 . obtain ⟨n, x, rfl, _⟩ := h
   rfl
 . obtain ⟨n, x, rfl, ⟨dx, e⟩, k⟩ := h
   refine ⟨_, (A3 (D6 (C5 D9 (D4 (pv 0) rfl) C8 (B9 _)) (A5 (A9 A2)) C7)
     (A5 (A9 (U2 (C5 D9 (D4 (pv 0) rfl) A2 (B9 _)) (A8p A1r A2) A2)))), ?_⟩
   refine ⟨_, rfl, n, CN, dx, _, _, rfl, e, N.cl, N.n1, J5t _ _ _ _, rfl, _, rfl, J3 (fun h => ?_) (fun h => ?_)⟩
   . have hk : x.k = .plain := eqS (b := .plain) h
     unfold Nm.side at k
     rw [hk] at k
     exact k
   . have hk : x.k ≠ .plain := neS (b := .plain) h
     have es : x.side = if x.s = 1 then -1 else 1 := by
       unfold Nm.side
       split
       . rename_i q; exact absurd q hk
       . rfl
     rw [es] at k
     refine ⟨_, rfl, n, CN, dx, _, _, rfl, e, N.cl, N.n2, B7j _ _ _ _, rfl, _, rfl, J3 (fun h => ?_) (fun h => ?_)⟩
     . rw [if_pos (by injection h)] at k
       exact ⟨_, rfl, k⟩
     . rw [if_neg fun q => h (congrArg V.int q)] at k
       exact k
def V0g : Sp := fun vs H Q _ => ∃ a b, vs = [.int a, .int b] /\ Q (.int (B8r a b)) H
theorem A0cb : FnScope ["one", "other"] ["one", "other"] (A1 B4g) := scK
theorem Y0x {f : Addr} {fd : FuncData} (D : Def K mg "order_of" ["one", "other"] B4g f fd) : FnOk P w K mg base (CX1 P w) 1 f fd ["one", "other"] V0g := by
 refine FnOk.up (D.F.ok A0cb (fun vs H Q E h => ?_) (fun cdv A outer s H vs Q E hr h => ?_))
 . obtain ⟨a, b, rfl, _⟩ := h
   rfl
 . obtain ⟨a, b, rfl, k⟩ := h
   refine ⟨_, (A3 (D6 (C5 D9 (pv 0) (pv 1) (B9 _)) (A5 (A9 A2)) C7)
     (A5 (A9 (U2 (C5 B3j (pv 0) (pv 1) (B9 _)) (A8p A1r A2) A2)))), ?_⟩
   unfold B8r at k
   refine ⟨_, rfl, _, rfl, rfl, _, rfl, J3 (fun h => ?_) (fun h => ?_)⟩
   . rw [if_pos (by injection h)] at k
     exact k
   . rw [if_neg fun q => h (congrArg V.int q)] at k
     refine ⟨_, rfl, _, rfl, _, _, rfl, rfl, _, rfl, J3 (fun h => ?_) (fun h => ?_)⟩
     . rw [if_pos h] at k
       exact ⟨_, rfl, k⟩
     . rw [if_neg h] at k
       exact k
def B4x (K : Frag) (CN CB : Addr) : Sp := fun vs H Q E => ∃ v u, vs = [v, u] /\ ((∃ n m x y, v = .ref n /\ u = .ref m /\ NumIs CN H n x /\ NumIs CN H m y /\ x.Ok /\ y.Ok /\ ∀ H', Same H H' -> Q (optV (cmpN x y)) H') \/
 ((NotNum K CN H v \/ ∃ n x, v = .ref n /\ NumIs CN H n x /\ NotNum K CN H u) /\ ∀ H', Same H H' -> E (.ref CB) none H'))
theorem scCompared : FnScope ["one", "other", "low"] ["one", "other"] (A1 Y7) := scK
theorem G8y {f f1 f2 f3 f4 f5 CN CB : Addr} {fd fd1 fd2 fd3 fd4 fd5 : FuncData} (D : Def K mg "compared" ["one", "other"] Y7 f fd) (D_need_numbers : Def K mg "need_numbers" ["things"] Z4 f1 fd1) (G_need_numbers : FnOk P w K mg base (CX1 P w) 2 f1 fd1 ["things"] (A4s K CN CB))
   (D_some_of_kind : Def K mg "some_of_kind" ["numbers", "kind"] Z2 f2 fd2) (G_some_of_kind : FnOk P w K mg base (CX1 P w) 1 f2 fd2 ["numbers", "kind"] (A2b CN)) (D_side_of : Def K mg "side_of" ["number"] C5m f3 fd3) (G_side_of : FnOk P w K mg base (CX1 P w) 1 f3 fd3 ["number"] (Y3f CN))
   (D_order_of : Def K mg "order_of" ["one", "other"] B4g f4 fd4) (G_order_of : FnOk P w K mg base (CX1 P w) 1 f4 fd4 ["one", "other"] V0g) (D_whole_at : Def K mg "whole_at" ["number", "power"] Z3 f5 fd5) (G_whole_at : FnOk P w K mg base (CX1 P w) 3 f5 fd5 ["number", "power"] (B8e CN)) (O : Own mg) (N : Num K mg CN) :
   FnOk P w K mg base (CX1 P w) 4 f fd ["one", "other"] (B4x K CN CB) := by
 refine D.F.okE scCompared (fun vs H Q E h => ?_) (fun X cdv A outer s H vs Q E hX hr hx h => ?_)
 . obtain ⟨v, u, rfl, _⟩ := h
   rfl
 . subst hX
   obtain ⟨v, u, rfl, h⟩ := h
   refine ⟨_, (A3 (U8 (C6 D_need_numbers G_need_numbers hr hx (A0 (J2 (A0 (pv 0) (A0 (pv 1) A4))) A4)))
     (A3 (D6 (U4 (C6 D_some_of_kind G_some_of_kind hr hx (A0 (J2 (A0 (pv 0) (A0 (pv 1) A4))) (A0 C8 A4)))) (A5 (A9 D8j)) C7)
     (A3 (D6 (U4 (C6 D_some_of_kind G_some_of_kind hr hx (A0 (J2 (A0 (pv 0) (A0 (pv 1) A4))) (A0 C8 A4)))) (A5 (A9 (C6 D_order_of G_order_of hr hx (A0 (C6 D_side_of G_side_of hr hx (A0 (pv 0) A4)) (A0 (C6 D_side_of G_side_of hr hx (A0 (pv 1) A4)) A4))))) C7)
     (A3 (C9 (i := 2) scCompared.nd rfl (Or.inl rfl) (J7 (A0n rfl) (by rfl) O.min_ boot_min (A0 (D4 (pv 0) rfl) (A0 (D4 (pv 1) rfl) A4))))
     (A5 (A9 (C6 D_order_of G_order_of hr hx (A0 (C6 D_whole_at G_whole_at hr hx (A0 (pv 0) (A0 (pv 2) A4))) (A0 (C6 D_whole_at G_whole_at hr hx (A0 (pv 1) (A0 (pv 2) A4))) A4))))))))), ?_⟩
   have z2 : 2 <= sizeLine := D3 (by decide)
   rcases h with ⟨n, m, x, y, rfl, rfl, hn, hm, ox, oy, k⟩ | ⟨bad, k⟩
   . refine ⟨_, rfl, _, rfl, z2, fun l nl => ⟨l, [(n, x), (m, y)], rfl, ?_, .inl ⟨A6, ?_⟩⟩⟩
     . intro p hp
       rcases (by simpa using hp : p = (n, x) \/ p = (m, y)) with rfl | rfl
       . exact hn.same (Same.upd nl)
       . exact hm.same (Same.upd nl)
     have s1 := Same.upd (o := .lst [.ref n, .ref m]) nl
     generalize upd H l (.lst [.ref n, .ref m]) = H1 at s1
     have both : ∀ {H' : Hp} {l : Addr}, Same H1 H' -> H' l = none -> NumsAt CN (upd H' l (.lst [.ref n, .ref m])) l [(n, x), (m, y)] := fun s' nl => ⟨A6, fun p hp => by
       rcases (by simpa using hp : p = (n, x) \/ p = (m, y)) with rfl | rfl
       . exact hn.same (s1.trans (s'.trans (Same.upd nl)))
       . exact hm.same (s1.trans (s'.trans (Same.upd nl)))⟩
     refine ⟨_, rfl, _, rfl, z2, fun l2 nl2 => ⟨l2, _, "none", rfl, both (Same.refl _) nl2, (by decide : 2 <= 1000), fun H2 s2 => ?_⟩⟩
     have s2 : Same H1 H2 := (Same.upd nl2).trans s2
     have an : ([(n, x), (m, y)].any fun p => decide (p.2.k.str = ("none" : Str))) = (x.k.isN || y.k.isN) := by
       show (decide (x.k.str = ("none" : Str)) || (decide (y.k.str = ("none" : Str)) || false)) = _
       rw [V0y, V0y, Bool.or_false]
     rw [an]
     unfold cmpN at k
     refine ⟨_, rfl, ?_⟩
     cases eN : (x.k.isN || y.k.isN) with
     | true =>
       rw [eN, if_pos rfl] at k
       exact Y1 (k H2 (s1.trans s2))
     | false =>
       rw [eN, if_neg Bool.false_ne_true] at k
       refine U0 ⟨_, rfl, _, rfl, z2, fun l3 nl3 => ⟨l3, _, "end", rfl, both s2 nl3, (by decide : 2 <= 1000), fun H3 s3 => ?_⟩⟩
       have s3 : Same H1 H3 := s2.trans ((Same.upd nl3).trans s3)
       have ae : ([(n, x), (m, y)].any fun p => decide (p.2.k.str = ("end" : Str))) = (x.k.isE || y.k.isE) := by
         show (decide (x.k.str = ("end" : Str)) || (decide (y.k.str = ("end" : Str)) || false)) = _
         rw [U9k, U9k, Bool.or_false]
       rw [ae]
       have hn3 := hn.same (s1.trans s3)
       have hm3 := hm.same (s1.trans s3)
       refine ⟨_, rfl, ?_⟩
       cases eE : (x.k.isE || y.k.isE) with
       | true =>
         rw [eE, if_pos rfl] at k
         exact Y1 ⟨_, rfl, n, x, rfl, hn3, _, rfl, m, y, rfl, hm3, _, _, rfl, k H3 (s1.trans s3)⟩
       | false =>
         rw [eE, if_neg Bool.false_ne_true] at k
         obtain ⟨dx, e⟩ := id hn3
         obtain ⟨dy, e'⟩ := id hm3
         refine U0 ⟨_, rfl, n, CN, dx, _, _, rfl, e, N.cl, N.n4, B3g _ _ _ _, _, rfl, m, CN, dy, _, _, rfl, e', N.cl, N.n4, B3g _ _ _ _, _, _, rfl, ?_⟩
         have := ox.p0; have := ox.p1; have := oy.p0; have := oy.p1
         have lo : ∃ q, (if y.p < x.p then y.p else x.p) = q /\ q <= x.p /\ q <= y.p /\ -200 <= q := by
           by_cases hq : y.p < x.p
           . exact ⟨y.p, if_pos hq, by omega, by omega, by omega⟩
           . exact ⟨x.p, if_neg hq, by omega, by omega, by omega⟩
         obtain ⟨q, eq, q1, q2, q3⟩ := lo
         rw [eq] at k ⊢
         exact ⟨_, rfl, _, rfl, n, x, q, rfl, hn3, ox.bg, by omega, by omega, _, rfl, _, rfl, m, y, q, rfl, hm3, oy.bg, by omega, by omega, _, _, rfl, k H3 (s1.trans s3)⟩
   . refine ⟨_, rfl, _, rfl, z2, fun l nl => ?_⟩
     have s1 := Same.upd (o := .lst [v, u]) nl
     rcases bad with bad | ⟨n, x, rfl, hn, bad⟩
     . exact ⟨l, [], rfl, fun p hp => by simp at hp, .inr ⟨v, [u], A6, bad.same s1, k _ s1⟩⟩
     . refine ⟨l, [(n, x)], rfl, fun p hp => ?_, .inr ⟨u, [], A6, bad.same s1, k _ s1⟩⟩
       have e : p = (n, x) := by simpa using hp
       subst e
       exact hn.same s1
end
def Y0 (left low : Int) : Int := (if decide (0 < left) = true then 1 else 0) + (if decide (low <= 2 * left) = true then 1 else 0) + (if decide (low < 2 * left) = true then 1 else 0)
theorem maxT (s : Int) : (if (0 : Int) > s then 0 else s) = ((s.toNat : Nat) : Int) := by
 by_cases h : (0 : Int) > s
 . rw [if_pos h]; omega
 . rw [if_neg h]; omega
def Y9 (t b s : Int) : Prop := b * A7 (-s) <= t * A7 s /\ t * A7 s < 10 * (b * A7 (-s))
theorem A5r {s r : Int} (h : s <= r) : A7 r * A7 (-s) = A7 s * A7 (-r) * A7 (r - s) := by
 unfold A7
 rw [<- Int.natCast_mul, <- Int.natCast_mul, <- Int.natCast_mul, <- Nat.pow_add, <- Nat.pow_add, <- Nat.pow_add]
 congr 2
 omega
theorem V0a {d : Int} (h : 1 <= d) : 10 <= A7 d := by
 unfold A7
 have : 10 ^ 1 <= 10 ^ d.toNat := Nat.pow_le_pow_right (by decide) (by omega)
 omega
theorem Y3 {a b : Int} (h : a <= b) : A7 a <= A7 b := by
 unfold A7
 exact Int.ofNat_le.mpr (Nat.pow_le_pow_right (by decide) (by omega))
theorem V0k {t b s r : Int} (hb : 0 < b) (h1 : Y9 t b s) (h2 : Y9 t b r) : r <= s := by
 apply Classical.byContradiction
 intro h
 have hs : s <= r := by omega
 have c := A5r hs
 have g := V0a (d := r - s) (by omega)
 have p1 := G0 (-s)
 have p2 := G0 (-r)
 have l1 : 0 < b * A7 (-s) := Int.mul_pos hb p1
 have l2 : 0 < b * A7 (-r) := Int.mul_pos hb p2
 have e : t * A7 r * (b * A7 (-s)) = t * A7 s * (b * A7 (-r)) * A7 (r - s) := by
   calc t * A7 r * (b * A7 (-s)) = t * b * (A7 r * A7 (-s)) := by ac_rfl
     _ = t * b * (A7 s * A7 (-r) * A7 (r - s)) := by rw [c]
     _ = t * A7 s * (b * A7 (-r)) * A7 (r - s) := by ac_rfl
 have a1 : t * A7 r * (b * A7 (-s)) < 10 * (b * A7 (-r)) * (b * A7 (-s)) := Int.mul_lt_mul_of_pos_right h2.2 l1
 have hp : 0 < t * A7 s := Int.lt_of_lt_of_le l1 h1.1
 have a2 : t * A7 s * (b * A7 (-r)) * 10 <= t * A7 s * (b * A7 (-r)) * A7 (r - s) := Int.mul_le_mul_of_nonneg_left g (Int.le_of_lt (Int.mul_pos hp l2))
 have a3 : b * A7 (-s) * (b * A7 (-r)) <= t * A7 s * (b * A7 (-r)) := Int.mul_le_mul_of_nonneg_right h1.1 (Int.le_of_lt l2)
 have e2 : 10 * (b * A7 (-r)) * (b * A7 (-s)) = b * A7 (-s) * (b * A7 (-r)) * 10 := by ac_rfl
 have a4 : b * A7 (-s) * (b * A7 (-r)) * 10 <= t * A7 s * (b * A7 (-r)) * 10 := Int.mul_le_mul_of_nonneg_right a3 (by decide)
 rw [e] at a1
 rw [e2] at a1
 exact absurd (Int.lt_of_lt_of_le a1 (Int.le_trans a4 a2)) (Int.lt_irrefl _)
theorem U9f {t b s r : Int} (hb : 0 < b) (h1 : Y9 t b s) (h2 : Y9 t b r) : s = r := Int.le_antisymm (V0k hb h2 h1) (V0k hb h1 h2)
def Sz (t : Int) : Prop := 1 <= t /\ t < A7 1000
theorem U9m (n : Nat) : 10 ^ n <= 2 ^ (4 * n) := by
 rw [Nat.pow_mul]
 exact Nat.pow_le_pow_left (by decide) n
theorem Y3y (n : Nat) : 10 ^ (3 * n) <= 2 ^ (10 * n) := by
 rw [Nat.pow_mul, Nat.pow_mul]
 exact Nat.pow_le_pow_left (by decide) n
theorem Sz.nat {t : Int} (h : Sz t) : ∃ n : Nat, t = (n : Int) /\ 1 <= n /\ n < 10 ^ 1000 := by
 obtain ⟨n, rfl⟩ := Int.eq_ofNat_of_zero_le (show 0 <= t by have := h.1; omega)
 exact ⟨n, rfl, Int.ofNat_le.mp h.1, Int.ofNat_lt.mp h.2⟩
theorem D7s {t s : Int} (ht : Sz t) (h : s <= 1500) : ∃ n : Nat, t * A7 s = (n : Int) /\ n < 10 ^ 2502 := by
 obtain ⟨n, rfl, _, hn⟩ := ht.nat
 refine ⟨n * 10 ^ s.toNat, rfl, ?_⟩
 have a : 10 ^ s.toNat <= 10 ^ 1502 := Nat.pow_le_pow_right (by decide) (by omega)
 calc n * 10 ^ s.toNat <= n * 10 ^ 1502 := Nat.mul_le_mul_left n a
   _ < 10 ^ 1000 * 10 ^ 1502 := Nat.mul_lt_mul_of_pos_right hn (Nat.pow_pos (by decide))
   _ = 10 ^ 2502 := by rw [<- Nat.pow_add]
theorem G9u {n : Nat} (h : n < 10 ^ 2502) : Builtin.Int.intBits (n : Int) <= 2 ^ 20 := B2f (k := 4 * 2502) (Nat.lt_of_lt_of_le h (U9m 2502)) (by decide)
theorem A0ag {t : Int} (h : Sz t) : Builtin.Int.intBits t <= 2 ^ 20 := by
 obtain ⟨n, rfl, _, hn⟩ := h.nat
 exact B2f (k := 4 * 1000) (Nat.lt_of_lt_of_le hn (U9m 1000)) (by decide)
theorem D7j {t s : Int} (ht : Sz t) (h : s <= 1500) : IntMulOk t (A7 s) := IntMulOk.of_bits (A0ag ht) (B2t (by omega))
theorem J7b {b s : Int} (hb : Sz b) (h : s <= 1500) : (b * A7 s).natAbs.log2 < 9000 := by
 obtain ⟨n, e, hn⟩ := D7s hb h
 rw [e]
 have : n < 2 ^ 8340 := Nat.lt_of_lt_of_le hn (Y3y 834)
 exact Nat.lt_trans (C5w (i := (n : Int)) (k := 8340) (by rw [Int.natAbs_natCast]; exact this) (by decide)) (by decide)
def whI (t b s : Int) : Int := t * A7 s / (b * A7 (-s))
def ptI (t b s : Int) : Int := Y0 (t * A7 s - whI t b s * (b * A7 (-s))) (b * A7 (-s))
theorem D7x {t b s : Int} (hb : 0 < b) : 0 <= t * A7 s - whI t b s * (b * A7 (-s)) /\ t * A7 s - whI t b s * (b * A7 (-s)) < b * A7 (-s) := by
 have l := Int.mul_pos hb (G0 (-s))
 have e := Int.emod_add_mul_ediv (t * A7 s) (b * A7 (-s))
 have a := Int.emod_nonneg (t * A7 s) (Int.ne_of_gt l)
 have c := Int.emod_lt_of_pos (t * A7 s) l
 have e2 : whI t b s * (b * A7 (-s)) = b * A7 (-s) * (t * A7 s / (b * A7 (-s))) := Int.mul_comm _ _
 omega
theorem A0rp {t b s : Int} (ht : Sz t) (hb : Sz b) (h1 : -1500 <= s) (h2 : s <= 1500) : IntMulOk (whI t b s) (b * A7 (-s)) := by
 obtain ⟨n, e, hn⟩ := D7s hb (s := -s) (by omega)
 obtain ⟨k, e', hk⟩ := D7s ht h2
 unfold whI
 rw [e, e']
 exact IntMulOk.of_bits (G9u (Nat.lt_of_le_of_lt (Nat.div_le_self k n) hk)) (G9u hn)
abbrev A5v : Stmt := (G8 (top 6) 0)
structure RatC (K : Frag) (mg : Str -> Option Value) (CR CE : Addr) : Prop where
 g : mg "Ratio" = some (.ref CR)
 ge : mg "Exact" = some (.ref CE)
 cl : Cls K CR
 n_top : NoAttr K CR "top"
 n_bottom : NoAttr K CR "bottom"
 n_power : NoAttr K CR "power"
 ca : findIn K (.ref CR) "__class__" = some (some (.builtin "object.__class__"))
 sn : specialIn K (.builtin "object.__class__") "__get__" = some (some (.builtin "getset_descriptor.__get__"))
 tk : takesIn K (.builtin "object.__class__") = some true
 ob : mroIn K CR (.type "object") = some true
 up : kitOne K (.ref CR) (.ref CE) = some true
def D8k (t b n : V) : List (Str × V) := U9 "power" n (U9 "bottom" b (U9 "top" t []))
theorem C6p (t b n : V) (x : Str) : (D8k t b n).lookup x = if x = "power" then some n else if x = "bottom" then some b else if x = "top" then some t else none := by
 unfold D8k
 rw [G5, G5, G5]
 rfl
theorem U9p (t b n : V) : (D8k t b n).lookup ("top" : Str) = some t := by rw [C6p, if_neg (by decide +kernel), if_neg (by decide +kernel), if_pos rfl]
theorem C6y (t b n : V) : (D8k t b n).lookup ("bottom" : Str) = some b := by rw [C6p, if_neg (by decide +kernel), if_pos rfl]
theorem D5m (t b n : V) : (D8k t b n).lookup ("power" : Str) = some n := by rw [C6p, if_pos rfl]
theorem B7q (t b n : V) : (D8k t b n).lookup ("first" : Str) = none := by rw [C6p, if_neg (by decide +kernel), if_neg (by decide +kernel), if_neg (by decide +kernel)]
theorem D5y (t b n : V) : (D8k t b n).lookup ("at" : Str) = none := by rw [C6p, if_neg (by decide +kernel), if_neg (by decide +kernel), if_neg (by decide +kernel)]
def RatAt (CR : Addr) (H : Hp) (x : Addr) (t b n : Int) : Prop := ∃ dx, H x = some (.ins CR dx (D8k (.int t) (.int b) (.int n)))
theorem RatAt.same {CR : Addr} {H H' : Hp} {x : Addr} {t b n : Int} (h : RatAt CR H x t b n) (s : Same H H') : RatAt CR H' x t b n := by
 obtain ⟨dx, e⟩ := h
 exact ⟨dx, s _ _ e⟩
section
variable {P : Program} {w : World} {K : Frag} {mg : Str -> Option Value} {base : Heap}
def D8t (CR : Addr) : Sp := fun vs H Q _ => ∃ (p dx : Addr) (t b n : V), vs = [.ref p, t, b, n] /\ H p = some (.ins CR dx []) /\ ∀ H', H' p = some (.ins CR dx (D8k t b n)) -> Exc p H H' -> Q .non H'
theorem A0af : FnScope ["self", "top", "bottom", "power"] ["self", "top", "bottom", "power"] (A1 A5v) := scK
theorem Y2v {f CR CE : Addr} {fd : FuncData} {dV : Value} (F : FunD K "__init__" "Ratio.__init__" A5v dV f fd) (R : RatC K mg CR CE) : FnOk P w K mg base (CX1 P w) 1 f fd ["self", "top", "bottom", "power"] (D8t CR) := by
 refine F.okE A0af (fun vs H Q E h => ?_) (fun X cdv A outer s H vs Q E hX hr hx h => ?_)
 . obtain ⟨p, dx, a, b, c, rfl, _⟩ := h
   rfl
 . subst hX
   obtain ⟨p, dx, a, b, c, rfl, hp, k⟩ := h
   refine ⟨_, (A3 (Y4 (pv 0) (pv 1) rfl)
     (A3 (Y4 (pv 0) (pv 2) rfl)
     (A5 (Y4 (pv 0) (pv 3) rfl)))), ?_⟩
   have l : ∀ (fs : List (Str × V)) (f : Str) (v : V) (n : Nat), fs.length <= n -> (U9 f v fs).length <= n + 1 := fun fs f v n h => Nat.le_trans (A1a f v fs) (Nat.succ_le_succ h)
   refine ⟨_, rfl, _, rfl, p, CR, dx, [], rfl, hp, R.cl, R.n_top, (by show 0 < 1000; decide), ?_⟩
   refine ⟨_, rfl, _, rfl, p, CR, dx, _, rfl, A6, R.cl, R.n_bottom, Nat.lt_of_le_of_lt (l _ _ _ 0 (Nat.le_refl _)) (by decide), ?_⟩
   refine ⟨_, rfl, _, rfl, p, CR, dx, _, rfl, A6, R.cl, R.n_power, Nat.lt_of_le_of_lt (l _ _ _ 1 (l _ _ _ 0 (Nat.le_refl _))) (by decide), ?_⟩
   refine k _ A6 fun b o e hb => ?_
   rw [D5 hb, D5 hb, D5 hb]
   exact e
def G9b (CR : Addr) : Sp := fun vs H Q _ => ∃ x t b n, vs = [.ref x] /\ RatAt CR H x t b n /\ Sz t /\ Sz b /\ ∀ f H', Same H H' -> Y9 t b (n - f) -> Q (.int f) H'
def Y4e (CR : Addr) : Sp := fun vs H Q _ => ∃ x t b n p, vs = [.ref x, .int p] /\ RatAt CR H x t b n /\ Sz t /\ Sz b /\ -1500 <= n - p /\ n - p <= 1500 /\
 ∀ q H', Same H H' -> H q = none -> H' q = some (.tup [.int (whI t b (n - p)), .int (ptI t b (n - p))]) -> Q (.ref q) H'
structure MakeR (P : Program) (w : World) (K : Frag) (mg : Str -> Option Value) (base : Heap) (CR fI : Addr) (fdI : FuncData) (d0 : Value) (gP : List Value -> List Value -> List Value) (vP : List V -> List V -> List V) : Prop where
 m : Mk K CR fI
 g : FnOk P w K mg base (CX1 P w) 1 fI fdI ["self", "top", "bottom", "power"] (D8t CR)
 b3 : Binds K fdI ["self", "top", "bottom", "power"] []
 b2 : Binds K fdI ["self", "top", "bottom", "power"] [d0]
 r0 : RelV (.int 0) d0
 kP : KBinds K fdI ["self", "top", "bottom", "power"] ["power"] gP vP
 eP : ∀ x a b c, vP [x, a, b] [c] = [x, a, b, c]
structure RatM (P : Program) (w : World) (K : Frag) (mg : Str -> Option Value) (base : Heap) (CR f1 f2 : Addr) (fd1 fd2 : FuncData) : Prop where
 m1 : Meth K CR "first" f1
 g1 : FnOk P w K mg base (CX1 P w) 4 f1 fd1 ["self"] (G9b CR)
 b1 : Binds K fd1 ["self"] []
 m2 : Meth K CR "at" f2
 g2 : FnOk P w K mg base (CX1 P w) 3 f2 fd2 ["self", "power"] (Y4e CR)
 b2 : Binds K fd2 ["self", "power"] []
theorem V0p {CR x dx : Addr} {H : Hp} {Q : VK} {E : XK} {t b n : Int} (n1 : H x = none) (n2 : H dx = none) (ne : dx ≠ x) (k : ∀ H', Same H H' -> RatAt CR H' x t b n -> Q .non H') :
   D8t CR [.ref x, .int t, .int b, .int n] (upd (upd H dx (.own x)) x (.ins CR dx [])) Q E :=
 ⟨x, dx, _, _, _, rfl, A6, fun H' e s => k H' (fun c o z => s c o (by rw [D5 (G2 z n1), D5 (G2 z n2)]; exact z) (G2 z n1)) ⟨dx, e⟩⟩
end
abbrev A5q : Stmt := (top 7)
section
variable {P : Program} {w : World} {K : Frag} {mg : Str -> Option Value} {base : Heap}
def J0f : Sp := fun vs H Q _ => ∃ l m : Int, vs = [.int (2 * l), .int m] /\ 0 <= l /\ 0 < m /\ Q (.int (Y0 l m)) H
theorem Y3b : FnScope ["size", "middle"] ["size", "middle"] (A1 A5q) := scK
theorem A0dc {m : Int} (hm : 0 < m) : Y0 0 m = 0 := by
 unfold Y0
 rw [decide_eq_false (by omega : ¬ (0 : Int) < 0), decide_eq_false (by omega : ¬ m <= 2 * 0), decide_eq_false (by omega : ¬ m < 2 * 0)]
 rfl
theorem A0bq {l m : Int} (hl : 0 < l) (h : 2 * l < m) : Y0 l m = 1 := by
 unfold Y0
 rw [decide_eq_true hl, decide_eq_false (by omega : ¬ m <= 2 * l), decide_eq_false (by omega : ¬ m < 2 * l)]
 rfl
theorem A0cp {l m : Int} (hl : 0 < l) (h : 2 * l = m) : Y0 l m = 2 := by
 unfold Y0
 rw [decide_eq_true hl, decide_eq_true (by omega : m <= 2 * l), decide_eq_false (by omega : ¬ m < 2 * l)]
 rfl
theorem A0cq {l m : Int} (hl : 0 < l) (h : m < 2 * l) : Y0 l m = 3 := by
 unfold Y0
 rw [decide_eq_true hl, decide_eq_true (by omega : m <= 2 * l), decide_eq_true h]
 rfl
theorem V3q {f : Addr} {fd : FuncData} (D : Def K mg "part_of" ["size", "middle"] A5q f fd) : FnOk P w K mg base (CX1 P w) 1 f fd ["size", "middle"] J0f := by
 refine FnOk.up (D.F.ok Y3b (fun vs H Q E h => ?_) (fun cdv A outer s H vs Q E hr h => ?_))
 . obtain ⟨l, m, rfl, _⟩ := h
   rfl
 . obtain ⟨l, m, rfl, hl, hm, k⟩ := h
   refine ⟨_, (A3 (D6 (C5 D9 (pv 0) A2 (B9 _)) (A5 (A9 A2)) C7)
     (A3 (D6 (C5 B3j (pv 0) (pv 1) (B9 _)) (A5 (A9 A2)) C7)
     (A5 (A9 (U2 (C5 D9 (pv 0) (pv 1) (B9 _)) A2 A2))))), ?_⟩
   refine ⟨_, rfl, rfl, _, rfl, J3 (fun h0 => ?_) (fun h0 => ?_)⟩
   . have e : l = 0 := by
       have : 2 * l = 0 := by injection h0
       omega
     subst e
     rw [A0dc hm] at k
     exact k
   . have hl' : 0 < l := by
       apply Classical.byContradiction
       intro z
       exact h0 (by rw [show l = 0 by omega]; rfl)
     refine ⟨_, rfl, _, rfl, _, _, rfl, rfl, _, rfl, J3 (fun h1 => ?_) (fun h1 => ?_)⟩
     . rw [A0bq hl' h1] at k
       exact k
     . refine ⟨_, rfl, _, rfl, rfl, _, rfl, J3 (fun h2 => ?_) (fun h2 => ?_)⟩
       . rw [A0cp hl' (by injection h2)] at k
         exact k
       . rw [A0cq hl' (by
           have : 2 * l ≠ m := fun z => h2 (by rw [z])
           omega)] at k
         exact k
end
abbrev A8y : Stmt := (top 8)
theorem J6b (k : Nat) : 10 ^ (k * 301029995 / 10 ^ 9) <= 2 ^ k := by
 have hm : k * 301029995 / 10 ^ 9 * 28738 <= k * 8651 := by
   have : k * 301029995 / 10 ^ 9 * 10 ^ 9 <= k * 301029995 := Nat.div_mul_le_self _ _
   omega
 generalize k * 301029995 / 10 ^ 9 = m at hm
 have c : (10 : Nat) ^ 8651 <= 2 ^ 28738 := by decide +kernel
 have a : (10 ^ m) ^ 8651 <= (2 ^ k) ^ 8651 := by
   calc (10 ^ m) ^ 8651 = (10 ^ 8651) ^ m := by rw [<- Nat.pow_mul, <- Nat.pow_mul, Nat.mul_comm]
     _ <= (2 ^ 28738) ^ m := Nat.pow_le_pow_left c m
     _ = 2 ^ (m * 28738) := by rw [<- Nat.pow_mul, Nat.mul_comm]
     _ <= 2 ^ (k * 8651) := Nat.pow_le_pow_right (by decide) hm
     _ = (2 ^ k) ^ 8651 := by rw [<- Nat.pow_mul]
 exact (Nat.pow_le_pow_iff_left (by decide)).mp a
section
variable {P : Program} {w : World} {K : Frag} {mg : Str -> Option Value} {base : Heap}
def U9v : Sp := fun vs H Q _ => ∃ n : Nat, vs = [.int (n : Int)] /\ 1 <= n /\ n < 10 ^ 3000 /\ ∀ L : Nat, 10 ^ L <= n -> n < 10 ^ (L + 1) -> Q (.int (L : Int)) H
theorem scWLead : FnScope ["whole", "lead", "beyond"] ["whole"] (A1 A8y) := scK
theorem Y3m {f f1 : Addr} {fd fd1 : FuncData} (D : Def K mg "whole_lead" ["whole"] A8y f fd) (D_ten_to : Def K mg "ten_to" ["count"] A1u f1 fd1) (G_ten_to : FnOk P w K mg base (CX1 P w) 2 f1 fd1 ["count"] B2n) : FnOk P w K mg base (CX1 P w) 3 f fd ["whole"] U9v := by
 refine FnOk.up (D.F.ok scWLead (fun vs H Q E h => ?_) (fun cdv A outer s H vs Q E hr h => ?_))
 . obtain ⟨n, rfl, _⟩ := h
   rfl
 . obtain ⟨n, rfl, n1, n2, k⟩ := h
   have hx : J4 (A1s CX0 P w K mg base ["whole", "lead", "beyond"] "whole_lead" (A1 A8y) f cdv A outer s H E).nox EKF := V3
   refine ⟨_, (A3 (B8 (C9 (i := 1) scWLead.nd rfl (Or.inl rfl) (B5 G3 (B5 G4 (B5 J1 (A0jr PySem.F.plainAttrs_int PySem.F.slot_int_bit_length PySem.F.type_int_bit_length D1w (pv 0)) A2) A2) (B5 J7k A2 A2))))
     (A3 (B8 (C9 (i := 2) scWLead.nd rfl (Or.inl rfl) (C6 D_ten_to G_ten_to hr hx (A0 (B5 G9 (pv 1) A2) A4))))
     (A3 (B8 (A4v PassesOwn.never (C5 Y1t (pv 2) (pv 0) (B9 _)) (A3 (A0ja (i := 1) scWLead.nd rfl (Or.inl rfl) A2 A0hr)
     (A5 (C9 (i := 2) scWLead.nd rfl (Or.inl rfl) (B5 G4 (pv 2) A2))))))
     (A5 (A9 (pv 1)))))), ?_⟩
   have mC : ∀ z n : Int, -(2 ^ 64) < n -> n < 2 ^ 64 -> IntMulOk z n := fun z n a b => CMul.ok (.inr ⟨a, b⟩)
   have pw : CPow 10 9 := ⟨by decide, by decide, by decide⟩
   have l3 : ∀ {L : Nat}, 10 ^ L <= n -> L < 3000 := fun hL => (Nat.pow_lt_pow_iff_right (by decide : 1 < 10)).mp (Nat.lt_of_le_of_lt hL n2)
   refine ⟨fun σ H' => H' = H /\ ∃ L : Nat, 10 ^ L <= n /\ σ = [some (.int (n : Int)), some (.int (L : Int)), none], ?_, ?_⟩
   . refine ⟨_, rfl, rfl, _, rfl, rfl, _, _, rfl, rfl, _, _, rfl, rfl, mC _ _ (by decide) (by decide), _, _, rfl, rfl, pw, _, _, rfl, rfl, ⟨by decide, by decide +kernel⟩, rfl, n.log2 * 301029995 / 10 ^ 9, ?_, ?_⟩
     . exact Nat.le_trans (J6b _) (Nat.log2_self_le (by omega))
     . have e : (Builtin.Int.intBits (n : Int) : Nat) = n.log2 + 1 := by
         unfold Builtin.Int.intBits
         rw [if_neg (by simp; omega)]
         rfl
       show [some (V.int (n : Int)), some (V.int ((((Builtin.Int.intBits (n : Int) : Nat) : Int) - 1) * 301029995 / (10 ^ Int.toNat 9 : Int))), none] = _
       rw [e, show ((n.log2 + 1 : Nat) : Int) - 1 = (n.log2 : Int) by omega]
       rfl
   rintro σ H' ⟨rfl, L0, hL0, rfl⟩
   refine ⟨fun σ H2 => H2 = H' /\ ∃ L : Nat, 10 ^ L <= n /\ σ = [some (.int (n : Int)), some (.int (L : Int)), some (.int ((10 ^ (L + 1) : Nat) : Int))], ?_, ?_⟩
   . have := l3 hL0
     exact ⟨_, rfl, _, _, rfl, rfl, L0 + 1, rfl, by omega, rfl, L0, hL0, rfl⟩
   rintro σ H2 ⟨rfl, L1, hL1, rfl⟩
   refine ⟨fun σ H3 => H3 = H2 /\ ∃ L : Nat, 10 ^ L <= n /\ n < 10 ^ (L + 1) /\ σ = [some (.int (n : Int)), some (.int (L : Int)), some (.int ((10 ^ (L + 1) : Nat) : Int))], ?_, ?_⟩
   . refine A4z (fun σ H3 => H3 = H2 /\ ∃ L : Nat, 10 ^ L <= n /\ σ = [some (.int (n : Int)), some (.int (L : Int)), some (.int ((10 ^ (L + 1) : Nat) : Int))]) (fun σ _ => match σ with | [_, some (.int c), _] => n - c.toNat | _ => 0) ?_ ?_ ?_
     . exact ⟨rfl, L1, hL1, rfl⟩
     . rintro σ H3 ⟨rfl, L, hL, rfl⟩
       refine ⟨_, rfl, _, rfl, _, _, rfl, rfl, _, rfl, J3 (fun hle => ?_) (fun hgt => ?_)⟩
       . have hle : 10 ^ (L + 1) <= n := Int.ofNat_le.mp hle
         refine ⟨_, rfl, _, _, rfl, rfl, _, rfl, _, _, rfl, rfl, mC _ _ (by decide) (by decide), ⟨rfl, L + 1, hle, ?_⟩, ?_⟩
         . show [some (V.int (n : Int)), some (V.int ((L : Int) + 1)), some (V.int (((10 ^ (L + 1) : Nat) : Int) * 10))] = _
           rw [show ((10 ^ (L + 1) : Nat) : Int) * 10 = ((10 ^ (L + 1 + 1) : Nat) : Int) by rw [Nat.pow_succ 10 (L + 1)]; rfl]
           rfl
         have lt : L + 1 < 10 ^ (L + 1) := Nat.lt_pow_self (by decide)
         show n - ((L : Int) + 1).toNat < n - (L : Int).toNat
         omega
       . have hgt : ¬ 10 ^ (L + 1) <= n := fun z => hgt (Int.ofNat_le.mpr z)
         exact ⟨rfl, L, hL, by omega, rfl⟩
     . rintro σ H2 Q1 Q2 hQ ⟨v, e, v2, e4, i2, j2, e5, e6, b, e7, q⟩
       exact ⟨v, e, v2, e4, i2, j2, e5, e6, b, e7, hQ _ _ q⟩
   rintro σ H3 ⟨rfl, L, h1, h2, rfl⟩
   exact ⟨_, rfl, k L h1 h2⟩
end
abbrev C6d : Stmt := (G8 (top 6) 2)
abbrev A3a : Stmt := (G8 (top 6) 1)
section
variable {P : Program} {w : World} {K : Frag} {mg : Str -> Option Value} {base : Heap}
theorem scRAt : FnScope ["self", "power", "shift", "top", "bottom", "whole"] ["self", "power"] (A1 C6d) := scK
theorem A0jc {f f1 f2 CR CE : Addr} {fd fd1 fd2 : FuncData} (F : Fun K "at" "Ratio.at" C6d f fd) (D_ten_to : Def K mg "ten_to" ["count"] A1u f1 fd1) (G_ten_to : FnOk P w K mg base (CX1 P w) 2 f1 fd1 ["count"] B2n)
   (D_part_of : Def K mg "part_of" ["size", "middle"] A5q f2 fd2) (G_part_of : FnOk P w K mg base (CX1 P w) 1 f2 fd2 ["size", "middle"] J0f) (R : RatC K mg CR CE) (O : Own mg) : FnOk P w K mg base (CX1 P w) 3 f fd ["self", "power"] (Y4e CR) := by
 refine FnOk.up (F.ok scRAt (fun vs H Q E h => ?_) (fun cdv A outer s H vs Q E hr h => ?_))
 . obtain ⟨x, t, b, n, p, rfl, _⟩ := h
   rfl
 . obtain ⟨x, t, b, n, p, rfl, ⟨dx, e⟩, ht, hb, h1, h2, k⟩ := h
   have hx : J4 (A1s CX0 P w K mg base ["self", "power", "shift", "top", "bottom", "whole"] "Ratio.at" (A1 C6d) f cdv A outer s H E).nox EKF := V3
   refine ⟨_, (A3 (C9 (i := 2) scRAt.nd rfl (Or.inl rfl) (B5 J1 (D4 (pv 0) rfl) (pv 1)))
     (A3 (C9 (i := 3) scRAt.nd rfl (Or.inl rfl) (B5 G4 (D4 (pv 0) rfl) (C6 D_ten_to G_ten_to hr hx (A0 (J7 (Y6 rfl) (by rfl) O.max_ boot_max (A0 (pv 2) (A0 A2 A4))) A4))))
     (A3 (C9 (i := 4) scRAt.nd rfl (Or.inl rfl) (B5 G4 (D4 (pv 0) rfl) (C6 D_ten_to G_ten_to hr hx (A0 (J7 (Y6 rfl) (by rfl) O.max_ boot_max (A0 (A8p A1r (pv 2)) (A0 A2 A4))) A4))))
     (A3 (C9 (i := 5) scRAt.nd rfl (Or.inl rfl) (B5 G3 (pv 3) (pv 4)))
     (A5 (A9 (V0 (A0 (pv 5) (A0 (C6 D_part_of G_part_of hr hx (A0 (B5 G4 A2 (B5 J1 (pv 3) (B5 G4 (pv 5) (pv 4)))) (A0 (pv 4) A4))) A4))))))))), ?_⟩
   have z2 : 2 <= sizeLine := D3 (by decide)
   have mC' : ∀ z n : Int, -(2 ^ 64) < n -> n < 2 ^ 64 -> IntMulOk n z := fun z n a b => CMul.ok (.inl ⟨a, b⟩)
   have hb0 : 0 < b := by have := hb.1; omega
   refine ⟨_, rfl, x, CR, dx, _, _, rfl, e, R.cl, R.n_power, D5m _ _ _, _, rfl, _, _, rfl, rfl, ?_⟩
   refine ⟨_, rfl, x, CR, dx, _, _, rfl, e, R.cl, R.n_top, U9p _ _ _, _, rfl, _, _, rfl, (n - p).toNat, congrArg (fun z => [V.int z]) (maxT (n - p)), by omega, _, _, rfl, rfl, D7j ht h2, ?_⟩
   refine ⟨_, rfl, x, CR, dx, _, _, rfl, e, R.cl, R.n_bottom, C6y _ _ _, _, rfl, _, rfl, _, _, rfl, (-(n - p)).toNat, congrArg (fun z => [V.int z]) (maxT (-(n - p))), by omega, _, _, rfl, rfl, D7j hb (by omega), ?_⟩
   have lp : 0 < b * A7 (-(n - p)) := Int.mul_pos hb0 (G0 _)
   have ll : (b * A7 (-(n - p))).natAbs.log2 < 9000 := J7b hb (by omega)
   refine ⟨_, rfl, _, rfl, _, _, rfl, rfl, ⟨lp, ll⟩, ?_⟩
   have lf := D7x (t := t) (s := n - p) hb0
   refine ⟨_, rfl, _, rfl, _, rfl, _, rfl, _, _, rfl, rfl, A0rp ht hb h1 h2, _, _, rfl, rfl, _, _, rfl, rfl, mC' _ _ (by decide) (by decide), _, rfl, _, _, rfl, lf.1, lp, z2, fun q nq => k q _ (Same.upd nq) nq A6⟩
end
theorem A0hm {t b L M u v : Nat} (h : L + u = M + v) (t2 : t < 10 ^ (L + 1)) (b1 : 10 ^ M <= b) : t * 10 ^ u < 10 * (b * 10 ^ v) := by
 have p : 0 < 10 ^ u := Nat.pow_pos (by decide)
 calc t * 10 ^ u < 10 ^ (L + 1) * 10 ^ u := Nat.mul_lt_mul_of_pos_right t2 p
   _ = 10 * (10 ^ M * 10 ^ v) := by rw [<- Nat.pow_add, <- Nat.pow_add, <- h, show L + 1 + u = (L + u) + 1 by omega, Nat.pow_succ, Nat.mul_comm]
   _ <= 10 * (b * 10 ^ v) := Nat.mul_le_mul_left 10 (Nat.mul_le_mul_right _ b1)
theorem A0kj {t b L M u v : Nat} (h : L + u = M + 1 + v) (t1 : 10 ^ L <= t) (b2 : b < 10 ^ (M + 1)) : b * 10 ^ v <= t * 10 ^ u := by
 calc b * 10 ^ v <= 10 ^ (M + 1) * 10 ^ v := Nat.mul_le_mul_right _ (Nat.le_of_lt b2)
   _ = 10 ^ L * 10 ^ u := by rw [<- Nat.pow_add, <- Nat.pow_add, h]
   _ <= t * 10 ^ u := Nat.mul_le_mul_right _ t1
theorem V2t {t b L M : Nat} (t1 : 10 ^ L <= t) (t2 : t < 10 ^ (L + 1)) (b1 : 10 ^ M <= b) (b2 : b < 10 ^ (M + 1)) (h : (b : Int) * A7 (-((M : Int) - L)) <= (t : Int) * A7 ((M : Int) - L)) : Y9 t b ((M : Int) - L) := by
 refine ⟨h, ?_⟩
 unfold A7
 have := A0hm (t := t) (b := b) (L := L) (M := M) (u := ((M : Int) - L).toNat) (v := (-((M : Int) - L)).toNat) (by omega) t2 b1
 exact Int.ofNat_lt.mpr this
theorem J7c {t b L M : Nat} (t1 : 10 ^ L <= t) (t2 : t < 10 ^ (L + 1)) (b1 : 10 ^ M <= b) (b2 : b < 10 ^ (M + 1)) (h : (t : Int) * A7 ((M : Int) - L) < (b : Int) * A7 (-((M : Int) - L))) : Y9 t b ((M : Int) - L + 1) := by
 refine ⟨?_, ?_⟩
 . unfold A7
   have := A0kj (t := t) (b := b) (L := L) (M := M) (u := ((M : Int) - L + 1).toNat) (v := (-((M : Int) - L + 1)).toNat) (by omega) t1 b2
   exact Int.ofNat_le.mpr this
 . have hb : 0 < (b : Int) := by
     have : 0 < 10 ^ M := Nat.pow_pos (by decide)
     omega
   generalize (M : Int) - L = s at h
   have c := A5r (s := s) (r := s + 1) (by omega)
   have e1 : A7 (s + 1 - s) = 10 := by rw [show s + 1 - s = 1 by omega]; rfl
   rw [e1] at c
   have l := Int.mul_pos hb (G0 (-s))
   have l' := Int.mul_pos hb (G0 (-(s + 1)))
   have e : (t : Int) * A7 (s + 1) * ((b : Int) * A7 (-s)) = (t : Int) * A7 s * ((b : Int) * A7 (-(s + 1))) * 10 := by
     calc (t : Int) * A7 (s + 1) * ((b : Int) * A7 (-s)) = t * b * (A7 (s + 1) * A7 (-s)) := by ac_rfl
       _ = t * b * (A7 s * A7 (-(s + 1)) * 10) := by rw [c]
       _ = (t : Int) * A7 s * ((b : Int) * A7 (-(s + 1))) * 10 := by ac_rfl
   have a : (t : Int) * A7 s * ((b : Int) * A7 (-(s + 1))) < (b : Int) * A7 (-s) * ((b : Int) * A7 (-(s + 1))) := Int.mul_lt_mul_of_pos_right h l'
   have a2 : (t : Int) * A7 (s + 1) * ((b : Int) * A7 (-s)) < 10 * ((b : Int) * A7 (-(s + 1))) * ((b : Int) * A7 (-s)) := by
     rw [e, show 10 * ((b : Int) * A7 (-(s + 1))) * ((b : Int) * A7 (-s)) = (b : Int) * A7 (-s) * ((b : Int) * A7 (-(s + 1))) * 10 by ac_rfl]
     exact Int.mul_lt_mul_of_pos_right a (by decide)
   exact Int.lt_of_mul_lt_mul_right a2 (Int.le_of_lt l)
section
variable {P : Program} {w : World} {K : Frag} {mg : Str -> Option Value} {base : Heap}
theorem scRFirst : FnScope ["self", "guess"] ["self"] (A1 A3a) := scK
theorem V2h {f f1 f2 CR CE : Addr} {fd fd1 fd2 : FuncData} (F : Fun K "first" "Ratio.first" A3a f fd) (D_whole_lead : Def K mg "whole_lead" ["whole"] A8y f1 fd1) (G_whole_lead : FnOk P w K mg base (CX1 P w) 3 f1 fd1 ["whole"] U9v)
   (MA : Meth K CR "at" f2) (GA : FnOk P w K mg base (CX1 P w) 3 f2 fd2 ["self", "power"] (Y4e CR)) (BA : Binds K fd2 ["self", "power"] []) (R : RatC K mg CR CE) : FnOk P w K mg base (CX1 P w) 4 f fd ["self"] (G9b CR) := by
 refine FnOk.up (F.ok scRFirst (fun vs H Q E h => ?_) (fun cdv A outer s H vs Q E hr h => ?_))
 . obtain ⟨x, t, b, n, rfl, _⟩ := h
   rfl
 . obtain ⟨x, t, b, n, rfl, ra, ht, hb, k⟩ := h
   have hx : J4 (A1s CX0 P w K mg base ["self", "guess"] "Ratio.first" (A1 A3a) f cdv A outer s H E).nox EKF := V3
   refine ⟨_, (A3 (C9 (i := 1) scRFirst.nd rfl (Or.inl rfl) (B5 G9 (B5 J1 (C6 D_whole_lead G_whole_lead hr hx (A0 (D4 (pv 0) rfl) A4)) (C6 D_whole_lead G_whole_lead hr hx (A0 (D4 (pv 0) rfl) A4))) (D4 (pv 0) rfl)))
     (A5 (A9 (U2 (C5 A9g (D7 D8 (D5g (pv 0) R.cl MA GA hr BA .nil hx (A0 (pv 1) A4)) A2 (fun _ _ => rfl)) A2 (B9 _)) (pv 1) (B5 J1 (pv 1) A2))))), ?_⟩
   obtain ⟨tn, rfl, ta, tb⟩ := ht.nat
   obtain ⟨bn, rfl, ba, bb⟩ := hb.nat
   obtain ⟨dx, e⟩ := id ra
   have p30 : (10 : Nat) ^ 1000 < 10 ^ 3000 := Nat.pow_lt_pow_right (by decide) (by decide)
   have p30' : ∀ {L m : Nat}, 10 ^ L <= m -> m < 10 ^ 1000 -> L < 1000 := fun h1 h2 => (Nat.pow_lt_pow_iff_right (by decide : 1 < 10)).mp (Nat.lt_of_le_of_lt h1 h2)
   refine ⟨_, rfl, x, CR, dx, _, _, rfl, e, R.cl, R.n_top, U9p _ _ _, tn, rfl, ta, Nat.lt_trans tb p30, fun L L1 L2 => ?_⟩
   refine ⟨_, rfl, x, CR, dx, _, _, rfl, e, R.cl, R.n_bottom, C6y _ _ _, bn, rfl, ba, Nat.lt_trans bb p30, fun M' M1 M2 => ?_⟩
   have l30 := p30' L1 tb
   have m30 := p30' M1 bb
   refine ⟨_, _, rfl, rfl, _, rfl, x, CR, dx, _, _, rfl, e, R.cl, R.n_power, D5m _ _ _, _, _, rfl, rfl, ?_⟩
   have es : n - ((L : Int) - M' + n) = (M' : Int) - L := by omega
   refine ⟨_, rfl, x, dx, _, rfl, e, D5y _ _ _, _, rfl, x, tn, bn, n, _, rfl, ra, ht, hb, by omega, by omega, fun q H1 s1 nq hq => ?_⟩
   rw [es] at hq
   refine ⟨q, _, 0, _, rfl, rfl, SqT.of hq, B7 (j := 0) rfl, _, _, rfl, rfl, _, rfl, ?_⟩
   have lp : 0 < (bn : Int) * A7 (-((M' : Int) - L)) := Int.mul_pos (by omega) (G0 _)
   refine J3 (fun hg => ?_) (fun hg => ?_)
   . have hle : (bn : Int) * A7 (-((M' : Int) - L)) <= (tn : Int) * A7 ((M' : Int) - L) := by
       have := (Int.le_ediv_iff_mul_le lp).mp (show (1 : Int) <= (tn : Int) * A7 ((M' : Int) - L) / ((bn : Int) * A7 (-((M' : Int) - L))) from hg)
       omega
     refine ⟨_, rfl, k _ H1 s1 ?_⟩
     rw [es]
     exact V2t L1 L2 M1 M2 hle
   . have hlt : (tn : Int) * A7 ((M' : Int) - L) < (bn : Int) * A7 (-((M' : Int) - L)) := by
       apply Classical.byContradiction
       intro z
       exact hg ((Int.le_ediv_iff_mul_le lp).mpr (by omega))
     refine ⟨_, rfl, _, _, rfl, rfl, k _ H1 s1 ?_⟩
     rw [show n - ((L : Int) - M' + n - 1) = (M' : Int) - L + 1 by omega]
     exact J7c L1 L2 M1 M2 hlt
end
inductive Wy where
 | down
 | up
 | floor
 | ceiling
 | halfUp
 | halfDown
 | halfEven
 | fiveUp
def Wy.name : Wy -> Str
 | .down => "down"
 | .up => "up"
 | .floor => "floor"
 | .ceiling => "ceiling"
 | .halfUp => "half up"
 | .halfDown => "half down"
 | .halfEven => "half even"
 | .fiveUp => "five up"
def Wy.cls : Wy -> Str
 | .down => "Down"
 | .up => "Up"
 | .floor => "Floor"
 | .ceiling => "Ceiling"
 | .halfUp => "HalfUp"
 | .halfDown => "HalfDown"
 | .halfEven => "HalfEven"
 | .fiveUp => "FiveUp"
theorem Wy.inj {a b : Wy} (h : a.name = b.name) : a = b := by
 cases a <;> cases b <;> first | rfl | exact absurd h (by decide +kernel)
structure WayC (K : Frag) (mg : Str -> Option Value) (x : Str) (C CW : Addr) : Prop where
 g : mg x = some (.ref C)
 cl : Cls K C
 mk0 : Mk0 K C
 ca : findIn K (.ref C) "__class__" = some (some (.builtin "object.__class__"))
 sn : specialIn K (.builtin "object.__class__") "__get__" = some (some (.builtin "getset_descriptor.__get__"))
 tk : takesIn K (.builtin "object.__class__") = some true
 ob : mroIn K C (.type "object") = some true
 up : kitOne K (.ref C) (.ref CW) = some true
section
variable {P : Program} {w : World} {K : Frag} {mg : Str -> Option Value} {base : Heap}
def A5u (s : Str) : Sp := fun vs H Q _ => ∃ p, vs = [.ref p] /\ Q (.str s) H
def WayN (P : Program) (w : World) (K : Frag) (mg : Str -> Option Value) (base : Heap) (C : Addr) (s : Str) : Prop := Has P w K mg base C "name" 1 ["self"] (A5u s)
abbrev sN0 : Stmt := (G8 (top 63) 0)
theorem scN0 : FnScope ["self"] ["self"] (A1 sN0) := scK
theorem A0qh {f : Addr} {fd : FuncData} (F : Fun K "name" "Down.name" sN0 f fd) : FnOk P w K mg base (CX1 P w) 1 f fd ["self"] (A5u "down") := by
 refine FnOk.up (F.ok scN0 (fun vs H Q E h => ?_) (fun cdv A outer s H vs Q E hr h => ?_))
 . obtain ⟨p, rfl, _⟩ := h
   rfl
 . obtain ⟨p, rfl, k⟩ := h
   exact ⟨_, A5 (A9 C8), k⟩
abbrev sN1 : Stmt := (G8 (top 64) 0)
theorem scN1 : FnScope ["self"] ["self"] (A1 sN1) := scK
theorem A0sc {f : Addr} {fd : FuncData} (F : Fun K "name" "Up.name" sN1 f fd) : FnOk P w K mg base (CX1 P w) 1 f fd ["self"] (A5u "up") := by
 refine FnOk.up (F.ok scN1 (fun vs H Q E h => ?_) (fun cdv A outer s H vs Q E hr h => ?_))
 . obtain ⟨p, rfl, _⟩ := h
   rfl
 . obtain ⟨p, rfl, k⟩ := h
   exact ⟨_, A5 (A9 C8), k⟩
abbrev sN2 : Stmt := (G8 (top 65) 0)
theorem scN2 : FnScope ["self"] ["self"] (A1 sN2) := scK
theorem A0pu {f : Addr} {fd : FuncData} (F : Fun K "name" "Floor.name" sN2 f fd) : FnOk P w K mg base (CX1 P w) 1 f fd ["self"] (A5u "floor") := by
 refine FnOk.up (F.ok scN2 (fun vs H Q E h => ?_) (fun cdv A outer s H vs Q E hr h => ?_))
 . obtain ⟨p, rfl, _⟩ := h
   rfl
 . obtain ⟨p, rfl, k⟩ := h
   exact ⟨_, A5 (A9 C8), k⟩
abbrev sN3 : Stmt := (G8 (top 66) 0)
theorem scN3 : FnScope ["self"] ["self"] (A1 sN3) := scK
theorem A0qk {f : Addr} {fd : FuncData} (F : Fun K "name" "Ceiling.name" sN3 f fd) : FnOk P w K mg base (CX1 P w) 1 f fd ["self"] (A5u "ceiling") := by
 refine FnOk.up (F.ok scN3 (fun vs H Q E h => ?_) (fun cdv A outer s H vs Q E hr h => ?_))
 . obtain ⟨p, rfl, _⟩ := h
   rfl
 . obtain ⟨p, rfl, k⟩ := h
   exact ⟨_, A5 (A9 C8), k⟩
abbrev sN4 : Stmt := (G8 (top 67) 0)
theorem scN4 : FnScope ["self"] ["self"] (A1 sN4) := scK
theorem A0qm {f : Addr} {fd : FuncData} (F : Fun K "name" "HalfUp.name" sN4 f fd) : FnOk P w K mg base (CX1 P w) 1 f fd ["self"] (A5u "half up") := by
 refine FnOk.up (F.ok scN4 (fun vs H Q E h => ?_) (fun cdv A outer s H vs Q E hr h => ?_))
 . obtain ⟨p, rfl, _⟩ := h
   rfl
 . obtain ⟨p, rfl, k⟩ := h
   exact ⟨_, A5 (A9 C8), k⟩
abbrev sN5 : Stmt := (G8 (top 68) 0)
theorem scN5 : FnScope ["self"] ["self"] (A1 sN5) := scK
theorem A0rt {f : Addr} {fd : FuncData} (F : Fun K "name" "HalfDown.name" sN5 f fd) : FnOk P w K mg base (CX1 P w) 1 f fd ["self"] (A5u "half down") := by
 refine FnOk.up (F.ok scN5 (fun vs H Q E h => ?_) (fun cdv A outer s H vs Q E hr h => ?_))
 . obtain ⟨p, rfl, _⟩ := h
   rfl
 . obtain ⟨p, rfl, k⟩ := h
   exact ⟨_, A5 (A9 C8), k⟩
abbrev sN6 : Stmt := (G8 (top 69) 0)
theorem scN6 : FnScope ["self"] ["self"] (A1 sN6) := scK
theorem A0rg {f : Addr} {fd : FuncData} (F : Fun K "name" "HalfEven.name" sN6 f fd) : FnOk P w K mg base (CX1 P w) 1 f fd ["self"] (A5u "half even") := by
 refine FnOk.up (F.ok scN6 (fun vs H Q E h => ?_) (fun cdv A outer s H vs Q E hr h => ?_))
 . obtain ⟨p, rfl, _⟩ := h
   rfl
 . obtain ⟨p, rfl, k⟩ := h
   exact ⟨_, A5 (A9 C8), k⟩
abbrev sN7 : Stmt := (G8 (top 70) 0)
theorem scN7 : FnScope ["self"] ["self"] (A1 sN7) := scK
theorem A0qy {f : Addr} {fd : FuncData} (F : Fun K "name" "FiveUp.name" sN7 f fd) : FnOk P w K mg base (CX1 P w) 1 f fd ["self"] (A5u "five up") := by
 refine FnOk.up (F.ok scN7 (fun vs H Q E h => ?_) (fun cdv A outer s H vs Q E hr h => ?_))
 . obtain ⟨p, rfl, _⟩ := h
   rfl
 . obtain ⟨p, rfl, k⟩ := h
   exact ⟨_, A5 (A9 C8), k⟩
def A0ha (K : Frag) (H : Hp) (v : V) : Prop := ∃ t b, TyE K H v t /\ kitOne K t (.type "str") = some b /\ (b = false \/ ∃ z, v = .str z /\ ∀ y : Wy, z ≠ y.name)
theorem A8t {C : Addr} {σ : L2.St} {H : Hp} {Q : VK} (k : ∀ p dx H', H p = none -> Same H H' -> H' p = some (.ins C dx []) -> Q (.ref p) H') : tNew C σ H Q := fun x dx n1 n2 ne =>
 k x dx _ n1 ((Same.upd n2).trans (Same.upd (by rw [D5 (Ne.symm ne)]; exact n1))) A6
abbrev A9h : Stmt := (top 71)
def D8f (K : Frag) (CB : Addr) (cw : Wy -> Addr) : Sp := fun vs H Q E => ∃ v, vs = [v] /\ ((∃ y : Wy, v = .str y.name /\ ∀ p dx H', H p = none -> Same H H' -> H' p = some (.ins (cw y) dx []) -> Q (.ref p) H') \/ (A0ha K H v /\ E (.ref CB) none H))
theorem A0br : FnScope ["name"] ["name"] (A1 A9h) := scK
theorem Y1g {f CB CW : Addr} {cw : Wy -> Addr} {fd : FuncData} (D : Def K mg "way_of" ["name"] A9h f fd) (O : Own mg) (T : Kit K) (B : Err K mg "BadContext" CB) (W : ∀ y : Wy, WayC K mg y.cls (cw y) CW) :
   FnOk P w K mg base (CX1 P w) 1 f fd ["name"] (D8f K CB cw) := by
 refine D.F.okE A0br (fun vs H Q E h => ?_) (fun X cdv A outer s H vs Q E hX hr hx h => ?_)
 . obtain ⟨v, rfl, _⟩ := h
   rfl
 . subst hX
   obtain ⟨v, rfl, h⟩ := h
   refine ⟨_, (A3 (D6 (A5m (U4 (V3z O.isi (pv 0) (pty O.str_ boot_str)))) (A5 (A0w (by rfl) B.g B.q PySem.F.excBase_ValueError hr.hd hx (A0 C8 A4))) C7)
     (A3 (D6 (C5 D9 (pv 0) C8 (B9 _)) (A5 (A9 (A8u (W .down).mk0 rfl (W .down).g))) C7)
     (A3 (D6 (C5 D9 (pv 0) C8 (B9 _)) (A5 (A9 (A8u (W .up).mk0 rfl (W .up).g))) C7)
     (A3 (D6 (C5 D9 (pv 0) C8 (B9 _)) (A5 (A9 (A8u (W .floor).mk0 rfl (W .floor).g))) C7)
     (A3 (D6 (C5 D9 (pv 0) C8 (B9 _)) (A5 (A9 (A8u (W .ceiling).mk0 rfl (W .ceiling).g))) C7)
     (A3 (D6 (C5 D9 (pv 0) C8 (B9 _)) (A5 (A9 (A8u (W .halfUp).mk0 rfl (W .halfUp).g))) C7)
     (A3 (D6 (C5 D9 (pv 0) C8 (B9 _)) (A5 (A9 (A8u (W .halfDown).mk0 rfl (W .halfDown).g))) C7)
     (A3 (D6 (C5 D9 (pv 0) C8 (B9 _)) (A5 (A9 (A8u (W .halfEven).mk0 rfl (W .halfEven).g))) C7)
     (A3 (D6 (C5 D9 (pv 0) C8 (B9 _)) (A5 (A9 (A8u (W .fiveUp).mk0 rfl (W .fiveUp).g))) C7)
     (A5 (A0w (by rfl) B.g B.q PySem.F.excBase_ValueError hr.hd hx (A0 C8 A4)))))))))))), ?_⟩
   have z1 : 1 <= sizeLine := D3 (by decide)
   rcases h with ⟨y, rfl, k⟩ | ⟨⟨t, b, ty, kk, bad⟩, k⟩
   . refine ⟨_, rfl, _, _, _, _, true, rfl, rfl, Y3d _, T.str_str, _, rfl, U0 ?_⟩
     refine ⟨_, rfl, rfl, _, rfl, J3 (fun e => ?_) (fun n0 => ?_)⟩
     . have q : y = .down := Wy.inj (V.str.inj (e : V.str y.name = V.str (Wy.name .down)))
       subst q
       exact A8t k
     refine ⟨_, rfl, rfl, _, rfl, J3 (fun e => ?_) (fun n1 => ?_)⟩
     . have q : y = .up := Wy.inj (V.str.inj (e : V.str y.name = V.str (Wy.name .up)))
       subst q
       exact A8t k
     refine ⟨_, rfl, rfl, _, rfl, J3 (fun e => ?_) (fun n2 => ?_)⟩
     . have q : y = .floor := Wy.inj (V.str.inj (e : V.str y.name = V.str (Wy.name .floor)))
       subst q
       exact A8t k
     refine ⟨_, rfl, rfl, _, rfl, J3 (fun e => ?_) (fun n3 => ?_)⟩
     . have q : y = .ceiling := Wy.inj (V.str.inj (e : V.str y.name = V.str (Wy.name .ceiling)))
       subst q
       exact A8t k
     refine ⟨_, rfl, rfl, _, rfl, J3 (fun e => ?_) (fun n4 => ?_)⟩
     . have q : y = .halfUp := Wy.inj (V.str.inj (e : V.str y.name = V.str (Wy.name .halfUp)))
       subst q
       exact A8t k
     refine ⟨_, rfl, rfl, _, rfl, J3 (fun e => ?_) (fun n5 => ?_)⟩
     . have q : y = .halfDown := Wy.inj (V.str.inj (e : V.str y.name = V.str (Wy.name .halfDown)))
       subst q
       exact A8t k
     refine ⟨_, rfl, rfl, _, rfl, J3 (fun e => ?_) (fun n6 => ?_)⟩
     . have q : y = .halfEven := Wy.inj (V.str.inj (e : V.str y.name = V.str (Wy.name .halfEven)))
       subst q
       exact A8t k
     refine ⟨_, rfl, rfl, _, rfl, J3 (fun e => ?_) (fun n7 => ?_)⟩
     . have q : y = .fiveUp := Wy.inj (V.str.inj (e : V.str y.name = V.str (Wy.name .fiveUp)))
       subst q
       exact A8t k
     cases y with
     | down => exact absurd rfl n0
     | up => exact absurd rfl n1
     | floor => exact absurd rfl n2
     | ceiling => exact absurd rfl n3
     | halfUp => exact absurd rfl n4
     | halfDown => exact absurd rfl n5
     | halfEven => exact absurd rfl n6
     | fiveUp => exact absurd rfl n7
   . refine ⟨_, rfl, _, _, _, _, b, rfl, rfl, ty, kk, _, rfl, ?_⟩
     cases b with
     | false => exact Y1 ⟨z1, k⟩
     | true =>
       obtain ⟨z, rfl, nz⟩ := bad.resolve_left (by decide)
       refine U0 ?_
       refine ⟨_, rfl, rfl, _, rfl, J3 (fun e => absurd (V.str.inj e) (nz .down)) (fun n0 => ?_)⟩
       refine ⟨_, rfl, rfl, _, rfl, J3 (fun e => absurd (V.str.inj e) (nz .up)) (fun n1 => ?_)⟩
       refine ⟨_, rfl, rfl, _, rfl, J3 (fun e => absurd (V.str.inj e) (nz .floor)) (fun n2 => ?_)⟩
       refine ⟨_, rfl, rfl, _, rfl, J3 (fun e => absurd (V.str.inj e) (nz .ceiling)) (fun n3 => ?_)⟩
       refine ⟨_, rfl, rfl, _, rfl, J3 (fun e => absurd (V.str.inj e) (nz .halfUp)) (fun n4 => ?_)⟩
       refine ⟨_, rfl, rfl, _, rfl, J3 (fun e => absurd (V.str.inj e) (nz .halfDown)) (fun n5 => ?_)⟩
       refine ⟨_, rfl, rfl, _, rfl, J3 (fun e => absurd (V.str.inj e) (nz .halfEven)) (fun n6 => ?_)⟩
       refine ⟨_, rfl, rfl, _, rfl, J3 (fun e => absurd (V.str.inj e) (nz .fiveUp)) (fun n7 => ?_)⟩
       exact ⟨z1, k⟩
end
def sigS : List Str := ["void", "split", "burst", "sunk", "faint", "off", "cut"]
def J6q : List V := sigS.map V.str
structure SigK (K : Frag) (mg : Str -> Option Value) (aS : Addr) : Prop where
 g : mg "SIGNALS" = some (.ref aS)
 ty : ∃ o, K.lookup aS = some o /\ o.cls = .type "tuple"
 sq : ∀ H, SqT K H aS J6q
abbrev B4u : Stmt := (top 76)
section
variable {P : Program} {w : World} {K : Frag} {mg : Str -> Option Value} {base : Heap}
def BadS (K : Frag) (H : Hp) (x : V) : Prop := ∃ t b, TyE K H x t /\ kitOne K t (.type "str") = some b /\ (b = false \/ ∃ z, x = .str z /\ z ∉ sigS)
def Y1q (K : Frag) (H : Hp) (v : V) : Prop := (∃ t, TyE K H v t /\ kitOne K t (.type "list") = some false) \/ (∃ (p : Addr) (zs : List Str) (x : V) (r : List V), v = .ref p /\ H p = some (.lst (zs.map V.str ++ x :: r)) /\ (∀ z ∈ zs, z ∈ sigS) /\ BadS K H x)
def U9u (K : Frag) (CB : Addr) : Sp := fun vs H Q E => ∃ v, vs = [v] /\ ((∃ (p : Addr) (zs : List Str), v = .ref p /\ H p = some (.lst (zs.map V.str)) /\ (∀ z ∈ zs, z ∈ sigS) /\ Q .non H) \/ (Y1q K H v /\ E (.ref CB) none H))
theorem scNeedS : FnScope ["names", "name"] ["names"] (A1 B4u) := scK
theorem Y1z {f CB aS : Addr} {fd : FuncData} (D : Def K mg "need_signals" ["names"] B4u f fd) (O : Own mg) (T : Kit K) (B : Err K mg "BadContext" CB) (SG : SigK K mg aS) : FnOk P w K mg base (CX1 P w) 1 f fd ["names"] (U9u K CB) := by
 refine D.F.okE scNeedS (fun vs H Q E h => ?_) (fun X cdv A outer s H vs Q E hX hr hx h => ?_)
 . obtain ⟨v, rfl, _⟩ := h
   rfl
 . subst hX
   obtain ⟨v, rfl, h⟩ := h
   refine ⟨_, (A3 (D6 (A5m (U4 (V3z O.isi (pv 0) (pty O.list_ boot_list)))) (A5 (A0w (by rfl) B.g B.q PySem.F.excBase_ValueError hr.hd hx (A0 C8 A4))) C7)
     (A5 (B8v PassesOwn.leaving rfl (D7m (pv 0)) (G7 (i := 1) scNeedS.nd rfl (Or.inl rfl)) (A5 (D6 (PW.pt (G9h (A5m (U4 (V3z O.isi (pv 1) (pty O.str_ boot_str)))) (C5p (C5 D8c (pv 1) (pcls SG.g) (by rfl))))) (A5 (A0w (by rfl) B.g B.q PySem.F.excBase_ValueError hr.hd hx (A0 C8 A4))) C7))))), ?_⟩
   have z1 : 1 <= sizeLine := D3 (by decide)
   rcases h with ⟨p, zs, rfl, hp, hz, k⟩ | ⟨(⟨t, ty, kk⟩ | ⟨p, zs, x, r, rfl, hp, hz, t, b, ty, kk, bad⟩), k⟩
   . refine ⟨_, rfl, _, _, _, _, true, rfl, rfl, A0he hp, T.list_list, _, rfl, U0 ?_⟩
     refine ⟨_, rfl, p, rfl, ⟨_, SqL.of hp⟩, A8z (xs := zs.map V.str) (fun i σ H' => H' = H /\ ∃ v, σ = [some (.ref p), v]) ⟨rfl, none, rfl⟩ ?_ ?_ ?_⟩
     . rintro i σ H' _ ⟨rfl, _⟩
       exact SqL.of hp
     . rintro i x σ H' hi ⟨rfl, v, rfl⟩
       obtain ⟨z, hzm, rfl⟩ := List.mem_map.mp (List.mem_of_getElem? hi)
       refine ⟨_, rfl, _, _, _, _, true, rfl, rfl, Y3d _, T.str_str, _, rfl, U0 ?_⟩
       refine ⟨_, rfl, aS, J6q, rfl, .inr (SG.sq _), rfl, A0k _, _, rfl, ?_⟩
       have e : inV (.str z) J6q = true := by
         show inV (.str z) (sigS.map V.str) = true
         rw [A5p]
         simpa using hz z hzm
       rw [e]
       exact U0 ⟨rfl, _, rfl⟩
     . rintro σ H' ⟨rfl, v, rfl⟩
       exact k
   . exact ⟨_, rfl, _, _, _, _, false, rfl, rfl, ty, kk, _, rfl, Y1 ⟨z1, k⟩⟩
   . refine ⟨_, rfl, _, _, _, _, true, rfl, rfl, A0he hp, T.list_list, _, rfl, U0 ?_⟩
     refine ⟨_, rfl, p, rfl, ⟨_, SqL.of hp⟩, A8z (xs := zs.map V.str ++ x :: r) (fun i σ H' => H' = H /\ i <= zs.length /\ ∃ v, σ = [some (.ref p), v]) ⟨rfl, Nat.zero_le _, none, rfl⟩ ?_ ?_ ?_⟩
     . rintro i σ H' _ ⟨rfl, _⟩
       exact SqL.of hp
     . rintro i y σ H' hi ⟨rfl, hl, v, rfl⟩
       by_cases hlt : i < zs.length
       . rw [List.getElem?_append_left (by simpa using hlt)] at hi
         obtain ⟨z, hzm, rfl⟩ := List.mem_map.mp (List.mem_of_getElem? hi)
         refine ⟨_, rfl, _, _, _, _, true, rfl, rfl, Y3d _, T.str_str, _, rfl, U0 ?_⟩
         refine ⟨_, rfl, aS, J6q, rfl, .inr (SG.sq _), rfl, A0k _, _, rfl, ?_⟩
         have e : inV (.str z) J6q = true := by
           show inV (.str z) (sigS.map V.str) = true
           rw [A5p]
           simpa using hz z hzm
         rw [e]
         exact U0 ⟨rfl, by omega, _, rfl⟩
       . have e : i = zs.length := by omega
         subst e
         rw [List.getElem?_append_right (by simp)] at hi
         simp at hi
         subst hi
         refine ⟨_, rfl, _, _, _, _, b, rfl, rfl, ty, kk, _, rfl, ?_⟩
         cases b with
         | false => exact Y1 (Y1 ⟨z1, k⟩)
         | true =>
           obtain ⟨z, rfl, nz⟩ := bad.resolve_left (by decide)
           refine U0 ⟨_, rfl, aS, J6q, rfl, .inr (SG.sq _), rfl, A0k _, _, rfl, ?_⟩
           have e : inV (.str z) J6q = false := by
             show inV (.str z) (sigS.map V.str) = false
             rw [A5p]
             simpa using nz
           rw [e]
           exact Y1 ⟨z1, k⟩
     . rintro σ H' ⟨rfl, hl, _⟩
       exfalso
       rw [List.length_append, List.length_map, List.length_cons] at hl
       omega
end
abbrev B4k : Stmt := (top 77)
section
variable {P : Program} {w : World} {K : Frag} {mg : Str -> Option Value} {base : Heap}
def V9 (zs : List Str) : List Str := sigS.filter fun z => zs.contains z
def U9q (K : Frag) : Sp := fun vs H Q _ => ∃ (p : Addr) (zs : List Str), vs = [.ref p] /\ SqL K H p (zs.map V.str) /\ ∀ l H', Same H H' -> H l = none -> H' l = some (.lst ((V9 zs).map V.str)) -> Q (.ref l) H'
theorem A0ca : FnScope ["names"] ["names"] (A1 B4k) := scK
theorem Y4f {f aS : Addr} {fd : FuncData} (D : Def K mg "in_order" ["names"] B4k f fd) (SG : SigK K mg aS) : FnOk P w K mg base (CX1 P w) 1 f fd ["names"] (U9q K) := by
 refine FnOk.up (D.F.ok A0ca (fun vs H Q E h => ?_) (fun cdv A outer s H vs Q E hr h => ?_))
 . obtain ⟨p, zs, rfl, _⟩ := h
   rfl
 . obtain ⟨p, zs, rfl, hp, k⟩ := h
   refine ⟨_, (A5 (A9 (Y2y (N := ["name"]) (F := ["names"]) (js := [0]) (CompScopeF.of1 ⟨rfl, by decide +kernel, by decide +kernel, by decide +kernel, by decide +kernel⟩ (by rfl) (by rfl) ⟨_, by rfl⟩ (by rfl) (by rfl)) (.inl hr.hd) (A0bv (pcls SG.g)) rfl (fun C s₀ H₀ ex pn h => G7 (i := 0) (by decide +kernel : (["name", "names"] : List Str).Nodup) rfl (Or.inl rfl)) (fun C s₀ H₀ ex pn h => (C5 (J6g (K := K) rfl) (pv 0) (pv 1) (by rfl))) (fun C s₀ H₀ ex pn h => (pv 0))))), ?_⟩
   refine Y0g (zs := sigS) (f := fun z => zs.contains z) (σf := [some (.ref p)]) SG.sq (by decide) (fun z H' Qb sm q => ?_) (fun z H' Qv q => ⟨_, rfl, q⟩) (fun D H' sm nd e => k D H' sm nd e) rfl
   refine ⟨_, rfl, _, rfl, p, _, rfl, .inl (sm.seq hp), rfl, A0k _, _, rfl, ?_⟩
   show Qb (inV (.str z) (zs.map V.str)) H'
   rw [A5p]
   exact q
end
structure CtxC (K : Frag) (mg : Str -> Option Value) (CC : Addr) : Prop where
 g : mg "Context" = some (.ref CC)
 cl : Cls K CC
 n_room : NoAttr K CC "room"
 n_rule : NoAttr K CC "rule"
 n_least : NoAttr K CC "least"
 n_most : NoAttr K CC "most"
 n_risen : NoAttr K CC "risen"
 n_trapped : NoAttr K CC "trapped"
def A2x (r s l m a b : V) : List (Str × V) := U9 "trapped" b (U9 "risen" a (U9 "most" m (U9 "least" l (U9 "rule" s (U9 "room" r [])))))
theorem A2z (r s l m a b : V) (n : Str) : (A2x r s l m a b).lookup n = if n = "trapped" then some b else if n = "risen" then some a else if n = "most" then some m else if n = "least" then some l else if n = "rule" then some s else if n = "room" then some r else none := by
 unfold A2x
 rw [G5, G5, G5, G5, G5, G5]
 rfl
theorem A9b (r s l m a b : V) : (A2x r s l m a b).lookup ("room" : Str) = some r := by rw [A2z, if_neg (by decide +kernel), if_neg (by decide +kernel), if_neg (by decide +kernel), if_neg (by decide +kernel), if_neg (by decide +kernel), if_pos rfl]
theorem Y2p (r s l m a b : V) : (A2x r s l m a b).lookup ("rule" : Str) = some s := by rw [A2z, if_neg (by decide +kernel), if_neg (by decide +kernel), if_neg (by decide +kernel), if_neg (by decide +kernel), if_pos rfl]
theorem D5h (r s l m a b : V) : (A2x r s l m a b).lookup ("least" : Str) = some l := by rw [A2z, if_neg (by decide +kernel), if_neg (by decide +kernel), if_neg (by decide +kernel), if_pos rfl]
theorem C6f (r s l m a b : V) : (A2x r s l m a b).lookup ("most" : Str) = some m := by rw [A2z, if_neg (by decide +kernel), if_neg (by decide +kernel), if_pos rfl]
theorem D5x (r s l m a b : V) : (A2x r s l m a b).lookup ("risen" : Str) = some a := by rw [A2z, if_neg (by decide +kernel), if_pos rfl]
theorem G9x (r s l m a b : V) : (A2x r s l m a b).lookup ("trapped" : Str) = some b := by rw [A2z, if_pos rfl]
theorem B4f (r s l m a b : V) : (A2x r s l m a b).lookup ("way" : Str) = none := by rw [A2z, if_neg (by decide +kernel), if_neg (by decide +kernel), if_neg (by decide +kernel), if_neg (by decide +kernel), if_neg (by decide +kernel), if_neg (by decide +kernel)]
theorem B3p (r s l m a b : V) : (A2x r s l m a b).lookup ("lowest" : Str) = none := by rw [A2z, if_neg (by decide +kernel), if_neg (by decide +kernel), if_neg (by decide +kernel), if_neg (by decide +kernel), if_neg (by decide +kernel), if_neg (by decide +kernel)]
theorem D8q (r s l m a b : V) : (A2x r s l m a b).lookup ("flags" : Str) = none := by rw [A2z, if_neg (by decide +kernel), if_neg (by decide +kernel), if_neg (by decide +kernel), if_neg (by decide +kernel), if_neg (by decide +kernel), if_neg (by decide +kernel)]
theorem D8s (r s l m a b : V) : (A2x r s l m a b).lookup ("clear" : Str) = none := by rw [A2z, if_neg (by decide +kernel), if_neg (by decide +kernel), if_neg (by decide +kernel), if_neg (by decide +kernel), if_neg (by decide +kernel), if_neg (by decide +kernel)]
theorem B3n (r s l m a b : V) : (A2x r s l m a b).lookup ("raised" : Str) = none := by rw [A2z, if_neg (by decide +kernel), if_neg (by decide +kernel), if_neg (by decide +kernel), if_neg (by decide +kernel), if_neg (by decide +kernel), if_neg (by decide +kernel)]
structure CtxAt (CC : Addr) (H : Hp) (c : Addr) (r : Int) (y : Wy) (l m : Int) (a b : Addr) (xs ys : List V) : Prop where
 ins : ∃ dx, H c = some (.ins CC dx (A2x (.int r) (.str y.name) (.int l) (.int m) (.ref a) (.ref b)))
 ha : H a = some (.lst xs)
 hb : H b = some (.lst ys)
theorem CtxAt.same {CC : Addr} {H H' : Hp} {c : Addr} {r : Int} {y : Wy} {l m : Int} {a b : Addr} {xs ys : List V} (h : CtxAt CC H c r y l m a b xs ys) (e : Same H H') : CtxAt CC H' c r y l m a b xs ys := by
 obtain ⟨⟨dx, z⟩, z1, z2⟩ := h
 exact ⟨⟨dx, e _ _ z⟩, e _ _ z1, e _ _ z2⟩
section
variable {P : Program} {w : World} {K : Frag} {mg : Str -> Option Value} {base : Heap}
abbrev Z6 : Stmt := (G8 (top 74) 0)
abbrev B2h : Stmt := (G8 (top 74) 1)
abbrev B2j : Stmt := (G8 (top 74) 2)
abbrev A2q : Stmt := (G8 (top 74) 3)
def J6r (l : Int) (v : V) : Prop := (v = .non /\ l = -60) \/ (v = .int l /\ -60 <= l /\ l <= 0)
def A0jq (K : Frag) (S : Hp -> Prop) (v1 v2 v3 v4 : V) : Prop := (∀ H', S H' -> D1v K H' 1 24 v1) \/ (B3r 1 24 v1 /\ ((∀ H', S H' -> A0ha K H' v2) \/ ((∃ y : Wy, v2 = .str y.name) /\ ((v3 ≠ .non /\ ∀ H', S H' -> D1v K H' (-60) 0 v3) \/ ((∃ l, J6r l v3) /\ ∀ H', S H' -> D1v K H' 0 60 v4)))))
theorem Exc.none {p a : Addr} {H H' : Hp} {o : HO} (x : Exc p H H') (hp : H' p = some o) (n : H' a = none) : H a = none := by
 cases q : H a with
 | none => rfl
 | some u =>
   have := x a u q (fun e => by rw [e, hp] at n; cases n)
   rw [n] at this
   cases this
def B8n (K : Frag) (CC CB : Addr) : Sp := fun vs H Q E => ∃ p dx v1 v2 v3 v4, vs = [.ref p, v1, v2, v3, v4] /\ H p = some (.ins CC dx []) /\
 ((∃ r y l m, v1 = .int r /\ 1 <= r /\ r <= 24 /\ v2 = .str (Wy.name y) /\ J6r l v3 /\ v4 = .int m /\ 0 <= m /\ m <= 60 /\ ∀ a b H', Exc p H H' -> H a = none -> H b = none -> CtxAt CC H' p r y l m a b [] [] -> Q .non H') \/
  (A0jq K (Exc p H) v1 v2 v3 v4 /\ ∀ H', Exc p H H' -> E (.ref CB) none H'))
theorem V4m : FnScope ["self", "room", "way", "least", "most"] ["self", "room", "way", "least", "most"] (A1 Z6) := scK
theorem Y0w : B7p 1 24 := by unfold B7p; decide +kernel
theorem J6w : B7p (-60) 0 := by unfold B7p; decide +kernel
theorem Y1h : B7p 0 60 := by unfold B7p; decide +kernel
theorem J5q {f fB fW CC CB CW : Addr} {dV : Value} {cw : Wy -> Addr} {fd fdB fdW : FuncData} (F : FunD K "__init__" "Context.__init__" Z6 dV f fd) (D_bounded : Def K mg "bounded" ["thing", "least", "most"] A2t fB fdB) (D_way_of : Def K mg "way_of" ["name"] A9h fW fdW)
   (G_bounded : FnOk P w K mg base (CX1 P w) 2 fB fdB ["thing", "least", "most"] (D6g K CB)) (G_way_of : FnOk P w K mg base (CX1 P w) 1 fW fdW ["name"] (D8f K CB cw)) (C : CtxC K mg CC)
   (W : ∀ y : Wy, WayC K mg y.cls (cw y) CW) (N : ∀ y : Wy, WayN P w K mg base (cw y) y.name) : FnOk P w K mg base (CX1 P w) 3 f fd ["self", "room", "way", "least", "most"] (B8n K CC CB) := by
 refine F.okE V4m (fun vs H Q E h => ?_) (fun X cdv A outer s H vs Q E hX hr hx h => ?_)
 . obtain ⟨p, dx, v1, v2, v3, v4, rfl, _⟩ := h
   rfl
 . subst hX
   obtain ⟨p, dx, v1, v2, v3, v4, rfl, hp, h⟩ := h
   obtain ⟨y, hy⟩ : ∃ y : Wy, ∀ z : Wy, v2 = .str z.name -> z = y := by
     by_cases q : ∃ z : Wy, v2 = .str z.name
     . obtain ⟨z, rfl⟩ := q
       exact ⟨z, fun u e => Wy.inj (V.str.inj e.symm)⟩
     . exact ⟨.down, fun z e => absurd ⟨z, e⟩ q⟩
   obtain ⟨fN, fdN, mN, gN, bN⟩ := N y
   refine ⟨_, (A3 (Y4 (pv 0) (C6 D_bounded G_bounded hr hx (A0 (pv 1) (A0 A2 (A0 A2 A4)))) rfl)
     (A3 (Y4 (pv 0) (A3d (C6 D_way_of G_way_of hr hx (A0 (pv 2) A4)) (W y).cl mN gN hr bN .nil hx) rfl)
     (A3 (B8 (Y4 (pv 0) (U2 (C5 J6t (pv 3) D8j (B9 _)) (A8p A1r A2) (C6 D_bounded G_bounded hr hx (A0 (pv 3) (A0 (A8p A1r A2) (A0 A2 A4))))) rfl))
     (A3 (Y4 (pv 0) (C6 D_bounded G_bounded hr hx (A0 (pv 4) (A0 A2 (A0 A2 A4)))) rfl)
     (A3 (Y4 (pv 0) (J2 A4) rfl)
     (A5 (Y4 (pv 0) (J2 A4) rfl))))))), ?_⟩
   have lz : ∀ (fs : List (Str × V)) (f : Str) (v : V) (n : Nat), fs.length <= n -> (U9 f v fs).length <= n + 1 := fun fs f v n h => Nat.le_trans (A1a f v fs) (Nat.succ_le_succ h)
   have q0 : (([] : List (Str × V))).length <= 0 := Nat.le_refl _
   have z0 : 0 <= sizeLine := Nat.zero_le _
   rcases h with ⟨r, y', l, m, rfl, r1, r2, rfl, hl, rfl, m1, m2, k⟩ | ⟨bad, k⟩
   . obtain rfl := hy _ rfl
     refine ⟨_, rfl, _, _, _, rfl, Y0w, .inl ⟨⟨r, rfl, r1, r2⟩, ?_⟩⟩
     refine ⟨_, rfl, p, CC, dx, [], rfl, hp, C.cl, C.n_room, by show 0 < 1000; decide, ?_⟩
     refine ⟨_, rfl, _, rfl, .inl ⟨_, rfl, fun q dq H2 nq s2 eq => ⟨q, dq, [], rfl, eq, rfl, _, rfl, ?_⟩⟩⟩
     have hp2 := s2 _ _ (A6 (H := H) (a := p) (o := .ins CC dx (U9 "room" (.int r) [])))
     have x2 : Exc p H H2 := (Exc.upd (H := H) (o := .ins CC dx (U9 "room" (.int r) []))).trans (.of s2)
     refine ⟨_, rfl, p, CC, dx, _, rfl, hp2, C.cl, C.n_rule, Nat.lt_of_le_of_lt (lz _ _ _ 0 q0) (by decide), ?_⟩
     refine ⟨fun σ' H' => σ' = [some (.ref p), some (.int r), some (.str y'.name), some v3, some (.int m)] /\ Exc p H H' /\ H' p = some (.ins CC dx (U9 "least" (.int l) (U9 "rule" (.str y'.name) (U9 "room" (.int r) [])))), ?_, ?_⟩
     . refine ⟨_, rfl, rfl, _, rfl, ?_⟩
       rcases hl with ⟨rfl, rfl⟩ | ⟨rfl, l1, l2⟩
       . refine A1x rfl ⟨_, rfl, ?_⟩
         exact ⟨_, rfl, p, CC, dx, _, rfl, A6, C.cl, C.n_least, Nat.lt_of_le_of_lt (lz _ _ _ 1 (lz _ _ _ 0 q0)) (by decide), rfl, (x2.trans Exc.upd).trans Exc.upd, A6⟩
       . refine J9 (by intro z; cases z) ⟨_, rfl, _, rfl, _, _, _, rfl, J6w, .inl ⟨⟨l, rfl, l1, l2⟩, ?_⟩⟩
         exact ⟨_, rfl, p, CC, dx, _, rfl, A6, C.cl, C.n_least, Nat.lt_of_le_of_lt (lz _ _ _ 1 (lz _ _ _ 0 q0)) (by decide), rfl, (x2.trans Exc.upd).trans Exc.upd, A6⟩
     rintro σ' H4 ⟨rfl, x4, hp4⟩
     refine ⟨_, rfl, _, _, _, rfl, Y1h, .inl ⟨⟨m, rfl, m1, m2⟩, ?_⟩⟩
     refine ⟨_, rfl, p, CC, dx, _, rfl, hp4, C.cl, C.n_most, Nat.lt_of_le_of_lt (lz _ _ _ 2 (lz _ _ _ 1 (lz _ _ _ 0 q0))) (by decide), ?_⟩
     refine ⟨z0, fun a na => ?_⟩
     refine ⟨_, rfl, p, CC, dx, _, rfl, Same.upd na _ _ A6, C.cl, C.n_risen, Nat.lt_of_le_of_lt (lz _ _ _ 3 (lz _ _ _ 2 (lz _ _ _ 1 (lz _ _ _ 0 q0)))) (by decide), ?_⟩
     refine ⟨z0, fun b nb => ?_⟩
     refine ⟨_, rfl, p, CC, dx, _, rfl, Same.upd nb _ _ A6, C.cl, C.n_trapped, Nat.lt_of_le_of_lt (lz _ _ _ 4 (lz _ _ _ 3 (lz _ _ _ 2 (lz _ _ _ 1 (lz _ _ _ 0 q0))))) (by decide), ?_⟩
     have x5 := x4.trans (Exc.upd (H := H4) (o := .ins CC dx (U9 "most" (.int m) (U9 "least" (.int l) (U9 "rule" (.str y'.name) (U9 "room" (.int r) []))))))
     have nap : a ≠ p := fun e => by rw [e, A6] at na; cases na
     have nbp : b ≠ p := fun e => by rw [e, A6] at nb; cases nb
     have x6 := (x5.trans (.of (Same.upd (o := .lst []) na))).trans (Exc.upd (o := .ins CC dx (U9 "risen" (.ref a) (U9 "most" (.int m) (U9 "least" (.int l) (U9 "rule" (.str y'.name) (U9 "room" (.int r) [])))))))
     have x7 := (x6.trans (.of (Same.upd (o := .lst []) nb))).trans (Exc.upd (o := .ins CC dx (A2x (.int r) (.str y'.name) (.int l) (.int m) (.ref a) (.ref b))))
     refine k a b _ x7 (x5.none A6 na) (x6.none A6 nb) ⟨⟨dx, A6⟩, ?_, ?_⟩
     . rw [D5 nap]
       refine Same.upd nb _ _ ?_
       rw [D5 nap]
       exact A6
     . rw [D5 nbp]
       exact A6
   . rcases bad with b1 | ⟨⟨r, rfl, r1, r2⟩, bad⟩
     . exact ⟨_, rfl, _, _, _, rfl, Y0w, .inr ⟨b1 _ (Exc.refl p H), k _ (Exc.refl p H)⟩⟩
     refine ⟨_, rfl, _, _, _, rfl, Y0w, .inl ⟨⟨r, rfl, r1, r2⟩, ?_⟩⟩
     refine ⟨_, rfl, p, CC, dx, [], rfl, hp, C.cl, C.n_room, by show 0 < 1000; decide, ?_⟩
     have x1 : Exc p H (upd H p (.ins CC dx (U9 "room" (.int r) []))) := Exc.upd
     rcases bad with b2 | ⟨⟨y', rfl⟩, bad⟩
     . exact ⟨_, rfl, _, rfl, .inr ⟨b2 _ x1, k _ x1⟩⟩
     obtain rfl := hy _ rfl
     refine ⟨_, rfl, _, rfl, .inl ⟨_, rfl, fun q dq H2 nq s2 eq => ⟨q, dq, [], rfl, eq, rfl, _, rfl, ?_⟩⟩⟩
     have hp2 := s2 _ _ (A6 (H := H) (a := p) (o := .ins CC dx (U9 "room" (.int r) [])))
     have x2 : Exc p H H2 := x1.trans (.of s2)
     refine ⟨_, rfl, p, CC, dx, _, rfl, hp2, C.cl, C.n_rule, Nat.lt_of_le_of_lt (lz _ _ _ 0 q0) (by decide), ?_⟩
     rcases bad with ⟨n3, b3⟩ | ⟨⟨l, hl⟩, b4⟩
     . refine ⟨fun _ _ => False, ?_, fun _ _ z => z.elim⟩
       refine ⟨_, rfl, rfl, _, rfl, J9 n3 ?_⟩
       exact ⟨_, rfl, _, rfl, _, _, _, rfl, J6w, .inr ⟨b3 _ (x2.trans Exc.upd), k _ (x2.trans Exc.upd)⟩⟩
     refine ⟨fun σ' H' => σ' = [some (.ref p), some (.int r), some (.str y'.name), some v3, some v4] /\ Exc p H H', ?_, ?_⟩
     . refine ⟨_, rfl, rfl, _, rfl, ?_⟩
       rcases hl with ⟨rfl, rfl⟩ | ⟨rfl, l1, l2⟩
       . refine A1x rfl ⟨_, rfl, ?_⟩
         exact ⟨_, rfl, p, CC, dx, _, rfl, A6, C.cl, C.n_least, Nat.lt_of_le_of_lt (lz _ _ _ 1 (lz _ _ _ 0 q0)) (by decide), rfl, (x2.trans Exc.upd).trans Exc.upd⟩
       . refine J9 (by intro z; cases z) ⟨_, rfl, _, rfl, _, _, _, rfl, J6w, .inl ⟨⟨l, rfl, l1, l2⟩, ?_⟩⟩
         exact ⟨_, rfl, p, CC, dx, _, rfl, A6, C.cl, C.n_least, Nat.lt_of_le_of_lt (lz _ _ _ 1 (lz _ _ _ 0 q0)) (by decide), rfl, (x2.trans Exc.upd).trans Exc.upd⟩
     rintro σ' H4 ⟨rfl, x4⟩
     exact ⟨_, rfl, _, _, _, rfl, Y1h, .inr ⟨b4 _ x4, k _ x4⟩⟩
end
section
variable {P : Program} {w : World} {K : Frag} {mg : Str -> Option Value} {base : Heap}
def C7c (CC : Addr) (cw : Wy -> Addr) : Sp := fun vs H Q _ => ∃ c r y l m a b xs ys, vs = [.ref c] /\ CtxAt CC H c r y l m a b xs ys /\ ∀ p dx H', H p = none -> Same H H' -> H' p = some (.ins (cw y) dx []) -> Q (.ref p) H'
theorem Y2a : FnScope ["self"] ["self"] (A1 B2h) := scK
theorem V4h {f fW CC CB : Addr} {cw : Wy -> Addr} {fd fdW : FuncData} (F : Fun K "way" "Context.way" B2h f fd) (D_way_of : Def K mg "way_of" ["name"] A9h fW fdW) (G_way_of : FnOk P w K mg base (CX1 P w) 1 fW fdW ["name"] (D8f K CB cw)) (C : CtxC K mg CC) :
   FnOk P w K mg base (CX1 P w) 2 f fd ["self"] (C7c CC cw) := by
 refine F.okE Y2a (fun vs H Q E h => ?_) (fun X cdv A outer s H vs Q E hX hr hx h => ?_)
 . obtain ⟨c, r, y, l, m, a, b, xs, ys, rfl, _⟩ := h
   rfl
 . subst hX
   obtain ⟨c, r, y, l, m, a, b, xs, ys, rfl, ⟨⟨dx, e⟩, _, _⟩, k⟩ := h
   refine ⟨_, (A5 (A9 (C6 D_way_of G_way_of hr hx (A0 (D4 (pv 0) rfl) A4)))), ?_⟩
   exact ⟨_, rfl, c, CC, dx, _, _, rfl, e, C.cl, C.n_rule, Y2p _ _ _ _ _ _, _, rfl, .inl ⟨y, rfl, k⟩⟩
def C6h (CC : Addr) : Sp := fun vs H Q _ => ∃ c r y l m a b xs ys, vs = [.ref c] /\ CtxAt CC H c r y l m a b xs ys /\ Q (.int (l - r + 1)) H
theorem Y3t : FnScope ["self"] ["self"] (A1 B2j) := scK
theorem V2k {f CC : Addr} {fd : FuncData} (F : Fun K "lowest" "Context.lowest" B2j f fd) (C : CtxC K mg CC) : FnOk P w K mg base (CX1 P w) 1 f fd ["self"] (C6h CC) := by
 refine FnOk.up (F.ok Y3t (fun vs H Q E h => ?_) (fun cdv A outer s H vs Q E hr h => ?_))
 . obtain ⟨c, r, y, l, m, a, b, xs, ys, rfl, _⟩ := h
   rfl
 . obtain ⟨c, r, y, l, m, a, b, xs, ys, rfl, ⟨⟨dx, e⟩, _, _⟩, k⟩ := h
   refine ⟨_, (A5 (A9 (B5 G9 (B5 J1 (D4 (pv 0) rfl) (D4 (pv 0) rfl)) A2))), ?_⟩
   exact ⟨_, rfl, c, CC, dx, _, _, rfl, e, C.cl, C.n_least, D5h _ _ _ _ _ _, _, rfl, c, CC, dx, _, _, rfl, e, C.cl, C.n_room, A9b _ _ _ _ _ _, _, _, rfl, rfl, _, _, rfl, rfl, k⟩
def B4a (CC : Addr) : Sp := fun vs H Q _ => ∃ c r y l m a b xs ys, vs = [.ref c] /\ CtxAt CC H c r y l m a b xs ys /\ ∀ p, H p = none -> Q (.ref p) (upd H p (.lst xs))
theorem J6z : FnScope ["self"] ["self"] (A1 A2q) := scK
theorem J0j {f CC : Addr} {fd : FuncData} (F : Fun K "flags" "Context.flags" A2q f fd) (C : CtxC K mg CC) (O : Own mg) : FnOk P w K mg base (CX1 P w) 1 f fd ["self"] (B4a CC) := by
 refine FnOk.up (F.ok J6z (fun vs H Q E h => ?_) (fun cdv A outer s H vs Q E hr h => ?_))
 . obtain ⟨c, r, y, l, m, a, b, xs, ys, rfl, _⟩ := h
   rfl
 . obtain ⟨c, r, y, l, m, a, b, xs, ys, rfl, ⟨⟨dx, e⟩, ha, _⟩, k⟩ := h
   refine ⟨_, (A5 (A9 (V6 D8g (by rfl) O.list_ boot_list (A0 (D4 (pv 0) rfl) A4)))), ?_⟩
   exact ⟨_, rfl, c, CC, dx, _, _, rfl, e, C.cl, C.n_risen, D5x _ _ _ _ _ _, a, xs, rfl, .inl (SqL.of ha), k⟩
structure MakeC (P : Program) (w : World) (K : Frag) (mg : Str -> Option Value) (base : Heap) (CC CB fI : Addr) (fdI : FuncData) : Prop where
 m : Mk K CC fI
 g : FnOk P w K mg base (CX1 P w) 3 fI fdI ["self", "room", "way", "least", "most"] (B8n K CC CB)
theorem A0ch {C x dx : Addr} {H H' : Hp} (n1 : H x = none) (n2 : H dx = none) (ne : dx ≠ x) (e : Exc x (upd (upd H dx (.own x)) x (.ins C dx [])) H') : Same H H' := fun b o h =>
 e b o (by rw [D5 (G2 h n1), D5 (G2 h n2)]; exact h) (G2 h n1)
theorem A0ra {CC CB x dx : Addr} {H : Hp} {Q : VK} {E : XK} {v1 v2 v3 v4 : V} {r : Int} {y : Wy} {l m : Int} (n1 : H x = none) (n2 : H dx = none) (ne : dx ≠ x) (h1 : v1 = .int r) (r1 : 1 <= r) (r2 : r <= 24) (h2 : v2 = .str y.name) (h3 : J6r l v3) (h4 : v4 = .int m) (m1 : 0 <= m) (m2 : m <= 60)
   (k : ∀ a b H', Same H H' -> CtxAt CC H' x r y l m a b [] [] -> Q .non H') : B8n K CC CB [.ref x, v1, v2, v3, v4] (upd (upd H dx (.own x)) x (.ins CC dx [])) Q E :=
 ⟨x, dx, v1, v2, v3, v4, rfl, A6, .inl ⟨r, y, l, m, h1, r1, r2, h2, h3, h4, m1, m2, fun a b H' e _ _ c => k a b H' (A0ch n1 n2 ne e) c⟩⟩
end
abbrev B2p : Stmt := (G8 (top 14) 0)
section
variable {P : Program} {w : World} {K : Frag} {mg : Str -> Option Value} {base : Heap}
theorem Y1n : FnScope ["self", "signal"] ["self", "signal"] (A1 B2p) := scK
theorem V4c {f CT fI : Addr} {fd : FuncData} (F : Fun K "__init__" "Trapped.__init__" B2p f fd) (XI : ExcI K CT fI) (hn : findIn K (.ref CT) "signal" = some none) : FnOk P w K mg base CX0 1 f fd ["self", "signal"] (D7z CT "signal") := by
 refine F.ok Y1n (fun vs H Q E h => ?_) (fun cdv A outer s H vs Q E hr h => ?_)
 . obtain ⟨e, t, v, rfl, _⟩ := h
   rfl
 . obtain ⟨e, t, v, rfl, he, k⟩ := h
   refine ⟨_, (A5 (A0ax XI hn (pv 0) (pv 1) rfl)), ?_⟩
   exact ⟨_, rfl, _, rfl, e, t, rfl, he, fun d nd ne => k d nd ne⟩
end
abbrev A0p : Stmt := (G8 (top 74) 7)
theorem G9n (r s l m a b : V) : (A2x r s l m a b).length = 6 := rfl
theorem C6k (r s l m a b v : V) : U9 "risen" v (A2x r s l m a b) = A2x r s l m v b := rfl
section
variable {P : Program} {w : World} {K : Frag} {mg : Str -> Option Value} {base : Heap}
def hit (ys zs : List Str) : Option Str := ys.find? fun t => zs.contains t
def C5u (K : Frag) (CC CB CT : Addr) : Sp := fun vs H Q E => ∃ c r y l m a b, ∃ (xs ys : List Str) (v : V), vs = [.ref c, v] /\ CtxAt CC H c r y l m a b (xs.map V.str) (ys.map V.str) /\ xs.length + 100 <= 1000 /\
 ((∃ (p : Addr) (zs : List Str), v = .ref p /\ H p = some (.lst (zs.map V.str)) /\ zs.length <= 100 /\ (∀ z ∈ zs, z ∈ sigS) /\
     (hit ys zs = none -> ∀ a' H', Exc c H H' -> H a' = none -> CtxAt CC H' c r y l m a' b ((V9 (xs ++ zs)).map V.str) (ys.map V.str) -> Q .non H') /\
     (∀ t, hit ys zs = some t -> ∀ a' d H', Exc c H H' -> H a' = none -> CtxAt CC H' c r y l m a' b ((V9 (xs ++ zs)).map V.str) (ys.map V.str) -> H d = none -> H' d = some (.xd [("signal", .str t)]) -> E (.ref CT) (some d) H')) \/
  (Y1q K H v /\ E (.ref CB) none H))
theorem scRaised : FnScope ["self", "names", "name"] ["self", "names"] (A1 A0p) := scK
theorem V3m {f f1 f2 fX CC CB CT : Addr} {fd fd1 fd2 fdX : FuncData} (F : Fun K "raised" "Context.raised" A0p f fd) (D_need_signals : Def K mg "need_signals" ["names"] B4u f1 fd1) (G_need_signals : FnOk P w K mg base (CX1 P w) 1 f1 fd1 ["names"] (U9u K CB))
   (D_in_order : Def K mg "in_order" ["names"] B4k f2 fd2) (G_in_order : FnOk P w K mg base (CX1 P w) 1 f2 fd2 ["names"] (U9q K)) (C : CtxC K mg CC)
   (gT : mg "Trapped" = some (.ref CT)) (XI : ExcI K CT fX) (GX : FnOk P w K mg base CX0 1 fX fdX ["self", "signal"] (D7z CT "signal")) (BX : Binds K fdX ["self", "signal"] []) : FnOk P w K mg base (CX1 P w) 3 f fd ["self", "names"] (C5u K CC CB CT) := by
 refine F.okE scRaised (fun vs H Q E h => ?_) (fun X cdv A outer s H vs Q E hX hr hx h => ?_)
 . obtain ⟨c, r, y, l, m, a, b, xs, ys, v, rfl, _⟩ := h
   rfl
 . subst hX
   obtain ⟨c, r, y, l, m, a, b, xs, ys, v, rfl, ⟨⟨dx, e⟩, ha, hb⟩, lx, h⟩ := h
   refine ⟨_, (A3 (U8 (C6 D_need_signals G_need_signals hr hx (A0 (pv 1) A4)))
     (A3 (Y4 (pv 0) (C6 D_in_order G_in_order hr hx (A0 (B5 D8v (D4 (pv 0) rfl) (pv 1)) A4)) rfl)
     (A5 (B8v PassesOwn.leaving rfl (D7m (D4 (pv 0) rfl)) (G7 (i := 2) scRaised.nd rfl (Or.inl rfl)) (A5 (D6 (C5 A2n (pv 2) (pv 1) (by rfl)) (A5 (V2q gT XI GX BX hr hx (A0 (pv 2) A4))) C7)))))), ?_⟩
   rcases h with ⟨p, zs, rfl, hp, lz, hz, k1, k2⟩ | ⟨bad, k⟩
   . refine ⟨_, rfl, _, rfl, .inl ⟨p, zs, rfl, hp, hz, ?_⟩⟩
     refine ⟨_, rfl, c, CC, dx, _, _, rfl, e, C.cl, C.n_risen, D5x _ _ _ _ _ _, _, rfl, a, p, _, _, rfl, rfl, ha, hp, D3 (by rw [List.length_map, List.length_map]; omega), fun q nq => ?_⟩
     have u1 := Same.upd (o := .lst (xs.map V.str ++ zs.map V.str)) nq
     refine ⟨q, xs ++ zs, rfl, SqL.of (by rw [A6, List.map_append]), fun a' H1 s1 n1 e1 => ?_⟩
     have s2 := u1.trans s1
     refine ⟨_, rfl, c, CC, dx, _, rfl, s2 _ _ e, C.cl, C.n_risen, by rw [G9n]; decide, ?_⟩
     rw [C6k]
     have nbc : b ≠ c := A8r hb e (by intro z; cases z)
     have npc : p ≠ c := A8r hp e (by intro z; cases z)
     have nac : a' ≠ c := A8r e1 (s2 _ _ e) (by intro z; cases z)
     have x2 : Exc c H (upd H1 c (.ins CC dx (A2x (.int r) (.str y.name) (.int l) (.int m) (.ref a') (.ref b)))) := (Exc.of s2).trans Exc.upd
     have hb2 : (upd H1 c (.ins CC dx (A2x (.int r) (.str y.name) (.int l) (.int m) (.ref a') (.ref b)))) b = some (.lst (ys.map V.str)) := by rw [D5 nbc]; exact s2 _ _ hb
     have hp2 : (upd H1 c (.ins CC dx (A2x (.int r) (.str y.name) (.int l) (.int m) (.ref a') (.ref b)))) p = some (.lst (zs.map V.str)) := by rw [D5 npc]; exact s2 _ _ hp
     have ct : CtxAt CC (upd H1 c (.ins CC dx (A2x (.int r) (.str y.name) (.int l) (.int m) (.ref a') (.ref b)))) c r y l m a' b ((V9 (xs ++ zs)).map V.str) (ys.map V.str) := ⟨⟨dx, A6⟩, by rw [D5 nac]; exact e1, hb2⟩
     refine ⟨_, rfl, c, CC, dx, _, _, rfl, A6, C.cl, C.n_trapped, G9x _ _ _ _ _ _, b, rfl, ⟨_, SqL.of hb2⟩, ?_⟩
     generalize upd H1 c (.ins CC dx (A2x (.int r) (.str y.name) (.int l) (.int m) (.ref a') (.ref b))) = H3 at x2 hb2 hp2 ct ⊢
     refine A8z (xs := ys.map V.str) (fun i σ H' => H' = H3 /\ (∀ t ∈ ys.take i, zs.contains t = false) /\ ∃ v, σ = [some (.ref c), some (.ref p), v]) ⟨rfl, by simp, none, rfl⟩ ?_ ?_ ?_
     . rintro i σ H' _ ⟨rfl, _⟩
       exact SqL.of hb2
     . rintro i x σ H' hi ⟨rfl, ht, v, rfl⟩
       rw [List.getElem?_map] at hi
       obtain ⟨t, hti, rfl⟩ := Option.map_eq_some_iff.mp hi
       refine ⟨_, rfl, _, rfl, p, _, rfl, .inl (SqL.of hp2), rfl, A0k _, _, rfl, ?_⟩
       have hlt : i < ys.length := (List.getElem?_eq_some_iff.mp hti).1
       have et : ys.take (i + 1) = ys.take i ++ [t] := by
         rw [List.take_succ_eq_append_getElem hlt, (List.getElem?_eq_some_iff.mp hti).2]
       cases hc : zs.contains t with
       | false =>
         rw [show (if false = true then !inV (V.str t) (zs.map V.str) else inV (V.str t) (zs.map V.str)) = false by rw [if_neg Bool.false_ne_true, A5p, hc]]
         refine U0 ⟨rfl, fun t' h' => ?_, _, rfl⟩
         rw [et] at h'
         rcases List.mem_append.mp h' with h' | h'
         . exact ht t' h'
         . rw [List.mem_singleton.mp h']; exact hc
       | true =>
         rw [show (if false = true then !inV (V.str t) (zs.map V.str) else inV (V.str t) (zs.map V.str)) = true by rw [if_neg Bool.false_ne_true, A5p, hc]]
         obtain ⟨dx', hc3⟩ := ct.ins
         refine Y1 ⟨_, rfl, _, rfl, fun d H4 s4 nd e4 => ?_⟩
         refine k2 t ?_ a' d H4 (x2.trans (.of s4)) ((u1.free n1)) (ct.same s4) (x2.none hc3 nd) e4
         unfold hit
         rw [List.find?_eq_some_iff_append]
         refine ⟨hc, ys.take i, ys.drop (i + 1), ?_, fun t' h' => by rw [ht t' h']; rfl⟩
         have := List.take_append_drop (i + 1) ys
         rw [et] at this
         rw [List.append_assoc] at this
         exact this.symm
     . rintro σ H' ⟨rfl, ht, v, rfl⟩
       refine k1 ?_ a' _ x2 (u1.free n1) ct
       unfold hit
       rw [List.find?_eq_none]
       rw [List.length_map, List.take_length] at ht
       intro t hm
       rw [ht t hm]
       exact Bool.false_ne_true
   . exact ⟨_, rfl, _, rfl, .inr ⟨bad, k⟩⟩
end
def Wy.goes (y : Wy) (s last part : Int) : Bool := match y with
 | .down => false
 | .up => true
 | .floor => decide (V.int s = V.int 1)
 | .ceiling => decide (V.int s = V.int 0)
 | .halfUp => decide (part >= 2)
 | .halfDown => decide (V.int part = V.int 3)
 | .halfEven => if decide (V.int part = V.int 3) = true then true else if decide (V.int part = V.int 2) = true then decide (V.int (last % 2) = V.int 1) else false
 | .fiveUp => inV (.int last) [.int 0, .int 5]
def Wy.toEnd (y : Wy) (s : Int) : Bool := match y with
 | .down => false
 | .up => true
 | .floor => decide (V.int s = V.int 1)
 | .ceiling => decide (V.int s = V.int 0)
 | .halfUp => true
 | .halfDown => true
 | .halfEven => true
 | .fiveUp => false
section
variable {P : Program} {w : World} {K : Frag} {mg : Str -> Option Value} {base : Heap}
def A5n (y : Wy) : Sp := fun vs H Q _ => ∃ p s l t, vs = [.ref p, .int s, .int l, .int t] /\ ∀ H', Same H H' -> Q (.bl (y.goes s l t)) H'
def A1y (y : Wy) : Sp := fun vs H Q _ => ∃ p s, vs = [.ref p, .int s] /\ ∀ H', Same H H' -> Q (.bl (y.toEnd s)) H'
def WayU (P : Program) (w : World) (K : Frag) (mg : Str -> Option Value) (base : Heap) (C : Addr) (y : Wy) : Prop := Has P w K mg base C "goes_up" 1 ["self", "sign", "last", "part"] (A5n y)
def WayE (P : Program) (w : World) (K : Frag) (mg : Str -> Option Value) (base : Heap) (C : Addr) (y : Wy) : Prop := Has P w K mg base C "to_end" 1 ["self", "sign"] (A1y y)
abbrev sU0 : Stmt := (G8 (top 63) 1)
theorem scU0 : FnScope ["self", "sign", "last", "part"] ["self", "sign", "last", "part"] (A1 sU0) := scK
theorem A0qz {f : Addr} {fd : FuncData} (F : Fun K "goes_up" "Down.goes_up" sU0 f fd) : FnOk P w K mg base (CX1 P w) 1 f fd ["self", "sign", "last", "part"] (A5n .down) := by
 refine FnOk.up (F.ok scU0 (fun vs H Q E h => ?_) (fun cdv A outer s H vs Q E hr h => ?_))
 . obtain ⟨p, z, l, t, rfl, _⟩ := h
   rfl
 . obtain ⟨p, z, l, t, rfl, k⟩ := h
   refine ⟨_, (A5 (A9 A4m)), ?_⟩
   exact k H (Same.refl H)
abbrev sT0 : Stmt := (G8 (top 63) 2)
theorem scT0 : FnScope ["self", "sign"] ["self", "sign"] (A1 sT0) := scK
theorem A0rf {f : Addr} {fd : FuncData} (F : Fun K "to_end" "Down.to_end" sT0 f fd) : FnOk P w K mg base (CX1 P w) 1 f fd ["self", "sign"] (A1y .down) := by
 refine FnOk.up (F.ok scT0 (fun vs H Q E h => ?_) (fun cdv A outer s H vs Q E hr h => ?_))
 . obtain ⟨p, z, rfl, _⟩ := h
   rfl
 . obtain ⟨p, z, rfl, k⟩ := h
   refine ⟨_, (A5 (A9 A4m)), ?_⟩
   exact k H (Same.refl H)
abbrev sU1 : Stmt := (G8 (top 64) 1)
theorem scU1 : FnScope ["self", "sign", "last", "part"] ["self", "sign", "last", "part"] (A1 sU1) := scK
theorem A0pz {f : Addr} {fd : FuncData} (F : Fun K "goes_up" "Up.goes_up" sU1 f fd) : FnOk P w K mg base (CX1 P w) 1 f fd ["self", "sign", "last", "part"] (A5n .up) := by
 refine FnOk.up (F.ok scU1 (fun vs H Q E h => ?_) (fun cdv A outer s H vs Q E hr h => ?_))
 . obtain ⟨p, z, l, t, rfl, _⟩ := h
   rfl
 . obtain ⟨p, z, l, t, rfl, k⟩ := h
   refine ⟨_, (A5 (A9 A4m)), ?_⟩
   exact k H (Same.refl H)
abbrev sT1 : Stmt := (G8 (top 64) 2)
theorem scT1 : FnScope ["self", "sign"] ["self", "sign"] (A1 sT1) := scK
theorem A0qe {f : Addr} {fd : FuncData} (F : Fun K "to_end" "Up.to_end" sT1 f fd) : FnOk P w K mg base (CX1 P w) 1 f fd ["self", "sign"] (A1y .up) := by
 refine FnOk.up (F.ok scT1 (fun vs H Q E h => ?_) (fun cdv A outer s H vs Q E hr h => ?_))
 . obtain ⟨p, z, rfl, _⟩ := h
   rfl
 . obtain ⟨p, z, rfl, k⟩ := h
   refine ⟨_, (A5 (A9 A4m)), ?_⟩
   exact k H (Same.refl H)
abbrev sU2 : Stmt := (G8 (top 65) 1)
theorem scU2 : FnScope ["self", "sign", "last", "part"] ["self", "sign", "last", "part"] (A1 sU2) := scK
theorem A0qu {f : Addr} {fd : FuncData} (F : Fun K "goes_up" "Floor.goes_up" sU2 f fd) : FnOk P w K mg base (CX1 P w) 1 f fd ["self", "sign", "last", "part"] (A5n .floor) := by
 refine FnOk.up (F.ok scU2 (fun vs H Q E h => ?_) (fun cdv A outer s H vs Q E hr h => ?_))
 . obtain ⟨p, z, l, t, rfl, _⟩ := h
   rfl
 . obtain ⟨p, z, l, t, rfl, k⟩ := h
   refine ⟨_, (A5 (A9 (G6 D9 (pv 1) A2 (B9 _)))), ?_⟩
   exact ⟨_, rfl, rfl, k H (Same.refl H)⟩
abbrev sT2 : Stmt := (G8 (top 65) 2)
theorem scT2 : FnScope ["self", "sign"] ["self", "sign"] (A1 sT2) := scK
theorem A0px {f : Addr} {fd : FuncData} (F : Fun K "to_end" "Floor.to_end" sT2 f fd) : FnOk P w K mg base (CX1 P w) 1 f fd ["self", "sign"] (A1y .floor) := by
 refine FnOk.up (F.ok scT2 (fun vs H Q E h => ?_) (fun cdv A outer s H vs Q E hr h => ?_))
 . obtain ⟨p, z, rfl, _⟩ := h
   rfl
 . obtain ⟨p, z, rfl, k⟩ := h
   refine ⟨_, (A5 (A9 (G6 D9 (pv 1) A2 (B9 _)))), ?_⟩
   exact ⟨_, rfl, rfl, k H (Same.refl H)⟩
abbrev sU3 : Stmt := (G8 (top 66) 1)
theorem scU3 : FnScope ["self", "sign", "last", "part"] ["self", "sign", "last", "part"] (A1 sU3) := scK
theorem A0qf {f : Addr} {fd : FuncData} (F : Fun K "goes_up" "Ceiling.goes_up" sU3 f fd) : FnOk P w K mg base (CX1 P w) 1 f fd ["self", "sign", "last", "part"] (A5n .ceiling) := by
 refine FnOk.up (F.ok scU3 (fun vs H Q E h => ?_) (fun cdv A outer s H vs Q E hr h => ?_))
 . obtain ⟨p, z, l, t, rfl, _⟩ := h
   rfl
 . obtain ⟨p, z, l, t, rfl, k⟩ := h
   refine ⟨_, (A5 (A9 (G6 D9 (pv 1) A2 (B9 _)))), ?_⟩
   exact ⟨_, rfl, rfl, k H (Same.refl H)⟩
abbrev sT3 : Stmt := (G8 (top 66) 2)
theorem scT3 : FnScope ["self", "sign"] ["self", "sign"] (A1 sT3) := scK
theorem A0re {f : Addr} {fd : FuncData} (F : Fun K "to_end" "Ceiling.to_end" sT3 f fd) : FnOk P w K mg base (CX1 P w) 1 f fd ["self", "sign"] (A1y .ceiling) := by
 refine FnOk.up (F.ok scT3 (fun vs H Q E h => ?_) (fun cdv A outer s H vs Q E hr h => ?_))
 . obtain ⟨p, z, rfl, _⟩ := h
   rfl
 . obtain ⟨p, z, rfl, k⟩ := h
   refine ⟨_, (A5 (A9 (G6 D9 (pv 1) A2 (B9 _)))), ?_⟩
   exact ⟨_, rfl, rfl, k H (Same.refl H)⟩
abbrev sU4 : Stmt := (G8 (top 67) 1)
theorem scU4 : FnScope ["self", "sign", "last", "part"] ["self", "sign", "last", "part"] (A1 sU4) := scK
theorem A0rv {f : Addr} {fd : FuncData} (F : Fun K "goes_up" "HalfUp.goes_up" sU4 f fd) : FnOk P w K mg base (CX1 P w) 1 f fd ["self", "sign", "last", "part"] (A5n .halfUp) := by
 refine FnOk.up (F.ok scU4 (fun vs H Q E h => ?_) (fun cdv A outer s H vs Q E hr h => ?_))
 . obtain ⟨p, z, l, t, rfl, _⟩ := h
   rfl
 . obtain ⟨p, z, l, t, rfl, k⟩ := h
   refine ⟨_, (A5 (A9 (G6 V0w (pv 3) A2 (B9 _)))), ?_⟩
   exact ⟨_, rfl, _, _, rfl, rfl, k H (Same.refl H)⟩
abbrev sT4 : Stmt := (G8 (top 67) 2)
theorem scT4 : FnScope ["self", "sign"] ["self", "sign"] (A1 sT4) := scK
theorem A0rz {f : Addr} {fd : FuncData} (F : Fun K "to_end" "HalfUp.to_end" sT4 f fd) : FnOk P w K mg base (CX1 P w) 1 f fd ["self", "sign"] (A1y .halfUp) := by
 refine FnOk.up (F.ok scT4 (fun vs H Q E h => ?_) (fun cdv A outer s H vs Q E hr h => ?_))
 . obtain ⟨p, z, rfl, _⟩ := h
   rfl
 . obtain ⟨p, z, rfl, k⟩ := h
   refine ⟨_, (A5 (A9 A4m)), ?_⟩
   exact k H (Same.refl H)
abbrev sU5 : Stmt := (G8 (top 68) 1)
theorem scU5 : FnScope ["self", "sign", "last", "part"] ["self", "sign", "last", "part"] (A1 sU5) := scK
theorem A0qq {f : Addr} {fd : FuncData} (F : Fun K "goes_up" "HalfDown.goes_up" sU5 f fd) : FnOk P w K mg base (CX1 P w) 1 f fd ["self", "sign", "last", "part"] (A5n .halfDown) := by
 refine FnOk.up (F.ok scU5 (fun vs H Q E h => ?_) (fun cdv A outer s H vs Q E hr h => ?_))
 . obtain ⟨p, z, l, t, rfl, _⟩ := h
   rfl
 . obtain ⟨p, z, l, t, rfl, k⟩ := h
   refine ⟨_, (A5 (A9 (G6 D9 (pv 3) A2 (B9 _)))), ?_⟩
   exact ⟨_, rfl, rfl, k H (Same.refl H)⟩
abbrev sT5 : Stmt := (G8 (top 68) 2)
theorem scT5 : FnScope ["self", "sign"] ["self", "sign"] (A1 sT5) := scK
theorem A0pt {f : Addr} {fd : FuncData} (F : Fun K "to_end" "HalfDown.to_end" sT5 f fd) : FnOk P w K mg base (CX1 P w) 1 f fd ["self", "sign"] (A1y .halfDown) := by
 refine FnOk.up (F.ok scT5 (fun vs H Q E h => ?_) (fun cdv A outer s H vs Q E hr h => ?_))
 . obtain ⟨p, z, rfl, _⟩ := h
   rfl
 . obtain ⟨p, z, rfl, k⟩ := h
   refine ⟨_, (A5 (A9 A4m)), ?_⟩
   exact k H (Same.refl H)
abbrev sU6 : Stmt := (G8 (top 69) 1)
theorem scU6 : FnScope ["self", "sign", "last", "part"] ["self", "sign", "last", "part"] (A1 sU6) := scK
theorem A0rs {f : Addr} {fd : FuncData} (F : Fun K "goes_up" "HalfEven.goes_up" sU6 f fd) : FnOk P w K mg base (CX1 P w) 1 f fd ["self", "sign", "last", "part"] (A5n .halfEven) := by
 refine FnOk.up (F.ok scU6 (fun vs H Q E h => ?_) (fun cdv A outer s H vs Q E hr h => ?_))
 . obtain ⟨p, z, l, t, rfl, _⟩ := h
   rfl
 . obtain ⟨p, z, l, t, rfl, k⟩ := h
   refine ⟨_, (A5 (A9 (G9z (G6 D9 (pv 3) A2 (B9 _)) (A2v (B4d (G6 D9 (pv 3) A2 (B9 _)) (A2v (G6 D9 (B5 J0 (pv 2) A2) A2 (B9 _)))))))), ?_⟩
   have k := k H (Same.refl H)
   unfold Wy.goes at k
   refine ⟨_, rfl, rfl, _, rfl, ?_⟩
   cases e : decide (V.int t = V.int 3) with
   | true => rw [e] at k; exact Y1 k
   | false =>
     rw [e] at k
     refine U0 ⟨_, rfl, rfl, _, rfl, ?_⟩
     cases e2 : decide (V.int t = V.int 2) with
     | true => rw [e2] at k; exact Y1 ⟨_, rfl, _, _, rfl, rfl, (by decide : (0 : Int) < 2), rfl, k⟩
     | false => rw [e2] at k; exact U0 k
abbrev sT6 : Stmt := (G8 (top 69) 2)
theorem scT6 : FnScope ["self", "sign"] ["self", "sign"] (A1 sT6) := scK
theorem A0qc {f : Addr} {fd : FuncData} (F : Fun K "to_end" "HalfEven.to_end" sT6 f fd) : FnOk P w K mg base (CX1 P w) 1 f fd ["self", "sign"] (A1y .halfEven) := by
 refine FnOk.up (F.ok scT6 (fun vs H Q E h => ?_) (fun cdv A outer s H vs Q E hr h => ?_))
 . obtain ⟨p, z, rfl, _⟩ := h
   rfl
 . obtain ⟨p, z, rfl, k⟩ := h
   refine ⟨_, (A5 (A9 A4m)), ?_⟩
   exact k H (Same.refl H)
abbrev sU7 : Stmt := (G8 (top 70) 1)
theorem scU7 : FnScope ["self", "sign", "last", "part"] ["self", "sign", "last", "part"] (A1 sU7) := scK
theorem A0pv {f : Addr} {fd : FuncData} (F : Fun K "goes_up" "FiveUp.goes_up" sU7 f fd) : FnOk P w K mg base (CX1 P w) 1 f fd ["self", "sign", "last", "part"] (A5n .fiveUp) := by
 refine FnOk.up (F.ok scU7 (fun vs H Q E h => ?_) (fun cdv A outer s H vs Q E hr h => ?_))
 . obtain ⟨p, z, l, t, rfl, _⟩ := h
   rfl
 . obtain ⟨p, z, l, t, rfl, k⟩ := h
   refine ⟨_, (A5 (A9 (G6 A2n (pv 2) (V0 (A0 A2 (A0 A2 A4))) (by rfl)))), ?_⟩
   exact ⟨_, rfl, D3 (by decide), fun q nq => ⟨q, _, rfl, .inr (SqT.of A6), rfl, rfl, k _ (Same.upd nq)⟩⟩
abbrev sT7 : Stmt := (G8 (top 70) 2)
theorem scT7 : FnScope ["self", "sign"] ["self", "sign"] (A1 sT7) := scK
theorem A0qb {f : Addr} {fd : FuncData} (F : Fun K "to_end" "FiveUp.to_end" sT7 f fd) : FnOk P w K mg base (CX1 P w) 1 f fd ["self", "sign"] (A1y .fiveUp) := by
 refine FnOk.up (F.ok scT7 (fun vs H Q E h => ?_) (fun cdv A outer s H vs Q E hr h => ?_))
 . obtain ⟨p, z, rfl, _⟩ := h
   rfl
 . obtain ⟨p, z, rfl, k⟩ := h
   refine ⟨_, (A5 (A9 A4m)), ?_⟩
   exact k H (Same.refl H)
end
abbrev A3q : Stmt := (top 32)
abbrev A0z : Stmt := (top 33)
abbrev V8 : Stmt := (top 34)
abbrev A3r : Stmt := (top 35)
abbrev A3m : Stmt := (top 36)
abbrev A9d : Stmt := (top 37)
abbrev A8v : Stmt := (top 38)
abbrev A2w : Stmt := (top 39)
abbrev A2u : Stmt := (top 40)
abbrev A0v : Stmt := (top 41)
structure Cv where
 r : Int
 y : Wy
 l : Int
 m : Int
structure Cv.Ok (c : Cv) : Prop where
 r1 : 1 <= c.r
 r2 : c.r <= 24
 l1 : -60 <= c.l
 l2 : c.l <= 0
 m1 : 0 <= c.m
 m2 : c.m <= 60
def C4j (ideal : Int) : Nat -> Int -> Int -> Int × Int
 | 0, f, p => (f, p)
 | n + 1, f, p => if f % 10 = 0 then C4j ideal n (f / 10) (p + 1) else (f, p)
def U6 (ideal f p : Int) : Int × Int := C4j ideal (ideal - p).toNat f p
theorem A5s {ideal f p : Int} (h : p < ideal) (z : f % 10 = 0) : U6 ideal f p = U6 ideal (f / 10) (p + 1) := by
 unfold U6
 obtain ⟨n, hn⟩ : ∃ n, (ideal - p).toNat = n + 1 := ⟨(ideal - p).toNat - 1, by omega⟩
 rw [hn, show (ideal - (p + 1)).toNat = n by omega]
 show (if f % 10 = 0 then C4j ideal n (f / 10) (p + 1) else (f, p)) = _
 rw [if_pos z]
theorem A5z {ideal f p : Int} (h : ¬ (p < ideal /\ f % 10 = 0)) : U6 ideal f p = (f, p) := by
 unfold U6
 by_cases q : p < ideal
 . obtain ⟨n, hn⟩ : ∃ n, (ideal - p).toNat = n + 1 := ⟨(ideal - p).toNat - 1, by omega⟩
   rw [hn]
   show (if f % 10 = 0 then C4j ideal n (f / 10) (p + 1) else (f, p)) = _
   rw [if_neg fun z => h ⟨q, z⟩]
 . rw [show (ideal - p).toNat = 0 by omega]
   rfl
def V2 (f : Int) : Int := ((Str.ofString (toString f)).length : Nat)
def upI (y : Wy) (s wh pt : Int) : Int := if (if pt = 0 then false else y.goes s (wh % 10) pt) = true then wh + 1 else wh
def B3k (r f q : Int) : Int × Int := if f = A7 r then (f / 10, q + 1) else (f, q)
def U7 (c : Cv) (s wh pt q ideal : Int) : Int × Int := if pt = 0 then U6 ideal wh q else B3k c.r (upI c.y s wh pt) q
def A2a (m f p : Int) : Bool := if f = 0 then false else decide (p + V2 f - 1 > m)
def C5y (c : Cv) (s : Int) : Nm := if c.y.toEnd s = true then ⟨.end_, s, 0, 0⟩ else ⟨.plain, s, A7 c.r - 1, c.m - c.r + 1⟩
def U5 (pt : Int) (cut : Bool) : List Str := if pt = 0 then (if cut = true then ["cut"] else []) else ["off", "cut"]
def Z1 (l L pt : Int) : List Str := if L >= l then [] else if pt = 0 then ["faint"] else ["sunk", "faint"]
def A6d (c : Cv) (s wh pt L q ideal : Int) : Nm × List Str :=
 if A2a c.m (U7 c s wh pt q ideal).1 (U7 c s wh pt q ideal).2 = true then (C5y c s, ["burst", "off", "cut"])
 else (⟨.plain, s, (U7 c s wh pt q ideal).1, (U7 c s wh pt q ideal).2⟩, U5 pt (decide ((U7 c s wh pt q ideal).2 > ideal)) ++ Z1 c.l L pt)
def C4x (a b : Int) : Int := if b > a then b else a
def minI (a b : Int) : Int := if b < a then b else a
def CtxV (CC : Addr) (H : Hp) (c : Addr) (v : Cv) (a b : Addr) (xs ys : List Str) : Prop := CtxAt CC H c v.r v.y v.l v.m a b (xs.map V.str) (ys.map V.str)
theorem CtxV.same {CC : Addr} {H H' : Hp} {c : Addr} {v : Cv} {a b : Addr} {xs ys : List Str} (h : CtxV CC H c v a b xs ys) (e : Same H H') : CtxV CC H' c v a b xs ys := CtxAt.same h e
theorem B7h {CN : Addr} {H : Hp} {Q : VK} {E : XK} {k s f p : V} (h : ∀ n H', H n = none -> Same H H' -> NumAt CN H' n k s f p -> Q (.ref n) H') :
   ∀ x dx, H x = none -> H dx = none -> dx ≠ x -> D7n CN (.ref x :: ([k, s, f, p] ++ [])) (upd (upd H dx (.own x)) x (.ins CN dx [])) (fun v H2 => v = .non /\ Q (.ref x) H2) E := by
 intro x dx nx nd ne
 refine ⟨x, dx, k, s, f, p, rfl, A6, fun H' e kp => ⟨rfl, h x H' nx (fun b o z => ?_) ⟨dx, e⟩⟩⟩
 refine kp b o ?_ (G2 z nx)
 rw [D5 (G2 z nx), D5 (G2 z nd)]
 exact z
section
variable {P : Program} {w : World} {K : Frag} {mg : Str -> Option Value} {base : Heap}
structure CtxM (P : Program) (w : World) (K : Frag) (mg : Str -> Option Value) (base : Heap) (CC CB CT CW : Addr) (cw : Wy -> Addr) : Prop where
 c : CtxC K mg CC
 way : Has P w K mg base CC "way" 2 ["self"] (C7c CC cw)
 low : Has P w K mg base CC "lowest" 1 ["self"] (C6h CC)
 raised : Has P w K mg base CC "raised" 3 ["self", "names"] (C5u K CC CB CT)
 wc : ∀ y : Wy, WayC K mg y.cls (cw y) CW
 u : ∀ y : Wy, WayU P w K mg base (cw y) y
 e : ∀ y : Wy, WayE P w K mg base (cw y) y
def D5p (CN : Addr) : Sp := fun vs H Q _ => ∃ i s f p : Int, vs = [.int i, .int s, .int f, .int p] /\ ∀ n H', H n = none -> Same H H' -> NumIs CN H' n ⟨.plain, s, (U6 i f p).1, (U6 i f p).2⟩ -> Q (.ref n) H'
theorem scNearest : FnScope ["ideal", "sign", "figures", "power"] ["ideal", "sign", "figures", "power"] (A1 A0z) := scK
theorem J5u {f fI CN : Addr} {fd fdI : FuncData} (D : Def K mg "nearest_to" ["ideal", "sign", "figures", "power"] A0z f fd) (N : Num K mg CN) (M : MakeN P w K mg base CN fI fdI) : FnOk P w K mg base (CX1 P w) 3 f fd ["ideal", "sign", "figures", "power"] (D5p CN) := by
 refine FnOk.up (D.F.ok scNearest (fun vs H Q E h => ?_) (fun cdv A outer s H vs Q E hr h => ?_))
 . obtain ⟨i, s, f, p, rfl, _⟩ := h
   rfl
 . obtain ⟨i, sg, fg, pw, rfl, k⟩ := h
   have hx : J4 (A1s CX0 P w K mg base ["ideal", "sign", "figures", "power"] "nearest_to" (A1 A0z) f cdv A outer s H E).nox EKF := V3
   refine ⟨_, (A3 (A4v PassesOwn.never (PW.pt (D8r (C5 B3j (pv 3) (pv 0) (B9 _)) (C5e (C5 D9 (B5 J0 (pv 2) A2) A2 (B9 _))))) (A3 (C9 (i := 2) scNearest.nd rfl (Or.inl rfl) (B5 G3 (pv 2) A2))
     (A5 (C9 (i := 3) scNearest.nd rfl (Or.inl rfl) (B5 G9 (pv 3) A2)))))
     (A5 (A9 (A8q M.m (FnOk.up M.g) hr N.g M.b .nil hx (A0 C8 (A0 (pv 1) (A0 (pv 2) (A0 (pv 3) A4)))))))), ?_⟩
   have d10 : (0 : Int) < 10 /\ (10 : Int).natAbs.log2 < 9000 := ⟨by decide, by decide +kernel⟩
   refine A4z (fun σ H2 => H2 = H /\ ∃ f p : Int, U6 i f p = U6 i fg pw /\ σ = [some (.int i), some (.int sg), some (.int f), some (.int p)]) (fun σ _ => match σ with | [_, _, _, some (.int p)] => (i - p).toNat | _ => 0) ?_ ?_ ?_
   . exact ⟨rfl, fg, pw, rfl, rfl⟩
   . rintro σ H2 ⟨rfl, f, p, e, rfl⟩
     have stop : ¬ (p < i /\ f % 10 = 0) -> ∀ n H', H2 n = none -> Same H2 H' -> NumAt CN H' n (.str "plain") (.int sg) (.int f) (.int p) -> Q (.ref n) H' := fun h n H' nn sm num => by
       refine k n H' nn sm ?_
       rw [<- e, A5z h]
       exact num
     refine ⟨_, rfl, _, rfl, _, _, rfl, rfl, _, rfl, J3 (fun h1 => ?_) (fun h1 => U0 ⟨_, rfl, _, rfl, _, rfl, B7h (stop fun q => h1 q.1)⟩)⟩
     refine ⟨_, rfl, _, _, rfl, rfl, d10.1, rfl, _, rfl, J3 (fun h2 => ?_) (fun h2 => ⟨_, rfl, _, rfl, _, rfl, B7h (stop fun q => h2 (congrArg V.int q.2))⟩)⟩
     have h1 : p < i := h1
     have h2 : f % 10 = 0 := by injection h2
     refine ⟨_, rfl, _, _, rfl, rfl, d10, _, rfl, _, _, rfl, rfl, ⟨rfl, f / 10, p + 1, (A5s h1 h2).symm.trans e, rfl⟩, ?_⟩
     show (i - (p + 1)).toNat < (i - p).toNat
     omega
   . rintro σ H2 Q1 Q2 hQ ⟨v, e, v2, e2, a, b, e3, e4, c, e5, q⟩
     refine ⟨v, e, v2, e2, a, b, e3, e4, c, e5, ?_⟩
     cases c with
     | false => exact U0 (hQ _ _ (by simpa using q))
     | true =>
       have q : _ := q
       rw [if_pos rfl] at q ⊢
       obtain ⟨v3, e6, a2, b2, e7, e8, e9, e10, e11, e12, q⟩ := q
       exact ⟨v3, e6, a2, b2, e7, e8, e9, e10, e11, e12, hQ _ _ q⟩
def C4h (CC : Addr) : Sp := fun vs H Q _ => ∃ c v a b xs ys p, ∃ s wh pt : Int, vs = [.ref c, .int s, .ref p] /\ CtxV CC H c v a b xs ys /\ H p = some (.tup [.int wh, .int pt]) /\ ∀ H', Same H H' -> Q (.int (upI v.y s wh pt)) H'
theorem G9p : FnScope ["context", "sign", "pair"] ["context", "sign", "pair"] (A1 V8) := scK
theorem D7t {f CC CB CT CW : Addr} {cw : Wy -> Addr} {fd : FuncData} (D : Def K mg "neighbour" ["context", "sign", "pair"] V8 f fd) (C : CtxM P w K mg base CC CB CT CW cw) : FnOk P w K mg base (CX1 P w) 3 f fd ["context", "sign", "pair"] (C4h CC) := by
 refine FnOk.up (D.F.ok G9p (fun vs H Q E h => ?_) (fun cdv A outer s H vs Q E hr h => ?_))
 . obtain ⟨c, v, a, b, xs, ys, p, sg, wh, pt, rfl, _⟩ := h
   rfl
 . obtain ⟨c, v, a, b, xs, ys, p, sg, wh, pt, rfl, hc, hp, k⟩ := h
   have hx : J4 (A1s CX0 P w K mg base ["context", "sign", "pair"] "neighbour" (A1 V8) f cdv A outer s H E).nox EKF := V3
   obtain ⟨fW, fdW, mW, gW, bW⟩ := C.way
   obtain ⟨fU, fdU, mU, gU, bU⟩ := C.u v.y
   refine ⟨_, (A3 (D6 (PW.pt (D8r (C5 C4f (D7 D8 (pv 2) A2 (fun _ _ => rfl)) A2 (B9 _)) (C5e (U4 (D5g (A3d (pv 0) C.c.cl mW gW hr bW .nil hx) (C.wc v.y).cl mU gU hr bU .nil hx (A0 (pv 1) (A0 (B5 J0 (D7 D8 (pv 2) A2 (fun _ _ => rfl)) A2) (A0 (D7 D8 (pv 2) A2 (fun _ _ => rfl)) A4)))))))) (A5 (A9 (B5 G9 (D7 D8 (pv 2) A2 (fun _ _ => rfl)) A2))) C7)
     (A5 (A9 (D7 D8 (pv 2) A2 (fun _ _ => rfl))))), ?_⟩
   obtain ⟨⟨dx, e⟩, _, _⟩ := id hc
   unfold upI at k
   refine ⟨_, rfl, p, _, _, _, rfl, rfl, SqT.of hp, B7 (j := 1) rfl, rfl, _, rfl, ?_⟩
   by_cases h0 : pt = 0
   . subst h0
     rw [if_pos rfl, if_neg Bool.false_ne_true] at k
     exact B7e rfl (U0 ⟨_, rfl, p, _, _, _, rfl, rfl, SqT.of hp, B7 (j := 0) rfl, k H (Same.refl H)⟩)
   . rw [if_neg h0] at k
     rw [decide_eq_false (fun q => h0 (by injection q) : ¬ V.int pt = V.int 0)]
     refine Y1 ⟨_, rfl, c, dx, _, rfl, e, B4f _ _ _ _ _ _, c, v.r, v.y, v.l, v.m, a, b, _, _, rfl, hc, fun q dq H1 nq s1 eq => ?_⟩
     refine ⟨q, dq, _, rfl, eq, rfl, _, rfl, _, rfl, p, _, _, _, rfl, rfl, SqT.of (s1 _ _ hp), B7 (j := 0) rfl, _, _, rfl, rfl, (by decide : (0 : Int) < 10), _, rfl, p, _, _, _, rfl, rfl, SqT.of (s1 _ _ hp), B7 (j := 1) rfl, q, sg, wh % 10, pt, rfl, fun H2 s2 => ⟨_, rfl, ?_⟩⟩
     have s3 := s1.trans s2
     cases g : v.y.goes sg (wh % 10) pt with
     | true =>
       rw [g, if_pos rfl] at k
       exact Y1 ⟨_, rfl, p, _, _, _, rfl, rfl, SqT.of (s3 _ _ hp), B7 (j := 0) rfl, _, _, rfl, rfl, k H2 s3⟩
     | false =>
       rw [g, if_neg Bool.false_ne_true] at k
       exact U0 ⟨_, rfl, p, _, _, _, rfl, rfl, SqT.of (s3 _ _ hp), B7 (j := 0) rfl, k H2 s3⟩
def G9y (CN CC : Addr) : Sp := fun vs H Q _ => ∃ c v a b xs ys, ∃ s f q : Int, vs = [.ref c, .int s, .int f, .int q] /\ CtxV CC H c v a b xs ys /\ v.Ok /\ ∀ n H', H n = none -> Same H H' -> NumIs CN H' n ⟨.plain, s, (B3k v.r f q).1, (B3k v.r f q).2⟩ -> Q (.ref n) H'
theorem Y1m : FnScope ["context", "sign", "figures", "power"] ["context", "sign", "figures", "power"] (A1 A3r) := scK
theorem V4n {f f1 fI CN CC CB CT CW : Addr} {cw : Wy -> Addr} {fd fd1 fdI : FuncData} (D : Def K mg "within_room" ["context", "sign", "figures", "power"] A3r f fd) (D_ten_to : Def K mg "ten_to" ["count"] A1u f1 fd1) (G_ten_to : FnOk P w K mg base (CX1 P w) 2 f1 fd1 ["count"] B2n) (C : CtxM P w K mg base CC CB CT CW cw) (N : Num K mg CN) (M : MakeN P w K mg base CN fI fdI) :
   FnOk P w K mg base (CX1 P w) 3 f fd ["context", "sign", "figures", "power"] (G9y CN CC) := by
 refine FnOk.up (D.F.ok Y1m (fun vs H Q E h => ?_) (fun cdv A outer s H vs Q E hr h => ?_))
 . obtain ⟨c, v, a, b, xs, ys, sg, f, q, rfl, _⟩ := h
   rfl
 . obtain ⟨c, v, a, b, xs, ys, sg, fg, q, rfl, hc, ok, k⟩ := h
   have hx : J4 (A1s CX0 P w K mg base ["context", "sign", "figures", "power"] "within_room" (A1 A3r) f cdv A outer s H E).nox EKF := V3
   refine ⟨_, (A3 (D6 (C5 D9 (pv 2) (C6 D_ten_to G_ten_to hr hx (A0 (D4 (pv 0) rfl) A4)) (B9 _)) (A5 (A9 (A8q M.m (FnOk.up M.g) hr N.g M.b .nil hx (A0 C8 (A0 (pv 1) (A0 (B5 G3 (pv 2) A2) (A0 (B5 G9 (pv 3) A2) A4))))))) C7)
     (A5 (A9 (A8q M.m (FnOk.up M.g) hr N.g M.b .nil hx (A0 C8 (A0 (pv 1) (A0 (pv 2) (A0 (pv 3) A4)))))))), ?_⟩
   have d10 : (0 : Int) < 10 /\ (10 : Int).natAbs.log2 < 9000 := ⟨by decide, by decide +kernel⟩
   obtain ⟨⟨dx, e⟩, _, _⟩ := id hc
   have r1 := ok.r1; have r2 := ok.r2
   refine ⟨_, rfl, _, rfl, c, CC, dx, _, _, rfl, e, C.c.cl, C.c.n_room, A9b _ _ _ _ _ _, v.r.toNat, (by rw [Int.toNat_of_nonneg (by omega)]; rfl), by omega, rfl, _, rfl, ?_⟩
   unfold B3k at k
   refine J3 (fun h => ?_) (fun h => ?_)
   . have h : fg = A7 v.r := by injection h
     rw [if_pos h] at k
     exact ⟨_, rfl, _, rfl, _, _, rfl, rfl, d10, _, rfl, _, _, rfl, rfl, B7h k⟩
   . have h : ¬ fg = A7 v.r := fun z => h (congrArg V.int z)
     rw [if_neg h] at k
     exact ⟨_, rfl, _, rfl, _, rfl, B7h k⟩
def G9j (CN CC : Addr) : Sp := fun vs H Q _ => ∃ c v a b xs ys n x, vs = [.ref c, .ref n] /\ CtxV CC H c v a b xs ys /\ NumIs CN H n x /\ x.f.natAbs < 2 ^ 300 /\ Q (.bl (A2a v.m x.f x.p)) H
theorem Y3w : FnScope ["context", "number"] ["context", "number"] (A1 A3m) := scK
theorem V3x {f f1 CN CC CB CT CW : Addr} {cw : Wy -> Addr} {fd fd1 : FuncData} (D : Def K mg "is_beyond" ["context", "number"] A3m f fd) (D_lead_of : Def K mg "lead_of" ["number"] C5q f1 fd1) (G_lead_of : FnOk P w K mg base (CX1 P w) 1 f1 fd1 ["number"] (Y3z CN)) (C : CtxM P w K mg base CC CB CT CW cw) (N : Num K mg CN) :
   FnOk P w K mg base (CX1 P w) 2 f fd ["context", "number"] (G9j CN CC) := by
 refine FnOk.up (D.F.ok Y3w (fun vs H Q E h => ?_) (fun cdv A outer s H vs Q E hr h => ?_))
 . obtain ⟨c, v, a, b, xs, ys, n, x, rfl, _⟩ := h
   rfl
 . obtain ⟨c, v, a, b, xs, ys, n, x, rfl, hc, hn, hf, k⟩ := h
   have hx : J4 (A1s CX0 P w K mg base ["context", "number"] "is_beyond" (A1 A3m) f cdv A outer s H E).nox EKF := V3
   refine ⟨_, (A5 (A9 (B4d (G6 C4f (D4 (pv 1) rfl) A2 (B9 _)) (A2v (G6 A9g (C6 D_lead_of G_lead_of hr hx (A0 (pv 1) A4)) (D4 (pv 0) rfl) (B9 _)))))), ?_⟩
   obtain ⟨⟨dx, e⟩, _, _⟩ := id hc
   obtain ⟨dn, en⟩ := id hn
   unfold A2a at k
   refine ⟨_, rfl, n, CN, dn, _, _, rfl, en, N.cl, N.n3, C4z _ _ _ _, rfl, _, rfl, ?_⟩
   by_cases h0 : x.f = 0
   . rw [if_pos h0] at k
     rw [decide_eq_true (congrArg V.int h0)]
     exact U0 k
   . rw [if_neg h0] at k
     rw [decide_eq_false (fun q => h0 (by injection q) : ¬ V.int x.f = V.int 0)]
     exact Y1 ⟨_, rfl, n, _, _, _, _, rfl, hn, hf, _, rfl, c, CC, dx, _, _, rfl, e, C.c.cl, C.c.n_most, C6f _ _ _ _ _ _, _, _, rfl, rfl, k⟩
def U9t (CN CC : Addr) : Sp := fun vs H Q _ => ∃ c v a b xs ys, ∃ s : Int, vs = [.ref c, .int s] /\ CtxV CC H c v a b xs ys /\ v.Ok /\ ∀ n H', H n = none -> Same H H' -> NumIs CN H' n ⟨.plain, s, A7 v.r - 1, v.m - v.r + 1⟩ -> Q (.ref n) H'
theorem A0ba : FnScope ["context", "sign"] ["context", "sign"] (A1 A8v) := scK
theorem Y1r {f f1 fI CN CC CB CT CW : Addr} {cw : Wy -> Addr} {fd fd1 fdI : FuncData} (D : Def K mg "nines" ["context", "sign"] A8v f fd) (D_ten_to : Def K mg "ten_to" ["count"] A1u f1 fd1) (G_ten_to : FnOk P w K mg base (CX1 P w) 2 f1 fd1 ["count"] B2n) (C : CtxM P w K mg base CC CB CT CW cw) (N : Num K mg CN) (M : MakeN P w K mg base CN fI fdI) :
   FnOk P w K mg base (CX1 P w) 3 f fd ["context", "sign"] (U9t CN CC) := by
 refine FnOk.up (D.F.ok A0ba (fun vs H Q E h => ?_) (fun cdv A outer s H vs Q E hr h => ?_))
 . obtain ⟨c, v, a, b, xs, ys, sg, rfl, _⟩ := h
   rfl
 . obtain ⟨c, v, a, b, xs, ys, sg, rfl, hc, ok, k⟩ := h
   have hx : J4 (A1s CX0 P w K mg base ["context", "sign"] "nines" (A1 A8v) f cdv A outer s H E).nox EKF := V3
   refine ⟨_, (A5 (A9 (A8q M.m (FnOk.up M.g) hr N.g M.b .nil hx (A0 C8 (A0 (pv 1) (A0 (B5 J1 (C6 D_ten_to G_ten_to hr hx (A0 (D4 (pv 0) rfl) A4)) A2) (A0 (B5 G9 (B5 J1 (D4 (pv 0) rfl) (D4 (pv 0) rfl)) A2) A4))))))), ?_⟩
   obtain ⟨⟨dx, e⟩, _, _⟩ := id hc
   have r1 := ok.r1; have r2 := ok.r2
   exact ⟨_, rfl, _, rfl, c, CC, dx, _, _, rfl, e, C.c.cl, C.c.n_room, A9b _ _ _ _ _ _, v.r.toNat, (by rw [Int.toNat_of_nonneg (by omega)]; rfl), by omega, _, _, rfl, rfl, _, rfl, c, CC, dx, _, _, rfl, e, C.c.cl, C.c.n_most, C6f _ _ _ _ _ _, _, rfl, c, CC, dx, _, _, rfl, e, C.c.cl, C.c.n_room, A9b _ _ _ _ _ _, _, _, rfl, rfl, _, _, rfl, rfl, B7h k⟩
def U9c (CN CC : Addr) : Sp := fun vs H Q _ => ∃ c v a b xs ys, ∃ s : Int, vs = [.ref c, .int s] /\ CtxV CC H c v a b xs ys /\ v.Ok /\ 0 <= s /\ s <= 1 /\ ∀ n H', Same H H' -> NumIs CN H' n (C5y v s) -> Q (.ref n) H'
theorem A0bb : FnScope ["context", "sign"] ["context", "sign"] (A1 A9d) := scK
theorem Y0h {f f1 f2 CN CN' CC CB CT CW : Addr} {cw : Wy -> Addr} {fd fd1 fd2 : FuncData} (D : Def K mg "burst" ["context", "sign"] A9d f fd) (D_nines : Def K mg "nines" ["context", "sign"] A8v f1 fd1) (G_nines : FnOk P w K mg base (CX1 P w) 3 f1 fd1 ["context", "sign"] (U9t CN CC)) (D_end : Def K mg "end" ["sign"] G8z f2 fd2) (G_end : FnOk P w K mg base (CX1 P w) 3 f2 fd2 ["sign"] (Y0n K CN CN')) (C : CtxM P w K mg base CC CB CT CW cw) :
   FnOk P w K mg base (CX1 P w) 4 f fd ["context", "sign"] (U9c CN CC) := by
 refine FnOk.up (D.F.ok A0bb (fun vs H Q E h => ?_) (fun cdv A outer s H vs Q E hr h => ?_))
 . obtain ⟨c, v, a, b, xs, ys, sg, rfl, _⟩ := h
   rfl
 . obtain ⟨c, v, a, b, xs, ys, sg, rfl, hc, ok, s0, s1, k⟩ := h
   have hx : J4 (A1s CX0 P w K mg base ["context", "sign"] "burst" (A1 A9d) f cdv A outer s H E).nox EKF := V3
   obtain ⟨fW, fdW, mW, gW, bW⟩ := C.way
   obtain ⟨fU, fdU, mU, gU, bU⟩ := C.e v.y
   refine ⟨_, (A5 (A9 (U2 (U4 (D5g (A3d (pv 0) C.c.cl mW gW hr bW .nil hx) (C.wc v.y).cl mU gU hr bU .nil hx (A0 (pv 1) A4))) (C6 D_end G_end hr hx (A0 (pv 1) A4)) (C6 D_nines G_nines hr hx (A0 (pv 0) (A0 (pv 1) A4)))))), ?_⟩
   obtain ⟨⟨dx, e⟩, _, _⟩ := id hc
   unfold C5y at k
   refine ⟨_, rfl, c, dx, _, rfl, e, B4f _ _ _ _ _ _, c, v.r, v.y, v.l, v.m, a, b, _, _, rfl, hc, fun q dq H1 nq t1 eq => ?_⟩
   refine ⟨q, dq, _, rfl, eq, rfl, _, rfl, q, sg, rfl, fun H2 t2 => ⟨_, rfl, ?_⟩⟩
   have t3 := t1.trans t2
   cases g : v.y.toEnd sg with
   | true =>
     rw [g, if_pos rfl] at k
     exact Y1 ⟨_, rfl, _, rfl, .inl ⟨⟨sg, rfl, s0, s1⟩, fun n H' _ sm num => k n H' (t3.trans sm) num⟩⟩
   | false =>
     rw [g, if_neg Bool.false_ne_true] at k
     exact U0 ⟨_, rfl, _, rfl, c, v, a, b, xs, ys, sg, rfl, hc.same t3, ok, fun n H' _ sm num => k n H' (t3.trans sm) num⟩
def D5v : Sp := fun vs H Q _ => ∃ (pt : Int) (cut : Bool), vs = [.int pt, .bl cut] /\ ∀ l, H l = none -> Q (.ref l) (upd H l (.lst ((U5 pt cut).map V.str)))
theorem V4d : FnScope ["part", "is_cut"] ["part", "is_cut"] (A1 A2w) := scK
theorem J6j {f : Addr} {fd : FuncData} (D : Def K mg "signals_of_rest" ["part", "is_cut"] A2w f fd) : FnOk P w K mg base (CX1 P w) 1 f fd ["part", "is_cut"] D5v := by
 refine FnOk.up (D.F.ok V4d (fun vs H Q E h => ?_) (fun cdv A outer s H vs Q E hr h => ?_))
 . obtain ⟨pt, cut, rfl, _⟩ := h
   rfl
 . obtain ⟨pt, cut, rfl, k⟩ := h
   refine ⟨_, (A3 (D6 (C5 C4f (pv 0) A2 (B9 _)) (A5 (A9 (J2 (A0 C8 (A0 C8 A4))))) C7)
     (A5 (A9 (U2 (U4 (pv 1)) (J2 (A0 C8 A4)) (J2 A4))))), ?_⟩
   unfold U5 at k
   refine ⟨_, rfl, rfl, _, rfl, ?_⟩
   by_cases h0 : pt = 0
   . subst h0
     rw [if_pos rfl] at k
     refine B7e rfl ⟨_, rfl, _, rfl, ?_⟩
     cases cut with
     | true => exact Y1 ⟨D3 (by decide), k⟩
     | false => exact U0 ⟨D3 (by decide), k⟩
   . rw [if_neg h0] at k
     rw [decide_eq_false (fun q => h0 (by injection q) : ¬ V.int pt = V.int 0)]
     exact Y1 ⟨D3 (by decide), k⟩
def D6c (CC : Addr) : Sp := fun vs H Q _ => ∃ c v a b xs ys, ∃ L pt : Int, vs = [.ref c, .int L, .int pt] /\ CtxV CC H c v a b xs ys /\ ∀ l, H l = none -> Q (.ref l) (upd H l (.lst ((Z1 v.l L pt).map V.str)))
theorem V2c : FnScope ["context", "lead", "part"] ["context", "lead", "part"] (A1 A2u) := scK
theorem J5y {f CC CB CT CW : Addr} {cw : Wy -> Addr} {fd : FuncData} (D : Def K mg "signals_of_lead" ["context", "lead", "part"] A2u f fd) (C : CtxM P w K mg base CC CB CT CW cw) : FnOk P w K mg base (CX1 P w) 1 f fd ["context", "lead", "part"] (D6c CC) := by
 refine FnOk.up (D.F.ok V2c (fun vs H Q E h => ?_) (fun cdv A outer s H vs Q E hr h => ?_))
 . obtain ⟨c, v, a, b, xs, ys, L, pt, rfl, _⟩ := h
   rfl
 . obtain ⟨c, v, a, b, xs, ys, L, pt, rfl, hc, k⟩ := h
   refine ⟨_, (A3 (D6 (C5 V0w (pv 1) (D4 (pv 0) rfl) (B9 _)) (A5 (A9 (J2 A4))) C7)
     (A5 (A9 (U2 (C5 D9 (pv 2) A2 (B9 _)) (J2 (A0 C8 A4)) (J2 (A0 C8 (A0 C8 A4))))))), ?_⟩
   obtain ⟨⟨dx, e⟩, _, _⟩ := id hc
   unfold Z1 at k
   refine ⟨_, rfl, _, rfl, c, CC, dx, _, _, rfl, e, C.c.cl, C.c.n_least, D5h _ _ _ _ _ _, _, _, rfl, rfl, _, rfl, J3 (fun h => ?_) (fun h => ?_)⟩
   . rw [if_pos h] at k
     exact ⟨D3 (by decide), k⟩
   . rw [if_neg h] at k
     refine ⟨_, rfl, rfl, _, rfl, J3 (fun h => ?_) (fun h => ?_)⟩
     . rw [if_pos (by injection h)] at k
       exact ⟨D3 (by decide), k⟩
     . rw [if_neg fun q => h (congrArg V.int q)] at k
       exact ⟨D3 (by decide), k⟩
def B7b (CN CC : Addr) : Sp := fun vs H Q _ => ∃ c v a b xs ys, ∃ s i : Int, vs = [.ref c, .int s, .int i] /\ CtxV CC H c v a b xs ys /\ ∀ n H', H n = none -> Same H H' -> NumIs CN H' n ⟨.plain, s, 0, minI (C4x i (v.l - v.r + 1)) v.m⟩ -> Q (.ref n) H'
theorem Y2k : FnScope ["context", "sign", "ideal"] ["context", "sign", "ideal"] (A1 A0v) := scK
theorem V2g {f fI CN CC CB CT CW : Addr} {cw : Wy -> Addr} {fd fdI : FuncData} (D : Def K mg "nought" ["context", "sign", "ideal"] A0v f fd) (C : CtxM P w K mg base CC CB CT CW cw) (N : Num K mg CN) (M : MakeN P w K mg base CN fI fdI) (O : Own mg) : FnOk P w K mg base (CX1 P w) 3 f fd ["context", "sign", "ideal"] (B7b CN CC) := by
 refine FnOk.up (D.F.ok Y2k (fun vs H Q E h => ?_) (fun cdv A outer s H vs Q E hr h => ?_))
 . obtain ⟨c, v, a, b, xs, ys, sg, i, rfl, _⟩ := h
   rfl
 . obtain ⟨c, v, a, b, xs, ys, sg, i, rfl, hc, k⟩ := h
   have hx : J4 (A1s CX0 P w K mg base ["context", "sign", "ideal"] "nought" (A1 A0v) f cdv A outer s H E).nox EKF := V3
   obtain ⟨fL, fdL, mL, gL, bL⟩ := C.low
   refine ⟨_, (A5 (A9 (A8q M.m (FnOk.up M.g) hr N.g M.b .nil hx (A0 C8 (A0 (pv 1) (A0 A2 (A0 (J7 (A0n rfl) (by rfl) O.min_ boot_min (A0 (J7 (Y6 rfl) (by rfl) O.max_ boot_max (A0 (pv 2) (A0 (A3d (pv 0) C.c.cl mL gL hr bL .nil hx) A4))) (A0 (D4 (pv 0) rfl) A4))) A4))))))), ?_⟩
   obtain ⟨⟨dx, e⟩, _, _⟩ := id hc
   exact ⟨_, rfl, _, rfl, _, rfl, c, dx, _, rfl, e, B3p _ _ _ _ _ _, c, v.r, v.y, v.l, v.m, a, b, _, _, rfl, hc, _, _, rfl, _, rfl, c, CC, dx, _, _, rfl, e, C.c.cl, C.c.n_most, C6f _ _ _ _ _ _, _, _, rfl, B7h k⟩
end
abbrev Z5 : Stmt := (top 31)
abbrev Y2 : Stmt := (top 43)
theorem C6r (i : Int) : ∀ (n : Nat) (f p : Int), 0 <= f -> 0 <= (C4j i n f p).1 /\ (C4j i n f p).1 <= f
 | 0, f, p, h => ⟨h, Int.le_refl _⟩
 | n + 1, f, p, h => by
   show 0 <= (if f % 10 = 0 then C4j i n (f / 10) (p + 1) else (f, p)).1 /\ (if f % 10 = 0 then C4j i n (f / 10) (p + 1) else (f, p)).1 <= f
   by_cases z : f % 10 = 0
   . rw [if_pos z]
     have := C6r i n (f / 10) (p + 1) (by omega)
     omega
   . rw [if_neg z]
     exact ⟨h, Int.le_refl _⟩
theorem Y3h {t b u1 v1 u2 v2 d : Nat} (h : t * 10 ^ u1 < 10 * (b * 10 ^ v1)) (e : u2 + v1 <= u1 + v2 + d) : t * 10 ^ u2 < 10 ^ (d + 1) * (b * 10 ^ v2) := by
 have p : 0 < 10 ^ v1 := Nat.pow_pos (by decide)
 apply Nat.lt_of_mul_lt_mul_right (a := 10 ^ v1)
 calc t * 10 ^ u2 * 10 ^ v1 = t * 10 ^ (u2 + v1) := by rw [Nat.mul_assoc, <- Nat.pow_add]
   _ <= t * 10 ^ (u1 + v2 + d) := Nat.mul_le_mul_left t (Nat.pow_le_pow_right (by decide) e)
   _ = t * 10 ^ u1 * (10 ^ v2 * 10 ^ d) := by rw [Nat.mul_assoc, <- Nat.pow_add, <- Nat.pow_add, Nat.add_assoc]
   _ < 10 * (b * 10 ^ v1) * (10 ^ v2 * 10 ^ d) := Nat.mul_lt_mul_of_pos_right h (Nat.mul_pos (Nat.pow_pos (by decide)) (Nat.pow_pos (by decide)))
   _ = 10 ^ (d + 1) * (b * 10 ^ v2) * 10 ^ v1 := by rw [Nat.pow_succ]; ac_rfl
theorem D8p {t b s1 s2 r : Int} (ht : Sz t) (hb : Sz b) (h : Y9 t b s1) (hr : 1 <= r) (e : s2 <= s1 + (r - 1)) : 0 <= whI t b s2 /\ whI t b s2 < A7 r := by
 obtain ⟨tn, rfl, _, _⟩ := ht.nat
 obtain ⟨bn, rfl, b1, _⟩ := hb.nat
 have lp : 0 < (bn : Int) * A7 (-s2) := Int.mul_pos (by omega) (G0 _)
 refine ⟨Int.ediv_nonneg (Int.mul_nonneg (by omega) (Int.le_of_lt (G0 _))) (Int.le_of_lt lp), ?_⟩
 refine Int.ediv_lt_of_lt_mul lp ?_
 have a : tn * 10 ^ s1.toNat < 10 * (bn * 10 ^ (-s1).toNat) := Int.ofNat_lt.mp h.2
 have c := Y3h (u2 := s2.toNat) (v2 := (-s2).toNat) (d := (r - 1).toNat) a (by omega)
 rw [show (r - 1).toNat + 1 = r.toNat by omega] at c
 exact Int.ofNat_lt.mpr c
theorem A0aj {r : Int} (h : r <= 24) : A7 r <= 10 ^ 24 := by
 unfold A7
 have : 10 ^ r.toNat <= 10 ^ 24 := Nat.pow_le_pow_right (by decide) (by omega)
 exact Int.ofNat_le.mpr this
theorem J6n {c : Cv} {s wh pt q i : Int} (ok : c.Ok) (h0 : 0 <= wh) (h1 : wh < A7 c.r) : (U7 c s wh pt q i).1.natAbs < 2 ^ 300 := by
 have t := A0aj ok.r2
 have big : ((10 ^ 24 : Nat) : Int) = 10 ^ 24 := by decide +kernel
 have lt : ∀ z : Int, 0 <= z -> z <= 10 ^ 24 -> z.natAbs < 2 ^ 300 := fun z a b => Nat.lt_of_le_of_lt (show z.natAbs <= 10 ^ 24 by omega) (by decide +kernel)
 unfold U7
 split
 . have := C6r i (i - q).toNat wh q h0
   exact lt _ this.1 (by unfold U6; omega)
 . have hu : 0 <= upI c.y s wh pt /\ upI c.y s wh pt <= A7 c.r := by
     have e : upI c.y s wh pt = wh + 1 \/ upI c.y s wh pt = wh := by
       unfold upI
       generalize (if pt = 0 then false else c.y.goes s (wh % 10) pt) = g
       cases g with
       | true => exact .inl rfl
       | false => exact .inr rfl
     omega
   generalize upI c.y s wh pt = u at hu
   unfold B3k
   split
   . exact lt (u / 10) (by omega) (by omega)
   . exact lt u (by omega) (by omega)
section
variable {P : Program} {w : World} {K : Frag} {mg : Str -> Option Value} {base : Heap}
def J0g (CC CR : Addr) : Sp := fun vs H Q _ => ∃ c v a b xs ys x, ∃ t bo n L : Int, vs = [.ref c, .ref x] /\ CtxV CC H c v a b xs ys /\ RatAt CR H x t bo n /\ Sz t /\ Sz bo /\ Y9 t bo (n - L) /\ ∀ H', Same H H' -> Q (.int (C4x (L - v.r + 1) (v.l - v.r + 1))) H'
theorem Y2w : FnScope ["context", "exact"] ["context", "exact"] (A1 A3q) := scK
theorem V2m {f CC CB CT CW CR CE g1 g2 : Addr} {cw : Wy -> Addr} {fd gd1 gd2 : FuncData} (D : Def K mg "finest_power" ["context", "exact"] A3q f fd) (C : CtxM P w K mg base CC CB CT CW cw) (RM : RatM P w K mg base CR g1 g2 gd1 gd2) (R : RatC K mg CR CE) (O : Own mg) : FnOk P w K mg base (CX1 P w) 5 f fd ["context", "exact"] (J0g CC CR) := by
 refine FnOk.up (D.F.ok Y2w (fun vs H Q E h => ?_) (fun cdv A outer s H vs Q E hr h => ?_))
 . obtain ⟨c, v, a, b, xs, ys, x, t, bo, n, L, rfl, _⟩ := h
   rfl
 . obtain ⟨c, v, a, b, xs, ys, x, t, bo, n, L, rfl, hc, ra, ht, hb, hL, k⟩ := h
   have hx : J4 (A1s CX0 P w K mg base ["context", "exact"] "finest_power" (A1 A3q) f cdv A outer s H E).nox EKF := V3
   obtain ⟨fL, fdL, mL, gL, bL⟩ := C.low
   refine ⟨_, (A5 (A9 (J7 (Y6 rfl) (by rfl) O.max_ boot_max (A0 (B5 G9 (B5 J1 (A3d (pv 1) R.cl RM.m1 RM.g1 hr RM.b1 .nil hx) (D4 (pv 0) rfl)) A2) (A0 (A3d (pv 0) C.c.cl mL gL hr bL .nil hx) A4))))), ?_⟩
   obtain ⟨dr, er⟩ := id ra
   refine ⟨_, rfl, x, dr, _, rfl, er, B7q _ _ _, x, t, bo, n, rfl, ra, ht, hb, fun f H1 s1 ld => ?_⟩
   have ef : f = L := by
     have := U9f (show 0 < bo by have := hb.1; omega) ld hL
     omega
   subst ef
   have hc1 := hc.same s1
   obtain ⟨⟨dx, e⟩, _, _⟩ := id hc1
   exact ⟨_, rfl, c, CC, dx, _, _, rfl, e, C.c.cl, C.c.n_room, A9b _ _ _ _ _ _, _, _, rfl, rfl, _, _, rfl, rfl, _, rfl, c, dx, _, rfl, e, B3p _ _ _ _ _ _, c, v.r, v.y, v.l, v.m, a, b, _, _, rfl, hc1, _, _, rfl, k H1 s1⟩
def Cv.fin (v : Cv) (L : Int) : Int := C4x (L - v.r + 1) (v.l - v.r + 1)
def A3j (v : Cv) (s t bo n L i : Int) : Nm × List Str := A6d v s (whI t bo (n - v.fin L)) (ptI t bo (n - v.fin L)) L (v.fin L) i
def Ends2 (CN CC CT : Addr) (H : Hp) (c : Addr) (v : Cv) (b : Addr) (xs ys : List Str) (res : Nm × List Str) (Q : VK) (E : XK) : Prop :=
 (hit ys res.2 = none -> ∀ m a' H', Exc c H H' -> CtxV CC H' c v a' b (V9 (xs ++ res.2)) ys -> NumIs CN H' m res.1 -> Q (.ref m) H') /\
 (∀ z, hit ys res.2 = some z -> ∀ a' d H', Exc c H H' -> CtxV CC H' c v a' b (V9 (xs ++ res.2)) ys -> H' d = some (.xd [("signal", .str z)]) -> E (.ref CT) (some d) H')
def A4r (CN CC CT CR : Addr) : Sp := fun vs H Q E => ∃ c v a b xs ys x, ∃ t bo n L s i : Int, vs = [.ref c, .int s, .ref x, .int i] /\ CtxV CC H c v a b xs ys /\ v.Ok /\ xs.length <= 900 /\ RatAt CR H x t bo n /\ Sz t /\ Sz bo /\ Y9 t bo (n - L) /\ -1500 <= n - v.fin L /\ n - v.fin L <= 1500 /\ 0 <= s /\ s <= 1 /\
 Ends2 CN CC CT H c v b xs ys (A3j v s t bo n L i) Q E
theorem scSettled : FnScope ["context", "sign", "exact", "ideal", "finest", "pair", "number", "names"] ["context", "sign", "exact", "ideal"] (A1 Z5) := scK
theorem V4j : ∀ z ∈ (["burst", "off", "cut"] : List Str), z ∈ sigS := by decide +kernel
theorem Y1d {pt : Int} {cut : Bool} {l L : Int} : ∀ z ∈ U5 pt cut ++ Z1 l L pt, z ∈ sigS := by
 have r : ∀ z ∈ U5 pt cut, z ∈ sigS := by
   unfold U5
   split
   . split
     . decide +kernel
     . decide +kernel
   . decide +kernel
 have d : ∀ z ∈ Z1 l L pt, z ∈ sigS := by
   unfold Z1
   split
   . decide +kernel
   . split
     . decide +kernel
     . decide +kernel
 intro z hz
 rcases List.mem_append.mp hz with h | h
 . exact r z h
 . exact d z h
theorem Y0m {pt : Int} {cut : Bool} {l L : Int} : (U5 pt cut ++ Z1 l L pt).length <= 4 := by
 have r : (U5 pt cut).length <= 2 := by
   unfold U5
   split
   . split <;> decide
   . decide
 have d : (Z1 l L pt).length <= 2 := by
   unfold Z1
   split
   . decide
   . split <;> decide
 rw [List.length_append]
 omega
theorem J5k {f f1 f2 f3 f4 f5 f6 f7 f8 CN CC CB CT CW CR CE g1 g2 : Addr} {cw : Wy -> Addr} {fd fd1 fd2 fd3 fd4 fd5 fd6 fd7 fd8 gd1 gd2 : FuncData} (D : Def K mg "settled" ["context", "sign", "exact", "ideal"] Z5 f fd)
   (D_finest_power : Def K mg "finest_power" ["context", "exact"] A3q f1 fd1) (G_finest_power : FnOk P w K mg base (CX1 P w) 5 f1 fd1 ["context", "exact"] (J0g CC CR)) (D_nearest_to : Def K mg "nearest_to" ["ideal", "sign", "figures", "power"] A0z f2 fd2) (G_nearest_to : FnOk P w K mg base (CX1 P w) 3 f2 fd2 ["ideal", "sign", "figures", "power"] (D5p CN))
   (D_neighbour : Def K mg "neighbour" ["context", "sign", "pair"] V8 f3 fd3) (G_neighbour : FnOk P w K mg base (CX1 P w) 3 f3 fd3 ["context", "sign", "pair"] (C4h CC)) (D_within_room : Def K mg "within_room" ["context", "sign", "figures", "power"] A3r f4 fd4) (G_within_room : FnOk P w K mg base (CX1 P w) 3 f4 fd4 ["context", "sign", "figures", "power"] (G9y CN CC))
   (D_is_beyond : Def K mg "is_beyond" ["context", "number"] A3m f5 fd5) (G_is_beyond : FnOk P w K mg base (CX1 P w) 2 f5 fd5 ["context", "number"] (G9j CN CC)) (D_burst : Def K mg "burst" ["context", "sign"] A9d f6 fd6) (G_burst : FnOk P w K mg base (CX1 P w) 4 f6 fd6 ["context", "sign"] (U9c CN CC))
   (D_signals_of_rest : Def K mg "signals_of_rest" ["part", "is_cut"] A2w f7 fd7) (G_signals_of_rest : FnOk P w K mg base (CX1 P w) 1 f7 fd7 ["part", "is_cut"] D5v) (D_signals_of_lead : Def K mg "signals_of_lead" ["context", "lead", "part"] A2u f8 fd8) (G_signals_of_lead : FnOk P w K mg base (CX1 P w) 1 f8 fd8 ["context", "lead", "part"] (D6c CC))
   (C : CtxM P w K mg base CC CB CT CW cw) (RM : RatM P w K mg base CR g1 g2 gd1 gd2) (R : RatC K mg CR CE) (N : Num K mg CN) : FnOk P w K mg base (CX1 P w) 6 f fd ["context", "sign", "exact", "ideal"] (A4r CN CC CT CR) := by
 refine D.F.okE scSettled (fun vs H Q E h => ?_) (fun X cdv A outer s H vs Q E hX hr hx h => ?_)
 . obtain ⟨c, v, a, b, xs, ys, x, t, bo, n, L, sg, i, rfl, _⟩ := h
   rfl
 . subst hX
   obtain ⟨c, v, a, b, xs, ys, x, t, bo, n, L, sg, i, rfl, hc, ok, lx, ra, ht, hb, hL, q0, q1, s0, s1, k⟩ := h
   obtain ⟨fR, fdR, mR, gR, bR⟩ := C.raised
   refine ⟨_, (A3 (B8 (C9 (i := 4) scSettled.nd rfl (Or.inl rfl) (C6 D_finest_power G_finest_power hr hx (A0 (pv 0) (A0 (pv 2) A4)))))
     (A3 (B8 (C9 (i := 5) scSettled.nd rfl (Or.inl rfl) (D5g (pv 2) R.cl RM.m2 RM.g2 hr RM.b2 .nil hx (A0 (pv 4) A4))))
     (A3 (B8 (D6 (C5 D9 (D7 D8 (pv 5) A2 (fun _ _ => rfl)) A2 (B9 _)) (A5 (C9 (i := 6) scSettled.nd rfl (Or.inl rfl) (C6 D_nearest_to G_nearest_to hr hx (A0 (pv 3) (A0 (pv 1) (A0 (D7 D8 (pv 5) A2 (fun _ _ => rfl)) (A0 (pv 4) A4))))))) (A5 (C9 (i := 6) scSettled.nd rfl (Or.inl rfl) (C6 D_within_room G_within_room hr hx (A0 (pv 0) (A0 (pv 1) (A0 (C6 D_neighbour G_neighbour hr hx (A0 (pv 0) (A0 (pv 1) (A0 (pv 5) A4)))) (A0 (pv 4) A4)))))))))
     (A3 (B8 (D6 (U4 (C6 D_is_beyond G_is_beyond hr hx (A0 (pv 0) (A0 (pv 6) A4)))) (A3 (U8 (D5g (pv 0) C.c.cl mR gR hr bR .nil hx (A0 (J2 (A0 C8 (A0 C8 (A0 C8 A4)))) A4)))
     (A5 (A9 (C6 D_burst G_burst hr hx (A0 (pv 0) (A0 (pv 1) A4)))))) C7))
     (A3 (B8 (C9 (i := 7) scSettled.nd rfl (Or.inl rfl) (C6 D_signals_of_rest G_signals_of_rest hr hx (A0 (D7 D8 (pv 5) A2 (fun _ _ => rfl)) (A0 (G6 A9g (D4 (pv 6) rfl) (pv 3) (B9 _)) A4)))))
     (A3 (B8 (U8 (D5g (pv 0) C.c.cl mR gR hr bR .nil hx (A0 (B5 D8v (pv 7) (C6 D_signals_of_lead G_signals_of_lead hr hx (A0 (pv 0) (A0 (A3d (pv 2) R.cl RM.m1 RM.g1 hr RM.b1 .nil hx) (A0 (D7 D8 (pv 5) A2 (fun _ _ => rfl)) A4))))) A4))))
     (A5 (A9 (pv 6))))))))), ?_⟩
   have b0 : 0 < bo := by have := hb.1; omega
   have wr := D8p (s2 := n - v.fin L) ht hb hL ok.r1 (by
     unfold Cv.fin C4x
     split <;> omega)
   unfold A3j A6d at k
   refine ⟨fun σ' H' => Same H H' /\ σ' = [some (.ref c), some (.int sg), some (.ref x), some (.int i), some (.int (v.fin L)), none, none, none], ?_, ?_⟩
   . exact ⟨_, rfl, _, rfl, c, v, a, b, xs, ys, x, t, bo, n, L, rfl, hc, ra, ht, hb, hL, fun H' s' => ⟨s', rfl⟩⟩
   rintro σ' H1 ⟨t1, rfl⟩
   have hc1 := hc.same t1
   have ra1 := ra.same t1
   generalize v.fin L = q at *
   generalize hwh : whI t bo (n - q) = wh at *
   generalize hpt : ptI t bo (n - q) = pt at *
   refine ⟨fun σ' H' => ∃ p, Same H1 H' /\ H' p = some (.tup [.int wh, .int pt]) /\ σ' = [some (.ref c), some (.int sg), some (.ref x), some (.int i), some (.int q), some (.ref p), none, none], ?_, ?_⟩
   . obtain ⟨dr, er⟩ := id ra1
     refine ⟨_, rfl, x, dr, _, rfl, er, D5y _ _ _, _, rfl, x, t, bo, n, q, rfl, ra1, ht, hb, q0, q1, fun p H' s' np ep => ⟨p, s', ?_, rfl⟩⟩
     rw [hwh, hpt] at ep
     exact ep
   rintro σ' H2 ⟨p, t2, hp, rfl⟩
   have hc2 := hc1.same t2
   have sm := J6n (s := sg) (pt := pt) (q := q) (i := i) ok wr.1 wr.2
   refine ⟨fun σ' H' => ∃ m, Same H2 H' /\ H2 m = none /\ NumIs CN H' m ⟨.plain, sg, (U7 v sg wh pt q i).1, (U7 v sg wh pt q i).2⟩ /\ σ' = [some (.ref c), some (.int sg), some (.ref x), some (.int i), some (.int q), some (.ref p), some (.ref m), none], ?_, ?_⟩
   . refine ⟨_, rfl, p, _, _, _, rfl, rfl, SqT.of hp, B7 (j := 1) rfl, rfl, _, rfl, J3 (fun h => ?_) (fun h => ?_)⟩
     . have h : pt = 0 := by injection h
       refine ⟨_, rfl, _, rfl, _, rfl, p, _, _, _, rfl, rfl, SqT.of hp, B7 (j := 0) rfl, _, rfl, i, sg, wh, q, rfl, fun m H' nm s' num => ⟨m, s', nm, ?_, rfl⟩⟩
       unfold U7
       rw [if_pos h]
       exact num
     . have h : ¬ pt = 0 := fun z => h (congrArg V.int z)
       refine ⟨_, rfl, _, rfl, _, rfl, _, rfl, _, rfl, c, v, a, b, xs, ys, p, sg, wh, pt, rfl, hc2, hp, fun H3 s3 => ?_⟩
       refine ⟨_, rfl, c, v, a, b, xs, ys, sg, _, q, rfl, hc2.same s3, ok, fun m H' nm s' num => ⟨m, s3.trans s', s3.free nm, ?_, rfl⟩⟩
       unfold U7
       rw [if_neg h]
       exact num
   rintro σ' H3 ⟨m, t3, nm, num, rfl⟩
   have hc3 := hc2.same t3
   have tA := (t1.trans t2).trans t3
   have nmc : m ≠ c := fun z => by
     obtain ⟨⟨dx, e⟩, _, _⟩ := hc2
     rw [z, e] at nm
     cases nm
   obtain ⟨⟨dx, e3⟩, _, _⟩ := id hc3
   generalize hf : (U7 v sg wh pt q i).1 = fg at *
   generalize hg : (U7 v sg wh pt q i).2 = pw at *
   refine ⟨fun σ' H' => H' = H3 /\ A2a v.m fg pw = false /\ σ' = [some (.ref c), some (.int sg), some (.ref x), some (.int i), some (.int q), some (.ref p), some (.ref m), none], ?_, ?_⟩
   . refine ⟨_, rfl, _, rfl, c, v, a, b, xs, ys, m, _, rfl, hc3, num, sm, _, rfl, ?_⟩
     cases e : A2a v.m fg pw with
     | false => exact U0 ⟨rfl, rfl, rfl⟩
     | true =>
       rw [e, if_pos rfl] at k
       refine Y1 ⟨_, rfl, c, dx, _, rfl, e3, B3n _ _ _ _ _ _, D3 (by decide), fun l nl => ?_⟩
       have u := Same.upd (o := .lst [.str "burst", .str "off", .str "cut"]) nl
       refine ⟨c, v.r, v.y, v.l, v.m, a, b, xs, ys, .ref l, rfl, hc3.same u, by omega, .inl ⟨l, ["burst", "off", "cut"], rfl, A6, by decide, V4j, fun hn a' H4 x4 na ct => ?_, fun z hz a' d H4 x4 na ct nd ed => ?_⟩⟩
       . refine ⟨_, rfl, _, rfl, c, v, a', b, _, ys, sg, rfl, ct, ok, s0, s1, fun m' H5 s5 num5 => k.1 hn m' a' H5 (((Exc.of (tA.trans u)).trans x4).trans (.of s5)) (CtxV.same ct s5) num5⟩
       . exact k.2 z hz a' d H4 ((Exc.of (tA.trans u)).trans x4) ct ed
   rintro σ' H4 ⟨rfl, e, rfl⟩
   rw [e, if_neg Bool.false_ne_true] at k
   refine ⟨fun σ' H' => ∃ l, Same H4 H' /\ H' l = some (.lst ((U5 pt (decide (pw > i))).map V.str)) /\ σ' = [some (.ref c), some (.int sg), some (.ref x), some (.int i), some (.int q), some (.ref p), some (.ref m), some (.ref l)], ?_, ?_⟩
   . obtain ⟨dn, en⟩ := id num
     exact ⟨_, rfl, p, _, _, _, rfl, rfl, SqT.of (t3 _ _ hp), B7 (j := 1) rfl, _, rfl, m, CN, dn, _, _, rfl, en, N.cl, N.n4, B3g _ _ _ _, _, rfl, _, _, rfl, rfl, pt, _, rfl, fun l nl => ⟨l, Same.upd nl, A6, rfl⟩⟩
   rintro σ' H5 ⟨l, t5, hl, rfl⟩
   refine ⟨fun σ' H' => hit ys (U5 pt (decide (pw > i)) ++ Z1 v.l L pt) = none /\ ∃ a', Exc c H H' /\ CtxV CC H' c v a' b (V9 (xs ++ (U5 pt (decide (pw > i)) ++ Z1 v.l L pt))) ys /\ NumIs CN H' m ⟨.plain, sg, fg, pw⟩ /\ σ' = [some (.ref c), some (.int sg), some (.ref x), some (.int i), some (.int q), some (.ref p), some (.ref m), some (.ref l)], ?_, ?_⟩
   . have ra5 := ((ra1.same t2).same t3).same t5
     obtain ⟨dr, er⟩ := id ra5
     have hc5 := hc3.same t5
     refine ⟨_, rfl, c, dx, _, rfl, t5 _ _ e3, B3n _ _ _ _ _ _, _, rfl, _, rfl, _, rfl, x, dr, _, rfl, er, B7q _ _ _, x, t, bo, n, rfl, ra5, ht, hb, fun f H6 t6 ld => ?_⟩
     have ef : f = L := by
       have := U9f b0 ld hL
       omega
     subst ef
     refine ⟨_, rfl, p, _, _, _, rfl, rfl, SqT.of ((t5.trans t6) _ _ (t3 _ _ hp)), B7 (j := 1) rfl, c, v, a, b, xs, ys, f, pt, rfl, hc5.same t6, fun l2 nl2 => ?_⟩
     have u2 := Same.upd (o := .lst ((Z1 v.l f pt).map V.str)) nl2
     have rl := Y0m (pt := pt) (cut := decide (pw > i)) (l := v.l) (L := f)
     rw [List.length_append] at rl
     refine ⟨l, l2, _, _, rfl, rfl, (t6.trans u2) _ _ hl, A6, D3 (by rw [List.length_map, List.length_map]; omega), fun l3 nl3 => ?_⟩
     have u3 := Same.upd (o := .lst ((U5 pt (decide (pw > i))).map V.str ++ (Z1 v.l f pt).map V.str)) nl3
     have tB := (t6.trans u2).trans u3
     have num7 := (num.same t5).same tB
     obtain ⟨dn7, en7⟩ := id num7
     have keep : ∀ {H' : Hp}, Exc c _ H' -> NumIs CN H' m ⟨.plain, sg, fg, pw⟩ := fun x7 => ⟨dn7, x7 _ _ en7 nmc⟩
     refine ⟨c, v.r, v.y, v.l, v.m, a, b, xs, ys, .ref l3, rfl, (hc5.same tB), by omega, .inl ⟨l3, U5 pt (decide (pw > i)) ++ Z1 v.l f pt, rfl, by rw [A6, List.map_append], by rw [List.length_append]; omega, Y1d, fun hn a' H8 x8 na ct => ?_, fun z hz a' d H8 x8 na ct nd ed => ?_⟩⟩
     . exact ⟨hn, a', (Exc.of (tA.trans (t5.trans tB))).trans x8, ct, keep x8, rfl⟩
     . exact k.2 z hz a' d H8 ((Exc.of (tA.trans (t5.trans tB))).trans x8) ct ed
   rintro σ' H6 ⟨hn, a', x6, ct, num6, rfl⟩
   exact ⟨_, rfl, k.1 hn m a' H6 x6 ct num6⟩
end
section
variable {P : Program} {w : World} {K : Frag} {mg : Str -> Option Value} {base : Heap}
theorem Y3g {v : Cv} {L n : Int} (ok : v.Ok) (h1 : -1000 <= n - L) (h2 : n - L <= 1000) (n1 : -400 <= n) (n2 : n <= 400) : -1500 <= n - v.fin L /\ n - v.fin L <= 1500 := by
 have := ok.r1; have := ok.r2; have := ok.l1; have := ok.l2
 unfold Cv.fin C4x
 split <;> omega
theorem C6m {t b s : Int} (ht : Sz t) (hb : Sz b) (h : Y9 t b s) : -1000 <= s /\ s <= 1000 := by
 have e := G0 1000
 refine ⟨?_, ?_⟩
 . apply Classical.byContradiction
   intro hs
   have z : A7 s = 1 := by unfold A7; rw [show s.toNat = 0 by omega]; rfl
   have g : A7 1000 <= A7 (-s) := Y3 (by omega)
   have a := h.1
   rw [z, Int.mul_one] at a
   have : 1 * A7 (-s) <= b * A7 (-s) := Int.mul_le_mul_of_nonneg_right hb.1 (Int.le_of_lt (G0 _))
   have := ht.2
   omega
 . apply Classical.byContradiction
   intro hs
   have z : A7 (-s) = 1 := by unfold A7; rw [show (-s).toNat = 0 by omega]; rfl
   have g : A7 1001 <= A7 s := Y3 (by omega)
   have e1 : A7 1001 = 10 * A7 1000 := by
     unfold A7
     rw [show (1001 : Int).toNat = (1000 : Int).toNat + 1 by decide, Nat.pow_succ, Nat.mul_comm]
     rfl
   have a := h.2
   rw [z, Int.mul_one] at a
   have : 1 * A7 s <= t * A7 s := Int.mul_le_mul_of_nonneg_right ht.1 (Int.le_of_lt (G0 _))
   have := hb.2
   omega
theorem B4n : Sz 1 := ⟨by decide, by
 have : A7 1 <= A7 1000 := Y3 (by decide)
 have e : A7 1 = 10 := rfl
 omega⟩
end
def B2s (v : Cv) (s i : Int) : Nm := ⟨.plain, s, 0, minI (C4x i (v.l - v.r + 1)) v.m⟩
theorem Ends2.same {CN CC CT : Addr} {H H1 : Hp} {c : Addr} {v : Cv} {b : Addr} {xs ys : List Str} {res : Nm × List Str} {Q : VK} {E : XK} (k : Ends2 CN CC CT H c v b xs ys res Q E) (s : Same H H1) : Ends2 CN CC CT H1 c v b xs ys res Q E :=
 ⟨fun hn m a' H' x => k.1 hn m a' H' ((Exc.of s).trans x), fun z hz a' d H' x => k.2 z hz a' d H' ((Exc.of s).trans x)⟩
theorem A0bw (tr : List Str) : hit tr [] = none := by
 unfold hit
 rw [List.find?_eq_none]
 simp
theorem Ends2.calm {CN CC CT : Addr} {H H1 : Hp} {c n a : Addr} {v : Cv} {b : Addr} {xs ys : List Str} {x : Nm} {Q : VK} {E : XK} (k : Ends2 CN CC CT H c v b xs ys (x, []) Q E) (ox : V9 xs = xs) (s : Same H H1) (hc : CtxV CC H c v a b xs ys) (hn : NumIs CN H1 n x) : Q (.ref n) H1 :=
 k.1 (A0bw _) n a H1 (Exc.of s) (by show CtxV CC H1 c v a b (V9 (xs ++ [])) ys; rw [List.append_nil, ox]; exact hc.same s) hn
deriving instance DecidableEq for Kd
theorem D8m (n : Nat) (h : 1 <= n) : ∃ L : Nat, 10 ^ L <= n /\ n < 10 ^ (L + 1) := by
 induction n using Nat.strongRecOn with
 | ind n ih =>
   by_cases h10 : n < 10
   . exact ⟨0, by simpa using h, by simpa using h10⟩
   . obtain ⟨L, a, b⟩ := ih (n / 10) (by omega) (by omega)
     refine ⟨L + 1, ?_, ?_⟩
     . rw [Nat.pow_succ]; omega
     . rw [Nat.pow_succ]; omega
theorem C5f {n j : Nat} (h1 : n < 10 ^ (j + 1)) (h2 : 10 ^ j <= n) : V2 (n : Int) = (j : Int) + 1 := by
 unfold V2
 have e : (Str.ofString (toString (n : Int))).length = (Nat.toDigits 10 n).length := by
   have := congrArg List.length (KIN.signs_num n)
   rw [List.length_map] at this
   rw [<- this]; rfl
 rw [e]
 have a : (Nat.toDigits 10 n).length <= j + 1 := digits10_le (by omega) h1
 have b : j + 1 <= (Nat.toDigits 10 n).length := digits10_ge h2
 omega
abbrev A5j : Stmt := (top 25)
abbrev A4x : Stmt := (top 49)
abbrev A3s : Stmt := (top 50)
abbrev A0y : Stmt := (top 51)
theorem FnOk.never {P : Program} {w : World} {K : Frag} {mg : Str -> Option Value} {base : Heap} {CX : CXT} {k : Nat} {f : Addr} {fd : FuncData} {ps : List Str} : FnOk P w K mg base CX k f fd ps (fun _ _ _ _ => False) := ⟨fun _ _ _ _ h => h.elim, fun _ _ _ _ _ _ _ _ _ _ _ _ _ h => h.elim⟩
def D1x (a b : Int) : Int := if a = b then 0 else 1
theorem Y3r (a b : Int) : 0 <= D1x a b /\ D1x a b <= 1 := by unfold D1x; split <;> decide
section
variable {P : Program} {w : World} {K : Frag} {mg : Str -> Option Value} {base : Heap}
def Two (CN : Addr) (H : Hp) (n1 n2 : Addr) (x1 x2 : Nm) : Prop := NumIs CN H n1 x1 /\ NumIs CN H n2 x2
theorem Two.same {CN : Addr} {H H' : Hp} {n1 n2 : Addr} {x1 x2 : Nm} (h : Two CN H n1 n2 x1 x2) (e : Same H H') : Two CN H' n1 n2 x1 x2 := ⟨h.1.same e, h.2.same e⟩
def G9k (CN : Addr) : Sp := fun vs H Q _ => ∃ n1 n2 x1 x2, vs = [.ref n1, .ref n2] /\ Two CN H n1 n2 x1 x2 /\ Q (.int (D1x x1.s x2.s)) H
theorem Y2t : FnScope ["one", "other"] ["one", "other"] (A1 A5j) := scK
theorem V3r {f CN : Addr} {fd : FuncData} (D : Def K mg "unlike_sign" ["one", "other"] A5j f fd) (N : Num K mg CN) : FnOk P w K mg base (CX1 P w) 1 f fd ["one", "other"] (G9k CN) := by
 refine D.F.okE Y2t (fun vs H Q E h => ?_) (fun X cdv A outer s H vs Q E hX hr hx h => ?_)
 . obtain ⟨n1, n2, x1, x2, rfl, _⟩ := h
   rfl
 . subst hX
   obtain ⟨n1, n2, x1, x2, rfl, ⟨⟨d1, e1⟩, ⟨d2, e2⟩⟩, k⟩ := h
   refine ⟨_, (A5 (A9 (U2 (C5 C4f (D4 (pv 0) rfl) (D4 (pv 1) rfl) (B9 _)) A2 A2))), ?_⟩
   refine ⟨_, rfl, n1, CN, d1, _, _, rfl, e1, N.cl, N.n2, B7j _ _ _ _, _, rfl, n2, CN, d2, _, _, rfl, e2, N.cl, N.n2, B7j _ _ _ _, rfl, _, rfl, ?_⟩
   unfold D1x at k
   by_cases h : x1.s = x2.s
   . rw [if_pos h] at k
     exact B7e (congrArg V.int h) k
   . rw [if_neg h] at k
     rw [decide_eq_false (fun z => h (by injection z) : ¬ V.int x1.s = V.int x2.s)]
     exact Y1 k
theorem A4y {z : Str} {n1 n2 : Addr} {x1 x2 : Nm} (h1 : x1.k = .plain) (h2 : x2.k = .plain) (hz : Kd.plain.str ≠ z) : ([(n1, x1), (n2, x2)].any fun p => decide (p.2.k.str = z)) = false := by
 simp [h1, h2, hz]
theorem Z0 {CN : Addr} {H : Hp} {l n1 n2 : Addr} {x1 x2 : Nm} (h : Two CN H n1 n2 x1 x2) (hl : H l = some (.lst [.ref n1, .ref n2])) : NumsAt CN H l [(n1, x1), (n2, x2)] := ⟨hl, List.forall_mem_cons.2 ⟨h.1, List.forall_mem_cons.2 ⟨h.2, by simp⟩⟩⟩
def C6w (CN : Addr) : Sp := fun vs H Q _ => ∃ n1 n2 x1 x2, vs = [.ref n1, .ref n2] /\ Two CN H n1 n2 x1 x2 /\ x1.k = .plain /\ x2.k = .plain /\ ∀ H', Same H H' -> Q (.bl false) H'
theorem Y1k : FnScope ["one", "other"] ["one", "other"] (A1 A3s) := scK
theorem V3j {f f1 f2 CN : Addr} {fd fd1 fd2 : FuncData} (D : Def K mg "is_end_by_nought" ["one", "other"] A3s f fd) (D_some_of_kind : Def K mg "some_of_kind" ["numbers", "kind"] Z2 f1 fd1) (G_some_of_kind : FnOk P w K mg base (CX1 P w) 1 f1 fd1 ["numbers", "kind"] (A2b CN)) (D_is_nought : Def K mg "is_nought" ["number"] A4x f2 fd2) : FnOk P w K mg base (CX1 P w) 2 f fd ["one", "other"] (C6w CN) := by
 have G_is_nought : FnOk P w K mg base (CX1 P w) 1 f2 fd2 ["number"] (fun _ _ _ _ => False) := FnOk.never
 refine D.F.okE Y1k (fun vs H Q E h => ?_) (fun X cdv A outer s H vs Q E hX hr hx h => ?_)
 . obtain ⟨n1, n2, x1, x2, rfl, _⟩ := h
   rfl
 . subst hX
   obtain ⟨n1, n2, x1, x2, rfl, tw, h1, h2, k⟩ := h
   refine ⟨_, (A5 (A9 (B4d (C6 D_some_of_kind G_some_of_kind hr hx (A0 (J2 (A0 (pv 0) (A0 (pv 1) A4))) (A0 C8 A4))) (A2v (G9z (C6 D_is_nought G_is_nought hr hx (A0 (pv 0) A4)) (A2v (C6 D_is_nought G_is_nought hr hx (A0 (pv 1) A4)))))))), ?_⟩
   have z2 : 2 <= sizeLine := D3 (by decide)
   refine ⟨_, rfl, _, rfl, z2, fun l nl => ?_⟩
   have u := Same.upd (o := .lst [.ref n1, .ref n2]) nl
   refine ⟨l, _, _, rfl, Z0 (tw.same u) A6, (by show 2 <= 1000; decide), fun H' s' => ⟨_, rfl, ?_⟩⟩
   rw [A4y h1 h2 (by decide +kernel)]
   exact U0 (k H' (u.trans s'))
def B7d (x1 x2 : Nm) : Nm := ⟨.plain, D1x x1.s x2.s, x1.f * x2.f, x1.p + x2.p⟩
def J5z (CN : Addr) : Sp := fun vs H Q _ => ∃ n1 n2 x1 x2, vs = [.ref n1, .ref n2] /\ Two CN H n1 n2 x1 x2 /\ x1.k = .plain /\ x2.k = .plain /\ IntMulOk x1.f x2.f /\ ∀ n H', H n = none -> Same H H' -> NumIs CN H' n (B7d x1 x2) -> Q (.ref n) H'
theorem scProd : FnScope ["one", "other", "sign"] ["one", "other"] (A1 A0y) := scK
theorem A0ct {f f1 f2 f3 fI CN CB : Addr} {fd fd1 fd2 fd3 fdI : FuncData} (D : Def K mg "product" ["one", "other"] A0y f fd) (D_some_of_kind : Def K mg "some_of_kind" ["numbers", "kind"] Z2 f1 fd1) (G_some_of_kind : FnOk P w K mg base (CX1 P w) 1 f1 fd1 ["numbers", "kind"] (A2b CN)) (D_unlike_sign : Def K mg "unlike_sign" ["one", "other"] A5j f2 fd2) (G_unlike_sign : FnOk P w K mg base (CX1 P w) 1 f2 fd2 ["one", "other"] (G9k CN))
   (D_end : Def K mg "end" ["sign"] G8z f3 fd3) (G_end : FnOk P w K mg base (CX1 P w) 3 f3 fd3 ["sign"] (Y0n K CN CB)) (N : Num K mg CN) (M : MakeN P w K mg base CN fI fdI) : FnOk P w K mg base (CX1 P w) 4 f fd ["one", "other"] (J5z CN) := by
 refine D.F.okE scProd (fun vs H Q E h => ?_) (fun X cdv A outer s H vs Q E hX hr hx h => ?_)
 . obtain ⟨n1, n2, x1, x2, rfl, _⟩ := h
   rfl
 . subst hX
   obtain ⟨n1, n2, x1, x2, rfl, tw, h1, h2, hm, k⟩ := h
   refine ⟨_, (A3 (C9 (i := 2) scProd.nd rfl (Or.inl rfl) (C6 D_unlike_sign G_unlike_sign hr hx (A0 (pv 0) (A0 (pv 1) A4))))
     (A3 (D6 (U4 (C6 D_some_of_kind G_some_of_kind hr hx (A0 (J2 (A0 (pv 0) (A0 (pv 1) A4))) (A0 C8 A4)))) (A5 (A9 (C6 D_end G_end hr hx (A0 (pv 2) A4)))) C7)
     (A5 (A9 (A8q M.m (FnOk.up M.g) hr N.g M.b .nil hx (A0 C8 (A0 (pv 2) (A0 (B5 G4 (D4 (pv 0) rfl) (D4 (pv 1) rfl)) (A0 (B5 G9 (D4 (pv 0) rfl) (D4 (pv 1) rfl)) A4))))))))), ?_⟩
   have z2 : 2 <= sizeLine := D3 (by decide)
   refine ⟨_, rfl, _, rfl, n1, n2, x1, x2, rfl, tw, ?_⟩
   refine ⟨_, rfl, _, rfl, z2, fun l nl => ?_⟩
   have u := Same.upd (o := .lst [.ref n1, .ref n2]) nl
   refine ⟨l, _, _, rfl, Z0 (tw.same u) A6, (by show 2 <= 1000; decide), fun H' s' => ⟨_, rfl, ?_⟩⟩
   rw [A4y h1 h2 (by decide +kernel)]
   refine U0 ?_
   have sm := u.trans s'
   obtain ⟨⟨d1, e1⟩, ⟨d2, e2⟩⟩ := tw.same sm
   refine ⟨_, rfl, _, rfl, n1, CN, d1, _, _, rfl, e1, N.cl, N.n3, C4z _ _ _ _, _, rfl, n2, CN, d2, _, _, rfl, e2, N.cl, N.n3, C4z _ _ _ _, _, _, rfl, rfl, hm, _, rfl, n1, CN, d1, _, _, rfl, e1, N.cl, N.n4, B3g _ _ _ _, _, rfl, n2, CN, d2, _, _, rfl, e2, N.cl, N.n4, B3g _ _ _ _, _, _, rfl, rfl, ?_⟩
   exact B7h fun n H2 nn s2 num => k n H2 (sm.free nn) (sm.trans s2) num
end
abbrev A6e : Stmt := (top 52)
abbrev B4b : Stmt := (top 54)
abbrev C5v : Stmt := (top 45)
abbrev B4w : Stmt := (top 46)
abbrev B4p : Stmt := (top 47)
abbrev B4v : Stmt := (top 48)
abbrev A5t : Stmt := (top 57)
abbrev A3b : Stmt := (top 58)
abbrev A6f : Stmt := (top 81)
abbrev A2r : Stmt := (top 80)
def U3 (x y : Nm) : Int := if y.p < x.p then y.p else x.p
def B3f (x y : Nm) : Int := x.wh (U3 x y) + y.wh (U3 x y)
def B6z (t : Int) : Int := if t < 0 then -t else t
def B4j (t : Int) : Int := if t < 0 then 1 else 0
def floI : Wy -> Int
 | .floor => 1
 | _ => 0
def B3q (y : Wy) (a b : Int) : Int := if a = b then a else floI y
def A4q (v : Cv) (s f p i : Int) : Nm × List Str := if f = 0 then (B2s v s i, []) else A3j v s f 1 p (p + V2 f - 1) i
def C7a (v : Cv) (x y : Nm) : Nm × List Str := if B3f x y = 0 then (B2s v (B3q v.y x.s y.s) (U3 x y), []) else A4q v (B4j (B3f x y)) (B6z (B3f x y)) (U3 x y) (U3 x y)
def J6y (x : Nm) : Nm := ⟨x.k, 1 - x.s, x.f, x.p⟩
theorem U9j (x y : Nm) : U3 x y <= x.p /\ U3 x y <= y.p /\ (U3 x y = x.p \/ U3 x y = y.p) := by
 unfold U3
 split <;> omega
theorem wh_b {x : Nm} {q : Int} (h : x.Bg) (e : x.p - q <= 800) : -(A7 920) <= x.wh q /\ x.wh q <= A7 920 := by
 have tp := G0 (x.p - q)
 have a : x.f * A7 (x.p - q) <= A7 120 * A7 800 := Int.mul_le_mul (Int.le_of_lt h.f1) (Y3 (by omega)) (Int.le_of_lt tp) (Int.le_of_lt (G0 _))
 have b : A7 120 * A7 800 = A7 920 := by decide +kernel
 have c : 0 <= x.f * A7 (x.p - q) := Int.mul_nonneg h.f0 (Int.le_of_lt tp)
 unfold Nm.wh
 split <;> omega
theorem A0kv {t : Int} (h : t ≠ 0) (a : -(2 * A7 920) <= t) (b : t <= 2 * A7 920) : Sz (B6z t) := by
 have c : 2 * A7 920 < A7 1000 := by decide +kernel
 unfold B6z
 constructor <;> split <;> omega
theorem Y3j {x y : Nm} (hx : x.Bg) (hy : y.Bg) (h : B3f x y ≠ 0) : Sz (B6z (B3f x y)) := by
 obtain ⟨m1, m2, m3⟩ := U9j x y
 have := hx.p0; have := hx.p1; have := hy.p0; have := hy.p1
 have a := wh_b (q := U3 x y) hx (by omega)
 have b := wh_b (q := U3 x y) hy (by omega)
 refine A0kv h ?_ ?_ <;> unfold B3f <;> omega
theorem A4w {f p : Int} (h : Sz f) : Y9 f 1 (p - (p + V2 f - 1)) := by
 obtain ⟨n, rfl, h1, _⟩ := h.nat
 obtain ⟨j, a, b⟩ := D8m n h1
 rw [C5f b a, show p - (p + ((j : Int) + 1) - 1) = -(j : Int) by omega]
 unfold Y9
 have e1 : A7 (-(j : Int)) = 1 := by unfold A7; rw [show (-(j : Int)).toNat = 0 by omega]; rfl
 have e2 : A7 (-(-(j : Int))) = ((10 ^ j : Nat) : Int) := by unfold A7; rw [Int.neg_neg, Int.toNat_natCast]
 rw [e1, e2]
 rw [Nat.pow_succ] at b
 constructor <;> omega
theorem B2r {v : Cv} {f p : Int} (ok : v.Ok) (h : Sz f) (p0 : -400 <= p) (p1 : p <= 400) : -1500 <= p - v.fin (p + V2 f - 1) /\ p - v.fin (p + V2 f - 1) <= 1500 := by
 have ls := C6m h B4n (A4w (p := p) h)
 exact Y3g ok ls.1 ls.2 p0 p1
theorem D7u {x : Nm} (h : x.Bg) (hf : x.f ≠ 0) : Sz x.f := ⟨by have := h.f0; omega, Int.lt_of_lt_of_le h.f1 (Y3 (by decide))⟩
theorem D8u {x y : Nm} (hx : x.Ok) (hy : y.Ok) : (B7d x y).Bg := by
 have := hx.p0; have := hx.p1; have := hy.p0; have := hy.p1
 refine ⟨Int.mul_nonneg hx.f0 hy.f0, ?_, by show -400 <= x.p + y.p; omega, by show x.p + y.p <= 400; omega⟩
 have a : x.f * y.f <= (10 ^ 60 - 1) * (10 ^ 60 - 1) := Int.mul_le_mul hx.f1 hy.f1 hy.f0 (by decide +kernel)
 exact Int.lt_of_le_of_lt a (by decide +kernel)
section
variable {P : Program} {w : World} {K : Frag} {mg : Str -> Option Value} {base : Heap}
def V0x (CN CC : Addr) : Sp := fun vs H Q _ => ∃ c v a b xs ys n1 n2 x1 x2, vs = [.ref c, .ref n1, .ref n2] /\ CtxV CC H c v a b xs ys /\ Two CN H n1 n2 x1 x2 /\ ∀ H', Same H H' -> Q (.int (B3q v.y x1.s x2.s)) H'
theorem A0bt : FnScope ["context", "one", "other"] ["context", "one", "other"] (A1 B4b) := scK
theorem Y1u {f CN CC CB CT CW : Addr} {cw : Wy -> Addr} {fd : FuncData} (D : Def K mg "sign_of_no_sum" ["context", "one", "other"] B4b f fd) (C : CtxM P w K mg base CC CB CT CW cw) (WN : ∀ y : Wy, WayN P w K mg base (cw y) y.name) (N : Num K mg CN) : FnOk P w K mg base (CX1 P w) 3 f fd ["context", "one", "other"] (V0x CN CC) := by
 refine D.F.okE A0bt (fun vs H Q E h => ?_) (fun X cdv A outer s H vs Q E hX hr hx h => ?_)
 . obtain ⟨c, v, a, b, xs, ys, n1, n2, x1, x2, rfl, _⟩ := h
   rfl
 . subst hX
   obtain ⟨c, v, a, b, xs, ys, n1, n2, x1, x2, rfl, hc, ⟨⟨d1, e1⟩, ⟨d2, e2⟩⟩, k⟩ := h
   obtain ⟨fW, fdW, mW, gW, bW⟩ := C.way
   obtain ⟨fU, fdU, mU, gU, bU⟩ := WN v.y
   refine ⟨_, (A3 (D6 (C5 D9 (D4 (pv 1) rfl) (D4 (pv 2) rfl) (B9 _)) (A5 (A9 (D4 (pv 1) rfl))) C7)
     (A5 (A9 (U2 (C5 D9 (A3d (A3d (pv 0) C.c.cl mW gW hr bW .nil hx) (C.wc v.y).cl mU gU hr bU .nil hx) C8 (B9 _)) A2 A2)))), ?_⟩
   obtain ⟨dx, e⟩ := hc.ins
   refine ⟨_, rfl, n1, CN, d1, _, _, rfl, e1, N.cl, N.n2, B7j _ _ _ _, _, rfl, n2, CN, d2, _, _, rfl, e2, N.cl, N.n2, B7j _ _ _ _, rfl, _, rfl, J3 (fun h => ?_) (fun h => ?_)⟩
   . have k := k H (Same.refl _)
     unfold B3q at k
     rw [if_pos (V.int.inj h)] at k
     exact ⟨_, rfl, n1, CN, d1, _, _, rfl, e1, N.cl, N.n2, B7j _ _ _ _, k⟩
   . refine ⟨_, rfl, c, dx, _, rfl, e, B4f _ _ _ _ _ _, c, v.r, v.y, v.l, v.m, a, b, _, _, rfl, hc, fun q dq H1 nq s1 eq => ?_⟩
     have k := k H1 s1
     have e : B3q v.y x1.s x2.s = (if V.str v.y.name = V.str "floor" then 1 else 0) := by
       unfold B3q
       rw [if_neg fun z => h (congrArg V.int z)]
       cases v.y <;> decide +kernel
     rw [e] at k
     refine ⟨q, dq, _, rfl, eq, rfl, q, rfl, rfl, _, rfl, J3 (fun h => ?_) (fun h => ?_)⟩
     . rw [if_pos h] at k
       exact k
     . rw [if_neg h] at k
       exact k
def B7c (CN CC CT : Addr) : Sp := fun vs H Q E => ∃ c v a b xs ys n1 n2 x1 x2, vs = [.ref c, .ref n1, .ref n2] /\ CtxV CC H c v a b xs ys /\ v.Ok /\ xs.length <= 900 /\ V9 xs = xs /\ Two CN H n1 n2 x1 x2 /\ x1.k = .plain /\ x2.k = .plain /\ x1.Bg /\ x2.Bg /\ Ends2 CN CC CT H c v b xs ys (C7a v x1 x2) Q E
theorem scAdded : FnScope ["context", "one", "other", "low", "total"] ["context", "one", "other"] (A1 A6e) := scK
theorem A0hb (t : Int) : 0 <= B4j t /\ B4j t <= 1 := by unfold B4j; split <;> decide
theorem Y3u {f f1 f2 f3 f4 f5 f6 fR CN CC CB CT CW CR CE : Addr} {cw : Wy -> Addr} {fd fd1 fd2 fd3 fd4 fd5 fd6 fdR : FuncData} {d0 : Value} {gP : List Value -> List Value -> List Value} {vP : List V -> List V -> List V} {sEA : Stmt} (D : Def K mg "added" ["context", "one", "other"] A6e f fd) (D_some_of_kind : Def K mg "some_of_kind" ["numbers", "kind"] Z2 f1 fd1) (G_some_of_kind : FnOk P w K mg base (CX1 P w) 1 f1 fd1 ["numbers", "kind"] (A2b CN))
   (D_end_added : Def K mg "end_added" ["context", "one", "other"] sEA f2 fd2) (D_whole_at : Def K mg "whole_at" ["number", "power"] Z3 f3 fd3) (G_whole_at : FnOk P w K mg base (CX1 P w) 3 f3 fd3 ["number", "power"] (B8e CN)) (D_nought : Def K mg "nought" ["context", "sign", "ideal"] A0v f4 fd4) (G_nought : FnOk P w K mg base (CX1 P w) 3 f4 fd4 ["context", "sign", "ideal"] (B7b CN CC))
   (D_sign_of_no_sum : Def K mg "sign_of_no_sum" ["context", "one", "other"] B4b f5 fd5) (G_sign_of_no_sum : FnOk P w K mg base (CX1 P w) 3 f5 fd5 ["context", "one", "other"] (V0x CN CC)) (D_settled : Def K mg "settled" ["context", "sign", "exact", "ideal"] Z5 f6 fd6) (G_settled : FnOk P w K mg base (CX1 P w) 6 f6 fd6 ["context", "sign", "exact", "ideal"] (A4r CN CC CT CR))
   (C : CtxM P w K mg base CC CB CT CW cw) (N : Num K mg CN) (MR : MakeR P w K mg base CR fR fdR d0 gP vP) (R : RatC K mg CR CE) (O : Own mg) : FnOk P w K mg base (CX1 P w) 7 f fd ["context", "one", "other"] (B7c CN CC CT) := by
 have G_end_added : FnOk P w K mg base (CX1 P w) 1 f2 fd2 ["context", "one", "other"] (fun _ _ _ _ => False) := FnOk.never
 refine D.F.okE scAdded (fun vs H Q E h => ?_) (fun X cdv A outer s H vs Q E hX hr hx h => ?_)
 . obtain ⟨c, v, a, b, xs, ys, n1, n2, x1, x2, rfl, _⟩ := h
   rfl
 . subst hX
   obtain ⟨c, v, a, b, xs, ys, n1, n2, x1, x2, rfl, hc, ok, lx, ox, tw, h1, h2, g1, g2, k⟩ := h
   refine ⟨_, (A3 (D6 (U4 (C6 D_some_of_kind G_some_of_kind hr hx (A0 (J2 (A0 (pv 1) (A0 (pv 2) A4))) (A0 C8 A4)))) (A5 (A9 (C6 D_end_added G_end_added hr hx (A0 (pv 0) (A0 (pv 1) (A0 (pv 2) A4)))))) C7)
     (A3 (C9 (i := 3) scAdded.nd rfl (Or.inl rfl) (J7 (A0n rfl) (by rfl) O.min_ boot_min (A0 (D4 (pv 1) rfl) (A0 (D4 (pv 2) rfl) A4))))
     (A3 (C9 (i := 4) scAdded.nd rfl (Or.inl rfl) (B5 G9 (C6 D_whole_at G_whole_at hr hx (A0 (pv 1) (A0 (pv 3) A4))) (C6 D_whole_at G_whole_at hr hx (A0 (pv 2) (A0 (pv 3) A4)))))
     (A3 (D6 (C5 D9 (pv 4) A2 (B9 _)) (A5 (A9 (C6 D_nought G_nought hr hx (A0 (pv 0) (A0 (C6 D_sign_of_no_sum G_sign_of_no_sum hr hx (A0 (pv 0) (A0 (pv 1) (A0 (pv 2) A4)))) (A0 (pv 3) A4)))))) C7)
     (A5 (A9 (C6 D_settled G_settled hr hx (A0 (pv 0) (A0 (U2 (C5 B3j (pv 4) A2 (B9 _)) A2 A2) (A0 (A8q MR.m MR.g hr R.g MR.b3 .nil hx (A0 (J7 C6b (by rfl) O.abs_ boot_abs (A0 (pv 4) A4)) (A0 A2 (A0 (pv 3) A4)))) (A0 (pv 3) A4))))))))))), ?_⟩
   have z2 : 2 <= sizeLine := D3 (by decide)
   refine ⟨_, rfl, _, rfl, z2, fun l nl => ?_⟩
   have u := Same.upd (o := .lst [.ref n1, .ref n2]) nl
   refine ⟨l, _, _, rfl, Z0 (tw.same u) A6, (by show 2 <= 1000; decide), fun H3 s3 => ⟨_, rfl, ?_⟩⟩
   rw [A4y h1 h2 (by decide +kernel)]
   refine U0 ?_
   have sm3 := u.trans s3
   have tw3 := tw.same sm3
   have hc3 := hc.same sm3
   obtain ⟨⟨d1, e1⟩, ⟨d2, e2⟩⟩ := id tw3
   obtain ⟨m1, m2, m3⟩ := U9j x1 x2
   have := g1.p0; have := g1.p1; have := g2.p0; have := g2.p1
   refine ⟨_, rfl, n1, CN, d1, _, _, rfl, e1, N.cl, N.n4, B3g _ _ _ _, _, rfl, n2, CN, d2, _, _, rfl, e2, N.cl, N.n4, B3g _ _ _ _, _, _, rfl, ?_⟩
   show tSeq _ _ _ [some (V.ref c), some (V.ref n1), some (V.ref n2), some (V.int (U3 x1 x2)), none] H3
   refine ⟨_, rfl, _, rfl, n1, x1, U3 x1 x2, rfl, tw3.1, g1, by omega, by omega, _, rfl, _, rfl, n2, x2, U3 x1 x2, rfl, tw3.2, g2, by omega, by omega, _, _, rfl, rfl, ?_⟩
   show tSeq _ _ _ [some (V.ref c), some (V.ref n1), some (V.ref n2), some (V.int (U3 x1 x2)), some (V.int (B3f x1 x2))] H3
   unfold C7a at k
   refine ⟨_, rfl, rfl, _, rfl, J3 (fun hf => ?_) (fun hf => ?_)⟩
   . have hf : B3f x1 x2 = 0 := V.int.inj hf
     rw [if_pos hf] at k
     refine ⟨_, rfl, _, rfl, _, rfl, _, rfl, c, v, a, b, xs, ys, n1, n2, x1, x2, rfl, hc3, tw3, fun H4 s4 => ?_⟩
     have sm4 := sm3.trans s4
     exact ⟨_, rfl, c, v, a, b, xs, ys, B3q v.y x1.s x2.s, U3 x1 x2, rfl, hc.same sm4, fun n H' nn s' num => k.calm ox (sm4.trans s') hc num⟩
   . have hf : ¬ B3f x1 x2 = 0 := fun z => hf (congrArg V.int z)
     rw [if_neg hf] at k
     have sz := Y3j g1 g2 hf
     unfold A4q at k
     rw [if_neg (by have := sz.1; omega)] at k
     have fn := B2r (p := U3 x1 x2) ok sz (by omega) (by omega)
     have nb := A0hb (B3f x1 x2)
     have fin : ∀ sg : Int, sg = B4j (B3f x1 x2) -> ∀ q H4, Same H3 H4 -> RatAt CR H4 q (B6z (B3f x1 x2)) 1 (U3 x1 x2) -> A4r CN CC CT CR [.ref c, .int sg, .ref q, .int (U3 x1 x2)] H4 Q E := fun sg e q H4 s4 ra => by
       subst e
       have sm4 := sm3.trans s4
       exact ⟨c, v, a, b, xs, ys, q, _, 1, _, _, _, _, rfl, hc.same sm4, ok, lx, ra, sz, B4n, A4w sz, fn.1, fn.2, nb.1, nb.2, k.same sm4⟩
     refine ⟨_, rfl, _, rfl, _, _, rfl, rfl, _, rfl, J3 (fun h => ?_) (fun h => ?_)⟩
     . have e : (1 : Int) = B4j (B3f x1 x2) := by unfold B4j; rw [if_pos h]
       exact ⟨_, rfl, _, rfl, _, rfl, fun q dq m1 m2 me => V0p m1 m2 me fun H4 s4 ra => ⟨rfl, _, rfl, fin 1 e q H4 s4 ra⟩⟩
     . have e : (0 : Int) = B4j (B3f x1 x2) := by unfold B4j; rw [if_neg h]
       exact ⟨_, rfl, _, rfl, _, rfl, fun q dq m1 m2 me => V0p m1 m2 me fun H4 s4 ra => ⟨rfl, _, rfl, fin 0 e q H4 s4 ra⟩⟩
end
abbrev B4c : Stmt := (top 29)
section
variable {P : Program} {w : World} {K : Frag} {mg : Str -> Option Value} {base : Heap}
def U9h : Sp := fun vs H Q _ => ∃ n m : Int, vs = [.int n, .int m] /\ -m <= n /\ n <= m /\ Q .non H
theorem A0aw : FnScope ["thing", "most"] ["thing", "most"] (A1 B4c) := scK
theorem Y2u {f f1 CB : Addr} {fd fd1 : FuncData} (D : Def K mg "need_count" ["thing", "most"] B4c f fd) (D1 : Def K mg "is_between" ["thing", "least", "most"] C6t f1 fd1) (O : Own mg) (T : Kit K) (B : Err K mg "BadCount" CB) : FnOk P w K mg base (CX1 P w) 2 f fd ["thing", "most"] U9h := by
 have G1 := J6c (P := P) (w := w) (base := base) D1 O T
 refine D.F.okE A0aw (fun vs H Q E h => ?_) (fun X cdv A outer s H vs Q E hX hr hx h => ?_)
 . obtain ⟨n, m, rfl, _⟩ := h
   rfl
 . subst hX
   obtain ⟨n, m, rfl, h1, h2, k⟩ := h
   refine ⟨_, (A5 (D6 (A5m (U4 (C6 D1 G1 hr hx (A0 (pv 0) (A0 (A8p A1r (pv 1)) (A0 (pv 1) A4))))))
     (A5 (A0w (by rfl) B.g B.q PySem.F.excBase_ValueError hr.hd hx (A0 (D7w (.cons .lit (.cons (.int (pv 1)) (.cons .lit (.cons (.int (pv 1)) .nil))))) A4))) C7)), ?_⟩
   exact ⟨_, rfl, _, rfl, _, rfl, _, rfl, _, _, _, rfl, .inl ⟨⟨n, rfl, h1, h2⟩, _, rfl, U0 k⟩⟩
end
section
variable {P : Program} {w : World} {K : Frag} {mg : Str -> Option Value} {base : Heap}
def Y3p (CN CC CT : Addr) : Sp := fun vs H Q E => ∃ c v a b xs ys n1 n2 x1 x2, vs = [.ref c, .ref n1, .ref n2] /\ CtxV CC H c v a b xs ys /\ v.Ok /\ xs.length <= 900 /\ V9 xs = xs /\ Two CN H n1 n2 x1 x2 /\ x1.k = .plain /\ x2.k = .plain /\ x1.Ok /\ x2.Ok /\ Ends2 CN CC CT H c v b xs ys (C7a v x1 x2) Q E
theorem A0jn : FnScope ["context", "one", "other"] ["context", "one", "other"] (A1 C5v) := scK
theorem A0ad {f f1 f2 f3 f4 CN CC CB' CT : Addr} {fd fd1 fd2 fd3 fd4 : FuncData} (D : Def K mg "plus" ["context", "one", "other"] C5v f fd) (D_need_numbers : Def K mg "need_numbers" ["things"] Z4 f1 fd1) (G_need_numbers : FnOk P w K mg base (CX1 P w) 2 f1 fd1 ["things"] (A4s K CN CB'))
   (D_some_of_kind : Def K mg "some_of_kind" ["numbers", "kind"] Z2 f2 fd2) (G_some_of_kind : FnOk P w K mg base (CX1 P w) 1 f2 fd2 ["numbers", "kind"] (A2b CN)) (D_nothing : Def K mg "nothing" [] V5 f3 fd3) (G_nothing : FnOk P w K mg base (CX1 P w) 3 f3 fd3 [] (A0m CN))
   (D_added : Def K mg "added" ["context", "one", "other"] A6e f4 fd4) (G_added : FnOk P w K mg base (CX1 P w) 7 f4 fd4 ["context", "one", "other"] (B7c CN CC CT)) : FnOk P w K mg base (CX1 P w) 8 f fd ["context", "one", "other"] (Y3p CN CC CT) := by
 refine D.F.okE A0jn (fun vs H Q E h => ?_) (fun X cdv A outer s H vs Q E hX hr hx h => ?_)
 . obtain ⟨c, v, a, b, xs, ys, n1, n2, x1, x2, rfl, _⟩ := h
   rfl
 . subst hX
   obtain ⟨c, v, a, b, xs, ys, n1, n2, x1, x2, rfl, hc, ok, lx, ox, tw, h1, h2, o1, o2, k⟩ := h
   refine ⟨_, (A3 (U8 (C6 D_need_numbers G_need_numbers hr hx (A0 (J2 (A0 (pv 1) (A0 (pv 2) A4))) A4)))
     (A3 (D6 (U4 (C6 D_some_of_kind G_some_of_kind hr hx (A0 (J2 (A0 (pv 1) (A0 (pv 2) A4))) (A0 C8 A4)))) (A5 (A9 (B8w D_nothing G_nothing hr hx))) C7)
     (A5 (A9 (C6 D_added G_added hr hx (A0 (pv 0) (A0 (pv 1) (A0 (pv 2) A4)))))))), ?_⟩
   have z2 : 2 <= sizeLine := D3 (by decide)
   refine ⟨_, rfl, _, rfl, z2, fun l nl => ?_⟩
   have u := Same.upd (o := .lst [.ref n1, .ref n2]) nl
   refine ⟨l, [(n1, x1), (n2, x2)], rfl, (Z0 (tw.same u) A6).n, .inl ⟨A6, ?_⟩⟩
   refine ⟨_, rfl, _, rfl, z2, fun l2 nl2 => ?_⟩
   have u2 := u.trans (Same.upd (o := .lst [.ref n1, .ref n2]) nl2)
   refine ⟨l2, _, _, rfl, Z0 (tw.same u2) A6, (by show 2 <= 1000; decide), fun H3 s3 => ⟨_, rfl, ?_⟩⟩
   rw [A4y h1 h2 (by decide +kernel)]
   refine U0 ?_
   have sm3 := u2.trans s3
   have tw3 := tw.same sm3
   exact ⟨_, rfl, _, rfl, _, rfl, c, v, a, b, xs, ys, n1, n2, x1, x2, rfl, hc.same sm3, ok, lx, ox, tw3, h1, h2, o1.bg, o2.bg, k.same sm3⟩
def V0m (CN CC CT : Addr) : Sp := fun vs H Q E => ∃ c v a b xs ys n1 n2 x1 x2, vs = [.ref c, .ref n1, .ref n2] /\ CtxV CC H c v a b xs ys /\ v.Ok /\ xs.length <= 900 /\ V9 xs = xs /\ Two CN H n1 n2 x1 x2 /\ x1.k = .plain /\ x2.k = .plain /\ x1.Ok /\ x2.Ok /\ Ends2 CN CC CT H c v b xs ys (C7a v x1 (J6y x2)) Q E
theorem A0cy : FnScope ["context", "one", "other"] ["context", "one", "other"] (A1 B4w) := scK
theorem Y2r {f f1 f2 f3 f4 fI CN CC CB' CT : Addr} {fd fd1 fd2 fd3 fd4 fdI : FuncData} (D : Def K mg "minus" ["context", "one", "other"] B4w f fd) (D_need_numbers : Def K mg "need_numbers" ["things"] Z4 f1 fd1) (G_need_numbers : FnOk P w K mg base (CX1 P w) 2 f1 fd1 ["things"] (A4s K CN CB'))
   (D_some_of_kind : Def K mg "some_of_kind" ["numbers", "kind"] Z2 f2 fd2) (G_some_of_kind : FnOk P w K mg base (CX1 P w) 1 f2 fd2 ["numbers", "kind"] (A2b CN)) (D_nothing : Def K mg "nothing" [] V5 f3 fd3) (G_nothing : FnOk P w K mg base (CX1 P w) 3 f3 fd3 [] (A0m CN))
   (D_added : Def K mg "added" ["context", "one", "other"] A6e f4 fd4) (G_added : FnOk P w K mg base (CX1 P w) 7 f4 fd4 ["context", "one", "other"] (B7c CN CC CT)) (N : Num K mg CN) (M : MakeN P w K mg base CN fI fdI) : FnOk P w K mg base (CX1 P w) 8 f fd ["context", "one", "other"] (V0m CN CC CT) := by
 refine D.F.okE A0cy (fun vs H Q E h => ?_) (fun X cdv A outer s H vs Q E hX hr hx h => ?_)
 . obtain ⟨c, v, a, b, xs, ys, n1, n2, x1, x2, rfl, _⟩ := h
   rfl
 . subst hX
   obtain ⟨c, v, a, b, xs, ys, n1, n2, x1, x2, rfl, hc, ok, lx, ox, tw, h1, h2, o1, o2, k⟩ := h
   refine ⟨_, (A3 (U8 (C6 D_need_numbers G_need_numbers hr hx (A0 (J2 (A0 (pv 1) (A0 (pv 2) A4))) A4)))
     (A3 (D6 (U4 (C6 D_some_of_kind G_some_of_kind hr hx (A0 (J2 (A0 (pv 1) (A0 (pv 2) A4))) (A0 C8 A4)))) (A5 (A9 (B8w D_nothing G_nothing hr hx))) C7)
     (A5 (A9 (C6 D_added G_added hr hx (A0 (pv 0) (A0 (pv 1) (A0 (A8q M.m (FnOk.up M.g) hr N.g M.b .nil hx (A0 (D4 (pv 2) rfl) (A0 (B5 J1 A2 (D4 (pv 2) rfl)) (A0 (D4 (pv 2) rfl) (A0 (D4 (pv 2) rfl) A4))))) A4)))))))), ?_⟩
   have z2 : 2 <= sizeLine := D3 (by decide)
   refine ⟨_, rfl, _, rfl, z2, fun l nl => ?_⟩
   have u := Same.upd (o := .lst [.ref n1, .ref n2]) nl
   refine ⟨l, [(n1, x1), (n2, x2)], rfl, (Z0 (tw.same u) A6).n, .inl ⟨A6, ?_⟩⟩
   refine ⟨_, rfl, _, rfl, z2, fun l2 nl2 => ?_⟩
   have u2 := u.trans (Same.upd (o := .lst [.ref n1, .ref n2]) nl2)
   refine ⟨l2, _, _, rfl, Z0 (tw.same u2) A6, (by show 2 <= 1000; decide), fun H3 s3 => ⟨_, rfl, ?_⟩⟩
   rw [A4y h1 h2 (by decide +kernel)]
   refine U0 ?_
   have sm3 := u2.trans s3
   have tw3 := tw.same sm3
   obtain ⟨⟨d1, e1⟩, ⟨d2, e2⟩⟩ := id tw3
   refine ⟨_, rfl, _, rfl, _, rfl, n2, CN, d2, _, _, rfl, e2, N.cl, N.n1, J5t _ _ _ _, _, rfl, n2, CN, d2, _, _, rfl, e2, N.cl, N.n2, B7j _ _ _ _, _, _, rfl, rfl, _, rfl, n2, CN, d2, _, _, rfl, e2, N.cl, N.n3, C4z _ _ _ _, _, rfl, n2, CN, d2, _, _, rfl, e2, N.cl, N.n4, B3g _ _ _ _, ?_⟩
   refine B7h (Q := fun u H' => B7c CN CC CT ([V.ref c, V.ref n1, u] ++ []) H' Q (fun C d H' => E C d H')) fun n' H4 nn s4 num' => ?_
   have sm4 := sm3.trans s4
   exact ⟨c, v, a, b, xs, ys, n1, n', x1, J6y x2, rfl, hc.same sm4, ok, lx, ox, ⟨tw.1.same sm4, num'⟩, h1, h2, o1.bg, ⟨o2.bg.f0, o2.bg.f1, o2.bg.p0, o2.bg.p1⟩, k.same sm4⟩
def A4u (CN CC CT : Addr) : Sp := fun vs H Q E => ∃ c v a b xs ys n x, vs = [.ref c, .ref n] /\ CtxV CC H c v a b xs ys /\ v.Ok /\ xs.length <= 900 /\ V9 xs = xs /\ NumIs CN H n x /\ x.k = .plain /\ 0 <= x.s /\ x.s <= 1 /\ x.Bg /\ Ends2 CN CC CT H c v b xs ys (A4q v x.s x.f x.p x.p) Q E
theorem V3b : FnScope ["context", "number"] ["context", "number"] (A1 Y2) := scK
theorem V3g {f f1 f2 f3 fI CN CC CB CB' CT CW CR CE : Addr} {cw : Wy -> Addr} {fd fd1 fd2 fd3 fdI : FuncData} {d0 : Value} {gP : List Value -> List Value -> List Value} {vP : List V -> List V -> List V} (D : Def K mg "rounded" ["context", "number"] Y2 f fd)
   (D_need_number : Def K mg "need_number" ["thing"] A3c f1 fd1) (G_need_number : FnOk P w K mg base (CX1 P w) 1 f1 fd1 ["thing"] (B7m K CN CB')) (D_nought : Def K mg "nought" ["context", "sign", "ideal"] A0v f2 fd2) (G_nought : FnOk P w K mg base (CX1 P w) 3 f2 fd2 ["context", "sign", "ideal"] (B7b CN CC))
   (D_settled : Def K mg "settled" ["context", "sign", "exact", "ideal"] Z5 f3 fd3) (G_settled : FnOk P w K mg base (CX1 P w) 6 f3 fd3 ["context", "sign", "exact", "ideal"] (A4r CN CC CT CR)) (MR : MakeR P w K mg base CR fI fdI d0 gP vP) (R : RatC K mg CR CE) (N : Num K mg CN) :
   FnOk P w K mg base (CX1 P w) 7 f fd ["context", "number"] (A4u CN CC CT) := by
 refine D.F.okE V3b (fun vs H Q E h => ?_) (fun X cdv A outer s H vs Q E hX hr hx h => ?_)
 . obtain ⟨c, v, a, b, xs, ys, n, x, rfl, _⟩ := h
   rfl
 . subst hX
   obtain ⟨c, v, a, b, xs, ys, n, x, rfl, hc, ok, lx, ox, num, hk, s0, s1, g, k⟩ := h
   refine ⟨_, (A3 (U8 (C6 D_need_number G_need_number hr hx (A0 (pv 1) A4)))
     (A3 (D6 (C5 C4f (D4 (pv 1) rfl) C8 (B9 _)) (A5 (A9 (pv 1))) C7)
     (A3 (D6 (C5 D9 (D4 (pv 1) rfl) A2 (B9 _)) (A5 (A9 (C6 D_nought G_nought hr hx (A0 (pv 0) (A0 (D4 (pv 1) rfl) (A0 (D4 (pv 1) rfl) A4)))))) C7)
     (A5 (A9 (C6 D_settled G_settled hr hx (A0 (pv 0) (A0 (D4 (pv 1) rfl) (A0 (A8q MR.m MR.g hr R.g MR.b3 .nil hx (A0 (D4 (pv 1) rfl) (A0 A2 (A0 (D4 (pv 1) rfl) A4)))) (A0 (D4 (pv 1) rfl) A4)))))))))), ?_⟩
   obtain ⟨dn, en⟩ := id num
   refine ⟨_, rfl, _, rfl, Or.inl ⟨n, _, _, _, _, rfl, num, ?_⟩⟩
   refine ⟨_, rfl, n, CN, dn, _, _, rfl, en, N.cl, N.n1, J5t _ _ _ _, rfl, _, rfl, ?_⟩
   unfold A4q at k
   refine B7e (by rw [hk]; rfl) ⟨_, rfl, n, CN, dn, _, _, rfl, en, N.cl, N.n3, C4z _ _ _ _, rfl, _, rfl, J3 (fun hf => ?_) (fun hf => ?_)⟩
   . have hf : x.f = 0 := V.int.inj hf
     rw [if_pos hf] at k
     exact ⟨_, rfl, _, rfl, n, CN, dn, _, _, rfl, en, N.cl, N.n2, B7j _ _ _ _, _, rfl, n, CN, dn, _, _, rfl, en, N.cl, N.n4, B3g _ _ _ _, c, v, a, b, xs, ys, x.s, x.p, rfl, hc, fun n' H' nn s' num' => k.calm ox s' hc num'⟩
   . have hf : ¬ x.f = 0 := fun z => hf (congrArg V.int z)
     rw [if_neg hf] at k
     have sz := D7u g hf
     have fn := B2r (p := x.p) ok sz g.p0 g.p1
     refine ⟨_, rfl, _, rfl, n, CN, dn, _, _, rfl, en, N.cl, N.n2, B7j _ _ _ _, _, rfl, n, CN, dn, _, _, rfl, en, N.cl, N.n3, C4z _ _ _ _, _, rfl, n, CN, dn, _, _, rfl, en, N.cl, N.n4, B3g _ _ _ _, fun r dr m1 m2 me => V0p m1 m2 me fun H1 s1' ra => ⟨rfl, ?_⟩⟩
     obtain ⟨dn1, en1⟩ := num.same s1'
     exact ⟨_, rfl, n, CN, dn1, _, _, rfl, en1, N.cl, N.n4, B3g _ _ _ _, c, v, a, b, xs, ys, r, x.f, 1, x.p, _, x.s, x.p, rfl, hc.same s1', ok, lx, ra, sz, B4n, A4w sz, fn.1, fn.2, s0, s1, k.same s1'⟩
theorem J6u {x y : Nm} (hx : x.Ok) (hy : y.Ok) : IntMulOk x.f y.f := IntMulOk.of_bits hx.bits hy.bits
def V0j (CN CC CT : Addr) : Sp := fun vs H Q E => ∃ c v a b xs ys n1 n2 x1 x2, vs = [.ref c, .ref n1, .ref n2] /\ CtxV CC H c v a b xs ys /\ v.Ok /\ xs.length <= 900 /\ V9 xs = xs /\ Two CN H n1 n2 x1 x2 /\ x1.k = .plain /\ x2.k = .plain /\ x1.Ok /\ x2.Ok /\ Ends2 CN CC CT H c v b xs ys (A4q v (D1x x1.s x2.s) (x1.f * x2.f) (x1.p + x2.p) (x1.p + x2.p)) Q E
theorem A0ck : FnScope ["context", "one", "other"] ["context", "one", "other"] (A1 B4p) := scK
theorem Y0j {f f1 f2 f3 f6 f7 f8 f9 CN CC CB' CT : Addr} {fd fd1 fd2 fd3 fd6 fd7 fd8 fd9 : FuncData} {sVo : Stmt} (D : Def K mg "times" ["context", "one", "other"] B4p f fd) (D_need_numbers : Def K mg "need_numbers" ["things"] Z4 f1 fd1) (G_need_numbers : FnOk P w K mg base (CX1 P w) 2 f1 fd1 ["things"] (A4s K CN CB'))
   (D_some_of_kind : Def K mg "some_of_kind" ["numbers", "kind"] Z2 f2 fd2) (G_some_of_kind : FnOk P w K mg base (CX1 P w) 1 f2 fd2 ["numbers", "kind"] (A2b CN)) (D_nothing : Def K mg "nothing" [] V5 f3 fd3) (G_nothing : FnOk P w K mg base (CX1 P w) 3 f3 fd3 [] (A0m CN))
   (D_rounded : Def K mg "rounded" ["context", "number"] Y2 f6 fd6) (G_rounded : FnOk P w K mg base (CX1 P w) 7 f6 fd6 ["context", "number"] (A4u CN CC CT))
   (D_is_end_by_nought : Def K mg "is_end_by_nought" ["one", "other"] A3s f7 fd7) (G_is_end_by_nought : FnOk P w K mg base (CX1 P w) 2 f7 fd7 ["one", "other"] (C6w CN)) (D_product : Def K mg "product" ["one", "other"] A0y f8 fd8) (G_product : FnOk P w K mg base (CX1 P w) 4 f8 fd8 ["one", "other"] (J5z CN)) (D_void : Def K mg "void" ["context"] sVo f9 fd9) : FnOk P w K mg base (CX1 P w) 8 f fd ["context", "one", "other"] (V0j CN CC CT) := by
 have G_void : FnOk P w K mg base (CX1 P w) 1 f9 fd9 ["context"] (fun _ _ _ _ => False) := FnOk.never
 refine D.F.okE A0ck (fun vs H Q E h => ?_) (fun X cdv A outer s H vs Q E hX hr hx h => ?_)
 . obtain ⟨c, v, a, b, xs, ys, n1, n2, x1, x2, rfl, _⟩ := h
   rfl
 . subst hX
   obtain ⟨c, v, a, b, xs, ys, n1, n2, x1, x2, rfl, hc, ok, lx, ox, tw, h1, h2, o1, o2, k⟩ := h
   refine ⟨_, (A3 (U8 (C6 D_need_numbers G_need_numbers hr hx (A0 (J2 (A0 (pv 1) (A0 (pv 2) A4))) A4)))
     (A3 (D6 (U4 (C6 D_some_of_kind G_some_of_kind hr hx (A0 (J2 (A0 (pv 1) (A0 (pv 2) A4))) (A0 C8 A4)))) (A5 (A9 (B8w D_nothing G_nothing hr hx))) C7)
     (A3 (D6 (U4 (C6 D_is_end_by_nought G_is_end_by_nought hr hx (A0 (pv 1) (A0 (pv 2) A4)))) (A5 (A9 (C6 D_void G_void hr hx (A0 (pv 0) A4)))) C7)
     (A5 (A9 (C6 D_rounded G_rounded hr hx (A0 (pv 0) (A0 (C6 D_product G_product hr hx (A0 (pv 1) (A0 (pv 2) A4))) A4)))))))), ?_⟩
   have z2 : 2 <= sizeLine := D3 (by decide)
   refine ⟨_, rfl, _, rfl, z2, fun l nl => ?_⟩
   have u := Same.upd (o := .lst [.ref n1, .ref n2]) nl
   refine ⟨l, [(n1, x1), (n2, x2)], rfl, (Z0 (tw.same u) A6).n, .inl ⟨A6, ?_⟩⟩
   refine ⟨_, rfl, _, rfl, z2, fun l2 nl2 => ?_⟩
   have u2 := u.trans (Same.upd (o := .lst [.ref n1, .ref n2]) nl2)
   refine ⟨l2, _, _, rfl, Z0 (tw.same u2) A6, (by show 2 <= 1000; decide), fun H3 s3 => ⟨_, rfl, ?_⟩⟩
   rw [A4y h1 h2 (by decide +kernel)]
   refine U0 ?_
   have sm3 := u2.trans s3
   have tw3 := tw.same sm3
   refine ⟨_, rfl, _, rfl, n1, n2, x1, x2, rfl, tw3, h1, h2, fun H4 s4 => ⟨_, rfl, U0 ?_⟩⟩
   have sm4 := sm3.trans s4
   refine ⟨_, rfl, _, rfl, _, rfl, n1, n2, x1, x2, rfl, tw.same sm4, h1, h2, J6u o1 o2, fun n H5 nn s5 num => ?_⟩
   have sm5 := sm4.trans s5
   have us := Y3r x1.s x2.s
   exact ⟨c, v, a, b, xs, ys, n, B7d x1 x2, rfl, hc.same sm5, ok, lx, ox, num, rfl, us.1, us.2, D8u o1 o2, k.same sm5⟩
theorem J5g {z : Str} {n1 n2 n3 : Addr} {x1 x2 x3 : Nm} (h1 : x1.k = .plain) (h2 : x2.k = .plain) (h3 : x3.k = .plain) (hz : Kd.plain.str ≠ z) : ([(n1, x1), (n2, x2), (n3, x3)].any fun p => decide (p.2.k.str = z)) = false := by
 simp [h1, h2, h3, hz]
theorem C7d {CN : Addr} {H : Hp} {l n1 n2 n3 : Addr} {x1 x2 x3 : Nm} (h : Two CN H n1 n2 x1 x2) (h3 : NumIs CN H n3 x3) (hl : H l = some (.lst [.ref n1, .ref n2, .ref n3])) : NumsAt CN H l [(n1, x1), (n2, x2), (n3, x3)] := ⟨hl, List.forall_mem_cons.2 ⟨h.1, List.forall_mem_cons.2 ⟨h.2, List.forall_mem_cons.2 ⟨h3, by simp⟩⟩⟩⟩
def V0c (CN CC CT : Addr) : Sp := fun vs H Q E => ∃ c v a b xs ys n1 n2 n3 x1 x2 x3, vs = [.ref c, .ref n1, .ref n2, .ref n3] /\ CtxV CC H c v a b xs ys /\ v.Ok /\ xs.length <= 900 /\ V9 xs = xs /\ Two CN H n1 n2 x1 x2 /\ NumIs CN H n3 x3 /\ x1.k = .plain /\ x2.k = .plain /\ x3.k = .plain /\ x1.Ok /\ x2.Ok /\ x3.Ok /\ Ends2 CN CC CT H c v b xs ys (C7a v (B7d x1 x2) x3) Q E
theorem A0cd : FnScope ["context", "one", "other", "third"] ["context", "one", "other", "third"] (A1 B4v) := scK
theorem Y1p {f f1 f2 f3 f4 f7 f8 f9 CN CC CB' CT : Addr} {fd fd1 fd2 fd3 fd4 fd7 fd8 fd9 : FuncData} {sVo : Stmt} (D : Def K mg "fused" ["context", "one", "other", "third"] B4v f fd) (D_need_numbers : Def K mg "need_numbers" ["things"] Z4 f1 fd1) (G_need_numbers : FnOk P w K mg base (CX1 P w) 2 f1 fd1 ["things"] (A4s K CN CB'))
   (D_some_of_kind : Def K mg "some_of_kind" ["numbers", "kind"] Z2 f2 fd2) (G_some_of_kind : FnOk P w K mg base (CX1 P w) 1 f2 fd2 ["numbers", "kind"] (A2b CN)) (D_nothing : Def K mg "nothing" [] V5 f3 fd3) (G_nothing : FnOk P w K mg base (CX1 P w) 3 f3 fd3 [] (A0m CN))
   (D_added : Def K mg "added" ["context", "one", "other"] A6e f4 fd4) (G_added : FnOk P w K mg base (CX1 P w) 7 f4 fd4 ["context", "one", "other"] (B7c CN CC CT))
   (D_is_end_by_nought : Def K mg "is_end_by_nought" ["one", "other"] A3s f7 fd7) (G_is_end_by_nought : FnOk P w K mg base (CX1 P w) 2 f7 fd7 ["one", "other"] (C6w CN)) (D_product : Def K mg "product" ["one", "other"] A0y f8 fd8) (G_product : FnOk P w K mg base (CX1 P w) 4 f8 fd8 ["one", "other"] (J5z CN)) (D_void : Def K mg "void" ["context"] sVo f9 fd9) : FnOk P w K mg base (CX1 P w) 8 f fd ["context", "one", "other", "third"] (V0c CN CC CT) := by
 have G_void : FnOk P w K mg base (CX1 P w) 1 f9 fd9 ["context"] (fun _ _ _ _ => False) := FnOk.never
 refine D.F.okE A0cd (fun vs H Q E h => ?_) (fun X cdv A outer s H vs Q E hX hr hx h => ?_)
 . obtain ⟨c, v, a, b, xs, ys, n1, n2, n3, x1, x2, x3, rfl, _⟩ := h
   rfl
 . subst hX
   obtain ⟨c, v, a, b, xs, ys, n1, n2, n3, x1, x2, x3, rfl, hc, ok, lx, ox, tw, m3, h1, h2, h3, o1, o2, o3, k⟩ := h
   refine ⟨_, (A3 (U8 (C6 D_need_numbers G_need_numbers hr hx (A0 (J2 (A0 (pv 1) (A0 (pv 2) (A0 (pv 3) A4)))) A4)))
     (A3 (D6 (U4 (C6 D_some_of_kind G_some_of_kind hr hx (A0 (J2 (A0 (pv 1) (A0 (pv 2) (A0 (pv 3) A4)))) (A0 C8 A4)))) (A5 (A9 (B8w D_nothing G_nothing hr hx))) C7)
     (A3 (D6 (U4 (C6 D_is_end_by_nought G_is_end_by_nought hr hx (A0 (pv 1) (A0 (pv 2) A4)))) (A5 (A9 (C6 D_void G_void hr hx (A0 (pv 0) A4)))) C7)
     (A5 (A9 (C6 D_added G_added hr hx (A0 (pv 0) (A0 (C6 D_product G_product hr hx (A0 (pv 1) (A0 (pv 2) A4))) (A0 (pv 3) A4))))))))), ?_⟩
   have z3 : 3 <= sizeLine := D3 (by decide)
   refine ⟨_, rfl, _, rfl, _, rfl, z3, fun l nl => ?_⟩
   have u := Same.upd (o := .lst [.ref n1, .ref n2, .ref n3]) nl
   refine ⟨l, [(n1, x1), (n2, x2), (n3, x3)], rfl, (C7d (tw.same u) (m3.same u) A6).n, .inl ⟨A6, ?_⟩⟩
   refine ⟨_, rfl, _, rfl, _, rfl, z3, fun l2 nl2 => ?_⟩
   have u2 := u.trans (Same.upd (o := .lst [.ref n1, .ref n2, .ref n3]) nl2)
   refine ⟨l2, _, _, rfl, C7d (tw.same u2) (m3.same u2) A6, (by show 3 <= 1000; decide), fun H3 s3 => ⟨_, rfl, ?_⟩⟩
   rw [J5g h1 h2 h3 (by decide +kernel)]
   refine U0 ?_
   have sm3 := u2.trans s3
   refine ⟨_, rfl, _, rfl, n1, n2, x1, x2, rfl, tw.same sm3, h1, h2, fun H4 s4 => ⟨_, rfl, U0 ?_⟩⟩
   have sm4 := sm3.trans s4
   refine ⟨_, rfl, _, rfl, _, rfl, n1, n2, x1, x2, rfl, tw.same sm4, h1, h2, J6u o1 o2, fun n H5 nn s5 num => ?_⟩
   have sm5 := sm4.trans s5
   exact ⟨_, rfl, c, v, a, b, xs, ys, n, n3, B7d x1 x2, x3, rfl, hc.same sm5, ok, lx, ox, ⟨num, m3.same sm5⟩, rfl, h3, D8u o1 o2, o3.bg, k.same sm5⟩
def G9m (CN CC CT : Addr) : Sp := fun vs H Q E => ∃ c v a b xs ys n x, ∃ m : Int, vs = [.ref c, .ref n, .int m] /\ CtxV CC H c v a b xs ys /\ v.Ok /\ xs.length <= 900 /\ V9 xs = xs /\ NumIs CN H n x /\ x.k = .plain /\ x.Ok /\ -100 <= m /\ m <= 100 /\ Ends2 CN CC CT H c v b xs ys (A4q v x.s x.f (x.p + m) (x.p + m)) Q E
theorem Y2c : FnScope ["context", "one", "count"] ["context", "one", "count"] (A1 A6f) := scK
theorem V2n {f f1 f2 f6 fI CN CC CB' CT : Addr} {fd fd1 fd2 fd6 fdI : FuncData} (D : Def K mg "scaled" ["context", "one", "count"] A6f f fd) (D_need_number : Def K mg "need_number" ["thing"] A3c f1 fd1) (G_need_number : FnOk P w K mg base (CX1 P w) 1 f1 fd1 ["thing"] (B7m K CN CB')) (D_need_count : Def K mg "need_count" ["thing", "most"] B4c f2 fd2) (G_need_count : FnOk P w K mg base (CX1 P w) 2 f2 fd2 ["thing", "most"] U9h)
   (D_rounded : Def K mg "rounded" ["context", "number"] Y2 f6 fd6) (G_rounded : FnOk P w K mg base (CX1 P w) 7 f6 fd6 ["context", "number"] (A4u CN CC CT)) (N : Num K mg CN) (M : MakeN P w K mg base CN fI fdI) : FnOk P w K mg base (CX1 P w) 8 f fd ["context", "one", "count"] (G9m CN CC CT) := by
 refine D.F.okE Y2c (fun vs H Q E h => ?_) (fun X cdv A outer s H vs Q E hX hr hx h => ?_)
 . obtain ⟨c, v, a, b, xs, ys, n, x, m, rfl, _⟩ := h
   rfl
 . subst hX
   obtain ⟨c, v, a, b, xs, ys, n, x, m, rfl, hc, ok, lx, ox, num, hk, xo, m0, m1, k⟩ := h
   refine ⟨_, (A3 (U8 (C6 D_need_number G_need_number hr hx (A0 (pv 1) A4)))
     (A3 (U8 (C6 D_need_count G_need_count hr hx (A0 (pv 2) (A0 A2 A4))))
     (A3 (D6 (C5 C4f (D4 (pv 1) rfl) C8 (B9 _)) (A5 (A9 (pv 1))) C7)
     (A5 (A9 (C6 D_rounded G_rounded hr hx (A0 (pv 0) (A0 (A8q M.m (FnOk.up M.g) hr N.g M.b .nil hx (A0 C8 (A0 (D4 (pv 1) rfl) (A0 (D4 (pv 1) rfl) (A0 (B5 G9 (D4 (pv 1) rfl) (pv 2)) A4))))) A4)))))))), ?_⟩
   obtain ⟨dn, en⟩ := id num
   refine ⟨_, rfl, _, rfl, Or.inl ⟨n, _, _, _, _, rfl, num, ?_⟩⟩
   refine ⟨_, rfl, m, 100, rfl, m0, m1, ?_⟩
   refine ⟨_, rfl, n, CN, dn, _, _, rfl, en, N.cl, N.n1, J5t _ _ _ _, rfl, _, rfl, B7e (by rw [hk]; rfl) ?_⟩
   refine ⟨_, rfl, _, rfl, n, CN, dn, _, _, rfl, en, N.cl, N.n2, B7j _ _ _ _, _, rfl, n, CN, dn, _, _, rfl, en, N.cl, N.n3, C4z _ _ _ _, _, rfl, n, CN, dn, _, _, rfl, en, N.cl, N.n4, B3g _ _ _ _, _, rfl, _, _, rfl, rfl, ?_⟩
   refine B7h (Q := fun u H' => A4u CN CC CT ([V.ref c, u] ++ []) H' Q (fun C d H' => E C d H')) fun n' H4 nn s4 num' => ?_
   have g := xo.bg
   have := xo.p0; have := xo.p1
   exact ⟨c, v, a, b, xs, ys, n', ⟨.plain, x.s, x.f, x.p + m⟩, rfl, hc.same s4, ok, lx, ox, num', rfl, xo.s0, xo.s1, ⟨g.f0, g.f1, by show -400 <= x.p + m; omega, by show x.p + m <= 400; omega⟩, k.same s4⟩
def A9a (b : Bool) (x y : Nm) : Nm := if b = true then x else y
def A9c (x y : Nm) : Bool := decide (B8r (x.wh (U3 x y)) (y.wh (U3 x y)) <= 0)
def A9e (x y : Nm) : Bool := decide (B8r (x.wh (U3 x y)) (y.wh (U3 x y)) >= 0)
theorem D6f {x y : Nm} (h1 : x.k = .plain) (h2 : y.k = .plain) : cmpN x y = some (B8r (x.wh (U3 x y)) (y.wh (U3 x y))) := by
 unfold cmpN
 rw [h1, h2]
 rfl
def G9q (CN CC CT : Addr) : Sp := fun vs H Q E => ∃ c v a b xs ys n1 n2 x1 x2, vs = [.ref c, .ref n1, .ref n2] /\ CtxV CC H c v a b xs ys /\ v.Ok /\ xs.length <= 900 /\ V9 xs = xs /\ Two CN H n1 n2 x1 x2 /\ x1.k = .plain /\ x2.k = .plain /\ x1.Ok /\ x2.Ok /\ Ends2 CN CC CT H c v b xs ys (A4q v (A9a (A9c x1 x2) x1 x2).s (A9a (A9c x1 x2) x1 x2).f (A9a (A9c x1 x2) x1 x2).p (A9a (A9c x1 x2) x1 x2).p) Q E
theorem scLesser : FnScope ["context", "one", "other", "order"] ["context", "one", "other"] (A1 A5t) := scK
theorem V2r {f f1 f3 f6 CN CC CB' CT : Addr} {fd fd1 fd3 fd6 : FuncData} (D : Def K mg "lesser" ["context", "one", "other"] A5t f fd) (D_compared : Def K mg "compared" ["one", "other"] Y7 f1 fd1) (G_compared : FnOk P w K mg base (CX1 P w) 4 f1 fd1 ["one", "other"] (B4x K CN CB')) (D_nothing : Def K mg "nothing" [] V5 f3 fd3) (G_nothing : FnOk P w K mg base (CX1 P w) 3 f3 fd3 [] (A0m CN))
   (D_rounded : Def K mg "rounded" ["context", "number"] Y2 f6 fd6) (G_rounded : FnOk P w K mg base (CX1 P w) 7 f6 fd6 ["context", "number"] (A4u CN CC CT)) : FnOk P w K mg base (CX1 P w) 8 f fd ["context", "one", "other"] (G9q CN CC CT) := by
 refine D.F.okE scLesser (fun vs H Q E h => ?_) (fun X cdv A outer s H vs Q E hX hr hx h => ?_)
 . obtain ⟨c, v, a, b, xs, ys, n1, n2, x1, x2, rfl, _⟩ := h
   rfl
 . subst hX
   obtain ⟨c, v, a, b, xs, ys, n1, n2, x1, x2, rfl, hc, ok, lx, ox, tw, h1, h2, o1, o2, k⟩ := h
   refine ⟨_, (A3 (C9 (i := 3) scLesser.nd rfl (Or.inl rfl) (C6 D_compared G_compared hr hx (A0 (pv 1) (A0 (pv 2) A4))))
     (A3 (D6 (C5 J6t (pv 3) D8j (B9 _)) (A5 (A9 (B8w D_nothing G_nothing hr hx))) C7)
     (A5 (A9 (C6 D_rounded G_rounded hr hx (A0 (pv 0) (A0 (U2 (C5 Y1t (pv 3) A2 (B9 _)) (pv 1) (pv 2)) A4))))))), ?_⟩
   refine ⟨_, rfl, _, rfl, _, _, rfl, .inl ⟨n1, n2, x1, x2, rfl, rfl, tw.1, tw.2, o1, o2, fun H3 s3 => ?_⟩⟩
   rw [D6f h1 h2]
   unfold A9c at k
   generalize B8r (x1.wh (U3 x1 x2)) (x2.wh (U3 x1 x2)) = o at k ⊢
   have tw3 := tw.same s3
   refine ⟨_, rfl, rfl, _, rfl, J9 (fun z => by cases z) ⟨_, rfl, _, rfl, _, _, rfl, rfl, _, rfl, J3 (fun h => ?_) (fun h => ?_)⟩⟩
   . rw [decide_eq_true h] at k
     exact ⟨_, rfl, c, v, a, b, xs, ys, n1, x1, rfl, hc.same s3, ok, lx, ox, tw3.1, h1, o1.s0, o1.s1, o1.bg, k.same s3⟩
   . rw [decide_eq_false h] at k
     exact ⟨_, rfl, c, v, a, b, xs, ys, n2, x2, rfl, hc.same s3, ok, lx, ox, tw3.2, h2, o2.s0, o2.s1, o2.bg, k.same s3⟩
def D5j (CN CC CT : Addr) : Sp := fun vs H Q E => ∃ c v a b xs ys n1 n2 x1 x2, vs = [.ref c, .ref n1, .ref n2] /\ CtxV CC H c v a b xs ys /\ v.Ok /\ xs.length <= 900 /\ V9 xs = xs /\ Two CN H n1 n2 x1 x2 /\ x1.k = .plain /\ x2.k = .plain /\ x1.Ok /\ x2.Ok /\ Ends2 CN CC CT H c v b xs ys (A4q v (A9a (A9e x1 x2) x1 x2).s (A9a (A9e x1 x2) x1 x2).f (A9a (A9e x1 x2) x1 x2).p (A9a (A9e x1 x2) x1 x2).p) Q E
theorem scGreater : FnScope ["context", "one", "other", "order"] ["context", "one", "other"] (A1 A3b) := scK
theorem J6x {f f1 f3 f6 CN CC CB' CT : Addr} {fd fd1 fd3 fd6 : FuncData} (D : Def K mg "greater" ["context", "one", "other"] A3b f fd) (D_compared : Def K mg "compared" ["one", "other"] Y7 f1 fd1) (G_compared : FnOk P w K mg base (CX1 P w) 4 f1 fd1 ["one", "other"] (B4x K CN CB')) (D_nothing : Def K mg "nothing" [] V5 f3 fd3) (G_nothing : FnOk P w K mg base (CX1 P w) 3 f3 fd3 [] (A0m CN))
   (D_rounded : Def K mg "rounded" ["context", "number"] Y2 f6 fd6) (G_rounded : FnOk P w K mg base (CX1 P w) 7 f6 fd6 ["context", "number"] (A4u CN CC CT)) : FnOk P w K mg base (CX1 P w) 8 f fd ["context", "one", "other"] (D5j CN CC CT) := by
 refine D.F.okE scGreater (fun vs H Q E h => ?_) (fun X cdv A outer s H vs Q E hX hr hx h => ?_)
 . obtain ⟨c, v, a, b, xs, ys, n1, n2, x1, x2, rfl, _⟩ := h
   rfl
 . subst hX
   obtain ⟨c, v, a, b, xs, ys, n1, n2, x1, x2, rfl, hc, ok, lx, ox, tw, h1, h2, o1, o2, k⟩ := h
   refine ⟨_, (A3 (C9 (i := 3) scGreater.nd rfl (Or.inl rfl) (C6 D_compared G_compared hr hx (A0 (pv 1) (A0 (pv 2) A4))))
     (A3 (D6 (C5 J6t (pv 3) D8j (B9 _)) (A5 (A9 (B8w D_nothing G_nothing hr hx))) C7)
     (A5 (A9 (C6 D_rounded G_rounded hr hx (A0 (pv 0) (A0 (U2 (C5 V0w (pv 3) A2 (B9 _)) (pv 1) (pv 2)) A4))))))), ?_⟩
   refine ⟨_, rfl, _, rfl, _, _, rfl, .inl ⟨n1, n2, x1, x2, rfl, rfl, tw.1, tw.2, o1, o2, fun H3 s3 => ?_⟩⟩
   rw [D6f h1 h2]
   unfold A9e at k
   generalize B8r (x1.wh (U3 x1 x2)) (x2.wh (U3 x1 x2)) = o at k ⊢
   have tw3 := tw.same s3
   refine ⟨_, rfl, rfl, _, rfl, J9 (fun z => by cases z) ⟨_, rfl, _, rfl, _, _, rfl, rfl, _, rfl, J3 (fun h => ?_) (fun h => ?_)⟩⟩
   . rw [decide_eq_true h] at k
     exact ⟨_, rfl, c, v, a, b, xs, ys, n1, x1, rfl, hc.same s3, ok, lx, ox, tw3.1, h1, o1.s0, o1.s1, o1.bg, k.same s3⟩
   . rw [decide_eq_false h] at k
     exact ⟨_, rfl, c, v, a, b, xs, ys, n2, x2, rfl, hc.same s3, ok, lx, ox, tw3.2, h2, o2.s0, o2.s1, o2.bg, k.same s3⟩
end
def D5r (v : Cv) (x : Nm) : Nm × List Str := if x.f = 0 then (B2s v x.s 0, []) else A3j v x.s x.f 1 x.p (x.p + V2 x.f - 1) 1000
section
variable {P : Program} {w : World} {K : Frag} {mg : Str -> Option Value} {base : Heap}
def D5e (CN CC CT : Addr) : Sp := fun vs H Q E => ∃ c v a b xs ys n x, vs = [.ref c, .ref n] /\ CtxV CC H c v a b xs ys /\ v.Ok /\ xs.length <= 900 /\ V9 xs = xs /\ NumIs CN H n x /\ x.k = .plain /\ x.Ok /\ Ends2 CN CC CT H c v b xs ys (D5r v x) Q E
theorem V2j : FnScope ["context", "one"] ["context", "one"] (A1 A2r) := scK
theorem J6f {f f1 f2 f3 fR CN CC CB' CT CR CE : Addr} {fd fd1 fd2 fd3 fdR : FuncData} {d0 : Value} {gP : List Value -> List Value -> List Value} {vP : List V -> List V -> List V} {tq : Tok} (D : Def K mg "trimmed" ["context", "one"] A2r f fd) (D_need_number : Def K mg "need_number" ["thing"] A3c f1 fd1) (G_need_number : FnOk P w K mg base (CX1 P w) 1 f1 fd1 ["thing"] (B7m K CN CB'))
   (D_nought : Def K mg "nought" ["context", "sign", "ideal"] A0v f2 fd2) (G_nought : FnOk P w K mg base (CX1 P w) 3 f2 fd2 ["context", "sign", "ideal"] (B7b CN CC)) (D_settled : Def K mg "settled" ["context", "sign", "exact", "ideal"] Z5 f3 fd3) (G_settled : FnOk P w K mg base (CX1 P w) 6 f3 fd3 ["context", "sign", "exact", "ideal"] (A4r CN CC CT CR))
   (N : Num K mg CN) (MR : MakeR P w K mg base CR fR fdR d0 gP vP) (R : RatC K mg CR CE) (BQ : mg "BEYOND_ALL_POWERS" = some (.int 1000 tq)) : FnOk P w K mg base (CX1 P w) 7 f fd ["context", "one"] (D5e CN CC CT) := by
 refine D.F.okE V2j (fun vs H Q E h => ?_) (fun X cdv A outer s H vs Q E hX hr hx h => ?_)
 . obtain ⟨c, v, a, b, xs, ys, n, x, rfl, _⟩ := h
   rfl
 . subst hX
   obtain ⟨c, v, a, b, xs, ys, n, x, rfl, hc, ok, lx, ox, num, hk, xo, k⟩ := h
   refine ⟨_, (A3 (U8 (C6 D_need_number G_need_number hr hx (A0 (pv 1) A4)))
     (A3 (D6 (C5 C4f (D4 (pv 1) rfl) C8 (B9 _)) (A5 (A9 (pv 1))) C7)
     (A3 (D6 (C5 D9 (D4 (pv 1) rfl) A2 (B9 _)) (A5 (A9 (C6 D_nought G_nought hr hx (A0 (pv 0) (A0 (D4 (pv 1) rfl) (A0 A2 A4)))))) C7)
     (A5 (A9 (C6 D_settled G_settled hr hx (A0 (pv 0) (A0 (D4 (pv 1) rfl) (A0 (A8q MR.m MR.g hr R.g MR.b3 .nil hx (A0 (D4 (pv 1) rfl) (A0 A2 (A0 (D4 (pv 1) rfl) A4)))) (A0 (V0v (v := .int 1000) (by rfl) BQ ⟨_, rfl⟩) A4)))))))))), ?_⟩
   obtain ⟨dn, en⟩ := id num
   unfold D5r at k
   refine ⟨_, rfl, _, rfl, Or.inl ⟨n, _, _, _, _, rfl, num, ?_⟩⟩
   refine ⟨_, rfl, n, CN, dn, _, _, rfl, en, N.cl, N.n1, J5t _ _ _ _, rfl, _, rfl, ?_⟩
   refine B7e (by rw [hk]; rfl) ⟨_, rfl, n, CN, dn, _, _, rfl, en, N.cl, N.n3, C4z _ _ _ _, rfl, _, rfl, J3 (fun hf => ?_) (fun hf => ?_)⟩
   . have hf : x.f = 0 := V.int.inj hf
     rw [if_pos hf] at k
     exact ⟨_, rfl, _, rfl, n, CN, dn, _, _, rfl, en, N.cl, N.n2, B7j _ _ _ _, c, v, a, b, xs, ys, x.s, 0, rfl, hc, fun n' H' nn s' num' => k.calm ox s' hc num'⟩
   . have hf : ¬ x.f = 0 := fun z => hf (congrArg V.int z)
     rw [if_neg hf] at k
     have g := xo.bg
     have sz := D7u g hf
     have fn := B2r (p := x.p) ok sz g.p0 g.p1
     refine ⟨_, rfl, _, rfl, n, CN, dn, _, _, rfl, en, N.cl, N.n2, B7j _ _ _ _, _, rfl, n, CN, dn, _, _, rfl, en, N.cl, N.n3, C4z _ _ _ _, _, rfl, n, CN, dn, _, _, rfl, en, N.cl, N.n4, B3g _ _ _ _, fun r dr m1 m2 me => V0p m1 m2 me fun H1 s1 ra => ⟨rfl, ?_⟩⟩
     exact ⟨c, v, a, b, xs, ys, r, x.f, 1, x.p, _, x.s, 1000, rfl, hc.same s1, ok, lx, ra, sz, B4n, A4w sz, fn.1, fn.2, xo.s0, xo.s1, k.same s1⟩
end
abbrev C5t : Stmt := (top 83)
section
variable {P : Program} {w : World} {K : Frag} {mg : Str -> Option Value} {base : Heap}
def Y1f (K : Frag) : Sp := fun vs H Q _ => ∃ a ns k, vs = [.ref a, .int k] /\ SqL K H a ((ns : List Int).map V.int) /\ 0 <= k /\ ∀ i, Q (.int i) H
theorem A0kr : FnScope ["_law_script", "_law_k"] ["_law_script", "_law_k"] (A1 C5t) := scK
theorem A0da {f : Addr} {fd : FuncData} (D : Def K mg "_law_cell_at" ["_law_script", "_law_k"] C5t f fd) (O : Own mg) : FnOk P w K mg base (CX1 P w) 1 f fd ["_law_script", "_law_k"] (Y1f K) := by
 refine FnOk.up (D.F.ok A0kr (fun vs H Q E h => ?_) (fun cdv A outer s H vs Q E hr h => ?_))
 . obtain ⟨a, ns, k, rfl, _⟩ := h
   rfl
 . obtain ⟨a, ns, i, rfl, hs, h0, k⟩ := h
   refine ⟨_, (A3 (D6 (C5 B3j (pv 1) (J7 D7q (by rfl) O.len_ PySem.boot_len (A0 (pv 0) A4)) (B9 _)) (A5 (A9 (D7 V4 (pv 0) (pv 1) (fun _ _ => rfl)))) C7)
     (A5 (A9 A2))), ?_⟩
   refine ⟨_, rfl, _, rfl, a, _, rfl, .inl hs, _, _, rfl, rfl, _, rfl, ?_⟩
   refine J3 (fun hlt => ?_) (fun _ => k 0)
   rw [List.length_map] at hlt
   obtain ⟨j, rfl⟩ := Int.eq_ofNat_of_zero_le h0
   have hj : j < ns.length := by omega
   exact ⟨_, rfl, _, rfl, a, _, _, _, rfl, rfl, hs, B7 (v := V.int ns[j]) (by simp [hj]), k _⟩
end
abbrev A5w : Stmt := (top 84)
section
variable {P : Program} {w : World} {K : Frag} {mg : Str -> Option Value} {base : Heap}
def C5b : Sp := fun vs H Q _ => ∃ c k, vs = [.int c, .int k] /\ 0 <= k /\ k <= 100 /\ ∀ m, 0 <= m -> m < 2147483629 -> Q (.int m) H
theorem A0cx : FnScope ["_law_cell", "_law_k"] ["_law_cell", "_law_k"] (A1 A5w) := scK
theorem Y3x {f : Addr} {fd : FuncData} (D : Def K mg "_law_mixed" ["_law_cell", "_law_k"] A5w f fd) : FnOk P w K mg base (CX1 P w) 1 f fd ["_law_cell", "_law_k"] C5b := by
 refine FnOk.up (D.F.ok A0cx (fun vs H Q E h => ?_) (fun cdv A outer s H vs Q E hr h => ?_))
 . obtain ⟨c, k, rfl, _⟩ := h
   rfl
 . obtain ⟨c, i, rfl, h0, h1, k⟩ := h
   refine ⟨_, (A5 (A9 (B5 J0 (B5 G4 (B5 J0 (B5 G9 (B5 G9 (B5 G4 (pv 0) (B5 G9 A2 (B5 G4 (B5 G4 A2 (pv 1)) (pv 1)))) (B5 G4 A2 (pv 1))) A2) A2) A2) A2))), ?_⟩
   have q0 : (0 : Int) <= 2 * i * i := Int.mul_nonneg (by omega) h0
   have q1 : 2 * i * i <= 200 * 100 := Int.mul_le_mul (by omega) h1 h0 (by decide)
   have m1 : IntMulOk 2 i := CMul.ok (.inl ⟨by decide, by decide⟩)
   have m2 : IntMulOk (2 * i) i := CMul.ok (.inr ⟨by omega, by omega⟩)
   have m3 : IntMulOk c (48271 + 2 * i * i) := CMul.ok (.inr ⟨by omega, by omega⟩)
   have m4 : IntMulOk 69621 i := CMul.ok (.inl ⟨by decide, by decide⟩)
   have m5 : ∀ z : Int, IntMulOk z 69621 := fun z => CMul.ok (.inr ⟨by decide, by decide⟩)
   refine ⟨_, rfl, _, rfl, _, _, rfl, rfl, m1, _, rfl, _, _, rfl, rfl, m2, _, _, rfl, rfl, _, _, rfl, rfl, m3, _, rfl, _, _, rfl, rfl, m4, _, _, rfl, rfl, _, _, rfl, rfl, _, _, rfl, rfl, (by show (0 : Int) < 2147483647; decide), _, _, rfl, rfl, m5 _, _, _, rfl, rfl, (by show (0 : Int) < 2147483629; decide), ?_⟩
   exact k _ (Int.emod_nonneg _ (by decide)) (Int.emod_lt_of_pos _ (by decide))
end
abbrev A8x : Stmt := (top 85)
abbrev C6e : Stmt := (top 86)
abbrev A5y : Stmt := (top 87)
abbrev C5j : Stmt := (top 88)
abbrev A5x : Stmt := (top 89)
theorem dv {n : Int} (h : 0 < n) (h2 : n.natAbs.log2 < 9000) : (0 : Int) < n /\ n.natAbs.log2 < 9000 := ⟨h, h2⟩
structure FrameOk (r l m : Int) : Prop where
 r1 : 1 <= r
 r2 : r <= 24
 l1 : -60 <= l
 l2 : l <= 0
 m1 : 0 <= m
 m2 : m <= 60
theorem at3 (a b c n : Int) : ∃ v, (v = a \/ v = b \/ v = c) /\ atI ([.int a, .int b, .int c] : List V) (n % 3) = some (.int v) := by
 rcases (by omega : n % 3 = 0 \/ n % 3 = 1 \/ n % 3 = 2) with h | h | h
 . exact ⟨a, .inl rfl, by rw [h]; exact B7 (j := 0) rfl⟩
 . exact ⟨b, .inr (.inl rfl), by rw [h]; exact B7 (j := 1) rfl⟩
 . exact ⟨c, .inr (.inr rfl), by rw [h]; exact B7 (j := 2) rfl⟩
theorem at4 (a b c d n : Int) : ∃ v, (v = a \/ v = b \/ v = c \/ v = d) /\ atI ([.int a, .int b, .int c, .int d] : List V) (n % 8 / 2) = some (.int v) := by
 rcases (by omega : n % 8 / 2 = 0 \/ n % 8 / 2 = 1 \/ n % 8 / 2 = 2 \/ n % 8 / 2 = 3) with h | h | h | h
 . exact ⟨a, .inl rfl, by rw [h]; exact B7 (j := 0) rfl⟩
 . exact ⟨b, .inr (.inl rfl), by rw [h]; exact B7 (j := 1) rfl⟩
 . exact ⟨c, .inr (.inr (.inl rfl)), by rw [h]; exact B7 (j := 2) rfl⟩
 . exact ⟨d, .inr (.inr (.inr rfl)), by rw [h]; exact B7 (j := 3) rfl⟩
theorem at8 (n : Int) : ∃ y : Wy, atI ([.str "down", .str "up", .str "floor", .str "ceiling", .str "half up", .str "half down", .str "half even", .str "five up"] : List V) (n % 8) = some (.str y.name) := by
 rcases (by omega : n % 8 = 0 \/ n % 8 = 1 \/ n % 8 = 2 \/ n % 8 = 3 \/ n % 8 = 4 \/ n % 8 = 5 \/ n % 8 = 6 \/ n % 8 = 7) with h | h | h | h | h | h | h | h <;> rw [h]
 . exact ⟨.down, B7 (j := 0) rfl⟩
 . exact ⟨.up, B7 (j := 1) rfl⟩
 . exact ⟨.floor, B7 (j := 2) rfl⟩
 . exact ⟨.ceiling, B7 (j := 3) rfl⟩
 . exact ⟨.halfUp, B7 (j := 4) rfl⟩
 . exact ⟨.halfDown, B7 (j := 5) rfl⟩
 . exact ⟨.halfEven, B7 (j := 6) rfl⟩
 . exact ⟨.fiveUp, B7 (j := 7) rfl⟩
theorem A0kn {a b : Int} (h : a < b) (h0 : 0 <= a) : A7 a < A7 b := by
 unfold A7
 exact Int.ofNat_lt.mpr ((Nat.pow_lt_pow_iff_right (by decide)).mpr (by omega))
theorem A0an {e : Int} (h : e <= 1500) : (0 : Int) < A7 e /\ (A7 e).natAbs.log2 < 9000 := by
 have := J7b B4n h
 rw [Int.one_mul] at this
 exact ⟨G0 e, this⟩
theorem A0jf {f : Int} (h0 : 0 <= f) (h : f < A7 60) : Builtin.Int.intBits f <= 2 ^ 20 := by
 obtain ⟨n, rfl⟩ := Int.eq_ofNat_of_zero_le h0
 refine B2f (k := 200) ?_ (by decide)
 have : n < 10 ^ 60 := Int.ofNat_lt.mp h
 exact Nat.lt_trans this (by decide +kernel)
section
variable {P : Program} {w : World} {K : Frag} {mg : Str -> Option Value} {base : Heap}
def B8p : Sp := fun vs H Q _ => ∃ p : Int, vs = [.int p] /\ -(2 ^ 62) <= p /\ p < 2 ^ 62 /\ Q (.int (A7 p)) H
theorem scLTen : FnScope ["_law_power", "_law_found", "_law_turn"] ["_law_power"] (A1 A8x) := scK
theorem A0bs {f : Addr} {fd : FuncData} (D : Def K mg "_law_ten" ["_law_power"] A8x f fd) (O : Own mg) : FnOk P w K mg base (CX1 P w) 1 f fd ["_law_power"] B8p := by
 refine D.F.okE scLTen (fun vs H Q E h => ?_) (fun X cdv A outer s H vs Q E hX hr hx h => ?_)
 . obtain ⟨p, rfl, _⟩ := h
   rfl
 . subst hX
   obtain ⟨p, rfl, p0, p1, k⟩ := h
   refine ⟨_, (A3 (B8 (C9 (i := 1) scLTen.nd rfl (Or.inl rfl) A2))
     (A3 (B8 (B8v PassesOwn.leaving rfl (B2m rfl O.range_ (A0 (pv 0) A4)) (G7 (i := 2) scLTen.nd rfl (Or.inl rfl)) (A5 (B8 (C9 (i := 1) scLTen.nd rfl (Or.inl rfl) (B5 G4 (pv 1) A2))))))
     (A5 (A9 (pv 1))))), ?_⟩
   refine ⟨fun σ' H' => H' = H /\ σ' = [some (.int p), some (.int 1), none], ⟨rfl, rfl⟩, ?_⟩
   rintro σ' H1 ⟨rfl, rfl⟩
   refine ⟨fun σ' H' => H' = H1 /\ ∃ v, σ' = [some (.int p), some (.int (A7 p)), v], ?_, ?_⟩
   . refine ⟨_, rfl, p, rfl, p0, p1, B8k (n := p.toNat) (fun i σ' H' => H' = H1 /\ ∃ v, σ' = [some (.int p), some (.int ((10 ^ i : Nat) : Int)), v]) ⟨rfl, none, rfl⟩ ?_ ?_⟩
     . rintro i σ' H' hi ⟨rfl, v, rfl⟩
       refine ⟨_, ?_, fun _ _ h => h⟩
       refine ⟨_, rfl, _, _, rfl, rfl, CMul.ok (.inr ⟨by decide, by decide⟩), rfl, some (.int (0 + (i : Int))), ?_⟩
       rw [Nat.pow_succ, Int.natCast_mul]
       rfl
     . rintro σ' H' ⟨rfl, v, rfl⟩
       exact ⟨rfl, v, rfl⟩
   rintro σ' H2 ⟨rfl, v, rfl⟩
   exact ⟨_, rfl, k⟩
def Y2n : Sp := fun vs H Q _ => ∃ c m : Int, vs = [.int c, .int m] /\ 1 <= m /\ m <= 60 /\ ∀ f H', 0 <= f -> f < A7 m -> Same H H' -> Q (.int f) H'
theorem scLFig : FnScope ["_law_cell", "_law_most", "_law_number", "_law_j", "_law_more", "_law_many", "_law_figures_here", "_law_way", "_law_behind"] ["_law_cell", "_law_most"] (A1 C6e) := scK
theorem A0bh {f f1 f2 : Addr} {fd fd1 fd2 : FuncData} (D : Def K mg "_law_figures" ["_law_cell", "_law_most"] C6e f fd) (D_l_mixed : Def K mg "_law_mixed" ["_law_cell", "_law_k"] A5w f1 fd1) (G_l_mixed : FnOk P w K mg base (CX1 P w) 1 f1 fd1 ["_law_cell", "_law_k"] C5b)
   (D_l_ten : Def K mg "_law_ten" ["_law_power"] A8x f2 fd2) (G_l_ten : FnOk P w K mg base (CX1 P w) 1 f2 fd2 ["_law_power"] B8p) (O : Own mg) : FnOk P w K mg base (CX1 P w) 2 f fd ["_law_cell", "_law_most"] Y2n := by
 refine D.F.okE scLFig (fun vs H Q E h => ?_) (fun X cdv A outer s H vs Q E hX hr hx h => ?_)
 . obtain ⟨c, m, rfl, _⟩ := h
   rfl
 . subst hX
   obtain ⟨c, mo, rfl, o1, o2, k⟩ := h
   refine ⟨_, (A3 (B8 (C9 (i := 2) scLFig.nd rfl (Or.inl rfl) A2))
     (A3 (B8 (B8v PassesOwn.leaving rfl (B2m rfl O.range_ (A0 A2 A4)) (G7 (i := 3) scLFig.nd rfl (Or.inl rfl)) (A5 (B8 (C9 (i := 2) scLFig.nd rfl (Or.inl rfl) (B5 G9 (B5 G4 (pv 2) A2) (C6 D_l_mixed G_l_mixed hr hx (A0 (pv 0) (A0 (pv 3) A4)))))))))
     (A3 (B8 (C9 (i := 4) scLFig.nd rfl (Or.inl rfl) (C6 D_l_mixed G_l_mixed hr hx (A0 (pv 0) (A0 A2 A4)))))
     (A3 (B8 (C9 (i := 5) scLFig.nd rfl (Or.inl rfl) (D7 V4 (J2 (A0 (B5 G9 A2 (B5 J0 (B5 G3 (pv 4) A2) (pv 1))) (A0 (B5 G9 A2 (B5 J0 (B5 G3 (pv 4) A2) (J7 (A0n rfl) (by rfl) O.min_ boot_min (A0 A2 (A0 (pv 1) A4))))) (A0 (pv 1) A4)))) (B5 J0 (pv 4) A2) (fun _ _ => rfl))))
     (A3 (B8 (C9 (i := 6) scLFig.nd rfl (Or.inl rfl) (B5 J0 (pv 2) (C6 D_l_ten G_l_ten hr hx (A0 (pv 5) A4)))))
     (A3 (B8 (C9 (i := 7) scLFig.nd rfl (Or.inl rfl) (B5 J0 (B5 G3 (pv 4) A2) A2)))
     (A3 (B8 (D6 (C5 D9 (pv 7) A2 (B9 _)) (A5 (B8 (C9 (i := 6) scLFig.nd rfl (Or.inl rfl) (B5 J1 (C6 D_l_ten G_l_ten hr hx (A0 (pv 5) A4)) A2)))) C7))
     (A3 (B8 (D6 (C5 D9 (pv 7) A2 (B9 _)) (A3 (B8 (C9 (i := 8) scLFig.nd rfl (Or.inl rfl) (C6 D_l_ten G_l_ten hr hx (A0 (B5 J0 (B5 G3 (pv 4) A2) (pv 5)) A4))))
     (A5 (B8 (C9 (i := 6) scLFig.nd rfl (Or.inl rfl) (B5 G4 (B5 G3 (pv 6) (pv 8)) (pv 8)))))) C7))
     (A3 (B8 (D6 (C5 D9 (pv 7) A2 (B9 _)) (A5 (B8 (C9 (i := 6) scLFig.nd rfl (Or.inl rfl) (C6 D_l_ten G_l_ten hr hx (A0 (B5 J0 (B5 G3 (pv 4) A2) (pv 5)) A4))))) C7))
     (A5 (A9 (D7 V4 (J2 (A0 (pv 6) (A0 (pv 6) (A0 A2 A4)))) (B5 G4 (V6 Y8 (by rfl) O.int_ boot_int (A0 (G6 D9 (pv 7) A2 (B9 _)) A4)) A2) (fun _ _ => rfl))))))))))))), ?_⟩
   have z3 : 3 <= sizeLine := D3 (by decide)
   have mC : ∀ z n : Int, -(2 ^ 64) < n -> n < 2 ^ 64 -> IntMulOk z n := fun z n a b => CMul.ok (.inr ⟨a, b⟩)
   refine ⟨fun σ' H' => H' = H /\ σ' = [some (.int c), some (.int mo), some (.int 0), none, none, none, none, none, none], ⟨rfl, rfl⟩, ?_⟩
   rintro σ' H1 ⟨rfl, rfl⟩
   refine ⟨fun σ' H' => H' = H1 /\ ∃ (n : Int) (v : Option V), σ' = [some (.int c), some (.int mo), some (.int n), v, none, none, none, none, none], ⟨7, rfl, by decide, by decide, B8k (n := 7) (fun i σ' H' => H' = H1 /\ ∃ (n : Int) (v : Option V), σ' = [some (.int c), some (.int mo), some (.int n), v, none, none, none, none, none]) ⟨rfl, 0, none, rfl⟩ ?_ (fun σ' H' h => h)⟩, ?_⟩
   . rintro i σ' H3 hi ⟨rfl, n, v, rfl⟩
     refine ⟨_, ?_, fun _ _ h => h⟩
     exact ⟨_, rfl, _, _, rfl, rfl, mC _ _ (by decide) (by decide), _, rfl, _, rfl, c, _, rfl, (by show (0 : Int) <= 0 + (i : Int); omega), (by show 0 + (i : Int) <= 100; omega), fun m' _ _ => ⟨_, _, rfl, rfl, rfl, _, _, rfl⟩⟩
   rintro σ' H2 ⟨rfl, n, v, rfl⟩
   refine ⟨fun σ' H' => ∃ m : Int, H' = H2 /\ 0 <= m /\ σ' = [some (.int c), some (.int mo), some (.int n), v, some (.int m), none, none, none, none], ⟨_, rfl, c, 7, rfl, by decide, by decide, fun m m0 _ => ⟨m, rfl, m0, rfl⟩⟩, ?_⟩
   rintro σ' H3 ⟨m, rfl, m0, rfl⟩
   refine ⟨fun σ' H' => ∃ y : Int, Same H3 H' /\ 1 <= y /\ y <= mo /\ σ' = [some (.int c), some (.int mo), some (.int n), v, some (.int m), some (.int y), none, none, none], ?_, ?_⟩
   . have mb : 0 < (if mo < 4 then mo else 4) /\ (if mo < 4 then mo else 4) <= mo := by split <;> omega
     obtain ⟨y, hy, ix⟩ := at3 (1 + m / 8 % mo) (1 + m / 8 % (if mo < 4 then mo else 4)) mo m
     have a0 := Int.emod_nonneg (m / 8) (show mo ≠ 0 by omega)
     have a1 := Int.emod_lt_of_pos (m / 8) (show 0 < mo by omega)
     have b0 := Int.emod_nonneg (m / 8) (show (if mo < 4 then mo else 4) ≠ 0 by omega)
     have b1 := Int.emod_lt_of_pos (m / 8) mb.1
     refine ⟨_, rfl, _, _, rfl, rfl, dv (n := 8) (by decide) (by decide +kernel), _, rfl, _, _, rfl, rfl, (show 0 < mo by omega), _, _, rfl, rfl, _, rfl, _, _, rfl, rfl, dv (n := 8) (by decide) (by decide +kernel), _, rfl, _, _, rfl, _, _, rfl, rfl, mb.1, _, _, rfl, rfl, _, rfl, z3, fun p np => ⟨_, rfl, _, _, rfl, rfl, (by decide : (0 : Int) < 3), p, _, _, _, rfl, rfl, SqL.of A6, ix, y, Same.upd np, ?_, ?_, rfl⟩⟩
     . rcases hy with rfl | rfl | rfl <;> omega
     . rcases hy with rfl | rfl | rfl <;> omega
   rintro σ' H4 ⟨y, s4, y1, y2, rfl⟩
   have tl : A7 y <= A7 mo := Y3 y2
   refine ⟨fun σ' H' => ∃ g : Int, H' = H4 /\ 0 <= g /\ g < A7 mo /\ σ' = [some (.int c), some (.int mo), some (.int n), v, some (.int m), some (.int y), some (.int g), none, none], ?_, ?_⟩
   . exact ⟨_, rfl, _, rfl, y, rfl, by omega, by omega, _, _, rfl, rfl, G0 _, _, rfl, Int.emod_nonneg _ (Int.ne_of_gt (G0 _)), Int.lt_of_lt_of_le (Int.emod_lt_of_pos _ (G0 _)) tl, rfl⟩
   rintro σ' H5 ⟨g, rfl, g0, g1, rfl⟩
   refine ⟨fun σ' H' => ∃ w : Int, H' = H5 /\ σ' = [some (.int c), some (.int mo), some (.int n), v, some (.int m), some (.int y), some (.int g), some (.int w), none], ⟨_, rfl, _, _, rfl, rfl, dv (n := 480) (by decide) (by decide +kernel), _, _, rfl, rfl, (by decide : (0 : Int) < 9), _, rfl, rfl⟩, ?_⟩
   rintro σ' H6 ⟨wy, rfl, rfl⟩
   refine ⟨fun σ' H' => ∃ g : Int, H' = H6 /\ 0 <= g /\ g < A7 mo /\ σ' = [some (.int c), some (.int mo), some (.int n), v, some (.int m), some (.int y), some (.int g), some (.int wy), none], ?_, ?_⟩
   . refine ⟨_, rfl, rfl, _, rfl, J3 (fun h => ?_) (fun h => ⟨g, rfl, g0, g1, rfl⟩)⟩
     refine ⟨_, ?_, fun _ _ h => h⟩
     have tp := G0 y
     exact ⟨_, rfl, y, rfl, by omega, by omega, _, _, rfl, rfl, A7 y - 1, rfl, by omega, by omega, rfl⟩
   clear g0 g1
   rintro σ' H7 ⟨g, rfl, g0, g1, rfl⟩
   have e0 := Int.emod_nonneg (m / 4320) (show y ≠ 0 by omega)
   have e1 := Int.emod_lt_of_pos (m / 4320) (show 0 < y by omega)
   refine ⟨fun σ' H' => ∃ (g : Int) (u : Option V), H' = H7 /\ 0 <= g /\ g < A7 mo /\ σ' = [some (.int c), some (.int mo), some (.int n), v, some (.int m), some (.int y), some (.int g), some (.int wy), u], ?_, ?_⟩
   . refine ⟨_, rfl, rfl, _, rfl, J3 (fun h => ?_) (fun h => ⟨g, none, rfl, g0, g1, rfl⟩)⟩
     refine ⟨fun σ' H' => H' = H7 /\ σ' = [some (.int c), some (.int mo), some (.int n), v, some (.int m), some (.int y), some (.int g), some (.int wy), some (.int (A7 (m / 4320 % y)))], ⟨_, rfl, _, _, rfl, rfl, dv (n := 4320) (by decide) (by decide +kernel), _, rfl, _, _, rfl, rfl, (show 0 < y by omega), m / 4320 % y, rfl, by omega, by omega, rfl, rfl⟩, ?_⟩
     rintro σ' H8 ⟨rfl, rfl⟩
     refine ⟨_, ?_, fun _ _ h => h⟩
     have tp := G0 (m / 4320 % y)
     have q0 : 0 <= g / A7 (m / 4320 % y) := Int.ediv_nonneg g0 (Int.le_of_lt tp)
     have q1 : g / A7 (m / 4320 % y) * A7 (m / 4320 % y) <= g := Int.ediv_mul_le _ (Int.ne_of_gt tp)
     have q2 : g / A7 (m / 4320 % y) <= g := Int.ediv_le_self _ g0
     have t60 : A7 mo <= A7 60 := Y3 o2
     refine ⟨_, rfl, _, rfl, _, _, rfl, rfl, A0an (by omega), _, rfl, _, _, rfl, rfl, IntMulOk.of_bits (A0jf q0 (by omega)) (B2t (by omega)), _, _, rfl, Int.mul_nonneg q0 (Int.le_of_lt tp), Int.lt_of_le_of_lt q1 g1, rfl⟩
   clear g0 g1
   rintro σ' H8 ⟨g, u, rfl, g0, g1, rfl⟩
   refine ⟨fun σ' H' => ∃ g : Int, H' = H8 /\ 0 <= g /\ g < A7 mo /\ σ' = [some (.int c), some (.int mo), some (.int n), v, some (.int m), some (.int y), some (.int g), some (.int wy), u], ?_, ?_⟩
   . refine ⟨_, rfl, rfl, _, rfl, J3 (fun h => ?_) (fun h => ⟨g, rfl, g0, g1, rfl⟩)⟩
     refine ⟨_, ?_, fun _ _ h => h⟩
     exact ⟨_, rfl, _, _, rfl, rfl, dv (n := 4320) (by decide) (by decide +kernel), _, rfl, _, _, rfl, rfl, (show 0 < y by omega), m / 4320 % y, rfl, by omega, by omega, _, rfl, Int.le_of_lt (G0 _), A0kn (by omega) e0, rfl⟩
   clear g0 g1
   rintro σ' H9 ⟨g, rfl, g0, g1, rfl⟩
   refine ⟨_, rfl, _, rfl, z3, fun p np => ⟨_, rfl, rfl, .inr ⟨_, rfl, _, _, rfl, rfl, mC _ _ (by decide) (by decide), ?_⟩⟩⟩
   have s9 : Same H3 (upd H9 p (.lst [.int g, .int g, .int 0])) := s4.trans (Same.upd np)
   cases decide (V.int wy = V.int 4) with
   | true => exact ⟨p, _, _, _, rfl, rfl, SqL.of A6, B7 (j := 2) rfl, k 0 _ (Int.le_refl _) (G0 _) s9⟩
   | false => exact ⟨p, _, _, _, rfl, rfl, SqL.of A6, B7 (j := 0) rfl, k g _ g0 g1 s9⟩
def frV (r : Int) (y : Wy) (l m : Int) : List V := [.int r, .str y.name, .int l, .int m]
def J0e : Sp := fun vs H Q _ => ∃ c : Int, vs = [.int c] /\ 0 <= c /\ ∀ r y l m q H', FrameOk r l m -> Same H H' -> H' q = some (.tup (frV r y l m)) -> Q (.ref q) H'
theorem scLFrame : FnScope ["_law_cell", "_law_names", "_law_room", "_law_least", "_law_most"] ["_law_cell"] (A1 A5y) := scK
theorem V2d {f : Addr} {fd : FuncData} (D : Def K mg "_law_frame" ["_law_cell"] A5y f fd) : FnOk P w K mg base (CX1 P w) 1 f fd ["_law_cell"] J0e := by
 refine D.F.okE scLFrame (fun vs H Q E h => ?_) (fun X cdv A outer s H vs Q E hX hr hx h => ?_)
 . obtain ⟨c, rfl, _⟩ := h
   rfl
 . subst hX
   obtain ⟨c, rfl, c0, k⟩ := h
   refine ⟨_, (A3 (B8 (C9 (i := 1) scLFrame.nd rfl (Or.inl rfl) (J2 (A0 C8 (A0 C8 (A0 C8 (A0 C8 (A0 C8 (A0 C8 (A0 C8 (A0 C8 A4)))))))))))
     (A3 (B8 (C9 (i := 2) scLFrame.nd rfl (Or.inl rfl) (D7 V4 (J2 (A0 (B5 G9 A2 (B5 J0 (B5 G3 (pv 0) A2) A2)) (A0 (B5 G9 A2 (B5 J0 (B5 G3 (pv 0) A2) A2)) (A0 A2 A4)))) (B5 J0 (pv 0) A2) (fun _ _ => rfl))))
     (A3 (B8 (C9 (i := 3) scLFrame.nd rfl (Or.inl rfl) (D7 V4 (J2 (A0 (A8p A1r A2) (A0 (A8p A1r (B5 J0 (B5 G3 (pv 0) A2) A2)) (A0 (A8p A1r (B5 J0 (B5 G3 (pv 0) A2) A2)) A4)))) (B5 J0 (B5 G3 (pv 0) A2) A2) (fun _ _ => rfl))))
     (A3 (B8 (C9 (i := 4) scLFrame.nd rfl (Or.inl rfl) (D7 V4 (J2 (A0 A2 (A0 (B5 J0 (B5 G3 (pv 0) A2) A2) (A0 (B5 J0 (B5 G3 (pv 0) A2) A2) A4)))) (B5 J0 (B5 G3 (pv 0) A2) A2) (fun _ _ => rfl))))
     (A5 (A9 (V0 (A0 (pv 2) (A0 (D7 V4 (pv 1) (B5 J0 (B5 G3 (pv 0) A2) A2) (fun _ _ => rfl)) (A0 (pv 3) (A0 (pv 4) A4))))))))))), ?_⟩
   have z8 : 8 <= sizeLine := D3 (by decide)
   have z4 : 4 <= sizeLine := D3 (by decide)
   have z3 : 3 <= sizeLine := D3 (by decide)
   refine ⟨fun σ' H' => ∃ a, Same H H' /\ H' a = some (.lst [.str "down", .str "up", .str "floor", .str "ceiling", .str "half up", .str "half down", .str "half even", .str "five up"]) /\ σ' = [some (.int c), some (.ref a), none, none, none], ⟨z8, fun a n => ⟨a, Same.upd n, A6, rfl⟩⟩, ?_⟩
   rintro σ' H1 ⟨a, s1, ea, rfl⟩
   refine ⟨fun σ' H' => ∃ r : Int, Same H1 H' /\ 1 <= r /\ r <= 24 /\ σ' = [some (.int c), some (.ref a), some (.int r), none, none], ?_, ?_⟩
   . obtain ⟨r, hr, ix⟩ := at3 (1 + c / 3 % 4) (1 + c / 3 % 24) 5 c
     refine ⟨_, rfl, _, _, rfl, rfl, dv (n := 3) (by decide) (by decide +kernel), _, _, rfl, rfl, (by decide : (0 : Int) < 4), _, _, rfl, rfl, _, rfl, _, _, rfl, rfl, dv (n := 3) (by decide) (by decide +kernel), _, _, rfl, rfl, (by decide : (0 : Int) < 24), _, _, rfl, rfl, z3, fun p np => ⟨_, rfl, _, _, rfl, rfl, (by decide : (0 : Int) < 3), p, _, _, _, rfl, rfl, SqL.of A6, ix, r, Same.upd np, ?_, ?_, rfl⟩⟩
     . rcases hr with rfl | rfl | rfl <;> omega
     . rcases hr with rfl | rfl | rfl <;> omega
   rintro σ' H2 ⟨r, s2, r1, r2, rfl⟩
   refine ⟨fun σ' H' => ∃ l : Int, Same H1 H' /\ -60 <= l /\ l <= 0 /\ σ' = [some (.int c), some (.ref a), some (.int r), some (.int l), none], ?_, ?_⟩
   . obtain ⟨l, hl, ix⟩ := at3 (-60) (-(c / 72 % 61)) (-(c / 72 % 6)) (c / 576)
     refine ⟨_, rfl, _, rfl, _, _, rfl, rfl, dv (n := 72) (by decide) (by decide +kernel), _, _, rfl, rfl, (by decide : (0 : Int) < 61), _, rfl, _, rfl, _, _, rfl, rfl, dv (n := 72) (by decide) (by decide +kernel), _, _, rfl, rfl, (by decide : (0 : Int) < 6), _, rfl, z3, fun p np => ⟨_, rfl, _, _, rfl, rfl, dv (n := 576) (by decide) (by decide +kernel), _, _, rfl, rfl, (by decide : (0 : Int) < 3), p, _, _, _, rfl, rfl, SqL.of A6, ix, l, s2.trans (Same.upd np), ?_, ?_, rfl⟩⟩
     . rcases hl with rfl | rfl | rfl <;> omega
     . rcases hl with rfl | rfl | rfl <;> omega
   rintro σ' H3 ⟨l, s3, l1, l2, rfl⟩
   refine ⟨fun σ' H' => ∃ m : Int, Same H1 H' /\ 0 <= m /\ m <= 60 /\ σ' = [some (.int c), some (.ref a), some (.int r), some (.int l), some (.int m)], ?_, ?_⟩
   . obtain ⟨m, hm, ix⟩ := at3 60 (c / 1728 % 61) (c / 1728 % 6) (c / 105408)
     refine ⟨_, rfl, _, _, rfl, rfl, dv (n := 1728) (by decide) (by decide +kernel), _, _, rfl, rfl, (by decide : (0 : Int) < 61), _, rfl, _, _, rfl, rfl, dv (n := 1728) (by decide) (by decide +kernel), _, _, rfl, rfl, (by decide : (0 : Int) < 6), z3, fun p np => ⟨_, rfl, _, _, rfl, rfl, dv (n := 105408) (by decide) (by decide +kernel), _, _, rfl, rfl, (by decide : (0 : Int) < 3), p, _, _, _, rfl, rfl, SqL.of A6, ix, m, s3.trans (Same.upd np), ?_, ?_, rfl⟩⟩
     . rcases hm with rfl | rfl | rfl <;> omega
     . rcases hm with rfl | rfl | rfl <;> omega
   rintro σ' H4 ⟨m, s4, m1, m2, rfl⟩
   obtain ⟨y, ix⟩ := at8 (c / 72)
   refine ⟨_, rfl, _, rfl, _, rfl, _, _, rfl, rfl, dv (n := 72) (by decide) (by decide +kernel), _, _, rfl, rfl, (by decide : (0 : Int) < 8), a, _, _, _, rfl, rfl, SqL.of (s4 _ _ ea), ix, _, rfl, _, rfl, z4, fun q nq => ?_⟩
   exact k r y l m q _ ⟨r1, r2, l1, l2, m1, m2⟩ (s1.trans (s4.trans (Same.upd nq))) A6
def Y4a (CC : Addr) : Sp := fun vs H Q _ => ∃ q r y l m, vs = [.ref q] /\ H q = some (.tup (frV r y l m)) /\ FrameOk r l m /\ ∀ c a b H', H c = none -> Same H H' -> CtxV CC H' c ⟨r, y, l, m⟩ a b [] [] -> Q (.ref c) H'
theorem A0hx : FnScope ["_law_frame_here"] ["_law_frame_here"] (A1 C5j) := scK
theorem A0bd {f fI CC CB : Addr} {fd fdI : FuncData} (D : Def K mg "_law_context" ["_law_frame_here"] C5j f fd) (MC : MakeC P w K mg base CC CB fI fdI) (B4 : L2.Binds K fdI ["self", "room", "way", "least", "most"] []) (C : CtxC K mg CC) : FnOk P w K mg base (CX1 P w) 5 f fd ["_law_frame_here"] (Y4a CC) := by
 refine D.F.okE A0hx (fun vs H Q E h => ?_) (fun X cdv A outer s H vs Q E hX hr hx h => ?_)
 . obtain ⟨q, r, y, l, m, rfl, _⟩ := h
   rfl
 . subst hX
   obtain ⟨q, r, y, l, m, rfl, eq, fr, k⟩ := h
   refine ⟨_, (A5 (A9 (A8q MC.m MC.g hr C.g B4 .nil hx (A0 (D7 D8 (pv 0) A2 (fun _ _ => rfl)) (A0 (D7 D8 (pv 0) A2 (fun _ _ => rfl)) (A0 (D7 D8 (pv 0) A2 (fun _ _ => rfl)) (A0 (D7 D8 (pv 0) A2 (fun _ _ => rfl)) A4))))))), ?_⟩
   refine ⟨_, rfl, q, _, _, _, rfl, rfl, SqT.of eq, B7 (j := 0) rfl, _, rfl, q, _, _, _, rfl, rfl, SqT.of eq, B7 (j := 1) rfl, _, rfl, q, _, _, _, rfl, rfl, SqT.of eq, B7 (j := 2) rfl, _, rfl, q, _, _, _, rfl, rfl, SqT.of eq, B7 (j := 3) rfl, fun x dx n1 n2 ne => ?_⟩
   exact A0ra n1 n2 ne rfl fr.r1 fr.r2 rfl (.inr ⟨rfl, fr.l1, fr.l2⟩) rfl fr.m1 fr.m2 fun a b H4 s4 hc => ⟨rfl, k x a b H4 n1 s4 hc⟩
def Nm.pv (x : Nm) : List V := [.int x.s, .int x.f, .int x.p]
def G9a : Sp := fun vs H Q _ => ∃ c m : Int, vs = [.int c, .int m] /\ 1 <= m /\ m <= 60 /\ ∀ (x : Nm) q H', x.k = .plain -> x.Ok -> x.f < A7 m -> Same H H' -> H' q = some (.tup x.pv) -> Q (.ref q) H'
theorem scLPlain : FnScope ["_law_cell", "_law_most", "_law_more", "_law_power"] ["_law_cell", "_law_most"] (A1 A5x) := scK
theorem V2u {f f1 f2 : Addr} {fd fd1 fd2 : FuncData} (D : Def K mg "_law_plain" ["_law_cell", "_law_most"] A5x f fd) (D_l_mixed : Def K mg "_law_mixed" ["_law_cell", "_law_k"] A5w f1 fd1) (G_l_mixed : FnOk P w K mg base (CX1 P w) 1 f1 fd1 ["_law_cell", "_law_k"] C5b)
   (D_l_figures : Def K mg "_law_figures" ["_law_cell", "_law_most"] C6e f2 fd2) (G_l_figures : FnOk P w K mg base (CX1 P w) 2 f2 fd2 ["_law_cell", "_law_most"] Y2n) : FnOk P w K mg base (CX1 P w) 3 f fd ["_law_cell", "_law_most"] G9a := by
 refine D.F.okE scLPlain (fun vs H Q E h => ?_) (fun X cdv A outer s H vs Q E hX hr hx h => ?_)
 . obtain ⟨c, m, rfl, _⟩ := h
   rfl
 . subst hX
   obtain ⟨c, mo, rfl, o1, o2, k⟩ := h
   refine ⟨_, (A3 (B8 (C9 (i := 2) scLPlain.nd rfl (Or.inl rfl) (C6 D_l_mixed G_l_mixed hr hx (A0 (pv 0) (A0 A2 A4)))))
     (A3 (B8 (C9 (i := 3) scLPlain.nd rfl (Or.inl rfl) (D7 V4 (J2 (A0 (B5 J1 (B5 J0 (B5 G3 (pv 2) A2) A2) A2) (A0 (B5 J1 (B5 J0 (B5 G3 (pv 2) A2) A2) A2) (A0 (B5 J1 (B5 J0 (B5 G3 (pv 2) A2) A2) A2) (A0 (B5 J1 (B5 J0 (B5 G3 (pv 2) A2) A2) A2) A4))))) (B5 G3 (B5 J0 (B5 G3 (pv 2) A2) A2) A2) (fun _ _ => rfl))))
     (A5 (A9 (V0 (A0 (B5 J0 (pv 2) A2) (A0 (C6 D_l_figures G_l_figures hr hx (A0 (pv 0) (A0 (pv 1) A4))) (A0 (pv 3) A4)))))))), ?_⟩
   have z4 : 4 <= sizeLine := D3 (by decide)
   have z3 : 3 <= sizeLine := D3 (by decide)
   have d2 := dv (n := 2) (by decide) (by decide +kernel)
   refine ⟨fun σ' H' => ∃ m : Int, H' = H /\ 0 <= m /\ σ' = [some (.int c), some (.int mo), some (.int m), none], ⟨_, rfl, c, 9, rfl, by decide, by decide, fun m m0 _ => ⟨m, rfl, m0, rfl⟩⟩, ?_⟩
   rintro σ' H1 ⟨m, rfl, m0, rfl⟩
   refine ⟨fun σ' H' => ∃ p : Int, Same H1 H' /\ -200 <= p /\ p <= 200 /\ σ' = [some (.int c), some (.int mo), some (.int m), some (.int p)], ?_, ?_⟩
   . obtain ⟨p, hp, ix⟩ := at4 (m / 2 % 13 - 6) (m / 2 % 61 - 30) (m / 2 % 401 - 200) (m / 2 % 3 - 1) (m / 802)
     refine ⟨_, rfl, _, _, rfl, rfl, d2, _, _, rfl, rfl, (by decide : (0 : Int) < 13), _, _, rfl, rfl, _, rfl, _, _, rfl, rfl, d2, _, _, rfl, rfl, (by decide : (0 : Int) < 61), _, _, rfl, rfl, _, rfl, _, _, rfl, rfl, d2, _, _, rfl, rfl, (by decide : (0 : Int) < 401), _, _, rfl, rfl, _, rfl, _, _, rfl, rfl, d2, _, _, rfl, rfl, (by decide : (0 : Int) < 3), _, _, rfl, rfl, z4, fun q nq => ⟨_, rfl, _, _, rfl, rfl, dv (n := 802) (by decide) (by decide +kernel), _, _, rfl, rfl, (by decide : (0 : Int) < 8), _, _, rfl, rfl, d2, q, _, _, _, rfl, rfl, SqL.of A6, ix, p, Same.upd nq, ?_, ?_, rfl⟩⟩
     . rcases hp with rfl | rfl | rfl | rfl <;> omega
     . rcases hp with rfl | rfl | rfl | rfl <;> omega
   rintro σ' H2 ⟨p, s2, p0, p1, rfl⟩
   have a0 := Int.emod_nonneg m (by decide : (2 : Int) ≠ 0)
   have a1 := Int.emod_lt_of_pos m (by decide : (0 : Int) < 2)
   have t60 : A7 mo <= A7 60 := Y3 o2
   have e60 : A7 60 = 10 ^ 60 := by decide +kernel
   refine ⟨_, rfl, _, _, rfl, rfl, (by decide : (0 : Int) < 2), _, rfl, _, rfl, c, mo, rfl, o1, o2, fun f H' f0 f1 s' => ⟨_, rfl, z3, fun q nq => ?_⟩⟩
   exact k ⟨.plain, m % 2, f, p⟩ q _ rfl ⟨a0, by show m % 2 <= 1; omega, f0, by show f <= 10 ^ 60 - 1; omega, p0, p1⟩ f1 (s2.trans (s'.trans (Same.upd nq))) A6
end
theorem D5t {c A B : Prop} [Decidable c] (h : ¬ c) (a : A) : if (!decide c) = true then A else B := by rw [decide_eq_false h]; exact Y1 a
abbrev A3p : Stmt := (top 90)
abbrev G9s : Stmt := (top 92)
abbrev B4t : Stmt := (top 93)
abbrev B4e : Stmt := (top 94)
abbrev A6b : Stmt := (top 95)
abbrev A1b : Stmt := (top 97)
def Wy.code : Wy -> Nat
 | .down => 0
 | .up => 1
 | .floor => 2
 | .ceiling => 3
 | .halfUp => 4
 | .halfDown => 5
 | .halfEven => 6
 | .fiveUp => 7
theorem nW {y z : Wy} (h : y.code ≠ z.code) : ¬ V.str y.name = V.str z.name := fun q => h (by rw [Wy.inj (V.str.inj q)])
theorem Y0q {a b : Int} (h : 0 < a) (h2 : b < 2 * a) : Y0 a b = 3 := by
 unfold Y0
 rw [decide_eq_true h, decide_eq_true (show b <= 2 * a by omega), decide_eq_true h2]
 rfl
theorem Y1y {a b : Int} (h : 0 < a) (h2 : 2 * a = b) : Y0 a b = 2 := by
 unfold Y0
 rw [decide_eq_true h, decide_eq_true (show b <= 2 * a by omega), decide_eq_false (show ¬ b < 2 * a by omega)]
 rfl
theorem Y0r {a b : Int} (h : 0 < a) (h2 : 2 * a < b) : Y0 a b = 1 := by
 unfold Y0
 rw [decide_eq_true h, decide_eq_false (show ¬ b <= 2 * a by omega), decide_eq_false (show ¬ b < 2 * a by omega)]
 rfl
theorem A0jv {a b : Int} (h : a = 0) (hb : 0 < b) : Y0 a b = 0 := by
 subst h
 unfold Y0
 rw [decide_eq_false (show ¬ (0 : Int) < 0 by omega), decide_eq_false (show ¬ b <= 2 * 0 by omega), decide_eq_false (show ¬ b < 2 * 0 by omega)]
 rfl
def D5d (H : Hp) (q : Addr) (x : Nm) (zs : List Str) : Prop := ∃ t l, H q = some (.tup [.ref t, .ref l]) /\ H t = some (.tup x.vs) /\ H l = some (.lst (zs.map V.str))
def V0s (H : Hp) (q : Addr) (t b n : Int) : Prop := H q = some (.tup [.int t, .int b, .int n, .bl false])
theorem V3c {f : Int} (h0 : 0 <= f) (h : f <= 9) : V2 f = 1 := by
 rcases (by omega : f = 0 \/ f = 1 \/ f = 2 \/ f = 3 \/ f = 4 \/ f = 5 \/ f = 6 \/ f = 7 \/ f = 8 \/ f = 9) with rfl | rfl | rfl | rfl | rfl | rfl | rfl | rfl | rfl | rfl <;> decide +kernel
theorem A0cw {f : Int} (h : 9 < f) : V2 f = V2 (f / 10) + 1 := by
 obtain ⟨n, rfl⟩ : ∃ n : Nat, f = (n : Int) := ⟨f.toNat, by omega⟩
 obtain ⟨j, a, b⟩ := D8m n (by omega)
 rcases j with _ | j
 . exfalso
   have : n < 10 := by simpa using b
   omega
 . rw [C5f b a, show (n : Int) / 10 = ((n / 10 : Nat) : Int) by omega]
   rw [Nat.pow_succ] at a b
   rw [C5f (n := n / 10) (j := j) (by omega) (by omega)]
   omega
theorem B4q {t : Int} (h : Sz t) : A7 (V2 t - 1) <= t /\ t < A7 (V2 t) /\ 1 <= V2 t := by
 obtain ⟨n, rfl, h1, _⟩ := h.nat
 obtain ⟨j, a, b⟩ := D8m n h1
 rw [C5f b a]
 have e1 : A7 ((j : Int) + 1 - 1) = ((10 ^ j : Nat) : Int) := by unfold A7; rw [show ((j : Int) + 1 - 1).toNat = j by omega]
 have e2 : A7 ((j : Int) + 1) = ((10 ^ (j + 1) : Nat) : Int) := by unfold A7; rw [show ((j : Int) + 1).toNat = j + 1 by omega]
 rw [e1, e2]
 exact ⟨Int.ofNat_le.mpr a, Int.ofNat_lt.mpr b, by omega⟩
theorem U9y {t b s s0 : Int} (hb : 0 < b) (ht : 0 < t) (h : Y9 t b s0) (e : s0 <= s) : b * A7 (-s) <= t * A7 s := by
 have c := A5r e
 have p0 := G0 (-s0)
 have p1 := G0 (s - s0)
 have q : t * A7 s * A7 (-s0) = t * A7 s0 * A7 (-s) * A7 (s - s0) := by
   calc t * A7 s * A7 (-s0) = t * (A7 s * A7 (-s0)) := by ac_rfl
     _ = t * (A7 s0 * A7 (-s) * A7 (s - s0)) := by rw [c]
     _ = t * A7 s0 * A7 (-s) * A7 (s - s0) := by ac_rfl
 have a1 : b * A7 (-s0) * A7 (-s) <= t * A7 s0 * A7 (-s) := Int.mul_le_mul_of_nonneg_right h.1 (Int.le_of_lt (G0 _))
 have a2 : t * A7 s0 * A7 (-s) * 1 <= t * A7 s0 * A7 (-s) * A7 (s - s0) := Int.mul_le_mul_of_nonneg_left (by omega) (Int.le_of_lt (Int.mul_pos (Int.mul_pos ht (G0 _)) (G0 _)))
 have e2 : b * A7 (-s) * A7 (-s0) = b * A7 (-s0) * A7 (-s) := by ac_rfl
 exact Int.le_of_mul_le_mul_right (by rw [e2, q]; omega) p0
theorem A0ce {t b s s0 : Int} (ht : 0 < t) (h : Y9 t b s0) (e : s < s0) : t * A7 s < b * A7 (-s) := by
 have c := A5r (Int.le_of_lt e)
 have g := V0a (d := s0 - s) (by omega)
 have p0 := G0 (-s0)
 have q : t * A7 s0 * A7 (-s) = t * A7 s * A7 (-s0) * A7 (s0 - s) := by
   calc t * A7 s0 * A7 (-s) = t * (A7 s0 * A7 (-s)) := by ac_rfl
     _ = t * (A7 s * A7 (-s0) * A7 (s0 - s)) := by rw [c]
     _ = t * A7 s * A7 (-s0) * A7 (s0 - s) := by ac_rfl
 have a1 : t * A7 s0 * A7 (-s) < 10 * (b * A7 (-s0)) * A7 (-s) := Int.mul_lt_mul_of_pos_right h.2 (G0 _)
 have a2 : t * A7 s * A7 (-s0) * 10 <= t * A7 s * A7 (-s0) * A7 (s0 - s) := Int.mul_le_mul_of_nonneg_left g (Int.le_of_lt (Int.mul_pos (Int.mul_pos ht (G0 _)) p0))
 have e2 : 10 * (b * A7 (-s0)) * A7 (-s) = b * A7 (-s) * A7 (-s0) * 10 := by ac_rfl
 have a3 : t * A7 s * A7 (-s0) * 10 < b * A7 (-s) * A7 (-s0) * 10 := by rw [<- e2]; rw [q] at a1; omega
 exact Int.lt_of_mul_lt_mul_right (Int.lt_of_mul_lt_mul_right a3 (by decide)) (Int.le_of_lt p0)
theorem A0hg {t b s s0 : Int} (hb : 0 < b) (ht : 0 < t) (h : Y9 t b s0) : whI t b s = 0 ↔ s < s0 := by
 have lp : 0 < b * A7 (-s) := Int.mul_pos hb (G0 _)
 have tp : 0 <= t * A7 s := Int.le_of_lt (Int.mul_pos ht (G0 _))
 unfold whI
 constructor
 . intro z
   apply Classical.byContradiction
   intro hh
   have a := U9y hb ht h (show s0 <= s by omega)
   have b1 : 1 <= t * A7 s / (b * A7 (-s)) := (Int.le_ediv_iff_mul_le lp).mpr (by rw [Int.one_mul]; exact a)
   omega
 . intro e
   exact Int.ediv_eq_zero_of_lt tp (A0ce ht h e)
theorem Y2s {t b s0 : Int} (ht : Sz t) (hb : Sz b) (h : Y9 t b s0) : V2 b - V2 t - 1 <= s0 := by
 obtain ⟨a1, a2, a3⟩ := B4q ht
 obtain ⟨b1, b2, b3⟩ := B4q hb
 apply Classical.byContradiction
 intro z
 have g := U9y (s := V2 b - V2 t - 1) (by have := hb.1; omega) (by have := ht.1; omega) h (by omega)
 generalize V2 t = T at *
 generalize V2 b = B at *
 have e : A7 T * A7 (B - T - 1) = A7 (B - 1) * A7 (-(B - T - 1)) := by
   unfold A7
   rw [<- Int.natCast_mul, <- Int.natCast_mul, <- Nat.pow_add, <- Nat.pow_add]
   congr 2
   omega
 have c1 : t * A7 (B - T - 1) < A7 T * A7 (B - T - 1) := Int.mul_lt_mul_of_pos_right a2 (G0 _)
 have c2 : A7 (B - 1) * A7 (-(B - T - 1)) <= b * A7 (-(B - T - 1)) := Int.mul_le_mul_of_nonneg_right b1 (Int.le_of_lt (G0 _))
 omega
theorem A0hy (r : Int) (y : Wy) (l m L : Int) : (if l > L then l else L) - r + 1 = Cv.fin ⟨r, y, l, m⟩ L := by
 unfold Cv.fin C4x
 dsimp only
 split <;> split <;> omega
theorem part_of {a b : Int} (hb : 0 < b) (h : 0 < a) : 2 + (if decide (2 * a - b > 0) = true then (1 : Int) else 0) - (if decide (2 * a - b < 0) = true then (1 : Int) else 0) = Y0 a b := by
 rcases (by omega : 2 * a < b \/ 2 * a = b \/ b < 2 * a) with h2 | h2 | h2
 . rw [Y0r h h2, decide_eq_false (by omega), decide_eq_true (by omega)]; rfl
 . rw [Y1y h h2, decide_eq_false (by omega), decide_eq_false (by omega)]; rfl
 . rw [Y0q h h2, decide_eq_true (by omega), decide_eq_false (by omega)]; rfl
theorem D8h (e : Int) : A7 (if e > 0 then e else 0) = A7 e := by
 unfold A7
 split
 . rfl
 . rw [show e.toNat = 0 by omega]; rfl
section
variable {P : Program} {w : World} {K : Frag} {mg : Str -> Option Value} {base : Heap}
def C6s : Sp := fun vs H Q _ => ∃ n : Int, vs = [.int n] /\ 0 <= n /\ Q (.int (V2 n)) H
theorem scLCount : FnScope ["_law_figures_here", "_law_many"] ["_law_figures_here"] (A1 A3p) := scK
theorem V2w {f : Addr} {fd : FuncData} (D : Def K mg "_law_count" ["_law_figures_here"] A3p f fd) : FnOk P w K mg base (CX1 P w) 1 f fd ["_law_figures_here"] C6s := by
 refine D.F.okE scLCount (fun vs H Q E h => ?_) (fun X cdv A outer s H vs Q E hX hr hx h => ?_)
 . obtain ⟨n, rfl, _⟩ := h
   rfl
 . subst hX
   obtain ⟨n, rfl, n0, k⟩ := h
   refine ⟨_, (A3 (B8 (C9 (i := 1) scLCount.nd rfl (Or.inl rfl) A2))
     (A3 (B8 (A4v PassesOwn.leaving (C5 A9g (pv 0) A2 (B9 _)) (A3 (B8 (C9 (i := 0) scLCount.nd rfl (Or.inl rfl) (B5 G3 (pv 0) A2)))
     (A5 (B8 (C9 (i := 1) scLCount.nd rfl (Or.inl rfl) (B5 G9 (pv 1) A2)))))))
     (A5 (A9 (pv 1))))), ?_⟩
   refine ⟨fun σ' H' => H' = H /\ σ' = [some (.int n), some (.int 1)], ⟨rfl, rfl⟩, ?_⟩
   rintro σ' H1 ⟨rfl, rfl⟩
   refine ⟨fun σ' H' => H' = H1 /\ ∃ f : Int, σ' = [some (.int f), some (.int (V2 n))], ?_, ?_⟩
   . refine A4z (fun σ H3 => H3 = H1 /\ ∃ f m : Int, 0 <= f /\ V2 f + m - 1 = V2 n /\ σ = [some (.int f), some (.int m)]) (fun σ _ => match σ with | [some (.int f), _] => f.toNat | _ => 0) ⟨rfl, n, 1, n0, by omega, rfl⟩ ?_ ?_
     . rintro σ H3 ⟨rfl, f, m, f0, e, rfl⟩
       refine ⟨_, rfl, _, _, rfl, rfl, _, rfl, J3 (fun h => ?_) (fun h => ?_)⟩
       . have h : f > 9 := h
         refine ⟨fun σ' H' => H' = H3 /\ σ' = [some (.int (f / 10)), some (.int m)], ⟨_, rfl, _, _, rfl, rfl, dv (n := 10) (by decide) (by decide +kernel), rfl, rfl⟩, ?_⟩
         rintro σ' H4 ⟨rfl, rfl⟩
         refine ⟨_, ?_, fun _ _ h => h⟩
         have := A0cw (f := f) h
         refine ⟨_, rfl, _, _, rfl, rfl, ⟨rfl, f / 10, m + 1, by omega, by omega, rfl⟩, ?_⟩
         show (f / 10).toNat < f.toNat
         omega
       . have h : ¬ f > 9 := h
         have := V3c f0 (by omega)
         refine ⟨rfl, f, ?_⟩
         rw [show V2 n = m by omega]
     . rintro σ H3 Q1 Q2 hQ ⟨v1, e1, a1, a2, f1, f2, bb, eb, q⟩
       exact ⟨v1, e1, a1, a2, f1, f2, bb, eb, hQ _ _ q⟩
   rintro σ' H2 ⟨rfl, f, rfl⟩
   exact ⟨_, rfl, k⟩
def Y0d : Sp := fun vs H Q _ => ∃ q t b n p, vs = [.ref q, .int p] /\ V0s H q t b n /\ Sz t /\ Sz b /\ -1500 <= n - p /\ n - p <= 1500 /\ ∀ r H', Same H H' -> H' r = some (.tup [.int (whI t b (n - p)), .int (ptI t b (n - p))]) -> Q (.ref r) H'
theorem scLAt : FnScope ["_law_value", "_law_power", "_law_top", "_law_bottom", "_law_ten_here", "_law_is_root", "_law_many", "_law_found", "_law_left", "_law_twice"] ["_law_value", "_law_power"] (A1 G9s) := scK
theorem A0jg {f f1 : Addr} {fd fd1 : FuncData} (D : Def K mg "_law_at" ["_law_value", "_law_power"] G9s f fd) (D_l_ten : Def K mg "_law_ten" ["_law_power"] A8x f1 fd1) (G_l_ten : FnOk P w K mg base (CX1 P w) 1 f1 fd1 ["_law_power"] B8p) (O : Own mg) : FnOk P w K mg base (CX1 P w) 2 f fd ["_law_value", "_law_power"] Y0d := by
 refine D.F.okE scLAt (fun vs H Q E h => ?_) (fun X cdv A outer s H vs Q E hX hr hx h => ?_)
 . obtain ⟨q, t, b, n, p, rfl, _⟩ := h
   rfl
 . subst hX
   obtain ⟨vq, t, b, n, p, rfl, ev, ht, hb, n0, n1, k⟩ := h
   refine ⟨_, (A3 (B8 (A4d (pv 0) (B8j rfl (J5 (G7 (i := 2) scLAt.nd rfl (Or.inl rfl)) (J5 (G7 (i := 3) scLAt.nd rfl (Or.inl rfl)) (J5 (G7 (i := 4) scLAt.nd rfl (Or.inl rfl)) (J5 (G7 (i := 5) scLAt.nd rfl (Or.inl rfl)) A3k)))))))
     (A3 (B8 (C9 (i := 6) scLAt.nd rfl (Or.inl rfl) (B5 J1 (pv 4) (B5 G4 (pv 1) (U2 (U4 (pv 5)) A2 A2)))))
     (A3 (B8 (C9 (i := 2) scLAt.nd rfl (Or.inl rfl) (B5 G4 (pv 2) (C6 D_l_ten G_l_ten hr hx (A0 (J7 (Y6 rfl) (by rfl) O.max_ boot_max (A0 A2 (A0 (pv 6) A4))) A4)))))
     (A3 (B8 (C9 (i := 3) scLAt.nd rfl (Or.inl rfl) (B5 G4 (pv 3) (C6 D_l_ten G_l_ten hr hx (A0 (J7 (Y6 rfl) (by rfl) O.max_ boot_max (A0 A2 (A0 (A8p A1r (pv 6)) A4))) A4)))))
     (A3 (B8 (D6 (A5m (U4 (pv 5))) (A3 (B8 (A4d (J7 D8b (by rfl) O.divmod_ PyProof.Rows.boot_divmod (A0 (pv 2) (A0 (pv 3) A4))) (B8j rfl (J5 (G7 (i := 7) scLAt.nd rfl (Or.inl rfl)) (J5 (G7 (i := 8) scLAt.nd rfl (Or.inl rfl)) A3k)))))
     (A5 (B8 (C9 (i := 9) scLAt.nd rfl (Or.inl rfl) (B5 J1 (B5 G4 A2 (pv 8)) (pv 3)))))) (A3 (B8 (C9 (i := 7) scLAt.nd rfl (Or.inl rfl) A0bn))
     (A3 (B8 (C9 (i := 8) scLAt.nd rfl (Or.inl rfl) (B5 J1 (pv 2) (B5 G4 (B5 G4 (pv 7) (pv 7)) (pv 3)))))
     (A5 (B8 (C9 (i := 9) scLAt.nd rfl (Or.inl rfl) (B5 J1 (B5 G4 A2 (pv 2)) (B5 G4 (B5 G4 (B5 G9 (B5 G4 A2 (pv 7)) A2) (B5 G9 (B5 G4 A2 (pv 7)) A2)) (pv 3))))))))))
     (A3 (B8 (D6 (C5 D9 (pv 8) A2 (B9 _)) (A5 (A9 (V0 (A0 (pv 7) (A0 A2 A4))))) C7))
     (A5 (A9 (V0 (A0 (pv 7) (A0 (B5 J1 (B5 G9 A2 (V6 Y8 (by rfl) O.int_ boot_int (A0 (G6 A9g (pv 9) A2 (B9 _)) A4))) (V6 Y8 (by rfl) O.int_ boot_int (A0 (G6 B3j (pv 9) A2 (B9 _)) A4))) A4))))))))))), ?_⟩
   have z2 : 2 <= sizeLine := D3 (by decide)
   have mC : ∀ z n : Int, -(2 ^ 64) < n -> n < 2 ^ 64 -> IntMulOk z n := fun z n a b => CMul.ok (.inr ⟨a, b⟩)
   have mC' : ∀ z n : Int, -(2 ^ 64) < n -> n < 2 ^ 64 -> IntMulOk n z := fun z n a b => CMul.ok (.inl ⟨a, b⟩)
   refine ⟨fun σ' H' => H' = H /\ σ' = [some (.ref vq), some (.int p), some (.int t), some (.int b), some (.int n), some (.bl false), none, none, none, none], ⟨_, rfl, vq, _, rfl, SqT.of ev, rfl, _, _, rfl, _, _, rfl, _, _, rfl, _, _, rfl, rfl, rfl, rfl⟩, ?_⟩
   rintro σ' H1 ⟨rfl, rfl⟩
   refine ⟨fun σ' H' => H' = H1 /\ σ' = [some (.ref vq), some (.int p), some (.int t), some (.int b), some (.int n), some (.bl false), some (.int (n - p)), none, none, none], ?_, ?_⟩
   . refine ⟨_, rfl, _, rfl, _, rfl, _, rfl, U0 ⟨_, _, rfl, rfl, mC _ _ (by decide) (by decide), _, _, rfl, rfl, rfl, ?_⟩⟩
     rw [Int.mul_one]
     rfl
   rintro σ' H2 ⟨rfl, rfl⟩
   generalize n - p = s at *
   have b1 : 0 < b := by have := hb.1; omega
   have lp : 0 < b * A7 (-s) := Int.mul_pos b1 (G0 _)
   refine ⟨fun σ' H' => H' = H2 /\ σ' = [some (.ref vq), some (.int p), some (.int (t * A7 s)), some (.int b), some (.int n), some (.bl false), some (.int s), none, none, none], ?_, ?_⟩
   . refine ⟨_, rfl, _, rfl, _, _, rfl, _, rfl, ?_, ?_, _, _, rfl, rfl, ?_, rfl, ?_⟩
     . split <;> omega
     . split <;> omega
     . rw [D8h]; exact D7j ht (by omega)
     . rw [D8h]; rfl
   rintro σ' H3 ⟨rfl, rfl⟩
   refine ⟨fun σ' H' => H' = H3 /\ σ' = [some (.ref vq), some (.int p), some (.int (t * A7 s)), some (.int (b * A7 (-s))), some (.int n), some (.bl false), some (.int s), none, none, none], ?_, ?_⟩
   . refine ⟨_, rfl, _, rfl, _, rfl, _, _, rfl, _, rfl, ?_, ?_, _, _, rfl, rfl, ?_, rfl, ?_⟩
     . split <;> omega
     . split <;> omega
     . rw [D8h]; exact D7j hb (by omega)
     . rw [D8h]; rfl
   rintro σ' H4 ⟨rfl, rfl⟩
   have ll := J7b hb (s := -s) (by omega)
   have hm : t * A7 s % (b * A7 (-s)) = t * A7 s - whI t b s * (b * A7 (-s)) := by
     unfold whI
     rw [Int.emod_def, Int.mul_comm (b * A7 (-s))]
   have lf0 := (D7x (t := t) (s := s) b1).1
   refine ⟨fun σ' H' => Same H4 H' /\ σ' = [some (.ref vq), some (.int p), some (.int (t * A7 s)), some (.int (b * A7 (-s))), some (.int n), some (.bl false), some (.int s), some (.int (whI t b s)), some (.int (t * A7 s - whI t b s * (b * A7 (-s)))), some (.int (2 * (t * A7 s - whI t b s * (b * A7 (-s))) - b * A7 (-s)))], ?_, ?_⟩
   . refine ⟨_, rfl, _, rfl, Y1 ?_⟩
     refine ⟨fun σ' H' => Same H4 H' /\ σ' = [some (.ref vq), some (.int p), some (.int (t * A7 s)), some (.int (b * A7 (-s))), some (.int n), some (.bl false), some (.int s), some (.int (whI t b s)), some (.int (t * A7 s - whI t b s * (b * A7 (-s)))), none], ?_, ?_⟩
     . refine ⟨_, rfl, _, rfl, _, _, rfl, ⟨lp, ll⟩, fun d nd => ?_⟩
       rw [hm]
       exact ⟨d, _, rfl, SqT.of A6, rfl, _, _, rfl, _, _, rfl, rfl, Same.upd nd, rfl⟩
     rintro σ' H5 ⟨s5, rfl⟩
     refine ⟨_, ?_, fun _ _ h => h⟩
     exact ⟨_, rfl, _, _, rfl, rfl, mC' _ _ (by decide) (by decide), _, rfl, _, _, rfl, rfl, s5, rfl⟩
   rintro σ' H5 ⟨s5, rfl⟩
   unfold ptI at k
   generalize t * A7 s - whI t b s * (b * A7 (-s)) = lf at *
   generalize b * A7 (-s) = lo at *
   generalize whI t b s = wh at *
   refine ⟨fun σ' H' => H' = H5 /\ lf ≠ 0 /\ σ' = [some (.ref vq), some (.int p), some (.int (t * A7 s)), some (.int lo), some (.int n), some (.bl false), some (.int s), some (.int wh), some (.int lf), some (.int (2 * lf - lo))], ?_, ?_⟩
   . refine ⟨_, rfl, rfl, _, rfl, J3 (fun h => ?_) (fun h => ⟨rfl, fun z => h (congrArg V.int z), rfl⟩)⟩
     have h : lf = 0 := V.int.inj h
     rw [A0jv h lp] at k
     exact ⟨_, rfl, z2, fun r nr => k r _ (s5.trans (Same.upd nr)) A6⟩
   rintro σ' H6 ⟨rfl, h, rfl⟩
   rw [<- part_of lp (by omega)] at k
   exact ⟨_, rfl, _, rfl, _, _, rfl, rfl, .inr ⟨_, rfl, _, _, rfl, rfl, _, rfl, _, _, rfl, rfl, .inr ⟨_, rfl, _, _, rfl, rfl, z2, fun r nr => k r _ (s5.trans (Same.upd nr)) A6⟩⟩⟩
def V0q : Sp := fun vs H Q _ => ∃ q t b n L, vs = [.ref q] /\ V0s H q t b n /\ Sz t /\ Sz b /\ Y9 t b (n - L) /\ ∀ H', Same H H' -> Q (.int L) H'
theorem scLLead : FnScope ["_law_value", "_law_top", "_law_bottom", "_law_ten_here", "_law_is_root", "_law_first"] ["_law_value"] (A1 B4t) := scK
theorem Y1x {f f1 f2 : Addr} {fd fd1 fd2 : FuncData} (D : Def K mg "_law_lead" ["_law_value"] B4t f fd) (D_l_count : Def K mg "_law_count" ["_law_figures_here"] A3p f1 fd1) (G_l_count : FnOk P w K mg base (CX1 P w) 1 f1 fd1 ["_law_figures_here"] C6s) (D_l_at : Def K mg "_law_at" ["_law_value", "_law_power"] G9s f2 fd2) (G_l_at : FnOk P w K mg base (CX1 P w) 2 f2 fd2 ["_law_value", "_law_power"] Y0d) : FnOk P w K mg base (CX1 P w) 3 f fd ["_law_value"] V0q := by
 refine D.F.okE scLLead (fun vs H Q E h => ?_) (fun X cdv A outer s H vs Q E hX hr hx h => ?_)
 . obtain ⟨q, t, b, n, L, rfl, _⟩ := h
   rfl
 . subst hX
   obtain ⟨vq, t, b, n, L, rfl, ev, ht, hb, ld, k⟩ := h
   refine ⟨_, (A3 (B8 (A4d (pv 0) (B8j rfl (J5 (G7 (i := 1) scLLead.nd rfl (Or.inl rfl)) (J5 (G7 (i := 2) scLLead.nd rfl (Or.inl rfl)) (J5 (G7 (i := 3) scLLead.nd rfl (Or.inl rfl)) (J5 (G7 (i := 4) scLLead.nd rfl (Or.inl rfl)) A3k)))))))
     (A3 (B8 (C9 (i := 5) scLLead.nd rfl (Or.inl rfl) (B5 G9 (B5 J1 (C6 D_l_count G_l_count hr hx (A0 (pv 1) A4)) (C6 D_l_count G_l_count hr hx (A0 (pv 2) A4))) (pv 3))))
     (A3 (B8 (D6 (U4 (pv 4)) (A5 (B8 (C9 (i := 5) scLLead.nd rfl (Or.inl rfl) (B5 G9 (B5 G3 (pv 5) A2) A2)))) C7))
     (A3 (B8 (C9 (i := 5) scLLead.nd rfl (Or.inl rfl) (B5 G9 (pv 5) A2)))
     (A3 (B8 (A4v PassesOwn.leaving (C5 D9 (D7 D8 (C6 D_l_at G_l_at hr hx (A0 (pv 0) (A0 (pv 5) A4))) A2 (fun _ _ => rfl)) A2 (B9 _)) (A5 (B8 (C9 (i := 5) scLLead.nd rfl (Or.inl rfl) (B5 J1 (pv 5) A2))))))
     (A5 (A9 (pv 5)))))))), ?_⟩
   have t1 := ht.1; have b1 := hb.1
   have ls := C6m ht hb ld
   have lt := Y2s ht hb ld
   obtain ⟨_, _, ft⟩ := B4q ht
   obtain ⟨_, _, fb⟩ := B4q hb
   have ftl : V2 t <= 1001 := by
     apply Classical.byContradiction
     intro z
     have a : A7 1000 <= A7 (V2 t - 1) := Y3 (by omega)
     have := (B4q ht).1; have := ht.2
     omega
   have fbl : V2 b <= 1001 := by
     apply Classical.byContradiction
     intro z
     have a : A7 1000 <= A7 (V2 b - 1) := Y3 (by omega)
     have := (B4q hb).1; have := hb.2
     omega
   refine ⟨fun σ' H' => H' = H /\ σ' = [some (.ref vq), some (.int t), some (.int b), some (.int n), some (.bl false), none], ⟨_, rfl, vq, _, rfl, SqT.of ev, rfl, _, _, rfl, _, _, rfl, _, _, rfl, _, _, rfl, rfl, rfl, rfl⟩, ?_⟩
   rintro σ' H1 ⟨rfl, rfl⟩
   refine ⟨fun σ' H' => H' = H1 /\ σ' = [some (.ref vq), some (.int t), some (.int b), some (.int n), some (.bl false), some (.int (V2 t - V2 b + n))], ⟨_, rfl, t, rfl, by omega, _, rfl, b, rfl, by omega, _, _, rfl, rfl, _, rfl, _, _, rfl, rfl, rfl, rfl⟩, ?_⟩
   rintro σ' H2 ⟨rfl, rfl⟩
   refine ⟨fun σ' H' => H' = H2 /\ σ' = [some (.ref vq), some (.int t), some (.int b), some (.int n), some (.bl false), some (.int (V2 t - V2 b + n))], ⟨_, rfl, _, rfl, U0 ⟨rfl, rfl⟩⟩, ?_⟩
   rintro σ' H3 ⟨rfl, rfl⟩
   refine ⟨fun σ' H' => H' = H3 /\ σ' = [some (.ref vq), some (.int t), some (.int b), some (.int n), some (.bl false), some (.int (V2 t - V2 b + n + 1))], ⟨_, rfl, _, _, rfl, rfl, rfl, rfl⟩, ?_⟩
   rintro σ' H4 ⟨rfl, rfl⟩
   refine ⟨fun σ' H' => Same H4 H' /\ σ' = [some (.ref vq), some (.int t), some (.int b), some (.int n), some (.bl false), some (.int L)], ?_, ?_⟩
   . refine A4z (fun σ H5 => Same H4 H5 /\ ∃ g : Int, L <= g /\ g <= V2 t - V2 b + n + 1 /\ σ = [some (.ref vq), some (.int t), some (.int b), some (.int n), some (.bl false), some (.int g)]) (fun σ _ => match σ with | [_, _, _, _, _, some (.int g)] => (g - L).toNat | _ => 0) ⟨Same.refl _, _, by omega, Int.le_refl _, rfl⟩ ?_ ?_
     . rintro σ H5 ⟨s5, g, g0, g1, rfl⟩
       have ev5 : V0s H5 vq t b n := s5 _ _ ev
       refine ⟨_, rfl, _, rfl, vq, t, b, n, g, rfl, ev5, ht, hb, by omega, by omega, fun r H6 s6 er => ⟨r, _, _, _, rfl, rfl, SqT.of er, B7 (j := 0) rfl, rfl, _, rfl, J3 (fun h => ?_) (fun h => ?_)⟩⟩
       . have h : whI t b (n - g) = 0 := V.int.inj h
         have := (A0hg (by omega) (by omega) ld).mp h
         refine ⟨_, ?_, fun _ _ h => h⟩
         refine ⟨_, rfl, _, _, rfl, rfl, ⟨s5.trans s6, g - 1, by omega, by omega, rfl⟩, ?_⟩
         show (g - 1 - L).toNat < (g - L).toNat
         omega
       . have h : ¬ whI t b (n - g) = 0 := fun z => h (congrArg V.int z)
         have : ¬ n - g < n - L := fun z => h ((A0hg (by omega) (by omega) ld).mpr z)
         obtain rfl : g = L := by omega
         exact ⟨s5.trans s6, rfl⟩
     . rintro σ H5 Q1 Q2 hQ ⟨v1, e1, v2, e2, q, t', b', n', p', e3, c1, c2, c3, c4, c5, c6⟩
       refine ⟨v1, e1, v2, e2, q, t', b', n', p', e3, c1, c2, c3, c4, c5, fun r H6 s6 er => ?_⟩
       obtain ⟨a1, a2, a3, a4, a5, a6, a7, a8, a9, bb, eb, z⟩ := c6 r H6 s6 er
       exact ⟨a1, a2, a3, a4, a5, a6, a7, a8, a9, bb, eb, hQ _ _ z⟩
   rintro σ' H5 ⟨s5, rfl⟩
   exact ⟨_, rfl, k H5 s5⟩
def V0n : Sp := fun vs H Q _ => ∃ (y : Wy) (s l pt : Int), vs = [.str y.name, .int s, .int l, .int pt] /\ 0 <= s /\ s <= 1 /\ 0 <= l /\ l <= 9 /\ 1 <= pt /\ pt <= 3 /\ ∀ H', Same H H' -> Q (.bl (y.goes s l pt)) H'
theorem A0cm : FnScope ["_law_way", "_law_sign", "_law_last", "_law_part"] ["_law_way", "_law_sign", "_law_last", "_law_part"] (A1 B4e) := scK
theorem Y3c {f : Addr} {fd : FuncData} (D : Def K mg "_law_goes_up" ["_law_way", "_law_sign", "_law_last", "_law_part"] B4e f fd) : FnOk P w K mg base (CX1 P w) 1 f fd ["_law_way", "_law_sign", "_law_last", "_law_part"] V0n := by
 refine FnOk.up (D.F.ok A0cm (fun vs H Q E h => ?_) (fun cdv A outer s H vs Q E hr h => ?_))
 . obtain ⟨y, z, l, pt, rfl, _⟩ := h
   rfl
 . obtain ⟨y, z, l, pt, rfl, s0, s1, l0, l9, p1, p3, k⟩ := h
   refine ⟨_, (A3 (D6 (PW.pt (G9h (C5 D9 (pv 0) C8 (B9 _)) (C5p (C5 D9 (pv 0) C8 (B9 _))))) (A5 (A9 (G6 D9 (pv 0) C8 (B9 _)))) C7)
     (A3 (D6 (PW.pt (G9h (C5 D9 (pv 0) C8 (B9 _)) (C5p (C5 D9 (pv 0) C8 (B9 _))))) (A5 (A9 (G6 D9 (G6 D9 (pv 1) A2 (B9 _)) (G6 D9 (pv 0) C8 (B9 _)) (B9 _)))) C7)
     (A3 (D6 (C5 D9 (pv 0) C8 (B9 _)) (A5 (A9 (G6 A2n (pv 2) (V0 (A0 A2 (A0 A2 A4))) (by rfl)))) C7)
     (A3 (D6 (C5 C4f (pv 3) A2 (B9 _)) (A5 (A9 (G6 D9 (pv 3) A2 (B9 _)))) C7)
     (A5 (A9 (G9z (G6 D9 (pv 0) C8 (B9 _)) (A2v (B4d (G6 D9 (pv 0) C8 (B9 _)) (A2v (G6 D9 (B5 J0 (pv 2) A2) A2 (B9 _)))))))))))), ?_⟩
   have z2 : 2 <= sizeLine := D3 (by decide)
   have k1 := k H (Same.refl _)
   have kB : ∀ b : Bool, Q (.bl b) H -> ∀ b' : Bool, b' = b -> Q (.bl b') H := fun b h b' e => by rw [e]; exact h
   cases y with
   | down => exact ⟨_, rfl, rfl, _, rfl, A1x rfl (Y1 ⟨_, rfl, rfl, kB false k1 _ (decide_eq_false (nW (y := .down) (z := .up) (by decide)))⟩)⟩
   | up => exact ⟨_, rfl, rfl, _, rfl, J9 (nW (y := .up) (z := .down) (by decide)) ⟨_, rfl, rfl, _, rfl, A1x rfl ⟨_, rfl, rfl, kB true k1 _ (decide_eq_true rfl)⟩⟩⟩
   | floor =>
     refine ⟨_, rfl, rfl, _, rfl, J9 (nW (y := .floor) (z := .down) (by decide)) ⟨_, rfl, rfl, _, rfl, J9 (nW (y := .floor) (z := .up) (by decide)) ⟨_, rfl, rfl, _, rfl, A1x rfl (Y1 ⟨_, rfl, rfl, _, rfl, rfl, rfl, ?_⟩)⟩⟩⟩
     rcases (by omega : z = 0 \/ z = 1) with rfl | rfl <;> exact k1
   | ceiling =>
     refine ⟨_, rfl, rfl, _, rfl, J9 (nW (y := .ceiling) (z := .down) (by decide)) ⟨_, rfl, rfl, _, rfl, J9 (nW (y := .ceiling) (z := .up) (by decide)) ⟨_, rfl, rfl, _, rfl, J9 (nW (y := .ceiling) (z := .floor) (by decide)) ⟨_, rfl, rfl, _, rfl, A1x rfl ⟨_, rfl, rfl, _, rfl, rfl, rfl, ?_⟩⟩⟩⟩⟩
     rcases (by omega : z = 0 \/ z = 1) with rfl | rfl <;> exact k1
   | fiveUp =>
     refine ⟨_, rfl, rfl, _, rfl, J9 (nW (y := .fiveUp) (z := .down) (by decide)) ⟨_, rfl, rfl, _, rfl, J9 (nW (y := .fiveUp) (z := .up) (by decide)) ⟨_, rfl, rfl, _, rfl, J9 (nW (y := .fiveUp) (z := .floor) (by decide)) ⟨_, rfl, rfl, _, rfl, J9 (nW (y := .fiveUp) (z := .ceiling) (by decide)) ⟨_, rfl, rfl, _, rfl, A1x rfl ⟨_, rfl, z2, fun p np => ⟨p, _, rfl, .inr (SqT.of A6), rfl, rfl, ?_⟩⟩⟩⟩⟩⟩⟩
     exact k _ (Same.upd np)
   | halfUp =>
     refine ⟨_, rfl, rfl, _, rfl, J9 (nW (y := .halfUp) (z := .down) (by decide)) ⟨_, rfl, rfl, _, rfl, J9 (nW (y := .halfUp) (z := .up) (by decide)) ⟨_, rfl, rfl, _, rfl, J9 (nW (y := .halfUp) (z := .floor) (by decide)) ⟨_, rfl, rfl, _, rfl, J9 (nW (y := .halfUp) (z := .ceiling) (by decide)) ⟨_, rfl, rfl, _, rfl, J9 (nW (y := .halfUp) (z := .fiveUp) (by decide)) ⟨_, rfl, rfl, _, rfl, ?_⟩⟩⟩⟩⟩⟩
     rcases (by omega : pt = 1 \/ pt = 2 \/ pt = 3) with rfl | rfl | rfl
     . exact D5t (by decide) ⟨_, rfl, rfl, k1⟩
     . exact B7e rfl ⟨_, rfl, rfl, _, rfl, A1x rfl k1⟩
     . exact D5t (by decide) ⟨_, rfl, rfl, k1⟩
   | halfDown =>
     refine ⟨_, rfl, rfl, _, rfl, J9 (nW (y := .halfDown) (z := .down) (by decide)) ⟨_, rfl, rfl, _, rfl, J9 (nW (y := .halfDown) (z := .up) (by decide)) ⟨_, rfl, rfl, _, rfl, J9 (nW (y := .halfDown) (z := .floor) (by decide)) ⟨_, rfl, rfl, _, rfl, J9 (nW (y := .halfDown) (z := .ceiling) (by decide)) ⟨_, rfl, rfl, _, rfl, J9 (nW (y := .halfDown) (z := .fiveUp) (by decide)) ⟨_, rfl, rfl, _, rfl, ?_⟩⟩⟩⟩⟩⟩
     rcases (by omega : pt = 1 \/ pt = 2 \/ pt = 3) with rfl | rfl | rfl
     . exact D5t (by decide) ⟨_, rfl, rfl, k1⟩
     . exact B7e rfl ⟨_, rfl, rfl, _, rfl, J9 (nW (y := .halfDown) (z := .halfUp) (by decide)) ⟨_, rfl, rfl, _, rfl, J9 (nW (y := .halfDown) (z := .halfEven) (by decide)) k1⟩⟩
     . exact D5t (by decide) ⟨_, rfl, rfl, k1⟩
   | halfEven =>
     refine ⟨_, rfl, rfl, _, rfl, J9 (nW (y := .halfEven) (z := .down) (by decide)) ⟨_, rfl, rfl, _, rfl, J9 (nW (y := .halfEven) (z := .up) (by decide)) ⟨_, rfl, rfl, _, rfl, J9 (nW (y := .halfEven) (z := .floor) (by decide)) ⟨_, rfl, rfl, _, rfl, J9 (nW (y := .halfEven) (z := .ceiling) (by decide)) ⟨_, rfl, rfl, _, rfl, J9 (nW (y := .halfEven) (z := .fiveUp) (by decide)) ⟨_, rfl, rfl, _, rfl, ?_⟩⟩⟩⟩⟩⟩
     rcases (by omega : pt = 1 \/ pt = 2 \/ pt = 3) with rfl | rfl | rfl
     . exact D5t (by decide) ⟨_, rfl, rfl, k1⟩
     . exact B7e rfl ⟨_, rfl, rfl, _, rfl, J9 (nW (y := .halfEven) (z := .halfUp) (by decide)) ⟨_, rfl, rfl, _, rfl, A1x rfl ⟨_, rfl, _, _, rfl, rfl, (by decide : (0 : Int) < 2), rfl, k1⟩⟩⟩
     . exact D5t (by decide) ⟨_, rfl, rfl, k1⟩
end
abbrev A0h : Stmt := (top 96)
theorem Y4g (x : Str) (b : Bool) : (List.replicate (if b = true then (1 : Int) else 0).toNat [V.str x]).flatten = (V3e x b).map V.str := by cases b <;> rfl
theorem A0jh {pt l L : Int} {c : Bool} (h : L < l) : V3e "sunk" (!decide (pt = 0)) ++ (["faint"] : List Str) ++ U5 pt c = V9 (U5 pt c ++ Z1 l L pt) := by
 unfold U5 Z1
 rw [if_neg (by omega : ¬ L >= l)]
 by_cases z : pt = 0
 . rw [if_pos z, if_pos z, decide_eq_true z]
   cases c <;> decide +kernel
 . rw [if_neg z, if_neg z, decide_eq_false z]
   decide +kernel
theorem A0as {pt l L : Int} {c : Bool} (h : ¬ L < l) : U5 pt c = V9 (U5 pt c ++ Z1 l L pt) := by
 unfold U5 Z1
 rw [if_pos (by omega : L >= l)]
 by_cases z : pt = 0
 . rw [if_pos z]
   cases c <;> decide +kernel
 . rw [if_neg z]
   decide +kernel
theorem A0kd {pt : Int} {c : Bool} : inV (.str "off") ((U5 pt c).map V.str) = !decide (pt = 0) := by
 unfold U5
 by_cases z : pt = 0
 . rw [if_pos z, decide_eq_true z]
   cases c <;> decide +kernel
 . rw [if_neg z, decide_eq_false z]
   decide +kernel
theorem V3a {pt : Int} {c : Bool} : (U5 pt c).length <= 2 := by
 unfold U5
 split
 . cases c <;> decide
 . decide
theorem A0ae {a b : Int} : 0 <= Y0 a b /\ Y0 a b <= 3 := by
 unfold Y0
 generalize decide (0 < a) = x
 generalize decide (b <= 2 * a) = y
 generalize decide (b < 2 * a) = z
 cases x <;> cases y <;> cases z <;> decide
section
variable {P : Program} {w : World} {K : Frag} {mg : Str -> Option Value} {base : Heap}
def J0h : Sp := fun vs H Q _ => ∃ r y l m s, vs = [.int r, .str (Wy.name y), .int m, .int s] /\ 1 <= r /\ r <= 24 /\ 0 <= s /\ s <= 1 /\ ∀ q H', Same H H' -> H' q = some (.tup (C5y ⟨r, y, l, m⟩ s).vs) -> Q (.ref q) H'
theorem scLBurst : FnScope ["_law_room", "_law_way", "_law_most", "_law_sign", "_law_low"] ["_law_room", "_law_way", "_law_most", "_law_sign"] (A1 A6b) := scK
theorem V4k {f f1 : Addr} {fd fd1 : FuncData} (D : Def K mg "_law_burst" ["_law_room", "_law_way", "_law_most", "_law_sign"] A6b f fd) (D_l_ten : Def K mg "_law_ten" ["_law_power"] A8x f1 fd1) (G_l_ten : FnOk P w K mg base (CX1 P w) 1 f1 fd1 ["_law_power"] B8p) : FnOk P w K mg base (CX1 P w) 2 f fd ["_law_room", "_law_way", "_law_most", "_law_sign"] J0h := by
 refine D.F.okE scLBurst (fun vs H Q E h => ?_) (fun X cdv A outer s H vs Q E hX hr hx h => ?_)
 . obtain ⟨r, y, l, m, sg, rfl, _⟩ := h
   rfl
 . subst hX
   obtain ⟨r, y, l, m, sg, rfl, r1, r2, s0, s1, k⟩ := h
   refine ⟨_, (A3 (B8 (C9 (i := 4) scLBurst.nd rfl (Or.inl rfl) (G9z (G6 A2n (pv 1) (V0 (A0 C8 (A0 C8 A4))) (by rfl)) (G9z (B4d (G6 D9 (pv 1) C8 (B9 _)) (A2v (G6 D9 (pv 3) A2 (B9 _)))) (A2v (B4d (G6 D9 (pv 1) C8 (B9 _)) (A2v (G6 D9 (pv 3) A2 (B9 _)))))))))
     (A3 (B8 (D6 (U4 (pv 4)) (A5 (A9 (V0 (A0 C8 (A0 (pv 3) (A0 (B5 J1 (C6 D_l_ten G_l_ten hr hx (A0 (pv 0) A4)) A2) (A0 (B5 G9 (B5 J1 (pv 2) (pv 0)) A2) A4))))))) C7))
     (A5 (A9 (V0 (A0 C8 (A0 (pv 3) (A0 A2 (A0 A2 A4))))))))), ?_⟩
   have z2 : 2 <= sizeLine := D3 (by decide)
   have z4 : 4 <= sizeLine := D3 (by decide)
   refine ⟨fun σ' H' => Same H H' /\ σ' = [some (.int r), some (.str y.name), some (.int m), some (.int sg), some (.bl (!y.toEnd sg))], ?_, ?_⟩
   . refine ⟨_, rfl, z2, fun p np => ⟨p, _, rfl, .inr (SqT.of A6), rfl, rfl, _, rfl, ?_⟩⟩
     have u := Same.upd (o := .tup [.str "down", .str "five up"]) np
     generalize upd H p (.tup [.str "down", .str "five up"]) = H1 at u
     show if (inV (.str y.name) [.str "down", .str "five up"]) = true then _ else _
     have fin : ∀ b : Bool, b = (!y.toEnd sg) -> Same H H1 /\ [some (.int r), some (.str y.name), some (.int m), some (.int sg), some (.bl b)] = [some (V.int r), some (.str y.name), some (.int m), some (.int sg), some (.bl (!y.toEnd sg))] := fun b e => ⟨u, by rw [e]⟩
     cases y with
     | down => exact Y1 (fin true rfl)
     | fiveUp => exact Y1 (fin true rfl)
     | up => exact U0 ⟨_, rfl, rfl, _, rfl, J9 (nW (y := .up) (z := .floor) (by decide)) ⟨_, rfl, U0 ⟨_, rfl, rfl, _, rfl, J9 (nW (y := .up) (z := .ceiling) (by decide)) (fin false rfl)⟩⟩⟩
     | halfUp => exact U0 ⟨_, rfl, rfl, _, rfl, J9 (nW (y := .halfUp) (z := .floor) (by decide)) ⟨_, rfl, U0 ⟨_, rfl, rfl, _, rfl, J9 (nW (y := .halfUp) (z := .ceiling) (by decide)) (fin false rfl)⟩⟩⟩
     | halfDown => exact U0 ⟨_, rfl, rfl, _, rfl, J9 (nW (y := .halfDown) (z := .floor) (by decide)) ⟨_, rfl, U0 ⟨_, rfl, rfl, _, rfl, J9 (nW (y := .halfDown) (z := .ceiling) (by decide)) (fin false rfl)⟩⟩⟩
     | halfEven => exact U0 ⟨_, rfl, rfl, _, rfl, J9 (nW (y := .halfEven) (z := .floor) (by decide)) ⟨_, rfl, U0 ⟨_, rfl, rfl, _, rfl, J9 (nW (y := .halfEven) (z := .ceiling) (by decide)) (fin false rfl)⟩⟩⟩
     | floor =>
       rcases (by omega : sg = 0 \/ sg = 1) with rfl | rfl
       . exact U0 ⟨_, rfl, rfl, _, rfl, A1x rfl ⟨_, rfl, rfl, _, rfl, A1x rfl (fin true (by decide +kernel))⟩⟩
       . exact U0 ⟨_, rfl, rfl, _, rfl, A1x rfl ⟨_, rfl, rfl, _, rfl, J9 (by decide) ⟨_, rfl, rfl, _, rfl, J9 (nW (y := .floor) (z := .ceiling) (by decide)) (fin false (by decide +kernel))⟩⟩⟩
     | ceiling =>
       rcases (by omega : sg = 0 \/ sg = 1) with rfl | rfl
       . exact U0 ⟨_, rfl, rfl, _, rfl, J9 (nW (y := .ceiling) (z := .floor) (by decide)) ⟨_, rfl, U0 ⟨_, rfl, rfl, _, rfl, A1x rfl ⟨_, rfl, rfl, fin _ (by decide +kernel)⟩⟩⟩⟩
       . exact U0 ⟨_, rfl, rfl, _, rfl, J9 (nW (y := .ceiling) (z := .floor) (by decide)) ⟨_, rfl, U0 ⟨_, rfl, rfl, _, rfl, A1x rfl ⟨_, rfl, rfl, fin _ (by decide +kernel)⟩⟩⟩⟩
   rintro σ' H1 ⟨u, rfl⟩
   unfold C5y at k
   refine ⟨fun σ' H' => H' = H1 /\ y.toEnd sg = true /\ σ' = [some (.int r), some (.str y.name), some (.int m), some (.int sg), some (.bl (!y.toEnd sg))], ?_, ?_⟩
   . refine ⟨_, rfl, _, rfl, ?_⟩
     cases e : y.toEnd sg with
     | true => exact U0 ⟨rfl, rfl, rfl⟩
     | false =>
       rw [e, if_neg Bool.false_ne_true] at k
       exact Y1 ⟨_, rfl, _, rfl, r, rfl, by omega, by omega, _, _, rfl, rfl, _, rfl, _, rfl, _, _, rfl, rfl, _, _, rfl, rfl, z4, fun q nq => k q _ (u.trans (Same.upd nq)) A6⟩
   rintro σ' H2 ⟨rfl, e, rfl⟩
   rw [e, if_pos rfl] at k
   exact ⟨_, rfl, z4, fun q nq => k q _ (u.trans (Same.upd nq)) A6⟩
def B8s : Sp := fun vs H Q _ => ∃ fq r y l m s i, vs = [.ref fq, .int s, .int i] /\ H fq = some (.tup (frV r y l m)) /\ ∀ q H', Same H H' -> D5d H' q (B2s ⟨r, y, l, m⟩ s i) [] -> Q (.ref q) H'
theorem V3k : FnScope ["_law_frame_here", "_law_sign", "_law_ideal"] ["_law_frame_here", "_law_sign", "_law_ideal"] (A1 A1b) := scK
theorem Y4c (i lo m : Int) : (if (if i > lo then i else lo) < m then (if i > lo then i else lo) else m) = minI (C4x i lo) m := by
 unfold minI C4x
 repeat' split
 all_goals omega
theorem J6a {f : Addr} {fd : FuncData} (D : Def K mg "_law_nought" ["_law_frame_here", "_law_sign", "_law_ideal"] A1b f fd) (O : Own mg) : FnOk P w K mg base (CX1 P w) 1 f fd ["_law_frame_here", "_law_sign", "_law_ideal"] B8s := by
 refine D.F.okE V3k (fun vs H Q E h => ?_) (fun X cdv A outer s H vs Q E hX hr hx h => ?_)
 . obtain ⟨fq, r, y, l, m, sg, i, rfl, _⟩ := h
   rfl
 . subst hX
   obtain ⟨fq, r, y, l, m, sg, i, rfl, ef, k⟩ := h
   refine ⟨_, (A5 (A9 (V0 (A0 (V0 (A0 C8 (A0 (pv 1) (A0 A2 (A0 (J7 (A0n rfl) (by rfl) O.min_ boot_min (A0 (D7 D8 (pv 0) A2 (fun _ _ => rfl)) (A0 (J7 (Y6 rfl) (by rfl) O.max_ boot_max (A0 (B5 G9 (B5 J1 (D7 D8 (pv 0) A2 (fun _ _ => rfl)) (D7 D8 (pv 0) A2 (fun _ _ => rfl))) A2) (A0 (pv 2) A4))) A4))) A4))))) (A0 (J2 A4) A4))))), ?_⟩
   have z0 : 0 <= sizeLine := Nat.zero_le _
   have z2 : 2 <= sizeLine := D3 (by decide)
   have z4 : 4 <= sizeLine := D3 (by decide)
   refine ⟨_, rfl, _, rfl, fq, _, _, _, rfl, rfl, SqT.of ef, B7 (j := 3) rfl, _, rfl, fq, _, _, _, rfl, rfl, SqT.of ef, B7 (j := 2) rfl, _, rfl, fq, _, _, _, rfl, rfl, SqT.of ef, B7 (j := 0) rfl, _, _, rfl, rfl, _, _, rfl, rfl, _, rfl, _, _, rfl, _, _, rfl, ?_⟩
   rw [Y4c]
   refine ⟨z4, fun a na => ⟨z0, fun b nb => ⟨z2, fun q nq => ?_⟩⟩⟩
   have u1 := Same.upd (o := .tup (B2s ⟨r, y, l, m⟩ sg i).vs) na
   have u2 := Same.upd (o := .lst []) nb
   have u3 := Same.upd (o := .tup [.ref a, .ref b]) nq
   exact k q _ (u1.trans (u2.trans u3)) ⟨a, b, A6, (u2.trans u3) _ _ A6, u3 _ _ A6⟩
def C6x : Sp := fun vs H Q _ => ∃ fq r y l m s vq t b n L i, vs = [.ref fq, .int s, .ref vq, .int i] /\ H fq = some (.tup (frV r y l m)) /\ FrameOk r l m /\ 0 <= s /\ s <= 1 /\ V0s H vq t b n /\ Sz t /\ Sz b /\ Y9 t b (n - L) /\ -1500 <= n - Cv.fin ⟨r, y, l, m⟩ L /\ n - Cv.fin ⟨r, y, l, m⟩ L <= 1500 /\
 ∀ q H', Same H H' -> D5d H' q (A3j ⟨r, y, l, m⟩ s t b n L i).1 (V9 (A3j ⟨r, y, l, m⟩ s t b n L i).2) -> Q (.ref q) H'
theorem scLSettled : FnScope ["_law_frame_here", "_law_sign", "_law_value", "_law_ideal", "_law_room", "_law_way", "_law_least", "_law_most", "_law_first", "_law_power", "_law_figures_here", "_law_part", "_law_names"] ["_law_frame_here", "_law_sign", "_law_value", "_law_ideal"] (A1 A0h) := scK
theorem G9w {f f1 f2 f3 f4 f5 f6 : Addr} {fd fd1 fd2 fd3 fd4 fd5 fd6 : FuncData} (D : Def K mg "_law_settled" ["_law_frame_here", "_law_sign", "_law_value", "_law_ideal"] A0h f fd) (D_l_lead : Def K mg "_law_lead" ["_law_value"] B4t f1 fd1) (G_l_lead : FnOk P w K mg base (CX1 P w) 3 f1 fd1 ["_law_value"] V0q)
   (D_l_at : Def K mg "_law_at" ["_law_value", "_law_power"] G9s f2 fd2) (G_l_at : FnOk P w K mg base (CX1 P w) 2 f2 fd2 ["_law_value", "_law_power"] Y0d) (D_l_goes_up : Def K mg "_law_goes_up" ["_law_way", "_law_sign", "_law_last", "_law_part"] B4e f3 fd3) (G_l_goes_up : FnOk P w K mg base (CX1 P w) 1 f3 fd3 ["_law_way", "_law_sign", "_law_last", "_law_part"] V0n) (D_l_ten : Def K mg "_law_ten" ["_law_power"] A8x f4 fd4) (G_l_ten : FnOk P w K mg base (CX1 P w) 1 f4 fd4 ["_law_power"] B8p)
   (D_l_count : Def K mg "_law_count" ["_law_figures_here"] A3p f5 fd5) (G_l_count : FnOk P w K mg base (CX1 P w) 1 f5 fd5 ["_law_figures_here"] C6s) (D_l_burst : Def K mg "_law_burst" ["_law_room", "_law_way", "_law_most", "_law_sign"] A6b f6 fd6) (G_l_burst : FnOk P w K mg base (CX1 P w) 2 f6 fd6 ["_law_room", "_law_way", "_law_most", "_law_sign"] J0h) (O : Own mg) : FnOk P w K mg base (CX1 P w) 4 f fd ["_law_frame_here", "_law_sign", "_law_value", "_law_ideal"] C6x := by
 refine D.F.okE scLSettled (fun vs H Q E h => ?_) (fun X cdv A outer s H vs Q E hX hr hx h => ?_)
 . obtain ⟨fq, r, y, l, m, sg, vq, t, b, n, L, i, rfl, _⟩ := h
   rfl
 . subst hX
   obtain ⟨fq, r, y, l, m, sg, vq, t, b, n, L, i, rfl, ef, fr, s0, s1, ev, ht, hb, ld, f0, f1, k⟩ := h
   refine ⟨_, (A3 (B8 (A4d (pv 0) (B8j rfl (J5 (G7 (i := 4) scLSettled.nd rfl (Or.inl rfl)) (J5 (G7 (i := 5) scLSettled.nd rfl (Or.inl rfl)) (J5 (G7 (i := 6) scLSettled.nd rfl (Or.inl rfl)) (J5 (G7 (i := 7) scLSettled.nd rfl (Or.inl rfl)) A3k)))))))
     (A3 (B8 (C9 (i := 8) scLSettled.nd rfl (Or.inl rfl) (C6 D_l_lead G_l_lead hr hx (A0 (pv 2) A4))))
     (A3 (B8 (C9 (i := 9) scLSettled.nd rfl (Or.inl rfl) (B5 G9 (B5 J1 (J7 (Y6 rfl) (by rfl) O.max_ boot_max (A0 (pv 8) (A0 (pv 6) A4))) (pv 4)) A2)))
     (A3 (B8 (A4d (C6 D_l_at G_l_at hr hx (A0 (pv 2) (A0 (pv 9) A4))) (B8j rfl (J5 (G7 (i := 10) scLSettled.nd rfl (Or.inl rfl)) (J5 (G7 (i := 11) scLSettled.nd rfl (Or.inl rfl)) A3k)))))
     (A3 (B8 (C9 (i := 12) scLSettled.nd rfl (Or.inl rfl) (J2 A4)))
     (A3 (B8 (D6 (C5 D9 (pv 11) A2 (B9 _)) (A3 (B8 (A4v PassesOwn.leaving (PW.pt (D8r (C5 D9 (B5 J0 (pv 10) A2) A2 (B9 _)) (C5e (C5 B3j (pv 9) (pv 3) (B9 _))))) (A3 (B8 (C9 (i := 10) scLSettled.nd rfl (Or.inl rfl) (B5 G3 (pv 10) A2)))
     (A5 (B8 (C9 (i := 9) scLSettled.nd rfl (Or.inl rfl) (B5 G9 (pv 9) A2)))))))
     (A5 (B8 (C9 (i := 12) scLSettled.nd rfl (Or.inl rfl) (B5 Y3s (J2 (A0 C8 A4)) (V6 Y8 (by rfl) O.int_ boot_int (A0 (G6 A9g (pv 9) (pv 3) (B9 _)) A4))))))) (A3 (B8 (C9 (i := 10) scLSettled.nd rfl (Or.inl rfl) (B5 G9 (pv 10) (V6 Y8 (by rfl) O.int_ boot_int (A0 (C6 D_l_goes_up G_l_goes_up hr hx (A0 (pv 5) (A0 (pv 1) (A0 (B5 J0 (pv 10) A2) (A0 (pv 11) A4))))) A4)))))
     (A3 (B8 (D6 (C5 D9 (pv 10) (C6 D_l_ten G_l_ten hr hx (A0 (pv 4) A4)) (B9 _)) (A3 (B8 (C9 (i := 10) scLSettled.nd rfl (Or.inl rfl) (B5 G3 (pv 10) A2)))
     (A5 (B8 (C9 (i := 9) scLSettled.nd rfl (Or.inl rfl) (B5 G9 (pv 9) A2))))) C7))
     (A5 (B8 (C9 (i := 12) scLSettled.nd rfl (Or.inl rfl) (J2 (A0 C8 (A0 C8 A4))))))))))
     (A3 (B8 (D6 (C5 B3j (pv 8) (pv 6) (B9 _)) (A5 (B8 (C9 (i := 12) scLSettled.nd rfl (Or.inl rfl) (B5 D8v (B5 D8v (B5 Y3s (J2 (A0 C8 A4)) (V6 Y8 (by rfl) O.int_ boot_int (A0 (G6 A2n C8 (pv 12) (by rfl)) A4))) (J2 (A0 C8 A4))) (pv 12))))) C7))
     (A3 (B8 (D6 (PW.pt (D8r (C5 A9g (pv 10) A2 (B9 _)) (C5e (C5 A9g (B5 J1 (B5 G9 (pv 9) (C6 D_l_count G_l_count hr hx (A0 (pv 10) A4))) A2) (pv 7) (B9 _))))) (A5 (A9 (V0 (A0 (C6 D_l_burst G_l_burst hr hx (A0 (pv 4) (A0 (pv 5) (A0 (pv 7) (A0 (pv 1) A4))))) (A0 (J2 (A0 C8 (A0 C8 (A0 C8 A4)))) A4))))) C7))
     (A5 (A9 (V0 (A0 (V0 (A0 C8 (A0 (pv 1) (A0 (pv 10) (A0 (pv 9) A4))))) (A0 (pv 12) A4))))))))))))), ?_⟩
   have z0 : 0 <= sizeLine := Nat.zero_le _
   have z1 : 1 <= sizeLine := D3 (by decide)
   have z2 : 2 <= sizeLine := D3 (by decide)
   have z3 : 3 <= sizeLine := D3 (by decide)
   have z4 : 4 <= sizeLine := D3 (by decide)
   have d10 : (0 : Int) < 10 /\ (10 : Int).natAbs.log2 < 9000 := ⟨by decide, by decide +kernel⟩
   have kb : ∀ b : Bool, -(2 ^ 63 : Int) <= (if b = true then (1 : Int) else 0) /\ (if b = true then (1 : Int) else 0) < 2 ^ 63 /\ 1 * (if b = true then (1 : Int) else 0).toNat <= sizeLine := fun b => by
     cases b
     . exact ⟨by decide, by decide, Nat.zero_le _⟩
     . exact ⟨by decide, by decide, z1⟩
   have ok : (Cv.mk r y l m).Ok := ⟨fr.r1, fr.r2, fr.l1, fr.l2, fr.m1, fr.m2⟩
   have r1 := fr.r1; have r2 := fr.r2
   refine ⟨fun σ' H' => H' = H /\ σ' = [some (.ref fq), some (.int sg), some (.ref vq), some (.int i), some (.int r), some (.str y.name), some (.int l), some (.int m), none, none, none, none, none], ⟨_, rfl, fq, _, rfl, SqT.of ef, rfl, _, _, rfl, _, _, rfl, _, _, rfl, _, _, rfl, rfl, rfl, rfl⟩, ?_⟩
   rintro σ' H1 ⟨rfl, rfl⟩
   refine ⟨fun σ' H' => Same H1 H' /\ σ' = [some (.ref fq), some (.int sg), some (.ref vq), some (.int i), some (.int r), some (.str y.name), some (.int l), some (.int m), some (.int L), none, none, none, none], ⟨_, rfl, vq, t, b, n, L, rfl, ev, ht, hb, ld, fun H' s' => ⟨s', rfl⟩⟩, ?_⟩
   rintro σ' H2 ⟨t2, rfl⟩
   have wr := D8p (s1 := n - L) (s2 := n - Cv.fin ⟨r, y, l, m⟩ L) (r := r) ht hb ld r1 (by
     unfold Cv.fin C4x
     dsimp only
     split <;> omega)
   have fe := A0hy r y l m L
   unfold A3j at k
   generalize Cv.fin ⟨r, y, l, m⟩ L = q at *
   refine ⟨fun σ' H' => H' = H2 /\ σ' = [some (.ref fq), some (.int sg), some (.ref vq), some (.int i), some (.int r), some (.str y.name), some (.int l), some (.int m), some (.int L), some (.int q), none, none, none], ?_, ?_⟩
   . refine ⟨_, rfl, _, rfl, _, _, rfl, _, rfl, _, _, rfl, rfl, _, _, rfl, rfl, rfl, ?_⟩
     rw [<- fe]
     rfl
   rintro σ' H3 ⟨rfl, rfl⟩
   refine ⟨fun σ' H' => Same H1 H' /\ σ' = [some (.ref fq), some (.int sg), some (.ref vq), some (.int i), some (.int r), some (.str y.name), some (.int l), some (.int m), some (.int L), some (.int q), some (.int (whI t b (n - q))), some (.int (ptI t b (n - q))), none], ?_, ?_⟩
   . exact ⟨_, rfl, _, rfl, vq, t, b, n, q, rfl, t2 _ _ ev, ht, hb, f0, f1, fun rr H' s' er => ⟨rr, _, rfl, SqT.of er, rfl, _, _, rfl, _, _, rfl, rfl, t2.trans s', rfl⟩⟩
   rintro σ' H4 ⟨t4, rfl⟩
   have pb : 0 <= ptI t b (n - q) /\ ptI t b (n - q) <= 3 := A0ae
   generalize ptI t b (n - q) = pt at *
   generalize whI t b (n - q) = wh at *
   refine ⟨fun σ' H' => ∃ a, Same H1 H' /\ H' a = some (.lst []) /\ σ' = [some (.ref fq), some (.int sg), some (.ref vq), some (.int i), some (.int r), some (.str y.name), some (.int l), some (.int m), some (.int L), some (.int q), some (.int wh), some (.int pt), some (.ref a)], ⟨z0, fun a na => ⟨a, t4.trans (Same.upd na), A6, rfl⟩⟩, ?_⟩
   rintro σ' H5 ⟨a, t5, ea, rfl⟩
   have nn : 0 <= (U7 ⟨r, y, l, m⟩ sg wh pt q i).1 := by
     unfold U7
     split
     . exact (C6r i (i - q).toNat wh q wr.1).1
     . have hu : 0 <= upI y sg wh pt := by
         unfold upI
         generalize (if pt = 0 then false else y.goes sg (wh % 10) pt) = g
         cases g with
         | true => show 0 <= wh + 1; omega
         | false => exact wr.1
       generalize upI y sg wh pt = u at hu
       unfold B3k
       split
       . show 0 <= u / 10; omega
       . exact hu
   refine ⟨fun σ' H' => ∃ a, Same H1 H' /\ H' a = some (.lst ((U5 pt (decide ((U7 ⟨r, y, l, m⟩ sg wh pt q i).2 > i))).map V.str)) /\ σ' = [some (.ref fq), some (.int sg), some (.ref vq), some (.int i), some (.int r), some (.str y.name), some (.int l), some (.int m), some (.int L), some (.int (U7 ⟨r, y, l, m⟩ sg wh pt q i).2), some (.int (U7 ⟨r, y, l, m⟩ sg wh pt q i).1), some (.int pt), some (.ref a)], ?_, ?_⟩
   . refine ⟨_, rfl, rfl, _, rfl, J3 (fun h => ?_) (fun h => ?_)⟩
     . have h : pt = 0 := V.int.inj h
       subst h
       have en : U7 ⟨r, y, l, m⟩ sg wh 0 q i = U6 i wh q := by unfold U7; rw [if_pos rfl]
       rw [en]
       refine ⟨fun σ' H' => H' = H5 /\ σ' = [some (.ref fq), some (.int sg), some (.ref vq), some (.int i), some (.int r), some (.str y.name), some (.int l), some (.int m), some (.int L), some (.int (U6 i wh q).2), some (.int (U6 i wh q).1), some (.int 0), some (.ref a)], ?_, ?_⟩
       . refine A4z (fun σ H6 => H6 = H5 /\ ∃ f p : Int, U6 i f p = U6 i wh q /\ σ = [some (.ref fq), some (.int sg), some (.ref vq), some (.int i), some (.int r), some (.str y.name), some (.int l), some (.int m), some (.int L), some (.int p), some (.int f), some (.int 0), some (.ref a)]) (fun σ _ => match σ with | _ :: _ :: _ :: _ :: _ :: _ :: _ :: _ :: _ :: some (.int p) :: _ => (i - p).toNat | _ => 0) ⟨rfl, wh, q, rfl, rfl⟩ ?_ ?_
         . rintro σ H6 ⟨rfl, f, p, e, rfl⟩
           have stop : ¬ (p < i /\ f % 10 = 0) -> (f, p) = U6 i wh q := fun h => by rw [<- e, A5z h]
           refine ⟨_, rfl, _, _, rfl, rfl, d10.1, rfl, _, rfl, J3 (fun h2 => ?_) (fun h2 => U0 ⟨rfl, by rw [<- stop fun q => h2 (congrArg V.int q.2)]⟩)⟩
           refine ⟨_, rfl, _, rfl, _, _, rfl, rfl, _, rfl, J3 (fun h1 => ?_) (fun h1 => ⟨rfl, by rw [<- stop fun q => h1 q.1]⟩)⟩
           have h1 : p < i := h1
           have h2 : f % 10 = 0 := V.int.inj h2
           refine ⟨fun σ' H' => H' = H6 /\ σ' = [some (.ref fq), some (.int sg), some (.ref vq), some (.int i), some (.int r), some (.str y.name), some (.int l), some (.int m), some (.int L), some (.int p), some (.int (f / 10)), some (.int 0), some (.ref a)], ⟨_, rfl, _, _, rfl, rfl, d10, rfl, rfl⟩, ?_⟩
           rintro σ' H7 ⟨rfl, rfl⟩
           refine ⟨_, ?_, fun _ _ h => h⟩
           refine ⟨_, rfl, _, _, rfl, rfl, ⟨rfl, f / 10, p + 1, (A5s h1 h2).symm.trans e, rfl⟩, ?_⟩
           show (i - (p + 1)).toNat < (i - p).toNat
           omega
         . rintro σ H6 Q1 Q2 hQ ⟨v1, e1, a1, a2, e2, e3, e4, e5, c, ec, q⟩
           refine ⟨v1, e1, a1, a2, e2, e3, e4, e5, c, ec, ?_⟩
           cases c with
           | false => exact U0 (hQ _ _ (by simpa using q))
           | true =>
             rw [if_pos rfl] at q ⊢
             obtain ⟨v1, e, v2, e2, a, b, e3, e4, c, e5, q⟩ := q
             exact ⟨v1, e, v2, e2, a, b, e3, e4, c, e5, hQ _ _ q⟩
       rintro σ' H6 ⟨rfl, rfl⟩
       refine ⟨_, ?_, fun _ _ h => h⟩
       generalize (U6 i wh q).2 = p'
       refine ⟨z1, fun a1 n1 => ⟨_, rfl, _, rfl, _, _, rfl, rfl, .inr ⟨_, rfl, a1, _, _, rfl, rfl, A6, (kb (decide (p' > i))).1, (kb (decide (p' > i))).2.1, (kb (decide (p' > i))).2.2, fun a2 n2 => ?_⟩⟩⟩
       rw [Y4g]
       refine ⟨a2, t5.trans ((Same.upd n1).trans (Same.upd n2)), ?_, rfl⟩
       rw [A6]
       unfold U5 V3e
       rw [if_pos rfl]
     . have h : ¬ pt = 0 := fun z => h (congrArg V.int z)
       have en : U7 ⟨r, y, l, m⟩ sg wh pt q i = B3k r (upI y sg wh pt) q := by unfold U7; rw [if_neg h]
       have er : ∀ c, U5 pt c = (["off", "cut"] : List Str) := fun c => by unfold U5; rw [if_neg h]
       rw [en, er]
       have m0 := Int.emod_nonneg wh (by decide : (10 : Int) ≠ 0)
       have m1 := Int.emod_lt_of_pos wh (by decide : (0 : Int) < 10)
       refine ⟨fun σ' H' => Same H1 H' /\ σ' = [some (.ref fq), some (.int sg), some (.ref vq), some (.int i), some (.int r), some (.str y.name), some (.int l), some (.int m), some (.int L), some (.int q), some (.int (upI y sg wh pt)), some (.int pt), some (.ref a)], ?_, ?_⟩
       . refine ⟨_, rfl, _, rfl, _, rfl, _, rfl, _, _, rfl, rfl, d10.1, _, rfl, y, sg, wh % 10, pt, rfl, s0, s1, m0, by omega, by omega, pb.2, fun H6 s6 => .inr ⟨_, rfl, _, _, rfl, rfl, t5.trans s6, ?_⟩⟩
         have eu : upI y sg wh pt = wh + (if y.goes sg (wh % 10) pt = true then 1 else 0) := by
           unfold upI
           rw [if_neg h]
           cases y.goes sg (wh % 10) pt with
           | true => rfl
           | false => show wh = wh + 0; omega
         rw [eu]
         rfl
       rintro σ' H6 ⟨t6, rfl⟩
       generalize upI y sg wh pt = v
       refine ⟨fun σ' H' => H' = H6 /\ σ' = [some (.ref fq), some (.int sg), some (.ref vq), some (.int i), some (.int r), some (.str y.name), some (.int l), some (.int m), some (.int L), some (.int (B3k r v q).2), some (.int (B3k r v q).1), some (.int pt), some (.ref a)], ?_, ?_⟩
       . unfold B3k
         refine ⟨_, rfl, _, rfl, r, rfl, by omega, by omega, rfl, _, rfl, J3 (fun e => ?_) (fun e => ?_)⟩
         . have e : v = A7 r := V.int.inj e
           rw [if_pos e]
           refine ⟨fun σ' H' => H' = H6 /\ σ' = [some (.ref fq), some (.int sg), some (.ref vq), some (.int i), some (.int r), some (.str y.name), some (.int l), some (.int m), some (.int L), some (.int q), some (.int (v / 10)), some (.int pt), some (.ref a)], ⟨_, rfl, _, _, rfl, rfl, d10, rfl, rfl⟩, ?_⟩
           rintro σ' H7 ⟨rfl, rfl⟩
           refine ⟨_, ?_, fun _ _ h => h⟩
           exact ⟨_, rfl, _, _, rfl, rfl, rfl, rfl⟩
         . have e : ¬ v = A7 r := fun z => e (congrArg V.int z)
           rw [if_neg e]
           exact ⟨rfl, rfl⟩
       rintro σ' H7 ⟨rfl, rfl⟩
       refine ⟨_, ?_, fun _ _ h => h⟩
       exact ⟨z2, fun a1 n1 => ⟨a1, t6.trans (Same.upd n1), A6, rfl⟩⟩
   rintro σ' H6 ⟨a, t6, ea, rfl⟩
   unfold A6d at k
   generalize (U7 ⟨r, y, l, m⟩ sg wh pt q i).1 = f' at *
   generalize (U7 ⟨r, y, l, m⟩ sg wh pt q i).2 = p' at *
   generalize decide (p' > i) = cu at *
   have rl := V3a (pt := pt) (c := cu)
   refine ⟨fun σ' H' => ∃ a, Same H1 H' /\ H' a = some (.lst ((V9 (U5 pt cu ++ Z1 l L pt)).map V.str)) /\ σ' = [some (.ref fq), some (.int sg), some (.ref vq), some (.int i), some (.int r), some (.str y.name), some (.int l), some (.int m), some (.int L), some (.int p'), some (.int f'), some (.int pt), some (.ref a)], ?_, ?_⟩
   . refine ⟨_, rfl, _, rfl, _, _, rfl, rfl, _, rfl, J3 (fun h => ?_) (fun h => ⟨a, t6, by rw [<- A0as h]; exact ea, rfl⟩)⟩
     refine ⟨_, ?_, fun _ _ h => h⟩
     refine ⟨z1, fun a1 n1 => ⟨_, rfl, a, _, rfl, .inl (SqL.of ((Same.upd n1) _ _ ea)), rfl, A0k _, .inr ⟨_, rfl, ?_⟩⟩⟩
     have u1 := Same.upd (o := .lst [.str "sunk"]) n1
     have e1 : (upd H6 a1 (.lst [.str "sunk"])) a1 = some (.lst [.str "sunk"]) := A6
     generalize upd H6 a1 (.lst [.str "sunk"]) = H7 at u1 e1
     have ei : (if false = true then !inV (V.str "off") ((U5 pt cu).map V.str) else inV (V.str "off") ((U5 pt cu).map V.str)) = !decide (pt = 0) := by rw [if_neg Bool.false_ne_true, A0kd]
     rw [ei]
     refine ⟨a1, _, _, rfl, rfl, e1, (kb _).1, (kb _).2.1, (kb _).2.2, fun a2 n2 => ?_⟩
     rw [Y4g]
     refine ⟨z1, fun a3 n3 => ?_⟩
     have u2 := Same.upd (o := .lst ((V3e "sunk" !decide (pt = 0)).map V.str)) n2
     have u3 := Same.upd (o := .lst [.str "faint"]) n3
     have rl2 : (V3e "sunk" !decide (pt = 0)).length <= 1 := by cases decide (pt = 0) <;> decide
     refine ⟨a2, a3, _, _, rfl, rfl, u3 _ _ A6, A6, D3 (by rw [List.length_map]; show _ + 1 <= _; omega), fun a4 n4 => ?_⟩
     have u4 := Same.upd (o := .lst ((V3e "sunk" !decide (pt = 0)).map V.str ++ [.str "faint"])) n4
     refine ⟨_, rfl, a4, a, _, _, rfl, rfl, A6, (u1.trans (u2.trans (u3.trans u4))) _ _ ea, D3 (by rw [List.length_append, List.length_map, List.length_map]; show _ + 1 + _ <= _; omega), fun a5 n5 => ?_⟩
     refine ⟨a5, t6.trans (u1.trans (u2.trans (u3.trans (u4.trans (Same.upd n5))))), ?_, rfl⟩
     rw [A6, <- A0jh h, List.map_append, List.map_append]
     rfl
   clear ea
   rintro σ' H7 ⟨a, t7, ea, rfl⟩
   refine ⟨fun σ' H' => H' = H7 /\ A2a m f' p' = false /\ σ' = [some (.ref fq), some (.int sg), some (.ref vq), some (.int i), some (.int r), some (.str y.name), some (.int l), some (.int m), some (.int L), some (.int p'), some (.int f'), some (.int pt), some (.ref a)], ?_, ?_⟩
   . refine ⟨_, rfl, _, _, rfl, rfl, _, rfl, J3 (fun h => ?_) (fun h => U0 ⟨rfl, ?_, rfl⟩)⟩
     . have h : f' > 0 := h
       have eb : A2a m f' p' = decide (p' + V2 f' - 1 > m) := by unfold A2a; rw [if_neg (by omega)]
       rw [eb] at k
       refine ⟨_, rfl, _, rfl, f', rfl, nn, _, _, rfl, rfl, _, _, rfl, rfl, _, rfl, _, _, rfl, rfl, _, rfl, J3 (fun h2 => ?_) (fun h2 => ⟨rfl, by rw [eb]; exact decide_eq_false h2, rfl⟩)⟩
       rw [decide_eq_true (show p' + V2 f' - 1 > m from h2), if_pos rfl] at k
       refine ⟨_, rfl, _, rfl, _, rfl, _, rfl, r, y, l, m, sg, rfl, r1, r2, s0, s1, fun q' H' s' eq' => ⟨z3, fun a1 n1 => ⟨z2, fun a2 n2 => ?_⟩⟩⟩
       have u1 := Same.upd (o := .lst [.str "burst", .str "off", .str "cut"]) n1
       have u2 := Same.upd (o := .tup [.ref q', .ref a1]) n2
       exact k a2 _ (t7.trans (s'.trans (u1.trans u2))) ⟨q', a1, A6, (u1.trans u2) _ _ eq', u2 _ _ A6⟩
     . have h : ¬ f' > 0 := h
       unfold A2a
       rw [if_pos (by omega)]
   rintro σ' H8 ⟨rfl, e, rfl⟩
   rw [e, if_neg Bool.false_ne_true] at k
   refine ⟨_, rfl, _, rfl, _, rfl, z4, fun t1 n1 => ⟨_, rfl, z2, fun q' nq => ?_⟩⟩
   have u1 := Same.upd (o := .tup (Nm.vs ⟨.plain, sg, f', p'⟩)) n1
   have u2 := Same.upd (o := .tup [.ref t1, .ref a]) nq
   exact k q' _ (t7.trans (u1.trans u2)) ⟨t1, a, A6, u2 _ _ A6, (u1.trans u2) _ _ ea⟩
end
abbrev A0x : Stmt := (top 98)
abbrev A3n : Stmt := (top 99)
abbrev A2s : Stmt := (top 100)
abbrev B4r : Stmt := (top 101)
abbrev C6g : Stmt := (top 102)
abbrev A2y : Stmt := (top 103)
def B4y (v : Cv) (n p i s : Int) : Nm × List Str := if n = 0 then (B2s v s i, []) else A4q v (B4j n) (B6z n) p i
theorem V3u {x : Nm} {q : Int} (s0 : 0 <= x.s) (s1 : x.s <= 1) : x.f * A7 (x.p - q) * (1 - 2 * x.s) = x.wh q := by
 unfold Nm.wh
 rcases (by omega : x.s = 0 \/ x.s = 1) with h | h
 . rw [h, if_neg (by decide)]
   omega
 . rw [h, if_pos rfl]
   omega
theorem V4b (v : Cv) (x y : Nm) : C7a v x y = B4y v (B3f x y) (U3 x y) (U3 x y) (B3q v.y x.s y.s) := rfl
theorem V2b {v : Cv} {s f p i : Int} (f0 : 0 <= f) (s0 : 0 <= s) (s1 : s <= 1) : B4y v (f * (1 - 2 * s)) p i s = A4q v s f p i := by
 unfold B4y
 by_cases h : f = 0
 . rw [h, Int.zero_mul, if_pos rfl]
   unfold A4q
   rw [if_pos rfl]
 . rcases (by omega : s = 0 \/ s = 1) with rfl | rfl
   . have e : f * (1 - 2 * 0) = f := by omega
     rw [e, if_neg h]
     unfold B4j B6z
     rw [if_neg (by omega), if_neg (by omega)]
   . have e : f * (1 - 2 * 1) = -f := by omega
     rw [e, if_neg (by omega)]
     unfold B4j B6z
     rw [if_pos (by omega), if_pos (by omega), Int.neg_neg]
theorem A0kk {f s : Int} (h : Sz f) (s0 : 0 <= s) (s1 : s <= 1) : Sz (B6z (f * (1 - 2 * s))) := by
 rcases (by omega : s = 0 \/ s = 1) with rfl | rfl
 . have e : f * (1 - 2 * 0) = f := by omega
   rw [e]
   unfold B6z
   rw [if_neg (by have := h.1; omega)]
   exact h
 . have e : f * (1 - 2 * 1) = -f := by omega
   rw [e]
   unfold B6z
   rw [if_pos (by have := h.1; omega), Int.neg_neg]
   exact h
theorem A0cr {a b : Int} (a0 : 0 <= a) (a1 : a <= 1) (b0 : 0 <= b) (b1 : b <= 1) : (a + b) % 2 = D1x a b := by
 unfold D1x
 split <;> omega
theorem A0bu (y : Wy) : (if decide (V.str y.name = V.str "floor") = true then (1 : Int) else 0) = floI y := by cases y <;> decide +kernel
theorem neg_int (n : Int) : (if decide (n < 0) = true then (1 : Int) else 0) = B4j n := by
 unfold B4j
 by_cases h : n < 0
 . rw [decide_eq_true h, if_pos rfl, if_pos h]
 . rw [decide_eq_false h, if_neg Bool.false_ne_true, if_neg h]
theorem V0f : V9 [] = [] := by decide +kernel
structure PartAt (H : Hp) (q : Addr) (x : Nm) : Prop where
 e : H q = some (.tup x.pv)
 g : x.Bg
 s0 : 0 <= x.s
 s1 : x.s <= 1
theorem PartAt.same {H H' : Hp} {q : Addr} {x : Nm} (h : PartAt H q x) (s : Same H H') : PartAt H' q x := ⟨s _ _ h.e, h.g, h.s0, h.s1⟩
structure FrAt (H : Hp) (q : Addr) (v : Cv) : Prop where
 e : H q = some (.tup (frV v.r v.y v.l v.m))
 ok : FrameOk v.r v.l v.m
theorem FrAt.same {H H' : Hp} {q : Addr} {v : Cv} (h : FrAt H q v) (s : Same H H') : FrAt H' q v := ⟨s _ _ h.e, h.ok⟩
theorem FrAt.cv {H : Hp} {q : Addr} {v : Cv} (h : FrAt H q v) : v.Ok := ⟨h.ok.r1, h.ok.r2, h.ok.l1, h.ok.l2, h.ok.m1, h.ok.m2⟩
section
variable {P : Program} {w : World} {K : Frag} {mg : Str -> Option Value} {base : Heap}
def B8f : Sp := fun vs H Q _ => ∃ a x, ∃ q : Int, vs = [.ref a, .int q] /\ PartAt H a x /\ 0 <= x.p - q /\ x.p - q <= 800 /\ Q (.int (x.wh q)) H
theorem V4f : FnScope ["_law_part", "_law_power"] ["_law_part", "_law_power"] (A1 A0x) := scK
theorem J7d {f f1 : Addr} {fd fd1 : FuncData} (D : Def K mg "_law_signed" ["_law_part", "_law_power"] A0x f fd) (D_l_ten : Def K mg "_law_ten" ["_law_power"] A8x f1 fd1) (G_l_ten : FnOk P w K mg base (CX1 P w) 1 f1 fd1 ["_law_power"] B8p) : FnOk P w K mg base (CX1 P w) 2 f fd ["_law_part", "_law_power"] B8f := by
 refine D.F.okE V4f (fun vs H Q E h => ?_) (fun X cdv A outer s H vs Q E hX hr hx h => ?_)
 . obtain ⟨a, x, q, rfl, _⟩ := h
   rfl
 . subst hX
   obtain ⟨a, x, q, rfl, pa, d0, d1, k⟩ := h
   refine ⟨_, (A5 (A9 (B5 G4 (B5 G4 (D7 D8 (pv 0) A2 (fun _ _ => rfl)) (C6 D_l_ten G_l_ten hr hx (A0 (B5 J1 (D7 D8 (pv 0) A2 (fun _ _ => rfl)) (pv 1)) A4))) (B5 J1 A2 (B5 G4 A2 (D7 D8 (pv 0) A2 (fun _ _ => rfl))))))), ?_⟩
   have g := pa.g; have s0 := pa.s0; have s1 := pa.s1
   rw [<- V3u s0 s1] at k
   exact ⟨_, rfl, a, _, _, _, rfl, rfl, SqT.of pa.e, B7 (j := 1) rfl, _, rfl, a, _, _, _, rfl, rfl, SqT.of pa.e, B7 (j := 2) rfl, _, rfl, _, _, rfl, rfl, x.p - q, rfl, by omega, by omega, _, _, rfl, rfl, IntMulOk.of_bits g.bits (B2t (by omega)), _, rfl, a, _, _, _, rfl, rfl, SqT.of pa.e, B7 (j := 0) rfl, _, _, rfl, rfl, CMul.ok (.inl ⟨by decide, by decide⟩), _, _, rfl, rfl, _, _, rfl, rfl, CMul.ok (.inr ⟨by omega, by omega⟩), k⟩
def C7b : Sp := fun vs H Q _ => ∃ fq v, ∃ n p i s : Int, vs = [.ref fq, .int n, .int p, .int i, .int s] /\ FrAt H fq v /\ (n ≠ 0 -> Sz (B6z n)) /\ -400 <= p /\ p <= 400 /\ ∀ q H', Same H H' -> D5d H' q (B4y v n p i s).1 (V9 (B4y v n p i s).2) -> Q (.ref q) H'
theorem Y3k : FnScope ["_law_frame_here", "_law_number", "_law_power", "_law_ideal", "_law_sign"] ["_law_frame_here", "_law_number", "_law_power", "_law_ideal", "_law_sign"] (A1 A3n) := scK
theorem V4g {f f1 f2 : Addr} {fd fd1 fd2 : FuncData} (D : Def K mg "_law_whole" ["_law_frame_here", "_law_number", "_law_power", "_law_ideal", "_law_sign"] A3n f fd) (D_l_nought : Def K mg "_law_nought" ["_law_frame_here", "_law_sign", "_law_ideal"] A1b f1 fd1) (G_l_nought : FnOk P w K mg base (CX1 P w) 1 f1 fd1 ["_law_frame_here", "_law_sign", "_law_ideal"] B8s)
   (D_l_settled : Def K mg "_law_settled" ["_law_frame_here", "_law_sign", "_law_value", "_law_ideal"] A0h f2 fd2) (G_l_settled : FnOk P w K mg base (CX1 P w) 4 f2 fd2 ["_law_frame_here", "_law_sign", "_law_value", "_law_ideal"] C6x) (O : Own mg) : FnOk P w K mg base (CX1 P w) 5 f fd ["_law_frame_here", "_law_number", "_law_power", "_law_ideal", "_law_sign"] C7b := by
 refine D.F.okE Y3k (fun vs H Q E h => ?_) (fun X cdv A outer s H vs Q E hX hr hx h => ?_)
 . obtain ⟨fq, v, n, p, i, s, rfl, _⟩ := h
   rfl
 . subst hX
   obtain ⟨fq, v, n, p, i, sg, rfl, fr, sz, p0, p1, k⟩ := h
   refine ⟨_, (A3 (D6 (C5 D9 (pv 1) A2 (B9 _)) (A5 (A9 (C6 D_l_nought G_l_nought hr hx (A0 (pv 0) (A0 (pv 4) (A0 (pv 3) A4)))))) C7)
     (A5 (A9 (C6 D_l_settled G_l_settled hr hx (A0 (pv 0) (A0 (V6 Y8 (by rfl) O.int_ boot_int (A0 (G6 B3j (pv 1) A2 (B9 _)) A4)) (A0 (V0 (A0 (J7 C6b (by rfl) O.abs_ boot_abs (A0 (pv 1) A4)) (A0 A2 (A0 (pv 2) (A0 A4m A4))))) (A0 (pv 3) A4)))))))), ?_⟩
   have z4 : 4 <= sizeLine := D3 (by decide)
   refine ⟨_, rfl, rfl, _, rfl, J3 (fun h => ?_) (fun h => ?_)⟩
   . have h : n = 0 := V.int.inj h
     unfold B4y at k
     rw [if_pos h, V0f] at k
     exact ⟨_, rfl, _, rfl, _, rfl, fq, v.r, v.y, v.l, v.m, sg, i, rfl, fr.e, k⟩
   . have h : ¬ n = 0 := fun z => h (congrArg V.int z)
     have sz := sz h
     unfold B4y A4q at k
     rw [if_neg h, if_neg (by have := sz.1; omega)] at k
     have fn := B2r (v := v) (p := p) fr.cv sz p0 p1
     have nb := A0hb n
     refine ⟨_, rfl, _, rfl, _, _, rfl, rfl, .inr ⟨_, rfl, ?_⟩⟩
     rw [neg_int]
     refine ⟨_, rfl, _, rfl, _, rfl, z4, fun vq nv => ?_⟩
     have u := Same.upd (o := .tup [.int (B6z n), .int 1, .int p, .bl false]) nv
     exact ⟨_, rfl, fq, v.r, v.y, v.l, v.m, B4j n, vq, B6z n, 1, p, _, i, rfl, u _ _ fr.e, fr.ok, nb.1, nb.2, A6, sz, B4n, A4w sz, fn.1, fn.2, fun q H' s' => k q H' (u.trans s')⟩
def D5s : Sp := fun vs H Q _ => ∃ fq v q1 q2 x1 x2, vs = [.ref fq, .ref q1, .ref q2] /\ FrAt H fq v /\ PartAt H q1 x1 /\ PartAt H q2 x2 /\ ∀ q H', Same H H' -> D5d H' q (C7a v x1 x2).1 (V9 (C7a v x1 x2).2) -> Q (.ref q) H'
theorem scLSummed : FnScope ["_law_frame_here", "_law_one", "_law_other", "_law_power", "_law_sign"] ["_law_frame_here", "_law_one", "_law_other"] (A1 A2s) := scK
theorem J6k {f f1 f2 : Addr} {fd fd1 fd2 : FuncData} (D : Def K mg "_law_summed" ["_law_frame_here", "_law_one", "_law_other"] A2s f fd) (D_l_signed : Def K mg "_law_signed" ["_law_part", "_law_power"] A0x f1 fd1) (G_l_signed : FnOk P w K mg base (CX1 P w) 2 f1 fd1 ["_law_part", "_law_power"] B8f)
   (D_l_whole : Def K mg "_law_whole" ["_law_frame_here", "_law_number", "_law_power", "_law_ideal", "_law_sign"] A3n f2 fd2) (G_l_whole : FnOk P w K mg base (CX1 P w) 5 f2 fd2 ["_law_frame_here", "_law_number", "_law_power", "_law_ideal", "_law_sign"] C7b) (O : Own mg) : FnOk P w K mg base (CX1 P w) 6 f fd ["_law_frame_here", "_law_one", "_law_other"] D5s := by
 refine D.F.okE scLSummed (fun vs H Q E h => ?_) (fun X cdv A outer s H vs Q E hX hr hx h => ?_)
 . obtain ⟨fq, v, q1, q2, x1, x2, rfl, _⟩ := h
   rfl
 . subst hX
   obtain ⟨fq, v, q1, q2, x1, x2, rfl, fr, a1, a2, k⟩ := h
   refine ⟨_, (A3 (B8 (C9 (i := 3) scLSummed.nd rfl (Or.inl rfl) (J7 (A0n rfl) (by rfl) O.min_ boot_min (A0 (D7 D8 (pv 1) A2 (fun _ _ => rfl)) (A0 (D7 D8 (pv 2) A2 (fun _ _ => rfl)) A4)))))
     (A3 (B8 (C9 (i := 4) scLSummed.nd rfl (Or.inl rfl) (U2 (C5 D9 (D7 D8 (pv 1) A2 (fun _ _ => rfl)) (D7 D8 (pv 2) A2 (fun _ _ => rfl)) (B9 _)) (D7 D8 (pv 1) A2 (fun _ _ => rfl)) (V6 Y8 (by rfl) O.int_ boot_int (A0 (G6 D9 (D7 D8 (pv 0) A2 (fun _ _ => rfl)) C8 (B9 _)) A4)))))
     (A5 (A9 (C6 D_l_whole G_l_whole hr hx (A0 (pv 0) (A0 (B5 G9 (C6 D_l_signed G_l_signed hr hx (A0 (pv 1) (A0 (pv 3) A4))) (C6 D_l_signed G_l_signed hr hx (A0 (pv 2) (A0 (pv 3) A4)))) (A0 (pv 3) (A0 (pv 3) (A0 (pv 4) A4)))))))))), ?_⟩
   obtain ⟨m1, m2, m3⟩ := U9j x1 x2
   have g1 := a1.g; have g2 := a2.g
   have := g1.p0; have := g1.p1; have := g2.p0; have := g2.p1
   refine ⟨fun σ' H' => H' = H /\ σ' = [some (.ref fq), some (.ref q1), some (.ref q2), some (.int (U3 x1 x2)), none], ⟨_, rfl, q1, _, _, _, rfl, rfl, SqT.of a1.e, B7 (j := 2) rfl, _, rfl, q2, _, _, _, rfl, rfl, SqT.of a2.e, B7 (j := 2) rfl, _, _, rfl, rfl, rfl⟩, ?_⟩
   rintro σ' H1 ⟨rfl, rfl⟩
   refine ⟨fun σ' H' => H' = H1 /\ σ' = [some (.ref fq), some (.ref q1), some (.ref q2), some (.int (U3 x1 x2)), some (.int (B3q v.y x1.s x2.s))], ?_, ?_⟩
   . refine ⟨_, rfl, q1, _, _, _, rfl, rfl, SqT.of a1.e, B7 (j := 0) rfl, _, rfl, q2, _, _, _, rfl, rfl, SqT.of a2.e, B7 (j := 0) rfl, rfl, _, rfl, J3 (fun h => ?_) (fun h => ?_)⟩
     . have h : x1.s = x2.s := V.int.inj h
       refine ⟨_, rfl, q1, _, _, _, rfl, rfl, SqT.of a1.e, B7 (j := 0) rfl, rfl, ?_⟩
       unfold B3q
       rw [if_pos h]
       rfl
     . refine ⟨_, rfl, fq, _, _, _, rfl, rfl, SqT.of fr.e, B7 (j := 1) rfl, rfl, .inr ⟨_, rfl, rfl, ?_⟩⟩
       unfold B3q
       rw [if_neg fun z => h (congrArg V.int z), <- A0bu]
       rfl
   rintro σ' H2 ⟨rfl, rfl⟩
   rw [V4b] at k
   exact ⟨_, rfl, _, rfl, _, rfl, q1, x1, U3 x1 x2, rfl, a1, by omega, by omega, _, rfl, _, rfl, q2, x2, U3 x1 x2, rfl, a2, by omega, by omega, _, _, rfl, rfl, _, rfl, _, rfl, _, rfl, fq, v, B3f x1 x2, U3 x1 x2, U3 x1 x2, _, rfl, fr, Y3j g1 g2, by omega, by omega, k⟩
def U9w : Sp := fun vs H Q _ => ∃ q1 q2 x1 x2, vs = [.ref q1, .ref q2] /\ PartAt H q1 x1 /\ PartAt H q2 x2 /\ x1.Ok /\ x2.Ok /\ ∀ q H', Same H H' -> PartAt H' q (B7d x1 x2) -> Q (.ref q) H'
theorem A0db : FnScope ["_law_one", "_law_other"] ["_law_one", "_law_other"] (A1 B4r) := scK
theorem Y1w {f : Addr} {fd : FuncData} (D : Def K mg "_law_product" ["_law_one", "_law_other"] B4r f fd) : FnOk P w K mg base (CX1 P w) 1 f fd ["_law_one", "_law_other"] U9w := by
 refine D.F.okE A0db (fun vs H Q E h => ?_) (fun X cdv A outer s H vs Q E hX hr hx h => ?_)
 . obtain ⟨q1, q2, x1, x2, rfl, _⟩ := h
   rfl
 . subst hX
   obtain ⟨q1, q2, x1, x2, rfl, a1, a2, o1, o2, k⟩ := h
   refine ⟨_, (A5 (A9 (V0 (A0 (B5 J0 (B5 G9 (D7 D8 (pv 0) A2 (fun _ _ => rfl)) (D7 D8 (pv 1) A2 (fun _ _ => rfl))) A2) (A0 (B5 G4 (D7 D8 (pv 0) A2 (fun _ _ => rfl)) (D7 D8 (pv 1) A2 (fun _ _ => rfl))) (A0 (B5 G9 (D7 D8 (pv 0) A2 (fun _ _ => rfl)) (D7 D8 (pv 1) A2 (fun _ _ => rfl))) A4)))))), ?_⟩
   have z3 : 3 <= sizeLine := D3 (by decide)
   have us := Y3r x1.s x2.s
   refine ⟨_, rfl, q1, _, _, _, rfl, rfl, SqT.of a1.e, B7 (j := 0) rfl, _, rfl, q2, _, _, _, rfl, rfl, SqT.of a2.e, B7 (j := 0) rfl, _, _, rfl, rfl, _, _, rfl, rfl, (by decide : (0 : Int) < 2), _, rfl, q1, _, _, _, rfl, rfl, SqT.of a1.e, B7 (j := 1) rfl, _, rfl, q2, _, _, _, rfl, rfl, SqT.of a2.e, B7 (j := 1) rfl, _, _, rfl, rfl, J6u o1 o2, _, rfl, q1, _, _, _, rfl, rfl, SqT.of a1.e, B7 (j := 2) rfl, _, rfl, q2, _, _, _, rfl, rfl, SqT.of a2.e, B7 (j := 2) rfl, _, _, rfl, rfl, z3, fun q nq => ?_⟩
   refine k q _ (Same.upd nq) ⟨?_, D8u o1 o2, us.1, us.2⟩
   rw [A6]
   show some (HO.tup [.int ((x1.s + x2.s) % 2), .int (x1.f * x2.f), .int (x1.p + x2.p)]) = _
   rw [A0cr a1.s0 a1.s1 a2.s0 a2.s1]
   rfl
def Y1v : Sp := fun vs H Q _ => ∃ fq v q1 x, ∃ i : Int, vs = [.ref fq, .ref q1, .int i] /\ FrAt H fq v /\ PartAt H q1 x /\ ∀ q H', Same H H' -> D5d H' q (A4q v x.s x.f x.p i).1 (V9 (A4q v x.s x.f x.p i).2) -> Q (.ref q) H'
theorem A0js : FnScope ["_law_frame_here", "_law_one", "_law_ideal"] ["_law_frame_here", "_law_one", "_law_ideal"] (A1 C6g) := scK
theorem A0av {f f2 : Addr} {fd fd2 : FuncData} (D : Def K mg "_law_own" ["_law_frame_here", "_law_one", "_law_ideal"] C6g f fd) (D_l_whole : Def K mg "_law_whole" ["_law_frame_here", "_law_number", "_law_power", "_law_ideal", "_law_sign"] A3n f2 fd2) (G_l_whole : FnOk P w K mg base (CX1 P w) 5 f2 fd2 ["_law_frame_here", "_law_number", "_law_power", "_law_ideal", "_law_sign"] C7b) : FnOk P w K mg base (CX1 P w) 6 f fd ["_law_frame_here", "_law_one", "_law_ideal"] Y1v := by
 refine D.F.okE A0js (fun vs H Q E h => ?_) (fun X cdv A outer s H vs Q E hX hr hx h => ?_)
 . obtain ⟨fq, v, q1, x, i, rfl, _⟩ := h
   rfl
 . subst hX
   obtain ⟨fq, v, q1, x, i, rfl, fr, a1, k⟩ := h
   refine ⟨_, (A5 (A9 (C6 D_l_whole G_l_whole hr hx (A0 (pv 0) (A0 (B5 G4 (D7 D8 (pv 1) A2 (fun _ _ => rfl)) (B5 J1 A2 (B5 G4 A2 (D7 D8 (pv 1) A2 (fun _ _ => rfl))))) (A0 (D7 D8 (pv 1) A2 (fun _ _ => rfl)) (A0 (pv 2) (A0 (D7 D8 (pv 1) A2 (fun _ _ => rfl)) A4)))))))), ?_⟩
   have g := a1.g; have s0 := a1.s0; have s1 := a1.s1
   rw [<- V2b (v := v) (p := x.p) (i := i) g.f0 s0 s1] at k
   refine ⟨_, rfl, _, rfl, q1, _, _, _, rfl, rfl, SqT.of a1.e, B7 (j := 1) rfl, _, rfl, q1, _, _, _, rfl, rfl, SqT.of a1.e, B7 (j := 0) rfl, _, _, rfl, rfl, CMul.ok (.inl ⟨by decide, by decide⟩), _, _, rfl, rfl, _, _, rfl, rfl, CMul.ok (.inr ⟨by omega, by omega⟩), _, rfl, q1, _, _, _, rfl, rfl, SqT.of a1.e, B7 (j := 2) rfl, _, rfl, _, rfl, q1, _, _, _, rfl, rfl, SqT.of a1.e, B7 (j := 0) rfl, fq, v, _, x.p, i, x.s, rfl, fr, fun h => ?_, g.p0, g.p1, k⟩
   exact A0kk (D7u g fun z => h (by show x.f * (1 - 2 * x.s) = 0; rw [z, Int.zero_mul])) s0 s1
def D6a : Sp := fun vs H Q _ => ∃ q1 q2 x1 x2, ∃ sg : Int, vs = [.ref q1, .ref q2, .int sg] /\ PartAt H q1 x1 /\ PartAt H q2 x2 /\ -1 <= sg /\ sg <= 1 /\ Q (.ref (if (x2.wh (U3 x1 x2) - x1.wh (U3 x1 x2)) * sg > 0 then q2 else q1)) H
theorem scLChosen : FnScope ["_law_one", "_law_other", "_law_sign", "_law_power", "_law_apart"] ["_law_one", "_law_other", "_law_sign"] (A1 A2y) := scK
theorem J5n {f f1 : Addr} {fd fd1 : FuncData} (D : Def K mg "_law_chosen" ["_law_one", "_law_other", "_law_sign"] A2y f fd) (D_l_signed : Def K mg "_law_signed" ["_law_part", "_law_power"] A0x f1 fd1) (G_l_signed : FnOk P w K mg base (CX1 P w) 2 f1 fd1 ["_law_part", "_law_power"] B8f) (O : Own mg) : FnOk P w K mg base (CX1 P w) 3 f fd ["_law_one", "_law_other", "_law_sign"] D6a := by
 refine D.F.okE scLChosen (fun vs H Q E h => ?_) (fun X cdv A outer s H vs Q E hX hr hx h => ?_)
 . obtain ⟨q1, q2, x1, x2, sg, rfl, _⟩ := h
   rfl
 . subst hX
   obtain ⟨q1, q2, x1, x2, sg, rfl, a1, a2, g0, g1', k⟩ := h
   refine ⟨_, (A3 (B8 (C9 (i := 3) scLChosen.nd rfl (Or.inl rfl) (J7 (A0n rfl) (by rfl) O.min_ boot_min (A0 (D7 D8 (pv 0) A2 (fun _ _ => rfl)) (A0 (D7 D8 (pv 1) A2 (fun _ _ => rfl)) A4)))))
     (A3 (B8 (C9 (i := 4) scLChosen.nd rfl (Or.inl rfl) (B5 J1 (C6 D_l_signed G_l_signed hr hx (A0 (pv 1) (A0 (pv 3) A4))) (C6 D_l_signed G_l_signed hr hx (A0 (pv 0) (A0 (pv 3) A4))))))
     (A5 (A9 (U2 (C5 A9g (B5 G4 (pv 4) (pv 2)) A2 (B9 _)) (pv 1) (pv 0)))))), ?_⟩
   obtain ⟨m1, m2, m3⟩ := U9j x1 x2
   have g1 := a1.g; have g2 := a2.g
   have := g1.p0; have := g1.p1; have := g2.p0; have := g2.p1
   refine ⟨fun σ' H' => H' = H /\ σ' = [some (.ref q1), some (.ref q2), some (.int sg), some (.int (U3 x1 x2)), none], ⟨_, rfl, q1, _, _, _, rfl, rfl, SqT.of a1.e, B7 (j := 2) rfl, _, rfl, q2, _, _, _, rfl, rfl, SqT.of a2.e, B7 (j := 2) rfl, _, _, rfl, rfl, rfl⟩, ?_⟩
   rintro σ' H1 ⟨rfl, rfl⟩
   refine ⟨fun σ' H' => H' = H1 /\ σ' = [some (.ref q1), some (.ref q2), some (.int sg), some (.int (U3 x1 x2)), some (.int (x2.wh (U3 x1 x2) - x1.wh (U3 x1 x2)))], ⟨_, rfl, _, rfl, q2, x2, U3 x1 x2, rfl, a2, by omega, by omega, _, rfl, _, rfl, q1, x1, U3 x1 x2, rfl, a1, by omega, by omega, _, _, rfl, rfl, rfl, rfl⟩, ?_⟩
   rintro σ' H2 ⟨rfl, rfl⟩
   refine ⟨_, rfl, _, rfl, _, _, rfl, rfl, CMul.ok (.inr ⟨by omega, by omega⟩), _, _, rfl, rfl, _, rfl, J3 (fun h => ?_) (fun h => ?_)⟩
   . rw [if_pos h] at k
     exact ⟨_, rfl, k⟩
   . rw [if_neg h] at k
     exact ⟨_, rfl, k⟩
end
abbrev C5s : Stmt := (top 104)
abbrev B4h : Stmt := (top 105)
theorem B8g (i j : Int) : ∀ (k : Nat) (f p : Int), 0 < f -> f < ((10 ^ k : Nat) : Int) -> p + k <= i -> p + k <= j -> U6 i f p = U6 j f p /\ (U6 i f p).2 <= p + k
 | 0, f, p, h0, h1, _, _ => by
   exfalso
   have : f < 1 := h1
   omega
 | k + 1, f, p, h0, h1, hi, hj => by
   by_cases z : f % 10 = 0
   . rw [A5s (by omega) z, A5s (ideal := j) (by omega) z]
     have h : f / 10 < ((10 ^ k : Nat) : Int) := by
       rw [Nat.pow_succ, Int.natCast_mul] at h1
       have : f < ((10 ^ k : Nat) : Int) * 10 := h1
       omega
     have r := B8g i j k (f / 10) (p + 1) (by omega) h (by omega) (by omega)
     exact ⟨r.1, by have := r.2; omega⟩
   . rw [A5z fun q => z q.2, A5z (ideal := j) fun q => z q.2]
     exact ⟨rfl, by show p <= _; omega⟩
theorem J7e {v : Cv} {s wh pt L q i j : Int} (h : pt = 0 -> 0 < wh /\ wh < A7 24) (hi : q + 24 <= i) (hj : q + 24 <= j) : A6d v s wh pt L q i = A6d v s wh pt L q j := by
 by_cases z : pt = 0
 . obtain ⟨w0, w1⟩ := h z
   have r := B8g i j 24 wh q w0 w1 hi hj
   have r2 := B8g j i 24 wh q w0 w1 hj hi
   have e1 : U7 v s wh pt q i = U6 i wh q := by unfold U7; rw [if_pos z]
   have e2 : U7 v s wh pt q j = U6 i wh q := by unfold U7; rw [if_pos z, <- r.1]
   unfold A6d
   rw [e1, e2, decide_eq_false (show ¬ (U6 i wh q).2 > i by have := r.2; omega), decide_eq_false (show ¬ (U6 i wh q).2 > j by have := r.2; omega)]
 . have e : U7 v s wh pt q i = U7 v s wh pt q j := by unfold U7; rw [if_neg z, if_neg z]
   have er : ∀ c d, U5 pt c = U5 pt d := fun c d => by unfold U5; rw [if_neg z, if_neg z]
   unfold A6d
   rw [e, er (decide ((U7 v s wh pt q j).2 > i)) (decide ((U7 v s wh pt q j).2 > j))]
theorem A0kb {t b s : Int} (ht : 0 < t) (hb : 0 < b) (h : ptI t b s = 0) : 0 < whI t b s := by
 have lp : 0 < b * A7 (-s) := Int.mul_pos hb (G0 _)
 have tp : 0 < t * A7 s := Int.mul_pos ht (G0 _)
 have wl := D7x (t := t) (s := s) hb
 unfold ptI at h
 have z : t * A7 s - whI t b s * (b * A7 (-s)) = 0 := by
   apply Classical.byContradiction
   intro z
   have p : 0 < t * A7 s - whI t b s * (b * A7 (-s)) := by omega
   rcases (by omega : 2 * (t * A7 s - whI t b s * (b * A7 (-s))) < b * A7 (-s) \/ 2 * (t * A7 s - whI t b s * (b * A7 (-s))) = b * A7 (-s) \/ b * A7 (-s) < 2 * (t * A7 s - whI t b s * (b * A7 (-s)))) with h2 | h2 | h2
   . rw [Y0r p h2] at h; cases h
   . rw [Y1y p h2] at h; cases h
   . rw [Y0q p h2] at h; cases h
 apply Classical.byContradiction
 intro hw
 have : whI t b s * (b * A7 (-s)) <= 0 := Int.mul_nonpos_of_nonpos_of_nonneg (by omega) (Int.le_of_lt lp)
 omega
theorem A0bk {v : Cv} {x : Nm} (ok : v.Ok) (xo : x.Ok) (hf : x.f ≠ 0) : A4q v x.s x.f x.p 1000000000 = D5r v x := by
 unfold A4q D5r
 rw [if_neg hf, if_neg hf]
 have sz := D7u xo.bg hf
 have ld := A4w (p := x.p) sz
 have fb := B4q sz
 have f60 : V2 x.f <= 60 := by
   apply Classical.byContradiction
   intro z
   have a : A7 60 <= A7 (V2 x.f - 1) := Y3 (by omega)
   have e : A7 60 = 10 ^ 60 := by decide +kernel
   have := xo.f1
   omega
 have p1 := xo.p1
 have r1 := ok.r1; have r2 := ok.r2; have l2 := ok.l2
 have hq : v.fin (x.p + V2 x.f - 1) <= 300 := by
   unfold Cv.fin C4x
   split <;> omega
 have wr := D8p (s1 := x.p - (x.p + V2 x.f - 1)) (s2 := x.p - v.fin (x.p + V2 x.f - 1)) (r := v.r) sz B4n ld r1 (by
   unfold Cv.fin C4x
   split <;> omega)
 unfold A3j
 refine J7e (fun z => ⟨A0kb sz.1 (by decide) z, Int.lt_of_lt_of_le wr.2 (Y3 r2)⟩) (by omega) (by omega)
def opR (v : Cv) (k : Int) (x1 x2 x3 : Nm) (c : Int) : Nm × List Str :=
 if k = 0 then C7a v x1 x2 else if k = 1 then C7a v x1 (J6y x2) else if k = 2 then A4q v (D1x x1.s x2.s) (x1.f * x2.f) (x1.p + x2.p) (x1.p + x2.p) else if k = 3 then C7a v (B7d x1 x2) x3
 else if k = 4 then D5r v x1 else if k = 5 then A4q v x1.s x1.f (x1.p + c) (x1.p + c) else if k = 6 then A4q v (A9a (A9c x1 x2) x1 x2).s (A9a (A9c x1 x2) x1 x2).f (A9a (A9c x1 x2) x1 x2).p (A9a (A9c x1 x2) x1 x2).p
 else A4q v (A9a (A9e x1 x2) x1 x2).s (A9a (A9e x1 x2) x1 x2).f (A9a (A9e x1 x2) x1 x2).p (A9a (A9e x1 x2) x1 x2).p
theorem A0jz (a b : Int) : B8r a b <= 0 ↔ a <= b := by
 unfold B8r
 split
 . omega
 . split <;> omega
theorem A0kh (a b : Int) : B8r a b >= 0 ↔ a >= b := by
 unfold B8r
 split
 . omega
 . split <;> omega
section
variable {P : Program} {w : World} {K : Frag} {mg : Str -> Option Value} {base : Heap}
def Y0p : Sp := fun vs H Q _ => ∃ fq v pq q1 q2 q3 x1 x2 x3, ∃ k c : Int, vs = [.ref fq, .int k, .ref pq, .int c] /\ FrAt H fq v /\ H pq = some (.lst [.ref q1, .ref q2, .ref q3]) /\ PartAt H q1 x1 /\ PartAt H q2 x2 /\ PartAt H q3 x3 /\ x1.Ok /\ x2.Ok /\ x3.Ok /\ 0 <= k /\ k <= 7 /\ -100 <= c /\ c <= 100 /\
 ∀ q H', Same H H' -> D5d H' q (opR v k x1 x2 x3 c).1 (V9 (opR v k x1 x2 x3 c).2) -> Q (.ref q) H'
theorem scLDue : FnScope ["_law_frame_here", "_law_way", "_law_parts", "_law_count_here", "_law_one", "_law_other", "_law_third", "_law_made", "_law_chosen_here"] ["_law_frame_here", "_law_way", "_law_parts", "_law_count_here"] (A1 C5s) := scK
theorem A0bg {f f1 f2 f3 f4 f5 : Addr} {fd fd1 fd2 fd3 fd4 fd5 : FuncData} (D : Def K mg "_law_due" ["_law_frame_here", "_law_way", "_law_parts", "_law_count_here"] C5s f fd) (D_l_summed : Def K mg "_law_summed" ["_law_frame_here", "_law_one", "_law_other"] A2s f1 fd1) (G_l_summed : FnOk P w K mg base (CX1 P w) 6 f1 fd1 ["_law_frame_here", "_law_one", "_law_other"] D5s)
   (D_l_product : Def K mg "_law_product" ["_law_one", "_law_other"] B4r f2 fd2) (G_l_product : FnOk P w K mg base (CX1 P w) 1 f2 fd2 ["_law_one", "_law_other"] U9w)
   (D_l_own : Def K mg "_law_own" ["_law_frame_here", "_law_one", "_law_ideal"] C6g f3 fd3) (G_l_own : FnOk P w K mg base (CX1 P w) 6 f3 fd3 ["_law_frame_here", "_law_one", "_law_ideal"] Y1v) (D_l_nought : Def K mg "_law_nought" ["_law_frame_here", "_law_sign", "_law_ideal"] A1b f4 fd4) (G_l_nought : FnOk P w K mg base (CX1 P w) 1 f4 fd4 ["_law_frame_here", "_law_sign", "_law_ideal"] B8s)
   (D_l_chosen : Def K mg "_law_chosen" ["_law_one", "_law_other", "_law_sign"] A2y f5 fd5) (G_l_chosen : FnOk P w K mg base (CX1 P w) 3 f5 fd5 ["_law_one", "_law_other", "_law_sign"] D6a) : FnOk P w K mg base (CX1 P w) 7 f fd ["_law_frame_here", "_law_way", "_law_parts", "_law_count_here"] Y0p := by
 refine D.F.okE scLDue (fun vs H Q E h => ?_) (fun X cdv A outer s H vs Q E hX hr hx h => ?_)
 . obtain ⟨fq, v, pq, q1, q2, q3, x1, x2, x3, k, c, rfl, _⟩ := h
   rfl
 . subst hX
   obtain ⟨fq, v, pq, q1, q2, q3, x1, x2, x3, n, c, rfl, fr, ep, a1, a2, a3, o1, o2, o3, n0, n7, c0, c1, k⟩ := h
   refine ⟨_, (A3 (A4d (pv 2) (Y2j rfl (J5 (G7 (i := 4) scLDue.nd rfl (Or.inl rfl)) (J5 (G7 (i := 5) scLDue.nd rfl (Or.inl rfl)) (J5 (G7 (i := 6) scLDue.nd rfl (Or.inl rfl)) A3k)))))
     (A3 (D6 (C5 D9 (pv 1) A2 (B9 _)) (A5 (A9 (C6 D_l_summed G_l_summed hr hx (A0 (pv 0) (A0 (pv 4) (A0 (pv 5) A4)))))) C7)
     (A3 (D6 (C5 D9 (pv 1) A2 (B9 _)) (A5 (A9 (C6 D_l_summed G_l_summed hr hx (A0 (pv 0) (A0 (pv 4) (A0 (V0 (A0 (B5 J1 A2 (D7 D8 (pv 5) A2 (fun _ _ => rfl))) (A0 (D7 D8 (pv 5) A2 (fun _ _ => rfl)) (A0 (D7 D8 (pv 5) A2 (fun _ _ => rfl)) A4)))) A4)))))) C7)
     (A3 (D6 (C5 D9 (pv 1) A2 (B9 _)) (A3 (C9 (i := 7) scLDue.nd rfl (Or.inl rfl) (C6 D_l_product G_l_product hr hx (A0 (pv 4) (A0 (pv 5) A4))))
     (A5 (A9 (C6 D_l_own G_l_own hr hx (A0 (pv 0) (A0 (pv 7) (A0 (D7 D8 (pv 7) A2 (fun _ _ => rfl)) A4))))))) C7)
     (A3 (D6 (C5 D9 (pv 1) A2 (B9 _)) (A5 (A9 (C6 D_l_summed G_l_summed hr hx (A0 (pv 0) (A0 (C6 D_l_product G_l_product hr hx (A0 (pv 4) (A0 (pv 5) A4))) (A0 (pv 6) A4)))))) C7)
     (A3 (D6 (C5 D9 (pv 1) A2 (B9 _)) (A5 (A9 (U2 (C5 A9g (D7 D8 (pv 4) A2 (fun _ _ => rfl)) A2 (B9 _)) (C6 D_l_own G_l_own hr hx (A0 (pv 0) (A0 (pv 4) (A0 (B5 J7k A2 A2) A4)))) (C6 D_l_nought G_l_nought hr hx (A0 (pv 0) (A0 (D7 D8 (pv 4) A2 (fun _ _ => rfl)) (A0 A2 A4))))))) C7)
     (A3 (D6 (C5 D9 (pv 1) A2 (B9 _)) (A5 (A9 (C6 D_l_own G_l_own hr hx (A0 (pv 0) (A0 (V0 (A0 (D7 D8 (pv 4) A2 (fun _ _ => rfl)) (A0 (D7 D8 (pv 4) A2 (fun _ _ => rfl)) (A0 (B5 G9 (D7 D8 (pv 4) A2 (fun _ _ => rfl)) (pv 3)) A4)))) (A0 (B5 G9 (D7 D8 (pv 4) A2 (fun _ _ => rfl)) (pv 3)) A4)))))) C7)
     (A3 (C9 (i := 8) scLDue.nd rfl (Or.inl rfl) (C6 D_l_chosen G_l_chosen hr hx (A0 (pv 4) (A0 (pv 5) (A0 (B5 J1 (B5 G4 A2 (pv 1)) A2) A4)))))
     (A5 (A9 (C6 D_l_own G_l_own hr hx (A0 (pv 0) (A0 (pv 8) (A0 (D7 D8 (pv 8) A2 (fun _ _ => rfl)) A4)))))))))))))), ?_⟩
   have z3 : 3 <= sizeLine := D3 (by decide)
   unfold opR at k
   refine ⟨_, rfl, pq, _, rfl, SqL.of ep, rfl, _, _, rfl, _, _, rfl, _, _, rfl, rfl, ?_⟩
   refine ⟨_, rfl, rfl, _, rfl, J3 (fun h => ?_) (fun h => ?_)⟩
   . rw [if_pos (V.int.inj h)] at k
     exact ⟨_, rfl, _, rfl, _, rfl, fq, v, q1, q2, x1, x2, rfl, fr, a1, a2, k⟩
   have g0 : ¬ n = 0 := fun z => h (congrArg V.int z)
   rw [if_neg g0] at k
   clear h
   refine ⟨_, rfl, rfl, _, rfl, J3 (fun h => ?_) (fun h => ?_)⟩
   . rw [if_pos (V.int.inj h)] at k
     refine ⟨_, rfl, _, rfl, _, rfl, q2, _, _, _, rfl, rfl, SqT.of a2.e, B7 (j := 0) rfl, _, _, rfl, rfl, _, rfl, q2, _, _, _, rfl, rfl, SqT.of a2.e, B7 (j := 1) rfl, _, rfl, q2, _, _, _, rfl, rfl, SqT.of a2.e, B7 (j := 2) rfl, z3, fun qn nq => ?_⟩
     have u := Same.upd (o := .tup (J6y x2).pv) nq
     have g := a2.g; have s0 := a2.s0; have s1 := a2.s1
     exact ⟨fq, v, q1, qn, x1, J6y x2, rfl, fr.same u, a1.same u, ⟨A6, ⟨g.f0, g.f1, g.p0, g.p1⟩, by show 0 <= 1 - x2.s; omega, by show 1 - x2.s <= 1; omega⟩, fun q H' s' => k q H' (u.trans s')⟩
   have g1 : ¬ n = 1 := fun z => h (congrArg V.int z)
   rw [if_neg g1] at k
   clear h
   refine ⟨_, rfl, rfl, _, rfl, J3 (fun h => ?_) (fun h => ?_)⟩
   . rw [if_pos (V.int.inj h)] at k
     refine ⟨_, rfl, _, rfl, q1, q2, x1, x2, rfl, a1, a2, o1, o2, fun mq H1 s1 pm => ?_⟩
     exact ⟨_, rfl, _, rfl, _, rfl, mq, _, _, _, rfl, rfl, SqT.of pm.e, B7 (j := 2) rfl, fq, v, mq, B7d x1 x2, _, rfl, fr.same s1, pm, fun q H' s' => k q H' (s1.trans s')⟩
   have g2 : ¬ n = 2 := fun z => h (congrArg V.int z)
   rw [if_neg g2] at k
   clear h
   refine ⟨_, rfl, rfl, _, rfl, J3 (fun h => ?_) (fun h => ?_)⟩
   . rw [if_pos (V.int.inj h)] at k
     refine ⟨_, rfl, _, rfl, _, rfl, q1, q2, x1, x2, rfl, a1, a2, o1, o2, fun mq H1 s1 pm => ?_⟩
     exact ⟨_, rfl, fq, v, mq, q3, B7d x1 x2, x3, rfl, fr.same s1, pm, a3.same s1, fun q H' s' => k q H' (s1.trans s')⟩
   have g3 : ¬ n = 3 := fun z => h (congrArg V.int z)
   rw [if_neg g3] at k
   clear h
   refine ⟨_, rfl, rfl, _, rfl, J3 (fun h => ?_) (fun h => ?_)⟩
   . rw [if_pos (V.int.inj h)] at k
     refine ⟨_, rfl, q1, _, _, _, rfl, rfl, SqT.of a1.e, B7 (j := 1) rfl, _, _, rfl, rfl, _, rfl, J3 (fun hf => ?_) (fun hf => ?_)⟩
     . have hf : x1.f > 0 := hf
       rw [<- A0bk fr.cv o1 (by omega)] at k
       exact ⟨_, rfl, _, rfl, _, _, rfl, rfl, ⟨by decide, by decide, by decide⟩, fq, v, q1, x1, _, rfl, fr, a1, k⟩
     . have hf : ¬ x1.f > 0 := hf
       unfold D5r at k
       rw [if_pos (by have := o1.f0; omega), V0f] at k
       exact ⟨_, rfl, _, rfl, q1, _, _, _, rfl, rfl, SqT.of a1.e, B7 (j := 0) rfl, fq, v.r, v.y, v.l, v.m, x1.s, 0, rfl, fr.e, k⟩
   have g4 : ¬ n = 4 := fun z => h (congrArg V.int z)
   rw [if_neg g4] at k
   clear h
   refine ⟨_, rfl, rfl, _, rfl, J3 (fun h => ?_) (fun h => ?_)⟩
   . rw [if_pos (V.int.inj h)] at k
     refine ⟨_, rfl, _, rfl, q1, _, _, _, rfl, rfl, SqT.of a1.e, B7 (j := 0) rfl, _, rfl, q1, _, _, _, rfl, rfl, SqT.of a1.e, B7 (j := 1) rfl, _, rfl, q1, _, _, _, rfl, rfl, SqT.of a1.e, B7 (j := 2) rfl, _, rfl, _, _, rfl, rfl, z3, fun qn nq => ?_⟩
     have u := Same.upd (o := .tup [.int x1.s, .int x1.f, .int (x1.p + c)]) nq
     have e1 := u _ _ a1.e
     have g := a1.g
     have := o1.p0; have := o1.p1
     exact ⟨_, rfl, q1, _, _, _, rfl, rfl, SqT.of e1, B7 (j := 2) rfl, _, rfl, _, _, rfl, rfl, fq, v, qn, ⟨.plain, x1.s, x1.f, x1.p + c⟩, _, rfl, fr.same u, ⟨A6, ⟨g.f0, g.f1, by show -400 <= x1.p + c; omega, by show x1.p + c <= 400; omega⟩, a1.s0, a1.s1⟩, fun q H' s' => k q H' (u.trans s')⟩
   have h5 : ¬ n = 5 := fun z => h (congrArg V.int z)
   rw [if_neg h5] at k
   clear h
   refine ⟨_, rfl, _, rfl, _, rfl, _, _, rfl, rfl, CMul.ok (.inl ⟨by decide, by decide⟩), _, _, rfl, rfl, q1, q2, x1, x2, 2 * n - 13, rfl, a1, a2, ?_⟩
   refine ⟨by omega, by omega, ?_⟩
   have own : ∀ (b : Bool) (mq : Addr), mq = (if b = true then q1 else q2) -> PartAt H mq (A9a b x1 x2) := fun b mq e => by
     subst e
     cases b with
     | true => exact a1
     | false => exact a2
   by_cases h6 : n = 6
   . subst h6
     rw [if_pos rfl] at k
     have e : (if (x2.wh (U3 x1 x2) - x1.wh (U3 x1 x2)) * (2 * 6 - 13) > 0 then q2 else q1) = (if A9c x1 x2 = true then q1 else q2) := by
       unfold A9c
       have o := A0jz (x1.wh (U3 x1 x2)) (x2.wh (U3 x1 x2))
       by_cases z : x1.wh (U3 x1 x2) <= x2.wh (U3 x1 x2)
       . rw [decide_eq_true (o.mpr z), if_pos rfl, if_neg (by omega)]
       . rw [decide_eq_false (fun q => z (o.mp q)), if_neg Bool.false_ne_true, if_pos (by omega)]
     have pm := own _ _ e
     exact ⟨_, rfl, _, rfl, _, rfl, _, _, _, _, rfl, rfl, SqT.of pm.e, B7 (j := 2) rfl, fq, v, _, _, _, rfl, fr, pm, k⟩
   . have h7 : n = 7 := by omega
     subst h7
     rw [if_neg (by decide)] at k
     have e : (if (x2.wh (U3 x1 x2) - x1.wh (U3 x1 x2)) * (2 * 7 - 13) > 0 then q2 else q1) = (if A9e x1 x2 = true then q1 else q2) := by
       unfold A9e
       have o := A0kh (x1.wh (U3 x1 x2)) (x2.wh (U3 x1 x2))
       by_cases z : x1.wh (U3 x1 x2) >= x2.wh (U3 x1 x2)
       . rw [decide_eq_true (o.mpr z), if_pos rfl, if_neg (by omega)]
       . rw [decide_eq_false (fun q => z (o.mp q)), if_neg Bool.false_ne_true, if_pos (by omega)]
     have pm := own _ _ e
     exact ⟨_, rfl, _, rfl, _, rfl, _, _, _, _, rfl, rfl, SqT.of pm.e, B7 (j := 2) rfl, fq, v, _, _, _, rfl, fr, pm, k⟩
def V0t (CN CC CT : Addr) : Sp := fun vs H Q E => ∃ c v a b xs ys l n1 n2 n3 x1 x2 x3, ∃ k m : Int, vs = [.ref c, .int k, .ref l, .int m] /\ CtxV CC H c v a b xs ys /\ v.Ok /\ xs.length <= 900 /\ V9 xs = xs /\ H l = some (.lst [.ref n1, .ref n2, .ref n3]) /\ Two CN H n1 n2 x1 x2 /\ NumIs CN H n3 x3 /\ x1.k = .plain /\ x2.k = .plain /\ x3.k = .plain /\ x1.Ok /\ x2.Ok /\ x3.Ok /\ -100 <= m /\ m <= 100 /\ Ends2 CN CC CT H c v b xs ys (opR v k x1 x2 x3 m) Q E
theorem scLTold : FnScope ["_law_context_here", "_law_way", "_law_numbers", "_law_count_here", "_law_one", "_law_other", "_law_third"] ["_law_context_here", "_law_way", "_law_numbers", "_law_count_here"] (A1 B4h) := scK
theorem Y3v {f f1 f2 f3 f4 f5 f6 f7 f8 CN CC CT : Addr} {fd fd1 fd2 fd3 fd4 fd5 fd6 fd7 fd8 : FuncData} (D : Def K mg "_law_told" ["_law_context_here", "_law_way", "_law_numbers", "_law_count_here"] B4h f fd) (D_plus : Def K mg "plus" ["context", "one", "other"] C5v f1 fd1) (G_plus : FnOk P w K mg base (CX1 P w) 8 f1 fd1 ["context", "one", "other"] (Y3p CN CC CT))
   (D_minus : Def K mg "minus" ["context", "one", "other"] B4w f2 fd2) (G_minus : FnOk P w K mg base (CX1 P w) 8 f2 fd2 ["context", "one", "other"] (V0m CN CC CT)) (D_times : Def K mg "times" ["context", "one", "other"] B4p f3 fd3) (G_times : FnOk P w K mg base (CX1 P w) 8 f3 fd3 ["context", "one", "other"] (V0j CN CC CT))
   (D_fused : Def K mg "fused" ["context", "one", "other", "third"] B4v f4 fd4) (G_fused : FnOk P w K mg base (CX1 P w) 8 f4 fd4 ["context", "one", "other", "third"] (V0c CN CC CT)) (D_trimmed : Def K mg "trimmed" ["context", "one"] A2r f5 fd5) (G_trimmed : FnOk P w K mg base (CX1 P w) 7 f5 fd5 ["context", "one"] (D5e CN CC CT)) (D_scaled : Def K mg "scaled" ["context", "one", "count"] A6f f6 fd6) (G_scaled : FnOk P w K mg base (CX1 P w) 8 f6 fd6 ["context", "one", "count"] (G9m CN CC CT))
   (D_lesser : Def K mg "lesser" ["context", "one", "other"] A5t f7 fd7) (G_lesser : FnOk P w K mg base (CX1 P w) 8 f7 fd7 ["context", "one", "other"] (G9q CN CC CT)) (D_greater : Def K mg "greater" ["context", "one", "other"] A3b f8 fd8) (G_greater : FnOk P w K mg base (CX1 P w) 8 f8 fd8 ["context", "one", "other"] (D5j CN CC CT)) : FnOk P w K mg base (CX1 P w) 9 f fd ["_law_context_here", "_law_way", "_law_numbers", "_law_count_here"] (V0t CN CC CT) := by
 refine D.F.okE scLTold (fun vs H Q E h => ?_) (fun X cdv A outer s H vs Q E hX hr hx h => ?_)
 . obtain ⟨c, v, a, b, xs, ys, l, n1, n2, n3, x1, x2, x3, k, m, rfl, _⟩ := h
   rfl
 . subst hX
   obtain ⟨c, v, a, b, xs, ys, l, n1, n2, n3, x1, x2, x3, n, m, rfl, hc, ok, lx, ox, el, tw, m3, h1, h2, h3, o1, o2, o3, c0, c1, k⟩ := h
   refine ⟨_, (A3 (A4d (pv 2) (Y2j rfl (J5 (G7 (i := 4) scLTold.nd rfl (Or.inl rfl)) (J5 (G7 (i := 5) scLTold.nd rfl (Or.inl rfl)) (J5 (G7 (i := 6) scLTold.nd rfl (Or.inl rfl)) A3k)))))
     (A3 (D6 (C5 D9 (pv 1) A2 (B9 _)) (A5 (A9 (C6 D_plus G_plus hr hx (A0 (pv 0) (A0 (pv 4) (A0 (pv 5) A4)))))) C7)
     (A3 (D6 (C5 D9 (pv 1) A2 (B9 _)) (A5 (A9 (C6 D_minus G_minus hr hx (A0 (pv 0) (A0 (pv 4) (A0 (pv 5) A4)))))) C7)
     (A3 (D6 (C5 D9 (pv 1) A2 (B9 _)) (A5 (A9 (C6 D_times G_times hr hx (A0 (pv 0) (A0 (pv 4) (A0 (pv 5) A4)))))) C7)
     (A3 (D6 (C5 D9 (pv 1) A2 (B9 _)) (A5 (A9 (C6 D_fused G_fused hr hx (A0 (pv 0) (A0 (pv 4) (A0 (pv 5) (A0 (pv 6) A4))))))) C7)
     (A3 (D6 (C5 D9 (pv 1) A2 (B9 _)) (A5 (A9 (C6 D_trimmed G_trimmed hr hx (A0 (pv 0) (A0 (pv 4) A4))))) C7)
     (A3 (D6 (C5 D9 (pv 1) A2 (B9 _)) (A5 (A9 (C6 D_scaled G_scaled hr hx (A0 (pv 0) (A0 (pv 4) (A0 (pv 3) A4)))))) C7)
     (A3 (D6 (C5 D9 (pv 1) A2 (B9 _)) (A5 (A9 (C6 D_lesser G_lesser hr hx (A0 (pv 0) (A0 (pv 4) (A0 (pv 5) A4)))))) C7)
     (A5 (A9 (C6 D_greater G_greater hr hx (A0 (pv 0) (A0 (pv 4) (A0 (pv 5) A4)))))))))))))), ?_⟩
   unfold opR at k
   refine ⟨_, rfl, l, _, rfl, SqL.of el, rfl, _, _, rfl, _, _, rfl, _, _, rfl, rfl, ?_⟩
   refine ⟨_, rfl, rfl, _, rfl, J3 (fun h => ?_) (fun h => ?_)⟩
   . rw [if_pos (V.int.inj h)] at k
     exact ⟨_, rfl, _, rfl, _, rfl, c, v, a, b, xs, ys, n1, n2, x1, x2, rfl, hc, ok, lx, ox, tw, h1, h2, o1, o2, k⟩
   rw [if_neg fun z => h (congrArg V.int z)] at k
   clear h
   refine ⟨_, rfl, rfl, _, rfl, J3 (fun h => ?_) (fun h => ?_)⟩
   . rw [if_pos (V.int.inj h)] at k
     exact ⟨_, rfl, _, rfl, _, rfl, c, v, a, b, xs, ys, n1, n2, x1, x2, rfl, hc, ok, lx, ox, tw, h1, h2, o1, o2, k⟩
   rw [if_neg fun z => h (congrArg V.int z)] at k
   clear h
   refine ⟨_, rfl, rfl, _, rfl, J3 (fun h => ?_) (fun h => ?_)⟩
   . rw [if_pos (V.int.inj h)] at k
     exact ⟨_, rfl, _, rfl, _, rfl, c, v, a, b, xs, ys, n1, n2, x1, x2, rfl, hc, ok, lx, ox, tw, h1, h2, o1, o2, k⟩
   rw [if_neg fun z => h (congrArg V.int z)] at k
   clear h
   refine ⟨_, rfl, rfl, _, rfl, J3 (fun h => ?_) (fun h => ?_)⟩
   . rw [if_pos (V.int.inj h)] at k
     exact ⟨_, rfl, _, rfl, _, rfl, _, rfl, c, v, a, b, xs, ys, n1, n2, n3, x1, x2, x3, rfl, hc, ok, lx, ox, tw, m3, h1, h2, h3, o1, o2, o3, k⟩
   rw [if_neg fun z => h (congrArg V.int z)] at k
   clear h
   refine ⟨_, rfl, rfl, _, rfl, J3 (fun h => ?_) (fun h => ?_)⟩
   . rw [if_pos (V.int.inj h)] at k
     exact ⟨_, rfl, _, rfl, c, v, a, b, xs, ys, n1, x1, rfl, hc, ok, lx, ox, tw.1, h1, o1, k⟩
   rw [if_neg fun z => h (congrArg V.int z)] at k
   clear h
   refine ⟨_, rfl, rfl, _, rfl, J3 (fun h => ?_) (fun h => ?_)⟩
   . rw [if_pos (V.int.inj h)] at k
     exact ⟨_, rfl, _, rfl, _, rfl, c, v, a, b, xs, ys, n1, x1, m, rfl, hc, ok, lx, ox, tw.1, h1, o1, c0, c1, k⟩
   rw [if_neg fun z => h (congrArg V.int z)] at k
   clear h
   refine ⟨_, rfl, rfl, _, rfl, J3 (fun h => ?_) (fun h => ?_)⟩
   . rw [if_pos (V.int.inj h)] at k
     exact ⟨_, rfl, _, rfl, _, rfl, c, v, a, b, xs, ys, n1, n2, x1, x2, rfl, hc, ok, lx, ox, tw, h1, h2, o1, o2, k⟩
   rw [if_neg fun z => h (congrArg V.int z)] at k
   clear h
   exact ⟨_, rfl, _, rfl, _, rfl, c, v, a, b, xs, ys, n1, n2, x1, x2, rfl, hc, ok, lx, ox, tw, h1, h2, o1, o2, k⟩
end
def rdS (zs : List Str) : PyData := .list (zs.map PyData.str)
def OkL (zs : List Str) : Prop := zs.length <= 100 /\ ∀ z ∈ zs, PyData.strOk z = true
theorem layS : ∀ {zs : List Str}, (∀ z ∈ zs, PyData.strOk z = true) -> PyData.canLayAll0 (zs.map PyData.str) = true /\ PyData.depthAll (zs.map PyData.str) <= 1
 | [], _ => by simp [PyData.canLayAll0, PyData.depthAll]
 | z :: zs, h => by
   obtain ⟨a, b⟩ := layS (zs := zs) fun z' h' => h z' (List.mem_cons_of_mem _ h')
   have c := h z List.mem_cons_self
   constructor
   . simp [PyData.canLayAll0, PyData.canLay0, c, a]
   . simp only [List.map_cons, PyData.depthAll, PyData.depth]
     omega
theorem shS {zs : List Str} (h : OkL zs) : SeqAt.shaped (rdS zs) = true := by
 obtain ⟨a, b⟩ := layS h.2
 unfold SeqAt.shaped rdS
 simp only [PyData.canLay0, PyData.depth, a, Bool.and_true, Bool.and_eq_true, decide_eq_true_eq, List.length_map]
 exact ⟨trivial, decide_eq_true (by omega)⟩
theorem eqSs : ∀ zs : List Str, PyData.eqv (rdS zs) (rdS zs) = true := by
 have h : ∀ zs : List Str, PyData.eqvAll (zs.map PyData.str) (zs.map PyData.str) = true := fun zs => by
   induction zs with
   | nil => simp [PyData.eqvAll]
   | cons z zs ih => simp [PyData.eqvAll, PyData.eqv, ih]
 intro zs
 simp [rdS, PyData.eqv, h]
theorem rdsS {K : Frag} {H : Hp} : ∀ zs : List Str, RdDs K H (zs.map V.str) (zs.map PyData.str)
 | [] => .nil
 | z :: zs => .cons (.str z) (rdsS zs)
theorem Y2d {K : Frag} {H : Hp} {p : Addr} {zs : List Str} (h : H p = some (.lst (zs.map V.str))) : RdD K H (.ref p) (rdS zs) := .lst (SqL.of h) (rdsS zs)
theorem A0rq : ∀ z ∈ sigS, PyData.strOk z = true := by decide +kernel
def B8t (k : Str) (s f p : Int) : PyData := .tuple [.str k, .int s, .int f, .int p]
theorem shD {k : Str} (s f p : Int) (h : PyData.strOk k = true) : SeqAt.shaped (B8t k s f p) = true := by
 unfold SeqAt.shaped B8t
 simp [PyData.canLay0, PyData.canLayAll0, PyData.depth, PyData.depthAll, h]
theorem eqD (k : Str) (s f p : Int) : PyData.eqv (B8t k s f p) (B8t k s f p) = true := by
 simp [B8t, PyData.eqv, PyData.eqvAll]
theorem rdD {K : Frag} {H : Hp} {d : Addr} {k : Str} {s f p : Int} (h : H d = some (.tup [.str k, .int s, .int f, .int p])) : RdD K H (.ref d) (B8t k s f p) := .tup (SqT.of h) (.cons (.str _) (.cons (.int _) (.cons (.int _) (.cons (.int _) .nil))))
theorem okK (k : Kd) : PyData.strOk k.str = true := by cases k <;> decide +kernel
section
variable {P : Program} {w : World} {K : Frag} {mg : Str -> Option Value} {base : Heap}
abbrev A2p : Stmt := (G8 (top 74) 4)
def B4m (CC : Addr) : Sp := fun vs H Q _ => ∃ c r y l m a b xs ys, vs = [.ref c] /\ CtxAt CC H c r y l m a b xs ys /\ ∀ a' H', Exc c H H' -> H a' = none -> CtxAt CC H' c r y l m a' b [] ys -> Q .non H'
theorem J5m : FnScope ["self"] ["self"] (A1 A2p) := scK
theorem G9r {f CC : Addr} {fd : FuncData} (F : Fun K "clear" "Context.clear" A2p f fd) (C : CtxC K mg CC) : FnOk P w K mg base (CX1 P w) 1 f fd ["self"] (B4m CC) := by
 refine FnOk.up (F.ok J5m (fun vs H Q E h => ?_) (fun cdv A outer s H vs Q E hr h => ?_))
 . obtain ⟨c, r, y, l, m, a, b, xs, ys, rfl, _⟩ := h
   rfl
 . obtain ⟨c, r, y, l, m, a, b, xs, ys, rfl, ⟨⟨dx, e⟩, ha, hb⟩, k⟩ := h
   refine ⟨_, (A5 (Y4 (pv 0) (J2 A4) rfl)), ?_⟩
   refine ⟨Nat.zero_le _, fun p np => ?_⟩
   have u := Same.upd (o := .lst []) np
   refine ⟨_, rfl, c, CC, dx, _, rfl, u _ _ e, C.cl, C.n_risen, by rw [G9n]; decide, ?_⟩
   rw [C6k]
   have nac : p ≠ c := Ne.symm (G2 e np)
   have nbc : b ≠ c := A8r hb e (by intro z; cases z)
   exact k p _ ((Exc.of u).trans Exc.upd) np ⟨⟨dx, A6⟩, by rw [D5 nac]; exact A6, by rw [D5 nbc]; exact u _ _ hb⟩
end
abbrev D7p : Stmt := (top 106)
abbrev U9r : Stmt := (top 42)
abbrev B2k : Stmt := (top 53)
structure Base34 (CN : Addr) (H : Hp) (fq pq lq q1 q2 q3 n1 n2 n3 : Addr) (v : Cv) (x1 x2 x3 : Nm) : Prop where
 fr : FrAt H fq v
 ep : H pq = some (.lst [.ref q1, .ref q2, .ref q3])
 a1 : PartAt H q1 x1
 a2 : PartAt H q2 x2
 a3 : PartAt H q3 x3
 el : H lq = some (.lst [.ref n1, .ref n2, .ref n3])
 m1 : NumIs CN H n1 x1
 m2 : NumIs CN H n2 x2
 m3 : NumIs CN H n3 x3
theorem Base34.same {CN : Addr} {H H' : Hp} {fq pq lq q1 q2 q3 n1 n2 n3 : Addr} {v : Cv} {x1 x2 x3 : Nm} (h : Base34 CN H fq pq lq q1 q2 q3 n1 n2 n3 v x1 x2 x3) (s : Same H H') : Base34 CN H' fq pq lq q1 q2 q3 n1 n2 n3 v x1 x2 x3 :=
 ⟨h.fr.same s, s _ _ h.ep, h.a1.same s, h.a2.same s, h.a3.same s, s _ _ h.el, h.m1.same s, h.m2.same s, h.m3.same s⟩
theorem Base34.exc {CN : Addr} {H H' : Hp} {fq pq lq q1 q2 q3 n1 n2 n3 c C0 d0 : Addr} {v : Cv} {x1 x2 x3 : Nm} {F : List (Str × V)} (h : Base34 CN H fq pq lq q1 q2 q3 n1 n2 n3 v x1 x2 x3) (s : Exc c H H') (ec : H c = some (.ins C0 d0 F)) (c1 : n1 ≠ c) (c2 : n2 ≠ c) (c3 : n3 ≠ c) : Base34 CN H' fq pq lq q1 q2 q3 n1 n2 n3 v x1 x2 x3 := by
 have tp : ∀ {q : Addr} {xs : List V}, H q = some (.tup xs) -> H' q = some (.tup xs) := fun e => s _ _ e (A8r e ec (by intro z; cases z))
 have ls : ∀ {q : Addr} {xs : List V}, H q = some (.lst xs) -> H' q = some (.lst xs) := fun e => s _ _ e (A8r e ec (by intro z; cases z))
 have nu : ∀ {n x}, n ≠ c -> NumIs CN H n x -> NumIs CN H' n x := fun ne ⟨dx, z⟩ => ⟨dx, s _ _ z ne⟩
 exact ⟨⟨tp h.fr.e, h.fr.ok⟩, ls h.ep, ⟨tp h.a1.e, h.a1.g, h.a1.s0, h.a1.s1⟩, ⟨tp h.a2.e, h.a2.g, h.a2.s0, h.a2.s1⟩, ⟨tp h.a3.e, h.a3.g, h.a3.s0, h.a3.s1⟩, ls h.el, nu c1 h.m1, nu c2 h.m2, nu c3 h.m3⟩
theorem V0e {ys : List V} (h : ys.length = 3) : ∃ a b c, ys = [a, b, c] := by
 match ys, h with
 | [a, b, c], _ => exact ⟨a, b, c, rfl⟩
theorem Y1c (zs : List Str) : OkL (V9 zs) := ⟨Nat.le_trans (List.length_filter_le _ _) (by decide +kernel), fun z hz => A0rq z (List.mem_filter.mp hz).1⟩
def G9t (x1 x2 x3 : Nm) : PyData := .list [B8t x1.k.str x1.s x1.f x1.p, B8t x2.k.str x2.s x2.f x2.p, B8t x3.k.str x3.s x3.f x3.p]
theorem sh3 (x1 x2 x3 : Nm) : SeqAt.shaped (G9t x1 x2 x3) = true := by
 unfold SeqAt.shaped G9t B8t
 simp [PyData.canLay0, PyData.canLayAll0, PyData.depth, PyData.depthAll, okK]
theorem eq3 (x1 x2 x3 : Nm) : PyData.eqv (G9t x1 x2 x3) (G9t x1 x2 x3) = true := by
 simp [G9t, B8t, PyData.eqv, PyData.eqvAll]
theorem rd3 {K : Frag} {H : Hp} {d t1 t2 t3 : Addr} {x1 x2 x3 : Nm} (h : H d = some (.lst [.ref t1, .ref t2, .ref t3])) (h1 : H t1 = some (.tup x1.vs)) (h2 : H t2 = some (.tup x2.vs)) (h3 : H t3 = some (.tup x3.vs)) : RdD K H (.ref d) (G9t x1 x2 x3) :=
 .lst (SqL.of h) (.cons (rdD h1) (.cons (rdD h2) (.cons (rdD h3) .nil)))
def Y1j {α : Type} (a b c : α) : Nat -> α
 | 0 => a
 | 1 => b
 | _ => c
theorem get3 {a b c x : V} {i : Nat} (h : [a, b, c][i]? = some x) : i < 3 /\ x = Y1j a b c i := by
 rcases i with _ | _ | _ | i
 . cases h; exact ⟨by decide, rfl⟩
 . cases h; exact ⟨by decide, rfl⟩
 . cases h; exact ⟨by decide, rfl⟩
 . cases h
theorem at3' {a b c : V} {i : Nat} (h : i < 3) : [a, b, c][i]? = some (Y1j a b c i) := by
 rcases (by omega : i = 0 \/ i = 1 \/ i = 2) with rfl | rfl | rfl <;> rfl
section
variable {P : Program} {w : World} {K : Frag} {mg : Str -> Option Value} {base : Heap}
def U9n (K : Frag) : Sp := fun vs H Q _ => ∃ a ns, vs = [.ref a] /\ (ns : List Int).length <= 63 /\ SqL K H a (ns.map V.int) /\ ∀ H', Q (.bl true) H'
theorem scLaw : FnScope ["_law_script", "_law_frame_here", "_law_parts", "_law_more", "_law_near", "_law_numbers", "_law_count_here", "_law_context_here", "_law_k", "_law_way", "_law_due_here", "_law_names", "_law_found"] ["_law_script"] (A1 D7p) := scK
theorem A0kc {f f1 f2 f3 f4 f5 f6 f7 f8 f9 CC CN CB CT : Addr} {fd fd1 fd2 fd3 fd4 fd5 fd6 fd7 fd8 fd9 : FuncData} (D : Def K mg "law" ["_law_script"] D7p f fd)
   (D_l_cell_at : Def K mg "_law_cell_at" ["_law_script", "_law_k"] C5t f1 fd1) (G_l_cell_at : FnOk P w K mg base (CX1 P w) 1 f1 fd1 ["_law_script", "_law_k"] (Y1f K)) (D_l_mixed : Def K mg "_law_mixed" ["_law_cell", "_law_k"] A5w f2 fd2) (G_l_mixed : FnOk P w K mg base (CX1 P w) 1 f2 fd2 ["_law_cell", "_law_k"] C5b)
   (D_l_frame : Def K mg "_law_frame" ["_law_cell"] A5y f3 fd3) (G_l_frame : FnOk P w K mg base (CX1 P w) 1 f3 fd3 ["_law_cell"] J0e) (D_l_plain : Def K mg "_law_plain" ["_law_cell", "_law_most"] A5x f4 fd4) (G_l_plain : FnOk P w K mg base (CX1 P w) 3 f4 fd4 ["_law_cell", "_law_most"] G9a)
   (D_l_context : Def K mg "_law_context" ["_law_frame_here"] C5j f5 fd5) (G_l_context : FnOk P w K mg base (CX1 P w) 5 f5 fd5 ["_law_frame_here"] (Y4a CC)) (D_l_due : Def K mg "_law_due" ["_law_frame_here", "_law_way", "_law_parts", "_law_count_here"] C5s f6 fd6) (G_l_due : FnOk P w K mg base (CX1 P w) 7 f6 fd6 ["_law_frame_here", "_law_way", "_law_parts", "_law_count_here"] Y0p)
   (D_l_told : Def K mg "_law_told" ["_law_context_here", "_law_way", "_law_numbers", "_law_count_here"] B4h f7 fd7) (G_l_told : FnOk P w K mg base (CX1 P w) 9 f7 fd7 ["_law_context_here", "_law_way", "_law_numbers", "_law_count_here"] (V0t CN CC CT))
   (D_plain : Def K mg "plain" ["sign", "figures", "power"] B4s f8 fd8) (G_plain : FnOk P w K mg base (CX1 P w) 3 f8 fd8 ["sign", "figures", "power"] (U9g K CN CB)) (D_told : Def K mg "told" ["number"] C5k f9 fd9) (G_told : FnOk P w K mg base (CX1 P w) 2 f9 fd9 ["number"] (Y2e K CN CB))
   (C : CtxC K mg CC) (MF : Has P w K mg base CC "flags" 1 ["self"] (B4a CC)) (ME : Has P w K mg base CC "clear" 1 ["self"] (B4m CC)) (O : Own mg) : FnOk P w K mg base (CX1 P w) 10 f fd ["_law_script"] (U9n K) := by
 refine D.F.okE scLaw (fun vs H Q E h => ?_) (fun X cdv A outer s H vs Q E hX hr hx h => ?_)
 . obtain ⟨a, ns, rfl, _⟩ := h
   rfl
 . subst hX
   obtain ⟨sc, ns, rfl, n63, hS, kk⟩ := h
   obtain ⟨ff, fdf, mf, gf, bf⟩ := MF
   obtain ⟨fe, fde, me, ge, be⟩ := ME
   refine ⟨_, (A3 (B8 (C9 (i := 1) scLaw.nd rfl (Or.inl rfl) (C6 D_l_frame G_l_frame hr hx (A0 (C6 D_l_mixed G_l_mixed hr hx (A0 (C6 D_l_cell_at G_l_cell_at hr hx (A0 (pv 0) (A0 A2 A4))) (A0 A2 A4))) A4))))
     (A3 (B8 (V2z (i := 2) (N := ["_law_k"]) (F := ["_law_script"]) (js := [0]) (CompScopeF.of1 ⟨rfl, by decide +kernel, by decide +kernel, by decide +kernel, by decide +kernel⟩ (by rfl) (by rfl) ⟨_, by rfl⟩ (by rfl) (by rfl)) (.inl hr.hd) rfl (B2m rfl O.range_ (A0 A2 A4)) rfl (fun C s₀ H₀ ex pn h => G7 (i := 0) (by decide +kernel : (["_law_k", "_law_script"] : List Str).Nodup) rfl (Or.inl rfl)) (fun C s₀ H₀ ex pn h => (D7v D_l_plain G_l_plain hr (A0 (D7v D_l_cell_at G_l_cell_at hr (A0 (pv 1) (A0 (B5 G9 A2 (pv 0)) A4))) (A0 A2 A4)))) scLaw.nd rfl (Or.inl rfl)))
     (A3 (B8 (C9 (i := 3) scLaw.nd rfl (Or.inl rfl) (C6 D_l_mixed G_l_mixed hr hx (A0 (C6 D_l_cell_at G_l_cell_at hr hx (A0 (pv 0) (A0 A2 A4))) (A0 A2 A4)))))
     (A3 (B8 (D6 (C5 D9 (B5 J0 (pv 3) A2) A2 (B9 _)) (A5 (B8 (A4d (V0 (A0 (B5 J1 A2 (D7 D8 (D7 V4 (pv 2) A2 (fun _ _ => rfl)) A2 (fun _ _ => rfl))) (A0 (D7 D8 (D7 V4 (pv 2) A2 (fun _ _ => rfl)) A2 (fun _ _ => rfl)) (A0 (D7 D8 (D7 V4 (pv 2) A2 (fun _ _ => rfl)) A2 (fun _ _ => rfl)) A4)))) (Y0k (pv 2) A2 J0c)))) C7))
     (A3 (B8 (D6 (C5 D9 (B5 J0 (pv 3) A2) A2 (B9 _)) (A3 (B8 (C9 (i := 4) scLaw.nd rfl (Or.inl rfl) (U2 (C5 B3j (J7 C6b (by rfl) O.abs_ boot_abs (A0 (D7 D8 (D7 V4 (pv 2) A2 (fun _ _ => rfl)) A2 (fun _ _ => rfl)) A4)) A2 (B9 _)) (B5 J1 (B5 J0 (B5 G3 (pv 3) A2) A2) A2) A2)))
     (A5 (B8 (A4d (V0 (A0 (D7 D8 (D7 V4 (pv 2) A2 (fun _ _ => rfl)) A2 (fun _ _ => rfl)) (A0 (D7 D8 (D7 V4 (pv 2) A2 (fun _ _ => rfl)) A2 (fun _ _ => rfl)) (A0 (B5 G9 (D7 D8 (D7 V4 (pv 2) A2 (fun _ _ => rfl)) A2 (fun _ _ => rfl)) (pv 4)) A4)))) (Y0k (pv 2) A2 J0c))))) C7))
     (A3 (B8 (Y1s (i := 5) (N := ["_law_part"]) ⟨rfl, by decide +kernel, by decide +kernel, by decide +kernel, by decide +kernel⟩ (.inl hr.hd) (B7a (pv 2)) rfl (fun C s₀ H₀ ex pn h => G7 (i := 0) (by decide +kernel : (["_law_part"] : List Str).Nodup) rfl (Or.inl rfl)) (fun C s₀ H₀ ex pn h => (D7v D_plain G_plain hr (A0 (D7 (B2q (K := K) rfl) (pv 0) A2 (fun _ _ => rfl)) (A0 (D7 (B2q (K := K) rfl) (pv 0) A2 (fun _ _ => rfl)) (A0 (D7 (B2q (K := K) rfl) (pv 0) A2 (fun _ _ => rfl)) A4))))) scLaw.nd rfl rfl))
     (A3 (B8 (C9 (i := 6) scLaw.nd rfl (Or.inl rfl) (B5 J1 (B5 J0 (B5 G3 (pv 3) A2) A2) A2)))
     (A3 (B8 (C9 (i := 7) scLaw.nd rfl (Or.inl rfl) (C6 D_l_context G_l_context hr hx (A0 (pv 1) A4))))
     (A3 (B8 (B8v PassesOwn.leaving rfl (B2m rfl O.range_ (A0 A2 A4)) (G7 (i := 8) scLaw.nd rfl (Or.inl rfl)) (A3 (B8 (C9 (i := 9) scLaw.nd rfl (Or.inl rfl) (B5 J0 (B5 G9 (B5 G3 (pv 3) A2) (B5 G4 (pv 8) (B5 G9 A2 (B5 G4 A2 (B5 J0 (B5 G3 (pv 3) A2) A2))))) A2)))
     (A3 (B8 (A4d (C6 D_l_due G_l_due hr hx (A0 (pv 1) (A0 (pv 9) (A0 (pv 2) (A0 (pv 6) A4))))) (B8j rfl (J5 (G7 (i := 10) scLaw.nd rfl (Or.inl rfl)) (J5 (G7 (i := 11) scLaw.nd rfl (Or.inl rfl)) A3k)))))
     (A3 (B8 (C9 (i := 12) scLaw.nd rfl (Or.inl rfl) (C6 D_l_told G_l_told hr hx (A0 (pv 7) (A0 (pv 9) (A0 (pv 5) (A0 (pv 6) A4)))))))
     (A3 (B8 (D6 (PW.pt (G9h (C5 (J7g hr.units) (C6 D_told G_told hr hx (A0 (pv 12) A4)) (pv 10) (B9 _)) (C5p (C5 (J7g hr.units) (A3d (pv 7) C.cl mf gf hr bf .nil hx) (pv 11) (B9 _))))) (A5 (A9 A4m)) C7))
     (A3 (B8 (U8 (A3d (pv 7) C.cl me ge hr be .nil hx)))
     (A5 (B8 (D6 (C5 (J7g hr.units) (G9g (N := ["_law_number"]) ⟨rfl, by decide +kernel, by decide +kernel, by decide +kernel, by decide +kernel⟩ (.inl hr.hd) (B7a (pv 5)) rfl (fun C s₀ H₀ ex pn h => G7 (i := 0) (by decide +kernel : (["_law_number"] : List Str).Nodup) rfl (Or.inl rfl)) (fun C s₀ H₀ ex pn h => (D7v D_told G_told hr (A0 (pv 0) A4)))) (G9g (N := ["_law_part"]) ⟨rfl, by decide +kernel, by decide +kernel, by decide +kernel, by decide +kernel⟩ (.inl hr.hd) (B7a (pv 2)) rfl (fun C s₀ H₀ ex pn h => G7 (i := 0) (by decide +kernel : (["_law_part"] : List Str).Nodup) rfl (Or.inl rfl)) (fun C s₀ H₀ ex pn h => (V0 (A0 C8 (A0 (D7 (B2q (K := K) rfl) (pv 0) A2 (fun _ _ => rfl)) (A0 (D7 (B2q (K := K) rfl) (pv 0) A2 (fun _ _ => rfl)) (A0 (D7 (B2q (K := K) rfl) (pv 0) A2 (fun _ _ => rfl)) A4))))))) (B9 _)) (A5 (A9 A4m)) C7))))))))))
     (A5 (A9 A4m))))))))))), ?_⟩
   have z3 : 3 <= sizeLine := D3 (by decide)
   have z4 : 4 <= sizeLine := D3 (by decide)
   have mC' : ∀ z n : Int, -(2 ^ 64) < n -> n < 2 ^ 64 -> IntMulOk n z := fun z n a b => CMul.ok (.inl ⟨a, b⟩)
   refine ⟨fun σ' H' => ∃ fq v, Same H H' /\ FrAt H' fq v /\ σ' = [some (.ref sc), some (.ref fq), none, none, none, none, none, none, none, none, none, none, none], ?_, ?_⟩
   . exact ⟨_, rfl, sc, ns, 0, rfl, hS, by decide, fun c0 => ⟨c0, 0, rfl, by decide, by decide, fun m m0 _ => ⟨m, rfl, m0, fun r y l m q H' fo s' e => ⟨q, ⟨r, y, l, m⟩, s', ⟨e, fo⟩, rfl⟩⟩⟩⟩
   rintro σ' H1 ⟨fq, v, s1, fr, rfl⟩
   refine ⟨fun σ' H' => ∃ pq q1 q2 q3 x1 x2 x3, Same H H' /\ H pq = none /\ FrAt H' fq v /\ H' pq = some (.lst [.ref q1, .ref q2, .ref q3]) /\ PartAt H' q1 x1 /\ PartAt H' q2 x2 /\ PartAt H' q3 x3 /\ x1.k = .plain /\ x2.k = .plain /\ x3.k = .plain /\ x1.Ok /\ x2.Ok /\ x3.Ok /\ σ' = [some (.ref sc), some (.ref fq), some (.ref pq), none, none, none, none, none, none, none, none, none, none], ?_, ?_⟩
   . refine ⟨3, rfl, by decide, by decide, A4t (J := Itr 0 3) (n := 3) (fun _ y H' => ∃ q x, y = .ref q /\ PartAt H' q x /\ x.k = .plain /\ x.Ok) (by decide) (fun i y H1 H2 D l h hD e => ?_) (fun i H2 Qy hi sm hy => ⟨hi, fun x H3 yl => ?_⟩) (fun H2 sm => Nat.le_refl _) (fun D H' ys sm nD eD hlen hR => ?_)⟩
     . obtain ⟨q, x, rfl, pa, hk, xo⟩ := h
       exact ⟨q, x, rfl, ⟨e _ _ pa.e (A8r pa.e hD (by intro z; cases z)), pa.g, pa.s0, pa.s1⟩, hk, xo⟩
     . obtain ⟨rfl, rfl⟩ := yl
       exact ⟨_, rfl, _, rfl, _, _, rfl, rfl, sc, ns, _, rfl, (s1.trans sm).seq hS, by omega, fun c => ⟨c, 60, rfl, by decide, by decide, fun x q H' hk xo _ s' e => hy _ _ s' ⟨q, x, rfl, ⟨e, xo.bg, xo.s0, xo.s1⟩, hk, xo⟩⟩⟩
     . obtain ⟨y1, y2, y3, rfl⟩ := V0e hlen
       obtain ⟨q1, x1, rfl, p1, k1, o1⟩ := hR 0 _ rfl
       obtain ⟨q2, x2, rfl, p2, k2, o2⟩ := hR 1 _ rfl
       obtain ⟨q3, x3, rfl, p3, k3, o3⟩ := hR 2 _ rfl
       exact ⟨D, q1, q2, q3, x1, x2, x3, s1.trans sm, s1.free nD, fr.same sm, eD, p1, p2, p3, k1, k2, k3, o1, o2, o3, rfl⟩
   clear fr s1
   rintro σ' H2 ⟨pq, q1, q2, q3, x1, x2, x3, s2, np, fr, ep, p1, p2, p3, k1, k2, k3, o1, o2, o3, rfl⟩
   refine ⟨fun σ' H' => ∃ m : Int, H' = H2 /\ 0 <= m /\ σ' = [some (.ref sc), some (.ref fq), some (.ref pq), some (.int m), none, none, none, none, none, none, none, none, none], ⟨_, rfl, sc, ns, 4, rfl, s2.seq hS, by decide, fun c0 => ⟨c0, 4, rfl, by decide, by decide, fun m m0 _ => ⟨m, rfl, m0, rfl⟩⟩⟩, ?_⟩
   rintro σ' H3 ⟨m, rfl, m0, rfl⟩
   have put : ∀ {G : Hp} {q : Addr} {z1 z2 : Nm} {qq : Addr}, Same H G -> G q = none -> FrAt G fq v -> G pq = some (.lst [.ref q1, .ref qq, .ref q3]) -> PartAt G q1 z1 -> PartAt G q3 x3 -> ∀ z : Nm, z.Bg -> 0 <= z.s -> z.s <= 1 ->
       Same H (upd (upd G q (.tup z.pv)) pq (.lst [.ref q1, .ref q, .ref q3])) /\ FrAt (upd (upd G q (.tup z.pv)) pq (.lst [.ref q1, .ref q, .ref q3])) fq v /\ PartAt (upd (upd G q (.tup z.pv)) pq (.lst [.ref q1, .ref q, .ref q3])) q1 z1 /\ PartAt (upd (upd G q (.tup z.pv)) pq (.lst [.ref q1, .ref q, .ref q3])) q z /\ PartAt (upd (upd G q (.tup z.pv)) pq (.lst [.ref q1, .ref q, .ref q3])) q3 x3 := fun {G q z1 z2 qq} sG nq f e a1 a3 z zg z0 z1' => by
     have u := Same.upd (o := .tup z.pv) nq
     have tp : ∀ {b : Addr} {xs : List V}, (upd G q (.tup z.pv)) b = some (.tup xs) -> (upd (upd G q (.tup z.pv)) pq (.lst [.ref q1, .ref q, .ref q3])) b = some (.tup xs) := fun e' => by rw [D5 (A8r e' (u _ _ e) (by intro z; cases z))]; exact e'
     refine ⟨fun b o hb => ?_, ⟨tp (u _ _ f.e), f.ok⟩, ⟨tp (u _ _ a1.e), a1.g, a1.s0, a1.s1⟩, ⟨tp A6, zg, z0, z1'⟩, ⟨tp (u _ _ a3.e), a3.g, a3.s0, a3.s1⟩⟩
     rw [D5 (G2 hb np)]
     exact u _ _ (sG _ _ hb)
   refine ⟨fun σ' H' => ∃ q2 x2, Same H H' /\ FrAt H' fq v /\ H' pq = some (.lst [.ref q1, .ref q2, .ref q3]) /\ PartAt H' q1 x1 /\ PartAt H' q2 x2 /\ PartAt H' q3 x3 /\ x2.k = .plain /\ x2.Ok /\ σ' = [some (.ref sc), some (.ref fq), some (.ref pq), some (.int m), none, none, none, none, none, none, none, none, none], ?_, ?_⟩
   . refine ⟨_, rfl, _, _, rfl, rfl, (by decide : (0 : Int) < 4), rfl, _, rfl, J3 (fun h => ?_) (fun h => ⟨q2, x2, s2, fr, ep, p1, p2, p3, k2, o2, rfl⟩)⟩
     refine ⟨_, ?_, fun _ _ h => h⟩
     refine ⟨_, rfl, pq, _, _, _, rfl, rfl, SqL.of ep, B7 (j := 0) rfl, q1, _, _, _, rfl, rfl, SqT.of p1.e, B7 (j := 0) rfl, _, _, rfl, rfl, _, rfl, pq, _, _, _, rfl, rfl, SqL.of ep, B7 (j := 0) rfl, q1, _, _, _, rfl, rfl, SqT.of p1.e, B7 (j := 1) rfl, _, rfl, pq, _, _, _, rfl, rfl, SqL.of ep, B7 (j := 0) rfl, q1, _, _, _, rfl, rfl, SqT.of p1.e, B7 (j := 2) rfl, z3, fun q nq => ?_⟩
     have s0 := o1.s0; have s1 := o1.s1
     obtain ⟨c1, c2, c3, c4, c5⟩ := put (z2 := x2) s2 nq fr ep p1 p3 (J6y x1) ⟨p1.g.f0, p1.g.f1, p1.g.p0, p1.g.p1⟩ (by show 0 <= 1 - x1.s; omega) (by show 1 - x1.s <= 1; omega)
     exact ⟨_, rfl, pq, _, 1, 1, rfl, rfl, (Same.upd nq) _ _ ep, rfl, q, J6y x1, c1, c2, A6, c3, c4, c5, k1, ⟨by show 0 <= 1 - x1.s; omega, by show 1 - x1.s <= 1; omega, o1.f0, o1.f1, o1.p0, o1.p1⟩, rfl⟩
   clear s2 fr ep p1 p2 p3 k2 o2
   rintro σ' H4 ⟨q2, x2, s2, fr, ep, p1, p2, p3, k2, o2, rfl⟩
   refine ⟨fun σ' H' => ∃ q2 x2 v4, Same H H' /\ FrAt H' fq v /\ H' pq = some (.lst [.ref q1, .ref q2, .ref q3]) /\ PartAt H' q1 x1 /\ PartAt H' q2 x2 /\ PartAt H' q3 x3 /\ x2.k = .plain /\ x2.Ok /\ σ' = [some (.ref sc), some (.ref fq), some (.ref pq), some (.int m), v4, none, none, none, none, none, none, none, none], ?_, ?_⟩
   . refine ⟨_, rfl, _, _, rfl, rfl, (by decide : (0 : Int) < 4), rfl, _, rfl, J3 (fun h => ?_) (fun h => ⟨q2, x2, none, s2, fr, ep, p1, p2, p3, k2, o2, rfl⟩)⟩
     have pl := o1.p0; have ph := o1.p1
     refine ⟨fun σ' H' => ∃ e : Int, H' = H4 /\ -200 <= x1.p + e /\ x1.p + e <= 200 /\ σ' = [some (.ref sc), some (.ref fq), some (.ref pq), some (.int m), some (.int e), none, none, none, none, none, none, none, none], ?_, ?_⟩
     . refine ⟨_, rfl, pq, _, _, _, rfl, rfl, SqL.of ep, B7 (j := 0) rfl, q1, _, _, _, rfl, rfl, SqT.of p1.e, B7 (j := 2) rfl, _, rfl, _, _, rfl, rfl, _, rfl, J3 (fun h => ?_) (fun h => ⟨0, rfl, by omega, by omega, rfl⟩)⟩
       have h : (if x1.p < 0 then -x1.p else x1.p) < 200 := h
       have b0 := Int.emod_nonneg (m / 4) (by decide : (3 : Int) ≠ 0)
       have b1 := Int.emod_lt_of_pos (m / 4) (by decide : (0 : Int) < 3)
       refine ⟨_, rfl, _, _, rfl, rfl, dv (n := 4) (by decide) (by decide +kernel), _, _, rfl, rfl, (by decide : (0 : Int) < 3), _, _, rfl, rfl, _, rfl, ?_, ?_, rfl⟩
       . split at h <;> omega
       . split at h <;> omega
     rintro σ' H5 ⟨e, rfl, e0, e1, rfl⟩
     refine ⟨_, ?_, fun _ _ h => h⟩
     refine ⟨_, rfl, pq, _, _, _, rfl, rfl, SqL.of ep, B7 (j := 1) rfl, q2, _, _, _, rfl, rfl, SqT.of p2.e, B7 (j := 0) rfl, _, rfl, pq, _, _, _, rfl, rfl, SqL.of ep, B7 (j := 1) rfl, q2, _, _, _, rfl, rfl, SqT.of p2.e, B7 (j := 1) rfl, _, rfl, pq, _, _, _, rfl, rfl, SqL.of ep, B7 (j := 0) rfl, q1, _, _, _, rfl, rfl, SqT.of p1.e, B7 (j := 2) rfl, _, rfl, _, _, rfl, rfl, z3, fun q nq => ?_⟩
     obtain ⟨c1, c2, c3, c4, c5⟩ := put (z2 := x2) s2 nq fr ep p1 p3 ⟨.plain, x2.s, x2.f, x1.p + e⟩ ⟨p2.g.f0, p2.g.f1, by show -400 <= x1.p + e; omega, by show x1.p + e <= 400; omega⟩ p2.s0 p2.s1
     exact ⟨_, rfl, pq, _, 1, 1, rfl, rfl, (Same.upd nq) _ _ ep, rfl, q, ⟨.plain, x2.s, x2.f, x1.p + e⟩, _, c1, c2, A6, c3, c4, c5, rfl, ⟨o2.s0, o2.s1, o2.f0, o2.f1, e0, e1⟩, rfl⟩
   clear s2 fr ep p1 p2 p3 k2 o2 put
   rintro σ' H5 ⟨q2, x2, v4, s2, fr, ep, p1, p2, p3, k2, o2, rfl⟩
   refine ⟨fun σ' H' => ∃ lq n1 n2 n3, Same H H' /\ Base34 CN H' fq pq lq q1 q2 q3 n1 n2 n3 v x1 x2 x3 /\ σ' = [some (.ref sc), some (.ref fq), some (.ref pq), some (.int m), v4, some (.ref lq), none, none, none, none, none, none, none], ?_, ?_⟩
   . refine ⟨_, rfl, pq, rfl, ⟨_, SqL.of ep⟩, A4t (J := Itl K pq) (n := 3) (fun i y H' => ∃ n, y = .ref n /\ NumIs CN H' n (Y1j x1 x2 x3 i)) (by decide) (fun i y H1 H2 D l h hD e => ?_) (fun i H3 Qy hi sm hy => ⟨⟨_, _, SqL.of (sm _ _ ep), at3' hi⟩, fun x H4 yl => ?_⟩) (fun H3 sm => ⟨_, SqL.of (sm _ _ ep), Nat.le_refl _⟩) (fun D H' ys sm nD eD hlen hR => ?_)⟩
     . obtain ⟨n, rfl, hn⟩ := h
       exact ⟨n, rfl, hn.exc hD e⟩
     . obtain ⟨rfl, yl⟩ := yl
       have ex := (get3 (yl _ (SqL.of (sm _ _ ep)))).2
       subst ex
       rcases (by omega : i = 0 \/ i = 1 \/ i = 2) with rfl | rfl | rfl
       . have e := sm _ _ p1.e
         exact ⟨_, rfl, q1, _, _, _, rfl, rfl, SqT.of e, B7 (j := 0) rfl, _, rfl, q1, _, _, _, rfl, rfl, SqT.of e, B7 (j := 1) rfl, _, rfl, q1, _, _, _, rfl, rfl, SqT.of e, B7 (j := 2) rfl, _, _, _, rfl, .inl ⟨⟨_, rfl, o1.s0, o1.s1⟩, ⟨_, rfl, o1.f0, o1.f1⟩, ⟨_, rfl, o1.p0, o1.p1⟩, fun n H' nn s' num => hy _ _ s' ⟨n, rfl, by show NumIs CN H' n x1; unfold NumIs; rw [k1]; exact num⟩⟩⟩
       . have e := sm _ _ p2.e
         exact ⟨_, rfl, q2, _, _, _, rfl, rfl, SqT.of e, B7 (j := 0) rfl, _, rfl, q2, _, _, _, rfl, rfl, SqT.of e, B7 (j := 1) rfl, _, rfl, q2, _, _, _, rfl, rfl, SqT.of e, B7 (j := 2) rfl, _, _, _, rfl, .inl ⟨⟨_, rfl, o2.s0, o2.s1⟩, ⟨_, rfl, o2.f0, o2.f1⟩, ⟨_, rfl, o2.p0, o2.p1⟩, fun n H' nn s' num => hy _ _ s' ⟨n, rfl, by show NumIs CN H' n x2; unfold NumIs; rw [k2]; exact num⟩⟩⟩
       . have e := sm _ _ p3.e
         exact ⟨_, rfl, q3, _, _, _, rfl, rfl, SqT.of e, B7 (j := 0) rfl, _, rfl, q3, _, _, _, rfl, rfl, SqT.of e, B7 (j := 1) rfl, _, rfl, q3, _, _, _, rfl, rfl, SqT.of e, B7 (j := 2) rfl, _, _, _, rfl, .inl ⟨⟨_, rfl, o3.s0, o3.s1⟩, ⟨_, rfl, o3.f0, o3.f1⟩, ⟨_, rfl, o3.p0, o3.p1⟩, fun n H' nn s' num => hy _ _ s' ⟨n, rfl, by show NumIs CN H' n x3; unfold NumIs; rw [k3]; exact num⟩⟩⟩
     . obtain ⟨y1, y2, y3, rfl⟩ := V0e hlen
       obtain ⟨n1, rfl, h1⟩ := hR 0 _ rfl
       obtain ⟨n2, rfl, h2⟩ := hR 1 _ rfl
       obtain ⟨n3, rfl, h3⟩ := hR 2 _ rfl
       exact ⟨D, n1, n2, n3, s2.trans sm, ⟨fr.same sm, sm _ _ ep, p1.same sm, p2.same sm, p3.same sm, eD, h1, h2, h3⟩, rfl⟩
   clear s2 fr ep p1 p2 p3
   rintro σ' H6 ⟨lq, n1, n2, n3, s6, b6, rfl⟩
   refine ⟨fun σ' H' => ∃ ct : Int, H' = H6 /\ -100 <= ct /\ ct <= 100 /\ σ' = [some (.ref sc), some (.ref fq), some (.ref pq), some (.int m), v4, some (.ref lq), some (.int ct), none, none, none, none, none, none], ?_, ?_⟩
   . have b0 := Int.emod_nonneg (m / 12) (by decide : (201 : Int) ≠ 0)
     have b1 := Int.emod_lt_of_pos (m / 12) (by decide : (0 : Int) < 201)
     exact ⟨_, rfl, _, _, rfl, rfl, dv (n := 12) (by decide) (by decide +kernel), _, _, rfl, rfl, (by decide : (0 : Int) < 201), _, _, rfl, rfl, _, rfl, by omega, by omega, rfl⟩
   rintro σ' H7 ⟨ct, rfl, t0, t1, rfl⟩
   refine ⟨fun σ' H' => ∃ c a b, Same H H' /\ Base34 CN H' fq pq lq q1 q2 q3 n1 n2 n3 v x1 x2 x3 /\ CtxV CC H' c v a b [] [] /\ n1 ≠ c /\ n2 ≠ c /\ n3 ≠ c /\ σ' = [some (.ref sc), some (.ref fq), some (.ref pq), some (.int m), v4, some (.ref lq), some (.int ct), some (.ref c), none, none, none, none, none], ?_, ?_⟩
   . refine ⟨_, rfl, fq, v.r, v.y, v.l, v.m, rfl, b6.fr.e, b6.fr.ok, fun c a b H' nc s' hc => ⟨c, a, b, s6.trans s', b6.same s', hc, ?_, ?_, ?_, rfl⟩⟩
     . obtain ⟨dx, e⟩ := b6.m1; exact G2 e nc
     . obtain ⟨dx, e⟩ := b6.m2; exact G2 e nc
     . obtain ⟨dx, e⟩ := b6.m3; exact G2 e nc
   clear b6
   rintro σ' H8 ⟨c, a, b, s8, b8, hc8, nc1, nc2, nc3, rfl⟩
   refine ⟨fun _ _ => True, ?_, fun _ _ _ => kk _⟩
   refine ⟨8, rfl, by decide, by decide, B8k (n := 8) (fun i σ' H' => ∃ a v8 v9 v10 v11 v12, Base34 CN H' fq pq lq q1 q2 q3 n1 n2 n3 v x1 x2 x3 /\ CtxV CC H' c v a b [] [] /\ σ' = [some (.ref sc), some (.ref fq), some (.ref pq), some (.int m), v4, some (.ref lq), some (.int ct), some (.ref c), v8, v9, v10, v11, v12]) ⟨a, none, none, none, none, none, b8, hc8, rfl⟩ ?_ (fun _ _ _ => trivial)⟩
   clear b8 hc8 s8 a
   rintro i σ' H9 hi ⟨a, v8, v9, v10, v11, v12, b9, hc9, rfl⟩
   refine ⟨fun σ' H' => ∃ wy : Int, H' = H9 /\ 0 <= wy /\ wy <= 7 /\ σ' = [some (.ref sc), some (.ref fq), some (.ref pq), some (.int m), v4, some (.ref lq), some (.int ct), some (.ref c), some (.int (0 + (i : Int))), some (.int wy), v10, v11, v12], ?_, ?_⟩
   . refine ⟨_, rfl, _, _, rfl, rfl, dv (n := 2412) (by decide) (by decide +kernel), _, rfl, _, rfl, _, _, rfl, rfl, dv (n := 19296) (by decide) (by decide +kernel), _, _, rfl, rfl, (by decide : (0 : Int) < 4), _, _, rfl, rfl, mC' _ _ (by decide) (by decide), _, _, rfl, rfl, _, _, rfl, rfl, mC' _ _ (by omega) (by omega), _, _, rfl, rfl, _, _, rfl, rfl, (by decide : (0 : Int) < 8), _, rfl, Int.emod_nonneg _ (by decide), ?_, rfl⟩
     have := Int.emod_lt_of_pos (m / 2412 + (0 + (i : Int)) * (1 + 2 * (m / 19296 % 4))) (by decide : (0 : Int) < 8)
     omega
   rintro σ' H10 ⟨wy, rfl, w0, w7, rfl⟩
   have ok := b9.fr.cv
   refine ⟨fun σ' H' => ∃ dt dl, Same H10 H' /\ H' dt = some (.tup (opR v wy x1 x2 x3 ct).1.vs) /\ H' dl = some (.lst ((V9 (opR v wy x1 x2 x3 ct).2).map V.str)) /\ σ' = [some (.ref sc), some (.ref fq), some (.ref pq), some (.int m), v4, some (.ref lq), some (.int ct), some (.ref c), some (.int (0 + (i : Int))), some (.int wy), some (.ref dt), some (.ref dl), v12], ?_, ?_⟩
   . exact ⟨_, rfl, _, rfl, _, rfl, _, rfl, fq, v, pq, q1, q2, q3, x1, x2, x3, wy, ct, rfl, b9.fr, b9.ep, b9.a1, b9.a2, b9.a3, o1, o2, o3, w0, w7, t0, t1, fun q H' s' ⟨dt, dl, eq, et, el⟩ => ⟨q, _, rfl, SqT.of eq, rfl, _, _, rfl, _, _, rfl, rfl, dt, dl, s', et, el, rfl⟩⟩
   rintro σ' H11 ⟨dt, dl, s11, et, el, rfl⟩
   have b11 := b9.same s11
   have hc11 := hc9.same s11
   obtain ⟨dx, ec⟩ := hc11.ins
   generalize hop : opR v wy x1 x2 x3 ct = op at *
   refine ⟨fun σ' H' => ∃ fm a, Base34 CN H' fq pq lq q1 q2 q3 n1 n2 n3 v x1 x2 x3 /\ CtxV CC H' c v a b (V9 op.2) [] /\ NumIs CN H' fm op.1 /\ H' dt = some (.tup op.1.vs) /\ H' dl = some (.lst ((V9 op.2).map V.str)) /\ σ' = [some (.ref sc), some (.ref fq), some (.ref pq), some (.int m), v4, some (.ref lq), some (.int ct), some (.ref c), some (.int (0 + (i : Int))), some (.int wy), some (.ref dt), some (.ref dl), some (.ref fm)], ?_, ?_⟩
   . refine ⟨_, rfl, _, rfl, _, rfl, _, rfl, c, v, a, b, [], [], lq, n1, n2, n3, x1, x2, x3, wy, ct, rfl, hc11, ok, Nat.zero_le _, by decide +kernel, b11.el, ⟨b11.m1, b11.m2⟩, b11.m3, k1, k2, k3, o1, o2, o3, t0, t1, ?_, ?_⟩
     . intro _ fm a' H' x' ct' nm
       rw [hop] at ct' nm
       exact ⟨fm, a', b11.exc x' ec nc1 nc2 nc3, ct', nm, x' _ _ et (A8r et ec (by intro z; cases z)), x' _ _ el (A8r el ec (by intro z; cases z)), rfl⟩
     . intro z hz
       cases hz
   clear b11 hc11 ec et el s11 b9 hc9
   rintro σ' H12 ⟨fm, a, b12, hc12, num, et, el, rfl⟩
   obtain ⟨dx, ec⟩ := hc12.ins
   refine ⟨fun σ' H' => Same H12 H' /\ σ' = [some (.ref sc), some (.ref fq), some (.ref pq), some (.int m), v4, some (.ref lq), some (.int ct), some (.ref c), some (.int (0 + (i : Int))), some (.int wy), some (.ref dt), some (.ref dl), some (.ref fm)], ?_, ?_⟩
   . refine ⟨_, rfl, _, rfl, Or.inl ⟨fm, _, _, _, _, rfl, num, fun z nz => ⟨_, rfl, B8t op.1.k.str op.1.s op.1.f op.1.p, B8t op.1.k.str op.1.s op.1.f op.1.p, rdD A6, rdD ((Same.upd nz) _ _ et), shD _ _ _ (okK _), shD _ _ _ (okK _), _, rfl, ?_⟩⟩⟩
     rw [if_pos rfl, eqD]
     have uz := Same.upd (o := .tup op.1.vs) nz
     refine U0 ⟨_, rfl, c, dx, _, rfl, uz _ _ ec, D8q _ _ _ _ _ _, c, v.r, v.y, v.l, v.m, a, b, _, _, rfl, hc12.same uz, fun l2 n2 => ⟨_, rfl, rdS (V9 op.2), rdS (V9 op.2), Y2d A6, Y2d ((uz.trans (Same.upd n2)) _ _ el), shS (Y1c _), shS (Y1c _), _, rfl, ?_⟩⟩
     rw [if_pos rfl, eqSs]
     exact U0 ⟨uz.trans (Same.upd n2), rfl⟩
   rintro σ' H13 ⟨s13, rfl⟩
   have b13 := b12.same s13
   have hc13 := hc12.same s13
   obtain ⟨dx, ec⟩ := hc13.ins
   refine ⟨fun σ' H' => ∃ a, Base34 CN H' fq pq lq q1 q2 q3 n1 n2 n3 v x1 x2 x3 /\ CtxV CC H' c v a b [] [] /\ σ' = [some (.ref sc), some (.ref fq), some (.ref pq), some (.int m), v4, some (.ref lq), some (.int ct), some (.ref c), some (.int (0 + (i : Int))), some (.int wy), some (.ref dt), some (.ref dl), some (.ref fm)], ?_, ?_⟩
   . exact ⟨_, rfl, c, dx, _, rfl, ec, D8s _ _ _ _ _ _, c, v.r, v.y, v.l, v.m, a, b, _, _, rfl, hc13, fun a' H' x' na ct' => ⟨a', b13.exc x' ec nc1 nc2 nc3, ct', rfl⟩⟩
   clear b12 b13 hc12 hc13 ec num et el s13
   rintro σ' H14 ⟨a, b14, hc14, rfl⟩
   refine ⟨_, ?_, fun _ _ h => h⟩
   refine ⟨_, rfl, lq, rfl, ⟨_, SqL.of b14.el⟩, A4t (J := Itl K lq) (n := 3) (fun i y H' => ∃ t, y = .ref t /\ H' t = some (.tup (Y1j x1 x2 x3 i).vs)) (by decide) (fun i y H1 H2 D l h hD e => ?_) (fun i H3 Qy hi sm hy => ⟨⟨_, _, SqL.of (sm _ _ b14.el), at3' hi⟩, fun x H4 yl => ?_⟩) (fun H3 sm => ⟨_, SqL.of (sm _ _ b14.el), Nat.le_refl _⟩) (fun D H' ys sm nD eD hlen hR => ?_)⟩
   . obtain ⟨t, rfl, hn⟩ := h
     exact ⟨t, rfl, e _ _ hn (A8r hn hD (by intro z; cases z))⟩
   . obtain ⟨rfl, yl⟩ := yl
     have ex := (get3 (yl _ (SqL.of (sm _ _ b14.el)))).2
     subst ex
     rcases (by omega : i = 0 \/ i = 1 \/ i = 2) with rfl | rfl | rfl
     . exact ⟨_, rfl, _, rfl, .inl ⟨n1, _, _, _, _, rfl, b14.m1.same sm, fun t nt => hy _ _ (Same.upd nt) ⟨t, rfl, A6⟩⟩⟩
     . exact ⟨_, rfl, _, rfl, .inl ⟨n2, _, _, _, _, rfl, b14.m2.same sm, fun t nt => hy _ _ (Same.upd nt) ⟨t, rfl, A6⟩⟩⟩
     . exact ⟨_, rfl, _, rfl, .inl ⟨n3, _, _, _, _, rfl, b14.m3.same sm, fun t nt => hy _ _ (Same.upd nt) ⟨t, rfl, A6⟩⟩⟩
   obtain ⟨y1, y2, y3, rfl⟩ := V0e hlen
   obtain ⟨t1', rfl, g1⟩ := hR 0 _ rfl
   obtain ⟨t2', rfl, g2⟩ := hR 1 _ rfl
   obtain ⟨t3', rfl, g3⟩ := hR 2 _ rfl
   have b15 := b14.same sm
   have hc15 := hc14.same sm
   clear hR
   refine ⟨_, rfl, pq, rfl, ⟨_, SqL.of b15.ep⟩, A4t (J := Itl K pq) (n := 3) (fun i y H' => ∃ t, y = .ref t /\ H' t = some (.tup (Y1j x1 x2 x3 i).vs)) (by decide) (fun i y H1 H2 D l h hD e => ?_) (fun i H3 Qy hi sm hy => ⟨⟨_, _, SqL.of (sm _ _ b15.ep), at3' hi⟩, fun x H4 yl => ?_⟩) (fun H3 sm => ⟨_, SqL.of (sm _ _ b15.ep), Nat.le_refl _⟩) (fun D2 H2 ys sm2 nD2 eD2 hlen2 hR => ?_)⟩
   . obtain ⟨t, rfl, hn⟩ := h
     exact ⟨t, rfl, e _ _ hn (A8r hn hD (by intro z; cases z))⟩
   . obtain ⟨rfl, yl⟩ := yl
     have ex := (get3 (yl _ (SqL.of (sm _ _ b15.ep)))).2
     subst ex
     rcases (by omega : i = 0 \/ i = 1 \/ i = 2) with rfl | rfl | rfl
     . have e := sm _ _ b15.a1.e
       exact ⟨_, rfl, q1, _, _, _, rfl, rfl, SqT.of e, B7 (j := 0) rfl, _, rfl, q1, _, _, _, rfl, rfl, SqT.of e, B7 (j := 1) rfl, _, rfl, q1, _, _, _, rfl, rfl, SqT.of e, B7 (j := 2) rfl, z4, fun t nt => hy _ _ (Same.upd nt) ⟨t, rfl, by show upd H4 t _ t = some (.tup x1.vs); unfold Nm.vs; rw [k1]; exact A6⟩⟩
     . have e := sm _ _ b15.a2.e
       exact ⟨_, rfl, q2, _, _, _, rfl, rfl, SqT.of e, B7 (j := 0) rfl, _, rfl, q2, _, _, _, rfl, rfl, SqT.of e, B7 (j := 1) rfl, _, rfl, q2, _, _, _, rfl, rfl, SqT.of e, B7 (j := 2) rfl, z4, fun t nt => hy _ _ (Same.upd nt) ⟨t, rfl, by show upd H4 t _ t = some (.tup x2.vs); unfold Nm.vs; rw [k2]; exact A6⟩⟩
     . have e := sm _ _ b15.a3.e
       exact ⟨_, rfl, q3, _, _, _, rfl, rfl, SqT.of e, B7 (j := 0) rfl, _, rfl, q3, _, _, _, rfl, rfl, SqT.of e, B7 (j := 1) rfl, _, rfl, q3, _, _, _, rfl, rfl, SqT.of e, B7 (j := 2) rfl, z4, fun t nt => hy _ _ (Same.upd nt) ⟨t, rfl, by show upd H4 t _ t = some (.tup x3.vs); unfold Nm.vs; rw [k3]; exact A6⟩⟩
   obtain ⟨y1, y2, y3, rfl⟩ := V0e hlen2
   obtain ⟨u1, rfl, e1⟩ := hR 0 _ rfl
   obtain ⟨u2, rfl, e2⟩ := hR 1 _ rfl
   obtain ⟨u3, rfl, e3⟩ := hR 2 _ rfl
   refine ⟨G9t x1 x2 x3, G9t x1 x2 x3, rd3 (sm2 _ _ eD) (sm2 _ _ g1) (sm2 _ _ g2) (sm2 _ _ g3), rd3 eD2 e1 e2 e3, sh3 _ _ _, sh3 _ _ _, _, rfl, ?_⟩
   rw [if_pos rfl, eq3]
   exact U0 ⟨a, _, _, _, _, _, b15.same sm2, hc15.same sm2, rfl⟩
end
end TR
namespace TR
open PySem L2 PySem.W PyProof.Rows
theorem all_mk {l : OpenLaw} {w : World} {K : Frag} {h : Heap} {mg : Str -> Option Value} {fa CW W0 A5g W1 A5h W2 A5b W3 A5c W4 A5e W5 A5a W6 A5d W7 A5f CN D6v A0f A1f Z7 A1d A0a A1m A0e A1n A0d A1h A0b A1k A0c A1e Z8 A1g CC D6w Y6n A3f A1j B0d A1p A3e CQ D7f A0ab A0u B2w CE C1 C2 C3 C4 CR fX aS B1k G1q C9q G0m G1m Z0r C3z U2r U2z G7j B5x G4k C7u C1r Z1n C1e G8e C2m C7r C2a B0r D1g C9a G2w G2s B9b C0d D1j J8g C2z J9d G7x G0v G4e B5h C8f C3s G8k B6v G3v B6t C7v C2p U6r G0g G6x C0x D9e G6p C0c D1t U8y G4a U3h J9p C8u U1j C7x D1m Z0h G5m G8g D0r B6w B9d B9p C8b C3p G7b U1w C3g U8z G8b Y5m : Addr} (X : K.In h) (G : h.Ns mainGlobals mg) (hfa : mg "law" = some (.ref fa))
   {G4u D9g : Option Addr} {G1x : Array (Option Value)} {G4y G0d G0f D9h B7x G1r : Value}
   (A9n : nsIn K mainGlobals "product_of" = some (some (.ref B1k))) (B0t : K.lookup B1k = some ⟨G4y, G4u, .func (fnOf "product_of" "product_of" (B0 Y5) (A8 Y5) (A1 Y5) .none G0d G0f D9h D9g B7x G1r), G1x⟩) (A9s : codeIn K B7x "product_of" = true) (B1h : keepIn K (.ref B1k) = true)
   {Z8n Y8c : Option Addr} {Z7p : Array (Option Value)} {Y9y Z6q Z2p Z2n J4t Z0y : Value}
   (G0h : nsIn K mainGlobals "ten_to" = some (some (.ref G1q))) (G5q : K.lookup G1q = some ⟨Y9y, Z8n, .func (fnOf "ten_to" "ten_to" (B0 A1u) (A8 A1u) (A1 A1u) .none Z6q Z2p Z2n Y8c J4t Z0y), Z7p⟩) (G4n : codeIn K J4t "ten_to" = true) (D9k : keepIn K (.ref G1q) = true)
   {V6z V8x : Option Addr} {V9q : Array (Option Value)} {V6j V8j V7v V9n D7a V6s : Value}
   (D0e : nsIn K mainGlobals "part_of" = some (some (.ref C9q))) (C9j : K.lookup C9q = some ⟨V6j, V6z, .func (fnOf "part_of" "part_of" (B0 A5q) (A8 A5q) (A1 A5q) .none V8j V7v V9n V8x D7a V6s), V9q⟩) (C9f : codeIn K D7a "part_of" = true) (C8y : keepIn K (.ref C9q) = true)
   {Z5c Z0d : Option Addr} {Y5x : Array (Option Value)} {Z4t Z8e Z2s Y5c J3t Y7s : Value}
   (G7v : nsIn K mainGlobals "whole_lead" = some (some (.ref G0m))) (G5u : K.lookup G0m = some ⟨Z4t, Z5c, .func (fnOf "whole_lead" "whole_lead" (B0 A8y) (A8 A8y) (A1 A8y) .none Z8e Z2s Y5c Z0d J3t Y7s), Y5x⟩) (G4s : codeIn K J3t "whole_lead" = true) (G5b : keepIn K (.ref G0m) = true)
   {Z6x Z2b : Option Addr} {Y7p : Array (Option Value)} {Y5w Z1c Z6m Y7z J3w Z3r : Value}
   (G0b : nsIn K mainGlobals "plain" = some (some (.ref G1m))) (G5y : K.lookup G1m = some ⟨Y5w, Z6x, .func (fnOf "plain" "plain" (B0 B4s) (A8 B4s) (A1 B4s) .none Z1c Z6m Y7z Z2b J3w Z3r), Y7p⟩) (G8m : codeIn K J3w "plain" = true) (G8a : keepIn K (.ref G1m) = true)
   {A0mh A0nd : Option Addr} {A0pf : Array (Option Value)} {A0nz A0mn A0nb A0nu Y9u A0ne : Value}
   (Z7c : nsIn K mainGlobals "end" = some (some (.ref Z0r))) (Y7u : K.lookup Z0r = some ⟨A0nz, A0mh, .func (fnOf "end" "end" (B0 G8z) (A8 G8z) (A1 G8z) .none A0mn A0nb A0nu A0nd Y9u A0ne), A0pf⟩) (Y9x : codeIn K Y9u "end" = true) (Z4z : keepIn K (.ref Z0r) = true)
   {U9a U6z : Option Addr} {U7t : Array (Option Value)} {U3x U4r U6u U0p C9w U8m : Value}
   (C0g : nsIn K mainGlobals "nothing" = some (some (.ref C3z))) (C4a : K.lookup C3z = some ⟨U3x, U9a, .func (fnOf "nothing" "nothing" (B0 V5) (A8 V5) (A1 V5) .none U4r U6u U0p U6z C9w U8m), U7t⟩) (C2s : codeIn K C9w "nothing" = true) (C1n : keepIn K (.ref C3z) = true)
   {A0gm A0eq : Option Addr} {A0gj : Array (Option Value)} {A0fs A0ed A0dw A0gq V1m A0dg : Value}
   (U0f : nsIn K mainGlobals "told" = some (some (.ref U2r))) (J8d : K.lookup U2r = some ⟨A0fs, A0gm, .func (fnOf "told" "told" (B0 C5k) (A8 C5k) (A1 C5k) .none A0ed A0dw A0gq A0eq V1m A0dg), A0gj⟩) (U8r : codeIn K V1m "told" = true) (U4c : keepIn K (.ref U2r) = true)
   {A0ey A0eh : Option Addr} {A0ev : Array (Option Value)} {A0em A0gw A0gs A0dt V1d A0ff : Value}
   (U7a : nsIn K mainGlobals "lead_of" = some (some (.ref U2z))) (U7n : K.lookup U2z = some ⟨A0em, A0ey, .func (fnOf "lead_of" "lead_of" (B0 C5q) (A8 C5q) (A1 C5q) .none A0gw A0gs A0dt A0eh V1d A0ff), A0ev⟩) (U3b : codeIn K V1d "lead_of" = true) (U2t : keepIn K (.ref U2z) = true)
   {Y4u Y4q : Option Addr} {Z8f : Array (Option Value)} {Z9z Z9x Z4v Z3d J1y Y8f : Value}
   (G0y : nsIn K mainGlobals "need_number" = some (some (.ref G7j))) (G4d : K.lookup G7j = some ⟨Z9z, Y4u, .func (fnOf "need_number" "need_number" (B0 A3c) (A8 A3c) (A1 A3c) .none Z9x Z4v Z3d Y4q J1y Y8f), Z8f⟩) (G2k : codeIn K J1y "need_number" = true) (G7u : keepIn K (.ref G7j) = true)
   {J3n J2b : Option Addr} {J4k : Array (Option Value)} {J2g J1b J2t J3b C4n J1s : Value}
   (B5b : nsIn K mainGlobals "need_numbers" = some (some (.ref B5x))) (B6a : K.lookup B5x = some ⟨J2g, J3n, .func (fnOf "need_numbers" "need_numbers" (B0 Z4) (A8 Z4) (A1 Z4) .none J1b J2t J3b J2b C4n J1s), J4k⟩) (B5y : codeIn K C4n "need_numbers" = true) (B5k : keepIn K (.ref B5x) = true)
   {Z7n Y6y : Option Addr} {Y8m : Array (Option Value)} {Z1b Y7f Z7j Y5r J2j Z2e : Value}
   (G1a : nsIn K mainGlobals "some_of_kind" = some (some (.ref G4k))) (G0z : K.lookup G4k = some ⟨Z1b, Z7n, .func (fnOf "some_of_kind" "some_of_kind" (B0 Z2) (A8 Z2) (A1 Z2) .none Y7f Z7j Y5r Y6y J2j Z2e), Y8m⟩) (G8v : codeIn K J2j "some_of_kind" = true) (D9m : keepIn K (.ref G4k) = true)
   {V5d V6c : Option Addr} {V5p : Array (Option Value)} {V5j V6d V8b V7n D6h V8s : Value}
   (C7m : nsIn K mainGlobals "unlike_sign" = some (some (.ref C7u))) (C9h : K.lookup C7u = some ⟨V5j, V5d, .func (fnOf "unlike_sign" "unlike_sign" (B0 A5j) (A8 A5j) (A1 A5j) .none V6d V8b V7n V6c D6h V8s), V5p⟩) (C9n : codeIn K D6h "unlike_sign" = true) (D0m : keepIn K (.ref C7u) = true)
   {U7u U8k : Option Addr} {U6q : Array (Option Value)} {U5u U0g U4f U4u C9v U4a : Value}
   (B9q : nsIn K mainGlobals "whole_at" = some (some (.ref C1r))) (C1v : K.lookup C1r = some ⟨U5u, U7u, .func (fnOf "whole_at" "whole_at" (B0 Z3) (A8 Z3) (A1 Z3) .none U0g U4f U4u U8k C9v U4a), U6q⟩) (C2y : codeIn K C9v "whole_at" = true) (C2d : keepIn K (.ref C1r) = true)
   {A0mw A0mp : Option Addr} {A0nh : Array (Option Value)} {A0ms A0mq A0pg A0nr Y6d A0pj : Value}
   (Y5y : nsIn K mainGlobals "is_between" = some (some (.ref Z1n))) (Y8w : K.lookup Z1n = some ⟨A0ms, A0mw, .func (fnOf "is_between" "is_between" (B0 C6t) (A8 C6t) (A1 C6t) .none A0mq A0pg A0nr A0mp Y6d A0pj), A0nh⟩) (Y6s : codeIn K Y6d "is_between" = true) (Y4v : keepIn K (.ref Z1n) = true)
   {U0r J9y : Option Addr} {U2x : Array (Option Value)} {U3q U1u U5v U5d D1s U2p : Value}
   (C0e : nsIn K mainGlobals "need_between" = some (some (.ref C1e))) (C3d : K.lookup C1e = some ⟨U3q, U0r, .func (fnOf "need_between" "need_between" (B0 A1c) (A8 A1c) (A1 A1c) .none U1u U5v U5d J9y D1s U2p), U2x⟩) (C1x : codeIn K D1s "need_between" = true) (C2j : keepIn K (.ref C1e) = true)
   {Z7z Z2t : Option Addr} {Y5z : Array (Option Value)} {Z3f Z9u Z1k Y4y J3z Z7k : Value}
   (D9b : nsIn K mainGlobals "need_count" = some (some (.ref G8e))) (D9n : K.lookup G8e = some ⟨Z3f, Z7z, .func (fnOf "need_count" "need_count" (B0 B4c) (A8 B4c) (A1 B4c) .none Z9u Z1k Y4y Z2t J3z Z7k), Y5z⟩) (G7k : codeIn K J3z "need_count" = true) (G1d : keepIn K (.ref G8e) = true)
   {U2j U8h : Option Addr} {J9x : Array (Option Value)} {U6a J9j J8r J9a C9r U1s : Value}
   (B9t : nsIn K mainGlobals "settled" = some (some (.ref C2m))) (C1f : K.lookup C2m = some ⟨U6a, U2j, .func (fnOf "settled" "settled" (B0 Z5) (A8 Z5) (A1 Z5) .none J9j J8r J9a U8h C9r U1s), J9x⟩) (C1y : codeIn K C9r "settled" = true) (C3w : keepIn K (.ref C2m) = true)
   {V8z Y0b : Option Addr} {V8q : Array (Option Value)} {V9k V7c V9c V7w D6q V6n : Value}
   (C8t : nsIn K mainGlobals "finest_power" = some (some (.ref C7r))) (D0p : K.lookup C7r = some ⟨V9k, V8z, .func (fnOf "finest_power" "finest_power" (B0 A3q) (A8 A3q) (A1 A3q) .none V7c V9c V7w Y0b D6q V6n), V8q⟩) (D0y : codeIn K D6q "finest_power" = true) (C9m : keepIn K (.ref C7r) = true)
   {U3v U8s : Option Addr} {U7h : Array (Option Value)} {J8e U4z J8f J9g C8d U0j : Value}
   (C0f : nsIn K mainGlobals "nearest_to" = some (some (.ref C2a))) (C0s : K.lookup C2a = some ⟨J8e, U3v, .func (fnOf "nearest_to" "nearest_to" (B0 A0z) (A8 A0z) (A1 A0z) .none U4z J8f J9g U8s C8d U0j), U7h⟩) (C3x : codeIn K C8d "nearest_to" = true) (C0z : keepIn K (.ref C2a) = true)
   {G2f G2h : Option Addr} {G6b : Array (Option Value)} {G0x D9w G2q G3s B8c G7e : Value}
   (B0n : nsIn K mainGlobals "neighbour" = some (some (.ref B0r))) (A9m : K.lookup B0r = some ⟨G0x, G2f, .func (fnOf "neighbour" "neighbour" (B0 V8) (A8 V8) (A1 V8) .none D9w G2q G3s G2h B8c G7e), G6b⟩) (B0h : codeIn K B8c "neighbour" = true) (B0b : keepIn K (.ref B0r) = true)
   {V9e V5f : Option Addr} {V5z : Array (Option Value)} {V6t V8n V9r V5g D7c V9j : Value}
   (C8h : nsIn K mainGlobals "within_room" = some (some (.ref D1g))) (C9p : K.lookup D1g = some ⟨V6t, V9e, .func (fnOf "within_room" "within_room" (B0 A3r) (A8 A3r) (A1 A3r) .none V8n V9r V5g V5f D7c V9j), V5z⟩) (C9e : codeIn K D7c "within_room" = true) (C8j : keepIn K (.ref D1g) = true)
   {V8m V7j : Option Addr} {V9m : Array (Option Value)} {V9p V6b V8r V6f D6u V9u : Value}
   (C8c : nsIn K mainGlobals "is_beyond" = some (some (.ref C9a))) (C8r : K.lookup C9a = some ⟨V9p, V8m, .func (fnOf "is_beyond" "is_beyond" (B0 A3m) (A8 A3m) (A1 A3m) .none V6b V8r V6f V7j D6u V9u), V9m⟩) (C7e : codeIn K D6u "is_beyond" = true) (C9b : keepIn K (.ref C9a) = true)
   {Z4s Z3x : Option Addr} {Z4f : Array (Option Value)} {Z1t Y6j Z1z Y6x J1h Y4n : Value}
   (G6n : nsIn K mainGlobals "burst" = some (some (.ref G2w))) (D8y : K.lookup G2w = some ⟨Z1t, Z4s, .func (fnOf "burst" "burst" (B0 A9d) (A8 A9d) (A1 A9d) .none Y6j Z1z Y6x Z3x J1h Y4n), Z4f⟩) (G3y : codeIn K J1h "burst" = true) (G2y : keepIn K (.ref G2w) = true)
   {Z1g Y6c : Option Addr} {Z2d : Array (Option Value)} {Y5t Z5d Z5p Z2j J3q Z8p : Value}
   (G0p : nsIn K mainGlobals "nines" = some (some (.ref G2s))) (G6h : K.lookup G2s = some ⟨Y5t, Z1g, .func (fnOf "nines" "nines" (B0 A8v) (A8 A8v) (A1 A8v) .none Z5d Z5p Z2j Y6c J3q Z8p), Z2d⟩) (G4z : codeIn K J3q "nines" = true) (G3d : keepIn K (.ref G2s) = true)
   {U1p U4n : Option Addr} {U4y : Array (Option Value)} {U8t U4d U3s U0k D0q U3f : Value}
   (B9m : nsIn K mainGlobals "signals_of_rest" = some (some (.ref B9b))) (C0w : K.lookup B9b = some ⟨U8t, U1p, .func (fnOf "signals_of_rest" "signals_of_rest" (B0 A2w) (A8 A2w) (A1 A2w) .none U4d U3s U0k U4n D0q U3f), U4y⟩) (C1q : codeIn K D0q "signals_of_rest" = true) (C1h : keepIn K (.ref B9b) = true)
   {J7u J9w : Option Addr} {U2b : Array (Option Value)} {U1x U4s U2h J7r D0n U0m : Value}
   (C2r : nsIn K mainGlobals "signals_of_lead" = some (some (.ref C0d))) (C4e : K.lookup C0d = some ⟨U1x, J7u, .func (fnOf "signals_of_lead" "signals_of_lead" (B0 A2u) (A8 A2u) (A1 A2u) .none U4s U2h J7r J9w D0n U0m), U2b⟩) (B9n : codeIn K D0n "signals_of_lead" = true) (B9a : keepIn K (.ref C0d) = true)
   {V8v V4q : Option Addr} {V9h : Array (Option Value)} {V6y V7g V5b V7a D6k V6h : Value}
   (D0c : nsIn K mainGlobals "nought" = some (some (.ref D1j))) (C8w : K.lookup D1j = some ⟨V6y, V8v, .func (fnOf "nought" "nought" (B0 A0v) (A8 A0v) (A1 A0v) .none V7g V5b V7a V4q D6k V6h), V9h⟩) (C8v : codeIn K D6k "nought" = true) (D1f : keepIn K (.ref D1j) = true)
   {A0fx A0en : Option Addr} {A0ft : Array (Option Value)} {A0fh A0fw A0dk A0fd V1n A0fb : Value}
   (U2w : nsIn K mainGlobals "void" = some (some (.ref J8g))) (J9c : K.lookup J8g = some ⟨A0fh, A0fx, .func (fnOf "void" "void" (B0 U9r) (A8 U9r) (A1 U9r) .none A0fw A0dk A0fd A0en V1n A0fb), A0ft⟩) (J8n : codeIn K V1n "void" = true) (U6d : keepIn K (.ref J8g) = true)
   {U7s U1g : Option Addr} {J7s : Array (Option Value)} {J9z U3m U4k U7y D1c U8q : Value}
   (C2f : nsIn K mainGlobals "rounded" = some (some (.ref C2z))) (C0u : K.lookup C2z = some ⟨J9z, U7s, .func (fnOf "rounded" "rounded" (B0 Y2) (A8 Y2) (A1 Y2) .none U3m U4k U7y U1g D1c U8q), J7s⟩) (B9v : codeIn K D1c "rounded" = true) (C3a : keepIn K (.ref C2z) = true)
   {A0gt A0ej : Option Addr} {A0fp : Array (Option Value)} {A0gn A0ge A0er A0gy V1r A0dy : Value}
   (U1c : nsIn K mainGlobals "plus" = some (some (.ref J9d))) (U7k : K.lookup J9d = some ⟨A0gn, A0gt, .func (fnOf "plus" "plus" (B0 C5v) (A8 C5v) (A1 C5v) .none A0ge A0er A0gy A0ej V1r A0dy), A0fp⟩) (J7x : codeIn K V1r "plus" = true) (U0x : keepIn K (.ref J9d) = true)
   {Z5s Y7d : Option Addr} {Z3w : Array (Option Value)} {Y5u Y4w Z8k Y9j J3k Z6f : Value}
   (G8p : nsIn K mainGlobals "minus" = some (some (.ref G7x))) (G2g : K.lookup G7x = some ⟨Y5u, Z5s, .func (fnOf "minus" "minus" (B0 B4w) (A8 B4w) (A1 B4w) .none Y4w Z8k Y9j Y7d J3k Z6f), Z3w⟩) (D9p : codeIn K J3k "minus" = true) (G5t : keepIn K (.ref G7x) = true)
   {Z4d Y5n : Option Addr} {Y4h : Array (Option Value)} {Y5d Z5x Y5k Z1f J4v Z5q : Value}
   (G1f : nsIn K mainGlobals "times" = some (some (.ref G0v))) (G0q : K.lookup G0v = some ⟨Y5d, Z4d, .func (fnOf "times" "times" (B0 B4p) (A8 B4p) (A1 B4p) .none Z5x Y5k Z1f Y5n J4v Z5q), Y4h⟩) (G8j : codeIn K J4v "times" = true) (G8n : keepIn K (.ref G0v) = true)
   {Y6e Z5y : Option Addr} {Y7v : Array (Option Value)} {Y7r Z0g Y9s Y8x J1k Z3b : Value}
   (D9y : nsIn K mainGlobals "fused" = some (some (.ref G4e))) (G3g : K.lookup G4e = some ⟨Y7r, Y6e, .func (fnOf "fused" "fused" (B0 B4v) (A8 B4v) (A1 B4v) .none Z0g Y9s Y8x Z5y J1k Z3b), Y7v⟩) (G8t : codeIn K J1k "fused" = true) (G6r : keepIn K (.ref G4e) = true)
   {J0t J3c : Option Addr} {J1p : Array (Option Value)} {J2c J1f J2u J4c C4u J1t : Value}
   (B5d : nsIn K mainGlobals "is_nought" = some (some (.ref B5h))) (B6k : K.lookup B5h = some ⟨J2c, J0t, .func (fnOf "is_nought" "is_nought" (B0 A4x) (A8 A4x) (A1 A4x) .none J1f J2u J4c J3c C4u J1t), J1p⟩) (B5m : codeIn K C4u "is_nought" = true) (B5z : keepIn K (.ref B5h) = true)
   {V5a V4r : Option Addr} {V5s : Array (Option Value)} {V7x V7q V8c V5q D6r V6q : Value}
   (D1a : nsIn K mainGlobals "is_end_by_nought" = some (some (.ref C8f))) (D0j : K.lookup C8f = some ⟨V7x, V5a, .func (fnOf "is_end_by_nought" "is_end_by_nought" (B0 A3s) (A8 A3s) (A1 A3s) .none V7q V8c V5q V4r D6r V6q), V5s⟩) (C8q : codeIn K D6r "is_end_by_nought" = true) (D1k : keepIn K (.ref C8f) = true)
   {U5c J8s : Option Addr} {U0e : Array (Option Value)} {J9t J8x U6y U8g C8m U3p : Value}
   (C1u : nsIn K mainGlobals "product" = some (some (.ref C3s))) (B9j : K.lookup C3s = some ⟨J9t, U5c, .func (fnOf "product" "product" (B0 A0y) (A8 A0y) (A1 A0y) .none J8x U6y U8g J8s C8m U3p), U0e⟩) (B9s : codeIn K C8m "product" = true) (C0v : keepIn K (.ref C3s) = true)
   {Z7x Y4s : Option Addr} {Y9b : Array (Option Value)} {Z1r Y9h Z9y Z0x J5e Z5e : Value}
   (G4p : nsIn K mainGlobals "added" = some (some (.ref G8k))) (G7d : K.lookup G8k = some ⟨Z1r, Z7x, .func (fnOf "added" "added" (B0 A6e) (A8 A6e) (A1 A6e) .none Y9h Z9y Z0x Y4s J5e Z5e), Y9b⟩) (G0t : codeIn K J5e "added" = true) (G8x : keepIn K (.ref G8k) = true)
   {J1j J4a : Option Addr} {J3m : Array (Option Value)} {J0s J2k J3j J2z C4q J3g : Value}
   (B6n : nsIn K mainGlobals "end_added" = some (some (.ref B6v))) (B5c : K.lookup B6v = some ⟨J0s, J1j, .func (fnOf "end_added" "end_added" (B0 B2k) (A8 B2k) (A1 B2k) .none J2k J3j J2z J4a C4q J3g), J3m⟩) (B5t : codeIn K C4q "end_added" = true) (B5a : keepIn K (.ref B6v) = true)
   {Z9g Z9k : Option Addr} {Z5w : Array (Option Value)} {Z2a Z3v Y6a Z1j J3v Z7u : Value}
   (G7h : nsIn K mainGlobals "sign_of_no_sum" = some (some (.ref G3v))) (G5z : K.lookup G3v = some ⟨Z2a, Z9g, .func (fnOf "sign_of_no_sum" "sign_of_no_sum" (B0 B4b) (A8 B4b) (A1 B4b) .none Z3v Y6a Z1j Z9k J3v Z7u), Z5w⟩) (G6s : codeIn K J3v "sign_of_no_sum" = true) (G7z : keepIn K (.ref G3v) = true)
   {J4w J4g : Option Addr} {J2v : Array (Option Value)} {J3f J4z J1v J2e C4p J3s : Value}
   (B6s : nsIn K mainGlobals "compared" = some (some (.ref B6t))) (B6c : K.lookup B6t = some ⟨J3f, J4w, .func (fnOf "compared" "compared" (B0 Y7) (A8 Y7) (A1 Y7) .none J4z J1v J2e J4g C4p J3s), J2v⟩) (B6f : codeIn K C4p "compared" = true) (B5g : keepIn K (.ref B6t) = true)
   {V5n V9w : Option Addr} {V9v : Array (Option Value)} {V4y V7u V9x V5x D7g V9f : Value}
   (C7n : nsIn K mainGlobals "lesser" = some (some (.ref C7v))) (C9g : K.lookup C7v = some ⟨V4y, V5n, .func (fnOf "lesser" "lesser" (B0 A5t) (A8 A5t) (A1 A5t) .none V7u V9x V5x V9w D7g V9f), V9v⟩) (D1b : codeIn K D7g "lesser" = true) (D0b : keepIn K (.ref C7v) = true)
   {U7f U8w : Option Addr} {U5z : Array (Option Value)} {U8p U7m U3z U1a D1r U1v : Value}
   (C3h : nsIn K mainGlobals "greater" = some (some (.ref C2p))) (B9y : K.lookup C2p = some ⟨U8p, U7f, .func (fnOf "greater" "greater" (B0 A3b) (A8 A3b) (A1 A3b) .none U7m U3z U1a U8w D1r U1v), U5z⟩) (C0j : codeIn K D1r "greater" = true) (C2w : keepIn K (.ref C2p) = true)
   {A0gg A0eu : Option Addr} {A0fq : Array (Option Value)} {A0dm A0gp A0dz A0fj V1h A0ek : Value}
   (U7q : nsIn K mainGlobals "side_of" = some (some (.ref U6r))) (J8k : K.lookup U6r = some ⟨A0dm, A0gg, .func (fnOf "side_of" "side_of" (B0 C5m) (A8 C5m) (A1 C5m) .none A0gp A0dz A0fj A0eu V1h A0ek), A0fq⟩) (J7p : codeIn K V1h "side_of" = true) (J7z : keepIn K (.ref U6r) = true)
   {Z6k Y9r : Option Addr} {Z7y : Array (Option Value)} {Z0v Y6q Y5j Z5v J5c Z1a : Value}
   (G8w : nsIn K mainGlobals "order_of" = some (some (.ref G0g))) (G2v : K.lookup G0g = some ⟨Z0v, Z6k, .func (fnOf "order_of" "order_of" (B0 B4g) (A8 B4g) (A1 B4g) .none Y6q Y5j Z5v Y9r J5c Z1a), Z7y⟩) (G3m : codeIn K J5c "order_of" = true) (G5c : keepIn K (.ref G0g) = true)
   {Z8g Y7j : Option Addr} {Z3h : Array (Option Value)} {Y7q Z4h Z2u Y9d J4x Z9w : Value}
   (G5j : nsIn K mainGlobals "way_of" = some (some (.ref G6x))) (G6c : K.lookup G6x = some ⟨Y7q, Z8g, .func (fnOf "way_of" "way_of" (B0 A9h) (A8 A9h) (A1 A9h) .none Z4h Z2u Y9d Y7j J4x Z9w), Z3h⟩) (D9d : codeIn K J4x "way_of" = true) (G5w : keepIn K (.ref G6x) = true)
   {U6k U5m : Option Addr} {U8e : Array (Option Value)} {U7d U5g U2f J7q C7f U3a : Value}
   (B9z : nsIn K mainGlobals "bounded" = some (some (.ref C0x))) (B9k : K.lookup C0x = some ⟨U7d, U6k, .func (fnOf "bounded" "bounded" (B0 A2t) (A8 A2t) (A1 A2t) .none U5g U2f J7q U5m C7f U3a), U8e⟩) (C0b : codeIn K C7f "bounded" = true) (C2n : keepIn K (.ref C0x) = true)
   {Z6n Z9v : Option Addr} {Z6j : Array (Option Value)} {Y9v Y9p Z2q Y8r J1u Z9n : Value}
   (G8r : nsIn K mainGlobals "need_signals" = some (some (.ref D9e))) (G3z : K.lookup D9e = some ⟨Y9v, Z6n, .func (fnOf "need_signals" "need_signals" (B0 B4u) (A8 B4u) (A1 B4u) .none Y9p Z2q Y8r Z9v J1u Z9n), Z6j⟩) (G4f : codeIn K J1u "need_signals" = true) (G3a : keepIn K (.ref D9e) = true)
   {Y6z Z0t : Option Addr} {Z9m : Array (Option Value)} {Z9c Z2g Y9n Z5r J2p Y8p : Value}
   (D8z : nsIn K mainGlobals "in_order" = some (some (.ref G6p))) (G4w : K.lookup G6p = some ⟨Z9c, Y6z, .func (fnOf "in_order" "in_order" (B0 B4k) (A8 B4k) (A1 B4k) .none Z2g Y9n Z5r Z0t J2p Y8p), Z9m⟩) (G4v : codeIn K J2p "in_order" = true) (G2a : keepIn K (.ref G6p) = true)
   {J8q U5q : Option Addr} {J8p : Array (Option Value)} {U5e U7e J7w U8n C8a U1m : Value}
   (C1d : nsIn K mainGlobals "trimmed" = some (some (.ref C0c))) (C4b : K.lookup C0c = some ⟨U5e, J8q, .func (fnOf "trimmed" "trimmed" (B0 A2r) (A8 A2r) (A1 A2r) .none U7e J7w U8n U5q C8a U1m), J8p⟩) (B9h : codeIn K C8a "trimmed" = true) (C2u : keepIn K (.ref C0c) = true)
   {V4p V7k : Option Addr} {V7t : Array (Option Value)} {V6k V9s V4u V7p D7d V8p : Value}
   (D0t : nsIn K mainGlobals "scaled" = some (some (.ref D1t))) (D0x : K.lookup D1t = some ⟨V6k, V4p, .func (fnOf "scaled" "scaled" (B0 A6f) (A8 A6f) (A1 A6f) .none V9s V4u V7p V7k D7d V8p), V7t⟩) (D0w : codeIn K D7d "scaled" = true) (C9x : keepIn K (.ref D1t) = true)
   {A0gk A0et : Option Addr} {A0gv : Array (Option Value)} {A0fc A0du A0gd A0fe V1x A0ef : Value}
   (U3n : nsIn K mainGlobals "_law_cell_at" = some (some (.ref U8y))) (U1q : K.lookup U8y = some ⟨A0fc, A0gk, .func (fnOf "_law_cell_at" "_law_cell_at" (B0 C5t) (A8 C5t) (A1 C5t) .none A0du A0gd A0fe A0et V1x A0ef), A0gv⟩) (U4v : codeIn K V1x "_law_cell_at" = true) (J8m : keepIn K (.ref U8y) = true)
   {Y8g Y7x : Option Addr} {Y8q : Array (Option Value)} {Z1u Z1e Z6a Z4e J2y Z9t : Value}
   (G6k : nsIn K mainGlobals "_law_mixed" = some (some (.ref G4a))) (G3t : K.lookup G4a = some ⟨Z1u, Y8g, .func (fnOf "_law_mixed" "_law_mixed" (B0 A5w) (A8 A5w) (A1 A5w) .none Z1e Z6a Z4e Y7x J2y Z9t), Y8q⟩) (D9t : codeIn K J2y "_law_mixed" = true) (G5p : keepIn K (.ref G4a) = true)
   {A0dp A0es : Option Addr} {A0gr : Array (Option Value)} {A0ep A0fv A0fr A0dh V1y A0fy : Value}
   (J8j : nsIn K mainGlobals "_law_ten" = some (some (.ref U3h))) (U8j : K.lookup U3h = some ⟨A0ep, A0dp, .func (fnOf "_law_ten" "_law_ten" (B0 A8x) (A8 A8x) (A1 A8x) .none A0fv A0fr A0dh A0es V1y A0fy), A0gr⟩) (U5j : codeIn K V1y "_law_ten" = true) (U0b : keepIn K (.ref U3h) = true)
   {A0gb A0fk : Option Addr} {A0fn : Array (Option Value)} {A0gz A0fu A0ew A0fm V1g A0gf : Value}
   (U5t : nsIn K mainGlobals "_law_figures" = some (some (.ref J9p))) (U1t : K.lookup J9p = some ⟨A0gz, A0gb, .func (fnOf "_law_figures" "_law_figures" (B0 C6e) (A8 C6e) (A1 C6e) .none A0fu A0ew A0fm A0fk V1g A0gf), A0fn⟩) (U0c : codeIn K V1g "_law_figures" = true) (U8f : keepIn K (.ref J9p) = true)
   {V5y V5m : Option Addr} {V6p : Array (Option Value)} {V9y V7r V6g V5u D6t V7m : Value}
   (C9u : nsIn K mainGlobals "_law_frame" = some (some (.ref C8u))) (D0s : K.lookup C8u = some ⟨V9y, V5y, .func (fnOf "_law_frame" "_law_frame" (B0 A5y) (A8 A5y) (A1 A5y) .none V7r V6g V5u V5m D6t V7m), V6p⟩) (D1n : codeIn K D6t "_law_frame" = true) (D1q : keepIn K (.ref C8u) = true)
   {A0fz A0fa : Option Addr} {A0ga : Array (Option Value)} {A0dr A0dd A0dv A0ds V1k A0gc : Value}
   (U4b : nsIn K mainGlobals "_law_context" = some (some (.ref U1j))) (U4p : K.lookup U1j = some ⟨A0dr, A0fz, .func (fnOf "_law_context" "_law_context" (B0 C5j) (A8 C5j) (A1 C5j) .none A0dd A0dv A0ds A0fa V1k A0gc), A0ga⟩) (U0y : codeIn K V1k "_law_context" = true) (U2s : keepIn K (.ref U1j) = true)
   {V6e V8t : Option Addr} {V9a : Array (Option Value)} {V7f V6u V6r V8y D7b V5w : Value}
   (C9z : nsIn K mainGlobals "_law_plain" = some (some (.ref C7x))) (C7t : K.lookup C7x = some ⟨V7f, V6e, .func (fnOf "_law_plain" "_law_plain" (B0 A5x) (A8 A5x) (A1 A5x) .none V6u V6r V8y V8t D7b V5w), V9a⟩) (C9k : codeIn K D7b "_law_plain" = true) (D0u : keepIn K (.ref C7x) = true)
   {V4z V8d : Option Addr} {V8k : Array (Option Value)} {V5e V8g V6m V7s D6n V5r : Value}
   (C8x : nsIn K mainGlobals "_law_count" = some (some (.ref D1m))) (D0d : K.lookup D1m = some ⟨V5e, V4z, .func (fnOf "_law_count" "_law_count" (B0 A3p) (A8 A3p) (A1 A3p) .none V8g V6m V7s V8d D6n V5r), V8k⟩) (D0g : codeIn K D6n "_law_count" = true) (C7h : keepIn K (.ref D1m) = true)
   {A0pq A0mz : Option Addr} {A0pb : Array (Option Value)} {A0mr A0ma A0pe A0ky Z2v A0pa : Value}
   (Z4a : nsIn K mainGlobals "_law_at" = some (some (.ref Z0h))) (Z1q : K.lookup Z0h = some ⟨A0mr, A0pq, .func (fnOf "_law_at" "_law_at" (B0 G9s) (A8 G9s) (A1 G9s) .none A0ma A0pe A0ky A0mz Z2v A0pa), A0pb⟩) (Z7r : codeIn K Z2v "_law_at" = true) (Z1x : keepIn K (.ref Z0h) = true)
   {Z8h Y9c : Option Addr} {Z0e : Array (Option Value)} {Z3n Y7h Z6u Z3a J2x Y4t : Value}
   (G7s : nsIn K mainGlobals "_law_lead" = some (some (.ref G5m))) (G8u : K.lookup G5m = some ⟨Z3n, Z8h, .func (fnOf "_law_lead" "_law_lead" (B0 B4t) (A8 B4t) (A1 B4t) .none Y7h Z6u Z3a Y9c J2x Y4t), Z0e⟩) (G1w : codeIn K J2x "_law_lead" = true) (G4c : keepIn K (.ref G5m) = true)
   {Z4g Z1y : Option Addr} {Z2x : Array (Option Value)} {Y5v Z8q Z9s Z0s J0y Z2k : Value}
   (G3p : nsIn K mainGlobals "_law_goes_up" = some (some (.ref G8g))) (G5n : K.lookup G8g = some ⟨Y5v, Z4g, .func (fnOf "_law_goes_up" "_law_goes_up" (B0 B4e) (A8 B4e) (A1 B4e) .none Z8q Z9s Z0s Z1y J0y Z2k), Z2x⟩) (G1j : codeIn K J0y "_law_goes_up" = true) (G6d : keepIn K (.ref G8g) = true)
   {V9t Y0c : Option Addr} {V8a : Array (Option Value)} {V6w V7h V7y V4x D7h V8w : Value}
   (C7s : nsIn K mainGlobals "_law_burst" = some (some (.ref D0r))) (D0a : K.lookup D0r = some ⟨V6w, V9t, .func (fnOf "_law_burst" "_law_burst" (B0 A6b) (A8 A6b) (A1 A6b) .none V7h V7y V4x Y0c D7h V8w), V8a⟩) (C9d : codeIn K D7h "_law_burst" = true) (D0k : keepIn K (.ref D0r) = true)
   {J0p J4e : Option Addr} {J1x : Array (Option Value)} {J3y J0r J5a J4u C4t J4f : Value}
   (B5r : nsIn K mainGlobals "_law_settled" = some (some (.ref B6w))) (B5s : K.lookup B6w = some ⟨J3y, J0p, .func (fnOf "_law_settled" "_law_settled" (B0 A0h) (A8 A0h) (A1 A0h) .none J0r J5a J4u J4e C4t J4f), J1x⟩) (B6x : codeIn K C4t "_law_settled" = true) (B5j : keepIn K (.ref B6w) = true)
   {U6s J7n : Option Addr} {U7g : Array (Option Value)} {U3k U1r J8z J7t C9c U2m : Value}
   (C0k : nsIn K mainGlobals "_law_nought" = some (some (.ref B9d))) (C0y : K.lookup B9d = some ⟨U3k, U6s, .func (fnOf "_law_nought" "_law_nought" (B0 A1b) (A8 A1b) (A1 A1b) .none U1r J8z J7t J7n C9c U2m), U7g⟩) (C2q : codeIn K C9c "_law_nought" = true) (C3y : keepIn K (.ref B9d) = true)
   {U6c U1k : Option Addr} {U5k : Array (Option Value)} {U1h U7b U6n J8h C7q U5n : Value}
   (C1m : nsIn K mainGlobals "_law_signed" = some (some (.ref B9p))) (C1p : K.lookup B9p = some ⟨U1h, U6c, .func (fnOf "_law_signed" "_law_signed" (B0 A0x) (A8 A0x) (A1 A0x) .none U7b U6n J8h U1k C7q U5n), U5k⟩) (B9e : codeIn K C7q "_law_signed" = true) (C2h : keepIn K (.ref B9p) = true)
   {V6x V4v : Option Addr} {V6v : Array (Option Value)} {V5h V9d V9b V7b D7e V5k : Value}
   (C8z : nsIn K mainGlobals "_law_whole" = some (some (.ref C8b))) (C7p : K.lookup C8b = some ⟨V5h, V6x, .func (fnOf "_law_whole" "_law_whole" (B0 A3n) (A8 A3n) (A1 A3n) .none V9d V9b V7b V4v D7e V5k), V6v⟩) (C9y : codeIn K D7e "_law_whole" = true) (C8s : keepIn K (.ref C8b) = true)
   {U0a U6h : Option Addr} {U0w : Array (Option Value)} {U8a U5y U6x J9u C7y U0h : Value}
   (C3e : nsIn K mainGlobals "_law_summed" = some (some (.ref C3p))) (C2x : K.lookup C3p = some ⟨U8a, U0a, .func (fnOf "_law_summed" "_law_summed" (B0 A2s) (A8 A2s) (A1 A2s) .none U5y U6x J9u U6h C7y U0h), U0w⟩) (C3f : codeIn K C7y "_law_summed" = true) (C0t : keepIn K (.ref C3p) = true)
   {Y9z Y7a : Option Addr} {Y8u : Array (Option Value)} {Z1d Y7g Z2h Z8y J2n Y4k : Value}
   (G3c : nsIn K mainGlobals "_law_product" = some (some (.ref G7b))) (D9z : K.lookup G7b = some ⟨Z1d, Y9z, .func (fnOf "_law_product" "_law_product" (B0 B4r) (A8 B4r) (A1 B4r) .none Y7g Z2h Z8y Y7a J2n Y4k), Y8u⟩) (G3u : codeIn K J2n "_law_product" = true) (G1b : keepIn K (.ref G7b) = true)
   {A0eb A0gx : Option Addr} {A0dj : Array (Option Value)} {A0gh A0ec A0dn A0de V1c A0fg : Value}
   (U0n : nsIn K mainGlobals "_law_own" = some (some (.ref U1w))) (U5r : K.lookup U1w = some ⟨A0gh, A0eb, .func (fnOf "_law_own" "_law_own" (B0 C6g) (A8 C6g) (A1 C6g) .none A0ec A0dn A0de A0gx V1c A0fg), A0dj⟩) (U8v : codeIn K V1c "_law_own" = true) (J8y : keepIn K (.ref U1w) = true)
   {U7j U7x : Option Addr} {U6g : Array (Option Value)} {U6m U4e U6e U4j D0v J8c : Value}
   (C3t : nsIn K mainGlobals "_law_chosen" = some (some (.ref C3g))) (C0q : K.lookup C3g = some ⟨U6m, U7j, .func (fnOf "_law_chosen" "_law_chosen" (B0 A2y) (A8 A2y) (A1 A2y) .none U4e U6e U4j U7x D0v J8c), U6g⟩) (C1j : codeIn K D0v "_law_chosen" = true) (C0a : keepIn K (.ref C3g) = true)
   {A0dq A0df : Option Addr} {A0ez : Array (Option Value)} {A0dx A0ex A0eg A0ee V1z A0gu : Value}
   (U5x : nsIn K mainGlobals "_law_due" = some (some (.ref U8z))) (U1n : K.lookup U8z = some ⟨A0dx, A0dq, .func (fnOf "_law_due" "_law_due" (B0 C5s) (A8 C5s) (A1 C5s) .none A0ex A0eg A0ee A0df V1z A0gu), A0ez⟩) (U2v : codeIn K V1z "_law_due" = true) (J8b : keepIn K (.ref U8z) = true)
   {Z8v Z0a : Option Addr} {Z3q : Array (Option Value)} {Y9k Z6s Y8v Y6t J1e Z5j : Value}
   (G1y : nsIn K mainGlobals "_law_told" = some (some (.ref G8b))) (G8c : K.lookup G8b = some ⟨Y9k, Z8v, .func (fnOf "_law_told" "_law_told" (B0 B4h) (A8 B4h) (A1 B4h) .none Z6s Y8v Y6t Z0a J1e Z5j), Z3q⟩) (G5a : codeIn K J1e "_law_told" = true) (G6e : keepIn K (.ref G8b) = true)
   {A0kz Z9d : Option Addr} {A0mf : Array (Option Value)} {A0mm Y4m Y8a Z4w U1b Z4n : Value}
   (V1e : nsIn K mainGlobals "law" = some (some (.ref Y5m))) (Y7e : K.lookup Y5m = some ⟨A0mm, A0kz, .func (fnOf "law" "law" (B0 D7p) (A8 D7p) (A1 D7p) .none Y4m Y8a Z4w Z9d U1b Z4n), A0mf⟩) (Y7m : codeIn K U1b "law" = true) (Z9f : keepIn K (.ref Y5m) = true)
   (A6k : nsIn K mainGlobals "isinstance" = some none)
   (Z3s : nsIn K mainGlobals "int" = some none)
   (J8a : nsIn K mainGlobals "bool" = some none)
   (Y9e : nsIn K mainGlobals "str" = some none)
   (J7y : nsIn K mainGlobals "list" = some none)
   (G4h : nsIn K mainGlobals "tuple" = some none)
   (U1e : nsIn K mainGlobals "dict" = some none)
   (A0aa : nsIn K mainGlobals "len" = some none)
   (G4q : nsIn K mainGlobals "range" = some none)
   (Y8n : nsIn K mainGlobals "min" = some none)
   (Z8u : nsIn K mainGlobals "max" = some none)
   (Z6d : nsIn K mainGlobals "abs" = some none)
   (Z0f : nsIn K mainGlobals "any" = some none)
   (Z4p : nsIn K mainGlobals "all" = some none)
   (Y8y : nsIn K mainGlobals "sum" = some none)
   (U5s : nsIn K mainGlobals "repr" = some none)
   (B1e : nsIn K mainGlobals "enumerate" = some none)
   (B5q : nsIn K mainGlobals "reversed" = some none)
   (Z0w : nsIn K mainGlobals "zip" = some none)
   (C7z : nsIn K mainGlobals "sorted" = some none)
   (C8n : nsIn K mainGlobals "divmod" = some none)
   (Z4r : nsIn K mainGlobals "set" = some none)
   (A6z : nsIn K mainGlobals "ValueError" = some none)
   (B6g : kitOne K (.type "int") (.type "int") = some true)
   (B1y : kitOne K (.type "int") (.type "bool") = some false)
   (B6e : kitOne K (.type "int") (.type "str") = some false)
   (B1v : kitOne K (.type "int") (.type "list") = some false)
   (A7v : kitOne K (.type "int") (.type "tuple") = some false)
   (A9v : kitOne K (.type "int") (.type "dict") = some false)
   (A9y : kitOne K (.type "bool") (.type "int") = some true)
   (A7c : kitOne K (.type "bool") (.type "bool") = some true)
   (B0x : kitOne K (.type "bool") (.type "str") = some false)
   (A8k : kitOne K (.type "bool") (.type "list") = some false)
   (A4g : kitOne K (.type "bool") (.type "tuple") = some false)
   (A8n : kitOne K (.type "bool") (.type "dict") = some false)
   (B5u : kitOne K (.type "str") (.type "int") = some false)
   (B1a : kitOne K (.type "str") (.type "bool") = some false)
   (B6b : kitOne K (.type "str") (.type "str") = some true)
   (B1w : kitOne K (.type "str") (.type "list") = some false)
   (A7t : kitOne K (.type "str") (.type "tuple") = some false)
   (B0p : kitOne K (.type "str") (.type "dict") = some false)
   (B0m : kitOne K (.type "list") (.type "int") = some false)
   (A7j : kitOne K (.type "list") (.type "bool") = some false)
   (B1s : kitOne K (.type "list") (.type "str") = some false)
   (A7m : kitOne K (.type "list") (.type "list") = some true)
   (A4k : kitOne K (.type "list") (.type "tuple") = some false)
   (A8j : kitOne K (.type "list") (.type "dict") = some false)
   (A8f : kitOne K (.type "tuple") (.type "int") = some false)
   (A4h : kitOne K (.type "tuple") (.type "bool") = some false)
   (A6q : kitOne K (.type "tuple") (.type "str") = some false)
   (A4f : kitOne K (.type "tuple") (.type "list") = some false)
   (A3g : kitOne K (.type "tuple") (.type "tuple") = some true)
   (A4j : kitOne K (.type "tuple") (.type "dict") = some false)
   (B1r : kitOne K (.type "dict") (.type "int") = some false)
   (A7f : kitOne K (.type "dict") (.type "bool") = some false)
   (B1t : kitOne K (.type "dict") (.type "str") = some false)
   (A7x : kitOne K (.type "dict") (.type "list") = some false)
   (A4e : kitOne K (.type "dict") (.type "tuple") = some false)
   (A7r : kitOne K (.type "dict") (.type "dict") = some true)
   (A1w : kitOne K (.type "NoneType") (.type "int") = some false)
   (A0t : kitOne K (.type "NoneType") (.type "bool") = some false)
   (A1v : kitOne K (.type "NoneType") (.type "str") = some false)
   (A0s : kitOne K (.type "NoneType") (.type "list") = some false)
   (Z9 : kitOne K (.type "NoneType") (.type "tuple") = some false)
   (A0r : kitOne K (.type "NoneType") (.type "dict") = some false)
   (sn : specialIn K (.builtin "object.__class__") "__get__" = some (some (.builtin "getset_descriptor.__get__")))
   (tk : takesIn K (.builtin "object.__class__") = some true)
   (a_CW : nsIn K mainGlobals "Way" = some (some (.ref CW)))
   (a_W0 : nsIn K mainGlobals "Down" = some (some (.ref W0)))
   (Z6v : plainGet K W0 Str.empty = true)
   (Y8s : hasDictIn K W0 = true)
   (Z7h : plainOver K W0 = true)
   (Y8e : findIn K (.ref W0) "__setattr__" = some (some (.builtin "object.__setattr__")))
   (Z0m : makesIn K W0 = true)
   (Z3m : keepIn K (.ref W0) = true)
   (Z6w : findIn K (.ref W0) "__class__" = some (some (.builtin "object.__class__")))
   (Z3t : mroIn K W0 (.type "object") = some true)
   (Z8m : findIn K (.ref W0) "__init__" = some (some (.builtin "object.__init__")))
   (Z5h : kitOne K (.ref W0) (.ref CW) = some true)
   (C3k : findIn K (.ref W0) "name" = some (some (.ref A5g)))
   (C3m : isFn K (.ref A5g) = true)
   {U3u U5p : Option Addr} {U6j : Array (Option Value)} {U6b U2u U4w J9k D0z U7c : Value} (B8z : K.lookup A5g = some ⟨U6b, U3u, .func (fnOf "name" "Down.name" (B0 sN0) (A8 sN0) (A1 sN0) .none U2u U4w J9k U5p D0z U7c), U6j⟩)
   (C2c : codeIn K D0z "Down.name" = true)
   (B3c : keepIn K (.ref A5g) = true)
   (a_W1 : nsIn K mainGlobals "Up" = some (some (.ref W1)))
   (Z3k : plainGet K W1 Str.empty = true)
   (Z9p : hasDictIn K W1 = true)
   (Z6c : plainOver K W1 = true)
   (Z2r : findIn K (.ref W1) "__setattr__" = some (some (.builtin "object.__setattr__")))
   (Y5g : makesIn K W1 = true)
   (Y6b : keepIn K (.ref W1) = true)
   (Z6y : findIn K (.ref W1) "__class__" = some (some (.builtin "object.__class__")))
   (Y9q : mroIn K W1 (.type "object") = some true)
   (Y7c : findIn K (.ref W1) "__init__" = some (some (.builtin "object.__init__")))
   (Z7f : kitOne K (.ref W1) (.ref CW) = some true)
   (C0m : findIn K (.ref W1) "name" = some (some (.ref A5h)))
   (B9r : isFn K (.ref A5h) = true)
   {U2c U0t : Option Addr} {J9e : Array (Option Value)} {U5a U0v U1z J7v C8k U6t : Value} (C0r : K.lookup A5h = some ⟨U5a, U2c, .func (fnOf "name" "Up.name" (B0 sN1) (A8 sN1) (A1 sN1) .none U0v U1z J7v U0t C8k U6t), J9e⟩)
   (C2e : codeIn K C8k "Up.name" = true)
   (B2y : keepIn K (.ref A5h) = true)
   (a_W2 : nsIn K mainGlobals "Floor" = some (some (.ref W2)))
   (Y6u : plainGet K W2 Str.empty = true)
   (Y5s : hasDictIn K W2 = true)
   (Z9b : plainOver K W2 = true)
   (Y5h : findIn K (.ref W2) "__setattr__" = some (some (.builtin "object.__setattr__")))
   (Z6e : makesIn K W2 = true)
   (Y7t : keepIn K (.ref W2) = true)
   (Z8z : findIn K (.ref W2) "__class__" = some (some (.builtin "object.__class__")))
   (Z4x : mroIn K W2 (.type "object") = some true)
   (Y6g : findIn K (.ref W2) "__init__" = some (some (.builtin "object.__init__")))
   (Z6p : kitOne K (.ref W2) (.ref CW) = some true)
   (C1z : findIn K (.ref W2) "name" = some (some (.ref A5b)))
   (C1a : isFn K (.ref A5b) = true)
   {U3r U2a : Option Addr} {U7r : Array (Option Value)} {U4g U0d U4x U0z C7g U3g : Value} (B9w : K.lookup A5b = some ⟨U4g, U3r, .func (fnOf "name" "Floor.name" (B0 sN2) (A8 sN2) (A1 sN2) .none U0d U4x U0z U2a C7g U3g), U7r⟩)
   (C3j : codeIn K C7g "Floor.name" = true)
   (B3e : keepIn K (.ref A5b) = true)
   (a_W3 : nsIn K mainGlobals "Ceiling" = some (some (.ref W3)))
   (Z8s : plainGet K W3 Str.empty = true)
   (Z5b : hasDictIn K W3 = true)
   (Z0p : plainOver K W3 = true)
   (Z6r : findIn K (.ref W3) "__setattr__" = some (some (.builtin "object.__setattr__")))
   (Y6p : makesIn K W3 = true)
   (Z8c : keepIn K (.ref W3) = true)
   (Y4z : findIn K (.ref W3) "__class__" = some (some (.builtin "object.__class__")))
   (Z1w : mroIn K W3 (.type "object") = some true)
   (Y8t : findIn K (.ref W3) "__init__" = some (some (.builtin "object.__init__")))
   (Y9f : kitOne K (.ref W3) (.ref CW) = some true)
   (C3n : findIn K (.ref W3) "name" = some (some (.ref A5c)))
   (C4d : isFn K (.ref A5c) = true)
   {U0u U8b : Option Addr} {U2g : Array (Option Value)} {U7z U2q U2e U5w D1p U4m : Value} (C3q : K.lookup A5c = some ⟨U7z, U0u, .func (fnOf "name" "Ceiling.name" (B0 sN3) (A8 sN3) (A1 sN3) .none U2q U2e U5w U8b D1p U4m), U2g⟩)
   (C3b : codeIn K D1p "Ceiling.name" = true)
   (B2z : keepIn K (.ref A5c) = true)
   (a_W4 : nsIn K mainGlobals "HalfUp" = some (some (.ref W4)))
   (Z5u : plainGet K W4 Str.empty = true)
   (Z3e : hasDictIn K W4 = true)
   (Z3p : plainOver K W4 = true)
   (Z7a : findIn K (.ref W4) "__setattr__" = some (some (.builtin "object.__setattr__")))
   (Y6m : makesIn K W4 = true)
   (Z4y : keepIn K (.ref W4) = true)
   (Z4j : findIn K (.ref W4) "__class__" = some (some (.builtin "object.__class__")))
   (Z8j : mroIn K W4 (.type "object") = some true)
   (Y6h : findIn K (.ref W4) "__init__" = some (some (.builtin "object.__init__")))
   (Z3y : kitOne K (.ref W4) (.ref CW) = some true)
   (B9f : findIn K (.ref W4) "name" = some (some (.ref A5e)))
   (C1t : isFn K (.ref A5e) = true)
   {U8c U3t : Option Addr} {J9q : Array (Option Value)} {U6p J8v U0q U7p C8e U3j : Value} (B9g : K.lookup A5e = some ⟨U6p, U8c, .func (fnOf "name" "HalfUp.name" (B0 sN4) (A8 sN4) (A1 sN4) .none J8v U0q U7p U3t C8e U3j), J9q⟩)
   (C1k : codeIn K C8e "HalfUp.name" = true)
   (B2v : keepIn K (.ref A5e) = true)
   (a_W5 : nsIn K mainGlobals "HalfDown" = some (some (.ref W5)))
   (Z3z : plainGet K W5 Str.empty = true)
   (Z9a : hasDictIn K W5 = true)
   (Z2y : plainOver K W5 = true)
   (Z0u : findIn K (.ref W5) "__setattr__" = some (some (.builtin "object.__setattr__")))
   (Z3c : makesIn K W5 = true)
   (Z0j : keepIn K (.ref W5) = true)
   (Z2z : findIn K (.ref W5) "__class__" = some (some (.builtin "object.__class__")))
   (Z8w : mroIn K W5 (.type "object") = some true)
   (Z7g : findIn K (.ref W5) "__init__" = some (some (.builtin "object.__init__")))
   (Y5b : kitOne K (.ref W5) (.ref CW) = some true)
   (C3r : findIn K (.ref W5) "name" = some (some (.ref A5a)))
   (B9x : isFn K (.ref A5a) = true)
   {U3d U8x : Option Addr} {J9b : Array (Option Value)} {U6w U2y J9h J9m C9t J9f : Value} (C4c : K.lookup A5a = some ⟨U6w, U3d, .func (fnOf "name" "HalfDown.name" (B0 sN5) (A8 sN5) (A1 sN5) .none U2y J9h J9m U8x C9t J9f), J9b⟩)
   (C2k : codeIn K C9t "HalfDown.name" = true)
   (B2x : keepIn K (.ref A5a) = true)
   (a_W6 : nsIn K mainGlobals "HalfEven" = some (some (.ref W6)))
   (Y9t : plainGet K W6 Str.empty = true)
   (Y8d : hasDictIn K W6 = true)
   (Z4q : plainOver K W6 = true)
   (Z5f : findIn K (.ref W6) "__setattr__" = some (some (.builtin "object.__setattr__")))
   (Y4r : makesIn K W6 = true)
   (Z4u : keepIn K (.ref W6) = true)
   (Z5k : findIn K (.ref W6) "__class__" = some (some (.builtin "object.__class__")))
   (Z0z : mroIn K W6 (.type "object") = some true)
   (Z4k : findIn K (.ref W6) "__init__" = some (some (.builtin "object.__init__")))
   (Z4m : kitOne K (.ref W6) (.ref CW) = some true)
   (C2v : findIn K (.ref W6) "name" = some (some (.ref A5d)))
   (B9c : isFn K (.ref A5d) = true)
   {U6f U7w : Option Addr} {J8w : Array (Option Value)} {J9v U4q U3w J9r C9s U3e : Value} (C1c : K.lookup A5d = some ⟨J9v, U6f, .func (fnOf "name" "HalfEven.name" (B0 sN6) (A8 sN6) (A1 sN6) .none U4q U3w J9r U7w C9s U3e), J8w⟩)
   (C1b : codeIn K C9s "HalfEven.name" = true)
   (B3d : keepIn K (.ref A5d) = true)
   (a_W7 : nsIn K mainGlobals "FiveUp" = some (some (.ref W7)))
   (Y7k : plainGet K W7 Str.empty = true)
   (Y9g : hasDictIn K W7 = true)
   (Y5q : plainOver K W7 = true)
   (Y4j : findIn K (.ref W7) "__setattr__" = some (some (.builtin "object.__setattr__")))
   (Y5f : makesIn K W7 = true)
   (Z1p : keepIn K (.ref W7) = true)
   (Z7m : findIn K (.ref W7) "__class__" = some (some (.builtin "object.__class__")))
   (Z7t : mroIn K W7 (.type "object") = some true)
   (Z8x : findIn K (.ref W7) "__init__" = some (some (.builtin "object.__init__")))
   (Z0b : kitOne K (.ref W7) (.ref CW) = some true)
   (C3v : findIn K (.ref W7) "name" = some (some (.ref A5f)))
   (C2t : isFn K (.ref A5f) = true)
   {U5b U5f : Option Addr} {U3c : Array (Option Value)} {J9n U7v U1y U9b C7j U2d : Value} (B9u : K.lookup A5f = some ⟨J9n, U5b, .func (fnOf "name" "FiveUp.name" (B0 sN7) (A8 sN7) (A1 sN7) .none U7v U1y U9b U5f C7j U2d), U3c⟩)
   (C1g : codeIn K C7j "FiveUp.name" = true)
   (B2u : keepIn K (.ref A5f) = true)
   (a_CN : nsIn K mainGlobals "Number" = some (some (.ref CN)))
   (Y4x : plainGet K CN Str.empty = true)
   (Y5p : hasDictIn K CN = true)
   (Z7q : plainOver K CN = true)
   (Z9r : findIn K (.ref CN) "__setattr__" = some (some (.builtin "object.__setattr__")))
   (Z8t : makesIn K CN = true)
   (Y9a : keepIn K (.ref CN) = true)
   (Z9j : findIn K (.ref CN) "__class__" = some (some (.builtin "object.__class__")))
   (Y5e : mroIn K CN (.type "object") = some true)
   (C3c : findIn K (.ref CN) "kind" = some none)
   (C2g : findIn K (.ref CN) "sign" = some none)
   (A6h : findIn K (.ref CN) "figures" = some none)
   (B6j : findIn K (.ref CN) "power" = some none)
   (Z5a : findIn K (.ref CN) "__init__" = some (some (.ref D6v)))
   (Y6v : isFn K (.ref D6v) = true)
   {A0pk A0mb : Option Addr} {A0nn : Array (Option Value)} {A0nf A0pp A0mg A0md Z9q A0nk : Value} (Z6b : K.lookup D6v = some ⟨A0nf, A0pk, .func (fnOf "__init__" "Number.__init__" (B0 D5q) (A8 D5q) (A1 D5q) .none A0pp A0mg A0md A0mb Z9q A0nk), A0nn⟩)
   (Y6w : codeIn K Z9q "Number.__init__" = true)
   (Z8r : keepIn K (.ref D6v) = true)
   (G6f : kitOne K (.ref CN) (.ref CN) = some true)
   (A6j : findIn K (.ref W0) "goes_up" = some (some (.ref A0f)))
   (A7n : isFn K (.ref A0f) = true)
   {D4b D3n : Option Addr} {D2v : Array (Option Value)} {D2r D3h D4x D2m B3s D2a : Value} (A7y : K.lookup A0f = some ⟨D2r, D4b, .func (fnOf "goes_up" "Down.goes_up" (B0 sU0) (A8 sU0) (A1 sU0) .none D3h D4x D2m D3n B3s D2a), D2v⟩)
   (A7d : codeIn K B3s "Down.goes_up" = true)
   (A2d : keepIn K (.ref A0f) = true)
   (B1g : findIn K (.ref W0) "to_end" = some (some (.ref A1f)))
   (B1c : isFn K (.ref A1f) = true)
   {D9u G3f : Option Addr} {G3e : Array (Option Value)} {G2m G0a G3b G8s B8d G7a : Value} (B1m : K.lookup A1f = some ⟨G2m, D9u, .func (fnOf "to_end" "Down.to_end" (B0 sT0) (A8 sT0) (A1 sT0) .none G0a G3b G8s G3f B8d G7a), G3e⟩)
   (B0j : codeIn K B8d "Down.to_end" = true)
   (A4b : keepIn K (.ref A1f) = true)
   (A7e : findIn K (.ref W1) "goes_up" = some (some (.ref Z7)))
   (A8h : isFn K (.ref Z7) = true)
   {D3g D3u : Option Addr} {D4c : Array (Option Value)} {D1z D4t D2b D3x B3z D3p : Value} (A6m : K.lookup Z7 = some ⟨D1z, D3g, .func (fnOf "goes_up" "Up.goes_up" (B0 sU1) (A8 sU1) (A1 sU1) .none D4t D2b D3x D3u B3z D3p), D4c⟩)
   (A8g : codeIn K B3z "Up.goes_up" = true)
   (A2k : keepIn K (.ref Z7) = true)
   (B0a : findIn K (.ref W1) "to_end" = some (some (.ref A1d)))
   (B1d : isFn K (.ref A1d) = true)
   {G7w G2u : Option Addr} {G0c : Array (Option Value)} {G7p G4g G5v G6z B8a G0j : Value} (B1b : K.lookup A1d = some ⟨G7p, G7w, .func (fnOf "to_end" "Up.to_end" (B0 sT1) (A8 sT1) (A1 sT1) .none G4g G5v G6z G2u B8a G0j), G0c⟩)
   (B0f : codeIn K B8a "Up.to_end" = true)
   (A3v : keepIn K (.ref A1d) = true)
   (A7h : findIn K (.ref W2) "goes_up" = some (some (.ref A0a)))
   (A7p : isFn K (.ref A0a) = true)
   {D2f D3y : Option Addr} {D4n : Array (Option Value)} {D4r D3b D2u D2y B3t D2e : Value} (A7u : K.lookup A0a = some ⟨D4r, D2f, .func (fnOf "goes_up" "Floor.goes_up" (B0 sU2) (A8 sU2) (A1 sU2) .none D3b D2u D2y D3y B3t D2e), D4n⟩)
   (A7q : codeIn K B3t "Floor.goes_up" = true)
   (A2m : keepIn K (.ref A0a) = true)
   (B0w : findIn K (.ref W2) "to_end" = some (some (.ref A1m)))
   (B0e : isFn K (.ref A1m) = true)
   {G2c D9s : Option Addr} {G6m : Array (Option Value)} {G1z G3n G1h G7c B7s G4x : Value} (B1p : K.lookup A1m = some ⟨G1z, G2c, .func (fnOf "to_end" "Floor.to_end" (B0 sT2) (A8 sT2) (A1 sT2) .none G3n G1h G7c D9s B7s G4x), G6m⟩)
   (A9k : codeIn K B7s "Floor.to_end" = true)
   (A3x : keepIn K (.ref A1m) = true)
   (A6v : findIn K (.ref W3) "goes_up" = some (some (.ref A0e)))
   (A8m : isFn K (.ref A0e) = true)
   {D5a D2d : Option Addr} {D3k : Array (Option Value)} {D2c D4y D2p D4s B3x D2x : Value} (A8c : K.lookup A0e = some ⟨D2c, D5a, .func (fnOf "goes_up" "Ceiling.goes_up" (B0 sU3) (A8 sU3) (A1 sU3) .none D4y D2p D4s D2d B3x D2x), D3k⟩)
   (A8b : codeIn K B3x "Ceiling.goes_up" = true)
   (A2j : keepIn K (.ref A0e) = true)
   (A9j : findIn K (.ref W3) "to_end" = some (some (.ref A1n)))
   (B1f : isFn K (.ref A1n) = true)
   {G3k D9a : Option Addr} {D9v : Array (Option Value)} {G5d G8h G1n G7m B7v G6j : Value} (A9q : K.lookup A1n = some ⟨G5d, G3k, .func (fnOf "to_end" "Ceiling.to_end" (B0 sT3) (A8 sT3) (A1 sT3) .none G8h G1n G7m D9a B7v G6j), D9v⟩)
   (A9x : codeIn K B7v "Ceiling.to_end" = true)
   (A4c : keepIn K (.ref A1n) = true)
   (A6r : findIn K (.ref W4) "goes_up" = some (some (.ref A0d)))
   (A6g : isFn K (.ref A0d) = true)
   {D3v D4a : Option Addr} {D3t : Array (Option Value)} {D3s D2q D3f D3a B3u D2n : Value} (A6x : K.lookup A0d = some ⟨D3s, D3v, .func (fnOf "goes_up" "HalfUp.goes_up" (B0 sU4) (A8 sU4) (A1 sU4) .none D2q D3f D3a D4a B3u D2n), D3t⟩)
   (A6n : codeIn K B3u "HalfUp.goes_up" = true)
   (A2h : keepIn K (.ref A0d) = true)
   (B1j : findIn K (.ref W4) "to_end" = some (some (.ref A1h)))
   (B1n : isFn K (.ref A1h) = true)
   {G1u G0r : Option Addr} {G4m : Array (Option Value)} {G2e G6v D9c G1s B8b G5e : Value} (B0c : K.lookup A1h = some ⟨G2e, G1u, .func (fnOf "to_end" "HalfUp.to_end" (B0 sT4) (A8 sT4) (A1 sT4) .none G6v D9c G1s G0r B8b G5e), G4m⟩)
   (A9u : codeIn K B8b "HalfUp.to_end" = true)
   (A3t : keepIn K (.ref A1h) = true)
   (A7w : findIn K (.ref W5) "goes_up" = some (some (.ref A0b)))
   (A7a : isFn K (.ref A0b) = true)
   {D4g D2k : Option Addr} {D3m : Array (Option Value)} {D4v D3e D4e D3r B3w D4m : Value} (A8e : K.lookup A0b = some ⟨D4v, D4g, .func (fnOf "goes_up" "HalfDown.goes_up" (B0 sU5) (A8 sU5) (A1 sU5) .none D3e D4e D3r D2k B3w D4m), D3m⟩)
   (A6w : codeIn K B3w "HalfDown.goes_up" = true)
   (A2g : keepIn K (.ref A0b) = true)
   (B2c : findIn K (.ref W5) "to_end" = some (some (.ref A1k)))
   (B1u : isFn K (.ref A1k) = true)
   {G6g G5r : Option Addr} {G8d : Array (Option Value)} {G5f G7n G3r G2n B7u D8x : Value} (B0k : K.lookup A1k = some ⟨G5f, G6g, .func (fnOf "to_end" "HalfDown.to_end" (B0 sT5) (A8 sT5) (A1 sT5) .none G7n G3r G2n G5r B7u D8x), G8d⟩)
   (A9r : codeIn K B7u "HalfDown.to_end" = true)
   (A3z : keepIn K (.ref A1k) = true)
   (A6y : findIn K (.ref W6) "goes_up" = some (some (.ref A0c)))
   (A6p : isFn K (.ref A0c) = true)
   {D5b D3q : Option Addr} {D2s : Array (Option Value)} {D2t D4u D3j D4j B3y D3z : Value} (A8d : K.lookup A0c = some ⟨D2t, D5b, .func (fnOf "goes_up" "HalfEven.goes_up" (B0 sU6) (A8 sU6) (A1 sU6) .none D4u D3j D4j D3q B3y D3z), D2s⟩)
   (A8a : codeIn K B3y "HalfEven.goes_up" = true)
   (A2f : keepIn K (.ref A0c) = true)
   (B2d : findIn K (.ref W6) "to_end" = some (some (.ref A1e)))
   (B0z : isFn K (.ref A1e) = true)
   {G6u D9f : Option Addr} {D8w : Array (Option Value)} {G2r G6y G1c D9x B7r G6a : Value} (B2b : K.lookup A1e = some ⟨G2r, G6u, .func (fnOf "to_end" "HalfEven.to_end" (B0 sT6) (A8 sT6) (A1 sT6) .none G6y G1c D9x D9f B7r G6a), D8w⟩)
   (B0s : codeIn K B7r "HalfEven.to_end" = true)
   (A3u : keepIn K (.ref A1e) = true)
   (A7s : findIn K (.ref W7) "goes_up" = some (some (.ref Z8)))
   (A6u : isFn K (.ref Z8) = true)
   {D2w D3d : Option Addr} {D4q : Array (Option Value)} {D4f D4z D4k D4w B3v D2z : Value} (A6t : K.lookup Z8 = some ⟨D4f, D2w, .func (fnOf "goes_up" "FiveUp.goes_up" (B0 sU7) (A8 sU7) (A1 sU7) .none D4z D4k D4w D3d B3v D2z), D4q⟩)
   (A7k : codeIn K B3v "FiveUp.goes_up" = true)
   (A2e : keepIn K (.ref Z8) = true)
   (B0y : findIn K (.ref W7) "to_end" = some (some (.ref A1g)))
   (B0u : isFn K (.ref A1g) = true)
   {G1t G6t : Option Addr} {G8f : Array (Option Value)} {D9j G5h G7g G1p B7y G3q : Value} (B1q : K.lookup A1g = some ⟨D9j, G1t, .func (fnOf "to_end" "FiveUp.to_end" (B0 sT7) (A8 sT7) (A1 sT7) .none G5h G7g G1p G6t B7y G3q), G8f⟩)
   (B0g : codeIn K B7y "FiveUp.to_end" = true)
   (A3w : keepIn K (.ref A1g) = true)
   (a_CC : nsIn K mainGlobals "Context" = some (some (.ref CC)))
   (Z2w : plainGet K CC Str.empty = true)
   (Z6h : hasDictIn K CC = true)
   (Y5a : plainOver K CC = true)
   (Y9w : findIn K (.ref CC) "__setattr__" = some (some (.builtin "object.__setattr__")))
   (Z7e : makesIn K CC = true)
   (Y6f : keepIn K (.ref CC) = true)
   (C2b : findIn K (.ref CC) "room" = some none)
   (C1w : findIn K (.ref CC) "rule" = some none)
   (B5p : findIn K (.ref CC) "least" = some none)
   (C3u : findIn K (.ref CC) "most" = some none)
   (B5v : findIn K (.ref CC) "risen" = some none)
   (A7g : findIn K (.ref CC) "trapped" = some none)
   (Z6g : findIn K (.ref CC) "__init__" = some (some (.ref D6w)))
   (Z3j : isFn K (.ref D6w) = true)
   {A0nx Z8b : Option Addr} {A0mt : Array (Option Value)} {A0nm Z7d Z9h Y6k U1f Y7w : Value} (Z0q : K.lookup D6w = some ⟨A0nm, A0nx, .func (fnOf "__init__" "Context.__init__" (B0 Z6) (A8 Z6) (A1 Z6) (.ref Y6n) Z7d Z9h Y6k Z8b U1f Y7w), A0mt⟩)
   (Y8h : codeIn K U1f "Context.__init__" = true)
   (Z7w : keepIn K (.ref D6w) = true)
   {A0sp A0sh A0sy : Tok} {A0ta : Nat} {A0nc : Option Addr} {A0ph : Value} {A0mu : Array (Option Value)} (Z7v : K.lookup Y6n = some ⟨A0ph, A0nc, .seq #[.int 9 A0sp, .str "half even" A0sh, .none, .int 60 A0sy] A0ta, A0mu⟩)
   (B6u : findIn K (.ref CC) "flags" = some (some (.ref A3f)))
   (B6r : isFn K (.ref A3f) = true)
   {J4m J4n : Option Addr} {J3x : Array (Option Value)} {J0u J4d J3h J0v C4v J0n : Value} (B5f : K.lookup A3f = some ⟨J0u, J4m, .func (fnOf "flags" "Context.flags" (B0 A2q) (A8 A2q) (A1 A2q) .none J4d J3h J0v J4n C4v J0n), J3x⟩)
   (B6q : codeIn K C4v "Context.flags" = true)
   (A7b : keepIn K (.ref A3f) = true)
   (B1x : findIn K (.ref CC) "lowest" = some (some (.ref A1j)))
   (B2a : isFn K (.ref A1j) = true)
   {G1e G6q : Option Addr} {G0s : Array (Option Value)} {G2j G5k G4t G0k B7t G7q : Value} (B1z : K.lookup A1j = some ⟨G2j, G1e, .func (fnOf "lowest" "Context.lowest" (B0 B2j) (A8 B2j) (A1 B2j) .none G5k G4t G0k G6q B7t G7q), G0s⟩)
   (A9w : codeIn K B7t "Context.lowest" = true)
   (A3y : keepIn K (.ref A1j) = true)
   (C7w : findIn K (.ref CC) "way" = some (some (.ref B0d)))
   (D0h : isFn K (.ref B0d) = true)
   {V7z V9g : Option Addr} {V9z : Array (Option Value)} {V8f Y0a V6a V4w D6y V8e : Value} (C8g : K.lookup B0d = some ⟨V8f, V7z, .func (fnOf "way" "Context.way" (B0 B2h) (A8 B2h) (A1 B2h) .none Y0a V6a V4w V9g D6y V8e), V9z⟩)
   (D0f : codeIn K D6y "Context.way" = true)
   (B7w : keepIn K (.ref B0d) = true)
   (B0v : findIn K (.ref CC) "raised" = some (some (.ref A1p)))
   (A9z : isFn K (.ref A1p) = true)
   {G5g G0n : Option Addr} {G5s : Array (Option Value)} {G2b G1g G3x G7r B7z D9r : Value} (A9t : K.lookup A1p = some ⟨G2b, G5g, .func (fnOf "raised" "Context.raised" (B0 A0p) (A8 A0p) (A1 A0p) .none G1g G3x G7r G0n B7z D9r), G5s⟩)
   (A9p : codeIn K B7z "Context.raised" = true)
   (A4a : keepIn K (.ref A1p) = true)
   (B5n : findIn K (.ref CC) "clear" = some (some (.ref A3e)))
   (B4z : isFn K (.ref A3e) = true)
   {J0q J1d : Option Addr} {J2w : Array (Option Value)} {J4q J1m J2a J2m C4s J2s : Value} (B6p : K.lookup A3e = some ⟨J4q, J0q, .func (fnOf "clear" "Context.clear" (B0 A2p) (A8 A2p) (A1 A2p) .none J1m J2a J2m J1d C4s J2s), J2w⟩)
   (B5e : codeIn K C4s "Context.clear" = true)
   (A6s : keepIn K (.ref A3e) = true)
   (a_CQ : nsIn K mainGlobals "Ratio" = some (some (.ref CQ)))
   (Z5z : plainGet K CQ Str.empty = true)
   (Z5t : hasDictIn K CQ = true)
   (Y7b : plainOver K CQ = true)
   (Z4c : findIn K (.ref CQ) "__setattr__" = some (some (.builtin "object.__setattr__")))
   (Y7n : makesIn K CQ = true)
   (Z1v : keepIn K (.ref CQ) = true)
   (Z9e : findIn K (.ref CQ) "__class__" = some (some (.builtin "object.__class__")))
   (Y8b : mroIn K CQ (.type "object") = some true)
   (C7k : findIn K (.ref CQ) "top" = some none)
   (B0q : findIn K (.ref CQ) "bottom" = some none)
   (B6m : findIn K (.ref CQ) "power" = some none)
   (Z4b : findIn K (.ref CQ) "__init__" = some (some (.ref D7f)))
   (Y4p : isFn K (.ref D7f) = true)
   {A0nq Y9m : Option Addr} {A0np : Array (Option Value)} {A0ng Z5g Y8z Z2m U0s Z7s : Value} (Z6z : K.lookup D7f = some ⟨A0ng, A0nq, .func (fnOf "__init__" "Ratio.__init__" (B0 A5v) (A8 A5v) (A1 A5v) (.ref A0ab) Z5g Y8z Z2m Y9m U0s Z7s), A0np⟩)
   (Z3u : codeIn K U0s "Ratio.__init__" = true)
   (Z2f : keepIn K (.ref D7f) = true)
   {A0hh : Tok} {A0tb : Nat} {A0pn : Option Addr} {A0pc : Value} {A0mx : Array (Option Value)} (J3a : K.lookup A0ab = some ⟨A0pc, A0pn, .seq #[.int 0 A0hh] A0tb, A0mx⟩)
   (B6y : findIn K (.ref CQ) "first" = some (some (.ref A0u)))
   (B5w : isFn K (.ref A0u) = true)
   {J2q J3p : Option Addr} {J2d : Array (Option Value)} {J4y J0z J1q J1w C4r J4p : Value} (B6d : K.lookup A0u = some ⟨J4y, J2q, .func (fnOf "first" "Ratio.first" (B0 A3a) (A8 A3a) (A1 A3a) .none J0z J1q J1w J3p C4r J4p), J2d⟩)
   (B6h : codeIn K C4r "Ratio.first" = true)
   (A7z : keepIn K (.ref A0u) = true)
   (D9q : findIn K (.ref CQ) "at" = some (some (.ref B2w)))
   (G0e : isFn K (.ref B2w) = true)
   {Y6r Z5m : Option Addr} {Y8k : Array (Option Value)} {Z0k Z0c Z0n Z5n J0x Z1h : Value} (G3w : K.lookup B2w = some ⟨Z0k, Y6r, .func (fnOf "at" "Ratio.at" (B0 C6d) (A8 C6d) (A1 C6d) .none Z0c Z0n Z5n Z5m J0x Z1h), Y8k⟩)
   (G3h : codeIn K J0x "Ratio.at" = true)
   (C5g : keepIn K (.ref B2w) = true)
   (a_CE : nsIn K mainGlobals "Exact" = some (some (.ref CE)))
   (Z8a : kitOne K (.ref CQ) (.ref CE) = some true)
   (a_C1 : nsIn K mainGlobals "BadContext" = some (some (.ref C1)))
   (a_C2 : nsIn K mainGlobals "BadNumber" = some (some (.ref C2)))
   (a_C3 : nsIn K mainGlobals "BadCount" = some (some (.ref C3)))
   (a_C4 : nsIn K mainGlobals "Trapped" = some (some (.ref C4)))
   (a_CR : nsIn K mainGlobals "ReckonError" = some (some (.ref CR)))
   (cty : typeIn K (.ref CR) = some (.type "type"))
   {dR : ClassData} (ccl : clsIn K CR = some dR)
   (cex : subIn K (.ref CR) (.type "BaseException") = some true)
   (sub4 : subIn K (.ref C4) (.ref CR) = some true)
   (xga4 : findIn K (.ref C4) "__getattribute__" = some (some (.builtin "BaseException.__getattribute__")))
   (xgh4 : findIn K (.ref C4) "__getattr__" = some none)
   (xca4 : findIn K (.ref C4) "__class__" = some (some (.builtin "object.__class__")))
   (xob4 : mroIn K C4 (.type "object") = some true)
   (xbe4 : subIn K (.ref C4) (.type "BaseException") = some true)
   {d4 : ClassData} (xcl4 : clsIn K C4 = some d4)
   (h4_1 : kitOne K (.ref C4) (.ref C1) = some false)
   (h4_2 : kitOne K (.ref C4) (.ref C2) = some false)
   (h4_3 : kitOne K (.ref C4) (.ref C3) = some false)
   (h4_4 : kitOne K (.ref C4) (.ref C4) = some true)
   (hv4 : kitOne K (.ref C4) (.type "ValueError") = some true)
   {nmT qT : Str} {NT : Addr} {bsT bmT : List Value} {snT : List Str} {suT : List Value} {abT : Bool} {coT : Option Bool} {ddT : Option Addr} {kT0 kT1 kT2 kT3 kT5 : Option Value} (lT : K.lookup C4 = some (excClassObj nmT qT C4 NT bsT bmT true snT suT abT coT ddT kT0 kT1 kT2 kT3 kT5 "ValueError.__new__"))
   {ocN : Value} {odN : Option Addr} {esN : Array DictEntry} {epN : Nat} {slN : Array (Option Value)} (lN : K.lookup NT = some ⟨ocN, odN, .dict esN epN, slN⟩)
   (alN : (esN.all fun e => match e.key with | .str _ _ => true | _ => false) = true)
   (niT : nsIn K NT "__init__" = some (some (.ref fX)))
   {nmU qU : Str} {NU : Addr} {bsU : List Value} {snU : List Str} {suU : List Value} {abU : Bool} {coU : Option Bool} {ddU : Option Addr} {kU0 kU1 kU2 kU3 kU5 : Option Value} (lT1 : K.lookup C1 = some (excClassObj nmU qU C1 NU bsU bmT true snU suU abU coU ddU kU0 kU1 kU2 kU3 kU5 "ValueError.__new__"))
   (saT : findIn K (.ref C4) "__setattr__" = some (some (.builtin "object.__setattr__")))
   (nsg4 : findIn K (.ref C4) "signal" = some none)
   {A0tj A0sr : Option Addr} {A0tn : Array (Option Value)} {A0hj A0sv A0sx A0th A0hk A0tq : Value} (l_iT : K.lookup fX = some ⟨A0hj, A0tj, .func (fnOf "__init__" "Trapped.__init__" (B0 B2p) (A8 B2p) (A1 B2p) .none A0sv A0sx A0th A0sr A0hk A0tq), A0tn⟩)
   (c_iT : codeIn K A0hk "Trapped.__init__" = true)
   (k_iT : keepIn K (.ref fX) = true)
   (fcT : A0hj = .type "function")
   (kTR : kitOne K (.ref C4) (.ref CR) = some true)
   (q1 : excIn K C1 [.type "ValueError", .type "Exception", .type "BaseException", .type "object"] "ValueError.__new__" = true)
   (q2 : excIn K C2 [.type "ValueError", .type "Exception", .type "BaseException", .type "object"] "ValueError.__new__" = true)
   (q3 : excIn K C3 [.type "ValueError", .type "Exception", .type "BaseException", .type "object"] "ValueError.__new__" = true)
   (a_S : nsIn K mainGlobals "SIGNALS" = some (some (.ref aS)))
   {u0 u1 u2 u3 u4 u5 u6 : Tok} {nS : Nat} {odS : Option Addr} {slS : Array (Option Value)} (lS : K.lookup aS = some ⟨.type "tuple", odS, .seq #[.str "void" u0, .str "split" u1, .str "burst" u2, .str "sunk" u3, .str "faint" u4, .str "off" u5, .str "cut" u6] nS, slS⟩)
   {tq : Tok} (bq : nsIn K mainGlobals "BEYOND_ALL_POWERS" = some (some (.int 1000 tq))) :
   ∃ fd : FuncData, (∀ (s : Shared) (v : Value), BindsTo s fd ⟨[v], []⟩ [("_law_script", v)]) /\ ∀ base : Heap, K.In base -> base.Ns mainGlobals mg -> FnOk l.prog w K mg base (CX1 l.prog w) 10 fa fd ["_law_script"] (U9n K) := by
 have e := hfa.symm.trans (mg_of X G V1e)
 cases e
 have C4m := D0 (ps := ["whole", "count"]) (st := Y5) X G A9n B0t A9s B1h fun _ _ _ _ _ _ us hl => match us, hl with | [_, _], _ => rfl
 have B3a := D0 (ps := ["count"]) (st := A1u) X G G0h G5q G4n D9k fun _ _ _ _ _ _ us hl => match us, hl with | [_], _ => rfl
 have J3d := D0 (ps := ["size", "middle"]) (st := A5q) X G D0e C9j C9f C8y fun _ _ _ _ _ _ us hl => match us, hl with | [_, _], _ => rfl
 have V1s := D0 (ps := ["whole"]) (st := A8y) X G G7v G5u G4s G5b fun _ _ _ _ _ _ us hl => match us, hl with | [_], _ => rfl
 have D_plain := D0 (ps := ["sign", "figures", "power"]) (st := B4s) X G G0b G5y G8m G8a fun _ _ _ _ _ _ us hl => match us, hl with | [_, _, _], _ => rfl
 have D_end := D0 (ps := ["sign"]) (st := G8z) X G Z7c Y7u Y9x Z4z fun _ _ _ _ _ _ us hl => match us, hl with | [_], _ => rfl
 have D_nothing := D0 (ps := []) (st := V5) X G C0g C4a C2s C1n fun _ _ _ _ _ _ us hl => match us, hl with | [], _ => rfl
 have D_told := D0 (ps := ["number"]) (st := C5k) X G U0f J8d U8r U4c fun _ _ _ _ _ _ us hl => match us, hl with | [_], _ => rfl
 have Y8j := D0 (ps := ["number"]) (st := C5q) X G U7a U7n U3b U2t fun _ _ _ _ _ _ us hl => match us, hl with | [_], _ => rfl
 have B3b := D0 (ps := ["thing"]) (st := A3c) X G G0y G4d G2k G7u fun _ _ _ _ _ _ us hl => match us, hl with | [_], _ => rfl
 have A0q := D0 (ps := ["things"]) (st := Z4) X G B5b B6a B5y B5k fun _ _ _ _ _ _ us hl => match us, hl with | [_], _ => rfl
 have A2c := D0 (ps := ["numbers", "kind"]) (st := Z2) X G G1a G0z G8v D9m fun _ _ _ _ _ _ us hl => match us, hl with | [_, _], _ => rfl
 have J5b := D0 (ps := ["one", "other"]) (st := A5j) X G C7m C9h C9n D0m fun _ _ _ _ _ _ us hl => match us, hl with | [_, _], _ => rfl
 have C0p := D0 (ps := ["number", "power"]) (st := Z3) X G B9q C1v C2y C2d fun _ _ _ _ _ _ us hl => match us, hl with | [_, _], _ => rfl
 have V1a := D0 (ps := ["thing", "least", "most"]) (st := C6t) X G Y5y Y8w Y6s Y4v fun _ _ _ _ _ _ us hl => match us, hl with | [_, _, _], _ => rfl
 have D6p := D0 (ps := ["thing", "least", "most"]) (st := A1c) X G C0e C3d C1x C2j fun _ _ _ _ _ _ us hl => match us, hl with | [_, _, _], _ => rfl
 have V1t := D0 (ps := ["thing", "most"]) (st := B4c) X G D9b D9n G7k G1d fun _ _ _ _ _ _ us hl => match us, hl with | [_, _], _ => rfl
 have D_settled := D0 (ps := ["context", "sign", "exact", "ideal"]) (st := Z5) X G B9t C1f C1y C3w fun _ _ _ _ _ _ us hl => match us, hl with | [_, _, _, _], _ => rfl
 have J3r := D0 (ps := ["context", "exact"]) (st := A3q) X G C8t D0p D0y C9m fun _ _ _ _ _ _ us hl => match us, hl with | [_, _], _ => rfl
 have D6j := D0 (ps := ["ideal", "sign", "figures", "power"]) (st := A0z) X G C0f C0s C3x C0z fun _ _ _ _ _ _ us hl => match us, hl with | [_, _, _, _], _ => rfl
 have D_neighbour := D0 (ps := ["context", "sign", "pair"]) (st := V8) X G B0n A9m B0h B0b fun _ _ _ _ _ _ us hl => match us, hl with | [_, _, _], _ => rfl
 have J1c := D0 (ps := ["context", "sign", "figures", "power"]) (st := A3r) X G C8h C9p C9e C8j fun _ _ _ _ _ _ us hl => match us, hl with | [_, _, _, _], _ => rfl
 have J3u := D0 (ps := ["context", "number"]) (st := A3m) X G C8c C8r C7e C9b fun _ _ _ _ _ _ us hl => match us, hl with | [_, _], _ => rfl
 have D_burst := D0 (ps := ["context", "sign"]) (st := A9d) X G G6n D8y G3y G2y fun _ _ _ _ _ _ us hl => match us, hl with | [_, _], _ => rfl
 have D_nines := D0 (ps := ["context", "sign"]) (st := A8v) X G G0p G6h G4z G3d fun _ _ _ _ _ _ us hl => match us, hl with | [_, _], _ => rfl
 have D6s := D0 (ps := ["part", "is_cut"]) (st := A2w) X G B9m C0w C1q C1h fun _ _ _ _ _ _ us hl => match us, hl with | [_, _], _ => rfl
 have D6m := D0 (ps := ["context", "lead", "part"]) (st := A2u) X G C2r C4e B9n B9a fun _ _ _ _ _ _ us hl => match us, hl with | [_, _, _], _ => rfl
 have D_nought := D0 (ps := ["context", "sign", "ideal"]) (st := A0v) X G D0c C8w C8v D1f fun _ _ _ _ _ _ us hl => match us, hl with | [_, _, _], _ => rfl
 have D_void := D0 (ps := ["context"]) (st := U9r) X G U2w J9c J8n U6d fun _ _ _ _ _ _ us hl => match us, hl with | [_], _ => rfl
 have D_rounded := D0 (ps := ["context", "number"]) (st := Y2) X G C2f C0u B9v C3a fun _ _ _ _ _ _ us hl => match us, hl with | [_, _], _ => rfl
 have D_plus := D0 (ps := ["context", "one", "other"]) (st := C5v) X G U1c U7k J7x U0x fun _ _ _ _ _ _ us hl => match us, hl with | [_, _, _], _ => rfl
 have D_minus := D0 (ps := ["context", "one", "other"]) (st := B4w) X G G8p G2g D9p G5t fun _ _ _ _ _ _ us hl => match us, hl with | [_, _, _], _ => rfl
 have D_times := D0 (ps := ["context", "one", "other"]) (st := B4p) X G G1f G0q G8j G8n fun _ _ _ _ _ _ us hl => match us, hl with | [_, _, _], _ => rfl
 have D_fused := D0 (ps := ["context", "one", "other", "third"]) (st := B4v) X G D9y G3g G8t G6r fun _ _ _ _ _ _ us hl => match us, hl with | [_, _, _, _], _ => rfl
 have U5h := D0 (ps := ["number"]) (st := A4x) X G B5d B6k B5m B5z fun _ _ _ _ _ _ us hl => match us, hl with | [_], _ => rfl
 have C8p := D0 (ps := ["one", "other"]) (st := A3s) X G D1a D0j C8q D1k fun _ _ _ _ _ _ us hl => match us, hl with | [_, _], _ => rfl
 have D_product := D0 (ps := ["one", "other"]) (st := A0y) X G C1u B9j B9s C0v fun _ _ _ _ _ _ us hl => match us, hl with | [_, _], _ => rfl
 have D_added := D0 (ps := ["context", "one", "other"]) (st := A6e) X G G4p G7d G0t G8x fun _ _ _ _ _ _ us hl => match us, hl with | [_, _, _], _ => rfl
 have U4h := D0 (ps := ["context", "one", "other"]) (st := B2k) X G B6n B5c B5t B5a fun _ _ _ _ _ _ us hl => match us, hl with | [_, _, _], _ => rfl
 have V1p := D0 (ps := ["context", "one", "other"]) (st := B4b) X G G7h G5z G6s G7z fun _ _ _ _ _ _ us hl => match us, hl with | [_, _, _], _ => rfl
 have D_compared := D0 (ps := ["one", "other"]) (st := Y7) X G B6s B6c B6f B5g fun _ _ _ _ _ _ us hl => match us, hl with | [_, _], _ => rfl
 have D_lesser := D0 (ps := ["context", "one", "other"]) (st := A5t) X G C7n C9g D1b D0b fun _ _ _ _ _ _ us hl => match us, hl with | [_, _, _], _ => rfl
 have D_greater := D0 (ps := ["context", "one", "other"]) (st := A3b) X G C3h B9y C0j C2w fun _ _ _ _ _ _ us hl => match us, hl with | [_, _, _], _ => rfl
 have Z3g := D0 (ps := ["number"]) (st := C5m) X G U7q J8k J7p J7z fun _ _ _ _ _ _ us hl => match us, hl with | [_], _ => rfl
 have V1b := D0 (ps := ["one", "other"]) (st := B4g) X G G8w G2v G3m G5c fun _ _ _ _ _ _ us hl => match us, hl with | [_, _], _ => rfl
 have G2z := D0 (ps := ["name"]) (st := A9h) X G G5j G6c D9d G5w fun _ _ _ _ _ _ us hl => match us, hl with | [_], _ => rfl
 have D_bounded := D0 (ps := ["thing", "least", "most"]) (st := A2t) X G B9z B9k C0b C2n fun _ _ _ _ _ _ us hl => match us, hl with | [_, _, _], _ => rfl
 have V1v := D0 (ps := ["names"]) (st := B4u) X G G8r G3z G4f G3a fun _ _ _ _ _ _ us hl => match us, hl with | [_], _ => rfl
 have V1j := D0 (ps := ["names"]) (st := B4k) X G D8z G4w G4v G2a fun _ _ _ _ _ _ us hl => match us, hl with | [_], _ => rfl
 have D_trimmed := D0 (ps := ["context", "one"]) (st := A2r) X G C1d C4b B9h C2u fun _ _ _ _ _ _ us hl => match us, hl with | [_, _], _ => rfl
 have D_scaled := D0 (ps := ["context", "one", "count"]) (st := A6f) X G D0t D0x D0w C9x fun _ _ _ _ _ _ us hl => match us, hl with | [_, _, _], _ => rfl
 have Z6t := D0 (ps := ["_law_script", "_law_k"]) (st := C5t) X G U3n U1q U4v J8m fun _ _ _ _ _ _ us hl => match us, hl with | [_, _], _ => rfl
 have C5h := D0 (ps := ["_law_cell", "_law_k"]) (st := A5w) X G G6k G3t D9t G5p fun _ _ _ _ _ _ us hl => match us, hl with | [_, _], _ => rfl
 have C0n := D0 (ps := ["_law_power"]) (st := A8x) X G J8j U8j U5j U0b fun _ _ _ _ _ _ us hl => match us, hl with | [_], _ => rfl
 have Z7b := D0 (ps := ["_law_cell", "_law_most"]) (st := C6e) X G U5t U1t U0c U8f fun _ _ _ _ _ _ us hl => match us, hl with | [_, _], _ => rfl
 have J5f := D0 (ps := ["_law_cell"]) (st := A5y) X G C9u D0s D1n D1q fun _ _ _ _ _ _ us hl => match us, hl with | [_], _ => rfl
 have Z8d := D0 (ps := ["_law_frame_here"]) (st := C5j) X G U4b U4p U0y U2s fun _ _ _ _ _ _ us hl => match us, hl with | [_], _ => rfl
 have J2h := D0 (ps := ["_law_cell", "_law_most"]) (st := A5x) X G C9z C7t C9k D0u fun _ _ _ _ _ _ us hl => match us, hl with | [_, _], _ => rfl
 have D1d := D0 (ps := ["_law_figures_here"]) (st := A3p) X G C8x D0d D0g C7h fun _ _ _ _ _ _ us hl => match us, hl with | [_], _ => rfl
 have Z2c := D0 (ps := ["_law_value", "_law_power"]) (st := G9s) X G Z4a Z1q Z7r Z1x fun _ _ _ _ _ _ us hl => match us, hl with | [_, _], _ => rfl
 have V1q := D0 (ps := ["_law_value"]) (st := B4t) X G G7s G8u G1w G4c fun _ _ _ _ _ _ us hl => match us, hl with | [_], _ => rfl
 have V0z := D0 (ps := ["_law_way", "_law_sign", "_law_last", "_law_part"]) (st := B4e) X G G3p G5n G1j G6d fun _ _ _ _ _ _ us hl => match us, hl with | [_, _, _, _], _ => rfl
 have J2f := D0 (ps := ["_law_room", "_law_way", "_law_most", "_law_sign"]) (st := A6b) X G C7s D0a C9d D0k fun _ _ _ _ _ _ us hl => match us, hl with | [_, _, _, _], _ => rfl
 have D1h := D0 (ps := ["_law_frame_here", "_law_sign", "_law_value", "_law_ideal"]) (st := A0h) X G B5r B5s B6x B5j fun _ _ _ _ _ _ us hl => match us, hl with | [_, _, _, _], _ => rfl
 have C0h := D0 (ps := ["_law_frame_here", "_law_sign", "_law_ideal"]) (st := A1b) X G C0k C0y C2q C3y fun _ _ _ _ _ _ us hl => match us, hl with | [_, _, _], _ => rfl
 have C1s := D0 (ps := ["_law_part", "_law_power"]) (st := A0x) X G C1m C1p B9e C2h fun _ _ _ _ _ _ us hl => match us, hl with | [_, _], _ => rfl
 have D1e := D0 (ps := ["_law_frame_here", "_law_number", "_law_power", "_law_ideal", "_law_sign"]) (st := A3n) X G C8z C7p C9y C8s fun _ _ _ _ _ _ us hl => match us, hl with | [_, _, _, _, _], _ => rfl
 have D6x := D0 (ps := ["_law_frame_here", "_law_one", "_law_other"]) (st := A2s) X G C3e C2x C3f C0t fun _ _ _ _ _ _ us hl => match us, hl with | [_, _, _], _ => rfl
 have V1f := D0 (ps := ["_law_one", "_law_other"]) (st := B4r) X G G3c D9z G3u G1b fun _ _ _ _ _ _ us hl => match us, hl with | [_, _], _ => rfl
 have Z1s := D0 (ps := ["_law_frame_here", "_law_one", "_law_ideal"]) (st := C6g) X G U0n U5r U8v J8y fun _ _ _ _ _ _ us hl => match us, hl with | [_, _, _], _ => rfl
 have D6z := D0 (ps := ["_law_one", "_law_other", "_law_sign"]) (st := A2y) X G C3t C0q C1j C0a fun _ _ _ _ _ _ us hl => match us, hl with | [_, _, _], _ => rfl
 have Z1m := D0 (ps := ["_law_frame_here", "_law_way", "_law_parts", "_law_count_here"]) (st := C5s) X G U5x U1n U2v J8b fun _ _ _ _ _ _ us hl => match us, hl with | [_, _, _, _], _ => rfl
 have V1w := D0 (ps := ["_law_context_here", "_law_way", "_law_numbers", "_law_count_here"]) (st := B4h) X G G1y G8c G5a G6e fun _ _ _ _ _ _ us hl => match us, hl with | [_, _, _, _], _ => rfl
 have A0tu := D0 (ps := ["_law_script"]) (st := D7p) X G V1e Y7e Y7m Z9f fun _ _ _ _ _ _ us hl => match us, hl with | [_], _ => rfl
 have O : Own mg := ⟨mg_none_of X G A6k, mg_none_of X G Z3s, mg_none_of X G J8a, mg_none_of X G Y9e, mg_none_of X G J7y, mg_none_of X G G4h, mg_none_of X G U1e, mg_none_of X G A0aa, mg_none_of X G G4q, mg_none_of X G Y8n, mg_none_of X G Z8u, mg_none_of X G Z6d, mg_none_of X G Z0f, mg_none_of X G Z4p, mg_none_of X G Y8y, mg_none_of X G U5s, mg_none_of X G B1e, mg_none_of X G B5q, mg_none_of X G Z0w, mg_none_of X G C7z, mg_none_of X G C8n, mg_none_of X G Z4r, mg_none_of X G A6z⟩
 have T : Kit K := ⟨B6g, B1y, B6e, B1v, A7v, A9v, A9y, A7c, B0x, A8k, A4g, A8n, B5u, B1a, B6b, B1w, A7t, B0p, B0m, A7j, B1s, A7m, A4k, A8j, A8f, A4h, A6q, A4f, A3g, A4j, B1r, A7f, B1t, A7x, A4e, A7r, A1w, A0t, A1v, A0s, Z9, A0r⟩
 have A0tm : Cls K W0 := ⟨Z6v, Y8s, Z7h, Y8e⟩
 have A0tg : Mk0 K W0 := ⟨Z0m, Z8m, Z3m⟩
 have F_name_W0 := J8 (st := sN0) B8z C2c B3c
 have V7e := F_name_W0.binds (ps := ["self"]) fun _ _ _ _ _ _ us hl => match us, hl with | [_], _ => rfl
 have J9s : Meth K W0 "name" A5g := ⟨C3k, C3m, B3c⟩
 have WC0 : WayC K mg "Down" W0 CW := ⟨mg_of X G a_W0, A0tm, A0tg, Z6w, sn, tk, Z3t, Z5h⟩
 have A0tw : Cls K W1 := ⟨Z3k, Z9p, Z6c, Z2r⟩
 have A0tc : Mk0 K W1 := ⟨Y5g, Y7c, Y6b⟩
 have F_name_W1 := J8 (st := sN1) C0r C2e B2y
 have V5t := F_name_W1.binds (ps := ["self"]) fun _ _ _ _ _ _ us hl => match us, hl with | [_], _ => rfl
 have U1d : Meth K W1 "name" A5h := ⟨C0m, B9r, B2y⟩
 have WC1 : WayC K mg "Up" W1 CW := ⟨mg_of X G a_W1, A0tw, A0tc, Z6y, sn, tk, Y9q, Z7f⟩
 have A0te : Cls K W2 := ⟨Y6u, Y5s, Z9b, Y5h⟩
 have A0ss : Mk0 K W2 := ⟨Z6e, Y6g, Y7t⟩
 have F_name_W2 := J8 (st := sN2) B9w C3j B3e
 have V8u := F_name_W2.binds (ps := ["self"]) fun _ _ _ _ _ _ us hl => match us, hl with | [_], _ => rfl
 have J8u : Meth K W2 "name" A5b := ⟨C1z, C1a, B3e⟩
 have WC2 : WayC K mg "Floor" W2 CW := ⟨mg_of X G a_W2, A0te, A0ss, Z8z, sn, tk, Z4x, Z6p⟩
 have A0tk : Cls K W3 := ⟨Z8s, Z5b, Z0p, Z6r⟩
 have A0sk : Mk0 K W3 := ⟨Y6p, Y8t, Z8c⟩
 have F_name_W3 := J8 (st := sN3) C3q C3b B2z
 have V4s := F_name_W3.binds (ps := ["self"]) fun _ _ _ _ _ _ us hl => match us, hl with | [_], _ => rfl
 have U6v : Meth K W3 "name" A5c := ⟨C3n, C4d, B2z⟩
 have WC3 : WayC K mg "Ceiling" W3 CW := ⟨mg_of X G a_W3, A0tk, A0sk, Y4z, sn, tk, Z1w, Y9f⟩
 have A0su : Cls K W4 := ⟨Z5u, Z3e, Z3p, Z7a⟩
 have A0tv : Mk0 K W4 := ⟨Y6m, Y6h, Z4y⟩
 have F_name_W4 := J8 (st := sN4) B9g C1k B2v
 have V7d := F_name_W4.binds (ps := ["self"]) fun _ _ _ _ _ _ us hl => match us, hl with | [_], _ => rfl
 have U4t : Meth K W4 "name" A5e := ⟨B9f, C1t, B2v⟩
 have WC4 : WayC K mg "HalfUp" W4 CW := ⟨mg_of X G a_W4, A0su, A0tv, Z4j, sn, tk, Z8j, Z3y⟩
 have A0sm : Cls K W5 := ⟨Z3z, Z9a, Z2y, Z0u⟩
 have A0tx : Mk0 K W5 := ⟨Z3c, Z7g, Z0j⟩
 have F_name_W5 := J8 (st := sN5) C4c C2k B2x
 have V8h := F_name_W5.binds (ps := ["self"]) fun _ _ _ _ _ _ us hl => match us, hl with | [_], _ => rfl
 have U2k : Meth K W5 "name" A5a := ⟨C3r, B9x, B2x⟩
 have WC5 : WayC K mg "HalfDown" W5 CW := ⟨mg_of X G a_W5, A0sm, A0tx, Z2z, sn, tk, Z8w, Y5b⟩
 have A0tz : Cls K W6 := ⟨Y9t, Y8d, Z4q, Z5f⟩
 have A0ts : Mk0 K W6 := ⟨Y4r, Z4k, Z4u⟩
 have F_name_W6 := J8 (st := sN6) C1c C1b B3d
 have V4t := F_name_W6.binds (ps := ["self"]) fun _ _ _ _ _ _ us hl => match us, hl with | [_], _ => rfl
 have J8t : Meth K W6 "name" A5d := ⟨C2v, B9c, B3d⟩
 have WC6 : WayC K mg "HalfEven" W6 CW := ⟨mg_of X G a_W6, A0tz, A0ts, Z5k, sn, tk, Z0z, Z4m⟩
 have A0sg : Cls K W7 := ⟨Y7k, Y9g, Y5q, Y4j⟩
 have A0tf : Mk0 K W7 := ⟨Y5f, Z8x, Z1p⟩
 have F_name_W7 := J8 (st := sN7) B9u C1g B2u
 have V5c := F_name_W7.binds (ps := ["self"]) fun _ _ _ _ _ _ us hl => match us, hl with | [_], _ => rfl
 have U3y : Meth K W7 "name" A5f := ⟨C3v, C2t, B2u⟩
 have WC7 : WayC K mg "FiveUp" W7 CW := ⟨mg_of X G a_W7, A0sg, A0tf, Z7m, sn, tk, Z7t, Z0b⟩
 let cw : Wy -> Addr := fun y => match y with | .down => W0 | .up => W1 | .floor => W2 | .ceiling => W3 | .halfUp => W4 | .halfDown => W5 | .halfEven => W6 | .fiveUp => W7
 have W : ∀ y : Wy, WayC K mg y.cls (cw y) CW := fun y => match y with | .down => WC0 | .up => WC1 | .floor => WC2 | .ceiling => WC3 | .halfUp => WC4 | .halfDown => WC5 | .halfEven => WC6 | .fiveUp => WC7
 have A0td : Cls K CN := ⟨Y4x, Y5p, Z7q, Z9r⟩
 have FI_CN := J8 (st := D5q) Z6b Y6w Z8r
 have A0sf := FI_CN.binds (ps := ["self", "kind", "sign", "figures", "power"]) fun _ _ _ _ _ _ us hl => match us, hl with | [_, _, _, _, _], _ => rfl
 have M_CN : Mk K CN D6v := ⟨Z8t, Z5a, Y6v, Y9a⟩
 have N : Num K mg CN := ⟨mg_of X G a_CN, A0td, C3c, C2g, A6h, B6j, Z9j, sn, tk, Y5e, G6f⟩
 have F_goes_up_W0 := J8 (st := sU0) A7y A7d A2d
 have G5x := F_goes_up_W0.binds (ps := ["self", "sign", "last", "part"]) fun _ _ _ _ _ _ us hl => match us, hl with | [_, _, _, _], _ => rfl
 have D3w : Meth K W0 "goes_up" A0f := ⟨A6j, A7n, A2d⟩
 have F_to_end_W0 := J8 (st := sT0) B1m B0j A4b
 have J4b := F_to_end_W0.binds (ps := ["self", "sign"]) fun _ _ _ _ _ _ us hl => match us, hl with | [_, _], _ => rfl
 have G2d : Meth K W0 "to_end" A1f := ⟨B1g, B1c, A4b⟩
 have F_goes_up_W1 := J8 (st := sU1) A6m A8g A2k
 have G2x := F_goes_up_W1.binds (ps := ["self", "sign", "last", "part"]) fun _ _ _ _ _ _ us hl => match us, hl with | [_, _, _, _], _ => rfl
 have D2h : Meth K W1 "goes_up" Z7 := ⟨A7e, A8h, A2k⟩
 have F_to_end_W1 := J8 (st := sT1) B1b B0f A3v
 have J1a := F_to_end_W1.binds (ps := ["self", "sign"]) fun _ _ _ _ _ _ us hl => match us, hl with | [_, _], _ => rfl
 have G1v : Meth K W1 "to_end" A1d := ⟨B0a, B1d, A3v⟩
 have F_goes_up_W2 := J8 (st := sU2) A7u A7q A2m
 have G7t := F_goes_up_W2.binds (ps := ["self", "sign", "last", "part"]) fun _ _ _ _ _ _ us hl => match us, hl with | [_, _, _, _], _ => rfl
 have D4p : Meth K W2 "goes_up" A0a := ⟨A7h, A7p, A2m⟩
 have F_to_end_W2 := J8 (st := sT2) B1p A9k A3x
 have J2r := F_to_end_W2.binds (ps := ["self", "sign"]) fun _ _ _ _ _ _ us hl => match us, hl with | [_, _], _ => rfl
 have G4r : Meth K W2 "to_end" A1m := ⟨B0w, B0e, A3x⟩
 have F_goes_up_W3 := J8 (st := sU3) A8c A8b A2j
 have G0w := F_goes_up_W3.binds (ps := ["self", "sign", "last", "part"]) fun _ _ _ _ _ _ us hl => match us, hl with | [_, _, _, _], _ => rfl
 have D2j : Meth K W3 "goes_up" A0e := ⟨A6v, A8m, A2j⟩
 have F_to_end_W3 := J8 (st := sT3) A9q A9x A4c
 have J4h := F_to_end_W3.binds (ps := ["self", "sign"]) fun _ _ _ _ _ _ us hl => match us, hl with | [_, _], _ => rfl
 have G6w : Meth K W3 "to_end" A1n := ⟨A9j, B1f, A4c⟩
 have F_goes_up_W4 := J8 (st := sU4) A6x A6n A2h
 have G2p := F_goes_up_W4.binds (ps := ["self", "sign", "last", "part"]) fun _ _ _ _ _ _ us hl => match us, hl with | [_, _, _, _], _ => rfl
 have D3c : Meth K W4 "goes_up" A0d := ⟨A6r, A6g, A2h⟩
 have F_to_end_W4 := J8 (st := sT4) B0c A9u A3t
 have J1z := F_to_end_W4.binds (ps := ["self", "sign"]) fun _ _ _ _ _ _ us hl => match us, hl with | [_, _], _ => rfl
 have G1k : Meth K W4 "to_end" A1h := ⟨B1j, B1n, A3t⟩
 have F_goes_up_W5 := J8 (st := sU5) A8e A6w A2g
 have G7f := F_goes_up_W5.binds (ps := ["self", "sign", "last", "part"]) fun _ _ _ _ _ _ us hl => match us, hl with | [_, _, _, _], _ => rfl
 have D4d : Meth K W5 "goes_up" A0b := ⟨A7w, A7a, A2g⟩
 have F_to_end_W5 := J8 (st := sT5) B0k A9r A3z
 have J3e := F_to_end_W5.binds (ps := ["self", "sign"]) fun _ _ _ _ _ _ us hl => match us, hl with | [_, _], _ => rfl
 have G4j : Meth K W5 "to_end" A1k := ⟨B2c, B1u, A3z⟩
 have F_goes_up_W6 := J8 (st := sU6) A8d A8a A2f
 have G7y := F_goes_up_W6.binds (ps := ["self", "sign", "last", "part"]) fun _ _ _ _ _ _ us hl => match us, hl with | [_, _, _, _], _ => rfl
 have D2g : Meth K W6 "goes_up" A0c := ⟨A6y, A6p, A2f⟩
 have F_to_end_W6 := J8 (st := sT6) B2b B0s A3u
 have J1n := F_to_end_W6.binds (ps := ["self", "sign"]) fun _ _ _ _ _ _ us hl => match us, hl with | [_, _], _ => rfl
 have G0u : Meth K W6 "to_end" A1e := ⟨B2d, B0z, A3u⟩
 have F_goes_up_W7 := J8 (st := sU7) A6t A7k A2e
 have G8q := F_goes_up_W7.binds (ps := ["self", "sign", "last", "part"]) fun _ _ _ _ _ _ us hl => match us, hl with | [_, _, _, _], _ => rfl
 have D4h : Meth K W7 "goes_up" Z8 := ⟨A7s, A6u, A2e⟩
 have F_to_end_W7 := J8 (st := sT7) B1q B0g A3w
 have J1g := F_to_end_W7.binds (ps := ["self", "sign"]) fun _ _ _ _ _ _ us hl => match us, hl with | [_, _], _ => rfl
 have G2t : Meth K W7 "to_end" A1g := ⟨B0y, B0u, A3w⟩
 have A0sz : Cls K CC := ⟨Z2w, Z6h, Y5a, Y9w⟩
 have A0tr := U9x (st := Z6) Z0q Y8h Z7w
 have M_CC : Mk K CC D6w := ⟨Z7e, Z6g, Z3j, Y6f⟩
 have F_flags_CC := J8 (st := A2q) B5f B6q A7b
 have U8d := F_flags_CC.binds (ps := ["self"]) fun _ _ _ _ _ _ us hl => match us, hl with | [_], _ => rfl
 have J4r : Meth K CC "flags" A3f := ⟨B6u, B6r, A7b⟩
 have F_lowest_CC := J8 (st := B2j) B1z A9w A3y
 have J5d := F_lowest_CC.binds (ps := ["self"]) fun _ _ _ _ _ _ us hl => match us, hl with | [_], _ => rfl
 have G4b : Meth K CC "lowest" A1j := ⟨B1x, B2a, A3y⟩
 have F_way_CC := J8 (st := B2h) C8g D0f B7w
 have Y7y := F_way_CC.binds (ps := ["self"]) fun _ _ _ _ _ _ us hl => match us, hl with | [_], _ => rfl
 have V5v : Meth K CC "way" B0d := ⟨C7w, D0h, B7w⟩
 have F_raised_CC := J8 (st := A0p) A9t A9p A4a
 have J1r := F_raised_CC.binds (ps := ["self", "names"]) fun _ _ _ _ _ _ us hl => match us, hl with | [_, _], _ => rfl
 have G3j : Meth K CC "raised" A1p := ⟨B0v, A9z, A4a⟩
 have F_clear_CC := J8 (st := A2p) B6p B5e A6s
 have U2n := F_clear_CC.binds (ps := ["self"]) fun _ _ _ _ _ _ us hl => match us, hl with | [_], _ => rfl
 have J4j : Meth K CC "clear" A3e := ⟨B5n, B4z, A6s⟩
 have A0sn : Cls K CQ := ⟨Z5z, Z5t, Y7b, Z4c⟩
 have A0sj := U9x (st := A5v) Z6z Z3u Z2f
 have M_CQ : Mk K CQ D7f := ⟨Y7n, Z4b, Y4p, Z1v⟩
 have F_first_CQ := J8 (st := A3a) B6d B6h A7z
 have U8u := F_first_CQ.binds (ps := ["self"]) fun _ _ _ _ _ _ us hl => match us, hl with | [_], _ => rfl
 have J4s : Meth K CQ "first" A0u := ⟨B6y, B5w, A7z⟩
 have F_at_CQ := J8 (st := C6d) G3w G3h C5g
 have V1u := F_at_CQ.binds (ps := ["self", "power"]) fun _ _ _ _ _ _ us hl => match us, hl with | [_, _], _ => rfl
 have J0w : Meth K CQ "at" B2w := ⟨D9q, G0e, C5g⟩
 have xk4 : ExcK K C4 := ⟨xga4, xgh4, xca4, sn, tk, xob4, xbe4, by rw [xcl4]; rfl⟩
 have nkT : nsOkIn K NT = true := by unfold nsOkIn; rw [lN]; exact alN
 have tlT : tailIn K V0d bmT = true := by
   have z := q1
   unfold excIn at z
   rw [lT1] at z
   simp only [excClassObj, Bool.and_eq_true] at z
   exact z.1.1.2
 have F_iT := J8 (st := B2p) l_iT c_iT k_iT
 have b_iT := F_iT.binds (ps := ["self", "signal"]) fun _ _ _ _ _ _ us hl => match us, hl with | [_, _], _ => rfl
 have XI4 : ExcI K C4 fX := ⟨⟨_, _, _, _, _, _, _, _, _, _, _, _, _, _, _, lT, nkT, niT, tlT⟩, ⟨_, l_iT, fcT⟩, saT, xob4⟩
 have SG : SigK K mg aS := ⟨mg_of X G a_S, ⟨_, lS, rfl⟩, fun H => .inr ⟨_, _, _, lS, rfl, rfl, D3 (by show 7 <= 1000; decide), .cons ⟨_, rfl⟩ (.cons ⟨_, rfl⟩ (.cons ⟨_, rfl⟩ (.cons ⟨_, rfl⟩ (.cons ⟨_, rfl⟩ (.cons ⟨_, rfl⟩ (.cons ⟨_, rfl⟩ (.nil)))))))⟩⟩
 have C : CtxC K mg CC := ⟨mg_of X G a_CC, A0sz, C2b, C1w, B5p, C3u, B5v, A7g⟩
 have B1 : Err K mg "BadContext" C1 := ⟨mg_of X G a_C1, q1⟩
 have B2 : Err K mg "BadNumber" C2 := ⟨mg_of X G a_C2, q2⟩
 have B3 : Err K mg "BadCount" C3 := ⟨mg_of X G a_C3, q3⟩
 have R : RatC K mg CQ CE := ⟨mg_of X G a_CQ, mg_of X G a_CE, A0sn, C7k, B0q, B6m, Z9e, sn, tk, Y8b, Z8a⟩
 have b4 := J6e (fd := fnOf "__init__" "Context.__init__" (B0 Z6) (A8 Z6) (A1 Z6) (.ref Y6n) Z7d Z9h Y6k Z8b U1f Y7w) (ps := ["self", "room", "way", "least", "most"]) (ds := []) rfl Z7v rfl fun us hl => by obtain ⟨a, b, c, d, e, rfl⟩ := len5 (lenD hl); exact ⟨_, rfl, rfl⟩
 refine ⟨fnOf "law" "law" (B0 D7p) (A8 D7p) (A1 D7p) .none Y4m Y8a Z4w Z9d U1b Z4n, fun s v => .of_eq rfl, fun base _ _ => ?_⟩
 have WN : ∀ y : Wy, WayN l.prog w K mg base (cw y) y.name := fun y => match y with | .down => ⟨_, _, J9s, A0qh F_name_W0, V7e⟩ | .up => ⟨_, _, U1d, A0sc F_name_W1, V5t⟩ | .floor => ⟨_, _, J8u, A0pu F_name_W2, V8u⟩ | .ceiling => ⟨_, _, U6v, A0qk F_name_W3, V4s⟩ | .halfUp => ⟨_, _, U4t, A0qm F_name_W4, V7d⟩ | .halfDown => ⟨_, _, U2k, A0rt F_name_W5, V8h⟩ | .halfEven => ⟨_, _, J8t, A0rg F_name_W6, V4t⟩ | .fiveUp => ⟨_, _, U3y, A0qy F_name_W7, V5c⟩
 have U : ∀ y : Wy, WayU l.prog w K mg base (cw y) y := fun y => match y with | .down => ⟨_, _, D3w, A0qz F_goes_up_W0, G5x⟩ | .up => ⟨_, _, D2h, A0pz F_goes_up_W1, G2x⟩ | .floor => ⟨_, _, D4p, A0qu F_goes_up_W2, G7t⟩ | .ceiling => ⟨_, _, D2j, A0qf F_goes_up_W3, G0w⟩ | .halfUp => ⟨_, _, D3c, A0rv F_goes_up_W4, G2p⟩ | .halfDown => ⟨_, _, D4d, A0qq F_goes_up_W5, G7f⟩ | .halfEven => ⟨_, _, D2g, A0rs F_goes_up_W6, G7y⟩ | .fiveUp => ⟨_, _, D4h, A0pv F_goes_up_W7, G8q⟩
 have E2 : ∀ y : Wy, WayE l.prog w K mg base (cw y) y := fun y => match y with | .down => ⟨_, _, G2d, A0rf F_to_end_W0, J4b⟩ | .up => ⟨_, _, G1v, A0qe F_to_end_W1, J1a⟩ | .floor => ⟨_, _, G4r, A0px F_to_end_W2, J2r⟩ | .ceiling => ⟨_, _, G6w, A0re F_to_end_W3, J4h⟩ | .halfUp => ⟨_, _, G1k, A0rz F_to_end_W4, J1z⟩ | .halfDown => ⟨_, _, G4j, A0pt F_to_end_W5, J3e⟩ | .halfEven => ⟨_, _, G0u, A0qc F_to_end_W6, J1n⟩ | .fiveUp => ⟨_, _, G2t, A0qb F_to_end_W7, J1g⟩
 have Gb := J5r (P := l.prog) (w := w) (base := base) D_bounded V1a O T B1
 have Gw := Y1g (P := l.prog) (w := w) (base := base) G2z O T B1 W
 have MC : MakeC l.prog w K mg base CC C1 D6w _ := ⟨M_CC, J5q A0tr D_bounded G2z Gb Gw C W WN⟩
 have MR : MakeR l.prog w K mg base CQ D7f (fnOf "__init__" "Ratio.__init__" (B0 A5v) (A8 A5v) (A1 A5v) (.ref A0ab) Z5g Y8z Z2m Y9m U0s Z7s) (.int 0 A0hh) (fun us ws => match ws with | [a] => us ++ [a] | _ => []) (fun us ws => match ws with | [a] => us ++ [a] | _ => []) :=
   { m := M_CQ
     g := Y2v A0sj R
     b3 := J6e rfl J3a rfl fun us hl => by obtain ⟨a, b, c, d, rfl⟩ := len4 (lenD hl); exact ⟨_, rfl, rfl⟩
     b2 := J6e rfl J3a rfl fun us hl => by obtain ⟨a, b, c, rfl⟩ := len3 (lenD hl); exact ⟨_, rfl, rfl⟩
     r0 := ⟨_, rfl⟩
     kP := ⟨(fun s us ws XK hl => by
         rcases ws with _ | ⟨p, _ | ⟨q, t⟩⟩
         . cases hl
         . obtain ⟨a, b, c, rfl⟩ := len3 (lenD hl)
           exact binds_K XK rfl J3a rfl rfl rfl
         . cases hl), fun r z => match z with
       | .cons a .nil => r.append (.cons a .nil)
       | .nil => .nil
       | .cons _ (.cons _ _) => .nil⟩
     eP := fun _ _ _ _ => rfl }
 have M : MakeN l.prog w K mg base CN D6v _ := ⟨M_CN, A0az FI_CN N, A0sf⟩
 have Gn := Y1z (P := l.prog) (w := w) (base := base) V1v O T B1 SG
 have Go := Y4f (P := l.prog) (w := w) (base := base) V1j SG
 have GX := V4c (P := l.prog) (w := w) (mg := mg) (base := base) F_iT XI4 nsg4
 have MF : Has l.prog w K mg base CC "flags" 1 ["self"] (B4a CC) := ⟨_, _, J4r, J0j F_flags_CC C O, U8d⟩
 have ML : Has l.prog w K mg base CC "lowest" 1 ["self"] (C6h CC) := ⟨_, _, G4b, V2k F_lowest_CC C, J5d⟩
 have MW : Has l.prog w K mg base CC "way" 2 ["self"] (C7c CC cw) := ⟨_, _, V5v, V4h F_way_CC G2z Gw C, Y7y⟩
 have ME : Has l.prog w K mg base CC "clear" 1 ["self"] (B4m CC) := ⟨_, _, J4j, G9r F_clear_CC C, U2n⟩
 have MD : Has l.prog w K mg base CC "raised" 3 ["self", "names"] (C5u K CC C1 C4) := ⟨_, _, G3j, V3m F_raised_CC V1v Gn V1j Go C (mg_of X G a_C4) XI4 GX b_iT, J1r⟩
 have CM : CtxM l.prog w K mg base CC C1 C4 CW cw := ⟨C, MW, ML, MD, W, U, E2⟩
 have Gneedn := J0k (P := l.prog) (w := w) (base := base) B3b O T B2 N
 have Gtold := A0cv (P := l.prog) (w := w) (base := base) D_told B3b O T B2 N
 have Gplain := Y1e (P := l.prog) (w := w) (base := base) D_plain D6p V1a O T B2 N M
 have Gend := A0ke (P := l.prog) (w := w) (base := base) D_end D6p V1a O T B2 N M
 have Gnothing := J7h (P := l.prog) (w := w) (base := base) D_nothing N M
 have Glead := A0bj (P := l.prog) (w := w) (base := base) Y8j O N
 have Gto := Y3n (P := l.prog) (w := w) (base := base) B3a C4m (D7r C4m)
 have Gpart := V3q (P := l.prog) (w := w) (base := base) J3d
 have Gwl := Y3m (P := l.prog) (w := w) (base := base) V1s B3a Gto
 have Gat := A0jc (P := l.prog) (w := w) (base := base) F_at_CQ B3a Gto J3d Gpart R O
 have RM : RatM l.prog w K mg base CQ A0u B2w _ _ := ⟨J4s, V2h F_first_CQ V1s Gwl J0w Gat V1u R, U8u, J0w, Gat, V1u⟩
 have Gnea := J5u (P := l.prog) (w := w) (base := base) D6j N M
 have Gnei := D7t (P := l.prog) (w := w) (base := base) D_neighbour CM
 have Gwit := V4n (P := l.prog) (w := w) (base := base) J1c B3a Gto CM N M
 have Gbey := V3x (P := l.prog) (w := w) (base := base) J3u Y8j Glead CM N
 have Gnin := Y1r (P := l.prog) (w := w) (base := base) D_nines B3a Gto CM N M
 have Gbur := Y0h (P := l.prog) (w := w) (base := base) D_burst D_nines Gnin D_end Gend CM
 have Gsr := J6j (P := l.prog) (w := w) (base := base) D6s
 have Gsl := J5y (P := l.prog) (w := w) (base := base) D6m CM
 have Gnou := V2g (P := l.prog) (w := w) (base := base) D_nought CM N M O
 have Gfin := V2m (P := l.prog) (w := w) (base := base) J3r CM RM R O
 have Gset := J5k (P := l.prog) (w := w) (base := base) D_settled J3r Gfin D6j Gnea D_neighbour Gnei J1c Gwit J3u Gbey D_burst Gbur D6s Gsr D6m Gsl CM RM R N
 have Gneedns := V2y (P := l.prog) (w := w) (base := base) A0q B3b Gneedn
 have Gsomek := Y0z (P := l.prog) (w := w) (base := base) A2c O N
 have Gwa := J6m (P := l.prog) (w := w) (base := base) C0p B3a Gto N
 have Gcmp := G8y (P := l.prog) (w := w) (base := base) D_compared A0q Gneedns A2c Gsomek Z3g (A0ay Z3g N) V1b (Y0x V1b) C0p Gwa O N
 have Gun := V3r (P := l.prog) (w := w) (base := base) J5b N
 have Gebn := V3j (P := l.prog) (w := w) (base := base) C8p A2c Gsomek U5h
 have Gprd := A0ct (P := l.prog) (w := w) (base := base) D_product A2c Gsomek J5b Gun D_end Gend N M
 have Gnos := Y1u (P := l.prog) (w := w) (base := base) V1p CM WN N
 have Gadd := Y3u (P := l.prog) (w := w) (base := base) D_added A2c Gsomek U4h C0p Gwa D_nought Gnou V1p Gnos D_settled Gset CM N MR R O
 have Gro := V3g (CB := C1) (CW := CW) (cw := cw) (P := l.prog) (w := w) (base := base) D_rounded B3b Gneedn D_nought Gnou D_settled Gset MR R N
 have Gplus := A0ad (P := l.prog) (w := w) (base := base) D_plus A0q Gneedns A2c Gsomek D_nothing Gnothing D_added Gadd
 have Gminus := Y2r (P := l.prog) (w := w) (base := base) D_minus A0q Gneedns A2c Gsomek D_nothing Gnothing D_added Gadd N M
 have Gtimes := Y0j (P := l.prog) (w := w) (base := base) D_times A0q Gneedns A2c Gsomek D_nothing Gnothing D_rounded Gro C8p Gebn D_product Gprd D_void
 have Gfused := Y1p (P := l.prog) (w := w) (base := base) D_fused A0q Gneedns A2c Gsomek D_nothing Gnothing D_added Gadd C8p Gebn D_product Gprd D_void
 have Gtri := J6f (P := l.prog) (w := w) (base := base) D_trimmed B3b Gneedn D_nought Gnou D_settled Gset N MR R (mg_of X G bq)
 have Gsca := V2n (P := l.prog) (w := w) (base := base) D_scaled B3b Gneedn V1t (Y2u V1t V1a O T B3) D_rounded Gro N M
 have Gles := V2r (P := l.prog) (w := w) (base := base) D_lesser D_compared Gcmp D_nothing Gnothing D_rounded Gro
 have Ggre := J6x (P := l.prog) (w := w) (base := base) D_greater D_compared Gcmp D_nothing Gnothing D_rounded Gro
 have Gcell := A0da (P := l.prog) (w := w) (base := base) Z6t O
 have Gmix := Y3x (P := l.prog) (w := w) (base := base) C5h
 have Glten := A0bs (P := l.prog) (w := w) (base := base) C0n O
 have Glfig := A0bh (P := l.prog) (w := w) (base := base) Z7b C5h Gmix C0n Glten O
 have Glfr := V2d (P := l.prog) (w := w) (base := base) J5f
 have Glpl := V2u (P := l.prog) (w := w) (base := base) J2h C5h Gmix Z7b Glfig
 have Glcx := A0bd (P := l.prog) (w := w) (base := base) Z8d MC b4 C
 have Glco := V2w (P := l.prog) (w := w) (base := base) D1d
 have Glat := A0jg (P := l.prog) (w := w) (base := base) Z2c C0n Glten O
 have Glle := Y1x (P := l.prog) (w := w) (base := base) V1q D1d Glco Z2c Glat
 have Glgo := Y3c (P := l.prog) (w := w) (base := base) V0z
 have Glbu := V4k (P := l.prog) (w := w) (base := base) J2f C0n Glten
 have Glno := J6a (P := l.prog) (w := w) (base := base) C0h O
 have Glse := G9w (P := l.prog) (w := w) (base := base) D1h V1q Glle Z2c Glat V0z Glgo C0n Glten D1d Glco J2f Glbu O
 have Glsi := J7d (P := l.prog) (w := w) (base := base) C1s C0n Glten
 have Glwh := V4g (P := l.prog) (w := w) (base := base) D1e C0h Glno D1h Glse O
 have Glsu := J6k (P := l.prog) (w := w) (base := base) D6x C1s Glsi D1e Glwh O
 have Glpr := Y1w (P := l.prog) (w := w) (base := base) V1f
 have Glow := A0av (P := l.prog) (w := w) (base := base) Z1s D1e Glwh
 have Glch := J5n (P := l.prog) (w := w) (base := base) D6z C1s Glsi O
 have Gldu := A0bg (P := l.prog) (w := w) (base := base) Z1m D6x Glsu V1f Glpr Z1s Glow C0h Glno D6z Glch
 have Glto := Y3v (P := l.prog) (w := w) (base := base) V1w D_plus Gplus D_minus Gminus D_times Gtimes D_fused Gfused D_trimmed Gtri D_scaled Gsca D_lesser Gles D_greater Ggre
 exact A0kc A0tu Z6t Gcell C5h Gmix J5f Glfr J2h Glpl Z8d Glcx Z1m Gldu V1w Glto D_plain Gplain D_told Gtold C MF ME O
theorem walk {l : OpenLaw} {q : Program} {loose : List Str} {XP : (Str -> Option Value) -> Heap -> Prop} {YP : World -> Heap -> Prop} {d : DefRec} {K : Params -> Frag} (hn : l.most = some 63) (hdf : d.params.defaults = [])
   (hY : ∀ (w : World) (h : Heap), YP w h -> (K w.params).In h)
   (F : ∀ (w : World) (mg : Str -> Option Value) (fa : Addr) (h : Heap), (K w.params).In h -> h.Ns mainGlobals mg -> mg d.name = some (.ref fa) ->
     ∃ fd : FuncData, (∀ (s : Shared) (u : Value), BindsTo s fd ⟨[u], []⟩ [("_law_script", u)]) /\ ∀ base : Heap, (K w.params).In base -> base.Ns mainGlobals mg -> FnOk l.prog w (K w.params) mg base (CX1 l.prog w) 10 fa fd ["_law_script"] ((U9n (K w.params)))) :
   WalkO q loose XP YP l.row.toRowW d [] (fun f vs => PySem.call f vs) :=
 L2.walk_of (n := 63) (k := 10) (x := "_law_script") (CX := fun w => CX1 l.prog w) (sp := fun w => (U9n (K w.params))) hn (by decide) hdf ⟨rfl, by decide, by decide⟩ hY F (fun _ _ a ns hl _ hS => ⟨a, ns, rfl, hl, hS, fun _ => rfl⟩) fun _ _ _ _ _ z => by
   obtain ⟨_, _, _, _, _, _, _, _, _, _, z, _⟩ := z
   exact z
end TR
open PySem PySem.W PyProof.Rows
set_option maxRecDepth 100000 in
set_option maxHeartbeats 0 in
theorem PySem.Challenge.cw_tenreckon_k34_whole_sums_exactly_holds : PySem.Challenge.rw_tenreckon_k34_whole_sums_exactly.Holds := by
 refine hd ?_
 k_fill
 refine TR.walk (l := PySem.Challenge.rw_tenreckon_k34_whole_sums_exactly) rfl rfl (fun w h Y => PySem.W.kIn_of Y) ?F
 case F =>
   intro w mg fa h KX G hmg
   refine' TR.all_mk KX G hmg ?A9n ?B0t ?A9s ?B1h ?G0h ?G5q ?G4n ?D9k ?D0e ?C9j ?C9f ?C8y ?G7v ?G5u ?G4s ?G5b ?G0b ?G5y ?G8m ?G8a ?Z7c ?Y7u ?Y9x ?Z4z ?C0g ?C4a ?C2s ?C1n ?U0f ?J8d ?U8r ?U4c ?U7a ?U7n ?U3b ?U2t ?G0y ?G4d ?G2k ?G7u ?B5b ?B6a ?B5y ?B5k ?G1a ?G0z ?G8v ?D9m ?C7m ?C9h ?C9n ?D0m ?B9q ?C1v ?C2y ?C2d ?Y5y ?Y8w ?Y6s ?Y4v ?C0e ?C3d ?C1x ?C2j ?D9b ?D9n ?G7k ?G1d ?B9t ?C1f ?C1y ?C3w ?C8t ?D0p ?D0y ?C9m ?C0f ?C0s ?C3x ?C0z ?B0n ?A9m ?B0h ?B0b ?C8h ?C9p ?C9e ?C8j ?C8c ?C8r ?C7e ?C9b ?G6n ?D8y ?G3y ?G2y ?G0p ?G6h ?G4z ?G3d ?B9m ?C0w ?C1q ?C1h ?C2r ?C4e ?B9n ?B9a ?D0c ?C8w ?C8v ?D1f ?U2w ?J9c ?J8n ?U6d ?C2f ?C0u ?B9v ?C3a ?U1c ?U7k ?J7x ?U0x ?G8p ?G2g ?D9p ?G5t ?G1f ?G0q ?G8j ?G8n ?D9y ?G3g ?G8t ?G6r ?B5d ?B6k ?B5m ?B5z ?D1a ?D0j ?C8q ?D1k ?C1u ?B9j ?B9s ?C0v ?G4p ?G7d ?G0t ?G8x ?B6n ?B5c ?B5t ?B5a ?G7h ?G5z ?G6s ?G7z ?B6s ?B6c ?B6f ?B5g ?C7n ?C9g ?D1b ?D0b ?C3h ?B9y ?C0j ?C2w ?U7q ?J8k ?J7p ?J7z ?G8w ?G2v ?G3m ?G5c ?G5j ?G6c ?D9d ?G5w ?B9z ?B9k ?C0b ?C2n ?G8r ?G3z ?G4f ?G3a ?D8z ?G4w ?G4v ?G2a ?C1d ?C4b ?B9h ?C2u ?D0t ?D0x ?D0w ?C9x ?U3n ?U1q ?U4v ?J8m ?G6k ?G3t ?D9t ?G5p ?J8j ?U8j ?U5j ?U0b ?U5t ?U1t ?U0c ?U8f ?C9u ?D0s ?D1n ?D1q ?U4b ?U4p ?U0y ?U2s ?C9z ?C7t ?C9k ?D0u ?C8x ?D0d ?D0g ?C7h ?Z4a ?Z1q ?Z7r ?Z1x ?G7s ?G8u ?G1w ?G4c ?G3p ?G5n ?G1j ?G6d ?C7s ?D0a ?C9d ?D0k ?B5r ?B5s ?B6x ?B5j ?C0k ?C0y ?C2q ?C3y ?C1m ?C1p ?B9e ?C2h ?C8z ?C7p ?C9y ?C8s ?C3e ?C2x ?C3f ?C0t ?G3c ?D9z ?G3u ?G1b ?U0n ?U5r ?U8v ?J8y ?C3t ?C0q ?C1j ?C0a ?U5x ?U1n ?U2v ?J8b ?G1y ?G8c ?G5a ?G6e ?V1e ?Y7e ?Y7m ?Z9f ?A6k ?Z3s ?J8a ?Y9e ?J7y ?G4h ?U1e ?A0aa ?G4q ?Y8n ?Z8u ?Z6d ?Z0f ?Z4p ?Y8y ?U5s ?B1e ?B5q ?Z0w ?C7z ?C8n ?Z4r ?A6z ?B6g ?B1y ?B6e ?B1v ?A7v ?A9v ?A9y ?A7c ?B0x ?A8k ?A4g ?A8n ?B5u ?B1a ?B6b ?B1w ?A7t ?B0p ?B0m ?A7j ?B1s ?A7m ?A4k ?A8j ?A8f ?A4h ?A6q ?A4f ?A3g ?A4j ?B1r ?A7f ?B1t ?A7x ?A4e ?A7r ?A1w ?A0t ?A1v ?A0s ?Z9 ?A0r ?sn ?tk ?a_CW ?a_W0 ?Z6v ?Y8s ?Z7h ?Y8e ?Z0m ?Z3m ?Z6w ?Z3t ?Z8m ?Z5h ?C3k ?C3m ?B8z ?C2c ?B3c ?a_W1 ?Z3k ?Z9p ?Z6c ?Z2r ?Y5g ?Y6b ?Z6y ?Y9q ?Y7c ?Z7f ?C0m ?B9r ?C0r ?C2e ?B2y ?a_W2 ?Y6u ?Y5s ?Z9b ?Y5h ?Z6e ?Y7t ?Z8z ?Z4x ?Y6g ?Z6p ?C1z ?C1a ?B9w ?C3j ?B3e ?a_W3 ?Z8s ?Z5b ?Z0p ?Z6r ?Y6p ?Z8c ?Y4z ?Z1w ?Y8t ?Y9f ?C3n ?C4d ?C3q ?C3b ?B2z ?a_W4 ?Z5u ?Z3e ?Z3p ?Z7a ?Y6m ?Z4y ?Z4j ?Z8j ?Y6h ?Z3y ?B9f ?C1t ?B9g ?C1k ?B2v ?a_W5 ?Z3z ?Z9a ?Z2y ?Z0u ?Z3c ?Z0j ?Z2z ?Z8w ?Z7g ?Y5b ?C3r ?B9x ?C4c ?C2k ?B2x ?a_W6 ?Y9t ?Y8d ?Z4q ?Z5f ?Y4r ?Z4u ?Z5k ?Z0z ?Z4k ?Z4m ?C2v ?B9c ?C1c ?C1b ?B3d ?a_W7 ?Y7k ?Y9g ?Y5q ?Y4j ?Y5f ?Z1p ?Z7m ?Z7t ?Z8x ?Z0b ?C3v ?C2t ?B9u ?C1g ?B2u ?a_CN ?Y4x ?Y5p ?Z7q ?Z9r ?Z8t ?Y9a ?Z9j ?Y5e ?C3c ?C2g ?A6h ?B6j ?Z5a ?Y6v ?Z6b ?Y6w ?Z8r ?G6f ?A6j ?A7n ?A7y ?A7d ?A2d ?B1g ?B1c ?B1m ?B0j ?A4b ?A7e ?A8h ?A6m ?A8g ?A2k ?B0a ?B1d ?B1b ?B0f ?A3v ?A7h ?A7p ?A7u ?A7q ?A2m ?B0w ?B0e ?B1p ?A9k ?A3x ?A6v ?A8m ?A8c ?A8b ?A2j ?A9j ?B1f ?A9q ?A9x ?A4c ?A6r ?A6g ?A6x ?A6n ?A2h ?B1j ?B1n ?B0c ?A9u ?A3t ?A7w ?A7a ?A8e ?A6w ?A2g ?B2c ?B1u ?B0k ?A9r ?A3z ?A6y ?A6p ?A8d ?A8a ?A2f ?B2d ?B0z ?B2b ?B0s ?A3u ?A7s ?A6u ?A6t ?A7k ?A2e ?B0y ?B0u ?B1q ?B0g ?A3w ?a_CC ?Z2w ?Z6h ?Y5a ?Y9w ?Z7e ?Y6f ?C2b ?C1w ?B5p ?C3u ?B5v ?A7g ?Z6g ?Z3j ?Z0q ?Y8h ?Z7w ?Z7v ?B6u ?B6r ?B5f ?B6q ?A7b ?B1x ?B2a ?B1z ?A9w ?A3y ?C7w ?D0h ?C8g ?D0f ?B7w ?B0v ?A9z ?A9t ?A9p ?A4a ?B5n ?B4z ?B6p ?B5e ?A6s ?a_CQ ?Z5z ?Z5t ?Y7b ?Z4c ?Y7n ?Z1v ?Z9e ?Y8b ?C7k ?B0q ?B6m ?Z4b ?Y4p ?Z6z ?Z3u ?Z2f ?J3a ?B6y ?B5w ?B6d ?B6h ?A7z ?D9q ?G0e ?G3w ?G3h ?C5g ?a_CE ?Z8a ?a_C1 ?a_C2 ?a_C3 ?a_C4 ?a_CR ?cty ?ccl ?cex ?sub4 ?xga4 ?xgh4 ?xca4 ?xob4 ?xbe4 ?xcl4 ?h4_1 ?h4_2 ?h4_3 ?h4_4 ?hv4 ?lT ?lN ?alN ?niT ?lT1 ?saT ?nsg4 ?l_iT ?c_iT ?k_iT ?fcT ?kTR ?q1 ?q2 ?q3 ?a_S ?lS ?bq
   case A9n|B0t|A9s|B1h|G0h|G5q|G4n|D9k|D0e|C9j|C9f|C8y|G7v|G5u|G4s|G5b|G0b|G5y|G8m|G8a|Z7c|Y7u|Y9x|Z4z|C0g|C4a|C2s|C1n|U0f|J8d|U8r|U4c|U7a|U7n|U3b|U2t|G0y|G4d|G2k|G7u|B5b|B6a|B5y|B5k|G1a|G0z|G8v|D9m|C7m|C9h|C9n|D0m|B9q|C1v|C2y|C2d|Y5y|Y8w|Y6s|Y4v => k_is
   case C0e|C3d|C1x|C2j|D9b|D9n|G7k|G1d|B9t|C1f|C1y|C3w|C8t|D0p|D0y|C9m|C0f|C0s|C3x|C0z|B0n|A9m|B0h|B0b|C8h|C9p|C9e|C8j|C8c|C8r|C7e|C9b|G6n|D8y|G3y|G2y|G0p|G6h|G4z|G3d|B9m|C0w|C1q|C1h|C2r|C4e|B9n|B9a|D0c|C8w|C8v|D1f|U2w|J9c|J8n|U6d|C2f|C0u|B9v|C3a => k_is
   case U1c|U7k|J7x|U0x|G8p|G2g|D9p|G5t|G1f|G0q|G8j|G8n|D9y|G3g|G8t|G6r|B5d|B6k|B5m|B5z|D1a|D0j|C8q|D1k|C1u|B9j|B9s|C0v|G4p|G7d|G0t|G8x|B6n|B5c|B5t|B5a|G7h|G5z|G6s|G7z|B6s|B6c|B6f|B5g|C7n|C9g|D1b|D0b|C3h|B9y|C0j|C2w|U7q|J8k|J7p|J7z|G8w|G2v|G3m|G5c => k_is
   case G5j|G6c|D9d|G5w|B9z|B9k|C0b|C2n|G8r|G3z|G4f|G3a|D8z|G4w|G4v|G2a|C1d|C4b|B9h|C2u|D0t|D0x|D0w|C9x|U3n|U1q|U4v|J8m|G6k|G3t|D9t|G5p|J8j|U8j|U5j|U0b|U5t|U1t|U0c|U8f|C9u|D0s|D1n|D1q|U4b|U4p|U0y|U2s|C9z|C7t|C9k|D0u|C8x|D0d|D0g|C7h|Z4a|Z1q|Z7r|Z1x => k_is
   case G7s|G8u|G1w|G4c|G3p|G5n|G1j|G6d|C7s|D0a|C9d|D0k|B5r|B5s|B6x|B5j|C0k|C0y|C2q|C3y|C1m|C1p|B9e|C2h|C8z|C7p|C9y|C8s|C3e|C2x|C3f|C0t|G3c|D9z|G3u|G1b|U0n|U5r|U8v|J8y|C3t|C0q|C1j|C0a|U5x|U1n|U2v|J8b|G1y|G8c|G5a|G6e|V1e|Y7e|Y7m|Z9f|A6k|Z3s|J8a|Y9e => k_is
   case J7y|G4h|U1e|A0aa|G4q|Y8n|Z8u|Z6d|Z0f|Z4p|Y8y|U5s|B1e|B5q|Z0w|C7z|C8n|Z4r|A6z => k_is
   case B6g|B1y|B6e|B1v|A7v|A9v|A9y|A7c|B0x|A8k|A4g|A8n|B5u|B1a|B6b|B1w|A7t|B0p|B0m|A7j|B1s|A7m|A4k|A8j|A8f|A4h|A6q|A4f|A3g|A4j|B1r|A7f|B1t|A7x|A4e|A7r|A1w|A0t|A1v|A0s|Z9|A0r => kit_is
   case sn|tk|a_CW|a_W0|Z6v|Y8s|Z7h|Y8e|Z0m|Z3m|Z6w|Z3t|Z8m => k_is
   case Z5h => kit_is
   case C3k|C3m|B8z|C2c|B3c|a_W1|Z3k|Z9p|Z6c|Z2r|Y5g|Y6b|Z6y|Y9q|Y7c => k_is
   case Z7f => kit_is
   case C0m|B9r|C0r|C2e|B2y|a_W2|Y6u|Y5s|Z9b|Y5h|Z6e|Y7t|Z8z|Z4x|Y6g => k_is
   case Z6p => kit_is
   case C1z|C1a|B9w|C3j|B3e|a_W3|Z8s|Z5b|Z0p|Z6r|Y6p|Z8c|Y4z|Z1w|Y8t => k_is
   case Y9f => kit_is
   case C3n|C4d|C3q|C3b|B2z|a_W4|Z5u|Z3e|Z3p|Z7a|Y6m|Z4y|Z4j|Z8j|Y6h => k_is
   case Z3y => kit_is
   case B9f|C1t|B9g|C1k|B2v|a_W5|Z3z|Z9a|Z2y|Z0u|Z3c|Z0j|Z2z|Z8w|Z7g => k_is
   case Y5b => kit_is
   case C3r|B9x|C4c|C2k|B2x|a_W6|Y9t|Y8d|Z4q|Z5f|Y4r|Z4u|Z5k|Z0z|Z4k => k_is
   case Z4m => kit_is
   case C2v|B9c|C1c|C1b|B3d|a_W7|Y7k|Y9g|Y5q|Y4j|Y5f|Z1p|Z7m|Z7t|Z8x => k_is
   case Z0b => kit_is
   case C3v|C2t|B9u|C1g|B2u|a_CN|Y4x|Y5p|Z7q|Z9r|Z8t|Y9a|Z9j|Y5e|C3c|C2g|A6h|B6j|Z5a|Y6v|Z6b|Y6w|Z8r => k_is
   case G6f => kit_is
   case A6j|A7n|A7y|A7d|A2d|B1g|B1c|B1m|B0j|A4b|A7e|A8h|A6m|A8g|A2k|B0a|B1d|B1b|B0f|A3v|A7h|A7p|A7u|A7q|A2m|B0w|B0e|B1p|A9k|A3x|A6v|A8m|A8c|A8b|A2j|A9j|B1f|A9q|A9x|A4c|A6r|A6g|A6x|A6n|A2h|B1j|B1n|B0c|A9u|A3t|A7w|A7a|A8e|A6w|A2g|B2c|B1u|B0k|A9r|A3z => k_is
   case A6y|A6p|A8d|A8a|A2f|B2d|B0z|B2b|B0s|A3u|A7s|A6u|A6t|A7k|A2e|B0y|B0u|B1q|B0g|A3w|a_CC|Z2w|Z6h|Y5a|Y9w|Z7e|Y6f|C2b|C1w|B5p|C3u|B5v|A7g|Z6g|Z3j|Z0q|Y8h|Z7w|Z7v|B6u|B6r|B5f|B6q|A7b|B1x|B2a|B1z|A9w|A3y|C7w|D0h|C8g|D0f|B7w|B0v|A9z|A9t|A9p|A4a|B5n => k_is
   case B4z|B6p|B5e|A6s|a_CQ|Z5z|Z5t|Y7b|Z4c|Y7n|Z1v|Z9e|Y8b|C7k|B0q|B6m|Z4b|Y4p|Z6z|Z3u|Z2f|J3a|B6y|B5w|B6d|B6h|A7z|D9q|G0e|G3w|G3h|C5g|a_CE => k_is
   case Z8a => kit_is
   case a_C1|a_C2|a_C3|a_C4|a_CR|cty|ccl|cex|sub4|xga4|xgh4|xca4|xob4|xbe4|xcl4 => k_is
   case h4_1|h4_2|h4_3|h4_4|hv4 => kit_is
   case lT|lN => k_is
   case alN => simp
   case niT|lT1|saT|nsg4|l_iT|c_iT|k_iT => k_is
   case fcT => rfl
   case kTR => kit_is
   case q1|q2|q3 => k_exc
   case a_S|lS|bq => k_is

